import Derived.Test.YtknakfpciccoaaaGreatDoorZC25
import Derived.Test.YtknakfpciccoaaaGreatDoorZC12
import Derived.Deep.DeepCutAuto
import Derived.Test.YtknakfpciccoaaaGreatDoorZC24
/- Stages of a pipeline: what they do; $project, $match. -/
set_option maxHeartbeats 8000000
set_option maxRecDepth 100000
namespace Go.Proofs.YtknakfpciccoaaaGreatDoor
open Go.RowKit
def qK (g:List T->(Nat×Int)⊕List T) (l:List T) (w:World) (e:Ending) (w':World):Prop :=
 Below w.heap.size w w'/\((∃ (k:Nat) (x:Int),g l=.inl (k,x)/\x≠0/\e=.returned (.tuple #[.slice none 0 0,.int .i64 k,.int .i64 x]))\/∃ r v,g l=.inr r/\e=.returned (.tuple #[v,.int .i64 0,.int .i64 0])/\cZ w' v r)
def gI (Tb:World->Prop) (w:World) (v:Value) (g:List T->(Nat×Int)⊕List T):Prop :=
 ∃ (ty:TypeId) (p:Value) (fid:FuncId),v=.iface ty p/\(∀ w':World,(method 481 ty p "sheaf/pipe.run").run Tryz.prog w'=.ok (fid,p) w')/\(∀ (a:Array Value) (w':World),(callFunc fid a).run Tryz.prog w'=.ok (.enter fid a) w') /\
  ∀ (wr:World) (dv:Value) (l:List T),Below w.heap.size w wr->cZ wr dv l->Tb wr->Calls Tryz.prog fid #[p,dv] wr (qK g l wr)
theorem DT.start (w:World) (ty:TypeId) (cs:List Value):DT w w.heap.size (fun o=>if o=0 then none else (.slice none 0 0::cs)[o]?) [] (w.alloc (.cells (.slice none 0 0::cs).toArray ty)):=by
 refine ⟨.slice none 0 0,[],fun b=>b<w.heap.size,⟨?_,?_,by simp,World.ownsRow_nil _ _ _ _,by simp [Value.ownBlock]⟩,fun b hb=>hb,fun b hb=>⟨by simp;omega,by omega,by simp [Value.ownBlock]⟩,fun i hi=>absurd hi (Nat.not_lt_zero i),fun o ho=>?_⟩
 ·rw [cell_of_row _ w.heap.size 0 _ _ (0,0) (heap_alloc_new w _)];rfl
 ·exact frozen_of_row _ w.heap.size 0 _ _ (heap_alloc_new w _)
 ·rw [cell_of_row _ w.heap.size o _ _ (0,0) (heap_alloc_new w _)];show _=if o=0 then none else (Value.slice none 0 0::cs)[o]?;rw [if_neg ho];simp
def DU (gs:List (T->Int⊕T)) (ks:List ByteArray) (l:List T):(Nat×Int)⊕List T:=dM (zV gs ks) l 0 []
theorem WQ (gs:List (T->Int⊕T)) (ks:List ByteArray) (s:List T) (d:T) (s':List T) (h:zV gs ks s d=.inr s'):s'.length=s.length+1:=by
 unfold zV at h;cases hl:zu gs d with
 | inl x=>rw [hl] at h;cases h
 | inr l =>
  rw [hl] at h;dsimp only at h;split at h
  ·cases h
  ·simp only [Sum.inr.injEq] at h;rw [<- h];simp
theorem WR {Tb:World->Prop} (hV:bF Tb) (hL:aV Tb) (nv lv:Value) (ks:List ByteArray) (gs:List (T->Int⊕T)) (dv:Value) (l:List T) (w:World) (hl:oP Tb w lv gs) (hk:bI w nv ks) (hkl:ks.length<=1000000) (hd:cZ w dv l) (hT:Tb w) :
  Calls Tryz.prog 349 #[.agg #[.slice none 0 0,nv,lv],dv] w (qK (DU gs ks) l w):=by
 have Rk:∀ (fn:Fn) (first cap:Array Value) (w:World),(Instr.makeFunc fn first cap).run Tryz.prog w=.ok (.func fn first cap) w:=fun _ _ _ _=>rfl;have HB1:=ak (aY w (.cells #[.slice none 0 0,nv,lv] 259))
 have hfx:(fun o=>if o=0 then none else ([.slice none 0 0,nv,lv]:List Value)[o]?)=(fun o=>if o=1 then some nv else if o=2 then some lv else none):=by
  funext o
  match o with
  | 0=>rfl
  | 1=>rfl
  | 2=>rfl
  | o+3=>simp
 have hst:=DT.start w 259 [nv,lv];rw [hfx] at hst;have hdl:l.length<=1000000:=by obtain ⟨_,_,_,h,_⟩:=hd;exact h
 have HC:=ak (Lb (zV gs ks) (fun k made w'=>DT w w.heap.size (fun o=>if o=1 then some nv else if o=2 then some lv else none) made w'/\made.length<=k) 351 (fun _ _=>rfl) (.pointer (some ⟨w.heap.size,0,none⟩)) w.heap.size dv l [] w _ HB1.out hd ⟨hst,Nat.le_refl _⟩
  (fun k s wx wy h hb=>⟨h.1.keep hb,h.2⟩) (fun k s wx h=>h.1.cell) (fun k s d v wr hkl' h hb ha hok=>by
   refine (SN hV hL w w.heap.size nv lv ks gs s d v wr hb hl hk hkl h.1 (by omega) ha hok (fun w' hb'=>hL w hT w w' hT (hb.trans hb'))).mono ?_;rintro e w' ⟨h1,h2 | ⟨s',h2,h3,h4⟩⟩
   ·exact ⟨h1,.inl h2⟩
   ·exact ⟨h1,.inr ⟨s',h2,h3,h4,by have:=WQ gs ks s d s' h2;have:=h.2;omega⟩⟩))
 obtain ⟨DA,dc,hdv,_⟩:=hd;obtain ⟨NA,nc,hnv,_,_⟩:=hk;obtain ⟨EA,ec,hlv,_,_⟩:=hl;subst hdv;subst hnv;subst hlv;have Hdl:=ak hdl;clear hst hfx hT hV hL hdl;go_in;go_wp2_with fail;refine HC.out.mono ?_;rintro e w2 ⟨b2,⟨k,x,h1,h2,rfl⟩ | ⟨s',v,h1,h2,h3,rfl⟩⟩
 ·have HB:=ak (HB1.out.trans b2);have HF:=ak (And.intro h1 h2);clear b2 h1 h2 HC;go_wp2_with fail;refine bodyPost_ret (v:=.tuple #[.slice none 0 0,.int .i64 (k:Nat),.int .i64 x]) (by simp [results,Tryz.results349,go_sem, *]) rfl ?_;exact ⟨HB.out,.inl ⟨k,x,HF.out.1,HF.out.2,rfl⟩⟩
 ·have HB:=ak (HB1.out.trans b2);have HF:=ak (And.intro h1 (h2.1.docs (by have:=h2.2;have:=Hdl.out;omega) h3));clear b2 h1 h2 h3 HC;go_wp2_with fail;refine bodyPost_ret (v:=.tuple #[v,.int .i64 0,.int .i64 0]) (by simp [results,Tryz.results349,go_sem, *]) rfl ?_;exact ⟨HB.out,.inr ⟨s',v,HF.out.1,rfl,HF.out.2⟩⟩
theorem Ig (p:Value) (w:World):(method 481 259 p "sheaf/pipe.run").run Tryz.prog w=.ok (349,p) w:=by kernel_rfl
theorem Oj (p:Value) (w:World):(method 481 253 p "sheaf/pipe.run").run Tryz.prog w=.ok (347,p) w:=by kernel_rfl
theorem Ol {Tb:World->Prop} (hV:bF Tb) (hL:aV Tb) {w:World} {nv lv:Value} {ks:List ByteArray} {gs:List (T->Int⊕T)} (hl:oP Tb w lv gs) (hk:bI w nv ks) (hkl:ks.length<=1000000):gI Tb w (.iface 259 (.agg #[.slice none 0 0,nv,lv])) (DU gs ks) :=
 ⟨_,_,_,rfl,Ig _,fun _ _=>rfl,fun wr dv l hb hd hT=>WR hV hL nv lv ks gs dv l wr (hl.keep hb) (hk.keep hb) hkl hd hT⟩
theorem xD (p:T->Bool) (l:List T):∀ j,j<=l.length->jf p (aO 5 0 ByteArray.empty l []) j=(l.take j).filter p
 | 0,_=>rfl
 | j+1,h=>by
  rw [jf,xD p l j (by omega),fC l h,List.take_add_one,List.getElem?_eq_getElem h,List.filter_append];simp only [Option.toList_some,List.filter_cons,List.filter_nil]
theorem uJ.docs {w0:World} {hv:Value} {l:List T} {xs:List Value} {wr:World} (h:uJ w0 13 hv l xs wr) (hn:l.length<=1000000) (hok:∀ i,(h:i<l.length)->bM l[i]):cZ wr hv l:=by
 have hx:xs.length=l.length*5:=h.row.1;rcases h.row.2 with ⟨rfl,h0⟩ | ⟨g,cap,cur,rfl,hb0,hg,hnc,hcm,rest⟩
 ·exact ⟨none,0,by rw [h0],hn,by omega,by omega,fun i hi=>by rw [aN] at hi;omega,hok⟩
 ·refine ⟨_,_,rfl,hn,hnc,by unfold maxLen at hcm;omega,fun i hi=>?_,hok⟩;rw [aN] at hi;have hc:∀ j,j<5->wr.cell? ⟨g,i*5+j,none⟩=some (cx xs (i*5+j)):=fun j hj=>aX h.row (dR (by omega));refine ⟨g,0,cx xs (i*5),cx xs (i*5+1),cx xs (i*5+2),cx xs (i*5+3),cx xs (i*5+4),rfl,(Array.getElem?_eq_some_iff.1 hg).1,(by rw [Nat.zero_add];exact hc 0 (by omega)),(by rw [Nat.zero_add];exact hc 1 (by omega)),(by rw [Nat.zero_add];exact hc 2 (by omega)),(by rw [Nat.zero_add];exact hc 3 (by omega)),(by rw [Nat.zero_add];exact hc 4 (by omega)),?_⟩;rw [fC l hi];exact At.keep h.low (h.at_ i hi)
def WS (p:T->Bool) (l:List T):(Nat×Int)⊕List T:=.inr (l.filter p)
theorem WT {Tb:World->Prop} (hA:dn Tb) (hI:bf Tb) (hL:aV Tb) (JZ:Value) (t:T) (dv:Value) (l:List T) (w:World) (hf:eu w 16 JZ t) (hd:cZ w dv l) (hT:Tb w) :
  Calls Tryz.prog 347 #[.agg #[JZ],dv] w (qK (WS (gP 16 t)) l w):=by
 have HB1:=ak (aY w (.cells #[JZ] 253));obtain ⟨La,Lc,rfl,hn,_,_,hel,hok⟩:=hd;have HC:=ak (BJ hL 16 (Au hA hI hL 16) JZ t (aO 5 0 ByteArray.empty l []) 13 La Lc _ (eu.keep HB1.out 16 _ _ hf) (hel.keep HB1.out) (by rw [aN];exact hn) (by omega) (fun i hi=>by rw [aN] at hi;rw [fC l hi];exact hok i hi) (hL w hT _ _ hT HB1.out));rw [aN,xD _ _ _ (Nat.le_refl _),List.take_length] at HC
 have HOk:Hid (∀ i,(h:i<(l.filter (gP 16 t)).length)->bM (l.filter (gP 16 t))[i]):=fun i hi=>by
  obtain ⟨hm,_⟩:=List.mem_filter.1 (List.getElem_mem hi);obtain ⟨k,hk,e⟩:=List.getElem_of_mem hm;rw [<- e];exact hok k hk
 have HLe:Hid ((l.filter (gP 16 t)).length<=1000000):=Nat.le_trans (List.length_filter_le _ _) hn;obtain ⟨FA,fc,U6,_⟩:=hf;subst U6;clear hel hok hT hA hI hL;go_in;go_wp2_with fail;refine HC.out.mono ?_;rintro e w2 ⟨hv,xs,rfl,hh⟩;have HB:=ak (HB1.out.trans (hh.low.mono HB1.out.size));have HD:=ak (hh.docs HLe.out HOk.out);clear hh HC;go_wp2_with fail;refine bodyPost_ret (v:=.tuple #[hv,.int .i64 0,.int .i64 0]) (by simp [results,Tryz.results347,go_sem, *]) rfl ?_;exact ⟨HB.out,.inr ⟨_,hv,rfl,rfl,HD.out⟩⟩
theorem WU {Tb:World->Prop} (hA:dn Tb) (hI:bf Tb) (hL:aV Tb) {w:World} {JZ:Value} {t:T} (hf:eu w 16 JZ t):gI Tb w (.iface 253 (.agg #[JZ])) (WS (gP 16 t)) :=
 ⟨_,_,_,rfl,Oj _,fun _ _=>rfl,fun wr dv l hb hd hT=>WT hA hI hL JZ t dv l wr (eu.keep hb 16 _ _ hf) hd hT⟩
end Go.Proofs.YtknakfpciccoaaaGreatDoor
/- The walk of a pipeline: its stages, one behind the other. -/
namespace Go.Proofs.YtknakfpciccoaaaGreatDoor
open Go.RowKit
theorem At.cells {w w':World} (hs:w.heap.size<=w'.heap.size) (hc:∀ b o,w'.cell? ⟨b,o,none⟩=w.cell? ⟨b,o,none⟩):∀ {f:Nat} {v:Value} {t:T},At w f v t->At w' f v t:=by
 intro f
 induction f with
 | zero=>intro v t h;exact h.elim
 | succ f ih =>
  rintro v t ⟨La,Ka,Lc,Kc,rfl,hf,hl,hk⟩;refine ⟨La,Ka,Lc,Kc,rfl,hf,fun i hi=>?_,fun i hi=>?_⟩
  ·obtain ⟨b,o,c0,c1,c2,c3,c4,h0,hbl,q0,q1,q2,q3,q4,ha⟩:=hl i hi;exact ⟨b,o,c0,c1,c2,c3,c4,h0,Nat.lt_of_lt_of_le hbl hs,(hc _ _).trans q0,(hc _ _).trans q1,(hc _ _).trans q2,(hc _ _).trans q3,(hc _ _).trans q4,ih ha⟩
  ·obtain ⟨b,o,h0,hbl,h2,h3⟩:=hk i hi;exact ⟨b,o,h0,Nat.lt_of_lt_of_le hbl hs,h2,(hc _ _).trans h3⟩
theorem cZ.cells {w w':World} {v:Value} {l:List T} (h:cZ w v l) (hs:w.heap.size<=w'.heap.size) (hc:∀ b o,w'.cell? ⟨b,o,none⟩=w.cell? ⟨b,o,none⟩):cZ w' v l:=by
 obtain ⟨La,Lc,h1,h2,h3,h4,h5,h6⟩:=h;refine ⟨La,Lc,h1,h2,h3,h4,fun i hi=>?_,h6⟩;obtain ⟨b,o,c0,c1,c2,c3,c4,h0,hbl,q0,q1,q2,q3,q4,ha⟩:=h5 i hi;exact ⟨b,o,c0,c1,c2,c3,c4,h0,Nat.lt_of_lt_of_le hbl hs,(hc _ _).trans q0,(hc _ _).trans q1,(hc _ _).trans q2,(hc _ _).trans q3,(hc _ _).trans q4,ha.cells hs hc⟩
theorem Co {w:World} {b o:Nat} {u:Value} (h:w.cell? ⟨b,o,none⟩=some u) (c k:Nat):(w.setCell ⟨b,o,none⟩ u).cell? ⟨c,k,none⟩=w.cell? ⟨c,k,none⟩:=by
 by_cases e:b≠c\/o≠k
 ·exact aH e u
 ·have e1:b=c:=Decidable.byContradiction fun h=>e (.inl h);have e2:o=k:=Decidable.byContradiction fun h=>e (.inr h);subst e1;subst e2;rw [World.cell?_setCell_same w ⟨b,o,none⟩ u h,h]
def iZ:List (List T->(Nat×Int)⊕List T)->List T->Nat->(Nat×Nat×Int)⊕List T
 | [],l,_=>.inr l
 | g::gs,l,i=>match g l with
  | .inl (k,x)=>.inl (i,k,x)
  | .inr r=>iZ gs r (i+1)
def jR (Tb:World->Prop) (w:World) (v:Value) (gs:List (List T->(Nat×Int)⊕List T)):Prop :=
 ∃ A c,v=.slice A gs.length c/\gs.length<=1000000/\∀ i,(h:i<gs.length)->∃ b o u,A=some ⟨b,o,none⟩/\b<w.heap.size/\w.cell? ⟨b,o+i,none⟩=some u/\gI Tb w u gs[i]
def WV (gs:List (List T->(Nat×Int)⊕List T)) (l:List T) (w:World) (e:Ending) (w':World):Prop :=
 Below w.heap.size w w'/\((∃ (i k:Nat) (x:Int),iZ gs l 0=.inl (i,k,x)/\x≠0/\e=.returned (.tuple #[.slice none 0 0,.agg #[.int .i64 i,.int .i64 k,.int .i64 x]]))\/∃ r v,iZ gs l 0=.inr r/\e=.returned (.tuple #[v,.agg #[.int .i64 0,.int .i64 0,.int .i64 0]])/\cZ w' v r)
structure Lg (b:Nat) (w:World):Prop where
 q0:w.cell? ⟨b,0,none⟩=some (.int .i64 0)
 q1:w.cell? ⟨b,1,none⟩=some (.int .i64 0)
 q2:w.cell? ⟨b,2,none⟩=some (.int .i64 0)
 f0:w.frozen? ⟨b,0,none⟩=false
 f1:w.frozen? ⟨b,1,none⟩=false
 f2:w.frozen? ⟨b,2,none⟩=false
 lt:b<w.heap.size
theorem Lg.stay {b:Nat} {w w':World} (h:Lg b w) (hb:Below w.heap.size w w'):Lg b w' :=
 ⟨(hb.cell (p:=⟨b,0,none⟩) h.lt).trans h.q0,(hb.cell (p:=⟨b,1,none⟩) h.lt).trans h.q1,(hb.cell (p:=⟨b,2,none⟩) h.lt).trans h.q2,(World.frozen?_of_block (a:=⟨b,0,none⟩) (hb.block b h.lt)).trans h.f0,(World.frozen?_of_block (a:=⟨b,1,none⟩) (hb.block b h.lt)).trans h.f1,(World.frozen?_of_block (a:=⟨b,2,none⟩) (hb.block b h.lt)).trans h.f2,Nat.lt_of_lt_of_le h.lt hb.size⟩
theorem Lg.new (w:World):Lg w.heap.size (w.alloc (.cells #[.int .i64 0,.int .i64 0,.int .i64 0] 108)):=by
 constructor<;>simp [go_sem]
theorem vU {w W:World} (h:Below w.heap.size w W) {b:Nat} (hb:w.heap.size<=b) (u0 u1 u2:Value):Below w.heap.size w (((W.setCell ⟨b,0,none⟩ u0).setCell ⟨b,1,none⟩ u1).setCell ⟨b,2,none⟩ u2):=by
 have one:∀ (W:World) (o:Nat) (u:Value),Below w.heap.size w W->Below w.heap.size w (W.setCell ⟨b,o,none⟩ u):=fun W o u h=>by
  obtain ⟨t1,t2,t3,t4⟩:=gT W ⟨b,o,none⟩ u;exact ⟨t2.trans h.os,t3.trans h.tape,t4.trans h.output,by rw [t1];exact h.size,fun k hk=>(Below.heap_setCell _ _ _ _ (by simp;omega)).trans (h.block k hk)⟩
 exact one _ _ _ (one _ _ _ (one _ _ _ h))
theorem SQ {W:World} {b:Nat} (h:Lg b W) {v:Value} {l:List T} (hd:cZ W v l):cZ (((W.setCell ⟨b,0,none⟩ (.int .i64 0)).setCell ⟨b,1,none⟩ (.int .i64 0)).setCell ⟨b,2,none⟩ (.int .i64 0)) v l:=by
 have h1:=Co h.q0;have h2:=Co ((h1 b 1).trans h.q1);have h3:=Co ((h2 b 2).trans ((h1 b 2).trans h.q2));exact hd.cells (by simp [World.setCell]) fun c k=>(h3 c k).trans ((h2 c k).trans (h1 c k))
theorem WW {Tb:World->Prop} (hL:aV Tb) (pv dv:Value) (gs:List (List T->(Nat×Int)⊕List T)) (l:List T) (w:World) (hp:jR Tb w pv gs) (hd:cZ w dv l) (hT:Tb w) :
  Calls Tryz.prog 68 #[pv,dv] w (WV gs l w):=by
 obtain ⟨EA,ec,rfl,hn,hes⟩:=hp;have rJ:=ak hes;have HT:Hid (∀ w':World,Below w.heap.size w w'->Tb w'):=fun w' hb=>hL w hT w w' hT hb;have HB1:=ak (aY w (.cells #[.int .i64 0,.int .i64 0,.int .i64 0] 108));have MO:=ak (Lg.new w);have HD1:=ak (hd.keep HB1.out);obtain ⟨DA,dc,hdv,hz⟩:=hd;clear hes hT hL hz;subst hdv;obtain ⟨n,hln⟩:∃ n,gs.length=n:=⟨_,rfl⟩;have QB:=ak hln;rw [hln] at hn ⊢;clear hln;go_in;go_wp2_with fail;go_loopg [1,13] n (fun g d i wr=>∃ (k:Nat) (l':List T),g=n - k/\k<=n/\i=.int .i64 k/\Hid (Below w.heap.size w wr)/\Hid (Lg w.heap.size wr)/\Hid (cZ wr d l')/\Hid (iZ gs l 0=iZ (gs.drop k) l' k))
 case atStart=>exact ⟨0,l,rfl,Nat.zero_le _,rfl,HB1,MO,HD1,rfl⟩
 case round =>
  obtain ⟨k,l',rfl,hk,rfl,HB,HX,HD,HE⟩:=hrel;by_cases hlt:k<n
  ·have hkl:k<gs.length:=by rw [QB.out];exact hlt
   obtain ⟨b,o,u,rfl,hbl,p0,hex⟩:=rJ.out k hkl;have p0':=(HB.out.cell (p:=⟨b,o+k,none⟩) hbl).trans p0;obtain ⟨ty,p,fid,rfl,hm,hcall,oQ⟩:=hex;have HG:Hid (iZ gs l 0=iZ (gs[k]::gs.drop (k+1)) l' k):=by show _=_;rw [<- List.drop_eq_getElem_cons hkl];exact HE.out
   generalize gs[k]=gk at oQ HG;have hmw:=hm wr;have HC:=ak (oQ wr u1 l' HB.out HD.out (HT.out _ HB.out));clear p0 oQ hm;go_wp2_with fail;refine HC.out.mono ?_;rintro e w2 ⟨b2,⟨j,x,h1,h2,rfl⟩ | ⟨r,v,h1,rfl,h3⟩⟩
   ·have ez:(x==0)=false:=by simpa using h2
    have HF:Hid (iZ gs l 0=.inl (k,j,x)/\x≠0):=⟨by rw [HG.out,iZ,h1],h2⟩;have HB2:=ak (HB.out.trans (b2.mono HB.out.size));have kr:=ak (HX.out.stay b2);have fI:=ak (vU HB2.out (b:=w.heap.size) (Nat.le_refl _) (.int .i64 (k:Nat)) (.int .i64 (j:Nat)) (.int .i64 x));have q0:=kr.out.q0;have q1:=kr.out.q1;have q2:=kr.out.q2;have f0:=kr.out.f0;have f1:=kr.out.f1;have f2:=kr.out.f2;clear b2 h1 h2 HC;go_wp2_with fail;refine bodyPost_ret (v:=.tuple #[.slice none 0 0,.agg #[.int .i64 (k:Nat),.int .i64 (j:Nat),.int .i64 x]]) (by simp [results,Tryz.results68,go_sem, *]) rfl ?_;exact ⟨fI.out,.inl ⟨k,j,x,HF.out.1,HF.out.2,rfl⟩⟩
   ·have HE2:Hid (iZ gs l 0=iZ (gs.drop (k+1)) r (k+1)):=by show _=_;rw [HG.out,iZ,h1]
    have HB2:=ak (HB.out.trans (b2.mono HB.out.size));have kr:=ak (HX.out.stay b2);have HD2:=ak h3;clear b2 h1 h3 HC;go_wp2_with fail;go_roundg (n - (k+1))
    case rel=>exact ⟨k+1,r,rfl,by omega,by go_num,HB2,kr,HD2,HE2⟩
    case measure=>omega
  ·obtain rfl:k=n:=by omega
   have HF:Hid (iZ gs l 0=.inr l'):=by
    show _=_;rw [HE.out,<- QB.out,List.drop_length];rfl
   have fI:=ak (vU HB.out (b:=w.heap.size) (Nat.le_refl _) (.int .i64 0) (.int .i64 0) (.int .i64 0));have HDf:=ak (SQ HX.out HD.out);have q0:=HX.out.q0;have q1:=HX.out.q1;have q2:=HX.out.q2;have f0:=HX.out.f0;have f1:=HX.out.f1;have f2:=HX.out.f2;go_wp2_with fail;refine bodyPost_ret (v:=.tuple #[u1,.agg #[.int .i64 0,.int .i64 0,.int .i64 0]]) (by simp [results,Tryz.results68,go_sem, *]) rfl ?_;exact ⟨fI.out,.inr ⟨l',u1,HF.out,rfl,HDf.out⟩⟩
abbrev pX:=List T->(Nat×Int)⊕List T
def acu (Tb:World->Prop) (wB:World) (g:pX) (w:World) (e:Ending) (w':World):Prop :=
 Below w.heap.size w w'/\∃ ty p,e=.returned (.iface ty p)/\gW wB w' (aS w w') (fun x=>gI Tb x (.iface ty p) g)
def sZ (Tb:World->Prop) (t:T) (g:pX):Prop:=∀ (v:Value) (wB w:World),At wB 13 v t->bM t->Below wB.heap.size wB w->Tb w->Calls Tryz.prog 193 #[v] w (acu Tb wB g w)
theorem Lh {base:Nat} {hv:Value} {w wr:World} (hlo:w.heap.size<=base) {b:Nat} (h:Y1 base hv wr b):aS w wr b:=⟨Nat.le_trans hlo h.1,h.2.1⟩
theorem acv:(Tryz.prog.info? 146).map (fun i=>(i.zero,i.size,i.bytes))=some (some .nilIface,1,16):=by kernel_rfl
def acw (Tb:World->Prop) (wB:World) (w:World) (X:Nat->Prop) (cs:List Value) (g:pX):Prop:=∃ ty q,cs=[.iface ty q]/\gW wB w X (fun x=>gI Tb x (.iface ty q) g)
theorem qL (Tb:World->Prop) (wB:World):u7 (acw Tb wB):=fun _ _ _ _ _ _ h hb=>by
 obtain ⟨ty,q,h1,h2⟩:=h;exact ⟨ty,q,h1,h2.move hb⟩
theorem Om {Tb:World->Prop} {wB:World} {base:Nat} {hv:Value} {gs:List pX} {xs:List Value} {w wr:World} (h:sM (acw Tb wB) 1 146 base hv gs xs wr) (hlo:w.heap.size<=base) (hn:gs.length<=1000000):∃ A c,hv=.slice A gs.length c/\gW wB wr (aS w wr) (fun x=>jR Tb x (.slice A gs.length c) gs):=by
 have hrow:=h.row;rcases h.row.2 with ⟨rfl,h0⟩ | ⟨g,cap,cur,rfl,hb0,hgb,_⟩
 ·exact ⟨none,0,by rw [h0],gW.all fun w' _=>⟨none,0,rfl,hn,fun i hi=>by omega⟩⟩
 ·have hgl:=(Array.getElem?_eq_some_iff.1 hgb).1;refine ⟨some ⟨g,0,none⟩,cap,rfl,aS w wr,fun b hb=>⟨hb,hb.2⟩,fun w' hw hy=>⟨_,_,rfl,hn,fun i hi=>?_⟩⟩;obtain ⟨ty,q,hc,hs⟩:=h.el i hi;have c0:=aX hrow (oh (r:=0) (by rw [hc];rfl) (by omega));have hgw:w'.heap[g]?=wr.heap[g]?:=hy g ⟨by omega,hgl⟩;refine ⟨g,0,.iface ty q,rfl,mR hgl hgw,?_,?_⟩
  ·rw [aC hgw,Nat.zero_add];rw [Nat.mul_one,Nat.add_zero] at c0;exact c0
  ·obtain ⟨Y,h1,h2⟩:=hs;exact h2 w' hw fun b hb=>hy b (Lh hlo (h1 b hb).1)
def Oo (Tb:World->Prop) (wB:World) (gs:List pX) (w:World) (e:Ending) (w':World):Prop :=
 Below w.heap.size w w'/\∃ A c,e=.returned (.slice A gs.length c)/\gW wB w' (aS w w') (fun x=>jR Tb x (.slice A gs.length c) gs)
theorem SS {Tb:World->Prop} (hL:aV Tb) (t:T) (gs:List pX) (k5:aj t=5) (hl:nL t=gs.length) (hn:gs.length<=8) (hgs:∀ i,(hi:i<gs.length)->sZ Tb (elt t i) gs[i])
  (v:Value) (wB w:World) (ha:At wB 13 v t) (hk:bM t) (hb0:Below wB.heap.size wB w) (hT:Tb w):Calls Tryz.prog 154 #[v] w (Oo Tb wB gs w):=by
 obtain ⟨iE,hiE,zE0,zE1,zE2⟩:=info_parts acv;obtain ⟨g1,La,Ka,Lc,Kc,hg1,rfl,hfj,hel,hnm⟩:=ha.open;have BD:=ak hk;have JQ:=ak hel.out;have HT:Hid (∀ w':World,Below w.heap.size w w'->Tb w'):=fun w' hb=>hL w hT w w' hT hb;have rJ:=ak hgs;have Hl:=ak hl;have Hhn:=ak hn;have hnl:nL t<=8:=by omega
 have alX:(nL t:Int)<=8:=by omega
 have Hg1:=ak hg1;rw [k5];clear ha hk hel hnm hfj hT hL hgs hl hn hg1;go_in;go_wp2_with fail;refine (dW _).mono ?_;rintro e w2 ⟨rfl,rfl⟩;go_wp2_with fail;go_loopg [3,19] (nL t) (fun g o i wr=>∃ (k:Nat) (xs:List Value),g=nL t - k/\k<=nL t/\i=.int .i64 k/\Hid (Below (w.heap.size+1) (w.alloc (.cells #[.int .i64 5,.int .i64 (av t),.string (ay t),.slice La (nL t) Lc,.slice Ka (nK t) Kc] 25)) wr)/\Hid (sM (acw Tb wB) 1 146 (w.heap.size+1) o (gs.take k) xs wr))
 case atStart=>exact ⟨0,[],rfl,Nat.zero_le _,rfl,Below.refl _ _,sM.nil _ _ _ _ _⟩
 case round =>
  obtain ⟨k,xs,rfl,hk,rfl,HB,HL⟩:=hrel;obtain ⟨q0,q1,q2,q3,q4,hz,hbw⟩:=dz HB.out;have qb:=ak (hb0.trans (hbw.mono hb0.size));have iq:=ak hbw;clear hbw;by_cases hlt:k<nL t
  ·have Cq:k<gs.length:=by have:=Hl.out;omega
   obtain ⟨bb,oo,A,B,C,D,rfl,hbl,p0,p1,p2,p3,p4,Ha⟩:=JQ.out.shape qb.out k hlt;obtain ⟨j,hj⟩:∃ j,elt t k=j:=⟨_,rfl⟩;have HKe:=ak (BD.out.elt hlt);have HPs:=ak (rJ.out k Cq);rw [hj] at p0 p1 p2 p3 p4 Ha HKe HPs;clear hj;have uM:=ak (aY wr (vC j A B C D));have HC:=ak (HPs.out _ wB _ (Ha.out.up (show g1<=13 by have:=Hg1.out;omega)) HKe.out (qb.out.trans (uM.out.mono qb.out.size)) (HT.out _ (iq.out.trans (uM.out.mono iq.out.size))));have IX:Hid (gs.take (k+1)=gs.take k++[gs[k]]):=by show _=_;rw [List.take_add_one,List.getElem?_eq_getElem Cq];rfl
   have hxl:(gs.take k).length=k:=by rw [List.length_take];omega
   generalize gs[k]=gk at HC IX;clear HPs HKe;go_wp2_with fail;refine HC.out.mono ?_;rintro e w3 ⟨b3,t6,v6,rfl,ht⟩;have Y4:=ak (ht.later (wa:=wr) (Below.refl _ _) uM.out.size);have Hb3:=ak (uM.out.trans (b3.mono uM.out.size));have bT:=ak (aY w3 (.cells #[.iface t6 v6] 146));have uI:=ak ((HL.out.keep (qL Tb wB) Hb3.out).keep (qL Tb wB) bT.out);have sK:Hid (Src Tryz.prog 1 104 (.slice (some ⟨w3.heap.size,0,none⟩) 1 1) 1 [.iface t6 v6] (w3.alloc (.cells #[.iface t6 v6] 146))):=Src.ofSlice _ Tryz.underlying104 ⟨w3.heap.size,0,none⟩ 1 1 [.iface t6 v6] (by simp) (World.news_of_block (heap_alloc_new w3 _)) (by simp [Value.oneCell']);have hlo:w.heap.size+1<=(w3.alloc (.cells #[.iface t6 v6] 146)).heap.size:=by have:=Hb3.out.size;simp;omega
   clear b3 ht HC;go_wp2_with (at_builtin;refine aG _ rfl (.tmp 23) (.tmp 26) 104 104 rfl (w.heap.size+1) 146 iE _ 1 16 Tryz.underlying104 hiE zE0 zE1 zE2 rfl u3 (gs.take k).length xs rfl uI.out.row (.slice (some ⟨w3.heap.size,0,none⟩) 1 1) 1 [.iface t6 v6] rfl sK.out (by unfold maxLen;omega) (by omega) hlo ?_;intro v' w6 qX nu dV);have Dl:=ak (HL.out.grow (x:=gk) (cs:=[.iface t6 v6]) (qL Tb wB) (Hb3.out.trans (bT.out.mono Hb3.out.size)) rfl (qL Tb wB _ _ _ _ _ _ ⟨t6,v6,rfl,Y4.out⟩ (fun b hb=>⟨bT.out.block b hb.2,hb⟩)) (fun b hb=>⟨hb.1,Nat.lt_of_lt_of_le hb.2 bT.out.size⟩) (by omega) qX nu dV);have iN:=ak (dx ((HB.out.trans (Hb3.out.mono (by omega))).trans (bT.out.mono (by have:=Hb3.out.size;omega))) uI.out.row (Nat.le_refl _) (by omega) nu);rw [<- IX.out] at Dl;clear qX nu dV;go_wp2_with fail;go_roundg (nL t - (k+1))
   case rel=>exact ⟨k+1,_,rfl,by omega,by go_num,iN,Dl⟩
   case measure=>omega
  ·obtain rfl:k=nL t:=by omega
   rw [Hl.out,List.take_length] at HL;obtain ⟨A,c,rfl,hs⟩:=Om (w:=w) HL.out (by omega) (by have:=Hhn.out;omega);have HS:=ak hs;clear hs HL;go_wp2_with fail;go_ret;exact ⟨iq.out,_,_,rfl,HS.out⟩
def vV (Tb:World->Prop) (t:T) (gs:List pX):Prop:=∀ (v:Value) (wB w:World),At wB 13 v t->bM t->Below wB.heap.size wB w->Tb w->Calls Tryz.prog 154 #[v] w (Oo Tb wB gs w)
theorem Ih {Tb:World->Prop} (t:T) (gs:List pX) (h:vV Tb t gs) (v:Value) (wB w:World) (ha:At wB 13 v t) (hk:bM t) (hb0:Below wB.heap.size wB w) (hT:Tb w) (p:Nat)
  (La Ka:Option Addr) (Lc Kc:Nat) (hv:v=.agg #[.int .i64 (aj t),.int .i64 (av t),.string (ay t),.slice La (nL t) Lc,.slice Ka (nK t) Kc])
  (q0:w.cell? ⟨p,0,none⟩=some (.int .i64 (aj t))) (q1:w.cell? ⟨p,1,none⟩=some (.int .i64 (av t))) (q2:w.cell? ⟨p,2,none⟩=some (.string (ay t))) (q3:w.cell? ⟨p,3,none⟩=some (.slice La (nL t) Lc)) (q4:w.cell? ⟨p,4,none⟩=some (.slice Ka (nK t) Kc)) :
  Calls Tryz.prog 153 #[.pointer (some ⟨p,0,none⟩)] w (Oo Tb wB gs w):=by
 subst hv;have HC:=ak (h _ wB w ha hk hb0 hT);clear ha hk hb0 hT h;go_in;go_wp2_with fail;refine HC.out.mono ?_;rintro e w3 ⟨b3,A,c,rfl,hs⟩;have HB3:=ak b3;have HS:=ak hs;clear b3 hs;go_wp2_with fail;go_ret;exact ⟨HB3.out,_,_,rfl,HS.out⟩
theorem Oq {Tb:World->Prop} (hL:aV Tb) (t:T) (gs:List pX) (h:vV Tb t gs) (v:Value) (wB w:World) (ha:At wB 13 v t) (hk:bM t) (hb0:Below wB.heap.size wB w) (hT:Tb w) :
  Calls Tryz.prog 114 #[v] w fun e w'=>Below w.heap.size w w'/\∃ A c,e=.returned (.tuple #[.slice A gs.length c,.int .i64 0])/\gW wB w' (aS w w') (fun x=>jR Tb x (.slice A gs.length c) gs):=by
 have Rk:∀ (fn:Fn) (first cap:Array Value) (w:World),(Instr.makeFunc fn first cap).run Tryz.prog w=.ok (.func fn first cap) w:=fun _ _ _ _=>rfl;obtain ⟨g1,La,Ka,Lc,Kc,hg1,hv,_,_,_⟩:=ha.open;have HB1:=ak (aY w (vC t La Lc Ka Kc));have HE:=ak (gG (w.alloc (vC t La Lc Ka Kc)));have hbb:Below (w.heap.size+1) (w.alloc (vC t La Lc Ka Kc)) (dQ (w.alloc (vC t La Lc Ka Kc))):=HE.out.2.2.2.mono (by simp);obtain ⟨q0,q1,q2,q3,q4,hz,hbw⟩:=dz hbb;have HI:=ak (Ih t gs h v wB (dQ (w.alloc (vC t La Lc Ka Kc))) ha hk (hb0.trans (hbw.mono hb0.size)) (hL w hT _ _ hT hbw) w.heap.size La Ka Lc Kc hv q0 q1 q2 q3 q4)
 have HA:=ak (WJ 153 (fun _ _=>rfl) (fun v w'=>∃ A c,v=.slice A gs.length c/\gW wB w' (aS (dQ (w.alloc (vC t La Lc Ka Kc))) w') (fun x=>jR Tb x (.slice A gs.length c) gs)) (.pointer (some ⟨w.heap.size,0,none⟩)) _ (HI.out.mono fun e w' hh=>by
  obtain ⟨h1,A,c,h2,h3⟩:=hh;exact ⟨h1,_,h2,A,c,rfl,h3⟩))
 subst hv;clear ha hk hb0 hT h hL hbb q0 q1 q2 q3 q4 hz hbw HI hg1 HE;go_in;go_wp2_with fail;refine HA.out.mono ?_;rintro e w3 ⟨b3,x,w2,rfl,⟨A,c,rfl,hs⟩,hab,hb2⟩;have HB3:=ak (HB1.out.trans (b3.mono HB1.out.size));have HS:=ak (hs.attempt (w:=w) (by simp) hab);clear b3 hs hab hb2 HA;go_wp2_with fail;refine bodyPost_ret (v:=.tuple #[.slice A gs.length c,.int .i64 0]) (by simp [results,Tryz.results114,go_sem, *]) rfl ?_;exact ⟨HB3.out,_,_,rfl,HS.out⟩
def ow (n:Int) (m:Nat):Nat:=if n<=m then n.toNat else m
theorem Cr (n:Int) (m:Nat):ow n m<=m:=by
 unfold ow;split<;>omega
theorem yJ (n:Int) (h0:0<=n) (DA:Option Addr) (m dc:Nat) (w:World) :
  Calls Tryz.prog 373 #[.agg #[.int .i64 n],.slice DA m dc] w fun e w'=>Below w.heap.size w w'/\e=.returned (.int .i64 (ow n m)):=by
 have HB1:=ak (aY w (.cells #[.int .i64 n] 274));by_cases hle:n<=m
 ·have Hc:Hid (ow n m=n.toNat):=by show _=_;unfold ow;rw [if_pos hle]
  have hmin:min n (m:Int)=n:=by omega
  go_in;go_wp2_with fail;go_ret;exact ⟨HB1.out,by rw [Hc.out];simp;omega⟩
 ·have Hc:Hid (ow n m=m):=by show _=_;unfold ow;rw [if_neg hle]
  have hmin:min n (m:Int)=m:=by omega
  go_in;go_wp2_with fail;go_ret;exact ⟨HB1.out,by rw [Hc.out];rfl⟩
def SV (n:Int) (l:List T):(Nat×Int)⊕List T:=.inr (l.take (ow n l.length))
def Ct (n:Int) (l:List T):(Nat×Int)⊕List T:=.inr (l.drop (ow n l.length))
theorem SX {w:World} {DA:Option Addr} {dc:Nat} {l:List T} (h:cZ w (.slice DA l.length dc) l) {m:Nat} (hm:m<=l.length):cZ w (.slice DA m dc) (l.take m):=by
 obtain ⟨La,Lc,h1,h2,h3,h4,h5,h6⟩:=h;simp only [Value.slice.injEq,true_and] at h1;obtain ⟨rfl,rfl⟩:=h1;have hl:(l.take m).length=m:=by rw [List.length_take];omega
 refine ⟨DA,dc,by rw [hl],by omega,by omega,h4,fun i hi=>?_,fun i hi=>?_⟩
 ·rw [aN,hl] at hi;have:=h5 i (by rw [aN];omega);rw [fC _ (by omega)] at this ⊢;rw [List.getElem_take];exact this
 ·rw [List.getElem_take];exact h6 i (by rw [hl] at hi;omega)
theorem WX (n:Int) (h0:0<=n) (dv:Value) (l:List T) (w:World) (hd:cZ w dv l):Calls Tryz.prog 375 #[.agg #[.int .i64 n],dv] w (qK (SV n) l w):=by
 have HB1:=ak (aY w (.cells #[.int .i64 n] 278));have Hd:=ak hd;obtain ⟨DA,dc,rfl,hn,hdc,hcm,hzz⟩:=hd;clear hzz;have HC:=ak (yJ n h0 DA l.length dc (w.alloc (.cells #[.int .i64 n] 278)));have Hm:=ak (Cr n l.length);have Hf:Hid (SV n l=.inr (l.take (ow n l.length))):=rfl;generalize ow n l.length=m at HC Hm Hf;have m1:=Hm.out;have m2:¬ (m:Int)<0:=by omega
 have m3:(m:Int)<=(dc:Int):=by omega
 have m4:m<=dc:=by omega
 go_in;go_wp2_with fail;refine HC.out.mono ?_;rintro e w2 ⟨b2,rfl⟩;have HB2:=ak (HB1.out.trans (b2.mono HB1.out.size));have HD:=ak (SX (Hd.out.keep HB2.out) m1);clear b2 HC;go_wp2_with fail;refine bodyPost_ret (v:=.tuple #[.slice DA m dc,.int .i64 0,.int .i64 0]) (by simp [results,Tryz.results375,go_sem, *]) rfl ?_;exact ⟨HB2.out,.inr ⟨_,_,Hf.out,rfl,HD.out⟩⟩
theorem Ot (p:Value) (w:World):(method 481 278 p "sheaf/pipe.run").run Tryz.prog w=.ok (375,p) w:=by kernel_rfl
theorem WY (Tb:World->Prop) {w:World} {n:Int} (h0:0<=n):gI Tb w (.iface 278 (.agg #[.int .i64 n])) (SV n) :=
 ⟨_,_,_,rfl,Ot _,fun _ _=>rfl,fun wr dv l _ hd _=>WX n h0 dv l wr hd⟩
theorem FD {w:World} {b o dc:Nat} {l:List T} (h:cZ w (.slice (some ⟨b,o,none⟩) l.length dc) l) {m:Nat} (hm:m<=l.length) {o':Nat} (ho:m<l.length->o'=o+m*5):cZ w (.slice (some ⟨b,o',none⟩) (l.length - m) (dc - m)) (l.drop m):=by
 obtain ⟨La,Lc,h1,h2,h3,h4,h5,h6⟩:=h;simp only [Value.slice.injEq,true_and] at h1;obtain ⟨rfl,rfl⟩:=h1;have hl:(l.drop m).length=l.length - m:=List.length_drop;refine ⟨_,_,by rw [hl],by omega,by omega,by omega,fun i hi=>?_,fun i hi=>?_⟩
 ·rw [aN,hl] at hi;obtain rfl:=ho (by omega);obtain ⟨b',o2,c0,c1,c2,c3,c4,e0,hbl,q0,q1,q2,q3,q4,ha⟩:=h5 (m+i) (by rw [aN];omega);simp only [Option.some.injEq,Addr.mk.injEq,and_true] at e0;obtain ⟨rfl,rfl⟩:=e0;rw [fC _ (by omega)] at ha ⊢;rw [List.getElem_drop];have e:∀ r,o+(m+i)*5+r=o+m*5+i*5+r:=fun r=>by omega
  refine ⟨b,o+m*5,c0,c1,c2,c3,c4,rfl,hbl,?_,?_,?_,?_,?_,ha⟩
  ·rw [<- q0];exact congrArg (fun k=>w.cell? ⟨b,k,none⟩) (e 0).symm
  ·rw [<- q1];exact congrArg (fun k=>w.cell? ⟨b,k,none⟩) (e 1).symm
  ·rw [<- q2];exact congrArg (fun k=>w.cell? ⟨b,k,none⟩) (e 2).symm
  ·rw [<- q3];exact congrArg (fun k=>w.cell? ⟨b,k,none⟩) (e 3).symm
  ·rw [<- q4];exact congrArg (fun k=>w.cell? ⟨b,k,none⟩) (e 4).symm
 ·rw [List.getElem_drop];exact h6 _ (by rw [hl] at hi;omega)
theorem SY (n:Int) (h0:0<=n) (b o dc:Nat) (l:List T) (w:World) (hd:cZ w (.slice (some ⟨b,o,none⟩) l.length dc) l):Calls Tryz.prog 374 #[.agg #[.int .i64 n],.slice (some ⟨b,o,none⟩) l.length dc] w (qK (Ct n) l w):=by
 have HB1:=ak (aY w (.cells #[.int .i64 n] 277));have Hd:=ak hd;obtain ⟨DA,dc',hdv,hn,hdc,hcm,hzz⟩:=hd;simp only [Value.slice.injEq,true_and] at hdv;obtain ⟨hda,rfl⟩:=hdv;clear hzz hda;have HC:=ak (yJ n h0 (some ⟨b,o,none⟩) l.length dc (w.alloc (.cells #[.int .i64 n] 277)));have Hm:=ak (Cr n l.length);have Hf:Hid (Ct n l=.inr (l.drop (ow n l.length))):=rfl;generalize ow n l.length=m at HC Hm Hf;have m1:=Hm.out;have m2:¬ (m:Int)<0:=by omega
 have m3:(m:Int)<=(l.length:Int):=by omega
 have m4:m<=dc:=by omega
 by_cases hmd:m=dc
 ·go_in;go_wp2_with fail;refine HC.out.mono ?_;rintro e w2 ⟨b2,rfl⟩;have HB2:=ak (HB1.out.trans (b2.mono HB1.out.size));have HD:=ak (FD (Hd.out.keep HB2.out) m1 (o':=o) (fun h=>by omega));clear b2 HC;go_wp2_with fail;refine bodyPost_ret (v:=.tuple #[.slice (some ⟨b,o,none⟩) (l.length - m) (dc - m),.int .i64 0,.int .i64 0]) (by simp [results,Tryz.results374,go_sem, *]) rfl ?_;exact ⟨HB2.out,.inr ⟨_,_,Hf.out,rfl,HD.out⟩⟩
 ·go_in;go_wp2_with fail;refine HC.out.mono ?_;rintro e w2 ⟨b2,rfl⟩;have HB2:=ak (HB1.out.trans (b2.mono HB1.out.size));have HD:=ak (FD (Hd.out.keep HB2.out) m1 (o':=o+m*5) (fun h=>rfl));clear b2 HC;go_wp2_with fail;refine bodyPost_ret (v:=.tuple #[.slice (some ⟨b,o+m*5,none⟩) (l.length - m) (dc - m),.int .i64 0,.int .i64 0]) (by simp [results,Tryz.results374,go_sem, *]) rfl ?_;exact ⟨HB2.out,.inr ⟨_,_,Hf.out,rfl,HD.out⟩⟩
theorem Cu (w:World) (A:Option Addr) {c:Nat} (h:c<=9223372036854775807):cZ w (.slice A 0 c) [] :=
 ⟨A,c,rfl,Nat.zero_le _,Nat.zero_le _,h,fun i hi=>absurd hi (Nat.not_lt_zero i),fun i hi=>absurd hi (Nat.not_lt_zero i)⟩
theorem S9 (n:Int) (h0:0<=n) (DA:Option Addr) (dc:Nat) (w:World) (hcm:dc<=9223372036854775807):Calls Tryz.prog 374 #[.agg #[.int .i64 n],.slice DA 0 dc] w (qK (Ct n) [] w):=by
 have HB1:=ak (aY w (.cells #[.int .i64 n] 277));have HC:=ak (yJ n h0 DA 0 dc (w.alloc (.cells #[.int .i64 n] 277)));have hc0:ow n 0=0:=Nat.le_zero.1 (Cr n 0);rw [hc0] at HC;clear hc0;have Hf:Hid (Ct n []=.inr []):=by show Ct n []=.inr [];unfold Ct;rw [List.drop_nil]
 cases DA with
 | none =>
  go_in;go_wp2_with fail;refine HC.out.mono ?_;rintro e w2 ⟨b2,rfl⟩;have HB2:=ak (HB1.out.trans (b2.mono HB1.out.size));clear b2 HC;go_wp2_with fail;refine bodyPost_ret (v:=.tuple #[.slice none 0 dc,.int .i64 0,.int .i64 0]) (by simp [results,Tryz.results374,go_sem, *]) rfl ?_;exact ⟨HB2.out,.inr ⟨_,_,Hf.out,rfl,Cu _ _ (by omega)⟩⟩
 | some a =>
  by_cases hd0:dc=0
  ·subst hd0;go_in;go_wp2_with fail;refine HC.out.mono ?_;rintro e w2 ⟨b2,rfl⟩;have HB2:=ak (HB1.out.trans (b2.mono HB1.out.size));clear b2 HC;go_wp2_with fail;refine bodyPost_ret (v:=.tuple #[.slice (some a) 0 0,.int .i64 0,.int .i64 0]) (by simp [results,Tryz.results374,go_sem, *]) rfl ?_;exact ⟨HB2.out,.inr ⟨_,_,Hf.out,rfl,Cu _ _ (by omega)⟩⟩
  ·go_in;go_wp2_with fail;refine HC.out.mono ?_;rintro e w2 ⟨b2,rfl⟩;have HB2:=ak (HB1.out.trans (b2.mono HB1.out.size));clear b2 HC;go_wp2_with fail;refine bodyPost_ret (v:=.tuple #[.slice (some a) 0 dc,.int .i64 0,.int .i64 0]) (by simp [results,Tryz.results374,go_sem, *]) rfl ?_;exact ⟨HB2.out,.inr ⟨_,_,Hf.out,rfl,Cu _ _ (by omega)⟩⟩
theorem WZ (n:Int) (h0:0<=n) (dv:Value) (l:List T) (w:World) (hd:cZ w dv l):Calls Tryz.prog 374 #[.agg #[.int .i64 n],dv] w (qK (Ct n) l w):=by
 have Hd:=hd;obtain ⟨DA,dc,rfl,hn,hdc,hcm,hel,_⟩:=hd;cases l with
 | nil=>exact S9 n h0 DA dc w hcm
 | cons d r =>
  obtain ⟨b,o,_,_,_,_,_,rfl,_⟩:=hel 0 (by rw [aN];exact Nat.succ_pos _);exact SY n h0 b o dc (d::r) w Hd
theorem Ta (p:Value) (w:World):(method 481 277 p "sheaf/pipe.run").run Tryz.prog w=.ok (374,p) w:=by kernel_rfl
theorem ZB (Tb:World->Prop) {w:World} {n:Int} (h0:0<=n):gI Tb w (.iface 277 (.agg #[.int .i64 n])) (Ct n) :=
 ⟨_,_,_,rfl,Ta _,fun _ _=>rfl,fun wr dv l _ hd _=>WZ n h0 dv l wr hd⟩
def Ou (wB:World) (t:T) (w:World) (e:Ending) (w':World):Prop:=Below w.heap.size w w'/\∃ FA fc,e=.returned (.slice FA (nK t) fc)/\gW wB w' (aS w w') (fun x=>eu x 16 (.slice FA (nK t) fc) t)
theorem Ii {Tb:World->Prop} (hS:cK Tb) (hL:aV Tb) (t:T) (hok:bE 16 t=true) (v:Value) (wB w:World) (ha:At wB 13 v t) (hk:bM t) (hb0:Below wB.heap.size wB w) (hT:Tb w) :
  Calls Tryz.prog 234 #[v] w (Ou wB t w):=by
 obtain ⟨g1,La,Ka,Lc,Kc,hg1,hv,_,_,_⟩:=ha.open;have HB1:=ak (aY w (vC t La Lc Ka Kc));have hP:yt ⟨wB,fun b=>b<wB.heap.size⟩ 13 v t:=ha.atP;have HC:=ak (vK hS hL ⟨wB,fun b=>b<wB.heap.size⟩ 13 v t _ (by omega) hP hk (hb0.trans (HB1.out.mono hb0.size)) (hL w hT _ _ hT HB1.out));have Hok:=ak hok;have Hb0:=ak hb0;subst hv;clear ha hk hb0 hT hL hg1 hok hP hS;go_in;go_wp2_with fail;refine HC.out.mono ?_;rintro e w3 ⟨b3,⟨_,fv,rfl,hr⟩ | ⟨h,rfl⟩⟩
 ·have HB3:=ak (HB1.out.trans (b3.mono HB1.out.size));obtain ⟨FA,fc,rfl⟩:=hr.shape
  have HS:Hid (gW wB w3 (aS w w3) (fun x=>eu x 16 (.slice FA (nK t) fc) t)):=by
   refine ⟨aS w w3,fun b hb=>⟨hb,hb.2⟩,fun w2 hw hy=>?_⟩
   have hr2:=iy.move (w0:=⟨wB,fun b=>b<wB.heap.size⟩) (w':=w2) (X':=fun b=>b<w2.heap.size) (fun b hb=>by
    have hb':aS w w3 b:=⟨by have:=hb.1;simp at this;omega,hb.2⟩;exact ⟨hy b hb',mR hb.2 (hy b hb')⟩) 16 _ _ hr
   exact iy.at (w0:=⟨wB,fun b=>b<wB.heap.size⟩) (fun b h=>h) (fun f v u ha=>At.keep hw (qc.at ha)) 16 _ _ hr2
  clear b3 hr HC;go_wp2_with fail;refine (dW _).mono ?_;rintro e w4 ⟨rfl,rfl⟩;go_wp2_with fail;go_ret;exact ⟨HB3.out,_,_,rfl,HS.out⟩
 ·rw [Hok.out] at h;cases h
def Ij:ByteArray:=⟨#[36,109,97,116,99,104]⟩
theorem Ik {Tb:World->Prop} (hA:dn Tb) (hI:bf Tb) (hL:aV Tb) (t j:T) (k6:aj t=6) (k1:nK t=1) (hj:elt t 0=j) (hx:bO t 0=Ij) (h:∀ (v:Value) (wB w:World),At wB 13 v j->bM j->Below wB.heap.size wB w->Tb w->Calls Tryz.prog 234 #[v] w (Ou wB j w)):sZ Tb t (WS (gP 16 j)):=by
 intro v wB w ha hk hb0 hT;have l1:nL t=1:=by have:=hk.names k6;omega
 have hkj:bM j:=by rw [<- hj];exact hk.elt (by omega)
 have Ha:=ak ha;obtain ⟨g1,La,Ka,Lc,Kc,hg1,rfl,_,_,_⟩:=ha.open;have HB1:=ak (aY w (vC t La Lc Ka Kc));have HC:=ak (mU t j Ij hj hx _ wB _ Ha.out hk k6 k1 (hb0.trans (HB1.out.mono hb0.size)));have HE:Hid (∀ (v:Value) (w':World),At wB 13 v j->Below w.heap.size w w'->Calls Tryz.prog 234 #[v] w' (Ou wB j w')):=fun v w' h1 h2=>h v wB w' h1 hkj (hb0.trans (h2.mono hb0.size)) (hL w hT w w' hT h2);clear ha hk hg1 hb0 hT h k6 k1 l1 hkj Ha hj hx;unfold Ij at *;go_in;go_wp2_with fail;refine HC.out.mono ?_;rintro e w2 ⟨b2,A,B,C,D,rfl,hat⟩;have fT:=ak (aY w2 (vC j A B C D));have HB2:=ak (HB1.out.trans (b2.mono HB1.out.size));have HB3:=ak (HB2.out.trans (fT.out.mono HB2.out.size));have HP:=ak (HE.out _ _ hat HB3.out);have HY:=ak (aR w2 (.int .i64 (aj j)) (.int .i64 (av j)) (.string (ay j)) (.slice A (nL j) B) (.slice C (nK j) D));clear b2 hat HC HE;have y0:=HY.out.q0;have y1:=HY.out.q1;have y2:=HY.out.q2;have y3:=HY.out.q3;have y4:=HY.out.q4;go_wp2_with fail;refine HP.out.mono ?_;rintro e w5 ⟨b5,FA,fc,rfl,hs⟩;have eF:=ak (HB3.out.trans (b5.mono HB3.out.size));have HS:=ak ((hs.later (wa:=w) (Below.refl _ _) HB3.out.size).mono (Q:=fun x=>gI Tb x (.iface 253 (.agg #[.slice FA (nK j) fc])) (WS (gP 16 j))) fun w' hw hh=>WU hA hI hL hh);clear b5 hs HP y0 y1 y2 y3 y4;go_wp2_with fail;go_ret;exact ⟨eF.out,_,_,rfl,HS.out⟩
end Go.Proofs.YtknakfpciccoaaaGreatDoor
