import Derived.Test.YtknakfpciccoaabGreatDoorZL25
import Derived.Test.YtknakfpciccoaabGreatDoorZL24
import Derived.Test.YtknakfpciccoaabGreatDoorZL23
import Derived.Test.YtknakfpciccoaabGreatDoorZL12
/- The walk of a pipeline: its stages, one behind the other. -/
set_option maxHeartbeats 8000000
set_option maxRecDepth 100000
namespace Go.Proofs.YtknakfpciccoaabGreatDoor
open Go.RowKit
theorem At.cells {w w':World} (hs:w.heap.size<=w'.heap.size) (hc:∀ b o,w'.cell? ⟨b,o,none⟩=w.cell? ⟨b,o,none⟩):∀ {f:Nat} {v:Value} {t:T},At w f v t->At w' f v t:=by
 intro f
 induction f with
 | zero=>intro v t h;exact h.elim
 | succ f ih =>
  rintro v t ⟨La,Ka,Lc,Kc,rfl,hf,hl,hk⟩;refine ⟨La,Ka,Lc,Kc,rfl,hf,fun i hi=>?_,fun i hi=>?_⟩
  ·obtain ⟨b,o,c0,c1,c2,c3,c4,h0,hbl,q0,q1,q2,q3,q4,ha⟩:=hl i hi;exact ⟨b,o,c0,c1,c2,c3,c4,h0,Nat.lt_of_lt_of_le hbl hs,(hc _ _).trans q0,(hc _ _).trans q1,(hc _ _).trans q2,(hc _ _).trans q3,(hc _ _).trans q4,ih ha⟩
  ·obtain ⟨b,o,h0,hbl,h2,h3⟩:=hk i hi;exact ⟨b,o,h0,Nat.lt_of_lt_of_le hbl hs,h2,(hc _ _).trans h3⟩
theorem cu.cells {w w':World} {v:Value} {l:List T} (h:cu w v l) (hs:w.heap.size<=w'.heap.size) (hc:∀ b o,w'.cell? ⟨b,o,none⟩=w.cell? ⟨b,o,none⟩):cu w' v l:=by
 obtain ⟨La,Lc,h1,h2,h3,h4,h5,h6⟩:=h;refine ⟨La,Lc,h1,h2,h3,h4,fun i hi=>?_,h6⟩;obtain ⟨b,o,c0,c1,c2,c3,c4,h0,hbl,q0,q1,q2,q3,q4,ha⟩:=h5 i hi;exact ⟨b,o,c0,c1,c2,c3,c4,h0,Nat.lt_of_lt_of_le hbl hs,(hc _ _).trans q0,(hc _ _).trans q1,(hc _ _).trans q2,(hc _ _).trans q3,(hc _ _).trans q4,ha.cells hs hc⟩
theorem BN {w:World} {b o:Nat} {u:Value} (h:w.cell? ⟨b,o,none⟩=some u) (c k:Nat):(w.setCell ⟨b,o,none⟩ u).cell? ⟨c,k,none⟩=w.cell? ⟨c,k,none⟩:=by
 by_cases e:b≠c\/o≠k
 ·exact aG e u
 ·have e1:b=c:=Decidable.byContradiction fun h=>e (.inl h);have e2:o=k:=Decidable.byContradiction fun h=>e (.inr h);subst e1;subst e2;rw [World.cell?_setCell_same w ⟨b,o,none⟩ u h,h]
def ny:List (List T->(Nat×Int)⊕List T)->List T->Nat->(Nat×Nat×Int)⊕List T
 | [],l,_=>.inr l
 | g::gs,l,i=>match g l with
  | .inl (k,x)=>.inl (i,k,x)
  | .inr r=>ny gs r (i+1)
def jQ (Tb:World->Prop) (w:World) (v:Value) (gs:List (List T->(Nat×Int)⊕List T)):Prop :=
 ∃ A c,v=.slice A gs.length c/\gs.length<=1000000/\∀ i,(h:i<gs.length)->∃ b o u,A=some ⟨b,o,none⟩/\b<w.heap.size/\w.cell? ⟨b,o+i,none⟩=some u/\gK Tb w u gs[i]
def Wv (gs:List (List T->(Nat×Int)⊕List T)) (l:List T) (w:World) (e:Ending) (w':World):Prop :=
 Below w.heap.size w w'/\((∃ (i k:Nat) (x:Int),ny gs l 0=.inl (i,k,x)/\x≠0/\e=.returned (.tuple #[.slice none 0 0,.agg #[.int .i64 i,.int .i64 k,.int .i64 x]]))\/∃ r v,ny gs l 0=.inr r/\e=.returned (.tuple #[v,.agg #[.int .i64 0,.int .i64 0,.int .i64 0]])/\cu w' v r)
structure KN (b:Nat) (w:World):Prop where
 q0:w.cell? ⟨b,0,none⟩=some (.int .i64 0)
 q1:w.cell? ⟨b,1,none⟩=some (.int .i64 0)
 q2:w.cell? ⟨b,2,none⟩=some (.int .i64 0)
 f0:w.frozen? ⟨b,0,none⟩=false
 f1:w.frozen? ⟨b,1,none⟩=false
 f2:w.frozen? ⟨b,2,none⟩=false
 lt:b<w.heap.size
theorem KN.stay {b:Nat} {w w':World} (h:KN b w) (hb:Below w.heap.size w w'):KN b w' :=
 ⟨(hb.cell (p:=⟨b,0,none⟩) h.lt).trans h.q0,(hb.cell (p:=⟨b,1,none⟩) h.lt).trans h.q1,(hb.cell (p:=⟨b,2,none⟩) h.lt).trans h.q2,(World.frozen?_of_block (a:=⟨b,0,none⟩) (hb.block b h.lt)).trans h.f0,(World.frozen?_of_block (a:=⟨b,1,none⟩) (hb.block b h.lt)).trans h.f1,(World.frozen?_of_block (a:=⟨b,2,none⟩) (hb.block b h.lt)).trans h.f2,Nat.lt_of_lt_of_le h.lt hb.size⟩
theorem KN.new (w:World):KN w.heap.size (w.alloc (.cells #[.int .i64 0,.int .i64 0,.int .i64 0] 57)):=by
 constructor<;>simp [go_sem]
theorem vH {w W:World} (h:Below w.heap.size w W) {b:Nat} (hb:w.heap.size<=b) (u0 u1 u2:Value):Below w.heap.size w (((W.setCell ⟨b,0,none⟩ u0).setCell ⟨b,1,none⟩ u1).setCell ⟨b,2,none⟩ u2):=by
 have one:∀ (W:World) (o:Nat) (u:Value),Below w.heap.size w W->Below w.heap.size w (W.setCell ⟨b,o,none⟩ u):=fun W o u h=>by
  obtain ⟨t1,t2,t3,t4⟩:=gW W ⟨b,o,none⟩ u;exact ⟨t2.trans h.os,t3.trans h.tape,t4.trans h.output,by rw [t1];exact h.size,fun k hk=>(Below.heap_setCell _ _ _ _ (by simp;omega)).trans (h.block k hk)⟩
 exact one _ _ _ (one _ _ _ (one _ _ _ h))
theorem Si {W:World} {b:Nat} (h:KN b W) {v:Value} {l:List T} (hd:cu W v l):cu (((W.setCell ⟨b,0,none⟩ (.int .i64 0)).setCell ⟨b,1,none⟩ (.int .i64 0)).setCell ⟨b,2,none⟩ (.int .i64 0)) v l:=by
 have h1:=BN h.q0;have h2:=BN ((h1 b 1).trans h.q1);have h3:=BN ((h2 b 2).trans ((h1 b 2).trans h.q2));exact hd.cells (by simp [World.setCell]) fun c k=>(h3 c k).trans ((h2 c k).trans (h1 c k))
theorem Ww {Tb:World->Prop} (hL:aS Tb) (pv dv:Value) (gs:List (List T->(Nat×Int)⊕List T)) (l:List T) (w:World) (hp:jQ Tb w pv gs) (hd:cu w dv l) (hT:Tb w) :
  Calls Tryz.prog 23 #[pv,dv] w (Wv gs l w):=by
 obtain ⟨EA,ec,rfl,hn,hes⟩:=hp;have qH:=aj hes;have HT:Hid (∀ w':World,Below w.heap.size w w'->Tb w'):=fun w' hb=>hL w hT w w' hT hb;have HB1:=aj (aQ w (.cells #[.int .i64 0,.int .i64 0,.int .i64 0] 57));have Mf:=aj (KN.new w);have HD1:=aj (hd.keep HB1.out);obtain ⟨DA,dc,hdv,hz⟩:=hd;clear hes hT hL hz;subst hdv;obtain ⟨n,hln⟩:∃ n,gs.length=n:=⟨_,rfl⟩;have Qc:=aj hln;rw [hln] at hn ⊢;clear hln;go_in;go_wp2_with fail;go_loopg [1,13] n (fun g d i wr=>∃ (k:Nat) (l':List T),g=n - k/\k<=n/\i=.int .i64 k/\Hid (Below w.heap.size w wr)/\Hid (KN w.heap.size wr)/\Hid (cu wr d l')/\Hid (ny gs l 0=ny (gs.drop k) l' k))
 case atStart=>exact ⟨0,l,rfl,Nat.zero_le _,rfl,HB1,Mf,HD1,rfl⟩
 case round =>
  obtain ⟨k,l',rfl,hk,rfl,HB,HX,HD,HE⟩:=hrel;by_cases hlt:k<n
  ·have hkl:k<gs.length:=by rw [Qc.out];exact hlt
   obtain ⟨b,o,u,rfl,hbl,p0,hex⟩:=qH.out k hkl;have p0':=(HB.out.cell (p:=⟨b,o+k,none⟩) hbl).trans p0;obtain ⟨ty,p,fid,rfl,hm,hcall,o7⟩:=hex;have HG:Hid (ny gs l 0=ny (gs[k]::gs.drop (k+1)) l' k):=by show _=_;rw [<- List.drop_eq_getElem_cons hkl];exact HE.out
   generalize gs[k]=gk at o7 HG;have hmw:=hm wr;have HC:=aj (o7 wr u1 l' HB.out HD.out (HT.out _ HB.out));clear p0 o7 hm;go_wp2_with fail;refine HC.out.mono ?_;rintro e w2 ⟨b2,⟨j,x,h1,h2,rfl⟩ | ⟨r,v,h1,rfl,h3⟩⟩
   ·have ez:(x==0)=false:=by simpa using h2
    have HF:Hid (ny gs l 0=.inl (k,j,x)/\x≠0):=⟨by rw [HG.out,ny,h1],h2⟩;have HB2:=aj (HB.out.trans (b2.mono HB.out.size));have j5:=aj (HX.out.stay b2);have dF:=aj (vH HB2.out (b:=w.heap.size) (Nat.le_refl _) (.int .i64 (k:Nat)) (.int .i64 (j:Nat)) (.int .i64 x));have q0:=j5.out.q0;have q1:=j5.out.q1;have q2:=j5.out.q2;have f0:=j5.out.f0;have f1:=j5.out.f1;have f2:=j5.out.f2;clear b2 h1 h2 HC;go_wp2_with fail;refine bodyPost_ret (v:=.tuple #[.slice none 0 0,.agg #[.int .i64 (k:Nat),.int .i64 (j:Nat),.int .i64 x]]) (by simp [results,Tryz.results23,go_sem, *]) rfl ?_;exact ⟨dF.out,.inl ⟨k,j,x,HF.out.1,HF.out.2,rfl⟩⟩
   ·have HE2:Hid (ny gs l 0=ny (gs.drop (k+1)) r (k+1)):=by show _=_;rw [HG.out,ny,h1]
    have HB2:=aj (HB.out.trans (b2.mono HB.out.size));have j5:=aj (HX.out.stay b2);have HD2:=aj h3;clear b2 h1 h3 HC;go_wp2_with fail;go_roundg (n - (k+1))
    case rel=>exact ⟨k+1,r,rfl,by omega,by go_num,HB2,j5,HD2,HE2⟩
    case measure=>omega
  ·obtain rfl:k=n:=by omega
   have HF:Hid (ny gs l 0=.inr l'):=by
    show _=_;rw [HE.out,<- Qc.out,List.drop_length];rfl
   have dF:=aj (vH HB.out (b:=w.heap.size) (Nat.le_refl _) (.int .i64 0) (.int .i64 0) (.int .i64 0));have HDf:=aj (Si HX.out HD.out);have q0:=HX.out.q0;have q1:=HX.out.q1;have q2:=HX.out.q2;have f0:=HX.out.f0;have f1:=HX.out.f1;have f2:=HX.out.f2;go_wp2_with fail;refine bodyPost_ret (v:=.tuple #[u1,.agg #[.int .i64 0,.int .i64 0,.int .i64 0]]) (by simp [results,Tryz.results23,go_sem, *]) rfl ?_;exact ⟨dF.out,.inr ⟨l',u1,HF.out,rfl,HDf.out⟩⟩
abbrev rD:=List T->(Nat×Int)⊕List T
def acB (Tb:World->Prop) (wB:World) (g:rD) (w:World) (e:Ending) (w':World):Prop :=
 Below w.heap.size w w'/\∃ ty p,e=.returned (.iface ty p)/\gB wB w' (aT w w') (fun x=>gK Tb x (.iface ty p) g)
def nA (Tb:World->Prop) (t:T) (g:rD):Prop:=∀ (v:Value) (wB w:World),At wB 13 v t->bM t->Below wB.heap.size wB w->Tb w->Calls Tryz.prog 94 #[v] w (acB Tb wB g w)
theorem KO {base:Nat} {hv:Value} {w wr:World} (hlo:w.heap.size<=base) {b:Nat} (h:Y0 base hv wr b):aT w wr b:=⟨Nat.le_trans hlo h.1,h.2.1⟩
theorem acC:(Tryz.prog.info? 82).map (fun i=>(i.zero,i.size,i.bytes))=some (some .nilIface,1,16):=by kernel_rfl
def acD (Tb:World->Prop) (wB:World) (w:World) (X:Nat->Prop) (cs:List Value) (g:rD):Prop:=∃ ty q,cs=[.iface ty q]/\gB wB w X (fun x=>gK Tb x (.iface ty q) g)
theorem qK (Tb:World->Prop) (wB:World):uM (acD Tb wB):=fun _ _ _ _ _ _ h hb=>by
 obtain ⟨ty,q,h1,h2⟩:=h;exact ⟨ty,q,h1,h2.move hb⟩
theorem NP {Tb:World->Prop} {wB:World} {base:Nat} {hv:Value} {gs:List rD} {xs:List Value} {w wr:World} (h:ru (acD Tb wB) 1 82 base hv gs xs wr) (hlo:w.heap.size<=base) (hn:gs.length<=1000000):∃ A c,hv=.slice A gs.length c/\gB wB wr (aT w wr) (fun x=>jQ Tb x (.slice A gs.length c) gs):=by
 have hrow:=h.row;rcases h.row.2 with ⟨rfl,h0⟩ | ⟨g,cap,cur,rfl,hb0,hgb,_⟩
 ·exact ⟨none,0,by rw [h0],gB.all fun w' _=>⟨none,0,rfl,hn,fun i hi=>by omega⟩⟩
 ·have hgl:=(Array.getElem?_eq_some_iff.1 hgb).1;refine ⟨some ⟨g,0,none⟩,cap,rfl,aT w wr,fun b hb=>⟨hb,hb.2⟩,fun w' hw hy=>⟨_,_,rfl,hn,fun i hi=>?_⟩⟩;obtain ⟨ty,q,hc,hs⟩:=h.el i hi;have c0:=aW hrow (oF (r:=0) (by rw [hc];rfl) (by omega));have hgw:w'.heap[g]?=wr.heap[g]?:=hy g ⟨by omega,hgl⟩;refine ⟨g,0,.iface ty q,rfl,lU hgl hgw,?_,?_⟩
  ·rw [aC hgw,Nat.zero_add];rw [Nat.mul_one,Nat.add_zero] at c0;exact c0
  ·obtain ⟨Y,h1,h2⟩:=hs;exact h2 w' hw fun b hb=>hy b (KO hlo (h1 b hb).1)
def NQ (Tb:World->Prop) (wB:World) (gs:List rD) (w:World) (e:Ending) (w':World):Prop :=
 Below w.heap.size w w'/\∃ A c,e=.returned (.slice A gs.length c)/\gB wB w' (aT w w') (fun x=>jQ Tb x (.slice A gs.length c) gs)
theorem E8 {Tb:World->Prop} (hL:aS Tb) (t:T) (gs:List rD) (k5:ah t=5) (hl:nL t=gs.length) (hn:gs.length<=8) (hgs:∀ i,(hi:i<gs.length)->nA Tb (elt t i) gs[i])
  (v:Value) (wB w:World) (ha:At wB 13 v t) (hk:bM t) (hb0:Below wB.heap.size wB w) (hT:Tb w):Calls Tryz.prog 64 #[v] w (NQ Tb wB gs w):=by
 obtain ⟨iE,hiE,zE0,zE1,zE2⟩:=info_parts acC;obtain ⟨g1,La,Ka,Lc,Kc,hg1,rfl,hfj,hel,hnm⟩:=ha.open;have zu:=aj hk;have Gd:=aj hel.out;have HT:Hid (∀ w':World,Below w.heap.size w w'->Tb w'):=fun w' hb=>hL w hT w w' hT hb;have qH:=aj hgs;have Hl:=aj hl;have Zz:=aj hn;have hnl:nL t<=8:=by omega
 have ami:(nL t:Int)<=8:=by omega
 have Hg1:=aj hg1;rw [k5];clear ha hk hel hnm hfj hT hL hgs hl hn hg1;go_in;go_wp2_with fail;refine (eu _).mono ?_;rintro e w2 ⟨rfl,rfl⟩;go_wp2_with fail;go_loopg [3,19] (nL t) (fun g o i wr=>∃ (k:Nat) (xs:List Value),g=nL t - k/\k<=nL t/\i=.int .i64 k/\Hid (Below (w.heap.size+1) (w.alloc (.cells #[.int .i64 5,.int .i64 (au t),.string (ay t),.slice La (nL t) Lc,.slice Ka (nK t) Kc] 36)) wr)/\Hid (ru (acD Tb wB) 1 82 (w.heap.size+1) o (gs.take k) xs wr))
 case atStart=>exact ⟨0,[],rfl,Nat.zero_le _,rfl,Below.refl _ _,ru.nil _ _ _ _ _⟩
 case round =>
  obtain ⟨k,xs,rfl,hk,rfl,HB,HL⟩:=hrel;obtain ⟨q0,q1,q2,q3,q4,hz,hbw⟩:=dB HB.out;have nR:=aj (hb0.trans (hbw.mono hb0.size));have gQ:=aj hbw;clear hbw;by_cases hlt:k<nL t
  ·have wV:k<gs.length:=by have:=Hl.out;omega
   obtain ⟨bb,oo,A,B,C,D,rfl,hbl,p0,p1,p2,p3,p4,Ha⟩:=Gd.out.shape nR.out k hlt;obtain ⟨j,hj⟩:∃ j,elt t k=j:=⟨_,rfl⟩;have HKe:=aj (zu.out.elt hlt);have HPs:=aj (qH.out k wV);rw [hj] at p0 p1 p2 p3 p4 Ha HKe HPs;clear hj;have uo:=aj (aQ wr (vC j A B C D));have HC:=aj (HPs.out _ wB _ (Ha.out.up (show g1<=13 by have:=Hg1.out;omega)) HKe.out (nR.out.trans (uo.out.mono nR.out.size)) (HT.out _ (gQ.out.trans (uo.out.mono gQ.out.size))));have CY:Hid (gs.take (k+1)=gs.take k++[gs[k]]):=by show _=_;rw [List.take_add_one,List.getElem?_eq_getElem wV];rfl
   have hxl:(gs.take k).length=k:=by rw [List.length_take];omega
   generalize gs[k]=gk at HC CY;clear HPs HKe;go_wp2_with fail;refine HC.out.mono ?_;rintro e w3 ⟨b3,t6,v6,rfl,ht⟩;have UW:=aj (ht.later (wa:=wr) (Below.refl _ _) uo.out.size);have Hb3:=aj (uo.out.trans (b3.mono uo.out.size));have bT:=aj (aQ w3 (.cells #[.iface t6 v6] 82));have rH:=aj ((HL.out.keep (qK Tb wB) Hb3.out).keep (qK Tb wB) bT.out);have qy:Hid (Src Tryz.prog 1 53 (.slice (some ⟨w3.heap.size,0,none⟩) 1 1) 1 [.iface t6 v6] (w3.alloc (.cells #[.iface t6 v6] 82))):=Src.ofSlice _ Tryz.underlying53 ⟨w3.heap.size,0,none⟩ 1 1 [.iface t6 v6] (by simp) (World.news_of_block (heap_alloc_new w3 _)) (by simp [Value.oneCell']);have hlo:w.heap.size+1<=(w3.alloc (.cells #[.iface t6 v6] 82)).heap.size:=by have:=Hb3.out.size;simp;omega
   clear b3 ht HC;go_wp2_with (at_builtin;refine aD _ rfl (.tmp 23) (.tmp 26) 53 53 rfl (w.heap.size+1) 82 iE _ 1 16 Tryz.underlying53 hiE zE0 zE1 zE2 rfl u3 (gs.take k).length xs rfl rH.out.row (.slice (some ⟨w3.heap.size,0,none⟩) 1 1) 1 [.iface t6 v6] rfl qy.out (by unfold maxLen;omega) (by omega) hlo ?_;intro v' w6 pV lZ dW);have zn:=aj (HL.out.grow (x:=gk) (cs:=[.iface t6 v6]) (qK Tb wB) (Hb3.out.trans (bT.out.mono Hb3.out.size)) rfl (qK Tb wB _ _ _ _ _ _ ⟨t6,v6,rfl,UW.out⟩ (fun b hb=>⟨bT.out.block b hb.2,hb⟩)) (fun b hb=>⟨hb.1,Nat.lt_of_lt_of_le hb.2 bT.out.size⟩) (by omega) pV lZ dW);have iq:=aj (bY ((HB.out.trans (Hb3.out.mono (by omega))).trans (bT.out.mono (by have:=Hb3.out.size;omega))) rH.out.row (Nat.le_refl _) (by omega) lZ);rw [<- CY.out] at zn;clear pV lZ dW;go_wp2_with fail;go_roundg (nL t - (k+1))
   case rel=>exact ⟨k+1,_,rfl,by omega,by go_num,iq,zn⟩
   case measure=>omega
  ·obtain rfl:k=nL t:=by omega
   rw [Hl.out,List.take_length] at HL;obtain ⟨A,c,rfl,hs⟩:=NP (w:=w) HL.out (by omega) (by have:=Zz.out;omega);have HS:=aj hs;clear hs HL;go_wp2_with fail;go_ret;exact ⟨gQ.out,_,_,rfl,HS.out⟩
def qL (Tb:World->Prop) (t:T) (gs:List rD):Prop:=∀ (v:Value) (wB w:World),At wB 13 v t->bM t->Below wB.heap.size wB w->Tb w->Calls Tryz.prog 64 #[v] w (NQ Tb wB gs w)
theorem G8 {Tb:World->Prop} (t:T) (gs:List rD) (h:qL Tb t gs) (v:Value) (wB w:World) (ha:At wB 13 v t) (hk:bM t) (hb0:Below wB.heap.size wB w) (hT:Tb w) (p:Nat)
  (La Ka:Option Addr) (Lc Kc:Nat) (hv:v=.agg #[.int .i64 (ah t),.int .i64 (au t),.string (ay t),.slice La (nL t) Lc,.slice Ka (nK t) Kc])
  (q0:w.cell? ⟨p,0,none⟩=some (.int .i64 (ah t))) (q1:w.cell? ⟨p,1,none⟩=some (.int .i64 (au t))) (q2:w.cell? ⟨p,2,none⟩=some (.string (ay t))) (q3:w.cell? ⟨p,3,none⟩=some (.slice La (nL t) Lc)) (q4:w.cell? ⟨p,4,none⟩=some (.slice Ka (nK t) Kc)) :
  Calls Tryz.prog 63 #[.pointer (some ⟨p,0,none⟩)] w (NQ Tb wB gs w):=by
 subst hv;have HC:=aj (h _ wB w ha hk hb0 hT);clear ha hk hb0 hT h;go_in;go_wp2_with fail;refine HC.out.mono ?_;rintro e w3 ⟨b3,A,c,rfl,hs⟩;have HB3:=aj b3;have HS:=aj hs;clear b3 hs;go_wp2_with fail;go_ret;exact ⟨HB3.out,_,_,rfl,HS.out⟩
theorem NR {Tb:World->Prop} (hL:aS Tb) (t:T) (gs:List rD) (h:qL Tb t gs) (v:Value) (wB w:World) (ha:At wB 13 v t) (hk:bM t) (hb0:Below wB.heap.size wB w) (hT:Tb w) :
  Calls Tryz.prog 40 #[v] w fun e w'=>Below w.heap.size w w'/\∃ A c,e=.returned (.tuple #[.slice A gs.length c,.int .i64 0])/\gB wB w' (aT w w') (fun x=>jQ Tb x (.slice A gs.length c) gs):=by
 have QM:∀ (fn:Fn) (first cap:Array Value) (w:World),(Instr.makeFunc fn first cap).run Tryz.prog w=.ok (.func fn first cap) w:=fun _ _ _ _=>rfl;obtain ⟨g1,La,Ka,Lc,Kc,hg1,hv,_,_,_⟩:=ha.open;have HB1:=aj (aQ w (vC t La Lc Ka Kc));have HE:=aj (gJ (w.alloc (vC t La Lc Ka Kc)));have hbb:Below (w.heap.size+1) (w.alloc (vC t La Lc Ka Kc)) (dX (w.alloc (vC t La Lc Ka Kc))):=HE.out.2.2.2.mono (by simp);obtain ⟨q0,q1,q2,q3,q4,hz,hbw⟩:=dB hbb;have HI:=aj (G8 t gs h v wB (dX (w.alloc (vC t La Lc Ka Kc))) ha hk (hb0.trans (hbw.mono hb0.size)) (hL w hT _ _ hT hbw) w.heap.size La Ka Lc Kc hv q0 q1 q2 q3 q4)
 have HA:=aj (Wj 63 (fun _ _=>rfl) (fun v w'=>∃ A c,v=.slice A gs.length c/\gB wB w' (aT (dX (w.alloc (vC t La Lc Ka Kc))) w') (fun x=>jQ Tb x (.slice A gs.length c) gs)) (.pointer (some ⟨w.heap.size,0,none⟩)) _ (HI.out.mono fun e w' hh=>by
  obtain ⟨h1,A,c,h2,h3⟩:=hh;exact ⟨h1,_,h2,A,c,rfl,h3⟩))
 subst hv;clear ha hk hb0 hT h hL hbb q0 q1 q2 q3 q4 hz hbw HI hg1 HE;go_in;go_wp2_with fail;refine HA.out.mono ?_;rintro e w3 ⟨b3,x,w2,rfl,⟨A,c,rfl,hs⟩,hab,hb2⟩;have HB3:=aj (HB1.out.trans (b3.mono HB1.out.size));have HS:=aj (hs.attempt (w:=w) (by simp) hab);clear b3 hs hab hb2 HA;go_wp2_with fail;refine bodyPost_ret (v:=.tuple #[.slice A gs.length c,.int .i64 0]) (by simp [results,Tryz.results40,go_sem, *]) rfl ?_;exact ⟨HB3.out,_,_,rfl,HS.out⟩
def l7 (n:Int) (m:Nat):Nat:=if n<=m then n.toNat else m
theorem BO (n:Int) (m:Nat):l7 n m<=m:=by
 unfold l7;split<;>omega
theorem yw (n:Int) (h0:0<=n) (DA:Option Addr) (m dc:Nat) (w:World) :
  Calls Tryz.prog 254 #[.agg #[.int .i64 n],.slice DA m dc] w fun e w'=>Below w.heap.size w w'/\e=.returned (.int .i64 (l7 n m)):=by
 have HB1:=aj (aQ w (.cells #[.int .i64 n] 184));by_cases hle:n<=m
 ·have Hc:Hid (l7 n m=n.toNat):=by show _=_;unfold l7;rw [if_pos hle]
  have hmin:min n (m:Int)=n:=by omega
  go_in;go_wp2_with fail;go_ret;exact ⟨HB1.out,by rw [Hc.out];simp;omega⟩
 ·have Hc:Hid (l7 n m=m):=by show _=_;unfold l7;rw [if_neg hle]
  have hmin:min n (m:Int)=m:=by omega
  go_in;go_wp2_with fail;go_ret;exact ⟨HB1.out,by rw [Hc.out];rfl⟩
def Dh (n:Int) (l:List T):(Nat×Int)⊕List T:=.inr (l.take (l7 n l.length))
def vI (n:Int) (l:List T):(Nat×Int)⊕List T:=.inr (l.drop (l7 n l.length))
theorem Sj {w:World} {DA:Option Addr} {dc:Nat} {l:List T} (h:cu w (.slice DA l.length dc) l) {m:Nat} (hm:m<=l.length):cu w (.slice DA m dc) (l.take m):=by
 obtain ⟨La,Lc,h1,h2,h3,h4,h5,h6⟩:=h;simp only [Value.slice.injEq,true_and] at h1;obtain ⟨rfl,rfl⟩:=h1;have hl:(l.take m).length=m:=by rw [List.length_take];omega
 refine ⟨DA,dc,by rw [hl],by omega,by omega,h4,fun i hi=>?_,fun i hi=>?_⟩
 ·rw [aI,hl] at hi;have:=h5 i (by rw [aI];omega);rw [dD _ (by omega)] at this ⊢;rw [List.getElem_take];exact this
 ·rw [List.getElem_take];exact h6 i (by rw [hl] at hi;omega)
theorem Wx (n:Int) (h0:0<=n) (dv:Value) (l:List T) (w:World) (hd:cu w dv l):Calls Tryz.prog 256 #[.agg #[.int .i64 n],dv] w (qJ (Dh n) l w):=by
 have HB1:=aj (aQ w (.cells #[.int .i64 n] 188));have Hd:=aj hd;obtain ⟨DA,dc,rfl,hn,hdc,hcm,hzz⟩:=hd;clear hzz;have HC:=aj (yw n h0 DA l.length dc (w.alloc (.cells #[.int .i64 n] 188)));have Hm:=aj (BO n l.length);have Hf:Hid (Dh n l=.inr (l.take (l7 n l.length))):=rfl;generalize l7 n l.length=m at HC Hm Hf;have m1:=Hm.out;have m2:¬ (m:Int)<0:=by omega
 have m3:(m:Int)<=(dc:Int):=by omega
 have m4:m<=dc:=by omega
 go_in;go_wp2_with fail;refine HC.out.mono ?_;rintro e w2 ⟨b2,rfl⟩;have HB2:=aj (HB1.out.trans (b2.mono HB1.out.size));have HD:=aj (Sj (Hd.out.keep HB2.out) m1);clear b2 HC;go_wp2_with fail;refine bodyPost_ret (v:=.tuple #[.slice DA m dc,.int .i64 0,.int .i64 0]) (by simp [results,Tryz.results256,go_sem, *]) rfl ?_;exact ⟨HB2.out,.inr ⟨_,_,Hf.out,rfl,HD.out⟩⟩
theorem NS (p:Value) (w:World):(method 419 188 p "sheaf/pipe.run").run Tryz.prog w=.ok (256,p) w:=by kernel_rfl
theorem Wy (Tb:World->Prop) {w:World} {n:Int} (h0:0<=n):gK Tb w (.iface 188 (.agg #[.int .i64 n])) (Dh n) :=
 ⟨_,_,_,rfl,NS _,fun _ _=>rfl,fun wr dv l _ hd _=>Wx n h0 dv l wr hd⟩
theorem E9 {w:World} {b o dc:Nat} {l:List T} (h:cu w (.slice (some ⟨b,o,none⟩) l.length dc) l) {m:Nat} (hm:m<=l.length) {o':Nat} (ho:m<l.length->o'=o+m*5):cu w (.slice (some ⟨b,o',none⟩) (l.length - m) (dc - m)) (l.drop m):=by
 obtain ⟨La,Lc,h1,h2,h3,h4,h5,h6⟩:=h;simp only [Value.slice.injEq,true_and] at h1;obtain ⟨rfl,rfl⟩:=h1;have hl:(l.drop m).length=l.length - m:=List.length_drop;refine ⟨_,_,by rw [hl],by omega,by omega,by omega,fun i hi=>?_,fun i hi=>?_⟩
 ·rw [aI,hl] at hi;obtain rfl:=ho (by omega);obtain ⟨b',o2,c0,c1,c2,c3,c4,e0,hbl,q0,q1,q2,q3,q4,ha⟩:=h5 (m+i) (by rw [aI];omega);simp only [Option.some.injEq,Addr.mk.injEq,and_true] at e0;obtain ⟨rfl,rfl⟩:=e0;rw [dD _ (by omega)] at ha ⊢;rw [List.getElem_drop];have e:∀ r,o+(m+i)*5+r=o+m*5+i*5+r:=fun r=>by omega
  refine ⟨b,o+m*5,c0,c1,c2,c3,c4,rfl,hbl,?_,?_,?_,?_,?_,ha⟩
  ·rw [<- q0];exact congrArg (fun k=>w.cell? ⟨b,k,none⟩) (e 0).symm
  ·rw [<- q1];exact congrArg (fun k=>w.cell? ⟨b,k,none⟩) (e 1).symm
  ·rw [<- q2];exact congrArg (fun k=>w.cell? ⟨b,k,none⟩) (e 2).symm
  ·rw [<- q3];exact congrArg (fun k=>w.cell? ⟨b,k,none⟩) (e 3).symm
  ·rw [<- q4];exact congrArg (fun k=>w.cell? ⟨b,k,none⟩) (e 4).symm
 ·rw [List.getElem_drop];exact h6 _ (by rw [hl] at hi;omega)
theorem Sk (n:Int) (h0:0<=n) (b o dc:Nat) (l:List T) (w:World) (hd:cu w (.slice (some ⟨b,o,none⟩) l.length dc) l):Calls Tryz.prog 255 #[.agg #[.int .i64 n],.slice (some ⟨b,o,none⟩) l.length dc] w (qJ (vI n) l w):=by
 have HB1:=aj (aQ w (.cells #[.int .i64 n] 187));have Hd:=aj hd;obtain ⟨DA,dc',hdv,hn,hdc,hcm,hzz⟩:=hd;simp only [Value.slice.injEq,true_and] at hdv;obtain ⟨hda,rfl⟩:=hdv;clear hzz hda;have HC:=aj (yw n h0 (some ⟨b,o,none⟩) l.length dc (w.alloc (.cells #[.int .i64 n] 187)));have Hm:=aj (BO n l.length);have Hf:Hid (vI n l=.inr (l.drop (l7 n l.length))):=rfl;generalize l7 n l.length=m at HC Hm Hf;have m1:=Hm.out;have m2:¬ (m:Int)<0:=by omega
 have m3:(m:Int)<=(l.length:Int):=by omega
 have m4:m<=dc:=by omega
 by_cases hmd:m=dc
 ·go_in;go_wp2_with fail;refine HC.out.mono ?_;rintro e w2 ⟨b2,rfl⟩;have HB2:=aj (HB1.out.trans (b2.mono HB1.out.size));have HD:=aj (E9 (Hd.out.keep HB2.out) m1 (o':=o) (fun h=>by omega));clear b2 HC;go_wp2_with fail;refine bodyPost_ret (v:=.tuple #[.slice (some ⟨b,o,none⟩) (l.length - m) (dc - m),.int .i64 0,.int .i64 0]) (by simp [results,Tryz.results255,go_sem, *]) rfl ?_;exact ⟨HB2.out,.inr ⟨_,_,Hf.out,rfl,HD.out⟩⟩
 ·go_in;go_wp2_with fail;refine HC.out.mono ?_;rintro e w2 ⟨b2,rfl⟩;have HB2:=aj (HB1.out.trans (b2.mono HB1.out.size));have HD:=aj (E9 (Hd.out.keep HB2.out) m1 (o':=o+m*5) (fun h=>rfl));clear b2 HC;go_wp2_with fail;refine bodyPost_ret (v:=.tuple #[.slice (some ⟨b,o+m*5,none⟩) (l.length - m) (dc - m),.int .i64 0,.int .i64 0]) (by simp [results,Tryz.results255,go_sem, *]) rfl ?_;exact ⟨HB2.out,.inr ⟨_,_,Hf.out,rfl,HD.out⟩⟩
theorem BP (w:World) (A:Option Addr) {c:Nat} (h:c<=9223372036854775807):cu w (.slice A 0 c) [] :=
 ⟨A,c,rfl,Nat.zero_le _,Nat.zero_le _,h,fun i hi=>absurd hi (Nat.not_lt_zero i),fun i hi=>absurd hi (Nat.not_lt_zero i)⟩
theorem Sl (n:Int) (h0:0<=n) (DA:Option Addr) (dc:Nat) (w:World) (hcm:dc<=9223372036854775807):Calls Tryz.prog 255 #[.agg #[.int .i64 n],.slice DA 0 dc] w (qJ (vI n) [] w):=by
 have HB1:=aj (aQ w (.cells #[.int .i64 n] 187));have HC:=aj (yw n h0 DA 0 dc (w.alloc (.cells #[.int .i64 n] 187)));have hc0:l7 n 0=0:=Nat.le_zero.1 (BO n 0);rw [hc0] at HC;clear hc0;have Hf:Hid (vI n []=.inr []):=by show vI n []=.inr [];unfold vI;rw [List.drop_nil]
 cases DA with
 | none =>
  go_in;go_wp2_with fail;refine HC.out.mono ?_;rintro e w2 ⟨b2,rfl⟩;have HB2:=aj (HB1.out.trans (b2.mono HB1.out.size));clear b2 HC;go_wp2_with fail;refine bodyPost_ret (v:=.tuple #[.slice none 0 dc,.int .i64 0,.int .i64 0]) (by simp [results,Tryz.results255,go_sem, *]) rfl ?_;exact ⟨HB2.out,.inr ⟨_,_,Hf.out,rfl,BP _ _ (by omega)⟩⟩
 | some a =>
  by_cases hd0:dc=0
  ·subst hd0;go_in;go_wp2_with fail;refine HC.out.mono ?_;rintro e w2 ⟨b2,rfl⟩;have HB2:=aj (HB1.out.trans (b2.mono HB1.out.size));clear b2 HC;go_wp2_with fail;refine bodyPost_ret (v:=.tuple #[.slice (some a) 0 0,.int .i64 0,.int .i64 0]) (by simp [results,Tryz.results255,go_sem, *]) rfl ?_;exact ⟨HB2.out,.inr ⟨_,_,Hf.out,rfl,BP _ _ (by omega)⟩⟩
  ·go_in;go_wp2_with fail;refine HC.out.mono ?_;rintro e w2 ⟨b2,rfl⟩;have HB2:=aj (HB1.out.trans (b2.mono HB1.out.size));clear b2 HC;go_wp2_with fail;refine bodyPost_ret (v:=.tuple #[.slice (some a) 0 dc,.int .i64 0,.int .i64 0]) (by simp [results,Tryz.results255,go_sem, *]) rfl ?_;exact ⟨HB2.out,.inr ⟨_,_,Hf.out,rfl,BP _ _ (by omega)⟩⟩
theorem Wz (n:Int) (h0:0<=n) (dv:Value) (l:List T) (w:World) (hd:cu w dv l):Calls Tryz.prog 255 #[.agg #[.int .i64 n],dv] w (qJ (vI n) l w):=by
 have Hd:=hd;obtain ⟨DA,dc,rfl,hn,hdc,hcm,hel,_⟩:=hd;cases l with
 | nil=>exact Sl n h0 DA dc w hcm
 | cons d r =>
  obtain ⟨b,o,_,_,_,_,_,rfl,_⟩:=hel 0 (by rw [aI];exact Nat.succ_pos _);exact Sk n h0 b o dc (d::r) w Hd
theorem Sm (p:Value) (w:World):(method 419 187 p "sheaf/pipe.run").run Tryz.prog w=.ok (255,p) w:=by kernel_rfl
theorem ZA (Tb:World->Prop) {w:World} {n:Int} (h0:0<=n):gK Tb w (.iface 187 (.agg #[.int .i64 n])) (vI n) :=
 ⟨_,_,_,rfl,Sm _,fun _ _=>rfl,fun wr dv l _ hd _=>Wz n h0 dv l wr hd⟩
def NT (wB:World) (t:T) (w:World) (e:Ending) (w':World):Prop:=Below w.heap.size w w'/\∃ FA fc,e=.returned (.slice FA (nK t) fc)/\gB wB w' (aT w w') (fun x=>eP x 16 (.slice FA (nK t) fc) t)
theorem wW {Tb:World->Prop} (hS:dw Tb) (hL:aS Tb) (t:T) (hok:bH 16 t=true) (v:Value) (wB w:World) (ha:At wB 13 v t) (hk:bM t) (hb0:Below wB.heap.size wB w) (hT:Tb w) :
  Calls Tryz.prog 122 #[v] w (NT wB t w):=by
 obtain ⟨g1,La,Ka,Lc,Kc,hg1,hv,_,_,_⟩:=ha.open;have HB1:=aj (aQ w (vC t La Lc Ka Kc));have hP:xS ⟨wB,fun b=>b<wB.heap.size⟩ 13 v t:=ha.atP;have HC:=aj (vo hS hL ⟨wB,fun b=>b<wB.heap.size⟩ 13 v t _ (by omega) hP hk (hb0.trans (HB1.out.mono hb0.size)) (hL w hT _ _ hT HB1.out));have Hok:=aj hok;have Hb0:=aj hb0;subst hv;clear ha hk hb0 hT hL hg1 hok hP hS;go_in;go_wp2_with fail;refine HC.out.mono ?_;rintro e w3 ⟨b3,⟨_,fv,rfl,hr⟩ | ⟨h,rfl⟩⟩
 ·have HB3:=aj (HB1.out.trans (b3.mono HB1.out.size));obtain ⟨FA,fc,rfl⟩:=hr.shape
  have HS:Hid (gB wB w3 (aT w w3) (fun x=>eP x 16 (.slice FA (nK t) fc) t)):=by
   refine ⟨aT w w3,fun b hb=>⟨hb,hb.2⟩,fun w2 hw hy=>?_⟩
   have hr2:=iG.move (w0:=⟨wB,fun b=>b<wB.heap.size⟩) (w':=w2) (X':=fun b=>b<w2.heap.size) (fun b hb=>by
    have hb':aT w w3 b:=⟨by have:=hb.1;simp at this;omega,hb.2⟩;exact ⟨hy b hb',lU hb.2 (hy b hb')⟩) 16 _ _ hr
   exact iG.at (w0:=⟨wB,fun b=>b<wB.heap.size⟩) (fun b h=>h) (fun f v u ha=>At.keep hw (qg.at ha)) 16 _ _ hr2
  clear b3 hr HC;go_wp2_with fail;refine (eu _).mono ?_;rintro e w4 ⟨rfl,rfl⟩;go_wp2_with fail;go_ret;exact ⟨HB3.out,_,_,rfl,HS.out⟩
 ·rw [Hok.out] at h;cases h
def G9:ByteArray:=⟨#[36,109,97,116,99,104]⟩
theorem wX {Tb:World->Prop} (hA:dx Tb) (hI:bn Tb) (hL:aS Tb) (t j:T) (k6:ah t=6) (k1:nK t=1) (hj:elt t 0=j) (hx:bR t 0=G9) (h:∀ (v:Value) (wB w:World),At wB 13 v j->bM j->Below wB.heap.size wB w->Tb w->Calls Tryz.prog 122 #[v] w (NT wB j w)):nA Tb t (G7 (gy 16 j)):=by
 intro v wB w ha hk hb0 hT;have l1:nL t=1:=by have:=hk.names k6;omega
 have hkj:bM j:=by rw [<- hj];exact hk.elt (by omega)
 have Ha:=aj ha;obtain ⟨g1,La,Ka,Lc,Kc,hg1,rfl,_,_,_⟩:=ha.open;have HB1:=aj (aQ w (vC t La Lc Ka Kc));have HC:=aj (nu t j G9 hj hx _ wB _ Ha.out hk k6 k1 (hb0.trans (HB1.out.mono hb0.size)));have HE:Hid (∀ (v:Value) (w':World),At wB 13 v j->Below w.heap.size w w'->Calls Tryz.prog 122 #[v] w' (NT wB j w')):=fun v w' h1 h2=>h v wB w' h1 hkj (hb0.trans (h2.mono hb0.size)) (hL w hT w w' hT h2);clear ha hk hg1 hb0 hT h k6 k1 l1 hkj Ha hj hx;unfold G9 at *;go_in;go_wp2_with fail;refine HC.out.mono ?_;rintro e w2 ⟨b2,A,B,C,D,rfl,hat⟩;have fF:=aj (aQ w2 (vC j A B C D));have HB2:=aj (HB1.out.trans (b2.mono HB1.out.size));have HB3:=aj (HB2.out.trans (fF.out.mono HB2.out.size));have HP:=aj (HE.out _ _ hat HB3.out);have HY:=aj (aJ w2 (.int .i64 (ah j)) (.int .i64 (au j)) (.string (ay j)) (.slice A (nL j) B) (.slice C (nK j) D));clear b2 hat HC HE;have y0:=HY.out.q0;have y1:=HY.out.q1;have y2:=HY.out.q2;have y3:=HY.out.q3;have y4:=HY.out.q4;go_wp2_with fail;refine HP.out.mono ?_;rintro e w5 ⟨b5,FA,fc,rfl,hs⟩;have eU:=aj (HB3.out.trans (b5.mono HB3.out.size));have HS:=aj ((hs.later (wa:=w) (Below.refl _ _) HB3.out.size).mono (Q:=fun x=>gK Tb x (.iface 162 (.agg #[.slice FA (nK j) fc])) (G7 (gy 16 j))) fun w' hw hh=>Wu hA hI hL hh);clear b5 hs HP y0 y1 y2 y3 y4;go_wp2_with fail;go_ret;exact ⟨eU.out,_,_,rfl,HS.out⟩
structure ChB (b:Nat) (fv v1 v2 d0 d1 d2 d3 d4:Value) (w:World):Prop where
 c0:w.cell? ⟨b,0,none⟩=some fv
 c1:w.cell? ⟨b,1,none⟩=some v1
 c2:w.cell? ⟨b,2,none⟩=some v2
 lt:b<w.heap.size
 box:aH (b+1) d0 d1 d2 d3 d4 w
 res:aH (b+2) (.int .i64 0) (.int .i64 0) (.string ⟨#[]⟩) (.slice none 0 0) (.slice none 0 0) w
theorem ChB.stay {b:Nat} {fv v1 v2 d0 d1 d2 d3 d4:Value} {w w':World} (h:ChB b fv v1 v2 d0 d1 d2 d3 d4 w) (hb:Below w.heap.size w w'):ChB b fv v1 v2 d0 d1 d2 d3 d4 w' :=
 ⟨(hb.cell (p:=⟨b,0,none⟩) h.lt).trans h.c0,(hb.cell (p:=⟨b,1,none⟩) h.lt).trans h.c1,(hb.cell (p:=⟨b,2,none⟩) h.lt).trans h.c2,Nat.lt_of_lt_of_le h.lt hb.size,h.box.stay hb,h.res.stay hb⟩
theorem ChB.new (w:World) (fv v1 v2 d0 d1 d2 d3 d4:Value):ChB w.heap.size fv v1 v2 d0 d1 d2 d3 d4 (((w.alloc (.cells #[fv,v1,v2] 278)).alloc (.cells #[d0,d1,d2,d3,d4] 36)).alloc (.cells #[.int .i64 0,.int .i64 0,.string ⟨#[]⟩,.slice none 0 0,.slice none 0 0] 36)):=by
 have hb2:=aJ (w.alloc (.cells #[fv,v1,v2] 278)) d0 d1 d2 d3 d4;have hb3:=aJ ((w.alloc (.cells #[fv,v1,v2] 278)).alloc (.cells #[d0,d1,d2,d3,d4] 36)) (.int .i64 0) (.int .i64 0) (.string ⟨#[]⟩) (.slice none 0 0) (.slice none 0 0);have hk:Below ((w.alloc (.cells #[fv,v1,v2] 278)).alloc (.cells #[d0,d1,d2,d3,d4] 36)).heap.size ((w.alloc (.cells #[fv,v1,v2] 278)).alloc (.cells #[d0,d1,d2,d3,d4] 36)) (((w.alloc (.cells #[fv,v1,v2] 278)).alloc (.cells #[d0,d1,d2,d3,d4] 36)).alloc (.cells #[.int .i64 0,.int .i64 0,.string ⟨#[]⟩,.slice none 0 0,.slice none 0 0] 36)):=aQ _ _;refine ⟨by simp [go_sem],by simp [go_sem],by simp [go_sem],by simp;omega,?_,?_⟩
 ·have:=hb2.stay hk;simpa using this
 ·simpa using hb3
def nO (tf:T) (g1 g2:T->Int⊕T) (d:T):Int⊕T:=if gy 16 tf d=true then g1 d else g2 d
theorem NU {Tb:World->Prop} (hA:dx Tb) (hI:bn Tb) (hL:aS Tb) (FA:Option Addr) (fn fc:Nat) (tf:T) (v1 v2:Value) (g1 g2:T->Int⊕T) (x:Value) (doc:T) (w0 w:World) (hb0:Below w0.heap.size w0 w) (hf:eP w0 16 (.slice FA fn fc) tf) (h1:bL Tb w0 v1 g1) (h2:bL Tb w0 v2 g2) (h:At w0 13 x doc) (hok:bM doc) (hT:Tb w) :
  Calls Tryz.prog 281 #[.agg #[.slice FA fn fc,v1,v2],x] w (jr w0 (nO tf g1 g2) doc w):=by
 obtain ⟨q1,La,Ka,Lc,Kc,hg1,hx,_,_,_⟩:=h.open;obtain ⟨t1,p1,f1,rfl,hm1,hc1,hq1⟩:=h1;obtain ⟨t2,p2,f2,rfl,hm2,hc2,hq2⟩:=h2;have HB1:Hid (Below w.heap.size w (((w.alloc (.cells #[.slice FA fn fc,.iface t1 p1,.iface t2 p2] 278)).alloc (vC doc La Lc Ka Kc)).alloc (.cells #[.int .i64 0,.int .i64 0,.string ⟨#[]⟩,.slice none 0 0,.slice none 0 0] 36))):=((aQ _ _).alloc (by simp) _).alloc (by simp;omega) _;have HX:=aj (ChB.new w (.slice FA fn fc) (.iface t1 p1) (.iface t2 p2) (.int .i64 (ah doc)) (.int .i64 (au doc)) (.string (ay doc)) (.slice La (nL doc) Lc) (.slice Ka (nK doc) Kc));have za:=aj (hb0.trans (HB1.out.mono hb0.size));have HC:=aj (z8 hA hI hL 16 (.slice FA fn fc) tf 13 x doc _ (hf.keep za.out) (h.keep za.out) (by omega) hok (hL w hT _ _ hT HB1.out));have HD1:Hid (∀ w':World,Below w.heap.size w w'->Calls Tryz.prog f1 #[p1,x] w' (jr w0 g1 doc w')):=fun w' hb=>hq1 w0 w' x doc (Below.refl _ _) (hb0.trans (hb.mono hb0.size)) h hok (hL w hT w w' hT hb);have HD2:Hid (∀ w':World,Below w.heap.size w w'->Calls Tryz.prog f2 #[p2,x] w' (jr w0 g2 doc w')):=fun w' hb=>hq2 w0 w' x doc (Below.refl _ _) (hb0.trans (hb.mono hb0.size)) h hok (hL w hT w w' hT hb);have HE:Hid (nO tf g1 g2 doc=if gy 16 tf doc=true then g1 doc else g2 doc):=rfl;subst hx;clear h hok hT hA hI hL hg1 hb0 hf hq1 hq2 za
 obtain ⟨W3,hW3⟩:∃ W,((w.alloc (.cells #[.slice FA fn fc,.iface t1 p1,.iface t2 p2] 278)).alloc (vC doc La Lc Ka Kc)).alloc (.cells #[.int .i64 0,.int .i64 0,.string ⟨#[]⟩,.slice none 0 0,.slice none 0 0] 36)=W:=⟨_,rfl⟩;rw [hW3] at HB1 HX HC;generalize gy 16 tf doc=bb at HC HE;have c0:=HX.out.c0;have c1:=HX.out.c1;have c2:=HX.out.c2;have qM:=aj HX.out.box;have y0:=qM.out.q0;have y1:=qM.out.q1;have y2:=qM.out.q2;have y3:=qM.out.q3;have y4:=qM.out.q4;go_in;go_wp2_with fail;refine HC.out.mono ?_;rintro e w4 ⟨rfl,b4⟩;have MK:=aj (HX.out.stay b4);have bT:=aj (HB1.out.trans (b4.mono HB1.out.size));clear b4 HC c0 c1 c2 HX qM hW3 HB1;clear y0 y1 y2 y3 y4;have c1:=MK.out.c1;have c2:=MK.out.c2;have qM:=aj MK.out.box;have y0:=qM.out.q0;have y1:=qM.out.q1;have y2:=qM.out.q2;have y3:=qM.out.q3;have y4:=qM.out.q4;cases bb with
 | true =>
  have HE:Hid (nO tf g1 g2 doc=g1 doc):=HE.out;have HD:=aj (HD1.out w4 bT.out);clear HD1 HD2 hm2 hc2;go_wp2_with fail;refine Calls.mono HD.out ?_;rintro e w5 ⟨b5,hp⟩;rcases hp with ⟨er,hg,hne,rfl⟩ | ⟨r,A,B,C,D,hg,rfl,ha,hk⟩
  ·have HK:=aj (And.intro hg hne);have bf:=aj (MK.out.stay b5).res;have eU:=aj (bT.out.trans (b5.mono bT.out.size));have HO:=aj (bf.out.bG (.int .i64 0) (.int .i64 0) (.string ⟨#[]⟩) (.slice none 0 0) (.slice none 0 0));have dF:=aj (aU eU.out (b:=w.heap.size+2) (by omega) (by have:=bf.out.lt;omega) (.int .i64 0) (.int .i64 0) (.string ⟨#[]⟩) (.slice none 0 0) (.slice none 0 0));unfold bG at HO dF;clear b5 hg hne HD;have r0:=bf.out.q0;have r1:=bf.out.q1;have r2:=bf.out.q2;have r3:=bf.out.q3;have r4:=bf.out.q4;have z0:=bf.out.f0;have z1:=bf.out.f1;have z2:=bf.out.f2;have z3:=bf.out.f3;have z4:=bf.out.f4;go_wp2_with fail;clear r0 r1 r2 r3 r4 z0 z1 z2 z3 z4;have bq:=aj HO.out;have r0:=bq.out.q0;have r1:=bq.out.q1;have r2:=bq.out.q2;have r3:=bq.out.q3;have r4:=bq.out.q4;refine bodyPost_ret (v:=.tuple #[.agg #[.int .i64 0,.int .i64 0,.string ⟨#[]⟩,.slice none 0 0,.slice none 0 0],.int .i64 er]) (by simp [results,Tryz.results281,go_sem, *]) rfl ?_;exact ⟨dF.out,.inl ⟨er,by rw [HE.out];exact HK.out.1,HK.out.2,rfl⟩⟩
  ·have lK:=aj ha;have HK:=aj (And.intro hk hg);have bf:=aj (MK.out.stay b5).res;have eU:=aj (bT.out.trans (b5.mono bT.out.size));have HO:=aj (bf.out.bG (.int .i64 (ah r)) (.int .i64 (au r)) (.string (ay r)) (.slice A (nL r) B) (.slice C (nK r) D));have dF:=aj (aU eU.out (b:=w.heap.size+2) (by omega) (by have:=bf.out.lt;omega) (.int .i64 (ah r)) (.int .i64 (au r)) (.string (ay r)) (.slice A (nL r) B) (.slice C (nK r) D));unfold bG at HO dF;clear b5 ha hk hg HD;have r0:=bf.out.q0;have r1:=bf.out.q1;have r2:=bf.out.q2;have r3:=bf.out.q3;have r4:=bf.out.q4;have z0:=bf.out.f0;have z1:=bf.out.f1;have z2:=bf.out.f2;have z3:=bf.out.f3;have z4:=bf.out.f4;go_wp2_with fail;clear r0 r1 r2 r3 r4 z0 z1 z2 z3 z4;have bq:=aj HO.out;have r0:=bq.out.q0;have r1:=bq.out.q1;have r2:=bq.out.q2;have r3:=bq.out.q3;have r4:=bq.out.q4;refine bodyPost_ret (v:=.tuple #[.agg #[.int .i64 (ah r),.int .i64 (au r),.string (ay r),.slice A (nL r) B,.slice C (nK r) D],.int .i64 0]) (by simp [results,Tryz.results281,go_sem, *]) rfl ?_;exact ⟨dF.out,.inr ⟨r,A,B,C,D,by rw [HE.out];exact HK.out.2,rfl,lK.out,HK.out.1⟩⟩
 | false =>
  have HE:Hid (nO tf g1 g2 doc=g2 doc):=HE.out;have HD:=aj (HD2.out w4 bT.out);clear HD1 HD2 hm1 hc1;go_wp2_with fail;refine Calls.mono HD.out ?_;rintro e w5 ⟨b5,hp⟩;rcases hp with ⟨er,hg,hne,rfl⟩ | ⟨r,A,B,C,D,hg,rfl,ha,hk⟩
  ·have HK:=aj (And.intro hg hne);have bf:=aj (MK.out.stay b5).res;have eU:=aj (bT.out.trans (b5.mono bT.out.size));have HO:=aj (bf.out.bG (.int .i64 0) (.int .i64 0) (.string ⟨#[]⟩) (.slice none 0 0) (.slice none 0 0));have dF:=aj (aU eU.out (b:=w.heap.size+2) (by omega) (by have:=bf.out.lt;omega) (.int .i64 0) (.int .i64 0) (.string ⟨#[]⟩) (.slice none 0 0) (.slice none 0 0));unfold bG at HO dF;clear b5 hg hne HD;have r0:=bf.out.q0;have r1:=bf.out.q1;have r2:=bf.out.q2;have r3:=bf.out.q3;have r4:=bf.out.q4;have z0:=bf.out.f0;have z1:=bf.out.f1;have z2:=bf.out.f2;have z3:=bf.out.f3;have z4:=bf.out.f4;go_wp2_with fail;clear r0 r1 r2 r3 r4 z0 z1 z2 z3 z4;have bq:=aj HO.out;have r0:=bq.out.q0;have r1:=bq.out.q1;have r2:=bq.out.q2;have r3:=bq.out.q3;have r4:=bq.out.q4;refine bodyPost_ret (v:=.tuple #[.agg #[.int .i64 0,.int .i64 0,.string ⟨#[]⟩,.slice none 0 0,.slice none 0 0],.int .i64 er]) (by simp [results,Tryz.results281,go_sem, *]) rfl ?_;exact ⟨dF.out,.inl ⟨er,by rw [HE.out];exact HK.out.1,HK.out.2,rfl⟩⟩
  ·have lK:=aj ha;have HK:=aj (And.intro hk hg);have bf:=aj (MK.out.stay b5).res;have eU:=aj (bT.out.trans (b5.mono bT.out.size));have HO:=aj (bf.out.bG (.int .i64 (ah r)) (.int .i64 (au r)) (.string (ay r)) (.slice A (nL r) B) (.slice C (nK r) D));have dF:=aj (aU eU.out (b:=w.heap.size+2) (by omega) (by have:=bf.out.lt;omega) (.int .i64 (ah r)) (.int .i64 (au r)) (.string (ay r)) (.slice A (nL r) B) (.slice C (nK r) D));unfold bG at HO dF;clear b5 ha hk hg HD;have r0:=bf.out.q0;have r1:=bf.out.q1;have r2:=bf.out.q2;have r3:=bf.out.q3;have r4:=bf.out.q4;have z0:=bf.out.f0;have z1:=bf.out.f1;have z2:=bf.out.f2;have z3:=bf.out.f3;have z4:=bf.out.f4;go_wp2_with fail;clear r0 r1 r2 r3 r4 z0 z1 z2 z3 z4;have bq:=aj HO.out;have r0:=bq.out.q0;have r1:=bq.out.q1;have r2:=bq.out.q2;have r3:=bq.out.q3;have r4:=bq.out.q4;refine bodyPost_ret (v:=.tuple #[.agg #[.int .i64 (ah r),.int .i64 (au r),.string (ay r),.slice A (nL r) B,.slice C (nK r) D],.int .i64 0]) (by simp [results,Tryz.results281,go_sem, *]) rfl ?_;exact ⟨dF.out,.inr ⟨r,A,B,C,D,by rw [HE.out];exact HK.out.2,rfl,lK.out,HK.out.1⟩⟩
theorem KP (p:Value) (w:World):(method 419 278 p "Of").run Tryz.prog w=.ok (281,p) w:=by kernel_rfl
theorem Sq {Tb:World->Prop} (hA:dx Tb) (hI:bn Tb) (hL:aS Tb) {w:World} {FA:Option Addr} {fn fc:Nat} {tf:T} {v1 v2:Value} {g1 g2:T->Int⊕T} (hf:eP w 16 (.slice FA fn fc) tf) (h1:bL Tb w v1 g1) (h2:bL Tb w v2 g2):bL Tb w (.iface 278 (.agg #[.slice FA fn fc,v1,v2])) (nO tf g1 g2) :=
 ⟨_,_,_,rfl,KP _,fun _ _=>rfl,fun w0 wr x doc hb hb0 ha hk hT=>NU hA hI hL FA fn fc tf v1 v2 g1 g2 x doc w0 wr hb0 (hf.keep hb) (h1.keep hb) (h2.keep hb) ha hk hT⟩
end Go.Proofs.YtknakfpciccoaabGreatDoor
