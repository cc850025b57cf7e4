import Derived.Test.YtknakfpciccoaaaGreatDoorZC23
import Derived.Test.YtknakfpciccoaaaGreatDoorZC14
import Derived.Test.YtknakfpciccoaaaGreatDoorZC20
/- expr.Parse; what the readers of pipelines read first. -/
set_option maxHeartbeats 8000000
set_option maxRecDepth 100000
namespace Go.Proofs.YtknakfpciccoaaaGreatDoor
open Go.RowKit
theorem KZ (be:Nat) (w:World) :
  CallsD Tryz.prog 294 #[.pointer (some ⟨be,0,none⟩)] .returning w fun e u' w'=>e=.returned (.tuple #[])/\u'=.returning/\w'=w:=by
 refine callsD_of_wpS Tryz.func294 rfl fun c₀ cs hu=>?_;apply wpS_seq;apply wpS_region;simp [wpOpsS,go_sem,recoverD,hu,Tryz.ntmps294,Exit.thenS];refine wpS_of_wp ?_;go_wp2_with fail;cases c₀
 simp_all [bodyPostS,results,Tryz.results294]
theorem WI (g:Nat) (hg:∀ (a:Array Value) (w:World),(callFunc g a).run Tryz.prog w=.ok (.enter g a) w) (R:Value->World->Prop) (p:Value) (w:World)
  (h:Calls Tryz.prog g #[p] (dQ w) fun e w'=>Below (dQ w).heap.size (dQ w) w'/\∃ v,e=.returned v/\R v w') :
  Calls Tryz.prog 287 #[.func (Fn.func g) #[] #[p]] w fun e w'=>Below w.heap.size w w'/\∃ x w2,e=.returned (.tuple #[x,.int .i64 0])/\R x w2/\nQ (w.heap.size+1) w2 w'/\Below w.heap.size w w2:=by
 have Rk:∀ (fn:Fn) (first cap:Array Value) (w:World),(Instr.makeFunc fn first cap).run Tryz.prog w=.ok (.func fn first cap) w:=fun _ _ _ _=>rfl;have H:=ak h;have HF:=ak (gG w);clear h;go_enter_defers Tryz.func287,Tryz.ntmps287;go_wp2_with fail;refine H.out.mono ?_;rintro e w1 ⟨hb,v,rfl,hR⟩;have l0:w.heap.size<(dQ w).heap.size:=by have:=HF.out.2.2.1;omega
 have a5:=(hb.cell (p:=⟨w.heap.size,0,none⟩) l0).trans HF.out.1;have z5:=(hb.frozen (p:=⟨w.heap.size,0,none⟩) l0).trans HF.out.2.1;have HB:=ak (HF.out.2.2.2.trans (hb.mono HF.out.2.2.2.size));clear hb l0 H;have HR:=ak hR;clear hR;go_wp2_with fail;refine leaves_cons (f:=294) (args:=#[.pointer (some ⟨w.heap.size,0,none⟩)]) (by simp) (by simp [go_sem]) ?_;refine (KZ w.heap.size _).mono ?_;rintro e u' w'' ⟨rfl,rfl,rfl⟩;simp only [Leaves,settle];refine ⟨_,by simp [results,Tryz.results287,go_sem, *],?_,_,w1,rfl,HR.out,?_,HB.out⟩
 ·exact HB.out.setCell (Nat.le_refl _) _
 ·exact (nQ.refl _ _).set (by omega) _ _
theorem K7 (be:Nat) (w:World) :
  CallsD Tryz.prog 191 #[.pointer (some ⟨be,0,none⟩)] .returning w fun e u' w'=>e=.returned (.tuple #[])/\u'=.returning/\w'=w:=by
 refine callsD_of_wpS Tryz.func191 rfl fun c₀ cs hu=>?_;apply wpS_seq;apply wpS_region;simp [wpOpsS,go_sem,recoverD,hu,Tryz.ntmps191,Exit.thenS];refine wpS_of_wp ?_;go_wp2_with fail;cases c₀
 simp_all [bodyPostS,results,Tryz.results191]
theorem WJ (g:Nat) (hg:∀ (a:Array Value) (w:World),(callFunc g a).run Tryz.prog w=.ok (.enter g a) w) (R:Value->World->Prop) (p:Value) (w:World)
  (h:Calls Tryz.prog g #[p] (dQ w) fun e w'=>Below (dQ w).heap.size (dQ w) w'/\∃ v,e=.returned v/\R v w') :
  Calls Tryz.prog 152 #[.func (Fn.func g) #[] #[p]] w fun e w'=>Below w.heap.size w w'/\∃ x w2,e=.returned (.tuple #[x,.int .i64 0])/\R x w2/\nQ (w.heap.size+1) w2 w'/\Below w.heap.size w w2:=by
 have Rk:∀ (fn:Fn) (first cap:Array Value) (w:World),(Instr.makeFunc fn first cap).run Tryz.prog w=.ok (.func fn first cap) w:=fun _ _ _ _=>rfl;have H:=ak h;have HF:=ak (gG w);clear h;go_enter_defers Tryz.func152,Tryz.ntmps152;go_wp2_with fail;refine H.out.mono ?_;rintro e w1 ⟨hb,v,rfl,hR⟩;have l0:w.heap.size<(dQ w).heap.size:=by have:=HF.out.2.2.1;omega
 have a5:=(hb.cell (p:=⟨w.heap.size,0,none⟩) l0).trans HF.out.1;have z5:=(hb.frozen (p:=⟨w.heap.size,0,none⟩) l0).trans HF.out.2.1;have HB:=ak (HF.out.2.2.2.trans (hb.mono HF.out.2.2.2.size));clear hb l0 H;have HR:=ak hR;clear hR;go_wp2_with fail;refine leaves_cons (f:=191) (args:=#[.pointer (some ⟨w.heap.size,0,none⟩)]) (by simp) (by simp [go_sem]) ?_;refine (K7 w.heap.size _).mono ?_;rintro e u' w'' ⟨rfl,rfl,rfl⟩;simp only [Leaves,settle];refine ⟨_,by simp [results,Tryz.results152,go_sem, *],?_,_,w1,rfl,HR.out,?_,HB.out⟩
 ·exact HB.out.setCell (Nat.le_refl _) _
 ·exact (nQ.refl _ _).set (by omega) _ _
theorem gW.attempt {wB w W w2 w3:World} {P:World->Prop} (h:gW wB w2 (aS (dQ W) w2) P) (hW:w.heap.size<=W.heap.size) (hab:nQ (W.heap.size+1) w2 w3):gW wB w3 (aS w w3) P :=
 h.move fun b hb=>by
  have h1:=(gG W).2.2.1;have h2:=hb.1;have h3:=hab.size;have h4:=hb.2;exact ⟨hab.block b (by omega),by omega,by omega⟩
theorem Ic {Tb:World->Prop} (t:T) (g:T->Int⊕T) (h:fV Tb t g) (v:Value) (wB w:World) (ha:At wB 13 v t) (hk:bM t) (hb0:Below wB.heap.size wB w) (hT:Tb w) (p:Nat)
  (La Ka:Option Addr) (Lc Kc:Nat) (hv:v=.agg #[.int .i64 (aj t),.int .i64 (av t),.string (ay t),.slice La (nL t) Lc,.slice Ka (nK t) Kc])
  (q0:w.cell? ⟨p,0,none⟩=some (.int .i64 (aj t))) (q1:w.cell? ⟨p,1,none⟩=some (.int .i64 (av t))) (q2:w.cell? ⟨p,2,none⟩=some (.string (ay t))) (q3:w.cell? ⟨p,3,none⟩=some (.slice La (nL t) Lc)) (q4:w.cell? ⟨p,4,none⟩=some (.slice Ka (nK t) Kc)) :
  Calls Tryz.prog 288 #[.pointer (some ⟨p,0,none⟩)] w (iY Tb wB g w):=by
 subst hv;have HC:=ak (h _ wB w ha hk hb0 hT);clear ha hk hb0 hT h;go_in;go_wp2_with fail;refine HC.out.mono ?_;rintro e w3 ⟨b3,ty,q,rfl,hs⟩;have HB3:=ak b3;have HS:=ak hs;clear b3 hs;go_wp2_with fail;go_ret;exact ⟨HB3.out,_,_,rfl,HS.out⟩
theorem Oc {Tb:World->Prop} (hL:aV Tb) (t:T) (g:T->Int⊕T) (h:fV Tb t g) (v:Value) (wB w:World) (ha:At wB 13 v t) (hk:bM t) (hb0:Below wB.heap.size wB w) (hT:Tb w) :
  Calls Tryz.prog 277 #[v] w fun e w'=>Below w.heap.size w w'/\∃ ty p,e=.returned (.tuple #[.iface ty p,.int .i64 0])/\gW wB w' (aS w w') (fun x=>dO Tb x (.iface ty p) g):=by
 have Rk:∀ (fn:Fn) (first cap:Array Value) (w:World),(Instr.makeFunc fn first cap).run Tryz.prog w=.ok (.func fn first cap) w:=fun _ _ _ _=>rfl;obtain ⟨g1,La,Ka,Lc,Kc,hg1,hv,_,_,_⟩:=ha.open;have HB1:=ak (aY w (vC t La Lc Ka Kc));have HE:=ak (gG (w.alloc (vC t La Lc Ka Kc)));have hbb:Below (w.heap.size+1) (w.alloc (vC t La Lc Ka Kc)) (dQ (w.alloc (vC t La Lc Ka Kc))):=HE.out.2.2.2.mono (by simp);obtain ⟨q0,q1,q2,q3,q4,hz,hbw⟩:=dz hbb;have HI:=ak (Ic t g h v wB (dQ (w.alloc (vC t La Lc Ka Kc))) ha hk (hb0.trans (hbw.mono hb0.size)) (hL w hT _ _ hT hbw) w.heap.size La Ka Lc Kc hv q0 q1 q2 q3 q4)
 have HA:=ak (WI 288 (fun _ _=>rfl) (fun v w'=>∃ ty p,v=.iface ty p/\gW wB w' (aS (dQ (w.alloc (vC t La Lc Ka Kc))) w') (fun x=>dO Tb x (.iface ty p) g)) (.pointer (some ⟨w.heap.size,0,none⟩)) _ (HI.out.mono fun e w' hh=>by
  obtain ⟨h1,ty,p,h2,h3⟩:=hh;exact ⟨h1,_,h2,ty,p,rfl,h3⟩))
 subst hv;clear ha hk hb0 hT h hL hbb q0 q1 q2 q3 q4 hz hbw HI hg1 HE;go_in;go_wp2_with fail;refine HA.out.mono ?_;rintro e w3 ⟨b3,x,w2,rfl,⟨ty,p,rfl,hs⟩,hab,hb2⟩;have HB3:=ak (HB1.out.trans (b3.mono HB1.out.size));have HS:=ak (hs.attempt (w:=w) (by simp) hab);clear b3 hs hab hb2 HA;go_wp2_with fail;refine bodyPost_ret (v:=.tuple #[.iface ty p,.int .i64 0]) (by simp [results,Tryz.results277,go_sem, *]) rfl ?_;exact ⟨HB3.out,_,_,rfl,HS.out⟩
theorem vS {Tb:World->Prop} (hL:aV Tb) (t:T) (g:T->Int⊕T) (h:fV Tb t g) (v:Value) (wB w:World) (ha:At wB 13 v t) (hk:bM t) (hb0:Below wB.heap.size wB w) (hT:Tb w) :
  Calls Tryz.prog 259 #[v] w (iY Tb wB g w):=by
 obtain ⟨g1,La,Ka,Lc,Kc,hg1,hv,_,_,_⟩:=ha.open;have HB1:=ak (aY w (vC t La Lc Ka Kc));have HC:=ak (Oc hL t g h v wB _ ha hk (hb0.trans (HB1.out.mono hb0.size)) (hL w hT _ _ hT HB1.out));subst hv;clear ha hk hb0 hT h hL hg1;go_in;go_wp2_with fail;refine HC.out.mono ?_;rintro e w3 ⟨b3,ty,p,rfl,hs⟩;have HB3:=ak (HB1.out.trans (b3.mono HB1.out.size));have HS:=ak (hs.later (wa:=w) (Below.refl _ _) (by simp));clear b3 hs HC;go_wp2_with fail;refine (dW _).mono ?_;rintro e w4 ⟨rfl,rfl⟩;go_wp2_with fail;go_ret;exact ⟨HB3.out,_,_,rfl,HS.out⟩
theorem mU (t j:T) (x:ByteArray) (hj:elt t 0=j) (hx:bO t 0=x) (v:Value) (w0 w:World) (h:At w0 13 v t) (hk:bM t) (k6:aj t=6) (k1:nK t=1) (hb0:Below w0.heap.size w0 w) :
  Calls Tryz.prog 233 #[v] w fun e w'=>Below w.heap.size w w'/\∃ A B C D,e=.returned (.tuple #[.string x,.agg #[.int .i64 (aj j),.int .i64 (av j),.string (ay j),.slice A (nL j) B,.slice C (nK j) D]])/\At w0 13 (.agg #[.int .i64 (aj j),.int .i64 (av j),.string (ay j),.slice A (nL j) B,.slice C (nK j) D]) j:=by
 have Ha:=ak h;obtain ⟨g1,La,Ka,Lc,Kc,hg1,rfl,_,_,_⟩:=h.open;have HB1:Hid (Below w.heap.size w ((w.alloc (vC t La Lc Ka Kc)).alloc (.cells #[.int .i64 0,.int .i64 0,.string ⟨#[]⟩,.slice none 0 0,.slice none 0 0] 25))):=(aY _ _).alloc (by simp) _
 have HX:Hid (aJ (w.heap.size+1) (.int .i64 0) (.int .i64 0) (.string ⟨#[]⟩) (.slice none 0 0) (.slice none 0 0) ((w.alloc (vC t La Lc Ka Kc)).alloc (.cells #[.int .i64 0,.int .i64 0,.string ⟨#[]⟩,.slice none 0 0,.slice none 0 0] 25))):=by
  show aJ _ _ _ _ _ _ _;have:=aR (w.alloc (vC t La Lc Ka Kc)) (.int .i64 0) (.int .i64 0) (.string ⟨#[]⟩) (.slice none 0 0) (.slice none 0 0);simpa using this
 have HC:=ak (KW t j hj _ w0 _ Ha.out hk k6 k1 (hb0.trans (HB1.out.mono hb0.size)));rw [hx] at HC;clear h hk hg1 hb0 k6 k1 hj hx Ha;go_in;go_wp2_with fail;refine HC.out.mono ?_;rintro e w2 ⟨b2,A,B,C,D,rfl,hat⟩;have fT:=ak (aY w2 (vC j A B C D));have eO:=ak ((HX.out.stay b2).stay fT.out);have HB2:=ak (HB1.out.trans (b2.mono HB1.out.size));have HB3:=ak (HB2.out.trans (fT.out.mono HB2.out.size));have HY:=ak (aR w2 (.int .i64 (aj j)) (.int .i64 (av j)) (.string (ay j)) (.slice A (nL j) B) (.slice C (nK j) D));have oM:=ak hat;clear b2 hat HC fT HB2;go_wp2_with fail;refine (dW _).mono ?_;rintro e w4 ⟨rfl,rfl⟩;generalize w2.alloc (vC j A B C D)=W at HY eO HB3 ⊢;generalize w2.heap.size=wb at HY ⊢;have HO:=ak (eO.out.bV (.int .i64 (aj j)) (.int .i64 (av j)) (.string (ay j)) (.slice A (nL j) B) (.slice C (nK j) D));have fI:=ak (bU HB3.out (b:=w.heap.size+1) (by omega) (by have:=eO.out.lt;omega) (.int .i64 (aj j)) (.int .i64 (av j)) (.string (ay j)) (.slice A (nL j) B) (.slice C (nK j) D)).drew;unfold bV at HO fI;have y0:=HY.out.q0;have y1:=HY.out.q1;have y2:=HY.out.q2;have y3:=HY.out.q3;have y4:=HY.out.q4;have r0:=eO.out.q0;have r1:=eO.out.q1;have r2:=eO.out.q2;have r3:=eO.out.q3;have r4:=eO.out.q4;have z0:=eO.out.f0;have z1:=eO.out.f1;have z2:=eO.out.f2;have z3:=eO.out.f3;have z4:=eO.out.f4;go_wp2_with fail;go_region_law (fail)
 all_goals
  go_wp2_with fail;clear r0 r1 r2 r3 r4 z0 z1 z2 z3 z4;have dB:=ak HO.out;have r0:=dB.out.q0;have r1:=dB.out.q1;have r2:=dB.out.q2;have r3:=dB.out.q3;have r4:=dB.out.q4;refine bodyPost_ret (v:=.tuple #[.string x,.agg #[.int .i64 (aj j),.int .i64 (av j),.string (ay j),.slice A (nL j) B,.slice C (nK j) D]]) (by simp [results,Tryz.results233,go_sem, *]) rfl ?_;exact ⟨fI.out,A,B,C,D,rfl,oM.out⟩
theorem Od {Tb:World->Prop} (hSp:cK Tb) (x:ByteArray) (w:World) (hx:x.size<=1048576) (hp:iW x=true) (hT:Tb w) :
  Calls Tryz.prog 236 #[.string x] w fun e w'=>Below w.heap.size w w'/\∃ v,e=.returned v/\kY w' (aS w w') v (bW x):=by
 have HP:=ak (oN hSp x _ hx hT);have Hp:=ak hp;clear hSp hx hT hp;go_in;go_wp2_with fail;refine HP.out.mono ?_;rintro e w3 ⟨b3,⟨_,pv,rfl,hs⟩ | ⟨h,_⟩⟩
 ·have HB3:=ak b3;have vM:=ak hs;clear b3 hs HP;go_wp2_with fail;refine (dW _).mono ?_;rintro e w4 ⟨rfl,rfl⟩;go_wp2_with fail;go_ret;exact ⟨HB3.out,_,rfl,vM.out⟩
 ·rw [Hp.out] at h;cases h
structure VR (w0:World) (lo:Nat) (w:World) (v:Value) (l:List T) (xs:List Value):Prop where
 row:w.ownsRow lo 25 5 v l.length xs
 at_:∀ i,(h:i<l.length)->At w0 13 (fv xs i) l[i]
 ok:∀ i,(h:i<l.length)->bM l[i]
theorem VR.nil (w0:World) (lo:Nat) (w:World):VR w0 lo w (.slice none 0 0) [] []:=⟨World.ownsRow_nil _ _ _ _,fun i h=>absurd h (Nat.not_lt_zero i),fun i h=>absurd h (Nat.not_lt_zero i)⟩
theorem VR.keep {w0:World} {lo:Nat} {w w':World} {v:Value} {l:List T} {xs:List Value} (h:VR w0 lo w v l xs) (hb:Below w.heap.size w w'):VR w0 lo w' v l xs:=⟨iO h.row fun b _ h2=>hb.block b h2,h.at_,h.ok⟩
theorem uw {xs:List Value} {n:Nat} (hx:xs.length=n*5) (c0 c1 c2 c3 c4:Value):fv (xs++[c0,c1,c2,c3,c4]) n=.agg #[c0,c1,c2,c3,c4]:=by
 unfold fv;rw [<- hx,show xs.length=xs.length+0 from rfl,fB,Nat.add_assoc,fB,Nat.add_assoc,fB,Nat.add_assoc,fB,Nat.add_assoc,fB];rfl
theorem pU {xs ys:List Value} {i n:Nat} (hx:xs.length=n*5) (hi:i<n):fv (xs++ys) i=fv xs i:=by
 unfold fv;rw [gF (by omega),gF (by omega),gF (by omega),gF (by omega),gF (by omega)]
theorem VR.grow {w0:World} {lo:Nat} {w w6:World} {v v':Value} {l:List T} {xs:List Value} (h:VR w0 lo w v l xs) {t:T} {c0 c1 c2 c3 c4:Value} (ha:At w0 13 (.agg #[c0,c1,c2,c3,c4]) t) (hk:bM t) (hO:w6.ownsRow lo 25 5 v' (l.length+1) (xs++[c0,c1,c2,c3,c4])):VR w0 lo w6 v' (l++[t]) (xs++[c0,c1,c2,c3,c4]):=by
 have hx:xs.length=l.length*5:=h.row.1;refine ⟨by rw [List.length_append];exact hO,fun i hi=>?_,fun i hi=>?_⟩
 ·rw [List.length_append,List.length_cons,List.length_nil] at hi;by_cases e:i<l.length
  ·rw [pU hx e,List.getElem_append_left e];exact h.at_ i e
  ·obtain rfl:i=l.length:=by omega
   rw [uw hx,List.getElem_append_right (by omega)];simpa using ha
 ·rw [List.length_append,List.length_cons,List.length_nil] at hi;by_cases e:i<l.length
  ·rw [List.getElem_append_left e];exact h.ok i e
  ·obtain rfl:i=l.length:=by omega
   rw [List.getElem_append_right (by omega)];simpa using hk
theorem Fy {w:World} {lo lo':Nat} {e:TypeId} {s n:Nat} {v:Value} {xs:List Value} (h:w.ownsRow lo e s v n xs) (hl:lo'<=lo):w.ownsRow lo' e s v n xs:=by
 refine ⟨h.1,?_⟩;rcases h.2 with hn | ⟨g,cap,cur,rfl,hb0,rest⟩
 ·exact .inl hn
 ·exact .inr ⟨g,cap,cur,rfl,Nat.le_trans hl hb0,rest⟩
def LsP (w0:World) (gs:List (T->Int⊕T)) (doc:T) (w:World) (e:Ending) (w':World):Prop :=
 Below w.heap.size w w'/\((∃ x,zu gs doc=.inl x/\x≠0/\e=.returned (.tuple #[.slice none 0 0,.int .i64 x]))\/∃ l v xs,zu gs doc=.inr l/\l.length=gs.length/\e=.returned (.tuple #[v,.int .i64 0])/\VR w0 w.heap.size w' v l xs)
theorem SK {Tb:World->Prop} (hL:aV Tb) (lv:Value) (gs:List (T->Int⊕T)) (x:Value) (doc:T) (w0 w:World) (hb0:Below w0.heap.size w0 w) (hl:oP Tb w0 lv gs) (h:At w0 13 x doc) (hok:bM doc) (hT:Tb w) :
  Calls Tryz.prog 348 #[lv,x] w (LsP w0 gs doc w):=by
 obtain ⟨iV,Em,En,Eo,Ep⟩:=info_parts uT;obtain ⟨g1,La,Ka,Lc,Kc,hg1,hx,_,_,_⟩:=h.open;obtain ⟨EA,ec,rfl,hn,hes⟩:=hl;have rJ:=ak hes;have HB0:=ak hb0;have HD:=ak (And.intro h hok);have HT:Hid (∀ w':World,Below w.heap.size w w'->Tb w'):=fun w' hb=>hL w hT w w' hT hb;subst hx;clear hes h hok hT hL hg1 hb0;obtain ⟨n,hln⟩:∃ n,gs.length=n:=⟨_,rfl⟩;have QB:=ak hln;rw [hln] at hn ⊢;clear hln;go_in;go_wp2_with fail;go_loopg [6,13] n (fun g o i wr=>∃ (k:Nat) (l:List T) (xs:List Value),g=n - k/\k<=n/\i=.int .i64 k/\Hid (Below (w.heap.size+1) (w.alloc (vC doc La Lc Ka Kc)) wr)/\Hid (VR w0 (w.heap.size+1) wr o l xs)/\Hid (l.length=k/\zu (gs.take k) doc=.inr l))
 case atStart=>exact ⟨0,[],[],rfl,Nat.zero_le _,rfl,Below.refl _ _,VR.nil _ _ _,rfl,rfl⟩
 case round =>
  obtain ⟨k,l,xs,rfl,hk,rfl,HB,HV,HE⟩:=hrel;obtain ⟨q0,q1,q2,q3,q4,hz,hbw⟩:=dz HB.out;have iq:=ak hbw;have K8:=ak (HB0.out.trans (hbw.mono HB0.out.size));clear hbw;by_cases hlt:k<n
  ·have hkl:k<gs.length:=by rw [QB.out];exact hlt
   obtain ⟨b,o,u,rfl,hbl,p0,hex⟩:=rJ.out k hkl;have p0':=(K8.out.cell (p:=⟨b,o+k,none⟩) hbl).trans p0;obtain ⟨ty,p,fid,rfl,hm,hcall,oQ⟩:=hex;have HG:Hid (gs.take (k+1)=gs.take k++[gs[k]]):=by show _=_;rw [List.take_add_one,List.getElem?_eq_getElem hkl];rfl
   have HG2:Hid (gs=gs.take k++gs[k]::gs.drop (k+1)):=by show _=_;rw [<- List.drop_eq_getElem_cons hkl,List.take_append_drop]
   generalize gs[k]=gk at oQ HG HG2;have hmw:=hm wr;have HC:=ak (oQ w0 wr _ doc (Below.refl _ _) K8.out HD.out.1 HD.out.2 (HT.out _ iq.out));clear p0 oQ hm;go_wp2_with fail;refine HC.out.mono ?_;rintro e w2 ⟨b2,⟨er,hg,hne,rfl⟩ | ⟨t,A,B,C,D,hg,rfl,ha2,hk2⟩⟩
   ·have ez:(er==0)=false:=by simpa using hne
    have HF:Hid (zu gs doc=.inl er/\er≠0):=⟨by rw [HG2.out];exact Ib _ _ _ _ HE.out.2 hg,hne⟩;have fI:=ak (((iq.out.trans (b2.mono iq.out.size))).alloc (iq.out.trans (b2.mono iq.out.size)).size (.cells #[.int .i64 0,.int .i64 0,.string ⟨#[]⟩,.slice none 0 0,.slice none 0 0] 25));clear b2 hg hne HC;go_wp2_with fail;refine bodyPost_ret (v:=.tuple #[.slice none 0 0,.int .i64 er]) (by simp [results,Tryz.results348,go_sem, *]) rfl ?_;exact ⟨fI.out,.inl ⟨er,HF.out.1,HF.out.2,rfl⟩⟩
   ·have HE2:Hid ((l++[t]).length=k+1/\zu (gs.take (k+1)) doc=.inr (l++[t])):=⟨by rw [List.length_append,HE.out.1];rfl,by rw [HG.out];exact WH _ _ _ HE.out.2 hg⟩;have fT:Hid (Below w2.heap.size w2 ((w2.alloc (vC t A B C D)).alloc (vC t A B C D))):=(aY _ _).alloc (by simp) _;have Mj:=ak ((HV.out.keep b2).keep fT.out);have HB3:=ak ((HB.out.trans (b2.mono (by omega))).trans (fT.out.mono (by have:=b2.size;omega)));have sK:Hid (Src Tryz.prog 5 22 (.slice (some ⟨w2.heap.size+1,0,none⟩) 1 1) 1 [.int .i64 (aj t),.int .i64 (av t),.string (ay t),.slice A (nL t) B,.slice C (nK t) D] ((w2.alloc (vC t A B C D)).alloc (vC t A B C D))):=Src.ofSlice _ Tryz.underlying22 ⟨w2.heap.size+1,0,none⟩ 1 1 [.int .i64 (aj t),.int .i64 (av t),.string (ay t),.slice A (nL t) B,.slice C (nK t) D] (by simp) (by have:=World.news_of_block (heap_alloc_new (w2.alloc (vC t A B C D)) (vC t A B C D));simpa using this) (by simp [Value.oneCell']);have HAk:=ak (And.intro ha2 hk2);have hll:=HE.out.1;have hlo:w.heap.size+1<=((w2.alloc (vC t A B C D)).alloc (vC t A B C D)).heap.size:=by have:=b2.size;simp;omega
    clear b2 hg HC ha2 hk2;go_wp2_with (at_builtin;refine aG _ rfl (.tmp 26) (.tmp 28) 22 22 rfl (w.heap.size+1) 25 iV _ 5 80 Tryz.underlying22 Em En Eo Ep rfl u6 l.length xs rfl Mj.out.row (.slice (some ⟨w2.heap.size+1,0,none⟩) 1 1) 1 [.int .i64 (aj t),.int .i64 (av t),.string (ay t),.slice A (nL t) B,.slice C (nK t) D] rfl sK.out (by unfold maxLen;omega) (by omega) hlo ?_;intro v' w6 qX nu dV);have H6:=ak (Mj.out.grow HAk.out.1 HAk.out.2 qX);have iN:=ak (dx HB3.out Mj.out.row (Nat.le_refl _) hlo nu);clear qX nu dV q0 q1 q2 q3 q4 hll;go_wp2_with fail;go_roundg (n - (k+1))
    case rel=>exact ⟨k+1,l++[t],_,rfl,by omega,by go_num,iN,H6,HE2⟩
    case measure=>omega
  ·obtain rfl:k=n:=by omega
   have HF:Hid (zu gs doc=.inr l/\l.length=gs.length):=by
    have h1:=HE.out;rw [<- QB.out,List.take_length] at h1;exact ⟨h1.2,h1.1⟩
   have fI:=ak iq.out;go_wp2_with fail;refine bodyPost_ret (v:=.tuple #[u6,.int .i64 0]) (by simp [results,Tryz.results348,go_sem, *]) rfl ?_;exact ⟨fI.out,.inr ⟨l,u6,xs,HF.out.1,HF.out.2,rfl,⟨Fy HV.out.row (by omega),HV.out.at_,HV.out.ok⟩⟩⟩
structure Mk (w:World) (c:Nat) (v:Value) (n:Nat) (xs:List Value):Prop where
 cell:w.cell? ⟨c,0,none⟩=some v
 free:w.frozen? ⟨c,0,none⟩=false
 low:c<w.heap.size
 row:w.ownsRow 0 25 5 v n xs
 apart:v.ownBlock≠some c
theorem Mk.keep {w w':World} {c n:Nat} {v:Value} {xs:List Value} (h:Mk w c v n xs) (hb:Below w.heap.size w w'):Mk w' c v n xs :=
 ⟨(hb.cell (p:=⟨c,0,none⟩) h.low).trans h.cell,(World.frozen?_of_block (a:=⟨c,0,none⟩) (hb.block c h.low)).trans h.free,Nat.lt_of_lt_of_le h.low hb.size,iO h.row fun b _ h2=>hb.block b h2,h.apart⟩
def WK (w:World) (c:Nat) (t:T) (v:Value) (n:Nat) (xs cs:List Value) (e:Ending) (w':World):Prop :=
 (Below w.heap.size w w'/\bR t=true/\e=.returned (.int .i64 15)) \/
 (KI c v.ownBlock w w'/\bR t=false/\e=.returned (.int .i64 0)/\(∀ o,o≠0->w'.cell? ⟨c,o,none⟩=w.cell? ⟨c,o,none⟩)/\∃ g cap,w'.cell? ⟨c,0,none⟩=some (.slice (some ⟨g,0,none⟩) (n+1) cap)/\w'.frozen? ⟨c,0,none⟩=false/\(v.ownBlock=some g\/w.heap.size<=g)/\w'.ownsRow 0 25 5 (.slice (some ⟨g,0,none⟩) (n+1) cap) (n+1) (xs++cs))
theorem zU.ahZ {w W4 w6:World} {c g n cap:Nat} {v:Value} {xs:List Value} (h:zU w W4 w6 c g n cap v xs) (hc:c<w.heap.size) (u0 u1 u2 u3 u4:Value) (o:Nat) (ho:o≠0) :
  ((bG w6 g (n*5) u0 u1 u2 u3 u4).setCell ⟨c,0,none⟩ (.slice (some ⟨g,0,none⟩) (n+1) cap)).cell? ⟨c,o,none⟩=w.cell? ⟨c,o,none⟩:=by
 obtain ⟨h1,h2⟩:=h.block c hc (fun e=>h.apart e.symm);rw [World.cell?_setCell_other _ _ _ _ (by simp)];exact aC ((eB w6 h2 (n*5) u0 u1 u2 u3 u4).trans h1) o
theorem zU.ah0 {w W4 w6:World} {c g n cap:Nat} {v:Value} {xs:List Value} (h:zU w W4 w6 c g n cap v xs) (hc:c<w.heap.size) (u0 u1 u2 u3 u4:Value) (o:Nat) (ho:o≠0) :
  (bG (w6.setCell ⟨c,0,none⟩ (.slice (some ⟨g,0,none⟩) (n+1) cap)) g (n*5) u0 u1 u2 u3 u4).cell? ⟨c,o,none⟩=w.cell? ⟨c,o,none⟩:=by
 obtain ⟨h1,h2⟩:=h.block c hc (fun e=>h.apart e.symm);rw [aC (eB _ h2 (n*5) u0 u1 u2 u3 u4) o,World.cell?_setCell_other _ _ _ _ (by simp)];exact aC h1 o
theorem K9 {Tb:World->Prop} (hV:bF Tb) (hL:aV Tb) (c f:Nat) (t:T) (v:Value) (n:Nat) (xs:List Value) (A C:Option Addr) (B D:Nat) (w:World) (h:Mk w c v n xs) (hn:n<=1000000) (ha:At w f (.agg #[.int .i64 (aj t),.int .i64 (av t),.string (ay t),.slice A (nL t) B,.slice C (nK t) D]) t) (hT:Tb w) :
  Calls Tryz.prog 352 #[.pointer (some ⟨c,0,none⟩),.agg #[.int .i64 (aj t),.int .i64 (av t),.string (ay t),.slice A (nL t) B,.slice C (nK t) D]] w (WK w c t v n xs [.int .i64 (aj t),.int .i64 (av t),.string (ay t),.slice A (nL t) B,.slice C (nK t) D]):=by
 obtain ⟨iV,Em,En,Eo,Ep⟩:=info_parts uT;have HB1:=ak (aY w (vC t A B C D));have uM:=ak (aR w (.int .i64 (aj t)) (.int .i64 (av t)) (.string (ay t)) (.slice A (nL t) B) (.slice C (nK t) D));have HTb:=ak (Ch hV hL f _ t _ (ha.keep HB1.out) (hL w hT _ _ hT HB1.out));have HM:=ak h;have Hcl:=ak h.low;clear h ha hT hV hL;cases hb:bR t with
 | true =>
  rw [hb] at HTb;have Hb:=ak hb;clear hb;go_in;go_wp2_with fail;refine HTb.out.mono ?_;rintro e w2 ⟨rfl,b2⟩;have HB2:=ak (HB1.out.trans (b2.mono HB1.out.size));clear b2 HTb;go_wp2_with fail;go_ret;exact .inl ⟨HB2.out,Hb.out,rfl⟩
 | false =>
  rw [hb] at HTb;have Hb:=ak hb;clear hb;go_in;go_wp2_with fail;refine HTb.out.mono ?_;rintro e w2 ⟨rfl,b2⟩;have HB2:=ak (HB1.out.trans (b2.mono HB1.out.size));have kr:=ak (uM.out.stay b2);have HM2:=ak (HM.out.keep HB2.out);obtain ⟨La,Lc,rfl⟩:=fq HM2.out.row;clear b2 HTb uM HB1 HM;have tV:=ak (aY w2 (.cells #[.int .i64 0,.int .i64 0,.string ⟨#[]⟩,.slice none 0 0,.slice none 0 0] 25));have HM3:=ak (HM2.out.keep tV.out);have eO:=ak (kr.out.stay tV.out);have HM4:=ak (HM3.out.keep (au _));have Ni:=ak (eO.out.stay (au _));have hc0:=HM2.out.cell;have ahR:=HM3.out.cell;have hnn:(n:Int)<(n:Int)+1:=by omega
  have Dp:Hid (xs.length=n*5):=HM2.out.row.1
  have HGc:Hid (∀ g,((Value.slice La n Lc).ownBlock=some g\/g=w2.heap.size+1)->g≠c):=fun g hg e=>by
   subst e;rcases hg with hg | hg
   ·exact HM2.out.apart hg
   ·have:=HM2.out.low;omega
  have r0:=kr.out.q0;have r1:=kr.out.q1;have r2:=kr.out.q2;have r3:=kr.out.q3;have r4:=kr.out.q4;have ra0:=eO.out.q0;have ra1:=eO.out.q1;have ra2:=eO.out.q2;have ra3:=eO.out.q3;have ra4:=eO.out.q4;go_wp2_with fail
  go_region_law (refine step_append_lies _ (by rfl) _ _ _ (by rfl) 0 25 iV _ 5 80 Tryz.underlying22 Em En Eo Ep rfl (by omega) (.slice La n Lc) n xs (by rfl) HM4.out.row ⟨w2.heap.size,0,none⟩ 1 1 [.int .i64 0,.int .i64 0,.string ⟨#[]⟩,.slice none 0 0,.slice none 0 0] (by rfl) (by rfl) (World.news_of_block (cs:=#[.int .i64 0,.int .i64 0,.string ⟨#[]⟩,.slice none 0 0,.slice none 0 0]) (t:=25) (fr:=(0,0)) (heap_alloc_new w2 _)) (by simp [Value.oneCell']) (by omega) (by unfold maxLen;omega) (by omega) (Nat.zero_le _) (w2.heap.size+1) (by simp) ?_;intro g cap w6 hown6 eG dV vH;have hgc:g≠c:=HGc.out g dV;have hcg:c≠g:=fun e=>hgc e.symm;have iN:=ak (eG.block c HM4.out.low (fun e=>HM4.out.apart e.symm));have c6:=(aC iN.out 0).trans HM4.out.cell;have f6:=(World.frozen?_of_block (a:=⟨c,0,none⟩) iN.out).trans HM4.out.free;have y0:w6.cell? ⟨g,n*5,none⟩=some (.int .i64 0):=dJ hown6 Dp.out 0 (by omega) rfl;have z0:w6.frozen? ⟨g,n*5,none⟩=false:=hown6.frozenAt _;have y1:w6.cell? ⟨g,n*5+1,none⟩=some (.int .i64 0):=dJ hown6 Dp.out 1 (by omega) rfl;have z1:w6.frozen? ⟨g,n*5+1,none⟩=false:=hown6.frozenAt _;have y2:w6.cell? ⟨g,n*5+2,none⟩=some (.string ⟨#[]⟩):=dJ hown6 Dp.out 2 (by omega) rfl;have z2:w6.frozen? ⟨g,n*5+2,none⟩=false:=hown6.frozenAt _;have y3:w6.cell? ⟨g,n*5+3,none⟩=some (.slice none 0 0):=dJ hown6 Dp.out 3 (by omega) rfl;have z3:w6.frozen? ⟨g,n*5+3,none⟩=false:=hown6.frozenAt _;have y4:w6.cell? ⟨g,n*5+4,none⟩=some (.slice none 0 0):=dJ hown6 Dp.out 4 (by omega) rfl;have z4:w6.frozen? ⟨g,n*5+4,none⟩=false:=hown6.frozenAt _)
  all_goals
   have HF:=ak (zU.mk (w:=w) (lt:=HM2.out.row.1) hown6 eG ((HB2.out.trans (tV.out.mono HB2.out.size)).drew) (dV.imp id (fun e=>by have:=HB2.out.size;omega)) c6 f6 hgc HM2.out.apart);clear hown6 eG dV vH y0 y1 y2 y3 y4 z0 z1 z2 z3 z4 c6 f6 hgc hcg iN;go_wp2_with fail;go_ret;have Wj:=ak (HF.out.afe (.int .i64 (aj t)) (.int .i64 (av t)) (.string (ay t)) (.slice A (nL t) B) (.slice C (nK t) D));have Wm:=ak (HF.out.aff (.int .i64 (aj t)) (.int .i64 (av t)) (.string (ay t)) (.slice A (nL t) B) (.slice C (nK t) D));have HOA:=ak (HF.out.ahZ Hcl.out (.int .i64 (aj t)) (.int .i64 (av t)) (.string (ay t)) (.slice A (nL t) B) (.slice C (nK t) D));have HOB:=ak (HF.out.ah0 Hcl.out (.int .i64 (aj t)) (.int .i64 (av t)) (.string (ay t)) (.slice A (nL t) B) (.slice C (nK t) D));unfold bG at Wj Wm HOA HOB;unfold WK;refine .inr ⟨?_,Hb.out,rfl,?_,g,cap,?_⟩
   ·first | with_reducible exact Wj.out.1 | with_reducible exact Wm.out.1
   ·first | with_reducible exact HOA.out | with_reducible exact HOB.out
   ·first | with_reducible exact Wj.out.2 | with_reducible exact Wm.out.2
def dM {σ:Type} (st:σ->T->Int⊕σ):List T->Nat->σ->(Nat×Int)⊕σ
 | [],_,s=>.inr s
 | d::r,k,s=>match st s d with
  | .inl x=>.inl (k,x)
  | .inr s'=>dM st r (k+1) s'
theorem yI {σ:Type} (st:σ->T->Int⊕σ):∀ (l:List T) (d:T) (r:List T) (k:Nat) (s s':σ) (x:Int),dM st l k s=.inr s'->st s' d=.inl x->dM st (l++d::r) k s=.inl (k+l.length,x)
 | [],d,r,k,s,s',x,h,hx=>by
  simp only [dM,Sum.inr.injEq] at h;subst h;simp [dM,hx]
 | a::l,d,r,k,s,s',x,h,hx=>by
  simp only [dM,List.cons_append] at h ⊢;cases ha:st s a with
  | inl y=>rw [ha] at h;cases h
  | inr u =>
   rw [ha] at h;have:=yI st l d r (k+1) u s' x h hx;simp only [this,List.length_cons]
   congr 2
   omega
theorem vT {σ:Type} (st:σ->T->Int⊕σ):∀ (l:List T) (d:T) (k:Nat) (s s' s2:σ),dM st l k s=.inr s'->st s' d=.inr s2->dM st (l++[d]) k s=.inr s2
 | [],d,k,s,s',s2,h,hx=>by
  simp only [dM,Sum.inr.injEq] at h;subst h;simp [dM,hx]
 | a::l,d,k,s,s',s2,h,hx=>by
  simp only [dM,List.cons_append] at h ⊢;cases ha:st s a with
  | inl y=>rw [ha] at h;cases h
  | inr u =>
   rw [ha] at h;exact vT st l d (k+1) u s' s2 h hx
def cZ (w:World) (v:Value) (l:List T):Prop:=∃ La Lc,v=.slice La l.length Lc/\l.length<=1000000/\l.length<=Lc/\Lc<=9223372036854775807/\bJ w 13 La (aO 5 0 ByteArray.empty l [])/\∀ i,(h:i<l.length)->bM l[i]
theorem cZ.keep {w w':World} {v:Value} {l:List T} (h:cZ w v l) (hb:Below w.heap.size w w'):cZ w' v l:=by
 obtain ⟨La,Lc,h1,h2,h3,h4,h5,h6⟩:=h;exact ⟨La,Lc,h1,h2,h3,h4,h5.keep hb,h6⟩
theorem fC (l:List T) {k:Nat} (h:k<l.length):elt (aO 5 0 ByteArray.empty l []) k=l[k]:=by rw [iQ,List.getD_eq_getElem?_getD,List.getElem?_eq_getElem h];rfl
def WL {σ:Type} (st:σ->T->Int⊕σ) (s:σ) (I:σ->World->Prop) (c:Nat) (l:List T) (w0 w:World) (e:Ending) (w':World):Prop :=
 Below w0.heap.size w w'/\((∃ (k:Nat) (x:Int),dM st l 0 s=.inl (k,x)/\x≠0/\e=.returned (.tuple #[.slice none 0 0,.int .i64 k,.int .i64 x]))\/∃ s' v,dM st l 0 s=.inr s'/\I s' w'/\w'.cell? ⟨c,0,none⟩=some v/\e=.returned (.tuple #[v,.int .i64 0,.int .i64 0]))
def Ie {σ:Type} (st:σ->T->Int⊕σ) (s:σ) (I:σ->World->Prop) (d:T) (w0 w:World) (e:Ending) (w':World):Prop :=
 Below w0.heap.size w w'/\((∃ x,st s d=.inl x/\x≠0/\e=.returned (.int .i64 x))\/∃ s',st s d=.inr s'/\e=.returned (.int .i64 0)/\I s' w')
theorem Lb {σ:Type} (st:σ->T->Int⊕σ) (I:Nat->σ->World->Prop) (gid:FuncId) (ah1:∀ (a:Array Value) (w:World),(callFunc gid a).run Tryz.prog w=.ok (.enter gid a) w) (pv:Value) (c:Nat) (dv:Value) (l:List T) (s:σ) (w0 w:World) (hb0:Below w0.heap.size w0 w) (hd:cZ w0 dv l) (hI:I 0 s w)
  (hIk:∀ k s w w',I k s w->Below w.heap.size w w'->I k s w') (hIc:∀ k s w,I k s w->∃ v,w.cell? ⟨c,0,none⟩=some v)
  (hst:∀ k s d v wr,k<l.length->I k s wr->Below w0.heap.size w0 wr->At w0 13 v d->bM d->Calls Tryz.prog gid #[pv,v] wr (Ie st s (I (k+1)) d w0 wr)) :
  Calls Tryz.prog 350 #[.pointer (some ⟨c,0,none⟩),dv,.func (Fn.func gid) #[pv] #[]] w (WL st s (I l.length) c l w0 w):=by
 obtain ⟨La,Lc,rfl,hn,_,_,hel,hok⟩:=hd;have JQ:=ak hel;have HOk:=ak hok;have HB0:=ak hb0;have HI:=ak hI;have HIk:=ak hIk;have HIc:=ak hIc;have vM:=ak hst;clear hel hok hb0 hI hIk hIc hst;obtain ⟨n,hln⟩:∃ n,l.length=n:=⟨_,rfl⟩;have QB:=ak hln;rw [hln] at hn ⊢;clear hln;go_in;go_wp2_with fail;go_loopg [14] n (fun g i wr=>∃ (k:Nat) (s':σ),g=n - k/\k<=n/\i=.int .i64 k/\Hid (Below w0.heap.size w wr)/\Hid (I k s' wr)/\Hid (dM st (l.take k) 0 s=.inr s'))
 case atStart=>exact ⟨0,s,rfl,Nat.zero_le _,rfl,Below.refl _ _,HI,rfl⟩
 case round =>
  obtain ⟨k,s',rfl,hk,rfl,HB,HS,HE⟩:=hrel;have K8:=ak (HB0.out.trans HB.out);by_cases hlt:k<n
  ·have hkl:k<l.length:=by rw [QB.out];exact hlt
   obtain ⟨bb,oo,A,B,C,D,rfl,hbl,p0,p1,p2,p3,p4,Ha⟩:=JQ.out.shape K8.out k (by rw [aN];exact hkl);rw [fC l hkl] at p0 p1 p2 p3 p4 Ha;have HG:Hid (l.take (k+1)=l.take k++[l[k]]):=by show _=_;rw [List.take_add_one,List.getElem?_eq_getElem hkl];rfl
   have HG2:Hid (l=l.take k++l[k]::l.drop (k+1)):=by show _=_;rw [<- List.drop_eq_getElem_cons hkl,List.take_append_drop]
   have HGl:Hid ((l.take k).length=k):=by show _=_;rw [List.length_take];omega
   have HK:=ak (HOk.out k hkl);generalize l[k]=d at p0 p1 p2 p3 p4 Ha HG HG2 HK;have vY:=ak (aY wr (vC d A B C D));have HB2:=ak (K8.out.trans (vY.out.mono K8.out.size));have HC:=ak (vM.out k s' d _ _ hkl (HIk.out _ _ _ _ HS.out vY.out) HB2.out Ha.out HK.out);go_wp2_with fail;refine HC.out.mono ?_;rintro e w2 ⟨b2,⟨x,hx,hne,rfl⟩ | ⟨s2,hx,rfl,hI2⟩⟩
   ·have ez:(x==0)=false:=by simpa using hne
    have HF:Hid (dM st l 0 s=.inl (k,x)/\x≠0):=⟨by have:=yI st _ _ (l.drop (k+1)) 0 s s' x HE.out hx;rw [<- HG2.out,HGl.out,Nat.zero_add] at this;exact this,hne⟩;have fI:=ak ((HB.out.trans (vY.out.mono K8.out.size)).trans b2);clear b2 hx hne HC;go_wp2_with fail;refine bodyPost_ret (v:=.tuple #[.slice none 0 0,.int .i64 (k:Nat),.int .i64 x]) (by simp [results,Tryz.results350,go_sem, *]) rfl ?_;exact ⟨fI.out,.inl ⟨k,x,HF.out.1,HF.out.2,rfl⟩⟩
   ·have HE2:Hid (dM st (l.take (k+1)) 0 s=.inr s2):=by show _=_;rw [HG.out];exact vT st _ _ 0 s s' s2 HE.out hx
    have fI:=ak ((HB.out.trans (vY.out.mono K8.out.size)).trans b2);have HI2:=ak hI2;clear b2 hx HC hI2;go_wp2_with fail;go_roundg (n - (k+1))
    case rel=>exact ⟨k+1,s2,rfl,by omega,by go_num,fI,HI2,HE2⟩
    case measure=>omega
  ·obtain rfl:k=n:=by omega
   have HF:Hid (dM st l 0 s=.inr s'):=by
    have h1:=HE.out;rw [<- QB.out,List.take_length] at h1;exact h1
   obtain ⟨v,hv⟩:=HIc.out _ s' wr HS.out;go_wp2_with fail;refine bodyPost_ret (v:=.tuple #[v,.int .i64 0,.int .i64 0]) (by simp [results,Tryz.results350,go_sem, *]) rfl ?_;exact ⟨HB.out,.inr ⟨s',v,HF.out,HS.out,hv,rfl⟩⟩
theorem Cn {w:World} {f b o:Nat} {t:T} (h:bJ w f (some ⟨b,o,none⟩) t):∀ n,n<=nL t->∃ zs:List Value,zs.length=n*5/\(∀ i,i<n->At w f (fv zs i) (elt t i))/\(∀ j u,zs[j]?=some u->w.cell? ⟨b,o+j,none⟩=some u)/\∀ u ∈ zs,u.oneCell'=true
 | 0,_=>⟨[],rfl,fun i hi=>absurd hi (Nat.not_lt_zero i),fun j u h=>by simp at h,fun u h=>by cases h⟩
 | n+1,hn=>by
  obtain ⟨zs,h1,h2,h3,h4⟩:=Cn h n (by omega);obtain ⟨b',o',c0,c1,c2,c3,c4,e0,hbl,q0,q1,q2,q3,q4,ha⟩:=h n (by omega);simp only [Option.some.injEq,Addr.mk.injEq,and_true] at e0;obtain ⟨rfl,rfl⟩:=e0;obtain ⟨g1,La,Ka,Lc,Kc,_,hx,_,_,_⟩:=ha.open;refine ⟨zs++[c0,c1,c2,c3,c4],by rw [List.length_append,h1];show n*5+5=_;omega,fun i hi=>?_,fun j u hu=>?_,fun u hu=>?_⟩
  ·by_cases e:i<n
   ·rw [pU h1 e];exact h2 i e
   ·obtain rfl:i=n:=by omega
    rw [uw h1];exact ha
  ·by_cases e:j<zs.length
   ·rw [List.getElem?_append_left e] at hu;exact h3 j u hu
   ·rw [List.getElem?_append_right (by omega),h1] at hu;obtain ⟨r,rfl⟩:∃ r,j=n*5+r:=⟨j - n*5,by omega⟩;rw [Nat.add_sub_cancel_left] at hu;rw [<- Nat.add_assoc]
    match r,hu with
    | 0,hu=>simp at hu;rw [<- hu];exact q0
    | 1,hu=>simp at hu;rw [<- hu];exact q1
    | 2,hu=>simp at hu;rw [<- hu];exact q2
    | 3,hu=>simp at hu;rw [<- hu];exact q3
    | 4,hu=>simp at hu;rw [<- hu];exact q4
    | r+5,hu=>simp at hu
  ·rw [List.mem_append] at hu;rcases hu with hu | hu
   ·exact h4 u hu
   ·simp only [Value.agg.injEq,Array.mk.injEq,List.cons.injEq,and_true] at hx;obtain ⟨rfl,rfl,rfl,rfl,rfl⟩:=hx;simp only [List.mem_cons,List.not_mem_nil,or_false] at hu;rcases hu with rfl | rfl | rfl | rfl | rfl<;>rfl
theorem Oe (f b o m c:Nat) (t:T) (w:World) (h:bJ w f (some ⟨b,o,none⟩) t) (hm:nL t=m) (hn:m<=1000000) (hbw:b<w.heap.size) :
  Calls Tryz.prog 356 #[.slice (some ⟨b,o,none⟩) m c] w fun e w'=>Below w.heap.size w w'/\∃ v zs,e=.returned v/\w'.ownsRow w.heap.size 25 5 v m zs/\∀ i,i<m->At w f (fv zs i) (elt t i):=by
 obtain ⟨iV,Em,En,Eo,Ep⟩:=info_parts uT;obtain ⟨zs,h1,h2,h3,h4⟩:=Cn h (nL t) (Nat.le_refl _);rw [hm] at h1 h2;have HB1:=ak (aY w (.cells #[] 25))
 have HO:Hid ((w.alloc (.cells #[] 25)).ownsRow w.heap.size 25 5 (.slice (some ⟨w.heap.size,0,none⟩) 0 0) 0 []):=by
  have:=World.ownsRow_lit (base:=w.heap.size) (e:=25) (size:=5) w #[] 0 (Nat.le_refl _) (by unfold maxLen;omega) rfl;have h5:(w.alloc (.cells #[] 25)).ownsRow w.heap.size 25 5 (.slice (some ⟨w.heap.size,0,none⟩) 0 0) 0 []:=by simpa using this
  exact h5
 have HS:Hid (Src Tryz.prog 5 22 (.slice (some ⟨b,o,none⟩) m c) m zs (w.alloc (.cells #[] 25))):=Src.ofSlice _ Tryz.underlying22 ⟨b,o,none⟩ m c zs h1 (fun j u hu=>by rw [show (⟨b,o,none⟩:Addr).add j=⟨b,o+j,none⟩ by unfold Addr.add;by_cases e:j=0<;>simp [e]];exact (HB1.out.cell (p:=⟨b,o+j,none⟩) hbw).trans (h3 j u hu)) h4;have Hz:=ak (And.intro h1 h2);clear h h1 h2 h3 h4 hm;have heq:(binOp .eql 22 (.slice (some ⟨b,o,none⟩) m c) (.slice none 0 0)).run Tryz.prog w=.ok (.bool false) w:=by kernel_rfl
 go_in;go_wp2_with (at_builtin;refine aG _ rfl (.tmp 5) (.tmp 6) 22 22 rfl w.heap.size 25 iV _ 5 80 Tryz.underlying22 Em En Eo Ep rfl (.slice (some ⟨w.heap.size,0,none⟩) 0 0) 0 [] rfl HO.out (.slice (some ⟨b,o,none⟩) m c) m zs rfl HS.out (by unfold maxLen;omega) (by omega) (by simp) ?_;intro v' w6 qX nu dV);have H6:=ak qX;have iN:=ak (dx HB1.out HO.out (Nat.le_refl _) (by simp) nu);clear qX nu dV;go_wp2_with fail;go_ret;rw [Nat.zero_add,List.nil_append] at H6;exact ⟨iN.out,v',zs,rfl,H6.out,Hz.out.2⟩
end Go.Proofs.YtknakfpciccoaaaGreatDoor
