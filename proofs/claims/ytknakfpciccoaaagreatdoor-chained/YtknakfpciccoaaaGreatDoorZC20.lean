import Derived.Test.YtknakfpciccoaaaGreatDoorZC19
import Derived.Test.YtknakfpciccoaaaGreatDoorZC15
import Derived.Test.YtknakfpciccoaaaGreatDoorZC7
/- readDocument. -/
set_option maxHeartbeats 4000000
set_option maxRecDepth 100000
namespace Go.Proofs.YtknakfpciccoaaaGreatDoor
open Go.RowKit
def G9 (s : ByteArray) (w : World) (e : Ending) (w' : World) : Prop :=
  Below w.heap.size w w' /\
  ((eJ s ≠ 0 /\ e = .returned (.tuple #[kW, .int .i64 (eJ s)])) \/ (eJ s = 0 /\ lg (tJ s) = false /\ e = .returned (.tuple #[kW, .int .i64 7])) \/ (eJ s = 0 /\ lg (tJ s) = true /\ bR (tJ s) = true /\ e = .returned (.tuple #[kW, .int .i64 15])) \/
   (eJ s = 0 /\ lg (tJ s) = true /\ bR (tJ s) = false /\ ∃ A B C D, e = .returned (.tuple #[.agg #[.int .i64 (aj (tJ s)), .int .i64 (av (tJ s)), .string (ay (tJ s)), .slice A (nL (tJ s)) B, .slice C (nK (tJ s)) D], .int .i64 0]) /\ qc (aS w w') w' 13 (.agg #[.int .i64 (aj (tJ s)), .int .i64 (av (tJ s)), .string (ay (tJ s)), .slice A (nL (tJ s)) B, .slice C (nK (tJ s)) D]) (tJ s)))
theorem KG {Tb:World->Prop} (hD:cu Tb) (hN:dK Tb) (hL:aV Tb) (s:ByteArray) (w:World) (hs:s.size<=140737488355328) (hT:Tb w) (h0:eJ s≠0) :
  Calls Tryz.prog 71 #[.string s] w (G9 s w):=by
 have HB0:=ak (aY w (.cells #[.int .i64 0,.int .i64 0,.string ⟨#[]⟩,.slice none 0 0,.slice none 0 0] 25));have HP:=ak (Ay hD hN hL s (w.alloc (.cells #[.int .i64 0,.int .i64 0,.string ⟨#[]⟩,.slice none 0 0,.slice none 0 0] 25)) hs (hL w hT _ _ hT HB0.out));have H0:=ak h0;have ez:(eJ s==0)=false:=by simpa using h0
 clear hT hD hN hL h0;go_in;go_wp2_with fail;refine HP.out.mono ?_;rintro e w1 ⟨b1,es,A,B,C,D,rfl,hF,hS,h1,h2⟩;have fT:=ak (aY w1 (vC (tJ s) A B C D));have HB:=ak ((HB0.out.trans (b1.mono HB0.out.size)).trans (fT.out.mono (HB0.out.trans (b1.mono HB0.out.size)).size));have HX:=ak (((aR w (.int .i64 0) (.int .i64 0) (.string ⟨#[]⟩) (.slice none 0 0) (.slice none 0 0)).stay b1).stay fT.out);have r0:=HX.out.q0;have r1:=HX.out.q1;have r2:=HX.out.q2;have r3:=HX.out.q3;have r4:=HX.out.q4;have z0:=HX.out.f0;have z1:=HX.out.f1;have z2:=HX.out.f2;have z3:=HX.out.f3;have z4:=HX.out.f4;clear b1 hF hS h1 h2 HP;go_wp2_with fail;refine bodyPost_ret (v:=.tuple #[kW,.int .i64 (eJ s)]) (by simp [results,Tryz.results71,go_sem,kW, *]) rfl ?_;exact ⟨HB.out.trans ((jd (w1.alloc (vC (tJ s) A B C D)) w.heap.size _ _ _ _ _).below HB.out.size),.inl ⟨H0.out,rfl⟩⟩
theorem NP {Tb:World->Prop} (hV:bF Tb) (hD:cu Tb) (hN:dK Tb) (hL:aV Tb) (s:ByteArray) (w:World) (hs:s.size<=140737488355328) (hT:Tb w) (h0:eJ s=0) :
  Calls Tryz.prog 71 #[.string s] w (G9 s w):=by
 have HB0:=ak (aY w (.cells #[.int .i64 0,.int .i64 0,.string ⟨#[]⟩,.slice none 0 0,.slice none 0 0] 25));have HP:=ak (Fh hD hN hL s (w.alloc (.cells #[.int .i64 0,.int .i64 0,.string ⟨#[]⟩,.slice none 0 0,.slice none 0 0] 25)) hs (hL w hT _ _ hT HB0.out) h0);have H0:=ak h0;have HK:=ak (mM h0);have HT:Hid (∀ w':World,Below w.heap.size w w'->Tb w'):=fun w' hb=>hL w hT w w' hT hb;have HTB:Hid (∀ (v:Value) (w:World),At w 13 v (tJ s)->Tb w->Calls Tryz.prog 117 #[v] w fun e w'=>e=.returned (.bool (bR (tJ s)))/\Below w.heap.size w w'):=fun v w ha ht=>Ch hV hL 13 v (tJ s) w ha ht;have Zd:Hid ((w.alloc (.cells #[.int .i64 0,.int .i64 0,.string ⟨#[]⟩,.slice none 0 0,.slice none 0 0] 25)).heap.size=w.heap.size+1):=by show _=_;simp
 clear hT hD hN hL h0 hV;go_in;go_wp2_with fail;refine HP.out.mono ?_;rintro e w1 ⟨b1,A,B,C,D,rfl,ha⟩;have fT:=ak (aY w1 (vC (tJ s) A B C D));have HB:=ak ((HB0.out.trans (b1.mono HB0.out.size)).trans (fT.out.mono (HB0.out.trans (b1.mono HB0.out.size)).size));have HX:=ak (((aR w (.int .i64 0) (.int .i64 0) (.string ⟨#[]⟩) (.slice none 0 0) (.slice none 0 0)).stay b1).stay fT.out);have HY:=ak (aR w1 (.int .i64 (aj (tJ s))) (.int .i64 (av (tJ s))) (.string (ay (tJ s))) (.slice A (nL (tJ s)) B) (.slice C (nK (tJ s)) D));have oM:=ak (ha.move (q:=fun b=>w.heap.size+1<=b/\b<w1.heap.size) (w':=w1.alloc (vC (tJ s) A B C D)) fT.out.size (fun b hb hp=>⟨⟨by have:=hp.1;have:=Zd.out;omega,hb⟩,fT.out.block b hb⟩));have HI:=ak (Sr 13 _ (tJ s) _ oM.out.at HK.out);clear b1 ha HP;cases hd:lg (tJ s) with
 | false =>
  rw [hd] at HI;have Hd:=ak hd;clear hd;go_wp2_with fail;refine HI.out.mono ?_;rintro e w2 ⟨rfl,b2⟩;have HB2:=ak (HB.out.trans (b2.mono HB.out.size));have kr:=ak (HX.out.stay b2);have r0:=kr.out.q0;have r1:=kr.out.q1;have r2:=kr.out.q2;have r3:=kr.out.q3;have r4:=kr.out.q4;have z0:=kr.out.f0;have z1:=kr.out.f1;have z2:=kr.out.f2;have z3:=kr.out.f3;have z4:=kr.out.f4;clear b2 HI;go_wp2_with fail;refine bodyPost_ret (v:=.tuple #[kW,.int .i64 7]) (by simp [results,Tryz.results71,go_sem,kW, *]) rfl ?_;exact ⟨HB2.out.trans ((jd w2 w.heap.size _ _ _ _ _).below HB2.out.size),.inr (.inl ⟨H0.out,Hd.out,rfl⟩)⟩
 | true =>
  rw [hd] at HI;have Hd:=ak hd;clear hd;go_wp2_with fail;refine HI.out.mono ?_;rintro e w2 ⟨rfl,b2⟩;have HB2:=ak (HB.out.trans (b2.mono HB.out.size));have kr:=ak (HX.out.stay b2);have HY2:=ak (HY.out.stay b2);have afd:=ak (oM.out.move (q:=fun b=>w.heap.size+1<=b/\b<w1.heap.size) b2.size (fun b hb hp=>⟨hp,b2.block b hb⟩));have HG:=ak (HTB.out _ w2 afd.out.at (HT.out _ HB2.out));have y0:=HY2.out.q0;have y1:=HY2.out.q1;have y2:=HY2.out.q2;have y3:=HY2.out.q3;have y4:=HY2.out.q4;clear b2 HI;cases hb:bR (tJ s) with
  | true =>
   rw [hb] at HG;have Hb:=ak hb;clear hb;go_wp2_with fail;refine HG.out.mono ?_;rintro e w3 ⟨rfl,b3⟩;have HB3:=ak (HB2.out.trans (b3.mono HB2.out.size));have eO:=ak (kr.out.stay b3);have r0:=eO.out.q0;have r1:=eO.out.q1;have r2:=eO.out.q2;have r3:=eO.out.q3;have r4:=eO.out.q4;have z0:=eO.out.f0;have z1:=eO.out.f1;have z2:=eO.out.f2;have z3:=eO.out.f3;have z4:=eO.out.f4;clear b3 HG y0 y1 y2 y3 y4;go_wp2_with fail;refine bodyPost_ret (v:=.tuple #[kW,.int .i64 15]) (by simp [results,Tryz.results71,go_sem,kW, *]) rfl ?_;exact ⟨HB3.out.trans ((jd w3 w.heap.size _ _ _ _ _).below HB3.out.size),.inr (.inr (.inl ⟨H0.out,Hd.out,Hb.out,rfl⟩))⟩
  | false =>
   rw [hb] at HG;have Hb:=ak hb;clear hb;go_wp2_with fail;refine HG.out.mono ?_;rintro e w3 ⟨rfl,b3⟩;have HB3:=ak (HB2.out.trans (b3.mono HB2.out.size));have eO:=ak (kr.out.stay b3);have He:=ak (HY2.out.stay b3);have ahQ:=ak (afd.out.move (q:=fun b=>w.heap.size+1<=b/\b<w1.heap.size) b3.size (fun b hb hp=>⟨hp,b3.block b hb⟩));have HO:=ak (eO.out.bV (.int .i64 (aj (tJ s))) (.int .i64 (av (tJ s))) (.string (ay (tJ s))) (.slice A (nL (tJ s)) B) (.slice C (nK (tJ s)) D));have HW1:Hid (w1.heap.size<=w3.heap.size):=by show _<=_;have:=He.out.lt;omega
   have v0:=He.out.q0;have v1:=He.out.q1;have v2:=He.out.q2;have v3:=He.out.q3;have v4:=He.out.q4;have r0:=eO.out.q0;have r1:=eO.out.q1;have r2:=eO.out.q2;have r3:=eO.out.q3;have r4:=eO.out.q4;have z0:=eO.out.f0;have z1:=eO.out.f1;have z2:=eO.out.f2;have z3:=eO.out.f3;have z4:=eO.out.f4;unfold bV at HO;clear b3 HG y0 y1 y2 y3 y4;go_wp2_with fail;clear r0 r1 r2 r3 r4 z0 z1 z2 z3 z4;have dB:=ak HO.out;have r0:=dB.out.q0;have r1:=dB.out.q1;have r2:=dB.out.q2;have r3:=dB.out.q3;have r4:=dB.out.q4;refine bodyPost_ret (v:=.tuple #[.agg #[.int .i64 (aj (tJ s)),.int .i64 (av (tJ s)),.string (ay (tJ s)),.slice A (nL (tJ s)) B,.slice C (nK (tJ s)) D],.int .i64 0]) (by simp [results,Tryz.results71,go_sem, *]) rfl ?_;refine ⟨HB3.out.trans ((jd w3 w.heap.size _ _ _ _ _).below HB3.out.size),.inr (.inr (.inr ⟨H0.out,Hd.out,Hb.out,A,B,C,D,rfl,?_⟩))⟩;exact ahQ.out.move (w':=bV w3 w.heap.size _ _ _ _ _) (by rw [jA];exact Nat.le_refl _) (fun b hb hp=>⟨⟨by omega,by simpa [World.setCell] using hb⟩,ig w3 (by omega) _ _ _ _ _⟩)
theorem KH {Tb:World->Prop} (hV:bF Tb) (hD:cu Tb) (hN:dK Tb) (hL:aV Tb) (s:ByteArray) (w:World) (hs:s.size<=140737488355328) (hT:Tb w) :
  Calls Tryz.prog 71 #[.string s] w (G9 s w):=by
 by_cases h0:eJ s=0
 ·exact NP hV hD hN hL s w hs hT h0
 ·exact KG hD hN hL s w hs hT h0
theorem NQ (f gx:Nat) (v:Value) (t:T) (k p:Nat) (x:T) (A C:Option Addr) (B D:Nat) (w:World) (h:At w f v t) (hk:idP t=some k) (hlt:k<nL t) (hf:f<=16) (ht:bM t) (hx:At w gx (.agg #[.int .i64 (aj x),.int .i64 (av x),.string (ay x),.slice A (nL x) B,.slice C (nK x) D]) x) (hox:bM x)
  (hb:aJ p (.int .i64 (aj x)) (.int .i64 (av x)) (.string (ay x)) (.slice A (nL x) B) (.slice C (nK x) D) w) :
  Calls Tryz.prog 157 #[v,.pointer (some ⟨p,0,none⟩)] w fun e w'=>e=.returned (.bool (bQ 16 (elt t k) x==0))/\Below w.heap.size w w':=by
 have HA:=ak h;obtain ⟨g,La,Ka,Lc,Kc,rfl,rfl,hff,hl,hkk⟩:=h.open;have HB1:=ak (aY w (vC t La Lc Ka Kc));have HD:=ak HB1.out.drew;have HX:=ak (hb.stay HD.out);have HY:=ak ((aR w (.int .i64 (aj t)) (.int .i64 (av t)) (.string (ay t)) (.slice La (nL t) Lc) (.slice Ka (nK t) Kc)).stay (au _));have HI:=ak (Cg _ _ t k _ (HA.out.keep HD.out) hk hlt);have HE:Hid (∀ (w':World) (g':Nat) (u:Value),Below w.heap.size w w'->g'+1=g+1->At w' g' u (elt t k)->Calls Tryz.prog 158 #[u,.agg #[.int .i64 (aj x),.int .i64 (av x),.string (ay x),.slice A (nL x) B,.slice C (nK x) D]] w' fun e w2=>e=.returned (.bool (bQ 16 (elt t k) x==0))/\Below w'.heap.size w' w2):=fun w' g' u hb' hg ha=>wT ha (hx.keep hb') (by omega) (ht.elt hlt) hox;generalize bQ 16 (elt t k) x=cc at HE ⊢
 have qW:Hid (∀ wx,aJ p (.int .i64 (aj x)) (.int .i64 (av x)) (.string (ay x)) (.slice A (nL x) B) (.slice C (nK x) D) wx->aJ w.heap.size (.int .i64 (aj t)) (.int .i64 (av t)) (.string (ay t)) (.slice La (nL t) Lc) (.slice Ka (nK t) Kc) wx->(fun wx=>wx.cell? ⟨p,0,none⟩=some (.int .i64 (aj x))/\wx.cell? ⟨p,1,none⟩=some (.int .i64 (av x))/\wx.cell? ⟨p,2,none⟩=some (.string (ay x))/\wx.cell? ⟨p,3,none⟩=some (.slice A (nL x) B)/\wx.cell? ⟨p,4,none⟩=some (.slice C (nK x) D)/\wx.cell? ⟨w.heap.size,0,none⟩=some (.int .i64 (aj t))/\wx.cell? ⟨w.heap.size,1,none⟩=some (.int .i64 (av t))/\wx.cell? ⟨w.heap.size,2,none⟩=some (.string (ay t))/\wx.cell? ⟨w.heap.size,3,none⟩=some (.slice La (nL t) Lc)/\wx.cell? ⟨w.heap.size,4,none⟩=some (.slice Ka (nK t) Kc)) wx):=fun wx a b=>⟨a.q0,a.q1,a.q2,a.q3,a.q4,b.q0,b.q1,b.q2,b.q3,b.q4⟩;have qy:=ak (qW.out _ HX.out HY.out);clear h hff hl hkk hk hlt hf ht hx hox hb HA;go_in;go_wp2_with fail
 go_region_held3 (fun wx=>wx.cell? ⟨p,0,none⟩=some (.int .i64 (aj x))/\wx.cell? ⟨p,1,none⟩=some (.int .i64 (av x))/\wx.cell? ⟨p,2,none⟩=some (.string (ay x))/\wx.cell? ⟨p,3,none⟩=some (.slice A (nL x) B)/\wx.cell? ⟨p,4,none⟩=some (.slice C (nK x) D)/\wx.cell? ⟨w.heap.size,0,none⟩=some (.int .i64 (aj t))/\wx.cell? ⟨w.heap.size,1,none⟩=some (.int .i64 (av t))/\wx.cell? ⟨w.heap.size,2,none⟩=some (.string (ay t))/\wx.cell? ⟨w.heap.size,3,none⟩=some (.slice La (nL t) Lc)/\wx.cell? ⟨w.heap.size,4,none⟩=some (.slice Ka (nK t) Kc)) (first | exact hS4 | exact hS3 | exact qy.out) (first | (go_at_call 119;refine HI.out.mono ?_;rintro e w3 ⟨b3,g',A2,B2,C2,D2,hg3,rfl,ha3⟩;have hS3:=qW.out _ (HX.out.stay b3) (HY.out.stay b3)) | (go_at_call 158;refine (HE.out _ _ _ (HD.out.trans (b3.mono HD.out.size)) hg3.symm ha3).mono ?_;rintro e w4 ⟨rfl,b4⟩;have hS4:=qW.out _ ((HX.out.stay b3).stay b4) ((HY.out.stay b3).stay b4)));have fI:=ak ((HD.out.trans (b3.mono HD.out.size)).trans (b4.mono (HD.out.trans (b3.mono HD.out.size)).size));clear b3 b4 hS3 hS4 ha3 hg3;go_wp2_with fail;go_ret;exact ⟨rfl,fI.out⟩
def Qt (t:T):T:=elt t ((idP t).getD 0)
def jq (x t:T):Bool:=bQ 16 (Qt t) x==0
def Doc (t:T):Prop:=bM t/\∃ k,idP t=some k/\k<nL t
theorem Fj {t:T} (h:bM t) (hd:lg t=true):Doc t:=by
 unfold lg at hd;simp only [Bool.and_eq_true,beq_iff_eq] at hd;cases hi:idP t with
 | none=>rw [hi] at hd;simp at hd
 | some k=>exact ⟨h,k,hi,by have h1:=h.names hd.1;have h2:k<(jZ t).length:=tY hi;unfold nK at h1;omega⟩
theorem Sv (c f gx:Nat) (d x:T) (La:Option Addr) (Lc:Nat) (vx:Value) (w:World) (hc:w.cell? ⟨c,0,none⟩=some (.slice La (nL d) Lc)) (hcl:c<w.heap.size) (hl:bJ w f La d) (hn:nL d<=1000000) (hf:f<=16) (hd:∀ i,i<nL d->Doc (elt d i)) (hx:At w gx vx x) (hox:bM x) :
  Calls Tryz.prog 118 #[.pointer (some ⟨c,0,none⟩),vx] w fun e w'=>e=.returned (.bool (dw (jq x) d (nL d)))/\Below w.heap.size w w':=by
 have Rk:∀ (fn:Fn) (first cap:Array Value) (w:World),(Instr.makeFunc fn first cap).run Tryz.prog w=.ok (.func fn first cap) w:=fun _ _ _ _=>rfl;have HX0:=ak hx;obtain ⟨g,A,C,B,D,rfl,rfl,hff,hl',hkk⟩:=hx.open;have HB1:=ak (aY w (vC x A B C D));have uM:=ak (aR w (.int .i64 (aj x)) (.int .i64 (av x)) (.string (ay x)) (.slice A (nL x) B) (.slice C (nK x) D));have q0:(w.alloc (vC x A B C D)).cell? ⟨c,0,none⟩=some (.slice La (nL d) Lc):=(HB1.out.cell (p:=⟨c,0,none⟩) hcl).trans hc
 have HC:=ak (nU (jq x) 157 (fun _ _=>rfl) (.pointer (some ⟨w.heap.size,0,none⟩)) f La Lc d (w.alloc (vC x A B C D)) (hl.keep HB1.out) (by omega) (fun k hk wr v hb ha=>by
  obtain ⟨ho,i,hi,hil⟩:=hd k hk;have e:jq x (elt d k)=(bQ 16 (elt (elt d k) i) x==0):=by unfold jq Qt;rw [hi];rfl
  rw [e];exact NQ f _ v (elt d k) i w.heap.size x A C B D wr ha hi hil hf ho ((HX0.out.keep HB1.out).keep hb) hox (uM.out.stay hb)))
 clear hx hff hl' hkk hl hd hox hc HX0 uM;go_in;go_wp2_with fail;refine HC.out.mono ?_;rintro e w2 ⟨rfl,b2⟩;have HB2:=ak (HB1.out.trans (b2.mono HB1.out.size));clear b2 HC;go_wp2_with fail;go_ret;exact ⟨rfl,HB2.out⟩
structure Col (w:World) (c f:Nat) (l:List T) (v:Value) (xs:List Value):Prop where
 cell:w.cell? ⟨c,0,none⟩=some v
 free:w.frozen? ⟨c,0,none⟩=false
 low:c<w.heap.size
 row:w.ownsRow 0 25 5 v l.length xs
 apart:v.ownBlock≠some c
 at_:∀ i,(h:i<l.length)->At w f (fv xs i) l[i]
theorem Col.elems {w:World} {c f:Nat} {l:List T} {v:Value} {xs:List Value} (h:Col w c f l v xs):∃ La Lc,v=.slice La l.length Lc/\bJ w f La (aO 5 0 ByteArray.empty l []):=by
 have hx:xs.length=l.length*5:=h.row.1;rcases h.row.2 with ⟨rfl,hn⟩ | ⟨g,cap,cur,rfl,hb0,hg,rest⟩
 ·refine ⟨none,0,by rw [hn],fun i hi=>?_⟩;rw [aN] at hi;omega
 ·refine ⟨_,_,rfl,fun i hi=>?_⟩;rw [aN] at hi;have hc:∀ j,j<5->w.cell? ⟨g,i*5+j,none⟩=some (cx xs (i*5+j)):=fun j hj=>aX h.row (dR (by omega));have e:elt (aO 5 0 ByteArray.empty l []) i=l[i]:=by rw [iQ,List.getD_eq_getElem?_getD,List.getElem?_eq_getElem hi];rfl
  refine ⟨g,0,cx xs (i*5),cx xs (i*5+1),cx xs (i*5+2),cx xs (i*5+3),cx xs (i*5+4),rfl,(Array.getElem?_eq_some_iff.1 hg).1,(by rw [Nat.zero_add];exact hc 0 (by omega)),(by rw [Nat.zero_add];exact hc 1 (by omega)),(by rw [Nat.zero_add];exact hc 2 (by omega)),(by rw [Nat.zero_add];exact hc 3 (by omega)),(by rw [Nat.zero_add];exact hc 4 (by omega)),?_⟩;rw [e];exact h.at_ i hi
theorem Col.keep {w w':World} {c f:Nat} {l:List T} {v:Value} {xs:List Value} (h:Col w c f l v xs) (hb:Below w.heap.size w w'):Col w' c f l v xs :=
 ⟨(hb.cell (p:=⟨c,0,none⟩) h.low).trans h.cell,(hb.frozen (p:=⟨c,0,none⟩) h.low).trans h.free,Nat.lt_of_lt_of_le h.low hb.size,iO h.row fun b _ h2=>hb.block b h2,h.apart,fun i hi=>At.keep hb (h.at_ i hi)⟩
structure KI (c:Nat) (g:Option Nat) (w w':World):Prop where
 os:w'.os=w.os
 tape:w'.tape=w.tape
 output:w'.output=w.output
 size:w.heap.size<=w'.heap.size
 block:∀ b,b<w.heap.size->b≠c->some b≠g->w'.heap[b]?=w.heap[b]?
theorem dJ {w:World} {g n cap:Nat} {xs news:List Value} {base:Nat} {e:TypeId} (h:w.ownsRow base e 5 (.slice (some ⟨g,0,none⟩) (n+1) cap) (n+1) (xs++news)) (hx:xs.length=n*5) (j:Nat) {u:Value} (hj:j<5) (hu:news[j]?=some u):w.cell? ⟨g,n*5+j,none⟩=some u:=by
 rw [h.cellAt _ (by omega),List.getElem?_append_right (by omega),hx,Nat.add_sub_cancel_left];exact hu
def bG (w:World) (g o:Nat) (u0 u1 u2 u3 u4:Value):World:=((((w.setCell ⟨g,o,none⟩ u0).setCell ⟨g,o+1,none⟩ u1).setCell ⟨g,o+2,none⟩ u2).setCell ⟨g,o+3,none⟩ u3).setCell ⟨g,o+4,none⟩ u4
theorem eB (w:World) {g b':Nat} (h:b'≠g) (o:Nat) (u0 u1 u2 u3 u4:Value):(bG w g o u0 u1 u2 u3 u4).heap[b']?=w.heap[b']?:=by
 have hset:∀ (w1:World) (o:Nat) (u:Value),(w1.setCell ⟨g,o,none⟩ u).heap[b']?=w1.heap[b']?:=fun w1 o u=>Below.heap_setCell _ _ _ _ (by simpa using h);unfold bG;rw [hset,hset,hset,hset,hset]
theorem jr (w:World) (g o:Nat) (u0 u1 u2 u3 u4:Value):(bG w g o u0 u1 u2 u3 u4).heap.size=w.heap.size/\(bG w g o u0 u1 u2 u3 u4).os=w.os/\(bG w g o u0 u1 u2 u3 u4).tape=w.tape/\(bG w g o u0 u1 u2 u3 u4).output=w.output:=by
 unfold bG;simp [World.setCell]
theorem gT (w:World) (a:Addr) (u:Value):(w.setCell a u).heap.size=w.heap.size/\(w.setCell a u).os=w.os/\(w.setCell a u).tape=w.tape/\(w.setCell a u).output=w.output:=by
 simp [World.setCell]
theorem ug {w:World} {base g n cap:Nat} {e:TypeId} {xs:List Value} {y0 y1 y2 y3 y4:Value} (h:w.ownsRow base e 5 (.slice (some ⟨g,0,none⟩) (n+1) cap) (n+1) (xs++[y0,y1,y2,y3,y4])) (hx:xs.length=n*5) (u0 u1 u2 u3 u4:Value) :
  (bG w g (n*5) u0 u1 u2 u3 u4).ownsRow base e 5 (.slice (some ⟨g,0,none⟩) (n+1) cap) (n+1) (xs++[u0,u1,u2,u3,u4]):=by
 have h1:=(((((h.stored (n*5) u0).1.stored (n*5+1) u1).1.stored (n*5+2) u2).1.stored (n*5+3) u3).1.stored (n*5+4) u4).1
 have e:((((((xs++[y0,y1,y2,y3,y4]).set (n*5) u0).set (n*5+1) u1).set (n*5+2) u2).set (n*5+3) u3).set (n*5+4) u4)=xs++[u0,u1,u2,u3,u4]:=by
  rw [<- hx];simp
 rw [e] at h1;exact h1
structure zU (w W4 w6:World) (c g n cap:Nat) (v:Value) (xs:List Value):Prop where
 lt:xs.length=n*5
 own:w6.ownsRow 0 25 5 (.slice (some ⟨g,0,none⟩) (n+1) cap) (n+1) (xs++[.int .i64 0,.int .i64 0,.string ⟨#[]⟩,.slice none 0 0,.slice none 0 0])
 grown:W4.grownBy w6 v.ownBlock
 low:Below w.heap.size w W4
 hat:v.ownBlock=some g\/w.heap.size<=g
 c6:w6.cell? ⟨c,0,none⟩=some v
 f6:w6.frozen? ⟨c,0,none⟩=false
 gc:g≠c
 apart:v.ownBlock≠some c
theorem zU.block {w W4 w6:World} {c g n cap:Nat} {v:Value} {xs:List Value} (h:zU w W4 w6 c g n cap v xs) (b:Nat) (hb:b<w.heap.size) (hv:some b≠v.ownBlock):w6.heap[b]?=w.heap[b]?/\b≠g :=
 ⟨(h.grown.block b (Nat.lt_of_lt_of_le hb h.low.size) hv).trans (h.low.block b hb),fun e=>by subst e;rcases h.hat with h1 | h1;exact hv h1.symm;omega⟩
theorem zU.afe {w W4 w6:World} {c g n cap:Nat} {v:Value} {xs:List Value} (h:zU w W4 w6 c g n cap v xs) (u0 u1 u2 u3 u4:Value) :
  KI c v.ownBlock w ((bG w6 g (n*5) u0 u1 u2 u3 u4).setCell ⟨c,0,none⟩ (.slice (some ⟨g,0,none⟩) (n+1) cap))/\((bG w6 g (n*5) u0 u1 u2 u3 u4).setCell ⟨c,0,none⟩ (.slice (some ⟨g,0,none⟩) (n+1) cap)).cell? ⟨c,0,none⟩=some (.slice (some ⟨g,0,none⟩) (n+1) cap)/\((bG w6 g (n*5) u0 u1 u2 u3 u4).setCell ⟨c,0,none⟩ (.slice (some ⟨g,0,none⟩) (n+1) cap)).frozen? ⟨c,0,none⟩=false/\(v.ownBlock=some g\/w.heap.size<=g)/\((bG w6 g (n*5) u0 u1 u2 u3 u4).setCell ⟨c,0,none⟩ (.slice (some ⟨g,0,none⟩) (n+1) cap)).ownsRow 0 25 5 (.slice (some ⟨g,0,none⟩) (n+1) cap) (n+1) (xs++[u0,u1,u2,u3,u4]):=by
 obtain ⟨r1,r2,r3,r4⟩:=jr w6 g (n*5) u0 u1 u2 u3 u4;have hcb:=eB w6 (Ne.symm h.gc) (n*5) u0 u1 u2 u3 u4;have hoth:∀ b,b≠g->(bG w6 g (n*5) u0 u1 u2 u3 u4).heap[b]?=w6.heap[b]?:=fun b hb=>eB w6 hb _ _ _ _ _ _;have hrow:=ug h.own h.lt u0 u1 u2 u3 u4;generalize bG w6 g (n*5) u0 u1 u2 u3 u4=w7 at r1 r2 r3 r4 hcb hrow hoth ⊢;obtain ⟨t1,t2,t3,t4⟩:=gT w7 ⟨c,0,none⟩ (.slice (some ⟨g,0,none⟩) (n+1) cap);have h3:=h.grown.size;have h4:=h.low.size;have k1:=World.cell?_setCell_same w7 ⟨c,0,none⟩ (.slice (some ⟨g,0,none⟩) (n+1) cap) ((aC hcb 0).trans h.c6)
 have k2:(w7.setCell ⟨c,0,none⟩ (.slice (some ⟨g,0,none⟩) (n+1) cap)).frozen? ⟨c,0,none⟩=false:=by
  rw [World.frozen?_setCell];exact (World.frozen?_of_block (a:=⟨c,0,none⟩) hcb).trans h.f6
 have k3:=ownsRow_setCell_other (a:=⟨c,0,none⟩) hrow (by simpa [Value.ownBlock] using h.gc) (.slice (some ⟨g,0,none⟩) (n+1) cap);have k4:∀ b,b≠c->(w7.setCell ⟨c,0,none⟩ (.slice (some ⟨g,0,none⟩) (n+1) cap)).heap[b]?=w7.heap[b]?:=fun b hb=>Below.heap_setCell _ _ _ _ (by simpa using hb);generalize w7.setCell ⟨c,0,none⟩ (.slice (some ⟨g,0,none⟩) (n+1) cap)=w8 at *;refine ⟨⟨t2.trans (r2.trans (h.grown.os.trans h.low.os)),t3.trans (r3.trans (h.grown.tape.trans h.low.tape)),t4.trans (r4.trans (h.grown.output.trans h.low.output)),by omega,fun b hb h1 h2=>?_⟩,k1,k2,h.hat,k3⟩;obtain ⟨h5,h6⟩:=h.block b hb h2;exact (k4 b h1).trans ((hoth b h6).trans h5)
theorem zU.aff {w W4 w6:World} {c g n cap:Nat} {v:Value} {xs:List Value} (h:zU w W4 w6 c g n cap v xs) (u0 u1 u2 u3 u4:Value) :
  KI c v.ownBlock w (bG (w6.setCell ⟨c,0,none⟩ (.slice (some ⟨g,0,none⟩) (n+1) cap)) g (n*5) u0 u1 u2 u3 u4)/\(bG (w6.setCell ⟨c,0,none⟩ (.slice (some ⟨g,0,none⟩) (n+1) cap)) g (n*5) u0 u1 u2 u3 u4).cell? ⟨c,0,none⟩=some (.slice (some ⟨g,0,none⟩) (n+1) cap)/\(bG (w6.setCell ⟨c,0,none⟩ (.slice (some ⟨g,0,none⟩) (n+1) cap)) g (n*5) u0 u1 u2 u3 u4).frozen? ⟨c,0,none⟩=false/\(v.ownBlock=some g\/w.heap.size<=g)/\(bG (w6.setCell ⟨c,0,none⟩ (.slice (some ⟨g,0,none⟩) (n+1) cap)) g (n*5) u0 u1 u2 u3 u4).ownsRow 0 25 5 (.slice (some ⟨g,0,none⟩) (n+1) cap) (n+1) (xs++[u0,u1,u2,u3,u4]):=by
 obtain ⟨t1,t2,t3,t4⟩:=gT w6 ⟨c,0,none⟩ (.slice (some ⟨g,0,none⟩) (n+1) cap);have h3:=h.grown.size;have h4:=h.low.size;have k1:=World.cell?_setCell_same w6 ⟨c,0,none⟩ (.slice (some ⟨g,0,none⟩) (n+1) cap) h.c6
 have k2:(w6.setCell ⟨c,0,none⟩ (.slice (some ⟨g,0,none⟩) (n+1) cap)).frozen? ⟨c,0,none⟩=false:=by
  rw [World.frozen?_setCell];exact h.f6
 have k3:=ownsRow_setCell_other (a:=⟨c,0,none⟩) h.own (by simpa [Value.ownBlock] using h.gc) (.slice (some ⟨g,0,none⟩) (n+1) cap);have k4:∀ b,b≠c->(w6.setCell ⟨c,0,none⟩ (.slice (some ⟨g,0,none⟩) (n+1) cap)).heap[b]?=w6.heap[b]?:=fun b hb=>Below.heap_setCell _ _ _ _ (by simpa using hb);generalize w6.setCell ⟨c,0,none⟩ (.slice (some ⟨g,0,none⟩) (n+1) cap)=w7 at *;obtain ⟨r1,r2,r3,r4⟩:=jr w7 g (n*5) u0 u1 u2 u3 u4;have hcb:=eB w7 (Ne.symm h.gc) (n*5) u0 u1 u2 u3 u4;have hoth:∀ b,b≠g->(bG w7 g (n*5) u0 u1 u2 u3 u4).heap[b]?=w7.heap[b]?:=fun b hb=>eB w7 hb _ _ _ _ _ _;have hrow:=ug k3 h.lt u0 u1 u2 u3 u4;generalize bG w7 g (n*5) u0 u1 u2 u3 u4=w8 at *;refine ⟨⟨r2.trans (t2.trans (h.grown.os.trans h.low.os)),r3.trans (t3.trans (h.grown.tape.trans h.low.tape)),r4.trans (t4.trans (h.grown.output.trans h.low.output)),by omega,fun b hb h1 h2=>?_⟩,(aC hcb 0).trans k1,(World.frozen?_of_block (a:=⟨c,0,none⟩) hcb).trans k2,h.hat,hrow⟩;obtain ⟨h5,h6⟩:=h.block b hb h2;exact (hoth b h6).trans ((k4 b h1).trans h5)
def xu (w:World) (c:Nat) (t:T) (l:List T) (v:Value) (xs cs:List Value) (e:Ending) (w':World):Prop :=
 (Below w.heap.size w w'/\dw (jq (Qt t)) (aO 5 0 ByteArray.empty l []) l.length=true/\e=.returned (.int .i64 11)) \/
 (Below w.heap.size w w'/\dw (jq (Qt t)) (aO 5 0 ByteArray.empty l []) l.length=false/\60<=l.length/\e=.returned (.int .i64 12)) \/
 (KI c v.ownBlock w w'/\dw (jq (Qt t)) (aO 5 0 ByteArray.empty l []) l.length=false/\l.length<60/\e=.returned (.int .i64 0)/\∃ g cap,w'.cell? ⟨c,0,none⟩=some (.slice (some ⟨g,0,none⟩) (l.length+1) cap)/\w'.frozen? ⟨c,0,none⟩=false/\(v.ownBlock=some g\/w.heap.size<=g)/\w'.ownsRow 0 25 5 (.slice (some ⟨g,0,none⟩) (l.length+1) cap) (l.length+1) (xs++cs))
end Go.Proofs.YtknakfpciccoaaaGreatDoor
/- isName, New. -/
namespace Go.Proofs.YtknakfpciccoaaaGreatDoor
open Go.RowKit Go.Maps Go.WideMaps
def Wh (z:UInt8):Bool:=decide (97<=z.toNat)&&decide (z.toNat<=122)
def uN (s:ByteArray):Bool:=s.data.toList.all Wh&&(decide ((1:Int)<=(s.size:Int))&&decide ((s.size:Int)<=12))
theorem Wi {s:ByteArray} {k:Nat} {z:UInt8} (h:s.data.toList[k]?=some z) (hz:Wh z=false):uN s=false:=by
 have:s.data.toList.all Wh=false:=by
  rw [List.all_eq_false];exact ⟨z,List.mem_of_getElem? h,by rw [hz];simp⟩
 unfold uN;rw [this];rfl
theorem Ze {l:List UInt8} {k:Nat} {z:UInt8} (h:l[k]?=some z) (hz:Wh z=true) (ha:(l.take k).all Wh=true):(l.take (k+1)).all Wh=true:=by
 rw [List.take_add_one,h,List.all_append,ha];simp [hz]
theorem NR (s:ByteArray) (w:World) (hs:s.size<=140737488355328):Calls Tryz.prog 69 #[.string s] w fun e w'=>e=.returned (.bool (uN s))/\w'=w:=by
 go_in;go_wp2_with fail;go_loopg [6] (s.size) (fun g i wr=>∃ k:Nat,g=s.size - k/\k<=s.size/\i=.int .i64 k/\wr=w/\Hid ((s.data.toList.take k).all Wh=true))
 case atStart=>exact ⟨0,rfl,Nat.zero_le _,rfl,rfl,rfl⟩
 case round =>
  obtain ⟨k,rfl,hk,rfl,rfl,HN⟩:=hrel;by_cases hlt:k<s.size
  ·obtain ⟨z,hz⟩:∃ z:UInt8,s[k]'hlt=z:=⟨_,rfl⟩;have HZ:Hid (s.data.toList[k]?=some z):=by show _=_;rw [Array.getElem?_toList];exact J8 hlt hz
   have x1:(k:Int)<(s.size:Int):=by omega
   have lz:z.toNat<256:=z.toNat_lt;by_cases h1:z.toNat<97
   ·have y1:(z.toNat:Int)<97:=by omega
    have HR:Hid (uN s=false):=Wi HZ.out (by unfold Wh;rw [decide_eq_false (p:=97<=z.toNat) (by omega)];rfl);clear h1;go_wp2_with fail;go_ret;exact ⟨aB (by rw [HR.out]),rfl⟩
   ·have y1:¬ (z.toNat:Int)<97:=by omega
    by_cases h2:122<z.toNat
    ·have y2:(122:Int)<(z.toNat:Int):=by omega
     have HR:Hid (uN s=false):=Wi HZ.out (by unfold Wh;rw [decide_eq_false (p:=z.toNat<=122) (by omega)];simp);clear h1 h2;go_wp2_with fail;go_ret;exact ⟨aB (by rw [HR.out]),rfl⟩
    ·have y2:¬ (122:Int)<(z.toNat:Int):=by omega
     have HM:=ak (Ze HZ.out (by unfold Wh;rw [decide_eq_true (p:=97<=z.toNat) (by omega),decide_eq_true (p:=z.toNat<=122) (by omega)];rfl) HN.out);clear h1 h2;go_wp2_with fail;go_roundg (s.size - (k+1))
     case rel=>exact ⟨k+1,rfl,by omega,by go_num,rfl,HM⟩
     case measure=>omega
  ·obtain rfl:k=s.size:=by omega
   have HA:Hid (s.data.toList.all Wh=true):=by
    show _=_;have:=HN.out
    rwa [List.take_of_length_le (by rw [Array.length_toList];exact Nat.le_refl _)] at this
   by_cases h1:1<=s.size
   ·have y1:(1:Int)<=(s.size:Int):=by omega
    have HR:Hid (uN s=decide ((s.size:Int)<=12)):=by show _=_;unfold uN;rw [HA.out,decide_eq_true y1];rfl
    go_wp2_with fail;go_ret;exact ⟨aB (by rw [HR.out]),rfl⟩
   ·have y1:¬ (1:Int)<=(s.size:Int):=by omega
    have HR:Hid (uN s=false):=by show _=_;unfold uN;rw [HA.out,decide_eq_false y1];rfl
    go_wp2_with fail;go_ret;exact ⟨aB (by rw [HR.out]),rfl⟩
theorem Zf (w:World):Calls Tryz.prog 49 #[] w fun e w'=>e=.returned (.pointer (some ⟨w.heap.size+1,0,none⟩))/\w'=(w.alloc (.map #[] 0)).alloc (.cells #[.map (some w.heap.size)] 102):=by
 have hmk:∀ (w:World),(Instr.makeMap 100 none).run Tryz.prog w=.ok (.map (some w.heap.size)) (w.alloc (.map #[] 0)):=fun w=>run_makeMap _ w;go_in;go_wp2_with fail;go_ret;exact ⟨rfl,rfl⟩
theorem NS (c f:Nat) (t:T) (l:List T) (v:Value) (xs:List Value) (A C:Option Addr) (B D:Nat) (w:World) (h:Col w c f l v xs) (hf:f<=16) (hn:l.length<=1000000) (hd:∀ i,(h:i<l.length)->Doc l[i]) (ha:At w f (.agg #[.int .i64 (aj t),.int .i64 (av t),.string (ay t),.slice A (nL t) B,.slice C (nK t) D]) t) (ht:Doc t) :
  Calls Tryz.prog 72 #[.pointer (some ⟨c,0,none⟩),.agg #[.int .i64 (aj t),.int .i64 (av t),.string (ay t),.slice A (nL t) B,.slice C (nK t) D]] w (xu w c t l v xs [.int .i64 (aj t),.int .i64 (av t),.string (ay t),.slice A (nL t) B,.slice C (nK t) D]):=by
 obtain ⟨iV,Em,En,Eo,Ep⟩:=info_parts uT;obtain ⟨hot,k,hk,hkl⟩:=ht;have HB1:=ak (aY w (vC t A B C D));have uM:=ak (aR w (.int .i64 (aj t)) (.int .i64 (av t)) (.string (ay t)) (.slice A (nL t) B) (.slice C (nK t) D));have HI:=ak (Cg _ _ t k _ (ha.keep HB1.out) hk hkl);have afg:Hid (Qt t=elt t k):=by show _=_;unfold Qt;rw [hk];rfl
 have afh:=ak h
 have HH:Hid (∀ (w':World) (gx:Nat) (vx:Value),Below w.heap.size w w'->At w' gx vx (elt t k)->Calls Tryz.prog 118 #[.pointer (some ⟨c,0,none⟩),vx] w' fun e w2=>e=.returned (.bool (dw (jq (Qt t)) (aO 5 0 ByteArray.empty l []) l.length))/\Below w'.heap.size w' w2):=fun w' gx vx hb hx=>by
  obtain ⟨La,Lc,rfl,hel⟩:=(h.keep hb).elems;have hc:=(h.keep hb).cell;have e:=afg.out;rw [e]
  exact Sv c f gx (aO 5 0 ByteArray.empty l []) (elt t k) La Lc vx w' hc (h.keep hb).low hel (by rw [aN];exact hn) hf (fun i hi=>by
   rw [aN] at hi;have e:elt (aO 5 0 ByteArray.empty l []) i=l[i]:=by rw [iQ,List.getD_eq_getElem?_getD,List.getElem?_eq_getElem hi];rfl
   rw [e];exact hd i hi) hx (hot.elt hkl)
 clear h ha hot hk hkl hd afg;go_in;go_wp2_with fail;refine HI.out.mono ?_;rintro e w2 ⟨b2,g',A2,B2,C2,D2,hg2,rfl,ha2⟩;have HB2:=ak (HB1.out.trans (b2.mono HB1.out.size));have kr:=ak (uM.out.stay b2);have HC:=ak (HH.out w2 g' _ HB2.out ha2);clear b2 ha2 hg2 HI HH;cases hany:dw (jq (Qt t)) (aO 5 0 ByteArray.empty l []) l.length with
 | true =>
  rw [hany] at HC;have Zg:=ak hany;clear hany;go_wp2_with fail;refine HC.out.mono ?_;rintro e w3 ⟨rfl,b3⟩;have HB3:=ak (HB2.out.trans (b3.mono HB2.out.size));clear b3 HC;go_wp2_with fail;go_ret;exact .inl ⟨HB3.out,Zg.out,rfl⟩
 | false =>
  rw [hany] at HC;have Zg:=ak hany;clear hany;go_wp2_with fail;refine HC.out.mono ?_;rintro e w3 ⟨rfl,b3⟩;have HB3:=ak (HB2.out.trans (b3.mono HB2.out.size));have eO:=ak (kr.out.stay b3);have TW:=ak (afh.out.keep HB3.out);obtain ⟨La,Lc,rfl⟩:=fq TW.out.row;have hc0:=TW.out.cell;clear b3 HC kr uM HB1 afh;by_cases h60:60<=l.length
  ·have e60:(60:Int)<=(l.length:Int):=by omega
   go_wp2_with fail;go_ret;exact .inr (.inl ⟨HB3.out,Zg.out,h60,rfl⟩)
  ·have e60:¬ (60:Int)<=(l.length:Int):=by omega
   have tV:=ak (aY w3 (.cells #[.int .i64 0,.int .i64 0,.string ⟨#[]⟩,.slice none 0 0,.slice none 0 0] 25));have afi:=ak (TW.out.keep tV.out);have Sw:=ak (eO.out.stay tV.out);have HC4:=ak (afi.out.keep (au _));have Ni:=ak (Sw.out.stay (au _));have ahR:=afi.out.cell;have hnn:(l.length:Int)<(l.length:Int)+1:=by omega
   have Dp:Hid (xs.length=l.length*5):=TW.out.row.1
   have HGc:Hid (∀ g,((Value.slice La l.length Lc).ownBlock=some g\/g=w3.heap.size+1)->g≠c):=fun g hg e=>by
    subst e;rcases hg with hg | hg
    ·exact TW.out.apart hg
    ·have:=TW.out.low;omega
   have r0:=eO.out.q0;have r1:=eO.out.q1;have r2:=eO.out.q2;have r3:=eO.out.q3;have r4:=eO.out.q4;have ra0:=Sw.out.q0;have ra1:=Sw.out.q1;have ra2:=Sw.out.q2;have ra3:=Sw.out.q3;have ra4:=Sw.out.q4;go_wp2_with fail
   go_region_law (refine step_append_lies _ (by rfl) _ _ _ (by rfl) 0 25 iV _ 5 80 Tryz.underlying22 Em En Eo Ep rfl (by omega) (.slice La l.length Lc) l.length xs (by rfl) HC4.out.row ⟨w3.heap.size,0,none⟩ 1 1 [.int .i64 0,.int .i64 0,.string ⟨#[]⟩,.slice none 0 0,.slice none 0 0] (by rfl) (by rfl) (World.news_of_block (cs:=#[.int .i64 0,.int .i64 0,.string ⟨#[]⟩,.slice none 0 0,.slice none 0 0]) (t:=25) (fr:=(0,0)) (heap_alloc_new w3 _)) (by simp [Value.oneCell']) (by omega) (by unfold maxLen;omega) (by omega) (Nat.zero_le _) (w3.heap.size+1) (by simp) ?_;intro g cap w6 hown6 eG dV vH;have hgc:g≠c:=HGc.out g dV;have hcg:c≠g:=fun e=>hgc e.symm;have iN:=ak (eG.block c HC4.out.low (fun e=>HC4.out.apart e.symm));have c6:=(aC iN.out 0).trans HC4.out.cell;have f6:=(World.frozen?_of_block (a:=⟨c,0,none⟩) iN.out).trans HC4.out.free;have y0:w6.cell? ⟨g,l.length*5,none⟩=some (.int .i64 0):=dJ hown6 Dp.out 0 (by omega) rfl;have z0:w6.frozen? ⟨g,l.length*5,none⟩=false:=hown6.frozenAt _;have y1:w6.cell? ⟨g,l.length*5+1,none⟩=some (.int .i64 0):=dJ hown6 Dp.out 1 (by omega) rfl;have z1:w6.frozen? ⟨g,l.length*5+1,none⟩=false:=hown6.frozenAt _;have y2:w6.cell? ⟨g,l.length*5+2,none⟩=some (.string ⟨#[]⟩):=dJ hown6 Dp.out 2 (by omega) rfl;have z2:w6.frozen? ⟨g,l.length*5+2,none⟩=false:=hown6.frozenAt _;have y3:w6.cell? ⟨g,l.length*5+3,none⟩=some (.slice none 0 0):=dJ hown6 Dp.out 3 (by omega) rfl;have z3:w6.frozen? ⟨g,l.length*5+3,none⟩=false:=hown6.frozenAt _;have y4:w6.cell? ⟨g,l.length*5+4,none⟩=some (.slice none 0 0):=dJ hown6 Dp.out 4 (by omega) rfl;have z4:w6.frozen? ⟨g,l.length*5+4,none⟩=false:=hown6.frozenAt _)
   all_goals
    have HF:=ak (zU.mk (w:=w) (lt:=TW.out.row.1) hown6 eG ((HB3.out.trans (tV.out.mono HB3.out.size)).drew) (dV.imp id (fun e=>by have:=HB3.out.size;omega)) c6 f6 hgc TW.out.apart);clear hown6 eG dV vH y0 y1 y2 y3 y4 z0 z1 z2 z3 z4 c6 f6 hgc hcg iN;go_wp2_with fail;go_ret;have Wj:=ak (HF.out.afe (.int .i64 (aj t)) (.int .i64 (av t)) (.string (ay t)) (.slice A (nL t) B) (.slice C (nK t) D));have Wm:=ak (HF.out.aff (.int .i64 (aj t)) (.int .i64 (av t)) (.string (ay t)) (.slice A (nL t) B) (.slice C (nK t) D));unfold bG at Wj Wm;unfold xu;refine .inr (.inr ⟨?_,Zg.out,by omega,rfl,g,cap,?_⟩)
    ·first | with_reducible exact Wj.out.1 | with_reducible exact Wm.out.1
    ·first | with_reducible exact Wj.out.2 | with_reducible exact Wm.out.2
end Go.Proofs.YtknakfpciccoaaaGreatDoor
/- Create. -/
namespace Go.Proofs.YtknakfpciccoaaaGreatDoor
open Go.RowKit Go.Maps Go.WideMaps
def Ci (x:ByteArray):Lit:=.string x.data.toList
def KJ (w:World) (p m n:Nat) (D:DataW Unit) (x:ByteArray) (w':World):Prop :=
 ∃ c:Nat,w.heap.size<=c/\c<w'.heap.size/\jg w' p m (n+1) (D.put (Ci x) (.lit (.int .i64 c)))/\w'.cell? ⟨c,0,none⟩=some (.slice none 0 0)/\w'.frozen? ⟨c,0,none⟩=false/\KI m none w w'
theorem Qu {w W w':World} {p m n:Nat} {D:DataW Unit} {x:ByteArray} {c:Nat} (hst:jg w p m n D) (hpm:p≠m) (hB:Below w.heap.size w W) (hc:w.heap.size<=c) (hcl:c<W.heap.size) (c0:W.cell? ⟨c,0,none⟩=some (.slice none 0 0)) (f0:W.frozen? ⟨c,0,none⟩=false)
  (hown:w'.ownsMap Tryz.prog 9 Zc m (n+1) (D.put (Ci x) (.lit (.int .i64 c)))) (hG:W.grownBy w' (some m)):KJ w p m n D x w':=by
 have hml:=hst.own.lt;have hs:=hG.size;have hs2:=hB.size;have hp:=hst.low;have hpb:w'.heap[p]?=w.heap[p]?:=(hG.block p (by omega) (by simpa using hpm)).trans (hB.block p hp);have hcb:w'.heap[c]?=W.heap[c]?:=hG.block c hcl (by simp;omega);exact ⟨c,hc,by omega,⟨(aC hpb 0).trans hst.cell,by omega,hown⟩,(aC hcb 0).trans c0,(World.frozen?_of_block (a:=⟨c,0,none⟩) hcb).trans f0,hG.os.trans hB.os,hG.tape.trans hB.tape,hG.output.trans hB.output,by omega,fun b hb h1 _=>(hG.block b (by omega) (by simpa using h1)).trans (hB.block b hb)⟩
def Zh (w:World) (p m n:Nat) (D:DataW Unit) (x:ByteArray) (e:Ending) (w':World):Prop :=
 (uN x=false/\e=.returned (.int .i64 10)/\w'=w)\/(uN x=true/\(∃ c:Nat,qZ D x=.lit (.int .i64 c))/\e=.returned (.int .i64 11)/\w'=w)\/(uN x=true/\qZ D x=.nil/\6<=Maps.size D/\e=.returned (.int .i64 12)/\w'=w) \/
 (uN x=true/\qZ D x=.nil/\Maps.size D<6/\e=.returned (.int .i64 0)/\KJ w p m n D x w')
theorem NT (p m n:Nat) (D:DataW Unit) (x:ByteArray) (w:World) (hx:x.size<=140737488355328) (hn:n<=1000000) (hst:jg w p m n D) (hpm:p≠m) :
  Calls Tryz.prog 37 #[.pointer (some ⟨p,0,none⟩),.string x] w (Zh w p m n D x):=by
 have HI:=ak (NR x w hx);have vM:=ak hst;have Hpm:=ak hpm;cases hnm:uN x with
 | false =>
  rw [hnm] at HI;have Hn:=ak hnm;clear hnm hst hpm;go_in;go_wp2_with fail;refine HI.out.mono ?_;rintro e w2 ⟨rfl,rfl⟩;go_wp2_with fail;go_ret;exact .inl ⟨Hn.out,rfl,rfl⟩
 | true =>
  rw [hnm] at HI;have Hn:=ak hnm;have c0:=hst.cell;have hlen:∀ ty,(Builtin.len_ #[100] ty #[.map (some m)]).run Tryz.prog w=.ok (.int .i64 (Maps.size D)) w:=fun ty=>hst.own.len Tryz.underlying100 ty;clear hnm hpm;rcases hst.look x hx with ⟨hrun,hat⟩ | ⟨c,hrun,hat⟩
  ·have oM:=ak hat;clear hat hst;by_cases h6:6<=Maps.size D
   ·have y6:(6:Int)<=(Maps.size D:Int):=by omega
    have H6:=ak h6;clear h6;go_in;go_wp2_with fail;refine HI.out.mono ?_;rintro e w2 ⟨rfl,rfl⟩;go_wp2_with fail;go_ret;exact .inr (.inr (.inl ⟨Hn.out,oM.out,H6.out,rfl,rfl⟩))
   ·have y6:¬ (6:Int)<=(Maps.size D:Int):=by omega
    have H6:=ak (Nat.lt_of_not_le h6);clear h6;go_in;go_wp2_with fail;refine HI.out.mono ?_;rintro e w2 ⟨rfl,rfl⟩;go_wp2_with fail;have HAl:=ak (aY w2 (.cells #[.slice none 0 0] 98));have qy:=ak (vM.out.keep (au _));have HSa:=ak ((vM.out.keep HAl.out).keep (au _));have c0a:=(vM.out.keep HAl.out).cell;have qw:=ak (au w2);have fT:=ak HAl.out.drew;have hkey:keyOf Tryz.prog 9 (.string x)=some (Ci x):=keyOf_string_mk Tryz.underlying9 (by unfold maxLen;omega);have MV:=ak hkey;clear hkey hrun hlen HI;go_region_law (go_simp;go_wp2_with (go_at_call 70;refine (Rm x _ hx).mono ?_;rintro e w3 ⟨rfl,b3⟩;have Et:Hid (jg w3 p m n D):=(by first | exact qy.out.keep b3 | exact HSa.out.keep b3);have HB3:Hid (Below w2.heap.size w2 w3):=(by first | exact qw.out.trans (b3.mono qw.out.size) | exact fT.out.trans (b3.mono fT.out.size));have c3:=Et.out.cell;have c3a:=(Et.out.keep ((Below.refl w3.heap.size w3).alloc (Nat.le_refl _) (.cells #[.slice none 0 0] 98))).cell;obtain ⟨w6,afk,hown6,nu⟩:=Et.out.own.update YF Tryz.underlying100 (by unfold maxLen;omega) (val:=.pointer (some ⟨w2.heap.size,0,none⟩)) (d:=.lit (.int .i64 (w2.heap.size:Nat))) (ps:=[]) MV.out rfl;obtain ⟨w7,afl,nS,hG7⟩:=(Et.out.own.alloc (.cells #[.slice none 0 0] 98)).update YF Tryz.underlying100 (by unfold maxLen;omega) (val:=.pointer (some ⟨w3.heap.size,0,none⟩)) (d:=.lit (.int .i64 (w3.heap.size:Nat))) (ps:=[]) MV.out rfl))
    all_goals
     have HF:Hid (KJ w2 p m n D x w7):=Qu vM.out Hpm.out (HB3.out.alloc HB3.out.size (.cells #[.slice none 0 0] 98)) HB3.out.size (by simp) (by simp [go_sem]) (by simp [go_sem]) nS hG7;have HG:Hid (w2.heap.size<w3.heap.size->w3.cell? ⟨w2.heap.size,0,none⟩=some (.slice none 0 0)->w3.frozen? ⟨w2.heap.size,0,none⟩=false->KJ w2 p m n D x w6):=fun k1 k2 k3=>Qu vM.out Hpm.out HB3.out (Nat.le_refl _) k1 k2 k3 hown6 nu;have HJ:=ak b3;clear hown6 nu afk nS hG7 afl b3 c3 c3a Et HB3;go_wp2_with fail;go_ret
     first
      | exact .inr (.inr (.inr ⟨Hn.out,oM.out,H6.out,rfl,HF.out⟩))
      | exact .inr (.inr (.inr ⟨Hn.out,oM.out,H6.out,rfl,HG.out (Nat.lt_of_lt_of_le (by simp) HJ.out.size) ((HJ.out.cell (p:=⟨w2.heap.size,0,none⟩) (by simp)).trans (by simp [go_sem])) ((HJ.out.frozen (p:=⟨w2.heap.size,0,none⟩) (by simp)).trans (by simp [go_sem]))⟩))
  ·have oM:=ak hat;clear hat hst;go_in;go_wp2_with fail;refine HI.out.mono ?_;rintro e w2 ⟨rfl,rfl⟩;go_wp2_with fail;go_ret;exact .inr (.inl ⟨Hn.out,⟨c,oM.out⟩,rfl,rfl⟩)
end Go.Proofs.YtknakfpciccoaaaGreatDoor
