import Derived.Test.YtknakfpciccoaaaGreatDoorZF17
import Derived.Test.YtknakfpciccoaaaGreatDoorZF6
/- The walk of parseTest. -/
set_option maxHeartbeats 4000000
set_option maxRecDepth 100000
namespace Go.Proofs.YtknakfpciccoaaaGreatDoor
open Go.RowKit
def gL (op:ByteArray):Prop:=op=qb\/op=yM\/op=yN\/op=oQ\/op=yO\/op=qz
instance (op : ByteArray) : Decidable (gL op) := by unfold gL; infer_instance
instance (op : ByteArray) : Decidable (ji op) := by unfold ji; infer_instance
def gX (g:T->Bool) (op:ByteArray) (j:T):Bool :=
 if gL op then true
 else if op=qc\/op=mR then ah j==5
 else if op=eG then ah j==2
 else if op=jc then (ah j==3&&decide (0<=aB j))
 else if op=jE then ((ah j==3&&decide (1<=aB j))&&decide (aB j<=6))
 else if op=mU\/op=kY then g j
 else false
def dR:Nat->T->Bool
 | 0,_=>false
 | m+1,j=>(ah j==6&&decide (0<nK j))&&eO (fun i=>gX (dR m) (bf j i) (elt j i)) (nK j)
def bZ (w w':World) (b:Nat):Prop:=w.heap.size<=b/\b<w'.heap.size
def XT (w0:lG) (m:Nat) (j:T) (w:World) (e:Ending) (w':World):Prop :=
 Below w.heap.size w w'/\((dR m j=true/\∃ tv,e=.returned tv/\sQ w' (bZ w w') (eX w0 w' (bZ w w') m) tv (iO j))\/(dR m j=false/\e=kC 8))
def Bo (w0:lG) (f:Nat):Prop:=∀ (m:Nat) (v:Value) (j:T) (w:World),f<=m->yT w0 f v j->f<=16->dZ j->Below w0.w.heap.size w0.w w->Calls Tryz.prog 257 #[v] w (XT w0 m j w)
def Fy (w0:lG) (m:Nat) (op:ByteArray) (j:T) (w:World) (e:Ending) (w':World):Prop :=
 Below w.heap.size w w'/\((gX (dR m) op j=true/\∃ c0 c1 c2 c3 c4 c5 c6,e=.returned (.agg #[c0,c1,c2,c3,c4,c5,c6])/\eX w0 w' (bZ w w') (m+1) c0 c1 c2 c3 c4 c5 c6 (op,j))\/(gX (dR m) op j=false/\e=kC 8))
def PtT (w0:lG) (m:Nat) (op:ByteArray) (j:T) (La Ka:Option Addr) (Lc Kc:Nat) (w:World):Prop:=Calls Tryz.prog 276 #[.string op,.agg #[.int .i64 (ah j),.int .i64 (aB j),.string (aF j),.slice La (nL j) Lc,.slice Ka (nK j) Kc]] w (Fy w0 m op j w)
theorem iY (w:World) (a b:Obj):Below w.heap.size w ((w.alloc a).alloc b):=(bG _ _).alloc (by simp) _
theorem Eb {op:ByteArray} (hp:gL op):((op.toList==[36,101,113])=true)\/((op.toList==[36,101,113])=false/\(op.toList==[36,110,101])=true)\/((op.toList==[36,101,113])=false/\(op.toList==[36,110,101])=false/\(op.toList==[36,103,116])=true)\/((op.toList==[36,101,113])=false/\(op.toList==[36,110,101])=false/\(op.toList==[36,103,116])=false/\(op.toList==[36,103,116,101])=true)\/((op.toList==[36,101,113])=false/\(op.toList==[36,110,101])=false/\(op.toList==[36,103,116])=false/\(op.toList==[36,103,116,101])=false/\(op.toList==[36,108,116])=true)\/((op.toList==[36,101,113])=false/\(op.toList==[36,110,101])=false/\(op.toList==[36,103,116])=false/\(op.toList==[36,103,116,101])=false/\(op.toList==[36,108,116])=false/\(op.toList==[36,108,116,101])=true):=by
 by_cases h0:op=qb
 ·exact .inl (aT h0)
 refine .inr ?_;by_cases h1:op=yM
 ·exact .inl ⟨au h0,aT h1⟩
 refine .inr ?_;by_cases h2:op=yN
 ·exact .inl ⟨au h0,au h1,aT h2⟩
 refine .inr ?_;by_cases h3:op=oQ
 ·exact .inl ⟨au h0,au h1,au h2,aT h3⟩
 refine .inr ?_;by_cases h4:op=yO
 ·exact .inl ⟨au h0,au h1,au h2,au h3,aT h4⟩
 refine .inr ?_;exact ⟨au h0,au h1,au h2,au h3,au h4,aT (((((hp.resolve_left h0).resolve_left h1).resolve_left h2).resolve_left h3).resolve_left h4)⟩
theorem mV {op:ByteArray} (hp:¬ gL op):(op.toList==[36,101,113])=false/\(op.toList==[36,110,101])=false/\(op.toList==[36,103,116])=false/\(op.toList==[36,103,116,101])=false/\(op.toList==[36,108,116])=false/\(op.toList==[36,108,116,101])=false :=
 ⟨au fun h=>hp (.inl h),au fun h=>hp (.inr (.inl h)),au fun h=>hp (.inr (.inr (.inl h))),au fun h=>hp (.inr (.inr (.inr (.inl h)))),au fun h=>hp (.inr (.inr (.inr (.inr (.inl h))))),au fun h=>hp (.inr (.inr (.inr (.inr (.inr h)))))⟩
theorem Sm {g:T->Bool} {op:ByteArray} {j:T} (hp:¬ gL op) (hi:¬ ji op) (h:gX g op j=true):((op.toList==[36,105,110])=true/\(ah j==5)=true)\/((op.toList==[36,105,110])=false/\(op.toList==[36,110,105,110])=true/\(ah j==5)=true)\/((op.toList==[36,105,110])=false/\(op.toList==[36,110,105,110])=false/\(op.toList==[36,101,120,105,115,116,115])=true/\(ah j==2)=true)\/((op.toList==[36,105,110])=false/\(op.toList==[36,110,105,110])=false/\(op.toList==[36,101,120,105,115,116,115])=false/\(op.toList==[36,115,105,122,101])=true/\(ah j==3)=true/\0<=aB j)\/((op.toList==[36,105,110])=false/\(op.toList==[36,110,105,110])=false/\(op.toList==[36,101,120,105,115,116,115])=false/\(op.toList==[36,115,105,122,101])=false/\(op.toList==[36,107,105,110,100])=true/\(ah j==3)=true/\1<=aB j/\aB j<=6):=by
 unfold gX at h;rw [if_neg hp] at h;by_cases h0:op=qc
 ·rw [if_pos (.inl h0)] at h;exact .inl ⟨aT h0,h⟩
 refine .inr ?_;by_cases h1:op=mR
 ·rw [if_pos (.inr h1)] at h;exact .inl ⟨au h0,aT h1,h⟩
 rw [if_neg (fun h=>h.elim h0 h1)] at h;refine .inr ?_;by_cases h2:op=eG
 ·rw [if_pos h2] at h;exact .inl ⟨au h0,au h1,aT h2,h⟩
 rw [if_neg h2] at h;refine .inr ?_;by_cases h3:op=jc
 ·rw [if_pos h3,Bool.and_eq_true,decide_eq_true_eq] at h;exact .inl ⟨au h0,au h1,au h2,aT h3,h.1,h.2⟩
 rw [if_neg h3] at h;refine .inr ?_;by_cases h4:op=jE
 ·rw [if_pos h4,Bool.and_eq_true,Bool.and_eq_true,decide_eq_true_eq,decide_eq_true_eq] at h;exact ⟨au h0,au h1,au h2,au h3,aT h4,h.1.1,h.1.2,h.2⟩
 rw [if_neg h4] at h;rw [if_neg (show ¬ (op=mU\/op=kY) from hi)] at h;cases h
theorem Sq {g:T->Bool} {op:ByteArray} {j:T} (hp:¬ gL op) (hi:¬ ji op) (h:gX g op j=false):((op.toList==[36,105,110])=true/\(ah j==5)=false)\/((op.toList==[36,105,110])=false/\(op.toList==[36,110,105,110])=true/\(ah j==5)=false)\/((op.toList==[36,105,110])=false/\(op.toList==[36,110,105,110])=false/\(op.toList==[36,101,120,105,115,116,115])=true/\(ah j==2)=false)\/((op.toList==[36,105,110])=false/\(op.toList==[36,110,105,110])=false/\(op.toList==[36,101,120,105,115,116,115])=false/\(op.toList==[36,115,105,122,101])=true/\((ah j==3)=false\/((ah j==3)=true/\¬ 0<=aB j)))\/((op.toList==[36,105,110])=false/\(op.toList==[36,110,105,110])=false/\(op.toList==[36,101,120,105,115,116,115])=false/\(op.toList==[36,115,105,122,101])=false/\(op.toList==[36,107,105,110,100])=true/\((ah j==3)=false\/((ah j==3)=true/\¬ 1<=aB j)\/((ah j==3)=true/\1<=aB j/\¬ aB j<=6)))\/((op.toList==[36,105,110])=false/\(op.toList==[36,110,105,110])=false/\(op.toList==[36,101,120,105,115,116,115])=false/\(op.toList==[36,115,105,122,101])=false/\(op.toList==[36,107,105,110,100])=false/\(op.toList==[36,110,111,116])=false/\(op.toList==[36,97,110,121])=false):=by
 unfold gX at h;rw [if_neg hp] at h;by_cases h0:op=qc
 ·rw [if_pos (.inl h0)] at h;exact .inl ⟨aT h0,h⟩
 refine .inr ?_;by_cases h1:op=mR
 ·rw [if_pos (.inr h1)] at h;exact .inl ⟨au h0,aT h1,h⟩
 rw [if_neg (fun h=>h.elim h0 h1)] at h;refine .inr ?_;by_cases h2:op=eG
 ·rw [if_pos h2] at h;exact .inl ⟨au h0,au h1,aT h2,h⟩
 rw [if_neg h2] at h;refine .inr ?_;by_cases h3:op=jc
 ·rw [if_pos h3] at h;refine .inl ⟨au h0,au h1,au h2,aT h3,?_⟩;cases k:ah j==3 with
  | false=>exact .inl rfl
  | true=>rw [k,Bool.true_and,decide_eq_false_iff_not] at h;exact .inr ⟨rfl,h⟩
 rw [if_neg h3] at h;refine .inr ?_;by_cases h4:op=jE
 ·rw [if_pos h4] at h;refine .inl ⟨au h0,au h1,au h2,au h3,aT h4,?_⟩;cases k:ah j==3 with
  | false=>exact .inl rfl
  | true =>
   rw [k,Bool.true_and] at h;by_cases k1:1<=aB j
   ·rw [decide_eq_true k1,Bool.true_and,decide_eq_false_iff_not] at h;exact .inr (.inr ⟨rfl,k1,h⟩)
   ·exact .inr (.inl ⟨rfl,k1⟩)
 rw [if_neg h4] at h;refine .inr ?_;exact ⟨au h0,au h1,au h2,au h3,au h4,au fun h=>hi (.inl h),au fun h=>hi (.inr h)⟩
theorem zH {op:ByteArray} (hi:ji op):¬ gL op/\(op.toList==[36,105,110])=false/\(op.toList==[36,110,105,110])=false/\(op.toList==[36,101,120,105,115,116,115])=false/\(op.toList==[36,115,105,122,101])=false/\(op.toList==[36,107,105,110,100])=false/\((op.toList==[36,110,111,116])=true\/((op.toList==[36,110,111,116])=false/\(op.toList==[36,97,110,121])=true)):=by
 have q:¬ gL op/\¬ op=qc/\¬ op=mR/\¬ op=eG/\¬ op=jc/\¬ op=jE:=by rcases hi with g | g<;>rw [g]<;>decide
 obtain ⟨q,q1,q2,q3,q4,q5⟩:=q;refine ⟨q,au q1,au q2,au q3,au q4,au q5,?_⟩;by_cases h:op=mU
 ·exact .inl (aT h)
 ·exact .inr ⟨au h,aT (hi.resolve_left h)⟩
theorem KR {g:T->Bool} {op:ByteArray} {j:T} (hi:ji op):gX g op j=g j:=by
 unfold gX;rw [if_neg (zH hi).1,if_neg,if_neg,if_neg,if_neg,if_pos (show op=mU\/op=kY from hi)]
 all_goals rcases hi with g | g<;>rw [g]<;>decide
theorem KS (w0:lG) (m:Nat) (op:ByteArray) (j:T) (La Ka:Option Addr) (Lc Kc:Nat) (f:Nat) (w:World) (hop:op.size<=140737488355328) (ha:yT w0 f (.agg #[.int .i64 (ah j),.int .i64 (aB j),.string (aF j),.slice La (nL j) Lc,.slice Ka (nK j) Kc]) j) (hf:f<=16) (kj:dZ j) (hi:¬ ji op):PtT w0 m op j La Ka Lc Kc w:=by
 unfold PtT;cases hR:gX (dR m) op j with
 | true =>
  have H:Hid (∀ a b,Fy w0 m op j w (.returned (.agg #[.string op,.int .i64 (ah j),.int .i64 (aB j),.string (aF j),.slice La (nL j) Lc,.slice Ka (nK j) Kc,.slice none 0 0])) ((w.alloc a).alloc b)):=fun a b=>⟨iY _ _ _,.inl ⟨hR,_,_,_,_,_,_,_,rfl,rfl,hop,.inr ⟨hi,rfl,f,La,Lc,Ka,Kc,hf,rfl,rfl,rfl,rfl,rfl,ha,kj⟩⟩⟩;by_cases hp:gL op
  ·have hw:=Eb hp;clear ha kj hR hi hp;rcases hw with e | ⟨e,e1⟩ | ⟨e,e1,e2⟩ | ⟨e,e1,e2,e3⟩ | ⟨e,e1,e2,e3,e4⟩ | ⟨e,e1,e2,e3,e4,e5⟩
   all_goals
    go_in;go_wp2_with fail;refine bodyPost_ret (v:=.agg #[.string op,.int .i64 (ah j),.int .i64 (aB j),.string (aF j),.slice La (nL j) Lc,.slice Ka (nK j) Kc,.slice none 0 0]) (by simp [results,Tryz.results276,go_sem]) rfl ?_;exact H.out _ _
  ·obtain ⟨e,e1,e2,e3,e4,e5⟩:=mV hp;have hw:=Sm hp hi hR;clear ha kj hR hi hp;rcases hw with ⟨a,k⟩ | ⟨a,b,k⟩ | ⟨a,b,c,k⟩ | ⟨a,b,c,d,k,k1⟩ | ⟨a,b,c,d,e6,k,k1,k2⟩
   all_goals
    go_in;go_wp2_with fail;refine (eH true _).mono ?_;rintro e w2 ⟨rfl,he⟩;simp only [if_true] at he;subst he;go_wp2_with fail;refine bodyPost_ret (v:=.agg #[.string op,.int .i64 (ah j),.int .i64 (aB j),.string (aF j),.slice La (nL j) Lc,.slice Ka (nK j) Kc,.slice none 0 0]) (by simp [results,Tryz.results276,go_sem]) rfl ?_;exact H.out _ _
 | false =>
  have H:Hid (∀ a b,Fy w0 m op j w (kC 8) ((w.alloc a).alloc b)):=fun a b=>⟨iY _ _ _,.inr ⟨hR,rfl⟩⟩;have hp:¬ gL op:=fun hp=>by unfold gX at hR;rw [if_pos hp] at hR;cases hR
  obtain ⟨e,e1,e2,e3,e4,e5⟩:=mV hp;have hw:=Sq hp hi hR;clear ha kj hR hi hp;rcases hw with ⟨a,k⟩ | ⟨a,b,k⟩ | ⟨a,b,c,k⟩ | ⟨a,b,c,d,k | ⟨k,k1⟩⟩ | ⟨a,b,c,d,e6,k | ⟨k,k1⟩ | ⟨k,k1,k2⟩⟩ | ⟨a,b,c,d,e6,e7,e8⟩
  all_goals
   go_in;go_wp2_with fail;refine (eH false _).mono ?_;rintro e w2 ⟨rfl,he⟩;simp only [Bool.false_eq_true,if_false] at he;subst he;exact ⟨rfl,H.out _ _⟩
def CQ (w:World) (b:Nat) (u0 u1 u2 u3 u4 u5 u6:Value):World:=((((((w.setCell ⟨b,0,none⟩ u0).setCell ⟨b,1,none⟩ u1).setCell ⟨b,2,none⟩ u2).setCell ⟨b,3,none⟩ u3).setCell ⟨b,4,none⟩ u4).setCell ⟨b,5,none⟩ u5).setCell ⟨b,6,none⟩ u6
theorem KT {w:World} {b:Nat} (h:sZ w b 7) (u0 u1 u2 u3 u4 u5 u6:Value):OQ b u0 u1 u2 u3 u4 u5 u6 (CQ w b u0 u1 u2 u3 u4 u5 u6):=by
 have h0:=h;have h1:=h0.set b 0 u0;have h2:=h1.set b 1 u1;have h3:=h2.set b 2 u2;have h4:=h3.set b 3 u3;have h5:=h4.set b 4 u4;have h6:=h5.set b 5 u5;have h7:=h6.set b 6 u6;unfold CQ;refine ⟨?_,?_,?_,?_,?_,?_,?_,h7.1⟩
 ·rw [aD (by omega),aD (by omega),aD (by omega),aD (by omega),aD (by omega),aD (by omega),mK h0 (by omega)]
 ·rw [aD (by omega),aD (by omega),aD (by omega),aD (by omega),aD (by omega),mK h1 (by omega)]
 ·rw [aD (by omega),aD (by omega),aD (by omega),aD (by omega),mK h2 (by omega)]
 ·rw [aD (by omega),aD (by omega),aD (by omega),mK h3 (by omega)]
 ·rw [aD (by omega),aD (by omega),mK h4 (by omega)]
 ·rw [aD (by omega),mK h5 (by omega)]
 ·rw [mK h6 (by omega)]
theorem IB (w:World) (b:Nat) (u0 u1 u2 u3 u4 u5 u6:Value):aG b w (CQ w b u0 u1 u2 u3 u4 u5 u6) :=
 ((((((aG.set w b 0 u0).trans (aG.set _ b 1 u1)).trans (aG.set _ b 2 u2)).trans (aG.set _ b 3 u3)).trans (aG.set _ b 4 u4)).trans (aG.set _ b 5 u5)).trans (aG.set _ b 6 u6)
theorem OZ (w:World) (b:Nat) (u0 u1 u2 u3 u4 u5 u6:Value):(CQ w b u0 u1 u2 u3 u4 u5 u6).heap.size=w.heap.size:=by
 unfold CQ;simp [World.setCell]
theorem qg {w:World} {b n:Nat} (h:sZ w b n) (i:Nat) (hi:i<n):(∃ y,w.cell? ⟨b,i,none⟩=some y)/\w.frozen? ⟨b,i,none⟩=false:=⟨Option.isSome_iff_exists.1 (h.2 i hi).1,(h.2 i hi).2⟩
theorem O4 (w0:lG) (m:Nat) (op:ByteArray) (j:T) (La Ka:Option Addr) (Lc Kc:Nat) (f:Nat) (ih:Bo w0 f) (w:World) (hop:op.size<=140737488355328) (ha:yT w0 f (.agg #[.int .i64 (ah j),.int .i64 (aB j),.string (aF j),.slice La (nL j) Lc,.slice Ka (nK j) Kc]) j) (hm:f<=m) (hf:f<=16) (kj:dZ j) (hb0:Below w0.w.heap.size w0.w w) (gi:ji op):PtT w0 m op j La Ka Lc Kc w:=by
 unfold PtT;have HB:Hid (Below w.heap.size w ((w.alloc (vC j La Lc Ka Kc)).alloc (.cells #[.string ⟨#[]⟩,.int .i64 0,.int .i64 0,.string ⟨#[]⟩,.slice none 0 0,.slice none 0 0,.slice none 0 0] 293))):=iY _ _ _
 have HRw:Hid (sZ ((w.alloc (vC j La Lc Ka Kc)).alloc (.cells #[.string ⟨#[]⟩,.int .i64 0,.int .i64 0,.string ⟨#[]⟩,.slice none 0 0,.slice none 0 0,.slice none 0 0] 293)) (w.heap.size+1) 7):=by
  refine ⟨by simp,fun o ho=>?_⟩;obtain rfl | rfl | rfl | rfl | rfl | rfl | rfl:o=0\/o=1\/o=2\/o=3\/o=4\/o=5\/o=6:=by omega
  all_goals simp [go_sem]
 have HR:Hid (gX (dR m) op j=dR m j):=KR gi;have HI:Hid (ji op):=gi;have HC:=aj (ih m _ j ((w.alloc (vC j La Lc Ka Kc)).alloc (.cells #[.string ⟨#[]⟩,.int .i64 0,.int .i64 0,.string ⟨#[]⟩,.slice none 0 0,.slice none 0 0,.slice none 0 0] 293)) hm ha hf kj (hb0.trans (HB.out.mono hb0.size)));obtain ⟨hp,f1,f2,f3,f4,f5,hw⟩:=zH gi;obtain ⟨e1,e2,e3,e4,e5,e6⟩:=mV hp;clear hp gi;clear ha kj ih hb0;rcases hw with g0 | ⟨g0,g1⟩
 all_goals
  go_in;go_wp2_with fail;refine HC.out.mono ?_;rintro e w3 ⟨b3,⟨hk,tv,rfl,hrow⟩ | ⟨hk,rfl⟩⟩
  ·obtain ⟨A,c,rfl,hn,hr⟩:=hrow;have om:Hid (sQ w3 (bZ ((w.alloc (vC j La Lc Ka Kc)).alloc (.cells #[.string ⟨#[]⟩,.int .i64 0,.int .i64 0,.string ⟨#[]⟩,.slice none 0 0,.slice none 0 0,.slice none 0 0] 293)) w3) (eX w0 w3 (bZ ((w.alloc (vC j La Lc Ka Kc)).alloc (.cells #[.string ⟨#[]⟩,.int .i64 0,.int .i64 0,.string ⟨#[]⟩,.slice none 0 0,.slice none 0 0,.slice none 0 0] 293)) w3) m) (.slice A (iO j).length c) (iO j)):=⟨A,c,rfl,hn,hr⟩;have HB3:=aj (HB.out.trans (b3.mono HB.out.size));have IC:=aj (HRw.out.move b3.size (b3.block _ HRw.out.1));have HK:=aj (HR.out.trans hk);have hsz:=b3.size;have HP:=aj (KT IC.out (.string op) (.int .i64 0) (.int .i64 0) (.string ⟨#[]⟩) (.slice none 0 0) (.slice none 0 0) (.slice A (iO j).length c));have HBp:=aj (HB3.out.trans ((IB w3 (w.heap.size+1) (.string op) (.int .i64 0) (.int .i64 0) (.string ⟨#[]⟩) (.slice none 0 0) (.slice none 0 0) (.slice A (iO j).length c)).below (by simp at hsz;omega) |>.mono (by omega)))
   have HT:Hid (eX w0 (CQ w3 (w.heap.size+1) (.string op) (.int .i64 0) (.int .i64 0) (.string ⟨#[]⟩) (.slice none 0 0) (.slice none 0 0) (.slice A (iO j).length c)) (bZ w (CQ w3 (w.heap.size+1) (.string op) (.int .i64 0) (.int .i64 0) (.string ⟨#[]⟩) (.slice none 0 0) (.slice none 0 0) (.slice A (iO j).length c))) (m+1) (.string op) (.int .i64 0) (.int .i64 0) (.string ⟨#[]⟩) (.slice none 0 0) (.slice none 0 0) (.slice A (iO j).length c) (op,j)):=by
    have mv:∀ b,bZ ((w.alloc (vC j La Lc Ka Kc)).alloc (.cells #[.string ⟨#[]⟩,.int .i64 0,.int .i64 0,.string ⟨#[]⟩,.slice none 0 0,.slice none 0 0,.slice none 0 0] 293)) w3 b->(CQ w3 (w.heap.size+1) (.string op) (.int .i64 0) (.int .i64 0) (.string ⟨#[]⟩) (.slice none 0 0) (.slice none 0 0) (.slice A (iO j).length c)).heap[b]?=w3.heap[b]?/\bZ w (CQ w3 (w.heap.size+1) (.string op) (.int .i64 0) (.int .i64 0) (.string ⟨#[]⟩) (.slice none 0 0) (.slice none 0 0) (.slice A (iO j).length c)) b:=fun b hb=>by
     have h1:w.heap.size+1+1<=b:=by simpa using hb.1
     exact ⟨(IB w3 _ _ _ _ _ _ _ _).block b hb.2 (by omega),by omega,by rw [OZ];exact hb.2⟩
    exact ⟨rfl,hop,.inl ⟨HI.out,rfl,rfl,rfl,rfl,rfl,om.out.move mv (eX.move mv m)⟩⟩
   obtain ⟨⟨y0,z0⟩,s0⟩:=qg IC.out 0 (by omega);obtain ⟨⟨y1,z1⟩,s1⟩:=qg IC.out 1 (by omega);obtain ⟨⟨y2,z2⟩,s2⟩:=qg IC.out 2 (by omega);obtain ⟨⟨y3,z3⟩,s3⟩:=qg IC.out 3 (by omega);obtain ⟨⟨y4,z4⟩,s4⟩:=qg IC.out 4 (by omega);obtain ⟨⟨y5,z5⟩,s5⟩:=qg IC.out 5 (by omega);obtain ⟨⟨y6,z6⟩,s6⟩:=qg IC.out 6 (by omega);unfold CQ at HP HBp HT;clear b3 hk hr hsz HC;go_wp2_with fail;clear z0 s0 z1 s1 z2 s2 z3 s3 z4 s4 z5 s5 z6 s6;obtain ⟨x0,x1,x2,x3,x4,x5,x6,x7⟩:=HP.out;refine bodyPost_ret (v:=.agg #[.string op,.int .i64 0,.int .i64 0,.string ⟨#[]⟩,.slice none 0 0,.slice none 0 0,.slice A (iO j).length c]) (by simp [results,Tryz.results276,go_sem, *]) rfl ?_;exact ⟨HBp.out,.inl ⟨HK.out,_,_,_,_,_,_,_,rfl,HT.out⟩⟩
  ·exact ⟨rfl,HB.out.trans (b3.mono HB.out.size),.inr ⟨HR.out.trans hk,rfl⟩⟩
theorem O5 (w0:lG) (f m:Nat) (op:ByteArray) (j:T) (v:Value) (ih:Bo w0 f) (w:World) (hop:op.size<=140737488355328) (ha:yT w0 f v j) (hm:f<=m) (hf:f<=16) (kj:dZ j) (hb0:Below w0.w.heap.size w0.w w) :
  Calls Tryz.prog 276 #[.string op,v] w (Fy w0 m op j w):=by
 obtain ⟨g1,La,Ka,Lc,Kc,_,rfl,_,_,_⟩:=ha.open;by_cases hi:ji op
 ·exact O4 w0 m op j La Ka Lc Kc f ih w hop ha hm hf kj hb0 hi
 ·exact KS w0 m op j La Ka Lc Kc f w hop ha hf kj hi
theorem ZW:(Tryz.prog.info? 293).map (fun i=>(i.zero,i.size,i.bytes))=some (some (.agg #[.string ⟨#[]⟩,.int .i64 0,.int .i64 0,.string ⟨#[]⟩,.slice none 0 0,.slice none 0 0,.slice none 0 0]),7,120):=by kernel_rfl
theorem jo {B base:Nat} {w wr w2:World} {e:TypeId} {s n:Nat} {hv:Value} {xs:List Value} (h:Below B w wr) (hrow:wr.ownsRow base e s hv n xs) (hBb:B<=base) (hBs:B<=wr.heap.size) (hG:wr.grownBy w2 hv.ownBlock):Below B w w2 :=
 h.trans ⟨hG.os,hG.tape,hG.output,hG.size,fun k hk=>hG.block k (by omega) (fun e=>by have:=(Nz hrow e.symm).1;omega)⟩
theorem NA {s:Nat} {xs:List Value} {i r:Nat} {u:Value} (h:(Sj s xs i)[r]?=some u) (hr:r<s):xs[i*s+r]?=some u:=by
 unfold Sj at h;rw [List.getElem?_take,if_pos hr,List.getElem?_drop] at h;exact h
theorem jH {w:World} {base:Nat} {e:TypeId} {s n g cap:Nat} {xs:List Value} (h:w.ownsRow base e s (.slice (some ⟨g,0,none⟩) n cap) n xs) {j:Nat} {u:Value} (hj:xs[j]?=some u):w.cell? ⟨g,j,none⟩=some u:=by
 have h1:=h.cells (g:=g) rfl j u hj;have e1:((⟨g,0,none⟩:Addr).add j)=⟨g,j,none⟩:=by simp [Addr.add];intro h;exact h.symm
 rw [e1] at h1;exact h1
theorem Vr {w0:lG} {m base:Nat} {hv:Value} {ps:List (ByteArray×T)} {xs:List Value} {w wr:World} (h:J2 (Sl w0 m) 7 293 base hv ps xs wr) (hlo:w.heap.size<=base) (hn:ps.length<=1000000000):sQ wr (bZ w wr) (eX w0 wr (bZ w wr) m) hv ps:=by
 obtain ⟨hx,hc⟩:=h.row;have hrow:=h.row;rcases hc with ⟨rfl,h0⟩ | ⟨g,cap,cur,rfl,hb0,hg,_⟩
 ·exact ⟨none,0,by rw [h0],hn,fun i hi=>by omega⟩
 ·refine ⟨some ⟨g,0,none⟩,cap,rfl,hn,fun i hi=>?_⟩;obtain ⟨c0,c1,c2,c3,c4,c5,c6,hcs,ht⟩:=h.el i hi;have hgl:=(Array.getElem?_eq_some_iff.1 hg).1
  have cc:∀ r u,r<7->(Sj 7 xs i)[r]?=some u->wr.cell? ⟨g,0+i*7+r,none⟩=some u:=fun r u hr hu=>by
   rw [Nat.zero_add];exact jH hrow (NA hu hr)
  refine ⟨g,0,c0,c1,c2,c3,c4,c5,c6,rfl,⟨by omega,hgl⟩,?_,?_,?_,?_,?_,?_,?_,eX.move (fun b hb=>⟨rfl,by have:=hb.1;omega,hb.2.1⟩) m _ _ _ _ _ _ _ _ ht⟩
  ·exact cc 0 c0 (by omega) (by rw [hcs];rfl)
  ·exact cc 1 c1 (by omega) (by rw [hcs];rfl)
  ·exact cc 2 c2 (by omega) (by rw [hcs];rfl)
  ·exact cc 3 c3 (by omega) (by rw [hcs];rfl)
  ·exact cc 4 c4 (by omega) (by rw [hcs];rfl)
  ·exact cc 5 c5 (by omega) (by rw [hcs];rfl)
  ·exact cc 6 c6 (by omega) (by rw [hcs];rfl)
theorem lZ (j:T):(iO j).length=nK j:=by simp [iO]
theorem IE {j:T} {k:Nat} (h:k<nK j):(iO j).take (k+1)=(iO j).take k++[(bf j k,elt j k)]:=by
 have hl:k<(iO j).length:=by rw [lZ];exact h
 rw [List.take_succ_eq_append_getElem hl];simp [iO]
theorem eX.shape {w0:lG} {w:World} {X:Nat->Prop} {m:Nat} {c0 c1 c2 c3 c4 c5 c6:Value} {p:ByteArray×T} (h:eX w0 w X m c0 c1 c2 c3 c4 c5 c6 p):∃ s0 n1 n2 s3 A4 l4 k4 A5 l5 k5 A6 l6 k6,c0=.string s0/\c1=.int .i64 n1/\c2=.int .i64 n2/\c3=.string s3/\c4=.slice A4 l4 k4/\c5=.slice A5 l5 k5/\c6=.slice A6 l6 k6:=by
 cases m with
 | zero=>exact h.elim
 | succ m =>
  obtain ⟨h0,_,⟨_,h1,h2,h3,h4,h5,A,c,h6,_⟩ | ⟨_,h6,g,A,B,C,D,_,h1,h2,h3,h4,h5,_⟩⟩:=h
  ·exact ⟨_,_,_,_,_,_,_,_,_,_,_,_,_,h0,h1,h2,h3,h4,h5,h6⟩
  ·exact ⟨_,_,_,_,_,_,_,_,_,_,_,_,_,h0,h1,h2,h3,h4,h5,h6⟩
theorem Sr (w0:lG) (f:Nat) (ih:Bo w0 f):Bo w0 (f+1):=by
 intro m v j w hm ha hf kj hb0;obtain ⟨m,rfl⟩:∃ x,m=x+1:=⟨m - 1,by omega⟩;obtain ⟨iT,hiT,zT0,zT1,zT2⟩:=info_parts ZW;obtain ⟨g1,La,Ka,Lc,Kc,hg1,rfl,hfj,hel,hnm⟩:=ha.open;obtain rfl:g1=f:=by omega
 have HB1:=aj (bG w (vC j La Lc Ka Kc));have afY:=aj (hb0.trans (HB1.out.mono hb0.size));have JX:=aj kj;have Nu:=aj ih;have OP:=aj hel.out;have XU:=aj hnm.out;have hnk:=kj.small.1;have hnl:=kj.small.2;clear ha kj ih hel hnm hg1 hfj;by_cases hk:ah j=6/\0<nK j
 ·obtain ⟨k6,h0⟩:=hk;have e6:(ah j==6)=true:=by simpa using k6
  have h0i:(0:Int)<(nK j:Int):=by omega
  have HKL:=aj (JX.out.names k6);have CK:Hid (dR (m+1) j=eO (fun i=>gX (dR m) (bf j i) (elt j i)) (nK j)):=by show _=_;rw [dR,e6,decide_eq_true h0];rfl
  clear k6;go_in;go_wp2_with fail;refine (eH true _).mono ?_;rintro e w2 ⟨rfl,he⟩;simp only [if_true] at he;subst he;go_wp2_with fail;go_loopg [3,19] (nK j) (fun g o i wr=>∃ (k:Nat) (xs:List Value),g=nK j - k/\k<=nK j/\i=.int .i64 k/\Hid (Below (w.heap.size+1) (w.alloc (vC j La Lc Ka Kc)) wr)/\Hid (J2 (Sl w0 (m+1)) 7 293 (w.heap.size+1) o ((iO j).take k) xs wr)/\Hid (eO (fun i=>gX (dR m) (bf j i) (elt j i)) k=true))
  case atStart=>exact ⟨0,[],rfl,Nat.zero_le _,rfl,Below.refl _ _,J2.nil _ _ _ _ _,rfl⟩
  case round =>
   obtain ⟨k,xs,rfl,hk,rfl,HB,HL,HN⟩:=hrel;obtain ⟨q0,q1,q2,q3,q4,hz,hbw⟩:=aI HB.out;have pR:=aj (hb0.trans (hbw.mono hb0.size));have dH:=aj hbw;clear hbw;by_cases hlt:k<nK j
   ·have Fz:k<nL j:=by have:=HKL.out;omega
    obtain ⟨kb,ko,rfl,hkb,hks,hkc⟩:=XU.out.keep pR.out k hlt;obtain ⟨bb,oo,A,B,C,D,rfl,hbl,p0,p1,p2,p3,p4,Ha⟩:=OP.out.shape pR.out k Fz;have HC:=aj (O5 w0 g1 m (bf j k) (elt j k) _ Nu.out wr hks Ha.out (by omega) (by omega) (JX.out.elt Fz) pR.out);have HA:Hid (eO (fun i=>gX (dR m) (bf j i) (elt j i)) (k+1)=gX (dR m) (bf j k) (elt j k)):=by show _=_;rw [eO,HN.out];simp
    have HA2:Hid (gX (dR m) (bf j k) (elt j k)=false->dR (m+1) j=false):=fun h=>by rw [CK.out];exact nP (p:=fun i=>gX (dR m) (bf j i) (elt j i)) h _ hlt
    have ZX:=aj (IE hlt);have hxl:((iO j).take k).length=k:=by rw [List.length_take,lZ];omega
    go_wp2_with fail;refine HC.out.mono ?_;rintro e w3 ⟨b3,⟨hok,c0,c1,c2,c3,c4,c5,c6,rfl,ht⟩ | ⟨hok,rfl⟩⟩
    ·obtain ⟨s0,n1,n2,s3,A4,l4,k4,A5,l5,k5,A6,l6,k6,rfl,rfl,rfl,rfl,rfl,rfl,rfl⟩:=ht.shape;have oM:=aj (HA.out.trans hok);have ZY:=aj ht;have bO:=aj (bG w3 (.cells #[.string s0,.int .i64 n1,.int .i64 n2,.string s3,.slice A4 l4 k4,.slice A5 l5 k5,.slice A6 l6 k6] 293));have jM:=aj ((HL.out.keep (nQ w0 (m+1)) b3).keep (nQ w0 (m+1)) bO.out);have qd:Hid (Src Tryz.prog 7 246 (.slice (some ⟨w3.heap.size,0,none⟩) 1 1) 1 [.string s0,.int .i64 n1,.int .i64 n2,.string s3,.slice A4 l4 k4,.slice A5 l5 k5,.slice A6 l6 k6] (w3.alloc (.cells #[.string s0,.int .i64 n1,.int .i64 n2,.string s3,.slice A4 l4 k4,.slice A5 l5 k5,.slice A6 l6 k6] 293))):=Src.ofSlice _ Tryz.underlying246 ⟨w3.heap.size,0,none⟩ 1 1 [.string s0,.int .i64 n1,.int .i64 n2,.string s3,.slice A4 l4 k4,.slice A5 l5 k5,.slice A6 l6 k6] (by simp) (World.news_of_block (heap_alloc_new w3 _)) (by simp [Value.oneCell']);have Hb3:=aj b3;have hlo:w.heap.size+1<=(w3.alloc (.cells #[.string s0,.int .i64 n1,.int .i64 n2,.string s3,.slice A4 l4 k4,.slice A5 l5 k5,.slice A6 l6 k6] 293)).heap.size:=by have:=b3.size;simp;omega
     clear b3 hok ht HC HA HA2;go_wp2_with (at_builtin;refine ay _ rfl (.tmp 24) (.tmp 32) 246 246 rfl (w.heap.size+1) 293 iT _ 7 120 Tryz.underlying246 hiT zT0 zT1 zT2 rfl u3 ((iO j).take k).length xs rfl jM.out.row (.slice (some ⟨w3.heap.size,0,none⟩) 1 1) 1 [.string s0,.int .i64 n1,.int .i64 n2,.string s3,.slice A4 l4 k4,.slice A5 l5 k5,.slice A6 l6 k6] rfl qd.out (by unfold maxLen;omega) (by omega) hlo ?_;intro v' w6 gU gQ bI);have pW:=aj (HL.out.grow (x:=(bf j k,elt j k)) (cs:=[.string s0,.int .i64 n1,.int .i64 n2,.string s3,.slice A4 l4 k4,.slice A5 l5 k5,.slice A6 l6 k6]) (nQ w0 (m+1)) (Hb3.out.trans (bO.out.mono Hb3.out.size)) rfl (nQ w0 (m+1) _ _ _ _ _ _ ⟨_,_,_,_,_,_,_,rfl,ZY.out⟩ (fun b hb=>⟨bO.out.block b hb.2,hb⟩)) (fun b hb=>⟨hb.1,Nat.lt_of_lt_of_le hb.2 bO.out.size⟩) (by omega) gU gQ bI);have pX:=aj (jo ((HB.out.trans (Hb3.out.mono (by omega))).trans (bO.out.mono (by have:=Hb3.out.size;omega))) jM.out.row (Nat.le_refl _) (by omega) gQ);rw [<- ZX.out] at pW;clear gU gQ bI;go_wp2_with fail;go_roundg (nK j - (k+1))
     case rel=>exact ⟨k+1,_,rfl,by omega,by go_num,pX,pW,oM⟩
     case measure=>omega
    ·have Z0:=aj (HA2.out hok);exact ⟨rfl,dH.out.trans (b3.mono dH.out.size),.inr ⟨Z0.out,rfl⟩⟩
   ·obtain rfl:k=nK j:=by omega
    have R5:Hid ((iO j).take (nK j)=iO j):=by show _=_;rw [List.take_of_length_le (by rw [lZ];omega)]
    rw [R5.out] at HL;have om:=aj (Vr (w:=w) HL.out (by omega) (by rw [lZ];omega));have XV:=aj (CK.out.trans HN.out);go_wp2_with fail;go_ret;exact ⟨dH.out,.inl ⟨XV.out,_,rfl,om.out⟩⟩
 ·have CK:Hid (dR (m+1) j=false):=by
   show _=_;rw [dR];by_cases k6:ah j=6
   ·rw [decide_eq_false (fun h=>hk ⟨k6,h⟩)];simp
   ·rw [beq_eq_false_iff_ne.2 k6];rfl
  by_cases k6:ah j=6
  ·have e6:(ah j==6)=true:=by simpa using k6
   have h0:¬ (0:Int)<(nK j:Int):=fun h=>hk ⟨k6,by omega⟩;have hd0:decide (0<nK j)=false:=decide_eq_false (fun h=>hk ⟨k6,h⟩);clear hk k6 h0;go_in;go_wp2_with fail;refine (eH false _).mono ?_;rintro e w2 ⟨rfl,he⟩;simp only [Bool.false_eq_true,if_false] at he;subst he;exact ⟨rfl,HB1.out,.inr ⟨CK.out,rfl⟩⟩
  ·have e6:(ah j==6)=false:=by simpa using k6
   clear hk k6;go_in;go_wp2_with fail;refine (eH false _).mono ?_;rintro e w2 ⟨rfl,he⟩;simp only [Bool.false_eq_true,if_false] at he;subst he;exact ⟨rfl,HB1.out,.inr ⟨CK.out,rfl⟩⟩
theorem NC (w0:lG):∀ f,Bo w0 f
 | 0=>fun _ _ _ _ _ h=>h.elim
 | f+1=>Sr w0 f (NC w0 f)
theorem rM (x:ByteArray) (w:World):Calls Tryz.prog 230 #[.string x] w fun e w'=>e=.returned (.bool (qI x))/\w'=w:=by
 have HC:Hid (Calls Tryz.prog 255 #[.string x,.string ⟨#[36]⟩] w fun e w'=>e=.returned (.bool (qI x))/\w'=w):=Ar x ⟨#[36]⟩ w;generalize qI x=r at HC;go_in;go_wp2_with fail;refine HC.out.mono ?_;rintro e w2 ⟨rfl,rfl⟩;go_wp2_with fail;go_ret;exact ⟨rfl,rfl⟩
theorem vP (v:Value) (l:List ByteArray) (x:ByteArray) (w:World) (h:lM w v l) :
  Calls Tryz.prog 155 #[v,.string x] w fun e w'=>e=.returned (.bool ((bT x l).isSome))/\w'=w:=by
 have HC:=aj (xk v l x w h);clear h;cases hi:bT x l with
 | some k =>
  rw [hi] at HC;simp only [jN] at HC;clear hi;go_in;go_wp2_with fail;refine HC.out.mono ?_;rintro e w2 ⟨rfl,rfl⟩;go_wp2_with fail;go_ret;exact ⟨rfl,rfl⟩
 | none =>
  rw [hi] at HC;simp only [jN] at HC;clear hi;go_in;go_wp2_with fail;refine HC.out.mono ?_;rintro e w2 ⟨rfl,rfl⟩;go_wp2_with fail;go_ret;exact ⟨rfl,rfl⟩
def vR (w:World) (X:Nat->Prop) (v:Value) (l:List ByteArray):Prop :=
 ∃ (A:Option Addr) (c:Nat),v=.slice A l.length c/\l.length<=8796093022208/\∀ i,i<l.length->∃ b o,A=some ⟨b,o,none⟩/\X b/\(l.getD i ByteArray.empty).size<=140737488355328/\w.cell? ⟨b,o+i,none⟩=some (.string (l.getD i ByteArray.empty))
theorem vR.move {w w':World} {X X':Nat->Prop} {v:Value} {l:List ByteArray} (h:vR w X v l) (hb:∀ b,X b->w'.heap[b]?=w.heap[b]?/\X' b):vR w' X' v l:=by
 obtain ⟨A,c,hv,hl,h⟩:=h;refine ⟨A,c,hv,hl,fun i hi=>?_⟩;obtain ⟨b,o,h0,h1,h2,h3⟩:=h i hi;obtain ⟨h4,h5⟩:=hb b h1;exact ⟨b,o,h0,h5,h2,(aC h4 _).trans h3⟩
theorem vR.at {w:World} {X:Nat->Prop} {v:Value} {l:List ByteArray} (h:vR w X v l) (hX:∀ b,X b->b<w.heap.size):lM w v l:=by
 obtain ⟨A,c,hv,hl,h⟩:=h;refine ⟨A,c,hv,hl,fun i hi=>?_⟩;obtain ⟨b,o,h0,h1,h2,h3⟩:=h i hi;exact ⟨b,o,h0,hX b h1,h2,h3⟩
def eF (Tb:World->Prop):Prop:=∀ (x:ByteArray) (w:World),x.size<=1048576->Tb w->Calls Tryz.prog 256 #[.string x,.string ⟨#[46]⟩] w fun e w'=>Below w.heap.size w w'/\∃ v,e=.returned v/\vR w' (bZ w w') v (aU x)
def fD (x:ByteArray):Bool:=(bT ⟨#[]⟩ (aU x)).isNone
def Sv (x:ByteArray) (w:World) (e:Ending) (w':World):Prop:=Below w.heap.size w w'/\((fD x=true/\∃ v,e=.returned (.tuple #[v,.bool true])/\vR w' (bZ w w') v (aU x))\/(fD x=false/\e=.returned (.tuple #[.slice none 0 0,.bool false])))
theorem CS {Tb:World->Prop} (hS:eF Tb) (x:ByteArray) (w:World) (hx:x.size<=1048576) (hT:Tb w):Calls Tryz.prog 231 #[.string x] w (Sv x w):=by
 have HS:=aj (hS x w hx hT);clear hS hT;go_in;go_wp2_with fail;refine HS.out.mono ?_;rintro e w2 ⟨b2,v,rfl,hv⟩;have HV:=aj hv;have HB:=aj b2;have HC:=aj (vP v (aU x) ⟨#[]⟩ w2 (hv.at fun b hb=>hb.2));have HP:Hid (fD x=!((bT ⟨#[]⟩ (aU x)).isSome)):=by show _=_;unfold fD;cases bT ⟨#[]⟩ (aU x)<;>rfl
 clear b2 hv;generalize (bT ⟨#[]⟩ (aU x)).isSome=r at HC HP;go_wp2_with fail;refine HC.out.mono ?_;rintro e w3 ⟨rfl,rfl⟩;cases r with
 | true =>
  go_wp2_with fail;go_ret2;exact ⟨HB.out,.inr ⟨HP.out,rfl⟩⟩
 | false =>
  go_wp2_with fail;go_ret2;exact ⟨HB.out,.inl ⟨HP.out,_,rfl,HV.out⟩⟩
def iQ (j:T):Prop:=ah j=6/\0<nK j/\qI (bf j 0)=true
instance (j : T) : Decidable (iQ j) := by unfold iQ; infer_instance
def vS (j:T):Bool:=if iQ j then dR 16 j else true
theorem Sw {j:T} (h:iQ j):jO j=iO j:=by unfold jO;exact if_pos h
theorem Vs {j:T} (h:¬ iQ j):jO j=[(qb,j)]:=by unfold jO;exact if_neg h
def XW (w0:lG) (j:T) (w:World) (e:Ending) (w':World):Prop :=
 Below w.heap.size w w'/\((vS j=true/\∃ tv,e=.returned tv/\sQ w' (bZ w w') (eX w0 w' (bZ w w') 16) tv (jO j))\/(vS j=false/\e=kC 8))
theorem Sy (w0:lG) (w:World) (j:T) (La Ka:Option Addr) (Lc Kc:Nat) (f:Nat) (ha:yT w0 f (.agg #[.int .i64 (ah j),.int .i64 (aB j),.string (aF j),.slice La (nL j) Lc,.slice Ka (nK j) Kc]) j) (hf:f<=16) (kj:dZ j):sQ ((w.alloc (vC j La Lc Ka Kc)).alloc (.cells #[.string ⟨#[36,101,113]⟩,.int .i64 (ah j),.int .i64 (aB j),.string (aF j),.slice La (nL j) Lc,.slice Ka (nK j) Kc,.slice none 0 0] 293)) (bZ w ((w.alloc (vC j La Lc Ka Kc)).alloc (.cells #[.string ⟨#[36,101,113]⟩,.int .i64 (ah j),.int .i64 (aB j),.string (aF j),.slice La (nL j) Lc,.slice Ka (nK j) Kc,.slice none 0 0] 293))) (eX w0 ((w.alloc (vC j La Lc Ka Kc)).alloc (.cells #[.string ⟨#[36,101,113]⟩,.int .i64 (ah j),.int .i64 (aB j),.string (aF j),.slice La (nL j) Lc,.slice Ka (nK j) Kc,.slice none 0 0] 293)) (bZ w ((w.alloc (vC j La Lc Ka Kc)).alloc (.cells #[.string ⟨#[36,101,113]⟩,.int .i64 (ah j),.int .i64 (aB j),.string (aF j),.slice La (nL j) Lc,.slice Ka (nK j) Kc,.slice none 0 0] 293))) 16) (.slice (some ⟨w.heap.size+1,0,none⟩) 1 1) [(qb,j)]:=by
 refine ⟨some ⟨w.heap.size+1,0,none⟩,1,rfl,by simp,fun i hi=>?_⟩;obtain rfl:i=0:=by simp at hi;omega
 refine ⟨w.heap.size+1,0,_,_,_,_,_,_,_,rfl,⟨by omega,by simp⟩,by simp [go_sem];rfl,by simp [go_sem];rfl,by simp [go_sem];rfl,by simp [go_sem];rfl,by simp [go_sem];rfl,by simp [go_sem];rfl,by simp [go_sem];rfl,?_⟩;exact ⟨rfl,(show qb.size<=140737488355328 by decide),.inr ⟨(show ¬ ji qb by decide),rfl,f,La,Lc,Ka,Kc,hf,rfl,rfl,rfl,rfl,rfl,ha,kj⟩⟩
theorem vT (w0:lG) (f:Nat) (v:Value) (j:T) (w:World) (ha:yT w0 f v j) (hf:f<=16) (kj:dZ j) (hb0:Below w0.w.heap.size w0.w w):Calls Tryz.prog 232 #[v] w (XW w0 j w):=by
 obtain ⟨g1,La,Ka,Lc,Kc,hg1,rfl,hfj,hel,hnm⟩:=ha.open;have HB1:=aj (bG w (vC j La Lc Ka Kc));have HB2:Hid (Below w.heap.size w ((w.alloc (vC j La Lc Ka Kc)).alloc (.cells #[.string ⟨#[36,101,113]⟩,.int .i64 (ah j),.int .i64 (aB j),.string (aF j),.slice La (nL j) Lc,.slice Ka (nK j) Kc,.slice none 0 0] 293))):=(bG _ _).alloc (by simp) _;have HP:=aj (NC w0 f 16 _ j (w.alloc (vC j La Lc Ka Kc)) hf ha hf kj (hb0.trans (HB1.out.mono hb0.size)));have XY:=aj (Sy w0 w j La Ka Lc Kc f ha hf kj);have WT:Hid (¬ iQ j->vS j=true/\jO j=[(qb,j)]):=fun h=>⟨by unfold vS;exact if_neg h,Vs h⟩;have hnk:=kj.small.1;by_cases k6:ah j=6
 ·have e6:(ah j==6)=true:=by simpa using k6
  by_cases h0:0<nK j
  ·have h0i:(0:Int)<(nK j:Int):=by omega
   obtain ⟨kb,ko,rfl,hkb,hks,hkc⟩:=hnm.out.keep (hb0.trans (HB1.out.mono hb0.size)) 0 h0;rw [Nat.add_zero] at hkc;have HO:=aj (rM (bf j 0));cases hop:qI (bf j 0) with
   | true =>
    have XZ:iQ j:=⟨k6,h0,hop⟩;have HX:=aj (Sw XZ);have HK:Hid (vS j=dR 16 j):=by show _=_;unfold vS;exact if_pos XZ
    rw [hop] at HO;clear hop XZ k6 ha kj hel hnm hfj hb0 hg1;go_in;go_wp2_with fail;refine (HO.out _).mono ?_;rintro e w2 ⟨rfl,rfl⟩;go_wp2_with fail;refine HP.out.mono ?_;rintro e w3 ⟨b3,⟨hok,tv,rfl,hr⟩ | ⟨hok,rfl⟩⟩
    ·have HB3:=aj (HB1.out.trans (b3.mono HB1.out.size))
     have HR3:Hid (sQ w3 (bZ w w3) (eX w0 w3 (bZ w w3) 16) tv (jO j)):=by
      show sQ _ _ _ _ _;rw [HX.out];exact hr.move (fun b hb=>⟨rfl,by have:=hb.1;simp at this;omega,hb.2⟩) (eX.move (fun b hb=>⟨rfl,by have:=hb.1;simp at this;omega,hb.2⟩) 16)
     have Cr:=aj (HK.out.trans hok);clear b3 hr hok;go_wp2_with fail;go_ret;exact ⟨HB3.out,.inl ⟨Cr.out,_,rfl,HR3.out⟩⟩
    ·exact ⟨rfl,HB1.out.trans (b3.mono HB1.out.size),.inr ⟨HK.out.trans hok,rfl⟩⟩
   | false =>
    have HN:=aj (WT.out (fun h=>by rw [h.2.2] at hop;cases hop));rw [hop] at HO;clear hop k6 ha kj hel hnm hfj hb0 hg1 WT;go_in;go_wp2_with fail;refine (HO.out _).mono ?_;rintro e w2 ⟨rfl,rfl⟩;go_wp2_with fail;go_ret;exact ⟨HB2.out,.inl ⟨HN.out.1,_,rfl,by rw [HN.out.2];exact XY.out⟩⟩
  ·have hd0:decide (0<nK j)=false:=decide_eq_false h0;have HN:=aj (WT.out (fun h=>h0 h.2.1));clear h0 k6 ha kj hel hnm hfj hb0 hg1 WT;go_in;go_wp2_with fail;go_ret;exact ⟨HB2.out,.inl ⟨HN.out.1,_,rfl,by rw [HN.out.2];exact XY.out⟩⟩
 ·have e6:(ah j==6)=false:=by simpa using k6
  have HN:=aj (WT.out (fun h=>k6 h.1));clear k6 ha kj hel hnm hfj hb0 hg1 WT;go_in;go_wp2_with fail;go_ret;exact ⟨HB2.out,.inl ⟨HN.out.1,_,rfl,by rw [HN.out.2];exact XY.out⟩⟩
end Go.Proofs.YtknakfpciccoaaaGreatDoor
