import Derived.Test.YtknakfpciccoaabGreatDoorZS15
import Derived.Test.YtknakfpciccoaabGreatDoorZS7
/- The walks of parseTest and parseTests. -/
namespace Go.Proofs.YtknakfpciccoaabGreatDoor
open Go.RowKit
def put7 (w : World) (b : Nat) (u0 u1 u2 u3 u4 u5 u6 : Value) : World:=((((((w.setCell ⟨b,0,none⟩ u0).setCell ⟨b,1,none⟩ u1).setCell ⟨b,2,none⟩ u2).setCell ⟨b,3,none⟩ u3).setCell ⟨b,4,none⟩ u4).setCell ⟨b,5,none⟩ u5).setCell ⟨b,6,none⟩ u6
theorem put7_cells {w : World} {b : Nat} (h : RowAt w b 7) (u0 u1 u2 u3 u4 u5 u6 : Value) : Box7 b u0 u1 u2 u3 u4 u5 u6 (put7 w b u0 u1 u2 u3 u4 u5 u6):=by
 have h0:=h
 have h1:=h0.set b 0 u0
 have h2:=h1.set b 1 u1
 have h3:=h2.set b 2 u2
 have h4:=h3.set b 3 u3
 have h5:=h4.set b 4 u4
 have h6:=h5.set b 5 u5
 have h7:=h6.set b 6 u6
 unfold put7
 refine ⟨?_,?_,?_,?_,?_,?_,?_,h7.1⟩
 ·rw [set_other (by omega),set_other (by omega),set_other (by omega),set_other (by omega),set_other (by omega),set_other (by omega),set_same h0 (by omega)]
 ·rw [set_other (by omega),set_other (by omega),set_other (by omega),set_other (by omega),set_other (by omega),set_same h1 (by omega)]
 ·rw [set_other (by omega),set_other (by omega),set_other (by omega),set_other (by omega),set_same h2 (by omega)]
 ·rw [set_other (by omega),set_other (by omega),set_other (by omega),set_same h3 (by omega)]
 ·rw [set_other (by omega),set_other (by omega),set_same h4 (by omega)]
 ·rw [set_other (by omega),set_same h5 (by omega)]
 ·rw [set_same h6 (by omega)]
theorem put7_but (w : World) (b : Nat) (u0 u1 u2 u3 u4 u5 u6 : Value) : But b w (put7 w b u0 u1 u2 u3 u4 u5 u6) :=
 ((((((But.set w b 0 u0).trans (But.set _ b 1 u1)).trans (But.set _ b 2 u2)).trans (But.set _ b 3 u3)).trans (But.set _ b 4 u4)).trans (But.set _ b 5 u5)).trans (But.set _ b 6 u6)
theorem put7_size (w : World) (b : Nat) (u0 u1 u2 u3 u4 u5 u6 : Value) : (put7 w b u0 u1 u2 u3 u4 u5 u6).heap.size=w.heap.size:=by
 unfold put7
 simp [World.setCell]
set_option maxHeartbeats 4000000 in
set_option maxRecDepth 100000 in
theorem ptestNot_any (w0 : Org) (m : Nat) (op : ByteArray) (j : T) (La Ka : Option Addr) (Lc Kc : Nat) (f : Nat) (ih : PtSaid w0 f) (w : World) (hop : op.size≤140737488355328) (ha : At0 w0 f (.agg #[.int .i64 (kindOf j),.int .i64 (nOf j),.string (sOf j),.slice La (nL j) Lc,.slice Ka (nK j) Kc]) j) (hm : f≤m) (hf : f≤16) (kj : okA j) (hb0 : Below w0.w.heap.size w0.w w) (gNot : op=opNot) :
  Calls Tryz.prog 174 #[.string op,.agg #[.int .i64 (kindOf j),.int .i64 (nOf j),.string (sOf j),.slice La (nL j) Lc,.slice Ka (nK j) Kc]] w (TtPost w0 m op j w):=by
 have HB : Hid (Below w.heap.size w ((w.alloc (.cells #[.int .i64 (kindOf j),.int .i64 (nOf j),.string (sOf j),.slice La (nL j) Lc,.slice Ka (nK j) Kc] 36)).alloc (.cells #[.string ⟨#[]⟩,.int .i64 0,.int .i64 0,.string ⟨#[]⟩,.slice none 0 0,.slice none 0 0,.slice none 0 0] 233))):=((Below.refl _ _).alloc (Nat.le_refl _) _).alloc (by simp) _
 have HRw : Hid (RowAt ((w.alloc (.cells #[.int .i64 (kindOf j),.int .i64 (nOf j),.string (sOf j),.slice La (nL j) Lc,.slice Ka (nK j) Kc] 36)).alloc (.cells #[.string ⟨#[]⟩,.int .i64 0,.int .i64 0,.string ⟨#[]⟩,.slice none 0 0,.slice none 0 0,.slice none 0 0] 233)) (w.heap.size+1) 7):=by
  refine ⟨by simp,fun o ho=>?_⟩
  obtain rfl | rfl | rfl | rfl | rfl | rfl | rfl : o=0∨o=1∨o=2∨o=3∨o=4∨o=5∨o=6:=by omega
  all_goals simp [go_sem]
 have HR : Hid (okT1 (okTs m) op j=okTs m j):=by show _=_; unfold okT1; rw [if_neg (show ¬ plainOp op by rw [gNot]; decide),if_neg (show ¬ (op=opIn∨op=opNin) by rw [gNot]; decide),if_neg (by rw [gNot]; decide),if_neg (by rw [gNot]; decide),if_neg (by rw [gNot]; decide),if_pos (.inl gNot)]
 have HI : Hid (isInn op):=.inl gNot
 have HC:=hid (ih m _ j ((w.alloc (.cells #[.int .i64 (kindOf j),.int .i64 (nOf j),.string (sOf j),.slice La (nL j) Lc,.slice Ka (nK j) Kc] 36)).alloc (.cells #[.string ⟨#[]⟩,.int .i64 0,.int .i64 0,.string ⟨#[]⟩,.slice none 0 0,.slice none 0 0,.slice none 0 0] 233)) hm ha hf kj (hb0.trans (HB.out.mono hb0.size)))
 have gEq : ¬ op=opEq:=by rw [gNot]; decide
 have eEq : (op.toList == [36,101,113])=false:=lit_no gEq
 have gNe : ¬ op=opNe:=by rw [gNot]; decide
 have eNe : (op.toList == [36,110,101])=false:=lit_no gNe
 have gGt : ¬ op=opGt:=by rw [gNot]; decide
 have eGt : (op.toList == [36,103,116])=false:=lit_no gGt
 have gGte : ¬ op=opGte:=by rw [gNot]; decide
 have eGte : (op.toList == [36,103,116,101])=false:=lit_no gGte
 have gLt : ¬ op=opLt:=by rw [gNot]; decide
 have eLt : (op.toList == [36,108,116])=false:=lit_no gLt
 have gLte : ¬ op=opLte:=by rw [gNot]; decide
 have eLte : (op.toList == [36,108,116,101])=false:=lit_no gLte
 have gIn : ¬ op=opIn:=by rw [gNot]; decide
 have eIn : (op.toList == [36,105,110])=false:=lit_no gIn
 have gNin : ¬ op=opNin:=by rw [gNot]; decide
 have eNin : (op.toList == [36,110,105,110])=false:=lit_no gNin
 have gExists : ¬ op=opExists:=by rw [gNot]; decide
 have eExists : (op.toList == [36,101,120,105,115,116,115])=false:=lit_no gExists
 have gSize : ¬ op=opSize:=by rw [gNot]; decide
 have eSize : (op.toList == [36,115,105,122,101])=false:=lit_no gSize
 have gKind : ¬ op=opKind:=by rw [gNot]; decide
 have eKind : (op.toList == [36,107,105,110,100])=false:=lit_no gKind
 have eNot : (op.toList == [36,110,111,116])=true:=lit_is gNot
 clear gEq gNe gGt gGte gLt gLte gIn gNin gExists gSize gKind gNot
 clear ha kj ih hb0
 go_enter Tryz.func174,Tryz.ntmps174
 go_wp2_with fail
 refine HC.out.mono ?_
 rintro e w3 ⟨b3,⟨hk,tv,rfl,hrow⟩ | ⟨hk,rfl⟩⟩
 ·obtain ⟨A,c,rfl,hn,hr⟩:=hrow
  have HRow : Hid (RowB w3 (newB ((w.alloc (.cells #[.int .i64 (kindOf j),.int .i64 (nOf j),.string (sOf j),.slice La (nL j) Lc,.slice Ka (nK j) Kc] 36)).alloc (.cells #[.string ⟨#[]⟩,.int .i64 0,.int .i64 0,.string ⟨#[]⟩,.slice none 0 0,.slice none 0 0,.slice none 0 0] 233)) w3) (TestB w0 w3 (newB ((w.alloc (.cells #[.int .i64 (kindOf j),.int .i64 (nOf j),.string (sOf j),.slice La (nL j) Lc,.slice Ka (nK j) Kc] 36)).alloc (.cells #[.string ⟨#[]⟩,.int .i64 0,.int .i64 0,.string ⟨#[]⟩,.slice none 0 0,.slice none 0 0,.slice none 0 0] 233)) w3) m) (.slice A (prs j).length c) (prs j)):=⟨A,c,rfl,hn,hr⟩
  have HB3:=hid (HB.out.trans (b3.mono HB.out.size))
  have HRw3:=hid (HRw.out.move b3.size (b3.block _ HRw.out.1))
  have HK:=hid (HR.out.trans hk)
  have hsz:=b3.size
  have HP:=hid (put7_cells HRw3.out (.string op) (.int .i64 0) (.int .i64 0) (.string ⟨#[]⟩) (.slice none 0 0) (.slice none 0 0) (.slice A (prs j).length c))
  have HBp:=hid (HB3.out.trans ((put7_but w3 (w.heap.size+1) (.string op) (.int .i64 0) (.int .i64 0) (.string ⟨#[]⟩) (.slice none 0 0) (.slice none 0 0) (.slice A (prs j).length c)).below (by simp at hsz; omega) |>.mono (by omega)))
  have HT : Hid (TestB w0 (put7 w3 (w.heap.size+1) (.string op) (.int .i64 0) (.int .i64 0) (.string ⟨#[]⟩) (.slice none 0 0) (.slice none 0 0) (.slice A (prs j).length c)) (newB w (put7 w3 (w.heap.size+1) (.string op) (.int .i64 0) (.int .i64 0) (.string ⟨#[]⟩) (.slice none 0 0) (.slice none 0 0) (.slice A (prs j).length c))) (m+1) (.string op) (.int .i64 0) (.int .i64 0) (.string ⟨#[]⟩) (.slice none 0 0) (.slice none 0 0) (.slice A (prs j).length c) (op,j)):=by
   have mv : ∀ b,newB ((w.alloc (.cells #[.int .i64 (kindOf j),.int .i64 (nOf j),.string (sOf j),.slice La (nL j) Lc,.slice Ka (nK j) Kc] 36)).alloc (.cells #[.string ⟨#[]⟩,.int .i64 0,.int .i64 0,.string ⟨#[]⟩,.slice none 0 0,.slice none 0 0,.slice none 0 0] 233)) w3 b→(put7 w3 (w.heap.size+1) (.string op) (.int .i64 0) (.int .i64 0) (.string ⟨#[]⟩) (.slice none 0 0) (.slice none 0 0) (.slice A (prs j).length c)).heap[b]?=w3.heap[b]?∧newB w (put7 w3 (w.heap.size+1) (.string op) (.int .i64 0) (.int .i64 0) (.string ⟨#[]⟩) (.slice none 0 0) (.slice none 0 0) (.slice A (prs j).length c)) b:=fun b hb=>by
    have h1 : w.heap.size+1+1≤b:=by simpa using hb.1
    exact ⟨(put7_but w3 _ _ _ _ _ _ _ _).block b hb.2 (by omega),by omega,by rw [put7_size]; exact hb.2⟩
   exact ⟨rfl,hop,.inl ⟨HI.out,rfl,rfl,rfl,rfl,rfl,HRow.out.move mv (TestB.move mv m)⟩⟩
  have r0:=HRw3.out.2 0 (by omega)
  obtain ⟨y0,z0⟩:=Option.isSome_iff_exists.1 r0.1
  have s0:=r0.2
  clear r0
  have r1:=HRw3.out.2 1 (by omega)
  obtain ⟨y1,z1⟩:=Option.isSome_iff_exists.1 r1.1
  have s1:=r1.2
  clear r1
  have r2:=HRw3.out.2 2 (by omega)
  obtain ⟨y2,z2⟩:=Option.isSome_iff_exists.1 r2.1
  have s2:=r2.2
  clear r2
  have r3:=HRw3.out.2 3 (by omega)
  obtain ⟨y3,z3⟩:=Option.isSome_iff_exists.1 r3.1
  have s3:=r3.2
  clear r3
  have r4:=HRw3.out.2 4 (by omega)
  obtain ⟨y4,z4⟩:=Option.isSome_iff_exists.1 r4.1
  have s4:=r4.2
  clear r4
  have r5:=HRw3.out.2 5 (by omega)
  obtain ⟨y5,z5⟩:=Option.isSome_iff_exists.1 r5.1
  have s5:=r5.2
  clear r5
  have r6:=HRw3.out.2 6 (by omega)
  obtain ⟨y6,z6⟩:=Option.isSome_iff_exists.1 r6.1
  have s6:=r6.2
  clear r6
  unfold put7 at HP HBp HT
  clear b3 hk hr hsz HC
  go_wp2_with fail
  clear z0 s0 z1 s1 z2 s2 z3 s3 z4 s4 z5 s5 z6 s6
  obtain ⟨x0,x1,x2,x3,x4,x5,x6,x7⟩:=HP.out
  refine bodyPost_ret (v:=.agg #[.string op,.int .i64 0,.int .i64 0,.string ⟨#[]⟩,.slice none 0 0,.slice none 0 0,.slice A (prs j).length c]) (by simp [results,Tryz.results174,go_sem, *]) rfl ?_
  exact ⟨HBp.out,.inl ⟨HK.out,_,_,_,_,_,_,_,rfl,HT.out⟩⟩
 ·exact ⟨rfl,HB.out.trans (b3.mono HB.out.size),.inr ⟨HR.out.trans hk,rfl⟩⟩
set_option maxHeartbeats 4000000 in
set_option maxRecDepth 100000 in
theorem ptestAny_any (w0 : Org) (m : Nat) (op : ByteArray) (j : T) (La Ka : Option Addr) (Lc Kc : Nat) (f : Nat) (ih : PtSaid w0 f) (w : World) (hop : op.size≤140737488355328) (ha : At0 w0 f (.agg #[.int .i64 (kindOf j),.int .i64 (nOf j),.string (sOf j),.slice La (nL j) Lc,.slice Ka (nK j) Kc]) j) (hm : f≤m) (hf : f≤16) (kj : okA j) (hb0 : Below w0.w.heap.size w0.w w) (gAny : op=opAny) :
  Calls Tryz.prog 174 #[.string op,.agg #[.int .i64 (kindOf j),.int .i64 (nOf j),.string (sOf j),.slice La (nL j) Lc,.slice Ka (nK j) Kc]] w (TtPost w0 m op j w):=by
 have HB : Hid (Below w.heap.size w ((w.alloc (.cells #[.int .i64 (kindOf j),.int .i64 (nOf j),.string (sOf j),.slice La (nL j) Lc,.slice Ka (nK j) Kc] 36)).alloc (.cells #[.string ⟨#[]⟩,.int .i64 0,.int .i64 0,.string ⟨#[]⟩,.slice none 0 0,.slice none 0 0,.slice none 0 0] 233))):=((Below.refl _ _).alloc (Nat.le_refl _) _).alloc (by simp) _
 have HRw : Hid (RowAt ((w.alloc (.cells #[.int .i64 (kindOf j),.int .i64 (nOf j),.string (sOf j),.slice La (nL j) Lc,.slice Ka (nK j) Kc] 36)).alloc (.cells #[.string ⟨#[]⟩,.int .i64 0,.int .i64 0,.string ⟨#[]⟩,.slice none 0 0,.slice none 0 0,.slice none 0 0] 233)) (w.heap.size+1) 7):=by
  refine ⟨by simp,fun o ho=>?_⟩
  obtain rfl | rfl | rfl | rfl | rfl | rfl | rfl : o=0∨o=1∨o=2∨o=3∨o=4∨o=5∨o=6:=by omega
  all_goals simp [go_sem]
 have HR : Hid (okT1 (okTs m) op j=okTs m j):=by show _=_; unfold okT1; rw [if_neg (show ¬ plainOp op by rw [gAny]; decide),if_neg (show ¬ (op=opIn∨op=opNin) by rw [gAny]; decide),if_neg (by rw [gAny]; decide),if_neg (by rw [gAny]; decide),if_neg (by rw [gAny]; decide),if_pos (.inr gAny)]
 have HI : Hid (isInn op):=.inr gAny
 have HC:=hid (ih m _ j ((w.alloc (.cells #[.int .i64 (kindOf j),.int .i64 (nOf j),.string (sOf j),.slice La (nL j) Lc,.slice Ka (nK j) Kc] 36)).alloc (.cells #[.string ⟨#[]⟩,.int .i64 0,.int .i64 0,.string ⟨#[]⟩,.slice none 0 0,.slice none 0 0,.slice none 0 0] 233)) hm ha hf kj (hb0.trans (HB.out.mono hb0.size)))
 have gEq : ¬ op=opEq:=by rw [gAny]; decide
 have eEq : (op.toList == [36,101,113])=false:=lit_no gEq
 have gNe : ¬ op=opNe:=by rw [gAny]; decide
 have eNe : (op.toList == [36,110,101])=false:=lit_no gNe
 have gGt : ¬ op=opGt:=by rw [gAny]; decide
 have eGt : (op.toList == [36,103,116])=false:=lit_no gGt
 have gGte : ¬ op=opGte:=by rw [gAny]; decide
 have eGte : (op.toList == [36,103,116,101])=false:=lit_no gGte
 have gLt : ¬ op=opLt:=by rw [gAny]; decide
 have eLt : (op.toList == [36,108,116])=false:=lit_no gLt
 have gLte : ¬ op=opLte:=by rw [gAny]; decide
 have eLte : (op.toList == [36,108,116,101])=false:=lit_no gLte
 have gIn : ¬ op=opIn:=by rw [gAny]; decide
 have eIn : (op.toList == [36,105,110])=false:=lit_no gIn
 have gNin : ¬ op=opNin:=by rw [gAny]; decide
 have eNin : (op.toList == [36,110,105,110])=false:=lit_no gNin
 have gExists : ¬ op=opExists:=by rw [gAny]; decide
 have eExists : (op.toList == [36,101,120,105,115,116,115])=false:=lit_no gExists
 have gSize : ¬ op=opSize:=by rw [gAny]; decide
 have eSize : (op.toList == [36,115,105,122,101])=false:=lit_no gSize
 have gKind : ¬ op=opKind:=by rw [gAny]; decide
 have eKind : (op.toList == [36,107,105,110,100])=false:=lit_no gKind
 have gNot : ¬ op=opNot:=by rw [gAny]; decide
 have eNot : (op.toList == [36,110,111,116])=false:=lit_no gNot
 have eAny : (op.toList == [36,97,110,121])=true:=lit_is gAny
 clear gEq gNe gGt gGte gLt gLte gIn gNin gExists gSize gKind gNot gAny
 clear ha kj ih hb0
 go_enter Tryz.func174,Tryz.ntmps174
 go_wp2_with fail
 refine HC.out.mono ?_
 rintro e w3 ⟨b3,⟨hk,tv,rfl,hrow⟩ | ⟨hk,rfl⟩⟩
 ·obtain ⟨A,c,rfl,hn,hr⟩:=hrow
  have HRow : Hid (RowB w3 (newB ((w.alloc (.cells #[.int .i64 (kindOf j),.int .i64 (nOf j),.string (sOf j),.slice La (nL j) Lc,.slice Ka (nK j) Kc] 36)).alloc (.cells #[.string ⟨#[]⟩,.int .i64 0,.int .i64 0,.string ⟨#[]⟩,.slice none 0 0,.slice none 0 0,.slice none 0 0] 233)) w3) (TestB w0 w3 (newB ((w.alloc (.cells #[.int .i64 (kindOf j),.int .i64 (nOf j),.string (sOf j),.slice La (nL j) Lc,.slice Ka (nK j) Kc] 36)).alloc (.cells #[.string ⟨#[]⟩,.int .i64 0,.int .i64 0,.string ⟨#[]⟩,.slice none 0 0,.slice none 0 0,.slice none 0 0] 233)) w3) m) (.slice A (prs j).length c) (prs j)):=⟨A,c,rfl,hn,hr⟩
  have HB3:=hid (HB.out.trans (b3.mono HB.out.size))
  have HRw3:=hid (HRw.out.move b3.size (b3.block _ HRw.out.1))
  have HK:=hid (HR.out.trans hk)
  have hsz:=b3.size
  have HP:=hid (put7_cells HRw3.out (.string op) (.int .i64 0) (.int .i64 0) (.string ⟨#[]⟩) (.slice none 0 0) (.slice none 0 0) (.slice A (prs j).length c))
  have HBp:=hid (HB3.out.trans ((put7_but w3 (w.heap.size+1) (.string op) (.int .i64 0) (.int .i64 0) (.string ⟨#[]⟩) (.slice none 0 0) (.slice none 0 0) (.slice A (prs j).length c)).below (by simp at hsz; omega) |>.mono (by omega)))
  have HT : Hid (TestB w0 (put7 w3 (w.heap.size+1) (.string op) (.int .i64 0) (.int .i64 0) (.string ⟨#[]⟩) (.slice none 0 0) (.slice none 0 0) (.slice A (prs j).length c)) (newB w (put7 w3 (w.heap.size+1) (.string op) (.int .i64 0) (.int .i64 0) (.string ⟨#[]⟩) (.slice none 0 0) (.slice none 0 0) (.slice A (prs j).length c))) (m+1) (.string op) (.int .i64 0) (.int .i64 0) (.string ⟨#[]⟩) (.slice none 0 0) (.slice none 0 0) (.slice A (prs j).length c) (op,j)):=by
   have mv : ∀ b,newB ((w.alloc (.cells #[.int .i64 (kindOf j),.int .i64 (nOf j),.string (sOf j),.slice La (nL j) Lc,.slice Ka (nK j) Kc] 36)).alloc (.cells #[.string ⟨#[]⟩,.int .i64 0,.int .i64 0,.string ⟨#[]⟩,.slice none 0 0,.slice none 0 0,.slice none 0 0] 233)) w3 b→(put7 w3 (w.heap.size+1) (.string op) (.int .i64 0) (.int .i64 0) (.string ⟨#[]⟩) (.slice none 0 0) (.slice none 0 0) (.slice A (prs j).length c)).heap[b]?=w3.heap[b]?∧newB w (put7 w3 (w.heap.size+1) (.string op) (.int .i64 0) (.int .i64 0) (.string ⟨#[]⟩) (.slice none 0 0) (.slice none 0 0) (.slice A (prs j).length c)) b:=fun b hb=>by
    have h1 : w.heap.size+1+1≤b:=by simpa using hb.1
    exact ⟨(put7_but w3 _ _ _ _ _ _ _ _).block b hb.2 (by omega),by omega,by rw [put7_size]; exact hb.2⟩
   exact ⟨rfl,hop,.inl ⟨HI.out,rfl,rfl,rfl,rfl,rfl,HRow.out.move mv (TestB.move mv m)⟩⟩
  have r0:=HRw3.out.2 0 (by omega)
  obtain ⟨y0,z0⟩:=Option.isSome_iff_exists.1 r0.1
  have s0:=r0.2
  clear r0
  have r1:=HRw3.out.2 1 (by omega)
  obtain ⟨y1,z1⟩:=Option.isSome_iff_exists.1 r1.1
  have s1:=r1.2
  clear r1
  have r2:=HRw3.out.2 2 (by omega)
  obtain ⟨y2,z2⟩:=Option.isSome_iff_exists.1 r2.1
  have s2:=r2.2
  clear r2
  have r3:=HRw3.out.2 3 (by omega)
  obtain ⟨y3,z3⟩:=Option.isSome_iff_exists.1 r3.1
  have s3:=r3.2
  clear r3
  have r4:=HRw3.out.2 4 (by omega)
  obtain ⟨y4,z4⟩:=Option.isSome_iff_exists.1 r4.1
  have s4:=r4.2
  clear r4
  have r5:=HRw3.out.2 5 (by omega)
  obtain ⟨y5,z5⟩:=Option.isSome_iff_exists.1 r5.1
  have s5:=r5.2
  clear r5
  have r6:=HRw3.out.2 6 (by omega)
  obtain ⟨y6,z6⟩:=Option.isSome_iff_exists.1 r6.1
  have s6:=r6.2
  clear r6
  unfold put7 at HP HBp HT
  clear b3 hk hr hsz HC
  go_wp2_with fail
  clear z0 s0 z1 s1 z2 s2 z3 s3 z4 s4 z5 s5 z6 s6
  obtain ⟨x0,x1,x2,x3,x4,x5,x6,x7⟩:=HP.out
  refine bodyPost_ret (v:=.agg #[.string op,.int .i64 0,.int .i64 0,.string ⟨#[]⟩,.slice none 0 0,.slice none 0 0,.slice A (prs j).length c]) (by simp [results,Tryz.results174,go_sem, *]) rfl ?_
  exact ⟨HBp.out,.inl ⟨HK.out,_,_,_,_,_,_,_,rfl,HT.out⟩⟩
 ·exact ⟨rfl,HB.out.trans (b3.mono HB.out.size),.inr ⟨HR.out.trans hk,rfl⟩⟩
end Go.Proofs.YtknakfpciccoaabGreatDoor
/- The walk of parseTests. -/
namespace Go.Proofs.YtknakfpciccoaabGreatDoor
open Go.RowKit
set_option maxHeartbeats 4000000 in
set_option maxRecDepth 100000 in
theorem ptestBad_any (w0 : Org) (m : Nat) (op : ByteArray) (j : T) (La Ka : Option Addr) (Lc Kc : Nat) (w : World) (gEq : ¬ op=opEq) (gNe : ¬ op=opNe) (gGt : ¬ op=opGt) (gGte : ¬ op=opGte) (gLt : ¬ op=opLt) (gLte : ¬ op=opLte) (gIn : ¬ op=opIn) (gNin : ¬ op=opNin) (gExists : ¬ op=opExists) (gSize : ¬ op=opSize) (gKind : ¬ op=opKind) (gNot : ¬ op=opNot) (gAny : ¬ op=opAny) :
  Calls Tryz.prog 174 #[.string op,.agg #[.int .i64 (kindOf j),.int .i64 (nOf j),.string (sOf j),.slice La (nL j) Lc,.slice Ka (nK j) Kc]] w (TtPost w0 m op j w):=by
 have HBz : Hid (Below w.heap.size w ((w.alloc (.cells #[.int .i64 (kindOf j),.int .i64 (nOf j),.string (sOf j),.slice La (nL j) Lc,.slice Ka (nK j) Kc] 36)).alloc (.cells #[.string ⟨#[]⟩,.int .i64 0,.int .i64 0,.string ⟨#[]⟩,.slice none 0 0,.slice none 0 0,.slice none 0 0] 233))):=((Below.refl _ _).alloc (Nat.le_refl _) _).alloc (by simp) _
 have HR : Hid (okT1 (okTs m) op j=false):=by
  show _=_
  unfold okT1 plainOp
  simp only [gEq,gNe,gGt,gGte,gLt,gLte,gIn,gNin,gExists,gSize,gKind,gNot,gAny,or_self,if_false]
 have eEq : (op.toList == [36,101,113])=false:=lit_no gEq
 have eNe : (op.toList == [36,110,101])=false:=lit_no gNe
 have eGt : (op.toList == [36,103,116])=false:=lit_no gGt
 have eGte : (op.toList == [36,103,116,101])=false:=lit_no gGte
 have eLt : (op.toList == [36,108,116])=false:=lit_no gLt
 have eLte : (op.toList == [36,108,116,101])=false:=lit_no gLte
 have eIn : (op.toList == [36,105,110])=false:=lit_no gIn
 have eNin : (op.toList == [36,110,105,110])=false:=lit_no gNin
 have eExists : (op.toList == [36,101,120,105,115,116,115])=false:=lit_no gExists
 have eSize : (op.toList == [36,115,105,122,101])=false:=lit_no gSize
 have eKind : (op.toList == [36,107,105,110,100])=false:=lit_no gKind
 have eNot : (op.toList == [36,110,111,116])=false:=lit_no gNot
 have eAny : (op.toList == [36,97,110,121])=false:=lit_no gAny
 clear gEq gNe gGt gGte gLt gLte gIn gNin gExists gSize gKind gNot gAny
 go_enter Tryz.func174,Tryz.ntmps174
 go_wp2_with fail
 refine (need_any false _).mono ?_
 rintro e w2 ⟨rfl,he⟩
 simp only [Bool.false_eq_true,if_false] at he
 subst he
 exact ⟨rfl,HBz.out,.inr ⟨HR.out,rfl⟩⟩
theorem ptest_any (w0 : Org) (f m : Nat) (op : ByteArray) (j : T) (v : Value) (ih : PtSaid w0 f) (w : World) (hop : op.size≤140737488355328) (ha : At0 w0 f v j) (hm : f≤m) (hf : f≤16) (kj : okA j) (hb0 : Below w0.w.heap.size w0.w w) :
  Calls Tryz.prog 174 #[.string op,v] w (TtPost w0 m op j w):=by
 obtain ⟨g1,La,Ka,Lc,Kc,_,rfl,_,_,_⟩:=ha.open
 by_cases gEq : op=opEq
 ·exact ptestEq_any w0 m op j La Ka Lc Kc f w hop ha hf kj gEq
 by_cases gNe : op=opNe
 ·exact ptestNe_any w0 m op j La Ka Lc Kc f w hop ha hf kj gNe
 by_cases gGt : op=opGt
 ·exact ptestGt_any w0 m op j La Ka Lc Kc f w hop ha hf kj gGt
 by_cases gGte : op=opGte
 ·exact ptestGte_any w0 m op j La Ka Lc Kc f w hop ha hf kj gGte
 by_cases gLt : op=opLt
 ·exact ptestLt_any w0 m op j La Ka Lc Kc f w hop ha hf kj gLt
 by_cases gLte : op=opLte
 ·exact ptestLte_any w0 m op j La Ka Lc Kc f w hop ha hf kj gLte
 by_cases gIn : op=opIn
 ·exact ptestIn_any w0 m op j La Ka Lc Kc f w hop ha hf kj gIn
 by_cases gNin : op=opNin
 ·exact ptestNin_any w0 m op j La Ka Lc Kc f w hop ha hf kj gNin
 by_cases gExists : op=opExists
 ·exact ptestExists_any w0 m op j La Ka Lc Kc f w hop ha hf kj gExists
 by_cases gSize : op=opSize
 ·exact ptestSize_any w0 m op j La Ka Lc Kc f w hop ha hf kj gSize
 by_cases gKind : op=opKind
 ·exact ptestKind_any w0 m op j La Ka Lc Kc f w hop ha hf kj gKind
 by_cases gNot : op=opNot
 ·exact ptestNot_any w0 m op j La Ka Lc Kc f ih w hop ha hm hf kj hb0 gNot
 by_cases gAny : op=opAny
 ·exact ptestAny_any w0 m op j La Ka Lc Kc f ih w hop ha hm hf kj hb0 gAny
 exact ptestBad_any w0 m op j La Ka Lc Kc w gEq gNe gGt gGte gLt gLte gIn gNin gExists gSize gKind gNot gAny
theorem infoT : (Tryz.prog.info? 233).map (fun i=>(i.zero,i.size,i.bytes))=some (some (.agg #[.string ⟨#[]⟩,.int .i64 0,.int .i64 0,.string ⟨#[]⟩,.slice none 0 0,.slice none 0 0,.slice none 0 0]),7,120):=by kernel_rfl
theorem below_grown {B base : Nat} {w wr w2 : World} {e : TypeId} {s n : Nat} {hv : Value} {xs : List Value} (h : Below B w wr) (hrow : wr.ownsRow base e s hv n xs) (hBb : B≤base) (hBs : B≤wr.heap.size) (hG : wr.grownBy w2 hv.ownBlock) : Below B w w2 :=
 h.trans ⟨hG.os,hG.tape,hG.output,hG.size,fun k hk=>hG.block k (by omega) (fun e=>by have:=(own_lt2 hrow e.symm).1; omega)⟩
theorem elC_get {s : Nat} {xs : List Value} {i r : Nat} {u : Value} (h : (elC s xs i)[r]?=some u) (hr : r<s) : xs[i * s+r]?=some u:=by
 unfold elC at h
 rw [List.getElem?_take,if_pos hr,List.getElem?_drop] at h
 exact h
theorem row_cell {w : World} {base : Nat} {e : TypeId} {s n g cap : Nat} {xs : List Value} (h : w.ownsRow base e s (.slice (some ⟨g,0,none⟩) n cap) n xs) {j : Nat} {u : Value} (hj : xs[j]?=some u) : w.cell? ⟨g,j,none⟩=some u:=by
 have h1:=h.cells (g:=g) rfl j u hj
 have e1 : ((⟨g,0,none⟩ : Addr).add j)=⟨g,j,none⟩:=by simp [Addr.add]; intro h; exact h.symm
 rw [e1] at h1
 exact h1
theorem bld_row {w0 : Org} {m base : Nat} {hv : Value} {ps : List (ByteArray×T)} {xs : List Value} {w wr : World} (h : Bld (TestE w0 m) 7 233 base hv ps xs wr) (hlo : w.heap.size≤base) (hn : ps.length≤1000000000) : RowB wr (newB w wr) (TestB w0 wr (newB w wr) m) hv ps:=by
 obtain ⟨hx,hc⟩:=h.row
 have hrow:=h.row
 rcases hc with ⟨rfl,h0⟩ | ⟨g,cap,cur,rfl,hb0,hg,_⟩
 ·exact ⟨none,0,by rw [h0],hn,fun i hi=>by omega⟩
 ·refine ⟨some ⟨g,0,none⟩,cap,rfl,hn,fun i hi=>?_⟩
  obtain ⟨c0,c1,c2,c3,c4,c5,c6,hcs,ht⟩:=h.el i hi
  have hgl:=(Array.getElem?_eq_some_iff.1 hg).1
  have cc : ∀ r u,r<7→(elC 7 xs i)[r]?=some u→wr.cell? ⟨g,0+i * 7+r,none⟩=some u:=fun r u hr hu=>by
   rw [Nat.zero_add]
   exact row_cell hrow (elC_get hu hr)
  refine ⟨g,0,c0,c1,c2,c3,c4,c5,c6,rfl,⟨by omega,hgl⟩,?_,?_,?_,?_,?_,?_,?_,TestB.move (fun b hb=>⟨rfl,by have:=hb.1; omega,hb.2.1⟩) m _ _ _ _ _ _ _ _ ht⟩
  ·exact cc 0 c0 (by omega) (by rw [hcs]; rfl)
  ·exact cc 1 c1 (by omega) (by rw [hcs]; rfl)
  ·exact cc 2 c2 (by omega) (by rw [hcs]; rfl)
  ·exact cc 3 c3 (by omega) (by rw [hcs]; rfl)
  ·exact cc 4 c4 (by omega) (by rw [hcs]; rfl)
  ·exact cc 5 c5 (by omega) (by rw [hcs]; rfl)
  ·exact cc 6 c6 (by omega) (by rw [hcs]; rfl)
theorem prs_len (j : T) : (prs j).length=nK j:=by simp [prs]
theorem prs_take {j : T} {k : Nat} (h : k<nK j) : (prs j).take (k+1)=(prs j).take k ++ [(nam j k,elt j k)]:=by
 have hl : k<(prs j).length:=by rw [prs_len]; exact h
 rw [List.take_succ_eq_append_getElem hl]
 simp [prs]
theorem TestB.shape {w0 : Org} {w : World} {X : Nat→Prop} {m : Nat} {c0 c1 c2 c3 c4 c5 c6 : Value} {p : ByteArray×T} (h : TestB w0 w X m c0 c1 c2 c3 c4 c5 c6 p) : ∃ s0 n1 n2 s3 A4 l4 k4 A5 l5 k5 A6 l6 k6,c0=.string s0∧c1=.int .i64 n1∧c2=.int .i64 n2∧c3=.string s3∧c4=.slice A4 l4 k4∧c5=.slice A5 l5 k5∧c6=.slice A6 l6 k6:=by
 cases m with
 | zero=>exact h.elim
 | succ m =>
  obtain ⟨h0,_,⟨_,h1,h2,h3,h4,h5,A,c,h6,_⟩ | ⟨_,h6,g,A,B,C,D,_,h1,h2,h3,h4,h5,_⟩⟩:=h
  ·exact ⟨_,_,_,_,_,_,_,_,_,_,_,_,_,h0,h1,h2,h3,h4,h5,h6⟩
  ·exact ⟨_,_,_,_,_,_,_,_,_,_,_,_,_,h0,h1,h2,h3,h4,h5,h6⟩
set_option maxHeartbeats 4000000 in
set_option maxRecDepth 100000 in
theorem pts_step (w0 : Org) (f : Nat) (ih : PtSaid w0 f) : PtSaid w0 (f+1):=by
 intro m v j w hm ha hf kj hb0
 obtain ⟨m,rfl⟩ : ∃ x,m=x+1:=⟨m - 1,by omega⟩
 obtain ⟨iT,hiT,zT0,zT1,zT2⟩:=info_parts infoT
 obtain ⟨g1,La,Ka,Lc,Kc,hg1,rfl,hfj,hel,hnm⟩:=ha.open
 obtain rfl : g1=f:=by omega
 have HB1 : Hid (Below w.heap.size w (w.alloc (.cells #[.int .i64 (kindOf j),.int .i64 (nOf j),.string (sOf j),.slice La (nL j) Lc,.slice Ka (nK j) Kc] 36))):=(Below.refl _ _).alloc (Nat.le_refl _) _
 have HB01:=hid (hb0.trans (HB1.out.mono hb0.size))
 have HKj:=hid kj
 have HIh:=hid ih
 have Hel:=hid hel.out
 have Hnm:=hid hnm.out
 have hnk:=kj.small.1
 have hnl:=kj.small.2
 clear ha kj ih hel hnm hg1 hfj
 by_cases hk : kindOf j=6∧0<nK j
 ·obtain ⟨k6,h0⟩:=hk
  have e6 : (kindOf j == 6)=true:=by simpa using k6
  have h0i : (0 : Int)<(nK j : Int):=by omega
  have HKL:=hid (HKj.out.names k6)
  have HOK : Hid (okTs (m+1) j=allN (fun i=>okT1 (okTs m) (nam j i) (elt j i)) (nK j)):=by show _=_; rw [okTs,e6,decide_eq_true h0]; rfl
  clear k6
  go_enter Tryz.func160,Tryz.ntmps160
  go_wp2_with fail
  refine (need_any true _).mono ?_
  rintro e w2 ⟨rfl,he⟩
  simp only [if_true] at he
  subst he
  go_wp2_with fail
  go_loopg [3,19] (nK j) (fun g o i wr=>∃ (k : Nat) (xs : List Value),g=nK j - k∧k≤nK j∧i=.int .i64 k∧Hid (Below (w.heap.size+1) (w.alloc (.cells #[.int .i64 (kindOf j),.int .i64 (nOf j),.string (sOf j),.slice La (nL j) Lc,.slice Ka (nK j) Kc] 36)) wr)∧Hid (Bld (TestE w0 (m+1)) 7 233 (w.heap.size+1) o ((prs j).take k) xs wr)∧Hid (allN (fun i=>okT1 (okTs m) (nam j i) (elt j i)) k=true))
  case atStart=>exact ⟨0,[],rfl,Nat.zero_le _,rfl,Below.refl _ _,Bld.nil _ _ _ _ _,rfl⟩
  case round =>
   obtain ⟨k,xs,rfl,hk,rfl,HB,HL,HN⟩:=hrel
   obtain ⟨q0,q1,q2,q3,q4,hz,hbw⟩:=box_facts HB.out
   have Hbr:=hid (hb0.trans (hbw.mono hb0.size))
   have Hbw:=hid hbw
   clear hbw
   by_cases hlt : k<nK j
   ·have hltL : k<nL j:=by have:=HKL.out; omega
    obtain ⟨kb,ko,rfl,hkb,hks,hkc⟩:=Hnm.out.keep Hbr.out k hlt
    obtain ⟨bb,oo,A,B,C,D,rfl,hbl,p0,p1,p2,p3,p4,Ha⟩:=Hel.out.shape Hbr.out k hltL
    have HC:=hid (ptest_any w0 g1 m (nam j k) (elt j k) _ HIh.out wr hks Ha.out (by omega) (by omega) (HKj.out.elt hltL) Hbr.out)
    have HA : Hid (allN (fun i=>okT1 (okTs m) (nam j i) (elt j i)) (k+1)=okT1 (okTs m) (nam j k) (elt j k)):=by show _=_; rw [allN,HN.out]; simp
    have HA2 : Hid (okT1 (okTs m) (nam j k) (elt j k)=false→okTs (m+1) j=false):=fun h=>by rw [HOK.out]; exact allN_no (p:=fun i=>okT1 (okTs m) (nam j i) (elt j i)) h _ hlt
    have HTk:=hid (prs_take hlt)
    have hxl : ((prs j).take k).length=k:=by rw [List.length_take,prs_len]; omega
    go_wp2_with fail
    refine HC.out.mono ?_
    rintro e w3 ⟨b3,⟨hok,c0,c1,c2,c3,c4,c5,c6,rfl,ht⟩ | ⟨hok,rfl⟩⟩
    ·obtain ⟨s0,n1,n2,s3,A4,l4,k4,A5,l5,k5,A6,l6,k6,rfl,rfl,rfl,rfl,rfl,rfl,rfl⟩:=ht.shape
     have HA3:=hid (HA.out.trans hok)
     have HTt:=hid ht
     have HB4 : Hid (Below w3.heap.size w3 (w3.alloc (.cells #[.string s0,.int .i64 n1,.int .i64 n2,.string s3,.slice A4 l4 k4,.slice A5 l5 k5,.slice A6 l6 k6] 233))):=(Below.refl _ _).alloc (Nat.le_refl _) _
     have HL4:=hid ((HL.out.keep (testE_moves w0 (m+1)) b3).keep (testE_moves w0 (m+1)) HB4.out)
     have HSrc : Hid (Src Tryz.prog 7 210 (.slice (some ⟨w3.heap.size,0,none⟩) 1 1) 1 [.string s0,.int .i64 n1,.int .i64 n2,.string s3,.slice A4 l4 k4,.slice A5 l5 k5,.slice A6 l6 k6] (w3.alloc (.cells #[.string s0,.int .i64 n1,.int .i64 n2,.string s3,.slice A4 l4 k4,.slice A5 l5 k5,.slice A6 l6 k6] 233))):=Src.ofSlice _ Tryz.underlying210 ⟨w3.heap.size,0,none⟩ 1 1 [.string s0,.int .i64 n1,.int .i64 n2,.string s3,.slice A4 l4 k4,.slice A5 l5 k5,.slice A6 l6 k6] (by simp) (World.news_of_block (heap_alloc_new w3 _)) (by simp [Value.oneCell'])
     have Hb3:=hid b3
     have hlo : w.heap.size+1≤(w3.alloc (.cells #[.string s0,.int .i64 n1,.int .i64 n2,.string s3,.slice A4 l4 k4,.slice A5 l5 k5,.slice A6 l6 k6] 233)).heap.size:=by have:=b3.size; simp; omega
     clear b3 hok ht HC HA HA2
     go_wp2_with (at_builtin; refine wpList_append_src _ rfl (.tmp 24) (.tmp 32) 210 210 rfl (w.heap.size+1) 233 iT _ 7 120 Tryz.underlying210 hiT zT0 zT1 zT2 rfl u3 ((prs j).take k).length xs rfl HL4.out.row (.slice (some ⟨w3.heap.size,0,none⟩) 1 1) 1 [.string s0,.int .i64 n1,.int .i64 n2,.string s3,.slice A4 l4 k4,.slice A5 l5 k5,.slice A6 l6 k6] rfl HSrc.out (by unfold maxLen; omega) (by omega) hlo ?_; intro v' w6 hO6 hG6 hat6)
     have HL6:=hid (HL.out.grow (x:=(nam j k,elt j k)) (cs:=[.string s0,.int .i64 n1,.int .i64 n2,.string s3,.slice A4 l4 k4,.slice A5 l5 k5,.slice A6 l6 k6]) (testE_moves w0 (m+1)) (Hb3.out.trans (HB4.out.mono Hb3.out.size)) rfl (testE_moves w0 (m+1) _ _ _ _ _ _ ⟨_,_,_,_,_,_,_,rfl,HTt.out⟩ (fun b hb=>⟨HB4.out.block b hb.2,hb⟩)) (fun b hb=>⟨hb.1,Nat.lt_of_lt_of_le hb.2 HB4.out.size⟩) (by omega) hO6 hG6 hat6)
     have HB6:=hid (below_grown ((HB.out.trans (Hb3.out.mono (by omega))).trans (HB4.out.mono (by have:=Hb3.out.size; omega))) HL4.out.row (Nat.le_refl _) (by omega) hG6)
     rw [← HTk.out] at HL6
     clear hO6 hG6 hat6
     go_wp2_with fail
     go_roundg (nK j - (k+1))
     case rel=>exact ⟨k+1,_,rfl,by omega,by go_num,HB6,HL6,HA3⟩
     case measure=>omega
    ·have HA4:=hid (HA2.out hok)
     exact ⟨rfl,Hbw.out.trans (b3.mono Hbw.out.size),.inr ⟨HA4.out,rfl⟩⟩
   ·obtain rfl : k=nK j:=by omega
    have HPl : Hid ((prs j).take (nK j)=prs j):=by show _=_; rw [List.take_of_length_le (by rw [prs_len]; omega)]
    rw [HPl.out] at HL
    have HRow:=hid (bld_row (w:=w) HL.out (by omega) (by rw [prs_len]; omega))
    have HOK2:=hid (HOK.out.trans HN.out)
    go_wp2_with fail
    go_ret
    exact ⟨Hbw.out,.inl ⟨HOK2.out,_,rfl,HRow.out⟩⟩
 ·have HOK : Hid (okTs (m+1) j=false):=by
   show _=_
   rw [okTs]
   by_cases k6 : kindOf j=6
   ·rw [decide_eq_false (fun h=>hk ⟨k6,h⟩)]; simp
   ·rw [beq_eq_false_iff_ne.2 k6]; rfl
  by_cases k6 : kindOf j=6
  ·have e6 : (kindOf j == 6)=true:=by simpa using k6
   have h0 : ¬ (0 : Int)<(nK j : Int):=fun h=>hk ⟨k6,by omega⟩
   have hd0 : decide (0<nK j)=false:=decide_eq_false (fun h=>hk ⟨k6,h⟩)
   clear hk k6 h0
   go_enter Tryz.func160,Tryz.ntmps160
   go_wp2_with fail
   refine (need_any false _).mono ?_
   rintro e w2 ⟨rfl,he⟩
   simp only [Bool.false_eq_true,if_false] at he
   subst he
   exact ⟨rfl,HB1.out,.inr ⟨HOK.out,rfl⟩⟩
  ·have e6 : (kindOf j == 6)=false:=by simpa using k6
   clear hk k6
   go_enter Tryz.func160,Tryz.ntmps160
   go_wp2_with fail
   refine (need_any false _).mono ?_
   rintro e w2 ⟨rfl,he⟩
   simp only [Bool.false_eq_true,if_false] at he
   subst he
   exact ⟨rfl,HB1.out,.inr ⟨HOK.out,rfl⟩⟩
theorem pts_any (w0 : Org) : ∀ f,PtSaid w0 f
 | 0=>fun _ _ _ _ _ h=>h.elim
 | f+1=>pts_step w0 f (pts_any w0 f)
end Go.Proofs.YtknakfpciccoaabGreatDoor
/- The walks of IsOperator, path.Parse, parseExpected. -/
namespace Go.Proofs.YtknakfpciccoaabGreatDoor
open Go.RowKit
set_option maxHeartbeats 4000000 in
set_option maxRecDepth 100000 in
theorem isOperator_any (x : ByteArray) (w : World) : Calls Tryz.prog 142 #[.string x] w fun e w'=>e=.returned (.bool (isOp x))∧w'=w:=by
 have HC : Hid (Calls Tryz.prog 158 #[.string x,.string ⟨#[36]⟩] w fun e w'=>e=.returned (.bool (isOp x))∧w'=w):=prefix_any x ⟨#[36]⟩ w
 generalize isOp x=r at HC
 go_enter Tryz.func142,Tryz.ntmps142
 go_wp2_with fail
 refine HC.out.mono ?_
 rintro e w2 ⟨rfl,rfl⟩
 go_wp2_with fail
 go_ret
 exact ⟨rfl,rfl⟩
set_option maxHeartbeats 4000000 in
set_option maxRecDepth 100000 in
theorem contains_any (v : Value) (l : List ByteArray) (x : ByteArray) (w : World) (h : StrsAt w v l) :
  Calls Tryz.prog 86 #[v,.string x] w fun e w'=>e=.returned (.bool ((idxL x l).isSome))∧w'=w:=by
 have HC:=hid (index_any v l x w h)
 clear h
 cases hi : idxL x l with
 | some k =>
  rw [hi] at HC
  simp only [idxI] at HC
  clear hi
  go_enter Tryz.func86,Tryz.ntmps86
  go_wp2_with fail
  refine HC.out.mono ?_
  rintro e w2 ⟨rfl,rfl⟩
  go_wp2_with fail
  go_ret
  exact ⟨rfl,rfl⟩
 | none =>
  rw [hi] at HC
  simp only [idxI] at HC
  clear hi
  go_enter Tryz.func86,Tryz.ntmps86
  go_wp2_with fail
  refine HC.out.mono ?_
  rintro e w2 ⟨rfl,rfl⟩
  go_wp2_with fail
  go_ret
  exact ⟨rfl,rfl⟩
def StrsB (w : World) (X : Nat→Prop) (v : Value) (l : List ByteArray) : Prop :=
 ∃ (A : Option Addr) (c : Nat),v=.slice A l.length c∧l.length≤8796093022208∧∀ i,i<l.length→∃ b o,A=some ⟨b,o,none⟩∧X b∧(l.getD i ByteArray.empty).size≤140737488355328∧w.cell? ⟨b,o+i,none⟩=some (.string (l.getD i ByteArray.empty))
theorem StrsB.move {w w' : World} {X X' : Nat→Prop} {v : Value} {l : List ByteArray} (h : StrsB w X v l) (hb : ∀ b,X b→w'.heap[b]?=w.heap[b]?∧X' b) : StrsB w' X' v l:=by
 obtain ⟨A,c,hv,hl,h⟩:=h
 refine ⟨A,c,hv,hl,fun i hi=>?_⟩
 obtain ⟨b,o,h0,h1,h2,h3⟩:=h i hi
 obtain ⟨h4,h5⟩:=hb b h1
 exact ⟨b,o,h0,h5,h2,(cell_of h4 _).trans h3⟩
theorem StrsB.at {w : World} {X : Nat→Prop} {v : Value} {l : List ByteArray} (h : StrsB w X v l) (hX : ∀ b,X b→b<w.heap.size) : StrsAt w v l:=by
 obtain ⟨A,c,hv,hl,h⟩:=h
 refine ⟨A,c,hv,hl,fun i hi=>?_⟩
 obtain ⟨b,o,h0,h1,h2,h3⟩:=h i hi
 exact ⟨b,o,h0,hX b h1,h2,h3⟩
def SplitSaid (Tb : World→Prop) : Prop:=∀ (x : ByteArray) (w : World),x.size≤1048576→Tb w→Calls Tryz.prog 159 #[.string x,.string ⟨#[46]⟩] w fun e w'=>Below w.heap.size w w'∧∃ v,e=.returned v∧StrsB w' (newB w w') v (splitP x)
def pathOk (x : ByteArray) : Bool:=(idxL ⟨#[]⟩ (splitP x)).isNone
def PathPost (x : ByteArray) (w : World) (e : Ending) (w' : World) : Prop:=Below w.heap.size w w'∧((pathOk x=true∧∃ v,e=.returned (.tuple #[v,.bool true])∧StrsB w' (newB w w') v (splitP x))∨(pathOk x=false∧e=.returned (.tuple #[.slice none 0 0,.bool false])))
set_option maxHeartbeats 4000000 in
set_option maxRecDepth 100000 in
theorem pathParse_any {Tb : World→Prop} (hS : SplitSaid Tb) (x : ByteArray) (w : World) (hx : x.size≤1048576) (hT : Tb w) : Calls Tryz.prog 143 #[.string x] w (PathPost x w):=by
 have HS:=hid (hS x w hx hT)
 clear hS hT
 go_enter Tryz.func143,Tryz.ntmps143
 go_wp2_with fail
 refine HS.out.mono ?_
 rintro e w2 ⟨b2,v,rfl,hv⟩
 have HV:=hid hv
 have HB:=hid b2
 have HC:=hid (contains_any v (splitP x) ⟨#[]⟩ w2 (hv.at fun b hb=>hb.2))
 have HP : Hid (pathOk x=!((idxL ⟨#[]⟩ (splitP x)).isSome)):=by show _=_; unfold pathOk; cases idxL ⟨#[]⟩ (splitP x) <;> rfl
 clear b2 hv
 generalize (idxL ⟨#[]⟩ (splitP x)).isSome=r at HC HP
 go_wp2_with fail
 refine HC.out.mono ?_
 rintro e w3 ⟨rfl,rfl⟩
 cases r with
 | true =>
  go_wp2_with fail
  go_ret2
  exact ⟨HB.out,.inr ⟨HP.out,rfl⟩⟩
 | false =>
  go_wp2_with fail
  go_ret2
  exact ⟨HB.out,.inl ⟨HP.out,_,rfl,HV.out⟩⟩
def opObj (j : T) : Prop:=kindOf j=6∧0<nK j∧isOp (nam j 0)=true
instance (j : T) : Decidable (opObj j) := by unfold opObj; infer_instance
def okEx (j : T) : Bool:=if opObj j then okTs 16 j else true
theorem exps_yes {j : T} (h : opObj j) : exps j=prs j:=by unfold exps; exact if_pos h
theorem exps_no {j : T} (h : ¬ opObj j) : exps j=[(opEq,j)]:=by unfold exps; exact if_neg h
def ExPost (w0 : Org) (j : T) (w : World) (e : Ending) (w' : World) : Prop :=
 Below w.heap.size w w'∧((okEx j=true∧∃ tv,e=.returned tv∧RowB w' (newB w w') (TestB w0 w' (newB w w') 16) tv (exps j))∨(okEx j=false∧e=refused 8))
theorem one_test (w0 : Org) (w : World) (j : T) (La Ka : Option Addr) (Lc Kc : Nat) (f : Nat) (ha : At0 w0 f (.agg #[.int .i64 (kindOf j),.int .i64 (nOf j),.string (sOf j),.slice La (nL j) Lc,.slice Ka (nK j) Kc]) j) (hf : f≤16) (kj : okA j) : RowB ((w.alloc (.cells #[.int .i64 (kindOf j),.int .i64 (nOf j),.string (sOf j),.slice La (nL j) Lc,.slice Ka (nK j) Kc] 36)).alloc (.cells #[.string ⟨#[36,101,113]⟩,.int .i64 (kindOf j),.int .i64 (nOf j),.string (sOf j),.slice La (nL j) Lc,.slice Ka (nK j) Kc,.slice none 0 0] 233)) (newB w ((w.alloc (.cells #[.int .i64 (kindOf j),.int .i64 (nOf j),.string (sOf j),.slice La (nL j) Lc,.slice Ka (nK j) Kc] 36)).alloc (.cells #[.string ⟨#[36,101,113]⟩,.int .i64 (kindOf j),.int .i64 (nOf j),.string (sOf j),.slice La (nL j) Lc,.slice Ka (nK j) Kc,.slice none 0 0] 233))) (TestB w0 ((w.alloc (.cells #[.int .i64 (kindOf j),.int .i64 (nOf j),.string (sOf j),.slice La (nL j) Lc,.slice Ka (nK j) Kc] 36)).alloc (.cells #[.string ⟨#[36,101,113]⟩,.int .i64 (kindOf j),.int .i64 (nOf j),.string (sOf j),.slice La (nL j) Lc,.slice Ka (nK j) Kc,.slice none 0 0] 233)) (newB w ((w.alloc (.cells #[.int .i64 (kindOf j),.int .i64 (nOf j),.string (sOf j),.slice La (nL j) Lc,.slice Ka (nK j) Kc] 36)).alloc (.cells #[.string ⟨#[36,101,113]⟩,.int .i64 (kindOf j),.int .i64 (nOf j),.string (sOf j),.slice La (nL j) Lc,.slice Ka (nK j) Kc,.slice none 0 0] 233))) 16) (.slice (some ⟨w.heap.size+1,0,none⟩) 1 1) [(opEq,j)]:=by
 refine ⟨some ⟨w.heap.size+1,0,none⟩,1,rfl,by simp,fun i hi=>?_⟩
 obtain rfl : i=0:=by simp at hi; omega
 refine ⟨w.heap.size+1,0,_,_,_,_,_,_,_,rfl,⟨by omega,by simp⟩,by simp [go_sem]; rfl,by simp [go_sem]; rfl,by simp [go_sem]; rfl,by simp [go_sem]; rfl,by simp [go_sem]; rfl,by simp [go_sem]; rfl,by simp [go_sem]; rfl,?_⟩
 exact ⟨rfl,(show opEq.size≤140737488355328 by decide),.inr ⟨(show ¬ isInn opEq by decide),rfl,f,La,Lc,Ka,Kc,hf,rfl,rfl,rfl,rfl,rfl,ha,kj⟩⟩
set_option maxHeartbeats 4000000 in
set_option maxRecDepth 100000 in
theorem parseExpected_any (w0 : Org) (f : Nat) (v : Value) (j : T) (w : World) (ha : At0 w0 f v j) (hf : f≤16) (kj : okA j) (hb0 : Below w0.w.heap.size w0.w w) : Calls Tryz.prog 144 #[v] w (ExPost w0 j w):=by
 obtain ⟨g1,La,Ka,Lc,Kc,hg1,rfl,hfj,hel,hnm⟩:=ha.open
 have HB1 : Hid (Below w.heap.size w (w.alloc (.cells #[.int .i64 (kindOf j),.int .i64 (nOf j),.string (sOf j),.slice La (nL j) Lc,.slice Ka (nK j) Kc] 36))):=(Below.refl _ _).alloc (Nat.le_refl _) _
 have HB2 : Hid (Below w.heap.size w ((w.alloc (.cells #[.int .i64 (kindOf j),.int .i64 (nOf j),.string (sOf j),.slice La (nL j) Lc,.slice Ka (nK j) Kc] 36)).alloc (.cells #[.string ⟨#[36,101,113]⟩,.int .i64 (kindOf j),.int .i64 (nOf j),.string (sOf j),.slice La (nL j) Lc,.slice Ka (nK j) Kc,.slice none 0 0] 233))):=((Below.refl _ _).alloc (Nat.le_refl _) _).alloc (by simp) _
 have HP:=hid (pts_any w0 f 16 _ j (w.alloc (.cells #[.int .i64 (kindOf j),.int .i64 (nOf j),.string (sOf j),.slice La (nL j) Lc,.slice Ka (nK j) Kc] 36)) hf ha hf kj (hb0.trans (HB1.out.mono hb0.size)))
 have HOne:=hid (one_test w0 w j La Ka Lc Kc f ha hf kj)
 have HF1 : Hid (¬ opObj j→okEx j=true∧exps j=[(opEq,j)]):=fun h=>⟨by unfold okEx; exact if_neg h,exps_no h⟩
 have hnk:=kj.small.1
 by_cases k6 : kindOf j=6
 ·have e6 : (kindOf j == 6)=true:=by simpa using k6
  by_cases h0 : 0<nK j
  ·have h0i : (0 : Int)<(nK j : Int):=by omega
   obtain ⟨kb,ko,rfl,hkb,hks,hkc⟩:=hnm.out.keep (hb0.trans (HB1.out.mono hb0.size)) 0 h0
   rw [Nat.add_zero] at hkc
   have HO:=hid (isOperator_any (nam j 0))
   cases hop : isOp (nam j 0) with
   | true =>
    have hobj : opObj j:=⟨k6,h0,hop⟩
    have HX:=hid (exps_yes hobj)
    have HK : Hid (okEx j=okTs 16 j):=by show _=_; unfold okEx; exact if_pos hobj
    rw [hop] at HO
    clear hop hobj k6 ha kj hel hnm hfj hb0 hg1
    go_enter Tryz.func144,Tryz.ntmps144
    go_wp2_with fail
    refine (HO.out _).mono ?_
    rintro e w2 ⟨rfl,rfl⟩
    go_wp2_with fail
    refine HP.out.mono ?_
    rintro e w3 ⟨b3,⟨hok,tv,rfl,hr⟩ | ⟨hok,rfl⟩⟩
    ·have HB3:=hid (HB1.out.trans (b3.mono HB1.out.size))
     have HR3 : Hid (RowB w3 (newB w w3) (TestB w0 w3 (newB w w3) 16) tv (exps j)):=by
      show RowB _ _ _ _ _
      rw [HX.out]
      exact hr.move (fun b hb=>⟨rfl,by have:=hb.1; simp at this; omega,hb.2⟩) (TestB.move (fun b hb=>⟨rfl,by have:=hb.1; simp at this; omega,hb.2⟩) 16)
     have HK3:=hid (HK.out.trans hok)
     clear b3 hr hok
     go_wp2_with fail
     go_ret
     exact ⟨HB3.out,.inl ⟨HK3.out,_,rfl,HR3.out⟩⟩
    ·exact ⟨rfl,HB1.out.trans (b3.mono HB1.out.size),.inr ⟨HK.out.trans hok,rfl⟩⟩
   | false =>
    have HN:=hid (HF1.out (fun h=>by rw [h.2.2] at hop; cases hop))
    rw [hop] at HO
    clear hop k6 ha kj hel hnm hfj hb0 hg1 HF1
    go_enter Tryz.func144,Tryz.ntmps144
    go_wp2_with fail
    refine (HO.out _).mono ?_
    rintro e w2 ⟨rfl,rfl⟩
    go_wp2_with fail
    go_ret
    exact ⟨HB2.out,.inl ⟨HN.out.1,_,rfl,by rw [HN.out.2]; exact HOne.out⟩⟩
  ·have hd0 : decide (0<nK j)=false:=decide_eq_false h0
   have HN:=hid (HF1.out (fun h=>h0 h.2.1))
   clear h0 k6 ha kj hel hnm hfj hb0 hg1 HF1
   go_enter Tryz.func144,Tryz.ntmps144
   go_wp2_with fail
   go_ret
   exact ⟨HB2.out,.inl ⟨HN.out.1,_,rfl,by rw [HN.out.2]; exact HOne.out⟩⟩
 ·have e6 : (kindOf j == 6)=false:=by simpa using k6
  have HN:=hid (HF1.out (fun h=>k6 h.1))
  clear k6 ha kj hel hnm hfj hb0 hg1 HF1
  go_enter Tryz.func144,Tryz.ntmps144
  go_wp2_with fail
  go_ret
  exact ⟨HB2.out,.inl ⟨HN.out.1,_,rfl,by rw [HN.out.2]; exact HOne.out⟩⟩
end Go.Proofs.YtknakfpciccoaabGreatDoor
