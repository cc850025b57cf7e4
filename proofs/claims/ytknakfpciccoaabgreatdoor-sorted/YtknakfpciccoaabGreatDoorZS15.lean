import Derived.Test.YtknakfpciccoaabGreatDoorZS14
import Derived.Test.YtknakfpciccoaabGreatDoorZS13
/- The walks of parseTest and parseTests. -/
namespace Go.Proofs.YtknakfpciccoaabGreatDoor
open Go.RowKit
def put7 (w:World) (b:Nat) (u0 u1 u2 u3 u4 u5 u6:Value):World:=((((((w.setCell ⟨b,0,none⟩ u0).setCell ⟨b,1,none⟩ u1).setCell ⟨b,2,none⟩ u2).setCell ⟨b,3,none⟩ u3).setCell ⟨b,4,none⟩ u4).setCell ⟨b,5,none⟩ u5).setCell ⟨b,6,none⟩ u6
theorem put7_cells {w:World} {b:Nat} (h:RowAt w b 7) (u0 u1 u2 u3 u4 u5 u6:Value):Box7 b u0 u1 u2 u3 u4 u5 u6 (put7 w b u0 u1 u2 u3 u4 u5 u6):=by
 have h0:=h
 have h1:=h0.set b 0 u0
 have h2:=h1.set b 1 u1
 have h3:=h2.set b 2 u2
 have h4:=h3.set b 3 u3
 have h5:=h4.set b 4 u4
 have h6:=h5.set b 5 u5
 have h7:=h6.set b 6 u6
 unfold put7
 refine ⟨?_,?_,?_,?_,?_,?_,?_,h7.1⟩
 ·rw [set_other (by omega),set_other (by omega),set_other (by omega),set_other (by omega),set_other (by omega),set_other (by omega),set_same h0 (by omega)]
 ·rw [set_other (by omega),set_other (by omega),set_other (by omega),set_other (by omega),set_other (by omega),set_same h1 (by omega)]
 ·rw [set_other (by omega),set_other (by omega),set_other (by omega),set_other (by omega),set_same h2 (by omega)]
 ·rw [set_other (by omega),set_other (by omega),set_other (by omega),set_same h3 (by omega)]
 ·rw [set_other (by omega),set_other (by omega),set_same h4 (by omega)]
 ·rw [set_other (by omega),set_same h5 (by omega)]
 ·rw [set_same h6 (by omega)]
theorem put7_but (w:World) (b:Nat) (u0 u1 u2 u3 u4 u5 u6:Value):But b w (put7 w b u0 u1 u2 u3 u4 u5 u6) :=
 ((((((But.set w b 0 u0).trans (But.set _ b 1 u1)).trans (But.set _ b 2 u2)).trans (But.set _ b 3 u3)).trans (But.set _ b 4 u4)).trans (But.set _ b 5 u5)).trans (But.set _ b 6 u6)
theorem put7_size (w:World) (b:Nat) (u0 u1 u2 u3 u4 u5 u6:Value):(put7 w b u0 u1 u2 u3 u4 u5 u6).heap.size=w.heap.size:=by
 unfold put7
 simp [World.setCell]
set_option maxHeartbeats 4000000 in
set_option maxRecDepth 100000 in
theorem ptestNot_any (w0:Org) (m:Nat) (op:ByteArray) (j:T) (La Ka:Option Addr) (Lc Kc:Nat) (f:Nat) (ih:PtSaid w0 f) (w:World) (hop:op.size≤140737488355328) (ha:At0 w0 f (.agg #[.int .i64 (kindOf j),.int .i64 (nOf j),.string (sOf j),.slice La (nL j) Lc,.slice Ka (nK j) Kc]) j) (hm:f≤m) (hf:f≤16) (kj:okA j) (hb0:Below w0.w.heap.size w0.w w) (gNot:op=opNot) :
  Calls Tryz.prog 174 #[.string op,.agg #[.int .i64 (kindOf j),.int .i64 (nOf j),.string (sOf j),.slice La (nL j) Lc,.slice Ka (nK j) Kc]] w (TtPost w0 m op j w):=by
 have HB:Hid (Below w.heap.size w ((w.alloc (.cells #[.int .i64 (kindOf j),.int .i64 (nOf j),.string (sOf j),.slice La (nL j) Lc,.slice Ka (nK j) Kc] 36)).alloc (.cells #[.string ⟨#[]⟩,.int .i64 0,.int .i64 0,.string ⟨#[]⟩,.slice none 0 0,.slice none 0 0,.slice none 0 0] 233))):=((Below.refl _ _).alloc (Nat.le_refl _) _).alloc (by simp) _
 have HRw:Hid (RowAt ((w.alloc (.cells #[.int .i64 (kindOf j),.int .i64 (nOf j),.string (sOf j),.slice La (nL j) Lc,.slice Ka (nK j) Kc] 36)).alloc (.cells #[.string ⟨#[]⟩,.int .i64 0,.int .i64 0,.string ⟨#[]⟩,.slice none 0 0,.slice none 0 0,.slice none 0 0] 233)) (w.heap.size+1) 7):=by
  refine ⟨by simp,fun o ho=>?_⟩
  obtain rfl | rfl | rfl | rfl | rfl | rfl | rfl:o=0∨o=1∨o=2∨o=3∨o=4∨o=5∨o=6:=by omega
  all_goals simp [go_sem]
 have HR:Hid (okT1 (okTs m) op j=okTs m j):=by show _=_;unfold okT1;rw [if_neg (show ¬ plainOp op by rw [gNot];decide),if_neg (show ¬ (op=opIn∨op=opNin) by rw [gNot];decide),if_neg (by rw [gNot];decide),if_neg (by rw [gNot];decide),if_neg (by rw [gNot];decide),if_pos (.inl gNot)]
 have HI:Hid (isInn op):=.inl gNot
 have HC:=hid (ih m _ j ((w.alloc (.cells #[.int .i64 (kindOf j),.int .i64 (nOf j),.string (sOf j),.slice La (nL j) Lc,.slice Ka (nK j) Kc] 36)).alloc (.cells #[.string ⟨#[]⟩,.int .i64 0,.int .i64 0,.string ⟨#[]⟩,.slice none 0 0,.slice none 0 0,.slice none 0 0] 233)) hm ha hf kj (hb0.trans (HB.out.mono hb0.size)))
 have gEq:¬ op=opEq:=by rw [gNot];decide
 have eEq:(op.toList==[36,101,113])=false:=lit_no gEq
 have gNe:¬ op=opNe:=by rw [gNot];decide
 have eNe:(op.toList==[36,110,101])=false:=lit_no gNe
 have gGt:¬ op=opGt:=by rw [gNot];decide
 have eGt:(op.toList==[36,103,116])=false:=lit_no gGt
 have gGte:¬ op=opGte:=by rw [gNot];decide
 have eGte:(op.toList==[36,103,116,101])=false:=lit_no gGte
 have gLt:¬ op=opLt:=by rw [gNot];decide
 have eLt:(op.toList==[36,108,116])=false:=lit_no gLt
 have gLte:¬ op=opLte:=by rw [gNot];decide
 have eLte:(op.toList==[36,108,116,101])=false:=lit_no gLte
 have gIn:¬ op=opIn:=by rw [gNot];decide
 have eIn:(op.toList==[36,105,110])=false:=lit_no gIn
 have gNin:¬ op=opNin:=by rw [gNot];decide
 have eNin:(op.toList==[36,110,105,110])=false:=lit_no gNin
 have gExists:¬ op=opExists:=by rw [gNot];decide
 have eExists:(op.toList==[36,101,120,105,115,116,115])=false:=lit_no gExists
 have gSize:¬ op=opSize:=by rw [gNot];decide
 have eSize:(op.toList==[36,115,105,122,101])=false:=lit_no gSize
 have gKind:¬ op=opKind:=by rw [gNot];decide
 have eKind:(op.toList==[36,107,105,110,100])=false:=lit_no gKind
 have eNot:(op.toList==[36,110,111,116])=true:=lit_is gNot
 clear gEq gNe gGt gGte gLt gLte gIn gNin gExists gSize gKind gNot
 clear ha kj ih hb0
 go_enter Tryz.func174,Tryz.ntmps174
 go_wp2_with fail
 refine HC.out.mono ?_
 rintro e w3 ⟨b3,⟨hk,tv,rfl,hrow⟩ | ⟨hk,rfl⟩⟩
 ·obtain ⟨A,c,rfl,hn,hr⟩:=hrow
  have HRow:Hid (RowB w3 (newB ((w.alloc (.cells #[.int .i64 (kindOf j),.int .i64 (nOf j),.string (sOf j),.slice La (nL j) Lc,.slice Ka (nK j) Kc] 36)).alloc (.cells #[.string ⟨#[]⟩,.int .i64 0,.int .i64 0,.string ⟨#[]⟩,.slice none 0 0,.slice none 0 0,.slice none 0 0] 233)) w3) (TestB w0 w3 (newB ((w.alloc (.cells #[.int .i64 (kindOf j),.int .i64 (nOf j),.string (sOf j),.slice La (nL j) Lc,.slice Ka (nK j) Kc] 36)).alloc (.cells #[.string ⟨#[]⟩,.int .i64 0,.int .i64 0,.string ⟨#[]⟩,.slice none 0 0,.slice none 0 0,.slice none 0 0] 233)) w3) m) (.slice A (prs j).length c) (prs j)):=⟨A,c,rfl,hn,hr⟩
  have HB3:=hid (HB.out.trans (b3.mono HB.out.size))
  have HRw3:=hid (HRw.out.move b3.size (b3.block _ HRw.out.1))
  have HK:=hid (HR.out.trans hk)
  have hsz:=b3.size
  have HP:=hid (put7_cells HRw3.out (.string op) (.int .i64 0) (.int .i64 0) (.string ⟨#[]⟩) (.slice none 0 0) (.slice none 0 0) (.slice A (prs j).length c))
  have HBp:=hid (HB3.out.trans ((put7_but w3 (w.heap.size+1) (.string op) (.int .i64 0) (.int .i64 0) (.string ⟨#[]⟩) (.slice none 0 0) (.slice none 0 0) (.slice A (prs j).length c)).below (by simp at hsz;omega) |>.mono (by omega)))
  have HT:Hid (TestB w0 (put7 w3 (w.heap.size+1) (.string op) (.int .i64 0) (.int .i64 0) (.string ⟨#[]⟩) (.slice none 0 0) (.slice none 0 0) (.slice A (prs j).length c)) (newB w (put7 w3 (w.heap.size+1) (.string op) (.int .i64 0) (.int .i64 0) (.string ⟨#[]⟩) (.slice none 0 0) (.slice none 0 0) (.slice A (prs j).length c))) (m+1) (.string op) (.int .i64 0) (.int .i64 0) (.string ⟨#[]⟩) (.slice none 0 0) (.slice none 0 0) (.slice A (prs j).length c) (op,j)):=by
   have mv:∀ b,newB ((w.alloc (.cells #[.int .i64 (kindOf j),.int .i64 (nOf j),.string (sOf j),.slice La (nL j) Lc,.slice Ka (nK j) Kc] 36)).alloc (.cells #[.string ⟨#[]⟩,.int .i64 0,.int .i64 0,.string ⟨#[]⟩,.slice none 0 0,.slice none 0 0,.slice none 0 0] 233)) w3 b→(put7 w3 (w.heap.size+1) (.string op) (.int .i64 0) (.int .i64 0) (.string ⟨#[]⟩) (.slice none 0 0) (.slice none 0 0) (.slice A (prs j).length c)).heap[b]?=w3.heap[b]?∧newB w (put7 w3 (w.heap.size+1) (.string op) (.int .i64 0) (.int .i64 0) (.string ⟨#[]⟩) (.slice none 0 0) (.slice none 0 0) (.slice A (prs j).length c)) b:=fun b hb=>by
    have h1:w.heap.size+1+1≤b:=by simpa using hb.1
    exact ⟨(put7_but w3 _ _ _ _ _ _ _ _).block b hb.2 (by omega),by omega,by rw [put7_size];exact hb.2⟩
   exact ⟨rfl,hop,.inl ⟨HI.out,rfl,rfl,rfl,rfl,rfl,HRow.out.move mv (TestB.move mv m)⟩⟩
  have r0:=HRw3.out.2 0 (by omega)
  obtain ⟨y0,z0⟩:=Option.isSome_iff_exists.1 r0.1
  have s0:=r0.2
  clear r0
  have r1:=HRw3.out.2 1 (by omega)
  obtain ⟨y1,z1⟩:=Option.isSome_iff_exists.1 r1.1
  have s1:=r1.2
  clear r1
  have r2:=HRw3.out.2 2 (by omega)
  obtain ⟨y2,z2⟩:=Option.isSome_iff_exists.1 r2.1
  have s2:=r2.2
  clear r2
  have r3:=HRw3.out.2 3 (by omega)
  obtain ⟨y3,z3⟩:=Option.isSome_iff_exists.1 r3.1
  have s3:=r3.2
  clear r3
  have r4:=HRw3.out.2 4 (by omega)
  obtain ⟨y4,z4⟩:=Option.isSome_iff_exists.1 r4.1
  have s4:=r4.2
  clear r4
  have r5:=HRw3.out.2 5 (by omega)
  obtain ⟨y5,z5⟩:=Option.isSome_iff_exists.1 r5.1
  have s5:=r5.2
  clear r5
  have r6:=HRw3.out.2 6 (by omega)
  obtain ⟨y6,z6⟩:=Option.isSome_iff_exists.1 r6.1
  have s6:=r6.2
  clear r6
  unfold put7 at HP HBp HT
  clear b3 hk hr hsz HC
  go_wp2_with fail
  clear z0 s0 z1 s1 z2 s2 z3 s3 z4 s4 z5 s5 z6 s6
  obtain ⟨x0,x1,x2,x3,x4,x5,x6,x7⟩:=HP.out
  refine bodyPost_ret (v:=.agg #[.string op,.int .i64 0,.int .i64 0,.string ⟨#[]⟩,.slice none 0 0,.slice none 0 0,.slice A (prs j).length c]) (by simp [results,Tryz.results174,go_sem, *]) rfl ?_
  exact ⟨HBp.out,.inl ⟨HK.out,_,_,_,_,_,_,_,rfl,HT.out⟩⟩
 ·exact ⟨rfl,HB.out.trans (b3.mono HB.out.size),.inr ⟨HR.out.trans hk,rfl⟩⟩
set_option maxHeartbeats 4000000 in
set_option maxRecDepth 100000 in
theorem ptestAny_any (w0:Org) (m:Nat) (op:ByteArray) (j:T) (La Ka:Option Addr) (Lc Kc:Nat) (f:Nat) (ih:PtSaid w0 f) (w:World) (hop:op.size≤140737488355328) (ha:At0 w0 f (.agg #[.int .i64 (kindOf j),.int .i64 (nOf j),.string (sOf j),.slice La (nL j) Lc,.slice Ka (nK j) Kc]) j) (hm:f≤m) (hf:f≤16) (kj:okA j) (hb0:Below w0.w.heap.size w0.w w) (gAny:op=opAny) :
  Calls Tryz.prog 174 #[.string op,.agg #[.int .i64 (kindOf j),.int .i64 (nOf j),.string (sOf j),.slice La (nL j) Lc,.slice Ka (nK j) Kc]] w (TtPost w0 m op j w):=by
 have HB:Hid (Below w.heap.size w ((w.alloc (.cells #[.int .i64 (kindOf j),.int .i64 (nOf j),.string (sOf j),.slice La (nL j) Lc,.slice Ka (nK j) Kc] 36)).alloc (.cells #[.string ⟨#[]⟩,.int .i64 0,.int .i64 0,.string ⟨#[]⟩,.slice none 0 0,.slice none 0 0,.slice none 0 0] 233))):=((Below.refl _ _).alloc (Nat.le_refl _) _).alloc (by simp) _
 have HRw:Hid (RowAt ((w.alloc (.cells #[.int .i64 (kindOf j),.int .i64 (nOf j),.string (sOf j),.slice La (nL j) Lc,.slice Ka (nK j) Kc] 36)).alloc (.cells #[.string ⟨#[]⟩,.int .i64 0,.int .i64 0,.string ⟨#[]⟩,.slice none 0 0,.slice none 0 0,.slice none 0 0] 233)) (w.heap.size+1) 7):=by
  refine ⟨by simp,fun o ho=>?_⟩
  obtain rfl | rfl | rfl | rfl | rfl | rfl | rfl:o=0∨o=1∨o=2∨o=3∨o=4∨o=5∨o=6:=by omega
  all_goals simp [go_sem]
 have HR:Hid (okT1 (okTs m) op j=okTs m j):=by show _=_;unfold okT1;rw [if_neg (show ¬ plainOp op by rw [gAny];decide),if_neg (show ¬ (op=opIn∨op=opNin) by rw [gAny];decide),if_neg (by rw [gAny];decide),if_neg (by rw [gAny];decide),if_neg (by rw [gAny];decide),if_pos (.inr gAny)]
 have HI:Hid (isInn op):=.inr gAny
 have HC:=hid (ih m _ j ((w.alloc (.cells #[.int .i64 (kindOf j),.int .i64 (nOf j),.string (sOf j),.slice La (nL j) Lc,.slice Ka (nK j) Kc] 36)).alloc (.cells #[.string ⟨#[]⟩,.int .i64 0,.int .i64 0,.string ⟨#[]⟩,.slice none 0 0,.slice none 0 0,.slice none 0 0] 233)) hm ha hf kj (hb0.trans (HB.out.mono hb0.size)))
 have gEq:¬ op=opEq:=by rw [gAny];decide
 have eEq:(op.toList==[36,101,113])=false:=lit_no gEq
 have gNe:¬ op=opNe:=by rw [gAny];decide
 have eNe:(op.toList==[36,110,101])=false:=lit_no gNe
 have gGt:¬ op=opGt:=by rw [gAny];decide
 have eGt:(op.toList==[36,103,116])=false:=lit_no gGt
 have gGte:¬ op=opGte:=by rw [gAny];decide
 have eGte:(op.toList==[36,103,116,101])=false:=lit_no gGte
 have gLt:¬ op=opLt:=by rw [gAny];decide
 have eLt:(op.toList==[36,108,116])=false:=lit_no gLt
 have gLte:¬ op=opLte:=by rw [gAny];decide
 have eLte:(op.toList==[36,108,116,101])=false:=lit_no gLte
 have gIn:¬ op=opIn:=by rw [gAny];decide
 have eIn:(op.toList==[36,105,110])=false:=lit_no gIn
 have gNin:¬ op=opNin:=by rw [gAny];decide
 have eNin:(op.toList==[36,110,105,110])=false:=lit_no gNin
 have gExists:¬ op=opExists:=by rw [gAny];decide
 have eExists:(op.toList==[36,101,120,105,115,116,115])=false:=lit_no gExists
 have gSize:¬ op=opSize:=by rw [gAny];decide
 have eSize:(op.toList==[36,115,105,122,101])=false:=lit_no gSize
 have gKind:¬ op=opKind:=by rw [gAny];decide
 have eKind:(op.toList==[36,107,105,110,100])=false:=lit_no gKind
 have gNot:¬ op=opNot:=by rw [gAny];decide
 have eNot:(op.toList==[36,110,111,116])=false:=lit_no gNot
 have eAny:(op.toList==[36,97,110,121])=true:=lit_is gAny
 clear gEq gNe gGt gGte gLt gLte gIn gNin gExists gSize gKind gNot gAny
 clear ha kj ih hb0
 go_enter Tryz.func174,Tryz.ntmps174
 go_wp2_with fail
 refine HC.out.mono ?_
 rintro e w3 ⟨b3,⟨hk,tv,rfl,hrow⟩ | ⟨hk,rfl⟩⟩
 ·obtain ⟨A,c,rfl,hn,hr⟩:=hrow
  have HRow:Hid (RowB w3 (newB ((w.alloc (.cells #[.int .i64 (kindOf j),.int .i64 (nOf j),.string (sOf j),.slice La (nL j) Lc,.slice Ka (nK j) Kc] 36)).alloc (.cells #[.string ⟨#[]⟩,.int .i64 0,.int .i64 0,.string ⟨#[]⟩,.slice none 0 0,.slice none 0 0,.slice none 0 0] 233)) w3) (TestB w0 w3 (newB ((w.alloc (.cells #[.int .i64 (kindOf j),.int .i64 (nOf j),.string (sOf j),.slice La (nL j) Lc,.slice Ka (nK j) Kc] 36)).alloc (.cells #[.string ⟨#[]⟩,.int .i64 0,.int .i64 0,.string ⟨#[]⟩,.slice none 0 0,.slice none 0 0,.slice none 0 0] 233)) w3) m) (.slice A (prs j).length c) (prs j)):=⟨A,c,rfl,hn,hr⟩
  have HB3:=hid (HB.out.trans (b3.mono HB.out.size))
  have HRw3:=hid (HRw.out.move b3.size (b3.block _ HRw.out.1))
  have HK:=hid (HR.out.trans hk)
  have hsz:=b3.size
  have HP:=hid (put7_cells HRw3.out (.string op) (.int .i64 0) (.int .i64 0) (.string ⟨#[]⟩) (.slice none 0 0) (.slice none 0 0) (.slice A (prs j).length c))
  have HBp:=hid (HB3.out.trans ((put7_but w3 (w.heap.size+1) (.string op) (.int .i64 0) (.int .i64 0) (.string ⟨#[]⟩) (.slice none 0 0) (.slice none 0 0) (.slice A (prs j).length c)).below (by simp at hsz;omega) |>.mono (by omega)))
  have HT:Hid (TestB w0 (put7 w3 (w.heap.size+1) (.string op) (.int .i64 0) (.int .i64 0) (.string ⟨#[]⟩) (.slice none 0 0) (.slice none 0 0) (.slice A (prs j).length c)) (newB w (put7 w3 (w.heap.size+1) (.string op) (.int .i64 0) (.int .i64 0) (.string ⟨#[]⟩) (.slice none 0 0) (.slice none 0 0) (.slice A (prs j).length c))) (m+1) (.string op) (.int .i64 0) (.int .i64 0) (.string ⟨#[]⟩) (.slice none 0 0) (.slice none 0 0) (.slice A (prs j).length c) (op,j)):=by
   have mv:∀ b,newB ((w.alloc (.cells #[.int .i64 (kindOf j),.int .i64 (nOf j),.string (sOf j),.slice La (nL j) Lc,.slice Ka (nK j) Kc] 36)).alloc (.cells #[.string ⟨#[]⟩,.int .i64 0,.int .i64 0,.string ⟨#[]⟩,.slice none 0 0,.slice none 0 0,.slice none 0 0] 233)) w3 b→(put7 w3 (w.heap.size+1) (.string op) (.int .i64 0) (.int .i64 0) (.string ⟨#[]⟩) (.slice none 0 0) (.slice none 0 0) (.slice A (prs j).length c)).heap[b]?=w3.heap[b]?∧newB w (put7 w3 (w.heap.size+1) (.string op) (.int .i64 0) (.int .i64 0) (.string ⟨#[]⟩) (.slice none 0 0) (.slice none 0 0) (.slice A (prs j).length c)) b:=fun b hb=>by
    have h1:w.heap.size+1+1≤b:=by simpa using hb.1
    exact ⟨(put7_but w3 _ _ _ _ _ _ _ _).block b hb.2 (by omega),by omega,by rw [put7_size];exact hb.2⟩
   exact ⟨rfl,hop,.inl ⟨HI.out,rfl,rfl,rfl,rfl,rfl,HRow.out.move mv (TestB.move mv m)⟩⟩
  have r0:=HRw3.out.2 0 (by omega)
  obtain ⟨y0,z0⟩:=Option.isSome_iff_exists.1 r0.1
  have s0:=r0.2
  clear r0
  have r1:=HRw3.out.2 1 (by omega)
  obtain ⟨y1,z1⟩:=Option.isSome_iff_exists.1 r1.1
  have s1:=r1.2
  clear r1
  have r2:=HRw3.out.2 2 (by omega)
  obtain ⟨y2,z2⟩:=Option.isSome_iff_exists.1 r2.1
  have s2:=r2.2
  clear r2
  have r3:=HRw3.out.2 3 (by omega)
  obtain ⟨y3,z3⟩:=Option.isSome_iff_exists.1 r3.1
  have s3:=r3.2
  clear r3
  have r4:=HRw3.out.2 4 (by omega)
  obtain ⟨y4,z4⟩:=Option.isSome_iff_exists.1 r4.1
  have s4:=r4.2
  clear r4
  have r5:=HRw3.out.2 5 (by omega)
  obtain ⟨y5,z5⟩:=Option.isSome_iff_exists.1 r5.1
  have s5:=r5.2
  clear r5
  have r6:=HRw3.out.2 6 (by omega)
  obtain ⟨y6,z6⟩:=Option.isSome_iff_exists.1 r6.1
  have s6:=r6.2
  clear r6
  unfold put7 at HP HBp HT
  clear b3 hk hr hsz HC
  go_wp2_with fail
  clear z0 s0 z1 s1 z2 s2 z3 s3 z4 s4 z5 s5 z6 s6
  obtain ⟨x0,x1,x2,x3,x4,x5,x6,x7⟩:=HP.out
  refine bodyPost_ret (v:=.agg #[.string op,.int .i64 0,.int .i64 0,.string ⟨#[]⟩,.slice none 0 0,.slice none 0 0,.slice A (prs j).length c]) (by simp [results,Tryz.results174,go_sem, *]) rfl ?_
  exact ⟨HBp.out,.inl ⟨HK.out,_,_,_,_,_,_,_,rfl,HT.out⟩⟩
 ·exact ⟨rfl,HB.out.trans (b3.mono HB.out.size),.inr ⟨HR.out.trans hk,rfl⟩⟩
end Go.Proofs.YtknakfpciccoaabGreatDoor
/- The walk of parseTests. -/
namespace Go.Proofs.YtknakfpciccoaabGreatDoor
open Go.RowKit
set_option maxHeartbeats 4000000 in
set_option maxRecDepth 100000 in
theorem ptestBad_any (w0:Org) (m:Nat) (op:ByteArray) (j:T) (La Ka:Option Addr) (Lc Kc:Nat) (w:World) (gEq:¬ op=opEq) (gNe:¬ op=opNe) (gGt:¬ op=opGt) (gGte:¬ op=opGte) (gLt:¬ op=opLt) (gLte:¬ op=opLte) (gIn:¬ op=opIn) (gNin:¬ op=opNin) (gExists:¬ op=opExists) (gSize:¬ op=opSize) (gKind:¬ op=opKind) (gNot:¬ op=opNot) (gAny:¬ op=opAny) :
  Calls Tryz.prog 174 #[.string op,.agg #[.int .i64 (kindOf j),.int .i64 (nOf j),.string (sOf j),.slice La (nL j) Lc,.slice Ka (nK j) Kc]] w (TtPost w0 m op j w):=by
 have HBz:Hid (Below w.heap.size w ((w.alloc (.cells #[.int .i64 (kindOf j),.int .i64 (nOf j),.string (sOf j),.slice La (nL j) Lc,.slice Ka (nK j) Kc] 36)).alloc (.cells #[.string ⟨#[]⟩,.int .i64 0,.int .i64 0,.string ⟨#[]⟩,.slice none 0 0,.slice none 0 0,.slice none 0 0] 233))):=((Below.refl _ _).alloc (Nat.le_refl _) _).alloc (by simp) _
 have HR:Hid (okT1 (okTs m) op j=false):=by
  show _=_
  unfold okT1 plainOp
  simp only [gEq,gNe,gGt,gGte,gLt,gLte,gIn,gNin,gExists,gSize,gKind,gNot,gAny,or_self,if_false]
 have eEq:(op.toList==[36,101,113])=false:=lit_no gEq
 have eNe:(op.toList==[36,110,101])=false:=lit_no gNe
 have eGt:(op.toList==[36,103,116])=false:=lit_no gGt
 have eGte:(op.toList==[36,103,116,101])=false:=lit_no gGte
 have eLt:(op.toList==[36,108,116])=false:=lit_no gLt
 have eLte:(op.toList==[36,108,116,101])=false:=lit_no gLte
 have eIn:(op.toList==[36,105,110])=false:=lit_no gIn
 have eNin:(op.toList==[36,110,105,110])=false:=lit_no gNin
 have eExists:(op.toList==[36,101,120,105,115,116,115])=false:=lit_no gExists
 have eSize:(op.toList==[36,115,105,122,101])=false:=lit_no gSize
 have eKind:(op.toList==[36,107,105,110,100])=false:=lit_no gKind
 have eNot:(op.toList==[36,110,111,116])=false:=lit_no gNot
 have eAny:(op.toList==[36,97,110,121])=false:=lit_no gAny
 clear gEq gNe gGt gGte gLt gLte gIn gNin gExists gSize gKind gNot gAny
 go_enter Tryz.func174,Tryz.ntmps174
 go_wp2_with fail
 refine (need_any false _).mono ?_
 rintro e w2 ⟨rfl,he⟩
 simp only [Bool.false_eq_true,if_false] at he
 subst he
 exact ⟨rfl,HBz.out,.inr ⟨HR.out,rfl⟩⟩
theorem ptest_any (w0:Org) (f m:Nat) (op:ByteArray) (j:T) (v:Value) (ih:PtSaid w0 f) (w:World) (hop:op.size≤140737488355328) (ha:At0 w0 f v j) (hm:f≤m) (hf:f≤16) (kj:okA j) (hb0:Below w0.w.heap.size w0.w w) :
  Calls Tryz.prog 174 #[.string op,v] w (TtPost w0 m op j w):=by
 obtain ⟨g1,La,Ka,Lc,Kc,_,rfl,_,_,_⟩:=ha.open
 by_cases gEq:op=opEq
 ·exact ptestEq_any w0 m op j La Ka Lc Kc f w hop ha hf kj gEq
 by_cases gNe:op=opNe
 ·exact ptestNe_any w0 m op j La Ka Lc Kc f w hop ha hf kj gNe
 by_cases gGt:op=opGt
 ·exact ptestGt_any w0 m op j La Ka Lc Kc f w hop ha hf kj gGt
 by_cases gGte:op=opGte
 ·exact ptestGte_any w0 m op j La Ka Lc Kc f w hop ha hf kj gGte
 by_cases gLt:op=opLt
 ·exact ptestLt_any w0 m op j La Ka Lc Kc f w hop ha hf kj gLt
 by_cases gLte:op=opLte
 ·exact ptestLte_any w0 m op j La Ka Lc Kc f w hop ha hf kj gLte
 by_cases gIn:op=opIn
 ·exact ptestIn_any w0 m op j La Ka Lc Kc f w hop ha hf kj gIn
 by_cases gNin:op=opNin
 ·exact ptestNin_any w0 m op j La Ka Lc Kc f w hop ha hf kj gNin
 by_cases gExists:op=opExists
 ·exact ptestExists_any w0 m op j La Ka Lc Kc f w hop ha hf kj gExists
 by_cases gSize:op=opSize
 ·exact ptestSize_any w0 m op j La Ka Lc Kc f w hop ha hf kj gSize
 by_cases gKind:op=opKind
 ·exact ptestKind_any w0 m op j La Ka Lc Kc f w hop ha hf kj gKind
 by_cases gNot:op=opNot
 ·exact ptestNot_any w0 m op j La Ka Lc Kc f ih w hop ha hm hf kj hb0 gNot
 by_cases gAny:op=opAny
 ·exact ptestAny_any w0 m op j La Ka Lc Kc f ih w hop ha hm hf kj hb0 gAny
 exact ptestBad_any w0 m op j La Ka Lc Kc w gEq gNe gGt gGte gLt gLte gIn gNin gExists gSize gKind gNot gAny
theorem infoT:(Tryz.prog.info? 233).map (fun i=>(i.zero,i.size,i.bytes))=some (some (.agg #[.string ⟨#[]⟩,.int .i64 0,.int .i64 0,.string ⟨#[]⟩,.slice none 0 0,.slice none 0 0,.slice none 0 0]),7,120):=by kernel_rfl
theorem below_grown {B base:Nat} {w wr w2:World} {e:TypeId} {s n:Nat} {hv:Value} {xs:List Value} (h:Below B w wr) (hrow:wr.ownsRow base e s hv n xs) (hBb:B≤base) (hBs:B≤wr.heap.size) (hG:wr.grownBy w2 hv.ownBlock):Below B w w2 :=
 h.trans ⟨hG.os,hG.tape,hG.output,hG.size,fun k hk=>hG.block k (by omega) (fun e=>by have:=(own_lt2 hrow e.symm).1;omega)⟩
theorem elC_get {s:Nat} {xs:List Value} {i r:Nat} {u:Value} (h:(elC s xs i)[r]?=some u) (hr:r<s):xs[i*s+r]?=some u:=by
 unfold elC at h
 rw [List.getElem?_take,if_pos hr,List.getElem?_drop] at h
 exact h
theorem row_cell {w:World} {base:Nat} {e:TypeId} {s n g cap:Nat} {xs:List Value} (h:w.ownsRow base e s (.slice (some ⟨g,0,none⟩) n cap) n xs) {j:Nat} {u:Value} (hj:xs[j]?=some u):w.cell? ⟨g,j,none⟩=some u:=by
 have h1:=h.cells (g:=g) rfl j u hj
 have e1:((⟨g,0,none⟩:Addr).add j)=⟨g,j,none⟩:=by simp [Addr.add];intro h;exact h.symm
 rw [e1] at h1
 exact h1
theorem bld_row {w0:Org} {m base:Nat} {hv:Value} {ps:List (ByteArray×T)} {xs:List Value} {w wr:World} (h:Bld (TestE w0 m) 7 233 base hv ps xs wr) (hlo:w.heap.size≤base) (hn:ps.length≤1000000000):RowB wr (newB w wr) (TestB w0 wr (newB w wr) m) hv ps:=by
 obtain ⟨hx,hc⟩:=h.row
 have hrow:=h.row
 rcases hc with ⟨rfl,h0⟩ | ⟨g,cap,cur,rfl,hb0,hg,_⟩
 ·exact ⟨none,0,by rw [h0],hn,fun i hi=>by omega⟩
 ·refine ⟨some ⟨g,0,none⟩,cap,rfl,hn,fun i hi=>?_⟩
  obtain ⟨c0,c1,c2,c3,c4,c5,c6,hcs,ht⟩:=h.el i hi
  have hgl:=(Array.getElem?_eq_some_iff.1 hg).1
  have cc:∀ r u,r<7→(elC 7 xs i)[r]?=some u→wr.cell? ⟨g,0+i*7+r,none⟩=some u:=fun r u hr hu=>by
   rw [Nat.zero_add]
   exact row_cell hrow (elC_get hu hr)
  refine ⟨g,0,c0,c1,c2,c3,c4,c5,c6,rfl,⟨by omega,hgl⟩,?_,?_,?_,?_,?_,?_,?_,TestB.move (fun b hb=>⟨rfl,by have:=hb.1;omega,hb.2.1⟩) m _ _ _ _ _ _ _ _ ht⟩
  ·exact cc 0 c0 (by omega) (by rw [hcs];rfl)
  ·exact cc 1 c1 (by omega) (by rw [hcs];rfl)
  ·exact cc 2 c2 (by omega) (by rw [hcs];rfl)
  ·exact cc 3 c3 (by omega) (by rw [hcs];rfl)
  ·exact cc 4 c4 (by omega) (by rw [hcs];rfl)
  ·exact cc 5 c5 (by omega) (by rw [hcs];rfl)
  ·exact cc 6 c6 (by omega) (by rw [hcs];rfl)
theorem prs_len (j:T):(prs j).length=nK j:=by simp [prs]
theorem prs_take {j:T} {k:Nat} (h:k<nK j):(prs j).take (k+1)=(prs j).take k++[(nam j k,elt j k)]:=by
 have hl:k<(prs j).length:=by rw [prs_len];exact h
 rw [List.take_succ_eq_append_getElem hl]
 simp [prs]
theorem TestB.shape {w0:Org} {w:World} {X:Nat→Prop} {m:Nat} {c0 c1 c2 c3 c4 c5 c6:Value} {p:ByteArray×T} (h:TestB w0 w X m c0 c1 c2 c3 c4 c5 c6 p):∃ s0 n1 n2 s3 A4 l4 k4 A5 l5 k5 A6 l6 k6,c0=.string s0∧c1=.int .i64 n1∧c2=.int .i64 n2∧c3=.string s3∧c4=.slice A4 l4 k4∧c5=.slice A5 l5 k5∧c6=.slice A6 l6 k6:=by
 cases m with
 | zero=>exact h.elim
 | succ m =>
  obtain ⟨h0,_,⟨_,h1,h2,h3,h4,h5,A,c,h6,_⟩ | ⟨_,h6,g,A,B,C,D,_,h1,h2,h3,h4,h5,_⟩⟩:=h
  ·exact ⟨_,_,_,_,_,_,_,_,_,_,_,_,_,h0,h1,h2,h3,h4,h5,h6⟩
  ·exact ⟨_,_,_,_,_,_,_,_,_,_,_,_,_,h0,h1,h2,h3,h4,h5,h6⟩
set_option maxHeartbeats 4000000 in
set_option maxRecDepth 100000 in
theorem pts_step (w0:Org) (f:Nat) (ih:PtSaid w0 f):PtSaid w0 (f+1):=by
 intro m v j w hm ha hf kj hb0
 obtain ⟨m,rfl⟩:∃ x,m=x+1:=⟨m - 1,by omega⟩
 obtain ⟨iT,hiT,zT0,zT1,zT2⟩:=info_parts infoT
 obtain ⟨g1,La,Ka,Lc,Kc,hg1,rfl,hfj,hel,hnm⟩:=ha.open
 obtain rfl:g1=f:=by omega
 have HB1:Hid (Below w.heap.size w (w.alloc (.cells #[.int .i64 (kindOf j),.int .i64 (nOf j),.string (sOf j),.slice La (nL j) Lc,.slice Ka (nK j) Kc] 36))):=(Below.refl _ _).alloc (Nat.le_refl _) _
 have HB01:=hid (hb0.trans (HB1.out.mono hb0.size))
 have HKj:=hid kj
 have HIh:=hid ih
 have Hel:=hid hel.out
 have Hnm:=hid hnm.out
 have hnk:=kj.small.1
 have hnl:=kj.small.2
 clear ha kj ih hel hnm hg1 hfj
 by_cases hk:kindOf j=6∧0<nK j
 ·obtain ⟨k6,h0⟩:=hk
  have e6:(kindOf j==6)=true:=by simpa using k6
  have h0i:(0:Int)<(nK j:Int):=by omega
  have HKL:=hid (HKj.out.names k6)
  have HOK:Hid (okTs (m+1) j=allN (fun i=>okT1 (okTs m) (nam j i) (elt j i)) (nK j)):=by show _=_;rw [okTs,e6,decide_eq_true h0];rfl
  clear k6
  go_enter Tryz.func160,Tryz.ntmps160
  go_wp2_with fail
  refine (need_any true _).mono ?_
  rintro e w2 ⟨rfl,he⟩
  simp only [if_true] at he
  subst he
  go_wp2_with fail
  go_loopg [3,19] (nK j) (fun g o i wr=>∃ (k:Nat) (xs:List Value),g=nK j - k∧k≤nK j∧i=.int .i64 k∧Hid (Below (w.heap.size+1) (w.alloc (.cells #[.int .i64 (kindOf j),.int .i64 (nOf j),.string (sOf j),.slice La (nL j) Lc,.slice Ka (nK j) Kc] 36)) wr)∧Hid (Bld (TestE w0 (m+1)) 7 233 (w.heap.size+1) o ((prs j).take k) xs wr)∧Hid (allN (fun i=>okT1 (okTs m) (nam j i) (elt j i)) k=true))
  case atStart=>exact ⟨0,[],rfl,Nat.zero_le _,rfl,Below.refl _ _,Bld.nil _ _ _ _ _,rfl⟩
  case round =>
   obtain ⟨k,xs,rfl,hk,rfl,HB,HL,HN⟩:=hrel
   obtain ⟨q0,q1,q2,q3,q4,hz,hbw⟩:=box_facts HB.out
   have Hbr:=hid (hb0.trans (hbw.mono hb0.size))
   have Hbw:=hid hbw
   clear hbw
   by_cases hlt:k<nK j
   ·have hltL:k<nL j:=by have:=HKL.out;omega
    obtain ⟨kb,ko,rfl,hkb,hks,hkc⟩:=Hnm.out.keep Hbr.out k hlt
    obtain ⟨bb,oo,A,B,C,D,rfl,hbl,p0,p1,p2,p3,p4,Ha⟩:=Hel.out.shape Hbr.out k hltL
    have HC:=hid (ptest_any w0 g1 m (nam j k) (elt j k) _ HIh.out wr hks Ha.out (by omega) (by omega) (HKj.out.elt hltL) Hbr.out)
    have HA:Hid (allN (fun i=>okT1 (okTs m) (nam j i) (elt j i)) (k+1)=okT1 (okTs m) (nam j k) (elt j k)):=by show _=_;rw [allN,HN.out];simp
    have HA2:Hid (okT1 (okTs m) (nam j k) (elt j k)=false→okTs (m+1) j=false):=fun h=>by rw [HOK.out];exact allN_no (p:=fun i=>okT1 (okTs m) (nam j i) (elt j i)) h _ hlt
    have HTk:=hid (prs_take hlt)
    have hxl:((prs j).take k).length=k:=by rw [List.length_take,prs_len];omega
    go_wp2_with fail
    refine HC.out.mono ?_
    rintro e w3 ⟨b3,⟨hok,c0,c1,c2,c3,c4,c5,c6,rfl,ht⟩ | ⟨hok,rfl⟩⟩
    ·obtain ⟨s0,n1,n2,s3,A4,l4,k4,A5,l5,k5,A6,l6,k6,rfl,rfl,rfl,rfl,rfl,rfl,rfl⟩:=ht.shape
     have HA3:=hid (HA.out.trans hok)
     have HTt:=hid ht
     have HB4:Hid (Below w3.heap.size w3 (w3.alloc (.cells #[.string s0,.int .i64 n1,.int .i64 n2,.string s3,.slice A4 l4 k4,.slice A5 l5 k5,.slice A6 l6 k6] 233))):=(Below.refl _ _).alloc (Nat.le_refl _) _
     have HL4:=hid ((HL.out.keep (testE_moves w0 (m+1)) b3).keep (testE_moves w0 (m+1)) HB4.out)
     have HSrc:Hid (Src Tryz.prog 7 210 (.slice (some ⟨w3.heap.size,0,none⟩) 1 1) 1 [.string s0,.int .i64 n1,.int .i64 n2,.string s3,.slice A4 l4 k4,.slice A5 l5 k5,.slice A6 l6 k6] (w3.alloc (.cells #[.string s0,.int .i64 n1,.int .i64 n2,.string s3,.slice A4 l4 k4,.slice A5 l5 k5,.slice A6 l6 k6] 233))):=Src.ofSlice _ Tryz.underlying210 ⟨w3.heap.size,0,none⟩ 1 1 [.string s0,.int .i64 n1,.int .i64 n2,.string s3,.slice A4 l4 k4,.slice A5 l5 k5,.slice A6 l6 k6] (by simp) (World.news_of_block (heap_alloc_new w3 _)) (by simp [Value.oneCell'])
     have Hb3:=hid b3
     have hlo:w.heap.size+1≤(w3.alloc (.cells #[.string s0,.int .i64 n1,.int .i64 n2,.string s3,.slice A4 l4 k4,.slice A5 l5 k5,.slice A6 l6 k6] 233)).heap.size:=by have:=b3.size;simp;omega
     clear b3 hok ht HC HA HA2
     go_wp2_with (at_builtin;refine wpList_append_src _ rfl (.tmp 24) (.tmp 32) 210 210 rfl (w.heap.size+1) 233 iT _ 7 120 Tryz.underlying210 hiT zT0 zT1 zT2 rfl u3 ((prs j).take k).length xs rfl HL4.out.row (.slice (some ⟨w3.heap.size,0,none⟩) 1 1) 1 [.string s0,.int .i64 n1,.int .i64 n2,.string s3,.slice A4 l4 k4,.slice A5 l5 k5,.slice A6 l6 k6] rfl HSrc.out (by unfold maxLen;omega) (by omega) hlo ?_;intro v' w6 hO6 hG6 hat6)
     have HL6:=hid (HL.out.grow (x:=(nam j k,elt j k)) (cs:=[.string s0,.int .i64 n1,.int .i64 n2,.string s3,.slice A4 l4 k4,.slice A5 l5 k5,.slice A6 l6 k6]) (testE_moves w0 (m+1)) (Hb3.out.trans (HB4.out.mono Hb3.out.size)) rfl (testE_moves w0 (m+1) _ _ _ _ _ _ ⟨_,_,_,_,_,_,_,rfl,HTt.out⟩ (fun b hb=>⟨HB4.out.block b hb.2,hb⟩)) (fun b hb=>⟨hb.1,Nat.lt_of_lt_of_le hb.2 HB4.out.size⟩) (by omega) hO6 hG6 hat6)
     have HB6:=hid (below_grown ((HB.out.trans (Hb3.out.mono (by omega))).trans (HB4.out.mono (by have:=Hb3.out.size;omega))) HL4.out.row (Nat.le_refl _) (by omega) hG6)
     rw [← HTk.out] at HL6
     clear hO6 hG6 hat6
     go_wp2_with fail
     go_roundg (nK j - (k+1))
     case rel=>exact ⟨k+1,_,rfl,by omega,by go_num,HB6,HL6,HA3⟩
     case measure=>omega
    ·have HA4:=hid (HA2.out hok)
     exact ⟨rfl,Hbw.out.trans (b3.mono Hbw.out.size),.inr ⟨HA4.out,rfl⟩⟩
   ·obtain rfl:k=nK j:=by omega
    have HPl:Hid ((prs j).take (nK j)=prs j):=by show _=_;rw [List.take_of_length_le (by rw [prs_len];omega)]
    rw [HPl.out] at HL
    have HRow:=hid (bld_row (w:=w) HL.out (by omega) (by rw [prs_len];omega))
    have HOK2:=hid (HOK.out.trans HN.out)
    go_wp2_with fail
    go_ret
    exact ⟨Hbw.out,.inl ⟨HOK2.out,_,rfl,HRow.out⟩⟩
 ·have HOK:Hid (okTs (m+1) j=false):=by
   show _=_
   rw [okTs]
   by_cases k6:kindOf j=6
   ·rw [decide_eq_false (fun h=>hk ⟨k6,h⟩)];simp
   ·rw [beq_eq_false_iff_ne.2 k6];rfl
  by_cases k6:kindOf j=6
  ·have e6:(kindOf j==6)=true:=by simpa using k6
   have h0:¬ (0:Int)<(nK j:Int):=fun h=>hk ⟨k6,by omega⟩
   have hd0:decide (0<nK j)=false:=decide_eq_false (fun h=>hk ⟨k6,h⟩)
   clear hk k6 h0
   go_enter Tryz.func160,Tryz.ntmps160
   go_wp2_with fail
   refine (need_any false _).mono ?_
   rintro e w2 ⟨rfl,he⟩
   simp only [Bool.false_eq_true,if_false] at he
   subst he
   exact ⟨rfl,HB1.out,.inr ⟨HOK.out,rfl⟩⟩
  ·have e6:(kindOf j==6)=false:=by simpa using k6
   clear hk k6
   go_enter Tryz.func160,Tryz.ntmps160
   go_wp2_with fail
   refine (need_any false _).mono ?_
   rintro e w2 ⟨rfl,he⟩
   simp only [Bool.false_eq_true,if_false] at he
   subst he
   exact ⟨rfl,HB1.out,.inr ⟨HOK.out,rfl⟩⟩
theorem pts_any (w0:Org):∀ f,PtSaid w0 f
 | 0=>fun _ _ _ _ _ h=>h.elim
 | f+1=>pts_step w0 f (pts_any w0 f)
end Go.Proofs.YtknakfpciccoaabGreatDoor
/- The walk of a list of expressions. -/
namespace Go.Proofs.YtknakfpciccoaabGreatDoor
open Go.RowKit
structure VR (w0:World) (lo:Nat) (w:World) (v:Value) (l:List T) (xs:List Value):Prop where
 row:w.ownsRow lo 36 5 v l.length xs
 at_:∀ i,(h:i<l.length)→At w0 13 (fv xs i) l[i]
 ok:∀ i,(h:i<l.length)→okA l[i]
theorem VR.nil (w0:World) (lo:Nat) (w:World):VR w0 lo w (.slice none 0 0) [] []:=⟨World.ownsRow_nil _ _ _ _,fun i h=>absurd h (Nat.not_lt_zero i),fun i h=>absurd h (Nat.not_lt_zero i)⟩
theorem VR.keep {w0:World} {lo:Nat} {w w':World} {v:Value} {l:List T} {xs:List Value} (h:VR w0 lo w v l xs) (hb:Below w.heap.size w w'):VR w0 lo w' v l xs:=⟨rowH_move h.row fun b _ h2=>hb.block b h2,h.at_,h.ok⟩
theorem fv_last {xs:List Value} {n:Nat} (hx:xs.length=n*5) (c0 c1 c2 c3 c4:Value):fv (xs++[c0,c1,c2,c3,c4]) n=.agg #[c0,c1,c2,c3,c4]:=by
 unfold fv
 rw [← hx,show xs.length=xs.length+0 from rfl,cx_right,Nat.add_assoc,cx_right,Nat.add_assoc,cx_right,Nat.add_assoc,cx_right,Nat.add_assoc,cx_right]
 rfl
theorem fv_first {xs ys:List Value} {i n:Nat} (hx:xs.length=n*5) (hi:i<n):fv (xs++ys) i=fv xs i:=by
 unfold fv
 rw [cx_left (by omega),cx_left (by omega),cx_left (by omega),cx_left (by omega),cx_left (by omega)]
theorem VR.grow {w0:World} {lo:Nat} {w w6:World} {v v':Value} {l:List T} {xs:List Value} (h:VR w0 lo w v l xs) {t:T} {c0 c1 c2 c3 c4:Value} (ha:At w0 13 (.agg #[c0,c1,c2,c3,c4]) t) (hk:okA t) (hO:w6.ownsRow lo 36 5 v' (l.length+1) (xs++[c0,c1,c2,c3,c4])):VR w0 lo w6 v' (l++[t]) (xs++[c0,c1,c2,c3,c4]):=by
 have hx:xs.length=l.length*5:=h.row.1
 refine ⟨by rw [List.length_append];exact hO,fun i hi=>?_,fun i hi=>?_⟩
 ·rw [List.length_append,List.length_cons,List.length_nil] at hi
  by_cases e:i<l.length
  ·rw [fv_first hx e,List.getElem_append_left e];exact h.at_ i e
  ·obtain rfl:i=l.length:=by omega
   rw [fv_last hx,List.getElem_append_right (by omega)]
   simpa using ha
 ·rw [List.length_append,List.length_cons,List.length_nil] at hi
  by_cases e:i<l.length
  ·rw [List.getElem_append_left e];exact h.ok i e
  ·obtain rfl:i=l.length:=by omega
   rw [List.getElem_append_right (by omega)]
   simpa using hk
theorem row_base2 {w:World} {lo lo':Nat} {e:TypeId} {s n:Nat} {v:Value} {xs:List Value} (h:w.ownsRow lo e s v n xs) (hl:lo'≤lo):w.ownsRow lo' e s v n xs:=by
 refine ⟨h.1,?_⟩
 rcases h.2 with hn | ⟨g,cap,cur,rfl,hb0,rest⟩
 ·exact .inl hn
 ·exact .inr ⟨g,cap,cur,rfl,Nat.le_trans hl hb0,rest⟩
def LsP (w0:World) (gs:List (T→Int⊕T)) (doc:T) (w:World) (e:Ending) (w':World):Prop :=
 Below w.heap.size w w'∧((∃ x,evL gs doc=.inl x∧x≠0∧e=.returned (.tuple #[.slice none 0 0,.int .i64 x]))∨∃ l v xs,evL gs doc=.inr l∧l.length=gs.length∧e=.returned (.tuple #[v,.int .i64 0])∧VR w0 w.heap.size w' v l xs)
set_option maxHeartbeats 8000000 in
set_option maxRecDepth 100000 in
theorem exprs_any {Tb:World→Prop} (hL:Lies Tb) (lv:Value) (gs:List (T→Int⊕T)) (x:Value) (doc:T) (w0 w:World) (hb0:Below w0.heap.size w0 w) (hl:ListOk Tb w0 lv gs) (h:At w0 13 x doc) (hok:okA doc) (hT:Tb w) :
  Calls Tryz.prog 223 #[lv,x] w (LsP w0 gs doc w):=by
 obtain ⟨iV,hiV,zV0,zV1,zV2⟩:=info_parts infoV
 obtain ⟨g1,La,Ka,Lc,Kc,hg1,hx,_,_,_⟩:=h.open
 obtain ⟨EA,ec,rfl,hn,hes⟩:=hl
 have HEs:=hid hes
 have HB0:=hid hb0
 have HD:=hid (And.intro h hok)
 have HT:Hid (∀ w':World,Below w.heap.size w w'→Tb w'):=fun w' hb=>hL w hT w w' hT hb
 subst hx
 clear hes h hok hT hL hg1 hb0
 obtain ⟨n,hln⟩:∃ n,gs.length=n:=⟨_,rfl⟩
 have Hln:=hid hln
 rw [hln] at hn ⊢
 clear hln
 go_enter Tryz.func223,Tryz.ntmps223
 go_wp2_with fail
 go_loopg [6,13] n (fun g o i wr=>∃ (k:Nat) (l:List T) (xs:List Value),g=n - k∧k≤n∧i=.int .i64 k∧Hid (Below (w.heap.size+1) (w.alloc (.cells #[.int .i64 (kindOf doc),.int .i64 (nOf doc),.string (sOf doc),.slice La (nL doc) Lc,.slice Ka (nK doc) Kc] 36)) wr)∧Hid (VR w0 (w.heap.size+1) wr o l xs)∧Hid (l.length=k∧evL (gs.take k) doc=.inr l))
 case atStart=>exact ⟨0,[],[],rfl,Nat.zero_le _,rfl,Below.refl _ _,VR.nil _ _ _,rfl,rfl⟩
 case round =>
  obtain ⟨k,l,xs,rfl,hk,rfl,HB,HV,HE⟩:=hrel
  obtain ⟨q0,q1,q2,q3,q4,hz,hbw⟩:=box_facts HB.out
  have Hbw:=hid hbw
  have Hbw0:=hid (HB0.out.trans (hbw.mono HB0.out.size))
  clear hbw
  by_cases hlt:k<n
  ·have hkl:k<gs.length:=by rw [Hln.out];exact hlt
   obtain ⟨b,o,u,rfl,hbl,p0,hex⟩:=HEs.out k hkl
   have p0':=(Hbw0.out.cell (p:=⟨b,o+k,none⟩) hbl).trans p0
   obtain ⟨ty,p,fid,rfl,hm,hcall,hbeh⟩:=hex
   have HG:Hid (gs.take (k+1)=gs.take k++[gs[k]]):=by show _=_;rw [List.take_add_one,List.getElem?_eq_getElem hkl];rfl
   have HG2:Hid (gs=gs.take k++gs[k]::gs.drop (k+1)):=by show _=_;rw [← List.drop_eq_getElem_cons hkl,List.take_append_drop]
   generalize gs[k]=gk at hbeh HG HG2
   have hmw:=hm wr
   have HC:=hid (hbeh w0 wr _ doc (Below.refl _ _) Hbw0.out HD.out.1 HD.out.2 (HT.out _ Hbw.out))
   clear p0 hbeh hm
   go_wp2_with fail
   refine HC.out.mono ?_
   rintro e w2 ⟨b2,⟨er,hg,hne,rfl⟩ | ⟨t,A,B,C,D,hg,rfl,ha2,hk2⟩⟩
   ·have ez:(er==0)=false:=by simpa using hne
    have HF:Hid (evL gs doc=.inl er∧er≠0):=⟨by rw [HG2.out];exact evL_snoc_err _ _ _ _ HE.out.2 hg,hne⟩
    have HBf:=hid (((Hbw.out.trans (b2.mono Hbw.out.size))).alloc (Hbw.out.trans (b2.mono Hbw.out.size)).size (.cells #[.int .i64 0,.int .i64 0,.string ⟨#[]⟩,.slice none 0 0,.slice none 0 0] 36))
    clear b2 hg hne HC
    go_wp2_with fail
    refine bodyPost_ret (v:=.tuple #[.slice none 0 0,.int .i64 er]) (by simp [results,Tryz.results223,go_sem, *]) rfl ?_
    exact ⟨HBf.out,.inl ⟨er,HF.out.1,HF.out.2,rfl⟩⟩
   ·have HE2:Hid ((l++[t]).length=k+1∧evL (gs.take (k+1)) doc=.inr (l++[t])):=⟨by rw [List.length_append,HE.out.1];rfl,by rw [HG.out];exact evL_snoc _ _ _ HE.out.2 hg⟩
    have HBa:Hid (Below w2.heap.size w2 ((w2.alloc (.cells #[.int .i64 (kindOf t),.int .i64 (nOf t),.string (sOf t),.slice A (nL t) B,.slice C (nK t) D] 36)).alloc (.cells #[.int .i64 (kindOf t),.int .i64 (nOf t),.string (sOf t),.slice A (nL t) B,.slice C (nK t) D] 36))):=((Below.refl _ _).alloc (Nat.le_refl _) _).alloc (by simp) _
    have HV3:=hid ((HV.out.keep b2).keep HBa.out)
    have HB3:=hid ((HB.out.trans (b2.mono (by omega))).trans (HBa.out.mono (by have:=b2.size;omega)))
    have HSrc:Hid (Src Tryz.prog 5 34 (.slice (some ⟨w2.heap.size+1,0,none⟩) 1 1) 1 [.int .i64 (kindOf t),.int .i64 (nOf t),.string (sOf t),.slice A (nL t) B,.slice C (nK t) D] ((w2.alloc (.cells #[.int .i64 (kindOf t),.int .i64 (nOf t),.string (sOf t),.slice A (nL t) B,.slice C (nK t) D] 36)).alloc (.cells #[.int .i64 (kindOf t),.int .i64 (nOf t),.string (sOf t),.slice A (nL t) B,.slice C (nK t) D] 36))):=Src.ofSlice _ Tryz.underlying34 ⟨w2.heap.size+1,0,none⟩ 1 1 [.int .i64 (kindOf t),.int .i64 (nOf t),.string (sOf t),.slice A (nL t) B,.slice C (nK t) D] (by simp) (by have:=World.news_of_block (heap_alloc_new (w2.alloc (.cells #[.int .i64 (kindOf t),.int .i64 (nOf t),.string (sOf t),.slice A (nL t) B,.slice C (nK t) D] 36)) (.cells #[.int .i64 (kindOf t),.int .i64 (nOf t),.string (sOf t),.slice A (nL t) B,.slice C (nK t) D] 36));simpa using this) (by simp [Value.oneCell'])
    have HAk:=hid (And.intro ha2 hk2)
    have hll:=HE.out.1
    have hlo:w.heap.size+1≤((w2.alloc (.cells #[.int .i64 (kindOf t),.int .i64 (nOf t),.string (sOf t),.slice A (nL t) B,.slice C (nK t) D] 36)).alloc (.cells #[.int .i64 (kindOf t),.int .i64 (nOf t),.string (sOf t),.slice A (nL t) B,.slice C (nK t) D] 36)).heap.size:=by have:=b2.size;simp;omega
    clear b2 hg HC ha2 hk2
    go_wp2_with (at_builtin;refine wpList_append_src _ rfl (.tmp 26) (.tmp 28) 34 34 rfl (w.heap.size+1) 36 iV _ 5 80 Tryz.underlying34 hiV zV0 zV1 zV2 rfl u6 l.length xs rfl HV3.out.row (.slice (some ⟨w2.heap.size+1,0,none⟩) 1 1) 1 [.int .i64 (kindOf t),.int .i64 (nOf t),.string (sOf t),.slice A (nL t) B,.slice C (nK t) D] rfl HSrc.out (by unfold maxLen;omega) (by omega) hlo ?_;intro v' w6 hO6 hG6 hat6)
    have H6:=hid (HV3.out.grow HAk.out.1 HAk.out.2 hO6)
    have HB6:=hid (below_grown HB3.out HV3.out.row (Nat.le_refl _) hlo hG6)
    clear hO6 hG6 hat6 q0 q1 q2 q3 q4 hll
    go_wp2_with fail
    go_roundg (n - (k+1))
    case rel=>exact ⟨k+1,l++[t],_,rfl,by omega,by go_num,HB6,H6,HE2⟩
    case measure=>omega
  ·obtain rfl:k=n:=by omega
   have HF:Hid (evL gs doc=.inr l∧l.length=gs.length):=by
    have h1:=HE.out
    rw [← Hln.out,List.take_length] at h1
    exact ⟨h1.2,h1.1⟩
   have HBf:=hid Hbw.out
   go_wp2_with fail
   refine bodyPost_ret (v:=.tuple #[u6,.int .i64 0]) (by simp [results,Tryz.results223,go_sem, *]) rfl ?_
   exact ⟨HBf.out,.inr ⟨l,u6,xs,HF.out.1,HF.out.2,rfl,⟨row_base2 HV.out.row (by omega),HV.out.at_,HV.out.ok⟩⟩⟩
end Go.Proofs.YtknakfpciccoaabGreatDoor
