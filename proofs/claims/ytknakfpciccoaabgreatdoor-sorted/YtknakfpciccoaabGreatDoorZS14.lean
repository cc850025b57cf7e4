import Derived.Test.YtknakfpciccoaabGreatDoorZS13
/- The walk of parseTest. -/
namespace Go.Proofs.YtknakfpciccoaabGreatDoor
open Go.RowKit
def plainOp (op:ByteArray):Prop:=op=opEq∨op=opNe∨op=opGt∨op=opGte∨op=opLt∨op=opLte
instance (op : ByteArray) : Decidable (plainOp op) := by unfold plainOp; infer_instance
instance (op : ByteArray) : Decidable (isInn op) := by unfold isInn; infer_instance
def okT1 (g:T→Bool) (op:ByteArray) (j:T):Bool :=
 if plainOp op then true
 else if op=opIn∨op=opNin then kindOf j==5
 else if op=opExists then kindOf j==2
 else if op=opSize then (kindOf j==3&&decide (0≤nOf j))
 else if op=opKind then ((kindOf j==3&&decide (1≤nOf j))&&decide (nOf j≤6))
 else if op=opNot∨op=opAny then g j
 else false
def okTs:Nat→T→Bool
 | 0,_=>false
 | m+1,j=>(kindOf j==6&&decide (0<nK j))&&allN (fun i=>okT1 (okTs m) (nam j i) (elt j i)) (nK j)
def newB (w w':World) (b:Nat):Prop:=w.heap.size≤b∧b<w'.heap.size
def TsPost (w0:Org) (m:Nat) (j:T) (w:World) (e:Ending) (w':World):Prop :=
 Below w.heap.size w w'∧((okTs m j=true∧∃ tv,e=.returned tv∧RowB w' (newB w w') (TestB w0 w' (newB w w') m) tv (prs j))∨(okTs m j=false∧e=refused 8))
def PtSaid (w0:Org) (f:Nat):Prop:=∀ (m:Nat) (v:Value) (j:T) (w:World),f≤m→At0 w0 f v j→f≤16→okA j→Below w0.w.heap.size w0.w w→Calls Tryz.prog 160 #[v] w (TsPost w0 m j w)
def TtPost (w0:Org) (m:Nat) (op:ByteArray) (j:T) (w:World) (e:Ending) (w':World):Prop :=
 Below w.heap.size w w'∧((okT1 (okTs m) op j=true∧∃ c0 c1 c2 c3 c4 c5 c6,e=.returned (.agg #[c0,c1,c2,c3,c4,c5,c6])∧TestB w0 w' (newB w w') (m+1) c0 c1 c2 c3 c4 c5 c6 (op,j))∨(okT1 (okTs m) op j=false∧e=refused 8))
set_option maxHeartbeats 4000000 in
set_option maxRecDepth 100000 in
theorem ptestEq_any (w0:Org) (m:Nat) (op:ByteArray) (j:T) (La Ka:Option Addr) (Lc Kc:Nat) (f:Nat) (w:World) (hop:op.size≤140737488355328) (ha:At0 w0 f (.agg #[.int .i64 (kindOf j),.int .i64 (nOf j),.string (sOf j),.slice La (nL j) Lc,.slice Ka (nK j) Kc]) j) (hf:f≤16) (kj:okA j) (gEq:op=opEq) :
  Calls Tryz.prog 174 #[.string op,.agg #[.int .i64 (kindOf j),.int .i64 (nOf j),.string (sOf j),.slice La (nL j) Lc,.slice Ka (nK j) Kc]] w (TtPost w0 m op j w):=by
 have HB:Hid (Below w.heap.size w ((w.alloc (.cells #[.int .i64 (kindOf j),.int .i64 (nOf j),.string (sOf j),.slice La (nL j) Lc,.slice Ka (nK j) Kc] 36)).alloc (.cells #[.string op,.int .i64 (kindOf j),.int .i64 (nOf j),.string (sOf j),.slice La (nL j) Lc,.slice Ka (nK j) Kc,.slice none 0 0] 233))):=((Below.refl _ _).alloc (Nat.le_refl _) _).alloc (by simp) _
 have HBz:Hid (Below w.heap.size w ((w.alloc (.cells #[.int .i64 (kindOf j),.int .i64 (nOf j),.string (sOf j),.slice La (nL j) Lc,.slice Ka (nK j) Kc] 36)).alloc (.cells #[.string ⟨#[]⟩,.int .i64 0,.int .i64 0,.string ⟨#[]⟩,.slice none 0 0,.slice none 0 0,.slice none 0 0] 233))):=((Below.refl _ _).alloc (Nat.le_refl _) _).alloc (by simp) _
 have HT:Hid (TestB w0 ((w.alloc (.cells #[.int .i64 (kindOf j),.int .i64 (nOf j),.string (sOf j),.slice La (nL j) Lc,.slice Ka (nK j) Kc] 36)).alloc (.cells #[.string op,.int .i64 (kindOf j),.int .i64 (nOf j),.string (sOf j),.slice La (nL j) Lc,.slice Ka (nK j) Kc,.slice none 0 0] 233)) (newB w ((w.alloc (.cells #[.int .i64 (kindOf j),.int .i64 (nOf j),.string (sOf j),.slice La (nL j) Lc,.slice Ka (nK j) Kc] 36)).alloc (.cells #[.string op,.int .i64 (kindOf j),.int .i64 (nOf j),.string (sOf j),.slice La (nL j) Lc,.slice Ka (nK j) Kc,.slice none 0 0] 233))) (m+1) (.string op) (.int .i64 (kindOf j)) (.int .i64 (nOf j)) (.string (sOf j)) (.slice La (nL j) Lc) (.slice Ka (nK j) Kc) (.slice none 0 0) (op,j)):=⟨rfl,hop,.inr ⟨by rw [show ((op,j):ByteArray×T).1=op from rfl,gEq];decide,rfl,f,La,Lc,Ka,Kc,hf,rfl,rfl,rfl,rfl,rfl,ha,kj⟩⟩
 have HR:Hid (okT1 (okTs m) op j=true):=by show _=_;unfold okT1;rw [if_pos (.inl gEq)]
 have eEq:(op.toList==[36,101,113])=true:=lit_is gEq
 clear gEq
 clear ha kj HBz
 go_enter Tryz.func174,Tryz.ntmps174
 go_wp2_with fail
 refine bodyPost_ret (v:=.agg #[.string op,.int .i64 (kindOf j),.int .i64 (nOf j),.string (sOf j),.slice La (nL j) Lc,.slice Ka (nK j) Kc,.slice none 0 0]) (by simp [results,Tryz.results174,go_sem]) rfl ?_
 exact ⟨HB.out,.inl ⟨HR.out,_,_,_,_,_,_,_,rfl,HT.out⟩⟩
set_option maxHeartbeats 4000000 in
set_option maxRecDepth 100000 in
theorem ptestNe_any (w0:Org) (m:Nat) (op:ByteArray) (j:T) (La Ka:Option Addr) (Lc Kc:Nat) (f:Nat) (w:World) (hop:op.size≤140737488355328) (ha:At0 w0 f (.agg #[.int .i64 (kindOf j),.int .i64 (nOf j),.string (sOf j),.slice La (nL j) Lc,.slice Ka (nK j) Kc]) j) (hf:f≤16) (kj:okA j) (gNe:op=opNe) :
  Calls Tryz.prog 174 #[.string op,.agg #[.int .i64 (kindOf j),.int .i64 (nOf j),.string (sOf j),.slice La (nL j) Lc,.slice Ka (nK j) Kc]] w (TtPost w0 m op j w):=by
 have HB:Hid (Below w.heap.size w ((w.alloc (.cells #[.int .i64 (kindOf j),.int .i64 (nOf j),.string (sOf j),.slice La (nL j) Lc,.slice Ka (nK j) Kc] 36)).alloc (.cells #[.string op,.int .i64 (kindOf j),.int .i64 (nOf j),.string (sOf j),.slice La (nL j) Lc,.slice Ka (nK j) Kc,.slice none 0 0] 233))):=((Below.refl _ _).alloc (Nat.le_refl _) _).alloc (by simp) _
 have HBz:Hid (Below w.heap.size w ((w.alloc (.cells #[.int .i64 (kindOf j),.int .i64 (nOf j),.string (sOf j),.slice La (nL j) Lc,.slice Ka (nK j) Kc] 36)).alloc (.cells #[.string ⟨#[]⟩,.int .i64 0,.int .i64 0,.string ⟨#[]⟩,.slice none 0 0,.slice none 0 0,.slice none 0 0] 233))):=((Below.refl _ _).alloc (Nat.le_refl _) _).alloc (by simp) _
 have HT:Hid (TestB w0 ((w.alloc (.cells #[.int .i64 (kindOf j),.int .i64 (nOf j),.string (sOf j),.slice La (nL j) Lc,.slice Ka (nK j) Kc] 36)).alloc (.cells #[.string op,.int .i64 (kindOf j),.int .i64 (nOf j),.string (sOf j),.slice La (nL j) Lc,.slice Ka (nK j) Kc,.slice none 0 0] 233)) (newB w ((w.alloc (.cells #[.int .i64 (kindOf j),.int .i64 (nOf j),.string (sOf j),.slice La (nL j) Lc,.slice Ka (nK j) Kc] 36)).alloc (.cells #[.string op,.int .i64 (kindOf j),.int .i64 (nOf j),.string (sOf j),.slice La (nL j) Lc,.slice Ka (nK j) Kc,.slice none 0 0] 233))) (m+1) (.string op) (.int .i64 (kindOf j)) (.int .i64 (nOf j)) (.string (sOf j)) (.slice La (nL j) Lc) (.slice Ka (nK j) Kc) (.slice none 0 0) (op,j)):=⟨rfl,hop,.inr ⟨by rw [show ((op,j):ByteArray×T).1=op from rfl,gNe];decide,rfl,f,La,Lc,Ka,Kc,hf,rfl,rfl,rfl,rfl,rfl,ha,kj⟩⟩
 have HR:Hid (okT1 (okTs m) op j=true):=by show _=_;unfold okT1;rw [if_pos (.inr (.inl gNe))]
 have gEq:¬ op=opEq:=by rw [gNe];decide
 have eEq:(op.toList==[36,101,113])=false:=lit_no gEq
 have eNe:(op.toList==[36,110,101])=true:=lit_is gNe
 clear gEq gNe
 clear ha kj HBz
 go_enter Tryz.func174,Tryz.ntmps174
 go_wp2_with fail
 refine bodyPost_ret (v:=.agg #[.string op,.int .i64 (kindOf j),.int .i64 (nOf j),.string (sOf j),.slice La (nL j) Lc,.slice Ka (nK j) Kc,.slice none 0 0]) (by simp [results,Tryz.results174,go_sem]) rfl ?_
 exact ⟨HB.out,.inl ⟨HR.out,_,_,_,_,_,_,_,rfl,HT.out⟩⟩
set_option maxHeartbeats 4000000 in
set_option maxRecDepth 100000 in
theorem ptestGt_any (w0:Org) (m:Nat) (op:ByteArray) (j:T) (La Ka:Option Addr) (Lc Kc:Nat) (f:Nat) (w:World) (hop:op.size≤140737488355328) (ha:At0 w0 f (.agg #[.int .i64 (kindOf j),.int .i64 (nOf j),.string (sOf j),.slice La (nL j) Lc,.slice Ka (nK j) Kc]) j) (hf:f≤16) (kj:okA j) (gGt:op=opGt) :
  Calls Tryz.prog 174 #[.string op,.agg #[.int .i64 (kindOf j),.int .i64 (nOf j),.string (sOf j),.slice La (nL j) Lc,.slice Ka (nK j) Kc]] w (TtPost w0 m op j w):=by
 have HB:Hid (Below w.heap.size w ((w.alloc (.cells #[.int .i64 (kindOf j),.int .i64 (nOf j),.string (sOf j),.slice La (nL j) Lc,.slice Ka (nK j) Kc] 36)).alloc (.cells #[.string op,.int .i64 (kindOf j),.int .i64 (nOf j),.string (sOf j),.slice La (nL j) Lc,.slice Ka (nK j) Kc,.slice none 0 0] 233))):=((Below.refl _ _).alloc (Nat.le_refl _) _).alloc (by simp) _
 have HBz:Hid (Below w.heap.size w ((w.alloc (.cells #[.int .i64 (kindOf j),.int .i64 (nOf j),.string (sOf j),.slice La (nL j) Lc,.slice Ka (nK j) Kc] 36)).alloc (.cells #[.string ⟨#[]⟩,.int .i64 0,.int .i64 0,.string ⟨#[]⟩,.slice none 0 0,.slice none 0 0,.slice none 0 0] 233))):=((Below.refl _ _).alloc (Nat.le_refl _) _).alloc (by simp) _
 have HT:Hid (TestB w0 ((w.alloc (.cells #[.int .i64 (kindOf j),.int .i64 (nOf j),.string (sOf j),.slice La (nL j) Lc,.slice Ka (nK j) Kc] 36)).alloc (.cells #[.string op,.int .i64 (kindOf j),.int .i64 (nOf j),.string (sOf j),.slice La (nL j) Lc,.slice Ka (nK j) Kc,.slice none 0 0] 233)) (newB w ((w.alloc (.cells #[.int .i64 (kindOf j),.int .i64 (nOf j),.string (sOf j),.slice La (nL j) Lc,.slice Ka (nK j) Kc] 36)).alloc (.cells #[.string op,.int .i64 (kindOf j),.int .i64 (nOf j),.string (sOf j),.slice La (nL j) Lc,.slice Ka (nK j) Kc,.slice none 0 0] 233))) (m+1) (.string op) (.int .i64 (kindOf j)) (.int .i64 (nOf j)) (.string (sOf j)) (.slice La (nL j) Lc) (.slice Ka (nK j) Kc) (.slice none 0 0) (op,j)):=⟨rfl,hop,.inr ⟨by rw [show ((op,j):ByteArray×T).1=op from rfl,gGt];decide,rfl,f,La,Lc,Ka,Kc,hf,rfl,rfl,rfl,rfl,rfl,ha,kj⟩⟩
 have HR:Hid (okT1 (okTs m) op j=true):=by show _=_;unfold okT1;rw [if_pos (.inr (.inr (.inl gGt)))]
 have gEq:¬ op=opEq:=by rw [gGt];decide
 have eEq:(op.toList==[36,101,113])=false:=lit_no gEq
 have gNe:¬ op=opNe:=by rw [gGt];decide
 have eNe:(op.toList==[36,110,101])=false:=lit_no gNe
 have eGt:(op.toList==[36,103,116])=true:=lit_is gGt
 clear gEq gNe gGt
 clear ha kj HBz
 go_enter Tryz.func174,Tryz.ntmps174
 go_wp2_with fail
 refine bodyPost_ret (v:=.agg #[.string op,.int .i64 (kindOf j),.int .i64 (nOf j),.string (sOf j),.slice La (nL j) Lc,.slice Ka (nK j) Kc,.slice none 0 0]) (by simp [results,Tryz.results174,go_sem]) rfl ?_
 exact ⟨HB.out,.inl ⟨HR.out,_,_,_,_,_,_,_,rfl,HT.out⟩⟩
set_option maxHeartbeats 4000000 in
set_option maxRecDepth 100000 in
theorem ptestGte_any (w0:Org) (m:Nat) (op:ByteArray) (j:T) (La Ka:Option Addr) (Lc Kc:Nat) (f:Nat) (w:World) (hop:op.size≤140737488355328) (ha:At0 w0 f (.agg #[.int .i64 (kindOf j),.int .i64 (nOf j),.string (sOf j),.slice La (nL j) Lc,.slice Ka (nK j) Kc]) j) (hf:f≤16) (kj:okA j) (gGte:op=opGte) :
  Calls Tryz.prog 174 #[.string op,.agg #[.int .i64 (kindOf j),.int .i64 (nOf j),.string (sOf j),.slice La (nL j) Lc,.slice Ka (nK j) Kc]] w (TtPost w0 m op j w):=by
 have HB:Hid (Below w.heap.size w ((w.alloc (.cells #[.int .i64 (kindOf j),.int .i64 (nOf j),.string (sOf j),.slice La (nL j) Lc,.slice Ka (nK j) Kc] 36)).alloc (.cells #[.string op,.int .i64 (kindOf j),.int .i64 (nOf j),.string (sOf j),.slice La (nL j) Lc,.slice Ka (nK j) Kc,.slice none 0 0] 233))):=((Below.refl _ _).alloc (Nat.le_refl _) _).alloc (by simp) _
 have HBz:Hid (Below w.heap.size w ((w.alloc (.cells #[.int .i64 (kindOf j),.int .i64 (nOf j),.string (sOf j),.slice La (nL j) Lc,.slice Ka (nK j) Kc] 36)).alloc (.cells #[.string ⟨#[]⟩,.int .i64 0,.int .i64 0,.string ⟨#[]⟩,.slice none 0 0,.slice none 0 0,.slice none 0 0] 233))):=((Below.refl _ _).alloc (Nat.le_refl _) _).alloc (by simp) _
 have HT:Hid (TestB w0 ((w.alloc (.cells #[.int .i64 (kindOf j),.int .i64 (nOf j),.string (sOf j),.slice La (nL j) Lc,.slice Ka (nK j) Kc] 36)).alloc (.cells #[.string op,.int .i64 (kindOf j),.int .i64 (nOf j),.string (sOf j),.slice La (nL j) Lc,.slice Ka (nK j) Kc,.slice none 0 0] 233)) (newB w ((w.alloc (.cells #[.int .i64 (kindOf j),.int .i64 (nOf j),.string (sOf j),.slice La (nL j) Lc,.slice Ka (nK j) Kc] 36)).alloc (.cells #[.string op,.int .i64 (kindOf j),.int .i64 (nOf j),.string (sOf j),.slice La (nL j) Lc,.slice Ka (nK j) Kc,.slice none 0 0] 233))) (m+1) (.string op) (.int .i64 (kindOf j)) (.int .i64 (nOf j)) (.string (sOf j)) (.slice La (nL j) Lc) (.slice Ka (nK j) Kc) (.slice none 0 0) (op,j)):=⟨rfl,hop,.inr ⟨by rw [show ((op,j):ByteArray×T).1=op from rfl,gGte];decide,rfl,f,La,Lc,Ka,Kc,hf,rfl,rfl,rfl,rfl,rfl,ha,kj⟩⟩
 have HR:Hid (okT1 (okTs m) op j=true):=by show _=_;unfold okT1;rw [if_pos (.inr (.inr (.inr (.inl gGte))))]
 have gEq:¬ op=opEq:=by rw [gGte];decide
 have eEq:(op.toList==[36,101,113])=false:=lit_no gEq
 have gNe:¬ op=opNe:=by rw [gGte];decide
 have eNe:(op.toList==[36,110,101])=false:=lit_no gNe
 have gGt:¬ op=opGt:=by rw [gGte];decide
 have eGt:(op.toList==[36,103,116])=false:=lit_no gGt
 have eGte:(op.toList==[36,103,116,101])=true:=lit_is gGte
 clear gEq gNe gGt gGte
 clear ha kj HBz
 go_enter Tryz.func174,Tryz.ntmps174
 go_wp2_with fail
 refine bodyPost_ret (v:=.agg #[.string op,.int .i64 (kindOf j),.int .i64 (nOf j),.string (sOf j),.slice La (nL j) Lc,.slice Ka (nK j) Kc,.slice none 0 0]) (by simp [results,Tryz.results174,go_sem]) rfl ?_
 exact ⟨HB.out,.inl ⟨HR.out,_,_,_,_,_,_,_,rfl,HT.out⟩⟩
set_option maxHeartbeats 4000000 in
set_option maxRecDepth 100000 in
theorem ptestLt_any (w0:Org) (m:Nat) (op:ByteArray) (j:T) (La Ka:Option Addr) (Lc Kc:Nat) (f:Nat) (w:World) (hop:op.size≤140737488355328) (ha:At0 w0 f (.agg #[.int .i64 (kindOf j),.int .i64 (nOf j),.string (sOf j),.slice La (nL j) Lc,.slice Ka (nK j) Kc]) j) (hf:f≤16) (kj:okA j) (gLt:op=opLt) :
  Calls Tryz.prog 174 #[.string op,.agg #[.int .i64 (kindOf j),.int .i64 (nOf j),.string (sOf j),.slice La (nL j) Lc,.slice Ka (nK j) Kc]] w (TtPost w0 m op j w):=by
 have HB:Hid (Below w.heap.size w ((w.alloc (.cells #[.int .i64 (kindOf j),.int .i64 (nOf j),.string (sOf j),.slice La (nL j) Lc,.slice Ka (nK j) Kc] 36)).alloc (.cells #[.string op,.int .i64 (kindOf j),.int .i64 (nOf j),.string (sOf j),.slice La (nL j) Lc,.slice Ka (nK j) Kc,.slice none 0 0] 233))):=((Below.refl _ _).alloc (Nat.le_refl _) _).alloc (by simp) _
 have HBz:Hid (Below w.heap.size w ((w.alloc (.cells #[.int .i64 (kindOf j),.int .i64 (nOf j),.string (sOf j),.slice La (nL j) Lc,.slice Ka (nK j) Kc] 36)).alloc (.cells #[.string ⟨#[]⟩,.int .i64 0,.int .i64 0,.string ⟨#[]⟩,.slice none 0 0,.slice none 0 0,.slice none 0 0] 233))):=((Below.refl _ _).alloc (Nat.le_refl _) _).alloc (by simp) _
 have HT:Hid (TestB w0 ((w.alloc (.cells #[.int .i64 (kindOf j),.int .i64 (nOf j),.string (sOf j),.slice La (nL j) Lc,.slice Ka (nK j) Kc] 36)).alloc (.cells #[.string op,.int .i64 (kindOf j),.int .i64 (nOf j),.string (sOf j),.slice La (nL j) Lc,.slice Ka (nK j) Kc,.slice none 0 0] 233)) (newB w ((w.alloc (.cells #[.int .i64 (kindOf j),.int .i64 (nOf j),.string (sOf j),.slice La (nL j) Lc,.slice Ka (nK j) Kc] 36)).alloc (.cells #[.string op,.int .i64 (kindOf j),.int .i64 (nOf j),.string (sOf j),.slice La (nL j) Lc,.slice Ka (nK j) Kc,.slice none 0 0] 233))) (m+1) (.string op) (.int .i64 (kindOf j)) (.int .i64 (nOf j)) (.string (sOf j)) (.slice La (nL j) Lc) (.slice Ka (nK j) Kc) (.slice none 0 0) (op,j)):=⟨rfl,hop,.inr ⟨by rw [show ((op,j):ByteArray×T).1=op from rfl,gLt];decide,rfl,f,La,Lc,Ka,Kc,hf,rfl,rfl,rfl,rfl,rfl,ha,kj⟩⟩
 have HR:Hid (okT1 (okTs m) op j=true):=by show _=_;unfold okT1;rw [if_pos (.inr (.inr (.inr (.inr (.inl gLt)))))]
 have gEq:¬ op=opEq:=by rw [gLt];decide
 have eEq:(op.toList==[36,101,113])=false:=lit_no gEq
 have gNe:¬ op=opNe:=by rw [gLt];decide
 have eNe:(op.toList==[36,110,101])=false:=lit_no gNe
 have gGt:¬ op=opGt:=by rw [gLt];decide
 have eGt:(op.toList==[36,103,116])=false:=lit_no gGt
 have gGte:¬ op=opGte:=by rw [gLt];decide
 have eGte:(op.toList==[36,103,116,101])=false:=lit_no gGte
 have eLt:(op.toList==[36,108,116])=true:=lit_is gLt
 clear gEq gNe gGt gGte gLt
 clear ha kj HBz
 go_enter Tryz.func174,Tryz.ntmps174
 go_wp2_with fail
 refine bodyPost_ret (v:=.agg #[.string op,.int .i64 (kindOf j),.int .i64 (nOf j),.string (sOf j),.slice La (nL j) Lc,.slice Ka (nK j) Kc,.slice none 0 0]) (by simp [results,Tryz.results174,go_sem]) rfl ?_
 exact ⟨HB.out,.inl ⟨HR.out,_,_,_,_,_,_,_,rfl,HT.out⟩⟩
set_option maxHeartbeats 4000000 in
set_option maxRecDepth 100000 in
theorem ptestLte_any (w0:Org) (m:Nat) (op:ByteArray) (j:T) (La Ka:Option Addr) (Lc Kc:Nat) (f:Nat) (w:World) (hop:op.size≤140737488355328) (ha:At0 w0 f (.agg #[.int .i64 (kindOf j),.int .i64 (nOf j),.string (sOf j),.slice La (nL j) Lc,.slice Ka (nK j) Kc]) j) (hf:f≤16) (kj:okA j) (gLte:op=opLte) :
  Calls Tryz.prog 174 #[.string op,.agg #[.int .i64 (kindOf j),.int .i64 (nOf j),.string (sOf j),.slice La (nL j) Lc,.slice Ka (nK j) Kc]] w (TtPost w0 m op j w):=by
 have HB:Hid (Below w.heap.size w ((w.alloc (.cells #[.int .i64 (kindOf j),.int .i64 (nOf j),.string (sOf j),.slice La (nL j) Lc,.slice Ka (nK j) Kc] 36)).alloc (.cells #[.string op,.int .i64 (kindOf j),.int .i64 (nOf j),.string (sOf j),.slice La (nL j) Lc,.slice Ka (nK j) Kc,.slice none 0 0] 233))):=((Below.refl _ _).alloc (Nat.le_refl _) _).alloc (by simp) _
 have HBz:Hid (Below w.heap.size w ((w.alloc (.cells #[.int .i64 (kindOf j),.int .i64 (nOf j),.string (sOf j),.slice La (nL j) Lc,.slice Ka (nK j) Kc] 36)).alloc (.cells #[.string ⟨#[]⟩,.int .i64 0,.int .i64 0,.string ⟨#[]⟩,.slice none 0 0,.slice none 0 0,.slice none 0 0] 233))):=((Below.refl _ _).alloc (Nat.le_refl _) _).alloc (by simp) _
 have HT:Hid (TestB w0 ((w.alloc (.cells #[.int .i64 (kindOf j),.int .i64 (nOf j),.string (sOf j),.slice La (nL j) Lc,.slice Ka (nK j) Kc] 36)).alloc (.cells #[.string op,.int .i64 (kindOf j),.int .i64 (nOf j),.string (sOf j),.slice La (nL j) Lc,.slice Ka (nK j) Kc,.slice none 0 0] 233)) (newB w ((w.alloc (.cells #[.int .i64 (kindOf j),.int .i64 (nOf j),.string (sOf j),.slice La (nL j) Lc,.slice Ka (nK j) Kc] 36)).alloc (.cells #[.string op,.int .i64 (kindOf j),.int .i64 (nOf j),.string (sOf j),.slice La (nL j) Lc,.slice Ka (nK j) Kc,.slice none 0 0] 233))) (m+1) (.string op) (.int .i64 (kindOf j)) (.int .i64 (nOf j)) (.string (sOf j)) (.slice La (nL j) Lc) (.slice Ka (nK j) Kc) (.slice none 0 0) (op,j)):=⟨rfl,hop,.inr ⟨by rw [show ((op,j):ByteArray×T).1=op from rfl,gLte];decide,rfl,f,La,Lc,Ka,Kc,hf,rfl,rfl,rfl,rfl,rfl,ha,kj⟩⟩
 have HR:Hid (okT1 (okTs m) op j=true):=by show _=_;unfold okT1;rw [if_pos (.inr (.inr (.inr (.inr (.inr (gLte))))))]
 have gEq:¬ op=opEq:=by rw [gLte];decide
 have eEq:(op.toList==[36,101,113])=false:=lit_no gEq
 have gNe:¬ op=opNe:=by rw [gLte];decide
 have eNe:(op.toList==[36,110,101])=false:=lit_no gNe
 have gGt:¬ op=opGt:=by rw [gLte];decide
 have eGt:(op.toList==[36,103,116])=false:=lit_no gGt
 have gGte:¬ op=opGte:=by rw [gLte];decide
 have eGte:(op.toList==[36,103,116,101])=false:=lit_no gGte
 have gLt:¬ op=opLt:=by rw [gLte];decide
 have eLt:(op.toList==[36,108,116])=false:=lit_no gLt
 have eLte:(op.toList==[36,108,116,101])=true:=lit_is gLte
 clear gEq gNe gGt gGte gLt gLte
 clear ha kj HBz
 go_enter Tryz.func174,Tryz.ntmps174
 go_wp2_with fail
 refine bodyPost_ret (v:=.agg #[.string op,.int .i64 (kindOf j),.int .i64 (nOf j),.string (sOf j),.slice La (nL j) Lc,.slice Ka (nK j) Kc,.slice none 0 0]) (by simp [results,Tryz.results174,go_sem]) rfl ?_
 exact ⟨HB.out,.inl ⟨HR.out,_,_,_,_,_,_,_,rfl,HT.out⟩⟩
set_option maxHeartbeats 4000000 in
set_option maxRecDepth 100000 in
theorem ptestIn_any (w0:Org) (m:Nat) (op:ByteArray) (j:T) (La Ka:Option Addr) (Lc Kc:Nat) (f:Nat) (w:World) (hop:op.size≤140737488355328) (ha:At0 w0 f (.agg #[.int .i64 (kindOf j),.int .i64 (nOf j),.string (sOf j),.slice La (nL j) Lc,.slice Ka (nK j) Kc]) j) (hf:f≤16) (kj:okA j) (gIn:op=opIn) :
  Calls Tryz.prog 174 #[.string op,.agg #[.int .i64 (kindOf j),.int .i64 (nOf j),.string (sOf j),.slice La (nL j) Lc,.slice Ka (nK j) Kc]] w (TtPost w0 m op j w):=by
 have HB:Hid (Below w.heap.size w ((w.alloc (.cells #[.int .i64 (kindOf j),.int .i64 (nOf j),.string (sOf j),.slice La (nL j) Lc,.slice Ka (nK j) Kc] 36)).alloc (.cells #[.string op,.int .i64 (kindOf j),.int .i64 (nOf j),.string (sOf j),.slice La (nL j) Lc,.slice Ka (nK j) Kc,.slice none 0 0] 233))):=((Below.refl _ _).alloc (Nat.le_refl _) _).alloc (by simp) _
 have HBz:Hid (Below w.heap.size w ((w.alloc (.cells #[.int .i64 (kindOf j),.int .i64 (nOf j),.string (sOf j),.slice La (nL j) Lc,.slice Ka (nK j) Kc] 36)).alloc (.cells #[.string ⟨#[]⟩,.int .i64 0,.int .i64 0,.string ⟨#[]⟩,.slice none 0 0,.slice none 0 0,.slice none 0 0] 233))):=((Below.refl _ _).alloc (Nat.le_refl _) _).alloc (by simp) _
 have HT:Hid (TestB w0 ((w.alloc (.cells #[.int .i64 (kindOf j),.int .i64 (nOf j),.string (sOf j),.slice La (nL j) Lc,.slice Ka (nK j) Kc] 36)).alloc (.cells #[.string op,.int .i64 (kindOf j),.int .i64 (nOf j),.string (sOf j),.slice La (nL j) Lc,.slice Ka (nK j) Kc,.slice none 0 0] 233)) (newB w ((w.alloc (.cells #[.int .i64 (kindOf j),.int .i64 (nOf j),.string (sOf j),.slice La (nL j) Lc,.slice Ka (nK j) Kc] 36)).alloc (.cells #[.string op,.int .i64 (kindOf j),.int .i64 (nOf j),.string (sOf j),.slice La (nL j) Lc,.slice Ka (nK j) Kc,.slice none 0 0] 233))) (m+1) (.string op) (.int .i64 (kindOf j)) (.int .i64 (nOf j)) (.string (sOf j)) (.slice La (nL j) Lc) (.slice Ka (nK j) Kc) (.slice none 0 0) (op,j)):=⟨rfl,hop,.inr ⟨by rw [show ((op,j):ByteArray×T).1=op from rfl,gIn];decide,rfl,f,La,Lc,Ka,Kc,hf,rfl,rfl,rfl,rfl,rfl,ha,kj⟩⟩
 have HR:Hid (okT1 (okTs m) op j=(kindOf j==5)):=by show _=_;unfold okT1;rw [if_neg (show ¬ plainOp op by rw [gIn];decide),if_pos (.inl gIn)]
 have gEq:¬ op=opEq:=by rw [gIn];decide
 have eEq:(op.toList==[36,101,113])=false:=lit_no gEq
 have gNe:¬ op=opNe:=by rw [gIn];decide
 have eNe:(op.toList==[36,110,101])=false:=lit_no gNe
 have gGt:¬ op=opGt:=by rw [gIn];decide
 have eGt:(op.toList==[36,103,116])=false:=lit_no gGt
 have gGte:¬ op=opGte:=by rw [gIn];decide
 have eGte:(op.toList==[36,103,116,101])=false:=lit_no gGte
 have gLt:¬ op=opLt:=by rw [gIn];decide
 have eLt:(op.toList==[36,108,116])=false:=lit_no gLt
 have gLte:¬ op=opLte:=by rw [gIn];decide
 have eLte:(op.toList==[36,108,116,101])=false:=lit_no gLte
 have eIn:(op.toList==[36,105,110])=true:=lit_is gIn
 clear gEq gNe gGt gGte gLt gLte gIn
 clear ha kj
 cases h0:kindOf j==5 with
 | true =>
  have HR2:Hid (okT1 (okTs m) op j=true):=by show _=_;rw [HR.out,h0]
  clear HR
  go_enter Tryz.func174,Tryz.ntmps174
  go_wp2_with fail
  refine (need_any true _).mono ?_
  rintro e w2 ⟨rfl,he⟩
  simp only [if_true] at he
  subst he
  go_wp2_with fail
  refine bodyPost_ret (v:=.agg #[.string op,.int .i64 (kindOf j),.int .i64 (nOf j),.string (sOf j),.slice La (nL j) Lc,.slice Ka (nK j) Kc,.slice none 0 0]) (by simp [results,Tryz.results174,go_sem]) rfl ?_
  exact ⟨HB.out,.inl ⟨HR2.out,_,_,_,_,_,_,_,rfl,HT.out⟩⟩
 | false =>
  have HR2:Hid (okT1 (okTs m) op j=false):=by show _=_;rw [HR.out,h0]
  clear HR
  go_enter Tryz.func174,Tryz.ntmps174
  go_wp2_with fail
  refine (need_any false _).mono ?_
  rintro e w2 ⟨rfl,he⟩
  simp only [Bool.false_eq_true,if_false] at he
  subst he
  exact ⟨rfl,HBz.out,.inr ⟨HR2.out,rfl⟩⟩
set_option maxHeartbeats 4000000 in
set_option maxRecDepth 100000 in
theorem ptestNin_any (w0:Org) (m:Nat) (op:ByteArray) (j:T) (La Ka:Option Addr) (Lc Kc:Nat) (f:Nat) (w:World) (hop:op.size≤140737488355328) (ha:At0 w0 f (.agg #[.int .i64 (kindOf j),.int .i64 (nOf j),.string (sOf j),.slice La (nL j) Lc,.slice Ka (nK j) Kc]) j) (hf:f≤16) (kj:okA j) (gNin:op=opNin) :
  Calls Tryz.prog 174 #[.string op,.agg #[.int .i64 (kindOf j),.int .i64 (nOf j),.string (sOf j),.slice La (nL j) Lc,.slice Ka (nK j) Kc]] w (TtPost w0 m op j w):=by
 have HB:Hid (Below w.heap.size w ((w.alloc (.cells #[.int .i64 (kindOf j),.int .i64 (nOf j),.string (sOf j),.slice La (nL j) Lc,.slice Ka (nK j) Kc] 36)).alloc (.cells #[.string op,.int .i64 (kindOf j),.int .i64 (nOf j),.string (sOf j),.slice La (nL j) Lc,.slice Ka (nK j) Kc,.slice none 0 0] 233))):=((Below.refl _ _).alloc (Nat.le_refl _) _).alloc (by simp) _
 have HBz:Hid (Below w.heap.size w ((w.alloc (.cells #[.int .i64 (kindOf j),.int .i64 (nOf j),.string (sOf j),.slice La (nL j) Lc,.slice Ka (nK j) Kc] 36)).alloc (.cells #[.string ⟨#[]⟩,.int .i64 0,.int .i64 0,.string ⟨#[]⟩,.slice none 0 0,.slice none 0 0,.slice none 0 0] 233))):=((Below.refl _ _).alloc (Nat.le_refl _) _).alloc (by simp) _
 have HT:Hid (TestB w0 ((w.alloc (.cells #[.int .i64 (kindOf j),.int .i64 (nOf j),.string (sOf j),.slice La (nL j) Lc,.slice Ka (nK j) Kc] 36)).alloc (.cells #[.string op,.int .i64 (kindOf j),.int .i64 (nOf j),.string (sOf j),.slice La (nL j) Lc,.slice Ka (nK j) Kc,.slice none 0 0] 233)) (newB w ((w.alloc (.cells #[.int .i64 (kindOf j),.int .i64 (nOf j),.string (sOf j),.slice La (nL j) Lc,.slice Ka (nK j) Kc] 36)).alloc (.cells #[.string op,.int .i64 (kindOf j),.int .i64 (nOf j),.string (sOf j),.slice La (nL j) Lc,.slice Ka (nK j) Kc,.slice none 0 0] 233))) (m+1) (.string op) (.int .i64 (kindOf j)) (.int .i64 (nOf j)) (.string (sOf j)) (.slice La (nL j) Lc) (.slice Ka (nK j) Kc) (.slice none 0 0) (op,j)):=⟨rfl,hop,.inr ⟨by rw [show ((op,j):ByteArray×T).1=op from rfl,gNin];decide,rfl,f,La,Lc,Ka,Kc,hf,rfl,rfl,rfl,rfl,rfl,ha,kj⟩⟩
 have HR:Hid (okT1 (okTs m) op j=(kindOf j==5)):=by show _=_;unfold okT1;rw [if_neg (show ¬ plainOp op by rw [gNin];decide),if_pos (.inr gNin)]
 have gEq:¬ op=opEq:=by rw [gNin];decide
 have eEq:(op.toList==[36,101,113])=false:=lit_no gEq
 have gNe:¬ op=opNe:=by rw [gNin];decide
 have eNe:(op.toList==[36,110,101])=false:=lit_no gNe
 have gGt:¬ op=opGt:=by rw [gNin];decide
 have eGt:(op.toList==[36,103,116])=false:=lit_no gGt
 have gGte:¬ op=opGte:=by rw [gNin];decide
 have eGte:(op.toList==[36,103,116,101])=false:=lit_no gGte
 have gLt:¬ op=opLt:=by rw [gNin];decide
 have eLt:(op.toList==[36,108,116])=false:=lit_no gLt
 have gLte:¬ op=opLte:=by rw [gNin];decide
 have eLte:(op.toList==[36,108,116,101])=false:=lit_no gLte
 have gIn:¬ op=opIn:=by rw [gNin];decide
 have eIn:(op.toList==[36,105,110])=false:=lit_no gIn
 have eNin:(op.toList==[36,110,105,110])=true:=lit_is gNin
 clear gEq gNe gGt gGte gLt gLte gIn gNin
 clear ha kj
 cases h0:kindOf j==5 with
 | true =>
  have HR2:Hid (okT1 (okTs m) op j=true):=by show _=_;rw [HR.out,h0]
  clear HR
  go_enter Tryz.func174,Tryz.ntmps174
  go_wp2_with fail
  refine (need_any true _).mono ?_
  rintro e w2 ⟨rfl,he⟩
  simp only [if_true] at he
  subst he
  go_wp2_with fail
  refine bodyPost_ret (v:=.agg #[.string op,.int .i64 (kindOf j),.int .i64 (nOf j),.string (sOf j),.slice La (nL j) Lc,.slice Ka (nK j) Kc,.slice none 0 0]) (by simp [results,Tryz.results174,go_sem]) rfl ?_
  exact ⟨HB.out,.inl ⟨HR2.out,_,_,_,_,_,_,_,rfl,HT.out⟩⟩
 | false =>
  have HR2:Hid (okT1 (okTs m) op j=false):=by show _=_;rw [HR.out,h0]
  clear HR
  go_enter Tryz.func174,Tryz.ntmps174
  go_wp2_with fail
  refine (need_any false _).mono ?_
  rintro e w2 ⟨rfl,he⟩
  simp only [Bool.false_eq_true,if_false] at he
  subst he
  exact ⟨rfl,HBz.out,.inr ⟨HR2.out,rfl⟩⟩
set_option maxHeartbeats 4000000 in
set_option maxRecDepth 100000 in
theorem ptestExists_any (w0:Org) (m:Nat) (op:ByteArray) (j:T) (La Ka:Option Addr) (Lc Kc:Nat) (f:Nat) (w:World) (hop:op.size≤140737488355328) (ha:At0 w0 f (.agg #[.int .i64 (kindOf j),.int .i64 (nOf j),.string (sOf j),.slice La (nL j) Lc,.slice Ka (nK j) Kc]) j) (hf:f≤16) (kj:okA j) (gExists:op=opExists) :
  Calls Tryz.prog 174 #[.string op,.agg #[.int .i64 (kindOf j),.int .i64 (nOf j),.string (sOf j),.slice La (nL j) Lc,.slice Ka (nK j) Kc]] w (TtPost w0 m op j w):=by
 have HB:Hid (Below w.heap.size w ((w.alloc (.cells #[.int .i64 (kindOf j),.int .i64 (nOf j),.string (sOf j),.slice La (nL j) Lc,.slice Ka (nK j) Kc] 36)).alloc (.cells #[.string op,.int .i64 (kindOf j),.int .i64 (nOf j),.string (sOf j),.slice La (nL j) Lc,.slice Ka (nK j) Kc,.slice none 0 0] 233))):=((Below.refl _ _).alloc (Nat.le_refl _) _).alloc (by simp) _
 have HBz:Hid (Below w.heap.size w ((w.alloc (.cells #[.int .i64 (kindOf j),.int .i64 (nOf j),.string (sOf j),.slice La (nL j) Lc,.slice Ka (nK j) Kc] 36)).alloc (.cells #[.string ⟨#[]⟩,.int .i64 0,.int .i64 0,.string ⟨#[]⟩,.slice none 0 0,.slice none 0 0,.slice none 0 0] 233))):=((Below.refl _ _).alloc (Nat.le_refl _) _).alloc (by simp) _
 have HT:Hid (TestB w0 ((w.alloc (.cells #[.int .i64 (kindOf j),.int .i64 (nOf j),.string (sOf j),.slice La (nL j) Lc,.slice Ka (nK j) Kc] 36)).alloc (.cells #[.string op,.int .i64 (kindOf j),.int .i64 (nOf j),.string (sOf j),.slice La (nL j) Lc,.slice Ka (nK j) Kc,.slice none 0 0] 233)) (newB w ((w.alloc (.cells #[.int .i64 (kindOf j),.int .i64 (nOf j),.string (sOf j),.slice La (nL j) Lc,.slice Ka (nK j) Kc] 36)).alloc (.cells #[.string op,.int .i64 (kindOf j),.int .i64 (nOf j),.string (sOf j),.slice La (nL j) Lc,.slice Ka (nK j) Kc,.slice none 0 0] 233))) (m+1) (.string op) (.int .i64 (kindOf j)) (.int .i64 (nOf j)) (.string (sOf j)) (.slice La (nL j) Lc) (.slice Ka (nK j) Kc) (.slice none 0 0) (op,j)):=⟨rfl,hop,.inr ⟨by rw [show ((op,j):ByteArray×T).1=op from rfl,gExists];decide,rfl,f,La,Lc,Ka,Kc,hf,rfl,rfl,rfl,rfl,rfl,ha,kj⟩⟩
 have HR:Hid (okT1 (okTs m) op j=(kindOf j==2)):=by show _=_;unfold okT1;rw [if_neg (show ¬ plainOp op by rw [gExists];decide),if_neg (show ¬ (op=opIn∨op=opNin) by rw [gExists];decide),if_pos gExists]
 have gEq:¬ op=opEq:=by rw [gExists];decide
 have eEq:(op.toList==[36,101,113])=false:=lit_no gEq
 have gNe:¬ op=opNe:=by rw [gExists];decide
 have eNe:(op.toList==[36,110,101])=false:=lit_no gNe
 have gGt:¬ op=opGt:=by rw [gExists];decide
 have eGt:(op.toList==[36,103,116])=false:=lit_no gGt
 have gGte:¬ op=opGte:=by rw [gExists];decide
 have eGte:(op.toList==[36,103,116,101])=false:=lit_no gGte
 have gLt:¬ op=opLt:=by rw [gExists];decide
 have eLt:(op.toList==[36,108,116])=false:=lit_no gLt
 have gLte:¬ op=opLte:=by rw [gExists];decide
 have eLte:(op.toList==[36,108,116,101])=false:=lit_no gLte
 have gIn:¬ op=opIn:=by rw [gExists];decide
 have eIn:(op.toList==[36,105,110])=false:=lit_no gIn
 have gNin:¬ op=opNin:=by rw [gExists];decide
 have eNin:(op.toList==[36,110,105,110])=false:=lit_no gNin
 have eExists:(op.toList==[36,101,120,105,115,116,115])=true:=lit_is gExists
 clear gEq gNe gGt gGte gLt gLte gIn gNin gExists
 clear ha kj
 cases h0:kindOf j==2 with
 | true =>
  have HR2:Hid (okT1 (okTs m) op j=true):=by show _=_;rw [HR.out,h0]
  clear HR
  go_enter Tryz.func174,Tryz.ntmps174
  go_wp2_with fail
  refine (need_any true _).mono ?_
  rintro e w2 ⟨rfl,he⟩
  simp only [if_true] at he
  subst he
  go_wp2_with fail
  refine bodyPost_ret (v:=.agg #[.string op,.int .i64 (kindOf j),.int .i64 (nOf j),.string (sOf j),.slice La (nL j) Lc,.slice Ka (nK j) Kc,.slice none 0 0]) (by simp [results,Tryz.results174,go_sem]) rfl ?_
  exact ⟨HB.out,.inl ⟨HR2.out,_,_,_,_,_,_,_,rfl,HT.out⟩⟩
 | false =>
  have HR2:Hid (okT1 (okTs m) op j=false):=by show _=_;rw [HR.out,h0]
  clear HR
  go_enter Tryz.func174,Tryz.ntmps174
  go_wp2_with fail
  refine (need_any false _).mono ?_
  rintro e w2 ⟨rfl,he⟩
  simp only [Bool.false_eq_true,if_false] at he
  subst he
  exact ⟨rfl,HBz.out,.inr ⟨HR2.out,rfl⟩⟩
set_option maxHeartbeats 4000000 in
set_option maxRecDepth 100000 in
theorem ptestSize_any (w0:Org) (m:Nat) (op:ByteArray) (j:T) (La Ka:Option Addr) (Lc Kc:Nat) (f:Nat) (w:World) (hop:op.size≤140737488355328) (ha:At0 w0 f (.agg #[.int .i64 (kindOf j),.int .i64 (nOf j),.string (sOf j),.slice La (nL j) Lc,.slice Ka (nK j) Kc]) j) (hf:f≤16) (kj:okA j) (gSize:op=opSize) :
  Calls Tryz.prog 174 #[.string op,.agg #[.int .i64 (kindOf j),.int .i64 (nOf j),.string (sOf j),.slice La (nL j) Lc,.slice Ka (nK j) Kc]] w (TtPost w0 m op j w):=by
 have HB:Hid (Below w.heap.size w ((w.alloc (.cells #[.int .i64 (kindOf j),.int .i64 (nOf j),.string (sOf j),.slice La (nL j) Lc,.slice Ka (nK j) Kc] 36)).alloc (.cells #[.string op,.int .i64 (kindOf j),.int .i64 (nOf j),.string (sOf j),.slice La (nL j) Lc,.slice Ka (nK j) Kc,.slice none 0 0] 233))):=((Below.refl _ _).alloc (Nat.le_refl _) _).alloc (by simp) _
 have HBz:Hid (Below w.heap.size w ((w.alloc (.cells #[.int .i64 (kindOf j),.int .i64 (nOf j),.string (sOf j),.slice La (nL j) Lc,.slice Ka (nK j) Kc] 36)).alloc (.cells #[.string ⟨#[]⟩,.int .i64 0,.int .i64 0,.string ⟨#[]⟩,.slice none 0 0,.slice none 0 0,.slice none 0 0] 233))):=((Below.refl _ _).alloc (Nat.le_refl _) _).alloc (by simp) _
 have HT:Hid (TestB w0 ((w.alloc (.cells #[.int .i64 (kindOf j),.int .i64 (nOf j),.string (sOf j),.slice La (nL j) Lc,.slice Ka (nK j) Kc] 36)).alloc (.cells #[.string op,.int .i64 (kindOf j),.int .i64 (nOf j),.string (sOf j),.slice La (nL j) Lc,.slice Ka (nK j) Kc,.slice none 0 0] 233)) (newB w ((w.alloc (.cells #[.int .i64 (kindOf j),.int .i64 (nOf j),.string (sOf j),.slice La (nL j) Lc,.slice Ka (nK j) Kc] 36)).alloc (.cells #[.string op,.int .i64 (kindOf j),.int .i64 (nOf j),.string (sOf j),.slice La (nL j) Lc,.slice Ka (nK j) Kc,.slice none 0 0] 233))) (m+1) (.string op) (.int .i64 (kindOf j)) (.int .i64 (nOf j)) (.string (sOf j)) (.slice La (nL j) Lc) (.slice Ka (nK j) Kc) (.slice none 0 0) (op,j)):=⟨rfl,hop,.inr ⟨by rw [show ((op,j):ByteArray×T).1=op from rfl,gSize];decide,rfl,f,La,Lc,Ka,Kc,hf,rfl,rfl,rfl,rfl,rfl,ha,kj⟩⟩
 have HR:Hid (okT1 (okTs m) op j=((kindOf j==3&&decide (0≤nOf j)))):=by show _=_;unfold okT1;rw [if_neg (show ¬ plainOp op by rw [gSize];decide),if_neg (show ¬ (op=opIn∨op=opNin) by rw [gSize];decide),if_neg (by rw [gSize];decide),if_pos gSize]
 have gEq:¬ op=opEq:=by rw [gSize];decide
 have eEq:(op.toList==[36,101,113])=false:=lit_no gEq
 have gNe:¬ op=opNe:=by rw [gSize];decide
 have eNe:(op.toList==[36,110,101])=false:=lit_no gNe
 have gGt:¬ op=opGt:=by rw [gSize];decide
 have eGt:(op.toList==[36,103,116])=false:=lit_no gGt
 have gGte:¬ op=opGte:=by rw [gSize];decide
 have eGte:(op.toList==[36,103,116,101])=false:=lit_no gGte
 have gLt:¬ op=opLt:=by rw [gSize];decide
 have eLt:(op.toList==[36,108,116])=false:=lit_no gLt
 have gLte:¬ op=opLte:=by rw [gSize];decide
 have eLte:(op.toList==[36,108,116,101])=false:=lit_no gLte
 have gIn:¬ op=opIn:=by rw [gSize];decide
 have eIn:(op.toList==[36,105,110])=false:=lit_no gIn
 have gNin:¬ op=opNin:=by rw [gSize];decide
 have eNin:(op.toList==[36,110,105,110])=false:=lit_no gNin
 have gExists:¬ op=opExists:=by rw [gSize];decide
 have eExists:(op.toList==[36,101,120,105,115,116,115])=false:=lit_no gExists
 have eSize:(op.toList==[36,115,105,122,101])=true:=lit_is gSize
 clear gEq gNe gGt gGte gLt gLte gIn gNin gExists gSize
 clear ha kj
 cases h0:kindOf j==3 with
 | true =>
  cases h1:decide (0≤nOf j) with
  | true =>
   have HR2:Hid (okT1 (okTs m) op j=true):=by show _=_;rw [HR.out,h0,h1];rfl
   have k1:0≤nOf j:=by exact of_decide_eq_true h1
   clear HR
   go_enter Tryz.func174,Tryz.ntmps174
   go_wp2_with fail
   refine (need_any true _).mono ?_
   rintro e w2 ⟨rfl,he⟩
   simp only [if_true] at he
   subst he
   go_wp2_with fail
   refine bodyPost_ret (v:=.agg #[.string op,.int .i64 (kindOf j),.int .i64 (nOf j),.string (sOf j),.slice La (nL j) Lc,.slice Ka (nK j) Kc,.slice none 0 0]) (by simp [results,Tryz.results174,go_sem]) rfl ?_
   exact ⟨HB.out,.inl ⟨HR2.out,_,_,_,_,_,_,_,rfl,HT.out⟩⟩
  | false =>
   have HR2:Hid (okT1 (okTs m) op j=false):=by show _=_;rw [HR.out,h0,h1];rfl
   have k1:¬ 0≤nOf j:=by exact of_decide_eq_false h1
   clear HR
   go_enter Tryz.func174,Tryz.ntmps174
   go_wp2_with fail
   refine (need_any false _).mono ?_
   rintro e w2 ⟨rfl,he⟩
   simp only [Bool.false_eq_true,if_false] at he
   subst he
   exact ⟨rfl,HBz.out,.inr ⟨HR2.out,rfl⟩⟩
 | false =>
  have HR2:Hid (okT1 (okTs m) op j=false):=by show _=_;rw [HR.out,h0];rfl
  clear HR
  go_enter Tryz.func174,Tryz.ntmps174
  go_wp2_with fail
  refine (need_any false _).mono ?_
  rintro e w2 ⟨rfl,he⟩
  simp only [Bool.false_eq_true,if_false] at he
  subst he
  exact ⟨rfl,HBz.out,.inr ⟨HR2.out,rfl⟩⟩
set_option maxHeartbeats 4000000 in
set_option maxRecDepth 100000 in
theorem ptestKind_any (w0:Org) (m:Nat) (op:ByteArray) (j:T) (La Ka:Option Addr) (Lc Kc:Nat) (f:Nat) (w:World) (hop:op.size≤140737488355328) (ha:At0 w0 f (.agg #[.int .i64 (kindOf j),.int .i64 (nOf j),.string (sOf j),.slice La (nL j) Lc,.slice Ka (nK j) Kc]) j) (hf:f≤16) (kj:okA j) (gKind:op=opKind) :
  Calls Tryz.prog 174 #[.string op,.agg #[.int .i64 (kindOf j),.int .i64 (nOf j),.string (sOf j),.slice La (nL j) Lc,.slice Ka (nK j) Kc]] w (TtPost w0 m op j w):=by
 have HB:Hid (Below w.heap.size w ((w.alloc (.cells #[.int .i64 (kindOf j),.int .i64 (nOf j),.string (sOf j),.slice La (nL j) Lc,.slice Ka (nK j) Kc] 36)).alloc (.cells #[.string op,.int .i64 (kindOf j),.int .i64 (nOf j),.string (sOf j),.slice La (nL j) Lc,.slice Ka (nK j) Kc,.slice none 0 0] 233))):=((Below.refl _ _).alloc (Nat.le_refl _) _).alloc (by simp) _
 have HBz:Hid (Below w.heap.size w ((w.alloc (.cells #[.int .i64 (kindOf j),.int .i64 (nOf j),.string (sOf j),.slice La (nL j) Lc,.slice Ka (nK j) Kc] 36)).alloc (.cells #[.string ⟨#[]⟩,.int .i64 0,.int .i64 0,.string ⟨#[]⟩,.slice none 0 0,.slice none 0 0,.slice none 0 0] 233))):=((Below.refl _ _).alloc (Nat.le_refl _) _).alloc (by simp) _
 have HT:Hid (TestB w0 ((w.alloc (.cells #[.int .i64 (kindOf j),.int .i64 (nOf j),.string (sOf j),.slice La (nL j) Lc,.slice Ka (nK j) Kc] 36)).alloc (.cells #[.string op,.int .i64 (kindOf j),.int .i64 (nOf j),.string (sOf j),.slice La (nL j) Lc,.slice Ka (nK j) Kc,.slice none 0 0] 233)) (newB w ((w.alloc (.cells #[.int .i64 (kindOf j),.int .i64 (nOf j),.string (sOf j),.slice La (nL j) Lc,.slice Ka (nK j) Kc] 36)).alloc (.cells #[.string op,.int .i64 (kindOf j),.int .i64 (nOf j),.string (sOf j),.slice La (nL j) Lc,.slice Ka (nK j) Kc,.slice none 0 0] 233))) (m+1) (.string op) (.int .i64 (kindOf j)) (.int .i64 (nOf j)) (.string (sOf j)) (.slice La (nL j) Lc) (.slice Ka (nK j) Kc) (.slice none 0 0) (op,j)):=⟨rfl,hop,.inr ⟨by rw [show ((op,j):ByteArray×T).1=op from rfl,gKind];decide,rfl,f,La,Lc,Ka,Kc,hf,rfl,rfl,rfl,rfl,rfl,ha,kj⟩⟩
 have HR:Hid (okT1 (okTs m) op j=(((kindOf j==3&&decide (1≤nOf j))&&decide (nOf j≤6)))):=by show _=_;unfold okT1;rw [if_neg (show ¬ plainOp op by rw [gKind];decide),if_neg (show ¬ (op=opIn∨op=opNin) by rw [gKind];decide),if_neg (by rw [gKind];decide),if_neg (by rw [gKind];decide),if_pos gKind]
 have gEq:¬ op=opEq:=by rw [gKind];decide
 have eEq:(op.toList==[36,101,113])=false:=lit_no gEq
 have gNe:¬ op=opNe:=by rw [gKind];decide
 have eNe:(op.toList==[36,110,101])=false:=lit_no gNe
 have gGt:¬ op=opGt:=by rw [gKind];decide
 have eGt:(op.toList==[36,103,116])=false:=lit_no gGt
 have gGte:¬ op=opGte:=by rw [gKind];decide
 have eGte:(op.toList==[36,103,116,101])=false:=lit_no gGte
 have gLt:¬ op=opLt:=by rw [gKind];decide
 have eLt:(op.toList==[36,108,116])=false:=lit_no gLt
 have gLte:¬ op=opLte:=by rw [gKind];decide
 have eLte:(op.toList==[36,108,116,101])=false:=lit_no gLte
 have gIn:¬ op=opIn:=by rw [gKind];decide
 have eIn:(op.toList==[36,105,110])=false:=lit_no gIn
 have gNin:¬ op=opNin:=by rw [gKind];decide
 have eNin:(op.toList==[36,110,105,110])=false:=lit_no gNin
 have gExists:¬ op=opExists:=by rw [gKind];decide
 have eExists:(op.toList==[36,101,120,105,115,116,115])=false:=lit_no gExists
 have gSize:¬ op=opSize:=by rw [gKind];decide
 have eSize:(op.toList==[36,115,105,122,101])=false:=lit_no gSize
 have eKind:(op.toList==[36,107,105,110,100])=true:=lit_is gKind
 clear gEq gNe gGt gGte gLt gLte gIn gNin gExists gSize gKind
 clear ha kj
 cases h0:kindOf j==3 with
 | true =>
  cases h1:decide (1≤nOf j) with
  | true =>
   cases h2:decide (nOf j≤6) with
   | true =>
    have HR2:Hid (okT1 (okTs m) op j=true):=by show _=_;rw [HR.out,h0,h1,h2];rfl
    have k1:1≤nOf j:=by exact of_decide_eq_true h1
    have k2:nOf j≤6:=by exact of_decide_eq_true h2
    clear HR
    go_enter Tryz.func174,Tryz.ntmps174
    go_wp2_with fail
    refine (need_any true _).mono ?_
    rintro e w2 ⟨rfl,he⟩
    simp only [if_true] at he
    subst he
    go_wp2_with fail
    refine bodyPost_ret (v:=.agg #[.string op,.int .i64 (kindOf j),.int .i64 (nOf j),.string (sOf j),.slice La (nL j) Lc,.slice Ka (nK j) Kc,.slice none 0 0]) (by simp [results,Tryz.results174,go_sem]) rfl ?_
    exact ⟨HB.out,.inl ⟨HR2.out,_,_,_,_,_,_,_,rfl,HT.out⟩⟩
   | false =>
    have HR2:Hid (okT1 (okTs m) op j=false):=by show _=_;rw [HR.out,h0,h1,h2];rfl
    have k1:1≤nOf j:=by exact of_decide_eq_true h1
    have k2:¬ nOf j≤6:=by exact of_decide_eq_false h2
    clear HR
    go_enter Tryz.func174,Tryz.ntmps174
    go_wp2_with fail
    refine (need_any false _).mono ?_
    rintro e w2 ⟨rfl,he⟩
    simp only [Bool.false_eq_true,if_false] at he
    subst he
    exact ⟨rfl,HBz.out,.inr ⟨HR2.out,rfl⟩⟩
  | false =>
   have HR2:Hid (okT1 (okTs m) op j=false):=by show _=_;rw [HR.out,h0,h1];rfl
   have k1:¬ 1≤nOf j:=by exact of_decide_eq_false h1
   clear HR
   go_enter Tryz.func174,Tryz.ntmps174
   go_wp2_with fail
   refine (need_any false _).mono ?_
   rintro e w2 ⟨rfl,he⟩
   simp only [Bool.false_eq_true,if_false] at he
   subst he
   exact ⟨rfl,HBz.out,.inr ⟨HR2.out,rfl⟩⟩
 | false =>
  have HR2:Hid (okT1 (okTs m) op j=false):=by show _=_;rw [HR.out,h0];rfl
  clear HR
  go_enter Tryz.func174,Tryz.ntmps174
  go_wp2_with fail
  refine (need_any false _).mono ?_
  rintro e w2 ⟨rfl,he⟩
  simp only [Bool.false_eq_true,if_false] at he
  subst he
  exact ⟨rfl,HBz.out,.inr ⟨HR2.out,rfl⟩⟩
end Go.Proofs.YtknakfpciccoaabGreatDoor
