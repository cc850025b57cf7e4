/- The contract of strings.Clone, of the library's shelf, laid at this dump. -/
import Derived.Shelf.Strconv.Clone
import Derived.Test.YtknakfpciccoaaaDoorProg
namespace Go.Proofs
open Go.Shelf Go.RowKit
def Tryd.laysClone_ren : Go.Shelf.Ren := ⟨fun | 316 => 114 | n => n, fun | 37 => 60 | 127 => 133 | n => n, fun n => n⟩
theorem Tryd.laysClone : Go.Proofs.LaysM.n316 Tryd.prog Tryd.laysClone_ren := {
  mixed := by kernel_rfl
  f316 := Tryd.func114.trans (congrArg some (by kernel_rfl))
  t0 := Tryd.underlying0
  a0 := Tryd.isAgg0
  z0 := Tryd.sizeOf0
  v0 := Tryd.zeroValue0
  t3 := Tryd.underlying3
  a3 := Tryd.isAgg3
  z3 := Tryd.sizeOf3
  v3 := Tryd.zeroValue3
  t4 := Tryd.underlying4
  a4 := Tryd.isAgg4
  z4 := Tryd.sizeOf4
  v4 := Tryd.zeroValue4
  t9 := Tryd.underlying9
  a9 := Tryd.isAgg9
  z9 := Tryd.sizeOf9
  v9 := Tryd.zeroValue9
  t37 := Tryd.underlying60
  a37 := Tryd.isAgg60
  z37 := Tryd.sizeOf60
  v37 := Tryd.zeroValue60
  t127 := Tryd.underlying133
  a127 := Tryd.isAgg133
  z127 := Tryd.sizeOf133
  v127 := Tryd.zeroValue133
  t5 := Tryd.underlying5
  a5 := Tryd.isAgg5
  z5 := Tryd.sizeOf5
  v5 := Tryd.zeroValue5
  i0 := by kernel_rfl
  i3 := by kernel_rfl
  i4 := by kernel_rfl
  i5 := by kernel_rfl
  i9 := by kernel_rfl
  i37 := by kernel_rfl
  i127 := by kernel_rfl }
end Go.Proofs
namespace Go.Proofs.YtknakfpciccoaaaDoor
open Go.RowKit
set_option maxHeartbeats 1000000 in
set_option maxRecDepth 100000 in
theorem clone_any (s : ByteArray) (w : World) (hs : s.size ≤ 140737488355328) :
    Calls Tryd.prog 100 #[.string s] w fun e w' => e = .returned (.string s) ∧ Below w.heap.size w w' := by
  have HC : Hid (Calls Tryd.prog 114 #[.string s] w fun e w' => e = .returned (.string s) ∧ Below w.heap.size w w') := Any.stringslite_Clone Tryd.laysClone s w (by omega)
  go_enter Tryd.func100, Tryd.ntmps100
  go_wp2_with (go_at_call 114; refine HC.out.mono ?_; rintro e w2 ⟨rfl, hb⟩)
  go_ret
  exact ⟨rfl, hb⟩
end Go.Proofs.YtknakfpciccoaaaDoor
