import Derived.Shelf.Strings.Prefix
import Derived.Shelf.Strings.BuilderK
import Derived.Shelf.Strings.BuilderRune
import Derived.Shelf.Unicode.DecodeAny
import Derived.Shelf.Strconv.ErrVarParseInt
import Derived.Test.YtknakfpciccoaabGreatDoorProg
import Derived.Test.YtknakfpciccoaabGreatDoorZS7
import Derived.Test.YtknakfpciccoaabGreatDoorZS2
import Derived.Deep.RegionHeld
import Derived.Laws.IdiomStrings
import Derived.Shelf.Strconv.Clone
/- Contracts of the library's shelf, laid at this dump: strings.HasPrefix, utf8.DecodeRuneInString, strings.Builder, strconv.ParseInt. -/
namespace Go.Proofs
open Go.Shelf
def Tryz.laysPrefix_ren : Go.Shelf.Ren := ⟨fun | 99 => 158 | 206 => 172 | n => n, fun | 9 => 9 | 4 => 4 | 3 => 3 | n => n, fun | n => n⟩
theorem Tryz.laysPrefix : Go.Proofs.Lays.n99 Tryz.prog Tryz.laysPrefix_ren := {
  mixed := by kernel_rfl
  f99 := Tryz.func158.trans (congrArg some (by kernel_rfl))
  f206 := Tryz.func172.trans (congrArg some (by kernel_rfl))
  t3 := Tryz.underlying3
  a3 := Tryz.isAgg3
  z3 := Tryz.sizeOf3
  v3 := Tryz.zeroValue3
  t4 := Tryz.underlying4
  a4 := Tryz.isAgg4
  z4 := Tryz.sizeOf4
  v4 := Tryz.zeroValue4
  t9 := Tryz.underlying9
  a9 := Tryz.isAgg9
  z9 := Tryz.sizeOf9
  v9 := Tryz.zeroValue9 }
def Tryz.laysDecode_ren : Go.Shelf.Ren := ⟨fun | 197 => 155 | 260 => 166 | n => n, fun | 9 => 9 | 21 => 21 | 3 => 3 | 4 => 4 | 5 => 5 | 105 => 227 | 119 => 198 | 0 => 0 | 46 => 148 | 139 => 201 | 138 => 200 | n => n, fun | 3 => 1 | 4 => 2 | n => n⟩
theorem Tryz.laysDecode : Go.Proofs.Lays.n197 Tryz.prog Tryz.laysDecode_ren := {
  mixed := by kernel_rfl
  f197 := Tryz.func155.trans (congrArg some (by kernel_rfl))
  f260 := Tryz.func166.trans (congrArg some (by kernel_rfl))
  t0 := Tryz.underlying0
  a0 := Tryz.isAgg0
  z0 := Tryz.sizeOf0
  v0 := Tryz.zeroValue0
  t3 := Tryz.underlying3
  a3 := Tryz.isAgg3
  z3 := Tryz.sizeOf3
  v3 := Tryz.zeroValue3
  t4 := Tryz.underlying4
  a4 := Tryz.isAgg4
  z4 := Tryz.sizeOf4
  v4 := Tryz.zeroValue4
  t5 := Tryz.underlying5
  a5 := Tryz.isAgg5
  z5 := Tryz.sizeOf5
  v5 := Tryz.zeroValue5
  t9 := Tryz.underlying9
  a9 := Tryz.isAgg9
  z9 := Tryz.sizeOf9
  v9 := Tryz.zeroValue9
  t21 := Tryz.underlying21
  a21 := Tryz.isAgg21
  z21 := Tryz.sizeOf21
  v21 := Tryz.zeroValue21
  t46 := Tryz.underlying148
  a46 := Tryz.isAgg148
  z46 := Tryz.sizeOf148
  v46 := Tryz.zeroValue148
  t105 := Tryz.underlying227
  a105 := Tryz.isAgg227
  z105 := Tryz.sizeOf227
  v105 := Tryz.zeroValue227
  t119 := Tryz.underlying198
  a119 := Tryz.isAgg198
  z119 := Tryz.sizeOf198
  t138 := Tryz.underlying200
  a138 := Tryz.isAgg200
  z138 := Tryz.sizeOf200
  v138 := Tryz.zeroValue200
  t139 := Tryz.underlying201
  a139 := Tryz.isAgg201
  z139 := Tryz.sizeOf201
  v139 := Tryz.zeroValue201
  g3 := by kernel_rfl
  g4 := by kernel_rfl }
def Tryz.laysString_ren : Go.Shelf.Ren := ⟨fun | 169 => 66 | n => n, fun | 70 => 106 | 9 => 9 | 0 => 0 | 72 => 108 | 37 => 98 | 127 => 129 | 3 => 3 | 5 => 5 | n => n, fun | n => n⟩
theorem Tryz.laysString : Go.Proofs.Lays.n169 Tryz.prog Tryz.laysString_ren := {
  mixed := by kernel_rfl
  f169 := Tryz.func66.trans (congrArg some (by kernel_rfl))
  t0 := Tryz.underlying0
  a0 := Tryz.isAgg0
  z0 := Tryz.sizeOf0
  v0 := Tryz.zeroValue0
  t3 := Tryz.underlying3
  a3 := Tryz.isAgg3
  z3 := Tryz.sizeOf3
  v3 := Tryz.zeroValue3
  t9 := Tryz.underlying9
  a9 := Tryz.isAgg9
  z9 := Tryz.sizeOf9
  v9 := Tryz.zeroValue9
  t37 := Tryz.underlying98
  a37 := Tryz.isAgg98
  z37 := Tryz.sizeOf98
  v37 := Tryz.zeroValue98
  t70 := Tryz.underlying106
  a70 := Tryz.isAgg106
  z70 := Tryz.sizeOf106
  v70 := Tryz.zeroValue106
  t72 := Tryz.underlying108
  a72 := Tryz.isAgg108
  z72 := Tryz.sizeOf108
  v72 := Tryz.zeroValue108
  t127 := Tryz.underlying129
  a127 := Tryz.isAgg129
  z127 := Tryz.sizeOf129
  v127 := Tryz.zeroValue129 }
def Tryz.laysParseInt_ren : Go.Shelf.Ren := ⟨fun | 174 => 138 | 247 => 156 | 245 => 157 | 287 => 167 | 279 => 168 | 280 => 169 | 281 => 170 | 282 => 171 | 321 => 179 | 322 => 180 | 316 => 57 | 171 => 12 | 205 => 181 | 243 => 25 | 246 => 42 | 283 => 67 | 284 => 68 | 285 => 69 | 286 => 70 | 129 => 102 | 317 => 101 | 318 => 103 | 319 => 104 | 320 => 105 | 337 => 131 | 338 => 132 | n => n, fun | 9 => 9 | 3 => 3 | 2 => 2 | 75 => 137 | 85 => 195 | 4 => 4 | 167 => 241 | 5 => 5 | 53 => 112 | 175 => 242 | 46 => 148 | 168 => 244 | 37 => 98 | 0 => 0 | 210 => 253 | 21 => 21 | 127 => 129 | 145 => 262 | 143 => 260 | 171 => 111 | 173 => 115 | 212 => 145 | 51 => 146 | 20 => 20 | 213 => 147 | 232 => 224 | 233 => 225 | 80 => 110 | n => n, fun | 15 => 5 | 16 => 6 | 17 => 0 | 18 => 3 | 19 => 4 | n => n⟩
theorem Tryz.laysParseInt : Go.Proofs.LaysC.n174 Tryz.prog Tryz.laysParseInt_ren := {
  mixed := by kernel_rfl
  f129 := Tryz.func102.trans (congrArg some (by kernel_rfl))
  f171 := Tryz.func12.trans (congrArg some (by kernel_rfl))
  f174 := Tryz.func138.trans (congrArg some (by kernel_rfl))
  f205 := Tryz.func181.trans (congrArg some (by kernel_rfl))
  f243 := Tryz.func25.trans (congrArg some (by kernel_rfl))
  f245 := Tryz.func157.trans (congrArg some (by kernel_rfl))
  f246 := Tryz.func42.trans (congrArg some (by kernel_rfl))
  f247 := Tryz.func156.trans (congrArg some (by kernel_rfl))
  f279 := Tryz.func168.trans (congrArg some (by kernel_rfl))
  f280 := Tryz.func169.trans (congrArg some (by kernel_rfl))
  f281 := Tryz.func170.trans (congrArg some (by kernel_rfl))
  f282 := Tryz.func171.trans (congrArg some (by kernel_rfl))
  f283 := Tryz.func67.trans (congrArg some (by kernel_rfl))
  f284 := Tryz.func68.trans (congrArg some (by kernel_rfl))
  f285 := Tryz.func69.trans (congrArg some (by kernel_rfl))
  f286 := Tryz.func70.trans (congrArg some (by kernel_rfl))
  f287 := Tryz.func167.trans (congrArg some (by kernel_rfl))
  f316 := Tryz.func57.trans (congrArg some (by kernel_rfl))
  f317 := Tryz.func101.trans (congrArg some (by kernel_rfl))
  f318 := Tryz.func103.trans (congrArg some (by kernel_rfl))
  f319 := Tryz.func104.trans (congrArg some (by kernel_rfl))
  f320 := Tryz.func105.trans (congrArg some (by kernel_rfl))
  f321 := Tryz.func179.trans (congrArg some (by kernel_rfl))
  f322 := Tryz.func180.trans (congrArg some (by kernel_rfl))
  f337 := Tryz.func131.trans (congrArg some (by kernel_rfl))
  f338 := Tryz.func132.trans (congrArg some (by kernel_rfl))
  t0 := Tryz.underlying0
  a0 := Tryz.isAgg0
  z0 := Tryz.sizeOf0
  v0 := Tryz.zeroValue0
  t2 := Tryz.underlying2
  a2 := Tryz.isAgg2
  z2 := Tryz.sizeOf2
  v2 := Tryz.zeroValue2
  t3 := Tryz.underlying3
  a3 := Tryz.isAgg3
  z3 := Tryz.sizeOf3
  v3 := Tryz.zeroValue3
  t4 := Tryz.underlying4
  a4 := Tryz.isAgg4
  z4 := Tryz.sizeOf4
  v4 := Tryz.zeroValue4
  t5 := Tryz.underlying5
  a5 := Tryz.isAgg5
  z5 := Tryz.sizeOf5
  v5 := Tryz.zeroValue5
  t9 := Tryz.underlying9
  a9 := Tryz.isAgg9
  z9 := Tryz.sizeOf9
  v9 := Tryz.zeroValue9
  t20 := Tryz.underlying20
  a20 := Tryz.isAgg20
  z20 := Tryz.sizeOf20
  v20 := Tryz.zeroValue20
  t21 := Tryz.underlying21
  a21 := Tryz.isAgg21
  z21 := Tryz.sizeOf21
  v21 := Tryz.zeroValue21
  t37 := Tryz.underlying98
  a37 := Tryz.isAgg98
  z37 := Tryz.sizeOf98
  v37 := Tryz.zeroValue98
  t46 := Tryz.underlying148
  a46 := Tryz.isAgg148
  z46 := Tryz.sizeOf148
  v46 := Tryz.zeroValue148
  t51 := Tryz.underlying146
  a51 := Tryz.isAgg146
  z51 := Tryz.sizeOf146
  v51 := Tryz.zeroValue146
  t53 := Tryz.underlying112
  a53 := Tryz.isAgg112
  z53 := Tryz.sizeOf112
  v53 := Tryz.zeroValue112
  t75 := Tryz.underlying137
  a75 := Tryz.isAgg137
  z75 := Tryz.sizeOf137
  v75 := Tryz.zeroValue137
  t85 := Tryz.underlying195
  a85 := Tryz.isAgg195
  z85 := Tryz.sizeOf195
  v85 := Tryz.zeroValue195
  t127 := Tryz.underlying129
  a127 := Tryz.isAgg129
  z127 := Tryz.sizeOf129
  v127 := Tryz.zeroValue129
  t143 := Tryz.underlying260
  a143 := Tryz.isAgg260
  z143 := Tryz.sizeOf260
  v143 := Tryz.zeroValue260
  t145 := Tryz.underlying262
  a145 := Tryz.isAgg262
  z145 := Tryz.sizeOf262
  v145 := Tryz.zeroValue262
  t167 := Tryz.underlying241
  a167 := Tryz.isAgg241
  z167 := Tryz.sizeOf241
  v167 := Tryz.zeroValue241
  t168 := Tryz.underlying244
  a168 := Tryz.isAgg244
  z168 := Tryz.sizeOf244
  v168 := Tryz.zeroValue244
  t171 := Tryz.underlying111
  a171 := Tryz.isAgg111
  z171 := Tryz.sizeOf111
  v171 := Tryz.zeroValue111
  t173 := Tryz.underlying115
  a173 := Tryz.isAgg115
  z173 := Tryz.sizeOf115
  v173 := Tryz.zeroValue115
  t175 := Tryz.underlying242
  a175 := Tryz.isAgg242
  z175 := Tryz.sizeOf242
  v175 := Tryz.zeroValue242
  t210 := Tryz.underlying253
  a210 := Tryz.isAgg253
  z210 := Tryz.sizeOf253
  v210 := Tryz.zeroValue253
  t212 := Tryz.underlying145
  a212 := Tryz.isAgg145
  z212 := Tryz.sizeOf145
  v212 := Tryz.zeroValue145
  t213 := Tryz.underlying147
  a213 := Tryz.isAgg147
  z213 := Tryz.sizeOf147
  t232 := Tryz.underlying224
  a232 := Tryz.isAgg224
  z232 := Tryz.sizeOf224
  v232 := Tryz.zeroValue224
  t233 := Tryz.underlying225
  a233 := Tryz.isAgg225
  z233 := Tryz.sizeOf225
  v233 := Tryz.zeroValue225
  g15 := by kernel_rfl
  g16 := by kernel_rfl
  g17 := by kernel_rfl
  g18 := by kernel_rfl
  g19 := by kernel_rfl
  t80 := Tryz.underlying110
  a80 := Tryz.isAgg110
  z80 := Tryz.sizeOf110
  v80 := Tryz.zeroValue110
  i0 := by kernel_rfl
  i2 := by kernel_rfl
  i3 := by kernel_rfl
  i4 := by kernel_rfl
  i5 := by kernel_rfl
  i9 := by kernel_rfl
  i20 := by kernel_rfl
  i21 := by kernel_rfl
  i37 := by kernel_rfl
  i46 := by kernel_rfl
  i51 := by kernel_rfl
  i53 := by kernel_rfl
  i75 := by kernel_rfl
  i80 := by kernel_rfl
  i85 := by kernel_rfl
  i127 := by kernel_rfl
  i143 := by kernel_rfl
  i145 := by kernel_rfl
  i167 := by kernel_rfl
  i168 := by kernel_rfl
  i171 := by kernel_rfl
  i173 := by kernel_rfl
  i175 := by kernel_rfl
  i210 := by kernel_rfl
  i212 := by kernel_rfl
  i232 := by kernel_rfl
  i233 := by kernel_rfl
  m15 := by kernel_rfl
  m16 := by kernel_rfl
  m17 := by kernel_rfl
  m18 := by kernel_rfl
  m19 := by kernel_rfl
  c0 := by kernel_rfl
  c2 := by kernel_rfl
  c3 := by kernel_rfl
  c4 := by kernel_rfl
  c5 := by kernel_rfl
  c9 := by kernel_rfl
  c20 := by kernel_rfl
  c21 := by kernel_rfl
  c37 := by kernel_rfl
  c46 := by kernel_rfl
  c51 := by kernel_rfl
  c53 := by kernel_rfl
  c75 := by kernel_rfl
  c80 := by kernel_rfl
  c85 := by kernel_rfl
  c127 := by kernel_rfl
  c143 := by kernel_rfl
  c145 := by kernel_rfl
  c167 := by kernel_rfl
  c168 := by kernel_rfl
  c171 := by kernel_rfl
  c173 := by kernel_rfl
  c175 := by kernel_rfl
  c210 := by kernel_rfl
  c212 := by kernel_rfl
  c213 := by kernel_rfl
  c232 := by kernel_rfl
  c233 := by kernel_rfl }
def Tryz.laysWriteRune_ren : Go.Shelf.Ren := ⟨fun | 168 => 134 | 240 => 128 | 242 => 153 | 276 => 151 | 278 => 164 | n => n, fun | 0 => 0 | 3 => 3 | 4 => 4 | 5 => 5 | 9 => 9 | 20 => 20 | 21 => 21 | 37 => 98 | 46 => 148 | 51 => 146 | 70 => 106 | 72 => 108 | 75 => 137 | 164 => 222 | 80 => 110 | n => n, fun | n => n⟩
theorem Tryz.laysWriteRune : Go.Proofs.Lays.n168 Tryz.prog Tryz.laysWriteRune_ren := {
  mixed := by kernel_rfl
  f168 := Tryz.func134.trans (congrArg some (by kernel_rfl))
  f240 := Tryz.func128.trans (congrArg some (by kernel_rfl))
  f242 := Tryz.func153.trans (congrArg some (by kernel_rfl))
  f276 := Tryz.func151.trans (congrArg some (by kernel_rfl))
  f278 := Tryz.func164.trans (congrArg some (by kernel_rfl))
  t0 := Tryz.underlying0
  a0 := Tryz.isAgg0
  z0 := Tryz.sizeOf0
  v0 := Tryz.zeroValue0
  t3 := Tryz.underlying3
  a3 := Tryz.isAgg3
  z3 := Tryz.sizeOf3
  v3 := Tryz.zeroValue3
  t4 := Tryz.underlying4
  a4 := Tryz.isAgg4
  z4 := Tryz.sizeOf4
  v4 := Tryz.zeroValue4
  t5 := Tryz.underlying5
  a5 := Tryz.isAgg5
  z5 := Tryz.sizeOf5
  v5 := Tryz.zeroValue5
  t9 := Tryz.underlying9
  a9 := Tryz.isAgg9
  z9 := Tryz.sizeOf9
  v9 := Tryz.zeroValue9
  t20 := Tryz.underlying20
  a20 := Tryz.isAgg20
  z20 := Tryz.sizeOf20
  v20 := Tryz.zeroValue20
  t21 := Tryz.underlying21
  a21 := Tryz.isAgg21
  z21 := Tryz.sizeOf21
  v21 := Tryz.zeroValue21
  t37 := Tryz.underlying98
  a37 := Tryz.isAgg98
  z37 := Tryz.sizeOf98
  v37 := Tryz.zeroValue98
  t46 := Tryz.underlying148
  a46 := Tryz.isAgg148
  z46 := Tryz.sizeOf148
  v46 := Tryz.zeroValue148
  t51 := Tryz.underlying146
  a51 := Tryz.isAgg146
  z51 := Tryz.sizeOf146
  v51 := Tryz.zeroValue146
  t70 := Tryz.underlying106
  a70 := Tryz.isAgg106
  z70 := Tryz.sizeOf106
  v70 := Tryz.zeroValue106
  t72 := Tryz.underlying108
  a72 := Tryz.isAgg108
  z72 := Tryz.sizeOf108
  v72 := Tryz.zeroValue108
  t75 := Tryz.underlying137
  a75 := Tryz.isAgg137
  z75 := Tryz.sizeOf137
  v75 := Tryz.zeroValue137
  t164 := Tryz.underlying222
  a164 := Tryz.isAgg222
  z164 := Tryz.sizeOf222
  v164 := Tryz.zeroValue222 }
theorem Tryz.extraWriteRune : Go.Proofs.Builder.Extra Tryz.prog Tryz.laysWriteRune_ren := {
  sizeBuilder := by kernel_rfl
  liesBuilder := by kernel_rfl
  t5 := Tryz.underlying5
  a5 := Tryz.isAgg5
  z5 := Tryz.sizeOf5
  v5 := Tryz.zeroValue5
  infoByte := by kernel_rfl
  cellsByte := by kernel_rfl
  sizeByte := by kernel_rfl
  neB5 := by decide }
theorem Tryz.extraString : Go.Proofs.Builder.Extra Tryz.prog Tryz.laysString_ren := {
  sizeBuilder := by kernel_rfl
  liesBuilder := by kernel_rfl
  t5 := Tryz.underlying5
  a5 := Tryz.isAgg5
  z5 := Tryz.sizeOf5
  v5 := Tryz.zeroValue5
  infoByte := by kernel_rfl
  cellsByte := by kernel_rfl
  sizeByte := by kernel_rfl
  neB5 := by decide }
end Go.Proofs
/- The walks of the program's parser: words, escapes, letters. -/
namespace Go.Proofs.YtknakfpciccoaabGreatDoor
open Go.RowKit

theorem prefix_any (s p : ByteArray) (w : World) : Calls Tryz.prog 158 #[.string s, .string p] w fun e w' => e = .returned (.bool (Lib.hasPrefix s.data.toList p.data.toList)) ∧ w' = w := Any.strings_HasPrefix Tryz.laysPrefix s p w
theorem prefix_is {s p : ByteArray} {b : Bool} (h : Hid (Lib.hasPrefix s.data.toList p.data.toList = b)) (w : World) : Calls Tryz.prog 158 #[.string s, .string p] w fun e w' => e = .returned (.bool b) ∧ w' = w := by
  refine (prefix_any s p w).mono ?_
  rintro e w' ⟨rfl, rfl⟩
  exact ⟨ret_bool h.out, rfl⟩
set_option maxHeartbeats 1000000 in
set_option maxRecDepth 100000 in
theorem word_yes (c : Nat) (s : ByteArray) (i : Nat) (t : ByteArray) (w : World) (h : PL c s i w) (hs : s.size ≤ 4000) (hp : pfx s i t = true) :
    Calls Tryz.prog 139 #[.pointer (some ⟨c, 0, none⟩), .string t] w (AccPost c s true (i + t.size) w) := by
  have hle := pfx_le hp
  have HL := hid h
  have q0 := h.q0
  have q1 := h.q1
  have x1 : (i : Int) ≤ (s.size : Int) := by omega
  have HQ : Hid (Lib.hasPrefix (s.extract i s.size).data.toList t.data.toList = true) := (pfx_list s i t (by omega)).trans hp
  clear h hp
  go_enter Tryz.func139, Tryz.ntmps139
  go_wp2_with fail
  go_quiet ((go_at_call 158; exact Calls.quiet_of_same (prefix_is HQ _)))
  have HB := hid (below_drewN (Below.refl w.heap.size w) nq)
  generalize w.drewN nq = w1 at HB ⊢
  have HL1 := hid (HL.out.keep HB.out)
  have r1 := HL1.out.q1
  have r2 := HL1.out.f1
  clear q0 q1
  go_wp2_with fail
  go_ret
  exact ⟨rfl, (But.of HB.out).trans (But.set w1 c 1 _), HL1.out.set (i + t.size)⟩
set_option maxHeartbeats 1000000 in
set_option maxRecDepth 100000 in
theorem word_no (c : Nat) (s : ByteArray) (i : Nat) (t : ByteArray) (w : World) (h : PL c s i w) (hi : i ≤ s.size) (hp : pfx s i t = false) :
    Calls Tryz.prog 139 #[.pointer (some ⟨c, 0, none⟩), .string t] w (AccPost c s false i w) := by
  have HL := hid h
  have q0 := h.q0
  have q1 := h.q1
  have x1 : (i : Int) ≤ (s.size : Int) := by omega
  have HQ : Hid (Lib.hasPrefix (s.extract i s.size).data.toList t.data.toList = false) := (pfx_list s i t (by omega)).trans hp
  clear h hp
  go_enter Tryz.func139, Tryz.ntmps139
  go_wp2_with fail
  go_quiet ((go_at_call 158; exact Calls.quiet_of_same (prefix_is HQ _)))
  have HB := hid (below_drewN (Below.refl w.heap.size w) nq)
  generalize w.drewN nq = w1 at HB ⊢
  go_wp2_with fail
  go_ret
  exact ⟨rfl, But.of HB.out, HL.out.keep HB.out⟩
def RunePost (c : Nat) (s : ByteArray) (x : Option (Nat × Nat)) (w : World) (e : Ending) (w' : World) : Prop :=
  But c w w' ∧ ((∃ r j, x = some (r, j) ∧ e = .returned (.int .i32 (r : Int)) ∧ PL c s j w') ∨ (x = none ∧ e = refusedT 2))
set_option maxHeartbeats 1000000 in
set_option maxRecDepth 100000 in
theorem code_any (c : Nat) (s : ByteArray) (i : Nat) (w : World) (h : PL c s i w) (hs : s.size ≤ 4000) (hi : i ≤ s.size) :
    Calls Tryz.prog 165 #[.pointer (some ⟨c, 0, none⟩)] w (RunePost c s ((hex4 s i).bind fun a => low s (i + 4) a) w) := by
  have HF := hid (four_any c s i w h hs hi)
  clear h
  go_enter Tryz.func165, Tryz.ntmps165
  go_wp2_with fail
  refine HF.out.mono ?_
  rintro e w1 ⟨hB1, ⟨a, ha, rfl, hL1⟩ | ⟨ha, rfl⟩⟩
  · have HB1 := hid hB1
    have HL1 := hid hL1
    have ha2 := (hexN_lt ha).1
    have ha3 : i + 4 ≤ s.size := (hexN_lt ha).2 (by omega)
    have HX : Hid (((hex4 s i).bind fun a => low s (i + 4) a) = low s (i + 4) a) := by show _ = _; rw [ha]; rfl
    clear hB1 hL1 HF ha
    have ha4 : a < 65536 := ha2
    clear ha2
    by_cases h1 : a < 55296 ∨ 57343 < a
    · have HW : Hid (low s (i + 4) a = some (a, i + 4)) := by show _ = _; unfold low; rw [if_pos h1]
      by_cases h2 : a < 55296
      · have y1 : decide ((a : Int) < 55296) = true := decide_eq_true (by omega)
        go_wp2_with fail
        go_ret
        exact ⟨HB1.out, Or.inl ⟨a, i + 4, HX.out.trans HW.out, rfl, HL1.out⟩⟩
      · have y1 : decide ((a : Int) < 55296) = false := decide_eq_false (by omega)
        have y2 : (57343 : Int) < (a : Int) := by omega
        go_wp2_with fail
        go_ret
        exact ⟨HB1.out, Or.inl ⟨a, i + 4, HX.out.trans HW.out, rfl, HL1.out⟩⟩
    · have y1 : decide ((a : Int) < 55296) = false := decide_eq_false (by omega)
      have y2 : decide ((57343 : Int) < (a : Int)) = false := decide_eq_false (by omega)
      by_cases h2 : 56319 < a
      · have HW : Hid (low s (i + 4) a = none) := by show _ = _; unfold low; rw [if_neg h1, if_pos h2]
        have y3 : decide ((56319 : Int) < (a : Int)) = true := decide_eq_true (by omega)
        clear h1 h2
        go_wp2_with fail
        exact ⟨rfl, HB1.out, Or.inr ⟨HX.out.trans HW.out, rfl⟩⟩
      · have y3 : decide ((56319 : Int) < (a : Int)) = false := decide_eq_false (by omega)
        have HW : Hid (low s (i + 4) a = if cB s (i + 4) = 92 ∧ cB s (i + 4 + 1) = 117 then (hex4 s (i + 4 + 2)).bind fun b => if b < 56320 ∨ 57343 < b then none else some (65536 + 1024 * (a - 55296) + (b - 56320), i + 4 + 6) else none) := by show _ = _; unfold low; rw [if_neg h1, if_neg h2]
        have H12 : Hid (55296 ≤ a ∧ a ≤ 56319) := by show _ ∧ _; omega
        clear h1 h2
        by_cases h3 : cB s (i + 4) = 92
        · have h3l : i + 4 < s.size := cB_in (by omega)
          go_wp2_with fail
          refine (expect_yes c s (i + 4) 92 w1 HL1.out hs (by omega) (by omega)).mono ?_
          rintro e w2 ⟨rfl, hB2, hL2⟩
          have HB2 := hid (HB1.out.trans hB2)
          have HL2 := hid hL2
          clear hB2 hL2 HB1 HL1
          by_cases h4 : cB s (i + 4 + 1) = 117
          · have h4l : i + 4 + 1 < s.size := cB_in (by omega)
            go_wp2_with fail
            refine (expect_yes c s (i + 4 + 1) 117 w2 HL2.out hs (by omega) (by omega)).mono ?_
            rintro e w3 ⟨rfl, hB3, hL3⟩
            have HB3 := hid (HB2.out.trans hB3)
            have HL3 := hid hL3
            clear hB3 hL3 HB2 HL2
            go_wp2_with fail
            refine (four_any c s (i + 4 + 1 + 1) w3 HL3.out hs (by omega)).mono ?_
            rintro e w4 ⟨hB4, ⟨b, hb, rfl, hL4⟩ | ⟨hb, rfl⟩⟩
            · have HB4 := hid (HB3.out.trans hB4)
              have HL4 := hid hL4
              have hb2 : b < 65536 := (hexN_lt hb).1
              have HY : Hid (low s (i + 4) a = if b < 56320 ∨ 57343 < b then none else some (65536 + 1024 * (a - 55296) + (b - 56320), i + 4 + 6)) := by show _ = _; rw [HW.out, if_pos ⟨h3, h4⟩, hb]; rfl
              clear hB4 hL4 HB3 HL3 hb HW
              by_cases h5 : b < 56320 ∨ 57343 < b
              · have HZ : Hid (low s (i + 4) a = none) := by show _ = _; rw [HY.out, if_pos h5]
                by_cases h6 : b < 56320
                · have z1 : decide ((b : Int) < 56320) = true := decide_eq_true (by omega)
                  go_wp2_with fail
                  exact ⟨rfl, HB4.out, Or.inr ⟨HX.out.trans HZ.out, rfl⟩⟩
                · have z1 : decide ((b : Int) < 56320) = false := decide_eq_false (by omega)
                  have z2 : (57343 : Int) < (b : Int) := by omega
                  go_wp2_with fail
                  exact ⟨rfl, HB4.out, Or.inr ⟨HX.out.trans HZ.out, rfl⟩⟩
              · have HZ : Hid (low s (i + 4) a = some (65536 + 1024 * (a - 55296) + (b - 56320), i + 4 + 6)) := by show _ = _; rw [HY.out, if_neg h5]
                have z1 : decide ((b : Int) < 56320) = false := decide_eq_false (by omega)
                have z2 : decide ((57343 : Int) < (b : Int)) = false := decide_eq_false (by omega)
                go_wp2_with fail
                go_ret
                refine ⟨HB4.out, Or.inl ⟨_, _, HX.out.trans HZ.out, ret_int ?_, HL4.out⟩⟩
                have h12 := H12.out
                have hb12 : 56320 ≤ b ∧ b ≤ 57343 := by omega
                go_num
            · have HB4 := hid (HB3.out.trans hB4)
              have HZ : Hid (low s (i + 4) a = none) := by show _ = _; rw [HW.out, if_pos ⟨h3, h4⟩, hb]; rfl
              clear hB4 HB3 HL3 hb HW
              go_wp2_with fail
              exact ⟨rfl, HB4.out, Or.inr ⟨HX.out.trans HZ.out, rfl⟩⟩
          · have HZ : Hid (low s (i + 4) a = none) := by show _ = _; rw [HW.out, if_neg (fun h => h4 h.2)]
            go_wp2_with fail
            refine (expect_no c s (i + 4 + 1) 117 w2 HL2.out hs (by omega) (by omega)).mono ?_
            rintro e w3 ⟨rfl, hB3⟩
            have HB3 := hid (HB2.out.trans hB3)
            clear hB3
            go_wp2_with fail
            exact ⟨rfl, HB3.out, Or.inr ⟨HX.out.trans HZ.out, rfl⟩⟩
        · have HZ : Hid (low s (i + 4) a = none) := by show _ = _; rw [HW.out, if_neg (fun h => h3 h.1)]
          go_wp2_with fail
          refine (expect_no c s (i + 4) 92 w1 HL1.out hs (by omega) (by omega)).mono ?_
          rintro e w3 ⟨rfl, hB3⟩
          have HB3 := hid (HB1.out.trans hB3)
          clear hB3
          go_wp2_with fail
          exact ⟨rfl, HB3.out, Or.inr ⟨HX.out.trans HZ.out, rfl⟩⟩
  · have HB1 := hid hB1
    have HX : Hid (((hex4 s i).bind fun a => low s (i + 4) a) = none) := by show _ = _; rw [ha]; rfl
    clear hB1 HF ha
    go_wp2_with fail
    exact ⟨rfl, HB1.out, Or.inr ⟨HX.out, rfl⟩⟩
end Go.Proofs.YtknakfpciccoaabGreatDoor
/- The walks of the program's parser: escapes, letters, texts. -/
namespace Go.Proofs.YtknakfpciccoaabGreatDoor
open Go.RowKit

set_option maxHeartbeats 2000000 in
set_option maxRecDepth 100000 in
theorem escape_any (c : Nat) (s : ByteArray) (i : Nat) (w : World) (h : PL c s i w) (hs : s.size ≤ 4000) (hi : i ≤ s.size) :
    Calls Tryz.prog 154 #[.pointer (some ⟨c, 0, none⟩)] w (RunePost c s (escR s i) w) := by
  have HN := hid (next_any c s i w h hs hi)
  clear h
  go_enter Tryz.func154, Tryz.ntmps154
  go_wp2_with fail
  refine HN.out.mono ?_
  rintro e w1 ⟨hB1, ⟨hlt, rfl, hL1⟩ | ⟨he, rfl⟩⟩
  · have HB1 := hid hB1
    have HL1 := hid hL1
    have HE : Hid (escR s i = if cB s i = 34 ∨ cB s i = 92 ∨ cB s i = 47 then some (cB s i, i + 1) else if cB s i = 98 then some (8, i + 1) else if cB s i = 102 then some (12, i + 1) else if cB s i = 110 then some (10, i + 1) else if cB s i = 114 then some (13, i + 1) else if cB s i = 116 then some (9, i + 1) else if cB s i = 117 then (hex4 s (i + 1)).bind fun a => low s (i + 5) a else none) := by show _ = _; rfl
    have hx := cB_lt hlt
    clear hB1 hL1 HN
    generalize cB s i = x at HE hx ⊢
    by_cases h34 : x = 34
    · subst h34
      have HZ : Hid (escR s i = some (34, i + 1)) := by show _ = _; rw [HE.out]; rfl
      go_wp2_with fail
      go_ret
      exact ⟨HB1.out, Or.inl ⟨_, _, HZ.out, rfl, HL1.out⟩⟩
    have d34 : ((x : Int) == 34) = false := by rw [beq_eq_false_iff_ne]; omega
    by_cases h92 : x = 92
    · subst h92
      have HZ : Hid (escR s i = some (92, i + 1)) := by show _ = _; rw [HE.out]; rfl
      go_wp2_with fail
      go_ret
      exact ⟨HB1.out, Or.inl ⟨_, _, HZ.out, rfl, HL1.out⟩⟩
    have d92 : ((x : Int) == 92) = false := by rw [beq_eq_false_iff_ne]; omega
    by_cases h47 : x = 47
    · subst h47
      have HZ : Hid (escR s i = some (47, i + 1)) := by show _ = _; rw [HE.out]; rfl
      go_wp2_with fail
      go_ret
      exact ⟨HB1.out, Or.inl ⟨_, _, HZ.out, rfl, HL1.out⟩⟩
    have d47 : ((x : Int) == 47) = false := by rw [beq_eq_false_iff_ne]; omega
    by_cases h98 : x = 98
    · subst h98
      have HZ : Hid (escR s i = some (8, i + 1)) := by show _ = _; rw [HE.out]; rfl
      go_wp2_with fail
      go_ret
      exact ⟨HB1.out, Or.inl ⟨_, _, HZ.out, rfl, HL1.out⟩⟩
    by_cases h102 : x = 102
    · subst h102
      have HZ : Hid (escR s i = some (12, i + 1)) := by show _ = _; rw [HE.out]; rfl
      go_wp2_with fail
      go_ret
      exact ⟨HB1.out, Or.inl ⟨_, _, HZ.out, rfl, HL1.out⟩⟩
    by_cases h110 : x = 110
    · subst h110
      have HZ : Hid (escR s i = some (10, i + 1)) := by show _ = _; rw [HE.out]; rfl
      go_wp2_with fail
      go_ret
      exact ⟨HB1.out, Or.inl ⟨_, _, HZ.out, rfl, HL1.out⟩⟩
    by_cases h114 : x = 114
    · subst h114
      have HZ : Hid (escR s i = some (13, i + 1)) := by show _ = _; rw [HE.out]; rfl
      go_wp2_with fail
      go_ret
      exact ⟨HB1.out, Or.inl ⟨_, _, HZ.out, rfl, HL1.out⟩⟩
    by_cases h116 : x = 116
    · subst h116
      have HZ : Hid (escR s i = some (9, i + 1)) := by show _ = _; rw [HE.out]; rfl
      go_wp2_with fail
      go_ret
      exact ⟨HB1.out, Or.inl ⟨_, _, HZ.out, rfl, HL1.out⟩⟩
    by_cases h117 : x = 117
    · subst h117
      have HZ : Hid (escR s i = (hex4 s (i + 1)).bind fun a => low s (i + 1 + 4) a) := by show _ = _; rw [HE.out]; rfl
      go_wp2_with fail
      refine (code_any c s (i + 1) w1 HL1.out hs (by omega)).mono ?_
      rintro e w2 ⟨hB2, ⟨r, j, hr, rfl, hL2⟩ | ⟨hr, rfl⟩⟩
      · have HB2 := hid (HB1.out.trans hB2)
        have HL2 := hid hL2
        have HR := hid hr
        clear hB2 hL2 hr
        go_wp2_with fail
        go_ret
        exact ⟨HB2.out, Or.inl ⟨_, _, HZ.out.trans HR.out, rfl, HL2.out⟩⟩
      · have HB2 := hid (HB1.out.trans hB2)
        have HR := hid hr
        clear hB2 hr
        go_wp2_with fail
        exact ⟨rfl, HB2.out, Or.inr ⟨HZ.out.trans HR.out, rfl⟩⟩
    have HZ : Hid (escR s i = none) := by show _ = _; rw [HE.out, if_neg (by omega), if_neg h98, if_neg h102, if_neg h110, if_neg h114, if_neg h116, if_neg h117]
    go_wp2_with fail
    exact ⟨rfl, HB1.out, Or.inr ⟨HZ.out, rfl⟩⟩
  · have HB1 := hid hB1
    have HZ : Hid (escR s i = none) := by
      show _ = _
      have : cB s i = 256 := cB_end (by omega)
      unfold escR
      rw [this]
      rfl
    clear hB1 HN he
    go_wp2_with fail
    exact ⟨rfl, HB1.out, Or.inr ⟨HZ.out, rfl⟩⟩

/-- What Go's decoder and its reader of numbers answer, in worlds whose tables are as they were laid. -/
def DecSaid (Tb : World → Prop) : Prop := ∀ (s : ByteArray) (w : World), Tb w → Calls Tryz.prog 155 #[.string s] w fun e w' => e = .returned (.tuple #[.int .i32 ((decG s).1 : Int), .int .i64 ((decG s).2 : Int)]) ∧ Below w.heap.size w w'
def IntSaid (Tb : World → Prop) : Prop := ∀ (s : ByteArray) (w : World), s.size ≤ 4000 → Tb w → Calls Tryz.prog 138 #[.string s, .int .i64 10, .int .i64 64] w fun e w' => Below w.heap.size w w' ∧
  ((∃ v : Int, Lib.parseIntB 64 s.data.toList = .ok v ∧ e = .returned (.tuple #[.int .i64 v, .nilIface])) ∨ ((Lib.parseIntB 64 s.data.toList = .«syntax» ∨ Lib.parseIntB 64 s.data.toList = .range) ∧ ∃ (v : Int) (t : TypeId) (p : Value), e = .returned (.tuple #[.int .i64 v, .iface t p])))
theorem But.stays {Tb : World → Prop} {c : Nat} (hS : Stays Tb c) {w w' : World} (hT : Tb w) (hB : But c w w') (hc : c ≤ w.heap.size) : Tb w' := hS w w' hT (hB.below hc)
set_option maxHeartbeats 2000000 in
set_option maxRecDepth 100000 in
theorem letter_any {Tb : World → Prop} (hD : DecSaid Tb) (c : Nat) (hS : Stays Tb c) (s : ByteArray) (i : Nat) (w : World) (h : PL c s i w) (hT : Tb w) (hs : s.size ≤ 4000) (hi : i ≤ s.size) :
    Calls Tryz.prog 135 #[.pointer (some ⟨c, 0, none⟩)] w (RunePost c s (letS s i) w) := by
  have HL := hid h
  have HT := hid hT
  have HS := hid hS
  have HD := hid hD
  clear h hT hS hD
  by_cases h92 : cB s i = 92
  · have hlt : i < s.size := cB_in (by omega)
    have HA := hid (accept_yes c s i 92 w HL.out hs (by omega) (by omega))
    have HX : Hid (letS s i = escR s (i + 1)) := by show _ = _; unfold letS; rw [if_pos h92]
    clear h92
    go_enter Tryz.func135, Tryz.ntmps135
    go_wp2_with fail
    refine HA.out.mono ?_
    rintro e w1 ⟨rfl, hB1, hL1⟩
    have HB1 := hid hB1
    have HL1 := hid hL1
    clear hB1 hL1 HA
    go_wp2_with fail
    refine (escape_any c s (i + 1) w1 HL1.out hs (by omega)).mono ?_
    rintro e w2 ⟨hB2, ⟨r, j, hr, rfl, hL2⟩ | ⟨hr, rfl⟩⟩
    · have HB2 := hid (HB1.out.trans hB2)
      have HL2 := hid hL2
      have HR := hid (HX.out.trans hr)
      clear hB2 hL2 hr
      go_wp2_with fail
      go_ret
      exact ⟨HB2.out, Or.inl ⟨_, _, HR.out, rfl, HL2.out⟩⟩
    · have HB2 := hid (HB1.out.trans hB2)
      have HR := hid (HX.out.trans hr)
      clear hB2 hr
      go_wp2_with fail
      exact ⟨rfl, HB2.out, Or.inr ⟨HR.out, rfl⟩⟩
  · have HA := hid (accept_no c s i 92 w HL.out hi (by omega))
    have HX : Hid (letS s i = if (decG (suf s i)).1 < 32 ∨ ((decG (suf s i)).1 = 65533 ∧ (decG (suf s i)).2 ≤ 1) then none else some ((decG (suf s i)).1, i + (decG (suf s i)).2)) := by show _ = _; unfold letS; rw [if_neg h92]
    have hdr : (decG (suf s i)).2 ≤ 4000 ∧ (decG (suf s i)).1 ≤ 1114111 := by
      have hz := suf_size s i
      by_cases h0 : (suf s i).size = 0
      · rw [decG_nil h0]; omega
      · have := decode_range (suf s i) (by omega)
        rw [decG_eq (by omega)]
        omega
    clear h92
    go_enter Tryz.func135, Tryz.ntmps135
    go_wp2_with fail
    refine HA.out.mono ?_
    rintro e w1 ⟨rfl, hB1, hL1⟩
    have HB1 := hid hB1
    have HL1 := hid hL1
    have HT1 := hid (But.stays HS.out HT.out hB1 (Nat.le_of_lt HL.out.lt))
    have HT1d := hid (HS.out _ _ HT1.out (below_drew w1 |>.mono (Nat.le_of_lt HL1.out.lt)))
    have HL1d := hid (HL1.out.keep (below_drew w1))
    have q0 := HL1.out.q0
    have q1 := HL1.out.q1
    have x1 : (i : Int) ≤ (s.size : Int) := by omega
    clear hB1 hL1 HA
    have HDD : Hid (Calls Tryz.prog 155 #[.string (s.extract i s.size)] w1.drew fun e w' => e = .returned (.tuple #[.int .i32 ((decG (suf s i)).1 : Int), .int .i64 ((decG (suf s i)).2 : Int)]) ∧ Below w1.drew.heap.size w1.drew w') := HD.out _ _ HT1d.out
    have HSS : Hid (∀ wx : World, Below w1.drew.heap.size w1.drew wx → wx.cell? ⟨c, 0, none⟩ = some (.string s) ∧ wx.cell? ⟨c, 1, none⟩ = some (.int .i64 i)) := by
      intro wx hx
      have := HL1d.out.keep hx
      exact ⟨this.q0, this.q1⟩
    generalize (decG (suf s i)).1 = r at HX hdr HDD
    generalize (decG (suf s i)).2 = n at HX hdr HDD
    obtain ⟨hd1, hd2⟩ := hdr
    go_wp2_with fail
    go_region_held (fun wx => wx.cell? ⟨c, 0, none⟩ = some (.string s) ∧ wx.cell? ⟨c, 1, none⟩ = some (.int .i64 i)) (go_keep) ((go_at_call 155; refine HDD.out.mono ?_; rintro e w2 ⟨rfl, hb2⟩; have hc2 := HSS.out _ hb2))
    have HL2 := hid (HL1d.out.keep hb2)
    have HB2 := hid (HB1.out.trans ((But.of (below_drew w1)).trans (But.of hb2)))
    have r1 := HL2.out.q1
    have r2 := HL2.out.f1
    clear hb2 hc2 q0 q1 HDD HSS HL1d HT1d
    by_cases h1 : r < 32
    · have HZ : Hid (letS s i = none) := by show _ = _; rw [HX.out, if_pos (Or.inl h1)]
      have y1 : decide ((r : Int) < 32) = true := decide_eq_true (by omega)
      clear h1
      go_wp2_with fail
      exact ⟨rfl, HB2.out, Or.inr ⟨HZ.out, rfl⟩⟩
    · have y1 : decide ((r : Int) < 32) = false := decide_eq_false (by omega)
      by_cases h2 : r = 65533
      · have y2 : ((r : Int) == 65533) = true := by rw [beq_iff_eq]; omega
        by_cases h3 : n ≤ 1
        · have HZ : Hid (letS s i = none) := by show _ = _; rw [HX.out, if_pos (Or.inr ⟨h2, h3⟩)]
          have y3 : decide ((n : Int) ≤ 1) = true := decide_eq_true (by omega)
          clear h1 h2 h3
          go_wp2_with fail
          exact ⟨rfl, HB2.out, Or.inr ⟨HZ.out, rfl⟩⟩
        · have HZ : Hid (letS s i = some (r, i + n)) := by show _ = _; rw [HX.out, if_neg (by omega)]
          have y3 : decide ((n : Int) ≤ 1) = false := decide_eq_false (by omega)
          clear h1 h2 h3
          go_wp2_with fail
          go_ret
          exact ⟨HB2.out.trans (But.set w2 c 1 _), Or.inl ⟨_, _, HZ.out, rfl, HL2.out.set (i + n)⟩⟩
      · have HZ : Hid (letS s i = some (r, i + n)) := by show _ = _; rw [HX.out, if_neg (by omega)]
        have y2 : ((r : Int) == 65533) = false := by rw [beq_eq_false_iff_ne]; omega
        clear h1 h2
        go_wp2_with fail
        go_ret
        exact ⟨HB2.out.trans (But.set w2 c 1 _), Or.inl ⟨_, _, HZ.out, rfl, HL2.out.set (i + n)⟩⟩
end Go.Proofs.YtknakfpciccoaabGreatDoor
/- The walks of the program's parser: texts, numbers, words. -/
namespace Go.Proofs.YtknakfpciccoaabGreatDoor
open Go.RowKit

theorem rowF_move {w w' : World} {lo : Nat} {e : TypeId} {size n : Nat} {v : Value} {xs : List Value} (h : w.ownsRowF lo e size v n xs) (hb : ∀ b, lo ≤ b → b < w.heap.size → w'.heap[b]? = w.heap[b]?) : w'.ownsRowF lo e size v n xs := by
  refine ⟨h.1, ?_⟩
  rcases h.2 with hn | ⟨g, cap, cur, fz, rfl, hb0, hg, rest⟩
  · exact .inl hn
  · exact .inr ⟨g, cap, cur, fz, rfl, hb0, (hb g hb0 (Array.getElem?_eq_some_iff.1 hg).1).trans hg, rest⟩
theorem builderAt_but {T e : TypeId} {B b c : Nat} {p : Value} {bs : List Value} {w w' : World} (h : Lib.BuilderAtF T e B b p bs w) (hB : But c w w') (hc : c < B) : Lib.BuilderAtF T e B b p bs w' := by
  have hlt := h.lt
  obtain ⟨h0, v, hb, hown, hne⟩ := h
  exact ⟨h0, v, (hB.block b hlt (by omega)).trans hb, rowF_move hown (fun k h1 h2 => hB.block k h2 (by omega)), hne⟩
theorem builder_but {T e : TypeId} {B b c : Nat} {bs : List Value} {w w' : World} (h : Lib.IsBuilderF T e B b bs w) (hB : But c w w') (hc : c < B) : Lib.IsBuilderF T e B b bs w' :=
  h.elim (fun x => .inl (builderAt_but x hB hc)) (fun x => .inr (builderAt_but x hB hc))
theorem But.over {c : Nat} {w1 wr w' : World} (h : But c w1 wr) (hb : Below w1.heap.size wr w') : But c w1 w' :=
  ⟨hb.os.trans h.os, hb.tape.trans h.tape, hb.output.trans h.output, Nat.le_trans h.size hb.size, fun i hi hc => (hb.block i hi).trans (h.block i hi hc)⟩
theorem writeRune_any (B b : Nat) (acc : List UInt8) (r : Nat) (w : World) (hr : r ≤ 1114111) (h : Lib.IsBuilderF 108 5 B b (Lib.byteCells acc) w) (hl : acc.length ≤ 1000000) (hB : B ≤ w.heap.size) :
    Calls Tryz.prog 134 #[.pointer (some ⟨b, 0, none⟩), .int .i32 (r : Int)] w fun e w' => e = .returned (.tuple #[.int .i64 (Lib.runeCells (r : Int)).length, .nilIface]) ∧ Lib.IsBuilderF 108 5 B b (Lib.byteCells (acc ++ Lib.encodeRune (r : Int))) w' ∧ Below B w w' := by
  refine (Any.Builder_WriteRune_k Tryz.laysWriteRune Tryz.extraWriteRune B b (Lib.byteCells acc) (r : Int) (by omega) (by omega) w h (by rw [Lib.byteCells_length]; omega) hB).mono ?_
  rintro e w' ⟨rfl, h1, b1, _⟩
  refine ⟨rfl, Or.inr ?_, b1⟩
  rw [Lib.byteCells_append, Lib.byteCells_encodeRune]
  exact h1
theorem string_any (B b : Nat) (acc : List UInt8) (w : World) (h : Lib.IsBuilderF 108 5 B b (Lib.byteCells acc) w) (hB : B ≤ w.heap.size) :
    Calls Tryz.prog 66 #[.pointer (some ⟨b, 0, none⟩)] w fun e w' => e = .returned (.string (baL acc)) ∧ Below B w w' := by
  refine (Any.Builder_String_any_k Tryz.laysString Tryz.extraString B b acc w h hB).mono ?_
  rintro e w' ⟨rfl, _, b1, _⟩
  exact ⟨rfl, b1⟩
def StrPost (c : Nat) (s : ByteArray) (i : Nat) (w : World) (e : Ending) (w' : World) : Prop :=
  But c w w' ∧ ((∃ x j, txtS s i = some (x, j) ∧ e = .returned (.string x) ∧ PL c s j w') ∨ (txtS s i = none ∧ e = refusedT 2))
theorem txtS_of {s : ByteArray} {i : Nat} (h : cB s i = 34) : txtS s i = (txtN s (s.size + 1) (i + 1)).map fun p => (baL p.1, p.2) := by unfold txtS; rw [if_pos h]
theorem txtS_not {s : ByteArray} {i : Nat} (h : cB s i ≠ 34) : txtS s i = none := by unfold txtS; rw [if_neg h]
set_option maxHeartbeats 2000000 in
set_option maxRecDepth 100000 in
theorem str_any {Tb : World → Prop} (hD : DecSaid Tb) (c : Nat) (hS : Stays Tb c) (s : ByteArray) (i : Nat) (w : World) (h : PL c s i w) (hT : Tb w) (hs : s.size ≤ 4000) (hi : i ≤ s.size) :
    Calls Tryz.prog 108 #[.pointer (some ⟨c, 0, none⟩)] w (StrPost c s i w) := by
  have HL := hid h
  have HT := hid hT
  have HS := hid hS
  have HD := hid hD
  clear h hT hS hD
  by_cases h34 : cB s i = 34
  · have hlt : i < s.size := cB_in (by omega)
    have HA := hid (expect_yes c s i 34 w HL.out hs (by omega) (by omega))
    have HX := hid (txtS_of h34)
    clear h34
    go_enter Tryz.func108, Tryz.ntmps108
    go_wp2_with fail
    refine HA.out.mono ?_
    rintro e w1 ⟨rfl, hB1, hL1⟩
    have HB1 := hid hB1
    have HL1 := hid hL1
    have hc1 := hL1.lt
    have HT1 := hid (But.stays HS.out HT.out hB1 (Nat.le_of_lt HL.out.lt))
    clear hB1 hL1 HA
    have HF : Hid (Lib.IsBuilderF 108 5 w1.heap.size w1.heap.size (Lib.byteCells []) (w1.alloc (.cells #[.pointer none, .slice none 0 0] 108))) := Lib.IsBuilderF.of (Lib.fresh_isBuilder 108 5 w1)
    have HBa : Hid (But c w1 (w1.alloc (.cells #[.pointer none, .slice none 0 0] 108))) := But.of ((Below.refl _ _).alloc (Nat.le_refl _) _)
    have HLa := hid (HL1.out.keep ((Below.refl _ _).alloc (Nat.le_refl _) (.cells #[.pointer none, .slice none 0 0] 108)))
    go_wp2_with fail
    go_loopg [] (s.size - (i + 1)) (fun g wr => ∃ (k n : Nat) (acc : List UInt8), g = s.size - k ∧ k ≤ s.size ∧ s.size + 1 ≤ n + k ∧ acc.length ≤ 4 * k ∧ Hid (PL c s k wr) ∧ Hid (Lib.IsBuilderF 108 5 w1.heap.size w1.heap.size (Lib.byteCells acc) wr) ∧ Hid (But c w1 wr) ∧ Hid (txtN s (s.size + 1) (i + 1) = (txtN s n k).map fun p => (acc ++ p.1, p.2)))
    case atStart => exact ⟨i + 1, s.size + 1, [], rfl, by omega, by omega, by simp, HLa, HF, HBa, by show _ = _; cases txtN s (s.size + 1) (i + 1) <;> rfl⟩
    case round =>
      clear HF HBa HLa
      obtain ⟨k, n, acc, rfl, hk, hn, hacc, HLk, HF, HBk, HN⟩ := hrel
      obtain ⟨n, rfl⟩ : ∃ m, n = m + 1 := ⟨n - 1, by omega⟩
      by_cases hq : cB s k = 34
      · have HZ : Hid (txtS s i = some (baL acc, k + 1)) := by
          show _ = _
          rw [HX.out, HN.out, txtN_quote hq]
          simp
        go_wp2_with fail
        refine (accept_yes c s k 34 wr HLk.out hs (by omega) (by omega)).mono ?_
        rintro e w2 ⟨rfl, hB2, hL2⟩
        have HL2 := hid hL2
        have HF2 := hid (builder_but HF.out hB2 hc1)
        have HB2 := hid (HBk.out.trans hB2)
        clear hB2 hL2 HLk HF HBk
        go_wp2_with fail
        refine (string_any w1.heap.size w1.heap.size acc w2 HF2.out HB2.out.size).mono ?_
        rintro e w3 ⟨rfl, hb3⟩
        have HB3 := hid (HB2.out.over hb3)
        have HL3 := hid (HL2.out.move hb3.size (hb3.block _ hc1))
        clear hb3
        go_wp2_with fail
        go_ret
        exact ⟨HB1.out.trans HB3.out, Or.inl ⟨_, _, HZ.out, rfl, HL3.out⟩⟩
      · go_wp2_with fail
        refine (accept_no c s k 34 wr HLk.out hk (by omega)).mono ?_
        rintro e w2 ⟨rfl, hB2, hL2⟩
        have HL2 := hid hL2
        have HF2 := hid (builder_but HF.out hB2 hc1)
        have HB2 := hid (HBk.out.trans hB2)
        have HT2 := hid (But.stays HS.out HT1.out HB2.out (Nat.le_of_lt hc1))
        clear hB2 hL2 HLk HF HBk
        go_wp2_with fail
        refine (letter_any HD.out c HS.out s k w2 HL2.out HT2.out hs hk).mono ?_
        rintro e w3 ⟨hB3, ⟨r, j, hr, rfl, hL3⟩ | ⟨hr, rfl⟩⟩
        · have HL3 := hid hL3
          have HF3 := hid (builder_but HF2.out hB3 hc1)
          have HB3 := hid (HB2.out.trans hB3)
          have hadv := letS_adv hr
          have HN3 := hid (HN.out.trans (txtN_let (n := n) acc hq hr))
          have hl4 := Lib.runeCells_le (r : Int)
          rw [Lib.runeCells_length] at hl4
          clear hB3 hL3 hr HL2 HF2 HB2 HT2 HN
          go_wp2_with fail
          refine (writeRune_any w1.heap.size w1.heap.size acc r w3 hadv.2.2 HF3.out (by omega) HB3.out.size).mono ?_
          rintro e w4 ⟨rfl, hF4, hb4⟩
          have HL4 := hid (HL3.out.move hb4.size (hb4.block _ hc1))
          have HB4 := hid (HB3.out.over hb4)
          have HF4 := hid hF4
          clear hb4 hF4 HL3 HB3 HF3
          go_wp2_with fail
          go_roundg (s.size - j)
          case rel => exact ⟨j, n, acc ++ Lib.encodeRune (r : Int), rfl, by omega, by omega, by rw [List.length_append]; omega, HL4, HF4, HB4, HN3⟩
          case measure => omega
        · have HB3 := hid (HB1.out.trans (HB2.out.trans hB3))
          have HZ : Hid (txtS s i = none) := by
            show _ = _
            rw [HX.out, HN.out, txtN_none hq hr]
            rfl
          clear hB3 hr
          go_wp2_with fail
          exact ⟨rfl, HB3.out, Or.inr ⟨HZ.out, rfl⟩⟩
  · have HA := hid (expect_no c s i 34 w HL.out hs hi (by omega))
    have HX := hid (txtS_not h34)
    clear h34
    go_enter Tryz.func108, Tryz.ntmps108
    go_wp2_with fail
    refine HA.out.mono ?_
    rintro e w1 ⟨rfl, hB1⟩
    have HB1 := hid hB1
    clear hB1 HA
    go_wp2_with fail
    exact ⟨rfl, HB1.out, Or.inr ⟨HX.out, rfl⟩⟩
end Go.Proofs.YtknakfpciccoaabGreatDoor
/- The contract of strings.Clone, of the library's shelf, laid at this dump. -/
namespace Go.Proofs
open Go.Shelf Go.RowKit
def Tryz.laysClone_ren : Go.Shelf.Ren := ⟨fun | 316 => 57 | n => n, fun | 37 => 98 | 127 => 129 | n => n, fun n => n⟩
theorem Tryz.laysClone : Go.Proofs.LaysM.n316 Tryz.prog Tryz.laysClone_ren := {
  mixed := by kernel_rfl
  f316 := Tryz.func57.trans (congrArg some (by kernel_rfl))
  t0 := Tryz.underlying0
  a0 := Tryz.isAgg0
  z0 := Tryz.sizeOf0
  v0 := Tryz.zeroValue0
  t3 := Tryz.underlying3
  a3 := Tryz.isAgg3
  z3 := Tryz.sizeOf3
  v3 := Tryz.zeroValue3
  t4 := Tryz.underlying4
  a4 := Tryz.isAgg4
  z4 := Tryz.sizeOf4
  v4 := Tryz.zeroValue4
  t9 := Tryz.underlying9
  a9 := Tryz.isAgg9
  z9 := Tryz.sizeOf9
  v9 := Tryz.zeroValue9
  t37 := Tryz.underlying98
  a37 := Tryz.isAgg98
  z37 := Tryz.sizeOf98
  v37 := Tryz.zeroValue98
  t127 := Tryz.underlying129
  a127 := Tryz.isAgg129
  z127 := Tryz.sizeOf129
  v127 := Tryz.zeroValue129
  t5 := Tryz.underlying5
  a5 := Tryz.isAgg5
  z5 := Tryz.sizeOf5
  v5 := Tryz.zeroValue5
  i0 := by kernel_rfl
  i3 := by kernel_rfl
  i4 := by kernel_rfl
  i5 := by kernel_rfl
  i9 := by kernel_rfl
  i37 := by kernel_rfl
  i127 := by kernel_rfl }
end Go.Proofs
namespace Go.Proofs.YtknakfpciccoaabGreatDoor
open Go.RowKit
set_option maxHeartbeats 1000000 in
set_option maxRecDepth 100000 in
theorem clone_any (s : ByteArray) (w : World) (hs : s.size ≤ 140737488355328) :
    Calls Tryz.prog 36 #[.string s] w fun e w' => e = .returned (.string s) ∧ Below w.heap.size w w' := by
  have HC : Hid (Calls Tryz.prog 57 #[.string s] w fun e w' => e = .returned (.string s) ∧ Below w.heap.size w w') := Any.stringslite_Clone Tryz.laysClone s w (by omega)
  go_enter Tryz.func36, Tryz.ntmps36
  go_wp2_with (go_at_call 57; refine HC.out.mono ?_; rintro e w2 ⟨rfl, hb⟩)
  go_ret
  exact ⟨rfl, hb⟩
end Go.Proofs.YtknakfpciccoaabGreatDoor
