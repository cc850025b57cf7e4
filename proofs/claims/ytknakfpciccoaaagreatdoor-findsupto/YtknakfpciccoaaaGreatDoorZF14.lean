import Derived.Shelf.LaysC
import Derived.Shelf.LaysM
import Derived.Shelf.Strings.Split
import Derived.Shelf.Strconv.AtoiAll
import Derived.Test.YtknakfpciccoaaaGreatDoorProg
import Derived.Shelf.Strconv.Itoa3
import Derived.Test.YtknakfpciccoaaaGreatDoorZF6
import Derived.Test.YtknakfpciccoaaaGreatDoorZF3
import Derived.BigQuiet
import Derived.Deep.QuietTactic
import Derived.Deep.RegionHeld
import Derived.Test.YtknakfpciccoaaaGreatDoorZF11
import Derived.Lib.ItoaNum
import Derived.KernelRfl
/- Contracts of the library's shelf, laid at this dump: strings.Split, strconv.Atoi. -/
set_option maxHeartbeats 2000000
set_option maxRecDepth 100000
namespace Go.Proofs
open Go.Shelf
def Tryz.laysSplit_ren:Go.Shelf.Ren:=⟨fun | 146=>256 | 221=>275 | 268=>284 | 138=>285 | 143=>286 | 195=>291 | 197=>252 | 218=>292 | 219=>293 | 260=>268 | 217=>298 | 225=>299 | 224=>300 | 267=>301 | 266=>308 | 314=>309 | n=>n,fun | 9=>9 | 31=>23 | 3=>3 | 4=>4 | 0=>0 | 105=>287 | 21=>21 | 5=>5 | 46=>155 | 119=>209 | 139=>212 | 138=>211 | 146=>344 | 51=>216 | n=>n,fun | 1=>7 | 3=>0 | 4=>1 | n=>n⟩
theorem Tryz.laysSplit:Go.Proofs.LaysM.n146 Tryz.prog Tryz.laysSplit_ren:={
 mixed:=by kernel_rfl
 f138:=Tryz.func285.trans (congrArg some (by kernel_rfl))
 f143:=Tryz.func286.trans (congrArg some (by kernel_rfl))
 f146:=Tryz.func256.trans (congrArg some (by kernel_rfl))
 f195:=Tryz.func291.trans (congrArg some (by kernel_rfl))
 f197:=Tryz.func252.trans (congrArg some (by kernel_rfl))
 f217:=Tryz.func298.trans (congrArg some (by kernel_rfl))
 f218:=Tryz.func292.trans (congrArg some (by kernel_rfl))
 f219:=Tryz.func293.trans (congrArg some (by kernel_rfl))
 f221:=Tryz.func275.trans (congrArg some (by kernel_rfl))
 f224:=Tryz.func300.trans (congrArg some (by kernel_rfl))
 f225:=Tryz.func299.trans (congrArg some (by kernel_rfl))
 f260:=Tryz.func268.trans (congrArg some (by kernel_rfl))
 f266:=Tryz.func308.trans (congrArg some (by kernel_rfl))
 f267:=Tryz.func301.trans (congrArg some (by kernel_rfl))
 f268:=Tryz.func284.trans (congrArg some (by kernel_rfl))
 f314:=Tryz.func309.trans (congrArg some (by kernel_rfl))
 t0:=Tryz.underlying0
 a0:=Tryz.isAgg0
 z0:=Tryz.sizeOf0
 v0:=Tryz.zeroValue0
 t3:=Tryz.underlying3
 a3:=Tryz.isAgg3
 z3:=Tryz.sizeOf3
 v3:=Tryz.zeroValue3
 t4:=Tryz.underlying4
 a4:=Tryz.isAgg4
 z4:=Tryz.sizeOf4
 v4:=Tryz.zeroValue4
 t5:=Tryz.underlying5
 a5:=Tryz.isAgg5
 z5:=Tryz.sizeOf5
 v5:=Tryz.zeroValue5
 t9:=Tryz.underlying9
 a9:=Tryz.isAgg9
 z9:=Tryz.sizeOf9
 v9:=Tryz.zeroValue9
 t21:=Tryz.underlying21
 a21:=Tryz.isAgg21
 z21:=Tryz.sizeOf21
 v21:=Tryz.zeroValue21
 t31:=Tryz.underlying23
 a31:=Tryz.isAgg23
 z31:=Tryz.sizeOf23
 v31:=Tryz.zeroValue23
 t46:=Tryz.underlying155
 a46:=Tryz.isAgg155
 z46:=Tryz.sizeOf155
 v46:=Tryz.zeroValue155
 t51:=Tryz.underlying216
 a51:=Tryz.isAgg216
 z51:=Tryz.sizeOf216
 v51:=Tryz.zeroValue216
 t105:=Tryz.underlying287
 a105:=Tryz.isAgg287
 z105:=Tryz.sizeOf287
 v105:=Tryz.zeroValue287
 t119:=Tryz.underlying209
 a119:=Tryz.isAgg209
 z119:=Tryz.sizeOf209
 t138:=Tryz.underlying211
 a138:=Tryz.isAgg211
 z138:=Tryz.sizeOf211
 v138:=Tryz.zeroValue211
 t139:=Tryz.underlying212
 a139:=Tryz.isAgg212
 z139:=Tryz.sizeOf212
 v139:=Tryz.zeroValue212
 t146:=Tryz.underlying344
 a146:=Tryz.isAgg344
 z146:=Tryz.sizeOf344
 v146:=Tryz.zeroValue344
 g1:=by kernel_rfl
 g3:=by kernel_rfl
 g4:=by kernel_rfl
 i0:=by kernel_rfl
 i3:=by kernel_rfl
 i4:=by kernel_rfl
 i5:=by kernel_rfl
 i9:=by kernel_rfl
 i21:=by kernel_rfl
 i31:=by kernel_rfl
 i46:=by kernel_rfl
 i51:=by kernel_rfl
 i105:=by kernel_rfl
 i138:=by kernel_rfl
 i139:=by kernel_rfl
 i146:=by kernel_rfl
 m1:=by kernel_rfl
 s1_3:=fun w h=>Go.Proofs.cell_of_shapedOpen_int (zero:=#[.int .i64 0]) (t:=3) h (of_decide_eq_true (by kernel_rfl)) (by kernel_rfl) rfl (by kernel_rfl) (by kernel_rfl) Tryz.underlying3
 m3:=by kernel_rfl
 m4:=by kernel_rfl }
def Tryz.laysAtoi_ren:Go.Shelf.Ren:=⟨fun | 172=>345 | 244=>346 | 245=>254 | 247=>253 | 279=>270 | 280=>271 | 281=>272 | 282=>273 | 287=>269 | 316=>115 | 171=>54 | 205=>283 | 321=>281 | 322=>282 | 243=>98 | 246=>127 | 283=>162 | 284=>163 | 285=>164 | 286=>165 | 129=>196 | 317=>195 | 318=>197 | 319=>198 | 320=>199 | 337=>240 | 338=>241 | n=>n,fun | 9=>9 | 3=>3 | 75=>116 | 76=>117 | 4=>4 | 5=>5 | 167=>304 | 37=>63 | 0=>0 | 85=>234 | 2=>2 | 168=>307 | 53=>127 | 175=>305 | 46=>155 | 210=>320 | 127=>123 | 145=>328 | 143=>326 | 21=>21 | 171=>187 | 173=>190 | 212=>215 | 51=>216 | 20=>20 | 213=>217 | 232=>301 | 233=>302 | 80=>67 | n=>n,fun | 15=>5 | 16=>6 | 17=>2 | 18=>3 | 19=>4 | n=>n⟩
theorem Tryz.laysAtoi:Go.Proofs.LaysC.n172 Tryz.prog Tryz.laysAtoi_ren:={
 mixed:=by kernel_rfl
 f129:=Tryz.func196.trans (congrArg some (by kernel_rfl))
 f171:=Tryz.func54.trans (congrArg some (by kernel_rfl))
 f172:=Tryz.func345.trans (congrArg some (by kernel_rfl))
 f205:=Tryz.func283.trans (congrArg some (by kernel_rfl))
 f243:=Tryz.func98.trans (congrArg some (by kernel_rfl))
 f244:=Tryz.func346.trans (congrArg some (by kernel_rfl))
 f245:=Tryz.func254.trans (congrArg some (by kernel_rfl))
 f246:=Tryz.func127.trans (congrArg some (by kernel_rfl))
 f247:=Tryz.func253.trans (congrArg some (by kernel_rfl))
 f279:=Tryz.func270.trans (congrArg some (by kernel_rfl))
 f280:=Tryz.func271.trans (congrArg some (by kernel_rfl))
 f281:=Tryz.func272.trans (congrArg some (by kernel_rfl))
 f282:=Tryz.func273.trans (congrArg some (by kernel_rfl))
 f283:=Tryz.func162.trans (congrArg some (by kernel_rfl))
 f284:=Tryz.func163.trans (congrArg some (by kernel_rfl))
 f285:=Tryz.func164.trans (congrArg some (by kernel_rfl))
 f286:=Tryz.func165.trans (congrArg some (by kernel_rfl))
 f287:=Tryz.func269.trans (congrArg some (by kernel_rfl))
 f316:=Tryz.func115.trans (congrArg some (by kernel_rfl))
 f317:=Tryz.func195.trans (congrArg some (by kernel_rfl))
 f318:=Tryz.func197.trans (congrArg some (by kernel_rfl))
 f319:=Tryz.func198.trans (congrArg some (by kernel_rfl))
 f320:=Tryz.func199.trans (congrArg some (by kernel_rfl))
 f321:=Tryz.func281.trans (congrArg some (by kernel_rfl))
 f322:=Tryz.func282.trans (congrArg some (by kernel_rfl))
 f337:=Tryz.func240.trans (congrArg some (by kernel_rfl))
 f338:=Tryz.func241.trans (congrArg some (by kernel_rfl))
 t0:=Tryz.underlying0
 a0:=Tryz.isAgg0
 z0:=Tryz.sizeOf0
 v0:=Tryz.zeroValue0
 t2:=Tryz.underlying2
 a2:=Tryz.isAgg2
 z2:=Tryz.sizeOf2
 v2:=Tryz.zeroValue2
 t3:=Tryz.underlying3
 a3:=Tryz.isAgg3
 z3:=Tryz.sizeOf3
 v3:=Tryz.zeroValue3
 t4:=Tryz.underlying4
 a4:=Tryz.isAgg4
 z4:=Tryz.sizeOf4
 v4:=Tryz.zeroValue4
 t5:=Tryz.underlying5
 a5:=Tryz.isAgg5
 z5:=Tryz.sizeOf5
 v5:=Tryz.zeroValue5
 t9:=Tryz.underlying9
 a9:=Tryz.isAgg9
 z9:=Tryz.sizeOf9
 v9:=Tryz.zeroValue9
 t20:=Tryz.underlying20
 a20:=Tryz.isAgg20
 z20:=Tryz.sizeOf20
 v20:=Tryz.zeroValue20
 t21:=Tryz.underlying21
 a21:=Tryz.isAgg21
 z21:=Tryz.sizeOf21
 v21:=Tryz.zeroValue21
 t37:=Tryz.underlying63
 a37:=Tryz.isAgg63
 z37:=Tryz.sizeOf63
 v37:=Tryz.zeroValue63
 t46:=Tryz.underlying155
 a46:=Tryz.isAgg155
 z46:=Tryz.sizeOf155
 v46:=Tryz.zeroValue155
 t51:=Tryz.underlying216
 a51:=Tryz.isAgg216
 z51:=Tryz.sizeOf216
 v51:=Tryz.zeroValue216
 t53:=Tryz.underlying127
 a53:=Tryz.isAgg127
 z53:=Tryz.sizeOf127
 v53:=Tryz.zeroValue127
 t75:=Tryz.underlying116
 a75:=Tryz.isAgg116
 z75:=Tryz.sizeOf116
 v75:=Tryz.zeroValue116
 t76:=Tryz.underlying117
 a76:=Tryz.isAgg117
 z76:=Tryz.sizeOf117
 v76:=Tryz.zeroValue117
 t85:=Tryz.underlying234
 a85:=Tryz.isAgg234
 z85:=Tryz.sizeOf234
 v85:=Tryz.zeroValue234
 t127:=Tryz.underlying123
 a127:=Tryz.isAgg123
 z127:=Tryz.sizeOf123
 v127:=Tryz.zeroValue123
 t143:=Tryz.underlying326
 a143:=Tryz.isAgg326
 z143:=Tryz.sizeOf326
 v143:=Tryz.zeroValue326
 t145:=Tryz.underlying328
 a145:=Tryz.isAgg328
 z145:=Tryz.sizeOf328
 v145:=Tryz.zeroValue328
 t167:=Tryz.underlying304
 a167:=Tryz.isAgg304
 z167:=Tryz.sizeOf304
 v167:=Tryz.zeroValue304
 t168:=Tryz.underlying307
 a168:=Tryz.isAgg307
 z168:=Tryz.sizeOf307
 v168:=Tryz.zeroValue307
 t171:=Tryz.underlying187
 a171:=Tryz.isAgg187
 z171:=Tryz.sizeOf187
 v171:=Tryz.zeroValue187
 t173:=Tryz.underlying190
 a173:=Tryz.isAgg190
 z173:=Tryz.sizeOf190
 v173:=Tryz.zeroValue190
 t175:=Tryz.underlying305
 a175:=Tryz.isAgg305
 z175:=Tryz.sizeOf305
 v175:=Tryz.zeroValue305
 t210:=Tryz.underlying320
 a210:=Tryz.isAgg320
 z210:=Tryz.sizeOf320
 v210:=Tryz.zeroValue320
 t212:=Tryz.underlying215
 a212:=Tryz.isAgg215
 z212:=Tryz.sizeOf215
 v212:=Tryz.zeroValue215
 t213:=Tryz.underlying217
 a213:=Tryz.isAgg217
 z213:=Tryz.sizeOf217
 t232:=Tryz.underlying301
 a232:=Tryz.isAgg301
 z232:=Tryz.sizeOf301
 v232:=Tryz.zeroValue301
 t233:=Tryz.underlying302
 a233:=Tryz.isAgg302
 z233:=Tryz.sizeOf302
 v233:=Tryz.zeroValue302
 g15:=by kernel_rfl
 g16:=by kernel_rfl
 g17:=by kernel_rfl
 g18:=by kernel_rfl
 g19:=by kernel_rfl
 t80:=Tryz.underlying67
 a80:=Tryz.isAgg67
 z80:=Tryz.sizeOf67
 v80:=Tryz.zeroValue67
 i0:=by kernel_rfl
 i2:=by kernel_rfl
 i3:=by kernel_rfl
 i4:=by kernel_rfl
 i5:=by kernel_rfl
 i9:=by kernel_rfl
 i20:=by kernel_rfl
 i21:=by kernel_rfl
 i37:=by kernel_rfl
 i46:=by kernel_rfl
 i51:=by kernel_rfl
 i53:=by kernel_rfl
 i75:=by kernel_rfl
 i76:=by kernel_rfl
 i80:=by kernel_rfl
 i85:=by kernel_rfl
 i127:=by kernel_rfl
 i143:=by kernel_rfl
 i145:=by kernel_rfl
 i167:=by kernel_rfl
 i168:=by kernel_rfl
 i171:=by kernel_rfl
 i173:=by kernel_rfl
 i175:=by kernel_rfl
 i210:=by kernel_rfl
 i212:=by kernel_rfl
 i232:=by kernel_rfl
 i233:=by kernel_rfl
 m15:=by kernel_rfl
 m16:=by kernel_rfl
 m17:=by kernel_rfl
 m18:=by kernel_rfl
 m19:=by kernel_rfl
 c0:=by kernel_rfl
 c2:=by kernel_rfl
 c3:=by kernel_rfl
 c4:=by kernel_rfl
 c5:=by kernel_rfl
 c9:=by kernel_rfl
 c20:=by kernel_rfl
 c21:=by kernel_rfl
 c37:=by kernel_rfl
 c46:=by kernel_rfl
 c51:=by kernel_rfl
 c53:=by kernel_rfl
 c75:=by kernel_rfl
 c76:=by kernel_rfl
 c80:=by kernel_rfl
 c85:=by kernel_rfl
 c127:=by kernel_rfl
 c143:=by kernel_rfl
 c145:=by kernel_rfl
 c167:=by kernel_rfl
 c168:=by kernel_rfl
 c171:=by kernel_rfl
 c173:=by kernel_rfl
 c175:=by kernel_rfl
 c210:=by kernel_rfl
 c212:=by kernel_rfl
 c213:=by kernel_rfl
 c232:=by kernel_rfl
 c233:=by kernel_rfl }
end Go.Proofs
/- The contract of strconv.Itoa, of the library's shelf, laid at this dump. -/
namespace Go.Proofs
open Go.Shelf
def Tryz.laysItoa_ren:Go.Shelf.Ren:=⟨fun | 171=>54 | 243=>98 | 246=>127 | 283=>162 | 284=>163 | 285=>164 | 286=>165 | 129=>196 | 317=>195 | 318=>197 | 319=>198 | 320=>199 | 337=>240 | 338=>241 | n=>n,fun | 3=>3 | 9=>9 | 2=>2 | 4=>4 | 171=>187 | 0=>0 | 53=>127 | 37=>63 | 5=>5 | 173=>190 | 212=>215 | 51=>216 | 20=>20 | 213=>217 | 46=>155 | 232=>301 | 233=>302 | n=>n,fun | 17=>2 | 18=>3 | 19=>4 | n=>n⟩
theorem Tryz.laysItoa:Go.Proofs.LaysM.n171 Tryz.prog Tryz.laysItoa_ren:={
 mixed:=by kernel_rfl
 f129:=Tryz.func196.trans (congrArg some (by kernel_rfl))
 f171:=Tryz.func54.trans (congrArg some (by kernel_rfl))
 f243:=Tryz.func98.trans (congrArg some (by kernel_rfl))
 f246:=Tryz.func127.trans (congrArg some (by kernel_rfl))
 f283:=Tryz.func162.trans (congrArg some (by kernel_rfl))
 f284:=Tryz.func163.trans (congrArg some (by kernel_rfl))
 f285:=Tryz.func164.trans (congrArg some (by kernel_rfl))
 f286:=Tryz.func165.trans (congrArg some (by kernel_rfl))
 f317:=Tryz.func195.trans (congrArg some (by kernel_rfl))
 f318:=Tryz.func197.trans (congrArg some (by kernel_rfl))
 f319:=Tryz.func198.trans (congrArg some (by kernel_rfl))
 f320:=Tryz.func199.trans (congrArg some (by kernel_rfl))
 f337:=Tryz.func240.trans (congrArg some (by kernel_rfl))
 f338:=Tryz.func241.trans (congrArg some (by kernel_rfl))
 t0:=Tryz.underlying0
 a0:=Tryz.isAgg0
 z0:=Tryz.sizeOf0
 v0:=Tryz.zeroValue0
 t2:=Tryz.underlying2
 a2:=Tryz.isAgg2
 z2:=Tryz.sizeOf2
 v2:=Tryz.zeroValue2
 t3:=Tryz.underlying3
 a3:=Tryz.isAgg3
 z3:=Tryz.sizeOf3
 v3:=Tryz.zeroValue3
 t4:=Tryz.underlying4
 a4:=Tryz.isAgg4
 z4:=Tryz.sizeOf4
 v4:=Tryz.zeroValue4
 t5:=Tryz.underlying5
 a5:=Tryz.isAgg5
 z5:=Tryz.sizeOf5
 v5:=Tryz.zeroValue5
 t9:=Tryz.underlying9
 a9:=Tryz.isAgg9
 z9:=Tryz.sizeOf9
 v9:=Tryz.zeroValue9
 t20:=Tryz.underlying20
 a20:=Tryz.isAgg20
 z20:=Tryz.sizeOf20
 v20:=Tryz.zeroValue20
 t37:=Tryz.underlying63
 a37:=Tryz.isAgg63
 z37:=Tryz.sizeOf63
 v37:=Tryz.zeroValue63
 t46:=Tryz.underlying155
 a46:=Tryz.isAgg155
 z46:=Tryz.sizeOf155
 v46:=Tryz.zeroValue155
 t51:=Tryz.underlying216
 a51:=Tryz.isAgg216
 z51:=Tryz.sizeOf216
 v51:=Tryz.zeroValue216
 t53:=Tryz.underlying127
 a53:=Tryz.isAgg127
 z53:=Tryz.sizeOf127
 v53:=Tryz.zeroValue127
 t171:=Tryz.underlying187
 a171:=Tryz.isAgg187
 z171:=Tryz.sizeOf187
 v171:=Tryz.zeroValue187
 t173:=Tryz.underlying190
 a173:=Tryz.isAgg190
 z173:=Tryz.sizeOf190
 v173:=Tryz.zeroValue190
 t212:=Tryz.underlying215
 a212:=Tryz.isAgg215
 z212:=Tryz.sizeOf215
 v212:=Tryz.zeroValue215
 t213:=Tryz.underlying217
 a213:=Tryz.isAgg217
 z213:=Tryz.sizeOf217
 t232:=Tryz.underlying301
 a232:=Tryz.isAgg301
 z232:=Tryz.sizeOf301
 v232:=Tryz.zeroValue301
 t233:=Tryz.underlying302
 a233:=Tryz.isAgg302
 z233:=Tryz.sizeOf302
 v233:=Tryz.zeroValue302
 g17:=by kernel_rfl
 g18:=by kernel_rfl
 g19:=by kernel_rfl
 i0:=by kernel_rfl
 i2:=by kernel_rfl
 i3:=by kernel_rfl
 i4:=by kernel_rfl
 i5:=by kernel_rfl
 i9:=by kernel_rfl
 i20:=by kernel_rfl
 i37:=by kernel_rfl
 i46:=by kernel_rfl
 i51:=by kernel_rfl
 i53:=by kernel_rfl
 i171:=by kernel_rfl
 i173:=by kernel_rfl
 i212:=by kernel_rfl
 i232:=by kernel_rfl
 i233:=by kernel_rfl
 m17:=by kernel_rfl
 m18:=by kernel_rfl
 m19:=by kernel_rfl }
end Go.Proofs
/- The walks of slices.CompareFunc and compareObjects, over one another's contract. -/
namespace Go.Proofs.YtknakfpciccoaaaGreatDoor
open Go.RowKit
def Fj (f:Nat):Prop:=∀ (g:Nat) (va vb:Value) (a b:T) (w:World),At w f va a->At w g vb b->Oo f a->Oo f b ->
  Calls Tryz.prog 58 #[va,vb] w fun e w'=>e=.returned (.int .i64 (bq f a b))/\Below w.heap.size w w'
theorem wZ {g:T->T->Int} {a b:T} {k:Nat} (h:min (nL a) (nL b)=k) (h0:iq g a b k=0):jy g a b=jL (nL a) (nL b):=by
 rw [jy,h,h0];rfl
theorem xg {g:T->T->Int} {a b:T} {k:Nat} {x:Int} (ha:k<nL a) (hb:k<nL b) (h:iq g a b (k+1)=x) (h0:x≠0):jy g a b=x:=by
 rw [jy,rX (j:=k+1) (by omega) (by rw [h];exact h0),h,if_pos h0]
theorem yL (f:Nat) (hc:Fj f) (g:Nat) (La Ma:Option Addr) (Lc Mc:Nat) (a b:T) (w:World) (hl:bC w f La a) (hl':bC w g Ma b) (hlen:nL a<=1759218604442) (_hlen':nL b<=1759218604442)
  (k5:ah a≠6) (oka:∀ i,i<nL a->Oo f (elt a i)) (okb:∀ i,i<nL b->Oo f (elt b i)) :
  Calls Tryz.prog 106 #[.slice La (nL a) Lc,.slice Ma (nL b) Mc,.func (Fn.func 58) #[] #[]] w fun e w'=>e=.returned (.int .i64 (jy (bq f) a b))/\Below w.heap.size w w':=by
 have Hc:=aj hc;have Hl:=aj hl;have Hl':=aj hl';have K5:=aj k5;have Hoa:=aj oka;have Hob:=aj okb;clear hc hl hl' k5 oka okb;go_in;go_wp2_with fail;go_loopg [13] (nL a) (fun g i wr=>∃ k:Nat,g=nL a - k/\k<=nL a/\k<=nL b/\i=.int .i64 k/\Hid (iq (bq f) a b k=0)/\Hid (Below w.heap.size w wr))
 case atStart=>exact ⟨0,rfl,Nat.zero_le _,Nat.zero_le _,rfl,rfl,Below.refl _ _⟩
 case round =>
  obtain ⟨k,rfl,hka,hkb,rfl,HO,Hb⟩:=hrel;by_cases hlt:k<nL a
  ·obtain ⟨ba,oa,A,B,C,D,rfl,hba,p0,p1,p2,p3,p4,Ha⟩:=Hl.out.shape Hb.out k hlt;by_cases hlt':k<nL b
   ·obtain ⟨bb,ob,P,Q,R,S,rfl,hbb,t0,t1,t2,t3,t4,Hd⟩:=Hl'.out.shape Hb.out k hlt';have x1:(k:Int)<(nL a:Int):=by omega
    have x2:(k:Int)<(nL b:Int):=by omega
    have hsz:=Hb.out.size;have s1:ba<wr.heap.size:=by omega
    have s2:bb<wr.heap.size:=by omega
    have HB1:Hid (Below wr.heap.size wr ((wr.alloc (vC (elt a k) A B C D)).alloc (vC (elt b k) P Q R S))):=(bG _ _).alloc (by simp) _;have bd:=zo f (elt a k) (elt b k);go_wp2_with fail;refine (Hc.out _ _ _ _ _ _ (Ha.out.keep (Hb.out.trans (HB1.out.mono hsz))) (Hd.out.keep (Hb.out.trans (HB1.out.mono hsz))) (Hoa.out k hlt) (Hob.out k hlt')).mono ?_;rintro e w2 ⟨rfl,hb2⟩;have HB2:=aj (Hb.out.trans ((HB1.out.trans (hb2.mono HB1.out.size)).mono hsz));clear hb2;have HS:=aj (rY (g:=bq f) (b:=b) HO.out);generalize hx:bq f (elt a k) (elt b k)=x at bd ⊢;have HS2:Hid (iq (bq f) a b (k+1)=x):=by show _=_;rw [HS.out,if_neg (fun h=>K5.out h.1),hx]
    clear hx;by_cases hx0:x=0
    ·subst hx0;go_wp2_with fail;go_roundg (nL a - (k+1))
     case rel=>exact ⟨k+1,rfl,by omega,by omega,by go_num,HS2,HB2⟩
     case measure=>omega
    ·have ex:(x != 0)=true:=by simpa using hx0
     have HX:=aj hx0;clear hx0;go_wp2_with fail;go_ret;exact ⟨aH (xg hlt hlt' HS2.out HX.out).symm,HB2.out⟩
   ·have HE:=aj (wZ (g:=bq f) (k:=k) (show min (nL a) (nL b)=k by omega) HO.out);have HE2:=aj (zm (show (nL b:Int)<(nL a:Int) by omega));have s1:ba<wr.heap.size:=by have:=Hb.out.size;omega
    go_wp2_with fail;go_ret;exact ⟨aH (by rw [HE.out,HE2.out]),Hb.out.trans ((bG _ _).mono Hb.out.size)⟩
  ·have HE:=aj (wZ (g:=bq f) (k:=k) (show min (nL a) (nL b)=k by omega) HO.out);by_cases h3:nL a<nL b
   ·have HE2:=aj (zl (show (nL a:Int)<(nL b:Int) by omega));go_wp2_with fail;go_ret;exact ⟨aH (by rw [HE.out,HE2.out]),Hb.out⟩
   ·have HE2:=aj (uN (show (nL b:Int)<=(nL a:Int) by omega) (show (nL a:Int)<=(nL b:Int) by omega));go_wp2_with fail;go_ret;exact ⟨aH (by rw [HE.out,HE2.out]),Hb.out⟩
theorem um (f:Nat) (hc:Fj f) (g:Nat) (va vb:Value) (a b:T) (w:World) (h:At w (f+1) va a) (h':At w g vb b) (ka:Oo (f+1) a) (kb:Oo (f+1) b) (k6:ah a=6) (k6b:ah b=6) :
  Calls Tryz.prog 107 #[va,vb] w fun e w'=>e=.returned (.int .i64 (jy (bq f) a b))/\Below w.heap.size w w':=by
 obtain ⟨f1,La,Ka,Lc,Kc,hf1,rfl,hf,hl,hk⟩:=h.open;obtain rfl:f=f1:=by omega
 obtain ⟨g1,Ma,Na,Mc,Nc,hg1,rfl,hf',hl',hk'⟩:=h'.open;have hlen:=hf.l1;have hlen':=hf'.l1;have Vl:=aj ka;have Vm:=aj kb;have K6:=aj k6;have K6b:=aj k6b;have sN:=aj hc;clear h h' hf hf' hf1 hg1 ka kb hc k6 k6b
 obtain ⟨M,HM,hMa,hMb,hcase⟩:∃ M:Nat,Hid (min (nL a) (nL b)=M)/\M<=nL a/\M<=nL b/\((nL a:Int)<=(nL b:Int)/\Hid (M=nL a)\/(nL b:Int)<(nL a:Int)/\Hid (M=nL b)):=by
  by_cases hh:nL a<=nL b
  ·exact ⟨nL a,by show min _ _=_;omega,by omega,by omega,Or.inl ⟨by omega,rfl⟩⟩
  ·exact ⟨nL b,by show min _ _=_;omega,by omega,by omega,Or.inr ⟨by omega,rfl⟩⟩
 rcases hcase with ⟨hcs,HMM⟩ | ⟨hcs,HMM⟩
 all_goals
  have hmm:=HMM.out;go_in;go_wp2_with fail;go_loopg [15] M (fun g i wr=>∃ k:Nat,g=M - k/\k<=M/\i=.int .i64 k/\Hid (iq (bq f) a b k=0)/\Below (w.heap.size+2) ((w.alloc (vC a La Lc Ka Kc)).alloc (vC b Ma Mc Na Nc)) wr)
  case atStart=>exact ⟨0,rfl,Nat.zero_le _,rfl,rfl,Below.refl _ _⟩
  case round =>
   obtain ⟨k,rfl,hkm,rfl,HO,hb⟩:=hrel;obtain ⟨⟨q0,q1,q2,q3,q4⟩,⟨r0,r1,r2,r3,r4⟩,hz,hbw⟩:=gV hb;have Hb:=aj hb;clear hb;have hz0:w.heap.size<wr.heap.size:=by omega
   by_cases hlt:k<M
   ·have RU:k<nL a:=by omega
    have RV:k<nL b:=by omega
    obtain ⟨ba,oa,c0,c1,c2,c3,c4,rfl,hba,p0,p1,p2,p3,p4,Ha⟩:=hl.out.keep hbw k RU;obtain ⟨bb,ob,d0,d1,d2,d3,d4,rfl,hbb,t0,t1,t2,t3,t4,Hc⟩:=hl'.out.keep hbw k RV;have x1:(k:Int)<(nL a:Int):=by omega
    have x2:(k:Int)<(nL b:Int):=by omega
    clear hmm;have HS:=aj (rY (g:=bq f) (b:=b) HO.out);have na:k<nK a:=by rw [Vl.out.1 K6.out];exact RU
    have nb:k<nK b:=by rw [Vm.out.1 K6b.out];exact RV
    obtain ⟨ea,fa,rfl,hea,hsa,n0⟩:=hk.out.keep hbw k na;obtain ⟨eb,fb,rfl,heb,hsb,m0⟩:=hk'.out.keep hbw k nb;have x3:(k:Int)<(nK a:Int):=by omega
    have x4:(k:Int)<(nK b:Int):=by omega
    have bc:=rW (bf a k) (bf b k);go_wp2_with fail;go_quiet ((go_at_call 105;exact Calls.quiet_of_same (tq _ _ _)));generalize hcc:lV (bf a k) (bf b k)=c at bc ⊢;have ZL:=aj hcc;clear hcc;have pY:Hid (Below wr.heap.size wr (wr.drewN nq)):=below_drewN (Below.refl _ _) nq;generalize wr.drewN nq=wq at pY ⊢;have Vn:=pY.out.size;have y0:=(pY.out.cell (p:=⟨w.heap.size,3,none⟩) hz0).trans q3;have y1:=(pY.out.cell (p:=⟨w.heap.size+1,3,none⟩) hz).trans r3;have u0:=(pY.out.cell (p:=⟨ba,oa+k*5,none⟩) hba).trans p0;have u1:=(pY.out.cell (p:=⟨ba,oa+k*5+1,none⟩) hba).trans p1;have u2:=(pY.out.cell (p:=⟨ba,oa+k*5+2,none⟩) hba).trans p2;have u3:=(pY.out.cell (p:=⟨ba,oa+k*5+3,none⟩) hba).trans p3;have u4:=(pY.out.cell (p:=⟨ba,oa+k*5+4,none⟩) hba).trans p4;have v0:=(pY.out.cell (p:=⟨bb,ob+k*5,none⟩) hbb).trans t0;have v1:=(pY.out.cell (p:=⟨bb,ob+k*5+1,none⟩) hbb).trans t1;have v2:=(pY.out.cell (p:=⟨bb,ob+k*5+2,none⟩) hbb).trans t2;have v3:=(pY.out.cell (p:=⟨bb,ob+k*5+3,none⟩) hbb).trans t3;have v4:=(pY.out.cell (p:=⟨bb,ob+k*5+4,none⟩) hbb).trans t4;have RX:=aj (Hb.out.trans (pY.out.mono (by omega)));have hz0':w.heap.size<wq.heap.size:=Nat.lt_of_lt_of_le hz0 Vn;have hz1':w.heap.size+1<wq.heap.size:=Nat.lt_of_lt_of_le hz Vn;have aco:ba<wq.heap.size:=Nat.lt_of_lt_of_le hba Vn;have acp:bb<wq.heap.size:=Nat.lt_of_lt_of_le hbb Vn;clear q0 q1 q2 q3 q4 r0 r1 r2 r3 r4 p0 p1 p2 p3 p4 t0 t1 t2 t3 t4 n0 m0;by_cases hc0:c=0
    ·subst hc0;have YW:=ZL;go_wp2_with fail;have HA1:=aj (Ha.out.keep ((pY.out).trans ((ak wq).mono pY.out.size)));have lu:=aj (Hc.out.keep ((pY.out).trans ((ak wq).mono pY.out.size)));have ZM:=aj (Vl.out.2 k RU);have ZN:=aj (Vm.out.2 k RV);have bd:=zo f (elt a k) (elt b k)
     have M4:Hid (∀ wx:World,Below wq.drew.heap.size wq.drew wx->wx.cell? ⟨w.heap.size,3,none⟩=some (.slice (some ⟨ba,oa,none⟩) (nL a) Lc)/\wx.cell? ⟨w.heap.size+1,3,none⟩=some (.slice (some ⟨bb,ob,none⟩) (nL b) Mc)/\wx.cell? ⟨ba,oa+k*5,none⟩=some c0/\wx.cell? ⟨ba,oa+k*5+1,none⟩=some c1/\wx.cell? ⟨ba,oa+k*5+2,none⟩=some c2/\wx.cell? ⟨ba,oa+k*5+3,none⟩=some c3/\wx.cell? ⟨ba,oa+k*5+4,none⟩=some c4/\wx.cell? ⟨bb,ob+k*5,none⟩=some d0/\wx.cell? ⟨bb,ob+k*5+1,none⟩=some d1/\wx.cell? ⟨bb,ob+k*5+2,none⟩=some d2/\wx.cell? ⟨bb,ob+k*5+3,none⟩=some d3/\wx.cell? ⟨bb,ob+k*5+4,none⟩=some d4):=by
      intro wx hx;have hh:=(ak wq).trans hx;refine ⟨?_,?_,?_,?_,?_,?_,?_,?_,?_,?_,?_,?_⟩
      all_goals (rw [hh.cell (p:=⟨_,_,none⟩) (by first | assumption | omega)];assumption)
     go_region_held (fun wx=>wx.cell? ⟨w.heap.size,3,none⟩=some (.slice (some ⟨ba,oa,none⟩) (nL a) Lc)/\wx.cell? ⟨w.heap.size+1,3,none⟩=some (.slice (some ⟨bb,ob,none⟩) (nL b) Mc)/\wx.cell? ⟨ba,oa+k*5,none⟩=some c0/\wx.cell? ⟨ba,oa+k*5+1,none⟩=some c1/\wx.cell? ⟨ba,oa+k*5+2,none⟩=some c2/\wx.cell? ⟨ba,oa+k*5+3,none⟩=some c3/\wx.cell? ⟨ba,oa+k*5+4,none⟩=some c4/\wx.cell? ⟨bb,ob+k*5,none⟩=some d0/\wx.cell? ⟨bb,ob+k*5+1,none⟩=some d1/\wx.cell? ⟨bb,ob+k*5+2,none⟩=some d2/\wx.cell? ⟨bb,ob+k*5+3,none⟩=some d3/\wx.cell? ⟨bb,ob+k*5+4,none⟩=some d4) (go_keep) ((go_at_call 58;refine (sN.out _ _ _ _ _ _ HA1.out lu.out ZM.out ZN.out).mono ?_;rintro e w2 ⟨rfl,hb2⟩;have hc2:=M4.out _ hb2));have HB2:=aj (RX.out.trans (((ak wq).trans hb2).mono (by omega)));clear hb2 hc2 HA1 lu;generalize hx:bq f (elt a k) (elt b k)=x at bd ⊢;have HS2:Hid (iq (bq f) a b (k+1)=x):=by show _=_;rw [HS.out,if_neg (fun h=>h.2 YW.out),hx]
     clear hx;by_cases hx0:x=0
     ·subst hx0;go_wp2_with fail;go_roundg (M - (k+1))
      case rel=>exact ⟨k+1,rfl,by omega,by go_num,HS2,HB2.out⟩
      case measure=>omega
     ·have ex:(x != 0)=true:=by simpa using hx0
      have HX:=aj hx0;clear hx0;go_wp2_with fail;go_ret;refine ⟨aH ?_,((bG _ _).alloc (by simp) _).trans (HB2.out.mono (by omega))⟩;exact (xg RU RV HS2.out HX.out).symm
    ·have ex:(c != 0)=true:=by simpa using hc0
     have HX:=aj hc0;clear hc0;have HS2:Hid (iq (bq f) a b (k+1)=c):=by show _=_;rw [HS.out,ZL.out,if_pos ⟨K6.out,HX.out⟩]
     go_wp2_with fail;go_ret;refine ⟨aH ?_,((bG _ _).alloc (by simp) _).trans (RX.out.mono (by omega))⟩;exact (xg RU RV HS2.out HX.out).symm
   ·have HE:=aj (wZ (g:=bq f) (k:=k) (by rw [HM.out];omega) HO.out);go_wp2_with fail;refine (Aq _ _ _).mono ?_;rintro e w2 ⟨rfl,rfl⟩;go_wp2_with fail;go_ret;exact ⟨aH (by rw [HE.out]),hbw⟩
theorem yu (f:Nat):Fj f:=by
 induction f with
 | zero=>intro g va vb a b w h;exact h.elim
 | succ f ih =>
  intro g va vb a b w h h' ka kb;have HA:=aj h;have HA':=aj h';obtain ⟨f1,La,Ka,Lc,Kc,hf1,rfl,hf,hl,hk⟩:=h.open;obtain rfl:f=f1:=by omega
  obtain ⟨g1,Ma,Na,Mc,Nc,hg1,rfl,hf',hl',hk'⟩:=h'.open;have hlen:=hf.l1;have hlen':=hf'.l1;have Vl:=aj ka;have Vm:=aj kb;have sN:=aj ih;have HB1:Hid (Below w.heap.size w ((w.alloc (vC a La Lc Ka Kc)).alloc (vC b Ma Mc Na Nc))):=(bG _ _).alloc (by simp) _;clear h h' hf hf' hf1 hg1 ka kb ih hk hk';by_cases k1:ah a=ah b
  ·have e1:(ah a != ah b)=false:=by simp [k1]
   by_cases k0:ah a=2
   ·have HR:Hid (bq (f+1) a b=jL (aB a) (aB b)):=by show bq (f+1) a b=_;simp [bq,<- k1,k0]
    have g2:(ah a==2)=true:=by rw [k0];rfl
    have g3:(ah a==3)=false:=by rw [k0];rfl
    have g4:(ah a==4)=false:=by rw [k0];rfl
    have g5:(ah a==5)=false:=by rw [k0];rfl
    have g6:(ah a==6)=false:=by rw [k0];rfl
    clear k0 k1;go_in;go_wp2_with fail;refine (u7 _ _ _).mono ?_;rintro e w2 ⟨rfl,rfl⟩;go_wp2_with fail;go_ret;exact ⟨aH (by rw [HR.out]),HB1.out⟩
   by_cases k0:ah a=3
   ·have HR:Hid (bq (f+1) a b=jL (aB a) (aB b)):=by show bq (f+1) a b=_;simp [bq,<- k1,k0]
    have g2:(ah a==2)=false:=by rw [k0];rfl
    have g3:(ah a==3)=true:=by rw [k0];rfl
    have g4:(ah a==4)=false:=by rw [k0];rfl
    have g5:(ah a==5)=false:=by rw [k0];rfl
    have g6:(ah a==6)=false:=by rw [k0];rfl
    clear k0 k1;go_in;go_wp2_with fail;refine (u7 _ _ _).mono ?_;rintro e w2 ⟨rfl,rfl⟩;go_wp2_with fail;go_ret;exact ⟨aH (by rw [HR.out]),HB1.out⟩
   by_cases k0:ah a=4
   ·have HR:Hid (bq (f+1) a b=lV (aF a) (aF b)):=by show bq (f+1) a b=_;simp [bq,<- k1,k0]
    have g2:(ah a==2)=false:=by rw [k0];rfl
    have g3:(ah a==3)=false:=by rw [k0];rfl
    have g4:(ah a==4)=true:=by rw [k0];rfl
    have g5:(ah a==5)=false:=by rw [k0];rfl
    have g6:(ah a==6)=false:=by rw [k0];rfl
    clear k0 k1;go_in;go_wp2_with fail;refine (tq _ _ _).mono ?_;rintro e w2 ⟨rfl,rfl⟩;go_wp2_with fail;go_ret;exact ⟨aH (by rw [HR.out]),HB1.out⟩
   by_cases k0:ah a=5
   ·have HR:Hid (bq (f+1) a b=jy (bq f) a b):=by show bq (f+1) a b=_;simp [bq,<- k1,k0,dJ]
    have g2:(ah a==2)=false:=by rw [k0];rfl
    have g3:(ah a==3)=false:=by rw [k0];rfl
    have g4:(ah a==4)=false:=by rw [k0];rfl
    have g5:(ah a==5)=true:=by rw [k0];rfl
    have g6:(ah a==6)=false:=by rw [k0];rfl
    have K5:Hid (ah a≠6):=by show ah a≠6;omega
    clear k0 k1;go_in;go_wp2_with fail;refine (yL f sN.out _ La Ma Lc Mc a b _ (hl.out.keep HB1.out) (hl'.out.keep HB1.out) hlen hlen' K5.out Vl.out.2 Vm.out.2).mono ?_;rintro e w2 ⟨rfl,hb2⟩;have HB2:=aj (HB1.out.trans (hb2.mono HB1.out.size));clear hb2;go_wp2_with fail;go_ret;exact ⟨aH (by rw [HR.out]),HB2.out⟩
   by_cases k0:ah a=6
   ·have HR:Hid (bq (f+1) a b=jy (bq f) a b):=by show bq (f+1) a b=_;simp [bq,<- k1,k0,dJ]
    have g2:(ah a==2)=false:=by rw [k0];rfl
    have g3:(ah a==3)=false:=by rw [k0];rfl
    have g4:(ah a==4)=false:=by rw [k0];rfl
    have g5:(ah a==5)=false:=by rw [k0];rfl
    have g6:(ah a==6)=true:=by rw [k0];rfl
    have K6:=aj k0;have K6b:Hid (ah b=6):=by show ah b=6;omega
    clear k0 k1;go_in;go_wp2_with fail;refine (um f sN.out _ _ _ a b _ (HA.out.keep HB1.out) (HA'.out.keep HB1.out) Vl.out Vm.out K6.out K6b.out).mono ?_;rintro e w2 ⟨rfl,hb2⟩;have HB2:=aj (HB1.out.trans (hb2.mono HB1.out.size));clear hb2;go_wp2_with fail;go_ret;exact ⟨aH (by rw [HR.out]),HB2.out⟩
   have HR:Hid (bq (f+1) a b=0):=by
    show bq (f+1) a b=_;simp only [bq,dJ];rw [if_neg (by omega),if_neg (by omega),if_neg (by omega)];exact if_neg (by simp;omega)
   have g2:(ah a==2)=false:=by simp;omega
   have g3:(ah a==3)=false:=by simp;omega
   have g4:(ah a==4)=false:=by simp;omega
   have g5:(ah a==5)=false:=by simp;omega
   have g6:(ah a==6)=false:=by simp;omega
   clear k1;go_in;go_wp2_with fail;go_ret;exact ⟨aH (by rw [HR.out]),HB1.out⟩
  ·have e1:(ah a != ah b)=true:=by simpa using k1
   have HR:Hid (bq (f+1) a b=jL (ah a) (ah b)):=by show bq (f+1) a b=_;simp only [bq];rw [if_pos k1]
   clear k1;go_in;go_wp2_with fail;refine (Aq _ _ _).mono ?_;rintro e w2 ⟨rfl,rfl⟩;go_wp2_with fail;go_ret;exact ⟨aH (by rw [HR.out]),HB1.out⟩
def nT (n:Int):T:=aR 3 n ByteArray.empty
def JW (a b:Int):T:=dU 5 0 ByteArray.empty [nT a,nT b] []
def obT (a:Int):T:=dU 6 0 ByteArray.empty [nT a] [⟨#[98]⟩]
def tvL : List T :=
  [aR 1 0 ByteArray.empty, aR 2 0 ByteArray.empty, aR 2 1 ByteArray.empty,
   nT (-4), nT (-3), nT (-2), nT (-1), nT 0, nT 1, nT 2, nT 3, nT 4,
   aR 4 0 ⟨#[97]⟩, aR 4 0 ⟨#[98]⟩, aR 4 0 ⟨#[99]⟩, dU 5 0 ByteArray.empty [] [],
   JW 0 0, JW 0 1, JW 0 2, JW 0 3, JW 1 0, JW 1 1, JW 1 2, JW 1 3, JW 2 0, JW 2 1, JW 2 2, JW 2 3, JW 3 0, JW 3 1, JW 3 2, JW 3 3,
   obT 0, obT 1, obT 2, obT 3]
def tv (i:Nat):T:=tvL.getD i (aR 0 0 ByteArray.empty)
def fZ (a:Int):UInt8:=a.toNat.toUInt8
theorem gy {a:Int} (h0:0<=a) (h1:a<256):((fZ a).toNat:Int)=a:=by
 unfold fZ;rw [Nat.toUInt8,UInt8.toNat_ofNat'];omega
theorem WL (w:World) (a:Int) (ha:0<=a/\a<256):(convert 63 9 (.slice (some ⟨w.heap.size,0,none⟩) 1 1)).run Tryz.prog (w.alloc (.cells #[.int .u8 a] 5))=.ok (.string ⟨#[fZ a]⟩) (w.alloc (.cells #[.int .u8 a] 5)):=by
 refine run_convert_bytes_back (P:=Tryz.prog) (w.alloc (.cells #[.int .u8 a] 5)) 63 9 5 ⟨w.heap.size,0,none⟩ 1 [fZ a] Tryz.underlying63 Tryz.underlying5 Tryz.underlying9 (fun j hj=>?_);have hx:=gy ha.1 ha.2
 match j,hj with
 | 0,_=>simp [go_sem,Addr.add,hx]
def kW (Tb:World->Prop):Prop:=∀ (n:Int) (w:World),-9223372036854775808<=n->n<=9223372036854775807->Tb w->Calls Tryz.prog 54 #[.int .i64 n] w fun e w'=>e=.returned (.string (bY (Lib.itoa n)))/\Below w.heap.size w w'
end Go.Proofs.YtknakfpciccoaaaGreatDoor
