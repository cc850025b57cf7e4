import Derived.Test.YtknakfpciccoaaaGreatDoorZC9
import Derived.Shelf.LaysM
import Derived.Shelf.Strconv.Itoa3
import Derived.Test.YtknakfpciccoaaaGreatDoorProg
import Derived.Test.YtknakfpciccoaaaGreatDoorZC5
import Derived.Test.YtknakfpciccoaaaGreatDoorZC1
import Derived.Test.YtknakfpciccoaaaGreatDoorZC2
import Derived.Test.YtknakfpciccoaaaGreatDoorZC3
import Derived.Test.YtknakfpciccoaaaGreatDoorZC7
/- One byte as a text. -/
set_option maxHeartbeats 8000000
set_option maxRecDepth 100000
namespace Go.Proofs.YtknakfpciccoaaaGreatDoor
open Go.RowKit
def Ev (a:Int):UInt8:=a.toNat.toUInt8
theorem Rz {a:Int} (h0:0<=a) (h1:a<256):((Ev a).toNat:Int)=a:=by
 unfold Ev;rw [Nat.toUInt8,UInt8.toNat_ofNat'];omega
theorem aaI (w:World) (a:Int) (ha:0<=a/\a<256):(convert 63 9 (.slice (some ⟨w.heap.size,0,none⟩) 1 1)).run Tryz.prog (w.alloc (.cells #[.int .u8 a] 5))=.ok (.string ⟨#[Ev a]⟩) (w.alloc (.cells #[.int .u8 a] 5)):=by
 refine run_convert_bytes_back (P:=Tryz.prog) (w.alloc (.cells #[.int .u8 a] 5)) 63 9 5 ⟨w.heap.size,0,none⟩ 1 [Ev a] Tryz.underlying63 Tryz.underlying5 Tryz.underlying9 (fun j hj=>?_);have hx:=Rz ha.1 ha.2
 match j,hj with
 | 0,_=>simp [go_sem,Addr.add,hx]
end Go.Proofs.YtknakfpciccoaaaGreatDoor
/- The contract of strconv.Itoa, of the library's shelf, laid at this dump. -/
namespace Go.Proofs
open Go.Shelf
def Tryz.laysItoa_ren:Go.Shelf.Ren:=⟨fun | 171=>54 | 243=>98 | 246=>127 | 283=>162 | 284=>163 | 285=>164 | 286=>165 | 129=>196 | 317=>195 | 318=>197 | 319=>198 | 320=>199 | 337=>240 | 338=>241 | n=>n,fun | 3=>3 | 9=>9 | 2=>2 | 4=>4 | 171=>187 | 0=>0 | 53=>127 | 37=>63 | 5=>5 | 173=>190 | 212=>215 | 51=>216 | 20=>20 | 213=>217 | 46=>155 | 232=>301 | 233=>302 | n=>n,fun | 17=>2 | 18=>3 | 19=>4 | n=>n⟩
theorem Tryz.laysItoa:Go.Proofs.LaysM.n171 Tryz.prog Tryz.laysItoa_ren:={
 mixed:=by kernel_rfl
 f129:=Tryz.func196.trans (congrArg some (by kernel_rfl))
 f171:=Tryz.func54.trans (congrArg some (by kernel_rfl))
 f243:=Tryz.func98.trans (congrArg some (by kernel_rfl))
 f246:=Tryz.func127.trans (congrArg some (by kernel_rfl))
 f283:=Tryz.func162.trans (congrArg some (by kernel_rfl))
 f284:=Tryz.func163.trans (congrArg some (by kernel_rfl))
 f285:=Tryz.func164.trans (congrArg some (by kernel_rfl))
 f286:=Tryz.func165.trans (congrArg some (by kernel_rfl))
 f317:=Tryz.func195.trans (congrArg some (by kernel_rfl))
 f318:=Tryz.func197.trans (congrArg some (by kernel_rfl))
 f319:=Tryz.func198.trans (congrArg some (by kernel_rfl))
 f320:=Tryz.func199.trans (congrArg some (by kernel_rfl))
 f337:=Tryz.func240.trans (congrArg some (by kernel_rfl))
 f338:=Tryz.func241.trans (congrArg some (by kernel_rfl))
 t0:=Tryz.underlying0
 a0:=Tryz.isAgg0
 z0:=Tryz.sizeOf0
 v0:=Tryz.zeroValue0
 t2:=Tryz.underlying2
 a2:=Tryz.isAgg2
 z2:=Tryz.sizeOf2
 v2:=Tryz.zeroValue2
 t3:=Tryz.underlying3
 a3:=Tryz.isAgg3
 z3:=Tryz.sizeOf3
 v3:=Tryz.zeroValue3
 t4:=Tryz.underlying4
 a4:=Tryz.isAgg4
 z4:=Tryz.sizeOf4
 v4:=Tryz.zeroValue4
 t5:=Tryz.underlying5
 a5:=Tryz.isAgg5
 z5:=Tryz.sizeOf5
 v5:=Tryz.zeroValue5
 t9:=Tryz.underlying9
 a9:=Tryz.isAgg9
 z9:=Tryz.sizeOf9
 v9:=Tryz.zeroValue9
 t20:=Tryz.underlying20
 a20:=Tryz.isAgg20
 z20:=Tryz.sizeOf20
 v20:=Tryz.zeroValue20
 t37:=Tryz.underlying63
 a37:=Tryz.isAgg63
 z37:=Tryz.sizeOf63
 v37:=Tryz.zeroValue63
 t46:=Tryz.underlying155
 a46:=Tryz.isAgg155
 z46:=Tryz.sizeOf155
 v46:=Tryz.zeroValue155
 t51:=Tryz.underlying216
 a51:=Tryz.isAgg216
 z51:=Tryz.sizeOf216
 v51:=Tryz.zeroValue216
 t53:=Tryz.underlying127
 a53:=Tryz.isAgg127
 z53:=Tryz.sizeOf127
 v53:=Tryz.zeroValue127
 t171:=Tryz.underlying187
 a171:=Tryz.isAgg187
 z171:=Tryz.sizeOf187
 v171:=Tryz.zeroValue187
 t173:=Tryz.underlying190
 a173:=Tryz.isAgg190
 z173:=Tryz.sizeOf190
 v173:=Tryz.zeroValue190
 t212:=Tryz.underlying215
 a212:=Tryz.isAgg215
 z212:=Tryz.sizeOf215
 v212:=Tryz.zeroValue215
 t213:=Tryz.underlying217
 a213:=Tryz.isAgg217
 z213:=Tryz.sizeOf217
 t232:=Tryz.underlying301
 a232:=Tryz.isAgg301
 z232:=Tryz.sizeOf301
 v232:=Tryz.zeroValue301
 t233:=Tryz.underlying302
 a233:=Tryz.isAgg302
 z233:=Tryz.sizeOf302
 v233:=Tryz.zeroValue302
 g17:=by kernel_rfl
 g18:=by kernel_rfl
 g19:=by kernel_rfl
 i0:=by kernel_rfl
 i2:=by kernel_rfl
 i3:=by kernel_rfl
 i4:=by kernel_rfl
 i5:=by kernel_rfl
 i9:=by kernel_rfl
 i20:=by kernel_rfl
 i37:=by kernel_rfl
 i46:=by kernel_rfl
 i51:=by kernel_rfl
 i53:=by kernel_rfl
 i171:=by kernel_rfl
 i173:=by kernel_rfl
 i212:=by kernel_rfl
 i232:=by kernel_rfl
 i233:=by kernel_rfl
 m17:=by kernel_rfl
 m18:=by kernel_rfl
 m19:=by kernel_rfl }
end Go.Proofs
/- The walks of pick and value. -/
namespace Go.Proofs.YtknakfpciccoaaaGreatDoor
open Go.RowKit
def bf (Tb:World->Prop):Prop:=∀ (n:Int) (w:World),-9223372036854775808<=n->n<=9223372036854775807->Tb w->Calls Tryz.prog 54 #[.int .i64 n] w fun e w'=>e=.returned (.string (bP (Lib.itoa n)))/\Below w.heap.size w w'
def aT (c:Int):Int:=if c<0 then -(c+1) else c
theorem tX {c:Int} (h0:-9223372036854775808<=c) (h1:c<=9223372036854775807):0<=aT c/\aT c<=9223372036854775807:=by unfold aT;split<;>omega
theorem fA (c n:Int) (w:World) (h0:-9223372036854775808<=c) (h1:c<=9223372036854775807) (hn:0<n) (hn2:n<=1099511627776) :
  Calls Tryz.prog 53 #[.int .i64 c,.int .i64 n] w fun e w'=>e=.returned (.int .i64 (aT c % n))/\w'=w:=by
 have hz:(n==0)=false:=by rw [beq_eq_false_iff_ne];omega
 have hz2:n≠0:=by omega
 by_cases hc:c<0
 ·have HX:Hid (aT c=-(c+1)):=by show _=_;unfold aT;rw [if_pos hc]
  have hx:0<=-(c+1):=by omega
  go_in;go_wp2_with fail;go_ret;exact ⟨aQ (by rw [HX.out,<- Int.neg_tmod,Int.tmod_eq_emod_of_nonneg hx]),rfl⟩
 ·have HX:Hid (aT c=c):=by show _=_;unfold aT;rw [if_neg hc]
  have hx:0<=c:=by omega
  go_in;go_wp2_with fail;go_ret;exact ⟨aQ (by rw [HX.out]),rfl⟩
theorem qo {n:Int} (h0:0<=n) (h1:n<4):∃ k:Nat,k<4/\(k:Int)=n/\Lib.itoa n=[(k+48).toUInt8]:=by
 refine ⟨n.toNat,by omega,by omega,?_⟩;have:=pF n.toNat (by omega);rw [Int.toNat_of_nonneg h0] at this;exact this
theorem Bw {x y:Int} (hx:0<=x) (hx4:x<4) (hy:0<=y) (hy4:y<4):IsV ((((⟨#[91]⟩++bP (Lib.itoa x))++⟨#[44]⟩)++bP (Lib.itoa y))++⟨#[93]⟩):=by
 obtain ⟨a,ha,_,ea⟩:=qo hx hx4;obtain ⟨b,hb,_,eb⟩:=qo hy hy4;rw [ea,eb];refine ⟨16+4*a+b,by omega,?_⟩;obtain rfl | rfl | rfl | rfl:a=0\/a=1\/a=2\/a=3:=by omega
 all_goals
  obtain rfl | rfl | rfl | rfl:b=0\/b=1\/b=2\/b=3:=by omega
  all_goals kernel_rfl
theorem Gs {x:Int} (hx:0<=x) (hx4:x<4):IsV ((⟨#[123,34,98,34,58]⟩++bP (Lib.itoa x))++⟨#[125]⟩):=by
 obtain ⟨a,ha,_,ea⟩:=qo hx hx4;rw [ea];refine ⟨32+a,by omega,?_⟩;obtain rfl | rfl | rfl | rfl:a=0\/a=1\/a=2\/a=3:=by omega
 all_goals kernel_rfl
theorem Gt {x:Int} (hx:0<=x) (hx3:x<3):IsV ((⟨#[34]⟩++⟨#[Ev (97+x)]⟩)++⟨#[34]⟩):=by
 obtain rfl | rfl | rfl:x=0\/x=1\/x=2:=by omega
 ·exact ⟨12,by omega,by kernel_rfl⟩
 ·exact ⟨13,by omega,by kernel_rfl⟩
 ·exact ⟨14,by omega,by kernel_rfl⟩
theorem aD (a b:ByteArray) (n m:Nat) (ha:a.size=n) (hb:b.size=m) (h:n+m<=1000000):∃ c:ByteArray,c=a++b/\c.size=n+m/\∀ w:World,(Op.stringOp .add a b).run Tryz.prog w=.ok (.string c) w :=
 ⟨a++b,rfl,by rw [ByteArray.size_append];omega,fun w=>run_string_add_sum w a b (by omega)⟩
theorem mo {n:Int} (h0:0<=n) (h1:n<4):(bP (Lib.itoa n)).size=1:=by
 obtain ⟨k,_,_,e⟩:=qo h0 h1;rw [e];rfl
def JK (w:World) (e:Ending) (w':World):Prop:=∃ s,IsV s/\e=.returned (.string s)/\Below w.heap.size w w'
theorem MZ {Tb:World->Prop} (hI:bf Tb) (hL:aV Tb) (c:Int) (w:World) (h0:-9223372036854775808<=c) (h1:c<=9223372036854775807) (hT:Tb w) :
  Calls Tryz.prog 21 #[.int .i64 c] w (JK w):=by
 have oZ:=ak (fA c 1099511627776 w h0 h1 (by omega) (by omega));have mq:=ak (fA c 8 w h0 h1 (by omega) (by omega));have hb:=tX h0 h1;obtain ⟨P,hP⟩:∃ P,aT c % 1099511627776=P:=⟨_,rfl⟩;obtain ⟨k,hk⟩:∃ k,aT c % 8=k:=⟨_,rfl⟩;have p0:0<=P:=by omega
 have p1:P<=1099511627776:=by omega
 have k8:k=0\/k=1\/k=2\/k=3\/k=4\/k=5\/k=6\/k=7:=by omega
 rw [hP] at oZ;rw [hk] at mq;clear hP hk hb h0 h1;have HT:=ak hT;have HI:=ak hI;clear hT hI;rcases k8 with rfl | rfl | rfl | rfl | rfl | rfl | rfl | rfl
 ·go_in;go_wp2_with fail;refine oZ.out.mono ?_;rintro e w ⟨rfl,rfl⟩;go_wp2_with fail;refine mq.out.mono ?_;rintro e w ⟨rfl,rfl⟩;have HC:=ak (HI.out (P / 8 % 9 - 4) w (by omega) (by omega) HT.out);go_wp2_with fail;refine HC.out.mono ?_;rintro e w1 ⟨rfl,b1⟩;have HB:=ak b1;clear b1;go_wp2_with fail;go_ret;exact ⟨_,lY (P / 8),rfl,HB.out⟩
 ·go_in;go_wp2_with fail;refine oZ.out.mono ?_;rintro e w ⟨rfl,rfl⟩;go_wp2_with fail;refine mq.out.mono ?_;rintro e w ⟨rfl,rfl⟩;have HC:=ak (HI.out (P / 8 % 9 - 4) w (by omega) (by omega) HT.out);go_wp2_with fail;refine HC.out.mono ?_;rintro e w1 ⟨rfl,b1⟩;have HB:=ak b1;clear b1;go_wp2_with fail;go_ret;exact ⟨_,lY (P / 8),rfl,HB.out⟩
 ·go_in;go_wp2_with fail;refine oZ.out.mono ?_;rintro e w ⟨rfl,rfl⟩;go_wp2_with fail;refine mq.out.mono ?_;rintro e w ⟨rfl,rfl⟩;have HC:=ak (HI.out (P / 8 % 9 - 4) w (by omega) (by omega) HT.out);go_wp2_with fail;refine HC.out.mono ?_;rintro e w1 ⟨rfl,b1⟩;have HB:=ak b1;clear b1;go_wp2_with fail;go_ret;exact ⟨_,lY (P / 8),rfl,HB.out⟩
 ·have hcv:=aaI w (97+P / 8 % 3) (by omega);have e1:IntKind.u8.wrap (97+P / 8 % 3)=97+P / 8 % 3:=by rw [IntKind.wrap_u8];omega
  go_in;go_wp2_with fail;refine oZ.out.mono ?_;rintro e w ⟨rfl,rfl⟩;go_wp2_with fail;refine mq.out.mono ?_;rintro e w ⟨rfl,rfl⟩;go_wp2_with fail;go_ret;exact ⟨_,Gt (x:=P / 8 % 3) (by omega) (by omega),rfl,aY _ _⟩
 ·go_in;go_wp2_with fail;refine oZ.out.mono ?_;rintro e w ⟨rfl,rfl⟩;go_wp2_with fail;refine mq.out.mono ?_;rintro e w ⟨rfl,rfl⟩;have HC:=ak (HI.out (P / 8 % 4) w (by omega) (by omega) HT.out);have HV:=ak (Bw (x:=P / 8 % 4) (y:=P / 8 / 4 % 4) (by omega) (by omega) (by omega) (by omega));have z1:=mo (n:=P / 8 % 4) (by omega) (by omega);have z2:=mo (n:=P / 8 / 4 % 4) (by omega) (by omega);have Ml:=ak (fun w1 b1=>HI.out (P / 8 / 4 % 4) w1 (by omega) (by omega) (hL w HT.out w w1 HT.out b1));generalize bP (Lib.itoa (P / 8 % 4))=s1 at HC HV z1;generalize bP (Lib.itoa (P / 8 / 4 % 4))=s2 at Ml HV z2;obtain ⟨a1,e1,y1,g1⟩:=aD ⟨#[91]⟩ s1 1 1 rfl z1 (by omega);obtain ⟨a2,e2,y2,g2⟩:=aD a1 ⟨#[44]⟩ 2 1 y1 rfl (by omega);obtain ⟨a3,e3,y3,g3⟩:=aD a2 s2 3 1 y2 z2 (by omega);obtain ⟨a4,e4,y4,g4⟩:=aD a3 ⟨#[93]⟩ 4 1 y3 rfl (by omega);rw [<- e1,<- e2,<- e3,<- e4] at HV;clear e1 e2 e3 e4 y1 y2 y3 y4 z1 z2;go_wp2_with fail;refine HC.out.mono ?_;rintro e w1 ⟨rfl,b1⟩;have HB:=ak b1;have TW:=ak (Ml.out w1 b1);clear b1;go_wp2_with fail;refine TW.out.mono ?_;rintro e w2 ⟨rfl,b2⟩;have HB2:=ak (HB.out.trans (b2.mono HB.out.size));clear b2;go_wp2_with fail;go_ret;exact ⟨_,HV.out,rfl,HB2.out⟩
 ·go_in;go_wp2_with fail;refine oZ.out.mono ?_;rintro e w ⟨rfl,rfl⟩;go_wp2_with fail;refine mq.out.mono ?_;rintro e w ⟨rfl,rfl⟩;have HC:=ak (HI.out (P / 8 % 4) w (by omega) (by omega) HT.out);have HV:=ak (Gs (x:=P / 8 % 4) (by omega) (by omega));have z1:=mo (n:=P / 8 % 4) (by omega) (by omega);generalize bP (Lib.itoa (P / 8 % 4))=s1 at HC HV z1;obtain ⟨a1,e1,y1,g1⟩:=aD ⟨#[123,34,98,34,58]⟩ s1 5 1 rfl z1 (by omega);obtain ⟨a2,e2,y2,g2⟩:=aD a1 ⟨#[125]⟩ 6 1 y1 rfl (by omega);rw [<- e1,<- e2] at HV;clear e1 e2 y1 y2 z1;go_wp2_with fail;refine HC.out.mono ?_;rintro e w1 ⟨rfl,b1⟩;have HB:=ak b1;clear b1;go_wp2_with fail;go_ret;exact ⟨_,HV.out,rfl,HB.out⟩
 ·obtain ⟨m,hm⟩:∃ m,P / 8 % 3=m:=⟨_,rfl⟩;obtain h | h | h:m=0\/m=1\/m=2:=by omega
  all_goals
   subst h;go_in;go_wp2_with fail;refine oZ.out.mono ?_;rintro e w ⟨rfl,rfl⟩;go_wp2_with fail;refine mq.out.mono ?_;rintro e w ⟨rfl,rfl⟩;go_wp2_with fail;go_ret
  ·exact ⟨_,⟨0,by omega,rfl⟩,rfl,aY _ _⟩
  ·exact ⟨_,⟨2,by omega,rfl⟩,rfl,aY _ _⟩
  ·exact ⟨_,⟨1,by omega,rfl⟩,rfl,aY _ _⟩
 ·go_in;go_wp2_with fail;refine oZ.out.mono ?_;rintro e w ⟨rfl,rfl⟩;go_wp2_with fail;refine mq.out.mono ?_;rintro e w ⟨rfl,rfl⟩;go_wp2_with fail;go_ret;exact ⟨_,⟨15,by omega,rfl⟩,rfl,Below.refl _ _⟩
def smK:Nat->T->Prop
 | 0,_=>True
 | f+1,t=>nK t<=1048576/\nL t<=1048576/\(∀ i,i<nK t->(bO t i).size<=4000)/\∀ i,i<nL t->smK f (elt t i)
def bM (t:T):Prop:=(∀ f,Ud f t)/\∀ f,smK f t
theorem bM.elt {t:T} (h:bM t) {i:Nat} (hi:i<nL t):bM (elt t i):=⟨fun f=>(h.1 (f+1)).2 i hi,fun f=>(h.2 (f+1)).2.2.2 i hi⟩
theorem bM.names {t:T} (h:bM t) (k:aj t=6):nK t=nL t:=(h.1 1).1 k
theorem bM.small {t:T} (h:bM t):nK t<=1048576/\nL t<=1048576:=⟨(h.2 1).1,(h.2 1).2.1⟩
theorem bM.bO {t:T} (h:bM t) {i:Nat} (hi:i<nK t):(bO t i).size<=4000:=(h.2 1).2.2.1 i hi
theorem P7 {t:T}:∀ k,gy t k=true->∀ i,i<k->(bO t i).size<=4000
 | 0,_,i,hi=>absurd hi (by omega)
 | k+1,h,i,hi=>by
  simp only [gy,Bool.and_eq_true,decide_eq_true_eq] at h;by_cases e:i=k
  ·subst e;exact h.2.2
  ·exact P7 k h.1 i (by omega)
theorem M0:∀ (m:Nat) (t:T),1<=aI m t:=by
 have hl:∀ t,1<=dG t:=fun t=>by
  unfold dG;split
  ·exact Nat.le_refl _
  ·split
   ·omega
   ·split<;>omega
 intro m t;cases m with
 | zero=>exact hl t
 | succ m =>
  unfold aI;split
  ·omega
  ·split
   ·omega
   ·exact hl t
theorem JL {g:T->Nat} {t:T} (hg:∀ x,1<=g x):∀ k,k<=fG g t k
 | 0=>Nat.zero_le _
 | k+1=>by have:=JL hg (t:=t) k;have:=hg (elt t k);rw [fG];omega
theorem Ew {g:T->Nat} {t:T} {i:Nat}:∀ k,i<k->g (elt t i)<=fG g t k
 | 0,h=>by omega
 | k+1,h=>by
  rw [fG];by_cases e:i=k
  ·subst e;omega
  ·have:=Ew (g:=g) (t:=t) k (show i<k by omega);omega
theorem JM:∀ (f m:Nat) (t:T),dD m t->aI m t<=1048576->smK f t
 | 0,_,_,_,_=>trivial
 | f+1,0,t,h,_=>⟨by rw [h.2.1];omega,by rw [h.1];omega,fun i hi=>by rw [h.2.1] at hi;omega,fun i hi=>by rw [h.1] at hi;omega⟩
 | f+1,m+1,t,h,hb=>by
  rcases h with h | ⟨_,_,he,hk⟩
  ·exact ⟨by rw [h.2.1];omega,by rw [h.1];omega,fun i hi=>by rw [h.2.1] at hi;omega,fun i hi=>by rw [h.1] at hi;omega⟩
  ·have hs:=JL (g:=aI m) (t:=t) (M0 m) (nL t)
   have hsum:fG (aI m) t (nL t)<=1048576:=by
    unfold aI at hb;rcases hk with ⟨hk,_⟩ | ⟨hk,_⟩
    ·rw [if_pos hk] at hb;omega
    ·rw [if_neg (by omega),if_pos hk] at hb;omega
   refine ⟨?_,by omega,fun i hi=>?_,fun i hi=>JM f m _ (he i hi) ?_⟩
   ·rcases hk with ⟨_,hk⟩ | ⟨_,hk,_⟩<;>omega
   ·rcases hk with ⟨_,hk⟩ | ⟨_,_,hk,_⟩
    ·omega
    ·exact P7 _ hk i hi
   ·have:=Ew (g:=aI m) (t:=t) (nL t) hi;omega
theorem wP {m:Nat} {t:T} (h:dD m t) (hb:aI m t<=1048576):bM t:=⟨fun f=>Je f m t h,fun f=>JM f m t h hb⟩
def bI (w:World) (v:Value) (l:List ByteArray):Prop :=
 ∃ (A:Option Addr) (c:Nat),v=.slice A l.length c/\l.length<=8796093022208/\∀ i,i<l.length->∃ b o,A=some ⟨b,o,none⟩/\b<w.heap.size/\(l.getD i ByteArray.empty).size<=140737488355328/\w.cell? ⟨b,o+i,none⟩=some (.string (l.getD i ByteArray.empty))
theorem bI.keep {w w':World} {v:Value} {l:List ByteArray} (h:bI w v l) (hb:Below w.heap.size w w'):bI w' v l:=by
 obtain ⟨A,c,hv,hl,h⟩:=h;refine ⟨A,c,hv,hl,fun i hi=>?_⟩;obtain ⟨b,o,h0,h1,h2,h3⟩:=h i hi;exact ⟨b,o,h0,Nat.lt_of_lt_of_le h1 hb.size,h2,(hb.cell (p:=⟨b,o+i,none⟩) h1).trans h3⟩
theorem kI {w:World} {Ka:Option Addr} {t:T} {Kc:Nat} (h:jl w Ka t) (hn:nK t<=8796093022208):bI w (.slice Ka (nK t) Kc) (jZ t):=⟨Ka,Kc,rfl,hn,h⟩
def jN (x:ByteArray):List ByteArray->Option Nat
 | []=>none
 | y::l=>if x=y then some 0 else (jN x l).map (·+1)
def Gu (o:Option Nat):Int:=match o with | some k=>(k:Int) | none=>-1
theorem tY {x:ByteArray}:∀ {l:List ByteArray} {k:Nat},jN x l=some k->k<l.length
 | [],k,h=>by cases h
 | y::l,k,h=>by
  rw [jN] at h;split at h
  ·simp only [Option.some.injEq] at h;subst h;simp
  ·cases hi:jN x l with
   | none=>rw [hi] at h;cases h
   | some j =>
    rw [hi] at h;simp only [Option.map_some,Option.some.injEq] at h;have:=tY hi;simp only [List.length_cons];omega
theorem Gv {x:ByteArray} {l:List ByteArray} {k:Nat} (h:k<l.length) (e:x=l.getD k ByteArray.empty):jN x (l.drop k)=some 0:=by
 rw [List.drop_eq_getElem_cons h,jN,if_pos (by rw [e];simp [List.getD_eq_getElem?_getD,h])]
theorem Gw {x:ByteArray} {l:List ByteArray} {k:Nat} (h:k<l.length) (e:x≠l.getD k ByteArray.empty):jN x (l.drop k)=(jN x (l.drop (k+1))).map (·+1):=by
 rw [List.drop_eq_getElem_cons h,jN,if_neg (by intro e2;apply e;rw [e2];simp [List.getD_eq_getElem?_getD,h])]
theorem P8 (a b:ByteArray):(a.toList==b.toList)=decide (a=b):=by
 by_cases h:a=b
 ·subst h;simp
 ·rw [decide_eq_false h,beq_eq_false_iff_ne];exact fun e=>h ((oD a b).1 e)
theorem pJ (v:Value) (l:List ByteArray) (x:ByteArray) (w:World) (h:bI w v l) :
  Calls Tryz.prog 159 #[v,.string x] w fun e w'=>e=.returned (.int .i64 (Gu (jN x l)))/\w'=w:=by
 obtain ⟨A,c,rfl,hl,h⟩:=h;have H:=ak h;clear h;go_in;go_wp2_with fail;go_loopg [8] (l.length) (fun g i wr=>∃ k:Nat,g=l.length - k/\k<=l.length/\i=.int .i64 k/\wr=w/\Hid (jN x l=(jN x (l.drop k)).map (·+k)))
 case atStart=>exact ⟨0,rfl,Nat.zero_le _,rfl,rfl,by show _=_;simp⟩
 case round =>
  obtain ⟨k,rfl,hk,rfl,rfl,HE⟩:=hrel;by_cases hlt:k<l.length
  ·obtain ⟨b,o,rfl,hb,hs,hc⟩:=H.out k hlt;by_cases he:x=l.getD k ByteArray.empty
   ·have HD:=ak (Gv hlt he);have HR:Hid (jN x l=some k):=by show _=_;rw [HE.out,HD.out];simp
    rw [<- he] at hc;clear he hs;go_wp2_with fail;go_ret;exact ⟨aQ (by rw [HR.out];rfl),rfl⟩
   ·have HD:=ak (Gw hlt he);have e0:(x.toList==(l.getD k ByteArray.empty).toList)=false:=by rw [P8];exact decide_eq_false he
    generalize l.getD k ByteArray.empty=y at hc e0;clear he hs;go_wp2_with fail;go_roundg (l.length - (k+1))
    case rel=>exact ⟨k+1,rfl,by omega,by go_num,rfl,by show _=_;rw [HE.out,HD.out,Option.map_map];congr 1;funext j;show j+1+k=j+(k+1);omega⟩
    case measure=>omega
  ·obtain rfl:k=l.length:=by omega
   have HR:Hid (jN x l=none):=by show _=_;rw [HE.out,List.drop_length];rfl
   go_wp2_with fail;go_ret;exact ⟨aQ (by rw [HR.out];rfl),rfl⟩
def dn (Tb:World->Prop):Prop:=∀ (s:ByteArray) (w:World),s.size<=140737488355328->Tb w->Calls Tryz.prog 345 #[.string s] w fun e w'=>Below w.heap.size w w'/\((∃ v:Int,Lib.atoiAll s.data.toList=.ok v/\e=.returned (.tuple #[.int .i64 v,.nilIface]))\/((∀ v,Lib.atoiAll s.data.toList≠.ok v)/\∃ n te pe,e=.returned (.tuple #[.int .i64 n,.iface te pe])))
def RF (x:ByteArray) (n:Nat):Option Nat:=match Lib.atoiAll x.data.toList with
 | .ok v=>if 0<=v/\v<n/\bP (Lib.itoa v)=x then some v.toNat else none
 | _=>none
theorem abO {x:ByteArray} {n:Nat} {v:Int} (h:Lib.atoiAll x.data.toList=.ok v):RF x n=if 0<=v/\v<n/\bP (Lib.itoa v)=x then some v.toNat else none:=by unfold RF;rw [h]
theorem abP {x:ByteArray} {n:Nat} (h:∀ v,Lib.atoiAll x.data.toList≠.ok v):RF x n=none:=by
 unfold RF;cases ha:Lib.atoiAll x.data.toList with
 | ok v=>exact absurd ha (h v)
 | «syntax»=>rfl
 | range=>rfl
theorem abQ {x:ByteArray} {n k:Nat} (h:RF x n=some k):k<n:=by
 unfold RF at h;split at h
 ·split at h
  ·simp only [Option.some.injEq] at h;omega
  ·cases h
 ·cases h
theorem Dy {Tb:World->Prop} (hA:dn Tb) (hI:bf Tb) (hL:aV Tb) (x:ByteArray) (n:Nat) (w:World) (hx:x.size<=140737488355328) (hn:n<=1759218604442) (hT:Tb w) :
  Calls Tryz.prog 341 #[.string x,.int .i64 n] w fun e w'=>e=.returned (.int .i64 (Gu (RF x n)))/\Below w.heap.size w w':=by
 have HA:=ak (hA x w hx hT);have HI:=ak hI;have HT:=ak hT;have HL:=ak hL;clear hA hI hT hL;go_in;go_wp2_with fail;refine HA.out.mono ?_;rintro e w1 ⟨b1,⟨v,hv,rfl⟩ | ⟨hv,m,te,pe,rfl⟩⟩
 ·have HB:=ak b1;have HE:=ak (abO (n:=n) hv);clear b1 HA hv;by_cases h0:v<0
  ·have HR:Hid (RF x n=none):=by show _=_;rw [HE.out,if_neg (by omega)]
   go_wp2_with fail;go_ret;exact ⟨aQ (by rw [HR.out];rfl),HB.out⟩
  ·by_cases h1:(n:Int)<=v
   ·have HR:Hid (RF x n=none):=by show _=_;rw [HE.out,if_neg (by omega)]
    have h0':(0:Int)<=v:=by omega
    clear h0;go_wp2_with fail;go_ret;exact ⟨aQ (by rw [HR.out];rfl),HB.out⟩
   ·have h0':(0:Int)<=v:=by omega
    have h1':v<(n:Int):=by omega
    have HC:=ak (HI.out v w1 (by omega) (by omega) (HL.out w HT.out _ _ HT.out HB.out));clear h0 h1;by_cases h2:bP (Lib.itoa v)=x
    ·have HR:Hid (RF x n=some v.toNat):=by show _=_;rw [HE.out,if_pos ⟨h0',h1',h2⟩]
     rw [h2] at HC;clear h2;go_wp2_with fail;refine HC.out.mono ?_;rintro e w2 ⟨rfl,b2⟩;have HB2:=ak (HB.out.trans (b2.mono HB.out.size));clear b2;go_wp2_with fail;go_ret;exact ⟨aQ (by rw [HR.out];show v=(v.toNat:Int);omega),HB2.out⟩
    ·have HR:Hid (RF x n=none):=by show _=_;rw [HE.out,if_neg (fun h=>h2 h.2.2)]
     have e2:((bP (Lib.itoa v)).toList==x.toList)=false:=by rw [P8];exact decide_eq_false h2
     generalize bP (Lib.itoa v)=y at HC e2 h2;clear h2;go_wp2_with fail;refine HC.out.mono ?_;rintro e w2 ⟨rfl,b2⟩;have HB2:=ak (HB.out.trans (b2.mono HB.out.size));clear b2;go_wp2_with fail;go_ret;exact ⟨aQ (by rw [HR.out];rfl),HB2.out⟩
 ·have HB:=ak b1;have HR:=ak (abP (n:=n) hv);clear b1 HA hv;go_wp2_with fail;go_ret;exact ⟨aQ (by rw [HR.out];rfl),HB.out⟩
def M4 (x:ByteArray) (t:T):Option Nat:=if aj t=6 then jN x (jZ t) else if aj t=5 then RF x (nL t) else none
theorem JN {Tb:World->Prop} (hA:dn Tb) (hI:bf Tb) (hL:aV Tb) (x:ByteArray) (f:Nat) (v:Value) (t:T) (w:World) (hx:x.size<=140737488355328) (h:At w f v t) (hT:Tb w) :
  Calls Tryz.prog 338 #[.string x,v] w fun e w'=>e=.returned (.int .i64 (Gu (M4 x t)))/\Below w.heap.size w w':=by
 obtain ⟨g,La,Ka,Lc,Kc,rfl,rfl,hf,hl,hk⟩:=h.open;have HB1:=ak (aY w (vC t La Lc Ka Kc));have HS:=ak ((kI (Kc:=Kc) hk.out hf.m1).keep HB1.out);have HE:=ak (Dy hA hI hL x (nL t) _ hx hf.l1 (hL w hT _ _ hT HB1.out));clear h hf hl hk hT hA hI hL;by_cases k6:aj t=6
 ·have e6:(aj t==6)=true:=by simpa using k6
  have HP:Hid (M4 x t=jN x (jZ t)):=by show _=_;unfold M4;rw [if_pos k6]
  clear k6;go_in;go_wp2_with fail;refine (pJ _ _ x _ HS.out).mono ?_;rintro e w2 ⟨rfl,rfl⟩;go_wp2_with fail;go_ret;exact ⟨aQ (by rw [HP.out]),HB1.out⟩
 ·have e6:(aj t==6)=false:=by simpa using k6
  by_cases k5:aj t=5
  ·have e5:(aj t==5)=true:=by simpa using k5
   have HP:Hid (M4 x t=RF x (nL t)):=by show _=_;unfold M4;rw [if_neg k6,if_pos k5]
   clear k5 k6;go_in;go_wp2_with fail;refine HE.out.mono ?_;rintro e w2 ⟨rfl,b2⟩;have HB2:=ak (HB1.out.trans (b2.mono HB1.out.size));clear b2;go_wp2_with fail;go_ret;exact ⟨aQ (by rw [HP.out]),HB2.out⟩
  ·have e5:(aj t==5)=false:=by simpa using k5
   have HP:Hid (M4 x t=none):=by show _=_;unfold M4;rw [if_neg k6,if_neg k5]
   clear k5 k6;go_in;go_wp2_with fail;go_ret;exact ⟨aQ (by rw [HP.out];rfl),HB1.out⟩
theorem RG (f g:Nat) (va vb:Value) (a b:T) (w:World) (h:At w f va a) (h':At w g vb b) (ka:Ud f a) (kb:Ud f b) :
  Calls Tryz.prog 158 #[va,vb] w fun e w'=>e=.returned (.bool (bQ f a b==0))/\Below w.heap.size w w':=by
 have HA:=ak h;have HA':=ak h';have HK:=ak ka;have HK':=ak kb;obtain ⟨f1,La,Ka,Lc,Kc,hf1,rfl,hf,hl,hk⟩:=h.open;obtain ⟨g1,Ma,Na,Mc,Nc,hg1,rfl,hf',hl',hk'⟩:=h'.open;clear h h' hf hf' hf1 hg1 hl hk hl' hk' ka kb;have HB1:Hid (Below w.heap.size w ((w.alloc (vC a La Lc Ka Kc)).alloc (vC b Ma Mc Na Nc))):=(aY _ _).alloc (by simp) _;have HC:=ak (yU f g _ _ a b _ (HA.out.keep HB1.out) (HA'.out.keep HB1.out) HK.out HK'.out);generalize bQ f a b=n at HC;go_in;go_wp2_with fail;refine HC.out.mono ?_;rintro e w2 ⟨rfl,b2⟩;have HB2:=ak (HB1.out.trans (b2.mono HB1.out.size));clear b2;go_wp2_with fail;go_ret;exact ⟨rfl,HB2.out⟩
end Go.Proofs.YtknakfpciccoaaaGreatDoor
/- A box of a value in memory. -/
namespace Go.Proofs.YtknakfpciccoaaaGreatDoor
open Go.RowKit
def j6:List ByteArray->T->Option T
 | [],t=>some t
 | x::p,t=>(M4 x t).bind fun k=>j6 p (elt t k)
theorem M5 {x:ByteArray} {t:T} {k:Nat} (h:M4 x t=some k) (hok:aj t=6->nK t=nL t):k<nL t:=by
 unfold M4 at h;split at h
 ·have:=tY h;have:=hok ‹_›;show k<nL t;unfold nK at this;omega
 ·split at h
  ·exact abQ h
  ·cases h
def U5 (w0:World) (ps:List ByteArray) (t:T) (f:Nat) (w:World) (e:Ending) (w':World):Prop :=
 Below w.heap.size w w'/\((∃ r g A B C D,j6 ps t=some r/\g<=f/\e=.returned (.tuple #[.agg #[.int .i64 (aj r),.int .i64 (av r),.string (ay r),.slice A (nL r) B,.slice C (nK r) D],.bool true])/\At w0 g (.agg #[.int .i64 (aj r),.int .i64 (av r),.string (ay r),.slice A (nL r) B,.slice C (nK r) D]) r/\bM r) \/
  (j6 ps t=none/\e=.returned (.tuple #[.agg #[.int .i64 0,.int .i64 0,.string ⟨#[]⟩,.slice none 0 0,.slice none 0 0],.bool false])))
theorem aJ.aht {b:Nat} {c0 c1 c2 c3 c4:Value} {w:World} (h:aJ b c0 c1 c2 c3 c4 w) (u:Value):aJ b u c1 c2 c3 c4 (w.setCell ⟨b,0,none⟩ u):=by
 refine ⟨?_,?_,?_,?_,?_,?_,?_,?_,?_,?_,by simp [World.setCell];exact h.lt⟩
 ·exact World.cell?_setCell_same _ _ _ h.q0
 ·rw [aH (by omega)];exact h.q1
 ·rw [aH (by omega)];exact h.q2
 ·rw [aH (by omega)];exact h.q3
 ·rw [aH (by omega)];exact h.q4
 ·rw [World.frozen?_setCell];exact h.f0
 ·rw [World.frozen?_setCell];exact h.f1
 ·rw [World.frozen?_setCell];exact h.f2
 ·rw [World.frozen?_setCell];exact h.f3
 ·rw [World.frozen?_setCell];exact h.f4
theorem aJ.aeJ {b:Nat} {c0 c1 c2 c3 c4:Value} {w:World} (h:aJ b c0 c1 c2 c3 c4 w) (u:Value):aJ b c0 u c2 c3 c4 (w.setCell ⟨b,1,none⟩ u):=by
 refine ⟨?_,?_,?_,?_,?_,?_,?_,?_,?_,?_,by simp [World.setCell];exact h.lt⟩
 ·rw [aH (by omega)];exact h.q0
 ·exact World.cell?_setCell_same _ _ _ h.q1
 ·rw [aH (by omega)];exact h.q2
 ·rw [aH (by omega)];exact h.q3
 ·rw [aH (by omega)];exact h.q4
 ·rw [World.frozen?_setCell];exact h.f0
 ·rw [World.frozen?_setCell];exact h.f1
 ·rw [World.frozen?_setCell];exact h.f2
 ·rw [World.frozen?_setCell];exact h.f3
 ·rw [World.frozen?_setCell];exact h.f4
theorem aJ.ahu {b:Nat} {c0 c1 c2 c3 c4:Value} {w:World} (h:aJ b c0 c1 c2 c3 c4 w) (u:Value):aJ b c0 c1 u c3 c4 (w.setCell ⟨b,2,none⟩ u):=by
 refine ⟨?_,?_,?_,?_,?_,?_,?_,?_,?_,?_,by simp [World.setCell];exact h.lt⟩
 ·rw [aH (by omega)];exact h.q0
 ·rw [aH (by omega)];exact h.q1
 ·exact World.cell?_setCell_same _ _ _ h.q2
 ·rw [aH (by omega)];exact h.q3
 ·rw [aH (by omega)];exact h.q4
 ·rw [World.frozen?_setCell];exact h.f0
 ·rw [World.frozen?_setCell];exact h.f1
 ·rw [World.frozen?_setCell];exact h.f2
 ·rw [World.frozen?_setCell];exact h.f3
 ·rw [World.frozen?_setCell];exact h.f4
def bV (w:World) (b:Nat) (u0 u1 u2 u3 u4:Value):World:=((((w.setCell ⟨b,0,none⟩ u0).setCell ⟨b,1,none⟩ u1).setCell ⟨b,2,none⟩ u2).setCell ⟨b,3,none⟩ u3).setCell ⟨b,4,none⟩ u4
theorem aJ.bV {b:Nat} {c0 c1 c2 c3 c4:Value} {w:World} (h:aJ b c0 c1 c2 c3 c4 w) (u0 u1 u2 u3 u4:Value):aJ b u0 u1 u2 u3 u4 (bV w b u0 u1 u2 u3 u4) :=
 ((((h.aht u0).aeJ u1).ahu u2).aev u3).aew u4
theorem ig (w:World) {b b':Nat} (h:b'≠b) (u0 u1 u2 u3 u4:Value):(bV w b u0 u1 u2 u3 u4).heap[b']?=w.heap[b']?:=by
 have hset:∀ (w1:World) (o:Nat) (u:Value),(w1.setCell ⟨b,o,none⟩ u).heap[b']?=w1.heap[b']?:=fun w1 o u=>Below.heap_setCell _ _ _ _ (by simpa using h);unfold YtknakfpciccoaaaGreatDoor.bV;rw [hset,hset,hset,hset,hset]
theorem jA (w:World) (b:Nat) (u0 u1 u2 u3 u4:Value):(bV w b u0 u1 u2 u3 u4).heap.size=w.heap.size:=by
 unfold YtknakfpciccoaaaGreatDoor.bV;simp [World.setCell]
theorem jd (w:World) (b:Nat) (u0 u1 u2 u3 u4:Value):bq b w (bV w b u0 u1 u2 u3 u4) :=
 ((((bq.set w b 0 u0).trans (bq.set _ b 1 u1)).trans (bq.set _ b 2 u2)).trans (bq.set _ b 3 u3)).trans (bq.set _ b 4 u4)
structure FS (w:World) (c0 c1 c2 c3 c4:Value) (wr:World):Prop where
 low:Below w.heap.size w wr
 v:aJ w.heap.size c0 c1 c2 c3 c4 wr
 r:aJ (w.heap.size+1) (.int .i64 0) (.int .i64 0) (.string ⟨#[]⟩) (.slice none 0 0) (.slice none 0 0) wr
theorem FS.keep {w:World} {c0 c1 c2 c3 c4:Value} {wr w2:World} (h:FS w c0 c1 c2 c3 c4 wr) (hb:Below wr.heap.size wr w2):FS w c0 c1 c2 c3 c4 w2 :=
 ⟨h.low.trans (hb.mono h.low.size),h.v.move hb.size (hb.block _ h.v.lt),h.r.move hb.size (hb.block _ h.r.lt)⟩
theorem FS.put {w:World} {c0 c1 c2 c3 c4:Value} {wr:World} (h:FS w c0 c1 c2 c3 c4 wr) (u0 u1 u2 u3 u4:Value):FS w u0 u1 u2 u3 u4 (bV wr w.heap.size u0 u1 u2 u3 u4) :=
 ⟨h.low.trans ((jd wr w.heap.size u0 u1 u2 u3 u4).below h.low.size),h.v.bV u0 u1 u2 u3 u4,h.r.move (by rw [jA];exact Nat.le_refl _) (ig wr (by omega) _ _ _ _ _)⟩
theorem FS.res {w:World} {c0 c1 c2 c3 c4:Value} {wr:World} (h:FS w c0 c1 c2 c3 c4 wr) (u0 u1 u2 u3 u4:Value):aJ (w.heap.size+1) u0 u1 u2 u3 u4 (bV wr (w.heap.size+1) u0 u1 u2 u3 u4)/\Below w.heap.size w (bV wr (w.heap.size+1) u0 u1 u2 u3 u4) :=
 ⟨h.r.bV u0 u1 u2 u3 u4,h.low.trans (((jd wr (w.heap.size+1) u0 u1 u2 u3 u4).below (by have:=h.r.lt;omega)).mono (by omega))⟩
theorem RH {ps:List ByteArray} {k:Nat} (h:k<ps.length):ps.drop k=ps.getD k ByteArray.empty::ps.drop (k+1):=by
 rw [List.drop_eq_getElem_cons h];simp [List.getD_eq_getElem?_getD,h]
theorem JO {Tb:World->Prop} (hA:dn Tb) (hI:bf Tb) (hL:aV Tb) (p:Value) (ps:List ByteArray) (f:Nat) (v:Value) (t:T) (w0 w:World) (hb0:Below w0.heap.size w0 w) (hp:bI w p ps) (h:At w0 f v t) (hok:bM t) (hT:Tb w) :
  Calls Tryz.prog 336 #[p,v] w (U5 w0 ps t f w):=by
 have HB0:=ak hb0;clear hb0;obtain ⟨PA,pc,rfl,hpl,hps⟩:=hp;have HA0:=ak h;have HK0:=ak hok;obtain ⟨g,La,Ka,Lc,Kc,hfg,rfl,hf,hl,hk⟩:=h.open;have HPS:=ak hps;have HT:=ak hT;have HL:=ak hL;have YU:Hid (∀ (w':World),Below w.heap.size w w'->∀ x f v t,x.size<=140737488355328->At w' f v t->Calls Tryz.prog 338 #[.string x,v] w' fun e w2=>e=.returned (.int .i64 (Gu (M4 x t)))/\Below w'.heap.size w' w2):=fun w' hb x f v t hx ha=>JN hA hI hL x f v t w' hx ha (hL w hT _ _ hT hb);clear h hok hf hl hk hfg hps hT hL hA hI;go_in;go_wp2_with fail;go_loopg [11] (ps.length) (fun g i wr=>∃ (k:Nat) (tk:T) (gk:Nat) (A B C D:_),g=ps.length - k/\k<=ps.length/\i=.int .i64 k/\gk<=f/\Hid (At w0 gk (.agg #[.int .i64 (aj tk),.int .i64 (av tk),.string (ay tk),.slice A (nL tk) B,.slice C (nK tk) D]) tk)/\Hid (bM tk)/\Hid (j6 (ps.drop k) tk=j6 ps t)/\Hid (FS w (.int .i64 (aj tk)) (.int .i64 (av tk)) (.string (ay tk)) (.slice A (nL tk) B) (.slice C (nK tk) D) wr))
 case atStart =>
  refine ⟨0,t,f,La,Lc,Ka,Kc,rfl,Nat.zero_le _,rfl,Nat.le_refl _,HA0,HK0,rfl,⟨(aY _ _).alloc (by simp) _,?_,?_⟩⟩
  ·constructor<;>simp [go_sem]
  ·constructor<;>simp [go_sem]
 case round =>
  obtain ⟨k,tk,gk,A,B,C,D,rfl,hk,rfl,hgk,HA,HK,HE,HS⟩:=hrel;by_cases hlt:k<ps.length
  ·obtain ⟨pb,po,rfl,hpb,hxs,hxc⟩:=HPS.out k hlt;have HD:=ak (RH hlt);generalize ps.getD k ByteArray.empty=x at hxs hxc HD;have hxw:=(HS.out.low.cell (p:=⟨pb,po+k,none⟩) hpb).trans hxc;have HC:=ak (YU.out wr HS.out.low x gk _ tk hxs (HA.out.keep (HB0.out.trans (HS.out.low.mono HB0.out.size))));have q0:=HS.out.v.q0;have q1:=HS.out.v.q1;have q2:=HS.out.v.q2;have q3:=HS.out.v.q3;have q4:=HS.out.v.q4;have HF:Hid (j6 ps t=(M4 x tk).bind fun j=>j6 (ps.drop (k+1)) (elt tk j)):=by show _=_;rw [<- HE.out,HD.out];rfl
   clear hxc;cases hpl:M4 x tk with
   | none =>
    rw [hpl] at HC HF;have HN:Hid (j6 ps t=none):=HF.out;clear hpl HF;simp only [Gu] at HC;go_wp2_with fail;refine HC.out.mono ?_;rintro e w2 ⟨rfl,b2⟩;have HS2:=ak (HS.out.keep b2);clear b2 HC q0 q1 q2 q3 q4;have HR2:=ak HS2.out.r;have HO:=ak (HS2.out.res (.int .i64 0) (.int .i64 0) (.string ⟨#[]⟩) (.slice none 0 0) (.slice none 0 0));have r0:=HR2.out.q0;have r1:=HR2.out.q1;have r2:=HR2.out.q2;have r3:=HR2.out.q3;have r4:=HR2.out.q4;have s0:=HR2.out.f0;have s1:=HR2.out.f1;have s2:=HR2.out.f2;have s3:=HR2.out.f3;have s4:=HR2.out.f4;unfold bV at HO;go_wp2_with fail;clear r0 r1 r2 r3 r4 s0 s1 s2 s3 s4;have dB:=ak HO.out.1;have r0:=dB.out.q0;have r1:=dB.out.q1;have r2:=dB.out.q2;have r3:=dB.out.q3;have r4:=dB.out.q4;refine bodyPost_ret (v:=.tuple #[.agg #[.int .i64 0,.int .i64 0,.string ⟨#[]⟩,.slice none 0 0,.slice none 0 0],.bool false]) (by simp [results,Tryz.results336,go_sem, *]) rfl ?_;exact ⟨HO.out.2,.inr ⟨HN.out,rfl⟩⟩
   | some j =>
    have hj:=M5 hpl HK.out.names;rw [hpl] at HC HF;have Gp:Hid (j6 ps t=j6 (ps.drop (k+1)) (elt tk j)):=HF.out;clear hpl HF;simp only [Gu] at HC;obtain ⟨g',A',C',B',D',hg',hv',hfk,hel,_⟩:=HA.out.open;have hnl:=hfk.l1;simp only [Value.agg.injEq,Array.mk.injEq,List.cons.injEq,Value.slice.injEq,and_true,true_and] at hv';obtain ⟨⟨rfl,rfl⟩,rfl,rfl⟩:=hv';have Gx:Hid (bM (elt tk j)):=HK.out.elt hj;have JQ:=ak hel.out;go_wp2_with fail;refine HC.out.mono ?_;rintro e w2 ⟨rfl,b2⟩;have HS2:=ak (HS.out.keep b2);clear b2 HC q0 q1 q2 q3 q4;obtain ⟨bb,oo,A2,B2,C2,D2,rfl,hbl,p0,p1,p2,p3,p4,Ha⟩:=JQ.out.shape (HB0.out.trans (HS2.out.low.mono HB0.out.size)) j hj;have Dn:=ak HS2.out.v;have HP:=ak (HS2.out.put (.int .i64 (aj (elt tk j))) (.int .i64 (av (elt tk j))) (.string (ay (elt tk j))) (.slice A2 (nL (elt tk j)) B2) (.slice C2 (nK (elt tk j)) D2));have r0:=Dn.out.q0;have r1:=Dn.out.q1;have r2:=Dn.out.q2;have r3:=Dn.out.q3;have r4:=Dn.out.q4;have s0:=Dn.out.f0;have s1:=Dn.out.f1;have s2:=Dn.out.f2;have s3:=Dn.out.f3;have s4:=Dn.out.f4;unfold bV at HP;go_wp2_with fail;clear r0 r1 r2 r3 r4 s0 s1 s2 s3 s4;go_roundg (ps.length - (k+1))
    case rel=>exact ⟨k+1,elt tk j,g',A2,B2,C2,D2,rfl,by omega,by go_num,by omega,Ha,Gx,Gp.out.symm,HP⟩
    case measure=>omega
  ·obtain rfl:k=ps.length:=by omega
   have HF:Hid (j6 ps t=some tk):=by show _=_;rw [<- HE.out,List.drop_length];rfl
   have HR2:=ak HS.out.r;have Dn:=ak HS.out.v;have HO:=ak (HS.out.res (.int .i64 (aj tk)) (.int .i64 (av tk)) (.string (ay tk)) (.slice A (nL tk) B) (.slice C (nK tk) D));have v0:=Dn.out.q0;have v1:=Dn.out.q1;have v2:=Dn.out.q2;have v3:=Dn.out.q3;have v4:=Dn.out.q4;have r0:=HR2.out.q0;have r1:=HR2.out.q1;have r2:=HR2.out.q2;have r3:=HR2.out.q3;have r4:=HR2.out.q4;have s0:=HR2.out.f0;have s1:=HR2.out.f1;have s2:=HR2.out.f2;have s3:=HR2.out.f3;have s4:=HR2.out.f4;unfold bV at HO;go_wp2_with fail;clear r0 r1 r2 r3 r4 s0 s1 s2 s3 s4;have dB:=ak HO.out.1;have r0:=dB.out.q0;have r1:=dB.out.q1;have r2:=dB.out.q2;have r3:=dB.out.q3;have r4:=dB.out.q4;refine bodyPost_ret (v:=.tuple #[.agg #[.int .i64 (aj tk),.int .i64 (av tk),.string (ay tk),.slice A (nL tk) B,.slice C (nK tk) D],.bool true]) (by simp [results,Tryz.results336,go_sem, *]) rfl ?_;exact ⟨HO.out.2,.inl ⟨tk,gk,A,B,C,D,HF.out,hgk,rfl,HA.out,HK.out⟩⟩
end Go.Proofs.YtknakfpciccoaaaGreatDoor
