import Derived.Test.YtknakfpciccoaabGreatDoorZL9
import Derived.Shelf.LaysM
import Derived.Shelf.Strconv.Itoa3
import Derived.Test.YtknakfpciccoaabGreatDoorProg
import Derived.Test.YtknakfpciccoaabGreatDoorZL5
import Derived.Test.YtknakfpciccoaabGreatDoorZL1
import Derived.Test.YtknakfpciccoaabGreatDoorZL2
import Derived.Test.YtknakfpciccoaabGreatDoorZL3
import Derived.Test.YtknakfpciccoaabGreatDoorZL7
/- One byte as a text. -/
set_option maxHeartbeats 8000000
set_option maxRecDepth 100000
namespace Go.Proofs.YtknakfpciccoaabGreatDoor
open Go.RowKit
def D9 (a:Int):UInt8:=a.toNat.toUInt8
theorem Q9 {a:Int} (h0:0<=a) (h1:a<256):((D9 a).toNat:Int)=a:=by
 unfold D9;rw [Nat.toUInt8,UInt8.toNat_ofNat'];omega
theorem aaR (w:World) (a:Int) (ha:0<=a/\a<256):(convert 98 9 (.slice (some ⟨w.heap.size,0,none⟩) 1 1)).run Tryz.prog (w.alloc (.cells #[.int .u8 a] 5))=.ok (.string ⟨#[D9 a]⟩) (w.alloc (.cells #[.int .u8 a] 5)):=by
 refine run_convert_bytes_back (P:=Tryz.prog) (w.alloc (.cells #[.int .u8 a] 5)) 98 9 5 ⟨w.heap.size,0,none⟩ 1 [D9 a] Tryz.underlying98 Tryz.underlying5 Tryz.underlying9 (fun j hj=>?_);have hx:=Q9 ha.1 ha.2
 match j,hj with
 | 0,_=>simp [go_sem,Addr.add,hx]
end Go.Proofs.YtknakfpciccoaabGreatDoor
/- The contract of strconv.Itoa, of the library's shelf, laid at this dump. -/
namespace Go.Proofs
open Go.Shelf
def Tryz.laysItoa_ren:Go.Shelf.Ren:=⟨fun | 171=>12 | 243=>25 | 246=>42 | 283=>67 | 284=>68 | 285=>69 | 286=>70 | 129=>102 | 317=>101 | 318=>103 | 319=>104 | 320=>105 | 337=>131 | 338=>132 | n=>n,fun | 3=>3 | 9=>9 | 2=>2 | 4=>4 | 171=>111 | 0=>0 | 53=>112 | 37=>98 | 5=>5 | 173=>115 | 212=>145 | 51=>146 | 20=>20 | 213=>147 | 46=>148 | 232=>224 | 233=>225 | n=>n,fun | 17=>0 | 18=>3 | 19=>4 | n=>n⟩
theorem Tryz.laysItoa:Go.Proofs.LaysM.n171 Tryz.prog Tryz.laysItoa_ren:={
 mixed:=by kernel_rfl
 f129:=Tryz.func102.trans (congrArg some (by kernel_rfl))
 f171:=Tryz.func12.trans (congrArg some (by kernel_rfl))
 f243:=Tryz.func25.trans (congrArg some (by kernel_rfl))
 f246:=Tryz.func42.trans (congrArg some (by kernel_rfl))
 f283:=Tryz.func67.trans (congrArg some (by kernel_rfl))
 f284:=Tryz.func68.trans (congrArg some (by kernel_rfl))
 f285:=Tryz.func69.trans (congrArg some (by kernel_rfl))
 f286:=Tryz.func70.trans (congrArg some (by kernel_rfl))
 f317:=Tryz.func101.trans (congrArg some (by kernel_rfl))
 f318:=Tryz.func103.trans (congrArg some (by kernel_rfl))
 f319:=Tryz.func104.trans (congrArg some (by kernel_rfl))
 f320:=Tryz.func105.trans (congrArg some (by kernel_rfl))
 f337:=Tryz.func131.trans (congrArg some (by kernel_rfl))
 f338:=Tryz.func132.trans (congrArg some (by kernel_rfl))
 t0:=Tryz.underlying0
 a0:=Tryz.isAgg0
 z0:=Tryz.sizeOf0
 v0:=Tryz.zeroValue0
 t2:=Tryz.underlying2
 a2:=Tryz.isAgg2
 z2:=Tryz.sizeOf2
 v2:=Tryz.zeroValue2
 t3:=Tryz.underlying3
 a3:=Tryz.isAgg3
 z3:=Tryz.sizeOf3
 v3:=Tryz.zeroValue3
 t4:=Tryz.underlying4
 a4:=Tryz.isAgg4
 z4:=Tryz.sizeOf4
 v4:=Tryz.zeroValue4
 t5:=Tryz.underlying5
 a5:=Tryz.isAgg5
 z5:=Tryz.sizeOf5
 v5:=Tryz.zeroValue5
 t9:=Tryz.underlying9
 a9:=Tryz.isAgg9
 z9:=Tryz.sizeOf9
 v9:=Tryz.zeroValue9
 t20:=Tryz.underlying20
 a20:=Tryz.isAgg20
 z20:=Tryz.sizeOf20
 v20:=Tryz.zeroValue20
 t37:=Tryz.underlying98
 a37:=Tryz.isAgg98
 z37:=Tryz.sizeOf98
 v37:=Tryz.zeroValue98
 t46:=Tryz.underlying148
 a46:=Tryz.isAgg148
 z46:=Tryz.sizeOf148
 v46:=Tryz.zeroValue148
 t51:=Tryz.underlying146
 a51:=Tryz.isAgg146
 z51:=Tryz.sizeOf146
 v51:=Tryz.zeroValue146
 t53:=Tryz.underlying112
 a53:=Tryz.isAgg112
 z53:=Tryz.sizeOf112
 v53:=Tryz.zeroValue112
 t171:=Tryz.underlying111
 a171:=Tryz.isAgg111
 z171:=Tryz.sizeOf111
 v171:=Tryz.zeroValue111
 t173:=Tryz.underlying115
 a173:=Tryz.isAgg115
 z173:=Tryz.sizeOf115
 v173:=Tryz.zeroValue115
 t212:=Tryz.underlying145
 a212:=Tryz.isAgg145
 z212:=Tryz.sizeOf145
 v212:=Tryz.zeroValue145
 t213:=Tryz.underlying147
 a213:=Tryz.isAgg147
 z213:=Tryz.sizeOf147
 t232:=Tryz.underlying224
 a232:=Tryz.isAgg224
 z232:=Tryz.sizeOf224
 v232:=Tryz.zeroValue224
 t233:=Tryz.underlying225
 a233:=Tryz.isAgg225
 z233:=Tryz.sizeOf225
 v233:=Tryz.zeroValue225
 g17:=by kernel_rfl
 g18:=by kernel_rfl
 g19:=by kernel_rfl
 i0:=by kernel_rfl
 i2:=by kernel_rfl
 i3:=by kernel_rfl
 i4:=by kernel_rfl
 i5:=by kernel_rfl
 i9:=by kernel_rfl
 i20:=by kernel_rfl
 i37:=by kernel_rfl
 i46:=by kernel_rfl
 i51:=by kernel_rfl
 i53:=by kernel_rfl
 i171:=by kernel_rfl
 i173:=by kernel_rfl
 i212:=by kernel_rfl
 i232:=by kernel_rfl
 i233:=by kernel_rfl
 m17:=by kernel_rfl
 m18:=by kernel_rfl
 m19:=by kernel_rfl }
end Go.Proofs
/- The walks of pick and value. -/
namespace Go.Proofs.YtknakfpciccoaabGreatDoor
open Go.RowKit
def bn (Tb:World->Prop):Prop:=∀ (n:Int) (w:World),-9223372036854775808<=n->n<=9223372036854775807->Tb w->Calls Tryz.prog 12 #[.int .i64 n] w fun e w'=>e=.returned (.string (aY (Lib.itoa n)))/\Below w.heap.size w w'
def bQ (c:Int):Int:=if c<0 then -(c+1) else c
theorem tC {c:Int} (h0:-9223372036854775808<=c) (h1:c<=9223372036854775807):0<=bQ c/\bQ c<=9223372036854775807:=by unfold bQ;split<;>omega
theorem eO (c n:Int) (w:World) (h0:-9223372036854775808<=c) (h1:c<=9223372036854775807) (hn:0<n) (hn2:n<=1099511627776) :
  Calls Tryz.prog 11 #[.int .i64 c,.int .i64 n] w fun e w'=>e=.returned (.int .i64 (bQ c % n))/\w'=w:=by
 have hz:(n==0)=false:=by rw [beq_eq_false_iff_ne];omega
 have hz2:n≠0:=by omega
 by_cases hc:c<0
 ·have HX:Hid (bQ c=-(c+1)):=by show _=_;unfold bQ;rw [if_pos hc]
  have hx:0<=-(c+1):=by omega
  go_in;go_wp2_with fail;go_ret;exact ⟨aR (by rw [HX.out,<- Int.neg_tmod,Int.tmod_eq_emod_of_nonneg hx]),rfl⟩
 ·have HX:Hid (bQ c=c):=by show _=_;unfold bQ;rw [if_neg hc]
  have hx:0<=c:=by omega
  go_in;go_wp2_with fail;go_ret;exact ⟨aR (by rw [HX.out]),rfl⟩
theorem qw {n:Int} (h0:0<=n) (h1:n<4):∃ k:Nat,k<4/\(k:Int)=n/\Lib.itoa n=[(k+48).toUInt8]:=by
 refine ⟨n.toNat,by omega,by omega,?_⟩;have:=pO n.toNat (by omega);rw [Int.toNat_of_nonneg h0] at this;exact this
theorem AV {x y:Int} (hx:0<=x) (hx4:x<4) (hy:0<=y) (hy4:y<4):IsV ((((⟨#[91]⟩++aY (Lib.itoa x))++⟨#[44]⟩)++aY (Lib.itoa y))++⟨#[93]⟩):=by
 obtain ⟨a,ha,_,ea⟩:=qw hx hx4;obtain ⟨b,hb,_,eb⟩:=qw hy hy4;rw [ea,eb];refine ⟨16+4*a+b,by omega,?_⟩;obtain rfl | rfl | rfl | rfl:a=0\/a=1\/a=2\/a=3:=by omega
 all_goals
  obtain rfl | rfl | rfl | rfl:b=0\/b=1\/b=2\/b=3:=by omega
  all_goals kernel_rfl
theorem F7 {x:Int} (hx:0<=x) (hx4:x<4):IsV ((⟨#[123,34,98,34,58]⟩++aY (Lib.itoa x))++⟨#[125]⟩):=by
 obtain ⟨a,ha,_,ea⟩:=qw hx hx4;rw [ea];refine ⟨32+a,by omega,?_⟩;obtain rfl | rfl | rfl | rfl:a=0\/a=1\/a=2\/a=3:=by omega
 all_goals kernel_rfl
theorem F8 {x:Int} (hx:0<=x) (hx3:x<3):IsV ((⟨#[34]⟩++⟨#[D9 (97+x)]⟩)++⟨#[34]⟩):=by
 obtain rfl | rfl | rfl:x=0\/x=1\/x=2:=by omega
 ·exact ⟨12,by omega,by kernel_rfl⟩
 ·exact ⟨13,by omega,by kernel_rfl⟩
 ·exact ⟨14,by omega,by kernel_rfl⟩
theorem aB (a b:ByteArray) (n m:Nat) (ha:a.size=n) (hb:b.size=m) (h:n+m<=1000000):∃ c:ByteArray,c=a++b/\c.size=n+m/\∀ w:World,(Op.stringOp .add a b).run Tryz.prog w=.ok (.string c) w :=
 ⟨a++b,rfl,by rw [ByteArray.size_append];omega,fun w=>run_string_add_sum w a b (by omega)⟩
theorem mG {n:Int} (h0:0<=n) (h1:n<4):(aY (Lib.itoa n)).size=1:=by
 obtain ⟨k,_,_,e⟩:=qw h0 h1;rw [e];rfl
def Jo (w:World) (e:Ending) (w':World):Prop:=∃ s,IsV s/\e=.returned (.string s)/\Below w.heap.size w w'
theorem Mt {Tb:World->Prop} (hI:bn Tb) (hL:aS Tb) (c:Int) (w:World) (h0:-9223372036854775808<=c) (h1:c<=9223372036854775807) (hT:Tb w) :
  Calls Tryz.prog 32 #[.int .i64 c] w (Jo w):=by
 have pE:=aj (eO c 1099511627776 w h0 h1 (by omega) (by omega));have oO:=aj (eO c 8 w h0 h1 (by omega) (by omega));have hb:=tC h0 h1;obtain ⟨P,hP⟩:∃ P,bQ c % 1099511627776=P:=⟨_,rfl⟩;obtain ⟨k,hk⟩:∃ k,bQ c % 8=k:=⟨_,rfl⟩;have p0:0<=P:=by omega
 have p1:P<=1099511627776:=by omega
 have k8:k=0\/k=1\/k=2\/k=3\/k=4\/k=5\/k=6\/k=7:=by omega
 rw [hP] at pE;rw [hk] at oO;clear hP hk hb h0 h1;have HT:=aj hT;have HI:=aj hI;clear hT hI;rcases k8 with rfl | rfl | rfl | rfl | rfl | rfl | rfl | rfl
 ·go_in;go_wp2_with fail;refine pE.out.mono ?_;rintro e w ⟨rfl,rfl⟩;go_wp2_with fail;refine oO.out.mono ?_;rintro e w ⟨rfl,rfl⟩;have HC:=aj (HI.out (P / 8 % 9 - 4) w (by omega) (by omega) HT.out);go_wp2_with fail;refine HC.out.mono ?_;rintro e w1 ⟨rfl,b1⟩;have HB:=aj b1;clear b1;go_wp2_with fail;go_ret;exact ⟨_,l9 (P / 8),rfl,HB.out⟩
 ·go_in;go_wp2_with fail;refine pE.out.mono ?_;rintro e w ⟨rfl,rfl⟩;go_wp2_with fail;refine oO.out.mono ?_;rintro e w ⟨rfl,rfl⟩;have HC:=aj (HI.out (P / 8 % 9 - 4) w (by omega) (by omega) HT.out);go_wp2_with fail;refine HC.out.mono ?_;rintro e w1 ⟨rfl,b1⟩;have HB:=aj b1;clear b1;go_wp2_with fail;go_ret;exact ⟨_,l9 (P / 8),rfl,HB.out⟩
 ·go_in;go_wp2_with fail;refine pE.out.mono ?_;rintro e w ⟨rfl,rfl⟩;go_wp2_with fail;refine oO.out.mono ?_;rintro e w ⟨rfl,rfl⟩;have HC:=aj (HI.out (P / 8 % 9 - 4) w (by omega) (by omega) HT.out);go_wp2_with fail;refine HC.out.mono ?_;rintro e w1 ⟨rfl,b1⟩;have HB:=aj b1;clear b1;go_wp2_with fail;go_ret;exact ⟨_,l9 (P / 8),rfl,HB.out⟩
 ·have hcv:=aaR w (97+P / 8 % 3) (by omega);have e1:IntKind.u8.wrap (97+P / 8 % 3)=97+P / 8 % 3:=by rw [IntKind.wrap_u8];omega
  go_in;go_wp2_with fail;refine pE.out.mono ?_;rintro e w ⟨rfl,rfl⟩;go_wp2_with fail;refine oO.out.mono ?_;rintro e w ⟨rfl,rfl⟩;go_wp2_with fail;go_ret;exact ⟨_,F8 (x:=P / 8 % 3) (by omega) (by omega),rfl,aQ _ _⟩
 ·go_in;go_wp2_with fail;refine pE.out.mono ?_;rintro e w ⟨rfl,rfl⟩;go_wp2_with fail;refine oO.out.mono ?_;rintro e w ⟨rfl,rfl⟩;have HC:=aj (HI.out (P / 8 % 4) w (by omega) (by omega) HT.out);have HV:=aj (AV (x:=P / 8 % 4) (y:=P / 8 / 4 % 4) (by omega) (by omega) (by omega) (by omega));have z1:=mG (n:=P / 8 % 4) (by omega) (by omega);have z2:=mG (n:=P / 8 / 4 % 4) (by omega) (by omega);have LH:=aj (fun w1 b1=>HI.out (P / 8 / 4 % 4) w1 (by omega) (by omega) (hL w HT.out w w1 HT.out b1));generalize aY (Lib.itoa (P / 8 % 4))=s1 at HC HV z1;generalize aY (Lib.itoa (P / 8 / 4 % 4))=s2 at LH HV z2;obtain ⟨a1,e1,y1,g1⟩:=aB ⟨#[91]⟩ s1 1 1 rfl z1 (by omega);obtain ⟨a2,e2,y2,g2⟩:=aB a1 ⟨#[44]⟩ 2 1 y1 rfl (by omega);obtain ⟨a3,e3,y3,g3⟩:=aB a2 s2 3 1 y2 z2 (by omega);obtain ⟨a4,e4,y4,g4⟩:=aB a3 ⟨#[93]⟩ 4 1 y3 rfl (by omega);rw [<- e1,<- e2,<- e3,<- e4] at HV;clear e1 e2 e3 e4 y1 y2 y3 y4 z1 z2;go_wp2_with fail;refine HC.out.mono ?_;rintro e w1 ⟨rfl,b1⟩;have HB:=aj b1;have Tt:=aj (LH.out w1 b1);clear b1;go_wp2_with fail;refine Tt.out.mono ?_;rintro e w2 ⟨rfl,b2⟩;have HB2:=aj (HB.out.trans (b2.mono HB.out.size));clear b2;go_wp2_with fail;go_ret;exact ⟨_,HV.out,rfl,HB2.out⟩
 ·go_in;go_wp2_with fail;refine pE.out.mono ?_;rintro e w ⟨rfl,rfl⟩;go_wp2_with fail;refine oO.out.mono ?_;rintro e w ⟨rfl,rfl⟩;have HC:=aj (HI.out (P / 8 % 4) w (by omega) (by omega) HT.out);have HV:=aj (F7 (x:=P / 8 % 4) (by omega) (by omega));have z1:=mG (n:=P / 8 % 4) (by omega) (by omega);generalize aY (Lib.itoa (P / 8 % 4))=s1 at HC HV z1;obtain ⟨a1,e1,y1,g1⟩:=aB ⟨#[123,34,98,34,58]⟩ s1 5 1 rfl z1 (by omega);obtain ⟨a2,e2,y2,g2⟩:=aB a1 ⟨#[125]⟩ 6 1 y1 rfl (by omega);rw [<- e1,<- e2] at HV;clear e1 e2 y1 y2 z1;go_wp2_with fail;refine HC.out.mono ?_;rintro e w1 ⟨rfl,b1⟩;have HB:=aj b1;clear b1;go_wp2_with fail;go_ret;exact ⟨_,HV.out,rfl,HB.out⟩
 ·obtain ⟨m,hm⟩:∃ m,P / 8 % 3=m:=⟨_,rfl⟩;obtain h | h | h:m=0\/m=1\/m=2:=by omega
  all_goals
   subst h;go_in;go_wp2_with fail;refine pE.out.mono ?_;rintro e w ⟨rfl,rfl⟩;go_wp2_with fail;refine oO.out.mono ?_;rintro e w ⟨rfl,rfl⟩;go_wp2_with fail;go_ret
  ·exact ⟨_,⟨0,by omega,rfl⟩,rfl,aQ _ _⟩
  ·exact ⟨_,⟨2,by omega,rfl⟩,rfl,aQ _ _⟩
  ·exact ⟨_,⟨1,by omega,rfl⟩,rfl,aQ _ _⟩
 ·go_in;go_wp2_with fail;refine pE.out.mono ?_;rintro e w ⟨rfl,rfl⟩;go_wp2_with fail;refine oO.out.mono ?_;rintro e w ⟨rfl,rfl⟩;go_wp2_with fail;go_ret;exact ⟨_,⟨15,by omega,rfl⟩,rfl,Below.refl _ _⟩
def smK:Nat->T->Prop
 | 0,_=>True
 | f+1,t=>nK t<=1048576/\nL t<=1048576/\(∀ i,i<nK t->(bR t i).size<=4000)/\∀ i,i<nL t->smK f (elt t i)
def bM (t:T):Prop:=(∀ f,Tz f t)/\∀ f,smK f t
theorem bM.elt {t:T} (h:bM t) {i:Nat} (hi:i<nL t):bM (elt t i):=⟨fun f=>(h.1 (f+1)).2 i hi,fun f=>(h.2 (f+1)).2.2.2 i hi⟩
theorem bM.names {t:T} (h:bM t) (k:ah t=6):nK t=nL t:=(h.1 1).1 k
theorem bM.small {t:T} (h:bM t):nK t<=1048576/\nL t<=1048576:=⟨(h.2 1).1,(h.2 1).2.1⟩
theorem bM.bR {t:T} (h:bM t) {i:Nat} (hi:i<nK t):(bR t i).size<=4000:=(h.2 1).2.2.1 i hi
theorem Pp {t:T}:∀ k,gF t k=true->∀ i,i<k->(bR t i).size<=4000
 | 0,_,i,hi=>absurd hi (by omega)
 | k+1,h,i,hi=>by
  simp only [gF,Bool.and_eq_true,decide_eq_true_eq] at h;by_cases e:i=k
  ·subst e;exact h.2.2
  ·exact Pp k h.1 i (by omega)
theorem Mv:∀ (m:Nat) (t:T),1<=aK m t:=by
 have hl:∀ t,1<=dJ t:=fun t=>by
  unfold dJ;split
  ·exact Nat.le_refl _
  ·split
   ·omega
   ·split<;>omega
 intro m t;cases m with
 | zero=>exact hl t
 | succ m =>
  unfold aK;split
  ·omega
  ·split
   ·omega
   ·exact hl t
theorem Jp {g:T->Nat} {t:T} (hg:∀ x,1<=g x):∀ k,k<=fI g t k
 | 0=>Nat.zero_le _
 | k+1=>by have:=Jp hg (t:=t) k;have:=hg (elt t k);rw [fI];omega
theorem Ea {g:T->Nat} {t:T} {i:Nat}:∀ k,i<k->g (elt t i)<=fI g t k
 | 0,h=>by omega
 | k+1,h=>by
  rw [fI];by_cases e:i=k
  ·subst e;omega
  ·have:=Ea (g:=g) (t:=t) k (show i<k by omega);omega
theorem Jq:∀ (f m:Nat) (t:T),fJ m t->aK m t<=1048576->smK f t
 | 0,_,_,_,_=>trivial
 | f+1,0,t,h,_=>⟨by rw [h.2.1];omega,by rw [h.1];omega,fun i hi=>by rw [h.2.1] at hi;omega,fun i hi=>by rw [h.1] at hi;omega⟩
 | f+1,m+1,t,h,hb=>by
  rcases h with h | ⟨_,_,he,hk⟩
  ·exact ⟨by rw [h.2.1];omega,by rw [h.1];omega,fun i hi=>by rw [h.2.1] at hi;omega,fun i hi=>by rw [h.1] at hi;omega⟩
  ·have hs:=Jp (g:=aK m) (t:=t) (Mv m) (nL t)
   have hsum:fI (aK m) t (nL t)<=1048576:=by
    unfold aK at hb;rcases hk with ⟨hk,_⟩ | ⟨hk,_⟩
    ·rw [if_pos hk] at hb;omega
    ·rw [if_neg (by omega),if_pos hk] at hb;omega
   refine ⟨?_,by omega,fun i hi=>?_,fun i hi=>Jq f m _ (he i hi) ?_⟩
   ·rcases hk with ⟨_,hk⟩ | ⟨_,hk,_⟩<;>omega
   ·rcases hk with ⟨_,hk⟩ | ⟨_,_,hk,_⟩
    ·omega
    ·exact Pp _ hk i hi
   ·have:=Ea (g:=aK m) (t:=t) (nL t) hi;omega
theorem wD {m:Nat} {t:T} (h:fJ m t) (hb:aK m t<=1048576):bM t:=⟨fun f=>IV f m t h,fun f=>Jq f m t h hb⟩
def bO (w:World) (v:Value) (l:List ByteArray):Prop :=
 ∃ (A:Option Addr) (c:Nat),v=.slice A l.length c/\l.length<=8796093022208/\∀ i,i<l.length->∃ b o,A=some ⟨b,o,none⟩/\b<w.heap.size/\(l.getD i ByteArray.empty).size<=140737488355328/\w.cell? ⟨b,o+i,none⟩=some (.string (l.getD i ByteArray.empty))
theorem bO.keep {w w':World} {v:Value} {l:List ByteArray} (h:bO w v l) (hb:Below w.heap.size w w'):bO w' v l:=by
 obtain ⟨A,c,hv,hl,h⟩:=h;refine ⟨A,c,hv,hl,fun i hi=>?_⟩;obtain ⟨b,o,h0,h1,h2,h3⟩:=h i hi;exact ⟨b,o,h0,Nat.lt_of_lt_of_le h1 hb.size,h2,(hb.cell (p:=⟨b,o+i,none⟩) h1).trans h3⟩
theorem kE {w:World} {Ka:Option Addr} {t:T} {Kc:Nat} (h:ji w Ka t) (hn:nK t<=8796093022208):bO w (.slice Ka (nK t) Kc) (kQ t):=⟨Ka,Kc,rfl,hn,h⟩
def jM (x:ByteArray):List ByteArray->Option Nat
 | []=>none
 | y::l=>if x=y then some 0 else (jM x l).map (·+1)
def F9 (o:Option Nat):Int:=match o with | some k=>(k:Int) | none=>-1
theorem tF {x:ByteArray}:∀ {l:List ByteArray} {k:Nat},jM x l=some k->k<l.length
 | [],k,h=>by cases h
 | y::l,k,h=>by
  rw [jM] at h;split at h
  ·simp only [Option.some.injEq] at h;subst h;simp
  ·cases hi:jM x l with
   | none=>rw [hi] at h;cases h
   | some j =>
    rw [hi] at h;simp only [Option.map_some,Option.some.injEq] at h;have:=tF hi;simp only [List.length_cons];omega
theorem Ga {x:ByteArray} {l:List ByteArray} {k:Nat} (h:k<l.length) (e:x=l.getD k ByteArray.empty):jM x (l.drop k)=some 0:=by
 rw [List.drop_eq_getElem_cons h,jM,if_pos (by rw [e];simp [List.getD_eq_getElem?_getD,h])]
theorem Gb {x:ByteArray} {l:List ByteArray} {k:Nat} (h:k<l.length) (e:x≠l.getD k ByteArray.empty):jM x (l.drop k)=(jM x (l.drop (k+1))).map (·+1):=by
 rw [List.drop_eq_getElem_cons h,jM,if_neg (by intro e2;apply e;rw [e2];simp [List.getD_eq_getElem?_getD,h])]
theorem Pq (a b:ByteArray):(a.toList==b.toList)=decide (a=b):=by
 by_cases h:a=b
 ·subst h;simp
 ·rw [decide_eq_false h,beq_eq_false_iff_ne];exact fun e=>h ((oJ a b).1 e)
theorem pU (v:Value) (l:List ByteArray) (x:ByteArray) (w:World) (h:bO w v l) :
  Calls Tryz.prog 91 #[v,.string x] w fun e w'=>e=.returned (.int .i64 (F9 (jM x l)))/\w'=w:=by
 obtain ⟨A,c,rfl,hl,h⟩:=h;have H:=aj h;clear h;go_in;go_wp2_with fail;go_loopg [8] (l.length) (fun g i wr=>∃ k:Nat,g=l.length - k/\k<=l.length/\i=.int .i64 k/\wr=w/\Hid (jM x l=(jM x (l.drop k)).map (·+k)))
 case atStart=>exact ⟨0,rfl,Nat.zero_le _,rfl,rfl,by show _=_;simp⟩
 case round =>
  obtain ⟨k,rfl,hk,rfl,rfl,HE⟩:=hrel;by_cases hlt:k<l.length
  ·obtain ⟨b,o,rfl,hb,hs,hc⟩:=H.out k hlt;by_cases he:x=l.getD k ByteArray.empty
   ·have HD:=aj (Ga hlt he);have HR:Hid (jM x l=some k):=by show _=_;rw [HE.out,HD.out];simp
    rw [<- he] at hc;clear he hs;go_wp2_with fail;go_ret;exact ⟨aR (by rw [HR.out];rfl),rfl⟩
   ·have HD:=aj (Gb hlt he);have e0:(x.toList==(l.getD k ByteArray.empty).toList)=false:=by rw [Pq];exact decide_eq_false he
    generalize l.getD k ByteArray.empty=y at hc e0;clear he hs;go_wp2_with fail;go_roundg (l.length - (k+1))
    case rel=>exact ⟨k+1,rfl,by omega,by go_num,rfl,by show _=_;rw [HE.out,HD.out,Option.map_map];congr 1;funext j;show j+1+k=j+(k+1);omega⟩
    case measure=>omega
  ·obtain rfl:k=l.length:=by omega
   have HR:Hid (jM x l=none):=by show _=_;rw [HE.out,List.drop_length];rfl
   go_wp2_with fail;go_ret;exact ⟨aR (by rw [HR.out];rfl),rfl⟩
def dx (Tb:World->Prop):Prop:=∀ (s:ByteArray) (w:World),s.size<=140737488355328->Tb w->Calls Tryz.prog 236 #[.string s] w fun e w'=>Below w.heap.size w w'/\((∃ v:Int,Lib.atoiAll s.data.toList=.ok v/\e=.returned (.tuple #[.int .i64 v,.nilIface]))\/((∀ v,Lib.atoiAll s.data.toList≠.ok v)/\∃ n te pe,e=.returned (.tuple #[.int .i64 n,.iface te pe])))
def Ra (x:ByteArray) (n:Nat):Option Nat:=match Lib.atoiAll x.data.toList with
 | .ok v=>if 0<=v/\v<n/\aY (Lib.itoa v)=x then some v.toNat else none
 | _=>none
theorem abU {x:ByteArray} {n:Nat} {v:Int} (h:Lib.atoiAll x.data.toList=.ok v):Ra x n=if 0<=v/\v<n/\aY (Lib.itoa v)=x then some v.toNat else none:=by unfold Ra;rw [h]
theorem abV {x:ByteArray} {n:Nat} (h:∀ v,Lib.atoiAll x.data.toList≠.ok v):Ra x n=none:=by
 unfold Ra;cases ha:Lib.atoiAll x.data.toList with
 | ok v=>exact absurd ha (h v)
 | «syntax»=>rfl
 | range=>rfl
theorem abW {x:ByteArray} {n k:Nat} (h:Ra x n=some k):k<n:=by
 unfold Ra at h;split at h
 ·split at h
  ·simp only [Option.some.injEq] at h;omega
  ·cases h
 ·cases h
theorem CS {Tb:World->Prop} (hA:dx Tb) (hI:bn Tb) (hL:aS Tb) (x:ByteArray) (n:Nat) (w:World) (hx:x.size<=140737488355328) (hn:n<=1759218604442) (hT:Tb w) :
  Calls Tryz.prog 235 #[.string x,.int .i64 n] w fun e w'=>e=.returned (.int .i64 (F9 (Ra x n)))/\Below w.heap.size w w':=by
 have HA:=aj (hA x w hx hT);have HI:=aj hI;have HT:=aj hT;have HL:=aj hL;clear hA hI hT hL;go_in;go_wp2_with fail;refine HA.out.mono ?_;rintro e w1 ⟨b1,⟨v,hv,rfl⟩ | ⟨hv,m,te,pe,rfl⟩⟩
 ·have HB:=aj b1;have HE:=aj (abU (n:=n) hv);clear b1 HA hv;by_cases h0:v<0
  ·have HR:Hid (Ra x n=none):=by show _=_;rw [HE.out,if_neg (by omega)]
   go_wp2_with fail;go_ret;exact ⟨aR (by rw [HR.out];rfl),HB.out⟩
  ·by_cases h1:(n:Int)<=v
   ·have HR:Hid (Ra x n=none):=by show _=_;rw [HE.out,if_neg (by omega)]
    have h0':(0:Int)<=v:=by omega
    clear h0;go_wp2_with fail;go_ret;exact ⟨aR (by rw [HR.out];rfl),HB.out⟩
   ·have h0':(0:Int)<=v:=by omega
    have h1':v<(n:Int):=by omega
    have HC:=aj (HI.out v w1 (by omega) (by omega) (HL.out w HT.out _ _ HT.out HB.out));clear h0 h1;by_cases h2:aY (Lib.itoa v)=x
    ·have HR:Hid (Ra x n=some v.toNat):=by show _=_;rw [HE.out,if_pos ⟨h0',h1',h2⟩]
     rw [h2] at HC;clear h2;go_wp2_with fail;refine HC.out.mono ?_;rintro e w2 ⟨rfl,b2⟩;have HB2:=aj (HB.out.trans (b2.mono HB.out.size));clear b2;go_wp2_with fail;go_ret;exact ⟨aR (by rw [HR.out];show v=(v.toNat:Int);omega),HB2.out⟩
    ·have HR:Hid (Ra x n=none):=by show _=_;rw [HE.out,if_neg (fun h=>h2 h.2.2)]
     have e2:((aY (Lib.itoa v)).toList==x.toList)=false:=by rw [Pq];exact decide_eq_false h2
     generalize aY (Lib.itoa v)=y at HC e2 h2;clear h2;go_wp2_with fail;refine HC.out.mono ?_;rintro e w2 ⟨rfl,b2⟩;have HB2:=aj (HB.out.trans (b2.mono HB.out.size));clear b2;go_wp2_with fail;go_ret;exact ⟨aR (by rw [HR.out];rfl),HB2.out⟩
 ·have HB:=aj b1;have HR:=aj (abV (n:=n) hv);clear b1 HA hv;go_wp2_with fail;go_ret;exact ⟨aR (by rw [HR.out];rfl),HB.out⟩
def Rb (x:ByteArray) (t:T):Option Nat:=if ah t=6 then jM x (kQ t) else if ah t=5 then Ra x (nL t) else none
theorem Jr {Tb:World->Prop} (hA:dx Tb) (hI:bn Tb) (hL:aS Tb) (x:ByteArray) (f:Nat) (v:Value) (t:T) (w:World) (hx:x.size<=140737488355328) (h:At w f v t) (hT:Tb w) :
  Calls Tryz.prog 233 #[.string x,v] w fun e w'=>e=.returned (.int .i64 (F9 (Rb x t)))/\Below w.heap.size w w':=by
 obtain ⟨g,La,Ka,Lc,Kc,rfl,rfl,hf,hl,hk⟩:=h.open;have HB1:=aj (aQ w (vC t La Lc Ka Kc));have HS:=aj ((kE (Kc:=Kc) hk.out hf.m1).keep HB1.out);have HE:=aj (CS hA hI hL x (nL t) _ hx hf.l1 (hL w hT _ _ hT HB1.out));clear h hf hl hk hT hA hI hL;by_cases k6:ah t=6
 ·have e6:(ah t==6)=true:=by simpa using k6
  have HP:Hid (Rb x t=jM x (kQ t)):=by show _=_;unfold Rb;rw [if_pos k6]
  clear k6;go_in;go_wp2_with fail;refine (pU _ _ x _ HS.out).mono ?_;rintro e w2 ⟨rfl,rfl⟩;go_wp2_with fail;go_ret;exact ⟨aR (by rw [HP.out]),HB1.out⟩
 ·have e6:(ah t==6)=false:=by simpa using k6
  by_cases k5:ah t=5
  ·have e5:(ah t==5)=true:=by simpa using k5
   have HP:Hid (Rb x t=Ra x (nL t)):=by show _=_;unfold Rb;rw [if_neg k6,if_pos k5]
   clear k5 k6;go_in;go_wp2_with fail;refine HE.out.mono ?_;rintro e w2 ⟨rfl,b2⟩;have HB2:=aj (HB1.out.trans (b2.mono HB1.out.size));clear b2;go_wp2_with fail;go_ret;exact ⟨aR (by rw [HP.out]),HB2.out⟩
  ·have e5:(ah t==5)=false:=by simpa using k5
   have HP:Hid (Rb x t=none):=by show _=_;unfold Rb;rw [if_neg k6,if_neg k5]
   clear k5 k6;go_in;go_wp2_with fail;go_ret;exact ⟨aR (by rw [HP.out];rfl),HB1.out⟩
theorem Rf (f g:Nat) (va vb:Value) (a b:T) (w:World) (h:At w f va a) (h':At w g vb b) (ka:Tz f a) (kb:Tz f b) :
  Calls Tryz.prog 90 #[va,vb] w fun e w'=>e=.returned (.bool (bS f a b==0))/\Below w.heap.size w w':=by
 have HA:=aj h;have HA':=aj h';have HK:=aj ka;have HK':=aj kb;obtain ⟨f1,La,Ka,Lc,Kc,hf1,rfl,hf,hl,hk⟩:=h.open;obtain ⟨g1,Ma,Na,Mc,Nc,hg1,rfl,hf',hl',hk'⟩:=h'.open;clear h h' hf hf' hf1 hg1 hl hk hl' hk' ka kb;have HB1:Hid (Below w.heap.size w ((w.alloc (vC a La Lc Ka Kc)).alloc (vC b Ma Mc Na Nc))):=(aQ _ _).alloc (by simp) _;have HC:=aj (yJ f g _ _ a b _ (HA.out.keep HB1.out) (HA'.out.keep HB1.out) HK.out HK'.out);generalize bS f a b=n at HC;go_in;go_wp2_with fail;refine HC.out.mono ?_;rintro e w2 ⟨rfl,b2⟩;have HB2:=aj (HB1.out.trans (b2.mono HB1.out.size));clear b2;go_wp2_with fail;go_ret;exact ⟨rfl,HB2.out⟩
end Go.Proofs.YtknakfpciccoaabGreatDoor
/- A box of a value in memory. -/
namespace Go.Proofs.YtknakfpciccoaabGreatDoor
open Go.RowKit
def lg:List ByteArray->T->Option T
 | [],t=>some t
 | x::p,t=>(Rb x t).bind fun k=>lg p (elt t k)
theorem abX {x:ByteArray} {t:T} {k:Nat} (h:Rb x t=some k) (hok:ah t=6->nK t=nL t):k<nL t:=by
 unfold Rb at h;split at h
 ·have:=tF h;have:=hok ‹_›;show k<nL t;unfold nK at this;omega
 ·split at h
  ·exact abW h
  ·cases h
def Uz (w0:World) (ps:List ByteArray) (t:T) (f:Nat) (w:World) (e:Ending) (w':World):Prop :=
 Below w.heap.size w w'/\((∃ r g A B C D,lg ps t=some r/\g<=f/\e=.returned (.tuple #[.agg #[.int .i64 (ah r),.int .i64 (au r),.string (ay r),.slice A (nL r) B,.slice C (nK r) D],.bool true])/\At w0 g (.agg #[.int .i64 (ah r),.int .i64 (au r),.string (ay r),.slice A (nL r) B,.slice C (nK r) D]) r/\bM r) \/
  (lg ps t=none/\e=.returned (.tuple #[.agg #[.int .i64 0,.int .i64 0,.string ⟨#[]⟩,.slice none 0 0,.slice none 0 0],.bool false])))
theorem aH.ahJ {b:Nat} {c0 c1 c2 c3 c4:Value} {w:World} (h:aH b c0 c1 c2 c3 c4 w) (u:Value):aH b u c1 c2 c3 c4 (w.setCell ⟨b,0,none⟩ u):=by
 refine ⟨?_,?_,?_,?_,?_,?_,?_,?_,?_,?_,by simp [World.setCell];exact h.lt⟩
 ·exact World.cell?_setCell_same _ _ _ h.q0
 ·rw [aG (by omega)];exact h.q1
 ·rw [aG (by omega)];exact h.q2
 ·rw [aG (by omega)];exact h.q3
 ·rw [aG (by omega)];exact h.q4
 ·rw [World.frozen?_setCell];exact h.f0
 ·rw [World.frozen?_setCell];exact h.f1
 ·rw [World.frozen?_setCell];exact h.f2
 ·rw [World.frozen?_setCell];exact h.f3
 ·rw [World.frozen?_setCell];exact h.f4
theorem aH.ae3 {b:Nat} {c0 c1 c2 c3 c4:Value} {w:World} (h:aH b c0 c1 c2 c3 c4 w) (u:Value):aH b c0 u c2 c3 c4 (w.setCell ⟨b,1,none⟩ u):=by
 refine ⟨?_,?_,?_,?_,?_,?_,?_,?_,?_,?_,by simp [World.setCell];exact h.lt⟩
 ·rw [aG (by omega)];exact h.q0
 ·exact World.cell?_setCell_same _ _ _ h.q1
 ·rw [aG (by omega)];exact h.q2
 ·rw [aG (by omega)];exact h.q3
 ·rw [aG (by omega)];exact h.q4
 ·rw [World.frozen?_setCell];exact h.f0
 ·rw [World.frozen?_setCell];exact h.f1
 ·rw [World.frozen?_setCell];exact h.f2
 ·rw [World.frozen?_setCell];exact h.f3
 ·rw [World.frozen?_setCell];exact h.f4
theorem aH.ahK {b:Nat} {c0 c1 c2 c3 c4:Value} {w:World} (h:aH b c0 c1 c2 c3 c4 w) (u:Value):aH b c0 c1 u c3 c4 (w.setCell ⟨b,2,none⟩ u):=by
 refine ⟨?_,?_,?_,?_,?_,?_,?_,?_,?_,?_,by simp [World.setCell];exact h.lt⟩
 ·rw [aG (by omega)];exact h.q0
 ·rw [aG (by omega)];exact h.q1
 ·exact World.cell?_setCell_same _ _ _ h.q2
 ·rw [aG (by omega)];exact h.q3
 ·rw [aG (by omega)];exact h.q4
 ·rw [World.frozen?_setCell];exact h.f0
 ·rw [World.frozen?_setCell];exact h.f1
 ·rw [World.frozen?_setCell];exact h.f2
 ·rw [World.frozen?_setCell];exact h.f3
 ·rw [World.frozen?_setCell];exact h.f4
def bG (w:World) (b:Nat) (u0 u1 u2 u3 u4:Value):World:=((((w.setCell ⟨b,0,none⟩ u0).setCell ⟨b,1,none⟩ u1).setCell ⟨b,2,none⟩ u2).setCell ⟨b,3,none⟩ u3).setCell ⟨b,4,none⟩ u4
theorem aH.bG {b:Nat} {c0 c1 c2 c3 c4:Value} {w:World} (h:aH b c0 c1 c2 c3 c4 w) (u0 u1 u2 u3 u4:Value):aH b u0 u1 u2 u3 u4 (bG w b u0 u1 u2 u3 u4) :=
 ((((h.ahJ u0).ae3 u1).ahK u2).aeP u3).aeQ u4
theorem iA (w:World) {b b':Nat} (h:b'≠b) (u0 u1 u2 u3 u4:Value):(bG w b u0 u1 u2 u3 u4).heap[b']?=w.heap[b']?:=by
 have hset:∀ (w1:World) (o:Nat) (u:Value),(w1.setCell ⟨b,o,none⟩ u).heap[b']?=w1.heap[b']?:=fun w1 o u=>Below.heap_setCell _ _ _ _ (by simpa using h);unfold YtknakfpciccoaabGreatDoor.bG;rw [hset,hset,hset,hset,hset]
theorem jA (w:World) (b:Nat) (u0 u1 u2 u3 u4:Value):(bG w b u0 u1 u2 u3 u4).heap.size=w.heap.size:=by
 unfold YtknakfpciccoaabGreatDoor.bG;simp [World.setCell]
theorem jc (w:World) (b:Nat) (u0 u1 u2 u3 u4:Value):bI b w (bG w b u0 u1 u2 u3 u4) :=
 ((((bI.set w b 0 u0).trans (bI.set _ b 1 u1)).trans (bI.set _ b 2 u2)).trans (bI.set _ b 3 u3)).trans (bI.set _ b 4 u4)
structure FS (w:World) (c0 c1 c2 c3 c4:Value) (wr:World):Prop where
 low:Below w.heap.size w wr
 v:aH w.heap.size c0 c1 c2 c3 c4 wr
 r:aH (w.heap.size+1) (.int .i64 0) (.int .i64 0) (.string ⟨#[]⟩) (.slice none 0 0) (.slice none 0 0) wr
theorem FS.keep {w:World} {c0 c1 c2 c3 c4:Value} {wr w2:World} (h:FS w c0 c1 c2 c3 c4 wr) (hb:Below wr.heap.size wr w2):FS w c0 c1 c2 c3 c4 w2 :=
 ⟨h.low.trans (hb.mono h.low.size),h.v.move hb.size (hb.block _ h.v.lt),h.r.move hb.size (hb.block _ h.r.lt)⟩
theorem FS.put {w:World} {c0 c1 c2 c3 c4:Value} {wr:World} (h:FS w c0 c1 c2 c3 c4 wr) (u0 u1 u2 u3 u4:Value):FS w u0 u1 u2 u3 u4 (bG wr w.heap.size u0 u1 u2 u3 u4) :=
 ⟨h.low.trans ((jc wr w.heap.size u0 u1 u2 u3 u4).below h.low.size),h.v.bG u0 u1 u2 u3 u4,h.r.move (by rw [jA];exact Nat.le_refl _) (iA wr (by omega) _ _ _ _ _)⟩
theorem FS.res {w:World} {c0 c1 c2 c3 c4:Value} {wr:World} (h:FS w c0 c1 c2 c3 c4 wr) (u0 u1 u2 u3 u4:Value):aH (w.heap.size+1) u0 u1 u2 u3 u4 (bG wr (w.heap.size+1) u0 u1 u2 u3 u4)/\Below w.heap.size w (bG wr (w.heap.size+1) u0 u1 u2 u3 u4) :=
 ⟨h.r.bG u0 u1 u2 u3 u4,h.low.trans (((jc wr (w.heap.size+1) u0 u1 u2 u3 u4).below (by have:=h.r.lt;omega)).mono (by omega))⟩
theorem Rh {ps:List ByteArray} {k:Nat} (h:k<ps.length):ps.drop k=ps.getD k ByteArray.empty::ps.drop (k+1):=by
 rw [List.drop_eq_getElem_cons h];simp [List.getD_eq_getElem?_getD,h]
theorem Js {Tb:World->Prop} (hA:dx Tb) (hI:bn Tb) (hL:aS Tb) (p:Value) (ps:List ByteArray) (f:Nat) (v:Value) (t:T) (w0 w:World) (hb0:Below w0.heap.size w0 w) (hp:bO w p ps) (h:At w0 f v t) (hok:bM t) (hT:Tb w) :
  Calls Tryz.prog 231 #[p,v] w (Uz w0 ps t f w):=by
 have HB0:=aj hb0;clear hb0;obtain ⟨PA,pc,rfl,hpl,hps⟩:=hp;have HA0:=aj h;have UA:=aj hok;obtain ⟨g,La,Ka,Lc,Kc,hfg,rfl,hf,hl,hk⟩:=h.open;have HPS:=aj hps;have HT:=aj hT;have HL:=aj hL;have YU:Hid (∀ (w':World),Below w.heap.size w w'->∀ x f v t,x.size<=140737488355328->At w' f v t->Calls Tryz.prog 233 #[.string x,v] w' fun e w2=>e=.returned (.int .i64 (F9 (Rb x t)))/\Below w'.heap.size w' w2):=fun w' hb x f v t hx ha=>Jr hA hI hL x f v t w' hx ha (hL w hT _ _ hT hb);clear h hok hf hl hk hfg hps hT hL hA hI;go_in;go_wp2_with fail;go_loopg [11] (ps.length) (fun g i wr=>∃ (k:Nat) (tk:T) (gk:Nat) (A B C D:_),g=ps.length - k/\k<=ps.length/\i=.int .i64 k/\gk<=f/\Hid (At w0 gk (.agg #[.int .i64 (ah tk),.int .i64 (au tk),.string (ay tk),.slice A (nL tk) B,.slice C (nK tk) D]) tk)/\Hid (bM tk)/\Hid (lg (ps.drop k) tk=lg ps t)/\Hid (FS w (.int .i64 (ah tk)) (.int .i64 (au tk)) (.string (ay tk)) (.slice A (nL tk) B) (.slice C (nK tk) D) wr))
 case atStart =>
  refine ⟨0,t,f,La,Lc,Ka,Kc,rfl,Nat.zero_le _,rfl,Nat.le_refl _,HA0,UA,rfl,⟨(aQ _ _).alloc (by simp) _,?_,?_⟩⟩
  ·constructor<;>simp [go_sem]
  ·constructor<;>simp [go_sem]
 case round =>
  obtain ⟨k,tk,gk,A,B,C,D,rfl,hk,rfl,hgk,HA,HK,HE,HS⟩:=hrel;by_cases hlt:k<ps.length
  ·obtain ⟨pb,po,rfl,hpb,hxs,hxc⟩:=HPS.out k hlt;have HD:=aj (Rh hlt);generalize ps.getD k ByteArray.empty=x at hxs hxc HD;have hxw:=(HS.out.low.cell (p:=⟨pb,po+k,none⟩) hpb).trans hxc;have HC:=aj (YU.out wr HS.out.low x gk _ tk hxs (HA.out.keep (HB0.out.trans (HS.out.low.mono HB0.out.size))));have q0:=HS.out.v.q0;have q1:=HS.out.v.q1;have q2:=HS.out.v.q2;have q3:=HS.out.v.q3;have q4:=HS.out.v.q4;have HF:Hid (lg ps t=(Rb x tk).bind fun j=>lg (ps.drop (k+1)) (elt tk j)):=by show _=_;rw [<- HE.out,HD.out];rfl
   clear hxc;cases hpl:Rb x tk with
   | none =>
    rw [hpl] at HC HF;have HN:Hid (lg ps t=none):=HF.out;clear hpl HF;simp only [F9] at HC;go_wp2_with fail;refine HC.out.mono ?_;rintro e w2 ⟨rfl,b2⟩;have HS2:=aj (HS.out.keep b2);clear b2 HC q0 q1 q2 q3 q4;have HR2:=aj HS2.out.r;have HO:=aj (HS2.out.res (.int .i64 0) (.int .i64 0) (.string ⟨#[]⟩) (.slice none 0 0) (.slice none 0 0));have r0:=HR2.out.q0;have r1:=HR2.out.q1;have r2:=HR2.out.q2;have r3:=HR2.out.q3;have r4:=HR2.out.q4;have s0:=HR2.out.f0;have s1:=HR2.out.f1;have s2:=HR2.out.f2;have s3:=HR2.out.f3;have s4:=HR2.out.f4;unfold bG at HO;go_wp2_with fail;clear r0 r1 r2 r3 r4 s0 s1 s2 s3 s4;have bq:=aj HO.out.1;have r0:=bq.out.q0;have r1:=bq.out.q1;have r2:=bq.out.q2;have r3:=bq.out.q3;have r4:=bq.out.q4;refine bodyPost_ret (v:=.tuple #[.agg #[.int .i64 0,.int .i64 0,.string ⟨#[]⟩,.slice none 0 0,.slice none 0 0],.bool false]) (by simp [results,Tryz.results231,go_sem, *]) rfl ?_;exact ⟨HO.out.2,.inr ⟨HN.out,rfl⟩⟩
   | some j =>
    have hj:=abX hpl HK.out.names;rw [hpl] at HC HF;have F5:Hid (lg ps t=lg (ps.drop (k+1)) (elt tk j)):=HF.out;clear hpl HF;simp only [F9] at HC;obtain ⟨g',A',C',B',D',hg',hv',hfk,hel,_⟩:=HA.out.open;have hnl:=hfk.l1;simp only [Value.agg.injEq,Array.mk.injEq,List.cons.injEq,Value.slice.injEq,and_true,true_and] at hv';obtain ⟨⟨rfl,rfl⟩,rfl,rfl⟩:=hv';have Gc:Hid (bM (elt tk j)):=HK.out.elt hj;have Gd:=aj hel.out;go_wp2_with fail;refine HC.out.mono ?_;rintro e w2 ⟨rfl,b2⟩;have HS2:=aj (HS.out.keep b2);clear b2 HC q0 q1 q2 q3 q4;obtain ⟨bb,oo,A2,B2,C2,D2,rfl,hbl,p0,p1,p2,p3,p4,Ha⟩:=Gd.out.shape (HB0.out.trans (HS2.out.low.mono HB0.out.size)) j hj;have Cy:=aj HS2.out.v;have HP:=aj (HS2.out.put (.int .i64 (ah (elt tk j))) (.int .i64 (au (elt tk j))) (.string (ay (elt tk j))) (.slice A2 (nL (elt tk j)) B2) (.slice C2 (nK (elt tk j)) D2));have r0:=Cy.out.q0;have r1:=Cy.out.q1;have r2:=Cy.out.q2;have r3:=Cy.out.q3;have r4:=Cy.out.q4;have s0:=Cy.out.f0;have s1:=Cy.out.f1;have s2:=Cy.out.f2;have s3:=Cy.out.f3;have s4:=Cy.out.f4;unfold bG at HP;go_wp2_with fail;clear r0 r1 r2 r3 r4 s0 s1 s2 s3 s4;go_roundg (ps.length - (k+1))
    case rel=>exact ⟨k+1,elt tk j,g',A2,B2,C2,D2,rfl,by omega,by go_num,by omega,Ha,Gc,F5.out.symm,HP⟩
    case measure=>omega
  ·obtain rfl:k=ps.length:=by omega
   have HF:Hid (lg ps t=some tk):=by show _=_;rw [<- HE.out,List.drop_length];rfl
   have HR2:=aj HS.out.r;have Cy:=aj HS.out.v;have HO:=aj (HS.out.res (.int .i64 (ah tk)) (.int .i64 (au tk)) (.string (ay tk)) (.slice A (nL tk) B) (.slice C (nK tk) D));have v0:=Cy.out.q0;have v1:=Cy.out.q1;have v2:=Cy.out.q2;have v3:=Cy.out.q3;have v4:=Cy.out.q4;have r0:=HR2.out.q0;have r1:=HR2.out.q1;have r2:=HR2.out.q2;have r3:=HR2.out.q3;have r4:=HR2.out.q4;have s0:=HR2.out.f0;have s1:=HR2.out.f1;have s2:=HR2.out.f2;have s3:=HR2.out.f3;have s4:=HR2.out.f4;unfold bG at HO;go_wp2_with fail;clear r0 r1 r2 r3 r4 s0 s1 s2 s3 s4;have bq:=aj HO.out.1;have r0:=bq.out.q0;have r1:=bq.out.q1;have r2:=bq.out.q2;have r3:=bq.out.q3;have r4:=bq.out.q4;refine bodyPost_ret (v:=.tuple #[.agg #[.int .i64 (ah tk),.int .i64 (au tk),.string (ay tk),.slice A (nL tk) B,.slice C (nK tk) D],.bool true]) (by simp [results,Tryz.results231,go_sem, *]) rfl ?_;exact ⟨HO.out.2,.inl ⟨tk,gk,A,B,C,D,HF.out,hgk,rfl,HA.out,HK.out⟩⟩
end Go.Proofs.YtknakfpciccoaabGreatDoor
