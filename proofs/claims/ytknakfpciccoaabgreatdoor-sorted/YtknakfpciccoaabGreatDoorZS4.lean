import Derived.Test.YtknakfpciccoaabGreatDoorZS1
import Derived.Lib.ValidLaws
import Derived.Test.YtknakfpciccoaabGreatDoorZS3
import Derived.Lib.MapLaws
import Derived.Lib.IndexBytes
import Derived.Lib.ParseIntBTie
import Derived.Lib.Strings
/- The rune at the front of a text: the reference's reading of it, and the decoder's. -/
namespace Go.Proofs.YtknakfpciccoaabGreatDoor
open Go.RowKit
def bt (s:ByteArray) (i:Nat):Nat:=(s.get! i).toNat
theorem bt_lt (s:ByteArray) (i:Nat):bt s i<256:=(s.get! i).toNat_lt
def contTo (s:ByteArray):Nat→Bool
 | 0=>true
 | k+1=>contTo s k&&(decide (128≤bt s (k+1))&&decide (bt s (k+1)≤191))
def runC (s:ByteArray) (c0:Int):Nat→Int
 | 0=>c0
 | k+1=>64*runC s c0 k+(bt s (k+1):Int) - 128
def badRune (least c:Int):Bool:=decide (c<least) || decide (1114111<c) || (decide (55296≤c)&&decide (c<57344))
def finN (s:ByteArray) (n:Nat) (least c0:Int):Nat :=
 if s.size<n then 0 else if contTo s (n - 1)=false then 0 else if badRune least (runC s c0 (n - 1))=true then 0 else n
def utfN (s:ByteArray):Nat :=
 if bt s 0<128 then 1 else if 192≤bt s 0∧bt s 0<224 then finN s 2 128 (bt s 0 - 192) else if 224≤bt s 0∧bt s 0<240 then finN s 3 2048 (bt s 0 - 224) else if 240≤bt s 0∧bt s 0<248 then finN s 4 65536 (bt s 0 - 240) else 0
theorem decodeL_eq (s:ByteArray):Lib.decodeL s.data.toList=Utf8.decode s 0:=by
 unfold Lib.decodeL
 cases s with
 | mk d=>rfl
theorem utfN_decode (s:ByteArray):utfN s=if (Utf8.decode s 0).1=65533∧(Utf8.decode s 0).2=1 then 0 else (Utf8.decode s 0).2:=by
 have l0:=bt_lt s 0
 have l1:=bt_lt s 1
 have l2:=bt_lt s 2
 have l3:=bt_lt s 3
 simp only [utfN,finN,contTo,runC,badRune,Utf8.decode,Utf8.runeError,Utf8.valid,Nat.zero_add]
 simp only [← bt.eq_def]
 generalize bt s 0=a at *
 generalize bt s 1=b at *
 generalize bt s 2=c at *
 generalize bt s 3=d at *
 generalize s.size=n at *
 by_cases h1:a<128
 ·simp only [h1,if_true]
  rw [if_neg (by omega)]
 rw [if_neg h1,if_neg h1]
 by_cases h2:192≤a∧a<224
 ·have e:(a / 32==6)=true:=by simp;omega
  rw [if_pos h2]
  by_cases hc:1<n∧b / 64=2
  ·have e1:(decide (1<n)&&b / 64==2)=true:=by simp;exact hc
   rw [e,e1]
   simp only [Bool.and_self,if_true]
   rw [if_neg (by omega),if_neg (by simp;omega)]
   by_cases hv:a % 32*64+b % 64 ≥ 128
   ·rw [if_pos hv,if_neg (by simp;omega)]
    simp
   ·rw [if_neg hv,if_pos (by simp;omega)]
    simp
  ·have e1:(decide (1<n)&&b / 64==2)=false:=by
    simp only [Bool.and_eq_false_iff,decide_eq_false_iff_not,beq_eq_false_iff_ne];omega
   have e2:(a / 16==14)=false:=by simp;omega
   have e3:(a / 8==30)=false:=by simp;omega
   rw [e1,e2,e3]
   simp only [Bool.and_false,Bool.false_and,Bool.false_eq_true,if_false]
   by_cases hn:n<2
   ·simp [hn]
   ·rw [if_neg hn,if_pos (by simp;omega)]
    simp
 rw [if_neg h2]
 have g2:(a / 32==6)=false:=by simp;omega
 rw [g2]
 simp only [Bool.false_and,Bool.false_eq_true,if_false]
 by_cases h3:224≤a∧a<240
 ·have e:(a / 16==14)=true:=by simp;omega
  rw [if_pos h3]
  by_cases hc:(1<n∧b / 64=2)∧2<n∧c / 64=2
  ·have e1:(decide (1<n)&&b / 64==2)=true:=by simp;exact hc.1
   have e2:(decide (2<n)&&c / 64==2)=true:=by simp;exact hc.2
   rw [e,e1,e2]
   simp only [Bool.and_self,if_true]
   rw [if_neg (by omega),if_neg (by simp;omega)]
   generalize hX:a % 16*4096+b % 64*64+c % 64=X at *
   by_cases hv:2048≤X∧(X<55296∨57344≤X)
   ·have hi:(decide (X ≥ 2048)&&(decide ((0:Int)≤X)&&decide ((X:Int)<55296) || decide ((57344:Int)≤X)&&decide ((X:Int)≤1114111)))=true:=by simp;omega
    rw [hi,if_neg (by simp;omega)]
    simp
   ·have hi:(decide (X ≥ 2048)&&(decide ((0:Int)≤X)&&decide ((X:Int)<55296) || decide ((57344:Int)≤X)&&decide ((X:Int)≤1114111)))=false:=by
     simp only [Bool.and_eq_false_iff,Bool.or_eq_false_iff,decide_eq_false_iff_not];omega
    rw [hi,if_pos (by simp;omega)]
    simp
  ·have e1:((decide (1<n)&&b / 64==2)&&(decide (2<n)&&c / 64==2))=false:=by
    simp only [Bool.and_eq_false_iff,decide_eq_false_iff_not,beq_eq_false_iff_ne];omega
   have e3:(a / 8==30)=false:=by simp;omega
   rw [e,e3]
   simp only [Bool.true_and,Bool.false_and]
   rw [e1]
   simp only [Bool.false_eq_true,if_false]
   by_cases hn:n<3
   ·simp [hn]
   ·rw [if_neg hn,if_pos (by simp;omega)]
    simp
 rw [if_neg h3]
 have g3:(a / 16==14)=false:=by simp;omega
 rw [g3]
 simp only [Bool.false_and,Bool.false_eq_true,if_false]
 by_cases h4:240≤a∧a<248
 ·have e:(a / 8==30)=true:=by simp;omega
  rw [if_pos h4]
  by_cases hc:(1<n∧b / 64=2)∧(2<n∧c / 64=2)∧3<n∧d / 64=2
  ·have e1:(decide (1<n)&&b / 64==2)=true:=by simp;exact hc.1
   have e2:(decide (2<n)&&c / 64==2)=true:=by simp;exact hc.2.1
   have e3:(decide (3<n)&&d / 64==2)=true:=by simp;exact hc.2.2
   rw [e,e1,e2,e3]
   simp only [Bool.and_self,if_true]
   rw [if_neg (by omega),if_neg (by simp;omega)]
   generalize hX:a % 8*262144+b % 64*4096+c % 64*64+d % 64=X at *
   by_cases hv:65536≤X∧X≤1114111
   ·have hi:(decide (X ≥ 65536)&&(decide ((0:Int)≤X)&&decide ((X:Int)<55296) || decide ((57344:Int)≤X)&&decide ((X:Int)≤1114111)))=true:=by simp;omega
    rw [hi,if_neg (by simp;omega)]
    simp
   ·have hi:(decide (X ≥ 65536)&&(decide ((0:Int)≤X)&&decide ((X:Int)<55296) || decide ((57344:Int)≤X)&&decide ((X:Int)≤1114111)))=false:=by
     simp only [Bool.and_eq_false_iff,Bool.or_eq_false_iff,decide_eq_false_iff_not];omega
    rw [hi,if_pos (by simp;omega)]
    simp
  ·have e1:(((decide (1<n)&&b / 64==2)&&(decide (2<n)&&c / 64==2))&&(decide (3<n)&&d / 64==2))=false:=by
    simp only [Bool.and_eq_false_iff,decide_eq_false_iff_not,beq_eq_false_iff_ne];omega
   rw [e]
   simp only [Bool.true_and]
   rw [e1]
   simp only [Bool.false_eq_true,if_false]
   by_cases hn:n<4
   ·simp [hn]
   ·rw [if_neg hn,if_pos (by simp;omega)]
    simp
 rw [if_neg h4]
 have g4:(a / 8==30)=false:=by simp;omega
 rw [g4]
 simp
end Go.Proofs.YtknakfpciccoaabGreatDoor
/- Texts as values: what a text reads as. -/
namespace Go.Proofs.YtknakfpciccoaabGreatDoor
open Go.RowKit
def cB (s:ByteArray) (i:Nat):Nat:=if i<s.size then bt s i else 256
theorem cB_in {s:ByteArray} {i:Nat} (h:cB s i<256):i<s.size:=by
 unfold cB at h
 split at h
 ·assumption
 ·omega
theorem cB_bt {s:ByteArray} {i:Nat} (h:i<s.size):cB s i=bt s i:=by unfold cB;rw [if_pos h]
theorem cB_end {s:ByteArray} {i:Nat} (h:s.size≤i):cB s i=256:=by unfold cB;rw [if_neg (by omega)]
theorem cB_lt {s:ByteArray} {i:Nat} (h:i<s.size):cB s i<256:=by rw [cB_bt h];exact bt_lt _ _
def blank (c:Nat):Bool:=c==32 || c==9 || c==10 || c==13
def passN (p:Nat→Bool) (s:ByteArray):Nat→Nat→Nat
 | 0,i=>i
 | n+1,i=>if p (cB s i)=true then passN p s n (i+1) else i
def pass (p:Nat→Bool) (s:ByteArray) (i:Nat):Nat:=passN p s (s.size - i) i
theorem pass_step {p:Nat→Bool} (hp:p 256=false) (s:ByteArray) (i:Nat):pass p s i=if p (cB s i)=true then pass p s (i+1) else i:=by
 unfold pass
 by_cases h:i<s.size
 ·have e:s.size - i=(s.size - (i+1))+1:=by omega
  rw [e,passN]
 ·have e:s.size - i=0:=by omega
  rw [e,passN,cB_end (by omega),hp]
  rfl
theorem passN_ge (p:Nat→Bool) (s:ByteArray):∀ n i,i≤passN p s n i
 | 0,i=>Nat.le_refl _
 | n+1,i=>by
  rw [passN]
  split
  ·have:=passN_ge p s n (i+1);omega
  ·exact Nat.le_refl _
theorem passN_le (p:Nat→Bool) (s:ByteArray):∀ n i,passN p s n i≤i+n
 | 0,i=>by rw [passN];omega
 | n+1,i=>by
  rw [passN]
  split
  ·have:=passN_le p s n (i+1);omega
  ·omega
theorem pass_ge (p:Nat→Bool) (s:ByteArray) (i:Nat):i≤pass p s i:=passN_ge p s _ i
theorem pass_le (p:Nat→Bool) {s:ByteArray} {i:Nat} (h:i≤s.size):pass p s i≤s.size:=by
 have:=passN_le p s (s.size - i) i
 unfold pass
 omega
theorem pass_all {p:Nat→Bool} (hp:p 256=false) (s:ByteArray):∀ (n i j:Nat),s.size - i≤n→i≤j→j<pass p s i→p (cB s j)=true
 | 0,i,j,h,h1,h2=>by
  rw [pass_step hp,cB_end (by omega),hp] at h2
  simp at h2
  omega
 | n+1,i,j,h,h1,h2=>by
  rw [pass_step hp] at h2
  by_cases hh:p (cB s i)=true
  ·rw [if_pos hh] at h2
   by_cases e:i=j
   ·subst e;exact hh
   ·exact pass_all hp s n (i+1) j (by omega) (by omega) h2
  ·rw [if_neg hh] at h2
   omega
theorem blank_end:blank 256=false:=rfl
def sk (s:ByteArray) (i:Nat):Nat:=pass blank s i
theorem sk_step (s:ByteArray) (i:Nat):sk s i=if blank (cB s i)=true then sk s (i+1) else i:=pass_step blank_end s i
theorem sk_ge (s:ByteArray) (i:Nat):i≤sk s i:=pass_ge _ s i
theorem sk_le {s:ByteArray} {i:Nat} (h:i≤s.size):sk s i≤s.size:=pass_le _ h
def isD (c:Nat):Bool:=decide (48≤c)&&decide (c≤57)
theorem isD_end:isD 256=false:=rfl
def dg (s:ByteArray) (i:Nat):Nat:=pass isD s i
def dv (s:ByteArray) (d:Nat):Nat→Nat
 | 0=>0
 | k+1=>dv s d k*10+(cB s (d+k) - 48)
def sgn (s:ByteArray) (i:Nat):Nat:=if cB s i=45 then i+1 else i
def numS (s:ByteArray) (i:Nat):Option (Int×Nat) :=
 if dg s (sgn s i)=sgn s i then none
 else if sgn s i+1<dg s (sgn s i)∧cB s (sgn s i)=48 then none
 else if cB s i=45 then (if dv s (sgn s i) (dg s (sgn s i) - sgn s i)≤9223372036854775808 then some (-(dv s (sgn s i) (dg s (sgn s i) - sgn s i):Int),dg s (sgn s i)) else none)
 else (if dv s (sgn s i) (dg s (sgn s i) - sgn s i)<9223372036854775808 then some ((dv s (sgn s i) (dg s (sgn s i) - sgn s i):Int),dg s (sgn s i)) else none)
def pfx (s:ByteArray) (i:Nat) (t:ByteArray):Bool:=decide (i+t.size≤s.size)&&decide (s.extract i (i+t.size)=t)
def hexV (c:Nat):Option Nat:=if isD c=true then some (c - 48) else if 97≤c∧c≤102 then some (c - 87) else if 65≤c∧c≤70 then some (c - 55) else none
theorem hexV_lt {c n:Nat} (h:hexV c=some n):n<16∧c<256:=by
 unfold hexV isD at h
 split at h
 ·rename_i hh
  simp only [Option.some.injEq] at h
  simp at hh
  omega
 ·split at h
  ·simp only [Option.some.injEq] at h
   omega
  ·split at h
   ·simp only [Option.some.injEq] at h
    omega
   ·cases h
def hexN (s:ByteArray) (i:Nat):Nat→Option Nat
 | 0=>some 0
 | k+1=>(hexN s i k).bind fun a=>(hexV (cB s (i+k))).bind fun b=>some (16*a+b)
theorem hexN_lt {s:ByteArray} {i:Nat}:∀ {k n:Nat},hexN s i k=some n→n<16 ^ k∧(0<k→i+k≤s.size)
 | 0,n,h=>by
  simp only [hexN,Option.some.injEq] at h
  subst h
  exact ⟨by simp,fun h=>by omega⟩
 | k+1,n,h=>by
  rw [hexN] at h
  cases h1:hexN s i k with
  | none=>rw [h1] at h;cases h
  | some a =>
   rw [h1] at h
   simp only [Option.bind_some] at h
   cases h2:hexV (cB s (i+k)) with
   | none=>rw [h2] at h;cases h
   | some b =>
    rw [h2] at h
    simp only [Option.bind_some,Option.some.injEq] at h
    have h3:=hexN_lt h1
    have h4:=hexV_lt h2
    have h5:=cB_in h4.2
    refine ⟨?_,fun _=>by omega⟩
    rw [Nat.pow_succ]
    omega
def hex4 (s:ByteArray) (i:Nat):Option Nat:=hexN s i 4
theorem hexN_none {s:ByteArray} {i:Nat}:∀ {k m:Nat},k≤m→hexN s i k=none→hexN s i m=none:=by
 intro k m h h0
 induction h with
 | refl=>exact h0
 | step _ ih=>rw [hexN,ih];rfl
def low (s:ByteArray) (i a:Nat):Option (Nat×Nat) :=
 if a<55296∨57343<a then some (a,i)
 else if 56319<a then none
 else if cB s i=92∧cB s (i+1)=117 then (hex4 s (i+2)).bind fun b=>if b<56320∨57343<b then none else some (65536+1024*(a - 55296)+(b - 56320),i+6)
 else none
def escR (s:ByteArray) (i:Nat):Option (Nat×Nat) :=
 if cB s i=34∨cB s i=92∨cB s i=47 then some (cB s i,i+1)
 else if cB s i=98 then some (8,i+1)
 else if cB s i=102 then some (12,i+1)
 else if cB s i=110 then some (10,i+1)
 else if cB s i=114 then some (13,i+1)
 else if cB s i=116 then some (9,i+1)
 else if cB s i=117 then (hex4 s (i+1)).bind fun a=>low s (i+5) a
 else none
theorem low_adv {s:ByteArray} {i a r e:Nat} (ha:a<65536) (hi:i≤s.size) (h:low s i a=some (r,e)):i≤e∧e≤s.size∧r≤1114111:=by
 unfold low at h
 split at h
 ·simp only [Option.some.injEq,Prod.mk.injEq] at h
  omega
 ·split at h
  ·cases h
  ·split at h
   ·cases hh:hex4 s (i+2) with
    | none=>rw [hh] at h;cases h
    | some b =>
     rw [hh] at h
     simp only [Option.bind_some] at h
     have:=hexN_lt hh
     split at h
     ·cases h
     ·simp only [Option.some.injEq,Prod.mk.injEq] at h
      omega
   ·cases h
theorem escR_adv {s:ByteArray} {i r e:Nat} (h:escR s i=some (r,e)):i<e∧e≤s.size∧r≤1114111:=by
 have key:∀ (c x:Nat),cB s i=c→c<256→some (x,i+1)=some (r,e)→x<256→i<e∧e≤s.size∧r≤1114111:=by
  intro c x h1 h2 h3 h4
  have:=cB_in (h1 ▸ h2)
  simp only [Option.some.injEq,Prod.mk.injEq] at h3
  omega
 unfold escR at h
 split at h
 ·rename_i hh
  exact key _ _ rfl (by omega) h (by omega)
 ·split at h
  ·rename_i hh;exact key _ _ hh (by omega) h (by omega)
  ·split at h
   ·rename_i hh;exact key _ _ hh (by omega) h (by omega)
   ·split at h
    ·rename_i hh;exact key _ _ hh (by omega) h (by omega)
    ·split at h
     ·rename_i hh;exact key _ _ hh (by omega) h (by omega)
     ·split at h
      ·rename_i hh;exact key _ _ hh (by omega) h (by omega)
      ·split at h
       ·cases hx:hex4 s (i+1) with
        | none=>rw [hx] at h;cases h
        | some a =>
         rw [hx] at h
         simp only [Option.bind_some] at h
         have h1:=hexN_lt hx
         have:=low_adv (by omega) (by omega) h
         omega
       ·cases h
def decG (s:ByteArray):Nat×Nat:=if s.size=0 then (65533,0) else Utf8.decode s 0
def letS (s:ByteArray) (i:Nat):Option (Nat×Nat) :=
 if cB s i=92 then escR s (i+1)
 else if (decG (suf s i)).1<32∨((decG (suf s i)).1=65533∧(decG (suf s i)).2≤1) then none
 else some ((decG (suf s i)).1,i+(decG (suf s i)).2)
end Go.Proofs.YtknakfpciccoaabGreatDoor
/- Texts as values: texts, lists, objects. -/
namespace Go.Proofs.YtknakfpciccoaabGreatDoor
open Go.RowKit
theorem suf_list (s:ByteArray) (i:Nat):(suf s i).data.toList=s.data.toList.drop i:=Lib.extract_to_end s i
theorem cut_list (s:ByteArray) (i n:Nat):(s.extract i (i+n)).data.toList=(s.data.toList.drop i).take n:=by
 rw [ByteArray.data_extract,Array.toList_extract,List.extract_eq_take_drop]
 congr 1
 omega
theorem bt_list (s:ByteArray) (i:Nat):bt s i=(s.data.toList.getD i 0).toNat:=by
 unfold bt
 cases s with
 | mk d =>
  show (d[i]!).toNat=_
  simp only [List.getD_eq_getElem?_getD,Array.getElem?_toList]
  rw [getElem!_def]
  cases d[i]?<;>rfl
theorem bt_suf (s:ByteArray) (i k:Nat):bt (suf s i) k=bt s (i+k):=by
 rw [bt_list,bt_list,suf_list]
 simp [List.getD_eq_getElem?_getD,List.getElem?_drop]
theorem decode_range (x:ByteArray) (h:0<x.size):1≤(Utf8.decode x 0).2∧(Utf8.decode x 0).2≤x.size∧(Utf8.decode x 0).1≤1114111∧((Utf8.decode x 0).1<32 ↔ bt x 0<32):=by
 have l0:=bt_lt x 0
 have e0:(x.get! 0).toNat=bt x 0:=rfl
 rw [Lib.decode_at]
 simp only [Nat.sub_zero,Nat.zero_add,e0]
 rcases Lib.decodeN_shape x.size (bt x 0) (x.get! 1).toNat (x.get! 2).toNat (x.get! 3).toNat with ⟨c,e⟩ | ⟨c1,c2,c3,cv,e⟩ | ⟨c1,c2,c3,c4,cv,cs,e⟩ | ⟨c1,c2,c3,c4,c5,cv,cw,e⟩ | e
 ·rw [e];dsimp only;omega
 ·rw [e];dsimp only;omega
 ·rw [e];dsimp only;omega
 ·rw [e];dsimp only;omega
 ·rw [e]
  dsimp only
  refine ⟨by omega,by omega,by omega,?_⟩
  by_cases hb:bt x 0<32
  ·exfalso
   unfold Lib.decodeN at e
   rw [if_pos (by omega)] at e
   simp only [Prod.mk.injEq] at e
   omega
  ·omega
theorem decG_eq {x:ByteArray} (h:0<x.size):decG x=Utf8.decode x 0:=by unfold decG;rw [if_neg (by omega)]
theorem decG_nil {x:ByteArray} (h:x.size=0):decG x=(65533,0):=by unfold decG;rw [if_pos h]
theorem letS_adv {s:ByteArray} {i r e:Nat} (h:letS s i=some (r,e)):i<e∧e≤s.size∧r≤1114111:=by
 unfold letS at h
 split at h
 ·have:=escR_adv h
  omega
 ·split at h
  ·cases h
  ·rename_i h2
   simp only [Option.some.injEq,Prod.mk.injEq] at h
   have hz:=suf_size s i
   by_cases h0:(suf s i).size=0
   ·rw [decG_nil h0] at h2
    simp at h2
   ·have hd:=decode_range (suf s i) (by omega)
    rw [decG_eq (by omega)] at h
    omega
theorem letS_bad {s:ByteArray} {i:Nat} (hi:i<s.size) (h92:cB s i≠92) (h:cB s i<32∨utfN (suf s i)=0):letS s i=none:=by
 have hz:=suf_size s i
 have hd:=decode_range (suf s i) (by omega)
 have hb:=bt_suf s i 0
 have hu:=utfN_decode (suf s i)
 unfold letS
 rw [if_neg h92,decG_eq (by omega),if_pos]
 rw [cB_bt hi] at h
 rw [hb] at hd
 rcases h with h | h
 ·exact .inl (hd.2.2.2.2 h)
 ·rw [h] at hu
  split at hu
  ·rename_i hh
   exact .inr ⟨hh.1,by omega⟩
  ·omega
theorem letS_end {s:ByteArray} {i:Nat} (hi:s.size≤i):letS s i=none:=by
 have hz:=suf_size s i
 unfold letS
 rw [cB_end hi,if_neg (by omega),decG_nil (by omega)]
 rfl
theorem letS_good {s:ByteArray} {i:Nat} (hi:i<s.size) (h92:cB s i≠92) (h0:32≤cB s i) (hu0:utfN (suf s i)≠0):∃ r,letS s i=some (r,i+utfN (suf s i))∧Lib.encodeRune (r:Int)=(s.extract i (i+utfN (suf s i))).data.toList∧i+utfN (suf s i)≤s.size:=by
 have hz:=suf_size s i
 have hd:=decode_range (suf s i) (by omega)
 have hb:=bt_suf s i 0
 have hu:=utfN_decode (suf s i)
 rw [cB_bt hi] at h0
 rw [hb] at hd
 have hne:(suf s i).data.toList≠[]:=by
  intro e
  have:=congrArg List.length e
  rw [suf_list,List.length_drop] at this
  have hl:s.data.toList.length=s.size:=rfl
  simp only [List.length_nil] at this
  omega
 by_cases hv:(Utf8.decode (suf s i) 0).1=65533∧(Utf8.decode (suf s i) 0).2=1
 ·rw [if_pos hv] at hu;omega
 ·rw [if_neg hv] at hu
  have he:=Lib.encode_decode (suf s i).data.toList hne (by rw [decodeL_eq];exact hv)
  rw [decodeL_eq,suf_list] at he
  refine ⟨(Utf8.decode (suf s i) 0).1,?_,?_,by omega⟩
  ·unfold letS
   rw [if_neg h92,decG_eq (by omega),if_neg,hu]
   intro hh
   rcases hh with hh | hh
   ·have:=hd.2.2.2.1 hh;simp at this;omega
   ·exact hv ⟨hh.1,by omega⟩
  ·rw [cut_list,hu]
   exact he
def txtN (s:ByteArray):Nat→Nat→Option (List UInt8×Nat)
 | 0,_=>none
 | n+1,i=>if cB s i=34 then some ([],i+1) else (letS s i).bind fun p=>(txtN s n p.2).map fun q=>(Lib.encodeRune (p.1:Int)++q.1,q.2)
def baL (l:List UInt8):ByteArray:=⟨l.toArray⟩
theorem baL_list (l:List UInt8):(baL l).data.toList=l:=by simp [baL]
theorem baL_size (l:List UInt8):(baL l).size=l.length:=by simp [baL,ByteArray.size]
def txtS (s:ByteArray) (i:Nat):Option (ByteArray×Nat):=if cB s i=34 then (txtN s (s.size+1) (i+1)).map fun p=>(baL p.1,p.2) else none
theorem txtN_quote {s:ByteArray} {n i:Nat} (h:cB s i=34):txtN s (n+1) i=some ([],i+1):=by rw [txtN,if_pos h]
theorem txtN_let {s:ByteArray} {n i r e:Nat} (acc:List UInt8) (h:cB s i≠34) (hl:letS s i=some (r,e)):(txtN s (n+1) i).map (fun p=>(acc++p.1,p.2))=(txtN s n e).map fun p=>((acc++Lib.encodeRune (r:Int))++p.1,p.2):=by
 rw [txtN,if_neg h,hl]
 simp only [Option.bind_some,Option.map_map]
 congr 1
 funext p
 simp
theorem txtN_none {s:ByteArray} {n i:Nat} (h:cB s i≠34) (hl:letS s i=none):txtN s (n+1) i=none:=by
 rw [txtN,if_neg h,hl];rfl
theorem txtN_adv {s:ByteArray}:∀ {n i:Nat} {l:List UInt8} {e:Nat},txtN s n i=some (l,e)→i<e∧e≤s.size∧l.length≤4*(e - i)
 | 0,i,l,e,h=>by cases h
 | n+1,i,l,e,h=>by
  rw [txtN] at h
  split at h
  ·rename_i hc
   simp only [Option.some.injEq,Prod.mk.injEq] at h
   have:=cB_in (s:=s) (i:=i) (by omega)
   obtain ⟨rfl,rfl⟩:=h
   simp
   omega
  ·cases hl:letS s i with
   | none=>rw [hl] at h;cases h
   | some p =>
    rw [hl] at h
    simp only [Option.bind_some] at h
    cases ht:txtN s n p.2 with
    | none=>rw [ht] at h;cases h
    | some q =>
     rw [ht] at h
     simp only [Option.map_some,Option.some.injEq,Prod.mk.injEq] at h
     obtain ⟨rfl,rfl⟩:=h
     have h1:=letS_adv (r:=p.1) (e:=p.2) hl
     have h2:=txtN_adv (l:=q.1) (e:=q.2) ht
     have h3:=Lib.runeCells_le (p.1:Int)
     rw [Lib.runeCells_length] at h3
     rw [List.length_append]
     omega
theorem txtS_adv {s:ByteArray} {i:Nat} {x:ByteArray} {e:Nat} (h:txtS s i=some (x,e)):i+1<e∧e≤s.size∧x.size≤4*s.size:=by
 unfold txtS at h
 split at h
 ·cases ht:txtN s (s.size+1) (i+1) with
  | none=>rw [ht] at h;cases h
  | some q =>
   rw [ht] at h
   simp only [Option.map_some,Option.some.injEq,Prod.mk.injEq] at h
   obtain ⟨rfl,rfl⟩:=h
   have:=txtN_adv (l:=q.1) (e:=q.2) ht
   rw [baL_size]
   omega
 ·cases h
theorem dg_ge (s:ByteArray) (i:Nat):i≤dg s i:=pass_ge _ s i
theorem dg_le {s:ByteArray} {i:Nat} (h:i≤s.size):dg s i≤s.size:=pass_le _ h
theorem numS_adv {s:ByteArray} {i:Nat} {v:Int} {e:Nat} (hi:i≤s.size) (h:numS s i=some (v,e)):i<e∧e≤s.size∧-9223372036854775808≤v∧v≤9223372036854775807:=by
 have hs:sgn s i≤s.size∧i≤sgn s i:=by
  unfold sgn
  split
  ·rename_i hc
   have:=cB_in (s:=s) (i:=i) (by omega)
   omega
  ·omega
 have h1:=dg_ge s (sgn s i)
 have h2:=dg_le hs.1
 unfold numS at h
 split at h
 ·cases h
 ·split at h
  ·cases h
  ·split at h
   ·split at h
    ·simp only [Option.some.injEq,Prod.mk.injEq] at h
     omega
    ·cases h
   ·split at h
    ·simp only [Option.some.injEq,Prod.mk.injEq] at h
     omega
    ·cases h
def keyS (s:ByteArray) (o:Bool) (i:Nat):Option (ByteArray×Nat) :=
 if o=true then (txtS s (sk s i)).bind fun p=>if cB s (sk s p.2)=58 then some (p.1,sk s p.2+1) else none else some (ByteArray.empty,i)
def cl (o:Bool):Nat:=if o=true then 125 else 93
def app (o:Bool) (k:ByteArray) (t:T) (r:(List ByteArray×List T)×Nat):(List ByteArray×List T)×Nat:=((if o=true then k::r.1.1 else r.1.1,t::r.1.2),r.2)
def itm (f:Nat→Option (T×Nat)) (s:ByteArray) (o:Bool):Nat→Nat→Option ((List ByteArray×List T)×Nat)
 | 0,_=>none
 | m+1,i=>(keyS s o i).bind fun p=>(f p.2).bind fun q =>
   if cB s (sk s q.2)=44 then (itm f s o m (sk s q.2+1)).map (app o p.1 q.1)
   else if cB s (sk s q.2)=cl o then some (app o p.1 q.1 (([],[]),sk s q.2+1)) else none
def boxS (f:Nat→Option (T×Nat)) (s:ByteArray) (o:Bool) (j:Nat):Option ((List ByteArray×List T)×Nat) :=
 if cB s (sk s j)=cl o then some (([],[]),sk s j+1) else itm f s o (s.size+1) (sk s j)
def wNull:ByteArray:=⟨#[110,117,108,108]⟩
def wTrue:ByteArray:=⟨#[116,114,117,101]⟩
def wFalse:ByteArray:=⟨#[102,97,108,115,101]⟩
def bareV (f:Nat→Option (T×Nat)) (s:ByteArray) (j:Nat):Option (T×Nat) :=
 if cB s j=34 then (txtS s j).map fun p=>(leafT 4 0 p.1,p.2)
 else if cB s j=91 then (boxS f s false (j+1)).map fun r=>(mkT 5 0 ByteArray.empty r.1.2 r.1.1,r.2)
 else if cB s j=123 then (boxS f s true (j+1)).map fun r=>(mkT 6 0 ByteArray.empty r.1.2 r.1.1,r.2)
 else if cB s j=45∨isD (cB s j)=true then (numS s j).map fun p=>(leafT 3 p.1 ByteArray.empty,p.2)
 else if pfx s j wNull=true then some (leafT 1 0 ByteArray.empty,j+4)
 else if pfx s j wTrue=true then some (leafT 2 1 ByteArray.empty,j+4)
 else if pfx s j wFalse=true then some (leafT 2 0 ByteArray.empty,j+5)
 else none
def valN (s:ByteArray):Nat→Nat→Option (T×Nat)
 | 0,_=>none
 | n+1,i=>bareV (valN s n) s (sk s i)
theorem pfx_le {s:ByteArray} {i:Nat} {t:ByteArray} (h:pfx s i t=true):i+t.size≤s.size:=by
 unfold pfx at h
 simp only [Bool.and_eq_true,decide_eq_true_eq] at h
 exact h.1
theorem keyS_adv {s:ByteArray} {o:Bool} {i:Nat} {p:ByteArray×Nat} (hi:i≤s.size) (h:keyS s o i=some p):i≤p.2∧p.2≤s.size∧p.1.size≤4*s.size:=by
 unfold keyS at h
 split at h
 ·cases ht:txtS s (sk s i) with
  | none=>rw [ht] at h;cases h
  | some q =>
   rw [ht] at h
   simp only [Option.bind_some] at h
   have h1:=txtS_adv (x:=q.1) (e:=q.2) ht
   have h2:=sk_ge s i
   have h3:=sk_ge s q.2
   split at h
   ·rename_i hc
    have:=cB_in (s:=s) (i:=sk s q.2) (by omega)
    simp only [Option.some.injEq] at h
    subst h
    dsimp only
    omega
   ·cases h
 ·simp only [Option.some.injEq] at h
  subst h
  refine ⟨Nat.le_refl _,hi,?_⟩
  show 0≤_
  omega
theorem itm_adv {f:Nat→Option (T×Nat)} {s:ByteArray} (hf:∀ i t e,i≤s.size→f i=some (t,e)→i<e∧e≤s.size) (o:Bool):∀ (m i:Nat) (r:(List ByteArray×List T)×Nat),i≤s.size→itm f s o m i=some r→i<r.2∧r.2≤s.size
 | 0,i,r,_,h=>by cases h
 | m+1,i,r,hi,h=>by
  rw [itm] at h
  cases hk:keyS s o i with
  | none=>rw [hk] at h;cases h
  | some p =>
   rw [hk] at h
   simp only [Option.bind_some] at h
   have h1:=keyS_adv hi hk
   cases hq:f p.2 with
   | none=>rw [hq] at h;cases h
   | some q =>
    rw [hq] at h
    simp only [Option.bind_some] at h
    have h2:=hf p.2 q.1 q.2 h1.2.1 hq
    have h3:=sk_ge s q.2
    split at h
    ·rename_i hc
     have h4:=cB_in (s:=s) (i:=sk s q.2) (by omega)
     cases hr:itm f s o m (sk s q.2+1) with
     | none=>rw [hr] at h;cases h
     | some r' =>
      rw [hr] at h
      simp only [Option.map_some,Option.some.injEq] at h
      have h5:=itm_adv hf o m _ r' (by omega) hr
      subst h
      simp only [app]
      omega
    ·split at h
     ·rename_i hc
      have h4:=cB_in (s:=s) (i:=sk s q.2) (by unfold cl at hc;split at hc<;>omega)
      simp only [Option.some.injEq] at h
      subst h
      simp only [app]
      omega
     ·cases h
theorem bareV_adv {f:Nat→Option (T×Nat)} {s:ByteArray} (hf:∀ i t e,i≤s.size→f i=some (t,e)→i<e∧e≤s.size) {j:Nat} {t:T} {e:Nat} (hj:j≤s.size) (h:bareV f s j=some (t,e)):j<e∧e≤s.size:=by
 have hbox:∀ (o:Bool) (k:Int),cB s j<256→(boxS f s o (j+1)).map (fun r=>(mkT k 0 ByteArray.empty r.1.2 r.1.1,r.2))=some (t,e)→j<e∧e≤s.size:=by
  intro o k hc hh
  have hj1:=cB_in hc
  have h3:=sk_ge s (j+1)
  have h5:=sk_le (s:=s) (i:=j+1) (by omega)
  cases hb:boxS f s o (j+1) with
  | none=>rw [hb] at hh;cases hh
  | some r =>
   rw [hb] at hh
   simp only [Option.map_some,Option.some.injEq,Prod.mk.injEq] at hh
   unfold boxS at hb
   split at hb
   ·rename_i hc
    have h4:=cB_in (s:=s) (i:=sk s (j+1)) (by unfold cl at hc;split at hc<;>omega)
    simp only [Option.some.injEq] at hb
    subst hb
    dsimp only at hh
    omega
   ·have:=itm_adv hf o _ _ r h5 hb
    omega
 unfold bareV at h
 split at h
 ·cases ht:txtS s j with
  | none=>rw [ht] at h;cases h
  | some q =>
   rw [ht] at h
   simp only [Option.map_some,Option.some.injEq,Prod.mk.injEq] at h
   have h1:=txtS_adv (x:=q.1) (e:=q.2) ht
   omega
 ·split at h
  ·exact hbox _ _ (by omega) h
  ·split at h
   ·exact hbox _ _ (by omega) h
   ·split at h
    ·cases ht:numS s j with
     | none=>rw [ht] at h;cases h
     | some q =>
      rw [ht] at h
      simp only [Option.map_some,Option.some.injEq,Prod.mk.injEq] at h
      have h1:=numS_adv (v:=q.1) (e:=q.2) hj ht
      omega
    ·split at h
     ·rename_i hp
      have h4:=pfx_le hp
      simp only [Option.some.injEq,Prod.mk.injEq] at h
      have:wNull.size=4:=rfl
      omega
     ·split at h
      ·rename_i hp
       have h4:=pfx_le hp
       simp only [Option.some.injEq,Prod.mk.injEq] at h
       have:wTrue.size=4:=rfl
       omega
      ·split at h
       ·rename_i hp
        have h4:=pfx_le hp
        simp only [Option.some.injEq,Prod.mk.injEq] at h
        have:wFalse.size=5:=rfl
        omega
       ·cases h
theorem valN_adv {s:ByteArray}:∀ (n i:Nat) (t:T) (e:Nat),i≤s.size→valN s n i=some (t,e)→i<e∧e≤s.size
 | 0,_,_,_,_,h=>by cases h
 | n+1,i,t,e,hi,h=>by
  rw [valN] at h
  have:=bareV_adv (fun i t e=>valN_adv n i t e) (sk_le hi) h
  have:=sk_ge s i
  omega
def onto (K:List ByteArray) (L:List T) (r:(List ByteArray×List T)×Nat):(List ByteArray×List T)×Nat:=((K++r.1.1,L++r.1.2),r.2)
theorem onto_nil (x:Option ((List ByteArray×List T)×Nat)):x=x.map (onto [] []):=by cases x<;>rfl
theorem itm_nokey {f:Nat→Option (T×Nat)} {s:ByteArray} {o:Bool} {m i:Nat} (hk:keyS s o i=none):itm f s o (m+1) i=none:=by rw [itm,hk];rfl
theorem itm_noval {f:Nat→Option (T×Nat)} {s:ByteArray} {o:Bool} {m i:Nat} {p:ByteArray×Nat} (hk:keyS s o i=some p) (hq:f p.2=none):itm f s o (m+1) i=none:=by rw [itm,hk];simp only [Option.bind_some];rw [hq];rfl
theorem itm_more {f:Nat→Option (T×Nat)} {s:ByteArray} {o:Bool} {m i:Nat} {p:ByteArray×Nat} {q:T×Nat} (K:List ByteArray) (L:List T) (hk:keyS s o i=some p) (hq:f p.2=some q) (h:cB s (sk s q.2)=44) :
  (itm f s o (m+1) i).map (onto K L)=(itm f s o m (sk s q.2+1)).map (onto (if o=true then K++[p.1] else K) (L++[q.1])):=by
 rw [itm,hk]
 simp only [Option.bind_some]
 rw [hq]
 simp only [Option.bind_some]
 rw [if_pos h,Option.map_map]
 congr 1
 funext r
 cases o<;>simp [onto,app]
theorem itm_done {f:Nat→Option (T×Nat)} {s:ByteArray} {o:Bool} {m i:Nat} {p:ByteArray×Nat} {q:T×Nat} (K:List ByteArray) (L:List T) (hk:keyS s o i=some p) (hq:f p.2=some q) (h:cB s (sk s q.2)=cl o) :
  (itm f s o (m+1) i).map (onto K L)=some (((if o=true then K++[p.1] else K),L++[q.1]),sk s q.2+1):=by
 rw [itm,hk]
 simp only [Option.bind_some]
 rw [hq]
 simp only [Option.bind_some]
 have h44:cB s (sk s q.2)≠44:=by rw [h];cases o<;>decide
 rw [if_neg h44,if_pos h]
 cases o<;>simp [onto,app]
theorem itm_torn {f:Nat→Option (T×Nat)} {s:ByteArray} {o:Bool} {m i:Nat} {p:ByteArray×Nat} {q:T×Nat} (hk:keyS s o i=some p) (hq:f p.2=some q) (h:cB s (sk s q.2)≠44) (h2:cB s (sk s q.2)≠cl o) :
  itm f s o (m+1) i=none:=by
 rw [itm,hk]
 simp only [Option.bind_some]
 rw [hq]
 simp only [Option.bind_some]
 rw [if_neg h,if_neg h2]
end Go.Proofs.YtknakfpciccoaabGreatDoor
/- Texts as values: numbers, tokens, depth. -/
namespace Go.Proofs.YtknakfpciccoaabGreatDoor
open Go.RowKit
def decL (a:Nat) (l:List UInt8):Nat:=l.foldl (fun n c=>n*10+(c.toNat - 48)) a
theorem decL_cons (a:Nat) (c:UInt8) (r:List UInt8):decL a (c::r)=decL (a*10+(c.toNat - 48)) r:=List.foldl_cons ..
theorem decL_nil (a:Nat):decL a []=a:=List.foldl_nil ..
theorem decL_append (a:Nat) (x y:List UInt8):decL a (x++y)=decL (decL a x) y:=by
 induction x generalizing a with
 | nil=>rw [decL_nil,List.nil_append]
 | cons c x ih=>rw [List.cons_append,decL_cons,decL_cons];exact ih _
theorem decL_ge (l:List UInt8):∀ (a:Nat),a≤decL a l:=by
 induction l with
 | nil=>intro a;rw [decL_nil];exact Nat.le_refl _
 | cons c r ih =>
  intro a
  have:=ih (a*10+(c.toNat - 48))
  rw [decL_cons]
  omega
def Digits (l:List UInt8):Prop:=∀ c ∈ l,48≤c.toNat∧c.toNat≤57
theorem parse_digits (l:List UInt8):∀ (a:Nat),Digits l→a<18446744073709551616→Lib.parseUint10 a l=if decL a l<18446744073709551616 then .ok (decL a l) else .range:=by
 induction l with
 | nil =>
  intro a _ ha
  rw [Lib.parseUint10,decL_nil,if_pos ha]
 | cons c r ih =>
  intro a h ha
  have hc:=h c (by simp)
  have hr:Digits r:=fun x hx=>h x (by simp [hx])
  have hg:=decL_ge r (a*10+(c.toNat - 48))
  rw [Lib.parseUint10,decL_cons,if_pos hc]
  generalize hd:c.toNat - 48=d at *
  by_cases h1:1844674407370955162≤a
  ·rw [if_pos h1,if_neg (by omega)]
  ·rw [if_neg h1]
   by_cases h2:18446744073709551616≤a*10+d
   ·rw [if_pos h2,if_neg (by omega)]
   ·rw [if_neg h2]
    exact ih _ hr (by omega)
theorem cut_succ (s:ByteArray) (d k:Nat) (h:d+k<s.size):(s.data.toList.drop d).take (k+1)=(s.data.toList.drop d).take k++[s.data.toList[d+k]'h]:=by
 have hl:k<(s.data.toList.drop d).length:=by
  rw [List.length_drop]
  have:s.data.toList.length=s.size:=rfl
  omega
 rw [List.take_succ_eq_append_getElem hl,List.getElem_drop]
theorem bt_at (s:ByteArray) (i:Nat) (h:i<s.size):(s.data.toList[i]'h).toNat=bt s i:=by
 rw [bt_list]
 have hl:i<s.data.toList.length:=h
 rw [List.getD_eq_getElem?_getD,List.getElem?_eq_getElem hl]
 rfl
theorem dv_list (s:ByteArray) (d:Nat):∀ k,d+k≤s.size→decL 0 ((s.data.toList.drop d).take k)=dv s d k
 | 0,_=>by rw [List.take_zero,decL_nil,dv]
 | k+1,h=>by
  rw [cut_succ s d k (by omega),decL_append,dv_list s d k (by omega),dv,cB_bt (by omega)]
  rw [decL_cons,decL_nil,bt_at]
theorem digits_list {s:ByteArray} {d:Nat}:∀ k,d+k≤s.size→(∀ j,d≤j→j<d+k→isD (cB s j)=true)→Digits ((s.data.toList.drop d).take k)
 | 0,_,_=>by intro c hc;simp at hc
 | k+1,h,hd=>by
  rw [cut_succ s d k (by omega)]
  intro c hc
  rw [List.mem_append] at hc
  rcases hc with hc | hc
  ·exact digits_list k (by omega) (fun j h1 h2=>hd j h1 (by omega)) c hc
  ·simp only [List.mem_singleton] at hc
   subst hc
   have h1:=hd (d+k) (by omega) (by omega)
   rw [cB_bt (by omega)] at h1
   rw [bt_at]
   unfold isD at h1
   simp at h1
   exact h1
theorem numS_parse {s:ByteArray} {i:Nat} (hi:cB s i=45∨isD (cB s i)=true) (hz:¬ (sgn s i+1<dg s (sgn s i)∧cB s (sgn s i)=48)) :
  (∃ v,Lib.parseIntB 64 (s.extract i (dg s (sgn s i))).data.toList=.ok v∧numS s i=some (v,dg s (sgn s i)))∨((Lib.parseIntB 64 (s.extract i (dg s (sgn s i))).data.toList=.«syntax»∨Lib.parseIntB 64 (s.extract i (dg s (sgn s i))).data.toList=.range)∧numS s i=none):=by
 have hc:cB s i<256:=by
  rcases hi with h | h
  ·omega
  ·unfold isD at h
   simp at h
   omega
 have hi0:=cB_in hc
 have hs:sgn s i≤s.size∧i≤sgn s i:=by unfold sgn;split<;>omega
 have h1:=dg_ge s (sgn s i)
 have h2:=dg_le hs.1
 have hall:∀ j,sgn s i≤j→j<dg s (sgn s i)→isD (cB s j)=true:=fun j a b=>pass_all isD_end s _ _ j (Nat.le_refl _) a b
 rw [Lib.parseIntB_64]
 have hl:(s.extract i (dg s (sgn s i))).data.toList=(s.data.toList.drop i).take (dg s (sgn s i) - i):=by
  have e:dg s (sgn s i)=i+(dg s (sgn s i) - i):=by omega
  rw [e,cut_list]
  congr 1
  omega
 rw [hl]
 have hdig:=digits_list (s:=s) (d:=sgn s i) (dg s (sgn s i) - sgn s i) (by omega) (fun j a b=>hall j a (by omega))
 have hdv:=dv_list s (sgn s i) (dg s (sgn s i) - sgn s i) (by omega)
 have hx:(s.data.toList[i]'hi0).toNat=cB s i:=by rw [bt_at,cB_bt hi0]
 unfold numS
 by_cases h45:cB s i=45
 ·have e1:sgn s i=i+1:=by unfold sgn;rw [if_pos h45]
  have hcons:(s.data.toList.drop i).take (dg s (sgn s i) - i)=s.data.toList[i]'hi0::(s.data.toList.drop (sgn s i)).take (dg s (sgn s i) - sgn s i):=by
   have e2:dg s (sgn s i) - i=(dg s (sgn s i) - sgn s i)+1:=by omega
   rw [e2,List.drop_eq_getElem_cons (h:=hi0),List.take_succ_cons,e1]
  rw [hcons]
  simp only [Lib.atoiAll,hx]
  rw [if_pos (Or.inr h45)]
  by_cases h0:dg s (sgn s i)=sgn s i
  ·rw [if_pos h0]
   have e3:dg s (sgn s i) - sgn s i=0:=by omega
   rw [e3]
   right
   simp [Lib.parseMag]
  ·rw [if_neg h0,if_neg hz,if_pos h45]
   have hne:(s.data.toList.drop (sgn s i)).take (dg s (sgn s i) - sgn s i)≠[]:=by
    intro e
    have:=congrArg List.length e
    rw [List.length_take,List.length_drop] at this
    have hl:s.data.toList.length=s.size:=rfl
    simp only [List.length_nil] at this
    omega
   simp only [Lib.parseMag]
   rw [if_neg hne,parse_digits _ _ hdig (by omega),hdv]
   generalize dv s (sgn s i) (dg s (sgn s i) - sgn s i)=m
   by_cases hm:m<18446744073709551616
   ·rw [if_pos hm]
    simp only [h45,not_true_eq_false,false_and,if_false,true_and,if_true]
    by_cases hm2:m≤9223372036854775808
    ·rw [if_neg (by omega),if_pos hm2]
     exact .inl ⟨_,rfl,rfl⟩
    ·rw [if_pos (by omega),if_neg hm2]
     exact .inr ⟨.inr rfl,rfl⟩
   ·rw [if_neg hm,if_neg (by omega)]
    exact .inr ⟨.inr rfl,rfl⟩
 ·have hd:isD (cB s i)=true:=by
   rcases hi with h | h
   ·exact absurd h h45
   ·exact h
  have e1:sgn s i=i:=by unfold sgn;rw [if_neg h45]
  rw [e1] at hdig hdv hz h1 h2 ⊢
  have h0:dg s i≠i:=by
   unfold dg
   rw [pass_step isD_end,if_pos hd]
   have:=pass_ge isD s (i+1)
   omega
  have hne:(s.data.toList.drop i).take (dg s i - i)≠[]:=by
   intro e
   have:=congrArg List.length e
   rw [List.length_take,List.length_drop] at this
   have hl:s.data.toList.length=s.size:=rfl
   simp only [List.length_nil] at this
   omega
  obtain ⟨rest,hcons⟩:∃ rest,(s.data.toList.drop i).take (dg s i - i)=s.data.toList[i]'hi0::rest:=by
   obtain ⟨q,hq⟩:∃ q,dg s i - i=q+1:=⟨dg s i - i - 1,by omega⟩
   rw [hq,List.drop_eq_getElem_cons (h:=hi0),List.take_succ_cons]
   exact ⟨_,rfl⟩
  rw [hcons] at hdig hdv hne ⊢
  simp only [Lib.atoiAll,hx]
  have hn:¬ (cB s i=43∨cB s i=45):=by
   unfold isD at hd
   simp at hd
   omega
  rw [if_neg hn,if_neg h0,if_neg hz,if_neg h45]
  simp only [Lib.parseMag]
  rw [if_neg hne,parse_digits _ _ hdig (by omega),hdv]
  generalize dv s i (dg s i - i)=m
  by_cases hm:m<18446744073709551616
  ·rw [if_pos hm]
   simp only [h45,not_false_eq_true,true_and,false_and,if_false]
   by_cases hm2:m<9223372036854775808
   ·rw [if_neg (by omega),if_pos hm2]
    exact .inl ⟨_,rfl,rfl⟩
   ·rw [if_pos (by omega),if_neg hm2]
    exact .inr ⟨.inr rfl,rfl⟩
  ·rw [if_neg hm,if_neg (by omega)]
   exact .inr ⟨.inr rfl,rfl⟩
theorem ba_ext {a b:ByteArray} (h:a.data.toList=b.data.toList):a=b:=by
 cases a
 cases b
 simp only [ByteArray.mk.injEq]
 exact Array.toList_inj.1 h
theorem pfx_list (s:ByteArray) (i:Nat) (t:ByteArray) (hi:i≤s.size):Lib.hasPrefix (suf s i).data.toList t.data.toList=pfx s i t:=by
 rw [← Lib.hasPrefix_of_take,suf_list]
 unfold pfx
 have ht:t.data.toList.length=t.size:=rfl
 have hs:(s.data.toList.drop i).length=s.size - i:=by rw [List.length_drop];rfl
 rw [ht,hs]
 have e1:decide (t.size≤s.size - i)=decide (i+t.size≤s.size):=by
  apply decide_eq_decide.2
  omega
 rw [e1,← cut_list]
 congr 1
 by_cases e:s.extract i (i+t.size)=t
 ·rw [e];simp
 ·have h1:decide (s.extract i (i+t.size)=t)=false:=by simpa using e
  rw [h1]
  apply beq_false_of_ne
  exact fun h=>e (ba_ext h)
theorem pfx_head {s:ByteArray} {i:Nat} {t:ByteArray} {c:UInt8} {r:List UInt8} (ht:t.data.toList=c::r) (h:pfx s i t=true):cB s i=c.toNat:=by
 unfold pfx at h
 simp only [Bool.and_eq_true,decide_eq_true_eq] at h
 have hz:t.size=r.length+1:=by
  have:t.data.toList.length=t.size:=rfl
  rw [ht] at this
  simpa using this.symm
 have hi:i<s.size:=by omega
 have hl:=congrArg (fun x=>x.data.toList) h.2
 rw [cut_list,ht,hz,List.drop_eq_getElem_cons (h:=hi),List.take_succ_cons] at hl
 simp only [List.cons.injEq] at hl
 rw [cB_bt hi,← bt_at s i hi,hl.1]
def fullJ (s:ByteArray):Option T:=(valN s (s.size+1) 0).bind fun p=>if sk s p.2=s.size then some p.1 else none
def eJ (s:ByteArray):Int:=if 4000<s.size then 1 else ((fullJ s).map fun t=>if 12<deepT (s.size+1) t then (3:Int) else if twiceT (s.size+1) t=true then 4 else 0).getD 2
def tJ (s:ByteArray):T:=if eJ s=0 then (fullJ s).getD (leafT 0 0 ByteArray.empty) else leafT 0 0 ByteArray.empty
end Go.Proofs.YtknakfpciccoaabGreatDoor
/- A value whose lists are lent: where it lies, and what stands behind each list. -/
namespace Go.Proofs.YtknakfpciccoaabGreatDoor
open Go.RowKit
def AtP (p:Nat→Prop) (w:World):Nat→Value→T→Prop
 | 0,_,_=>False
 | f+1,v,t=>∃ (La Ka:Option Addr) (Lc Kc:Nat),
   v=.agg #[.int .i64 (kindOf t),.int .i64 (nOf t),.string (sOf t),.slice La (nL t) Lc,.slice Ka (nK t) Kc]∧Fits t ∧
   (∀ i,i<nL t→∃ b o c0 c1 c2 c3 c4,La=some ⟨b,o,none⟩∧(b<w.heap.size∧p b)∧w.cell? ⟨b,o+i*5,none⟩=some c0∧w.cell? ⟨b,o+i*5+1,none⟩=some c1∧w.cell? ⟨b,o+i*5+2,none⟩=some c2∧w.cell? ⟨b,o+i*5+3,none⟩=some c3∧w.cell? ⟨b,o+i*5+4,none⟩=some c4∧AtP p w f (.agg #[c0,c1,c2,c3,c4]) (elt t i)) ∧
   (∀ i,i<nK t→∃ b o,Ka=some ⟨b,o,none⟩∧(b<w.heap.size∧p b)∧(nam t i).size≤140737488355328∧w.cell? ⟨b,o+i,none⟩=some (.string (nam t i)))
theorem cell_of {w w':World} {b:Nat} (h:w'.heap[b]?=w.heap[b]?) (o:Nat):w'.cell? ⟨b,o,none⟩=w.cell? ⟨b,o,none⟩:=World.cell?_of_block (w:=w) h
theorem AtP.move {p q:Nat→Prop} {w w':World} (hs:w.heap.size≤w'.heap.size) (hq:∀ b,b<w.heap.size→p b→q b∧w'.heap[b]?=w.heap[b]?):∀ {f:Nat} {v:Value} {t:T},AtP p w f v t→AtP q w' f v t:=by
 intro f
 induction f with
 | zero=>intro v t h;exact h
 | succ f ih =>
  rintro v t ⟨La,Ka,Lc,Kc,rfl,hf,hl,hk⟩
  refine ⟨La,Ka,Lc,Kc,rfl,hf,fun i hi=>?_,fun i hi=>?_⟩
  ·obtain ⟨b,o,c0,c1,c2,c3,c4,h0,⟨hb,hp⟩,q0,q1,q2,q3,q4,ha⟩:=hl i hi
   obtain ⟨hq1,hq2⟩:=hq b hb hp
   exact ⟨b,o,c0,c1,c2,c3,c4,h0,⟨Nat.lt_of_lt_of_le hb hs,hq1⟩,(cell_of hq2 _).trans q0,(cell_of hq2 _).trans q1,(cell_of hq2 _).trans q2,(cell_of hq2 _).trans q3,(cell_of hq2 _).trans q4,ih ha⟩
  ·obtain ⟨b,o,h0,⟨hb,hp⟩,hz,q0⟩:=hk i hi
   obtain ⟨hq1,hq2⟩:=hq b hb hp
   exact ⟨b,o,h0,⟨Nat.lt_of_lt_of_le hb hs,hq1⟩,hz,(cell_of hq2 _).trans q0⟩
theorem AtP.at {p:Nat→Prop} {w:World}:∀ {f:Nat} {v:Value} {t:T},AtP p w f v t→At w f v t:=by
 intro f
 induction f with
 | zero=>intro v t h;exact h
 | succ f ih =>
  rintro v t ⟨La,Ka,Lc,Kc,rfl,hf,hl,hk⟩
  refine ⟨La,Ka,Lc,Kc,rfl,hf,fun i hi=>?_,fun i hi=>?_⟩
  ·obtain ⟨b,o,c0,c1,c2,c3,c4,h0,hb,q0,q1,q2,q3,q4,ha⟩:=hl i hi
   exact ⟨b,o,c0,c1,c2,c3,c4,h0,hb.1,q0,q1,q2,q3,q4,ih ha⟩
  ·obtain ⟨b,o,h0,hb,hz,q0⟩:=hk i hi
   exact ⟨b,o,h0,hb.1,hz,q0⟩
def five (t:T) (A:Option Addr) (B:Nat) (C:Option Addr) (D:Nat):Value:=.agg #[.int .i64 (kindOf t),.int .i64 (nOf t),.string (sOf t),.slice A (nL t) B,.slice C (nK t) D]
def RowAt (w:World) (b n:Nat):Prop:=b<w.heap.size∧∀ o,o<n→(w.cell? ⟨b,o,none⟩).isSome=true∧w.frozen? ⟨b,o,none⟩=false
theorem RowAt.move {w w':World} {b n:Nat} (h:RowAt w b n) (hs:w.heap.size≤w'.heap.size) (hb:w'.heap[b]?=w.heap[b]?):RowAt w' b n :=
 ⟨Nat.lt_of_lt_of_le h.1 hs,fun o ho=>⟨by rw [cell_of hb];exact (h.2 o ho).1,by rw [World.frozen?_of_block (w:=w) (a:=⟨b,o,none⟩) hb];exact (h.2 o ho).2⟩⟩
theorem RowAt.set {w:World} {b n:Nat} (h:RowAt w b n) (c o:Nat) (u:Value):RowAt (w.setCell ⟨c,o,none⟩ u) b n:=by
 refine ⟨by simp [World.setCell];exact h.1,fun k hk=>⟨?_,by rw [World.frozen?_setCell];exact (h.2 k hk).2⟩⟩
 by_cases e:(⟨c,o,none⟩:Addr)=⟨b,k,none⟩
 ·obtain ⟨v,hv⟩:=Option.isSome_iff_exists.1 (h.2 k hk).1
  rw [← e] at hv ⊢
  rw [World.cell?_setCell_same _ _ _ hv]
  rfl
 ·rw [World.cell?_setCell_other _ _ _ _ e]
  exact (h.2 k hk).1
theorem set_same {w:World} {b n o:Nat} (h:RowAt w b n) (ho:o<n) (u:Value):(w.setCell ⟨b,o,none⟩ u).cell? ⟨b,o,none⟩=some u:=by
 obtain ⟨v,hv⟩:=Option.isSome_iff_exists.1 (h.2 o ho).1
 exact World.cell?_setCell_same _ _ _ hv
theorem set_other {w:World} {b c o k:Nat} (h:b≠c∨o≠k) (u:Value):(w.setCell ⟨b,o,none⟩ u).cell? ⟨c,k,none⟩=w.cell? ⟨c,k,none⟩ :=
 World.cell?_setCell_other _ _ _ _ (fun e=>by simp only [Addr.mk.injEq] at e;rcases h with h | h;exact h e.1;exact h e.2.1)
end Go.Proofs.YtknakfpciccoaabGreatDoor
