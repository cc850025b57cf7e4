import Derived.Test.YtknakfpciccoaaaGreatDoorZF3
import Derived.Test.YtknakfpciccoaaaGreatDoorZF6
import Derived.Test.YtknakfpciccoaaaGreatDoorZF4
import Derived.Shelf.Strconv.Clone
import Derived.Test.YtknakfpciccoaaaGreatDoorProg
import Derived.Test.YtknakfpciccoaaaGreatDoorZF5
import Derived.Laws.IdiomStrings
/- Values as texts, pure: what is written; the builder's writers. -/
set_option maxHeartbeats 4000000
set_option maxRecDepth 100000
namespace Go.Proofs.YtknakfpciccoaaaGreatDoor
open Go.RowKit
def Ow (n:Nat):UInt8:=if n<10 then UInt8.ofNat (48+n) else UInt8.ofNat (87+n)
def Ay (c:UInt8):List UInt8:=if c.toNat=34\/c.toNat=92 then [92,c] else if c.toNat<32 then [92,117,48,48,Ow (c.toNat / 16),Ow (c.toNat % 16)] else [c]
def dM (s:ByteArray) (k:Nat):List UInt8:=(s.data.toList.take k).flatMap Ay
def jV (s:ByteArray):List UInt8:=34::(dM s s.size++[34])
theorem Az (s:ByteArray):dM s 0=[]:=by simp [dM]
theorem ug {s:ByteArray} {k:Nat} {z:UInt8} (h:s.data[k]?=some z):dM s (k+1)=dM s k++Ay z:=by
 have h':s.data.toList[k]?=some z:=by rw [Array.getElem?_toList];exact h
 unfold dM;rw [List.take_add_one,h'];simp
theorem vk {s:ByteArray} {k:Nat} {z:UInt8} (h:k<s.size) (e:s[k]'h=z):s.data[k]?=some z:=by
 rw [<- e];exact Array.getElem?_eq_getElem h
theorem QY (c:UInt8):(Ay c).length<=6:=by unfold Ay;split<;>(try split)<;>simp
theorem wW (s:ByteArray):∀ k,(dM s k).length<=6*k
 | 0=>by simp [dM]
 | k+1=>by
  have ih:=wW s k;cases h:s.data[k]? with
  | none =>
   have h':s.data.toList.length<=k:=by simpa using h
   have:dM s (k+1)=dM s k:=by unfold dM;rw [List.take_of_length_le (by omega),List.take_of_length_le h']
   rw [this];omega
  | some z =>
   rw [ug h,List.length_append];have:=QY z;omega
theorem GV (s:ByteArray):(jV s).length<=6*s.size+2:=by
 have:=wW s s.size;simp [jV];omega
def eU (t:T):List UInt8 :=
 if ah t=1 then [110,117,108,108] else if ah t=2 then (if aB t=1 then [116,114,117,101] else [102,97,108,115,101]) else if ah t=3 then Lib.itoa (aB t) else if ah t=4 then jV (aF t) else []
def cO (g:T->List UInt8) (t:T):Nat->List UInt8
 | 0=>[]
 | k+1=>cO g t k++((if k=0 then [] else [44])++g (elt t k))
def bW (g:T->List UInt8) (t:T):Nat->List UInt8
 | 0=>[]
 | k+1=>bW g t k++((if k=0 then [] else [44])++(jV (bf t k)++(58::g (elt t k))))
def dD:Nat->T->List UInt8
 | 0,t=>eU t
 | m+1,t=>if ah t=5 then 91::(cO (dD m) t (nL t)++[93]) else if ah t=6 then 123::(bW (dD m) t (nK t)++[125]) else eU t
theorem AA (g : T -> List UInt8) (t : T) {k n : Nat} (h : k <= n) : (cO g t k).length <= (cO g t n).length := by
  induction n with
  | zero => have : k = 0 := by omega
            subst this; exact Nat.le_refl _
  | succ n ih =>
    by_cases e : k = n + 1
    · subst e; exact Nat.le_refl _
    · have := ih (by omega);simp only [cO, List.length_append];omega
theorem AB (g : T -> List UInt8) (t : T) {k n : Nat} (h : k <= n) : (bW g t k).length <= (bW g t n).length := by
  induction n with
  | zero => have : k = 0 := by omega
            subst this; exact Nat.le_refl _
  | succ n ih =>
    by_cases e : k = n + 1
    · subst e; exact Nat.le_refl _
    · have := ih (by omega);simp only [bW, List.length_append];omega
structure uh (B b:Nat) (acc:List UInt8) (w w':World):Prop where
 Ko:Lib.IsBuilderF 65 5 B b (Lib.byteCells acc) w'
 below:Below B w w'
 JR:Lib.OthersKept 5 (some b) w w'
 lo:B<=w.heap.size
theorem uh.trans {B b:Nat} {acc acc':List UInt8} {w w1 w2:World} (h:uh B b acc w w1) (k:uh B b acc' w1 w2):uh B b acc' w w2 :=
 ⟨k.Ko,h.below.trans k.below,h.JR.trans k.JR,h.lo⟩
theorem uh.lo' {B b:Nat} {acc:List UInt8} {w w1:World} (h:uh B b acc w w1):B<=w1.heap.size:=Nat.le_trans h.lo h.below.size
theorem uh.acc {B b:Nat} {acc acc':List UInt8} {w w1:World} (h:uh B b acc w w1) (e:acc=acc'):uh B b acc' w w1:=e ▸ h
theorem uh.keep {B b:Nat} {acc:List UInt8} {w w1 w2:World} (h:uh B b acc w w1) (k:Below w1.heap.size w1 w2):uh B b acc w w2 :=
 ⟨h.Ko.elim (fun x=>.inl ⟨x.1,by
   obtain ⟨v,hb,hown,hne⟩:=x.2;exact ⟨v,(k.block b (Array.getElem?_eq_some_iff.1 hb).1).trans hb,wV hown (fun i _ h2=>k.block i h2),hne⟩⟩) (fun x=>.inr ⟨x.1,by
   obtain ⟨v,hb,hown,hne⟩:=x.2;exact ⟨v,(k.block b (Array.getElem?_eq_some_iff.1 hb).1).trans hb,wV hown (fun i _ h2=>k.block i h2),hne⟩⟩),
  h.below.trans (k.mono (Nat.le_trans h.lo h.below.size)),
  fun i o hi hb ho=>by
   have h1:=h.JR i o hi hb ho;exact (k.block i (Array.getElem?_eq_some_iff.1 h1).1).trans h1,h.lo⟩
theorem uh.start {B b:Nat} {acc:List UInt8} {w:World} (h:Lib.IsBuilderF 65 5 B b (Lib.byteCells acc) w) (hB:B<=w.heap.size):uh B b acc w w :=
 ⟨h,Below.refl _ _,Lib.OthersKept.refl _ _ _,hB⟩
def Dw (B b:Nat) (acc:List UInt8) (w:World) (e:Ending) (w':World):Prop:=e=.returned (.tuple #[])/\uh B b acc w w'
theorem bR (B b:Nat) (acc:List UInt8) (c:UInt8) (w0 w:World) (h:uh B b acc w0 w) (hl:acc.length<=1000000000) :
  Calls Tryz.prog 128 #[.pointer (some ⟨b,0,none⟩),.int .u8 (c.toNat:Int)] w fun e w'=>e=.returned .nilIface/\uh B b (acc++[c]) w w':=by
 refine (Any.Builder_WriteByte_k Tryz.laysWriteByte Tryz.extraWriteByte B b (Lib.byteCells acc) (c.toNat:Int) w h.Ko (by rw [Lib.byteCells_length];omega) h.lo').mono ?_;rintro e w' ⟨rfl,h1,b1,o1⟩;refine ⟨rfl,⟨Or.inr ?_,b1,o1,h.lo'⟩⟩;rw [Lib.byteCells_append];exact h1
theorem rA (B b:Nat) (acc:List UInt8) (s:ByteArray) (w0 w:World) (h:uh B b acc w0 w) (hl:acc.length+s.size<=1000000000) :
  Calls Tryz.prog 74 #[.pointer (some ⟨b,0,none⟩),.string s] w fun e w'=>e=.returned (.tuple #[.int .i64 s.size,.nilIface])/\uh B b (acc++s.data.toList) w w':=by
 refine (Any.Builder_WriteString_k Tryz.laysWriteString Tryz.extraWriteString B b (Lib.byteCells acc) s w h.Ko (by rw [Lib.byteCells_length];omega) h.lo').mono ?_;rintro e w' ⟨rfl,h1,b1,o1⟩;refine ⟨rfl,⟨Or.inr ?_,b1,o1,h.lo'⟩⟩;rw [Lib.byteCells_append];exact h1
theorem QZ {c:UInt8} (h:c.toNat=34\/c.toNat=92):Ay c=[92,c]:=by unfold Ay;rw [if_pos h]
theorem Q0 {c:UInt8} (h:¬ (c.toNat=34\/c.toNat=92)) (h':c.toNat<32):Ay c=[92,117,48,48,Ow (c.toNat / 16),Ow (c.toNat % 16)]:=by unfold Ay;rw [if_neg h,if_pos h']
theorem Q5 {c:UInt8} (h:¬ (c.toNat=34\/c.toNat=92)) (h':¬ c.toNat<32):Ay c=[c]:=by unfold Ay;rw [if_neg h,if_neg h']
def U5:ByteArray:=⟨#[48,49,50,51,52,53,54,55,56,57,97,98,99,100,101,102]⟩
theorem Q6:∀ n:Fin 16,U5[n.1]'n.2=Ow n.1:=by decide
theorem zA {n:Nat} (h:n<16):U5[n]'h=Ow n:=Q6 ⟨n,h⟩
theorem Kq (s:ByteArray) (k:Nat):(dM s k).length<=(dM s s.size).length:=by
 have e:dM s s.size=dM s k++(s.data.toList.drop k).flatMap Ay:=by
  unfold dM;have e2:s.data.toList.take s.size=s.data.toList:=List.take_of_length_le (by show s.data.toList.length<=s.data.size;rw [Array.length_toList];exact Nat.le_refl _);rw [e2,<- List.flatMap_append,List.take_append_drop]
 rw [e];simp
theorem tF (B b:Nat) (acc:List UInt8) (s:ByteArray) (w:World) (h:Lib.IsBuilderF 65 5 B b (Lib.byteCells acc) w) (hB:B<=w.heap.size) (hl:acc.length+(jV s).length<=100000000) (hs:s.size<=140737488355328) :
  Calls Tryz.prog 77 #[.pointer (some ⟨b,0,none⟩),.string s] w (Dw B b (acc++jV s) w):=by
 have HQ:Hid (∀ k,k<=s.size->(dM s k).length+acc.length+1<=100000000):=aj (fun k hk=>by
  have:=Kq s k;simp [jV] at hl;omega)
 have HE:Hid (acc++jV s=acc++[34]++dM s s.size++[34]):=by show _=_;simp [jV]
 have hl0:acc.length<=100000000:=by omega
 have HS:=aj (uh.start h hB);clear h hl;go_in;go_wp2_with fail;refine (bR B b acc 34 w w HS.out (by omega)).mono ?_;rintro e w1 ⟨rfl,hw1⟩;have H1:=aj hw1;clear hw1;go_wp2_with fail;go_loopg [10] (s.size) (fun g i wr=>∃ k:Nat,g=s.size - k/\k<=s.size/\i=.int .i64 k/\Hid (uh B b (acc++[34]++dM s k) w wr))
 case atStart=>exact ⟨0,rfl,Nat.zero_le _,rfl,H1.out.acc (by simp [Az])⟩
 case round =>
  obtain ⟨k,rfl,hk,rfl,HW⟩:=hrel;have hq:=HQ.out k hk;have hlk:(acc++[34]++dM s k).length<=100000000:=by simp;omega
  by_cases hlt:k<s.size
  ·obtain ⟨z,hz⟩:∃ z:UInt8,s[k]'hlt=z:=⟨_,rfl⟩;have HZ:=aj (ug (vk hlt hz));have x1:(k:Int)<(s.size:Int):=by omega
   have lz:z.toNat<256:=z.toNat_lt;have hne:∀ (a:List UInt8),(acc++[34]++dM s k++a).length<=100000000+a.length:=fun a=>by rw [List.length_append];omega
   have HN:=aj hne;clear hne;by_cases hq2:z.toNat=34\/z.toNat=92
   ·have HC:=aj (QZ hq2);rcases hq2 with hq2 | hq2
    ·have y1:((z.toNat:Int)==34)=true:=by rw [beq_iff_eq];omega
     clear hq2;go_wp2_with fail;refine (bR B b _ 92 w wr HW.out (by omega)).mono ?_;rintro e w2 ⟨rfl,hw2⟩;have H2:=aj (HW.out.trans hw2);clear hw2;go_wp2_with fail;refine (bR B b _ z w w2 H2.out (by have:=HN.out [92];simp only [List.length_singleton] at this;omega)).mono ?_;rintro e w3 ⟨rfl,hw3⟩;have H3:=aj (H2.out.trans hw3);clear hw3;go_wp2_with fail;go_roundg (s.size - (k+1))
     case rel=>exact ⟨k+1,rfl,by omega,by go_num,H3.out.acc (by rw [HZ.out,HC.out];simp)⟩
     case measure=>omega
    ·have y0:((z.toNat:Int)==34)=false:=by rw [beq_eq_false_iff_ne];omega
     have y1:((z.toNat:Int)==92)=true:=by rw [beq_iff_eq];omega
     clear hq2;go_wp2_with fail;refine (bR B b _ 92 w wr HW.out (by omega)).mono ?_;rintro e w2 ⟨rfl,hw2⟩;have H2:=aj (HW.out.trans hw2);clear hw2;go_wp2_with fail;refine (bR B b _ z w w2 H2.out (by have:=HN.out [92];simp only [List.length_singleton] at this;omega)).mono ?_;rintro e w3 ⟨rfl,hw3⟩;have H3:=aj (H2.out.trans hw3);clear hw3;go_wp2_with fail;go_roundg (s.size - (k+1))
     case rel=>exact ⟨k+1,rfl,by omega,by go_num,H3.out.acc (by rw [HZ.out,HC.out];simp)⟩
     case measure=>omega
   ·have y34:((z.toNat:Int)==34)=false:=by rw [beq_eq_false_iff_ne];omega
    have y92:((z.toNat:Int)==92)=false:=by rw [beq_eq_false_iff_ne];omega
    by_cases hu:z.toNat<32
    ·have HC:=aj (Q0 hq2 hu);have y1:decide ((z.toNat:Int)<32)=true:=decide_eq_true (by omega);clear hq2;go_wp2_with fail;refine (rA B b _ ⟨#[92,117,48,48]⟩ w wr HW.out (by show _+4<=_;omega)).mono ?_;rintro e w2 ⟨rfl,hw2⟩;have H2:=aj (HW.out.trans hw2);clear hw2;have n1:z.toNat / 16<16:=by omega
     have n2:z.toNat % 16<16:=by omega
     go_wp2_with fail;refine (bR B b _ (U5[z.toNat / 16]'n1) w w2 H2.out (by have:=HN.out [92,117,48,48];simp only [List.length_cons,List.length_nil] at this;simp only [List.length_append,List.length_cons,List.length_nil] at this ⊢;omega)).mono ?_;rintro e w3 ⟨rfl,hw3⟩;have H3:=aj (H2.out.trans hw3);clear hw3;go_wp2_with fail;refine (bR B b _ (U5[z.toNat % 16]'n2) w w3 H3.out (by have:=HN.out [92,117,48,48];simp only [List.length_append,List.length_cons,List.length_nil] at this ⊢;omega)).mono ?_;rintro e w4 ⟨rfl,hw4⟩;have H4:=aj (H3.out.trans hw4);clear hw4;go_wp2_with fail;go_roundg (s.size - (k+1))
     case rel=>exact ⟨k+1,rfl,by omega,by go_num,H4.out.acc (by rw [HZ.out,HC.out,zA,zA];simp)⟩
     case measure=>omega
    ·have HC:=aj (Q5 hq2 hu);have y1:decide ((z.toNat:Int)<32)=false:=decide_eq_false (by omega);clear hq2;go_wp2_with fail;refine (bR B b _ z w wr HW.out (by omega)).mono ?_;rintro e w2 ⟨rfl,hw2⟩;have H2:=aj (HW.out.trans hw2);clear hw2;go_wp2_with fail;go_roundg (s.size - (k+1))
     case rel=>exact ⟨k+1,rfl,by omega,by go_num,H2.out.acc (by rw [HZ.out,HC.out];simp)⟩
     case measure=>omega
  ·obtain rfl:k=s.size:=by omega
   go_wp2_with fail;refine (bR B b _ 34 w wr HW.out (by omega)).mono ?_;rintro e w2 ⟨rfl,hw2⟩;have H2:=aj hw2;clear hw2;go_wp2_with fail;refine bodyPost_end (v:=.tuple #[]) (by simp [results,Tryz.results77,go_sem]) rfl ?_;exact ⟨rfl,(HW.out.trans H2.out).acc HE.out.symm⟩
def AJ:List UInt8:=[116,114,117,101]
def uj:List UInt8:=[102,97,108,115,101]
def pU (Tb:World->Prop):Prop:=∀ (n:Int) (w:World),-9223372036854775808<=n->n<=9223372036854775807->Tb w->Calls Tryz.prog 76 #[.int .i64 n,.int .i64 10] w fun e w'=>e=.returned (.string (bY (Lib.itoa n)))/\Below w.heap.size w w'
theorem Q7 (b:Bool) (w:World):Calls Tryz.prog 126 #[.bool b] w fun e w'=>e=.returned (.string (bY (if b then AJ else uj)))/\w'=w:=by
 go_in;cases b
 ·go_wp2_with fail;go_ret;exact ⟨rfl,rfl⟩
 ·go_wp2_with fail;go_ret;exact ⟨rfl,rfl⟩
theorem Dx (b:Bool) (w:World):Calls Tryz.prog 75 #[.bool b] w fun e w'=>e=.returned (.string (bY (if b then AJ else uj)))/\w'=w:=by
 have HF:=aj (Q7 b w);generalize bY (if b=true then AJ else uj)=s at HF ⊢;go_in;go_wp2_with fail;refine HF.out.mono ?_;rintro e w1 ⟨rfl,rfl⟩;go_wp2_with fail;go_ret;exact ⟨rfl,rfl⟩
def AL (Tb:World->Prop) (w0:World) (m:Nat):Prop:=∀ (f:Nat) (v:Value) (t:T) (acc:List UInt8) (b:Nat) (w:World),
 At w0 f v t->fJ m t->Below w0.heap.size w0 w->Lib.IsBuilderF 65 5 w0.heap.size b (Lib.byteCells acc) w->Tb w->acc.length+(dD m t).length<=100000000 ->
  Calls Tryz.prog 41 #[.pointer (some ⟨b,0,none⟩),v] w (Dw w0.heap.size b (acc++dD m t) w)
theorem GX {m:Nat} {t:T} (h5:ah t≠5) (h6:ah t≠6):dD m t=eU t:=by
 cases m with
 | zero=>rfl
 | succ m=>unfold dD;rw [if_neg h5,if_neg h6]
theorem AO {Tb:World->Prop} (hF:pU Tb) (w0:World) (hS:dB Tb w0.heap.size) (t:T) (hg:bF t) (ht:Cu t) (acc:List UInt8) (b:Nat) (w:World) (La Ka:Option Addr) (Lc Kc:Nat)
  (hb:Below w0.heap.size w0 w) (h:Lib.IsBuilderF 65 5 w0.heap.size b (Lib.byteCells acc) w) (hT:Tb w) (hl:acc.length+(eU t).length<=100000000) :
  Calls Tryz.prog 41 #[.pointer (some ⟨b,0,none⟩),.agg #[.int .i64 (ah t),.int .i64 (aB t),.string (aF t),.slice La (nL t) Lc,.slice Ka (nK t) Kc]] w (Dw w0.heap.size b (acc++eU t) w):=by
 have HS:=aj (uh.start h hb.size);have HB1:=aj (bG w (vC t La Lc Ka Kc));have Dy:=aj (HS.out.keep HB1.out);have HT1:=aj (hS _ _ hT (HB1.out.mono hb.size));have HF:=aj hF;have U6:=aj ht;have HST:=aj hS;have Hb:=aj hb;clear h hF ht hT hS hb;obtain ⟨g1,g2,hg⟩:=hg;clear g1 g2;rcases hg with ⟨hk,g3⟩ | ⟨hk,g3⟩ | ⟨hk,g3⟩ | ⟨hk,g3,hsz,g4⟩
 all_goals clear g3
 ·have e1:(ah t==1)=true:=by rw [hk];rfl
  have HW:Hid (eU t=[110,117,108,108]):=by show _=_;unfold eU;rw [if_pos hk]
  rw [HW.out] at hl ⊢;clear hk;go_in;go_wp2_with fail;refine (rA w0.heap.size b acc ⟨#[110,117,108,108]⟩ w _ Dy.out (by show _+4<=_;omega)).mono ?_;rintro e w2 ⟨rfl,hw2⟩;have H2:=aj (Dy.out.trans hw2);clear hw2;go_wp2_with fail;refine bodyPost_end (v:=.tuple #[]) (by simp [results,Tryz.results41,go_sem]) rfl ?_;exact ⟨rfl,H2.out⟩
 ·have e1:(ah t==1)=false:=by rw [hk];rfl
  have e2:(ah t==2)=true:=by rw [hk];rfl
  by_cases hn:aB t=1
  ·have HW:Hid (eU t=AJ):=by show _=_;unfold eU;rw [if_neg (by omega),if_pos hk,if_pos (by omega)];rfl
   have y:(aB t==1)=true:=by rw [beq_iff_eq];exact hn
   have HP:=aj (Dx true (w.alloc (vC t La Lc Ka Kc)));rw [HW.out] at hl ⊢;have hl0:acc.length<=100000000:=by omega
   clear hk hn hl;go_in;go_wp2_with fail;refine HP.out.mono ?_;rintro e w2 ⟨rfl,rfl⟩;go_wp2_with fail;refine (rA w0.heap.size b acc (bY AJ) w _ Dy.out (by show _+4<=_;omega)).mono ?_;rintro e w2 ⟨rfl,hw2⟩;have H2:=aj (Dy.out.trans hw2);clear hw2;go_wp2_with fail;refine bodyPost_end (v:=.tuple #[]) (by simp [results,Tryz.results41,go_sem]) rfl ?_;exact ⟨rfl,H2.out⟩
  ·have HW:Hid (eU t=uj):=by show _=_;unfold eU;rw [if_neg (by omega),if_pos hk,if_neg (by omega)];rfl
   have y:(aB t==1)=false:=by rw [beq_eq_false_iff_ne];exact hn
   have HP:=aj (Dx false (w.alloc (vC t La Lc Ka Kc)));rw [HW.out] at hl ⊢;have hl0:acc.length<=100000000:=by omega
   clear hk hn hl;go_in;go_wp2_with fail;refine HP.out.mono ?_;rintro e w2 ⟨rfl,rfl⟩;go_wp2_with fail;refine (rA w0.heap.size b acc (bY uj) w _ Dy.out (by show _+5<=_;omega)).mono ?_;rintro e w2 ⟨rfl,hw2⟩;have H2:=aj (Dy.out.trans hw2);clear hw2;go_wp2_with fail;refine bodyPost_end (v:=.tuple #[]) (by simp [results,Tryz.results41,go_sem]) rfl ?_;exact ⟨rfl,H2.out⟩
 ·have e1:(ah t==1)=false:=by rw [hk];rfl
  have e2:(ah t==2)=false:=by rw [hk];rfl
  have e3:(ah t==3)=true:=by rw [hk];rfl
  have HW:Hid (eU t=Lib.itoa (aB t)):=by show _=_;unfold eU;rw [hk];rfl
  rw [HW.out] at hl ⊢;have hl0:acc.length<=100000000:=by omega
  have Zr:=aj (fA (Lib.itoa (aB t)));have HLI:=aj (kQ (Lib.itoa (aB t)));clear hk;go_in;go_wp2_with fail;refine (HF.out _ _ U6.out.n0 U6.out.n1 HT1.out).mono ?_;rintro e w2 ⟨rfl,hb2⟩;have HS2:=aj (Dy.out.keep hb2);clear hb2;generalize bY (Lib.itoa (aB t))=s at Zr HLI ⊢;go_wp2_with fail;refine (rA w0.heap.size b acc s w _ HS2.out (by have:=Zr.out;omega)).mono ?_;rintro e w3 ⟨rfl,hw3⟩;have H3:=aj (HS2.out.trans hw3);clear hw3;go_wp2_with fail;refine bodyPost_end (v:=.tuple #[]) (by simp [results,Tryz.results41,go_sem]) rfl ?_;exact ⟨rfl,H3.out.acc (by rw [HLI.out])⟩
 ·have e1:(ah t==1)=false:=by rw [hk];rfl
  have e2:(ah t==2)=false:=by rw [hk];rfl
  have e3:(ah t==3)=false:=by rw [hk];rfl
  have e4:(ah t==4)=true:=by rw [hk];rfl
  have HW:Hid (eU t=jV (aF t)):=by show _=_;unfold eU;rw [hk];rfl
  rw [HW.out] at hl ⊢;have HP:=aj (tF w0.heap.size b acc (aF t) _ Dy.out.Ko Dy.out.lo' hl (by omega));clear hk hl g4 hsz;go_in;go_wp2_with fail;refine HP.out.mono ?_;rintro e w2 ⟨rfl,hw2⟩;have H2:=aj (Dy.out.trans hw2);clear hw2 HP;go_wp2_with fail;refine bodyPost_end (v:=.tuple #[]) (by simp [results,Tryz.results41,go_sem]) rfl ?_;exact ⟨rfl,H2.out⟩
abbrev eV:TypeId:=25
abbrev eS:TypeId:=9
structure jh where
 l:Value
 n:Nat
 k:Value
 m:Nat
def blk (e:jh):List Nat:=e.l.ownBlock.toList++e.k.ownBlock.toList
def qD (es:List jh):List Nat:=es.flatMap blk
theorem aO (a b:List jh):qD (a++b)=qD a++qD b:=by simp [qD]
theorem fV (e:jh):qD [e]=blk e:=by simp [qD]
def jB (sub:Nat->List jh):Nat->List jh
 | 0=>[]
 | k+1=>jB sub k++sub k
theorem AP {s s':Nat->List jh}:∀ k,(∀ i,i<k->s i=s' i)->jB s k=jB s' k
 | 0,_=>rfl
 | k+1,h=>by rw [jB,jB,AP k (fun i hi=>h i (by omega)),h k (by omega)]
theorem oK {s:Nat->List jh} {b:Nat}:∀ {k i:Nat},i<k->b ∈ qD (s i)->b ∈ qD (jB s k)
 | k+1,i,hi,hb=>by
  rw [jB,aO,List.mem_append];by_cases e:i=k
  ·subst e;exact .inr hb
  ·exact .inl (oK (by omega) hb)
structure mD (lo:Nat) (w:World) (es:List jh):Prop where
 nodup:(qD es).Nodup
 lies:∀ b ∈ qD es,lo<=b/\b<w.heap.size
def cx (xs:List Value) (j:Nat):Value:=xs[j]?.getD (.int .i64 0)
def fv (xs:List Value) (i:Nat):Value:=.agg #[cx xs (i*5),cx xs (i*5+1),cx xs (i*5+2),cx xs (i*5+3),cx xs (i*5+4)]
def lK (ks:List ByteArray):List Value:=ks.map Value.string
def fC (w:World):Nat->Value->T->List jh->Prop
 | 0,_,_,_=>False
 | f+1,v,t,es=>∃ (Lv Kv:Value) (xs:List Value) (sub:Nat->List jh),
   v=.agg #[.int .i64 (ah t),.int .i64 (aB t),.string (aF t),Lv,Kv]/\Cu t /\
   w.ownsRow 0 eV 5 Lv (nL t) xs/\w.ownsRow 0 eS 1 Kv (nK t) (lK (rU t)) /\
   (∀ i,i<nL t->fC w f (fv xs i) (elt t i) (sub i))/\(∀ i,i<nK t->(bf t i).size<=140737488355328) /\
   es=jB sub (nL t)++[⟨Lv,nL t,Kv,nK t⟩]
theorem bP {w w':World} {lo:Nat} {e:TypeId} {size n:Nat} {v:Value} {xs:List Value} (h:w.ownsRow lo e size v n xs) (hb:∀ b,v.ownBlock=some b->w'.heap[b]?=w.heap[b]?):w'.ownsRow lo e size v n xs:=by
 refine ⟨h.1,?_⟩;rcases h.2 with hn | ⟨g,cap,cur,rfl,hb0,hg,rest⟩
 ·exact .inl hn
 ·exact .inr ⟨g,cap,cur,rfl,hb0,(hb g rfl).trans hg,rest⟩
theorem GY {w:World} {lo lo':Nat} {e:TypeId} {size n:Nat} {v:Value} {xs:List Value} (h:w.ownsRow lo e size v n xs) (hl:∀ b,v.ownBlock=some b->lo'<=b):w.ownsRow lo' e size v n xs:=by
 refine ⟨h.1,?_⟩;rcases h.2 with hn | ⟨g,cap,cur,rfl,hb0,rest⟩
 ·exact .inl hn
 ·exact .inr ⟨g,cap,cur,rfl,hl g rfl,rest⟩
theorem fC.move {w w':World}:∀ {f:Nat} {v:Value} {t:T} {es:List jh},(∀ b ∈ qD es,w'.heap[b]?=w.heap[b]?)->fC w f v t es->fC w' f v t es:=by
 intro f
 induction f with
 | zero=>intro v t es _ h;exact h
 | succ f ih =>
  rintro v t es hb ⟨Lv,Kv,xs,sub,rfl,hf,hl,hk,hc,hn,rfl⟩;have hx:∀ b,b ∈ blk ⟨Lv,nL t,Kv,nK t⟩->w'.heap[b]?=w.heap[b]?:=fun b h=>hb b (by rw [aO,fV];simp [h]);refine ⟨Lv,Kv,xs,sub,rfl,hf,bP hl fun b e=>hx b ?_,bP hk fun b e=>hx b ?_,fun i hi=>ih (fun b h=>hb b ?_) (hc i hi),hn,rfl⟩
  ·simp [blk,e]
  ·simp [blk,e]
  ·rw [aO];exact List.mem_append_left _ (oK hi h)
theorem aJ {w:World} {lo:Nat} {e:TypeId} {size n:Nat} {v:Value} {xs:List Value} (h:w.ownsRow lo e size v n xs):∃ A c,v=.slice A n c:=by
 rcases h.2 with ⟨rfl,rfl⟩ | ⟨g,cap,cur,rfl,_⟩
 ·exact ⟨none,0,rfl⟩
 ·exact ⟨_,cap,rfl⟩
theorem vw {w:World} {lo:Nat} {e:TypeId} {size n:Nat} {v:Value} {xs:List Value} (h:w.ownsRow lo e size v n xs) (h0:0<n):∃ g cap,v=.slice (some ⟨g,0,none⟩) n cap/\g<w.heap.size/\lo<=g/\n<=cap/\(∀ j,j<n*size->w.cell? ⟨g,j,none⟩=some (cx xs j))/\∀ j,w.frozen? ⟨g,j,none⟩=false:=by
 rcases h.2 with ⟨rfl,rfl⟩ | ⟨g,cap,cur,rfl,hlo,hg,hnc,_⟩
 ·omega
 ·refine ⟨g,cap,rfl,(h.lt g rfl).2,hlo,hnc,fun j hj=>?_,fun j=>h.frozenAt j⟩;rw [h.cellAt j hj];have:j<xs.length:=by rw [h.1];exact hj
  simp [cx,this]
theorem fC.at {w:World}:∀ {f:Nat} {v:Value} {t:T} {es:List jh},fC w f v t es->At w f v t:=by
 intro f
 induction f with
 | zero=>intro v t es h;exact h
 | succ f ih =>
  rintro v t es ⟨Lv,Kv,xs,sub,rfl,hf,hl,hk,hc,hn,rfl⟩;obtain ⟨A,c,rfl⟩:=aJ hl;obtain ⟨C,d,rfl⟩:=aJ hk;refine ⟨A,C,c,d,rfl,hf,fun i hi=>?_,fun i hi=>?_⟩
  ·obtain ⟨g,cap,e,hg,_,_,hcell,_⟩:=vw hl (by omega);cases e;refine ⟨g,0,_,_,_,_,_,rfl,hg,?_,?_,?_,?_,?_,ih (hc i hi)⟩
   ·rw [Nat.zero_add];exact hcell _ (by omega)
   ·rw [Nat.zero_add];exact hcell _ (by omega)
   ·rw [Nat.zero_add];exact hcell _ (by omega)
   ·rw [Nat.zero_add];exact hcell _ (by omega)
   ·rw [Nat.zero_add];exact hcell _ (by omega)
  ·obtain ⟨g,cap,e,hg,_,_,hcell,_⟩:=vw hk (by omega);cases e;refine ⟨g,0,rfl,hg,hn i hi,?_⟩;rw [Nat.zero_add,hcell i (by omega)];have hi':i<(rU t).length:=hi;simp [cx,lK,bf,List.getD_eq_getElem?_getD,hi']
def abZ (w:World) (v:Value) (n:Nat):Prop:=∃ xs,w.ownsRow 0 eV 5 v n xs
def ab0 (w:World) (v:Value) (n:Nat):Prop:=∃ xs,w.ownsRow 0 eS 1 v n xs
def Zt (w:World) (es:List jh):Prop:=∀ e ∈ es,abZ w e.l e.n/\ab0 w e.k e.m
theorem E5 {s:Nat->List jh} {e:jh}:∀ {k:Nat},e ∈ jB s k->∃ i,i<k/\e ∈ s i
 | 0,h=>by cases h
 | k+1,h=>by
  rw [jB,List.mem_append] at h;rcases h with h | h
  ·obtain ⟨i,hi,hh⟩:=E5 h;exact ⟨i,by omega,hh⟩
  ·exact ⟨k,by omega,h⟩
theorem fC.rows {w:World}:∀ {f:Nat} {v:Value} {t:T} {es:List jh},fC w f v t es->Zt w es:=by
 intro f
 induction f with
 | zero=>intro v t es h;exact h.elim
 | succ f ih =>
  rintro v t es ⟨Lv,Kv,xs,sub,rfl,hf,hl,hk,hc,hn,rfl⟩ e he;rw [List.mem_append] at he;rcases he with he | he
  ·obtain ⟨i,hi,hh⟩:=E5 he;exact ih (hc i hi) e hh
  ·simp only [List.mem_singleton] at he;subst he;exact ⟨⟨_,hl⟩,⟨_,hk⟩⟩
theorem mD.child {lo:Nat} {w w':World} {A es:List jh} {e:jh} (h:mD lo w (A++[e])) (hs:w.heap.size<=w'.heap.size) (hc:mD w.heap.size w' es) (hlo:lo<=w.heap.size):mD lo w' (A++es++[e]):=by
 have h1:=h.nodup;have h2:=h.lies;have h3:=hc.nodup;have h4:=hc.lies;rw [aO] at h1 h2;refine ⟨?_,?_⟩
 ·rw [aO,aO];rw [List.nodup_append] at h1 ⊢;obtain ⟨a1,a2,a3⟩:=h1;refine ⟨?_,a2,?_⟩
  ·rw [List.nodup_append];refine ⟨a1,h3,fun a ha b hb=>?_⟩;have:=h2 a (List.mem_append_left _ ha);have:=h4 b hb;omega
  ·intro a ha b hb;rw [List.mem_append] at ha;rcases ha with ha | ha
   ·exact a3 a ha b hb
   ·have:=h2 b (List.mem_append_right _ hb);have:=h4 a ha;omega
 ·intro b hb;rw [aO,aO,List.mem_append,List.mem_append] at hb;rcases hb with (hb | hb) | hb
  ·have:=h2 b (List.mem_append_left _ hb);omega
  ·have:=h4 b hb;omega
  ·have:=h2 b (List.mem_append_right _ hb);omega
def AQ (w:World) (v v':Value):Prop:=v'.ownBlock=v.ownBlock\/∀ g,v'.ownBlock=some g->w.heap.size<=g
theorem mD.newL {lo:Nat} {w w':World} {A:List jh} {L L' K:Value} {n n' m:Nat} (h:mD lo w (A++[⟨L,n,K,m⟩])) (hs:w.heap.size<=w'.heap.size) (hn:AQ w L L') (hl:∀ g,L'.ownBlock=some g->g<w'.heap.size) (hlo:lo<=w.heap.size):mD lo w' (A++[⟨L',n',K,m⟩]):=by
 have h1:=h.nodup;have h2:=h.lies;rw [aO,fV] at h1 h2
 have h3:∀ g,L'.ownBlock=some g->L.ownBlock=some g\/w.heap.size<=g:=by
  intro g hg;rcases hn with e | e
  ·exact .inl (e ▸ hg)
  ·exact .inr (e g hg)
 refine ⟨?_,?_⟩
 ·rw [aO,fV];simp only [blk] at h1 h2 ⊢;rw [List.nodup_append,List.nodup_append] at h1 ⊢;obtain ⟨a1,⟨b1,b2,b3⟩,a3⟩:=h1;refine ⟨a1,⟨by cases L'.ownBlock<;>simp,b2,fun a ha b hb=>?_⟩,fun a ha b hb=>?_⟩
  ·rcases h3 a (by simpa using ha) with e | e
   ·exact b3 a (by simp [e]) b hb
   ·have:=h2 b (by simp only [List.mem_append];exact .inr (.inr hb));omega
  ·rw [List.mem_append] at hb;rcases hb with hb | hb
   ·rcases h3 b (by simpa using hb) with e | e
    ·exact a3 a ha b (by simp [e])
    ·have:=h2 a (by simp only [List.mem_append];exact .inl ha);omega
   ·exact a3 a ha b (by simp only [List.mem_append];exact .inr hb)
 ·intro b hb;rw [aO,fV] at hb;simp only [blk,List.mem_append] at hb h2;rcases hb with hb | hb | hb
  ·have:=h2 b (.inl hb);omega
  ·have hb':L'.ownBlock=some b:=by simpa using hb
   have:=hl b hb';rcases h3 b hb' with e | e
   ·have:=h2 b (.inr (.inl (by simp [e])));omega
   ·omega
  ·have:=h2 b (.inr (.inr hb));omega
theorem mD.Zu {lo:Nat} {w w':World} {A:List jh} {L K K':Value} {n m m':Nat} (h:mD lo w (A++[⟨L,n,K,m⟩])) (hs:w.heap.size<=w'.heap.size) (hn:AQ w K K') (hl:∀ g,K'.ownBlock=some g->g<w'.heap.size) (hlo:lo<=w.heap.size):mD lo w' (A++[⟨L,n,K',m'⟩]):=by
 have h1:=h.nodup;have h2:=h.lies;rw [aO,fV] at h1 h2
 have h3:∀ g,K'.ownBlock=some g->K.ownBlock=some g\/w.heap.size<=g:=by
  intro g hg;rcases hn with e | e
  ·exact .inl (e ▸ hg)
  ·exact .inr (e g hg)
 refine ⟨?_,?_⟩
 ·rw [aO,fV];simp only [blk] at h1 h2 ⊢;rw [List.nodup_append,List.nodup_append] at h1 ⊢;obtain ⟨a1,⟨b1,b2,b3⟩,a3⟩:=h1;refine ⟨a1,⟨b1,by cases K'.ownBlock<;>simp,fun a ha b hb=>?_⟩,fun a ha b hb=>?_⟩
  ·rcases h3 b (by simpa using hb) with e | e
   ·exact b3 a ha b (by simp [e])
   ·have:=h2 a (by simp only [List.mem_append];exact .inr (.inl ha));omega
  ·rw [List.mem_append] at hb;rcases hb with hb | hb
   ·exact a3 a ha b (by simp only [List.mem_append];exact .inl hb)
   ·rcases h3 b (by simpa using hb) with e | e
    ·exact a3 a ha b (by simp [e])
    ·have:=h2 a (by simp only [List.mem_append];exact .inl ha);omega
 ·intro b hb;rw [aO,fV] at hb;simp only [blk,List.mem_append] at hb h2;rcases hb with hb | hb | hb
  ·have:=h2 b (.inl hb);omega
  ·have:=h2 b (.inr (.inl hb));omega
  ·have hb':K'.ownBlock=some b:=by simpa using hb
   have:=hl b hb';rcases h3 b hb' with e | e
   ·have:=h2 b (.inr (.inr (by simp [e])));omega
   ·omega
structure pV (lo f:Nat) (w:World) (Lv Kv:Value) (L:List T) (K:List ByteArray) (xs:List Value) (sub:Nat->List jh):Prop where
 low:lo<=w.heap.size
 oL:w.ownsRow lo eV 5 Lv L.length xs
 vB:w.ownsRow lo eS 1 Kv K.length (lK K)
 kids:∀ i,i<L.length->fC w f (fv xs i) (L.getD i .nil) (sub i)
 names:∀ s ∈ K,s.size<=140737488355328
 sep:mD lo w (jB sub L.length++[⟨Lv,L.length,Kv,K.length⟩])
theorem pV.start (lo f:Nat) (w:World) (h:lo<=w.heap.size):pV lo f w (.slice none 0 0) (.slice none 0 0) [] [] [] (fun _=>[]) :=
 ⟨h,World.ownsRow_nil _ _ _ _,World.ownsRow_nil _ _ _ _,(fun i hi=>by simp at hi),(fun s hs=>by cases hs),⟨by simp [qD,blk,jB,Value.ownBlock],fun b hb=>by simp [qD,blk,jB,Value.ownBlock] at hb⟩⟩
theorem pV.move {lo f:Nat} {w w':World} {Lv Kv:Value} {L:List T} {K:List ByteArray} {xs:List Value} {sub:Nat->List jh} (h:pV lo f w Lv Kv L K xs sub) (hs:w.heap.size<=w'.heap.size) (hb:∀ b,lo<=b->b<w.heap.size->w'.heap[b]?=w.heap[b]?):pV lo f w' Lv Kv L K xs sub:=by
 have hx:∀ b ∈ qD (jB sub L.length++[⟨Lv,L.length,Kv,K.length⟩]),w'.heap[b]?=w.heap[b]?:=fun b hh=>by
  have:=h.sep.lies b hh;exact hb b this.1 this.2
 have hy:∀ b,b ∈ blk ⟨Lv,L.length,Kv,K.length⟩->w'.heap[b]?=w.heap[b]?:=fun b hh=>hx b (by rw [aO,fV];exact List.mem_append_right _ hh);refine ⟨Nat.le_trans h.low hs,bP h.oL (fun b e=>hy b (by simp [blk,e])),bP h.vB (fun b e=>hy b (by simp [blk,e])),(fun i hi=>(h.kids i hi).move fun b hh=>hx b (by rw [aO];exact List.mem_append_left _ (oK hi hh))),h.names,⟨h.sep.nodup,fun b hh=>?_⟩⟩;have:=h.sep.lies b hh;omega
theorem pV.set {lo f:Nat} {w:World} {Lv Kv:Value} {L:List T} {K:List ByteArray} {xs:List Value} {sub:Nat->List jh} (h:pV lo f w Lv Kv L K xs sub) (c o:Nat) (u:Value) (hc:c<lo):pV lo f (w.setCell ⟨c,o,none⟩ u) Lv Kv L K xs sub :=
 h.move (by simp [World.setCell]) fun b h1 _=>Below.heap_setCell _ _ _ _ (by simpa using (by omega:b≠c))
theorem nI {a b:List Nat} {x:Nat} (h:(a++b).Nodup) (ha:x ∈ a) (hb:x ∈ b):False:=(List.nodup_append.1 h).2.2 x ha x hb rfl
theorem pV.ab1 {lo f:Nat} {w w':World} {Lv Kv Cy:Value} {L:List T} {K:List ByteArray} {xs:List Value} {sub:Nat->List jh} (h:pV lo f w Lv Kv L K xs sub) (k:ByteArray) (hk:k.size<=140737488355328)
  (hO:w'.ownsRow lo eS 1 Cy (K.length+1) (lK K++[.string k])) (hG:w.grownBy w' Kv.ownBlock) (hN:AQ w Kv Cy):pV lo f w' Lv Cy L (K++[k]) xs sub:=by
 have hnd:=h.sep.nodup;have hlies:=h.sep.lies;rw [aO,fV] at hnd hlies;have hkl:(K++[k]).length=K.length+1:=by simp
 refine ⟨Nat.le_trans h.low hG.size,bP h.oL fun b e=>?_,?_,fun i hi=>(h.kids i hi).move fun b hh=>?_,?_,?_⟩
 ·have h1:b ∈ blk ⟨Lv,L.length,Kv,K.length⟩:=by simp [blk,e]
  refine hG.block b (hlies b (List.mem_append_right _ h1)).2 fun e2=>?_;have h2:(blk ⟨Lv,L.length,Kv,K.length⟩).Nodup:=(List.nodup_append.1 hnd).2.1;exact nI (x:=b) h2 (by simp [e]) (by simp [<- e2])
 ·rw [hkl];have e:lK (K++[k])=lK K++[.string k]:=by simp [lK]
  rw [e];exact hO
 ·have h1:=oK hi hh;refine hG.block b (hlies b (List.mem_append_left _ h1)).2 fun e2=>?_;exact nI hnd h1 (by simp [blk,<- e2])
 ·intro s hs;rw [List.mem_append] at hs;rcases hs with hs | hs
  ·exact h.names s hs
  ·simp only [List.mem_singleton] at hs;subst hs;exact hk
 ·rw [hkl];exact h.sep.Zu hG.size hN (fun g e=>(hO.lt g e).2) h.low
def GZ (sub:Nat->List jh) (n:Nat) (es:List jh) (i:Nat):List jh:=if i=n then es else sub i
theorem U7 (sub:Nat->List jh) (n:Nat) (es:List jh):jB (GZ sub n es) (n+1)=jB sub n++es:=by
 rw [jB,AP (s':=sub) n (fun i hi=>by simp [GZ,show i≠n by omega])];simp [GZ]
theorem Xu {xs ys:List Value} {n i:Nat} (hl:xs.length=n*5) (hi:i<n):fv (xs++ys) i=fv xs i:=by
 have h:∀ j,j<xs.length->cx (xs++ys) j=cx xs j:=fun j hj=>by simp [cx,List.getElem?_append_left hj]
 unfold fv;rw [h _ (by omega),h _ (by omega),h _ (by omega),h _ (by omega),h _ (by omega)]
theorem Xv {xs:List Value} {n:Nat} {c0 c1 c2 c3 c4:Value} (hl:xs.length=n*5):fv (xs++[c0,c1,c2,c3,c4]) n=.agg #[c0,c1,c2,c3,c4]:=by
 have h:∀ j,cx (xs++[c0,c1,c2,c3,c4]) (n*5+j)=cx [c0,c1,c2,c3,c4] j:=fun j=>by
  unfold cx;rw [List.getElem?_append_right (by omega),hl,Nat.add_sub_cancel_left]
 unfold fv;have h0:=h 0;rw [Nat.add_zero] at h0;rw [h0,h 1,h 2,h 3,h 4];rfl
theorem pV.ab2 {lo f:Nat} {w w':World} {Lv Ox Kv:Value} {L:List T} {K:List ByteArray} {xs:List Value} {sub:Nat->List jh} (h:pV lo f w Lv Kv L K xs sub) {x:T} {es:List jh} {c0 c1 c2 c3 c4:Value} (hF:fC w f (.agg #[c0,c1,c2,c3,c4]) x es)
  (hS:mD lo w (jB sub L.length++es++[⟨Lv,L.length,Kv,K.length⟩])) (hO:w'.ownsRow lo eV 5 Ox (L.length+1) (xs++[c0,c1,c2,c3,c4])) (hG:w.grownBy w' Lv.ownBlock) (hN:AQ w Lv Ox) :
  pV lo f w' Ox Kv (L++[x]) K (xs++[c0,c1,c2,c3,c4]) (GZ sub L.length es):=by
 have hnd:=hS.nodup;have hlies:=hS.lies;rw [aO,fV] at hnd hlies;have hll:(L++[x]).length=L.length+1:=by simp
 have hmv:∀ b,b ∈ qD (jB sub L.length++es)->w'.heap[b]?=w.heap[b]?:=fun b hb=>by
  refine hG.block b (hlies b (List.mem_append_left _ hb)).2 fun e2=>?_;exact nI hnd hb (by simp [blk,<- e2])
 refine ⟨Nat.le_trans h.low hG.size,?_,bP h.vB fun b e=>?_,fun i hi=>?_,h.names,?_⟩
 ·rw [hll];exact hO
 ·have h1:b ∈ blk ⟨Lv,L.length,Kv,K.length⟩:=by simp [blk,e]
  refine hG.block b (hlies b (List.mem_append_right _ h1)).2 fun e2=>?_;have h2:(blk ⟨Lv,L.length,Kv,K.length⟩).Nodup:=(List.nodup_append.1 hnd).2.1;exact nI (x:=b) h2 (by simp [<- e2]) (by simp [e])
 ·rw [hll] at hi;by_cases e:i=L.length
  ·subst e;rw [Xv h.oL.1];simp only [GZ,if_true];have e2:(L++[x]).getD L.length .nil=x:=by simp [List.getD_eq_getElem?_getD]
   rw [e2];exact hF.move fun b hb=>hmv b (by rw [aO];exact List.mem_append_right _ hb)
  ·have hi':i<L.length:=by omega
   rw [Xu h.oL.1 hi'];simp only [GZ,if_neg e];have e2:(L++[x]).getD i .nil=L.getD i .nil:=by simp [List.getD_eq_getElem?_getD,List.getElem?_append_left hi']
   rw [e2];exact (h.kids i hi').move fun b hb=>hmv b (by rw [aO];exact List.mem_append_left _ (oK hi' hb))
 ·rw [hll,U7];exact hS.newL hG.size hN (fun g e=>(hO.lt g e).2) h.low
theorem pV.flat {lo f:Nat} {w:World} {Lv Kv:Value} {L:List T} {K:List ByteArray} {xs:List Value} {sub:Nat->List jh} (h:pV lo f w Lv Kv L K xs sub) (k:Int) (hk0:0<=k) (hk1:k<=100) (hL:L.length<=1759218604442) (hK:K.length<=8796093022208) :
  fC w (f+1) (.agg #[.int .i64 k,.int .i64 0,.string ByteArray.empty,Lv,Kv]) (dU k 0 ByteArray.empty L K) (jB sub L.length++[⟨Lv,L.length,Kv,K.length⟩]):=by
 refine ⟨Lv,Kv,xs,sub,?_,⟨?_,?_,?_,?_,?_,?_,?_⟩,?_,?_,?_,?_,?_⟩
 ·rw [dP,mF,nW]
 ·rw [dP];omega
 ·rw [dP];omega
 ·rw [mF];omega
 ·rw [mF];omega
 ·rw [nW];simp
 ·rw [cK];exact hL
 ·rw [lU];exact hK
 ·rw [cK];exact GY h.oL fun _ _=>Nat.zero_le _
 ·rw [lU,tY];exact GY h.vB fun _ _=>Nat.zero_le _
 ·intro i hi;rw [cK] at hi;exact h.kids i hi
 ·intro i hi;rw [lU] at hi;rw [Xq,List.getD_eq_getElem?_getD,List.getElem?_eq_getElem hi];exact h.names _ (List.getElem_mem hi)
 ·rw [cK,lU]
theorem sD (w:World) (f:Nat) (k n:Int) (s:ByteArray) (hk0:0<=k) (hk1:k<=100) (hn0:-9223372036854775808<=n) (hn1:n<=9223372036854775807) (hs:s.size<=140737488355328) :
  fC w (f+1) (.agg #[.int .i64 k,.int .i64 n,.string s,.slice none 0 0,.slice none 0 0]) (aR k n s) [⟨.slice none 0 0,0,.slice none 0 0,0⟩]:=by
 unfold aR;refine ⟨.slice none 0 0,.slice none 0 0,[],fun _=>[],?_,⟨?_,?_,?_,?_,?_,?_,?_⟩,World.ownsRow_nil _ _ _ _,?_,?_,?_,?_⟩
 ·rw [dP,mF,nW]
 ·rw [dP];omega
 ·rw [dP];omega
 ·rw [mF];omega
 ·rw [mF];omega
 ·rw [nW];exact hs
 ·rw [cK];simp
 ·rw [lU];simp
 ·rw [lU,tY];exact World.ownsRow_nil _ _ _ _
 ·intro i hi;rw [cK] at hi;simp at hi
 ·intro i hi;rw [lU] at hi;simp at hi
 ·rw [cK,lU];rfl
theorem vD (lo:Nat) (w:World):mD lo w [⟨.slice none 0 0,0,.slice none 0 0,0⟩]:=⟨by simp [qD,blk,Value.ownBlock],fun b hb=>by simp [qD,blk,Value.ownBlock] at hb⟩
theorem mD.keep {lo:Nat} {w w':World} {es:List jh} (h:mD lo w es) (hs:w.heap.size<=w'.heap.size):mD lo w' es:=⟨h.nodup,fun b hb=>by have:=h.lies b hb;omega⟩
theorem mD.lower {lo lo':Nat} {w:World} {es:List jh} (h:mD lo w es) (hs:lo'<=lo):mD lo' w es:=⟨h.nodup,fun b hb=>by have:=h.lies b hb;omega⟩
theorem fC.keep {w w':World} {f lo:Nat} {v:Value} {t:T} {es:List jh} (h:fC w f v t es) (hs:mD lo w es) (hb:Below w.heap.size w w'):fC w' f v t es:=h.move fun b hh=>hb.block b (hs.lies b hh).2
def qE (w:World) (e:TypeId) (size:Nat) (v:Value) (n k:Nat) (c:Nat->Value):Prop:=∃ xs,w.ownsRow 0 e size v n xs/\∀ j,j<k*size->xs[j]?=some (c (j % size))
theorem qE.move {w w':World} {e:TypeId} {size n k:Nat} {v:Value} {c:Nat->Value} (h:qE w e size v n k c) (hb:∀ b,v.ownBlock=some b->w'.heap[b]?=w.heap[b]?):qE w' e size v n k c:=by
 obtain ⟨xs,h1,h2⟩:=h;exact ⟨xs,bP h1 hb,h2⟩
theorem qE.zero {w:World} {e:TypeId} {size n:Nat} {v:Value} {xs:List Value} (h:w.ownsRow 0 e size v n xs) (c:Nat->Value):qE w e size v n 0 c:=⟨xs,h,fun j hj=>by simp at hj⟩
theorem qE.app {w w':World} {e:TypeId} {size n:Nat} {v v':Value} {c:Nat->Value} {xs news:List Value} (h1:w.ownsRow 0 e size v n xs) (h2:∀ j,j<n*size->xs[j]?=some (c (j % size))) (hO:w'.ownsRow 0 e size v' (n+1) (xs++news)) (hn:∀ j,j<size->news[j]?=some (c j)):qE w' e size v' (n+1) (n+1) c:=by
 refine ⟨_,hO,fun j hj=>?_⟩;by_cases hl:j<n*size
 ·rw [List.getElem?_append_left (by rw [h1.1];exact hl)];exact h2 j hl
 ·rw [Nat.add_mul,Nat.one_mul] at hj;rw [List.getElem?_append_right (by rw [h1.1];omega),h1.1,hn _ (by omega)]
  have:j % size=j - n*size:=by
   have e:j=(j - n*size)+n*size:=by omega
   rw [e,Nat.add_mul_mod_self_right,Nat.mod_eq_of_lt (by omega)];omega
  rw [this]
theorem qE.Xw {w:World} {e:TypeId} {n k g cap:Nat} {c:Nat->Value} (h:qE w e 1 (.slice (some ⟨g,0,none⟩) n cap) n k c) (hk:k<n):qE (w.setCell ⟨g,k,none⟩ (c 0)) e 1 (.slice (some ⟨g,0,none⟩) n cap) n (k+1) c:=by
 obtain ⟨xs,h1,h2⟩:=h;have hl:=h1.1;refine ⟨_,(h1.stored k (c 0)).1,fun j hj=>?_⟩;simp only [List.getElem?_set];by_cases h0:k=j
 ·subst h0;rw [if_pos rfl,if_pos (by omega)];have:k % 1=0:=by omega
  rw [this]
 ·rw [if_neg h0];exact h2 j (by omega)
theorem M7 {s:Nat->List jh} {g:Nat->Nat}:∀ k,(∀ i,i<k->(s i).length<=g i)->(jB s k).length<=((List.range k).map g).sum
 | 0,_=>by simp [jB]
 | k+1,h=>by
  rw [jB,List.length_append,List.range_succ,List.map_append,List.sum_append];have:=M7 (s:=s) (g:=g) k (fun i hi=>h i (by omega));have:=h k (by omega);simp only [List.map_cons,List.map_nil,List.sum_cons,List.sum_nil];omega
theorem AU (g:T->Nat) (t:T):∀ k,dY g t k=((List.range k).map fun i=>g (elt t i)).sum
 | 0=>by simp [dY]
 | k+1=>by rw [dY,AU g t k,List.range_succ,List.map_append,List.sum_append];simp
theorem G5 {g:T->Nat} {t:T} (h:∀ t,1<=g t):∀ k,k<=dY g t k
 | 0=>Nat.zero_le _
 | k+1=>by have:=G5 (g:=g) (t:=t) h k;have:=h (elt t k);rw [dY];omega
theorem G6 {g:T->Nat} {t:T} {i:Nat}:∀ {k:Nat},i<k->g (elt t i)<=dY g t k
 | k+1,h=>by
  rw [dY];by_cases e:i=k
  ·subst e;omega
  ·have:=G6 (g:=g) (t:=t) (i:=i) (k:=k) (by omega);omega
end Go.Proofs.YtknakfpciccoaaaGreatDoor
/- The contract of strings.Clone, of the library's shelf, laid at this dump. -/
namespace Go.Proofs
open Go.Shelf Go.RowKit
def Tryz.laysClone_ren:Go.Shelf.Ren:=⟨fun | 316=>115 | n=>n,fun | 37=>63 | 127=>123 | n=>n,fun n=>n⟩
theorem Tryz.laysClone:Go.Proofs.LaysM.n316 Tryz.prog Tryz.laysClone_ren:={
 mixed:=by kernel_rfl
 f316:=Tryz.func115.trans (congrArg some (by kernel_rfl))
 t0:=Tryz.underlying0
 a0:=Tryz.isAgg0
 z0:=Tryz.sizeOf0
 v0:=Tryz.zeroValue0
 t3:=Tryz.underlying3
 a3:=Tryz.isAgg3
 z3:=Tryz.sizeOf3
 v3:=Tryz.zeroValue3
 t4:=Tryz.underlying4
 a4:=Tryz.isAgg4
 z4:=Tryz.sizeOf4
 v4:=Tryz.zeroValue4
 t9:=Tryz.underlying9
 a9:=Tryz.isAgg9
 z9:=Tryz.sizeOf9
 v9:=Tryz.zeroValue9
 t37:=Tryz.underlying63
 a37:=Tryz.isAgg63
 z37:=Tryz.sizeOf63
 v37:=Tryz.zeroValue63
 t127:=Tryz.underlying123
 a127:=Tryz.isAgg123
 z127:=Tryz.sizeOf123
 v127:=Tryz.zeroValue123
 t5:=Tryz.underlying5
 a5:=Tryz.isAgg5
 z5:=Tryz.sizeOf5
 v5:=Tryz.zeroValue5
 i0:=by kernel_rfl
 i3:=by kernel_rfl
 i4:=by kernel_rfl
 i5:=by kernel_rfl
 i9:=by kernel_rfl
 i37:=by kernel_rfl
 i127:=by kernel_rfl }
end Go.Proofs
namespace Go.Proofs.YtknakfpciccoaaaGreatDoor
open Go.RowKit
theorem Oy (s:ByteArray) (w:World) (hs:s.size<=140737488355328) :
  Calls Tryz.prog 70 #[.string s] w fun e w'=>e=.returned (.string s)/\Below w.heap.size w w':=by
 have HC:Hid (Calls Tryz.prog 115 #[.string s] w fun e w'=>e=.returned (.string s)/\Below w.heap.size w w'):=Any.stringslite_Clone Tryz.laysClone s w (by omega);go_in;go_wp2_with (go_at_call 115;refine HC.out.mono ?_;rintro e w2 ⟨rfl,hb⟩);go_ret;exact ⟨rfl,hb⟩
abbrev kC (n:Int):Ending:=.panicked [{ v:=.iface 132 (.int .i64 n),recovered:=false }]
structure Left (c:Nat) (s:ByteArray) (w:World):Prop where
 cell:w.cell? ⟨c,0,none⟩=some (.string s)
 free:w.frozen? ⟨c,0,none⟩=false
 lt:c<w.heap.size
end Go.Proofs.YtknakfpciccoaaaGreatDoor
