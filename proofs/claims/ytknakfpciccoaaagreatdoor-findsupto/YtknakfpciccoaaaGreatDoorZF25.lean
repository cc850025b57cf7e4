import Derived.Test.YtknakfpciccoaaaGreatDoorZF13
import Derived.Test.YtknakfpciccoaaaGreatDoorZF14
import Derived.Test.YtknakfpciccoaaaGreatDoorZF24
import Derived.ChangeSlices
/- What the store's walks ask of the library, met; a list of numbers that is handed in. -/
namespace Go.Proofs.YtknakfpciccoaaaGreatDoor
open Go.ChangeShapes Go.WideShapes Go.ChangeAt Go.RowKit Go.Lib Go.Shelf Go.Deep
def Ew (w:World):Prop:=Ba w/\∃ m:Int,w.cell? ⟨7,0,none⟩=some (.int .i64 m)
theorem Ey:fG Ew:=by
 intro w0 h0 w w' h hb;refine ⟨OM w0 h0.1 w w' h.1 hb,?_⟩;obtain ⟨m0,e0⟩:=h0.2;obtain ⟨m,e⟩:=h.2;have hlt:7<w0.heap.size:=z8 e0;exact ⟨m,(hb.cell (p:=⟨7,0,none⟩) hlt).trans e⟩
theorem yD (sep:ByteArray):∀ (k:Nat) (s:ByteArray),∀ x ∈ Lib.splitB sep 0 k s,x.size<=s.size
 | 0,s,x,h=>by
  rw [Lib.splitB_zero] at h;simp only [List.mem_singleton] at h;rw [h];exact Nat.le_refl _
 | k+1,s,x,h=>by
  unfold Lib.splitB at h;split at h
  ·simp only [List.mem_singleton] at h;rw [h];exact Nat.le_refl _
  ·rcases List.mem_cons.1 h with h | h
   ·rw [h,ByteArray.size_extract];omega
   ·have:=yD sep k _ x h;rw [ByteArray.size_extract] at this;omega
theorem LC:eF Ew:=fun x w hx hT=>by
 obtain ⟨m,hm⟩:=hT.2;refine (Any.strings_Split { Tryz.laysSplit with } Tryz.laysSplit.i9 x ⟨#[46]⟩ m w (by omega) hm (by decide)).mono ?_;rintro e w' ⟨rfl,rfl⟩;have hlen:(aU x).length=Lib.countB x ⟨#[46]⟩+1:=Lib.splitB_all ⟨#[46]⟩ (by decide) 0 _ x rfl;have hle:=Lib.countB_le ⟨#[46]⟩ (by decide) x.size x (Nat.le_refl _);refine ⟨bG _ _,_,rfl,some ⟨w.heap.size,0,none⟩,Lib.countB x ⟨#[46]⟩+1,by rw [hlen],by omega,fun i hi=>?_⟩;have e1:(aU x).getD i ByteArray.empty=(aU x)[i]:=by rw [List.getD_eq_getElem?_getD,List.getElem?_eq_getElem hi];rfl
 refine ⟨w.heap.size,0,rfl,⟨Nat.le_refl _,by simp⟩,?_,?_⟩
 ·rw [e1];have:=yD ⟨#[46]⟩ _ x _ (List.getElem_mem hi);omega
 ·rw [e1,Nat.zero_add];rw [cell_of_row _ w.heap.size i _ _ (0,0) (heap_alloc_new w _)];have hi':i<((aU x).map Value.string).toArray.size:=by simpa using hi
  show ((aU x).map Value.string).toArray[i]?=_;rw [Array.getElem?_eq_getElem hi'];simp
theorem Pp:kX Ew:=fun s w hs hT=>by
 cases hp:Lib.atoiAll s.data.toList with
 | ok v =>
  refine (Any.strconv_Atoi_ok Tryz.laysAtoi s (by omega) v hp w).mono ?_;rintro e w' ⟨rfl,hb⟩;refine ⟨?_,Or.inl ⟨v,rfl,rfl⟩⟩;rcases hb with rfl | ⟨x,rfl⟩
  ·exact Below.refl _ _
  ·exact yt w _ x
 | «syntax» =>
  obtain ⟨te,pe,he⟩:=hT.1.2.1;refine (Any.strconv_Atoi_syntax Tryz.laysAtoi s (by omega) hp (.iface te pe) w he (Or.inr ⟨te,pe,rfl⟩)).mono ?_;rintro e w' ⟨N,rfl,_,_,hb⟩;exact ⟨hb,Or.inr ⟨(fun v h=>by cases h),_,_,_,rfl⟩⟩
 | range =>
  obtain ⟨te,pe,he⟩:=hT.1.2.2.1;refine (Any.strconv_Atoi_range Tryz.laysAtoi s (by omega) hp (.iface te pe) w he (Or.inr ⟨te,pe,rfl⟩)).mono ?_;rintro e w' ⟨N,rfl,_,_,hb⟩;exact ⟨hb,Or.inr ⟨(fun v h=>by cases h),_,_,_,rfl⟩⟩
theorem LD:kW Ew:=fun n w h0 h1 hT=>by
 refine (Any.strconv_Itoa Tryz.laysItoa n h0 h1 w hT.1.2.2.2).mono ?_;rintro e w' ⟨rfl,k,os,rfl⟩;exact ⟨rfl,Lib.below_grow _ _ (Nat.le_refl _) _ _⟩
theorem LG:dS Ew :=
 ⟨fun s w hT=>RI s w hT.1,fun s w hs hT=>RJ s w hs hT.1,LC,Pp,LD,fun s w hs hT=>KG s w hs hT.1,fun n w h0 h1 hT=>RN n w h0 h1 hT.1,Ey⟩
theorem Ja {W:World} (hL:laidMetH Tryz.prog DY W) (hS:W.ShapedOpen Tryz.prog):Ew W:=⟨Vj hL,Tryz.laysSplit.s1_3 W hS⟩
end Go.Proofs.YtknakfpciccoaaaGreatDoor
