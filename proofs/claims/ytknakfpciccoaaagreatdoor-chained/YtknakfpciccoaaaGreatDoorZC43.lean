import Derived.Test.YtknakfpciccoaaaGreatDoorZC41
import Derived.Test.YtknakfpciccoaaaGreatDoorZC42
import Derived.Test.YtknakfpciccoaaaGreatDoorZC10
import Derived.Test.YtknakfpciccoaaaGreatDoorZC35
import Derived.ChangeSlices
/- What the store's walks ask of the library, met; a list of numbers that is handed in. -/
namespace Go.Proofs.YtknakfpciccoaaaGreatDoor
open Go.ChangeShapes Go.WideShapes Go.ChangeAt Go.RowKit Go.Lib Go.Shelf Go.Deep
def F6 (w:World):Prop:=Db w/\∃ m:Int,w.cell? ⟨7,0,none⟩=some (.int .i64 m)
theorem TS:aV F6:=by
 intro w0 h0 w w' h hb;refine ⟨TR w0 h0.1 w w' h.1 hb,?_⟩;obtain ⟨m0,e0⟩:=h0.2;obtain ⟨m,e⟩:=h.2;have hlt:7<w0.heap.size:=Da e0;exact ⟨m,(hb.cell (p:=⟨7,0,none⟩) hlt).trans e⟩
theorem zH (sep:ByteArray):∀ (k:Nat) (s:ByteArray),∀ x ∈ Lib.splitB sep 0 k s,x.size<=s.size
 | 0,s,x,h=>by
  rw [Lib.splitB_zero] at h;simp only [List.mem_singleton] at h;rw [h];exact Nat.le_refl _
 | k+1,s,x,h=>by
  unfold Lib.splitB at h;split at h
  ·simp only [List.mem_singleton] at h;rw [h];exact Nat.le_refl _
  ·rcases List.mem_cons.1 h with h | h
   ·rw [h,ByteArray.size_extract];omega
   ·have:=zH sep k _ x h;rw [ByteArray.size_extract] at this;omega
theorem Pp:cK F6:=fun x w hx hT=>by
 obtain ⟨m,hm⟩:=hT.2;refine (Any.strings_Split { Tryz.laysSplit with } Tryz.laysSplit.i9 x ⟨#[46]⟩ m w (by omega) hm (by decide)).mono ?_;rintro e w' ⟨rfl,rfl⟩;have hlen:(bW x).length=Lib.countB x ⟨#[46]⟩+1:=Lib.splitB_all ⟨#[46]⟩ (by decide) 0 _ x rfl;have hle:=Lib.countB_le ⟨#[46]⟩ (by decide) x.size x (Nat.le_refl _);refine ⟨aY _ _,_,rfl,some ⟨w.heap.size,0,none⟩,Lib.countB x ⟨#[46]⟩+1,by rw [hlen],by omega,fun i hi=>?_⟩;have e1:(bW x).getD i ByteArray.empty=(bW x)[i]:=by rw [List.getD_eq_getElem?_getD,List.getElem?_eq_getElem hi];rfl
 refine ⟨w.heap.size,0,rfl,⟨Nat.le_refl _,by simp⟩,?_,?_⟩
 ·rw [e1];have:=zH ⟨#[46]⟩ _ x _ (List.getElem_mem hi);omega
 ·rw [e1,Nat.zero_add];rw [cell_of_row _ w.heap.size i _ _ (0,0) (heap_alloc_new w _)];have hi':i<((bW x).map Value.string).toArray.size:=by simpa using hi
  show ((bW x).map Value.string).toArray[i]?=_;rw [Array.getElem?_eq_getElem hi'];simp
theorem TT:dn F6:=fun s w hs hT=>by
 cases hp:Lib.atoiAll s.data.toList with
 | ok v =>
  refine (Any.strconv_Atoi_ok Tryz.laysAtoi s (by omega) v hp w).mono ?_;rintro e w' ⟨rfl,hb⟩;refine ⟨?_,Or.inl ⟨v,rfl,rfl⟩⟩;rcases hb with rfl | ⟨x,rfl⟩
  ·exact Below.refl _ _
  ·exact zG w _ x
 | «syntax» =>
  obtain ⟨te,pe,he⟩:=hT.1.2.1;refine (Any.strconv_Atoi_syntax Tryz.laysAtoi s (by omega) hp (.iface te pe) w he (Or.inr ⟨te,pe,rfl⟩)).mono ?_;rintro e w' ⟨N,rfl,_,_,hb⟩;exact ⟨hb,Or.inr ⟨(fun v h=>by cases h),_,_,_,rfl⟩⟩
 | range =>
  obtain ⟨te,pe,he⟩:=hT.1.2.2.1;refine (Any.strconv_Atoi_range Tryz.laysAtoi s (by omega) hp (.iface te pe) w he (Or.inr ⟨te,pe,rfl⟩)).mono ?_;rintro e w' ⟨N,rfl,_,_,hb⟩;exact ⟨hb,Or.inr ⟨(fun v h=>by cases h),_,_,_,rfl⟩⟩
theorem Pq:bf F6:=fun n w h0 h1 hT=>by
 refine (Any.strconv_Itoa Tryz.laysItoa n h0 h1 w hT.1.2.2.2).mono ?_;rintro e w' ⟨rfl,k,os,rfl⟩;exact ⟨rfl,Lib.below_grow _ _ (Nat.le_refl _) _ _⟩
theorem Pt:bN F6 :=
 ⟨fun s w hT=>Yc s w hT.1,fun s w hs hT=>Yd s w hs hT.1,Pp,TT,Pq,fun s w hs hT=>Pm s w hs hT.1,fun n w h0 h1 hT=>Ye n w h0 h1 hT.1,TS⟩
theorem Yj {W:World} (hL:laidMetH Tryz.prog F5 W) (hS:W.ShapedOpen Tryz.prog):F6 W:=⟨aas hL,Tryz.laysSplit.s1_3 W hS⟩
theorem Yk:Tryz.prog.cellsOf 3=1:=by kernel_rfl
theorem Yl:Tryz.prog.bytesOf 3=8:=by kernel_rfl
theorem adE {a:Int} (h:(Lit.int .i64 a).wf=true):-9223372036854775808<=a/\a<=9223372036854775807:=by
 have e1:IntKind.i64.min=-9223372036854775808:=rfl;simp [Lit.wf] at h;omega
theorem Pv {H:Type} {enc:TypeId×Value->H} {W:World} {fuel:Nat} {c:Value} {y:DataW H×List MemPlace} (h:DataW.trod enc Tryz.prog W 0 (fun _=>true) true fuel 43 [c]=some y) (hw:∀ n ∈ y.1.weights Tryz.prog 43,n<=reachBytes):∃ n,LJ W c n:=by
 rcases open_ints Tryz.underlying43 Tryz.underlying3 Yk h with ⟨hc,rfl⟩ | ⟨a,len,cap,zs,hc,_,hl,hcm,hm,rfl,hcell,hwf⟩
 ·simp only [List.cons.injEq,and_true] at hc;exact ⟨0,none,0,hc,by omega,fun i hi=>absurd hi (Nat.not_lt_zero _)⟩
 ·simp only [List.cons.injEq,and_true] at hc;simp only [if_true] at hm;refine ⟨len,some a,cap,hc,?_,fun i hi=>?_⟩
  ·have:=hw ((lits (H:=H) .i64 (zs.take len)).length*8+(lits (H:=H) .i64 (zs.drop len)).length*8) (by
     simp only [DataW.weights,Tryz.underlying43,Yl];rw [Nat.add_mul];exact List.mem_cons_self ..)
   simp only [lits,List.length_map,List.length_take,List.length_drop,reachBytes] at this;omega
  ·have h1:=hcell i (by omega);have h0:=hcell 0 (by omega)
   have ha:a=⟨a.block,a.off,none⟩:=by
    have:=TQ h0;simpa [Addr.add] using this
   have hz:zs.getD i 0 ∈ zs:=by
    rw [List.getD_eq_getElem?_getD,List.getElem?_eq_getElem (by omega)];exact List.getElem_mem (by omega)
   have hb:=adE (hwf _ hz);refine ⟨a.block,a.off,zs.getD i 0,by rw [<- ha],?_,?_,hb.1,hb.2⟩
   ·have:=Da h0;simpa [Addr.add] using this
   ·rw [ha,Lib.add_plain] at h1;exact h1
end Go.Proofs.YtknakfpciccoaaaGreatDoor
