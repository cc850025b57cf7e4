import Derived.Test.YtknakfpciccoaaaGreatDoorZF11
/- parsed answers true: the seat's own copy of the part of X1 that needs no reference. -/
namespace Go.Proofs.YtknakfpciccoaaaGreatDoor
open Go.RowKit
def ZG (s:ByteArray) (w:World) (e:Ending) (w':World):Prop :=
 Below w.heap.size w w'/\∃ es A B C D,e=.returned (.tuple #[.agg #[.int .i64 (ah (tJ s)),.int .i64 (aB (tJ s)),.string (aF (tJ s)),.slice A (nL (tJ s)) B,.slice C (nK (tJ s)) D],.int .i64 (eJ s)]) /\
  fC w' 13 (.agg #[.int .i64 (ah (tJ s)),.int .i64 (aB (tJ s)),.string (aF (tJ s)),.slice A (nL (tJ s)) B,.slice C (nK (tJ s)) D]) (tJ s) es/\mD w.heap.size w' es/\es.length<=1048576/\∀ x ∈ es,x.n<=1048576/\x.m<=1048576
theorem WK {s:ByteArray} {w:World} {e:Ending} {w':World} (h:sF s w e w'):ZG s w e w':=by
 obtain ⟨hb,⟨t,es,A,B,C,D,⟨h0,rfl⟩,rfl,hF,hS⟩ | ⟨h0,rfl⟩⟩:=h
 ·have hc:=XM h0 13;have hf:=Rv hF hc.2;refine ⟨hb,es,A,B,C,D,by rw [h0];rfl,hF,hS,by omega,fun x hx=>?_⟩;have:=hf.2 x hx;omega
 ·have e1:tJ s=aR 0 0 ByteArray.empty:=by unfold tJ;rw [if_neg h0]
  refine ⟨hb,_,none,0,none,0,?_,?_,vD _ _,by simp,fun x hx=>?_⟩
  ·rw [e1];rfl
  ·rw [e1];exact sD w' 12 0 0 ByteArray.empty (by omega) (by omega) (by omega) (by omega) (by simp)
  ·simp only [List.mem_singleton] at hx;subst hx;exact ⟨Nat.zero_le _,Nat.zero_le _⟩
theorem Fh {Tb:World->Prop} (hD:bS Tb) (hN:dz Tb) (hL:fG Tb) (s:ByteArray) (w:World) (hs:s.size<=140737488355328) (hT:Tb w):Calls Tryz.prog 22 #[.string s] w (ZG s w) :=
 (OL hD hN hL s w hs hT).mono fun _ _ h=>WK h
end Go.Proofs.YtknakfpciccoaaaGreatDoor
