import Derived.Test.YtknakfpciccoaabGreatDoorZU13
import Derived.Test.YtknakfpciccoaabGreatDoorZU4
import Derived.Test.YtknakfpciccoaabGreatDoorZU7
/- Rows that are built, one element behind the other, each of which reads what lies elsewhere; need. -/
namespace Go.Proofs.YtknakfpciccoaabGreatDoor
open Go.RowKit
set_option maxHeartbeats 4000000 in
set_option maxRecDepth 100000 in
theorem unless_any (ok : Bool) (n : Int) (w : World) : Calls Tryz.prog 120 #[.bool ok,.int .i64 n] w fun e w'=>w'=w∧e=(if ok then .returned (.tuple #[]) else refused n):=by
 cases ok with
 | true =>
  go_enter Tryz.func120,Tryz.ntmps120
  go_wp2_with fail
  refine bodyPost_end (v:=.tuple #[]) (by simp [results,Tryz.results120,go_sem]) rfl ?_
  exact ⟨rfl,rfl⟩
 | false =>
  go_enter Tryz.func120,Tryz.ntmps120
  go_wp2_with fail
  exact ⟨rfl,rfl,rfl⟩
set_option maxHeartbeats 4000000 in
set_option maxRecDepth 100000 in
theorem need_any (ok : Bool) (w : World) : Calls Tryz.prog 116 #[.bool ok] w fun e w'=>w'=w∧e=(if ok then .returned (.tuple #[]) else refused 8):=by
 have HC:=hid (unless_any ok 8 w)
 cases ok with
 | true =>
  simp only [if_true] at HC ⊢
  go_enter Tryz.func116,Tryz.ntmps116
  go_wp2_with fail
  refine HC.out.mono ?_
  rintro e w2 ⟨rfl,rfl⟩
  go_wp2_with fail
  refine bodyPost_end (v:=.tuple #[]) (by simp [results,Tryz.results116,go_sem]) rfl ?_
  exact ⟨rfl,rfl⟩
 | false =>
  simp only [Bool.false_eq_true,if_false] at HC ⊢
  go_enter Tryz.func116,Tryz.ntmps116
  go_wp2_with fail
  refine HC.out.mono ?_
  rintro e w2 ⟨rfl,rfl⟩
  exact ⟨rfl,rfl,rfl⟩
def Moves {α : Type} (E : World→(Nat→Prop)→List Value→α→Prop) : Prop:=∀ (w w' : World) (X X' : Nat→Prop) (cs : List Value) (x : α),E w X cs x→(∀ b,X b→w'.heap[b]?=w.heap[b]?∧X' b)→E w' X' cs x
def elC (s : Nat) (xs : List Value) (i : Nat) : List Value:=(xs.drop (i * s)).take s
def newX (base : Nat) (hv : Value) (w : World) (b : Nat) : Prop:=base≤b∧b<w.heap.size∧some b≠hv.ownBlock
structure Bld {α : Type} (E : World→(Nat→Prop)→List Value→α→Prop) (s : Nat) (e : TypeId) (base : Nat) (hv : Value) (l : List α) (xs : List Value) (wr : World) : Prop where
 row : wr.ownsRow base e s hv l.length xs
 el : ∀ i,(h : i<l.length)→E wr (newX base hv wr) (elC s xs i) l[i]
theorem Bld.nil {α : Type} (E : World→(Nat→Prop)→List Value→α→Prop) (s : Nat) (e : TypeId) (base : Nat) (wr : World) : Bld E s e base (.slice none 0 0) [] [] wr:=⟨World.ownsRow_nil _ _ _ _,fun i h=>absurd h (Nat.not_lt_zero i)⟩
theorem Bld.keep {α : Type} {E : World→(Nat→Prop)→List Value→α→Prop} (hE : Moves E) {s : Nat} {e : TypeId} {base : Nat} {hv : Value} {l : List α} {xs : List Value} {wr w1 : World} (h : Bld E s e base hv l xs wr) (hb : Below wr.heap.size wr w1) : Bld E s e base hv l xs w1 :=
 ⟨rowH_move h.row fun b _ h2=>hb.block b h2,fun i hi=>hE _ _ _ _ _ _ (h.el i hi) fun b hX=>⟨hb.block b hX.2.1,hX.1,Nat.lt_of_lt_of_le hX.2.1 hb.size,hX.2.2⟩⟩
theorem elC_left {s : Nat} {xs ys : List Value} {i n : Nat} (hx : xs.length=n * s) (hi : i<n) : elC s (xs ++ ys) i=elC s xs i:=by
 have h1 : (i+1) * s≤n * s:=Nat.mul_le_mul_right s hi
 rw [Nat.add_mul,Nat.one_mul] at h1
 unfold elC
 rw [List.drop_append_of_le_length (by omega),List.take_append_of_le_length (by rw [List.length_drop]; omega)]
theorem elC_right {s : Nat} {xs ys : List Value} {n : Nat} (hx : xs.length=n * s) (hy : ys.length=s) : elC s (xs ++ ys) n=ys:=by
 unfold elC
 rw [← hx,List.drop_left,← hy,List.take_length]
theorem own_lt2 {w : World} {lo : Nat} {e : TypeId} {size n : Nat} {v : Value} {xs : List Value} (h : w.ownsRow lo e size v n xs) {b : Nat} (hb : v.ownBlock=some b) : lo≤b∧b<w.heap.size:=by
 rcases h.2 with ⟨rfl,_⟩ | ⟨g,cap,cur,rfl,hb0,hg,rest⟩
 ·cases hb
 ·have : b=g:=by simpa [Value.ownBlock] using hb.symm
  subst this
  exact ⟨hb0,(Array.getElem?_eq_some_iff.1 hg).1⟩
theorem Bld.grow {α : Type} {E : World→(Nat→Prop)→List Value→α→Prop} (hE : Moves E) {s : Nat} {e : TypeId} {base : Nat} {hv v' : Value} {l : List α} {xs cs : List Value} {wr w2 w3 : World} {x : α} {X : Nat→Prop} (h : Bld E s e base hv l xs wr) (hb : Below wr.heap.size wr w2) (hc : cs.length=s) (hx : E w2 X cs x) (hX : ∀ b,X b→wr.heap.size≤b∧b<w2.heap.size) (hlo : base≤wr.heap.size)
  (hO : w3.ownsRow base e s v' (l.length+1) (xs ++ cs)) (hG : w2.grownBy w3 hv.ownBlock) (hat : v'.ownBlock=hv.ownBlock∨v'.ownBlock=some w2.heap.size) : Bld E s e base v' (l ++ [x]) (xs ++ cs) w3:=by
 have hxl : xs.length=l.length * s:=h.row.1
 have own : ∀ b,b<w2.heap.size→some b≠hv.ownBlock→some b≠v'.ownBlock:=fun b h1 h2=>by
  rcases hat with ha | ha
  ·rw [ha]; exact h2
  ·rw [ha]; intro e; simp only [Option.some.injEq] at e; omega
 refine ⟨by rw [List.length_append]; exact hO,fun i hi=>?_⟩
 rw [List.length_append,List.length_cons,List.length_nil] at hi
 by_cases ei : i<l.length
 ·rw [List.getElem_append_left ei,elC_left hxl ei]
  refine hE _ _ _ _ _ _ (h.el i ei) fun b hX=>?_
  have h2 : b<w2.heap.size:=Nat.lt_of_lt_of_le hX.2.1 hb.size
  exact ⟨(hG.block b h2 hX.2.2).trans (hb.block b hX.2.1),hX.1,Nat.lt_of_lt_of_le h2 hG.size,own b h2 hX.2.2⟩
 ·obtain rfl : i=l.length:=by omega
  rw [List.getElem_append_right (by omega),elC_right hxl hc]
  simp only [Nat.sub_self,List.getElem_cons_zero]
  refine hE _ _ _ _ _ _ hx fun b hb'=>?_
  have h1:=hX b hb'
  have h3 : some b≠hv.ownBlock:=fun e=>by have:=(own_lt2 h.row e.symm).2; omega
  exact ⟨hG.block b h1.2 h3,by omega,Nat.lt_of_lt_of_le h1.2 hG.size,own b h1.2 h3⟩
structure Org where
 w : World
 y : Nat→Prop
def At0 (o : Org) (f : Nat) (v : Value) (t : T) : Prop:=AtP o.y o.w f v t
def Elems0 (o : Org) (f : Nat) (La : Option Addr) (t : T) : Prop:=∀ i,i<nL t→∃ b oo c0 c1 c2 c3 c4,La=some ⟨b,oo,none⟩∧(b<o.w.heap.size∧o.y b)∧o.w.cell? ⟨b,oo+i * 5,none⟩=some c0∧o.w.cell? ⟨b,oo+i * 5+1,none⟩=some c1∧o.w.cell? ⟨b,oo+i * 5+2,none⟩=some c2∧o.w.cell? ⟨b,oo+i * 5+3,none⟩=some c3∧o.w.cell? ⟨b,oo+i * 5+4,none⟩=some c4∧AtP o.y o.w f (.agg #[c0,c1,c2,c3,c4]) (elt t i)
theorem At0.open {o : Org} {f : Nat} {v : Value} {t : T} (h : At0 o f v t) : ∃ (g : Nat) (La Ka : Option Addr) (Lc Kc : Nat),f=g+1 ∧
   v=.agg #[.int .i64 (kindOf t),.int .i64 (nOf t),.string (sOf t),.slice La (nL t) Lc,.slice Ka (nK t) Kc]∧Fits t∧Hid (Elems0 o g La t)∧Hid (NamesAt o.w Ka t):=by
 cases f with
 | zero=>exact h.elim
 | succ f =>
  obtain ⟨La,Ka,Lc,Kc,rfl,hf,hl,hk⟩:=h
  refine ⟨f,La,Ka,Lc,Kc,rfl,rfl,hf,hl,fun i hi=>?_⟩
  obtain ⟨b,oo,h0,⟨h1,_⟩,h2,h3⟩:=hk i hi
  exact ⟨b,oo,h0,h1,h2,h3⟩
theorem Elems0.shape {o : Org} {w' : World} (h : Below o.w.heap.size o.w w') {f : Nat} {La : Option Addr} {t : T} (hl : Elems0 o f La t) (i : Nat) (hi : i<nL t) :
  ∃ b oo A B C D,La=some ⟨b,oo,none⟩∧b<o.w.heap.size∧w'.cell? ⟨b,oo+i * 5,none⟩=some (.int .i64 (kindOf (elt t i)))∧w'.cell? ⟨b,oo+i * 5+1,none⟩=some (.int .i64 (nOf (elt t i)))∧w'.cell? ⟨b,oo+i * 5+2,none⟩=some (.string (sOf (elt t i)))∧w'.cell? ⟨b,oo+i * 5+3,none⟩=some (.slice A (nL (elt t i)) B)∧w'.cell? ⟨b,oo+i * 5+4,none⟩=some (.slice C (nK (elt t i)) D) ∧
   Hid (At0 o f (.agg #[.int .i64 (kindOf (elt t i)),.int .i64 (nOf (elt t i)),.string (sOf (elt t i)),.slice A (nL (elt t i)) B,.slice C (nK (elt t i)) D]) (elt t i)):=by
 obtain ⟨b,oo,c0,c1,c2,c3,c4,h0,⟨hb,_⟩,q0,q1,q2,q3,q4,ha⟩:=hl i hi
 obtain ⟨g,A,C,B,D,_,hv,_⟩:=(show At0 o f _ _ from ha).open
 simp only [Value.agg.injEq,Array.mk.injEq,List.cons.injEq,and_true] at hv
 obtain ⟨rfl,rfl,rfl,rfl,rfl⟩:=hv
 exact ⟨b,oo,A,B,C,D,h0,hb,(h.cell (p:=⟨b,_,none⟩) hb).trans q0,(h.cell (p:=⟨b,_,none⟩) hb).trans q1,(h.cell (p:=⟨b,_,none⟩) hb).trans q2,(h.cell (p:=⟨b,_,none⟩) hb).trans q3,(h.cell (p:=⟨b,_,none⟩) hb).trans q4,ha⟩
def RowB (w : World) (X : Nat→Prop) (R : R7) (v : Value) (ps : List (ByteArray×T)) : Prop :=
 ∃ (A : Option Addr) (c : Nat),v=.slice A ps.length c∧ps.length≤1000000000∧∀ i,(h : i<ps.length)→∃ b o c0 c1 c2 c3 c4 c5 c6,A=some ⟨b,o,none⟩∧X b∧w.cell? ⟨b,o+i * 7,none⟩=some c0∧w.cell? ⟨b,o+i * 7+1,none⟩=some c1∧w.cell? ⟨b,o+i * 7+2,none⟩=some c2∧w.cell? ⟨b,o+i * 7+3,none⟩=some c3∧w.cell? ⟨b,o+i * 7+4,none⟩=some c4∧w.cell? ⟨b,o+i * 7+5,none⟩=some c5∧w.cell? ⟨b,o+i * 7+6,none⟩=some c6∧R c0 c1 c2 c3 c4 c5 c6 ps[i]
def TestB (w0 : Org) (w : World) (X : Nat → Prop) : Nat → R7
  | 0 => fun _ _ _ _ _ _ _ _ => False
  | m + 1 => fun c0 c1 c2 c3 c4 c5 c6 p => c0 = .string p.1 ∧ p.1.size ≤ 140737488355328 ∧
      ((isInn p.1 ∧ c1 = .int .i64 0 ∧ c2 = .int .i64 0 ∧ c3 = .string ⟨#[]⟩ ∧ c4 = .slice none 0 0 ∧ c5 = .slice none 0 0 ∧ RowB w X (TestB w0 w X m) c6 (prs p.2)) ∨
       (¬ isInn p.1 ∧ c6 = .slice none 0 0 ∧ ∃ g A B C D, g ≤ 16 ∧ c1 = .int .i64 (kindOf p.2) ∧ c2 = .int .i64 (nOf p.2) ∧ c3 = .string (sOf p.2) ∧ c4 = .slice A (nL p.2) B ∧ c5 = .slice C (nK p.2) D ∧ At0 w0 g (.agg #[.int .i64 (kindOf p.2), .int .i64 (nOf p.2), .string (sOf p.2), .slice A (nL p.2) B, .slice C (nK p.2) D]) p.2 ∧ okA p.2))
theorem RowB.move {w w' : World} {X X' : Nat→Prop} {R R' : R7} {v : Value} {ps : List (ByteArray×T)} (h : RowB w X R v ps) (hb : ∀ b,X b→w'.heap[b]?=w.heap[b]?∧X' b) (hR : ∀ c0 c1 c2 c3 c4 c5 c6 p,R c0 c1 c2 c3 c4 c5 c6 p→R' c0 c1 c2 c3 c4 c5 c6 p) : RowB w' X' R' v ps:=by
 obtain ⟨A,c,hv,hn,h⟩:=h
 refine ⟨A,c,hv,hn,fun i hi=>?_⟩
 obtain ⟨b,o,c0,c1,c2,c3,c4,c5,c6,h0,hl,q0,q1,q2,q3,q4,q5,q6,hr⟩:=h i hi
 obtain ⟨h1,h2⟩:=hb b hl
 exact ⟨b,o,c0,c1,c2,c3,c4,c5,c6,h0,h2,(cell_of h1 _).trans q0,(cell_of h1 _).trans q1,(cell_of h1 _).trans q2,(cell_of h1 _).trans q3,(cell_of h1 _).trans q4,(cell_of h1 _).trans q5,(cell_of h1 _).trans q6,hR _ _ _ _ _ _ _ _ hr⟩
theorem TestB.move {w0 : Org} {w w' : World} {X X' : Nat→Prop} (hb : ∀ b,X b→w'.heap[b]?=w.heap[b]?∧X' b) : ∀ (m : Nat) (c0 c1 c2 c3 c4 c5 c6 : Value) (p : ByteArray×T),TestB w0 w X m c0 c1 c2 c3 c4 c5 c6 p→TestB w0 w' X' m c0 c1 c2 c3 c4 c5 c6 p
 | 0,_,_,_,_,_,_,_,_,h=>h
 | m+1,c0,c1,c2,c3,c4,c5,c6,p,h=>by
  obtain ⟨h0,h1,⟨hi,z1,z2,z3,z4,z5,hr⟩ | h2⟩:=h
  ·exact ⟨h0,h1,.inl ⟨hi,z1,z2,z3,z4,z5,hr.move hb (TestB.move hb m)⟩⟩
  ·exact ⟨h0,h1,.inr h2⟩
theorem RowB.at {w : World} {X : Nat→Prop} {R R' : R7} {v : Value} {ps : List (ByteArray×T)} (h : RowB w X R v ps) (hX : ∀ b,X b→b<w.heap.size) (hR : ∀ c0 c1 c2 c3 c4 c5 c6 p,R c0 c1 c2 c3 c4 c5 c6 p→R' c0 c1 c2 c3 c4 c5 c6 p) : RowT w R' v ps:=by
 obtain ⟨A,c,hv,hn,h⟩:=h
 refine ⟨A,c,hv,hn,fun i hi=>?_⟩
 obtain ⟨b,o,c0,c1,c2,c3,c4,c5,c6,h0,hl,q0,q1,q2,q3,q4,q5,q6,hr⟩:=h i hi
 exact ⟨b,o,c0,c1,c2,c3,c4,c5,c6,h0,hX b hl,q0,q1,q2,q3,q4,q5,q6,hR _ _ _ _ _ _ _ _ hr⟩
theorem TestB.at {w0 : Org} {w : World} {X : Nat→Prop} (hX : ∀ b,X b→b<w.heap.size) (hb : ∀ f v t,At0 w0 f v t→At w f v t) : ∀ (m : Nat) (c0 c1 c2 c3 c4 c5 c6 : Value) (p : ByteArray×T),TestB w0 w X m c0 c1 c2 c3 c4 c5 c6 p→TestAt w m c0 c1 c2 c3 c4 c5 c6 p
 | 0,_,_,_,_,_,_,_,_,h=>h
 | m+1,c0,c1,c2,c3,c4,c5,c6,p,h=>by
  obtain ⟨h0,h1,⟨hi,z1,z2,z3,z4,z5,hr⟩ | ⟨hi,z6,g,A,B,C,D,hg,z1,z2,z3,z4,z5,ha,hk⟩⟩:=h
  ·exact ⟨h0,h1,.inl ⟨hi,z1,z2,z3,z4,z5,hr.at hX (TestB.at hX hb m)⟩⟩
  ·exact ⟨h0,h1,.inr ⟨hi,z6,g,A,B,C,D,hg,z1,z2,z3,z4,z5,hb _ _ _ ha,hk⟩⟩
def TestE (w0 : Org) (m : Nat) (w : World) (X : Nat→Prop) (cs : List Value) (p : ByteArray×T) : Prop:=∃ c0 c1 c2 c3 c4 c5 c6,cs=[c0,c1,c2,c3,c4,c5,c6]∧TestB w0 w X m c0 c1 c2 c3 c4 c5 c6 p
theorem testE_moves (w0 : Org) (m : Nat) : Moves (TestE w0 m):=fun _ _ _ _ _ _ h hb=>by
 obtain ⟨c0,c1,c2,c3,c4,c5,c6,hc,h⟩:=h
 exact ⟨c0,c1,c2,c3,c4,c5,c6,hc,TestB.move hb m _ _ _ _ _ _ _ _ h⟩
end Go.Proofs.YtknakfpciccoaabGreatDoor
