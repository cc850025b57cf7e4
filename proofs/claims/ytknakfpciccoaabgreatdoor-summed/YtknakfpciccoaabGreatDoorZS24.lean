import Derived.Test.YtknakfpciccoaabGreatDoorZS23
import Derived.Test.YtknakfpciccoaabGreatDoorZS18
import Derived.Test.YtknakfpciccoaabGreatDoorZS13
/- A collection's row; insert. -/
namespace Go.Proofs.YtknakfpciccoaabGreatDoor
open Go.RowKit
structure Col (w : World) (c f : Nat) (l : List T) (v : Value) (xs : List Value) : Prop where
 cell : w.cell? ⟨c,0,none⟩=some v
 free : w.frozen? ⟨c,0,none⟩=false
 low : c<w.heap.size
 row : w.ownsRow 0 36 5 v l.length xs
 apart : v.ownBlock≠some c
 at_ : ∀ i,(h : i<l.length)→At w f (fv xs i) l[i]
theorem Col.elems {w : World} {c f : Nat} {l : List T} {v : Value} {xs : List Value} (h : Col w c f l v xs) : ∃ La Lc,v=.slice La l.length Lc∧ElemsAt w f La (mkT 5 0 ByteArray.empty l []):=by
 have hx : xs.length=l.length * 5:=h.row.1
 rcases h.row.2 with ⟨rfl,hn⟩ | ⟨g,cap,cur,rfl,hb0,hg,rest⟩
 ·refine ⟨none,0,by rw [hn],fun i hi=>?_⟩
  rw [nL_mk] at hi
  omega
 ·refine ⟨_,_,rfl,fun i hi=>?_⟩
  rw [nL_mk] at hi
  have hc : ∀ j,j<5→w.cell? ⟨g,i * 5+j,none⟩=some (cx xs (i * 5+j)):=fun j hj=>row_cell h.row (cx_some (by omega))
  have e : elt (mkT 5 0 ByteArray.empty l []) i=l[i]:=by rw [elt_mk,List.getD_eq_getElem?_getD,List.getElem?_eq_getElem hi]; rfl
  refine ⟨g,0,cx xs (i * 5),cx xs (i * 5+1),cx xs (i * 5+2),cx xs (i * 5+3),cx xs (i * 5+4),rfl,(Array.getElem?_eq_some_iff.1 hg).1,(by rw [Nat.zero_add]; exact hc 0 (by omega)),(by rw [Nat.zero_add]; exact hc 1 (by omega)),(by rw [Nat.zero_add]; exact hc 2 (by omega)),(by rw [Nat.zero_add]; exact hc 3 (by omega)),(by rw [Nat.zero_add]; exact hc 4 (by omega)),?_⟩
  rw [e]
  exact h.at_ i hi
theorem Col.keep {w w' : World} {c f : Nat} {l : List T} {v : Value} {xs : List Value} (h : Col w c f l v xs) (hb : Below w.heap.size w w') : Col w' c f l v xs :=
 ⟨(hb.cell (p:=⟨c,0,none⟩) h.low).trans h.cell,(hb.frozen (p:=⟨c,0,none⟩) h.low).trans h.free,Nat.lt_of_lt_of_le h.low hb.size,rowH_move h.row fun b _ h2=>hb.block b h2,h.apart,fun i hi=>At.keep hb (h.at_ i hi)⟩
structure But2 (c : Nat) (g : Option Nat) (w w' : World) : Prop where
 os : w'.os=w.os
 tape : w'.tape=w.tape
 output : w'.output=w.output
 size : w.heap.size≤w'.heap.size
 block : ∀ b,b<w.heap.size→b≠c→some b≠g→w'.heap[b]?=w.heap[b]?
theorem new_cell {w : World} {g n cap : Nat} {xs news : List Value} {base : Nat} {e : TypeId} (h : w.ownsRow base e 5 (.slice (some ⟨g,0,none⟩) (n+1) cap) (n+1) (xs ++ news)) (hx : xs.length=n * 5) (j : Nat) {u : Value} (hj : j<5) (hu : news[j]?=some u) : w.cell? ⟨g,n * 5+j,none⟩=some u:=by
 rw [h.cellAt _ (by omega),List.getElem?_append_right (by omega),hx,Nat.add_sub_cancel_left]
 exact hu
def put5o (w : World) (g o : Nat) (u0 u1 u2 u3 u4 : Value) : World:=((((w.setCell ⟨g,o,none⟩ u0).setCell ⟨g,o+1,none⟩ u1).setCell ⟨g,o+2,none⟩ u2).setCell ⟨g,o+3,none⟩ u3).setCell ⟨g,o+4,none⟩ u4
theorem put5o_other (w : World) {g b' : Nat} (h : b'≠g) (o : Nat) (u0 u1 u2 u3 u4 : Value) : (put5o w g o u0 u1 u2 u3 u4).heap[b']?=w.heap[b']?:=by
 have hset : ∀ (w1 : World) (o : Nat) (u : Value),(w1.setCell ⟨g,o,none⟩ u).heap[b']?=w1.heap[b']?:=fun w1 o u=>Below.heap_setCell _ _ _ _ (by simpa using h)
 unfold put5o
 rw [hset,hset,hset,hset,hset]
theorem put5o_rest (w : World) (g o : Nat) (u0 u1 u2 u3 u4 : Value) : (put5o w g o u0 u1 u2 u3 u4).heap.size=w.heap.size∧(put5o w g o u0 u1 u2 u3 u4).os=w.os∧(put5o w g o u0 u1 u2 u3 u4).tape=w.tape∧(put5o w g o u0 u1 u2 u3 u4).output=w.output:=by
 unfold put5o
 simp [World.setCell]
theorem setC_rest (w : World) (a : Addr) (u : Value) : (w.setCell a u).heap.size=w.heap.size∧(w.setCell a u).os=w.os∧(w.setCell a u).tape=w.tape∧(w.setCell a u).output=w.output:=by
 simp [World.setCell]
theorem row_put5o {w : World} {base g n cap : Nat} {e : TypeId} {xs : List Value} {y0 y1 y2 y3 y4 : Value} (h : w.ownsRow base e 5 (.slice (some ⟨g,0,none⟩) (n+1) cap) (n+1) (xs ++ [y0,y1,y2,y3,y4])) (hx : xs.length=n * 5) (u0 u1 u2 u3 u4 : Value) :
  (put5o w g (n * 5) u0 u1 u2 u3 u4).ownsRow base e 5 (.slice (some ⟨g,0,none⟩) (n+1) cap) (n+1) (xs ++ [u0,u1,u2,u3,u4]):=by
 have h1:=(((((h.stored (n * 5) u0).1.stored (n * 5+1) u1).1.stored (n * 5+2) u2).1.stored (n * 5+3) u3).1.stored (n * 5+4) u4).1
 have e : ((((((xs ++ [y0,y1,y2,y3,y4]).set (n * 5) u0).set (n * 5+1) u1).set (n * 5+2) u2).set (n * 5+3) u3).set (n * 5+4) u4)=xs ++ [u0,u1,u2,u3,u4]:=by
  rw [← hx]
  simp
 rw [e] at h1
 exact h1
structure InsF (w W4 w6 : World) (c g n cap : Nat) (v : Value) (xs : List Value) : Prop where
 lt : xs.length=n * 5
 own : w6.ownsRow 0 36 5 (.slice (some ⟨g,0,none⟩) (n+1) cap) (n+1) (xs ++ [.int .i64 0,.int .i64 0,.string ⟨#[]⟩,.slice none 0 0,.slice none 0 0])
 grown : W4.grownBy w6 v.ownBlock
 low : Below w.heap.size w W4
 hat : v.ownBlock=some g∨w.heap.size≤g
 c6 : w6.cell? ⟨c,0,none⟩=some v
 f6 : w6.frozen? ⟨c,0,none⟩=false
 gc : g≠c
 apart : v.ownBlock≠some c
theorem InsF.block {w W4 w6 : World} {c g n cap : Nat} {v : Value} {xs : List Value} (h : InsF w W4 w6 c g n cap v xs) (b : Nat) (hb : b<w.heap.size) (hv : some b≠v.ownBlock) : w6.heap[b]?=w.heap[b]?∧b≠g :=
 ⟨(h.grown.block b (Nat.lt_of_lt_of_le hb h.low.size) hv).trans (h.low.block b hb),fun e=>by subst e; rcases h.hat with h1 | h1; exact hv h1.symm; omega⟩
theorem InsF.finA {w W4 w6 : World} {c g n cap : Nat} {v : Value} {xs : List Value} (h : InsF w W4 w6 c g n cap v xs) (u0 u1 u2 u3 u4 : Value) :
  But2 c v.ownBlock w ((put5o w6 g (n * 5) u0 u1 u2 u3 u4).setCell ⟨c,0,none⟩ (.slice (some ⟨g,0,none⟩) (n+1) cap))∧((put5o w6 g (n * 5) u0 u1 u2 u3 u4).setCell ⟨c,0,none⟩ (.slice (some ⟨g,0,none⟩) (n+1) cap)).cell? ⟨c,0,none⟩=some (.slice (some ⟨g,0,none⟩) (n+1) cap)∧((put5o w6 g (n * 5) u0 u1 u2 u3 u4).setCell ⟨c,0,none⟩ (.slice (some ⟨g,0,none⟩) (n+1) cap)).frozen? ⟨c,0,none⟩=false∧(v.ownBlock=some g∨w.heap.size≤g)∧((put5o w6 g (n * 5) u0 u1 u2 u3 u4).setCell ⟨c,0,none⟩ (.slice (some ⟨g,0,none⟩) (n+1) cap)).ownsRow 0 36 5 (.slice (some ⟨g,0,none⟩) (n+1) cap) (n+1) (xs ++ [u0,u1,u2,u3,u4]):=by
 obtain ⟨r1,r2,r3,r4⟩:=put5o_rest w6 g (n * 5) u0 u1 u2 u3 u4
 have hcb:=put5o_other w6 (Ne.symm h.gc) (n * 5) u0 u1 u2 u3 u4
 have hoth : ∀ b,b≠g→(put5o w6 g (n * 5) u0 u1 u2 u3 u4).heap[b]?=w6.heap[b]?:=fun b hb=>put5o_other w6 hb _ _ _ _ _ _
 have hrow:=row_put5o h.own h.lt u0 u1 u2 u3 u4
 generalize put5o w6 g (n * 5) u0 u1 u2 u3 u4=w7 at r1 r2 r3 r4 hcb hrow hoth ⊢
 obtain ⟨t1,t2,t3,t4⟩:=setC_rest w7 ⟨c,0,none⟩ (.slice (some ⟨g,0,none⟩) (n+1) cap)
 have h3:=h.grown.size
 have h4:=h.low.size
 have k1:=World.cell?_setCell_same w7 ⟨c,0,none⟩ (.slice (some ⟨g,0,none⟩) (n+1) cap) ((cell_of hcb 0).trans h.c6)
 have k2 : (w7.setCell ⟨c,0,none⟩ (.slice (some ⟨g,0,none⟩) (n+1) cap)).frozen? ⟨c,0,none⟩=false:=by
  rw [World.frozen?_setCell]
  exact (World.frozen?_of_block (a:=⟨c,0,none⟩) hcb).trans h.f6
 have k3:=ownsRow_setCell_other (a:=⟨c,0,none⟩) hrow (by simpa [Value.ownBlock] using h.gc) (.slice (some ⟨g,0,none⟩) (n+1) cap)
 have k4 : ∀ b,b≠c→(w7.setCell ⟨c,0,none⟩ (.slice (some ⟨g,0,none⟩) (n+1) cap)).heap[b]?=w7.heap[b]?:=fun b hb=>Below.heap_setCell _ _ _ _ (by simpa using hb)
 generalize w7.setCell ⟨c,0,none⟩ (.slice (some ⟨g,0,none⟩) (n+1) cap)=w8 at *
 refine ⟨⟨t2.trans (r2.trans (h.grown.os.trans h.low.os)),t3.trans (r3.trans (h.grown.tape.trans h.low.tape)),t4.trans (r4.trans (h.grown.output.trans h.low.output)),by omega,fun b hb h1 h2=>?_⟩,k1,k2,h.hat,k3⟩
 obtain ⟨h5,h6⟩:=h.block b hb h2
 exact (k4 b h1).trans ((hoth b h6).trans h5)
theorem InsF.finB {w W4 w6 : World} {c g n cap : Nat} {v : Value} {xs : List Value} (h : InsF w W4 w6 c g n cap v xs) (u0 u1 u2 u3 u4 : Value) :
  But2 c v.ownBlock w (put5o (w6.setCell ⟨c,0,none⟩ (.slice (some ⟨g,0,none⟩) (n+1) cap)) g (n * 5) u0 u1 u2 u3 u4)∧(put5o (w6.setCell ⟨c,0,none⟩ (.slice (some ⟨g,0,none⟩) (n+1) cap)) g (n * 5) u0 u1 u2 u3 u4).cell? ⟨c,0,none⟩=some (.slice (some ⟨g,0,none⟩) (n+1) cap)∧(put5o (w6.setCell ⟨c,0,none⟩ (.slice (some ⟨g,0,none⟩) (n+1) cap)) g (n * 5) u0 u1 u2 u3 u4).frozen? ⟨c,0,none⟩=false∧(v.ownBlock=some g∨w.heap.size≤g)∧(put5o (w6.setCell ⟨c,0,none⟩ (.slice (some ⟨g,0,none⟩) (n+1) cap)) g (n * 5) u0 u1 u2 u3 u4).ownsRow 0 36 5 (.slice (some ⟨g,0,none⟩) (n+1) cap) (n+1) (xs ++ [u0,u1,u2,u3,u4]):=by
 obtain ⟨t1,t2,t3,t4⟩:=setC_rest w6 ⟨c,0,none⟩ (.slice (some ⟨g,0,none⟩) (n+1) cap)
 have h3:=h.grown.size
 have h4:=h.low.size
 have k1:=World.cell?_setCell_same w6 ⟨c,0,none⟩ (.slice (some ⟨g,0,none⟩) (n+1) cap) h.c6
 have k2 : (w6.setCell ⟨c,0,none⟩ (.slice (some ⟨g,0,none⟩) (n+1) cap)).frozen? ⟨c,0,none⟩=false:=by
  rw [World.frozen?_setCell]
  exact h.f6
 have k3:=ownsRow_setCell_other (a:=⟨c,0,none⟩) h.own (by simpa [Value.ownBlock] using h.gc) (.slice (some ⟨g,0,none⟩) (n+1) cap)
 have k4 : ∀ b,b≠c→(w6.setCell ⟨c,0,none⟩ (.slice (some ⟨g,0,none⟩) (n+1) cap)).heap[b]?=w6.heap[b]?:=fun b hb=>Below.heap_setCell _ _ _ _ (by simpa using hb)
 generalize w6.setCell ⟨c,0,none⟩ (.slice (some ⟨g,0,none⟩) (n+1) cap)=w7 at *
 obtain ⟨r1,r2,r3,r4⟩:=put5o_rest w7 g (n * 5) u0 u1 u2 u3 u4
 have hcb:=put5o_other w7 (Ne.symm h.gc) (n * 5) u0 u1 u2 u3 u4
 have hoth : ∀ b,b≠g→(put5o w7 g (n * 5) u0 u1 u2 u3 u4).heap[b]?=w7.heap[b]?:=fun b hb=>put5o_other w7 hb _ _ _ _ _ _
 have hrow:=row_put5o k3 h.lt u0 u1 u2 u3 u4
 generalize put5o w7 g (n * 5) u0 u1 u2 u3 u4=w8 at *
 refine ⟨⟨r2.trans (t2.trans (h.grown.os.trans h.low.os)),r3.trans (t3.trans (h.grown.tape.trans h.low.tape)),r4.trans (t4.trans (h.grown.output.trans h.low.output)),by omega,fun b hb h1 h2=>?_⟩,(cell_of hcb 0).trans k1,(World.frozen?_of_block (a:=⟨c,0,none⟩) hcb).trans k2,h.hat,hrow⟩
 obtain ⟨h5,h6⟩:=h.block b hb h2
 exact (hoth b h6).trans ((k4 b h1).trans h5)
def InsPost (w : World) (c : Nat) (t : T) (l : List T) (v : Value) (xs cs : List Value) (e : Ending) (w' : World) : Prop :=
 (Below w.heap.size w w'∧anyL (sameId (idT t)) (mkT 5 0 ByteArray.empty l []) l.length=true∧e=.returned (.int .i64 11)) ∨
 (Below w.heap.size w w'∧anyL (sameId (idT t)) (mkT 5 0 ByteArray.empty l []) l.length=false∧60≤l.length∧e=.returned (.int .i64 12)) ∨
 (But2 c v.ownBlock w w'∧anyL (sameId (idT t)) (mkT 5 0 ByteArray.empty l []) l.length=false∧l.length<60∧e=.returned (.int .i64 0)∧∃ g cap,w'.cell? ⟨c,0,none⟩=some (.slice (some ⟨g,0,none⟩) (l.length+1) cap)∧w'.frozen? ⟨c,0,none⟩=false∧(v.ownBlock=some g∨w.heap.size≤g)∧w'.ownsRow 0 36 5 (.slice (some ⟨g,0,none⟩) (l.length+1) cap) (l.length+1) (xs ++ cs))
end Go.Proofs.YtknakfpciccoaabGreatDoor
/- The walk of emit: a document that is made. -/
namespace Go.Proofs.YtknakfpciccoaabGreatDoor
open Go.RowKit
structure Mk (w : World) (c : Nat) (v : Value) (n : Nat) (xs : List Value) : Prop where
 cell : w.cell? ⟨c,0,none⟩=some v
 free : w.frozen? ⟨c,0,none⟩=false
 low : c<w.heap.size
 row : w.ownsRow 0 36 5 v n xs
 apart : v.ownBlock≠some c
theorem Mk.keep {w w' : World} {c n : Nat} {v : Value} {xs : List Value} (h : Mk w c v n xs) (hb : Below w.heap.size w w') : Mk w' c v n xs :=
 ⟨(hb.cell (p:=⟨c,0,none⟩) h.low).trans h.cell,(World.frozen?_of_block (a:=⟨c,0,none⟩) (hb.block c h.low)).trans h.free,Nat.lt_of_lt_of_le h.low hb.size,rowH_move h.row fun b _ h2=>hb.block b h2,h.apart⟩
def EmPost (w : World) (c : Nat) (t : T) (v : Value) (n : Nat) (xs cs : List Value) (e : Ending) (w' : World) : Prop :=
 (Below w.heap.size w w'∧tooBig t=true∧e=.returned (.int .i64 15)) ∨
 (But2 c v.ownBlock w w'∧tooBig t=false∧e=.returned (.int .i64 0)∧(∀ o,o≠0→w'.cell? ⟨c,o,none⟩=w.cell? ⟨c,o,none⟩)∧∃ g cap,w'.cell? ⟨c,0,none⟩=some (.slice (some ⟨g,0,none⟩) (n+1) cap)∧w'.frozen? ⟨c,0,none⟩=false∧(v.ownBlock=some g∨w.heap.size≤g)∧w'.ownsRow 0 36 5 (.slice (some ⟨g,0,none⟩) (n+1) cap) (n+1) (xs ++ cs))
theorem InsF.offA {w W4 w6 : World} {c g n cap : Nat} {v : Value} {xs : List Value} (h : InsF w W4 w6 c g n cap v xs) (hc : c<w.heap.size) (u0 u1 u2 u3 u4 : Value) (o : Nat) (ho : o≠0) :
  ((put5o w6 g (n * 5) u0 u1 u2 u3 u4).setCell ⟨c,0,none⟩ (.slice (some ⟨g,0,none⟩) (n+1) cap)).cell? ⟨c,o,none⟩=w.cell? ⟨c,o,none⟩:=by
 obtain ⟨h1,h2⟩:=h.block c hc (fun e=>h.apart e.symm)
 rw [World.cell?_setCell_other _ _ _ _ (by simp)]
 exact cell_of ((put5o_other w6 h2 (n * 5) u0 u1 u2 u3 u4).trans h1) o
theorem InsF.offB {w W4 w6 : World} {c g n cap : Nat} {v : Value} {xs : List Value} (h : InsF w W4 w6 c g n cap v xs) (hc : c<w.heap.size) (u0 u1 u2 u3 u4 : Value) (o : Nat) (ho : o≠0) :
  (put5o (w6.setCell ⟨c,0,none⟩ (.slice (some ⟨g,0,none⟩) (n+1) cap)) g (n * 5) u0 u1 u2 u3 u4).cell? ⟨c,o,none⟩=w.cell? ⟨c,o,none⟩:=by
 obtain ⟨h1,h2⟩:=h.block c hc (fun e=>h.apart e.symm)
 rw [cell_of (put5o_other _ h2 (n * 5) u0 u1 u2 u3 u4) o,World.cell?_setCell_other _ _ _ _ (by simp)]
 exact cell_of h1 o
set_option maxHeartbeats 4000000 in
set_option maxRecDepth 100000 in
theorem emit_any {Tb : World→Prop} (hV : ValidSaid Tb) (hL : Lies Tb) (c f : Nat) (t : T) (v : Value) (n : Nat) (xs : List Value) (A C : Option Addr) (B D : Nat) (w : World) (h : Mk w c v n xs) (hn : n≤1000000) (ha : At w f (.agg #[.int .i64 (kindOf t),.int .i64 (nOf t),.string (sOf t),.slice A (nL t) B,.slice C (nK t) D]) t) (hT : Tb w) :
  Calls Tryz.prog 227 #[.pointer (some ⟨c,0,none⟩),.agg #[.int .i64 (kindOf t),.int .i64 (nOf t),.string (sOf t),.slice A (nL t) B,.slice C (nK t) D]] w (EmPost w c t v n xs [.int .i64 (kindOf t),.int .i64 (nOf t),.string (sOf t),.slice A (nL t) B,.slice C (nK t) D]):=by
 obtain ⟨iV,hiV,zV0,zV1,zV2⟩:=info_parts infoV
 have HB1 : Hid (Below w.heap.size w (w.alloc (.cells #[.int .i64 (kindOf t),.int .i64 (nOf t),.string (sOf t),.slice A (nL t) B,.slice C (nK t) D] 36))):=(Below.refl _ _).alloc (Nat.le_refl _) _
 have HBx:=hid (box_new w (.int .i64 (kindOf t)) (.int .i64 (nOf t)) (.string (sOf t)) (.slice A (nL t) B) (.slice C (nK t) D))
 have HTb:=hid (tooBig_any hV hL f _ t _ (ha.keep HB1.out) (hL w hT _ _ hT HB1.out))
 have HM:=hid h
 have Hcl:=hid h.low
 clear h ha hT hV hL
 cases hb : tooBig t with
 | true =>
  rw [hb] at HTb
  have Hb:=hid hb
  clear hb
  go_enter Tryz.func227,Tryz.ntmps227
  go_wp2_with fail
  refine HTb.out.mono ?_
  rintro e w2 ⟨rfl,b2⟩
  have HB2:=hid (HB1.out.trans (b2.mono HB1.out.size))
  clear b2 HTb
  go_wp2_with fail
  go_ret
  exact .inl ⟨HB2.out,Hb.out,rfl⟩
 | false =>
  rw [hb] at HTb
  have Hb:=hid hb
  clear hb
  go_enter Tryz.func227,Tryz.ntmps227
  go_wp2_with fail
  refine HTb.out.mono ?_
  rintro e w2 ⟨rfl,b2⟩
  have HB2:=hid (HB1.out.trans (b2.mono HB1.out.size))
  have HX2:=hid (HBx.out.stay b2)
  have HM2:=hid (HM.out.keep HB2.out)
  obtain ⟨La,Lc,rfl⟩:=own_shape HM2.out.row
  clear b2 HTb HBx HB1 HM
  have HA3 : Hid (Below w2.heap.size w2 (w2.alloc (.cells #[.int .i64 0,.int .i64 0,.string ⟨#[]⟩,.slice none 0 0,.slice none 0 0] 36))):=(Below.refl _ _).alloc (Nat.le_refl _) _
  have HM3:=hid (HM2.out.keep HA3.out)
  have HX3:=hid (HX2.out.stay HA3.out)
  have HM4:=hid (HM3.out.keep (below_drew _))
  have HX4:=hid (HX3.out.stay (below_drew _))
  have hc0:=HM2.out.cell
  have hc0a:=HM3.out.cell
  have hnn : (n : Int)<(n : Int)+1:=by omega
  have HXl : Hid (xs.length=n * 5):=HM2.out.row.1
  have HGc : Hid (∀ g,((Value.slice La n Lc).ownBlock=some g∨g=w2.heap.size+1)→g≠c):=fun g hg e=>by
   subst e
   rcases hg with hg | hg
   ·exact HM2.out.apart hg
   ·have:=HM2.out.low; omega
  have r0:=HX2.out.q0
  have r1:=HX2.out.q1
  have r2:=HX2.out.q2
  have r3:=HX2.out.q3
  have r4:=HX2.out.q4
  have ra0:=HX3.out.q0
  have ra1:=HX3.out.q1
  have ra2:=HX3.out.q2
  have ra3:=HX3.out.q3
  have ra4:=HX3.out.q4
  go_wp2_with fail
  go_region_law (refine step_append_lies _ (by rfl) _ _ _ (by rfl) 0 36 iV _ 5 80 Tryz.underlying34 hiV zV0 zV1 zV2 rfl (by omega) (.slice La n Lc) n xs (by rfl) HM4.out.row ⟨w2.heap.size,0,none⟩ 1 1 [.int .i64 0,.int .i64 0,.string ⟨#[]⟩,.slice none 0 0,.slice none 0 0] (by rfl) (by rfl) (World.news_of_block (cs:=#[.int .i64 0,.int .i64 0,.string ⟨#[]⟩,.slice none 0 0,.slice none 0 0]) (t:=36) (fr:=(0,0)) (heap_alloc_new w2 _)) (by simp [Value.oneCell']) (by omega) (by unfold maxLen; omega) (by omega) (Nat.zero_le _) (w2.heap.size+1) (by simp) ?_; intro g cap w6 hown6 hgrow6 hat6 hlt6; have hgc : g≠c:=HGc.out g hat6; have hcg : c≠g:=fun e=>hgc e.symm; have HB6:=hid (hgrow6.block c HM4.out.low (fun e=>HM4.out.apart e.symm)); have c6:=(cell_of HB6.out 0).trans HM4.out.cell; have f6:=(World.frozen?_of_block (a:=⟨c,0,none⟩) HB6.out).trans HM4.out.free; have y0 : w6.cell? ⟨g,n * 5,none⟩=some (.int .i64 0):=new_cell hown6 HXl.out 0 (by omega) rfl; have z0 : w6.frozen? ⟨g,n * 5,none⟩=false:=hown6.frozenAt _; have y1 : w6.cell? ⟨g,n * 5+1,none⟩=some (.int .i64 0):=new_cell hown6 HXl.out 1 (by omega) rfl; have z1 : w6.frozen? ⟨g,n * 5+1,none⟩=false:=hown6.frozenAt _; have y2 : w6.cell? ⟨g,n * 5+2,none⟩=some (.string ⟨#[]⟩):=new_cell hown6 HXl.out 2 (by omega) rfl; have z2 : w6.frozen? ⟨g,n * 5+2,none⟩=false:=hown6.frozenAt _; have y3 : w6.cell? ⟨g,n * 5+3,none⟩=some (.slice none 0 0):=new_cell hown6 HXl.out 3 (by omega) rfl; have z3 : w6.frozen? ⟨g,n * 5+3,none⟩=false:=hown6.frozenAt _; have y4 : w6.cell? ⟨g,n * 5+4,none⟩=some (.slice none 0 0):=new_cell hown6 HXl.out 4 (by omega) rfl; have z4 : w6.frozen? ⟨g,n * 5+4,none⟩=false:=hown6.frozenAt _)
  all_goals
   have HF:=hid (InsF.mk (w:=w) (lt:=HM2.out.row.1) hown6 hgrow6 ((HB2.out.trans (HA3.out.mono HB2.out.size)).drew) (hat6.imp id (fun e=>by have:=HB2.out.size; omega)) c6 f6 hgc HM2.out.apart)
   clear hown6 hgrow6 hat6 hlt6 y0 y1 y2 y3 y4 z0 z1 z2 z3 z4 c6 f6 hgc hcg HB6
   go_wp2_with fail
   go_ret
   have HFA:=hid (HF.out.finA (.int .i64 (kindOf t)) (.int .i64 (nOf t)) (.string (sOf t)) (.slice A (nL t) B) (.slice C (nK t) D))
   have HFB:=hid (HF.out.finB (.int .i64 (kindOf t)) (.int .i64 (nOf t)) (.string (sOf t)) (.slice A (nL t) B) (.slice C (nK t) D))
   have HOA:=hid (HF.out.offA Hcl.out (.int .i64 (kindOf t)) (.int .i64 (nOf t)) (.string (sOf t)) (.slice A (nL t) B) (.slice C (nK t) D))
   have HOB:=hid (HF.out.offB Hcl.out (.int .i64 (kindOf t)) (.int .i64 (nOf t)) (.string (sOf t)) (.slice A (nL t) B) (.slice C (nK t) D))
   unfold put5o at HFA HFB HOA HOB
   unfold EmPost
   refine .inr ⟨?_,Hb.out,rfl,?_,g,cap,?_⟩
   ·first | with_reducible exact HFA.out.1 | with_reducible exact HFB.out.1
   ·first | with_reducible exact HOA.out | with_reducible exact HOB.out
   ·first | with_reducible exact HFA.out.2 | with_reducible exact HFB.out.2
end Go.Proofs.YtknakfpciccoaabGreatDoor
/- making.each: a work for each document. -/
namespace Go.Proofs.YtknakfpciccoaabGreatDoor
open Go.RowKit
def eachE {σ : Type} (st : σ→T→Int⊕σ) : List T→Nat→σ→(Nat×Int)⊕σ
 | [],_,s=>.inr s
 | d :: r,k,s=>match st s d with
  | .inl x=>.inl (k,x)
  | .inr s'=>eachE st r (k+1) s'
theorem eachE_err {σ : Type} (st : σ→T→Int⊕σ) : ∀ (l : List T) (d : T) (r : List T) (k : Nat) (s s' : σ) (x : Int),eachE st l k s=.inr s'→st s' d=.inl x→eachE st (l ++ d :: r) k s=.inl (k+l.length,x)
 | [],d,r,k,s,s',x,h,hx=>by
  simp only [eachE,Sum.inr.injEq] at h
  subst h
  simp [eachE,hx]
 | a :: l,d,r,k,s,s',x,h,hx=>by
  simp only [eachE,List.cons_append] at h ⊢
  cases ha : st s a with
  | inl y=>rw [ha] at h; cases h
  | inr u =>
   rw [ha] at h
   have:=eachE_err st l d r (k+1) u s' x h hx
   simp only [this,List.length_cons]
   congr 2
   omega
theorem eachE_snoc {σ : Type} (st : σ→T→Int⊕σ) : ∀ (l : List T) (d : T) (k : Nat) (s s' s2 : σ),eachE st l k s=.inr s'→st s' d=.inr s2→eachE st (l ++ [d]) k s=.inr s2
 | [],d,k,s,s',s2,h,hx=>by
  simp only [eachE,Sum.inr.injEq] at h
  subst h
  simp [eachE,hx]
 | a :: l,d,k,s,s',s2,h,hx=>by
  simp only [eachE,List.cons_append] at h ⊢
  cases ha : st s a with
  | inl y=>rw [ha] at h; cases h
  | inr u =>
   rw [ha] at h
   exact eachE_snoc st l d (k+1) u s' s2 h hx
def DocsAt (w : World) (v : Value) (l : List T) : Prop:=∃ La Lc,v=.slice La l.length Lc∧l.length≤1000000∧l.length≤Lc∧Lc≤9223372036854775807∧ElemsAt w 13 La (mkT 5 0 ByteArray.empty l [])∧∀ i,(h : i<l.length)→okA l[i]
theorem DocsAt.keep {w w' : World} {v : Value} {l : List T} (h : DocsAt w v l) (hb : Below w.heap.size w w') : DocsAt w' v l:=by
 obtain ⟨La,Lc,h1,h2,h3,h4,h5,h6⟩:=h
 exact ⟨La,Lc,h1,h2,h3,h4,h5.keep hb,h6⟩
theorem elt_docs (l : List T) {k : Nat} (h : k<l.length) : elt (mkT 5 0 ByteArray.empty l []) k=l[k]:=by rw [elt_mk,List.getD_eq_getElem?_getD,List.getElem?_eq_getElem h]; rfl
def EaPost {σ : Type} (st : σ→T→Int⊕σ) (s : σ) (I : σ→World→Prop) (c : Nat) (l : List T) (w0 w : World) (e : Ending) (w' : World) : Prop :=
 Below w0.heap.size w w'∧((∃ (k : Nat) (x : Int),eachE st l 0 s=.inl (k,x)∧x≠0∧e=.returned (.tuple #[.slice none 0 0,.int .i64 k,.int .i64 x]))∨∃ s' v,eachE st l 0 s=.inr s'∧I s' w'∧w'.cell? ⟨c,0,none⟩=some v∧e=.returned (.tuple #[v,.int .i64 0,.int .i64 0]))
def WkPost {σ : Type} (st : σ→T→Int⊕σ) (s : σ) (I : σ→World→Prop) (d : T) (w0 w : World) (e : Ending) (w' : World) : Prop :=
 Below w0.heap.size w w'∧((∃ x,st s d=.inl x∧x≠0∧e=.returned (.int .i64 x))∨∃ s',st s d=.inr s'∧e=.returned (.int .i64 0)∧I s' w')
set_option maxHeartbeats 4000000 in
set_option maxRecDepth 100000 in
theorem each_any {σ : Type} (st : σ→T→Int⊕σ) (I : Nat→σ→World→Prop) (gid : FuncId) (hgid : ∀ (a : Array Value) (w : World),(callFunc gid a).run Tryz.prog w=.ok (.enter gid a) w) (pv : Value) (c : Nat) (dv : Value) (l : List T) (s : σ) (w0 w : World) (hb0 : Below w0.heap.size w0 w) (hd : DocsAt w0 dv l) (hI : I 0 s w)
  (hIk : ∀ k s w w',I k s w→Below w.heap.size w w'→I k s w') (hIc : ∀ k s w,I k s w→∃ v,w.cell? ⟨c,0,none⟩=some v)
  (hst : ∀ k s d v wr,k<l.length→I k s wr→Below w0.heap.size w0 wr→At w0 13 v d→okA d→Calls Tryz.prog gid #[pv,v] wr (WkPost st s (I (k+1)) d w0 wr)) :
  Calls Tryz.prog 225 #[.pointer (some ⟨c,0,none⟩),dv,.func (Fn.func gid) #[pv] #[]] w (EaPost st s (I l.length) c l w0 w):=by
 obtain ⟨La,Lc,rfl,hn,_,_,hel,hok⟩:=hd
 have Hel:=hid hel
 have HOk:=hid hok
 have HB0:=hid hb0
 have HI:=hid hI
 have HIk:=hid hIk
 have HIc:=hid hIc
 have HSt:=hid hst
 clear hel hok hb0 hI hIk hIc hst
 obtain ⟨n,hln⟩ : ∃ n,l.length=n:=⟨_,rfl⟩
 have Hln:=hid hln
 rw [hln] at hn ⊢
 clear hln
 go_enter Tryz.func225,Tryz.ntmps225
 go_wp2_with fail
 go_loopg [14] n (fun g i wr=>∃ (k : Nat) (s' : σ),g=n - k∧k≤n∧i=.int .i64 k∧Hid (Below w0.heap.size w wr)∧Hid (I k s' wr)∧Hid (eachE st (l.take k) 0 s=.inr s'))
 case atStart=>exact ⟨0,s,rfl,Nat.zero_le _,rfl,Below.refl _ _,HI,rfl⟩
 case round =>
  obtain ⟨k,s',rfl,hk,rfl,HB,HS,HE⟩:=hrel
  have Hbw0:=hid (HB0.out.trans HB.out)
  by_cases hlt : k<n
  ·have hkl : k<l.length:=by rw [Hln.out]; exact hlt
   obtain ⟨bb,oo,A,B,C,D,rfl,hbl,p0,p1,p2,p3,p4,Ha⟩:=Hel.out.shape Hbw0.out k (by rw [nL_mk]; exact hkl)
   rw [elt_docs l hkl] at p0 p1 p2 p3 p4 Ha
   have HG : Hid (l.take (k+1)=l.take k ++ [l[k]]):=by show _=_; rw [List.take_add_one,List.getElem?_eq_getElem hkl]; rfl
   have HG2 : Hid (l=l.take k ++ l[k] :: l.drop (k+1)):=by show _=_; rw [← List.drop_eq_getElem_cons hkl,List.take_append_drop]
   have HGl : Hid ((l.take k).length=k):=by show _=_; rw [List.length_take]; omega
   have HK:=hid (HOk.out k hkl)
   generalize l[k]=d at p0 p1 p2 p3 p4 Ha HG HG2 HK
   have HBi : Hid (Below wr.heap.size wr (wr.alloc (.cells #[.int .i64 (kindOf d),.int .i64 (nOf d),.string (sOf d),.slice A (nL d) B,.slice C (nK d) D] 36))):=(Below.refl _ _).alloc (Nat.le_refl _) _
   have HB2:=hid (Hbw0.out.trans (HBi.out.mono Hbw0.out.size))
   have HC:=hid (HSt.out k s' d _ _ hkl (HIk.out _ _ _ _ HS.out HBi.out) HB2.out Ha.out HK.out)
   go_wp2_with fail
   refine HC.out.mono ?_
   rintro e w2 ⟨b2,⟨x,hx,hne,rfl⟩ | ⟨s2,hx,rfl,hI2⟩⟩
   ·have ez : (x == 0)=false:=by simpa using hne
    have HF : Hid (eachE st l 0 s=.inl (k,x)∧x≠0):=⟨by have:=eachE_err st _ _ (l.drop (k+1)) 0 s s' x HE.out hx; rw [← HG2.out,HGl.out,Nat.zero_add] at this; exact this,hne⟩
    have HBf:=hid ((HB.out.trans (HBi.out.mono Hbw0.out.size)).trans b2)
    clear b2 hx hne HC
    go_wp2_with fail
    refine bodyPost_ret (v:=.tuple #[.slice none 0 0,.int .i64 (k : Nat),.int .i64 x]) (by simp [results,Tryz.results225,go_sem, *]) rfl ?_
    exact ⟨HBf.out,.inl ⟨k,x,HF.out.1,HF.out.2,rfl⟩⟩
   ·have HE2 : Hid (eachE st (l.take (k+1)) 0 s=.inr s2):=by show _=_; rw [HG.out]; exact eachE_snoc st _ _ 0 s s' s2 HE.out hx
    have HBf:=hid ((HB.out.trans (HBi.out.mono Hbw0.out.size)).trans b2)
    have HI2:=hid hI2
    clear b2 hx HC hI2
    go_wp2_with fail
    go_roundg (n - (k+1))
    case rel=>exact ⟨k+1,s2,rfl,by omega,by go_num,HBf,HI2,HE2⟩
    case measure=>omega
  ·obtain rfl : k=n:=by omega
   have HF : Hid (eachE st l 0 s=.inr s'):=by
    have h1:=HE.out
    rw [← Hln.out,List.take_length] at h1
    exact h1
   obtain ⟨v,hv⟩:=HIc.out _ s' wr HS.out
   go_wp2_with fail
   refine bodyPost_ret (v:=.tuple #[v,.int .i64 0,.int .i64 0]) (by simp [results,Tryz.results225,go_sem, *]) rfl ?_
   exact ⟨HB.out,.inr ⟨s',v,HF.out,HS.out,hv,rfl⟩⟩
end Go.Proofs.YtknakfpciccoaabGreatDoor
/- What a stage makes: its documents lie where they are no longer written. -/
namespace Go.Proofs.YtknakfpciccoaabGreatDoor
open Go.RowKit
theorem AtP.fit {p : Nat→Prop} {w : World} : ∀ {m f : Nat} {v : Value} {t : T},AtP p w f v t→Good m t→AtP p w (m+1) v t:=by
 intro m
 induction m with
 | zero =>
  intro f v t h hg
  have hl : leafGood t:=hg
  cases f with
  | zero=>exact h.elim
  | succ f =>
   obtain ⟨La,Ka,Lc,Kc,rfl,hf,_,_⟩:=h
   exact ⟨La,Ka,Lc,Kc,rfl,hf,fun i hi=>by rw [hl.1] at hi; omega,fun i hi=>by rw [hl.2.1] at hi; omega⟩
 | succ m ih =>
  intro f v t h hg
  cases f with
  | zero=>exact h.elim
  | succ f =>
   obtain ⟨La,Ka,Lc,Kc,rfl,hf,he,hk⟩:=h
   refine ⟨La,Ka,Lc,Kc,rfl,hf,fun i hi=>?_,hk⟩
   obtain ⟨b,o,c0,c1,c2,c3,c4,h0,hb,q0,q1,q2,q3,q4,ha⟩:=he i hi
   refine ⟨b,o,c0,c1,c2,c3,c4,h0,hb,q0,q1,q2,q3,q4,ih ha ?_⟩
   rcases hg with hl | ⟨_,_,hge,_⟩
   ·have:=hl.1; omega
   ·exact hge i hi
theorem small_good {t : T} (h : tooBig t=false) : Good 12 t∧okA t:=by
 unfold tooBig at h
 rw [Bool.or_eq_false_iff] at h
 have h1 : isV t=true:=by simpa using h.1
 have h2:=(isV_iff t).1 h1
 exact ⟨h2.1,good_okA h2.1 (by have:=h2.2; omega)⟩
end Go.Proofs.YtknakfpciccoaabGreatDoor
/- The walk of $project. -/
namespace Go.Proofs.YtknakfpciccoaabGreatDoor
open Go.RowKit
theorem At.toP {p : Nat→Prop} {w0 w : World} (hp : ∀ b,b<w0.heap.size→p b) (hb : Below w0.heap.size w0 w) : ∀ {f : Nat} {v : Value} {t : T},At w0 f v t→AtP p w f v t:=by
 intro f
 induction f with
 | zero=>intro v t h; exact h.elim
 | succ f ih =>
  rintro v t ⟨La,Ka,Lc,Kc,rfl,hf,hl,hk⟩
  refine ⟨La,Ka,Lc,Kc,rfl,hf,fun i hi=>?_,fun i hi=>?_⟩
  ·obtain ⟨b,o,c0,c1,c2,c3,c4,h0,hbl,q0,q1,q2,q3,q4,ha⟩:=hl i hi
   exact ⟨b,o,c0,c1,c2,c3,c4,h0,⟨Nat.lt_of_lt_of_le hbl hb.size,hp b hbl⟩,(hb.cell (p:=⟨b,_,none⟩) hbl).trans q0,(hb.cell (p:=⟨b,_,none⟩) hbl).trans q1,(hb.cell (p:=⟨b,_,none⟩) hbl).trans q2,(hb.cell (p:=⟨b,_,none⟩) hbl).trans q3,(hb.cell (p:=⟨b,_,none⟩) hbl).trans q4,ih ha⟩
  ·obtain ⟨b,o,h0,hbl,h2,h3⟩:=hk i hi
   exact ⟨b,o,h0,⟨Nat.lt_of_lt_of_le hbl hb.size,hp b hbl⟩,h2,(hb.cell (p:=⟨b,_,none⟩) hbl).trans h3⟩
end Go.Proofs.YtknakfpciccoaabGreatDoor
/- Stages of a pipeline: what they do; $project, $match. -/
namespace Go.Proofs.YtknakfpciccoaabGreatDoor
open Go.RowKit
def StPost (g : List T→(Nat×Int)⊕List T) (l : List T) (w : World) (e : Ending) (w' : World) : Prop :=
 Below w.heap.size w w'∧((∃ (k : Nat) (x : Int),g l=.inl (k,x)∧x≠0∧e=.returned (.tuple #[.slice none 0 0,.int .i64 k,.int .i64 x]))∨∃ r v,g l=.inr r∧e=.returned (.tuple #[v,.int .i64 0,.int .i64 0])∧DocsAt w' v r)
def StageOk (Tb : World→Prop) (w : World) (v : Value) (g : List T→(Nat×Int)⊕List T) : Prop :=
 ∃ (ty : TypeId) (p : Value) (fid : FuncId),v=.iface ty p∧(∀ w' : World,(method 419 ty p "sheaf/pipe.run").run Tryz.prog w'=.ok (fid,p) w')∧(∀ (a : Array Value) (w' : World),(callFunc fid a).run Tryz.prog w'=.ok (.enter fid a) w') ∧
  ∀ (wr : World) (dv : Value) (l : List T),Below w.heap.size w wr→DocsAt wr dv l→Tb wr→Calls Tryz.prog fid #[p,dv] wr (StPost g l wr)
end Go.Proofs.YtknakfpciccoaabGreatDoor
/- What groups gather: sums; what replaces what. -/
namespace Go.Proofs.YtknakfpciccoaabGreatDoor
open Go.RowKit
def fits64 (n : Int) : Prop:=-9223372036854775808≤n∧n≤9223372036854775807
instance (n : Int) : Decidable (fits64 n) := by unfold fits64; infer_instance
theorem wrap_out {a b : Int} (h0 : fits64 a) (h1 : fits64 b) (h : ¬ fits64 (a+b)) : (0<b∧IntKind.i64.wrap (a+b)<a)∨(b<0∧a<IntKind.i64.wrap (a+b)):=by
 rw [IntKind.wrap_i64]
 unfold fits64 at *
 omega
set_option maxHeartbeats 4000000 in
set_option maxRecDepth 100000 in
theorem add64_any (a b : Int) (w : World) (h0 : fits64 a) (h1 : fits64 b) : Calls Tryz.prog 194 #[.int .i64 a,.int .i64 b] w fun e w'=>w'=w∧∃ s,e=.returned (.tuple #[.int .i64 s,.bool (decide (fits64 (a+b)))])∧(fits64 (a+b)→s=a+b):=by
 by_cases h : fits64 (a+b)
 ·have hw : IntKind.i64.wrap (a+b)=a+b:=by rw [IntKind.wrap_i64]; unfold fits64 at *; omega
  have hd : decide (fits64 (a+b))=true:=decide_eq_true h
  rw [hd]
  clear hd h h0 h1
  by_cases hb : 0<b
  ·have y1 : a<a+b:=by omega
   go_enter Tryz.func194,Tryz.ntmps194
   go_wp2_with fail
   refine bodyPost_ret (v:=.tuple #[.int .i64 (a+b),.bool true]) (by simp [results,Tryz.results194,go_sem, *]) rfl ?_
   exact ⟨rfl,a+b,rfl,fun _=>rfl⟩
  ·have y1 : ¬ a<a+b:=by omega
   go_enter Tryz.func194,Tryz.ntmps194
   go_wp2_with fail
   refine bodyPost_ret (v:=.tuple #[.int .i64 (a+b),.bool true]) (by simp [results,Tryz.results194,go_sem, *]) rfl ?_
   exact ⟨rfl,a+b,rfl,fun _=>rfl⟩
 ·have hd : decide (fits64 (a+b))=false:=decide_eq_false h
  rw [hd]
  have Hh:=hid h
  have hww:=wrap_out h0 h1 h
  generalize hs : IntKind.i64.wrap (a+b)=s at hww
  clear hd h h0 h1
  rcases hww with ⟨hb,y1⟩ | ⟨hb,y1⟩
  ·have y2 : ¬ a<s:=by omega
   clear y1
   go_enter Tryz.func194,Tryz.ntmps194
   go_wp2_with fail
   refine bodyPost_ret (v:=.tuple #[.int .i64 s,.bool false]) (by simp [results,Tryz.results194,go_sem, *]) rfl ?_
   exact ⟨rfl,s,rfl,fun h=>absurd h Hh.out⟩
  ·have y2 : ¬ 0<b:=by omega
   clear hb
   go_enter Tryz.func194,Tryz.ntmps194
   go_wp2_with fail
   refine bodyPost_ret (v:=.tuple #[.int .i64 s,.bool false]) (by simp [results,Tryz.results194,go_sem, *]) rfl ?_
   exact ⟨rfl,s,rfl,fun h=>absurd h Hh.out⟩
def sumE (s v : T) : Int⊕Int:=if kindOf v=3 then (if fits64 (nOf s+nOf v) then .inr (nOf s+nOf v) else .inl 14) else .inl 13
set_option maxHeartbeats 8000000 in
set_option maxRecDepth 100000 in
theorem sum_any (s v : T) (A C La Ka : Option Addr) (B D Lc Kc : Nat) (w : World) (h0 : fits64 (nOf s)) (h1 : fits64 (nOf v)) :
  Calls Tryz.prog 244 #[.agg #[.int .i64 (kindOf s),.int .i64 (nOf s),.string (sOf s),.slice A (nL s) B,.slice C (nK s) D],.agg #[.int .i64 (kindOf v),.int .i64 (nOf v),.string (sOf v),.slice La (nL v) Lc,.slice Ka (nK v) Kc]] w fun e w'=>Below w.heap.size w w'∧((∃ x,sumE s v=.inl x∧x≠0∧e=.returned (.tuple #[.agg #[.int .i64 0,.int .i64 0,.string ⟨#[]⟩,.slice none 0 0,.slice none 0 0],.int .i64 x]))∨∃ n,sumE s v=.inr n∧e=.returned (.tuple #[.agg #[.int .i64 3,.int .i64 n,.string ⟨#[]⟩,.slice none 0 0,.slice none 0 0],.int .i64 0])):=by
 have HB1 : Hid (Below w.heap.size w (((w.alloc (.cells #[.int .i64 (kindOf s),.int .i64 (nOf s),.string (sOf s),.slice A (nL s) B,.slice C (nK s) D] 36)).alloc (.cells #[.int .i64 (kindOf v),.int .i64 (nOf v),.string (sOf v),.slice La (nL v) Lc,.slice Ka (nK v) Kc] 36)).alloc (.cells #[.int .i64 0,.int .i64 0,.string ⟨#[]⟩,.slice none 0 0,.slice none 0 0] 36))):=(((Below.refl _ _).alloc (Nat.le_refl _) _).alloc (by simp) _).alloc (by simp; omega) _
 have HC:=hid (fun w'=>add64_any (nOf s) (nOf v) w' h0 h1)
 by_cases k3 : kindOf v=3
 ·have HS : Hid (sumE s v=if fits64 (nOf s+nOf v) then .inr (nOf s+nOf v) else .inl 14):=by show _=_; unfold sumE; rw [if_pos k3]
  have e3 : (kindOf v == 3)=true:=by simpa using k3
  clear k3 h0 h1
  by_cases hf : fits64 (nOf s+nOf v)
  ·rw [decide_eq_true hf] at HC
   have Hf:=hid hf
   have HBf : Hid (∀ n,Below w.heap.size w (((w.alloc (.cells #[.int .i64 (kindOf s),.int .i64 (nOf s),.string (sOf s),.slice A (nL s) B,.slice C (nK s) D] 36)).alloc (.cells #[.int .i64 (kindOf v),.int .i64 (nOf v),.string (sOf v),.slice La (nL v) Lc,.slice Ka (nK v) Kc] 36)).alloc (.cells #[.int .i64 3,.int .i64 n,.string ⟨#[]⟩,.slice none 0 0,.slice none 0 0] 36))):=fun n=>(((Below.refl _ _).alloc (Nat.le_refl _) _).alloc (by simp) _).alloc (by simp; omega) _
   clear hf
   go_enter Tryz.func244,Tryz.ntmps244
   go_wp2_with fail
   refine (HC.out _).mono ?_
   rintro e w2 ⟨rfl,n,rfl,hn⟩
   have Hn:=hid (hn Hf.out)
   clear hn HC
   go_wp2_with fail
   refine bodyPost_ret (v:=.tuple #[.agg #[.int .i64 3,.int .i64 n,.string ⟨#[]⟩,.slice none 0 0,.slice none 0 0],.int .i64 0]) (by simp [results,Tryz.results244,go_sem]) rfl ?_
   exact ⟨HBf.out n,.inr ⟨n,by rw [HS.out,if_pos Hf.out,Hn.out],rfl⟩⟩
  ·rw [decide_eq_false hf] at HC
   have Hf:=hid hf
   clear hf
   go_enter Tryz.func244,Tryz.ntmps244
   go_wp2_with fail
   refine (HC.out _).mono ?_
   rintro e w2 ⟨rfl,n,rfl,hn⟩
   clear hn HC
   go_wp2_with fail
   refine bodyPost_ret (v:=.tuple #[.agg #[.int .i64 0,.int .i64 0,.string ⟨#[]⟩,.slice none 0 0,.slice none 0 0],.int .i64 14]) (by simp [results,Tryz.results244,go_sem]) rfl ?_
   exact ⟨HB1.out,.inl ⟨14,by rw [HS.out,if_neg Hf.out],by omega,rfl⟩⟩
 ·have HS : Hid (sumE s v=.inl 13):=by show _=_; unfold sumE; rw [if_neg k3]
  have e3 : (kindOf v == 3)=false:=by simpa using k3
  clear k3 h0 h1 HC
  go_enter Tryz.func244,Tryz.ntmps244
  go_wp2_with fail
  refine bodyPost_ret (v:=.tuple #[.agg #[.int .i64 0,.int .i64 0,.string ⟨#[]⟩,.slice none 0 0,.slice none 0 0],.int .i64 13]) (by simp [results,Tryz.results244,go_sem]) rfl ?_
  exact ⟨HB1.out,.inl ⟨13,HS.out,by omega,rfl⟩⟩
end Go.Proofs.YtknakfpciccoaabGreatDoor
/- What an entry of a group makes of what was gathered and a document: all but lists. -/
namespace Go.Proofs.YtknakfpciccoaabGreatDoor
open Go.RowKit
def gSum : ByteArray:=⟨#[36,115,117,109]⟩
def gMin : ByteArray:=⟨#[36,109,105,110]⟩
def gMax : ByteArray:=⟨#[36,109,97,120]⟩
def gFirst : ByteArray:=⟨#[36,102,105,114,115,116]⟩
def gLast : ByteArray:=⟨#[36,108,97,115,116]⟩
def gList : ByteArray:=⟨#[36,108,105,115,116]⟩
def repE (op : ByteArray) (s v : T) : Bool:=if op=gMin then decide (cmpT 16 v s<0) else if op=gMax then decide (0<cmpT 16 v s) else op == gLast
set_option maxHeartbeats 8000000 in
set_option maxRecDepth 100000 in
theorem replaces_any (op : ByteArray) (hop : op=gMin∨op=gMax∨op=gFirst∨op=gLast) (ty : TypeId) (p : Value) (s v : T) (A C La Ka : Option Addr) (B D Lc Kc : Nat) (w : World) (hs : At w 13 (.agg #[.int .i64 (kindOf s),.int .i64 (nOf s),.string (sOf s),.slice A (nL s) B,.slice C (nK s) D]) s) (ks : okA s) (hv : At w 13 (.agg #[.int .i64 (kindOf v),.int .i64 (nOf v),.string (sOf v),.slice La (nL v) Lc,.slice Ka (nK v) Kc]) v) (kv : okA v) :
  Calls Tryz.prog 245 #[.agg #[.string op,.iface ty p],.agg #[.int .i64 (kindOf s),.int .i64 (nOf s),.string (sOf s),.slice A (nL s) B,.slice C (nK s) D],.agg #[.int .i64 (kindOf v),.int .i64 (nOf v),.string (sOf v),.slice La (nL v) Lc,.slice Ka (nK v) Kc]] w fun e w'=>e=.returned (.bool (repE op s v))∧Below w.heap.size w w':=by
 have HB1 : Hid (Below w.heap.size w (((w.alloc (.cells #[.string op,.iface ty p] 239)).alloc (.cells #[.int .i64 (kindOf s),.int .i64 (nOf s),.string (sOf s),.slice A (nL s) B,.slice C (nK s) D] 36)).alloc (.cells #[.int .i64 (kindOf v),.int .i64 (nOf v),.string (sOf v),.slice La (nL v) Lc,.slice Ka (nK v) Kc] 36))):=(((Below.refl _ _).alloc (Nat.le_refl _) _).alloc (by simp) _).alloc (by simp; omega) _
 have HC:=hid (compare16 (hv.keep HB1.out) (hs.keep HB1.out) (by omega) kv ks)
 clear hs hv ks kv
 rcases hop with h | h | h | h
 ·have HR : Hid (repE op s v=decide (cmpT 16 v s<0)):=by show _=_; unfold repE; rw [if_pos h]
  subst h
  generalize cmpT 16 v s=cc at HC HR
  unfold gMin at *
  go_enter Tryz.func245,Tryz.ntmps245
  go_wp2_with fail
  refine HC.out.mono ?_
  rintro e w2 ⟨rfl,b2⟩
  have HB2:=hid (HB1.out.trans (b2.mono HB1.out.size))
  clear b2 HC
  go_wp2_with fail
  go_ret
  exact ⟨by rw [HR.out]; rfl,HB2.out⟩
 ·have HR : Hid (repE op s v=decide (0<cmpT 16 v s)):=by show _=_; unfold repE; rw [if_neg (by rw [h]; decide),if_pos h]
  subst h
  generalize cmpT 16 v s=cc at HC HR
  unfold gMax at *
  go_enter Tryz.func245,Tryz.ntmps245
  go_wp2_with fail
  refine HC.out.mono ?_
  rintro e w2 ⟨rfl,b2⟩
  have HB2:=hid (HB1.out.trans (b2.mono HB1.out.size))
  clear b2 HC
  go_wp2_with fail
  go_ret
  exact ⟨by rw [HR.out]; rfl,HB2.out⟩
 ·have HR : Hid (repE op s v=false):=by show _=_; unfold repE; rw [h,if_neg (by decide),if_neg (by decide)]; decide
  subst h
  rw [HR.out]
  unfold gFirst at *
  clear HC
  go_enter Tryz.func245,Tryz.ntmps245
  go_wp2_with fail
  go_ret
  exact ⟨rfl,HB1.out⟩
 ·have HR : Hid (repE op s v=true):=by show _=_; unfold repE; rw [h,if_neg (by decide),if_neg (by decide)]; decide
  subst h
  rw [HR.out]
  unfold gLast at *
  clear HC
  go_enter Tryz.func245,Tryz.ntmps245
  go_wp2_with fail
  go_ret
  exact ⟨rfl,HB1.out⟩
end Go.Proofs.YtknakfpciccoaabGreatDoor
