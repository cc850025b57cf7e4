import Derived.Test.YtknakfpciccoaabGreatDoorZS3
import Derived.Test.YtknakfpciccoaabGreatDoorZS4
import Derived.Lib.ItoaNum
import Derived.KernelRfl
/- Values whose lists are the call's own: each list lies in a block of its own. -/
namespace Go.Proofs.YtknakfpciccoaabGreatDoor
open Go.RowKit
abbrev eV:TypeId:=36
abbrev eS:TypeId:=9
structure Ent where
 l:Value
 n:Nat
 k:Value
 m:Nat
def blk (e:Ent):List Nat:=e.l.ownBlock.toList++e.k.ownBlock.toList
def blks (es:List Ent):List Nat:=es.flatMap blk
theorem blks_append (a b:List Ent):blks (a++b)=blks a++blks b:=by simp [blks]
theorem blks_one (e:Ent):blks [e]=blk e:=by simp [blks]
def catE (sub:Nat→List Ent):Nat→List Ent
 | 0=>[]
 | k+1=>catE sub k++sub k
theorem catE_congr {s s':Nat→List Ent}:∀ k,(∀ i,i<k→s i=s' i)→catE s k=catE s' k
 | 0,_=>rfl
 | k+1,h=>by rw [catE,catE,catE_congr k (fun i hi=>h i (by omega)),h k (by omega)]
theorem mem_catE {s:Nat→List Ent} {b:Nat}:∀ {k i:Nat},i<k→b ∈ blks (s i)→b ∈ blks (catE s k)
 | k+1,i,hi,hb=>by
  rw [catE,blks_append,List.mem_append]
  by_cases e:i=k
  ·subst e;exact .inr hb
  ·exact .inl (mem_catE (by omega) hb)
structure Sep (lo:Nat) (w:World) (es:List Ent):Prop where
 nodup:(blks es).Nodup
 lies:∀ b ∈ blks es,lo≤b∧b<w.heap.size
def cx (xs:List Value) (j:Nat):Value:=xs[j]?.getD (.int .i64 0)
def fv (xs:List Value) (i:Nat):Value:=.agg #[cx xs (i*5),cx xs (i*5+1),cx xs (i*5+2),cx xs (i*5+3),cx xs (i*5+4)]
def namesV (ks:List ByteArray):List Value:=ks.map Value.string
def Flat (w:World):Nat→Value→T→List Ent→Prop
 | 0,_,_,_=>False
 | f+1,v,t,es=>∃ (Lv Kv:Value) (xs:List Value) (sub:Nat→List Ent),
   v=.agg #[.int .i64 (kindOf t),.int .i64 (nOf t),.string (sOf t),Lv,Kv]∧Fits t ∧
   w.ownsRow 0 eV 5 Lv (nL t) xs∧w.ownsRow 0 eS 1 Kv (nK t) (namesV (kOf t)) ∧
   (∀ i,i<nL t→Flat w f (fv xs i) (elt t i) (sub i))∧(∀ i,i<nK t→(nam t i).size≤140737488355328) ∧
   es=catE sub (nL t)++[⟨Lv,nL t,Kv,nK t⟩]
theorem own_move {w w':World} {lo:Nat} {e:TypeId} {size n:Nat} {v:Value} {xs:List Value} (h:w.ownsRow lo e size v n xs) (hb:∀ b,v.ownBlock=some b→w'.heap[b]?=w.heap[b]?):w'.ownsRow lo e size v n xs:=by
 refine ⟨h.1,?_⟩
 rcases h.2 with hn | ⟨g,cap,cur,rfl,hb0,hg,rest⟩
 ·exact .inl hn
 ·exact .inr ⟨g,cap,cur,rfl,hb0,(hb g rfl).trans hg,rest⟩
theorem own_base {w:World} {lo lo':Nat} {e:TypeId} {size n:Nat} {v:Value} {xs:List Value} (h:w.ownsRow lo e size v n xs) (hl:∀ b,v.ownBlock=some b→lo'≤b):w.ownsRow lo' e size v n xs:=by
 refine ⟨h.1,?_⟩
 rcases h.2 with hn | ⟨g,cap,cur,rfl,hb0,rest⟩
 ·exact .inl hn
 ·exact .inr ⟨g,cap,cur,rfl,hl g rfl,rest⟩
theorem Flat.move {w w':World}:∀ {f:Nat} {v:Value} {t:T} {es:List Ent},(∀ b ∈ blks es,w'.heap[b]?=w.heap[b]?)→Flat w f v t es→Flat w' f v t es:=by
 intro f
 induction f with
 | zero=>intro v t es _ h;exact h
 | succ f ih =>
  rintro v t es hb ⟨Lv,Kv,xs,sub,rfl,hf,hl,hk,hc,hn,rfl⟩
  have hx:∀ b,b ∈ blk ⟨Lv,nL t,Kv,nK t⟩→w'.heap[b]?=w.heap[b]?:=fun b h=>hb b (by rw [blks_append,blks_one];simp [h])
  refine ⟨Lv,Kv,xs,sub,rfl,hf,own_move hl fun b e=>hx b ?_,own_move hk fun b e=>hx b ?_,fun i hi=>ih (fun b h=>hb b ?_) (hc i hi),hn,rfl⟩
  ·simp [blk,e]
  ·simp [blk,e]
  ·rw [blks_append]
   exact List.mem_append_left _ (mem_catE hi h)
theorem own_shape {w:World} {lo:Nat} {e:TypeId} {size n:Nat} {v:Value} {xs:List Value} (h:w.ownsRow lo e size v n xs):∃ A c,v=.slice A n c:=by
 rcases h.2 with ⟨rfl,rfl⟩ | ⟨g,cap,cur,rfl,_⟩
 ·exact ⟨none,0,rfl⟩
 ·exact ⟨_,cap,rfl⟩
theorem own_cell {w:World} {lo:Nat} {e:TypeId} {size n:Nat} {v:Value} {xs:List Value} (h:w.ownsRow lo e size v n xs) (h0:0<n):∃ g cap,v=.slice (some ⟨g,0,none⟩) n cap∧g<w.heap.size∧lo≤g∧n≤cap∧(∀ j,j<n*size→w.cell? ⟨g,j,none⟩=some (cx xs j))∧∀ j,w.frozen? ⟨g,j,none⟩=false:=by
 rcases h.2 with ⟨rfl,rfl⟩ | ⟨g,cap,cur,rfl,hlo,hg,hnc,_⟩
 ·omega
 ·refine ⟨g,cap,rfl,(h.lt g rfl).2,hlo,hnc,fun j hj=>?_,fun j=>h.frozenAt j⟩
  rw [h.cellAt j hj]
  have:j<xs.length:=by rw [h.1];exact hj
  simp [cx,this]
theorem Flat.at {w:World}:∀ {f:Nat} {v:Value} {t:T} {es:List Ent},Flat w f v t es→At w f v t:=by
 intro f
 induction f with
 | zero=>intro v t es h;exact h
 | succ f ih =>
  rintro v t es ⟨Lv,Kv,xs,sub,rfl,hf,hl,hk,hc,hn,rfl⟩
  obtain ⟨A,c,rfl⟩:=own_shape hl
  obtain ⟨C,d,rfl⟩:=own_shape hk
  refine ⟨A,C,c,d,rfl,hf,fun i hi=>?_,fun i hi=>?_⟩
  ·obtain ⟨g,cap,e,hg,_,_,hcell,_⟩:=own_cell hl (by omega)
   cases e
   refine ⟨g,0,_,_,_,_,_,rfl,hg,?_,?_,?_,?_,?_,ih (hc i hi)⟩
   ·rw [Nat.zero_add];exact hcell _ (by omega)
   ·rw [Nat.zero_add];exact hcell _ (by omega)
   ·rw [Nat.zero_add];exact hcell _ (by omega)
   ·rw [Nat.zero_add];exact hcell _ (by omega)
   ·rw [Nat.zero_add];exact hcell _ (by omega)
  ·obtain ⟨g,cap,e,hg,_,_,hcell,_⟩:=own_cell hk (by omega)
   cases e
   refine ⟨g,0,rfl,hg,hn i hi,?_⟩
   rw [Nat.zero_add,hcell i (by omega)]
   have hi':i<(kOf t).length:=hi
   simp [cx,namesV,nam,List.getD_eq_getElem?_getD,hi']
def RowL (w:World) (v:Value) (n:Nat):Prop:=∃ xs,w.ownsRow 0 eV 5 v n xs
def RowK (w:World) (v:Value) (n:Nat):Prop:=∃ xs,w.ownsRow 0 eS 1 v n xs
def RowsE (w:World) (es:List Ent):Prop:=∀ e ∈ es,RowL w e.l e.n∧RowK w e.k e.m
theorem mem_cat {s:Nat→List Ent} {e:Ent}:∀ {k:Nat},e ∈ catE s k→∃ i,i<k∧e ∈ s i
 | 0,h=>by cases h
 | k+1,h=>by
  rw [catE,List.mem_append] at h
  rcases h with h | h
  ·obtain ⟨i,hi,hh⟩:=mem_cat h
   exact ⟨i,by omega,hh⟩
  ·exact ⟨k,by omega,h⟩
theorem Flat.rows {w:World}:∀ {f:Nat} {v:Value} {t:T} {es:List Ent},Flat w f v t es→RowsE w es:=by
 intro f
 induction f with
 | zero=>intro v t es h;exact h.elim
 | succ f ih =>
  rintro v t es ⟨Lv,Kv,xs,sub,rfl,hf,hl,hk,hc,hn,rfl⟩ e he
  rw [List.mem_append] at he
  rcases he with he | he
  ·obtain ⟨i,hi,hh⟩:=mem_cat he
   exact ih (hc i hi) e hh
  ·simp only [List.mem_singleton] at he
   subst he
   exact ⟨⟨_,hl⟩,⟨_,hk⟩⟩
theorem Sep.child {lo:Nat} {w w':World} {A es:List Ent} {e:Ent} (h:Sep lo w (A++[e])) (hs:w.heap.size≤w'.heap.size) (hc:Sep w.heap.size w' es) (hlo:lo≤w.heap.size):Sep lo w' (A++es++[e]):=by
 have h1:=h.nodup
 have h2:=h.lies
 have h3:=hc.nodup
 have h4:=hc.lies
 rw [blks_append] at h1 h2
 refine ⟨?_,?_⟩
 ·rw [blks_append,blks_append]
  rw [List.nodup_append] at h1 ⊢
  obtain ⟨a1,a2,a3⟩:=h1
  refine ⟨?_,a2,?_⟩
  ·rw [List.nodup_append]
   refine ⟨a1,h3,fun a ha b hb=>?_⟩
   have:=h2 a (List.mem_append_left _ ha)
   have:=h4 b hb
   omega
  ·intro a ha b hb
   rw [List.mem_append] at ha
   rcases ha with ha | ha
   ·exact a3 a ha b hb
   ·have:=h2 b (List.mem_append_right _ hb)
    have:=h4 a ha
    omega
 ·intro b hb
  rw [blks_append,blks_append,List.mem_append,List.mem_append] at hb
  rcases hb with (hb | hb) | hb
  ·have:=h2 b (List.mem_append_left _ hb);omega
  ·have:=h4 b hb;omega
  ·have:=h2 b (List.mem_append_right _ hb);omega
def NewOr (w:World) (v v':Value):Prop:=v'.ownBlock=v.ownBlock∨∀ g,v'.ownBlock=some g→w.heap.size≤g
theorem Sep.newL {lo:Nat} {w w':World} {A:List Ent} {L L' K:Value} {n n' m:Nat} (h:Sep lo w (A++[⟨L,n,K,m⟩])) (hs:w.heap.size≤w'.heap.size) (hn:NewOr w L L') (hl:∀ g,L'.ownBlock=some g→g<w'.heap.size) (hlo:lo≤w.heap.size):Sep lo w' (A++[⟨L',n',K,m⟩]):=by
 have h1:=h.nodup
 have h2:=h.lies
 rw [blks_append,blks_one] at h1 h2
 have h3:∀ g,L'.ownBlock=some g→L.ownBlock=some g∨w.heap.size≤g:=by
  intro g hg
  rcases hn with e | e
  ·exact .inl (e ▸ hg)
  ·exact .inr (e g hg)
 refine ⟨?_,?_⟩
 ·rw [blks_append,blks_one]
  simp only [blk] at h1 h2 ⊢
  rw [List.nodup_append,List.nodup_append] at h1 ⊢
  obtain ⟨a1,⟨b1,b2,b3⟩,a3⟩:=h1
  refine ⟨a1,⟨by cases L'.ownBlock<;>simp,b2,fun a ha b hb=>?_⟩,fun a ha b hb=>?_⟩
  ·rcases h3 a (by simpa using ha) with e | e
   ·exact b3 a (by simp [e]) b hb
   ·have:=h2 b (by simp only [List.mem_append];exact .inr (.inr hb));omega
  ·rw [List.mem_append] at hb
   rcases hb with hb | hb
   ·rcases h3 b (by simpa using hb) with e | e
    ·exact a3 a ha b (by simp [e])
    ·have:=h2 a (by simp only [List.mem_append];exact .inl ha);omega
   ·exact a3 a ha b (by simp only [List.mem_append];exact .inr hb)
 ·intro b hb
  rw [blks_append,blks_one] at hb
  simp only [blk,List.mem_append] at hb h2
  rcases hb with hb | hb | hb
  ·have:=h2 b (.inl hb);omega
  ·have hb':L'.ownBlock=some b:=by simpa using hb
   have:=hl b hb'
   rcases h3 b hb' with e | e
   ·have:=h2 b (.inr (.inl (by simp [e])));omega
   ·omega
  ·have:=h2 b (.inr (.inr hb));omega
theorem Sep.newK {lo:Nat} {w w':World} {A:List Ent} {L K K':Value} {n m m':Nat} (h:Sep lo w (A++[⟨L,n,K,m⟩])) (hs:w.heap.size≤w'.heap.size) (hn:NewOr w K K') (hl:∀ g,K'.ownBlock=some g→g<w'.heap.size) (hlo:lo≤w.heap.size):Sep lo w' (A++[⟨L,n,K',m'⟩]):=by
 have h1:=h.nodup
 have h2:=h.lies
 rw [blks_append,blks_one] at h1 h2
 have h3:∀ g,K'.ownBlock=some g→K.ownBlock=some g∨w.heap.size≤g:=by
  intro g hg
  rcases hn with e | e
  ·exact .inl (e ▸ hg)
  ·exact .inr (e g hg)
 refine ⟨?_,?_⟩
 ·rw [blks_append,blks_one]
  simp only [blk] at h1 h2 ⊢
  rw [List.nodup_append,List.nodup_append] at h1 ⊢
  obtain ⟨a1,⟨b1,b2,b3⟩,a3⟩:=h1
  refine ⟨a1,⟨b1,by cases K'.ownBlock<;>simp,fun a ha b hb=>?_⟩,fun a ha b hb=>?_⟩
  ·rcases h3 b (by simpa using hb) with e | e
   ·exact b3 a ha b (by simp [e])
   ·have:=h2 a (by simp only [List.mem_append];exact .inr (.inl ha));omega
  ·rw [List.mem_append] at hb
   rcases hb with hb | hb
   ·exact a3 a ha b (by simp only [List.mem_append];exact .inl hb)
   ·rcases h3 b (by simpa using hb) with e | e
    ·exact a3 a ha b (by simp [e])
    ·have:=h2 a (by simp only [List.mem_append];exact .inl ha);omega
 ·intro b hb
  rw [blks_append,blks_one] at hb
  simp only [blk,List.mem_append] at hb h2
  rcases hb with hb | hb | hb
  ·have:=h2 b (.inl hb);omega
  ·have:=h2 b (.inr (.inl hb));omega
  ·have hb':K'.ownBlock=some b:=by simpa using hb
   have:=hl b hb'
   rcases h3 b hb' with e | e
   ·have:=h2 b (.inr (.inr (by simp [e])));omega
   ·omega
end Go.Proofs.YtknakfpciccoaabGreatDoor
/- A list that grows: what is read so far. -/
namespace Go.Proofs.YtknakfpciccoaabGreatDoor
open Go.RowKit
structure Grow (lo f:Nat) (w:World) (Lv Kv:Value) (L:List T) (K:List ByteArray) (xs:List Value) (sub:Nat→List Ent):Prop where
 low:lo≤w.heap.size
 ownL:w.ownsRow lo eV 5 Lv L.length xs
 ownK:w.ownsRow lo eS 1 Kv K.length (namesV K)
 kids:∀ i,i<L.length→Flat w f (fv xs i) (L.getD i .nil) (sub i)
 names:∀ s ∈ K,s.size≤140737488355328
 sep:Sep lo w (catE sub L.length++[⟨Lv,L.length,Kv,K.length⟩])
theorem Grow.start (lo f:Nat) (w:World) (h:lo≤w.heap.size):Grow lo f w (.slice none 0 0) (.slice none 0 0) [] [] [] (fun _=>[]) :=
 ⟨h,World.ownsRow_nil _ _ _ _,World.ownsRow_nil _ _ _ _,(fun i hi=>by simp at hi),(fun s hs=>by cases hs),⟨by simp [blks,blk,catE,Value.ownBlock],fun b hb=>by simp [blks,blk,catE,Value.ownBlock] at hb⟩⟩
theorem Grow.move {lo f:Nat} {w w':World} {Lv Kv:Value} {L:List T} {K:List ByteArray} {xs:List Value} {sub:Nat→List Ent} (h:Grow lo f w Lv Kv L K xs sub) (hs:w.heap.size≤w'.heap.size) (hb:∀ b,lo≤b→b<w.heap.size→w'.heap[b]?=w.heap[b]?):Grow lo f w' Lv Kv L K xs sub:=by
 have hx:∀ b ∈ blks (catE sub L.length++[⟨Lv,L.length,Kv,K.length⟩]),w'.heap[b]?=w.heap[b]?:=fun b hh=>by
  have:=h.sep.lies b hh
  exact hb b this.1 this.2
 have hy:∀ b,b ∈ blk ⟨Lv,L.length,Kv,K.length⟩→w'.heap[b]?=w.heap[b]?:=fun b hh=>hx b (by rw [blks_append,blks_one];exact List.mem_append_right _ hh)
 refine ⟨Nat.le_trans h.low hs,own_move h.ownL (fun b e=>hy b (by simp [blk,e])),own_move h.ownK (fun b e=>hy b (by simp [blk,e])),(fun i hi=>(h.kids i hi).move fun b hh=>hx b (by rw [blks_append];exact List.mem_append_left _ (mem_catE hi hh))),h.names,⟨h.sep.nodup,fun b hh=>?_⟩⟩
 have:=h.sep.lies b hh
 omega
theorem Grow.set {lo f:Nat} {w:World} {Lv Kv:Value} {L:List T} {K:List ByteArray} {xs:List Value} {sub:Nat→List Ent} (h:Grow lo f w Lv Kv L K xs sub) (c o:Nat) (u:Value) (hc:c<lo):Grow lo f (w.setCell ⟨c,o,none⟩ u) Lv Kv L K xs sub :=
 h.move (by simp [World.setCell]) fun b h1 _=>Below.heap_setCell _ _ _ _ (by simpa using (by omega:b≠c))
theorem nodup_apart {a b:List Nat} {x:Nat} (h:(a++b).Nodup) (ha:x ∈ a) (hb:x ∈ b):False:=(List.nodup_append.1 h).2.2 x ha x hb rfl
theorem Grow.addK {lo f:Nat} {w w':World} {Lv Kv Kv':Value} {L:List T} {K:List ByteArray} {xs:List Value} {sub:Nat→List Ent} (h:Grow lo f w Lv Kv L K xs sub) (k:ByteArray) (hk:k.size≤140737488355328)
  (hO:w'.ownsRow lo eS 1 Kv' (K.length+1) (namesV K++[.string k])) (hG:w.grownBy w' Kv.ownBlock) (hN:NewOr w Kv Kv'):Grow lo f w' Lv Kv' L (K++[k]) xs sub:=by
 have hnd:=h.sep.nodup
 have hlies:=h.sep.lies
 rw [blks_append,blks_one] at hnd hlies
 have hkl:(K++[k]).length=K.length+1:=by simp
 refine ⟨Nat.le_trans h.low hG.size,own_move h.ownL fun b e=>?_,?_,fun i hi=>(h.kids i hi).move fun b hh=>?_,?_,?_⟩
 ·have h1:b ∈ blk ⟨Lv,L.length,Kv,K.length⟩:=by simp [blk,e]
  refine hG.block b (hlies b (List.mem_append_right _ h1)).2 fun e2=>?_
  have h2:(blk ⟨Lv,L.length,Kv,K.length⟩).Nodup:=(List.nodup_append.1 hnd).2.1
  exact nodup_apart (x:=b) h2 (by simp [e]) (by simp [← e2])
 ·rw [hkl]
  have e:namesV (K++[k])=namesV K++[.string k]:=by simp [namesV]
  rw [e]
  exact hO
 ·have h1:=mem_catE hi hh
  refine hG.block b (hlies b (List.mem_append_left _ h1)).2 fun e2=>?_
  exact nodup_apart hnd h1 (by simp [blk,← e2])
 ·intro s hs
  rw [List.mem_append] at hs
  rcases hs with hs | hs
  ·exact h.names s hs
  ·simp only [List.mem_singleton] at hs;subst hs;exact hk
 ·rw [hkl]
  exact h.sep.newK hG.size hN (fun g e=>(hO.lt g e).2) h.low
def updE (sub:Nat→List Ent) (n:Nat) (es:List Ent) (i:Nat):List Ent:=if i=n then es else sub i
theorem cat_upd (sub:Nat→List Ent) (n:Nat) (es:List Ent):catE (updE sub n es) (n+1)=catE sub n++es:=by
 rw [catE,catE_congr (s':=sub) n (fun i hi=>by simp [updE,show i≠n by omega])]
 simp [updE]
theorem fv_old {xs ys:List Value} {n i:Nat} (hl:xs.length=n*5) (hi:i<n):fv (xs++ys) i=fv xs i:=by
 have h:∀ j,j<xs.length→cx (xs++ys) j=cx xs j:=fun j hj=>by simp [cx,List.getElem?_append_left hj]
 unfold fv
 rw [h _ (by omega),h _ (by omega),h _ (by omega),h _ (by omega),h _ (by omega)]
theorem fv_new {xs:List Value} {n:Nat} {c0 c1 c2 c3 c4:Value} (hl:xs.length=n*5):fv (xs++[c0,c1,c2,c3,c4]) n=.agg #[c0,c1,c2,c3,c4]:=by
 have h:∀ j,cx (xs++[c0,c1,c2,c3,c4]) (n*5+j)=cx [c0,c1,c2,c3,c4] j:=fun j=>by
  unfold cx
  rw [List.getElem?_append_right (by omega),hl,Nat.add_sub_cancel_left]
 unfold fv
 have h0:=h 0
 rw [Nat.add_zero] at h0
 rw [h0,h 1,h 2,h 3,h 4]
 rfl
theorem Grow.addL {lo f:Nat} {w w':World} {Lv Lv' Kv:Value} {L:List T} {K:List ByteArray} {xs:List Value} {sub:Nat→List Ent} (h:Grow lo f w Lv Kv L K xs sub) {x:T} {es:List Ent} {c0 c1 c2 c3 c4:Value} (hF:Flat w f (.agg #[c0,c1,c2,c3,c4]) x es)
  (hS:Sep lo w (catE sub L.length++es++[⟨Lv,L.length,Kv,K.length⟩])) (hO:w'.ownsRow lo eV 5 Lv' (L.length+1) (xs++[c0,c1,c2,c3,c4])) (hG:w.grownBy w' Lv.ownBlock) (hN:NewOr w Lv Lv') :
  Grow lo f w' Lv' Kv (L++[x]) K (xs++[c0,c1,c2,c3,c4]) (updE sub L.length es):=by
 have hnd:=hS.nodup
 have hlies:=hS.lies
 rw [blks_append,blks_one] at hnd hlies
 have hll:(L++[x]).length=L.length+1:=by simp
 have hmv:∀ b,b ∈ blks (catE sub L.length++es)→w'.heap[b]?=w.heap[b]?:=fun b hb=>by
  refine hG.block b (hlies b (List.mem_append_left _ hb)).2 fun e2=>?_
  exact nodup_apart hnd hb (by simp [blk,← e2])
 refine ⟨Nat.le_trans h.low hG.size,?_,own_move h.ownK fun b e=>?_,fun i hi=>?_,h.names,?_⟩
 ·rw [hll];exact hO
 ·have h1:b ∈ blk ⟨Lv,L.length,Kv,K.length⟩:=by simp [blk,e]
  refine hG.block b (hlies b (List.mem_append_right _ h1)).2 fun e2=>?_
  have h2:(blk ⟨Lv,L.length,Kv,K.length⟩).Nodup:=(List.nodup_append.1 hnd).2.1
  exact nodup_apart (x:=b) h2 (by simp [← e2]) (by simp [e])
 ·rw [hll] at hi
  by_cases e:i=L.length
  ·subst e
   rw [fv_new h.ownL.1]
   simp only [updE,if_true]
   have e2:(L++[x]).getD L.length .nil=x:=by simp [List.getD_eq_getElem?_getD]
   rw [e2]
   exact hF.move fun b hb=>hmv b (by rw [blks_append];exact List.mem_append_right _ hb)
  ·have hi':i<L.length:=by omega
   rw [fv_old h.ownL.1 hi']
   simp only [updE,if_neg e]
   have e2:(L++[x]).getD i .nil=L.getD i .nil:=by simp [List.getD_eq_getElem?_getD,List.getElem?_append_left hi']
   rw [e2]
   exact (h.kids i hi').move fun b hb=>hmv b (by rw [blks_append];exact List.mem_append_left _ (mem_catE hi' hb))
 ·rw [hll,cat_upd]
  exact hS.newL hG.size hN (fun g e=>(hO.lt g e).2) h.low
theorem Grow.flat {lo f:Nat} {w:World} {Lv Kv:Value} {L:List T} {K:List ByteArray} {xs:List Value} {sub:Nat→List Ent} (h:Grow lo f w Lv Kv L K xs sub) (k:Int) (hk0:0≤k) (hk1:k≤100) (hL:L.length≤1759218604442) (hK:K.length≤8796093022208) :
  Flat w (f+1) (.agg #[.int .i64 k,.int .i64 0,.string ByteArray.empty,Lv,Kv]) (mkT k 0 ByteArray.empty L K) (catE sub L.length++[⟨Lv,L.length,Kv,K.length⟩]):=by
 refine ⟨Lv,Kv,xs,sub,?_,⟨?_,?_,?_,?_,?_,?_,?_⟩,?_,?_,?_,?_,?_⟩
 ·rw [kindOf_mk,nOf_mk,sOf_mk]
 ·rw [kindOf_mk];omega
 ·rw [kindOf_mk];omega
 ·rw [nOf_mk];omega
 ·rw [nOf_mk];omega
 ·rw [sOf_mk];simp
 ·rw [nL_mk];exact hL
 ·rw [nK_mk];exact hK
 ·rw [nL_mk];exact own_base h.ownL fun _ _=>Nat.zero_le _
 ·rw [nK_mk,kOf_mk];exact own_base h.ownK fun _ _=>Nat.zero_le _
 ·intro i hi
  rw [nL_mk] at hi
  exact h.kids i hi
 ·intro i hi
  rw [nK_mk] at hi
  rw [nam_mk,List.getD_eq_getElem?_getD,List.getElem?_eq_getElem hi]
  exact h.names _ (List.getElem_mem hi)
 ·rw [nL_mk,nK_mk]
theorem flat_leaf (w:World) (f:Nat) (k n:Int) (s:ByteArray) (hk0:0≤k) (hk1:k≤100) (hn0:-9223372036854775808≤n) (hn1:n≤9223372036854775807) (hs:s.size≤140737488355328) :
  Flat w (f+1) (.agg #[.int .i64 k,.int .i64 n,.string s,.slice none 0 0,.slice none 0 0]) (leafT k n s) [⟨.slice none 0 0,0,.slice none 0 0,0⟩]:=by
 unfold leafT
 refine ⟨.slice none 0 0,.slice none 0 0,[],fun _=>[],?_,⟨?_,?_,?_,?_,?_,?_,?_⟩,World.ownsRow_nil _ _ _ _,?_,?_,?_,?_⟩
 ·rw [kindOf_mk,nOf_mk,sOf_mk]
 ·rw [kindOf_mk];omega
 ·rw [kindOf_mk];omega
 ·rw [nOf_mk];omega
 ·rw [nOf_mk];omega
 ·rw [sOf_mk];exact hs
 ·rw [nL_mk];simp
 ·rw [nK_mk];simp
 ·rw [nK_mk,kOf_mk];exact World.ownsRow_nil _ _ _ _
 ·intro i hi
  rw [nL_mk] at hi
  simp at hi
 ·intro i hi
  rw [nK_mk] at hi
  simp at hi
 ·rw [nL_mk,nK_mk];rfl
theorem sep_leaf (lo:Nat) (w:World):Sep lo w [⟨.slice none 0 0,0,.slice none 0 0,0⟩]:=⟨by simp [blks,blk,Value.ownBlock],fun b hb=>by simp [blks,blk,Value.ownBlock] at hb⟩
theorem Sep.keep {lo:Nat} {w w':World} {es:List Ent} (h:Sep lo w es) (hs:w.heap.size≤w'.heap.size):Sep lo w' es:=⟨h.nodup,fun b hb=>by have:=h.lies b hb;omega⟩
theorem Sep.lower {lo lo':Nat} {w:World} {es:List Ent} (h:Sep lo w es) (hs:lo'≤lo):Sep lo' w es:=⟨h.nodup,fun b hb=>by have:=h.lies b hb;omega⟩
theorem Flat.keep {w w':World} {f lo:Nat} {v:Value} {t:T} {es:List Ent} (h:Flat w f v t es) (hs:Sep lo w es) (hb:Below w.heap.size w w'):Flat w' f v t es:=h.move fun b hh=>hb.block b (hs.lies b hh).2
end Go.Proofs.YtknakfpciccoaabGreatDoor
/- Rows that their owner writes over with a mark. -/
namespace Go.Proofs.YtknakfpciccoaabGreatDoor
open Go.RowKit
theorem cat_len {s:Nat→List Ent} {g:Nat→Nat}:∀ k,(∀ i,i<k→(s i).length≤g i)→(catE s k).length≤((List.range k).map g).sum
 | 0,_=>by simp [catE]
 | k+1,h=>by
  rw [catE,List.length_append,List.range_succ,List.map_append,List.sum_append]
  have:=cat_len (s:=s) (g:=g) k (fun i hi=>h i (by omega))
  have:=h k (by omega)
  simp only [List.map_cons,List.map_nil,List.sum_cons,List.sum_nil]
  omega
theorem sumL_range (g:T→Nat) (t:T):∀ k,sumL g t k=((List.range k).map fun i=>g (elt t i)).sum
 | 0=>by simp [sumL]
 | k+1=>by rw [sumL,sumL_range g t k,List.range_succ,List.map_append,List.sum_append];simp
theorem sumL_ge1 {g:T→Nat} {t:T} (h:∀ t,1≤g t):∀ k,k≤sumL g t k
 | 0=>Nat.zero_le _
 | k+1=>by have:=sumL_ge1 (g:=g) (t:=t) h k;have:=h (elt t k);rw [sumL];omega
theorem sumL_one {g:T→Nat} {t:T} {i:Nat}:∀ {k:Nat},i<k→g (elt t i)≤sumL g t k
 | k+1,h=>by
  rw [sumL]
  by_cases e:i=k
  ·subst e;omega
  ·have:=sumL_one (g:=g) (t:=t) (i:=i) (k:=k) (by omega);omega
end Go.Proofs.YtknakfpciccoaabGreatDoor
/- Texts as values: how much a value holds, and how deep its lists go. -/
namespace Go.Proofs.YtknakfpciccoaabGreatDoor
open Go.RowKit
def Tame:Nat→T→Prop
 | 0,_=>True
 | f+1,t=>(isBox t=false→nL t=0)∧nK t≤nL t∧∀ i,i<nL t→Tame f (elt t i)
def cntT:Nat→T→Nat
 | 0,_=>1
 | f+1,t=>1+sumL (cntT f) t (nL t)
theorem cnt_pos (f:Nat) (t:T):1≤cntT f t:=by cases f<;>simp only [cntT]<;>omega
theorem sumL_all (g:T→Nat) (t:T):sumL g t (nL t)=((lOf t).map g).sum:=by
 rw [sumL_list _ _ _ (Nat.le_refl _)]
 have:(lOf t).take (nL t)=lOf t:=List.take_length
 rw [this]
theorem cnt_mk (f:Nat) (k n:Int) (s:ByteArray) (l:List T) (ks:List ByteArray):cntT (f+1) (mkT k n s l ks)=1+(l.map (cntT f)).sum:=by rw [cntT,sumL_all,lOf_mk]
theorem tame_mk {f:Nat} {k n:Int} {s:ByteArray} {l:List T} {ks:List ByteArray} (hk:k=5∨k=6) (hn:ks.length≤l.length) (hl:∀ x ∈ l,Tame f x):Tame (f+1) (mkT k n s l ks):=by
 refine ⟨fun h=>?_,by rw [nK_mk,nL_mk];exact hn,fun i hi=>?_⟩
 ·unfold isBox at h
  rw [kindOf_mk] at h
  rcases hk with rfl | rfl<;>simp at h
 ·rw [nL_mk] at hi
  have:elt (mkT k n s l ks) i=l[i]:=by
   unfold elt
   rw [lOf_mk,List.getD_eq_getElem?_getD,List.getElem?_eq_getElem hi]
   rfl
  rw [this]
  exact hl _ (List.getElem_mem hi)
theorem tame_leaf (f:Nat) (k n:Int) (s:ByteArray):Tame f (leafT k n s):=by
 cases f with
 | zero=>trivial
 | succ f =>
  unfold leafT
  refine ⟨fun _=>by rw [nL_mk];rfl,by rw [nK_mk,nL_mk];exact Nat.le_refl _,fun i hi=>?_⟩
  rw [nL_mk] at hi
  simp at hi
theorem cnt_leaf (f:Nat) (k n:Int) (s:ByteArray):cntT f (leafT k n s)=1:=by
 cases f with
 | zero=>rfl
 | succ f=>unfold leafT;rw [cnt_mk];rfl
theorem itm_cnt {f:Nat→Option (T×Nat)} {s:ByteArray} {g:T→Nat} {P:T→Prop} (hf:∀ i t e,i≤s.size→f i=some (t,e)→i<e∧e≤s.size) (hg:∀ i t e,i≤s.size→f i=some (t,e)→g t≤e - i∧P t) (o:Bool):∀ (m i:Nat) (r:(List ByteArray×List T)×Nat),i≤s.size→itm f s o m i=some r→(r.1.2.map g).sum≤r.2 - i∧(∀ x ∈ r.1.2,P x)∧r.1.1.length≤r.1.2.length∧i<r.2∧r.2≤s.size
 | 0,i,r,_,h=>by cases h
 | m+1,i,r,hi,h=>by
  have hadv:=itm_adv hf o (m+1) i r hi h
  rw [itm] at h
  cases hk:keyS s o i with
  | none=>rw [hk] at h;cases h
  | some p =>
   rw [hk] at h
   simp only [Option.bind_some] at h
   have h1:=keyS_adv hi hk
   cases hq:f p.2 with
   | none=>rw [hq] at h;cases h
   | some q =>
    rw [hq] at h
    simp only [Option.bind_some] at h
    have h2:=hf p.2 q.1 q.2 h1.2.1 hq
    have h2g:=hg p.2 q.1 q.2 h1.2.1 hq
    have h3:=sk_ge s q.2
    split at h
    ·rename_i hc
     have h4:=cB_in (s:=s) (i:=sk s q.2) (by omega)
     cases hr:itm f s o m (sk s q.2+1) with
     | none=>rw [hr] at h;cases h
     | some r' =>
      rw [hr] at h
      simp only [Option.map_some,Option.some.injEq] at h
      have h5:=itm_cnt hf hg o m _ r' (by omega) hr
      subst h
      refine ⟨?_,?_,?_,hadv⟩
      ·simp only [app,List.map_cons,List.sum_cons]
       omega
      ·intro x hx
       simp only [app,List.mem_cons] at hx
       rcases hx with rfl | hx
       ·exact h2g.2
       ·exact h5.2.1 x hx
      ·simp only [app]
       cases o<;>simp<;>omega
    ·split at h
     ·simp only [Option.some.injEq] at h
      subst h
      refine ⟨?_,?_,?_,hadv⟩
      ·simp only [app,List.map_cons,List.map_nil,List.sum_cons,List.sum_nil] at hadv ⊢
       omega
      ·intro x hx
       simp only [app,List.mem_singleton] at hx
       subst hx
       exact h2g.2
      ·simp only [app]
       cases o<;>simp
     ·cases h
theorem bareV_cnt {f:Nat→Option (T×Nat)} {s:ByteArray} {n:Nat} (hf:∀ i t e,i≤s.size→f i=some (t,e)→i<e∧e≤s.size) (hg:∀ i t e,i≤s.size→f i=some (t,e)→cntT n t≤e - i∧Tame n t) {j:Nat} {t:T} {e:Nat} (hj:j≤s.size) (h:bareV f s j=some (t,e)):cntT (n+1) t≤e - j∧Tame (n+1) t:=by
 have hadv:=bareV_adv hf hj h
 have hleaf:∀ k m x,t=leafT k m x→cntT (n+1) t≤e - j∧Tame (n+1) t:=by
  intro k m x hx
  subst hx
  rw [cnt_leaf]
  exact ⟨by omega,tame_leaf _ _ _ _⟩
 have hbox:∀ (o:Bool) (k:Int),(k=5∨k=6)→cB s j<256→(boxS f s o (j+1)).map (fun r=>(mkT k 0 ByteArray.empty r.1.2 r.1.1,r.2))=some (t,e)→cntT (n+1) t≤e - j∧Tame (n+1) t:=by
  intro o k hk hc hh
  have hj1:=cB_in hc
  have h3:=sk_ge s (j+1)
  have h5:=sk_le (s:=s) (i:=j+1) (by omega)
  cases hb:boxS f s o (j+1) with
  | none=>rw [hb] at hh;cases hh
  | some r =>
   rw [hb] at hh
   simp only [Option.map_some,Option.some.injEq,Prod.mk.injEq] at hh
   obtain ⟨rfl,rfl⟩:=hh
   unfold boxS at hb
   split at hb
   ·simp only [Option.some.injEq] at hb
    subst hb
    rw [cnt_mk]
    refine ⟨?_,tame_mk hk (by simp) (by simp)⟩
    simp only [List.map_nil,List.sum_nil]
    omega
   ·have:=itm_cnt hf hg o _ _ r h5 hb
    rw [cnt_mk]
    refine ⟨?_,tame_mk hk this.2.2.1 this.2.1⟩
    have h6:=this.1
    have h7:=this.2.2.2.1
    omega
 unfold bareV at h
 split at h
 ·cases ht:txtS s j with
  | none=>rw [ht] at h;cases h
  | some q =>
   rw [ht] at h
   simp only [Option.map_some,Option.some.injEq,Prod.mk.injEq] at h
   exact hleaf _ _ _ h.1.symm
 ·split at h
  ·exact hbox _ _ (by omega) (by omega) h
  ·split at h
   ·exact hbox _ _ (by omega) (by omega) h
   ·split at h
    ·cases ht:numS s j with
     | none=>rw [ht] at h;cases h
     | some q =>
      rw [ht] at h
      simp only [Option.map_some,Option.some.injEq,Prod.mk.injEq] at h
      exact hleaf _ _ _ h.1.symm
    ·split at h
     ·simp only [Option.some.injEq,Prod.mk.injEq] at h
      exact hleaf _ _ _ h.1.symm
     ·split at h
      ·simp only [Option.some.injEq,Prod.mk.injEq] at h
       exact hleaf _ _ _ h.1.symm
      ·split at h
       ·simp only [Option.some.injEq,Prod.mk.injEq] at h
        exact hleaf _ _ _ h.1.symm
       ·cases h
theorem valN_cnt {s:ByteArray}:∀ (n i:Nat) (t:T) (e:Nat),i≤s.size→valN s n i=some (t,e)→cntT n t≤e - i∧Tame n t
 | 0,_,_,_,_,h=>by cases h
 | n+1,i,t,e,hi,h=>by
  rw [valN] at h
  have:=bareV_cnt (fun i t e=>valN_adv n i t e) (fun i t e=>valN_cnt n i t e) (sk_le hi) h
  have h2:=sk_ge s i
  exact ⟨by omega,this.2⟩
theorem flat_cnt {w:World}:∀ {f:Nat} {v:Value} {t:T} {es:List Ent},Flat w f v t es→Tame f t→es.length≤cntT f t∧∀ e ∈ es,e.n≤cntT f t∧e.m≤cntT f t:=by
 intro f
 induction f with
 | zero=>intro v t es h;exact h.elim
 | succ f ih =>
  rintro v t es ⟨Lv,Kv,xs,sub,rfl,hf,hl,hk,hc,hn,rfl⟩ ⟨_,hkl,hg⟩
  have hge:=sumL_ge1 (g:=cntT f) (t:=t) (fun t=>cnt_pos f t) (nL t)
  rw [cntT]
  refine ⟨?_,fun e he=>?_⟩
  ·have:=cat_len (s:=sub) (g:=fun i=>cntT f (elt t i)) (nL t) (fun i hi=>(ih (hc i hi) (hg i hi)).1)
   rw [← sumL_range] at this
   rw [List.length_append,List.length_singleton]
   omega
  ·rw [List.mem_append] at he
   rcases he with he | he
   ·obtain ⟨i,hi,hh⟩:=mem_cat he
    have h1:=(ih (hc i hi) (hg i hi)).2 e hh
    have h2:=sumL_one (g:=cntT f) (t:=t) hi
    omega
   ·simp only [List.mem_singleton] at he
    subst he
    simp only
    omega
theorem deepL_one {g:T→Nat} {t:T} {i:Nat}:∀ {k:Nat},i<k→g (elt t i)≤deepL g t k
 | k+1,h=>by
  rw [deepL]
  by_cases e:i=k
  ·subst e;omega
  ·have:=deepL_one (g:=g) (t:=t) (i:=i) (k:=k) (by omega);omega
theorem flat_cut {w:World}:∀ {f n:Nat} {v:Value} {t:T} {es:List Ent},Flat w f v t es→Tame f t→deepT f t≤n→Flat w (n+1) v t es:=by
 intro f
 induction f with
 | zero=>intro n v t es h;exact h.elim
 | succ f ih =>
  rintro n v t es ⟨Lv,Kv,xs,sub,rfl,hf,hl,hk,hc,hn,rfl⟩ ⟨hb,_,hg⟩ hd
  refine ⟨Lv,Kv,xs,sub,rfl,hf,hl,hk,fun i hi=>?_,hn,rfl⟩
  cases hbx:isBox t with
  | false =>
   have:=hb hbx
   omega
  | true =>
   rw [deepT,if_pos hbx] at hd
   have h1:=deepL_one (g:=deepT f) (t:=t) hi
   obtain ⟨m,rfl⟩:∃ m,n=m+1:=⟨n - 1,by omega⟩
   exact ih (hc i hi) (hg i hi) (by omega)
end Go.Proofs.YtknakfpciccoaabGreatDoor
/- Texts as values: how much a value holds that was read. -/
namespace Go.Proofs.YtknakfpciccoaabGreatDoor
open Go.RowKit
theorem elt_mem {k n:Int} {s:ByteArray} {l:List T} {ks:List ByteArray} {i:Nat} (hi:i<nL (mkT k n s l ks)):elt (mkT k n s l ks) i ∈ l:=by
 unfold elt
 unfold nL at hi
 rw [lOf_mk] at hi ⊢
 have e:l.getD i DataW.nil=l[i]:=by simp [List.getD,List.getElem?_eq_getElem hi]
 rw [e]
 exact List.getElem_mem hi
theorem shal_mk {f:Nat} {k n:Int} {s:ByteArray} {l:List T} {ks:List ByteArray} (hl:∀ x ∈ l,Shal f x):Shal (f+1) (mkT k n s l ks):=fun _ hi=>hl _ (elt_mem hi)
theorem bareV_shal {f:Nat→Option (T×Nat)} {s:ByteArray} {n:Nat} (hf:∀ i t e,i≤s.size→f i=some (t,e)→i<e∧e≤s.size) (hg:∀ i t e,i≤s.size→f i=some (t,e)→Shal n t) {j:Nat} {t:T} {e:Nat} (h:bareV f s j=some (t,e)):Shal (n+1) t:=by
 have hleaf:∀ k m x,t=leafT k m x→Shal (n+1) t:=by
  intro k m x hx
  subst hx
  exact shal_mk (by simp)
 have hbox:∀ (o:Bool) (k:Int),cB s j<256→(boxS f s o (j+1)).map (fun r=>(mkT k 0 ByteArray.empty r.1.2 r.1.1,r.2))=some (t,e)→Shal (n+1) t:=by
  intro o k hc hh
  have hj1:=cB_in hc
  have h5:=sk_le (s:=s) (i:=j+1) (by omega)
  cases hb:boxS f s o (j+1) with
  | none=>rw [hb] at hh;cases hh
  | some r =>
   rw [hb] at hh
   simp only [Option.map_some,Option.some.injEq,Prod.mk.injEq] at hh
   obtain ⟨rfl,rfl⟩:=hh
   unfold boxS at hb
   split at hb
   ·simp only [Option.some.injEq] at hb
    subst hb
    exact shal_mk (by simp)
   ·exact shal_mk (itm_cnt (g:=fun _=>0) (P:=Shal n) hf (fun i t e hi h=>⟨Nat.zero_le _,hg i t e hi h⟩) o _ _ r h5 hb).2.1
 unfold bareV at h
 split at h
 ·cases ht:txtS s j with
  | none=>rw [ht] at h;cases h
  | some q =>
   rw [ht] at h
   simp only [Option.map_some,Option.some.injEq,Prod.mk.injEq] at h
   exact hleaf _ _ _ h.1.symm
 ·split at h
  ·exact hbox _ _ (by omega) h
  ·split at h
   ·exact hbox _ _ (by omega) h
   ·split at h
    ·cases ht:numS s j with
     | none=>rw [ht] at h;cases h
     | some q =>
      rw [ht] at h
      simp only [Option.map_some,Option.some.injEq,Prod.mk.injEq] at h
      exact hleaf _ _ _ h.1.symm
    ·split at h
     ·simp only [Option.some.injEq,Prod.mk.injEq] at h
      exact hleaf _ _ _ h.1.symm
     ·split at h
      ·simp only [Option.some.injEq,Prod.mk.injEq] at h
       exact hleaf _ _ _ h.1.symm
      ·split at h
       ·simp only [Option.some.injEq,Prod.mk.injEq] at h
        exact hleaf _ _ _ h.1.symm
       ·cases h
theorem valN_shal {s:ByteArray}:∀ (n i:Nat) (t:T) (e:Nat),i≤s.size→valN s n i=some (t,e)→Shal n t
 | 0,_,_,_,_,h=>by cases h
 | n+1,i,t,e,_,h=>by
  rw [valN] at h
  exact bareV_shal (fun i t e=>valN_adv n i t e) (fun i t e=>valN_shal n i t e) h
theorem tame_shal:∀ (f m:Nat) (t:T),Shal f t→Tame f t→Tame m t
 | 0,_,_,h,_=>h.elim
 | _+1,0,_,_,_=>trivial
 | f+1,m+1,_,h,ht=>⟨ht.1,ht.2.1,fun i hi=>tame_shal f m _ (h i hi) (ht.2.2 i hi)⟩
theorem sumL_le {g g':T→Nat} {t:T}:∀ k,(∀ i,i<k→g (elt t i)≤g' (elt t i))→sumL g t k≤sumL g' t k
 | 0,_=>Nat.le_refl _
 | k+1,h=>by
  have h1:=sumL_le (g:=g) (g':=g') (t:=t) k (fun i hi=>h i (by omega))
  have h2:=h k (by omega)
  simp only [sumL]
  omega
theorem cnt_shal:∀ (f m:Nat) (t:T),Shal f t→cntT m t≤cntT f t
 | 0,_,_,h=>h.elim
 | f+1,0,_,_=>by simp only [cntT];omega
 | f+1,m+1,t,h=>by
  have:=sumL_le (g:=cntT m) (g':=cntT f) (t:=t) (nL t) (fun i hi=>cnt_shal f m _ (h i hi))
  simp only [cntT]
  omega
theorem eJ_zero {s:ByteArray} (h:eJ s=0):s.size≤4000∧∃ j,valN s (s.size+1) 0=some (tJ s,j)∧sk s j=s.size∧deepT (s.size+1) (tJ s)≤12∧twiceT (s.size+1) (tJ s)=false:=by
 have hs:s.size≤4000:=by
  rcases Nat.lt_or_ge 4000 s.size with hl | hl
  ·unfold eJ at h;rw [if_pos hl] at h;omega
  ·exact hl
 refine ⟨hs,?_⟩
 cases hf:fullJ s with
 | none=>unfold eJ at h;rw [if_neg (by omega),hf] at h;cases h
 | some t =>
  have ht:tJ s=t:=by unfold tJ;rw [if_pos h,hf];rfl
  unfold eJ at h
  rw [if_neg (by omega),hf] at h
  simp only [Option.map_some,Option.getD_some] at h
  unfold fullJ at hf
  cases hv:valN s (s.size+1) 0 with
  | none=>rw [hv] at hf;cases hf
  | some p =>
   rw [hv] at hf
   simp only [Option.bind_some] at hf
   split at hf
   ·rename_i hsk
    simp only [Option.some.injEq] at hf
    subst hf
    rw [ht]
    refine ⟨p.2,rfl,hsk,?_,?_⟩
    ·rcases Nat.lt_or_ge 12 (deepT (s.size+1) p.1) with hl | hl
     ·rw [if_pos hl] at h;omega
     ·exact hl
    ·by_cases hd:12<deepT (s.size+1) p.1
     ·rw [if_pos hd] at h;omega
     ·rw [if_neg hd] at h
      cases htw:twiceT (s.size+1) p.1 with
      | false=>rfl
      | true=>rw [htw] at h;simp at h
   ·cases hf
theorem tJ_cnt {s:ByteArray} (h:eJ s=0) (m:Nat):cntT m (tJ s)≤4000∧Tame m (tJ s):=by
 obtain ⟨hs,j,hv,hj,_⟩:=eJ_zero h
 have h1:=valN_cnt _ _ _ _ (by omega) hv
 have h2:=valN_shal _ _ _ _ (by omega) hv
 have h3:=cnt_shal _ m _ h2
 have h4:=valN_adv _ _ _ _ (by omega) hv
 exact ⟨by omega,tame_shal _ m _ h2 h1.2⟩
end Go.Proofs.YtknakfpciccoaabGreatDoor
/- The texts of values that are made out of raw numbers: which they are, and how they are ordered. -/
namespace Go.Proofs.YtknakfpciccoaabGreatDoor
open Go.RowKit
def vtL : List (List UInt8) :=
  [[110, 117, 108, 108], [102, 97, 108, 115, 101], [116, 114, 117, 101],
   [45, 52], [45, 51], [45, 50], [45, 49], [48], [49], [50], [51], [52],
   [34, 97, 34], [34, 98, 34], [34, 99, 34], [91, 93],
   [91, 48, 44, 48, 93], [91, 48, 44, 49, 93], [91, 48, 44, 50, 93], [91, 48, 44, 51, 93], [91, 49, 44, 48, 93], [91, 49, 44, 49, 93], [91, 49, 44, 50, 93], [91, 49, 44, 51, 93],
   [91, 50, 44, 48, 93], [91, 50, 44, 49, 93], [91, 50, 44, 50, 93], [91, 50, 44, 51, 93], [91, 51, 44, 48, 93], [91, 51, 44, 49, 93], [91, 51, 44, 50, 93], [91, 51, 44, 51, 93],
   [123, 34, 98, 34, 58, 48, 125], [123, 34, 98, 34, 58, 49, 125], [123, 34, 98, 34, 58, 50, 125], [123, 34, 98, 34, 58, 51, 125]]
def vt (i:Nat):ByteArray:=baL (vtL.getD i [])
def nT (n:Int):T:=leafT 3 n ByteArray.empty
def l2T (a b:Int):T:=mkT 5 0 ByteArray.empty [nT a,nT b] []
def obT (a:Int):T:=mkT 6 0 ByteArray.empty [nT a] [⟨#[98]⟩]
def tvL : List T :=
  [leafT 1 0 ByteArray.empty, leafT 2 0 ByteArray.empty, leafT 2 1 ByteArray.empty,
   nT (-4), nT (-3), nT (-2), nT (-1), nT 0, nT 1, nT 2, nT 3, nT 4,
   leafT 4 0 ⟨#[97]⟩, leafT 4 0 ⟨#[98]⟩, leafT 4 0 ⟨#[99]⟩, mkT 5 0 ByteArray.empty [] [],
   l2T 0 0, l2T 0 1, l2T 0 2, l2T 0 3, l2T 1 0, l2T 1 1, l2T 1 2, l2T 1 3, l2T 2 0, l2T 2 1, l2T 2 2, l2T 2 3, l2T 3 0, l2T 3 1, l2T 3 2, l2T 3 3,
   obT 0, obT 1, obT 2, obT 3]
def tv (i:Nat):T:=tvL.getD i (leafT 0 0 ByteArray.empty)
set_option maxRecDepth 100000 in
theorem vt_size:((List.range 36).all fun i=>decide ((vt i).size≤10))=true:=by kernel_rfl
theorem vt_le {i:Nat} (h:i<36):(vt i).size≤10:=of_decide_eq_true (List.all_eq_true.1 vt_size i (List.mem_range.2 h))
def IsV (s:ByteArray):Prop:=∃ i,i<36∧s=vt i
theorem digit1 (n:Nat) (h:n<10):Lib.decDigits n=[(n+48).toUInt8]:=by
 rw [Lib.decDigits.eq_def,dif_pos h]
 first | rfl | (simp [Nat.add_comm])
theorem itoa_pos (n:Nat) (h:n<10):Lib.itoa (n:Int)=[(n+48).toUInt8]:=by
 unfold Lib.itoa
 rw [if_neg (by omega),Int.toNat_natCast,digit1 n h]
theorem itoa_neg (n:Nat) (h0:0<n) (h:n<10):Lib.itoa (-(n:Int))=[45,(n+48).toUInt8]:=by
 unfold Lib.itoa
 rw [if_pos (by omega),Int.natAbs_neg,Int.natAbs_natCast,digit1 n h]
theorem isV_num (d:Int):IsV (baL (Lib.itoa (d % 9 - 4))):=by
 have h:d % 9=0∨d % 9=1∨d % 9=2∨d % 9=3∨d % 9=4∨d % 9=5∨d % 9=6∨d % 9=7∨d % 9=8:=by omega
 rcases h with h | h | h | h | h | h | h | h | h<;>rw [h]
 ·exact ⟨3,by omega,by show baL (Lib.itoa (-((4:Nat):Int)))=_;rw [itoa_neg 4 (by omega) (by omega)];rfl⟩
 ·exact ⟨4,by omega,by show baL (Lib.itoa (-((3:Nat):Int)))=_;rw [itoa_neg 3 (by omega) (by omega)];rfl⟩
 ·exact ⟨5,by omega,by show baL (Lib.itoa (-((2:Nat):Int)))=_;rw [itoa_neg 2 (by omega) (by omega)];rfl⟩
 ·exact ⟨6,by omega,by show baL (Lib.itoa (-((1:Nat):Int)))=_;rw [itoa_neg 1 (by omega) (by omega)];rfl⟩
 ·exact ⟨7,by omega,by show baL (Lib.itoa ((0:Nat):Int))=_;rw [itoa_pos 0 (by omega)];rfl⟩
 ·exact ⟨8,by omega,by show baL (Lib.itoa ((1:Nat):Int))=_;rw [itoa_pos 1 (by omega)];rfl⟩
 ·exact ⟨9,by omega,by show baL (Lib.itoa ((2:Nat):Int))=_;rw [itoa_pos 2 (by omega)];rfl⟩
 ·exact ⟨10,by omega,by show baL (Lib.itoa ((3:Nat):Int))=_;rw [itoa_pos 3 (by omega)];rfl⟩
 ·exact ⟨11,by omega,by show baL (Lib.itoa ((4:Nat):Int))=_;rw [itoa_pos 4 (by omega)];rfl⟩
end Go.Proofs.YtknakfpciccoaabGreatDoor
