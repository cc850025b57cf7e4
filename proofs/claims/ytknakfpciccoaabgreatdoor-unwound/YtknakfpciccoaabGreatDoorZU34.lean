import Derived.Test.YtknakfpciccoaabGreatDoorZU33
import Derived.Test.YtknakfpciccoaabGreatDoorZU29
import Derived.Test.YtknakfpciccoaabGreatDoorZU25
import Derived.Test.YtknakfpciccoaabGreatDoorZU27
import Derived.Test.YtknakfpciccoaabGreatDoorZU28
/- The groups are handed on, one behind the other. -/
namespace Go.Proofs.YtknakfpciccoaabGreatDoor
open Go.RowKit
def emE (made : List T) (d : T) : Int⊕List T:=if tooBig d then .inl 15 else .inr (made ++ [d])
theorem emE_all : ∀ (l : List T) (k : Nat) (s s' : List T),eachE emE l k s=.inr s'→s'=s ++ l∧∀ i,(h : i<l.length)→tooBig l[i]=false
 | [],k,s,s',h=>by
  simp only [eachE,Sum.inr.injEq] at h
  exact ⟨by rw [← h,List.append_nil],fun i h=>absurd h (Nat.not_lt_zero i)⟩
 | d :: r,k,s,s',h=>by
  simp only [eachE] at h
  cases hb : tooBig d with
  | true =>
   rw [show emE s d=.inl 15 by unfold emE; rw [hb]; rfl] at h
   cases h
  | false =>
   rw [show emE s d=.inr (s ++ [d]) by unfold emE; rw [hb]; rfl] at h
   obtain ⟨h1,h2⟩:=emE_all r (k+1) (s ++ [d]) s' h
   refine ⟨by rw [h1,List.append_assoc]; rfl,fun i hi=>?_⟩
   cases i with
   | zero=>exact hb
   | succ i=>exact h2 i (by rw [List.length_cons] at hi; omega)
structure EmI (W2 : World) (c : Nat) (gxs : List Value) (n : Nat) (v : Value) (xs : List Value) (w : World) : Prop where
 made : Mk w c v n xs
 own : ∀ b,v.ownBlock=some b→W2.heap.size≤b
 os : w.os=W2.os
 tape : w.tape=W2.tape
 output : w.output=W2.output
 size : W2.heap.size≤w.heap.size
 block : ∀ b,b<W2.heap.size→b≠c→w.heap[b]?=W2.heap[b]?
 el : ∀ i,i<n→fv xs i=fv gxs i
theorem EmI.start {W2 : World} {c : Nat} (gxs : List Value) (h0 : W2.cell? ⟨c,0,none⟩=some (.slice none 0 0)) (hf : W2.frozen? ⟨c,0,none⟩=false) (hc : c<W2.heap.size) : EmI W2 c gxs 0 (.slice none 0 0) [] W2 :=
 ⟨⟨h0,hf,hc,World.ownsRow_nil _ _ _ _,by simp [Value.ownBlock]⟩,fun b e=>by simp [Value.ownBlock] at e,rfl,rfl,rfl,Nat.le_refl _,fun _ _ _=>rfl,fun i hi=>absurd hi (Nat.not_lt_zero i)⟩
theorem EmI.keep {W2 : World} {c : Nat} {gxs : List Value} {n : Nat} {v : Value} {xs : List Value} {w w' : World} (h : EmI W2 c gxs n v xs w) (hb : Below w.heap.size w w') : EmI W2 c gxs n v xs w' :=
 ⟨h.made.keep hb,h.own,hb.os.trans h.os,hb.tape.trans h.tape,hb.output.trans h.output,Nat.le_trans h.size hb.size,fun b h1 h2=>(hb.block b (Nat.lt_of_lt_of_le h1 h.size)).trans (h.block b h1 h2),h.el⟩
theorem emit_em {Tb : World→Prop} (hV : ValidSaid Tb) (hL : Lies Tb) (W2 w0 wr wx : World) (c n : Nat) (gxs : List Value) (v : Value) (xs : List Value) (made : List T) (t : T) (A C : Option Addr) (B D : Nat) (h : EmI W2 c gxs n v xs wr) (hb : Below wr.heap.size wr wx) (hn : n≤1000000) (hc : w0.heap.size≤c) (hcw : c<W2.heap.size) (hf : fv gxs n=.agg #[.int .i64 (kindOf t),.int .i64 (nOf t),.string (sOf t),.slice A (nL t) B,.slice C (nK t) D]) (ha : AtP (fun b=>b≠c) W2 15 (.agg #[.int .i64 (kindOf t),.int .i64 (nOf t),.string (sOf t),.slice A (nL t) B,.slice C (nK t) D]) t) (hT : Tb wx) :
  Calls Tryz.prog 227 #[.pointer (some ⟨c,0,none⟩),.agg #[.int .i64 (kindOf t),.int .i64 (nOf t),.string (sOf t),.slice A (nL t) B,.slice C (nK t) D]] wx (WkPost emE made (fun s' w'=>s'=made ++ [t]∧∃ v xs,EmI W2 c gxs (n+1) v xs w') t w0 wx):=by
 have h':=h.keep hb
 have hat : AtP (fun _=>True) wx 15 (.agg #[.int .i64 (kindOf t),.int .i64 (nOf t),.string (sOf t),.slice A (nL t) B,.slice C (nK t) D]) t:=ha.move h'.size fun b h1 h2=>⟨True.intro,h'.block b h1 h2⟩
 have hsz:=h'.size
 refine (emit_any hV hL c 15 t v n xs A C B D wx h'.made hn hat.at hT).mono ?_
 rintro e w' (⟨b2,hbig,rfl⟩ | ⟨hB,hbig,rfl,hoff,g,cap,q0,f0,hg,hO⟩)
 ·exact ⟨b2.mono (by omega),.inl ⟨15,by unfold emE; rw [hbig]; rfl,by decide,rfl⟩⟩
 ·have hx : xs.length=n * 5:=h'.made.row.1
  have s2:=hB.size
  have old : ∀ b,b<W2.heap.size→b≠c→w'.heap[b]?=wx.heap[b]?:=fun b h1 h2=>hB.block b (by omega) h2 (fun e=>by have:=h'.own b e.symm; omega)
  have hgW : W2.heap.size≤g:=by
   rcases hg with hg | hg
   ·exact h'.own g hg
   ·omega
  refine ⟨⟨hB.os,hB.tape,hB.output,hB.size,fun b hb'=>old b (by omega) (by omega)⟩,.inr ⟨made ++ [t],by unfold emE; rw [hbig]; rfl,rfl,rfl,_,_,⟨q0,f0,by omega,hO,?_⟩,?_,hB.os.trans h'.os,hB.tape.trans h'.tape,hB.output.trans h'.output,by omega,fun b h1 h2=>(old b h1 h2).trans (h'.block b h1 h2),fun i hi=>?_⟩⟩
  ·simp only [Value.ownBlock,ne_eq,Option.some.injEq]
   omega
  ·intro b e
   simp only [Value.ownBlock,Option.some.injEq] at e
   omega
  ·by_cases e : i<n
   ·rw [fv_first hx e]; exact h'.el i e
   ·obtain rfl : i=n:=by omega
    rw [fv_last hx,hf]
theorem EmI.docs {W2 : World} {c : Nat} {gxs : List Value} {v : Value} {xs : List Value} {w : World} {l : List T} (h : EmI W2 c gxs l.length v xs w) (hn : l.length≤1000000) (ha : ∀ i,(h : i<l.length)→AtP (fun b=>b≠c) W2 15 (fv gxs i) l[i]) (hs : ∀ i,(h : i<l.length)→tooBig l[i]=false) : DocsAt w v l:=by
 have h1:=h.made
 have hx : xs.length=l.length * 5:=h1.row.1
 rcases h1.row.2 with ⟨rfl,h0⟩ | ⟨g,cap,cur,rfl,hb0,hg,hnc,hcm,rest⟩
 ·exact ⟨none,0,by rw [h0],hn,by omega,by omega,fun i hi=>by rw [nL_mk] at hi; omega,fun i hi=>(small_good (hs i hi)).2⟩
 ·refine ⟨_,_,rfl,hn,hnc,by unfold maxLen at hcm; omega,fun i hi=>?_,fun i hi=>(small_good (hs i hi)).2⟩
  rw [nL_mk] at hi
  have hc : ∀ j,j<5→w.cell? ⟨g,i * 5+j,none⟩=some (cx xs (i * 5+j)):=fun j hj=>row_cell h1.row (cx_some (by omega))
  refine ⟨g,0,cx xs (i * 5),cx xs (i * 5+1),cx xs (i * 5+2),cx xs (i * 5+3),cx xs (i * 5+4),rfl,(Array.getElem?_eq_some_iff.1 hg).1,(by rw [Nat.zero_add]; exact hc 0 (by omega)),(by rw [Nat.zero_add]; exact hc 1 (by omega)),(by rw [Nat.zero_add]; exact hc 2 (by omega)),(by rw [Nat.zero_add]; exact hc 3 (by omega)),(by rw [Nat.zero_add]; exact hc 4 (by omega)),?_⟩
  rw [elt_docs l hi]
  show At w 13 (fv xs i) l[i]
  rw [h.el i hi]
  have h2 : AtP (fun _=>True) w 15 (fv gxs i) l[i]:=(ha i hi).move h.size fun b k1 k2=>⟨True.intro,h.block b k1 k2⟩
  exact (h2.fit (small_good (hs i hi)).1).at
end Go.Proofs.YtknakfpciccoaabGreatDoor
/- How groups grow; how they begin. -/
namespace Go.Proofs.YtknakfpciccoaabGreatDoor
open Go.RowKit
theorem rowE_low (doc : T) : ∀ (es : List (ByteArray×(T→Int⊕T))) (k : Nat) (a a' : List T),rowE doc es k a=.inr a'→∀ j,j<k→a'.getD j zeroT=a.getD j zeroT
 | [],k,a,a',h,j,hj=>by
  simp only [rowE,Sum.inr.injEq] at h
  rw [h]
 | e0 :: es,k,a,a',h,j,hj=>by
  rw [rowE] at h
  cases h0 : accS e0.2 e0.1 (a.getD k zeroT) doc with
  | inl y=>rw [h0] at h; cases h
  | inr t =>
   rw [h0] at h
   rw [rowE_low doc es (k+1) (a.set k t) a' h j (by omega),List.getD_eq_getElem?_getD,List.getElem?_set_ne (by omega),← List.getD_eq_getElem?_getD]
theorem accS_nL {g : T→Int⊕T} {op : ByteArray} {s doc t : T} (ho : op=gList) (h : accS g op s doc=.inr t) : nL t≤nL s+1:=by
 unfold accS at h
 rw [if_pos ho] at h
 cases hg : g doc with
 | inl x=>rw [hg] at h; cases h
 | inr v =>
  rw [hg] at h
  simp only [Sum.inr.injEq] at h
  rw [← h,nL_mk,List.length_append]
  exact Nat.le_refl _
theorem rowE_nL (doc : T) : ∀ (es : List (ByteArray×(T→Int⊕T))) (k : Nat) (a a' : List T),rowE doc es k a=.inr a'→∀ j,(hj : j<es.length)→es[j].1=gList→nL (a'.getD (k+j) zeroT)≤nL (a.getD (k+j) zeroT)+1
 | [],k,a,a',h,j,hj,_=>absurd hj (Nat.not_lt_zero j)
 | e0 :: es,k,a,a',h,j,hj,ho=>by
  rw [rowE] at h
  cases h0 : accS e0.2 e0.1 (a.getD k zeroT) doc with
  | inl y=>rw [h0] at h; cases h
  | inr t =>
   rw [h0] at h
   cases j with
   | zero =>
    rw [Nat.add_zero,rowE_low doc es (k+1) (a.set k t) a' h k (by omega)]
    by_cases hk : k<a.length
    ·rw [List.getD_eq_getElem?_getD,List.getElem?_set_self hk]
     exact accS_nL ho h0
    ·rw [List.getD_eq_getElem?_getD,List.getElem?_eq_none (by rw [List.length_set]; omega)]
     exact Nat.zero_le _
   | succ j =>
    have:=rowE_nL doc es (k+1) (a.set k t) a' h j (by rw [List.length_cons] at hj; omega) ho
    rw [show k+1+j=k+(j+1) by omega] at this
    rw [show (a.set k t).getD (k+(j+1)) zeroT=a.getD (k+(j+1)) zeroT by rw [List.getD_eq_getElem?_getD,List.getElem?_set_ne (by omega),← List.getD_eq_getElem?_getD]] at this
    exact this
theorem stRow_ne (S : List (T×List T)) (i : Nat) (a : List T) {k : Nat} (hk : k<S.length) (h : ¬ i=k) : (stRow S i a)[k]'(by rw [stRow_len]; exact hk)=S[k]:=by
 unfold stRow
 rw [List.getElem_modify,if_neg h]
theorem takE_form {gb : T→Int⊕T} {es : List (ByteArray×(T→Int⊕T))} {st st' : List (T×List T)} {doc : T} (h : takE gb es st doc=.inr st') : ∃ b a,rowE doc es 0 ((gthS es.length st b)[gthI st b]'(gth_lt _ _ _)).2=.inr a∧st'=stRow (gthS es.length st b) (gthI st b) a:=by
 unfold takE at h
 cases hg : gb doc with
 | inl x=>rw [hg] at h; cases h
 | inr b =>
  rw [hg] at h
  dsimp only at h
  cases hr : rowE doc es 0 ((gthS es.length st b)[gthI st b]'(gth_lt _ _ _)).2 with
  | inl x=>rw [hr] at h; cases h
  | inr a =>
   rw [hr] at h
   simp only [Sum.inr.injEq] at h
   exact ⟨b,a,hr,h.symm⟩
theorem gthS_len (n : Nat) (st : List (T×List T)) (b : T) : (gthS n st b).length≤st.length+1:=by
 unfold gthS
 by_cases h : gthI st b<st.length
 ·rw [if_pos h]; omega
 ·rw [if_neg h,List.length_append]; exact Nat.le_refl _
theorem takE_len {gb : T→Int⊕T} {es : List (ByteArray×(T→Int⊕T))} {st st' : List (T×List T)} {doc : T} (h : takE gb es st doc=.inr st') : st'.length≤st.length+1:=by
 obtain ⟨b,a,_,rfl⟩:=takE_form h
 rw [stRow_len]
 exact gthS_len _ _ _
theorem takE_nL {gb : T→Int⊕T} {es : List (ByteArray×(T→Int⊕T))} {st st' : List (T×List T)} {doc : T} {N : Nat} (h : takE gb es st doc=.inr st') (hl : ∀ i,(h : i<st.length)→∀ j,(∃ hj : j<es.length,es[j].1=gList)→nL (st[i].2.getD j zeroT)≤N) : ∀ i,(h : i<st'.length)→∀ j,(∃ hj : j<es.length,es[j].1=gList)→nL (st'[i].2.getD j zeroT)≤N+1:=by
 obtain ⟨b,a,hr,rfl⟩:=takE_form h
 intro i hi j hj
 have hi2 : i<(gthS es.length st b).length:=by rw [stRow_len] at hi; exact hi
 by_cases e : gthI st b=i
 ·subst e
  rw [stRow_get _ _ _ hi2]
  have h1:=rowE_nL doc es 0 _ a hr j hj.1 hj.2
  rw [Nat.zero_add] at h1
  have h2:=gth_nL (n:=es.length) b hl j hj
  omega
 ·have e1 : (stRow (gthS es.length st b) (gthI st b) a)[i]=(gthS es.length st b)[i]:=stRow_ne _ _ _ hi2 e
  rw [e1]
  have hle : gthI st b≤st.length:=List.findIdx_le_length
  by_cases e2 : gthI st b<st.length
  ·have e3 : gthS es.length st b=st:=by unfold gthS; rw [if_pos e2]
   simp only [e3] at hi2 ⊢
   have:=hl i hi2 j hj
   omega
  ·have e3 : gthS es.length st b=st ++ [(b,List.replicate es.length zeroT)]:=by unfold gthS; rw [if_neg e2]
   have hi3 : i<st.length:=by
    rw [e3,List.length_append,List.length_cons,List.length_nil] at hi2
    omega
   simp only [e3,List.getElem_append_left hi3]
   have:=hl i hi3 j hj
   omega
theorem GrI.start (w : World) (NA : Option Addr) (nc : Nat) (bv ev : Value) (ops : List ByteArray) : GrI w w.heap.size NA nc bv ev ops (fun b=>if b=w.heap.size then .box else .no) (.slice none 0 0) [] (fun _=>0) (fun _=>[]) [] (w.alloc (.cells #[.slice none 0 0,.slice NA (ops.length+1) nc,bv,ev,.slice none 0 0] 178)):=by
 refine ⟨if_pos rfl,fun b hb=>?_,by simp [go_sem],by simp [go_sem],by simp [go_sem],by simp [go_sem],by simp [go_sem],by simp [go_sem],by simp [go_sem],World.ownsRow_nil _ _ _ _,fun b e=>by simp [Value.ownBlock] at e,fun i hi=>absurd hi (Nat.not_lt_zero i),fun i hi=>absurd hi (Nat.not_lt_zero i),fun i hi=>absurd hi (Nat.not_lt_zero i),fun i hi=>absurd hi (Nat.not_lt_zero i),fun i hi=>absurd hi (Nat.not_lt_zero i),fun i hi=>absurd hi (Nat.not_lt_zero i)⟩
 by_cases e : b=w.heap.size
 ·subst e
  exact ⟨Nat.le_refl _,by simp⟩
 ·simp only [if_neg e] at hb
  exact absurd rfl hb
end Go.Proofs.YtknakfpciccoaabGreatDoor
/- The walk of a group's run: $group is a stage. -/
namespace Go.Proofs.YtknakfpciccoaabGreatDoor
open Go.RowKit
def grpS (gb : T→Int⊕T) (es : List (ByteArray×(T→Int⊕T))) (ks : List ByteArray) (l : List T) : (Nat×Int)⊕List T:=match eachE (takE gb es) l 0 [] with
 | .inl e=>.inl e
 | .inr st=>eachE emE (st.map (grpT ks)) 0 []
theorem row_cells5 {w wr : World} {lo g n cap : Nat} {xs : List Value} (h : w.ownsRow lo 36 5 (.slice (some ⟨g,0,none⟩) n cap) n xs) {k : Nat} (hk : k<n) {u0 u1 u2 u3 u4 : Value} (hf : fv xs k=.agg #[u0,u1,u2,u3,u4]) (hb : wr.heap[g]?=w.heap[g]?) :
  wr.cell? ⟨g,0+k * 5,none⟩=some u0∧wr.cell? ⟨g,0+k * 5+1,none⟩=some u1∧wr.cell? ⟨g,0+k * 5+2,none⟩=some u2∧wr.cell? ⟨g,0+k * 5+3,none⟩=some u3∧wr.cell? ⟨g,0+k * 5+4,none⟩=some u4:=by
 have hx : xs.length=n * 5:=h.1
 unfold fv at hf
 simp only [Value.agg.injEq,Array.mk.injEq,List.cons.injEq,and_true] at hf
 have hc : ∀ r,r<5→wr.cell? ⟨g,0+k * 5+r,none⟩=some (cx xs (k * 5+r)):=fun r hr'=>by
  rw [cell_of hb,show 0+k * 5+r=k * 5+r by omega]
  exact row_cell h (cx_some (by omega))
 refine ⟨?_,?_,?_,?_,?_⟩
 ·rw [← hf.1]; exact hc 0 (by omega)
 ·rw [← hf.2.1]; exact hc 1 (by omega)
 ·rw [← hf.2.2.1]; exact hc 2 (by omega)
 ·rw [← hf.2.2.2.1]; exact hc 3 (by omega)
 ·rw [← hf.2.2.2.2]; exact hc 4 (by omega)
set_option maxHeartbeats 4000000 in
set_option maxRecDepth 100000 in
theorem gsecond_any {Tb : World→Prop} (hV : ValidSaid Tb) (hL : Lies Tb) (w0 w2 : World) (c : Nat) (NA : Option Addr) (nc : Nat) (bv ev : Value) (ops : List ByteArray) (L : Nat→Lab) (gv : Value) (xs : List Value) (rb : Nat→Nat) (ys : Nat→List Value) (st : List (T×List T)) (ks : List ByteArray) (h : GrI w0 c NA nc bv ev ops L gv xs rb ys st w2) (hb : Below w0.heap.size w0 w2) (hk : StrsAt w0 (.slice NA (ops.length+1) nc) ks) (ho : ops.length≤100000) (hn : st.length≤1000000) (hT : Tb w0) :
  Calls Tryz.prog 225 #[.pointer (some ⟨c,0,none⟩),gv,.func (Fn.func 227) #[.pointer (some ⟨c,0,none⟩)] #[]] w2 fun e w'=>Below w0.heap.size w2 w'∧((∃ (k : Nat) (x : Int),eachE emE (st.map (grpT ks)) 0 []=.inl (k,x)∧x≠0∧e=.returned (.tuple #[.slice none 0 0,.int .i64 k,.int .i64 x]))∨∃ r v,eachE emE (st.map (grpT ks)) 0 []=.inr r∧e=.returned (.tuple #[v,.int .i64 0,.int .i64 0])∧DocsAt w' v r):=by
 obtain ⟨GA,gc,rfl,_⟩:=h.elems hb hk ho
 have hcl:=h.low c (by rw [h.lc]; intro e; cases e)
 have hlen : (st.map (grpT ks)).length=st.length:=List.length_map _
 have hat : ∀ i,(hi : i<(st.map (grpT ks)).length)→AtP (fun b=>b≠c) w2 15 (fv xs i) (st.map (grpT ks))[i]:=fun i hi=>by
  rw [List.getElem_map]
  exact h.grpP hb hk ho (by rw [hlen] at hi; exact hi)
 have hmain:=eachG_any emE (fun k s w'=>s=(st.map (grpT ks)).take k∧∃ v zs,EmI w2 c xs k v zs w') 227 (fun _ _=>rfl) (.pointer (some ⟨c,0,none⟩)) c GA gc (st.map (grpT ks)) [] w0 w2 (by rw [hlen]; exact hn) ⟨rfl,_,_,EmI.start xs h.c0 h.f0 hcl.2⟩
  (fun k s w' hI=>by obtain ⟨_,v,zs,hE⟩:=hI; exact ⟨v,hE.made.cell⟩)
  (fun k s w' hI=>by obtain ⟨_,v,zs,hE⟩:=hI; exact Nat.le_trans hb.size hE.size)
  (fun k s d wr hkl hd hI=>by
   obtain ⟨hs,v,zs,hE⟩:=hI
   have ha:=hat k hkl
   rw [hd] at ha
   obtain ⟨g1,A,C,B,D,_,hf,_,_,_⟩:=ha.at.open
   have hks : k<st.length:=by rw [hlen] at hkl; exact hkl
   have hg:=h.grow
   rcases h.grow.2 with ⟨e1,h0⟩ | ⟨g,cap,cur,e1,hb0,hgb,rest⟩
   ·omega
   ·simp only [Value.slice.injEq,true_and] at e1
    obtain ⟨rfl,rfl⟩:=e1
    have hgl:=h.gl g rfl
    have hgw:=h.low g (by rw [hgl]; intro e; cases e)
    obtain ⟨p0,p1,p2,p3,p4⟩:=row_cells5 hg hks hf (hE.block g hgw.2 (fun e=>by rw [e,h.lc] at hgl; cases hgl))
    refine ⟨g,0,A,B,C,D,rfl,p0,p1,p2,p3,p4,fun wx hbx=>?_⟩
    rw [hf] at ha
    have hTx : Tb wx:=hL w0 hT w0 wx hT (by
     have h':=hE.keep hbx
     exact ⟨h'.os.trans hb.os,h'.tape.trans hb.tape,h'.output.trans hb.output,Nat.le_trans hb.size h'.size,fun b hb'=>(h'.block b (Nat.lt_of_lt_of_le hb' hb.size) (by omega)).trans (hb.block b hb')⟩)
    refine (emit_em hV hL w2 w0 wr wx c k xs v zs s d A C B D hE hbx (by omega) hcl.1 hcl.2 hf ha hTx).mono ?_
    rintro e w' ⟨k1,k2 | ⟨s',k2,k3,k4,k5⟩⟩
    ·exact ⟨k1,.inl k2⟩
    ·refine ⟨k1,.inr ⟨s',k2,k3,?_,k5⟩⟩
     rw [k4,hs,List.take_add_one,List.getElem?_eq_getElem hkl,hd]
     rfl)
 rw [hlen] at hmain
 refine hmain.mono ?_
 rintro e w' ⟨k1,k2 | ⟨s',v,k2,⟨k3,v',zs,hE⟩,k5,k6⟩⟩
 ·exact ⟨k1,.inl k2⟩
 ·obtain ⟨q1,q2⟩:=emE_all _ _ _ _ k2
  rw [List.nil_append] at q1
  obtain rfl : v'=v:=Option.some.inj (hE.made.cell.symm.trans k5)
  refine ⟨k1,.inr ⟨s',v',k2,k6,?_⟩⟩
  rw [q1]
  rw [← hlen] at hE
  exact hE.docs (by rw [hlen]; exact hn) hat q2
end Go.Proofs.YtknakfpciccoaabGreatDoor
/- Small values; the values that paths lead to in the statements' documents; lists of numbers. -/
namespace Go.Proofs.YtknakfpciccoaabGreatDoor
open Go.RowKit
structure Sm (b : T) : Prop where
 good : Good 11 b
 bytes : bytesT 11 b≤100
 fit : FitT 4 b
 can : canT 11 b=b
 wr : (wrT 11 b).length≤200
theorem nT_sm {n : Int} (h0 : -9223372036854775808≤n) (h1 : n≤9223372036854775807) : Sm (nT n) :=
 ⟨nT_good n 11,by rw [nT_bytes]; omega,⟨(nT_fit h0 h1).1,fun i hi=>absurd hi (Nat.not_lt_zero i),fun i hi=>absurd hi (Nat.not_lt_zero i)⟩,rfl,by rw [nT_wr]; have:=Lib.itoa_length_le n h0 h1; omega⟩
def stI : ByteArray:=⟨#[95,105,100]⟩
def stA : ByteArray:=⟨#[97]⟩
def numsT (is : List Int) : T:=mkT 5 0 ByteArray.empty (is.map nT) []
theorem nums_elt (is : List Int) {k : Nat} (h : k<is.length) : elt (numsT is) k=nT is[k]:=by
 unfold numsT
 rw [elt_mk,List.getD_eq_getElem?_getD,List.getElem?_map,List.getElem?_eq_getElem h]
 rfl
theorem nums_nL (is : List Int) : nL (numsT is)=is.length:=by unfold numsT; rw [nL_mk,List.length_map]
def in64 (n : Int) : Prop:=-9223372036854775808≤n∧n≤9223372036854775807
theorem nums_good (is : List Int) (m : Nat) : Good (m+1) (numsT is) :=
 .inr ⟨rfl,noText_mk _ _ _ _,fun i hi=>by rw [nums_nL] at hi; rw [nums_elt is hi]; exact nT_good _ m,.inl ⟨rfl,rfl⟩⟩
theorem nums_sum (is : List Int) : ∀ k,k≤is.length→sumL (bytesT 10) (numsT is) k=9 * k
 | 0,_=>rfl
 | k+1,h=>by
  have e : bytesT 10 (nT is[k])=9:=by kernel_rfl
  rw [sumL,nums_sum is k (by omega),nums_elt is (by omega),e]
  omega
theorem nums_bytes (is : List Int) : bytesT 11 (numsT is)=5+9 * is.length:=by
 have e : bytesT 11 (numsT is)=5+sumL (bytesT 10) (numsT is) (nL (numsT is)):=rfl
 rw [e,nums_nL,nums_sum is _ (Nat.le_refl _)]
theorem fits_small5 (is : List Int) (hn : is.length≤100) : Fits (numsT is) :=
 ⟨by show (-9223372036854775808 : Int)≤5; omega,by show (5 : Int)≤9223372036854775807; omega,by show (-9223372036854775808 : Int)≤0; omega,by show (0 : Int)≤9223372036854775807; omega,by show (0 : Nat)≤_; omega,by rw [nums_nL]; omega,by show (0 : Nat)≤_; omega⟩
theorem nums_fit {is : List Int} (hn : is.length≤100) (h : ∀ x ∈ is,in64 x) : FitT 4 (numsT is):=by
 refine ⟨fits_small5 is hn,fun i hi=>?_,fun i hi=>absurd hi (Nat.not_lt_zero i)⟩
 rw [nums_nL] at hi
 rw [nums_elt is hi]
 have:=h is[i] (List.getElem_mem hi)
 exact nT_fit this.1 this.2
theorem nums_can (is : List Int) : canT 11 (numsT is)=numsT is:=by
 show mkT 5 0 ByteArray.empty ((is.map nT).map (canT 10)) []=_
 rw [List.map_map]
 rfl
theorem nums_join {is : List Int} (h : ∀ x ∈ is,in64 x) : ∀ k,k≤is.length→(joinL (wrT 10) (numsT is) k).length≤22 * k
 | 0,_=>Nat.le_refl _
 | k+1,hk=>by
  have h1:=nums_join h k (by omega)
  have h2:=h is[k] (List.getElem_mem (by omega))
  have h3:=Lib.itoa_length_le is[k] h2.1 h2.2
  have e : wrT 10 (nT is[k])=Lib.itoa is[k]:=by
   rw [wrT_leaf (by show (3 : Int)≠5; decide) (by show (3 : Int)≠6; decide)]
   rfl
  rw [joinL,nums_elt is (by omega),e,List.length_append,List.length_append]
  by_cases e0 : k=0
  ·rw [if_pos e0]
   simp only [List.length_nil]
   omega
  ·rw [if_neg e0]
   simp only [List.length_cons,List.length_nil]
   omega
theorem nums_wr {is : List Int} (h : ∀ x ∈ is,in64 x) : (wrT 11 (numsT is)).length≤2+22 * is.length:=by
 have e : wrT 11 (numsT is)=91 :: (joinL (wrT 10) (numsT is) (nL (numsT is)) ++ [93]):=rfl
 have:=nums_join h is.length (Nat.le_refl _)
 rw [e,nums_nL,List.length_cons,List.length_append]
 simp only [List.length_cons,List.length_nil]
 omega
end Go.Proofs.YtknakfpciccoaabGreatDoor
/- What the groups of Summed are. -/
namespace Go.Proofs.YtknakfpciccoaabGreatDoor
open Go.RowKit
def idE (d : T) : Int⊕T:=.inr (orNull [stI] d)
theorem acc_list {g : T→Int⊕T} {s doc : T} {a : Int} (hg : g doc=.inr (nT a)) : accS g gList s doc=.inr (mkT 5 0 ByteArray.empty (lOf s ++ [nT a]) []):=by
 unfold accS
 rw [if_pos rfl,hg]
theorem rowE_cons {doc : T} {op : ByteArray} {g : T→Int⊕T} {es : List (ByteArray×(T→Int⊕T))} {k : Nat} {a : List T} {x t : T} {a' : List T} (hx : a.getD k zeroT=x) (h : accS g op x doc=.inr t) (ha : a.set k t=a') : rowE doc ((op,g) :: es) k a=rowE doc es (k+1) a':=by
 subst hx
 subst ha
 rw [rowE,h]
theorem modify_last {α : Type} (x : α) (f : α→α) : ∀ A : List α,(A ++ [x]).modify A.length f=A ++ [f x]
 | []=>rfl
 | a :: r=>by
  have:=modify_last x f r
  rw [List.cons_append,List.length_cons,List.modify_succ_cons,this]
  rfl
end Go.Proofs.YtknakfpciccoaabGreatDoor
/- value: one text for each number, in whatever world. -/
namespace Go.Proofs.YtknakfpciccoaabGreatDoor
open Go.RowKit
end Go.Proofs.YtknakfpciccoaabGreatDoor
/- test of the statements. -/
namespace Go.Proofs.YtknakfpciccoaabGreatDoor
open Go.RowKit
end Go.Proofs.YtknakfpciccoaabGreatDoor
/- test of the statements: the other kinds. -/
namespace Go.Proofs.YtknakfpciccoaabGreatDoor
open Go.RowKit
end Go.Proofs.YtknakfpciccoaabGreatDoor
/- Texts that are what is printed of a tree: how they are put together. -/
namespace Go.Proofs.YtknakfpciccoaabGreatDoor
open Go.RowKit
structure Rep (f : Nat) (t : T) (s : ByteArray) (n : Nat) : Prop where
 wr : s.data.toList=wrT f t
 fit : FitT (f+1) t
 good : Good f t
 can : canT f t=t
 size : s.size≤n
theorem Rep.parse {t : T} {s : ByteArray} {n : Nat} (h : Rep 12 t s n) (hn : n≤4000) : eJ s=0∧tJ s=t:=by
 have e:=ba_list h.wr
 have hz:=h.size
 have h1 : s.size=(wrT 12 t).length:=by rw [← h.wr]; rfl
 have hp:=parse_tree h.fit h.good (by omega)
 rw [h.can] at hp
 rw [e]
 exact hp
end Go.Proofs.YtknakfpciccoaabGreatDoor
/- filled: a store with documents out of raw numbers. -/
namespace Go.Proofs.YtknakfpciccoaabGreatDoor
open Go.RowKit
def RawAt (w : World) (v : Value) (n : Nat) : Prop :=
 ∃ A c,v=.slice A n c∧n≤1000000000000000∧∀ i,i<n→∃ b o z,A=some ⟨b,o,none⟩∧b<w.heap.size∧w.cell? ⟨b,o+i,none⟩=some (.int .i64 z)∧-9223372036854775808≤z∧z≤9223372036854775807
def DocsOf (l : List T) : Prop:=∀ k,(h : k<l.length)→∃ i o,i<36∧(∀ j,o=some j→j<36)∧l[k]=docT (k : Int) i o
theorem DocsOf.nil : DocsOf []:=fun k h=>absurd h (Nat.not_lt_zero k)
theorem DocsOf.snoc {l : List T} (h : DocsOf l) {i : Nat} {o : Option Nat} (hi : i<36) (ho : ∀ j,o=some j→j<36) : DocsOf (l ++ [docT (l.length : Int) i o]):=by
 intro k hk
 rw [List.length_append,List.length_cons,List.length_nil] at hk
 by_cases e : k<l.length
 ·obtain ⟨a,b,c,d,e1⟩:=h k e
  exact ⟨a,b,c,d,by rw [List.getElem_append_left e]; exact e1⟩
 ·obtain rfl : k=l.length:=by omega
  exact ⟨i,o,hi,ho,by rw [List.getElem_append_right (by omega)]; simp⟩
theorem anyL_none {p : T→Bool} {t : T} : ∀ k,(∀ i,i<k→p (elt t i)=false)→anyL p t k=false
 | 0,_=>rfl
 | k+1,h=>by
  rw [anyL,anyL_none k (fun i hi=>h i (by omega)),h k (by omega)]
  rfl
theorem DocsOf.fresh {l : List T} (h : DocsOf l) (i : Nat) (o : Option Nat) : anyL (sameId (idT (docT (l.length : Int) i o))) (mkT 5 0 ByteArray.empty l []) l.length=false:=by
 refine anyL_none _ fun k hk=>?_
 have e : elt (mkT 5 0 ByteArray.empty l []) k=l[k]:=by rw [elt_mk,List.getD_eq_getElem?_getD,List.getElem?_eq_getElem hk]; rfl
 obtain ⟨a,b,_,_,e1⟩:=h k hk
 rw [e,e1,docT_id,doc_same]
 simp
 omega
abbrev nX : ByteArray:=⟨#[120]⟩
abbrev nY : ByteArray:=⟨#[121]⟩
def two (l m : Option (List T)) : ByteArray→Option (List T):=setS (setS (fun _=>none) nX l) nY m
theorem two_x (l m : Option (List T)) : two l m nX=l:=by unfold two; rw [setS_other _ _ (by decide),setS_same]
theorem two_y (l m : Option (List T)) : two l m nY=m:=by unfold two; rw [setS_same]
theorem two_none (l m : Option (List T)) {z : ByteArray} (h1 : z≠nX) (h2 : z≠nY) : two l m z=none:=by unfold two; rw [setS_other _ _ h2,setS_other _ _ h1]
theorem two_setx (l m k : Option (List T)) : setS (two l m) nX k=two k m:=by
 funext z
 unfold two
 by_cases h1 : z=nX
 ·subst h1; rw [setS_same,setS_other _ _ (by decide),setS_same]
 ·rw [setS_other _ _ h1]
  by_cases h2 : z=nY
  ·subst h2; rw [setS_same,setS_same]
  ·rw [setS_other _ _ h2,setS_other _ _ h1,setS_other _ _ h2,setS_other _ _ h1]
theorem two_sety (l m k : Option (List T)) : setS (two l m) nY k=two l k:=by
 funext z
 unfold two
 by_cases h2 : z=nY
 ·subst h2; rw [setS_same,setS_same]
 ·rw [setS_other _ _ h2,setS_other _ _ h2,setS_other _ _ h2]
theorem one_two (l : Option (List T)) : setS (setS (fun _=>none) nX l) nY (some [])=two l (some []):=rfl
abbrev allS : ByteArray:=⟨#[123,125]⟩
theorem allS_e : eJ allS=0:=by kernel_rfl
theorem allS_t : tJ allS=mkT 6 0 ByteArray.empty [] []:=by kernel_rfl
theorem allS_ok : okFil 16 (tJ allS)=true:=by rw [allS_t]; kernel_rfl
theorem allS_ev (d : T) : evF 16 (tJ allS) d=true:=by rw [allS_t]; rfl
theorem all_filter (l : List T) : l.filter (evF 16 (tJ allS))=l:=by
 rw [List.filter_eq_self]
 exact fun a _=>allS_ev a
end Go.Proofs.YtknakfpciccoaabGreatDoor
/- Summed, without the program: the groups, as documents. -/
namespace Go.Proofs.YtknakfpciccoaabGreatDoor
open Go.RowKit
theorem q6 : (quoL ⟨#[95,105,100]⟩).length=5∧(quoL ⟨#[110]⟩).length=3∧(quoL ⟨#[115]⟩).length=3∧(quoL ⟨#[108]⟩).length=3∧(quoL ⟨#[102]⟩).length=3∧(quoL ⟨#[109]⟩).length=3:=⟨by kernel_rfl,by kernel_rfl,by kernel_rfl,by kernel_rfl,by kernel_rfl,by kernel_rfl⟩
theorem em_all : ∀ (l : List T) (k : Nat) (s : List T),(∀ t ∈ l,tooBig t=false)→eachE emE l k s=.inr (s ++ l)
 | [],k,s,_=>by simp [eachE]
 | d :: r,k,s,h=>by
  have hd : emE s d=.inr (s ++ [d]):=by
   unfold emE
   rw [h d (List.mem_cons_self ..)]
   rfl
  rw [eachE,hd]
  show eachE emE r (k+1) (s ++ [d])=_
  rw [em_all r (k+1) (s ++ [d]) fun t ht=>h t (List.mem_cons_of_mem _ ht),List.append_assoc]
  rfl
end Go.Proofs.YtknakfpciccoaabGreatDoor
/- Unwound, without the program: what its two pipelines make of the documents. -/
namespace Go.Proofs.YtknakfpciccoaabGreatDoor
open Go.RowKit
def docV (id : Int) (a : T) (o : Option Nat) : T:=match o with
 | none=>mkT 6 0 ByteArray.empty [nT id,a] [⟨#[95,105,100]⟩,⟨#[97]⟩]
 | some j=>mkT 6 0 ByteArray.empty [nT id,a,tv j] [⟨#[95,105,100]⟩,⟨#[97]⟩,⟨#[99]⟩]
theorem docV_T (id : Int) (i : Nat) (o : Option Nat) : docT id i o=docV id (tv i) o:=by cases o <;> rfl
theorem put_V (id : Int) (a b : T) (o : Option Nat) : putT (docV id a o) 1 b=docV id b o:=by cases o <;> rfl
theorem plc_V (id : Int) (a : T) (o : Option Nat) : plc stA (docV id a o)=some 1:=by cases o <;> kernel_rfl
theorem elt_V (id : Int) (a : T) (o : Option Nat) : elt (docV id a o) 1=a:=by cases o <;> rfl
theorem idV (id : Int) (a : T) (o : Option Nat) : orNull [stI] (docV id a o)=nT id:=by
 unfold orNull
 have : fromP [stI] (docV id a o)=some (nT id):=by cases o <;> kernel_rfl
 rw [this]
 rfl
theorem aV (id : Int) (a : T) (o : Option Nat) : orNull [stA] (docV id a o)=a:=by
 unfold orNull
 have : fromP [stA] (docV id a o)=some a:=by cases o <;> kernel_rfl
 rw [this]
 rfl
theorem docV_small {id : Int} {a : T} {o : Option Nat} (ha : Sm a) (ho : ∀ j,o=some j→j<36) : tooBig (docV id a o)=false:=by
 have hg : Good 12 (docV id a o):=by
  refine .inr ⟨by cases o <;> rfl,by cases o <;> exact noText_mk _ _ _ _,fun k hk=>?_,.inr ⟨by cases o <;> rfl,by cases o <;> rfl,by cases o <;> kernel_rfl,by cases o <;> kernel_rfl⟩⟩
  cases o with
  | none =>
   have hk' : k<2:=hk
   match k,hk' with
   | 0,_=>exact nT_good id 11
   | 1,_=>exact ha.good
  | some j =>
   have hk' : k<3:=hk
   match k,hk' with
   | 0,_=>exact nT_good id 11
   | 1,_=>exact ha.good
   | 2,_=>exact tv_good11 (ho j rfl)
 have hb : bytesT 12 (docV id a o)≤300:=by
  have h1:=ha.bytes
  have h2:=nT_bytes id
  cases o with
  | none =>
   have e : bytesT 12 (docV id a none)=5+sumK (docV id a none) 2+(((0+bytesT 11 (nT id))+bytesT 11 a)):=rfl
   have k : sumK (docV id a none) 2≤50:=by
    have : sumK (docV id a none) 2=sumK (docT 0 0 none) 2:=rfl
    rw [this]; decide
   omega
  | some j =>
   have h3:=tv_bytes (ho j rfl)
   have e : bytesT 12 (docV id a (some j))=5+sumK (docV id a (some j)) 3+((((0+bytesT 11 (nT id))+bytesT 11 a))+bytesT 11 (tv j)):=rfl
   have k : sumK (docV id a (some j)) 3≤50:=by
    have : sumK (docV id a (some j)) 3=sumK (docT 0 0 (some 0)) 3:=rfl
    rw [this]; decide
   omega
 unfold tooBig
 have hv : isV (docV id a o)=true:=(isV_iff _).2 ⟨hg,by omega⟩
 rw [hv]
 have h1:=encT_len 12 _ hg
 have h3 : (encS true (encT 12 (docV id a o))).size=(encT 12 (docV id a o)).length:=baL_size _
 rw [h3]
 simp
 omega
def lstN (a : T) : List Int:=(lOf a).map nOf
theorem tv_lists : (List.range 36).map (fun i=>if kindOf (tv i)=5 then numsT (lstN (tv i)) else tv i)=(List.range 36).map tv:=by kernel_rfl
theorem tv_list {i : Nat} (h : i<36) (k5 : kindOf (tv i)=5) : tv i=numsT (lstN (tv i)):=by
 have:=congrArg (fun l=>l[i]?) tv_lists
 simp only [List.getElem?_map,List.getElem?_range h,Option.map_some,Option.some.injEq] at this
 rw [if_pos k5] at this
 exact this.symm
theorem tv_shortB : ((List.range 36).all fun i=>decide ((lstN (tv i)).length≤2) && (lstN (tv i)).all fun x=>decide (0≤x) && decide (x<100))=true:=by kernel_rfl
theorem tv_short {i : Nat} (h : i<36) : (lstN (tv i)).length≤2∧∀ x ∈ lstN (tv i),0≤x∧x<100:=by
 have:=List.all_eq_true.1 tv_shortB i (List.mem_range.2 h)
 simp only [Bool.and_eq_true,decide_eq_true_eq,List.all_eq_true] at this
 exact this
theorem small_n {x : Int} (h : 0≤x∧x<100) : Sm (nT x):=nT_sm (by omega) (by omega)
theorem unw_doc {id : Int} {o : Option Nat} (ho : ∀ j,o=some j→j<36) (a : T) : ∀ (es : List Int) (made : List T),(∀ x ∈ es,0≤x∧x<100)→made.length+es.length≤200→unwL (docV id a o) 1 (es.map nT) made=.inr (made ++ es.map fun x=>docV id (nT x) o)
 | [],made,_,_=>by simp [unwL]
 | x :: r,made,hx,hl=>by
  rw [List.length_cons] at hl
  have hb : tooBig (docV id (nT x) o)=false:=docV_small (small_n (hx x (List.mem_cons_self ..))) ho
  rw [List.map_cons,unwL,put_V,hb,if_neg (by decide),if_neg (by omega),unw_doc ho a r _ (fun y hy=>hx y (List.mem_cons_of_mem _ hy)) (by rw [List.length_append,List.length_cons,List.length_nil]; omega)]
  simp
structure Dc where
 id : Int
 es : List Int
 o : Option Nat
def Dc.doc (d : Dc) : T:=docV d.id (numsT d.es) d.o
def Dc.ok (d : Dc) : Prop:=(∀ j,d.o=some j→j<36)∧d.es.length≤2∧∀ x ∈ d.es,0≤x∧x<100
theorem unw_one {d : Dc} (h : d.ok) (made : List T) (hl : made.length+2≤200) : unwE stA made d.doc=.inr (made ++ d.es.map fun x=>docV d.id (nT x) d.o):=by
 unfold Dc.doc
 rw [unw_yes (plc_V _ _ _) (elt_V _ _ _) rfl]
 have e : lOf (numsT d.es)=d.es.map nT:=rfl
 rw [e]
 exact unw_doc h.1 _ d.es made h.2.2 (by have:=h.2.1; omega)
theorem unw_all : ∀ (D : List Dc) (k : Nat) (made : List T),(∀ d ∈ D,d.ok)→made.length+2 * D.length≤200→eachE (unwE stA) (D.map Dc.doc) k made=.inr (made ++ D.flatMap fun d=>d.es.map fun x=>docV d.id (nT x) d.o)
 | [],k,made,_,_=>by simp [eachE]
 | d :: r,k,made,hd,hl=>by
  rw [List.length_cons] at hl
  have h1:=hd d (List.mem_cons_self ..)
  rw [List.map_cons,eachE,unw_one h1 made (by omega)]
  show eachE (unwE stA) (r.map Dc.doc) (k+1) _=_
  rw [unw_all r (k+1) _ (fun x hx=>hd x (List.mem_cons_of_mem _ hx)) (by rw [List.length_append,List.length_map]; have:=h1.2.1; omega),List.flatMap_cons,List.append_assoc]
def aE (d : T) : Int⊕T:=.inr (orNull [stA] d)
def es1 : List (ByteArray×(T→Int⊕T)):=[(gList,aE)]
def ks2 : List ByteArray:=[⟨#[95,105,100]⟩,⟨#[97]⟩]
def toG (p : Int×List Int) : T×List T:=(nT p.1,[numsT p.2])
theorem row1 {doc x0 t0 : T} (e0 : accS aE gList x0 doc=.inr t0) : rowE doc es1 0 [x0]=.inr [t0]:=(rowE_cons (a':=[t0]) rfl e0 rfl).trans rfl
theorem gth_G (S : List (Int×List Int)) (id : Int) (h : ∀ p ∈ S,p.1≠id) : gthI (S.map toG) (nT id)=(S.map toG).length:=by
 refine gthI_none fun j hj=>?_
 rw [List.length_map] at hj
 rw [List.getElem_map]
 show eqT (nT S[j].1) (nT id)=false
 unfold eqT
 rw [nT_cmp]
 exact beq_eq_false_iff_ne.2 (h _ (List.getElem_mem hj))
theorem gth_last (S : List (Int×List Int)) (id : Int) (ys : List Int) (h : ∀ p ∈ S,p.1≠id) : gthI ((S ++ [(id,ys)]).map toG) (nT id)=(S.map toG).length:=by
 have hl : (S.map toG).length<((S ++ [(id,ys)]).map toG).length:=by simp
 refine gthI_found hl ?_ fun j hj hj2=>?_
 ·rw [List.getElem_map,List.getElem_append_right (by simp)]
  simp only [List.length_map,Nat.sub_self,List.getElem_cons_zero]
  show eqT (nT id) (nT id)=true
  unfold eqT
  rw [nT_cmp]
  simp
 ·have hj3 : j<S.length:=by simpa using hj2
  rw [List.getElem_map,List.getElem_append_left hj3]
  show eqT (nT S[j].1) (nT id)=false
  unfold eqT
  rw [nT_cmp]
  exact beq_eq_false_iff_ne.2 (h _ (List.getElem_mem hj3))
theorem take_new (S : List (Int×List Int)) (id x : Int) (o : Option Nat) (h : ∀ p ∈ S,p.1≠id) : takE idE es1 (S.map toG) (docV id (nT x) o)=.inr ((S ++ [(id,[x])]).map toG):=by
 have hie:=gth_G S id h
 have hg : ∀ n,gthS n (S.map toG) (nT id)=S.map toG ++ [(nT id,List.replicate n zeroT)]:=fun n=>if_neg (by rw [hie]; exact Nat.lt_irrefl _)
 have hrow : rowE (docV id (nT x) o) es1 0 (List.replicate 1 zeroT)=.inr [numsT [x]]:=row1 (acc_list (a:=x) (by unfold aE; rw [aV]))
 have hget : ∀ (n : Nat) (hh : gthI (S.map toG) (nT id)<(gthS n (S.map toG) (nT id)).length),((gthS n (S.map toG) (nT id))[gthI (S.map toG) (nT id)]'hh).2=List.replicate n zeroT:=by
  intro n hh
  simp only [hg n,hie]
  rw [List.getElem_append_right (Nat.le_refl _)]
  simp
 unfold takE
 have hb : idE (docV id (nT x) o)=.inr (nT id):=by unfold idE; rw [idV]
 rw [hb]
 dsimp only
 rw [hget]
 rw [show es1.length=1 from rfl,hrow]
 dsimp only
 rw [hg 1,hie]
 unfold stRow
 rw [modify_last,List.map_append]
 rfl
theorem take_old (S : List (Int×List Int)) (id x : Int) (ys : List Int) (o : Option Nat) (h : ∀ p ∈ S,p.1≠id) : takE idE es1 ((S ++ [(id,ys)]).map toG) (docV id (nT x) o)=.inr ((S ++ [(id,ys ++ [x])]).map toG):=by
 have hie:=gth_last S id ys h
 have hl : (S.map toG).length<((S ++ [(id,ys)]).map toG).length:=by simp
 have hg : ∀ n,gthS n ((S ++ [(id,ys)]).map toG) (nT id)=(S ++ [(id,ys)]).map toG:=fun n=>if_pos (by rw [hie]; exact hl)
 have hrow : rowE (docV id (nT x) o) es1 0 [numsT ys]=.inr [numsT (ys ++ [x])]:=by
  refine row1 ?_
  rw [acc_list (a:=x) (by unfold aE; rw [aV])]
  have e : lOf (numsT ys)=ys.map nT:=rfl
  rw [e]
  unfold numsT
  rw [List.map_append]
  rfl
 have hget : ∀ (n : Nat) (hh : gthI ((S ++ [(id,ys)]).map toG) (nT id)<(gthS n ((S ++ [(id,ys)]).map toG) (nT id)).length),((gthS n ((S ++ [(id,ys)]).map toG) (nT id))[gthI ((S ++ [(id,ys)]).map toG) (nT id)]'hh).2=[numsT ys]:=by
  intro n hh
  simp only [hg n,hie,List.getElem_map]
  rw [List.getElem_append_right (by simp)]
  simp [toG]
 unfold takE
 have hb : idE (docV id (nT x) o)=.inr (nT id):=by unfold idE; rw [idV]
 rw [hb]
 dsimp only
 rw [hget,hrow]
 dsimp only
 rw [hg,hie]
 unfold stRow
 rw [List.map_append,List.map_append]
 show Sum.inr (((S.map toG) ++ [toG (id,ys)]).modify (S.map toG).length _)=_
 rw [modify_last]
 rfl
theorem take_doc (id : Int) (o : Option Nat) (S : List (Int×List Int)) (h : ∀ p ∈ S,p.1≠id) : ∀ (es ys : List Int) (k : Nat) (r : List T),ys≠[]→eachE (takE idE es1) ((es.map fun x=>docV id (nT x) o) ++ r) k ((S ++ [(id,ys)]).map toG)=eachE (takE idE es1) r (k+es.length) ((S ++ [(id,ys ++ es)]).map toG)
 | [],ys,k,r,_=>by simp
 | x :: es,ys,k,r,hy=>by
  rw [List.map_cons,List.cons_append,eachE,take_old S id x ys o h]
  show eachE (takE idE es1) _ (k+1) _=_
  rw [take_doc id o S h es (ys ++ [x]) (k+1) r (by simp),List.append_assoc,List.length_cons]
  rw [show k+1+es.length=k+(es.length+1) by omega]
  rfl
def keepG (D : List Dc) : List (Int×List Int):=(D.filter fun d=>!d.es.isEmpty).map fun d=>(d.id,d.es)
theorem take_all : ∀ (D : List Dc) (S : List (Int×List Int)) (k : Nat),(D.Pairwise fun a b=>a.id≠b.id)→(∀ p ∈ S,∀ d ∈ D,p.1≠d.id)→eachE (takE idE es1) (D.flatMap fun d=>d.es.map fun x=>docV d.id (nT x) d.o) k (S.map toG)=.inr ((S ++ keepG D).map toG)
 | [],S,k,_,_=>by simp [eachE,keepG]
 | d :: r,S,k,hp,hs=>by
  rw [List.pairwise_cons] at hp
  rw [List.flatMap_cons]
  cases he : d.es with
  | nil =>
   rw [List.map_nil,List.nil_append,take_all r S k hp.2 fun p hp' x hx=>hs p hp' x (List.mem_cons_of_mem _ hx)]
   unfold keepG
   rw [List.filter_cons,if_neg (by rw [he]; simp)]
  | cons x es =>
   have hS : ∀ p ∈ S,p.1≠d.id:=fun p hp'=>hs p hp' d (List.mem_cons_self ..)
   rw [List.map_cons,List.cons_append,eachE,take_new S d.id x d.o hS]
   show eachE (takE idE es1) _ (k+1) _=_
   rw [take_doc d.id d.o S hS es [x] (k+1) _ (by simp),take_all r _ _ hp.2 (fun p hp' y hy=>by
    rw [List.mem_append,List.mem_singleton] at hp'
    rcases hp' with hp' | rfl
    ·exact hs p hp' y (List.mem_cons_of_mem _ hy)
    ·exact hp.1 y hy),List.append_assoc]
   unfold keepG
   rw [List.filter_cons,if_pos (by rw [he]; simp),List.map_cons,he]
   rfl
def resD (p : Int×List Int) : T:=mkT 6 0 ByteArray.empty [nT p.1,numsT p.2] ks2
theorem resD_V (p : Int×List Int) : resD p=docV p.1 (numsT p.2) none:=rfl
theorem nums_sm {es : List Int} (hl : es.length≤2) (h : ∀ x ∈ es,0≤x∧x<100) : Sm (numsT es):=by
 have hx : ∀ x ∈ es,in64 x:=fun x hx=>by have:=h x hx; unfold in64; omega
 exact ⟨nums_good es 10,by rw [nums_bytes]; omega,nums_fit (by omega) hx,nums_can es,by have:=nums_wr hx; omega⟩
theorem unw_grp {D : List Dc} (hd : ∀ d ∈ D,d.ok) (hp : D.Pairwise fun a b=>a.id≠b.id) (hl : D.length≤30) : ∃ U,unwS stA (D.map Dc.doc)=.inr U∧grpS idE es1 ks2 U=.inr ((keepG D).map resD):=by
 refine ⟨_,by unfold unwS; exact unw_all D 0 [] hd (by rw [List.length_nil]; omega),?_⟩
 rw [List.nil_append]
 unfold grpS
 have h1:=take_all D [] 0 hp (fun p h=>by cases h)
 rw [List.map_nil,List.nil_append] at h1
 rw [h1]
 show eachE emE (((keepG D).map toG).map (grpT ks2)) 0 []=_
 rw [List.map_map]
 have e : (keepG D).map (grpT ks2 ∘ toG)=(keepG D).map resD:=rfl
 rw [e,em_all _ 0 [] fun t ht=>?_,List.nil_append]
 obtain ⟨p,hp',rfl⟩:=List.mem_map.1 ht
 unfold keepG at hp'
 obtain ⟨d,hd',rfl⟩:=List.mem_map.1 hp'
 have hdd:=hd d (List.mem_filter.1 hd').1
 rw [resD_V]
 exact docV_small (nums_sm hdd.2.1 hdd.2.2) (fun j h=>by cases h)
theorem prj_all : ∀ (D : List Dc) (k : Nat) (made : List T),(∀ d ∈ D,d.ok)→eachE (prjE [idE,aE] ks2) (D.map Dc.doc) k made=.inr (made ++ D.map fun d=>resD (d.id,d.es))
 | [],k,made,_=>by simp [eachE]
 | d :: r,k,made,hd=>by
  have h1:=hd d (List.mem_cons_self ..)
  have e : evL [idE,aE] d.doc=.inr [nT d.id,numsT d.es]:=by
   have e1 : idE d.doc=.inr (nT d.id):=by unfold idE Dc.doc; rw [idV]
   have e2 : aE d.doc=.inr (numsT d.es):=by unfold aE Dc.doc; rw [aV]
   simp only [evL,e1,e2]
  have hb : tooBig (resD (d.id,d.es))=false:=by rw [resD_V]; exact docV_small (nums_sm h1.2.1 h1.2.2) (fun j h=>by cases h)
  have hs : prjE [idE,aE] ks2 made d.doc=.inr (made ++ [resD (d.id,d.es)]):=by
   unfold prjE
   rw [e]
   show (if tooBig (resD (d.id,d.es))=true then _ else _)=_
   rw [hb]
   rfl
  rw [List.map_cons,eachE,hs]
  show eachE (prjE [idE,aE] ks2) (r.map Dc.doc) (k+1) _=_
  rw [prj_all r (k+1) _ fun x hx=>hd x (List.mem_cons_of_mem _ hx),List.append_assoc,List.map_cons]
  rfl
end Go.Proofs.YtknakfpciccoaabGreatDoor
