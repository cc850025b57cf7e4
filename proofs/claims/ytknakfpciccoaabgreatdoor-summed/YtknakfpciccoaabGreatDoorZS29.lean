import Derived.Test.YtknakfpciccoaabGreatDoorZS28
import Derived.Test.YtknakfpciccoaabGreatDoorZS18
import Derived.Test.YtknakfpciccoaabGreatDoorZS16
import Derived.Test.YtknakfpciccoaabGreatDoorZS13
import Derived.Test.YtknakfpciccoaabGreatDoorZS20
import Derived.Lib.AppendZerosOnto
/- The walk of a group's take. -/
namespace Go.Proofs.YtknakfpciccoaabGreatDoor
open Go.RowKit
def rowE (doc : T) : List (ByteArray×(T→Int⊕T))→Nat→List T→Int⊕List T
 | [],_,a=>.inr a
 | e :: es,k,a=>match accS e.2 e.1 (a.getD k zeroT) doc with
  | .inl x=>.inl x
  | .inr t=>rowE doc es (k+1) (a.set k t)
theorem rowE_err (doc : T) : ∀ (es : List (ByteArray×(T→Int⊕T))) (e : ByteArray×(T→Int⊕T)) (r : List (ByteArray×(T→Int⊕T))) (k : Nat) (a a' : List T) (x : Int),rowE doc es k a=.inr a'→accS e.2 e.1 (a'.getD (k+es.length) zeroT) doc=.inl x→rowE doc (es ++ e :: r) k a=.inl x
 | [],e,r,k,a,a',x,h,hx=>by
  simp only [rowE,Sum.inr.injEq] at h
  subst h
  rw [List.nil_append,rowE,show accS e.2 e.1 (a.getD k zeroT) doc=.inl x from hx]
 | e0 :: es,e,r,k,a,a',x,h,hx=>by
  rw [rowE] at h
  rw [List.cons_append,rowE]
  cases h0 : accS e0.2 e0.1 (a.getD k zeroT) doc with
  | inl y=>rw [h0] at h; cases h
  | inr t =>
   rw [h0] at h
   exact rowE_err doc es e r (k+1) (a.set k t) a' x h (by rw [show k+1+es.length=k+(e0 :: es).length by rw [List.length_cons]; omega]; exact hx)
theorem rowE_snoc (doc : T) : ∀ (es : List (ByteArray×(T→Int⊕T))) (e : ByteArray×(T→Int⊕T)) (k : Nat) (a a' : List T) (t : T),rowE doc es k a=.inr a'→accS e.2 e.1 (a'.getD (k+es.length) zeroT) doc=.inr t→rowE doc (es ++ [e]) k a=.inr (a'.set (k+es.length) t)
 | [],e,k,a,a',t,h,hx=>by
  simp only [rowE,Sum.inr.injEq] at h
  subst h
  rw [List.nil_append,rowE,show accS e.2 e.1 (a.getD k zeroT) doc=.inr t from hx]
  rfl
 | e0 :: es,e,k,a,a',t,h,hx=>by
  rw [rowE] at h
  rw [List.cons_append,rowE]
  cases h0 : accS e0.2 e0.1 (a.getD k zeroT) doc with
  | inl y=>rw [h0] at h; cases h
  | inr t0 =>
   rw [h0] at h
   have:=rowE_snoc doc es e (k+1) (a.set k t0) a' t h (by rw [show k+1+es.length=k+(e0 :: es).length by rw [List.length_cons]; omega]; exact hx)
   rw [show k+1+es.length=k+(e0 :: es).length by rw [List.length_cons]; omega] at this
   exact this
def stRow (S : List (T×List T)) (i : Nat) (a : List T) : List (T×List T):=S.modify i fun s=>(s.1,a)
theorem stRow_len (S : List (T×List T)) (i : Nat) (a : List T) : (stRow S i a).length=S.length:=List.length_modify _ _ _
theorem stRow_get (S : List (T×List T)) (i : Nat) (a : List T) (h : i<S.length) : ((stRow S i a)[i]'(by rw [stRow_len]; exact h)).2=a:=by
 unfold stRow
 rw [List.getElem_modify,if_pos rfl]
theorem stRow_put (S : List (T×List T)) (i : Nat) (a : List T) (k : Nat) (t : T) : stPut (stRow S i a) i k t=stRow S i (a.set k t):=by
 unfold stPut stRow
 refine List.ext_getElem (by simp [List.length_modify]) fun n h1 h2=>?_
 simp only [List.getElem_modify]
 by_cases e : i=n
 ·simp only [if_pos e]
 ·simp only [if_neg e]
theorem stRow_same (S : List (T×List T)) (i : Nat) (h : i<S.length) : stRow S i S[i].2=S:=by
 unfold stRow
 refine List.ext_getElem (by simp [List.length_modify]) fun n h1 h2=>?_
 rw [List.getElem_modify]
 by_cases e : i=n
 ·subst e
  rw [if_pos rfl]
 ·rw [if_neg e]
theorem gth_lt (n : Nat) (st : List (T×List T)) (b : T) : gthI st b<(gthS n st b).length:=by
 have : gthI st b≤st.length:=List.findIdx_le_length
 unfold gthS
 by_cases h : gthI st b<st.length
 ·rw [if_pos h]; exact h
 ·rw [if_neg h,List.length_append,List.length_cons,List.length_nil]; omega
def takE (gb : T→Int⊕T) (es : List (ByteArray×(T→Int⊕T))) (st : List (T×List T)) (doc : T) : Int⊕List (T×List T):=match gb doc with
 | .inl x=>.inl x
 | .inr b=>match rowE doc es 0 ((gthS es.length st b)[gthI st b]'(gth_lt _ _ _)).2 with
  | .inl x=>.inl x
  | .inr a=>.inr (stRow (gthS es.length st b) (gthI st b) a)
def EntsOk (Tb : World→Prop) (w : World) (v : Value) (es : List (ByteArray×(T→Int⊕T))) : Prop :=
 ∃ A c,v=.slice A es.length c∧es.length≤100000∧∀ i,(h : i<es.length)→∃ b o u,A=some ⟨b,o,none⟩∧b<w.heap.size∧w.cell? ⟨b,o+i * 2,none⟩=some (.string es[i].1)∧w.cell? ⟨b,o+i * 2+1,none⟩=some u∧ExprOk Tb w u es[i].2∧isGOp es[i].1
theorem EntsOk.keep {Tb : World→Prop} {w w' : World} {v : Value} {es : List (ByteArray×(T→Int⊕T))} (h : EntsOk Tb w v es) (hb : Below w.heap.size w w') : EntsOk Tb w' v es:=by
 obtain ⟨A,c,hv,hn,h⟩:=h
 refine ⟨A,c,hv,hn,fun i hi=>?_⟩
 obtain ⟨b,o,u,h0,hl,q1,q2,hu,ho⟩:=h i hi
 exact ⟨b,o,u,h0,Nat.lt_of_lt_of_le hl hb.size,(hb.cell (p:=⟨b,_,none⟩) hl).trans q1,(hb.cell (p:=⟨b,_,none⟩) hl).trans q2,hu.keep hb,ho⟩
theorem EvPost.flat {w0 : World} {g : T→Int⊕T} {doc : T} {w : World} {e : Ending} {w' : World} (h : EvPost w0 g doc w e w') : Below w.heap.size w w'∧∃ (vk vn : Int) (vs : ByteArray) (VA : Option Addr) (vl VB : Nat) (VC : Option Addr) (vm VD : Nat) (er : Int),e=.returned (.tuple #[.agg #[.int .i64 vk,.int .i64 vn,.string vs,.slice VA vl VB,.slice VC vm VD],.int .i64 er])∧((g doc=.inl er∧er≠0)∨∃ t A B C D,g doc=.inr t∧er=0∧Value.agg #[.int .i64 vk,.int .i64 vn,.string vs,.slice VA vl VB,.slice VC vm VD]=.agg #[.int .i64 (kindOf t),.int .i64 (nOf t),.string (sOf t),.slice A (nL t) B,.slice C (nK t) D]∧At w0 13 (.agg #[.int .i64 (kindOf t),.int .i64 (nOf t),.string (sOf t),.slice A (nL t) B,.slice C (nK t) D]) t∧okA t):=by
 obtain ⟨hb,⟨x,h1,h2,rfl⟩ | ⟨t,A,B,C,D,h1,rfl,h3,h4⟩⟩:=h
 ·exact ⟨hb,_,_,_,_,_,_,_,_,_,x,rfl,.inl ⟨h1,h2⟩⟩
 ·exact ⟨hb,_,_,_,_,_,_,_,_,_,0,rfl,.inr ⟨t,A,B,C,D,h1,rfl,rfl,h3,h4⟩⟩
theorem AgPost.flat {w0 : World} {c : Nat} {NA : Option Addr} {nc : Nat} {bv ev : Value} {ops : List ByteArray} {L : Nat→Lab} {gv : Value} {xs : List Value} {rb : Nat→Nat} {st : List (T×List T)} {i j : Nat} {r : Int⊕T} {w : World} {e : Ending} {w5 : World} (h : AgPost w0 c NA nc bv ev ops L gv xs rb st i j r w e w5) : Below w0.heap.size w w5∧(∀ b,b<w.heap.size→L b≠.lst i j→w5.heap[b]?=w.heap[b]?)∧∃ (vk vn : Int) (vs : ByteArray) (VA : Option Addr) (vl VB : Nat) (VC : Option Addr) (vm VD : Nat) (er : Int),e=.returned (.tuple #[.agg #[.int .i64 vk,.int .i64 vn,.string vs,.slice VA vl VB,.slice VC vm VD],.int .i64 er])∧((r=.inl er∧er≠0)∨∃ t,r=.inr t∧er=0∧∃ L' ys',GrI w0 c NA nc bv ev ops L' gv xs rb ys' (stPut st i j t) (put5o w5 (rb i) ((j+1) * 5) (.int .i64 vk) (.int .i64 vn) (.string vs) (.slice VA vl VB) (.slice VC vm VD))∧∀ b,b<w.heap.size→L b=.no→L' b=.no):=by
 obtain ⟨h1,h2,⟨x,h3,h4,rfl⟩ | ⟨t,_,_,_,_,_,_,_,_,_,h3,rfl,h5⟩⟩:=h
 ·exact ⟨h1,h2,_,_,_,_,_,_,_,_,_,x,rfl,.inl ⟨h3,h4⟩⟩
 ·exact ⟨h1,h2,_,_,_,_,_,_,_,_,_,0,rfl,.inr ⟨t,h3,rfl,h5⟩⟩
end Go.Proofs.YtknakfpciccoaabGreatDoor
/- The entries of $group are read. -/
namespace Go.Proofs.YtknakfpciccoaabGreatDoor
open Go.RowKit
def EpPost (Tb : World→Prop) (wB : World) (op : ByteArray) (g : T→Int⊕T) (w : World) (e : Ending) (w' : World) : Prop :=
 Below w.heap.size w w'∧∃ ty p,e=.returned (.agg #[.string op,.iface ty p])∧Sat wB w' (newB w w') (fun x=>ExprOk Tb x (.iface ty p) g)
def PeSaid (Tb : World→Prop) (t : T) (op : ByteArray) (g : T→Int⊕T) : Prop:=∀ (v : Value) (wB w : World),At wB 13 v t→okA t→Below wB.heap.size wB w→Tb w→Calls Tryz.prog 163 #[v] w (EpPost Tb wB op g w)
theorem ent_new (w : World) : (w.alloc (.cells #[.string ⟨#[]⟩,.nilIface] 239)).cell? ⟨w.heap.size,0,none⟩=some (.string ⟨#[]⟩)∧(w.alloc (.cells #[.string ⟨#[]⟩,.nilIface] 239)).cell? ⟨w.heap.size,1,none⟩=some .nilIface∧(w.alloc (.cells #[.string ⟨#[]⟩,.nilIface] 239)).frozen? ⟨w.heap.size,0,none⟩=false∧(w.alloc (.cells #[.string ⟨#[]⟩,.nilIface] 239)).frozen? ⟨w.heap.size,1,none⟩=false:=⟨by simp [go_sem],by simp [go_sem],by simp [go_sem],by simp [go_sem]⟩
structure Ent2 (b : Nat) (w : World) : Prop where
 q0 : w.cell? ⟨b,0,none⟩=some (.string ⟨#[]⟩)
 q1 : w.cell? ⟨b,1,none⟩=some .nilIface
 f0 : w.frozen? ⟨b,0,none⟩=false
 f1 : w.frozen? ⟨b,1,none⟩=false
 lt : b<w.heap.size
theorem Ent2.stay {b : Nat} {w w' : World} (h : Ent2 b w) (hb : Below w.heap.size w w') : Ent2 b w' :=
 ⟨(hb.cell (p:=⟨b,0,none⟩) h.lt).trans h.q0,(hb.cell (p:=⟨b,1,none⟩) h.lt).trans h.q1,(World.frozen?_of_block (a:=⟨b,0,none⟩) (hb.block b h.lt)).trans h.f0,(World.frozen?_of_block (a:=⟨b,1,none⟩) (hb.block b h.lt)).trans h.f1,Nat.lt_of_lt_of_le h.lt hb.size⟩
theorem Ent2.new (w : World) : Ent2 w.heap.size (w.alloc (.cells #[.string ⟨#[]⟩,.nilIface] 239)):=⟨(ent_new w).1,(ent_new w).2.1,(ent_new w).2.2.1,(ent_new w).2.2.2,by simp⟩
theorem set_one_below {w W : World} (h : Below w.heap.size w W) {b : Nat} (hb : w.heap.size≤b) (o : Nat) (u : Value) : Below w.heap.size w (W.setCell ⟨b,o,none⟩ u):=by
 obtain ⟨t1,t2,t3,t4⟩:=setC_rest W ⟨b,o,none⟩ u
 exact ⟨t2.trans h.os,t3.trans h.tape,t4.trans h.output,by rw [t1]; exact h.size,fun k hk=>(Below.heap_setCell _ _ _ _ (by simp; omega)).trans (h.block k hk)⟩
theorem Sat.set {wB w W : World} {P : World→Prop} {b c : Nat} (h : Sat wB W (newB w W) P) (hb : b<w.heap.size) (hc : c≤w.heap.size) (o : Nat) (u : Value) {wa : World} (hwa : wa.heap.size=c) : Sat wB (W.setCell ⟨b,o,none⟩ u) (newB wa (W.setCell ⟨b,o,none⟩ u)) P :=
 h.move fun k hk=>by
  have h1:=hk.1
  refine ⟨Below.heap_setCell _ _ _ _ (by simp; omega),by omega,?_⟩
  rw [(setC_rest W ⟨b,o,none⟩ u).1]
  exact hk.2
set_option maxHeartbeats 8000000 in
set_option maxRecDepth 100000 in
theorem pentSum_any {Tb : World→Prop} (hL : Lies Tb) (t j : T) (g : T→Int⊕T) (k6 : kindOf t=6) (k1 : nK t=1) (hj : elt t 0=j) (hx : nam t 0=gSum) (h : PxSaid Tb j g) : PeSaid Tb t gSum g:=by
 intro v wB w ha hk hb0 hT
 have l1 : nL t=1:=by have:=hk.names k6; omega
 have hkj : okA j:=by rw [← hj]; exact hk.elt (by omega)
 have Ha:=hid ha
 obtain ⟨g1,La,Ka,Lc,Kc,hg1,rfl,_,_,_⟩:=ha.open
 have HB1 : Hid (Below w.heap.size w ((w.alloc (.cells #[.int .i64 (kindOf t),.int .i64 (nOf t),.string (sOf t),.slice La (nL t) Lc,.slice Ka (nK t) Kc] 36)).alloc (.cells #[.string ⟨#[]⟩,.nilIface] 239))):=((Below.refl _ _).alloc (Nat.le_refl _) _).alloc (by simp) _
 have HX : Hid (Ent2 (w.heap.size+1) ((w.alloc (.cells #[.int .i64 (kindOf t),.int .i64 (nOf t),.string (sOf t),.slice La (nL t) Lc,.slice Ka (nK t) Kc] 36)).alloc (.cells #[.string ⟨#[]⟩,.nilIface] 239))):=by
  show Ent2 _ _
  have:=Ent2.new (w.alloc (.cells #[.int .i64 (kindOf t),.int .i64 (nOf t),.string (sOf t),.slice La (nL t) Lc,.slice Ka (nK t) Kc] 36))
  simpa using this
 have HC:=hid (ppOp_any t j gSum hj hx _ wB _ Ha.out hk k6 k1 (hb0.trans (HB1.out.mono hb0.size)))
 have HE : Hid (∀ (v : Value) (w' : World),At wB 13 v j→Below w.heap.size w w'→Calls Tryz.prog 148 #[v] w' (XpPost Tb wB g w')):=fun v w' h1 h2=>ppExpr_any hL j g h v wB w' h1 hkj (hb0.trans (h2.mono hb0.size)) (hL w hT w w' hT h2)
 clear ha hk hg1 hb0 hT h hL k6 k1 l1 hkj Ha hj hx
 unfold gSum at *
 go_enter Tryz.func163,Tryz.ntmps163
 go_wp2_with fail
 refine HC.out.mono ?_
 rintro e w2 ⟨b2,A,B,C,D,rfl,hat⟩
 have HBa : Hid (Below w2.heap.size w2 (w2.alloc (.cells #[.int .i64 (kindOf j),.int .i64 (nOf j),.string (sOf j),.slice A (nL j) B,.slice C (nK j) D] 36))):=(Below.refl _ _).alloc (Nat.le_refl _) _
 have HB2:=hid (HB1.out.trans (b2.mono HB1.out.size))
 have HB3:=hid (HB2.out.trans (HBa.out.mono HB2.out.size))
 have HX3:=hid ((HX.out.stay b2).stay HBa.out)
 have HP:=hid (HE.out _ _ hat HB3.out)
 have HY:=hid (box_new w2 (.int .i64 (kindOf j)) (.int .i64 (nOf j)) (.string (sOf j)) (.slice A (nL j) B) (.slice C (nK j) D))
 have hl2 : w.heap.size+1<w2.heap.size:=by have:=b2.size; simp at this; omega
 clear b2 hat HC HE
 have y0:=HY.out.q0
 have y1:=HY.out.q1
 have y2:=HY.out.q2
 have y3:=HY.out.q3
 have y4:=HY.out.q4
 go_wp2_with fail
 refine HP.out.mono ?_
 rintro e w5 ⟨b5,ty,p,rfl,hs⟩
 have HB5:=hid (HB3.out.trans (b5.mono HB3.out.size))
 have HX5:=hid (HX3.out.stay b5)
 have HBf:=hid (set_one_below (set_one_below HB5.out (b:=w.heap.size+1) (by omega) 0 (.string ⟨#[36,115,117,109]⟩)) (b:=w.heap.size+1) (by omega) 1 (.iface ty p))
 have HS:=hid ((hs.set (b:=w.heap.size+1) (c:=w2.heap.size) (by simp; omega) (by simp) 0 (.string ⟨#[36,115,117,109]⟩) (wa:=w2) rfl).set (b:=w.heap.size+1) (c:=w.heap.size) (by omega) (by omega) 1 (.iface ty p) (wa:=w) rfl)
 have q0:=HX5.out.q0
 have q1:=HX5.out.q1
 have f0:=HX5.out.f0
 have f1:=HX5.out.f1
 clear b5 hs HP y0 y1 y2 y3 y4
 go_wp2_with fail
 refine bodyPost_ret (v:=.agg #[.string ⟨#[36,115,117,109]⟩,.iface ty p]) (by simp [results,Tryz.results163,go_sem, *]) rfl ?_
 exact ⟨HBf.out,ty,p,rfl,HS.out⟩
set_option maxHeartbeats 8000000 in
set_option maxRecDepth 100000 in
theorem pentMax_any {Tb : World→Prop} (hL : Lies Tb) (t j : T) (g : T→Int⊕T) (k6 : kindOf t=6) (k1 : nK t=1) (hj : elt t 0=j) (hx : nam t 0=gMax) (h : PxSaid Tb j g) : PeSaid Tb t gMax g:=by
 intro v wB w ha hk hb0 hT
 have l1 : nL t=1:=by have:=hk.names k6; omega
 have hkj : okA j:=by rw [← hj]; exact hk.elt (by omega)
 have Ha:=hid ha
 obtain ⟨g1,La,Ka,Lc,Kc,hg1,rfl,_,_,_⟩:=ha.open
 have HB1 : Hid (Below w.heap.size w ((w.alloc (.cells #[.int .i64 (kindOf t),.int .i64 (nOf t),.string (sOf t),.slice La (nL t) Lc,.slice Ka (nK t) Kc] 36)).alloc (.cells #[.string ⟨#[]⟩,.nilIface] 239))):=((Below.refl _ _).alloc (Nat.le_refl _) _).alloc (by simp) _
 have HX : Hid (Ent2 (w.heap.size+1) ((w.alloc (.cells #[.int .i64 (kindOf t),.int .i64 (nOf t),.string (sOf t),.slice La (nL t) Lc,.slice Ka (nK t) Kc] 36)).alloc (.cells #[.string ⟨#[]⟩,.nilIface] 239))):=by
  show Ent2 _ _
  have:=Ent2.new (w.alloc (.cells #[.int .i64 (kindOf t),.int .i64 (nOf t),.string (sOf t),.slice La (nL t) Lc,.slice Ka (nK t) Kc] 36))
  simpa using this
 have HC:=hid (ppOp_any t j gMax hj hx _ wB _ Ha.out hk k6 k1 (hb0.trans (HB1.out.mono hb0.size)))
 have HE : Hid (∀ (v : Value) (w' : World),At wB 13 v j→Below w.heap.size w w'→Calls Tryz.prog 148 #[v] w' (XpPost Tb wB g w')):=fun v w' h1 h2=>ppExpr_any hL j g h v wB w' h1 hkj (hb0.trans (h2.mono hb0.size)) (hL w hT w w' hT h2)
 clear ha hk hg1 hb0 hT h hL k6 k1 l1 hkj Ha hj hx
 unfold gMax at *
 go_enter Tryz.func163,Tryz.ntmps163
 go_wp2_with fail
 refine HC.out.mono ?_
 rintro e w2 ⟨b2,A,B,C,D,rfl,hat⟩
 have HBa : Hid (Below w2.heap.size w2 (w2.alloc (.cells #[.int .i64 (kindOf j),.int .i64 (nOf j),.string (sOf j),.slice A (nL j) B,.slice C (nK j) D] 36))):=(Below.refl _ _).alloc (Nat.le_refl _) _
 have HB2:=hid (HB1.out.trans (b2.mono HB1.out.size))
 have HB3:=hid (HB2.out.trans (HBa.out.mono HB2.out.size))
 have HX3:=hid ((HX.out.stay b2).stay HBa.out)
 have HP:=hid (HE.out _ _ hat HB3.out)
 have HY:=hid (box_new w2 (.int .i64 (kindOf j)) (.int .i64 (nOf j)) (.string (sOf j)) (.slice A (nL j) B) (.slice C (nK j) D))
 have hl2 : w.heap.size+1<w2.heap.size:=by have:=b2.size; simp at this; omega
 clear b2 hat HC HE
 have y0:=HY.out.q0
 have y1:=HY.out.q1
 have y2:=HY.out.q2
 have y3:=HY.out.q3
 have y4:=HY.out.q4
 go_wp2_with fail
 refine HP.out.mono ?_
 rintro e w5 ⟨b5,ty,p,rfl,hs⟩
 have HB5:=hid (HB3.out.trans (b5.mono HB3.out.size))
 have HX5:=hid (HX3.out.stay b5)
 have HBf:=hid (set_one_below (set_one_below HB5.out (b:=w.heap.size+1) (by omega) 0 (.string ⟨#[36,109,97,120]⟩)) (b:=w.heap.size+1) (by omega) 1 (.iface ty p))
 have HS:=hid ((hs.set (b:=w.heap.size+1) (c:=w2.heap.size) (by simp; omega) (by simp) 0 (.string ⟨#[36,109,97,120]⟩) (wa:=w2) rfl).set (b:=w.heap.size+1) (c:=w.heap.size) (by omega) (by omega) 1 (.iface ty p) (wa:=w) rfl)
 have q0:=HX5.out.q0
 have q1:=HX5.out.q1
 have f0:=HX5.out.f0
 have f1:=HX5.out.f1
 clear b5 hs HP y0 y1 y2 y3 y4
 go_wp2_with fail
 refine bodyPost_ret (v:=.agg #[.string ⟨#[36,109,97,120]⟩,.iface ty p]) (by simp [results,Tryz.results163,go_sem, *]) rfl ?_
 exact ⟨HBf.out,ty,p,rfl,HS.out⟩
set_option maxHeartbeats 8000000 in
set_option maxRecDepth 100000 in
theorem pentFirst_any {Tb : World→Prop} (hL : Lies Tb) (t j : T) (g : T→Int⊕T) (k6 : kindOf t=6) (k1 : nK t=1) (hj : elt t 0=j) (hx : nam t 0=gFirst) (h : PxSaid Tb j g) : PeSaid Tb t gFirst g:=by
 intro v wB w ha hk hb0 hT
 have l1 : nL t=1:=by have:=hk.names k6; omega
 have hkj : okA j:=by rw [← hj]; exact hk.elt (by omega)
 have Ha:=hid ha
 obtain ⟨g1,La,Ka,Lc,Kc,hg1,rfl,_,_,_⟩:=ha.open
 have HB1 : Hid (Below w.heap.size w ((w.alloc (.cells #[.int .i64 (kindOf t),.int .i64 (nOf t),.string (sOf t),.slice La (nL t) Lc,.slice Ka (nK t) Kc] 36)).alloc (.cells #[.string ⟨#[]⟩,.nilIface] 239))):=((Below.refl _ _).alloc (Nat.le_refl _) _).alloc (by simp) _
 have HX : Hid (Ent2 (w.heap.size+1) ((w.alloc (.cells #[.int .i64 (kindOf t),.int .i64 (nOf t),.string (sOf t),.slice La (nL t) Lc,.slice Ka (nK t) Kc] 36)).alloc (.cells #[.string ⟨#[]⟩,.nilIface] 239))):=by
  show Ent2 _ _
  have:=Ent2.new (w.alloc (.cells #[.int .i64 (kindOf t),.int .i64 (nOf t),.string (sOf t),.slice La (nL t) Lc,.slice Ka (nK t) Kc] 36))
  simpa using this
 have HC:=hid (ppOp_any t j gFirst hj hx _ wB _ Ha.out hk k6 k1 (hb0.trans (HB1.out.mono hb0.size)))
 have HE : Hid (∀ (v : Value) (w' : World),At wB 13 v j→Below w.heap.size w w'→Calls Tryz.prog 148 #[v] w' (XpPost Tb wB g w')):=fun v w' h1 h2=>ppExpr_any hL j g h v wB w' h1 hkj (hb0.trans (h2.mono hb0.size)) (hL w hT w w' hT h2)
 clear ha hk hg1 hb0 hT h hL k6 k1 l1 hkj Ha hj hx
 unfold gFirst at *
 go_enter Tryz.func163,Tryz.ntmps163
 go_wp2_with fail
 refine HC.out.mono ?_
 rintro e w2 ⟨b2,A,B,C,D,rfl,hat⟩
 have HBa : Hid (Below w2.heap.size w2 (w2.alloc (.cells #[.int .i64 (kindOf j),.int .i64 (nOf j),.string (sOf j),.slice A (nL j) B,.slice C (nK j) D] 36))):=(Below.refl _ _).alloc (Nat.le_refl _) _
 have HB2:=hid (HB1.out.trans (b2.mono HB1.out.size))
 have HB3:=hid (HB2.out.trans (HBa.out.mono HB2.out.size))
 have HX3:=hid ((HX.out.stay b2).stay HBa.out)
 have HP:=hid (HE.out _ _ hat HB3.out)
 have HY:=hid (box_new w2 (.int .i64 (kindOf j)) (.int .i64 (nOf j)) (.string (sOf j)) (.slice A (nL j) B) (.slice C (nK j) D))
 have hl2 : w.heap.size+1<w2.heap.size:=by have:=b2.size; simp at this; omega
 clear b2 hat HC HE
 have y0:=HY.out.q0
 have y1:=HY.out.q1
 have y2:=HY.out.q2
 have y3:=HY.out.q3
 have y4:=HY.out.q4
 go_wp2_with fail
 refine HP.out.mono ?_
 rintro e w5 ⟨b5,ty,p,rfl,hs⟩
 have HB5:=hid (HB3.out.trans (b5.mono HB3.out.size))
 have HX5:=hid (HX3.out.stay b5)
 have HBf:=hid (set_one_below (set_one_below HB5.out (b:=w.heap.size+1) (by omega) 0 (.string ⟨#[36,102,105,114,115,116]⟩)) (b:=w.heap.size+1) (by omega) 1 (.iface ty p))
 have HS:=hid ((hs.set (b:=w.heap.size+1) (c:=w2.heap.size) (by simp; omega) (by simp) 0 (.string ⟨#[36,102,105,114,115,116]⟩) (wa:=w2) rfl).set (b:=w.heap.size+1) (c:=w.heap.size) (by omega) (by omega) 1 (.iface ty p) (wa:=w) rfl)
 have q0:=HX5.out.q0
 have q1:=HX5.out.q1
 have f0:=HX5.out.f0
 have f1:=HX5.out.f1
 clear b5 hs HP y0 y1 y2 y3 y4
 go_wp2_with fail
 refine bodyPost_ret (v:=.agg #[.string ⟨#[36,102,105,114,115,116]⟩,.iface ty p]) (by simp [results,Tryz.results163,go_sem, *]) rfl ?_
 exact ⟨HBf.out,ty,p,rfl,HS.out⟩
set_option maxHeartbeats 8000000 in
set_option maxRecDepth 100000 in
theorem pentList_any {Tb : World→Prop} (hL : Lies Tb) (t j : T) (g : T→Int⊕T) (k6 : kindOf t=6) (k1 : nK t=1) (hj : elt t 0=j) (hx : nam t 0=gList) (h : PxSaid Tb j g) : PeSaid Tb t gList g:=by
 intro v wB w ha hk hb0 hT
 have l1 : nL t=1:=by have:=hk.names k6; omega
 have hkj : okA j:=by rw [← hj]; exact hk.elt (by omega)
 have Ha:=hid ha
 obtain ⟨g1,La,Ka,Lc,Kc,hg1,rfl,_,_,_⟩:=ha.open
 have HB1 : Hid (Below w.heap.size w ((w.alloc (.cells #[.int .i64 (kindOf t),.int .i64 (nOf t),.string (sOf t),.slice La (nL t) Lc,.slice Ka (nK t) Kc] 36)).alloc (.cells #[.string ⟨#[]⟩,.nilIface] 239))):=((Below.refl _ _).alloc (Nat.le_refl _) _).alloc (by simp) _
 have HX : Hid (Ent2 (w.heap.size+1) ((w.alloc (.cells #[.int .i64 (kindOf t),.int .i64 (nOf t),.string (sOf t),.slice La (nL t) Lc,.slice Ka (nK t) Kc] 36)).alloc (.cells #[.string ⟨#[]⟩,.nilIface] 239))):=by
  show Ent2 _ _
  have:=Ent2.new (w.alloc (.cells #[.int .i64 (kindOf t),.int .i64 (nOf t),.string (sOf t),.slice La (nL t) Lc,.slice Ka (nK t) Kc] 36))
  simpa using this
 have HC:=hid (ppOp_any t j gList hj hx _ wB _ Ha.out hk k6 k1 (hb0.trans (HB1.out.mono hb0.size)))
 have HE : Hid (∀ (v : Value) (w' : World),At wB 13 v j→Below w.heap.size w w'→Calls Tryz.prog 148 #[v] w' (XpPost Tb wB g w')):=fun v w' h1 h2=>ppExpr_any hL j g h v wB w' h1 hkj (hb0.trans (h2.mono hb0.size)) (hL w hT w w' hT h2)
 clear ha hk hg1 hb0 hT h hL k6 k1 l1 hkj Ha hj hx
 unfold gList at *
 go_enter Tryz.func163,Tryz.ntmps163
 go_wp2_with fail
 refine HC.out.mono ?_
 rintro e w2 ⟨b2,A,B,C,D,rfl,hat⟩
 have HBa : Hid (Below w2.heap.size w2 (w2.alloc (.cells #[.int .i64 (kindOf j),.int .i64 (nOf j),.string (sOf j),.slice A (nL j) B,.slice C (nK j) D] 36))):=(Below.refl _ _).alloc (Nat.le_refl _) _
 have HB2:=hid (HB1.out.trans (b2.mono HB1.out.size))
 have HB3:=hid (HB2.out.trans (HBa.out.mono HB2.out.size))
 have HX3:=hid ((HX.out.stay b2).stay HBa.out)
 have HP:=hid (HE.out _ _ hat HB3.out)
 have HY:=hid (box_new w2 (.int .i64 (kindOf j)) (.int .i64 (nOf j)) (.string (sOf j)) (.slice A (nL j) B) (.slice C (nK j) D))
 have hl2 : w.heap.size+1<w2.heap.size:=by have:=b2.size; simp at this; omega
 clear b2 hat HC HE
 have y0:=HY.out.q0
 have y1:=HY.out.q1
 have y2:=HY.out.q2
 have y3:=HY.out.q3
 have y4:=HY.out.q4
 go_wp2_with fail
 refine HP.out.mono ?_
 rintro e w5 ⟨b5,ty,p,rfl,hs⟩
 have HB5:=hid (HB3.out.trans (b5.mono HB3.out.size))
 have HX5:=hid (HX3.out.stay b5)
 have HBf:=hid (set_one_below (set_one_below HB5.out (b:=w.heap.size+1) (by omega) 0 (.string ⟨#[36,108,105,115,116]⟩)) (b:=w.heap.size+1) (by omega) 1 (.iface ty p))
 have HS:=hid ((hs.set (b:=w.heap.size+1) (c:=w2.heap.size) (by simp; omega) (by simp) 0 (.string ⟨#[36,108,105,115,116]⟩) (wa:=w2) rfl).set (b:=w.heap.size+1) (c:=w.heap.size) (by omega) (by omega) 1 (.iface ty p) (wa:=w) rfl)
 have q0:=HX5.out.q0
 have q1:=HX5.out.q1
 have f0:=HX5.out.f0
 have f1:=HX5.out.f1
 clear b5 hs HP y0 y1 y2 y3 y4
 go_wp2_with fail
 refine bodyPost_ret (v:=.agg #[.string ⟨#[36,108,105,115,116]⟩,.iface ty p]) (by simp [results,Tryz.results163,go_sem, *]) rfl ?_
 exact ⟨HBf.out,ty,p,rfl,HS.out⟩
def gCount : ByteArray:=⟨#[36,99,111,117,110,116]⟩
set_option maxHeartbeats 8000000 in
set_option maxRecDepth 100000 in
theorem pentCount_any {Tb : World→Prop} (hL : Lies Tb) (t j : T) (k6 : kindOf t=6) (k1 : nK t=1) (hj : elt t 0=j) (hx : nam t 0=gCount) (kn : kindOf j=1) : PeSaid Tb t gSum (fun _=>.inr (nT 1)):=by
 intro v wB w ha hk hb0 hT
 have l1 : nL t=1:=by have:=hk.names k6; omega
 have hkj : okA j:=by rw [← hj]; exact hk.elt (by omega)
 have Ha:=hid ha
 obtain ⟨g1,La,Ka,Lc,Kc,hg1,rfl,_,_,_⟩:=ha.open
 have HB1 : Hid (Below w.heap.size w ((w.alloc (.cells #[.int .i64 (kindOf t),.int .i64 (nOf t),.string (sOf t),.slice La (nL t) Lc,.slice Ka (nK t) Kc] 36)).alloc (.cells #[.string ⟨#[]⟩,.nilIface] 239))):=((Below.refl _ _).alloc (Nat.le_refl _) _).alloc (by simp) _
 have HX : Hid (Ent2 (w.heap.size+1) ((w.alloc (.cells #[.int .i64 (kindOf t),.int .i64 (nOf t),.string (sOf t),.slice La (nL t) Lc,.slice Ka (nK t) Kc] 36)).alloc (.cells #[.string ⟨#[]⟩,.nilIface] 239))):=by
  show Ent2 _ _
  have:=Ent2.new (w.alloc (.cells #[.int .i64 (kindOf t),.int .i64 (nOf t),.string (sOf t),.slice La (nL t) Lc,.slice Ka (nK t) Kc] 36))
  simpa using this
 have HC:=hid (ppOp_any t j gCount hj hx _ wB _ Ha.out hk k6 k1 (hb0.trans (HB1.out.mono hb0.size)))
 have HE : Hid (∀ (w' : World),Below w.heap.size w w'→Calls Tryz.prog 148 #[.agg #[.int .i64 3,.int .i64 1,.string ⟨#[]⟩,.slice none 0 0,.slice none 0 0]] w' (XpPost Tb wB (fun _=>.inr (nT 1)) w')):=fun w' h2=>ppExpr_any hL (nT 1) _ (pexpr_leaf Tb (nT 1) (.inr (.inr rfl))) _ wB w' (num_at wB ⟨by decide,by decide⟩) (num_okA 1) (hb0.trans (h2.mono hb0.size)) (hL w hT w w' hT h2)
 have Hkn:=hid kn
 clear ha hk hg1 hb0 hT hL kn k6 k1 l1 hkj Ha hj hx
 unfold gCount at *
 unfold gSum at *
 go_enter Tryz.func163,Tryz.ntmps163
 go_wp2_with fail
 refine HC.out.mono ?_
 rintro e w2 ⟨b2,A,B,C,D,rfl,hat⟩
 have HBa : Hid (Below w2.heap.size w2 (w2.alloc (.cells #[.int .i64 (kindOf j),.int .i64 (nOf j),.string (sOf j),.slice A (nL j) B,.slice C (nK j) D] 36))):=(Below.refl _ _).alloc (Nat.le_refl _) _
 have HB2:=hid (HB1.out.trans (b2.mono HB1.out.size))
 have HB3:=hid (HB2.out.trans (HBa.out.mono HB2.out.size))
 have HX3:=hid ((HX.out.stay b2).stay HBa.out)
 have HP:=hid (HE.out _ HB3.out)
 have HY:=hid (box_new w2 (.int .i64 (kindOf j)) (.int .i64 (nOf j)) (.string (sOf j)) (.slice A (nL j) B) (.slice C (nK j) D))
 have hl2 : w.heap.size+1<w2.heap.size:=by have:=b2.size; simp at this; omega
 clear b2 hat HC HE
 rw [Hkn.out] at HY HP HB3 HX3 HBa ⊢
 have y0:=HY.out.q0
 have y1:=HY.out.q1
 have y2:=HY.out.q2
 have y3:=HY.out.q3
 have y4:=HY.out.q4
 go_wp2_with fail
 refine (needP_any _).mono ?_
 rintro e w6 ⟨rfl,rfl⟩
 go_wp2_with fail
 refine HP.out.mono ?_
 rintro e w5 ⟨b5,ty,p,rfl,hs⟩
 have HB5:=hid (HB3.out.trans (b5.mono HB3.out.size))
 have HX5:=hid (HX3.out.stay b5)
 have HBf:=hid (set_one_below (set_one_below HB5.out (b:=w.heap.size+1) (by omega) 0 (.string ⟨#[36,115,117,109]⟩)) (b:=w.heap.size+1) (by omega) 1 (.iface ty p))
 have HS:=hid ((hs.set (b:=w.heap.size+1) (c:=w2.heap.size) (by simp; omega) (by simp) 0 (.string ⟨#[36,115,117,109]⟩) (wa:=w2) rfl).set (b:=w.heap.size+1) (c:=w.heap.size) (by omega) (by omega) 1 (.iface ty p) (wa:=w) rfl)
 have q0:=HX5.out.q0
 have q1:=HX5.out.q1
 have f0:=HX5.out.f0
 have f1:=HX5.out.f1
 clear b5 hs HP y0 y1 y2 y3 y4
 go_wp2_with fail
 refine bodyPost_ret (v:=.agg #[.string ⟨#[36,115,117,109]⟩,.iface ty p]) (by simp [results,Tryz.results163,go_sem, *]) rfl ?_
 exact ⟨HBf.out,ty,p,rfl,HS.out⟩
end Go.Proofs.YtknakfpciccoaabGreatDoor
/- The walk of parseEntries. -/
namespace Go.Proofs.YtknakfpciccoaabGreatDoor
open Go.RowKit
theorem infoEn : (Tryz.prog.info? 239).map (fun i=>(i.zero,i.size,i.bytes))=some (some (.agg #[.string ⟨#[]⟩,.nilIface]),2,32):=by kernel_rfl
def EntE (Tb : World→Prop) (wB : World) (w : World) (X : Nat→Prop) (cs : List Value) (p : ByteArray×(T→Int⊕T)) : Prop:=∃ ty q,cs=[.string p.1,.iface ty q]∧Sat wB w X (fun x=>ExprOk Tb x (.iface ty q) p.2)
theorem entE_moves (Tb : World→Prop) (wB : World) : Moves (EntE Tb wB):=fun _ _ _ _ _ _ h hb=>by
 obtain ⟨ty,q,h1,h2⟩:=h
 exact ⟨ty,q,h1,h2.move hb⟩
theorem newX_newB {base : Nat} {hv : Value} {w wr : World} (hlo : w.heap.size≤base) {b : Nat} (h : newX base hv wr b) : newB w wr b:=⟨Nat.le_trans hlo h.1,h.2.1⟩
theorem bld_ents {Tb : World→Prop} {wB : World} {base : Nat} {hv : Value} {es : List (ByteArray×(T→Int⊕T))} {xs : List Value} {w wr : World} (h : Bld (EntE Tb wB) 2 239 base hv es xs wr) (hlo : w.heap.size≤base) (hn : es.length≤100000) (hg : ∀ i,(hi : i<es.length)→isGOp es[i].1) : ∃ A c,hv=.slice A es.length c∧Sat wB wr (newB w wr) (fun x=>EntsOk Tb x (.slice A es.length c) es):=by
 have hrow:=h.row
 rcases h.row.2 with ⟨rfl,h0⟩ | ⟨g,cap,cur,rfl,hb0,hgb,_⟩
 ·exact ⟨none,0,by rw [h0],Sat.all fun w' _=>⟨none,0,rfl,hn,fun i hi=>by omega⟩⟩
 ·have hgl:=(Array.getElem?_eq_some_iff.1 hgb).1
  refine ⟨some ⟨g,0,none⟩,cap,rfl,newB w wr,fun b hb=>⟨hb,hb.2⟩,fun w' hw hy=>⟨_,_,rfl,hn,fun i hi=>?_⟩⟩
  obtain ⟨ty,q,hc,hs⟩:=h.el i hi
  have c0:=row_cell hrow (elC_get (r:=0) (by rw [hc]; rfl) (by omega))
  have c1:=row_cell hrow (elC_get (r:=1) (by rw [hc]; rfl) (by omega))
  have hgw : w'.heap[g]?=wr.heap[g]?:=hy g ⟨by omega,hgl⟩
  refine ⟨g,0,.iface ty q,rfl,get_lt hgl hgw,?_,?_,?_,hg i hi⟩
  ·rw [cell_of hgw,Nat.zero_add]; exact c0
  ·rw [cell_of hgw,Nat.zero_add]; exact c1
  ·obtain ⟨Y,h1,h2⟩:=hs
   exact h2 w' hw fun b hb=>hy b (newX_newB hlo (h1 b hb).1)
def EsPost (Tb : World→Prop) (wB : World) (es : List (ByteArray×(T→Int⊕T))) (w : World) (e : Ending) (w' : World) : Prop :=
 Below w.heap.size w w'∧∃ A c,e=.returned (.slice A es.length c)∧Sat wB w' (newB w w') (fun x=>EntsOk Tb x (.slice A es.length c) es)
def idNm : ByteArray:=⟨#[95,105,100]⟩
set_option maxHeartbeats 8000000 in
set_option maxRecDepth 100000 in
theorem pents_any {Tb : World→Prop} (hL : Lies Tb) (t : T) (es : List (ByteArray×(T→Int⊕T))) (k6 : kindOf t=6) (hl : nK t=es.length) (hn : es.length≤100000) (hes : ∀ i,(hi : i<es.length)→nam t i≠idNm∧isOp (nam t i)=false∧PeSaid Tb (elt t i) es[i].1 es[i].2∧isGOp es[i].1∧es[i].1.size≤100)
  (v : Value) (wB w : World) (ha : At wB 13 v t) (hk : okA t) (hb0 : Below wB.heap.size wB w) (hT : Tb w) : Calls Tryz.prog 150 #[v] w (EsPost Tb wB es w):=by
 obtain ⟨iE,hiE,zE0,zE1,zE2⟩:=info_parts infoEn
 obtain ⟨g1,La,Ka,Lc,Kc,hg1,rfl,hfj,hel,hnm⟩:=ha.open
 have hnL : nL t=nK t:=(hk.names k6).symm
 have HKj:=hid hk
 have Hel:=hid hel.out
 have Hnm:=hid hnm.out
 have HT : Hid (∀ w' : World,Below w.heap.size w w'→Tb w'):=fun w' hb=>hL w hT w w' hT hb
 have HEs:=hid hes
 have HG : Hid (∀ i,(hi : i<es.length)→isGOp es[i].1):=fun i hi=>(hes i hi).2.2.2.1
 have Hl:=hid hl
 have Hhn:=hid hn
 have hnk : nK t≤100000:=by omega
 have Hg1:=hid hg1
 rw [k6,hnL]
 clear ha hk hel hnm hfj hT hL hes hl hn hg1
 go_enter Tryz.func150,Tryz.ntmps150
 go_wp2_with fail
 refine (needP_any _).mono ?_
 rintro e w2 ⟨rfl,rfl⟩
 go_wp2_with fail
 go_loopg [3,13] (nK t) (fun g o i wr=>∃ (k : Nat) (xs : List Value),g=nK t - k∧k≤nK t∧i=.int .i64 k∧Hid (Below (w.heap.size+1) (w.alloc (.cells #[.int .i64 6,.int .i64 (nOf t),.string (sOf t),.slice La (nK t) Lc,.slice Ka (nK t) Kc] 36)) wr)∧Hid (Bld (EntE Tb wB) 2 239 (w.heap.size+1) o (es.take k) xs wr))
 case atStart=>exact ⟨0,[],rfl,Nat.zero_le _,rfl,Below.refl _ _,Bld.nil _ _ _ _ _⟩
 case round =>
  obtain ⟨k,xs,rfl,hk,rfl,HB,HL⟩:=hrel
  obtain ⟨q0,q1,q2,q3,q4,hz,hbw⟩:=box_facts HB.out
  have Hbr:=hid (hb0.trans (hbw.mono hb0.size))
  have Hbw:=hid hbw
  clear hbw
  by_cases hlt : k<nK t
  ·have hltL : k<nL t:=by omega
   have hlte : k<es.length:=by have:=Hl.out; omega
   obtain ⟨kb,ko,rfl,hkb,hks,hkc⟩:=Hnm.out.keep Hbr.out k hlt
   obtain ⟨bb,oo,A,B,C,D,rfl,hbl,p0,p1,p2,p3,p4,Ha⟩:=Hel.out.shape Hbr.out k hltL
   obtain ⟨e1,e2,e3,e4,e5⟩:=HEs.out k hlte
   have n1 : ((nam t k).toList == [95,105,100])=false:=lit_no (b:=idNm) e1
   have HO:=hid (isOperator_any (nam t k))
   rw [e2] at HO
   have HC:=hid (e3 _ wB wr (Ha.out.up (show g1≤13 by have:=Hg1.out; omega)) (HKj.out.elt hltL) Hbr.out (HT.out _ Hbw.out))
   have HTk : Hid (es.take (k+1)=es.take k ++ [es[k]]):=by show _=_; rw [List.take_add_one,List.getElem?_eq_getElem hlte]; rfl
   have hxl : (es.take k).length=k:=by rw [List.length_take]; omega
   obtain ⟨ek,hek⟩ : ∃ ek,es[k]=ek:=⟨_,rfl⟩
   rw [hek] at HC HTk e5
   clear e1 e2 e3 e4 hek
   obtain ⟨op,gk⟩:=ek
   have hop : op.size≤140737488355328:=by have : op.size≤100:=e5; omega
   dsimp only at HC
   clear e5
   go_wp2_with fail
   refine (HO.out _).mono ?_
   rintro e w2 ⟨rfl,rfl⟩
   go_wp2_with fail
   refine (needP_any _).mono ?_
   rintro e w2 ⟨rfl,rfl⟩
   go_wp2_with fail
   refine HC.out.mono ?_
   rintro e w3 ⟨b3,t6,v6,rfl,ht⟩
   have HTt:=hid ht
   have Hb3:=hid b3
   have HB4 : Hid (Below w3.heap.size w3 (w3.alloc (.cells #[.string op,.iface t6 v6] 239))):=(Below.refl _ _).alloc (Nat.le_refl _) _
   have HL4:=hid ((HL.out.keep (entE_moves Tb wB) Hb3.out).keep (entE_moves Tb wB) HB4.out)
   have HSrc : Hid (Src Tryz.prog 2 176 (.slice (some ⟨w3.heap.size,0,none⟩) 1 1) 1 [.string op,.iface t6 v6] (w3.alloc (.cells #[.string op,.iface t6 v6] 239))):=Src.ofSlice _ Tryz.underlying176 ⟨w3.heap.size,0,none⟩ 1 1 [.string op,.iface t6 v6] (by simp) (World.news_of_block (heap_alloc_new w3 _)) (by simp [Value.oneCell'])
   have hlo : w.heap.size+1≤(w3.alloc (.cells #[.string op,.iface t6 v6] 239)).heap.size:=by have:=Hb3.out.size; simp; omega
   clear b3 ht HC HO
   go_wp2_with (at_builtin; refine wpList_append_src _ rfl (.tmp 26) (.tmp 33) 176 176 rfl (w.heap.size+1) 239 iE _ 2 32 Tryz.underlying176 hiE zE0 zE1 zE2 rfl u3 (es.take k).length xs rfl HL4.out.row (.slice (some ⟨w3.heap.size,0,none⟩) 1 1) 1 [.string op,.iface t6 v6] rfl HSrc.out (by unfold maxLen; omega) (by omega) hlo ?_; intro v' w6 hO6 hG6 hat6)
   have HL6:=hid (HL.out.grow (x:=(op,gk)) (cs:=[.string op,.iface t6 v6]) (entE_moves Tb wB) (Hb3.out.trans (HB4.out.mono Hb3.out.size)) rfl (entE_moves Tb wB _ _ _ _ _ _ ⟨t6,v6,rfl,HTt.out⟩ (fun b hb=>⟨HB4.out.block b hb.2,hb⟩)) (fun b hb=>⟨hb.1,Nat.lt_of_lt_of_le hb.2 HB4.out.size⟩) (by omega) hO6 hG6 hat6)
   have HB6:=hid (below_grown ((HB.out.trans (Hb3.out.mono (by omega))).trans (HB4.out.mono (by have:=Hb3.out.size; omega))) HL4.out.row (Nat.le_refl _) (by omega) hG6)
   rw [← HTk.out] at HL6
   clear hO6 hG6 hat6
   go_wp2_with fail
   go_roundg (nK t - (k+1))
   case rel=>exact ⟨k+1,_,rfl,by omega,by go_num,HB6,HL6⟩
   case measure=>omega
  ·obtain rfl : k=nK t:=by omega
   rw [Hl.out,List.take_length] at HL
   obtain ⟨A,c,rfl,hs⟩:=bld_ents (w:=w) HL.out (by omega) Hhn.out HG.out
   have HS:=hid hs
   clear hs HL
   go_wp2_with fail
   go_ret
   exact ⟨Hbw.out,_,_,rfl,HS.out⟩
end Go.Proofs.YtknakfpciccoaabGreatDoor
/- slices.Grow of texts; slices.Concat of two rows of texts. -/
namespace Go.Proofs.YtknakfpciccoaabGreatDoor
open Go.RowKit
theorem infoStr : (Tryz.prog.info? 9).map (fun i=>(i.zero,i.size,i.bytes))=some (some (.string ⟨#[]⟩),1,16):=by kernel_rfl
set_option maxHeartbeats 4000000 in
set_option maxRecDepth 100000 in
theorem growN_any (n : Nat) (w : World) (h0 : 0<n) (hn : n≤1000000) : Calls Tryz.prog 162 #[.slice none 0 0,.int .i64 n] w fun e w'=>Below w.heap.size w w'∧∃ c,e=.returned (.slice (some ⟨w.heap.size,0,none⟩) 0 c)∧w'.ownsRow w.heap.size 9 1 (.slice (some ⟨w.heap.size,0,none⟩) 0 c) 0 []∧c≤maxLen:=by
 obtain ⟨iS,hiS,zS0,zS1,zS2⟩:=info_parts infoStr
 obtain ⟨G,hG⟩ : ∃ G,G=grownCap w (0+n) 0 9:=⟨_,rfl⟩
 have hG63 : G≤maxLen:=by
  rw [hG]
  exact grownCap_le_maxLen w (0+n) 0 9 (by unfold maxLen; omega)
 have hGn : n≤G:=by
  have:=grownCap_ge w (0+n) 0 9
  omega
 have hrz : ∀ ty,(Builtin.append_ #[28,3] ty #[.slice none 0 0,.int .i64 (n : Int)]).run Tryz.prog w=.ok (.slice (some ⟨w.heap.size,0,none⟩) n G) (w.drew.alloc (.cells (Builtin.zeroCells #[.string ⟨#[]⟩] n ++ Builtin.zeroCells #[.string ⟨#[]⟩] (G - n)) 9)):=fun ty=>by
  have h:=Lib.run_append_grow_zeros (P:=Tryz.prog) w 28 3 ty 9 iS (.string ⟨#[]⟩) .i64 .i64 Tryz.underlying28 Tryz.underlying3 hiS zS0 none 0 0 [] (run_firstCells_none w.drew iS.size 0 0 0) n h0 (by omega) (by omega) (by omega) (by rw [zS2]; omega) (by rw [Nat.zero_add,zS2]; exact growslice_fits (by omega) (by omega))
  rw [← hG,Nat.zero_add,show (Value.string ⟨#[]⟩).cells=#[.string ⟨#[]⟩] by kernel_rfl] at h
  simpa using h
 have HB : Hid (Below w.heap.size w (w.drew.alloc (.cells (Builtin.zeroCells #[.string ⟨#[]⟩] n ++ Builtin.zeroCells #[.string ⟨#[]⟩] (G - n)) 9))):=(below_drew w).alloc (by simp) _
 have HO : Hid ((w.drew.alloc (.cells (Builtin.zeroCells #[.string ⟨#[]⟩] n ++ Builtin.zeroCells #[.string ⟨#[]⟩] (G - n)) 9)).ownsRow w.heap.size 9 1 (.slice (some ⟨w.heap.size,0,none⟩) 0 G) 0 []):=by
  refine ⟨rfl,.inr ⟨w.heap.size,G,Builtin.zeroCells #[.string ⟨#[]⟩] n ++ Builtin.zeroCells #[.string ⟨#[]⟩] (G - n),rfl,Nat.le_refl _,?_,Nat.zero_le _,hG63,?_,?_⟩⟩
  ·have:=heap_alloc_new w.drew (.cells (Builtin.zeroCells #[.string ⟨#[]⟩] n ++ Builtin.zeroCells #[.string ⟨#[]⟩] (G - n)) 9)
   simpa using this
  ·simp [Builtin.zeroCells]; omega
  ·simp
 have h1 : ¬ ((n : Int)<0):=by omega
 have h3 : IntKind.i64.wrap (n : Int)=n:=by rw [IntKind.wrap_i64]; omega
 have h4 : (0 : Int)<(n : Int):=by omega
 have h5 : wrap64 (n : Int)=n:=by unfold wrap64; omega
 have Hc:=hid hG63
 have hgl : G≤9223372036854775807:=by unfold maxLen at hG63; omega
 clear hG hG63 hiS zS0 zS1 zS2
 go_enter Tryz.func162,Tryz.ntmps162
 go_wp2_with (at_builtin; refine Lib.wpList_append_run _ rfl _ _ _ _ rfl _ _ rfl rfl _ _ (hrz _) ?_)
 all_goals go_ret
 all_goals exact ⟨HB.out,G,rfl,HO.out,Hc.out⟩
theorem strs_src {w : World} {A : Option Addr} {n c : Nat} {l : List ByteArray} (h : StrsAt w (.slice A n c) l) : Src Tryz.prog 1 28 (.slice A n c) n (l.map fun s=>.string s) w:=by
 obtain ⟨A',c',hv,hl,h⟩:=h
 simp only [Value.slice.injEq] at hv
 obtain ⟨rfl,rfl,rfl⟩:=hv
 have hone : ∀ u ∈ l.map (fun s=>Value.string s),u.oneCell'=true:=fun u hu=>by
  obtain ⟨s,_,rfl⟩:=List.mem_map.1 hu
  rfl
 cases A with
 | none =>
  cases l with
  | nil=>exact Src.ofNil _ Tryz.underlying28 c
  | cons a r =>
   obtain ⟨b,o,h0,_⟩:=h 0 (by simp)
   cases h0
 | some a =>
  refine Src.ofSlice _ Tryz.underlying28 a l.length c _ (by simp) (fun j u hu=>?_) hone
  rw [List.getElem?_map] at hu
  cases hj : l[j]? with
  | none=>rw [hj] at hu; cases hu
  | some s =>
   rw [hj] at hu
   simp only [Option.map_some,Option.some.injEq] at hu
   subst hu
   obtain ⟨hlt,hs⟩:=List.getElem?_eq_some_iff.1 hj
   obtain ⟨b,o,h0,_,_,h3⟩:=h j hlt
   cases h0
   rw [show (⟨b,o,none⟩ : Addr).add j=⟨b,o+j,none⟩ by unfold Addr.add; by_cases e : j=0 <;> simp [e],h3,List.getD_eq_getElem?_getD,hj]
   rfl
theorem row_strs {w w' : World} {v : Value} {l : List ByteArray} (h : w'.ownsRow w.heap.size 9 1 v l.length (l.map fun s=>.string s)) (hn : l.length≤8796093022208) (hs : ∀ i,i<l.length→(l.getD i ByteArray.empty).size≤140737488355328) : StrsB w' (newB w w') v l:=by
 have hrow:=h
 rcases h.2 with ⟨rfl,h0⟩ | ⟨g,cap,cur,rfl,hb0,hg,_⟩
 ·exact ⟨none,0,by rw [h0],hn,fun i hi=>by omega⟩
 ·refine ⟨_,_,rfl,hn,fun i hi=>⟨g,0,rfl,⟨hb0,(Array.getElem?_eq_some_iff.1 hg).1⟩,hs i hi,?_⟩⟩
  rw [Nat.zero_add]
  refine row_cell hrow ?_
  rw [List.getElem?_map,List.getElem?_eq_getElem hi,List.getD_eq_getElem?_getD,List.getElem?_eq_getElem hi]
  rfl
def lenK (a b k : Nat) : Nat:=if k=0 then 0 else if k=1 then a else a+b
def appK (a b : List ByteArray) (k : Nat) : List ByteArray:=if k=0 then [] else if k=1 then a else a ++ b
set_option maxHeartbeats 8000000 in
set_option maxRecDepth 100000 in
theorem concat_any (ob : Nat) (A1 A2 : Option Addr) (c1 c2 n1 n2 : Nat) (l1 l2 : List ByteArray) (w : World) (q0 : w.cell? ⟨ob,0,none⟩=some (.slice A1 n1 c1)) (q1 : w.cell? ⟨ob,1,none⟩=some (.slice A2 n2 c2)) (h1 : StrsAt w (.slice A1 n1 c1) l1) (h2 : StrsAt w (.slice A2 n2 c2) l2) (hob : ob<w.heap.size) (hn : 0<n1+n2) (hm : n1+n2≤1000000) :
  Calls Tryz.prog 149 #[.slice (some ⟨ob,0,none⟩) 2 2] w fun e w'=>Below w.heap.size w w'∧∃ v,e=.returned v∧StrsB w' (newB w w') v (l1 ++ l2):=by
 obtain ⟨iS,hiS,zS0,zS1,zS2⟩:=info_parts infoStr
 have HS1 : Hid (∀ w' : World,Below w.heap.size w w'→Src Tryz.prog 1 28 (.slice A1 n1 c1) n1 (l1.map fun s=>.string s) w'):=fun w' hb=>strs_src (h1.keep hb)
 have HS2 : Hid (∀ w' : World,Below w.heap.size w w'→Src Tryz.prog 1 28 (.slice A2 n2 c2) n2 (l2.map fun s=>.string s) w'):=fun w' hb=>strs_src (h2.keep hb)
 have HQ : Hid (∀ w' : World,Below w.heap.size w w'→w'.cell? ⟨ob,0,none⟩=some (.slice A1 n1 c1)∧w'.cell? ⟨ob,1,none⟩=some (.slice A2 n2 c2)):=fun w' hb=>⟨(hb.cell (p:=⟨ob,0,none⟩) hob).trans q0,(hb.cell (p:=⟨ob,1,none⟩) hob).trans q1⟩
 have HL : Hid (l1.length=n1∧l2.length=n2∧∀ i,i<(l1 ++ l2).length→((l1 ++ l2).getD i ByteArray.empty).size≤140737488355328):=by
  obtain ⟨_,_,e1,_,g1⟩:=h1
  obtain ⟨_,_,e2,_,g2⟩:=h2
  simp only [Value.slice.injEq] at e1 e2
  refine ⟨e1.2.1.symm,e2.2.1.symm,fun i hi=>?_⟩
  rw [List.length_append] at hi
  by_cases e : i<l1.length
  ·rw [List.getD_eq_getElem?_getD,List.getElem?_append_left e,← List.getD_eq_getElem?_getD]
   obtain ⟨_,_,_,_,h,_⟩:=g1 i e
   exact h
  ·rw [List.getD_eq_getElem?_getD,List.getElem?_append_right (by omega),← List.getD_eq_getElem?_getD]
   obtain ⟨_,_,_,_,h,_⟩:=g2 (i - l1.length) (by omega)
   exact h
 have HG:=hid (growN_any (n1+n2) w hn hm)
 clear h1 h2 hn
 go_enter Tryz.func149,Tryz.ntmps149
 go_wp2_with fail
 go_loopg [3,11] 2 (fun g s i wr=>∃ (k m : Nat),g=2 - k∧k≤2∧i=.int .i64 k∧s=.int .i64 m∧Hid (m=lenK n1 n2 k)∧w=wr)
 case atStart=>exact ⟨0,0,rfl,by omega,rfl,rfl,rfl,rfl⟩
 case round =>
  obtain ⟨k,m,rfl,hk,rfl,rfl,Hm,rfl⟩:=hrel
  obtain rfl | rfl | rfl : k=0∨k=1∨k=2:=by omega
  ·obtain rfl : m=0:=Hm.out
   have hw : IntKind.i64.wrap (n1 : Int)=n1:=by rw [IntKind.wrap_i64]; omega
   have hnn : ¬ ((n1 : Int)<0):=by omega
   go_wp2_with fail
   go_roundg 1
   case rel=>exact ⟨1,n1,rfl,by omega,rfl,by go_num,rfl,rfl⟩
   case measure=>omega
  ·obtain rfl : m=n1:=Hm.out
   have hw : IntKind.i64.wrap ((m : Int)+(n2 : Int))=m+n2:=by rw [IntKind.wrap_i64]; omega
   have hnn : ¬ ((m : Int)+(n2 : Int)<0):=by omega
   go_wp2_with fail
   go_roundg 0
   case rel=>exact ⟨2,m+n2,rfl,by omega,rfl,by go_num,rfl,rfl⟩
   case measure=>omega
  ·obtain rfl : m=n1+n2:=Hm.out
   go_wp2_with fail
   refine HG.out.mono ?_
   rintro e w1 ⟨b1,c,rfl,hO,hc⟩
   have HB1:=hid b1
   have HO1:=hid hO
   clear b1 hO HG hc q0 q1
   go_wp2_with fail
   go_loopg [6,27] 2 (fun g o i wr=>∃ (k m : Nat) (xs : List Value),g=2 - k∧k≤2∧i=.int .i64 k∧Hid (Below w.heap.size w wr)∧Hid (wr.ownsRow w.heap.size 9 1 o m xs)∧Hid (m=lenK n1 n2 k∧xs=(appK l1 l2 k).map fun s=>.string s))
   case atStart=>exact ⟨0,0,[],rfl,by omega,rfl,HB1,HO1,rfl,rfl⟩
   case round =>
    clear HB1 HO1
    obtain ⟨k,m,xs,rfl,hk,rfl,HB,HO,Hx⟩:=hrel
    obtain rfl | rfl | rfl : k=0∨k=1∨k=2:=by omega
    ·obtain rfl : m=0:=Hx.out.1
     have HX:=hid Hx.out.2
     have q:=(HQ.out _ HB.out).1
     have hlo : w.heap.size≤wr.heap.size:=HB.out.size
     clear Hx
     go_wp2_with (at_builtin; refine wpList_append_src _ rfl (.tmp 31) (.tmp 32) 28 28 rfl w.heap.size 9 iS _ 1 16 Tryz.underlying28 hiS zS0 zS1 zS2 rfl u6 0 xs rfl HO.out (.slice A1 n1 c1) n1 (l1.map fun s=>.string s) rfl (HS1.out _ HB.out) (by unfold maxLen; omega) (by omega) hlo ?_; intro v' w6 hO6 hG6 hat6)
     have HO6:=hid hO6
     have HB6:=hid (below_grown HB.out HO.out (Nat.le_refl _) hlo hG6)
     clear hO6 hG6 hat6
     go_wp2_with fail
     go_roundg 1
     case rel=>exact ⟨1,_,_,rfl,by omega,rfl,HB6,HO6,by show _=_; unfold lenK; simp,by rw [HX.out]; simp [appK]⟩
     case measure=>omega
    ·obtain rfl : m=n1:=Hx.out.1
     have HX:=hid Hx.out.2
     have q:=(HQ.out _ HB.out).2
     have hlo : w.heap.size≤wr.heap.size:=HB.out.size
     clear Hx
     go_wp2_with (at_builtin; refine wpList_append_src _ rfl (.tmp 31) (.tmp 32) 28 28 rfl w.heap.size 9 iS _ 1 16 Tryz.underlying28 hiS zS0 zS1 zS2 rfl u6 m xs rfl HO.out (.slice A2 n2 c2) n2 (l2.map fun s=>.string s) rfl (HS2.out _ HB.out) (by unfold maxLen; omega) (by omega) hlo ?_; intro v' w6 hO6 hG6 hat6)
     have HO6:=hid hO6
     have HB6:=hid (below_grown HB.out HO.out (Nat.le_refl _) hlo hG6)
     clear hO6 hG6 hat6
     go_wp2_with fail
     go_roundg 0
     case rel=>exact ⟨2,_,_,rfl,by omega,rfl,HB6,HO6,by show _=_; unfold lenK; simp,by rw [HX.out]; simp [appK]⟩
     case measure=>omega
    ·obtain ⟨hm2,hx2⟩:=Hx.out
     have h2 : m=n1+n2:=hm2
     have h3 : xs=(l1 ++ l2).map fun s=>.string s:=hx2
     subst h2
     subst h3
     obtain ⟨e1,e2,e3⟩:=HL.out
     have HSt:=hid (row_strs (w:=w) (w':=wr) (v:=u6) (l:=l1 ++ l2) (by rw [List.length_append,e1,e2]; exact HO.out) (by rw [List.length_append]; omega) e3)
     clear Hx hm2 hx2 e1 e2 e3
     go_wp2_with fail
     go_ret
     exact ⟨HB.out,_,rfl,HSt.out⟩
end Go.Proofs.YtknakfpciccoaabGreatDoor
