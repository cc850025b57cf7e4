import Derived.Test.YtknakfpciccoaabGreatDoorZS13
import Derived.Test.YtknakfpciccoaabGreatDoorZS17
import Derived.Test.YtknakfpciccoaabGreatDoorZS16
import Derived.Shelf.LaysM
import Derived.Shelf.Strings.BuilderK
import Derived.Shelf.Strconv.Itoa4
import Derived.Test.YtknakfpciccoaabGreatDoorProg
import Derived.Test.YtknakfpciccoaabGreatDoorZS3
import Derived.Test.YtknakfpciccoaabGreatDoorZS7
/- Expressions are read: what a reader's answer says, wherever what is older is kept; OnlyEntry; the leaves. -/
namespace Go.Proofs.YtknakfpciccoaabGreatDoor
open Go.RowKit
theorem get_lt {w w' : World} {b : Nat} (h : b<w.heap.size) (e : w'.heap[b]?=w.heap[b]?) : b<w'.heap.size:=by
 rw [Array.getElem?_eq_getElem h] at e
 exact (Array.getElem?_eq_some_iff.1 e).1
def Sat (wB w : World) (X : Nat→Prop) (P : World→Prop) : Prop:=∃ Y : Nat→Prop,(∀ b,Y b→X b∧b<w.heap.size)∧∀ w' : World,Below wB.heap.size wB w'→(∀ b,Y b→w'.heap[b]?=w.heap[b]?)→P w'
theorem Sat.move {wB w w1 : World} {X X1 : Nat→Prop} {P : World→Prop} (h : Sat wB w X P) (hb : ∀ b,X b→w1.heap[b]?=w.heap[b]?∧X1 b) : Sat wB w1 X1 P:=by
 obtain ⟨Y,h1,h2⟩:=h
 exact ⟨Y,fun b hy=>⟨(hb b (h1 b hy).1).2,get_lt (h1 b hy).2 (hb b (h1 b hy).1).1⟩,fun w' hw hy=>h2 w' hw fun b hb'=>(hy b hb').trans (hb b (h1 b hb').1).1⟩
theorem Sat.mono {wB w : World} {X : Nat→Prop} {P Q : World→Prop} (h : Sat wB w X P) (hPQ : ∀ w' : World,Below wB.heap.size wB w'→P w'→Q w') : Sat wB w X Q:=by
 obtain ⟨Y,h1,h2⟩:=h
 exact ⟨Y,h1,fun w' hw hy=>hPQ w' hw (h2 w' hw hy)⟩
theorem Sat.and {wB w : World} {X : Nat→Prop} {P Q : World→Prop} (h : Sat wB w X P) (h' : Sat wB w X Q) : Sat wB w X (fun x=>P x∧Q x):=by
 obtain ⟨Y,h1,h2⟩:=h
 obtain ⟨Z,h3,h4⟩:=h'
 exact ⟨fun b=>Y b∨Z b,fun b hb=>hb.elim (h1 b) (h3 b),fun w' hw hy=>⟨h2 w' hw fun b hb=>hy b (.inl hb),h4 w' hw fun b hb=>hy b (.inr hb)⟩⟩
theorem Sat.at {wB w : World} {X : Nat→Prop} {P : World→Prop} (h : Sat wB w X P) (hb : Below wB.heap.size wB w) : P w:=by
 obtain ⟨Y,h1,h2⟩:=h
 exact h2 w hb fun _ _=>rfl
theorem Sat.all {wB w : World} {X : Nat→Prop} {P : World→Prop} (h : ∀ w' : World,Below wB.heap.size wB w'→P w') : Sat wB w X P:=⟨fun _=>False,fun _ hb=>hb.elim,fun w' hw _=>h w' hw⟩
theorem Sat.later {wB w0 wa w1 w2 : World} {P : World→Prop} (h : Sat wB w1 (newB w0 w1) P) (hb : Below w1.heap.size w1 w2) (hs : wa.heap.size≤w0.heap.size) : Sat wB w2 (newB wa w2) P :=
 h.move fun b hx=>⟨hb.block b hx.2,Nat.le_trans hs hx.1,Nat.lt_of_lt_of_le hx.2 hb.size⟩
def XpPost (Tb : World→Prop) (wB : World) (g : T→Int⊕T) (w : World) (e : Ending) (w' : World) : Prop :=
 Below w.heap.size w w'∧∃ ty p,e=.returned (.iface ty p)∧Sat wB w' (newB w w') (fun x=>ExprOk Tb x (.iface ty p) g)
def PxSaid (Tb : World→Prop) (t : T) (g : T→Int⊕T) : Prop:=∀ (v : Value) (wB w : World),At wB 13 v t→okA t→Below wB.heap.size wB w→Tb w→Calls Tryz.prog 177 #[v] w (XpPost Tb wB g w)
set_option maxHeartbeats 4000000 in
set_option maxRecDepth 100000 in
theorem needE_any (w : World) : Calls Tryz.prog 187 #[.bool true] w fun e w'=>w'=w∧e=.returned (.tuple #[]):=by
 have HC:=hid (unless_any true 9 w)
 simp only [if_true] at HC
 go_enter Tryz.func187,Tryz.ntmps187
 go_wp2_with fail
 refine HC.out.mono ?_
 rintro e w2 ⟨rfl,rfl⟩
 go_wp2_with fail
 refine bodyPost_end (v:=.tuple #[]) (by simp [results,Tryz.results187,go_sem]) rfl ?_
 exact ⟨rfl,rfl⟩
set_option maxHeartbeats 4000000 in
set_option maxRecDepth 100000 in
theorem needP_any (w : World) : Calls Tryz.prog 93 #[.bool true] w fun e w'=>w'=w∧e=.returned (.tuple #[]):=by
 have HC:=hid (unless_any true 9 w)
 simp only [if_true] at HC
 go_enter Tryz.func93,Tryz.ntmps93
 go_wp2_with fail
 refine HC.out.mono ?_
 rintro e w2 ⟨rfl,rfl⟩
 go_wp2_with fail
 refine bodyPost_end (v:=.tuple #[]) (by simp [results,Tryz.results93,go_sem]) rfl ?_
 exact ⟨rfl,rfl⟩
set_option maxHeartbeats 4000000 in
set_option maxRecDepth 100000 in
theorem only_any (t j : T) (hj : elt t 0=j) (v : Value) (w0 w : World) (h : At w0 13 v t) (hk : okA t) (k6 : kindOf t=6) (k1 : nK t=1) (hb0 : Below w0.heap.size w0 w) :
  Calls Tryz.prog 147 #[v] w fun e w'=>Below w.heap.size w w'∧∃ A B C D,e=.returned (.tuple #[.string (nam t 0),.agg #[.int .i64 (kindOf j),.int .i64 (nOf j),.string (sOf j),.slice A (nL j) B,.slice C (nK j) D],.bool true])∧At w0 13 (.agg #[.int .i64 (kindOf j),.int .i64 (nOf j),.string (sOf j),.slice A (nL j) B,.slice C (nK j) D]) j:=by
 obtain ⟨g1,La,Ka,Lc,Kc,hg1,rfl,hfj,hel,hnm⟩:=h.open
 have l1 : nL t=1:=by have:=hk.names k6; omega
 have HB1 : Hid (Below w.heap.size w ((w.alloc (.cells #[.int .i64 (kindOf t),.int .i64 (nOf t),.string (sOf t),.slice La (nL t) Lc,.slice Ka (nK t) Kc] 36)).alloc (.cells #[.int .i64 0,.int .i64 0,.string ⟨#[]⟩,.slice none 0 0,.slice none 0 0] 36))):=((Below.refl _ _).alloc (Nat.le_refl _) _).alloc (by simp) _
 obtain ⟨kb,ko,rfl,hkb,hks,hkc⟩:=hnm.out.keep (hb0.trans (HB1.out.drew.mono hb0.size)) 0 (by omega)
 obtain ⟨bb,oo,A,B,C,D,rfl,hbl,p0,p1,p2,p3,p4,Ha⟩:=hel.out.shape (hb0.trans (HB1.out.drew.mono hb0.size)) 0 (by omega)
 simp only [Nat.add_zero,Nat.zero_mul] at hkc p0 p1 p2 p3 p4
 rw [hj] at p0 p1 p2 p3 p4 Ha
 have HAt:=hid (Ha.out.up (show g1≤13 by omega))
 rw [k6,k1,l1] at *
 clear h hk hel hnm hfj Ha hb0 hg1 hks hkb hbl
 go_enter Tryz.func147,Tryz.ntmps147
 go_wp2_with fail
 go_region_law (fail)
 all_goals
  go_wp2_with fail
  refine bodyPost_ret (v:=.tuple #[.string (nam t 0),.agg #[.int .i64 (kindOf j),.int .i64 (nOf j),.string (sOf j),.slice A (nL j) B,.slice C (nK j) D],.bool true]) (by simp [results,Tryz.results147,go_sem, *]) rfl ?_
  have hb : Below w.heap.size w (((w.alloc (.cells #[.int .i64 6,.int .i64 (nOf t),.string (sOf t),.slice (some ⟨bb,oo,none⟩) 1 Lc,.slice (some ⟨kb,ko,none⟩) 1 Kc] 36)).alloc (.cells #[.int .i64 (kindOf j),.int .i64 (nOf j),.string (sOf j),.slice A (nL j) B,.slice C (nK j) D] 36)).drew):=(((Below.refl _ _).alloc (Nat.le_refl _) _).alloc (by simp) _).drew
  exact ⟨hb,A,B,C,D,rfl,HAt.out⟩
end Go.Proofs.YtknakfpciccoaabGreatDoor
/- Expressions are read: texts, values themselves; expr.Parse. -/
namespace Go.Proofs.YtknakfpciccoaabGreatDoor
open Go.RowKit
set_option maxHeartbeats 4000000 in
set_option maxRecDepth 100000 in
theorem ptext_found {Tb : World→Prop} (hA : AtoiSaid Tb) (hI : ItoaSaid Tb) (hSp : SplitSaid Tb) (hL : Lies Tb) (t : T) (x : ByteArray) (v : Value) (wB w : World) (ha : At wB 13 v t) (hop : isOp (sOf t)=true) (hx : (sOf t).extract 1 (sOf t).size=x) (h1 : 1≤(sOf t).size) (h2 : (sOf t).size≤1048576) (hp : pathOk x=true) (hT : Tb w) : Calls Tryz.prog 186 #[v] w (XpPost Tb wB (fun d=>.inr (orNull (splitP x) d)) w):=by
 obtain ⟨g1,La,Ka,Lc,Kc,hg1,rfl,_,_,_⟩:=ha.open
 have HB1 : Hid (Below w.heap.size w (w.alloc (.cells #[.int .i64 (kindOf t),.int .i64 (nOf t),.string (sOf t),.slice La (nL t) Lc,.slice Ka (nK t) Kc] 36))):=(Below.refl _ _).alloc (Nat.le_refl _) _
 have hxs : x.size≤1048576:=by rw [← hx,ByteArray.size_extract]; omega
 have HP:=hid (pathParse_any hSp x _ hxs (hL w hT _ _ hT HB1.out))
 have HF : Hid (∀ (pv : Value) (w1 w' : World),StrsB w1 (newB w w1) pv (splitP x)→Sat wB w1 (newB w w1) (fun y=>ExprOk Tb y (.iface 266 (.agg #[pv])) (fun d=>.inr (orNull (splitP x) d)))):=fun pv w1 w' hs=>⟨newB w w1,fun b hb=>⟨hb,hb.2⟩,fun w2 hw hy=>found_ok hA hI hL ((hs.move (X':=fun b=>b<w2.heap.size) fun b hb=>⟨hy b hb,get_lt hb.2 (hy b hb)⟩).at fun b hb=>hb)⟩
 have HC:=hid (isOperator_any (sOf t))
 rw [hop] at HC
 have h1i : (1 : Int)≤((sOf t).size : Int):=by omega
 clear ha hop hg1 hT hA hI hSp hL
 go_enter Tryz.func186,Tryz.ntmps186
 go_wp2_with fail
 refine (HC.out _).mono ?_
 rintro e w2 ⟨rfl,rfl⟩
 go_wp2_with fail
 refine HP.out.mono ?_
 rintro e w3 ⟨b3,⟨_,pv,rfl,hs⟩ | ⟨h,_⟩⟩
 ·have HB3:=hid (HB1.out.trans (b3.mono HB1.out.size))
  have HSt:=hid (HF.out pv w3 w3 (hs.move fun b hb=>⟨rfl,by have:=hb.1; simp at this; omega,hb.2⟩))
  obtain ⟨PA,pc,hpv,hz1,hz2⟩:=hs
  subst hpv
  clear b3 HP HF hz1 hz2
  go_wp2_with fail
  refine (needE_any _).mono ?_
  rintro e w4 ⟨rfl,rfl⟩
  go_wp2_with fail
  go_ret
  exact ⟨HB3.out,_,_,rfl,HSt.out⟩
 ·rw [hp] at h; cases h
set_option maxHeartbeats 4000000 in
set_option maxRecDepth 100000 in
theorem pexpr_leaf (Tb : World→Prop) (t : T) (h : kindOf t=1∨kindOf t=2∨kindOf t=3) : PxSaid Tb t (fun _=>.inr t):=by
 intro v wB w ha hk hb0 hT
 have Ha:=hid ha
 obtain ⟨g1,La,Ka,Lc,Kc,hg1,rfl,_,_,_⟩:=ha.open
 have HB1 : Hid (Below w.heap.size w (w.alloc (.cells #[.int .i64 (kindOf t),.int .i64 (nOf t),.string (sOf t),.slice La (nL t) Lc,.slice Ka (nK t) Kc] 36))):=(Below.refl _ _).alloc (Nat.le_refl _) _
 have HS : Hid (∀ (x : World) (X : Nat→Prop),Sat wB x X (fun x=>ExprOk Tb x (.iface 257 (.agg #[.int .i64 (kindOf t),.int .i64 (nOf t),.string (sOf t),.slice La (nL t) Lc,.slice Ka (nK t) Kc])) (fun _=>.inr t))):=fun x X=>Sat.all fun w' hb=>itself_ok Tb (Ha.out.keep hb) hk
 clear ha hk hg1 Ha hb0 hT
 rcases h with k | k | k
 all_goals
  rw [k] at HS HB1 ⊢
  go_enter Tryz.func177,Tryz.ntmps177
  go_wp2_with fail
  go_ret
  exact ⟨HB1.out,_,_,rfl,HS.out _ _⟩
set_option maxHeartbeats 4000000 in
set_option maxRecDepth 100000 in
theorem pexpr_text {Tb : World→Prop} (hL : Lies Tb) (t : T) (g : T→Int⊕T) (k4 : kindOf t=4) (h : ∀ (v : Value) (wB w : World),At wB 13 v t→okA t→Below wB.heap.size wB w→Tb w→Calls Tryz.prog 186 #[v] w (XpPost Tb wB g w)) : PxSaid Tb t g:=by
 intro v wB w ha hk hb0 hT
 obtain ⟨g1,La,Ka,Lc,Kc,hg1,rfl,_,_,_⟩:=ha.open
 have HB1 : Hid (Below w.heap.size w (w.alloc (.cells #[.int .i64 (kindOf t),.int .i64 (nOf t),.string (sOf t),.slice La (nL t) Lc,.slice Ka (nK t) Kc] 36))):=(Below.refl _ _).alloc (Nat.le_refl _) _
 have HC:=hid (h _ wB _ ha hk (hb0.trans (HB1.out.mono hb0.size)) (hL w hT _ _ hT HB1.out))
 rw [k4] at HB1 HC ⊢
 clear ha hk hg1 hb0 hT h hL k4
 go_enter Tryz.func177,Tryz.ntmps177
 go_wp2_with fail
 refine HC.out.mono ?_
 rintro e w2 ⟨b2,ty,p,rfl,hs⟩
 have HB2:=hid (HB1.out.trans (b2.mono HB1.out.size))
 have HS:=hid (hs.later (wa:=w) (Below.refl _ _) (by simp))
 clear b2 hs HC
 go_wp2_with fail
 go_ret
 exact ⟨HB2.out,_,_,rfl,HS.out⟩
end Go.Proofs.YtknakfpciccoaabGreatDoor
/- expr.Parse; what the readers of pipelines read first. -/
namespace Go.Proofs.YtknakfpciccoaabGreatDoor
open Go.RowKit
set_option maxHeartbeats 1000000 in
set_option maxRecDepth 100000 in
theorem catchE_idle (be : Nat) (w : World) :
  CallsD Tryz.prog 185 #[.pointer (some ⟨be,0,none⟩)] .returning w fun e u' w'=>e=.returned (.tuple #[])∧u'=.returning∧w'=w:=by
 refine callsD_of_wpS Tryz.func185 rfl fun c₀ cs hu=>?_
 apply wpS_seq
 apply wpS_region
 simp [wpOpsS,go_sem,recoverD,hu,Tryz.ntmps185,Exit.thenS]
 refine wpS_of_wp ?_
 go_wp2_with fail
 cases c₀
 simp_all [bodyPostS,results,Tryz.results185]
set_option maxHeartbeats 1000000 in
set_option maxRecDepth 100000 in
theorem attemptE (g : Nat) (hg : ∀ (a : Array Value) (w : World),(callFunc g a).run Tryz.prog w=.ok (.enter g a) w) (R : Value→World→Prop) (p : Value) (w : World)
  (h : Calls Tryz.prog g #[p] (boxErr w) fun e w'=>Below (boxErr w).heap.size (boxErr w) w'∧∃ v,e=.returned v∧R v w') :
  Calls Tryz.prog 175 #[.func (Fn.func g) #[] #[p]] w fun e w'=>Below w.heap.size w w'∧∃ x w2,e=.returned (.tuple #[x,.int .i64 0])∧R x w2∧Above (w.heap.size+1) w2 w'∧Below w.heap.size w w2:=by
 have hmf : ∀ (fn : Fn) (first cap : Array Value) (w : World),(Instr.makeFunc fn first cap).run Tryz.prog w=.ok (.func fn first cap) w:=fun _ _ _ _=>rfl
 have H:=hid h
 have HF:=hid (boxErr_facts w)
 clear h
 go_enter_defers Tryz.func175,Tryz.ntmps175
 go_wp2_with fail
 refine H.out.mono ?_
 rintro e w1 ⟨hb,v,rfl,hR⟩
 have l0 : w.heap.size<(boxErr w).heap.size:=by have:=HF.out.2.2.1; omega
 have a5:=(hb.cell (p:=⟨w.heap.size,0,none⟩) l0).trans HF.out.1
 have z5:=(hb.frozen (p:=⟨w.heap.size,0,none⟩) l0).trans HF.out.2.1
 have HB:=hid (HF.out.2.2.2.trans (hb.mono HF.out.2.2.2.size))
 clear hb l0 H
 have HR:=hid hR
 clear hR
 go_wp2_with fail
 refine leaves_cons (f:=185) (args:=#[.pointer (some ⟨w.heap.size,0,none⟩)]) (by simp) (by simp [go_sem]) ?_
 refine (catchE_idle w.heap.size _).mono ?_
 rintro e u' w'' ⟨rfl,rfl,rfl⟩
 simp only [Leaves,settle]
 refine ⟨_,by simp [results,Tryz.results175,go_sem, *],?_,_,w1,rfl,HR.out,?_,HB.out⟩
 ·exact HB.out.setCell (Nat.le_refl _) _
 ·exact (Above.refl _ _).set (by omega) _ _
set_option maxHeartbeats 1000000 in
set_option maxRecDepth 100000 in
theorem catchP_idle (be : Nat) (w : World) :
  CallsD Tryz.prog 92 #[.pointer (some ⟨be,0,none⟩)] .returning w fun e u' w'=>e=.returned (.tuple #[])∧u'=.returning∧w'=w:=by
 refine callsD_of_wpS Tryz.func92 rfl fun c₀ cs hu=>?_
 apply wpS_seq
 apply wpS_region
 simp [wpOpsS,go_sem,recoverD,hu,Tryz.ntmps92,Exit.thenS]
 refine wpS_of_wp ?_
 go_wp2_with fail
 cases c₀
 simp_all [bodyPostS,results,Tryz.results92]
set_option maxHeartbeats 1000000 in
set_option maxRecDepth 100000 in
theorem attemptP (g : Nat) (hg : ∀ (a : Array Value) (w : World),(callFunc g a).run Tryz.prog w=.ok (.enter g a) w) (R : Value→World→Prop) (p : Value) (w : World)
  (h : Calls Tryz.prog g #[p] (boxErr w) fun e w'=>Below (boxErr w).heap.size (boxErr w) w'∧∃ v,e=.returned v∧R v w') :
  Calls Tryz.prog 62 #[.func (Fn.func g) #[] #[p]] w fun e w'=>Below w.heap.size w w'∧∃ x w2,e=.returned (.tuple #[x,.int .i64 0])∧R x w2∧Above (w.heap.size+1) w2 w'∧Below w.heap.size w w2:=by
 have hmf : ∀ (fn : Fn) (first cap : Array Value) (w : World),(Instr.makeFunc fn first cap).run Tryz.prog w=.ok (.func fn first cap) w:=fun _ _ _ _=>rfl
 have H:=hid h
 have HF:=hid (boxErr_facts w)
 clear h
 go_enter_defers Tryz.func62,Tryz.ntmps62
 go_wp2_with fail
 refine H.out.mono ?_
 rintro e w1 ⟨hb,v,rfl,hR⟩
 have l0 : w.heap.size<(boxErr w).heap.size:=by have:=HF.out.2.2.1; omega
 have a5:=(hb.cell (p:=⟨w.heap.size,0,none⟩) l0).trans HF.out.1
 have z5:=(hb.frozen (p:=⟨w.heap.size,0,none⟩) l0).trans HF.out.2.1
 have HB:=hid (HF.out.2.2.2.trans (hb.mono HF.out.2.2.2.size))
 clear hb l0 H
 have HR:=hid hR
 clear hR
 go_wp2_with fail
 refine leaves_cons (f:=92) (args:=#[.pointer (some ⟨w.heap.size,0,none⟩)]) (by simp) (by simp [go_sem]) ?_
 refine (catchP_idle w.heap.size _).mono ?_
 rintro e u' w'' ⟨rfl,rfl,rfl⟩
 simp only [Leaves,settle]
 refine ⟨_,by simp [results,Tryz.results62,go_sem, *],?_,_,w1,rfl,HR.out,?_,HB.out⟩
 ·exact HB.out.setCell (Nat.le_refl _) _
 ·exact (Above.refl _ _).set (by omega) _ _
theorem Sat.attempt {wB w W w2 w3 : World} {P : World→Prop} (h : Sat wB w2 (newB (boxErr W) w2) P) (hW : w.heap.size≤W.heap.size) (hab : Above (W.heap.size+1) w2 w3) : Sat wB w3 (newB w w3) P :=
 h.move fun b hb=>by
  have h1:=(boxErr_facts W).2.2.1
  have h2:=hb.1
  have h3:=hab.size
  have h4:=hb.2
  exact ⟨hab.block b (by omega),by omega,by omega⟩
set_option maxHeartbeats 4000000 in
set_option maxRecDepth 100000 in
theorem eParseIn_any {Tb : World→Prop} (t : T) (g : T→Int⊕T) (h : PxSaid Tb t g) (v : Value) (wB w : World) (ha : At wB 13 v t) (hk : okA t) (hb0 : Below wB.heap.size wB w) (hT : Tb w) (p : Nat)
  (La Ka : Option Addr) (Lc Kc : Nat) (hv : v=.agg #[.int .i64 (kindOf t),.int .i64 (nOf t),.string (sOf t),.slice La (nL t) Lc,.slice Ka (nK t) Kc])
  (q0 : w.cell? ⟨p,0,none⟩=some (.int .i64 (kindOf t))) (q1 : w.cell? ⟨p,1,none⟩=some (.int .i64 (nOf t))) (q2 : w.cell? ⟨p,2,none⟩=some (.string (sOf t))) (q3 : w.cell? ⟨p,3,none⟩=some (.slice La (nL t) Lc)) (q4 : w.cell? ⟨p,4,none⟩=some (.slice Ka (nK t) Kc)) :
  Calls Tryz.prog 176 #[.pointer (some ⟨p,0,none⟩)] w (XpPost Tb wB g w):=by
 subst hv
 have HC:=hid (h _ wB w ha hk hb0 hT)
 clear ha hk hb0 hT h
 go_enter Tryz.func176,Tryz.ntmps176
 go_wp2_with fail
 refine HC.out.mono ?_
 rintro e w3 ⟨b3,ty,q,rfl,hs⟩
 have HB3:=hid b3
 have HS:=hid hs
 clear b3 hs
 go_wp2_with fail
 go_ret
 exact ⟨HB3.out,_,_,rfl,HS.out⟩
set_option maxHeartbeats 4000000 in
set_option maxRecDepth 100000 in
theorem eParse_any {Tb : World→Prop} (hL : Lies Tb) (t : T) (g : T→Int⊕T) (h : PxSaid Tb t g) (v : Value) (wB w : World) (ha : At wB 13 v t) (hk : okA t) (hb0 : Below wB.heap.size wB w) (hT : Tb w) :
  Calls Tryz.prog 161 #[v] w fun e w'=>Below w.heap.size w w'∧∃ ty p,e=.returned (.tuple #[.iface ty p,.int .i64 0])∧Sat wB w' (newB w w') (fun x=>ExprOk Tb x (.iface ty p) g):=by
 have hmf : ∀ (fn : Fn) (first cap : Array Value) (w : World),(Instr.makeFunc fn first cap).run Tryz.prog w=.ok (.func fn first cap) w:=fun _ _ _ _=>rfl
 obtain ⟨g1,La,Ka,Lc,Kc,hg1,hv,_,_,_⟩:=ha.open
 have HB1 : Hid (Below w.heap.size w (w.alloc (.cells #[.int .i64 (kindOf t),.int .i64 (nOf t),.string (sOf t),.slice La (nL t) Lc,.slice Ka (nK t) Kc] 36))):=(Below.refl _ _).alloc (Nat.le_refl _) _
 have HE:=hid (boxErr_facts (w.alloc (.cells #[.int .i64 (kindOf t),.int .i64 (nOf t),.string (sOf t),.slice La (nL t) Lc,.slice Ka (nK t) Kc] 36)))
 have hbb : Below (w.heap.size+1) (w.alloc (.cells #[.int .i64 (kindOf t),.int .i64 (nOf t),.string (sOf t),.slice La (nL t) Lc,.slice Ka (nK t) Kc] 36)) (boxErr (w.alloc (.cells #[.int .i64 (kindOf t),.int .i64 (nOf t),.string (sOf t),.slice La (nL t) Lc,.slice Ka (nK t) Kc] 36))):=HE.out.2.2.2.mono (by simp)
 obtain ⟨q0,q1,q2,q3,q4,hz,hbw⟩:=box_facts hbb
 have HI:=hid (eParseIn_any t g h v wB (boxErr (w.alloc (.cells #[.int .i64 (kindOf t),.int .i64 (nOf t),.string (sOf t),.slice La (nL t) Lc,.slice Ka (nK t) Kc] 36))) ha hk (hb0.trans (hbw.mono hb0.size)) (hL w hT _ _ hT hbw) w.heap.size La Ka Lc Kc hv q0 q1 q2 q3 q4)
 have HA:=hid (attemptE 176 (fun _ _=>rfl) (fun v w'=>∃ ty p,v=.iface ty p∧Sat wB w' (newB (boxErr (w.alloc (.cells #[.int .i64 (kindOf t),.int .i64 (nOf t),.string (sOf t),.slice La (nL t) Lc,.slice Ka (nK t) Kc] 36))) w') (fun x=>ExprOk Tb x (.iface ty p) g)) (.pointer (some ⟨w.heap.size,0,none⟩)) _ (HI.out.mono fun e w' hh=>by
  obtain ⟨h1,ty,p,h2,h3⟩:=hh
  exact ⟨h1,_,h2,ty,p,rfl,h3⟩))
 subst hv
 clear ha hk hb0 hT h hL hbb q0 q1 q2 q3 q4 hz hbw HI hg1 HE
 go_enter Tryz.func161,Tryz.ntmps161
 go_wp2_with fail
 refine HA.out.mono ?_
 rintro e w3 ⟨b3,x,w2,rfl,⟨ty,p,rfl,hs⟩,hab,hb2⟩
 have HB3:=hid (HB1.out.trans (b3.mono HB1.out.size))
 have HS:=hid (hs.attempt (w:=w) (by simp) hab)
 clear b3 hs hab hb2 HA
 go_wp2_with fail
 refine bodyPost_ret (v:=.tuple #[.iface ty p,.int .i64 0]) (by simp [results,Tryz.results161,go_sem, *]) rfl ?_
 exact ⟨HB3.out,_,_,rfl,HS.out⟩
set_option maxHeartbeats 4000000 in
set_option maxRecDepth 100000 in
theorem ppExpr_any {Tb : World→Prop} (hL : Lies Tb) (t : T) (g : T→Int⊕T) (h : PxSaid Tb t g) (v : Value) (wB w : World) (ha : At wB 13 v t) (hk : okA t) (hb0 : Below wB.heap.size wB w) (hT : Tb w) :
  Calls Tryz.prog 148 #[v] w (XpPost Tb wB g w):=by
 obtain ⟨g1,La,Ka,Lc,Kc,hg1,hv,_,_,_⟩:=ha.open
 have HB1 : Hid (Below w.heap.size w (w.alloc (.cells #[.int .i64 (kindOf t),.int .i64 (nOf t),.string (sOf t),.slice La (nL t) Lc,.slice Ka (nK t) Kc] 36))):=(Below.refl _ _).alloc (Nat.le_refl _) _
 have HC:=hid (eParse_any hL t g h v wB _ ha hk (hb0.trans (HB1.out.mono hb0.size)) (hL w hT _ _ hT HB1.out))
 subst hv
 clear ha hk hb0 hT h hL hg1
 go_enter Tryz.func148,Tryz.ntmps148
 go_wp2_with fail
 refine HC.out.mono ?_
 rintro e w3 ⟨b3,ty,p,rfl,hs⟩
 have HB3:=hid (HB1.out.trans (b3.mono HB1.out.size))
 have HS:=hid (hs.later (wa:=w) (Below.refl _ _) (by simp))
 clear b3 hs HC
 go_wp2_with fail
 refine (needP_any _).mono ?_
 rintro e w4 ⟨rfl,rfl⟩
 go_wp2_with fail
 go_ret
 exact ⟨HB3.out,_,_,rfl,HS.out⟩
set_option maxHeartbeats 4000000 in
set_option maxRecDepth 100000 in
theorem ppOp_any (t j : T) (x : ByteArray) (hj : elt t 0=j) (hx : nam t 0=x) (v : Value) (w0 w : World) (h : At w0 13 v t) (hk : okA t) (k6 : kindOf t=6) (k1 : nK t=1) (hb0 : Below w0.heap.size w0 w) :
  Calls Tryz.prog 121 #[v] w fun e w'=>Below w.heap.size w w'∧∃ A B C D,e=.returned (.tuple #[.string x,.agg #[.int .i64 (kindOf j),.int .i64 (nOf j),.string (sOf j),.slice A (nL j) B,.slice C (nK j) D]])∧At w0 13 (.agg #[.int .i64 (kindOf j),.int .i64 (nOf j),.string (sOf j),.slice A (nL j) B,.slice C (nK j) D]) j:=by
 have Ha:=hid h
 obtain ⟨g1,La,Ka,Lc,Kc,hg1,rfl,_,_,_⟩:=h.open
 have HB1 : Hid (Below w.heap.size w ((w.alloc (.cells #[.int .i64 (kindOf t),.int .i64 (nOf t),.string (sOf t),.slice La (nL t) Lc,.slice Ka (nK t) Kc] 36)).alloc (.cells #[.int .i64 0,.int .i64 0,.string ⟨#[]⟩,.slice none 0 0,.slice none 0 0] 36))):=((Below.refl _ _).alloc (Nat.le_refl _) _).alloc (by simp) _
 have HX : Hid (BoxAt (w.heap.size+1) (.int .i64 0) (.int .i64 0) (.string ⟨#[]⟩) (.slice none 0 0) (.slice none 0 0) ((w.alloc (.cells #[.int .i64 (kindOf t),.int .i64 (nOf t),.string (sOf t),.slice La (nL t) Lc,.slice Ka (nK t) Kc] 36)).alloc (.cells #[.int .i64 0,.int .i64 0,.string ⟨#[]⟩,.slice none 0 0,.slice none 0 0] 36))):=by
  show BoxAt _ _ _ _ _ _ _
  have:=box_new (w.alloc (.cells #[.int .i64 (kindOf t),.int .i64 (nOf t),.string (sOf t),.slice La (nL t) Lc,.slice Ka (nK t) Kc] 36)) (.int .i64 0) (.int .i64 0) (.string ⟨#[]⟩) (.slice none 0 0) (.slice none 0 0)
  simpa using this
 have HC:=hid (only_any t j hj _ w0 _ Ha.out hk k6 k1 (hb0.trans (HB1.out.mono hb0.size)))
 rw [hx] at HC
 clear h hk hg1 hb0 k6 k1 hj hx Ha
 go_enter Tryz.func121,Tryz.ntmps121
 go_wp2_with fail
 refine HC.out.mono ?_
 rintro e w2 ⟨b2,A,B,C,D,rfl,hat⟩
 have HBa : Hid (Below w2.heap.size w2 (w2.alloc (.cells #[.int .i64 (kindOf j),.int .i64 (nOf j),.string (sOf j),.slice A (nL j) B,.slice C (nK j) D] 36))):=(Below.refl _ _).alloc (Nat.le_refl _) _
 have HX3:=hid ((HX.out.stay b2).stay HBa.out)
 have HB2:=hid (HB1.out.trans (b2.mono HB1.out.size))
 have HB3:=hid (HB2.out.trans (HBa.out.mono HB2.out.size))
 have HY:=hid (box_new w2 (.int .i64 (kindOf j)) (.int .i64 (nOf j)) (.string (sOf j)) (.slice A (nL j) B) (.slice C (nK j) D))
 have HAt:=hid hat
 clear b2 hat HC HBa HB2
 go_wp2_with fail
 refine (needP_any _).mono ?_
 rintro e w4 ⟨rfl,rfl⟩
 generalize w2.alloc (.cells #[.int .i64 (kindOf j),.int .i64 (nOf j),.string (sOf j),.slice A (nL j) B,.slice C (nK j) D] 36)=W at HY HX3 HB3 ⊢
 generalize w2.heap.size=wb at HY ⊢
 have HO:=hid (HX3.out.put5 (.int .i64 (kindOf j)) (.int .i64 (nOf j)) (.string (sOf j)) (.slice A (nL j) B) (.slice C (nK j) D))
 have HBf:=hid (below_res HB3.out (b:=w.heap.size+1) (by omega) (by have:=HX3.out.lt; omega) (.int .i64 (kindOf j)) (.int .i64 (nOf j)) (.string (sOf j)) (.slice A (nL j) B) (.slice C (nK j) D)).drew
 unfold put5 at HO HBf
 have y0:=HY.out.q0
 have y1:=HY.out.q1
 have y2:=HY.out.q2
 have y3:=HY.out.q3
 have y4:=HY.out.q4
 have r0:=HX3.out.q0
 have r1:=HX3.out.q1
 have r2:=HX3.out.q2
 have r3:=HX3.out.q3
 have r4:=HX3.out.q4
 have z0:=HX3.out.f0
 have z1:=HX3.out.f1
 have z2:=HX3.out.f2
 have z3:=HX3.out.f3
 have z4:=HX3.out.f4
 go_wp2_with fail
 go_region_law (fail)
 all_goals
  go_wp2_with fail
  clear r0 r1 r2 r3 r4 z0 z1 z2 z3 z4
  have HO1:=hid HO.out
  have r0:=HO1.out.q0
  have r1:=HO1.out.q1
  have r2:=HO1.out.q2
  have r3:=HO1.out.q3
  have r4:=HO1.out.q4
  refine bodyPost_ret (v:=.tuple #[.string x,.agg #[.int .i64 (kindOf j),.int .i64 (nOf j),.string (sOf j),.slice A (nL j) B,.slice C (nK j) D]]) (by simp [results,Tryz.results121,go_sem, *]) rfl ?_
  exact ⟨HBf.out,A,B,C,D,rfl,HAt.out⟩
end Go.Proofs.YtknakfpciccoaabGreatDoor
/- The walk of a list of expressions. -/
namespace Go.Proofs.YtknakfpciccoaabGreatDoor
open Go.RowKit
theorem fv_last {xs : List Value} {n : Nat} (hx : xs.length=n * 5) (c0 c1 c2 c3 c4 : Value) : fv (xs ++ [c0,c1,c2,c3,c4]) n=.agg #[c0,c1,c2,c3,c4]:=by
 unfold fv
 rw [← hx,show xs.length=xs.length+0 from rfl,cx_right,Nat.add_assoc,cx_right,Nat.add_assoc,cx_right,Nat.add_assoc,cx_right,Nat.add_assoc,cx_right]
 rfl
theorem fv_first {xs ys : List Value} {i n : Nat} (hx : xs.length=n * 5) (hi : i<n) : fv (xs ++ ys) i=fv xs i:=by
 unfold fv
 rw [cx_left (by omega),cx_left (by omega),cx_left (by omega),cx_left (by omega),cx_left (by omega)]
theorem row_base2 {w : World} {lo lo' : Nat} {e : TypeId} {s n : Nat} {v : Value} {xs : List Value} (h : w.ownsRow lo e s v n xs) (hl : lo'≤lo) : w.ownsRow lo' e s v n xs:=by
 refine ⟨h.1,?_⟩
 rcases h.2 with hn | ⟨g,cap,cur,rfl,hb0,rest⟩
 ·exact .inl hn
 ·exact .inr ⟨g,cap,cur,rfl,Nat.le_trans hl hb0,rest⟩
end Go.Proofs.YtknakfpciccoaabGreatDoor
/- Contracts of the library's shelf, laid at this dump: strings.Builder's WriteByte and WriteString, strconv.FormatInt. -/
namespace Go.Proofs
open Go.Shelf
def Tryz.laysWriteByte_ren : Go.Shelf.Ren:=⟨fun | 167=>130 | 240=>128 | 276=>151 | n=>n,fun | 0=>0 | 4=>4 | 5=>5 | 9=>9 | 20=>20 | 37=>98 | 70=>106 | 72=>108 | 75=>137 | 164=>222 | 80=>110 | n=>n,fun | n=>n⟩
theorem Tryz.laysWriteByte : Go.Proofs.Lays.n167 Tryz.prog Tryz.laysWriteByte_ren:={
 mixed:=by kernel_rfl
 f167:=Tryz.func130.trans (congrArg some (by kernel_rfl))
 f240:=Tryz.func128.trans (congrArg some (by kernel_rfl))
 f276:=Tryz.func151.trans (congrArg some (by kernel_rfl))
 t0:=Tryz.underlying0
 a0:=Tryz.isAgg0
 z0:=Tryz.sizeOf0
 v0:=Tryz.zeroValue0
 t4:=Tryz.underlying4
 a4:=Tryz.isAgg4
 z4:=Tryz.sizeOf4
 v4:=Tryz.zeroValue4
 t5:=Tryz.underlying5
 a5:=Tryz.isAgg5
 z5:=Tryz.sizeOf5
 v5:=Tryz.zeroValue5
 t9:=Tryz.underlying9
 a9:=Tryz.isAgg9
 z9:=Tryz.sizeOf9
 v9:=Tryz.zeroValue9
 t20:=Tryz.underlying20
 a20:=Tryz.isAgg20
 z20:=Tryz.sizeOf20
 v20:=Tryz.zeroValue20
 t37:=Tryz.underlying98
 a37:=Tryz.isAgg98
 z37:=Tryz.sizeOf98
 v37:=Tryz.zeroValue98
 t70:=Tryz.underlying106
 a70:=Tryz.isAgg106
 z70:=Tryz.sizeOf106
 v70:=Tryz.zeroValue106
 t72:=Tryz.underlying108
 a72:=Tryz.isAgg108
 z72:=Tryz.sizeOf108
 v72:=Tryz.zeroValue108
 t75:=Tryz.underlying137
 a75:=Tryz.isAgg137
 z75:=Tryz.sizeOf137
 v75:=Tryz.zeroValue137
 t164:=Tryz.underlying222
 a164:=Tryz.isAgg222
 z164:=Tryz.sizeOf222
 v164:=Tryz.zeroValue222 }
theorem Tryz.extraWriteByte : Go.Proofs.Builder.Extra Tryz.prog Tryz.laysWriteByte_ren:={
 sizeBuilder:=by kernel_rfl
 liesBuilder:=by kernel_rfl
 t5:=Tryz.underlying5
 a5:=Tryz.isAgg5
 z5:=Tryz.sizeOf5
 v5:=Tryz.zeroValue5
 infoByte:=by kernel_rfl
 cellsByte:=by kernel_rfl
 sizeByte:=by kernel_rfl
 neB5:=by decide }
def Tryz.laysWriteString_ren : Go.Shelf.Ren:=⟨fun | 166=>95 | 240=>128 | 276=>151 | n=>n,fun | 0=>0 | 3=>3 | 4=>4 | 9=>9 | 20=>20 | 37=>98 | 70=>106 | 72=>108 | 75=>137 | 164=>222 | 80=>110 | n=>n,fun | n=>n⟩
theorem Tryz.laysWriteString : Go.Proofs.Lays.n166 Tryz.prog Tryz.laysWriteString_ren:={
 mixed:=by kernel_rfl
 f166:=Tryz.func95.trans (congrArg some (by kernel_rfl))
 f240:=Tryz.func128.trans (congrArg some (by kernel_rfl))
 f276:=Tryz.func151.trans (congrArg some (by kernel_rfl))
 t0:=Tryz.underlying0
 a0:=Tryz.isAgg0
 z0:=Tryz.sizeOf0
 v0:=Tryz.zeroValue0
 t3:=Tryz.underlying3
 a3:=Tryz.isAgg3
 z3:=Tryz.sizeOf3
 v3:=Tryz.zeroValue3
 t4:=Tryz.underlying4
 a4:=Tryz.isAgg4
 z4:=Tryz.sizeOf4
 v4:=Tryz.zeroValue4
 t9:=Tryz.underlying9
 a9:=Tryz.isAgg9
 z9:=Tryz.sizeOf9
 v9:=Tryz.zeroValue9
 t20:=Tryz.underlying20
 a20:=Tryz.isAgg20
 z20:=Tryz.sizeOf20
 v20:=Tryz.zeroValue20
 t37:=Tryz.underlying98
 a37:=Tryz.isAgg98
 z37:=Tryz.sizeOf98
 v37:=Tryz.zeroValue98
 t70:=Tryz.underlying106
 a70:=Tryz.isAgg106
 z70:=Tryz.sizeOf106
 v70:=Tryz.zeroValue106
 t72:=Tryz.underlying108
 a72:=Tryz.isAgg108
 z72:=Tryz.sizeOf108
 v72:=Tryz.zeroValue108
 t75:=Tryz.underlying137
 a75:=Tryz.isAgg137
 z75:=Tryz.sizeOf137
 v75:=Tryz.zeroValue137
 t164:=Tryz.underlying222
 a164:=Tryz.isAgg222
 z164:=Tryz.sizeOf222
 v164:=Tryz.zeroValue222 }
theorem Tryz.extraWriteString : Go.Proofs.Builder.Extra Tryz.prog Tryz.laysWriteString_ren:={
 sizeBuilder:=by kernel_rfl
 liesBuilder:=by kernel_rfl
 t5:=Tryz.underlying5
 a5:=Tryz.isAgg5
 z5:=Tryz.sizeOf5
 v5:=Tryz.zeroValue5
 infoByte:=by kernel_rfl
 cellsByte:=by kernel_rfl
 sizeByte:=by kernel_rfl
 neB5:=by decide }
def Tryz.laysFormat_ren : Go.Shelf.Ren:=⟨fun | 173=>97 | 246=>42 | 283=>67 | 284=>68 | 285=>69 | 286=>70 | 129=>102 | 317=>101 | 318=>103 | 319=>104 | 320=>105 | 337=>131 | 338=>132 | n=>n,fun | 2=>2 | 3=>3 | 9=>9 | 4=>4 | 171=>111 | 0=>0 | 53=>112 | 37=>98 | 5=>5 | 173=>115 | 212=>145 | 51=>146 | 20=>20 | 213=>147 | 46=>148 | 232=>224 | 233=>225 | n=>n,fun | 17=>0 | 18=>3 | 19=>4 | n=>n⟩
theorem Tryz.laysFormat : Go.Proofs.LaysM.n173 Tryz.prog Tryz.laysFormat_ren:={
 mixed:=by kernel_rfl
 f129:=Tryz.func102.trans (congrArg some (by kernel_rfl))
 f173:=Tryz.func97.trans (congrArg some (by kernel_rfl))
 f246:=Tryz.func42.trans (congrArg some (by kernel_rfl))
 f283:=Tryz.func67.trans (congrArg some (by kernel_rfl))
 f284:=Tryz.func68.trans (congrArg some (by kernel_rfl))
 f285:=Tryz.func69.trans (congrArg some (by kernel_rfl))
 f286:=Tryz.func70.trans (congrArg some (by kernel_rfl))
 f317:=Tryz.func101.trans (congrArg some (by kernel_rfl))
 f318:=Tryz.func103.trans (congrArg some (by kernel_rfl))
 f319:=Tryz.func104.trans (congrArg some (by kernel_rfl))
 f320:=Tryz.func105.trans (congrArg some (by kernel_rfl))
 f337:=Tryz.func131.trans (congrArg some (by kernel_rfl))
 f338:=Tryz.func132.trans (congrArg some (by kernel_rfl))
 t0:=Tryz.underlying0
 a0:=Tryz.isAgg0
 z0:=Tryz.sizeOf0
 v0:=Tryz.zeroValue0
 t2:=Tryz.underlying2
 a2:=Tryz.isAgg2
 z2:=Tryz.sizeOf2
 v2:=Tryz.zeroValue2
 t3:=Tryz.underlying3
 a3:=Tryz.isAgg3
 z3:=Tryz.sizeOf3
 v3:=Tryz.zeroValue3
 t4:=Tryz.underlying4
 a4:=Tryz.isAgg4
 z4:=Tryz.sizeOf4
 v4:=Tryz.zeroValue4
 t5:=Tryz.underlying5
 a5:=Tryz.isAgg5
 z5:=Tryz.sizeOf5
 v5:=Tryz.zeroValue5
 t9:=Tryz.underlying9
 a9:=Tryz.isAgg9
 z9:=Tryz.sizeOf9
 v9:=Tryz.zeroValue9
 t20:=Tryz.underlying20
 a20:=Tryz.isAgg20
 z20:=Tryz.sizeOf20
 v20:=Tryz.zeroValue20
 t37:=Tryz.underlying98
 a37:=Tryz.isAgg98
 z37:=Tryz.sizeOf98
 v37:=Tryz.zeroValue98
 t46:=Tryz.underlying148
 a46:=Tryz.isAgg148
 z46:=Tryz.sizeOf148
 v46:=Tryz.zeroValue148
 t51:=Tryz.underlying146
 a51:=Tryz.isAgg146
 z51:=Tryz.sizeOf146
 v51:=Tryz.zeroValue146
 t53:=Tryz.underlying112
 a53:=Tryz.isAgg112
 z53:=Tryz.sizeOf112
 v53:=Tryz.zeroValue112
 t171:=Tryz.underlying111
 a171:=Tryz.isAgg111
 z171:=Tryz.sizeOf111
 v171:=Tryz.zeroValue111
 t173:=Tryz.underlying115
 a173:=Tryz.isAgg115
 z173:=Tryz.sizeOf115
 v173:=Tryz.zeroValue115
 t212:=Tryz.underlying145
 a212:=Tryz.isAgg145
 z212:=Tryz.sizeOf145
 v212:=Tryz.zeroValue145
 t213:=Tryz.underlying147
 a213:=Tryz.isAgg147
 z213:=Tryz.sizeOf147
 t232:=Tryz.underlying224
 a232:=Tryz.isAgg224
 z232:=Tryz.sizeOf224
 v232:=Tryz.zeroValue224
 t233:=Tryz.underlying225
 a233:=Tryz.isAgg225
 z233:=Tryz.sizeOf225
 v233:=Tryz.zeroValue225
 g17:=by kernel_rfl
 g18:=by kernel_rfl
 g19:=by kernel_rfl
 i0:=by kernel_rfl
 i2:=by kernel_rfl
 i3:=by kernel_rfl
 i4:=by kernel_rfl
 i5:=by kernel_rfl
 i9:=by kernel_rfl
 i20:=by kernel_rfl
 i37:=by kernel_rfl
 i46:=by kernel_rfl
 i51:=by kernel_rfl
 i53:=by kernel_rfl
 i171:=by kernel_rfl
 i173:=by kernel_rfl
 i212:=by kernel_rfl
 i232:=by kernel_rfl
 i233:=by kernel_rfl
 m17:=by kernel_rfl
 m18:=by kernel_rfl
 m19:=by kernel_rfl }
end Go.Proofs
/- Values as texts, pure: what is written; the builder's writers. -/
namespace Go.Proofs.YtknakfpciccoaabGreatDoor
open Go.RowKit
def hexC (n : Nat) : UInt8:=if n<10 then UInt8.ofNat (48+n) else UInt8.ofNat (87+n)
def escC (c : UInt8) : List UInt8:=if c.toNat=34∨c.toNat=92 then [92,c] else if c.toNat<32 then [92,117,48,48,hexC (c.toNat / 16),hexC (c.toNat % 16)] else [c]
def escTo (s : ByteArray) (k : Nat) : List UInt8:=(s.data.toList.take k).flatMap escC
def quoL (s : ByteArray) : List UInt8:=34 :: (escTo s s.size ++ [34])
theorem escTo_zero (s : ByteArray) : escTo s 0=[]:=by simp [escTo]
theorem escTo_succ {s : ByteArray} {k : Nat} {z : UInt8} (h : s.data[k]?=some z) : escTo s (k+1)=escTo s k ++ escC z:=by
 have h' : s.data.toList[k]?=some z:=by rw [Array.getElem?_toList]; exact h
 unfold escTo
 rw [List.take_add_one,h']
 simp
theorem get_some {s : ByteArray} {k : Nat} {z : UInt8} (h : k<s.size) (e : s[k]'h=z) : s.data[k]?=some z:=by
 rw [← e]
 exact Array.getElem?_eq_getElem h
theorem escC_len (c : UInt8) : (escC c).length ≤ 6 := by unfold escC; split; · simp
                                                         · split <;> simp
theorem escTo_len (s : ByteArray) : ∀ k,(escTo s k).length≤6 * k
 | 0=>by simp [escTo]
 | k+1=>by
  have ih:=escTo_len s k
  cases h : s.data[k]? with
  | none =>
   have h' : s.data.toList.length≤k:=by simpa using h
   have : escTo s (k+1)=escTo s k:=by unfold escTo; rw [List.take_of_length_le (by omega),List.take_of_length_le h']
   rw [this]
   omega
  | some z =>
   rw [escTo_succ h,List.length_append]
   have:=escC_len z
   omega
theorem quoL_len (s : ByteArray) : (quoL s).length≤6 * s.size+2:=by
 have:=escTo_len s s.size
 simp [quoL]
 omega
def leafW (t : T) : List UInt8 :=
 if kindOf t=1 then [110,117,108,108] else if kindOf t=2 then (if nOf t=1 then [116,114,117,101] else [102,97,108,115,101]) else if kindOf t=3 then Lib.itoa (nOf t) else if kindOf t=4 then quoL (sOf t) else []
def joinL (g : T→List UInt8) (t : T) : Nat→List UInt8
 | 0=>[]
 | k+1=>joinL g t k ++ ((if k=0 then [] else [44]) ++ g (elt t k))
def joinO (g : T→List UInt8) (t : T) : Nat→List UInt8
 | 0=>[]
 | k+1=>joinO g t k ++ ((if k=0 then [] else [44]) ++ (quoL (nam t k) ++ (58 :: g (elt t k))))
def wrT : Nat→T→List UInt8
 | 0,t=>leafW t
 | m+1,t=>if kindOf t=5 then 91 :: (joinL (wrT m) t (nL t) ++ [93]) else if kindOf t=6 then 123 :: (joinO (wrT m) t (nK t) ++ [125]) else leafW t
theorem joinL_mono (g : T → List UInt8) (t : T) {k n : Nat} (h : k ≤ n) : (joinL g t k).length ≤ (joinL g t n).length := by
  induction n with
  | zero => have : k = 0 := by omega
            subst this; exact Nat.le_refl _
  | succ n ih =>
    by_cases e : k = n + 1
    · subst e; exact Nat.le_refl _
    · have := ih (by omega)
      simp only [joinL, List.length_append]
      omega
theorem joinO_mono (g : T → List UInt8) (t : T) {k n : Nat} (h : k ≤ n) : (joinO g t k).length ≤ (joinO g t n).length := by
  induction n with
  | zero => have : k = 0 := by omega
            subst this; exact Nat.le_refl _
  | succ n ih =>
    by_cases e : k = n + 1
    · subst e; exact Nat.le_refl _
    · have := ih (by omega)
      simp only [joinO, List.length_append]
      omega
structure WrP (B b : Nat) (acc : List UInt8) (w w' : World) : Prop where
 isb : Lib.IsBuilderF 108 5 B b (Lib.byteCells acc) w'
 below : Below B w w'
 oth : Lib.OthersKept 5 (some b) w w'
 lo : B≤w.heap.size
theorem WrP.trans {B b : Nat} {acc acc' : List UInt8} {w w1 w2 : World} (h : WrP B b acc w w1) (k : WrP B b acc' w1 w2) : WrP B b acc' w w2 :=
 ⟨k.isb,h.below.trans k.below,h.oth.trans k.oth,h.lo⟩
theorem WrP.lo' {B b : Nat} {acc : List UInt8} {w w1 : World} (h : WrP B b acc w w1) : B≤w1.heap.size:=Nat.le_trans h.lo h.below.size
theorem WrP.acc {B b : Nat} {acc acc' : List UInt8} {w w1 : World} (h : WrP B b acc w w1) (e : acc=acc') : WrP B b acc' w w1:=e ▸ h
theorem WrP.keep {B b : Nat} {acc : List UInt8} {w w1 w2 : World} (h : WrP B b acc w w1) (k : Below w1.heap.size w1 w2) : WrP B b acc w w2 :=
 ⟨h.isb.elim (fun x=>.inl ⟨x.1,by
   obtain ⟨v,hb,hown,hne⟩:=x.2
   exact ⟨v,(k.block b (Array.getElem?_eq_some_iff.1 hb).1).trans hb,rowF_move hown (fun i _ h2=>k.block i h2),hne⟩⟩) (fun x=>.inr ⟨x.1,by
   obtain ⟨v,hb,hown,hne⟩:=x.2
   exact ⟨v,(k.block b (Array.getElem?_eq_some_iff.1 hb).1).trans hb,rowF_move hown (fun i _ h2=>k.block i h2),hne⟩⟩),
  h.below.trans (k.mono (Nat.le_trans h.lo h.below.size)),
  fun i o hi hb ho=>by
   have h1:=h.oth i o hi hb ho
   exact (k.block i (Array.getElem?_eq_some_iff.1 h1).1).trans h1,h.lo⟩
theorem WrP.start {B b : Nat} {acc : List UInt8} {w : World} (h : Lib.IsBuilderF 108 5 B b (Lib.byteCells acc) w) (hB : B≤w.heap.size) : WrP B b acc w w :=
 ⟨h,Below.refl _ _,Lib.OthersKept.refl _ _ _,hB⟩
def Wrote (B b : Nat) (acc : List UInt8) (w : World) (e : Ending) (w' : World) : Prop:=e=.returned (.tuple #[])∧WrP B b acc w w'
theorem wbyte_any (B b : Nat) (acc : List UInt8) (c : UInt8) (w0 w : World) (h : WrP B b acc w0 w) (hl : acc.length≤1000000000) :
  Calls Tryz.prog 130 #[.pointer (some ⟨b,0,none⟩),.int .u8 (c.toNat : Int)] w fun e w'=>e=.returned .nilIface∧WrP B b (acc ++ [c]) w w':=by
 refine (Any.Builder_WriteByte_k Tryz.laysWriteByte Tryz.extraWriteByte B b (Lib.byteCells acc) (c.toNat : Int) w h.isb (by rw [Lib.byteCells_length]; omega) h.lo').mono ?_
 rintro e w' ⟨rfl,h1,b1,o1⟩
 refine ⟨rfl,⟨Or.inr ?_,b1,o1,h.lo'⟩⟩
 rw [Lib.byteCells_append]
 exact h1
theorem wstr_any (B b : Nat) (acc : List UInt8) (s : ByteArray) (w0 w : World) (h : WrP B b acc w0 w) (hl : acc.length+s.size≤1000000000) :
  Calls Tryz.prog 95 #[.pointer (some ⟨b,0,none⟩),.string s] w fun e w'=>e=.returned (.tuple #[.int .i64 s.size,.nilIface])∧WrP B b (acc ++ s.data.toList) w w':=by
 refine (Any.Builder_WriteString_k Tryz.laysWriteString Tryz.extraWriteString B b (Lib.byteCells acc) s w h.isb (by rw [Lib.byteCells_length]; omega) h.lo').mono ?_
 rintro e w' ⟨rfl,h1,b1,o1⟩
 refine ⟨rfl,⟨Or.inr ?_,b1,o1,h.lo'⟩⟩
 rw [Lib.byteCells_append]
 exact h1
theorem escC_q {c : UInt8} (h : c.toNat=34∨c.toNat=92) : escC c=[92,c]:=by unfold escC; rw [if_pos h]
theorem escC_u {c : UInt8} (h : ¬ (c.toNat=34∨c.toNat=92)) (h' : c.toNat<32) : escC c=[92,117,48,48,hexC (c.toNat / 16),hexC (c.toNat % 16)]:=by unfold escC; rw [if_neg h,if_pos h']
theorem escC_p {c : UInt8} (h : ¬ (c.toNat=34∨c.toNat=92)) (h' : ¬ c.toNat<32) : escC c=[c]:=by unfold escC; rw [if_neg h,if_neg h']
def hexS : ByteArray:=⟨#[48,49,50,51,52,53,54,55,56,57,97,98,99,100,101,102]⟩
theorem hexS_get : ∀ n : Fin 16,hexS[n.1]'n.2=hexC n.1:=by decide
theorem hexS_at {n : Nat} (h : n<16) : hexS[n]'h=hexC n:=hexS_get ⟨n,h⟩
theorem escTo_mono (s : ByteArray) (k : Nat) : (escTo s k).length≤(escTo s s.size).length:=by
 have e : escTo s s.size=escTo s k ++ (s.data.toList.drop k).flatMap escC:=by
  unfold escTo
  have e2 : s.data.toList.take s.size=s.data.toList:=List.take_of_length_le (by show s.data.toList.length≤s.data.size; rw [Array.length_toList]; exact Nat.le_refl _)
  rw [e2,← List.flatMap_append,List.take_append_drop]
 rw [e]
 simp
end Go.Proofs.YtknakfpciccoaabGreatDoor
/- The walk of printText. -/
namespace Go.Proofs.YtknakfpciccoaabGreatDoor
open Go.RowKit
set_option maxHeartbeats 4000000 in
set_option maxRecDepth 100000 in
theorem printText_any (B b : Nat) (acc : List UInt8) (s : ByteArray) (w : World) (h : Lib.IsBuilderF 108 5 B b (Lib.byteCells acc) w) (hB : B≤w.heap.size) (hl : acc.length+(quoL s).length≤100000000) (hs : s.size≤140737488355328) :
  Calls Tryz.prog 98 #[.pointer (some ⟨b,0,none⟩),.string s] w (Wrote B b (acc ++ quoL s) w):=by
 have HQ : Hid (∀ k,k≤s.size→(escTo s k).length+acc.length+1≤100000000):=hid (fun k hk=>by
  have:=escTo_mono s k
  simp [quoL] at hl
  omega)
 have HE : Hid (acc ++ quoL s=acc ++ [34] ++ escTo s s.size ++ [34]):=by show _=_; simp [quoL]
 have hl0 : acc.length≤100000000:=by omega
 have HS:=hid (WrP.start h hB)
 clear h hl
 go_enter Tryz.func98,Tryz.ntmps98
 go_wp2_with fail
 refine (wbyte_any B b acc 34 w w HS.out (by omega)).mono ?_
 rintro e w1 ⟨rfl,hw1⟩
 have H1:=hid hw1
 clear hw1
 go_wp2_with fail
 go_loopg [10] (s.size) (fun g i wr=>∃ k : Nat,g=s.size - k∧k≤s.size∧i=.int .i64 k∧Hid (WrP B b (acc ++ [34] ++ escTo s k) w wr))
 case atStart=>exact ⟨0,rfl,Nat.zero_le _,rfl,H1.out.acc (by simp [escTo_zero])⟩
 case round =>
  obtain ⟨k,rfl,hk,rfl,HW⟩:=hrel
  have hq:=HQ.out k hk
  have hlk : (acc ++ [34] ++ escTo s k).length≤100000000:=by simp; omega
  by_cases hlt : k<s.size
  ·obtain ⟨z,hz⟩ : ∃ z : UInt8,s[k]'hlt=z:=⟨_,rfl⟩
   have HZ:=hid (escTo_succ (get_some hlt hz))
   have x1 : (k : Int)<(s.size : Int):=by omega
   have lz : z.toNat<256:=z.toNat_lt
   have hne : ∀ (a : List UInt8),(acc ++ [34] ++ escTo s k ++ a).length≤100000000+a.length:=fun a=>by rw [List.length_append]; omega
   have HN:=hid hne
   clear hne
   by_cases hq2 : z.toNat=34∨z.toNat=92
   ·have HC:=hid (escC_q hq2)
    rcases hq2 with hq2 | hq2
    ·have y1 : ((z.toNat : Int) == 34)=true:=by rw [beq_iff_eq]; omega
     clear hq2
     go_wp2_with fail
     refine (wbyte_any B b _ 92 w wr HW.out (by omega)).mono ?_
     rintro e w2 ⟨rfl,hw2⟩
     have H2:=hid (HW.out.trans hw2)
     clear hw2
     go_wp2_with fail
     refine (wbyte_any B b _ z w w2 H2.out (by have:=HN.out [92]; simp only [List.length_singleton] at this; omega)).mono ?_
     rintro e w3 ⟨rfl,hw3⟩
     have H3:=hid (H2.out.trans hw3)
     clear hw3
     go_wp2_with fail
     go_roundg (s.size - (k+1))
     case rel=>exact ⟨k+1,rfl,by omega,by go_num,H3.out.acc (by rw [HZ.out,HC.out]; simp)⟩
     case measure=>omega
    ·have y0 : ((z.toNat : Int) == 34)=false:=by rw [beq_eq_false_iff_ne]; omega
     have y1 : ((z.toNat : Int) == 92)=true:=by rw [beq_iff_eq]; omega
     clear hq2
     go_wp2_with fail
     refine (wbyte_any B b _ 92 w wr HW.out (by omega)).mono ?_
     rintro e w2 ⟨rfl,hw2⟩
     have H2:=hid (HW.out.trans hw2)
     clear hw2
     go_wp2_with fail
     refine (wbyte_any B b _ z w w2 H2.out (by have:=HN.out [92]; simp only [List.length_singleton] at this; omega)).mono ?_
     rintro e w3 ⟨rfl,hw3⟩
     have H3:=hid (H2.out.trans hw3)
     clear hw3
     go_wp2_with fail
     go_roundg (s.size - (k+1))
     case rel=>exact ⟨k+1,rfl,by omega,by go_num,H3.out.acc (by rw [HZ.out,HC.out]; simp)⟩
     case measure=>omega
   ·have y34 : ((z.toNat : Int) == 34)=false:=by rw [beq_eq_false_iff_ne]; omega
    have y92 : ((z.toNat : Int) == 92)=false:=by rw [beq_eq_false_iff_ne]; omega
    by_cases hu : z.toNat<32
    ·have HC:=hid (escC_u hq2 hu)
     have y1 : decide ((z.toNat : Int)<32)=true:=decide_eq_true (by omega)
     clear hq2
     go_wp2_with fail
     refine (wstr_any B b _ ⟨#[92,117,48,48]⟩ w wr HW.out (by show _+4≤_; omega)).mono ?_
     rintro e w2 ⟨rfl,hw2⟩
     have H2:=hid (HW.out.trans hw2)
     clear hw2
     have n1 : z.toNat / 16<16:=by omega
     have n2 : z.toNat % 16<16:=by omega
     go_wp2_with fail
     refine (wbyte_any B b _ (hexS[z.toNat / 16]'n1) w w2 H2.out (by have:=HN.out [92,117,48,48]; simp only [List.length_cons,List.length_nil] at this; simp only [List.length_append,List.length_cons,List.length_nil] at this ⊢; omega)).mono ?_
     rintro e w3 ⟨rfl,hw3⟩
     have H3:=hid (H2.out.trans hw3)
     clear hw3
     go_wp2_with fail
     refine (wbyte_any B b _ (hexS[z.toNat % 16]'n2) w w3 H3.out (by have:=HN.out [92,117,48,48]; simp only [List.length_append,List.length_cons,List.length_nil] at this ⊢; omega)).mono ?_
     rintro e w4 ⟨rfl,hw4⟩
     have H4:=hid (H3.out.trans hw4)
     clear hw4
     go_wp2_with fail
     go_roundg (s.size - (k+1))
     case rel=>exact ⟨k+1,rfl,by omega,by go_num,H4.out.acc (by rw [HZ.out,HC.out,hexS_at,hexS_at]; simp)⟩
     case measure=>omega
    ·have HC:=hid (escC_p hq2 hu)
     have y1 : decide ((z.toNat : Int)<32)=false:=decide_eq_false (by omega)
     clear hq2
     go_wp2_with fail
     refine (wbyte_any B b _ z w wr HW.out (by omega)).mono ?_
     rintro e w2 ⟨rfl,hw2⟩
     have H2:=hid (HW.out.trans hw2)
     clear hw2
     go_wp2_with fail
     go_roundg (s.size - (k+1))
     case rel=>exact ⟨k+1,rfl,by omega,by go_num,H2.out.acc (by rw [HZ.out,HC.out]; simp)⟩
     case measure=>omega
  ·obtain rfl : k=s.size:=by omega
   go_wp2_with fail
   refine (wbyte_any B b _ 34 w wr HW.out (by omega)).mono ?_
   rintro e w2 ⟨rfl,hw2⟩
   have H2:=hid hw2
   clear hw2
   go_wp2_with fail
   refine bodyPost_end (v:=.tuple #[]) (by simp [results,Tryz.results98,go_sem]) rfl ?_
   exact ⟨rfl,(HW.out.trans H2.out).acc HE.out.symm⟩
end Go.Proofs.YtknakfpciccoaabGreatDoor
