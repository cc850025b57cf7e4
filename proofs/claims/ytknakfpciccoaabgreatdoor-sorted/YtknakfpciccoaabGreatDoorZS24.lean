import Derived.Test.YtknakfpciccoaabGreatDoorZS13
import Derived.Test.YtknakfpciccoaabGreatDoorZS17
import Derived.Test.YtknakfpciccoaabGreatDoorZS23
/- Expressions are read: what a reader's answer says, wherever what is older is kept; OnlyEntry; the leaves. -/
namespace Go.Proofs.YtknakfpciccoaabGreatDoor
open Go.RowKit
theorem get_lt {w w':World} {b:Nat} (h:b<w.heap.size) (e:w'.heap[b]?=w.heap[b]?):b<w'.heap.size:=by
 rw [Array.getElem?_eq_getElem h] at e
 exact (Array.getElem?_eq_some_iff.1 e).1
def Sat (wB w:World) (X:Nat→Prop) (P:World→Prop):Prop:=∃ Y:Nat→Prop,(∀ b,Y b→X b∧b<w.heap.size)∧∀ w':World,Below wB.heap.size wB w'→(∀ b,Y b→w'.heap[b]?=w.heap[b]?)→P w'
theorem Sat.move {wB w w1:World} {X X1:Nat→Prop} {P:World→Prop} (h:Sat wB w X P) (hb:∀ b,X b→w1.heap[b]?=w.heap[b]?∧X1 b):Sat wB w1 X1 P:=by
 obtain ⟨Y,h1,h2⟩:=h
 exact ⟨Y,fun b hy=>⟨(hb b (h1 b hy).1).2,get_lt (h1 b hy).2 (hb b (h1 b hy).1).1⟩,fun w' hw hy=>h2 w' hw fun b hb'=>(hy b hb').trans (hb b (h1 b hb').1).1⟩
theorem Sat.mono {wB w:World} {X:Nat→Prop} {P Q:World→Prop} (h:Sat wB w X P) (hPQ:∀ w':World,Below wB.heap.size wB w'→P w'→Q w'):Sat wB w X Q:=by
 obtain ⟨Y,h1,h2⟩:=h
 exact ⟨Y,h1,fun w' hw hy=>hPQ w' hw (h2 w' hw hy)⟩
theorem Sat.and {wB w:World} {X:Nat→Prop} {P Q:World→Prop} (h:Sat wB w X P) (h':Sat wB w X Q):Sat wB w X (fun x=>P x∧Q x):=by
 obtain ⟨Y,h1,h2⟩:=h
 obtain ⟨Z,h3,h4⟩:=h'
 exact ⟨fun b=>Y b∨Z b,fun b hb=>hb.elim (h1 b) (h3 b),fun w' hw hy=>⟨h2 w' hw fun b hb=>hy b (.inl hb),h4 w' hw fun b hb=>hy b (.inr hb)⟩⟩
theorem Sat.at {wB w:World} {X:Nat→Prop} {P:World→Prop} (h:Sat wB w X P) (hb:Below wB.heap.size wB w):P w:=by
 obtain ⟨Y,h1,h2⟩:=h
 exact h2 w hb fun _ _=>rfl
theorem Sat.all {wB w:World} {X:Nat→Prop} {P:World→Prop} (h:∀ w':World,Below wB.heap.size wB w'→P w'):Sat wB w X P:=⟨fun _=>False,fun _ hb=>hb.elim,fun w' hw _=>h w' hw⟩
theorem Sat.later {wB w0 wa w1 w2:World} {P:World→Prop} (h:Sat wB w1 (newB w0 w1) P) (hb:Below w1.heap.size w1 w2) (hs:wa.heap.size≤w0.heap.size):Sat wB w2 (newB wa w2) P :=
 h.move fun b hx=>⟨hb.block b hx.2,Nat.le_trans hs hx.1,Nat.lt_of_lt_of_le hx.2 hb.size⟩
def XpPost (Tb:World→Prop) (wB:World) (g:T→Int⊕T) (w:World) (e:Ending) (w':World):Prop :=
 Below w.heap.size w w'∧∃ ty p,e=.returned (.iface ty p)∧Sat wB w' (newB w w') (fun x=>ExprOk Tb x (.iface ty p) g)
def PxSaid (Tb:World→Prop) (t:T) (g:T→Int⊕T):Prop:=∀ (v:Value) (wB w:World),At wB 13 v t→okA t→Below wB.heap.size wB w→Tb w→Calls Tryz.prog 177 #[v] w (XpPost Tb wB g w)
set_option maxHeartbeats 4000000 in
set_option maxRecDepth 100000 in
theorem needE_any (w:World):Calls Tryz.prog 187 #[.bool true] w fun e w'=>w'=w∧e=.returned (.tuple #[]):=by
 have HC:=hid (unless_any true 9 w)
 simp only [if_true] at HC
 go_enter Tryz.func187,Tryz.ntmps187
 go_wp2_with fail
 refine HC.out.mono ?_
 rintro e w2 ⟨rfl,rfl⟩
 go_wp2_with fail
 refine bodyPost_end (v:=.tuple #[]) (by simp [results,Tryz.results187,go_sem]) rfl ?_
 exact ⟨rfl,rfl⟩
set_option maxHeartbeats 4000000 in
set_option maxRecDepth 100000 in
theorem needP_any (w:World):Calls Tryz.prog 93 #[.bool true] w fun e w'=>w'=w∧e=.returned (.tuple #[]):=by
 have HC:=hid (unless_any true 9 w)
 simp only [if_true] at HC
 go_enter Tryz.func93,Tryz.ntmps93
 go_wp2_with fail
 refine HC.out.mono ?_
 rintro e w2 ⟨rfl,rfl⟩
 go_wp2_with fail
 refine bodyPost_end (v:=.tuple #[]) (by simp [results,Tryz.results93,go_sem]) rfl ?_
 exact ⟨rfl,rfl⟩
set_option maxHeartbeats 4000000 in
set_option maxRecDepth 100000 in
theorem only_any (t j:T) (hj:elt t 0=j) (v:Value) (w0 w:World) (h:At w0 13 v t) (hk:okA t) (k6:kindOf t=6) (k1:nK t=1) (hb0:Below w0.heap.size w0 w) :
  Calls Tryz.prog 147 #[v] w fun e w'=>Below w.heap.size w w'∧∃ A B C D,e=.returned (.tuple #[.string (nam t 0),.agg #[.int .i64 (kindOf j),.int .i64 (nOf j),.string (sOf j),.slice A (nL j) B,.slice C (nK j) D],.bool true])∧At w0 13 (.agg #[.int .i64 (kindOf j),.int .i64 (nOf j),.string (sOf j),.slice A (nL j) B,.slice C (nK j) D]) j:=by
 obtain ⟨g1,La,Ka,Lc,Kc,hg1,rfl,hfj,hel,hnm⟩:=h.open
 have l1:nL t=1:=by have:=hk.names k6;omega
 have HB1:Hid (Below w.heap.size w ((w.alloc (.cells #[.int .i64 (kindOf t),.int .i64 (nOf t),.string (sOf t),.slice La (nL t) Lc,.slice Ka (nK t) Kc] 36)).alloc (.cells #[.int .i64 0,.int .i64 0,.string ⟨#[]⟩,.slice none 0 0,.slice none 0 0] 36))):=((Below.refl _ _).alloc (Nat.le_refl _) _).alloc (by simp) _
 obtain ⟨kb,ko,rfl,hkb,hks,hkc⟩:=hnm.out.keep (hb0.trans (HB1.out.drew.mono hb0.size)) 0 (by omega)
 obtain ⟨bb,oo,A,B,C,D,rfl,hbl,p0,p1,p2,p3,p4,Ha⟩:=hel.out.shape (hb0.trans (HB1.out.drew.mono hb0.size)) 0 (by omega)
 simp only [Nat.add_zero,Nat.zero_mul] at hkc p0 p1 p2 p3 p4
 rw [hj] at p0 p1 p2 p3 p4 Ha
 have HAt:=hid (Ha.out.up (show g1≤13 by omega))
 rw [k6,k1,l1] at *
 clear h hk hel hnm hfj Ha hb0 hg1 hks hkb hbl
 go_enter Tryz.func147,Tryz.ntmps147
 go_wp2_with fail
 go_region_law (fail)
 all_goals
  go_wp2_with fail
  refine bodyPost_ret (v:=.tuple #[.string (nam t 0),.agg #[.int .i64 (kindOf j),.int .i64 (nOf j),.string (sOf j),.slice A (nL j) B,.slice C (nK j) D],.bool true]) (by simp [results,Tryz.results147,go_sem, *]) rfl ?_
  have hb:Below w.heap.size w (((w.alloc (.cells #[.int .i64 6,.int .i64 (nOf t),.string (sOf t),.slice (some ⟨bb,oo,none⟩) 1 Lc,.slice (some ⟨kb,ko,none⟩) 1 Kc] 36)).alloc (.cells #[.int .i64 (kindOf j),.int .i64 (nOf j),.string (sOf j),.slice A (nL j) B,.slice C (nK j) D] 36)).drew):=(((Below.refl _ _).alloc (Nat.le_refl _) _).alloc (by simp) _).drew
  exact ⟨hb,A,B,C,D,rfl,HAt.out⟩
end Go.Proofs.YtknakfpciccoaabGreatDoor
/- Expressions are read: texts, values themselves; expr.Parse. -/
namespace Go.Proofs.YtknakfpciccoaabGreatDoor
open Go.RowKit
set_option maxHeartbeats 4000000 in
set_option maxRecDepth 100000 in
theorem ptext_found {Tb:World→Prop} (hA:AtoiSaid Tb) (hI:ItoaSaid Tb) (hSp:SplitSaid Tb) (hL:Lies Tb) (t:T) (x:ByteArray) (v:Value) (wB w:World) (ha:At wB 13 v t) (hop:isOp (sOf t)=true) (hx:(sOf t).extract 1 (sOf t).size=x) (h1:1≤(sOf t).size) (h2:(sOf t).size≤1048576) (hp:pathOk x=true) (hT:Tb w):Calls Tryz.prog 186 #[v] w (XpPost Tb wB (fun d=>.inr (orNull (splitP x) d)) w):=by
 obtain ⟨g1,La,Ka,Lc,Kc,hg1,rfl,_,_,_⟩:=ha.open
 have HB1:Hid (Below w.heap.size w (w.alloc (.cells #[.int .i64 (kindOf t),.int .i64 (nOf t),.string (sOf t),.slice La (nL t) Lc,.slice Ka (nK t) Kc] 36))):=(Below.refl _ _).alloc (Nat.le_refl _) _
 have hxs:x.size≤1048576:=by rw [← hx,ByteArray.size_extract];omega
 have HP:=hid (pathParse_any hSp x _ hxs (hL w hT _ _ hT HB1.out))
 have HF:Hid (∀ (pv:Value) (w1 w':World),StrsB w1 (newB w w1) pv (splitP x)→Sat wB w1 (newB w w1) (fun y=>ExprOk Tb y (.iface 266 (.agg #[pv])) (fun d=>.inr (orNull (splitP x) d)))):=fun pv w1 w' hs=>⟨newB w w1,fun b hb=>⟨hb,hb.2⟩,fun w2 hw hy=>found_ok hA hI hL ((hs.move (X':=fun b=>b<w2.heap.size) fun b hb=>⟨hy b hb,get_lt hb.2 (hy b hb)⟩).at fun b hb=>hb)⟩
 have HC:=hid (isOperator_any (sOf t))
 rw [hop] at HC
 have h1i:(1:Int)≤((sOf t).size:Int):=by omega
 clear ha hop hg1 hT hA hI hSp hL
 go_enter Tryz.func186,Tryz.ntmps186
 go_wp2_with fail
 refine (HC.out _).mono ?_
 rintro e w2 ⟨rfl,rfl⟩
 go_wp2_with fail
 refine HP.out.mono ?_
 rintro e w3 ⟨b3,⟨_,pv,rfl,hs⟩ | ⟨h,_⟩⟩
 ·have HB3:=hid (HB1.out.trans (b3.mono HB1.out.size))
  have HSt:=hid (HF.out pv w3 w3 (hs.move fun b hb=>⟨rfl,by have:=hb.1;simp at this;omega,hb.2⟩))
  obtain ⟨PA,pc,hpv,hz1,hz2⟩:=hs
  subst hpv
  clear b3 HP HF hz1 hz2
  go_wp2_with fail
  refine (needE_any _).mono ?_
  rintro e w4 ⟨rfl,rfl⟩
  go_wp2_with fail
  go_ret
  exact ⟨HB3.out,_,_,rfl,HSt.out⟩
 ·rw [hp] at h;cases h
set_option maxHeartbeats 4000000 in
set_option maxRecDepth 100000 in
theorem pexpr_text {Tb:World→Prop} (hL:Lies Tb) (t:T) (g:T→Int⊕T) (k4:kindOf t=4) (h:∀ (v:Value) (wB w:World),At wB 13 v t→okA t→Below wB.heap.size wB w→Tb w→Calls Tryz.prog 186 #[v] w (XpPost Tb wB g w)):PxSaid Tb t g:=by
 intro v wB w ha hk hb0 hT
 obtain ⟨g1,La,Ka,Lc,Kc,hg1,rfl,_,_,_⟩:=ha.open
 have HB1:Hid (Below w.heap.size w (w.alloc (.cells #[.int .i64 (kindOf t),.int .i64 (nOf t),.string (sOf t),.slice La (nL t) Lc,.slice Ka (nK t) Kc] 36))):=(Below.refl _ _).alloc (Nat.le_refl _) _
 have HC:=hid (h _ wB _ ha hk (hb0.trans (HB1.out.mono hb0.size)) (hL w hT _ _ hT HB1.out))
 rw [k4] at HB1 HC ⊢
 clear ha hk hg1 hb0 hT h hL k4
 go_enter Tryz.func177,Tryz.ntmps177
 go_wp2_with fail
 refine HC.out.mono ?_
 rintro e w2 ⟨b2,ty,p,rfl,hs⟩
 have HB2:=hid (HB1.out.trans (b2.mono HB1.out.size))
 have HS:=hid (hs.later (wa:=w) (Below.refl _ _) (by simp))
 clear b2 hs HC
 go_wp2_with fail
 go_ret
 exact ⟨HB2.out,_,_,rfl,HS.out⟩
end Go.Proofs.YtknakfpciccoaabGreatDoor
/- expr.Parse; what the readers of pipelines read first. -/
namespace Go.Proofs.YtknakfpciccoaabGreatDoor
open Go.RowKit
set_option maxHeartbeats 1000000 in
set_option maxRecDepth 100000 in
theorem catchE_idle (be:Nat) (w:World) :
  CallsD Tryz.prog 185 #[.pointer (some ⟨be,0,none⟩)] .returning w fun e u' w'=>e=.returned (.tuple #[])∧u'=.returning∧w'=w:=by
 refine callsD_of_wpS Tryz.func185 rfl fun c₀ cs hu=>?_
 apply wpS_seq
 apply wpS_region
 simp [wpOpsS,go_sem,recoverD,hu,Tryz.ntmps185,Exit.thenS]
 refine wpS_of_wp ?_
 go_wp2_with fail
 cases c₀
 simp_all [bodyPostS,results,Tryz.results185]
set_option maxHeartbeats 1000000 in
set_option maxRecDepth 100000 in
theorem attemptE (g:Nat) (hg:∀ (a:Array Value) (w:World),(callFunc g a).run Tryz.prog w=.ok (.enter g a) w) (R:Value→World→Prop) (p:Value) (w:World)
  (h:Calls Tryz.prog g #[p] (boxErr w) fun e w'=>Below (boxErr w).heap.size (boxErr w) w'∧∃ v,e=.returned v∧R v w') :
  Calls Tryz.prog 175 #[.func (Fn.func g) #[] #[p]] w fun e w'=>Below w.heap.size w w'∧∃ x w2,e=.returned (.tuple #[x,.int .i64 0])∧R x w2∧Above (w.heap.size+1) w2 w'∧Below w.heap.size w w2:=by
 have hmf:∀ (fn:Fn) (first cap:Array Value) (w:World),(Instr.makeFunc fn first cap).run Tryz.prog w=.ok (.func fn first cap) w:=fun _ _ _ _=>rfl
 have H:=hid h
 have HF:=hid (boxErr_facts w)
 clear h
 go_enter_defers Tryz.func175,Tryz.ntmps175
 go_wp2_with fail
 refine H.out.mono ?_
 rintro e w1 ⟨hb,v,rfl,hR⟩
 have l0:w.heap.size<(boxErr w).heap.size:=by have:=HF.out.2.2.1;omega
 have a5:=(hb.cell (p:=⟨w.heap.size,0,none⟩) l0).trans HF.out.1
 have z5:=(hb.frozen (p:=⟨w.heap.size,0,none⟩) l0).trans HF.out.2.1
 have HB:=hid (HF.out.2.2.2.trans (hb.mono HF.out.2.2.2.size))
 clear hb l0 H
 have HR:=hid hR
 clear hR
 go_wp2_with fail
 refine leaves_cons (f:=185) (args:=#[.pointer (some ⟨w.heap.size,0,none⟩)]) (by simp) (by simp [go_sem]) ?_
 refine (catchE_idle w.heap.size _).mono ?_
 rintro e u' w'' ⟨rfl,rfl,rfl⟩
 simp only [Leaves,settle]
 refine ⟨_,by simp [results,Tryz.results175,go_sem, *],?_,_,w1,rfl,HR.out,?_,HB.out⟩
 ·exact HB.out.setCell (Nat.le_refl _) _
 ·exact (Above.refl _ _).set (by omega) _ _
set_option maxHeartbeats 1000000 in
set_option maxRecDepth 100000 in
theorem catchP_idle (be:Nat) (w:World) :
  CallsD Tryz.prog 92 #[.pointer (some ⟨be,0,none⟩)] .returning w fun e u' w'=>e=.returned (.tuple #[])∧u'=.returning∧w'=w:=by
 refine callsD_of_wpS Tryz.func92 rfl fun c₀ cs hu=>?_
 apply wpS_seq
 apply wpS_region
 simp [wpOpsS,go_sem,recoverD,hu,Tryz.ntmps92,Exit.thenS]
 refine wpS_of_wp ?_
 go_wp2_with fail
 cases c₀
 simp_all [bodyPostS,results,Tryz.results92]
set_option maxHeartbeats 1000000 in
set_option maxRecDepth 100000 in
theorem attemptP (g:Nat) (hg:∀ (a:Array Value) (w:World),(callFunc g a).run Tryz.prog w=.ok (.enter g a) w) (R:Value→World→Prop) (p:Value) (w:World)
  (h:Calls Tryz.prog g #[p] (boxErr w) fun e w'=>Below (boxErr w).heap.size (boxErr w) w'∧∃ v,e=.returned v∧R v w') :
  Calls Tryz.prog 62 #[.func (Fn.func g) #[] #[p]] w fun e w'=>Below w.heap.size w w'∧∃ x w2,e=.returned (.tuple #[x,.int .i64 0])∧R x w2∧Above (w.heap.size+1) w2 w'∧Below w.heap.size w w2:=by
 have hmf:∀ (fn:Fn) (first cap:Array Value) (w:World),(Instr.makeFunc fn first cap).run Tryz.prog w=.ok (.func fn first cap) w:=fun _ _ _ _=>rfl
 have H:=hid h
 have HF:=hid (boxErr_facts w)
 clear h
 go_enter_defers Tryz.func62,Tryz.ntmps62
 go_wp2_with fail
 refine H.out.mono ?_
 rintro e w1 ⟨hb,v,rfl,hR⟩
 have l0:w.heap.size<(boxErr w).heap.size:=by have:=HF.out.2.2.1;omega
 have a5:=(hb.cell (p:=⟨w.heap.size,0,none⟩) l0).trans HF.out.1
 have z5:=(hb.frozen (p:=⟨w.heap.size,0,none⟩) l0).trans HF.out.2.1
 have HB:=hid (HF.out.2.2.2.trans (hb.mono HF.out.2.2.2.size))
 clear hb l0 H
 have HR:=hid hR
 clear hR
 go_wp2_with fail
 refine leaves_cons (f:=92) (args:=#[.pointer (some ⟨w.heap.size,0,none⟩)]) (by simp) (by simp [go_sem]) ?_
 refine (catchP_idle w.heap.size _).mono ?_
 rintro e u' w'' ⟨rfl,rfl,rfl⟩
 simp only [Leaves,settle]
 refine ⟨_,by simp [results,Tryz.results62,go_sem, *],?_,_,w1,rfl,HR.out,?_,HB.out⟩
 ·exact HB.out.setCell (Nat.le_refl _) _
 ·exact (Above.refl _ _).set (by omega) _ _
theorem Sat.attempt {wB w W w2 w3:World} {P:World→Prop} (h:Sat wB w2 (newB (boxErr W) w2) P) (hW:w.heap.size≤W.heap.size) (hab:Above (W.heap.size+1) w2 w3):Sat wB w3 (newB w w3) P :=
 h.move fun b hb=>by
  have h1:=(boxErr_facts W).2.2.1
  have h2:=hb.1
  have h3:=hab.size
  have h4:=hb.2
  exact ⟨hab.block b (by omega),by omega,by omega⟩
set_option maxHeartbeats 4000000 in
set_option maxRecDepth 100000 in
theorem eParseIn_any {Tb:World→Prop} (t:T) (g:T→Int⊕T) (h:PxSaid Tb t g) (v:Value) (wB w:World) (ha:At wB 13 v t) (hk:okA t) (hb0:Below wB.heap.size wB w) (hT:Tb w) (p:Nat)
  (La Ka:Option Addr) (Lc Kc:Nat) (hv:v=.agg #[.int .i64 (kindOf t),.int .i64 (nOf t),.string (sOf t),.slice La (nL t) Lc,.slice Ka (nK t) Kc])
  (q0:w.cell? ⟨p,0,none⟩=some (.int .i64 (kindOf t))) (q1:w.cell? ⟨p,1,none⟩=some (.int .i64 (nOf t))) (q2:w.cell? ⟨p,2,none⟩=some (.string (sOf t))) (q3:w.cell? ⟨p,3,none⟩=some (.slice La (nL t) Lc)) (q4:w.cell? ⟨p,4,none⟩=some (.slice Ka (nK t) Kc)) :
  Calls Tryz.prog 176 #[.pointer (some ⟨p,0,none⟩)] w (XpPost Tb wB g w):=by
 subst hv
 have HC:=hid (h _ wB w ha hk hb0 hT)
 clear ha hk hb0 hT h
 go_enter Tryz.func176,Tryz.ntmps176
 go_wp2_with fail
 refine HC.out.mono ?_
 rintro e w3 ⟨b3,ty,q,rfl,hs⟩
 have HB3:=hid b3
 have HS:=hid hs
 clear b3 hs
 go_wp2_with fail
 go_ret
 exact ⟨HB3.out,_,_,rfl,HS.out⟩
set_option maxHeartbeats 4000000 in
set_option maxRecDepth 100000 in
theorem eParse_any {Tb:World→Prop} (hL:Lies Tb) (t:T) (g:T→Int⊕T) (h:PxSaid Tb t g) (v:Value) (wB w:World) (ha:At wB 13 v t) (hk:okA t) (hb0:Below wB.heap.size wB w) (hT:Tb w) :
  Calls Tryz.prog 161 #[v] w fun e w'=>Below w.heap.size w w'∧∃ ty p,e=.returned (.tuple #[.iface ty p,.int .i64 0])∧Sat wB w' (newB w w') (fun x=>ExprOk Tb x (.iface ty p) g):=by
 have hmf:∀ (fn:Fn) (first cap:Array Value) (w:World),(Instr.makeFunc fn first cap).run Tryz.prog w=.ok (.func fn first cap) w:=fun _ _ _ _=>rfl
 obtain ⟨g1,La,Ka,Lc,Kc,hg1,hv,_,_,_⟩:=ha.open
 have HB1:Hid (Below w.heap.size w (w.alloc (.cells #[.int .i64 (kindOf t),.int .i64 (nOf t),.string (sOf t),.slice La (nL t) Lc,.slice Ka (nK t) Kc] 36))):=(Below.refl _ _).alloc (Nat.le_refl _) _
 have HE:=hid (boxErr_facts (w.alloc (.cells #[.int .i64 (kindOf t),.int .i64 (nOf t),.string (sOf t),.slice La (nL t) Lc,.slice Ka (nK t) Kc] 36)))
 have hbb:Below (w.heap.size+1) (w.alloc (.cells #[.int .i64 (kindOf t),.int .i64 (nOf t),.string (sOf t),.slice La (nL t) Lc,.slice Ka (nK t) Kc] 36)) (boxErr (w.alloc (.cells #[.int .i64 (kindOf t),.int .i64 (nOf t),.string (sOf t),.slice La (nL t) Lc,.slice Ka (nK t) Kc] 36))):=HE.out.2.2.2.mono (by simp)
 obtain ⟨q0,q1,q2,q3,q4,hz,hbw⟩:=box_facts hbb
 have HI:=hid (eParseIn_any t g h v wB (boxErr (w.alloc (.cells #[.int .i64 (kindOf t),.int .i64 (nOf t),.string (sOf t),.slice La (nL t) Lc,.slice Ka (nK t) Kc] 36))) ha hk (hb0.trans (hbw.mono hb0.size)) (hL w hT _ _ hT hbw) w.heap.size La Ka Lc Kc hv q0 q1 q2 q3 q4)
 have HA:=hid (attemptE 176 (fun _ _=>rfl) (fun v w'=>∃ ty p,v=.iface ty p∧Sat wB w' (newB (boxErr (w.alloc (.cells #[.int .i64 (kindOf t),.int .i64 (nOf t),.string (sOf t),.slice La (nL t) Lc,.slice Ka (nK t) Kc] 36))) w') (fun x=>ExprOk Tb x (.iface ty p) g)) (.pointer (some ⟨w.heap.size,0,none⟩)) _ (HI.out.mono fun e w' hh=>by
  obtain ⟨h1,ty,p,h2,h3⟩:=hh
  exact ⟨h1,_,h2,ty,p,rfl,h3⟩))
 subst hv
 clear ha hk hb0 hT h hL hbb q0 q1 q2 q3 q4 hz hbw HI hg1 HE
 go_enter Tryz.func161,Tryz.ntmps161
 go_wp2_with fail
 refine HA.out.mono ?_
 rintro e w3 ⟨b3,x,w2,rfl,⟨ty,p,rfl,hs⟩,hab,hb2⟩
 have HB3:=hid (HB1.out.trans (b3.mono HB1.out.size))
 have HS:=hid (hs.attempt (w:=w) (by simp) hab)
 clear b3 hs hab hb2 HA
 go_wp2_with fail
 refine bodyPost_ret (v:=.tuple #[.iface ty p,.int .i64 0]) (by simp [results,Tryz.results161,go_sem, *]) rfl ?_
 exact ⟨HB3.out,_,_,rfl,HS.out⟩
set_option maxHeartbeats 4000000 in
set_option maxRecDepth 100000 in
theorem ppExpr_any {Tb:World→Prop} (hL:Lies Tb) (t:T) (g:T→Int⊕T) (h:PxSaid Tb t g) (v:Value) (wB w:World) (ha:At wB 13 v t) (hk:okA t) (hb0:Below wB.heap.size wB w) (hT:Tb w) :
  Calls Tryz.prog 148 #[v] w (XpPost Tb wB g w):=by
 obtain ⟨g1,La,Ka,Lc,Kc,hg1,hv,_,_,_⟩:=ha.open
 have HB1:Hid (Below w.heap.size w (w.alloc (.cells #[.int .i64 (kindOf t),.int .i64 (nOf t),.string (sOf t),.slice La (nL t) Lc,.slice Ka (nK t) Kc] 36))):=(Below.refl _ _).alloc (Nat.le_refl _) _
 have HC:=hid (eParse_any hL t g h v wB _ ha hk (hb0.trans (HB1.out.mono hb0.size)) (hL w hT _ _ hT HB1.out))
 subst hv
 clear ha hk hb0 hT h hL hg1
 go_enter Tryz.func148,Tryz.ntmps148
 go_wp2_with fail
 refine HC.out.mono ?_
 rintro e w3 ⟨b3,ty,p,rfl,hs⟩
 have HB3:=hid (HB1.out.trans (b3.mono HB1.out.size))
 have HS:=hid (hs.later (wa:=w) (Below.refl _ _) (by simp))
 clear b3 hs HC
 go_wp2_with fail
 refine (needP_any _).mono ?_
 rintro e w4 ⟨rfl,rfl⟩
 go_wp2_with fail
 go_ret
 exact ⟨HB3.out,_,_,rfl,HS.out⟩
set_option maxHeartbeats 4000000 in
set_option maxRecDepth 100000 in
theorem ppOp_any (t j:T) (x:ByteArray) (hj:elt t 0=j) (hx:nam t 0=x) (v:Value) (w0 w:World) (h:At w0 13 v t) (hk:okA t) (k6:kindOf t=6) (k1:nK t=1) (hb0:Below w0.heap.size w0 w) :
  Calls Tryz.prog 121 #[v] w fun e w'=>Below w.heap.size w w'∧∃ A B C D,e=.returned (.tuple #[.string x,.agg #[.int .i64 (kindOf j),.int .i64 (nOf j),.string (sOf j),.slice A (nL j) B,.slice C (nK j) D]])∧At w0 13 (.agg #[.int .i64 (kindOf j),.int .i64 (nOf j),.string (sOf j),.slice A (nL j) B,.slice C (nK j) D]) j:=by
 have Ha:=hid h
 obtain ⟨g1,La,Ka,Lc,Kc,hg1,rfl,_,_,_⟩:=h.open
 have HB1:Hid (Below w.heap.size w ((w.alloc (.cells #[.int .i64 (kindOf t),.int .i64 (nOf t),.string (sOf t),.slice La (nL t) Lc,.slice Ka (nK t) Kc] 36)).alloc (.cells #[.int .i64 0,.int .i64 0,.string ⟨#[]⟩,.slice none 0 0,.slice none 0 0] 36))):=((Below.refl _ _).alloc (Nat.le_refl _) _).alloc (by simp) _
 have HX:Hid (BoxAt (w.heap.size+1) (.int .i64 0) (.int .i64 0) (.string ⟨#[]⟩) (.slice none 0 0) (.slice none 0 0) ((w.alloc (.cells #[.int .i64 (kindOf t),.int .i64 (nOf t),.string (sOf t),.slice La (nL t) Lc,.slice Ka (nK t) Kc] 36)).alloc (.cells #[.int .i64 0,.int .i64 0,.string ⟨#[]⟩,.slice none 0 0,.slice none 0 0] 36))):=by
  show BoxAt _ _ _ _ _ _ _
  have:=box_new (w.alloc (.cells #[.int .i64 (kindOf t),.int .i64 (nOf t),.string (sOf t),.slice La (nL t) Lc,.slice Ka (nK t) Kc] 36)) (.int .i64 0) (.int .i64 0) (.string ⟨#[]⟩) (.slice none 0 0) (.slice none 0 0)
  simpa using this
 have HC:=hid (only_any t j hj _ w0 _ Ha.out hk k6 k1 (hb0.trans (HB1.out.mono hb0.size)))
 rw [hx] at HC
 clear h hk hg1 hb0 k6 k1 hj hx Ha
 go_enter Tryz.func121,Tryz.ntmps121
 go_wp2_with fail
 refine HC.out.mono ?_
 rintro e w2 ⟨b2,A,B,C,D,rfl,hat⟩
 have HBa:Hid (Below w2.heap.size w2 (w2.alloc (.cells #[.int .i64 (kindOf j),.int .i64 (nOf j),.string (sOf j),.slice A (nL j) B,.slice C (nK j) D] 36))):=(Below.refl _ _).alloc (Nat.le_refl _) _
 have HX3:=hid ((HX.out.stay b2).stay HBa.out)
 have HB2:=hid (HB1.out.trans (b2.mono HB1.out.size))
 have HB3:=hid (HB2.out.trans (HBa.out.mono HB2.out.size))
 have HY:=hid (box_new w2 (.int .i64 (kindOf j)) (.int .i64 (nOf j)) (.string (sOf j)) (.slice A (nL j) B) (.slice C (nK j) D))
 have HAt:=hid hat
 clear b2 hat HC HBa HB2
 go_wp2_with fail
 refine (needP_any _).mono ?_
 rintro e w4 ⟨rfl,rfl⟩
 generalize w2.alloc (.cells #[.int .i64 (kindOf j),.int .i64 (nOf j),.string (sOf j),.slice A (nL j) B,.slice C (nK j) D] 36)=W at HY HX3 HB3 ⊢
 generalize w2.heap.size=wb at HY ⊢
 have HO:=hid (HX3.out.put5 (.int .i64 (kindOf j)) (.int .i64 (nOf j)) (.string (sOf j)) (.slice A (nL j) B) (.slice C (nK j) D))
 have HBf:=hid (below_res HB3.out (b:=w.heap.size+1) (by omega) (by have:=HX3.out.lt;omega) (.int .i64 (kindOf j)) (.int .i64 (nOf j)) (.string (sOf j)) (.slice A (nL j) B) (.slice C (nK j) D)).drew
 unfold put5 at HO HBf
 have y0:=HY.out.q0
 have y1:=HY.out.q1
 have y2:=HY.out.q2
 have y3:=HY.out.q3
 have y4:=HY.out.q4
 have r0:=HX3.out.q0
 have r1:=HX3.out.q1
 have r2:=HX3.out.q2
 have r3:=HX3.out.q3
 have r4:=HX3.out.q4
 have z0:=HX3.out.f0
 have z1:=HX3.out.f1
 have z2:=HX3.out.f2
 have z3:=HX3.out.f3
 have z4:=HX3.out.f4
 go_wp2_with fail
 go_region_law (fail)
 all_goals
  go_wp2_with fail
  clear r0 r1 r2 r3 r4 z0 z1 z2 z3 z4
  have HO1:=hid HO.out
  have r0:=HO1.out.q0
  have r1:=HO1.out.q1
  have r2:=HO1.out.q2
  have r3:=HO1.out.q3
  have r4:=HO1.out.q4
  refine bodyPost_ret (v:=.tuple #[.string x,.agg #[.int .i64 (kindOf j),.int .i64 (nOf j),.string (sOf j),.slice A (nL j) B,.slice C (nK j) D]]) (by simp [results,Tryz.results121,go_sem, *]) rfl ?_
  exact ⟨HBf.out,A,B,C,D,rfl,HAt.out⟩
set_option maxHeartbeats 4000000 in
set_option maxRecDepth 100000 in
theorem ppPath_any {Tb:World→Prop} (hSp:SplitSaid Tb) (x:ByteArray) (w:World) (hx:x.size≤1048576) (hp:pathOk x=true) (hT:Tb w) :
  Calls Tryz.prog 124 #[.string x] w fun e w'=>Below w.heap.size w w'∧∃ v,e=.returned v∧StrsB w' (newB w w') v (splitP x):=by
 have HP:=hid (pathParse_any hSp x _ hx hT)
 have Hp:=hid hp
 clear hSp hx hT hp
 go_enter Tryz.func124,Tryz.ntmps124
 go_wp2_with fail
 refine HP.out.mono ?_
 rintro e w3 ⟨b3,⟨_,pv,rfl,hs⟩ | ⟨h,_⟩⟩
 ·have HB3:=hid b3
  have HSt:=hid hs
  clear b3 hs HP
  go_wp2_with fail
  refine (needP_any _).mono ?_
  rintro e w4 ⟨rfl,rfl⟩
  go_wp2_with fail
  go_ret
  exact ⟨HB3.out,_,rfl,HSt.out⟩
 ·rw [Hp.out] at h;cases h
end Go.Proofs.YtknakfpciccoaabGreatDoor
/- The walk of a pipeline: its stages, one behind the other. -/
namespace Go.Proofs.YtknakfpciccoaabGreatDoor
open Go.RowKit
theorem At.cells {w w':World} (hs:w.heap.size≤w'.heap.size) (hc:∀ b o,w'.cell? ⟨b,o,none⟩=w.cell? ⟨b,o,none⟩):∀ {f:Nat} {v:Value} {t:T},At w f v t→At w' f v t:=by
 intro f
 induction f with
 | zero=>intro v t h;exact h.elim
 | succ f ih =>
  rintro v t ⟨La,Ka,Lc,Kc,rfl,hf,hl,hk⟩
  refine ⟨La,Ka,Lc,Kc,rfl,hf,fun i hi=>?_,fun i hi=>?_⟩
  ·obtain ⟨b,o,c0,c1,c2,c3,c4,h0,hbl,q0,q1,q2,q3,q4,ha⟩:=hl i hi
   exact ⟨b,o,c0,c1,c2,c3,c4,h0,Nat.lt_of_lt_of_le hbl hs,(hc _ _).trans q0,(hc _ _).trans q1,(hc _ _).trans q2,(hc _ _).trans q3,(hc _ _).trans q4,ih ha⟩
  ·obtain ⟨b,o,h0,hbl,h2,h3⟩:=hk i hi
   exact ⟨b,o,h0,Nat.lt_of_lt_of_le hbl hs,h2,(hc _ _).trans h3⟩
theorem DocsAt.cells {w w':World} {v:Value} {l:List T} (h:DocsAt w v l) (hs:w.heap.size≤w'.heap.size) (hc:∀ b o,w'.cell? ⟨b,o,none⟩=w.cell? ⟨b,o,none⟩):DocsAt w' v l:=by
 obtain ⟨La,Lc,h1,h2,h3,h4,h5,h6⟩:=h
 refine ⟨La,Lc,h1,h2,h3,h4,fun i hi=>?_,h6⟩
 obtain ⟨b,o,c0,c1,c2,c3,c4,h0,hbl,q0,q1,q2,q3,q4,ha⟩:=h5 i hi
 exact ⟨b,o,c0,c1,c2,c3,c4,h0,Nat.lt_of_lt_of_le hbl hs,(hc _ _).trans q0,(hc _ _).trans q1,(hc _ _).trans q2,(hc _ _).trans q3,(hc _ _).trans q4,ha.cells hs hc⟩
theorem set_self {w:World} {b o:Nat} {u:Value} (h:w.cell? ⟨b,o,none⟩=some u) (c k:Nat):(w.setCell ⟨b,o,none⟩ u).cell? ⟨c,k,none⟩=w.cell? ⟨c,k,none⟩:=by
 by_cases e:b≠c∨o≠k
 ·exact set_other e u
 ·have e1:b=c:=Decidable.byContradiction fun h=>e (.inl h)
  have e2:o=k:=Decidable.byContradiction fun h=>e (.inr h)
  subst e1
  subst e2
  rw [World.cell?_setCell_same w ⟨b,o,none⟩ u h,h]
def pipE:List (List T→(Nat×Int)⊕List T)→List T→Nat→(Nat×Nat×Int)⊕List T
 | [],l,_=>.inr l
 | g::gs,l,i=>match g l with
  | .inl (k,x)=>.inl (i,k,x)
  | .inr r=>pipE gs r (i+1)
def StagesOk (Tb:World→Prop) (w:World) (v:Value) (gs:List (List T→(Nat×Int)⊕List T)):Prop :=
 ∃ A c,v=.slice A gs.length c∧gs.length≤1000000∧∀ i,(h:i<gs.length)→∃ b o u,A=some ⟨b,o,none⟩∧b<w.heap.size∧w.cell? ⟨b,o+i,none⟩=some u∧StageOk Tb w u gs[i]
def RnPost (gs:List (List T→(Nat×Int)⊕List T)) (l:List T) (w:World) (e:Ending) (w':World):Prop :=
 Below w.heap.size w w'∧((∃ (i k:Nat) (x:Int),pipE gs l 0=.inl (i,k,x)∧x≠0∧e=.returned (.tuple #[.slice none 0 0,.agg #[.int .i64 i,.int .i64 k,.int .i64 x]]))∨∃ r v,pipE gs l 0=.inr r∧e=.returned (.tuple #[v,.agg #[.int .i64 0,.int .i64 0,.int .i64 0]])∧DocsAt w' v r)
structure Box3 (b:Nat) (w:World):Prop where
 q0:w.cell? ⟨b,0,none⟩=some (.int .i64 0)
 q1:w.cell? ⟨b,1,none⟩=some (.int .i64 0)
 q2:w.cell? ⟨b,2,none⟩=some (.int .i64 0)
 f0:w.frozen? ⟨b,0,none⟩=false
 f1:w.frozen? ⟨b,1,none⟩=false
 f2:w.frozen? ⟨b,2,none⟩=false
 lt:b<w.heap.size
theorem Box3.stay {b:Nat} {w w':World} (h:Box3 b w) (hb:Below w.heap.size w w'):Box3 b w' :=
 ⟨(hb.cell (p:=⟨b,0,none⟩) h.lt).trans h.q0,(hb.cell (p:=⟨b,1,none⟩) h.lt).trans h.q1,(hb.cell (p:=⟨b,2,none⟩) h.lt).trans h.q2,(World.frozen?_of_block (a:=⟨b,0,none⟩) (hb.block b h.lt)).trans h.f0,(World.frozen?_of_block (a:=⟨b,1,none⟩) (hb.block b h.lt)).trans h.f1,(World.frozen?_of_block (a:=⟨b,2,none⟩) (hb.block b h.lt)).trans h.f2,Nat.lt_of_lt_of_le h.lt hb.size⟩
theorem Box3.new (w:World):Box3 w.heap.size (w.alloc (.cells #[.int .i64 0,.int .i64 0,.int .i64 0] 57)):=by
 constructor<;>simp [go_sem]
theorem set3_below {w W:World} (h:Below w.heap.size w W) {b:Nat} (hb:w.heap.size≤b) (u0 u1 u2:Value):Below w.heap.size w (((W.setCell ⟨b,0,none⟩ u0).setCell ⟨b,1,none⟩ u1).setCell ⟨b,2,none⟩ u2):=by
 have one:∀ (W:World) (o:Nat) (u:Value),Below w.heap.size w W→Below w.heap.size w (W.setCell ⟨b,o,none⟩ u):=fun W o u h=>by
  obtain ⟨t1,t2,t3,t4⟩:=setC_rest W ⟨b,o,none⟩ u
  exact ⟨t2.trans h.os,t3.trans h.tape,t4.trans h.output,by rw [t1];exact h.size,fun k hk=>(Below.heap_setCell _ _ _ _ (by simp;omega)).trans (h.block k hk)⟩
 exact one _ _ _ (one _ _ _ (one _ _ _ h))
theorem set3_docs {W:World} {b:Nat} (h:Box3 b W) {v:Value} {l:List T} (hd:DocsAt W v l):DocsAt (((W.setCell ⟨b,0,none⟩ (.int .i64 0)).setCell ⟨b,1,none⟩ (.int .i64 0)).setCell ⟨b,2,none⟩ (.int .i64 0)) v l:=by
 have h1:=set_self h.q0
 have h2:=set_self ((h1 b 1).trans h.q1)
 have h3:=set_self ((h2 b 2).trans ((h1 b 2).trans h.q2))
 exact hd.cells (by simp [World.setCell]) fun c k=>(h3 c k).trans ((h2 c k).trans (h1 c k))
set_option maxHeartbeats 8000000 in
set_option maxRecDepth 100000 in
theorem pipe_any {Tb:World→Prop} (hL:Lies Tb) (pv dv:Value) (gs:List (List T→(Nat×Int)⊕List T)) (l:List T) (w:World) (hp:StagesOk Tb w pv gs) (hd:DocsAt w dv l) (hT:Tb w) :
  Calls Tryz.prog 23 #[pv,dv] w (RnPost gs l w):=by
 obtain ⟨EA,ec,rfl,hn,hes⟩:=hp
 have HEs:=hid hes
 have HT:Hid (∀ w':World,Below w.heap.size w w'→Tb w'):=fun w' hb=>hL w hT w w' hT hb
 have HB1:Hid (Below w.heap.size w (w.alloc (.cells #[.int .i64 0,.int .i64 0,.int .i64 0] 57))):=(Below.refl _ _).alloc (Nat.le_refl _) _
 have HX1:=hid (Box3.new w)
 have HD1:=hid (hd.keep HB1.out)
 obtain ⟨DA,dc,hdv,hz⟩:=hd
 clear hes hT hL hz
 subst hdv
 obtain ⟨n,hln⟩:∃ n,gs.length=n:=⟨_,rfl⟩
 have Hln:=hid hln
 rw [hln] at hn ⊢
 clear hln
 go_enter Tryz.func23,Tryz.ntmps23
 go_wp2_with fail
 go_loopg [1,13] n (fun g d i wr=>∃ (k:Nat) (l':List T),g=n - k∧k≤n∧i=.int .i64 k∧Hid (Below w.heap.size w wr)∧Hid (Box3 w.heap.size wr)∧Hid (DocsAt wr d l')∧Hid (pipE gs l 0=pipE (gs.drop k) l' k))
 case atStart=>exact ⟨0,l,rfl,Nat.zero_le _,rfl,HB1,HX1,HD1,rfl⟩
 case round =>
  obtain ⟨k,l',rfl,hk,rfl,HB,HX,HD,HE⟩:=hrel
  by_cases hlt:k<n
  ·have hkl:k<gs.length:=by rw [Hln.out];exact hlt
   obtain ⟨b,o,u,rfl,hbl,p0,hex⟩:=HEs.out k hkl
   have p0':=(HB.out.cell (p:=⟨b,o+k,none⟩) hbl).trans p0
   obtain ⟨ty,p,fid,rfl,hm,hcall,hbeh⟩:=hex
   have HG:Hid (pipE gs l 0=pipE (gs[k]::gs.drop (k+1)) l' k):=by show _=_;rw [← List.drop_eq_getElem_cons hkl];exact HE.out
   generalize gs[k]=gk at hbeh HG
   have hmw:=hm wr
   have HC:=hid (hbeh wr u1 l' HB.out HD.out (HT.out _ HB.out))
   clear p0 hbeh hm
   go_wp2_with fail
   refine HC.out.mono ?_
   rintro e w2 ⟨b2,⟨j,x,h1,h2,rfl⟩ | ⟨r,v,h1,rfl,h3⟩⟩
   ·have ez:(x==0)=false:=by simpa using h2
    have HF:Hid (pipE gs l 0=.inl (k,j,x)∧x≠0):=⟨by rw [HG.out,pipE,h1],h2⟩
    have HB2:=hid (HB.out.trans (b2.mono HB.out.size))
    have HX2:=hid (HX.out.stay b2)
    have HBf:=hid (set3_below HB2.out (b:=w.heap.size) (Nat.le_refl _) (.int .i64 (k:Nat)) (.int .i64 (j:Nat)) (.int .i64 x))
    have q0:=HX2.out.q0
    have q1:=HX2.out.q1
    have q2:=HX2.out.q2
    have f0:=HX2.out.f0
    have f1:=HX2.out.f1
    have f2:=HX2.out.f2
    clear b2 h1 h2 HC
    go_wp2_with fail
    refine bodyPost_ret (v:=.tuple #[.slice none 0 0,.agg #[.int .i64 (k:Nat),.int .i64 (j:Nat),.int .i64 x]]) (by simp [results,Tryz.results23,go_sem, *]) rfl ?_
    exact ⟨HBf.out,.inl ⟨k,j,x,HF.out.1,HF.out.2,rfl⟩⟩
   ·have HE2:Hid (pipE gs l 0=pipE (gs.drop (k+1)) r (k+1)):=by show _=_;rw [HG.out,pipE,h1]
    have HB2:=hid (HB.out.trans (b2.mono HB.out.size))
    have HX2:=hid (HX.out.stay b2)
    have HD2:=hid h3
    clear b2 h1 h3 HC
    go_wp2_with fail
    go_roundg (n - (k+1))
    case rel=>exact ⟨k+1,r,rfl,by omega,by go_num,HB2,HX2,HD2,HE2⟩
    case measure=>omega
  ·obtain rfl:k=n:=by omega
   have HF:Hid (pipE gs l 0=.inr l'):=by
    show _=_
    rw [HE.out,← Hln.out,List.drop_length]
    rfl
   have HBf:=hid (set3_below HB.out (b:=w.heap.size) (Nat.le_refl _) (.int .i64 0) (.int .i64 0) (.int .i64 0))
   have HDf:=hid (set3_docs HX.out HD.out)
   have q0:=HX.out.q0
   have q1:=HX.out.q1
   have q2:=HX.out.q2
   have f0:=HX.out.f0
   have f1:=HX.out.f1
   have f2:=HX.out.f2
   go_wp2_with fail
   refine bodyPost_ret (v:=.tuple #[u1,.agg #[.int .i64 0,.int .i64 0,.int .i64 0]]) (by simp [results,Tryz.results23,go_sem, *]) rfl ?_
   exact ⟨HBf.out,.inr ⟨l',u1,HF.out,rfl,HDf.out⟩⟩
end Go.Proofs.YtknakfpciccoaabGreatDoor
/- Stages are read: what a reader of stages answers; parsePipeline, pipe.Parse. -/
namespace Go.Proofs.YtknakfpciccoaabGreatDoor
open Go.RowKit
abbrev StgF:=List T→(Nat×Int)⊕List T
def SgPost (Tb:World→Prop) (wB:World) (g:StgF) (w:World) (e:Ending) (w':World):Prop :=
 Below w.heap.size w w'∧∃ ty p,e=.returned (.iface ty p)∧Sat wB w' (newB w w') (fun x=>StageOk Tb x (.iface ty p) g)
def PsSaid (Tb:World→Prop) (t:T) (g:StgF):Prop:=∀ (v:Value) (wB w:World),At wB 13 v t→okA t→Below wB.heap.size wB w→Tb w→Calls Tryz.prog 94 #[v] w (SgPost Tb wB g w)
theorem newX_new {base:Nat} {hv:Value} {w wr:World} (hlo:w.heap.size≤base) {b:Nat} (h:newX base hv wr b):newB w wr b:=⟨Nat.le_trans hlo h.1,h.2.1⟩
theorem infoSg:(Tryz.prog.info? 82).map (fun i=>(i.zero,i.size,i.bytes))=some (some .nilIface,1,16):=by kernel_rfl
def StgE (Tb:World→Prop) (wB:World) (w:World) (X:Nat→Prop) (cs:List Value) (g:StgF):Prop:=∃ ty q,cs=[.iface ty q]∧Sat wB w X (fun x=>StageOk Tb x (.iface ty q) g)
theorem stgE_moves (Tb:World→Prop) (wB:World):Moves (StgE Tb wB):=fun _ _ _ _ _ _ h hb=>by
 obtain ⟨ty,q,h1,h2⟩:=h
 exact ⟨ty,q,h1,h2.move hb⟩
theorem bld_stages {Tb:World→Prop} {wB:World} {base:Nat} {hv:Value} {gs:List StgF} {xs:List Value} {w wr:World} (h:Bld (StgE Tb wB) 1 82 base hv gs xs wr) (hlo:w.heap.size≤base) (hn:gs.length≤1000000):∃ A c,hv=.slice A gs.length c∧Sat wB wr (newB w wr) (fun x=>StagesOk Tb x (.slice A gs.length c) gs):=by
 have hrow:=h.row
 rcases h.row.2 with ⟨rfl,h0⟩ | ⟨g,cap,cur,rfl,hb0,hgb,_⟩
 ·exact ⟨none,0,by rw [h0],Sat.all fun w' _=>⟨none,0,rfl,hn,fun i hi=>by omega⟩⟩
 ·have hgl:=(Array.getElem?_eq_some_iff.1 hgb).1
  refine ⟨some ⟨g,0,none⟩,cap,rfl,newB w wr,fun b hb=>⟨hb,hb.2⟩,fun w' hw hy=>⟨_,_,rfl,hn,fun i hi=>?_⟩⟩
  obtain ⟨ty,q,hc,hs⟩:=h.el i hi
  have c0:=row_cell hrow (elC_get (r:=0) (by rw [hc];rfl) (by omega))
  have hgw:w'.heap[g]?=wr.heap[g]?:=hy g ⟨by omega,hgl⟩
  refine ⟨g,0,.iface ty q,rfl,get_lt hgl hgw,?_,?_⟩
  ·rw [cell_of hgw,Nat.zero_add];rw [Nat.mul_one,Nat.add_zero] at c0;exact c0
  ·obtain ⟨Y,h1,h2⟩:=hs
   exact h2 w' hw fun b hb=>hy b (newX_new hlo (h1 b hb).1)
def PlPost (Tb:World→Prop) (wB:World) (gs:List StgF) (w:World) (e:Ending) (w':World):Prop :=
 Below w.heap.size w w'∧∃ A c,e=.returned (.slice A gs.length c)∧Sat wB w' (newB w w') (fun x=>StagesOk Tb x (.slice A gs.length c) gs)
set_option maxHeartbeats 8000000 in
set_option maxRecDepth 100000 in
theorem ppipe_any {Tb:World→Prop} (hL:Lies Tb) (t:T) (gs:List StgF) (k5:kindOf t=5) (hl:nL t=gs.length) (hn:gs.length≤8) (hgs:∀ i,(hi:i<gs.length)→PsSaid Tb (elt t i) gs[i])
  (v:Value) (wB w:World) (ha:At wB 13 v t) (hk:okA t) (hb0:Below wB.heap.size wB w) (hT:Tb w):Calls Tryz.prog 64 #[v] w (PlPost Tb wB gs w):=by
 obtain ⟨iE,hiE,zE0,zE1,zE2⟩:=info_parts infoSg
 obtain ⟨g1,La,Ka,Lc,Kc,hg1,rfl,hfj,hel,hnm⟩:=ha.open
 have HKj:=hid hk
 have Hel:=hid hel.out
 have HT:Hid (∀ w':World,Below w.heap.size w w'→Tb w'):=fun w' hb=>hL w hT w w' hT hb
 have HEs:=hid hgs
 have Hl:=hid hl
 have Hhn:=hid hn
 have hnl:nL t≤8:=by omega
 have hnli:(nL t:Int)≤8:=by omega
 have Hg1:=hid hg1
 rw [k5]
 clear ha hk hel hnm hfj hT hL hgs hl hn hg1
 go_enter Tryz.func64,Tryz.ntmps64
 go_wp2_with fail
 refine (needP_any _).mono ?_
 rintro e w2 ⟨rfl,rfl⟩
 go_wp2_with fail
 go_loopg [3,19] (nL t) (fun g o i wr=>∃ (k:Nat) (xs:List Value),g=nL t - k∧k≤nL t∧i=.int .i64 k∧Hid (Below (w.heap.size+1) (w.alloc (.cells #[.int .i64 5,.int .i64 (nOf t),.string (sOf t),.slice La (nL t) Lc,.slice Ka (nK t) Kc] 36)) wr)∧Hid (Bld (StgE Tb wB) 1 82 (w.heap.size+1) o (gs.take k) xs wr))
 case atStart=>exact ⟨0,[],rfl,Nat.zero_le _,rfl,Below.refl _ _,Bld.nil _ _ _ _ _⟩
 case round =>
  obtain ⟨k,xs,rfl,hk,rfl,HB,HL⟩:=hrel
  obtain ⟨q0,q1,q2,q3,q4,hz,hbw⟩:=box_facts HB.out
  have Hbr:=hid (hb0.trans (hbw.mono hb0.size))
  have Hbw:=hid hbw
  clear hbw
  by_cases hlt:k<nL t
  ·have hlte:k<gs.length:=by have:=Hl.out;omega
   obtain ⟨bb,oo,A,B,C,D,rfl,hbl,p0,p1,p2,p3,p4,Ha⟩:=Hel.out.shape Hbr.out k hlt
   obtain ⟨j,hj⟩:∃ j,elt t k=j:=⟨_,rfl⟩
   have HKe:=hid (HKj.out.elt hlt)
   have HPs:=hid (HEs.out k hlte)
   rw [hj] at p0 p1 p2 p3 p4 Ha HKe HPs
   clear hj
   have HBx:Hid (Below wr.heap.size wr (wr.alloc (.cells #[.int .i64 (kindOf j),.int .i64 (nOf j),.string (sOf j),.slice A (nL j) B,.slice C (nK j) D] 36))):=(Below.refl _ _).alloc (Nat.le_refl _) _
   have HC:=hid (HPs.out _ wB _ (Ha.out.up (show g1≤13 by have:=Hg1.out;omega)) HKe.out (Hbr.out.trans (HBx.out.mono Hbr.out.size)) (HT.out _ (Hbw.out.trans (HBx.out.mono Hbw.out.size))))
   have HTk:Hid (gs.take (k+1)=gs.take k++[gs[k]]):=by show _=_;rw [List.take_add_one,List.getElem?_eq_getElem hlte];rfl
   have hxl:(gs.take k).length=k:=by rw [List.length_take];omega
   generalize gs[k]=gk at HC HTk
   clear HPs HKe
   go_wp2_with fail
   refine HC.out.mono ?_
   rintro e w3 ⟨b3,t6,v6,rfl,ht⟩
   have HTt:=hid (ht.later (wa:=wr) (Below.refl _ _) HBx.out.size)
   have Hb3:=hid (HBx.out.trans (b3.mono HBx.out.size))
   have HB4:Hid (Below w3.heap.size w3 (w3.alloc (.cells #[.iface t6 v6] 82))):=(Below.refl _ _).alloc (Nat.le_refl _) _
   have HL4:=hid ((HL.out.keep (stgE_moves Tb wB) Hb3.out).keep (stgE_moves Tb wB) HB4.out)
   have HSrc:Hid (Src Tryz.prog 1 53 (.slice (some ⟨w3.heap.size,0,none⟩) 1 1) 1 [.iface t6 v6] (w3.alloc (.cells #[.iface t6 v6] 82))):=Src.ofSlice _ Tryz.underlying53 ⟨w3.heap.size,0,none⟩ 1 1 [.iface t6 v6] (by simp) (World.news_of_block (heap_alloc_new w3 _)) (by simp [Value.oneCell'])
   have hlo:w.heap.size+1≤(w3.alloc (.cells #[.iface t6 v6] 82)).heap.size:=by have:=Hb3.out.size;simp;omega
   clear b3 ht HC
   go_wp2_with (at_builtin;refine wpList_append_src _ rfl (.tmp 23) (.tmp 26) 53 53 rfl (w.heap.size+1) 82 iE _ 1 16 Tryz.underlying53 hiE zE0 zE1 zE2 rfl u3 (gs.take k).length xs rfl HL4.out.row (.slice (some ⟨w3.heap.size,0,none⟩) 1 1) 1 [.iface t6 v6] rfl HSrc.out (by unfold maxLen;omega) (by omega) hlo ?_;intro v' w6 hO6 hG6 hat6)
   have HL6:=hid (HL.out.grow (x:=gk) (cs:=[.iface t6 v6]) (stgE_moves Tb wB) (Hb3.out.trans (HB4.out.mono Hb3.out.size)) rfl (stgE_moves Tb wB _ _ _ _ _ _ ⟨t6,v6,rfl,HTt.out⟩ (fun b hb=>⟨HB4.out.block b hb.2,hb⟩)) (fun b hb=>⟨hb.1,Nat.lt_of_lt_of_le hb.2 HB4.out.size⟩) (by omega) hO6 hG6 hat6)
   have HB6:=hid (below_grown ((HB.out.trans (Hb3.out.mono (by omega))).trans (HB4.out.mono (by have:=Hb3.out.size;omega))) HL4.out.row (Nat.le_refl _) (by omega) hG6)
   rw [← HTk.out] at HL6
   clear hO6 hG6 hat6
   go_wp2_with fail
   go_roundg (nL t - (k+1))
   case rel=>exact ⟨k+1,_,rfl,by omega,by go_num,HB6,HL6⟩
   case measure=>omega
  ·obtain rfl:k=nL t:=by omega
   rw [Hl.out,List.take_length] at HL
   obtain ⟨A,c,rfl,hs⟩:=bld_stages (w:=w) HL.out (by omega) (by have:=Hhn.out;omega)
   have HS:=hid hs
   clear hs HL
   go_wp2_with fail
   go_ret
   exact ⟨Hbw.out,_,_,rfl,HS.out⟩
def PpSaid (Tb:World→Prop) (t:T) (gs:List StgF):Prop:=∀ (v:Value) (wB w:World),At wB 13 v t→okA t→Below wB.heap.size wB w→Tb w→Calls Tryz.prog 64 #[v] w (PlPost Tb wB gs w)
set_option maxHeartbeats 4000000 in
set_option maxRecDepth 100000 in
theorem pParseIn_any {Tb:World→Prop} (t:T) (gs:List StgF) (h:PpSaid Tb t gs) (v:Value) (wB w:World) (ha:At wB 13 v t) (hk:okA t) (hb0:Below wB.heap.size wB w) (hT:Tb w) (p:Nat)
  (La Ka:Option Addr) (Lc Kc:Nat) (hv:v=.agg #[.int .i64 (kindOf t),.int .i64 (nOf t),.string (sOf t),.slice La (nL t) Lc,.slice Ka (nK t) Kc])
  (q0:w.cell? ⟨p,0,none⟩=some (.int .i64 (kindOf t))) (q1:w.cell? ⟨p,1,none⟩=some (.int .i64 (nOf t))) (q2:w.cell? ⟨p,2,none⟩=some (.string (sOf t))) (q3:w.cell? ⟨p,3,none⟩=some (.slice La (nL t) Lc)) (q4:w.cell? ⟨p,4,none⟩=some (.slice Ka (nK t) Kc)) :
  Calls Tryz.prog 63 #[.pointer (some ⟨p,0,none⟩)] w (PlPost Tb wB gs w):=by
 subst hv
 have HC:=hid (h _ wB w ha hk hb0 hT)
 clear ha hk hb0 hT h
 go_enter Tryz.func63,Tryz.ntmps63
 go_wp2_with fail
 refine HC.out.mono ?_
 rintro e w3 ⟨b3,A,c,rfl,hs⟩
 have HB3:=hid b3
 have HS:=hid hs
 clear b3 hs
 go_wp2_with fail
 go_ret
 exact ⟨HB3.out,_,_,rfl,HS.out⟩
set_option maxHeartbeats 4000000 in
set_option maxRecDepth 100000 in
theorem pParse_any {Tb:World→Prop} (hL:Lies Tb) (t:T) (gs:List StgF) (h:PpSaid Tb t gs) (v:Value) (wB w:World) (ha:At wB 13 v t) (hk:okA t) (hb0:Below wB.heap.size wB w) (hT:Tb w) :
  Calls Tryz.prog 40 #[v] w fun e w'=>Below w.heap.size w w'∧∃ A c,e=.returned (.tuple #[.slice A gs.length c,.int .i64 0])∧Sat wB w' (newB w w') (fun x=>StagesOk Tb x (.slice A gs.length c) gs):=by
 have hmf:∀ (fn:Fn) (first cap:Array Value) (w:World),(Instr.makeFunc fn first cap).run Tryz.prog w=.ok (.func fn first cap) w:=fun _ _ _ _=>rfl
 obtain ⟨g1,La,Ka,Lc,Kc,hg1,hv,_,_,_⟩:=ha.open
 have HB1:Hid (Below w.heap.size w (w.alloc (.cells #[.int .i64 (kindOf t),.int .i64 (nOf t),.string (sOf t),.slice La (nL t) Lc,.slice Ka (nK t) Kc] 36))):=(Below.refl _ _).alloc (Nat.le_refl _) _
 have HE:=hid (boxErr_facts (w.alloc (.cells #[.int .i64 (kindOf t),.int .i64 (nOf t),.string (sOf t),.slice La (nL t) Lc,.slice Ka (nK t) Kc] 36)))
 have hbb:Below (w.heap.size+1) (w.alloc (.cells #[.int .i64 (kindOf t),.int .i64 (nOf t),.string (sOf t),.slice La (nL t) Lc,.slice Ka (nK t) Kc] 36)) (boxErr (w.alloc (.cells #[.int .i64 (kindOf t),.int .i64 (nOf t),.string (sOf t),.slice La (nL t) Lc,.slice Ka (nK t) Kc] 36))):=HE.out.2.2.2.mono (by simp)
 obtain ⟨q0,q1,q2,q3,q4,hz,hbw⟩:=box_facts hbb
 have HI:=hid (pParseIn_any t gs h v wB (boxErr (w.alloc (.cells #[.int .i64 (kindOf t),.int .i64 (nOf t),.string (sOf t),.slice La (nL t) Lc,.slice Ka (nK t) Kc] 36))) ha hk (hb0.trans (hbw.mono hb0.size)) (hL w hT _ _ hT hbw) w.heap.size La Ka Lc Kc hv q0 q1 q2 q3 q4)
 have HA:=hid (attemptP 63 (fun _ _=>rfl) (fun v w'=>∃ A c,v=.slice A gs.length c∧Sat wB w' (newB (boxErr (w.alloc (.cells #[.int .i64 (kindOf t),.int .i64 (nOf t),.string (sOf t),.slice La (nL t) Lc,.slice Ka (nK t) Kc] 36))) w') (fun x=>StagesOk Tb x (.slice A gs.length c) gs)) (.pointer (some ⟨w.heap.size,0,none⟩)) _ (HI.out.mono fun e w' hh=>by
  obtain ⟨h1,A,c,h2,h3⟩:=hh
  exact ⟨h1,_,h2,A,c,rfl,h3⟩))
 subst hv
 clear ha hk hb0 hT h hL hbb q0 q1 q2 q3 q4 hz hbw HI hg1 HE
 go_enter Tryz.func40,Tryz.ntmps40
 go_wp2_with fail
 refine HA.out.mono ?_
 rintro e w3 ⟨b3,x,w2,rfl,⟨A,c,rfl,hs⟩,hab,hb2⟩
 have HB3:=hid (HB1.out.trans (b3.mono HB1.out.size))
 have HS:=hid (hs.attempt (w:=w) (by simp) hab)
 clear b3 hs hab hb2 HA
 go_wp2_with fail
 refine bodyPost_ret (v:=.tuple #[.slice A gs.length c,.int .i64 0]) (by simp [results,Tryz.results40,go_sem, *]) rfl ?_
 exact ⟨HB3.out,_,_,rfl,HS.out⟩
end Go.Proofs.YtknakfpciccoaabGreatDoor
