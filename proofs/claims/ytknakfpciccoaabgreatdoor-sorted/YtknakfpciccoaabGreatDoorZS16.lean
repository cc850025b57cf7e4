import Derived.Test.YtknakfpciccoaabGreatDoorZS15
import Derived.Test.YtknakfpciccoaabGreatDoorZS7
/- The walks of IsOperator, path.Parse, parseExpected. -/
namespace Go.Proofs.YtknakfpciccoaabGreatDoor
open Go.RowKit
set_option maxHeartbeats 4000000 in
set_option maxRecDepth 100000 in
theorem isOperator_any (x:ByteArray) (w:World):Calls Tryz.prog 142 #[.string x] w fun e w'=>e=.returned (.bool (isOp x))∧w'=w:=by
 have HC:Hid (Calls Tryz.prog 158 #[.string x,.string ⟨#[36]⟩] w fun e w'=>e=.returned (.bool (isOp x))∧w'=w):=prefix_any x ⟨#[36]⟩ w
 generalize isOp x=r at HC
 go_enter Tryz.func142,Tryz.ntmps142
 go_wp2_with fail
 refine HC.out.mono ?_
 rintro e w2 ⟨rfl,rfl⟩
 go_wp2_with fail
 go_ret
 exact ⟨rfl,rfl⟩
set_option maxHeartbeats 4000000 in
set_option maxRecDepth 100000 in
theorem contains_any (v:Value) (l:List ByteArray) (x:ByteArray) (w:World) (h:StrsAt w v l) :
  Calls Tryz.prog 86 #[v,.string x] w fun e w'=>e=.returned (.bool ((idxL x l).isSome))∧w'=w:=by
 have HC:=hid (index_any v l x w h)
 clear h
 cases hi:idxL x l with
 | some k =>
  rw [hi] at HC
  simp only [idxI] at HC
  clear hi
  go_enter Tryz.func86,Tryz.ntmps86
  go_wp2_with fail
  refine HC.out.mono ?_
  rintro e w2 ⟨rfl,rfl⟩
  go_wp2_with fail
  go_ret
  exact ⟨rfl,rfl⟩
 | none =>
  rw [hi] at HC
  simp only [idxI] at HC
  clear hi
  go_enter Tryz.func86,Tryz.ntmps86
  go_wp2_with fail
  refine HC.out.mono ?_
  rintro e w2 ⟨rfl,rfl⟩
  go_wp2_with fail
  go_ret
  exact ⟨rfl,rfl⟩
def StrsB (w:World) (X:Nat→Prop) (v:Value) (l:List ByteArray):Prop :=
 ∃ (A:Option Addr) (c:Nat),v=.slice A l.length c∧l.length≤8796093022208∧∀ i,i<l.length→∃ b o,A=some ⟨b,o,none⟩∧X b∧(l.getD i ByteArray.empty).size≤140737488355328∧w.cell? ⟨b,o+i,none⟩=some (.string (l.getD i ByteArray.empty))
theorem StrsB.move {w w':World} {X X':Nat→Prop} {v:Value} {l:List ByteArray} (h:StrsB w X v l) (hb:∀ b,X b→w'.heap[b]?=w.heap[b]?∧X' b):StrsB w' X' v l:=by
 obtain ⟨A,c,hv,hl,h⟩:=h
 refine ⟨A,c,hv,hl,fun i hi=>?_⟩
 obtain ⟨b,o,h0,h1,h2,h3⟩:=h i hi
 obtain ⟨h4,h5⟩:=hb b h1
 exact ⟨b,o,h0,h5,h2,(cell_of h4 _).trans h3⟩
theorem StrsB.at {w:World} {X:Nat→Prop} {v:Value} {l:List ByteArray} (h:StrsB w X v l) (hX:∀ b,X b→b<w.heap.size):StrsAt w v l:=by
 obtain ⟨A,c,hv,hl,h⟩:=h
 refine ⟨A,c,hv,hl,fun i hi=>?_⟩
 obtain ⟨b,o,h0,h1,h2,h3⟩:=h i hi
 exact ⟨b,o,h0,hX b h1,h2,h3⟩
def SplitSaid (Tb:World→Prop):Prop:=∀ (x:ByteArray) (w:World),x.size≤1048576→Tb w→Calls Tryz.prog 159 #[.string x,.string ⟨#[46]⟩] w fun e w'=>Below w.heap.size w w'∧∃ v,e=.returned v∧StrsB w' (newB w w') v (splitP x)
def pathOk (x:ByteArray):Bool:=(idxL ⟨#[]⟩ (splitP x)).isNone
def PathPost (x:ByteArray) (w:World) (e:Ending) (w':World):Prop:=Below w.heap.size w w'∧((pathOk x=true∧∃ v,e=.returned (.tuple #[v,.bool true])∧StrsB w' (newB w w') v (splitP x))∨(pathOk x=false∧e=.returned (.tuple #[.slice none 0 0,.bool false])))
set_option maxHeartbeats 4000000 in
set_option maxRecDepth 100000 in
theorem pathParse_any {Tb:World→Prop} (hS:SplitSaid Tb) (x:ByteArray) (w:World) (hx:x.size≤1048576) (hT:Tb w):Calls Tryz.prog 143 #[.string x] w (PathPost x w):=by
 have HS:=hid (hS x w hx hT)
 clear hS hT
 go_enter Tryz.func143,Tryz.ntmps143
 go_wp2_with fail
 refine HS.out.mono ?_
 rintro e w2 ⟨b2,v,rfl,hv⟩
 have HV:=hid hv
 have HB:=hid b2
 have HC:=hid (contains_any v (splitP x) ⟨#[]⟩ w2 (hv.at fun b hb=>hb.2))
 have HP:Hid (pathOk x=!((idxL ⟨#[]⟩ (splitP x)).isSome)):=by show _=_;unfold pathOk;cases idxL ⟨#[]⟩ (splitP x)<;>rfl
 clear b2 hv
 generalize (idxL ⟨#[]⟩ (splitP x)).isSome=r at HC HP
 go_wp2_with fail
 refine HC.out.mono ?_
 rintro e w3 ⟨rfl,rfl⟩
 cases r with
 | true =>
  go_wp2_with fail
  go_ret2
  exact ⟨HB.out,.inr ⟨HP.out,rfl⟩⟩
 | false =>
  go_wp2_with fail
  go_ret2
  exact ⟨HB.out,.inl ⟨HP.out,_,rfl,HV.out⟩⟩
def opObj (j:T):Prop:=kindOf j=6∧0<nK j∧isOp (nam j 0)=true
instance (j : T) : Decidable (opObj j) := by unfold opObj; infer_instance
def okEx (j:T):Bool:=if opObj j then okTs 16 j else true
theorem exps_yes {j:T} (h:opObj j):exps j=prs j:=by unfold exps;exact if_pos h
theorem exps_no {j:T} (h:¬ opObj j):exps j=[(opEq,j)]:=by unfold exps;exact if_neg h
def ExPost (w0:Org) (j:T) (w:World) (e:Ending) (w':World):Prop :=
 Below w.heap.size w w'∧((okEx j=true∧∃ tv,e=.returned tv∧RowB w' (newB w w') (TestB w0 w' (newB w w') 16) tv (exps j))∨(okEx j=false∧e=refused 8))
theorem one_test (w0:Org) (w:World) (j:T) (La Ka:Option Addr) (Lc Kc:Nat) (f:Nat) (ha:At0 w0 f (.agg #[.int .i64 (kindOf j),.int .i64 (nOf j),.string (sOf j),.slice La (nL j) Lc,.slice Ka (nK j) Kc]) j) (hf:f≤16) (kj:okA j):RowB ((w.alloc (.cells #[.int .i64 (kindOf j),.int .i64 (nOf j),.string (sOf j),.slice La (nL j) Lc,.slice Ka (nK j) Kc] 36)).alloc (.cells #[.string ⟨#[36,101,113]⟩,.int .i64 (kindOf j),.int .i64 (nOf j),.string (sOf j),.slice La (nL j) Lc,.slice Ka (nK j) Kc,.slice none 0 0] 233)) (newB w ((w.alloc (.cells #[.int .i64 (kindOf j),.int .i64 (nOf j),.string (sOf j),.slice La (nL j) Lc,.slice Ka (nK j) Kc] 36)).alloc (.cells #[.string ⟨#[36,101,113]⟩,.int .i64 (kindOf j),.int .i64 (nOf j),.string (sOf j),.slice La (nL j) Lc,.slice Ka (nK j) Kc,.slice none 0 0] 233))) (TestB w0 ((w.alloc (.cells #[.int .i64 (kindOf j),.int .i64 (nOf j),.string (sOf j),.slice La (nL j) Lc,.slice Ka (nK j) Kc] 36)).alloc (.cells #[.string ⟨#[36,101,113]⟩,.int .i64 (kindOf j),.int .i64 (nOf j),.string (sOf j),.slice La (nL j) Lc,.slice Ka (nK j) Kc,.slice none 0 0] 233)) (newB w ((w.alloc (.cells #[.int .i64 (kindOf j),.int .i64 (nOf j),.string (sOf j),.slice La (nL j) Lc,.slice Ka (nK j) Kc] 36)).alloc (.cells #[.string ⟨#[36,101,113]⟩,.int .i64 (kindOf j),.int .i64 (nOf j),.string (sOf j),.slice La (nL j) Lc,.slice Ka (nK j) Kc,.slice none 0 0] 233))) 16) (.slice (some ⟨w.heap.size+1,0,none⟩) 1 1) [(opEq,j)]:=by
 refine ⟨some ⟨w.heap.size+1,0,none⟩,1,rfl,by simp,fun i hi=>?_⟩
 obtain rfl:i=0:=by simp at hi;omega
 refine ⟨w.heap.size+1,0,_,_,_,_,_,_,_,rfl,⟨by omega,by simp⟩,by simp [go_sem];rfl,by simp [go_sem];rfl,by simp [go_sem];rfl,by simp [go_sem];rfl,by simp [go_sem];rfl,by simp [go_sem];rfl,by simp [go_sem];rfl,?_⟩
 exact ⟨rfl,(show opEq.size≤140737488355328 by decide),.inr ⟨(show ¬ isInn opEq by decide),rfl,f,La,Lc,Ka,Kc,hf,rfl,rfl,rfl,rfl,rfl,ha,kj⟩⟩
set_option maxHeartbeats 4000000 in
set_option maxRecDepth 100000 in
theorem parseExpected_any (w0:Org) (f:Nat) (v:Value) (j:T) (w:World) (ha:At0 w0 f v j) (hf:f≤16) (kj:okA j) (hb0:Below w0.w.heap.size w0.w w):Calls Tryz.prog 144 #[v] w (ExPost w0 j w):=by
 obtain ⟨g1,La,Ka,Lc,Kc,hg1,rfl,hfj,hel,hnm⟩:=ha.open
 have HB1:Hid (Below w.heap.size w (w.alloc (.cells #[.int .i64 (kindOf j),.int .i64 (nOf j),.string (sOf j),.slice La (nL j) Lc,.slice Ka (nK j) Kc] 36))):=(Below.refl _ _).alloc (Nat.le_refl _) _
 have HB2:Hid (Below w.heap.size w ((w.alloc (.cells #[.int .i64 (kindOf j),.int .i64 (nOf j),.string (sOf j),.slice La (nL j) Lc,.slice Ka (nK j) Kc] 36)).alloc (.cells #[.string ⟨#[36,101,113]⟩,.int .i64 (kindOf j),.int .i64 (nOf j),.string (sOf j),.slice La (nL j) Lc,.slice Ka (nK j) Kc,.slice none 0 0] 233))):=((Below.refl _ _).alloc (Nat.le_refl _) _).alloc (by simp) _
 have HP:=hid (pts_any w0 f 16 _ j (w.alloc (.cells #[.int .i64 (kindOf j),.int .i64 (nOf j),.string (sOf j),.slice La (nL j) Lc,.slice Ka (nK j) Kc] 36)) hf ha hf kj (hb0.trans (HB1.out.mono hb0.size)))
 have HOne:=hid (one_test w0 w j La Ka Lc Kc f ha hf kj)
 have HF1:Hid (¬ opObj j→okEx j=true∧exps j=[(opEq,j)]):=fun h=>⟨by unfold okEx;exact if_neg h,exps_no h⟩
 have hnk:=kj.small.1
 by_cases k6:kindOf j=6
 ·have e6:(kindOf j==6)=true:=by simpa using k6
  by_cases h0:0<nK j
  ·have h0i:(0:Int)<(nK j:Int):=by omega
   obtain ⟨kb,ko,rfl,hkb,hks,hkc⟩:=hnm.out.keep (hb0.trans (HB1.out.mono hb0.size)) 0 h0
   rw [Nat.add_zero] at hkc
   have HO:=hid (isOperator_any (nam j 0))
   cases hop:isOp (nam j 0) with
   | true =>
    have hobj:opObj j:=⟨k6,h0,hop⟩
    have HX:=hid (exps_yes hobj)
    have HK:Hid (okEx j=okTs 16 j):=by show _=_;unfold okEx;exact if_pos hobj
    rw [hop] at HO
    clear hop hobj k6 ha kj hel hnm hfj hb0 hg1
    go_enter Tryz.func144,Tryz.ntmps144
    go_wp2_with fail
    refine (HO.out _).mono ?_
    rintro e w2 ⟨rfl,rfl⟩
    go_wp2_with fail
    refine HP.out.mono ?_
    rintro e w3 ⟨b3,⟨hok,tv,rfl,hr⟩ | ⟨hok,rfl⟩⟩
    ·have HB3:=hid (HB1.out.trans (b3.mono HB1.out.size))
     have HR3:Hid (RowB w3 (newB w w3) (TestB w0 w3 (newB w w3) 16) tv (exps j)):=by
      show RowB _ _ _ _ _
      rw [HX.out]
      exact hr.move (fun b hb=>⟨rfl,by have:=hb.1;simp at this;omega,hb.2⟩) (TestB.move (fun b hb=>⟨rfl,by have:=hb.1;simp at this;omega,hb.2⟩) 16)
     have HK3:=hid (HK.out.trans hok)
     clear b3 hr hok
     go_wp2_with fail
     go_ret
     exact ⟨HB3.out,.inl ⟨HK3.out,_,rfl,HR3.out⟩⟩
    ·exact ⟨rfl,HB1.out.trans (b3.mono HB1.out.size),.inr ⟨HK.out.trans hok,rfl⟩⟩
   | false =>
    have HN:=hid (HF1.out (fun h=>by rw [h.2.2] at hop;cases hop))
    rw [hop] at HO
    clear hop k6 ha kj hel hnm hfj hb0 hg1 HF1
    go_enter Tryz.func144,Tryz.ntmps144
    go_wp2_with fail
    refine (HO.out _).mono ?_
    rintro e w2 ⟨rfl,rfl⟩
    go_wp2_with fail
    go_ret
    exact ⟨HB2.out,.inl ⟨HN.out.1,_,rfl,by rw [HN.out.2];exact HOne.out⟩⟩
  ·have hd0:decide (0<nK j)=false:=decide_eq_false h0
   have HN:=hid (HF1.out (fun h=>h0 h.2.1))
   clear h0 k6 ha kj hel hnm hfj hb0 hg1 HF1
   go_enter Tryz.func144,Tryz.ntmps144
   go_wp2_with fail
   go_ret
   exact ⟨HB2.out,.inl ⟨HN.out.1,_,rfl,by rw [HN.out.2];exact HOne.out⟩⟩
 ·have e6:(kindOf j==6)=false:=by simpa using k6
  have HN:=hid (HF1.out (fun h=>k6 h.1))
  clear k6 ha kj hel hnm hfj hb0 hg1 HF1
  go_enter Tryz.func144,Tryz.ntmps144
  go_wp2_with fail
  go_ret
  exact ⟨HB2.out,.inl ⟨HN.out.1,_,rfl,by rw [HN.out.2];exact HOne.out⟩⟩
end Go.Proofs.YtknakfpciccoaabGreatDoor
/- Filters that are made: how they lie; parseCondition. -/
namespace Go.Proofs.YtknakfpciccoaabGreatDoor
open Go.RowKit
def RowFB (w:World) (X:Nat→Prop) (R:Value→T→Prop) (v:Value) (j:T):Prop :=
 ∃ (A:Option Addr) (c:Nat),v=.slice A (nL j) c∧nL j≤1000000000∧∀ i,i<nL j→∃ b o u,A=some ⟨b,o,none⟩∧X b∧w.cell? ⟨b,o+i,none⟩=some u∧R u (elt j i)
theorem RowFB.move {w w':World} {X X':Nat→Prop} {R R':Value→T→Prop} {v:Value} {j:T} (h:RowFB w X R v j) (hb:∀ b,X b→w'.heap[b]?=w.heap[b]?∧X' b) (hR:∀ u y,R u y→R' u y):RowFB w' X' R' v j:=by
 obtain ⟨A,c,hv,hn,h⟩:=h
 refine ⟨A,c,hv,hn,fun i hi=>?_⟩
 obtain ⟨b,o,u,h0,hl,q,hr⟩:=h i hi
 obtain ⟨h1,h2⟩:=hb b hl
 exact ⟨b,o,u,h0,h2,(cell_of h1 _).trans q,hR _ _ hr⟩
theorem RowFB.at {w:World} {X:Nat→Prop} {R R':Value→T→Prop} {v:Value} {j:T} (h:RowFB w X R v j) (hX:∀ b,X b→b<w.heap.size) (hR:∀ u y,R u y→R' u y):RowF w R' v j:=by
 obtain ⟨A,c,hv,hn,h⟩:=h
 refine ⟨A,c,hv,hn,fun i hi=>?_⟩
 obtain ⟨b,o,u,h0,hl,q,hr⟩:=h i hi
 exact ⟨b,o,u,h0,hX b hl,q,hR _ _ hr⟩
def CondB (w0:Org) (w:World) (X:Nat→Prop) (R:Value→T→Prop) (u:Value) (x:ByteArray) (j:T):Prop :=
 (x=opAnd∧∃ v,u=.iface 203 v∧RowFB w X R v j)∨(x=opOr∧∃ v,u=.iface 205 v∧RowFB w X R v j)∨(x=opNor∧∃ v,u=.iface 206 v∧RowFB w X R v j) ∨
 (plainN x∧∃ pv tv,u=.iface 213 (.agg #[pv,tv])∧StrsB w X pv (splitP x)∧RowB w X (TestB w0 w X 16) tv (exps j))
theorem CondB.move {w0:Org} {w w':World} {X X':Nat→Prop} {R R':Value→T→Prop} {u:Value} {x:ByteArray} {j:T} (h:CondB w0 w X R u x j) (hb:∀ b,X b→w'.heap[b]?=w.heap[b]?∧X' b) (hR:∀ u y,R u y→R' u y):CondB w0 w' X' R' u x j:=by
 rcases h with ⟨h1,v,h2,h3⟩ | ⟨h1,v,h2,h3⟩ | ⟨h1,v,h2,h3⟩ | ⟨h1,pv,tv,h2,h3,h4⟩
 ·exact .inl ⟨h1,v,h2,h3.move hb hR⟩
 ·exact .inr (.inl ⟨h1,v,h2,h3.move hb hR⟩)
 ·exact .inr (.inr (.inl ⟨h1,v,h2,h3.move hb hR⟩))
 ·exact .inr (.inr (.inr ⟨h1,pv,tv,h2,h3.move hb,h4.move hb (TestB.move hb 16)⟩))
theorem CondB.at {w0:Org} {w:World} {X:Nat→Prop} {R R':Value→T→Prop} {u:Value} {x:ByteArray} {j:T} (h:CondB w0 w X R u x j) (hX:∀ b,X b→b<w.heap.size) (hb:∀ f v t,At0 w0 f v t→At w f v t) (hR:∀ u y,R u y→R' u y):CondAt w R' u x j:=by
 rcases h with ⟨h1,v,h2,h3⟩ | ⟨h1,v,h2,h3⟩ | ⟨h1,v,h2,h3⟩ | ⟨h1,pv,tv,h2,h3,h4⟩
 ·exact .inl ⟨h1,v,h2,h3.at hX hR⟩
 ·exact .inr (.inl ⟨h1,v,h2,h3.at hX hR⟩)
 ·exact .inr (.inr (.inl ⟨h1,v,h2,h3.at hX hR⟩))
 ·exact .inr (.inr (.inr ⟨h1,pv,tv,h2,h3.at hX,h4.at hX (TestB.at hX hb 16)⟩))
def FilB (w0:Org) (w:World) (X:Nat→Prop):Nat→Value→T→Prop
 | 0,_,_=>False
 | m+1,v,t=>∃ (A:Option Addr) (c:Nat),v=.slice A (nK t) c∧nK t≤1000000000∧∀ i,i<nK t→∃ b o u,A=some ⟨b,o,none⟩∧X b∧w.cell? ⟨b,o+i,none⟩=some u∧CondB w0 w X (FilB w0 w X m) u (nam t i) (elt t i)
theorem FilB.move {w0:Org} {w w':World} {X X':Nat→Prop} (hb:∀ b,X b→w'.heap[b]?=w.heap[b]?∧X' b):∀ (m:Nat) (v:Value) (t:T),FilB w0 w X m v t→FilB w0 w' X' m v t
 | 0,_,_,h=>h
 | m+1,v,t,h=>by
  obtain ⟨A,c,hv,hn,h⟩:=h
  refine ⟨A,c,hv,hn,fun i hi=>?_⟩
  obtain ⟨b,o,u,h0,hl,q,hr⟩:=h i hi
  obtain ⟨h1,h2⟩:=hb b hl
  exact ⟨b,o,u,h0,h2,(cell_of h1 _).trans q,hr.move hb (FilB.move hb m)⟩
theorem FilB.at {w0:Org} {w:World} {X:Nat→Prop} (hX:∀ b,X b→b<w.heap.size) (hb:∀ f v t,At0 w0 f v t→At w f v t):∀ (m:Nat) (v:Value) (t:T),FilB w0 w X m v t→FilAt w m v t
 | 0,_,_,h=>h
 | m+1,v,t,h=>by
  obtain ⟨A,c,hv,hn,h⟩:=h
  refine ⟨A,c,hv,hn,fun i hi=>?_⟩
  obtain ⟨b,o,u,h0,hl,q,hr⟩:=h i hi
  exact ⟨b,o,u,h0,hX b hl,q,hr.at hX hb (FilB.at hX hb m)⟩
def okC (g:T→Bool) (x:ByteArray) (j:T):Bool:=if x=opAnd∨x=opOr∨x=opNor then ((kindOf j==5&&decide (0<nL j))&&allL g j (nL j)) else ((!isOp x&&pathOk x)&&okEx j)
def okFil:Nat→T→Bool
 | 0,_=>false
 | m+1,t=>kindOf t==6&&allN (fun i=>okC (okFil m) (nam t i) (elt t i)) (nK t)
def FPost (w0:Org) (m:Nat) (t:T) (w:World) (e:Ending) (w':World):Prop :=
 Below w.heap.size w w'∧((okFil m t=true∧∃ fv,e=.returned fv∧FilB w0 w' (newB w w') m fv t)∨(okFil m t=false∧e=refused 8))
def PfSaid (Tb:World→Prop) (w0:Org) (f:Nat):Prop:=∀ (m:Nat) (v:Value) (t:T) (w:World),f≤m→At0 w0 f v t→f≤16→okA t→Below w0.w.heap.size w0.w w→Tb w→Calls Tryz.prog 85 #[v] w (FPost w0 m t w)
def FsPost (w0:Org) (m:Nat) (j:T) (w:World) (e:Ending) (w':World):Prop :=
 Below w.heap.size w w'∧((((kindOf j==5&&decide (0<nL j))&&allL (okFil m) j (nL j))=true∧∃ fv,e=.returned fv∧RowFB w' (newB w w') (FilB w0 w' (newB w w') m) fv j)∨(((kindOf j==5&&decide (0<nL j))&&allL (okFil m) j (nL j))=false∧e=refused 8))
def PfsSaid (Tb:World→Prop) (w0:Org) (f:Nat):Prop:=∀ (m:Nat) (v:Value) (j:T) (w:World),f≤m+1→At0 w0 f v j→f≤16→okA j→Below w0.w.heap.size w0.w w→Tb w→Calls Tryz.prog 141 #[v] w (FsPost w0 m j w)
def CPost (w0:Org) (m:Nat) (x:ByteArray) (j:T) (w:World) (e:Ending) (w':World):Prop :=
 Below w.heap.size w w'∧((okC (okFil m) x j=true∧∃ u,e=.returned u∧CondB w0 w' (newB w w') (FilB w0 w' (newB w w') m) u x j)∨(okC (okFil m) x j=false∧e=refused 8))
set_option maxHeartbeats 4000000 in
set_option maxRecDepth 100000 in
theorem pcondAnd_any {Tb:World→Prop} (hL:Lies Tb) (w0:Org) (f m:Nat) (ih:PfsSaid Tb w0 f) (x:ByteArray) (j:T) (v:Value) (w:World) (hm:f≤m+1) (ha:At0 w0 f v j) (hf:f≤16) (kj:okA j) (hb0:Below w0.w.heap.size w0.w w) (hT:Tb w) (gAnd:x=opAnd) :
  Calls Tryz.prog 117 #[.string x,v] w (CPost w0 m x j w):=by
 obtain ⟨g1,La,Ka,Lc,Kc,hg1,rfl,_,_,_⟩:=ha.open
 have HB1:Hid (Below w.heap.size w (w.alloc (.cells #[.int .i64 (kindOf j),.int .i64 (nOf j),.string (sOf j),.slice La (nL j) Lc,.slice Ka (nK j) Kc] 36))):=(Below.refl _ _).alloc (Nat.le_refl _) _
 have HC:=hid (ih m _ j (w.alloc (.cells #[.int .i64 (kindOf j),.int .i64 (nOf j),.string (sOf j),.slice La (nL j) Lc,.slice Ka (nK j) Kc] 36)) hm ha hf kj (hb0.trans (HB1.out.mono hb0.size)) (hL w hT _ _ hT HB1.out))
 have HR:Hid (okC (okFil m) x j=((kindOf j==5&&decide (0<nL j))&&allL (okFil m) j (nL j))):=by show _=_;unfold okC;rw [if_pos (.inl gAnd)]
 have HG:=hid gAnd
 have eAnd:(x.toList==[36,97,110,100])=true:=lit_is gAnd
 clear ha kj hb0 hT hL ih hg1
 clear gAnd
 go_enter Tryz.func117,Tryz.ntmps117
 go_wp2_with fail
 refine HC.out.mono ?_
 rintro e w3 ⟨b3,⟨hok,fv,rfl,hr⟩ | ⟨hok,rfl⟩⟩
 ·have HB3:=hid (HB1.out.trans (b3.mono HB1.out.size))
  have mv:∀ b,newB (w.alloc (.cells #[.int .i64 (kindOf j),.int .i64 (nOf j),.string (sOf j),.slice La (nL j) Lc,.slice Ka (nK j) Kc] 36)) w3 b→w3.heap[b]?=w3.heap[b]?∧newB w w3 b:=fun b hb=>⟨rfl,by have:=hb.1;simp at this;omega,hb.2⟩
  have HRow:=hid (hr.move mv (FilB.move (w0:=w0) mv m))
  have HK:=hid (HR.out.trans hok)
  clear b3 hr hok mv
  go_wp2_with fail
  go_ret
  exact ⟨HB3.out,.inl ⟨HK.out,_,rfl,.inl ⟨HG.out,_,rfl,HRow.out⟩⟩⟩
 ·exact ⟨rfl,HB1.out.trans (b3.mono HB1.out.size),.inr ⟨HR.out.trans hok,rfl⟩⟩
set_option maxHeartbeats 4000000 in
set_option maxRecDepth 100000 in
theorem pcondOr_any {Tb:World→Prop} (hL:Lies Tb) (w0:Org) (f m:Nat) (ih:PfsSaid Tb w0 f) (x:ByteArray) (j:T) (v:Value) (w:World) (hm:f≤m+1) (ha:At0 w0 f v j) (hf:f≤16) (kj:okA j) (hb0:Below w0.w.heap.size w0.w w) (hT:Tb w) (gOr:x=opOr) :
  Calls Tryz.prog 117 #[.string x,v] w (CPost w0 m x j w):=by
 obtain ⟨g1,La,Ka,Lc,Kc,hg1,rfl,_,_,_⟩:=ha.open
 have HB1:Hid (Below w.heap.size w (w.alloc (.cells #[.int .i64 (kindOf j),.int .i64 (nOf j),.string (sOf j),.slice La (nL j) Lc,.slice Ka (nK j) Kc] 36))):=(Below.refl _ _).alloc (Nat.le_refl _) _
 have HC:=hid (ih m _ j (w.alloc (.cells #[.int .i64 (kindOf j),.int .i64 (nOf j),.string (sOf j),.slice La (nL j) Lc,.slice Ka (nK j) Kc] 36)) hm ha hf kj (hb0.trans (HB1.out.mono hb0.size)) (hL w hT _ _ hT HB1.out))
 have HR:Hid (okC (okFil m) x j=((kindOf j==5&&decide (0<nL j))&&allL (okFil m) j (nL j))):=by show _=_;unfold okC;rw [if_pos (.inr (.inl gOr))]
 have HG:=hid gOr
 have gAnd:¬ x=opAnd:=by rw [gOr];decide
 have eAnd:(x.toList==[36,97,110,100])=false:=lit_no gAnd
 have eOr:(x.toList==[36,111,114])=true:=lit_is gOr
 clear ha kj hb0 hT hL ih hg1
 clear gAnd gOr
 go_enter Tryz.func117,Tryz.ntmps117
 go_wp2_with fail
 refine HC.out.mono ?_
 rintro e w3 ⟨b3,⟨hok,fv,rfl,hr⟩ | ⟨hok,rfl⟩⟩
 ·have HB3:=hid (HB1.out.trans (b3.mono HB1.out.size))
  have mv:∀ b,newB (w.alloc (.cells #[.int .i64 (kindOf j),.int .i64 (nOf j),.string (sOf j),.slice La (nL j) Lc,.slice Ka (nK j) Kc] 36)) w3 b→w3.heap[b]?=w3.heap[b]?∧newB w w3 b:=fun b hb=>⟨rfl,by have:=hb.1;simp at this;omega,hb.2⟩
  have HRow:=hid (hr.move mv (FilB.move (w0:=w0) mv m))
  have HK:=hid (HR.out.trans hok)
  clear b3 hr hok mv
  go_wp2_with fail
  go_ret
  exact ⟨HB3.out,.inl ⟨HK.out,_,rfl,.inr (.inl ⟨HG.out,_,rfl,HRow.out⟩)⟩⟩
 ·exact ⟨rfl,HB1.out.trans (b3.mono HB1.out.size),.inr ⟨HR.out.trans hok,rfl⟩⟩
set_option maxHeartbeats 4000000 in
set_option maxRecDepth 100000 in
theorem pcondNor_any {Tb:World→Prop} (hL:Lies Tb) (w0:Org) (f m:Nat) (ih:PfsSaid Tb w0 f) (x:ByteArray) (j:T) (v:Value) (w:World) (hm:f≤m+1) (ha:At0 w0 f v j) (hf:f≤16) (kj:okA j) (hb0:Below w0.w.heap.size w0.w w) (hT:Tb w) (gNor:x=opNor) :
  Calls Tryz.prog 117 #[.string x,v] w (CPost w0 m x j w):=by
 obtain ⟨g1,La,Ka,Lc,Kc,hg1,rfl,_,_,_⟩:=ha.open
 have HB1:Hid (Below w.heap.size w (w.alloc (.cells #[.int .i64 (kindOf j),.int .i64 (nOf j),.string (sOf j),.slice La (nL j) Lc,.slice Ka (nK j) Kc] 36))):=(Below.refl _ _).alloc (Nat.le_refl _) _
 have HC:=hid (ih m _ j (w.alloc (.cells #[.int .i64 (kindOf j),.int .i64 (nOf j),.string (sOf j),.slice La (nL j) Lc,.slice Ka (nK j) Kc] 36)) hm ha hf kj (hb0.trans (HB1.out.mono hb0.size)) (hL w hT _ _ hT HB1.out))
 have HR:Hid (okC (okFil m) x j=((kindOf j==5&&decide (0<nL j))&&allL (okFil m) j (nL j))):=by show _=_;unfold okC;rw [if_pos (.inr (.inr gNor))]
 have HG:=hid gNor
 have gAnd:¬ x=opAnd:=by rw [gNor];decide
 have eAnd:(x.toList==[36,97,110,100])=false:=lit_no gAnd
 have gOr:¬ x=opOr:=by rw [gNor];decide
 have eOr:(x.toList==[36,111,114])=false:=lit_no gOr
 have eNor:(x.toList==[36,110,111,114])=true:=lit_is gNor
 clear ha kj hb0 hT hL ih hg1
 clear gAnd gOr gNor
 go_enter Tryz.func117,Tryz.ntmps117
 go_wp2_with fail
 refine HC.out.mono ?_
 rintro e w3 ⟨b3,⟨hok,fv,rfl,hr⟩ | ⟨hok,rfl⟩⟩
 ·have HB3:=hid (HB1.out.trans (b3.mono HB1.out.size))
  have mv:∀ b,newB (w.alloc (.cells #[.int .i64 (kindOf j),.int .i64 (nOf j),.string (sOf j),.slice La (nL j) Lc,.slice Ka (nK j) Kc] 36)) w3 b→w3.heap[b]?=w3.heap[b]?∧newB w w3 b:=fun b hb=>⟨rfl,by have:=hb.1;simp at this;omega,hb.2⟩
  have HRow:=hid (hr.move mv (FilB.move (w0:=w0) mv m))
  have HK:=hid (HR.out.trans hok)
  clear b3 hr hok mv
  go_wp2_with fail
  go_ret
  exact ⟨HB3.out,.inl ⟨HK.out,_,rfl,.inr (.inr (.inl ⟨HG.out,_,rfl,HRow.out⟩))⟩⟩
 ·exact ⟨rfl,HB1.out.trans (b3.mono HB1.out.size),.inr ⟨HR.out.trans hok,rfl⟩⟩
set_option maxHeartbeats 4000000 in
set_option maxRecDepth 100000 in
theorem pcondHas_any {Tb:World→Prop} (hS:SplitSaid Tb) (hL:Lies Tb) (w0:Org) (f m:Nat) (x:ByteArray) (j:T) (v:Value) (w:World) (hx:x.size≤4000) (ha:At0 w0 f v j) (hf:f≤16) (kj:okA j) (hb0:Below w0.w.heap.size w0.w w) (hT:Tb w) (hp:plainN x) :
  Calls Tryz.prog 117 #[.string x,v] w (CPost w0 m x j w):=by
 obtain ⟨g1,La,Ka,Lc,Kc,hg1,rfl,_,_,_⟩:=ha.open
 obtain ⟨gAnd,gOr,gNor⟩:=hp
 have HP:Hid (plainN x):=⟨gAnd,gOr,gNor⟩
 have HB1:Hid (Below w.heap.size w (w.alloc (.cells #[.int .i64 (kindOf j),.int .i64 (nOf j),.string (sOf j),.slice La (nL j) Lc,.slice Ka (nK j) Kc] 36))):=(Below.refl _ _).alloc (Nat.le_refl _) _
 have HR:Hid (okC (okFil m) x j=((!isOp x&&pathOk x)&&okEx j)):=by show _=_;unfold okC;rw [if_neg (by rintro (h | h | h);exact gAnd h;exact gOr h;exact gNor h)]
 have HO:=hid (isOperator_any x (w.alloc (.cells #[.int .i64 (kindOf j),.int .i64 (nOf j),.string (sOf j),.slice La (nL j) Lc,.slice Ka (nK j) Kc] 36)))
 have HPp:=hid (pathParse_any hS x (w.alloc (.cells #[.int .i64 (kindOf j),.int .i64 (nOf j),.string (sOf j),.slice La (nL j) Lc,.slice Ka (nK j) Kc] 36)) (by omega) (hL w hT _ _ hT HB1.out))
 have HEx:=hid (fun w' hb'=>parseExpected_any w0 f _ j w' ha hf kj hb')
 have Hb0:=hid hb0
 have eAnd:(x.toList==[36,97,110,100])=false:=lit_no gAnd
 have eOr:(x.toList==[36,111,114])=false:=lit_no gOr
 have eNor:(x.toList==[36,110,111,114])=false:=lit_no gNor
 have HX:Hid (BoxAt w.heap.size (.int .i64 (kindOf j)) (.int .i64 (nOf j)) (.string (sOf j)) (.slice La (nL j) Lc) (.slice Ka (nK j) Kc) (w.alloc (.cells #[.int .i64 (kindOf j),.int .i64 (nOf j),.string (sOf j),.slice La (nL j) Lc,.slice Ka (nK j) Kc] 36))):=by
  constructor<;>simp [go_sem]
 clear ha kj hb0 hT hL hS hg1 gAnd gOr gNor
 cases hop:isOp x with
 | true =>
  rw [hop] at HO
  have HK:Hid (okC (okFil m) x j=false):=by show _=_;rw [HR.out,hop];rfl
  clear hop
  go_enter Tryz.func117,Tryz.ntmps117
  go_wp2_with fail
  refine HO.out.mono ?_
  rintro e w2 ⟨rfl,rfl⟩
  go_wp2_with fail
  refine (need_any false _).mono ?_
  rintro e w3 ⟨rfl,he⟩
  simp only [Bool.false_eq_true,if_false] at he
  subst he
  exact ⟨rfl,HB1.out,.inr ⟨HK.out,rfl⟩⟩
 | false =>
  rw [hop] at HO
  have HR2:Hid (okC (okFil m) x j=(pathOk x&&okEx j)):=by show _=_;rw [HR.out,hop];rfl
  clear hop HR
  go_enter Tryz.func117,Tryz.ntmps117
  go_wp2_with fail
  refine HO.out.mono ?_
  rintro e w2 ⟨rfl,rfl⟩
  go_wp2_with fail
  refine (need_any true _).mono ?_
  rintro e w3 ⟨rfl,he⟩
  simp only [if_true] at he
  subst he
  go_wp2_with fail
  refine HPp.out.mono ?_
  rintro e w4 ⟨b4,⟨hok,pv,rfl,hpv⟩ | ⟨hok,rfl⟩⟩
  ·have HB4:=hid (HB1.out.trans (b4.mono HB1.out.size))
   have HPv:=hid hpv
   have HR3:Hid (okC (okFil m) x j=okEx j):=by show _=_;rw [HR2.out,hok];rfl
   have HX4:=hid (HX.out.stay b4)
   have Hb4:=hid b4
   have q0:=HX4.out.q0
   have q1:=HX4.out.q1
   have q2:=HX4.out.q2
   have q3:=HX4.out.q3
   have q4:=HX4.out.q4
   clear b4 hpv hok HPp HO
   go_wp2_with fail
   refine (need_any true _).mono ?_
   rintro e w5 ⟨rfl,he⟩
   simp only [if_true] at he
   subst he
   go_wp2_with fail
   refine (HEx.out _ (Hb0.out.trans (HB4.out.mono Hb0.out.size))).mono ?_
   rintro e w6 ⟨b6,⟨hok,tv,rfl,htv⟩ | ⟨hok,rfl⟩⟩
   ·obtain ⟨PA,pc,rfl,hp1,hp2⟩:=HPv.out
    obtain ⟨TA,tc,rfl,ht1,ht2⟩:=htv
    have HB6:=hid (HB4.out.trans (b6.mono HB4.out.size))
    have HPv6:Hid (StrsB w6 (newB w w6) (.slice PA (splitP x).length pc) (splitP x)):=HPv.out.move fun b hb=>⟨b6.block b hb.2,by have:=hb.1;simp at this;omega,Nat.lt_of_lt_of_le hb.2 b6.size⟩
    have HTv6:Hid (RowB w6 (newB w w6) (TestB w0 w6 (newB w w6) 16) (.slice TA (exps j).length tc) (exps j)):=by
     exact RowB.move ⟨TA,tc,rfl,ht1,ht2⟩ (fun b hb=>⟨rfl,by have:=hb.1;have:=HB4.out.size;omega,hb.2⟩) (TestB.move (fun b hb=>⟨rfl,by have:=hb.1;have:=HB4.out.size;omega,hb.2⟩) 16)
    have HK:=hid (HR3.out.trans hok)
    clear b6 hok hp1 hp2 ht1 ht2
    go_wp2_with fail
    go_ret
    exact ⟨HB6.out,.inl ⟨HK.out,_,rfl,.inr (.inr (.inr ⟨HP.out,_,_,rfl,HPv6.out,HTv6.out⟩))⟩⟩
   ·exact ⟨rfl,HB4.out.trans (b6.mono HB4.out.size),.inr ⟨HR3.out.trans hok,rfl⟩⟩
  ·have HB4:=hid (HB1.out.trans (b4.mono HB1.out.size))
   have HK:Hid (okC (okFil m) x j=false):=by show _=_;rw [HR2.out,hok];rfl
   clear b4 hok
   go_wp2_with fail
   refine (need_any false _).mono ?_
   rintro e w5 ⟨rfl,he⟩
   simp only [Bool.false_eq_true,if_false] at he
   subst he
   exact ⟨rfl,HB4.out,.inr ⟨HK.out,rfl⟩⟩
end Go.Proofs.YtknakfpciccoaabGreatDoor
/- The walks of parseFilters and parseFilter. -/
namespace Go.Proofs.YtknakfpciccoaabGreatDoor
open Go.RowKit
def FilE (w0:Org) (m:Nat) (w:World) (X:Nat→Prop) (cs:List Value) (y:T):Prop:=∃ u,cs=[u]∧FilB w0 w X m u y
theorem filE_moves (w0:Org) (m:Nat):Moves (FilE w0 m):=fun _ _ _ _ _ _ h hb=>by
 obtain ⟨u,hc,h⟩:=h
 exact ⟨u,hc,FilB.move hb m _ _ h⟩
def CondE (w0:Org) (m:Nat) (w:World) (X:Nat→Prop) (cs:List Value) (p:ByteArray×T):Prop:=∃ u,cs=[u]∧CondB w0 w X (FilB w0 w X m) u p.1 p.2
theorem condE_moves (w0:Org) (m:Nat):Moves (CondE w0 m):=fun _ _ _ _ _ _ h hb=>by
 obtain ⟨u,hc,h⟩:=h
 exact ⟨u,hc,h.move hb (FilB.move hb m)⟩
def elts (j:T):List T:=(List.range (nL j)).map (elt j)
theorem elts_len (j:T):(elts j).length=nL j:=by simp [elts]
theorem elts_get {j:T} {i:Nat} (h:i<(elts j).length):(elts j)[i]=elt j i:=by simp [elts]
theorem elts_take {j:T} {k:Nat} (h:k<nL j):(elts j).take (k+1)=(elts j).take k++[elt j k]:=by
 have hl:k<(elts j).length:=by rw [elts_len];exact h
 rw [List.take_succ_eq_append_getElem hl,elts_get]
theorem prs_get {j:T} {i:Nat} (h:i<(prs j).length):(prs j)[i]=(nam j i,elt j i):=by simp [prs]
theorem bld_one {α:Type} {E:World→(Nat→Prop)→List Value→α→Prop} {e:TypeId} {base:Nat} {hv:Value} {l:List α} {xs:List Value} {w wr:World} (h:Bld E 1 e base hv l xs wr) (hlo:w.heap.size≤base):∃ (A:Option Addr) (c:Nat),hv=.slice A l.length c∧∀ i,(hi:i<l.length)→∃ b u,A=some ⟨b,0,none⟩∧newB w wr b∧(∀ r,elC 1 xs i=[r]→r=u)∧wr.cell? ⟨b,0+i,none⟩=some u:=by
 have hrow:=h.row
 have hx:=h.row.1
 rcases h.row.2 with ⟨rfl,h0⟩ | ⟨g,cap,cur,rfl,hb0,hg,_⟩
 ·exact ⟨none,0,by rw [h0],fun i hi=>by omega⟩
 ·refine ⟨some ⟨g,0,none⟩,cap,rfl,fun i hi=>?_⟩
  have hgl:=(Array.getElem?_eq_some_iff.1 hg).1
  have hxi:i<xs.length:=by omega
  refine ⟨g,xs[i],rfl,⟨by omega,hgl⟩,fun r hr=>?_,?_⟩
  ·have:(elC 1 xs i)[0]?=some r:=by rw [hr];rfl
   have:=elC_get this (by omega)
   rw [Nat.mul_one,Nat.add_zero,List.getElem?_eq_getElem hxi] at this
   simpa using this.symm
  ·rw [Nat.zero_add]
   exact row_cell hrow (List.getElem?_eq_getElem hxi)
theorem infoF:(Tryz.prog.info? 70).map (fun i=>(i.zero,i.size,i.bytes))=some (some (.slice none 0 0),1,24):=by kernel_rfl
theorem infoC:(Tryz.prog.info? 128).map (fun i=>(i.zero,i.size,i.bytes))=some (some .nilIface,1,16):=by kernel_rfl
theorem FilB.shape {w0:Org} {w:World} {X:Nat→Prop} {m:Nat} {u:Value} {y:T} (h:FilB w0 w X m u y):∃ A c,u=.slice A (nK y) c:=by
 cases m with
 | zero=>exact h.elim
 | succ m=>obtain ⟨A,c,hv,_⟩:=h;exact ⟨A,c,hv⟩
theorem CondB.shape {w0:Org} {w:World} {X:Nat→Prop} {R:Value→T→Prop} {u:Value} {x:ByteArray} {j:T} (h:CondB w0 w X R u x j):∃ t v,u=.iface t v:=by
 rcases h with ⟨_,v,h,_⟩ | ⟨_,v,h,_⟩ | ⟨_,v,h,_⟩ | ⟨_,pv,tv,h,_⟩<;>exact ⟨_,_,h⟩
set_option maxHeartbeats 4000000 in
set_option maxRecDepth 100000 in
theorem pfs_step {Tb:World→Prop} (hL:Lies Tb) (w0:Org) (f:Nat) (ih:PfSaid Tb w0 f):PfsSaid Tb w0 (f+1):=by
 intro m v j w hm ha hf kj hb0 hT
 obtain ⟨iF,hiF,zF0,zF1,zF2⟩:=info_parts infoF
 obtain ⟨g1,La,Ka,Lc,Kc,hg1,rfl,hfj,hel,hnm⟩:=ha.open
 obtain rfl:g1=f:=by omega
 have HB1:Hid (Below w.heap.size w (w.alloc (.cells #[.int .i64 (kindOf j),.int .i64 (nOf j),.string (sOf j),.slice La (nL j) Lc,.slice Ka (nK j) Kc] 36))):=(Below.refl _ _).alloc (Nat.le_refl _) _
 have HT:Hid (∀ w':World,Below w.heap.size w w'→Tb w'):=fun w' hb=>hL w hT w w' hT hb
 have HKj:=hid kj
 have HIh:=hid ih
 have Hel:=hid hel.out
 have hnl:=kj.small.2
 clear ha kj ih hel hnm hg1 hfj hT hL
 by_cases hk:kindOf j=5∧0<nL j
 ·obtain ⟨k5,h0⟩:=hk
  have e5:(kindOf j==5)=true:=by simpa using k5
  have h0i:(0:Int)<(nL j:Int):=by omega
  have HOK:Hid (((kindOf j==5&&decide (0<nL j))&&allL (okFil m) j (nL j))=allL (okFil m) j (nL j)):=by show _=_;rw [e5,decide_eq_true h0];rfl
  unfold FsPost
  rw [HOK.out]
  clear k5 HOK
  go_enter Tryz.func141,Tryz.ntmps141
  go_wp2_with fail
  refine (need_any true _).mono ?_
  rintro e w2 ⟨rfl,he⟩
  simp only [if_true] at he
  subst he
  go_wp2_with fail
  go_loopg [3,19] (nL j) (fun g o i wr=>∃ (k:Nat) (xs:List Value),g=nL j - k∧k≤nL j∧i=.int .i64 k∧Hid (Below (w.heap.size+1) (w.alloc (.cells #[.int .i64 (kindOf j),.int .i64 (nOf j),.string (sOf j),.slice La (nL j) Lc,.slice Ka (nK j) Kc] 36)) wr)∧Hid (Bld (FilE w0 m) 1 70 (w.heap.size+1) o ((elts j).take k) xs wr)∧Hid (allL (okFil m) j k=true))
  case atStart=>exact ⟨0,[],rfl,Nat.zero_le _,rfl,Below.refl _ _,Bld.nil _ _ _ _ _,rfl⟩
  case round =>
   obtain ⟨k,xs,rfl,hk,rfl,HB,HL,HN⟩:=hrel
   obtain ⟨q0,q1,q2,q3,q4,hz,hbw⟩:=box_facts HB.out
   have Hbr:=hid (hb0.trans (hbw.mono hb0.size))
   have Hbw:=hid hbw
   clear hbw
   by_cases hlt:k<nL j
   ·obtain ⟨bb,oo,A,B,C,D,rfl,hbl,p0,p1,p2,p3,p4,Ha⟩:=Hel.out.shape Hbr.out k hlt
    have HBi:Hid (Below wr.heap.size wr (wr.alloc (.cells #[.int .i64 (kindOf (elt j k)),.int .i64 (nOf (elt j k)),.string (sOf (elt j k)),.slice A (nL (elt j k)) B,.slice C (nK (elt j k)) D] 36))):=(Below.refl _ _).alloc (Nat.le_refl _) _
    have HC:=hid (HIh.out m _ (elt j k) (wr.alloc (.cells #[.int .i64 (kindOf (elt j k)),.int .i64 (nOf (elt j k)),.string (sOf (elt j k)),.slice A (nL (elt j k)) B,.slice C (nK (elt j k)) D] 36)) (by omega) Ha.out (by omega) (HKj.out.elt hlt) (Hbr.out.trans (HBi.out.mono Hbr.out.size)) (HT.out _ (Hbw.out.trans (HBi.out.mono Hbw.out.size))))
    have HA:Hid (allL (okFil m) j (k+1)=okFil m (elt j k)):=by show _=_;rw [allL,HN.out];simp
    have HA2:Hid (okFil m (elt j k)=false→allL (okFil m) j (nL j)=false):=fun h=>allL_at hlt h
    have HTk:=hid (elts_take hlt)
    have hxl:((elts j).take k).length=k:=by rw [List.length_take,elts_len];omega
    go_wp2_with fail
    refine HC.out.mono ?_
    rintro e w3 ⟨b3,⟨hok,fv,rfl,ht⟩ | ⟨hok,rfl⟩⟩
    ·obtain ⟨A6,c6,rfl⟩:=ht.shape
     have HA3:=hid (HA.out.trans hok)
     have HTt:=hid ht
     have Hb3:=hid (HBi.out.trans (b3.mono HBi.out.size))
     have HB4:Hid (Below w3.heap.size w3 (w3.alloc (.cells #[.slice A6 (nK (elt j k)) c6] 70))):=(Below.refl _ _).alloc (Nat.le_refl _) _
     have HL4:=hid ((HL.out.keep (filE_moves w0 m) Hb3.out).keep (filE_moves w0 m) HB4.out)
     have HSrc:Hid (Src Tryz.prog 1 202 (.slice (some ⟨w3.heap.size,0,none⟩) 1 1) 1 [.slice A6 (nK (elt j k)) c6] (w3.alloc (.cells #[.slice A6 (nK (elt j k)) c6] 70))):=Src.ofSlice _ Tryz.underlying202 ⟨w3.heap.size,0,none⟩ 1 1 [.slice A6 (nK (elt j k)) c6] (by simp) (World.news_of_block (heap_alloc_new w3 _)) (by simp [Value.oneCell'])
     have hlo:w.heap.size+1≤(w3.alloc (.cells #[.slice A6 (nK (elt j k)) c6] 70)).heap.size:=by have:=Hb3.out.size;simp;omega
     have HX6:Hid (∀ b,newB (wr.alloc (.cells #[.int .i64 (kindOf (elt j k)),.int .i64 (nOf (elt j k)),.string (sOf (elt j k)),.slice A (nL (elt j k)) B,.slice C (nK (elt j k)) D] 36)) w3 b→wr.heap.size≤b∧b<w3.heap.size):=fun b hb=>⟨by have:=hb.1;simp at this;omega,hb.2⟩
     clear b3 hok ht HC HA HA2
     go_wp2_with (at_builtin;refine wpList_append_src _ rfl (.tmp 23) (.tmp 26) 202 202 rfl (w.heap.size+1) 70 iF _ 1 24 Tryz.underlying202 hiF zF0 zF1 zF2 rfl u3 ((elts j).take k).length xs rfl HL4.out.row (.slice (some ⟨w3.heap.size,0,none⟩) 1 1) 1 [.slice A6 (nK (elt j k)) c6] rfl HSrc.out (by unfold maxLen;omega) (by omega) hlo ?_;intro v' w6 hO6 hG6 hat6)
     have HL6:=hid (HL.out.grow (x:=elt j k) (cs:=[.slice A6 (nK (elt j k)) c6]) (filE_moves w0 m) (Hb3.out.trans (HB4.out.mono Hb3.out.size)) rfl (filE_moves w0 m _ _ _ _ _ _ ⟨_,rfl,HTt.out⟩ (fun b hb=>⟨HB4.out.block b hb.2,hb⟩)) (fun b hb=>⟨(HX6.out b hb).1,Nat.lt_of_lt_of_le hb.2 HB4.out.size⟩) (by omega) hO6 hG6 hat6)
     have HB6:=hid (below_grown ((HB.out.trans (Hb3.out.mono (by omega))).trans (HB4.out.mono (by have:=Hb3.out.size;omega))) HL4.out.row (Nat.le_refl _) (by omega) hG6)
     rw [← HTk.out] at HL6
     clear hO6 hG6 hat6
     go_wp2_with fail
     go_roundg (nL j - (k+1))
     case rel=>exact ⟨k+1,_,rfl,by omega,by go_num,HB6,HL6,HA3⟩
     case measure=>omega
    ·have HA4:=hid (HA2.out hok)
     exact ⟨rfl,Hbw.out.trans ((HBi.out.trans (b3.mono HBi.out.size)).mono Hbw.out.size),.inr ⟨HA4.out,rfl⟩⟩
   ·obtain rfl:k=nL j:=by omega
    have HPl:Hid ((elts j).take (nL j)=elts j):=by show _=_;rw [List.take_of_length_le (by rw [elts_len];omega)]
    rw [HPl.out] at HL
    have HRow:Hid (RowFB wr (newB w wr) (FilB w0 wr (newB w wr) m) u3 j):=by
     obtain ⟨A,c,hv,hr⟩:=bld_one (w:=w) HL.out (by omega)
     rw [elts_len] at hv
     refine ⟨A,c,hv,by omega,fun i hi=>?_⟩
     obtain ⟨b,u,h1,h2,h3,h4⟩:=hr i (by rw [elts_len];exact hi)
     obtain ⟨u',h5,h6⟩:=HL.out.el i (by rw [elts_len];exact hi)
     have h7:=h3 u' h5
     subst h7
     rw [elts_get] at h6
     exact ⟨b,0,u',h1,h2,h4,FilB.move (fun b hb=>⟨rfl,by have:=hb.1;omega,hb.2.1⟩) m _ _ h6⟩
    go_wp2_with fail
    go_ret
    exact ⟨Hbw.out,.inl ⟨HN.out,_,rfl,HRow.out⟩⟩
 ·have HOK:Hid (((kindOf j==5&&decide (0<nL j))&&allL (okFil m) j (nL j))=false):=by
   show _=_
   by_cases k5:kindOf j=5
   ·rw [decide_eq_false (fun h=>hk ⟨k5,h⟩)];simp
   ·rw [beq_eq_false_iff_ne.2 k5];rfl
  unfold FsPost
  rw [HOK.out]
  by_cases k5:kindOf j=5
  ·have e5:(kindOf j==5)=true:=by simpa using k5
   have hd0:decide (0<nL j)=false:=decide_eq_false (fun h=>hk ⟨k5,h⟩)
   clear hk k5 HOK
   go_enter Tryz.func141,Tryz.ntmps141
   go_wp2_with fail
   refine (need_any false _).mono ?_
   rintro e w2 ⟨rfl,he⟩
   simp only [Bool.false_eq_true,if_false] at he
   subst he
   exact ⟨rfl,HB1.out,.inr ⟨trivial,rfl⟩⟩
  ·have e5:(kindOf j==5)=false:=by simpa using k5
   clear hk k5 HOK
   go_enter Tryz.func141,Tryz.ntmps141
   go_wp2_with fail
   refine (need_any false _).mono ?_
   rintro e w2 ⟨rfl,he⟩
   simp only [Bool.false_eq_true,if_false] at he
   subst he
   exact ⟨rfl,HB1.out,.inr ⟨trivial,rfl⟩⟩
end Go.Proofs.YtknakfpciccoaabGreatDoor
/- The walk of parseFilter. -/
namespace Go.Proofs.YtknakfpciccoaabGreatDoor
open Go.RowKit
theorem pcond_any {Tb:World→Prop} (hS:SplitSaid Tb) (hL:Lies Tb) (w0:Org) (f m:Nat) (ih:PfsSaid Tb w0 f) (x:ByteArray) (j:T) (v:Value) (w:World) (hx:x.size≤4000) (hm:f≤m+1) (ha:At0 w0 f v j) (hf:f≤16) (kj:okA j) (hb0:Below w0.w.heap.size w0.w w) (hT:Tb w) :
  Calls Tryz.prog 117 #[.string x,v] w (CPost w0 m x j w):=by
 by_cases gAnd:x=opAnd
 ·exact pcondAnd_any hL w0 f m ih x j v w hm ha hf kj hb0 hT gAnd
 by_cases gOr:x=opOr
 ·exact pcondOr_any hL w0 f m ih x j v w hm ha hf kj hb0 hT gOr
 by_cases gNor:x=opNor
 ·exact pcondNor_any hL w0 f m ih x j v w hm ha hf kj hb0 hT gNor
 exact pcondHas_any hS hL w0 f m x j v w hx ha hf kj hb0 hT ⟨gAnd,gOr,gNor⟩
set_option maxHeartbeats 4000000 in
set_option maxRecDepth 100000 in
theorem pf_step {Tb:World→Prop} (hS:SplitSaid Tb) (hL:Lies Tb) (w0:Org) (f:Nat) (ih:PfsSaid Tb w0 f):PfSaid Tb w0 (f+1):=by
 intro m v t w hm ha hf kj hb0 hT
 obtain ⟨m,rfl⟩:∃ x,m=x+1:=⟨m - 1,by omega⟩
 obtain ⟨iC,hiC,zC0,zC1,zC2⟩:=info_parts infoC
 obtain ⟨g1,La,Ka,Lc,Kc,hg1,rfl,hfj,hel,hnm⟩:=ha.open
 obtain rfl:g1=f:=by omega
 have HB1:Hid (Below w.heap.size w (w.alloc (.cells #[.int .i64 (kindOf t),.int .i64 (nOf t),.string (sOf t),.slice La (nL t) Lc,.slice Ka (nK t) Kc] 36))):=(Below.refl _ _).alloc (Nat.le_refl _) _
 have HT:Hid (∀ w':World,Below w.heap.size w w'→Tb w'):=fun w' hb=>hL w hT w w' hT hb
 have HPc:Hid (∀ (x:ByteArray) (j:T) (v:Value) (w:World),x.size≤4000→At0 w0 g1 v j→okA j→Below w0.w.heap.size w0.w w→Tb w→Calls Tryz.prog 117 #[.string x,v] w (CPost w0 m x j w)):=fun x j v w hx ha kj hb hT=>pcond_any hS hL w0 g1 m ih x j v w hx (by omega) ha (by omega) kj hb hT
 have HKj:=hid kj
 have Hel:=hid hel.out
 have Hnm:=hid hnm.out
 have hnk:=kj.small.1
 have hnl:=kj.small.2
 clear ha kj ih hel hnm hg1 hfj hT hL hS
 by_cases k6:kindOf t=6
 ·have e6:(kindOf t==6)=true:=by simpa using k6
  have HKL:=hid (HKj.out.names k6)
  have HOK:Hid (okFil (m+1) t=allN (fun i=>okC (okFil m) (nam t i) (elt t i)) (nK t)):=by show _=_;rw [okFil,e6];rfl
  clear k6
  go_enter Tryz.func85,Tryz.ntmps85
  go_wp2_with fail
  refine (need_any true _).mono ?_
  rintro e w2 ⟨rfl,he⟩
  simp only [if_true] at he
  subst he
  go_wp2_with fail
  go_loopg [3,13] (nK t) (fun g o i wr=>∃ (k:Nat) (xs:List Value),g=nK t - k∧k≤nK t∧i=.int .i64 k∧Hid (Below (w.heap.size+1) (w.alloc (.cells #[.int .i64 (kindOf t),.int .i64 (nOf t),.string (sOf t),.slice La (nL t) Lc,.slice Ka (nK t) Kc] 36)) wr)∧Hid (Bld (CondE w0 m) 1 128 (w.heap.size+1) o ((prs t).take k) xs wr)∧Hid (allN (fun i=>okC (okFil m) (nam t i) (elt t i)) k=true))
  case atStart=>exact ⟨0,[],rfl,Nat.zero_le _,rfl,Below.refl _ _,Bld.nil _ _ _ _ _,rfl⟩
  case round =>
   obtain ⟨k,xs,rfl,hk,rfl,HB,HL,HN⟩:=hrel
   obtain ⟨q0,q1,q2,q3,q4,hz,hbw⟩:=box_facts HB.out
   have Hbr:=hid (hb0.trans (hbw.mono hb0.size))
   have Hbw:=hid hbw
   clear hbw
   by_cases hlt:k<nK t
   ·have hltL:k<nL t:=by have:=HKL.out;omega
    obtain ⟨kb,ko,rfl,hkb,hks,hkc⟩:=Hnm.out.keep Hbr.out k hlt
    obtain ⟨bb,oo,A,B,C,D,rfl,hbl,p0,p1,p2,p3,p4,Ha⟩:=Hel.out.shape Hbr.out k hltL
    have HC:=hid (HPc.out (nam t k) (elt t k) _ wr (HKj.out.nam hlt) Ha.out (HKj.out.elt hltL) Hbr.out (HT.out _ Hbw.out))
    have HA:Hid (allN (fun i=>okC (okFil m) (nam t i) (elt t i)) (k+1)=okC (okFil m) (nam t k) (elt t k)):=by show _=_;rw [allN,HN.out];simp
    have HA2:Hid (okC (okFil m) (nam t k) (elt t k)=false→okFil (m+1) t=false):=fun h=>by rw [HOK.out];exact allN_no (p:=fun i=>okC (okFil m) (nam t i) (elt t i)) h _ hlt
    have HTk:=hid (prs_take hlt)
    have hxl:((prs t).take k).length=k:=by rw [List.length_take,prs_len];omega
    go_wp2_with fail
    refine HC.out.mono ?_
    rintro e w3 ⟨b3,⟨hok,fv,rfl,ht⟩ | ⟨hok,rfl⟩⟩
    ·obtain ⟨t6,v6,rfl⟩:=ht.shape
     have HA3:=hid (HA.out.trans hok)
     have HTt:=hid ht
     have Hb3:=hid b3
     have HB4:Hid (Below w3.heap.size w3 (w3.alloc (.cells #[.iface t6 v6] 128))):=(Below.refl _ _).alloc (Nat.le_refl _) _
     have HL4:=hid ((HL.out.keep (condE_moves w0 m) Hb3.out).keep (condE_moves w0 m) HB4.out)
     have HSrc:Hid (Src Tryz.prog 1 70 (.slice (some ⟨w3.heap.size,0,none⟩) 1 1) 1 [.iface t6 v6] (w3.alloc (.cells #[.iface t6 v6] 128))):=Src.ofSlice _ Tryz.underlying70 ⟨w3.heap.size,0,none⟩ 1 1 [.iface t6 v6] (by simp) (World.news_of_block (heap_alloc_new w3 _)) (by simp [Value.oneCell'])
     have hlo:w.heap.size+1≤(w3.alloc (.cells #[.iface t6 v6] 128)).heap.size:=by have:=Hb3.out.size;simp;omega
     clear b3 hok ht HC HA HA2
     go_wp2_with (at_builtin;refine wpList_append_src _ rfl (.tmp 18) (.tmp 26) 70 70 rfl (w.heap.size+1) 128 iC _ 1 16 Tryz.underlying70 hiC zC0 zC1 zC2 rfl u3 ((prs t).take k).length xs rfl HL4.out.row (.slice (some ⟨w3.heap.size,0,none⟩) 1 1) 1 [.iface t6 v6] rfl HSrc.out (by unfold maxLen;omega) (by omega) hlo ?_;intro v' w6 hO6 hG6 hat6)
     have HL6:=hid (HL.out.grow (x:=(nam t k,elt t k)) (cs:=[.iface t6 v6]) (condE_moves w0 m) (Hb3.out.trans (HB4.out.mono Hb3.out.size)) rfl (condE_moves w0 m _ _ _ _ _ _ ⟨_,rfl,HTt.out⟩ (fun b hb=>⟨HB4.out.block b hb.2,hb⟩)) (fun b hb=>⟨hb.1,Nat.lt_of_lt_of_le hb.2 HB4.out.size⟩) (by omega) hO6 hG6 hat6)
     have HB6:=hid (below_grown ((HB.out.trans (Hb3.out.mono (by omega))).trans (HB4.out.mono (by have:=Hb3.out.size;omega))) HL4.out.row (Nat.le_refl _) (by omega) hG6)
     rw [← HTk.out] at HL6
     clear hO6 hG6 hat6
     go_wp2_with fail
     go_roundg (nK t - (k+1))
     case rel=>exact ⟨k+1,_,rfl,by omega,by go_num,HB6,HL6,HA3⟩
     case measure=>omega
    ·have HA4:=hid (HA2.out hok)
     exact ⟨rfl,Hbw.out.trans (b3.mono Hbw.out.size),.inr ⟨HA4.out,rfl⟩⟩
   ·obtain rfl:k=nK t:=by omega
    have HPl:Hid ((prs t).take (nK t)=prs t):=by show _=_;rw [List.take_of_length_le (by rw [prs_len];omega)]
    rw [HPl.out] at HL
    have HRow:Hid (FilB w0 wr (newB w wr) (m+1) u3 t):=by
     obtain ⟨A,c,hv,hr⟩:=bld_one (w:=w) HL.out (by omega)
     rw [prs_len] at hv
     refine ⟨A,c,hv,by omega,fun i hi=>?_⟩
     obtain ⟨b,u,h1,h2,h3,h4⟩:=hr i (by rw [prs_len];exact hi)
     obtain ⟨u',h5,h6⟩:=HL.out.el i (by rw [prs_len];exact hi)
     have h7:=h3 u' h5
     subst h7
     rw [prs_get] at h6
     have mv:∀ b,newX (w.heap.size+1) u3 wr b→wr.heap[b]?=wr.heap[b]?∧newB w wr b:=fun b hb=>⟨rfl,by have:=hb.1;omega,hb.2.1⟩
     exact ⟨b,0,u',h1,h2,h4,h6.move mv (FilB.move mv m)⟩
    have HOK2:=hid (HOK.out.trans HN.out)
    go_wp2_with fail
    go_ret
    exact ⟨Hbw.out,.inl ⟨HOK2.out,_,rfl,HRow.out⟩⟩
 ·have e6:(kindOf t==6)=false:=by simpa using k6
  have HOK:Hid (okFil (m+1) t=false):=by show _=_;rw [okFil,e6];rfl
  clear k6
  go_enter Tryz.func85,Tryz.ntmps85
  go_wp2_with fail
  refine (need_any false _).mono ?_
  rintro e w2 ⟨rfl,he⟩
  simp only [Bool.false_eq_true,if_false] at he
  subst he
  exact ⟨rfl,HB1.out,.inr ⟨HOK.out,rfl⟩⟩
theorem pf_any {Tb:World→Prop} (hS:SplitSaid Tb) (hL:Lies Tb) (w0:Org):∀ f,PfSaid Tb w0 f
 | 0=>fun _ _ _ _ _ h=>h.elim
 | 1=>pf_step hS hL w0 0 (fun _ _ _ _ _ h=>h.elim)
 | f+2=>pf_step hS hL w0 (f+1) (pfs_step hL w0 f (pf_any hS hL w0 f))
end Go.Proofs.YtknakfpciccoaabGreatDoor
