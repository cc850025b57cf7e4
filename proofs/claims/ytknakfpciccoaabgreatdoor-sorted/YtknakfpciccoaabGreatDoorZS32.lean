import Derived.Test.YtknakfpciccoaabGreatDoorZS31
import Derived.Test.YtknakfpciccoaabGreatDoorZS26
import Derived.Test.YtknakfpciccoaabGreatDoorZS23
import Derived.Deep.DeepCutAuto
import Derived.Test.YtknakfpciccoaabGreatDoorZS24
import Derived.Test.YtknakfpciccoaabGreatDoorZS16
import Derived.Test.YtknakfpciccoaabGreatDoorZS13
import Derived.Test.YtknakfpciccoaabGreatDoorZS18
import Derived.Lib.AppendZerosOnto
import Derived.Test.YtknakfpciccoaabGreatDoorZS30
/- Texts that are what is printed of a list of trees; of the stages of Sorted. -/
namespace Go.Proofs.YtknakfpciccoaabGreatDoor
open Go.RowKit
theorem joinL_app (g:T→List UInt8) (ts:List T) (t:T):∀ k,k≤ts.length→joinL g (mkT 5 0 ByteArray.empty (ts++[t]) []) k=joinL g (mkT 5 0 ByteArray.empty ts []) k
 | 0,_=>rfl
 | k+1,h=>by
  have e:elt (mkT 5 0 ByteArray.empty (ts++[t]) []) k=elt (mkT 5 0 ByteArray.empty ts []) k:=by
   rw [elt_mk,elt_mk,List.getD_eq_getElem?_getD,List.getD_eq_getElem?_getD,List.getElem?_append_left (by omega)]
  rw [joinL,joinL,joinL_app g ts t k (by omega),e]
structure RepL (f:Nat) (ts:List T) (u:ByteArray) (n:Nat):Prop where
 wr:u.data.toList=joinL (wrT f) (mkT 5 0 ByteArray.empty ts []) ts.length
 fit:∀ t ∈ ts,FitT (f+1) t
 good:∀ t ∈ ts,Good f t
 can:∀ t ∈ ts,canT f t=t
 size:u.size≤n
theorem RepL.one {f:Nat} {t:T} {s:ByteArray} {n:Nat} (h:Rep f t s n):RepL f [t] s n:=by
 refine ⟨?_,fun x hx=>?_,fun x hx=>?_,fun x hx=>?_,h.size⟩
 ·rw [h.wr]
  show _=([]++([]++wrT f t))
  simp
 ·obtain rfl:x=t:=by simpa using hx
  exact h.fit
 ·obtain rfl:x=t:=by simpa using hx
  exact h.good
 ·obtain rfl:x=t:=by simpa using hx
  exact h.can
theorem RepL.snoc {f:Nat} {ts:List T} {u:ByteArray} {n:Nat} (h:RepL f ts u n) (hne:ts≠[]) {t:T} {s:ByteArray} {m:Nat} (g:Rep f t s m) {u':ByteArray} (hu:u'.data.toList=u.data.toList++(44::s.data.toList)):RepL f (ts++[t]) u' (n+m+1):=by
 have hm:∀ x ∈ ts++[t],x ∈ ts∨x=t:=fun x hx=>by simpa using hx
 refine ⟨?_,fun x hx=>(hm x hx).elim (h.fit x) (fun e=>by rw [e];exact g.fit),fun x hx=>(hm x hx).elim (h.good x) (fun e=>by rw [e];exact g.good),fun x hx=>(hm x hx).elim (h.can x) (fun e=>by rw [e];exact g.can),?_⟩
 ·have hl:(ts++[t]).length=ts.length+1:=by simp
  have e:elt (mkT 5 0 ByteArray.empty (ts++[t]) []) ts.length=t:=by rw [elt_mk,List.getD_eq_getElem?_getD];simp
  have h0:¬ ts.length=0:=fun q=>hne (List.eq_nil_of_length_eq_zero q)
  rw [hu,h.wr,hl,joinL,joinL_app _ _ _ _ (Nat.le_refl _),if_neg h0,e,g.wr]
  rfl
 ·have h1:u'.size=u'.data.toList.length:=rfl
  have h2:u.size=u.data.toList.length:=rfl
  have h3:s.size=s.data.toList.length:=rfl
  have h4:=h.size
  have h5:=g.size
  rw [h1,hu]
  simp only [List.length_cons,List.length_append]
  omega
theorem canL_all {f:Nat} {ts:List T} (h:∀ t ∈ ts,canT f t=t):canT (f+1) (mkT 5 0 ByteArray.empty ts [])=mkT 5 0 ByteArray.empty ts []:=by
 show mkT 5 0 ByteArray.empty (ts.map (canT f)) []=_
 have:ts.map (canT f)=ts:=by
  conv=>rhs;rw [← List.map_id ts]
  exact List.map_congr_left h
 rw [this]
theorem RepL.list {f:Nat} {ts:List T} {u:ByteArray} {n:Nat} (h:RepL f ts u n) (hl:ts.length≤100) {s':ByteArray} (hs:s'.data.toList=91::(u.data.toList++[93])):Rep (f+1) (mkT 5 0 ByteArray.empty ts []) s' (n+2):=by
 have e:wrT (f+1) (mkT 5 0 ByteArray.empty ts [])=91::(joinL (wrT f) (mkT 5 0 ByteArray.empty ts []) (nL (mkT 5 0 ByteArray.empty ts []))++[93]):=rfl
 have hel:∀ i,i<ts.length→elt (mkT 5 0 ByteArray.empty ts []) i ∈ ts:=fun i hi=>by
  rw [elt_mk,List.getD_eq_getElem?_getD,List.getElem?_eq_getElem hi]
  exact List.getElem_mem hi
 refine ⟨?_,⟨fits_small (by omega) (by omega) _ _ hl (by simp),fun i hi=>?_,fun i hi=>?_⟩,.inr ⟨rfl,noText_mk _ _ _ _,fun i hi=>?_,.inl ⟨rfl,rfl⟩⟩,canL_all h.can,?_⟩
 ·rw [e,hs,h.wr,nL_mk]
 ·rw [nL_mk] at hi
  exact h.fit _ (hel i hi)
 ·rw [nK_mk] at hi;exact absurd hi (Nat.not_lt_zero i)
 ·rw [nL_mk] at hi
  exact h.good _ (hel i hi)
 ·have h1:s'.size=s'.data.toList.length:=rfl
  have h2:u.size=u.data.toList.length:=rfl
  have h4:=h.size
  rw [h1,hs]
  simp only [List.length_cons,List.length_append,List.length_nil]
  omega
def o1 (k:ByteArray) (t:T):T:=mkT 6 0 ByteArray.empty [t] [k]
def nSort:ByteArray:=⟨#[36,115,111,114,116]⟩
def nSkip:ByteArray:=⟨#[36,115,107,105,112]⟩
def nLimit:ByteArray:=⟨#[36,108,105,109,105,116]⟩
def nProject:ByteArray:=⟨#[36,112,114,111,106,101,99,116]⟩
theorem pln_names:Pln nSort∧Pln nSkip∧Pln nLimit∧Pln nProject∧Pln ⟨#[107]⟩:=⟨Pln.mk' (by kernel_rfl),Pln.mk' (by kernel_rfl),Pln.mk' (by kernel_rfl),Pln.mk' (by kernel_rfl),Pln.mk' (by kernel_rfl)⟩
theorem pln_pthB:((List.range 6).all fun k=>decide (quoL (pth k)=34::((pth k).data.toList++[34]))&&okS (pth k)&&decide ((pth k).size≤100))=true:=by kernel_rfl
theorem pln_pth {k:Nat} (h:k<6):Pln (pth k):=Pln.mk' (List.all_eq_true.1 pln_pthB k (List.mem_range.2 h))
theorem pth_10B:((List.range 6).all fun k=>decide ((pth k).size≤10))=true:=by kernel_rfl
theorem pth_10 {k:Nat} (h:k<6):(pth k).size≤10:=of_decide_eq_true (List.all_eq_true.1 pth_10B k (List.mem_range.2 h))
def srtT (k:Nat):T:=o1 nSort (o1 (pth k) (nT 1))
theorem srt_rep {k:Nat} (hk:k<6) (f:Nat) {s:ByteArray} (hs:s.data.toList=[123,34,36,115,111,114,116,34,58,123,34]++((pth k).data.toList++[34,58,49,125,125])):Rep (f+3) (srtT k) s 40:=by
 have h1:=nT_rep (n:=1) (by omega) (by omega) f
 have e1:(baL (Lib.itoa 1)).data.toList=[49]:=by kernel_rfl
 have h2:=h1.obj (pln_pth hk) (s':=baL (123::34::((pth k).data.toList++(34::58::((baL (Lib.itoa 1)).data.toList++[125]))))) (by simp [baL])
 have h3:=h2.obj pln_names.1 (s':=s) (by rw [hs,e1];simp [baL,nSort])
 exact h3.le (by have:=pth_10 hk;show _+5+5≤_;omega)
theorem skp_rep {n:Int} (h0:0≤n) (h1:n<30) (f:Nat) {s:ByteArray} (hs:s.data.toList=[123,34,36,115,107,105,112,34,58]++((baL (Lib.itoa n)).data.toList++[125])):Rep (f+2) (o1 nSkip (nT n)) s 30 :=
 ((nT_rep h0 h1 f).obj pln_names.2.1 (s':=s) (by rw [hs];simp [nSkip])).le (by show _+5+5≤_;omega)
theorem lim_rep {n:Int} (h0:0≤n) (h1:n<30) (f:Nat) {s:ByteArray} (hs:s.data.toList=[123,34,36,108,105,109,105,116,34,58]++((baL (Lib.itoa n)).data.toList++[125])):Rep (f+2) (o1 nLimit (nT n)) s 30 :=
 ((nT_rep h0 h1 f).obj pln_names.2.2.1 (s':=s) (by rw [hs];simp [nLimit])).le (by show _+6+5≤_;omega)
end Go.Proofs.YtknakfpciccoaabGreatDoor
/- The walk of $unwind, for a path of one step: what it takes. -/
namespace Go.Proofs.YtknakfpciccoaabGreatDoor
open Go.RowKit
end Go.Proofs.YtknakfpciccoaabGreatDoor
/- $unwind is a stage, for a path of one step; the stages $unwind, $match, $project, $skip, $limit are read. -/
namespace Go.Proofs.YtknakfpciccoaabGreatDoor
open Go.RowKit
end Go.Proofs.YtknakfpciccoaabGreatDoor
/- $project and $unwind are read. -/
namespace Go.Proofs.YtknakfpciccoaabGreatDoor
open Go.RowKit
theorem infoEx:(Tryz.prog.info? 175).map (fun i=>(i.zero,i.size,i.bytes))=some (some .nilIface,1,16):=by kernel_rfl
def ExE (Tb:World→Prop) (wB:World) (w:World) (X:Nat→Prop) (cs:List Value) (g:T→Int⊕T):Prop:=∃ ty q,cs=[.iface ty q]∧Sat wB w X (fun x=>ExprOk Tb x (.iface ty q) g)
theorem exE_moves (Tb:World→Prop) (wB:World):Moves (ExE Tb wB):=fun _ _ _ _ _ _ h hb=>by
 obtain ⟨ty,q,h1,h2⟩:=h
 exact ⟨ty,q,h1,h2.move hb⟩
theorem Bld.off {α:Type} {E:World→(Nat→Prop)→List Value→α→Prop} (hE:Moves E) {s:Nat} {e:TypeId} {base:Nat} {hv:Value} {l:List α} {xs:List Value} {wr w1:World} (h:Bld E s e base hv l xs wr) (hs:wr.heap.size≤w1.heap.size) (hb:∀ b,base≤b→b<wr.heap.size→w1.heap[b]?=wr.heap[b]?):Bld E s e base hv l xs w1 :=
 ⟨rowH_move h.row hb,fun i hi=>hE _ _ _ _ _ _ (h.el i hi) fun b hX=>⟨hb b hX.1 hX.2.1,hX.1,Nat.lt_of_lt_of_le hX.2.1 hs,hX.2.2⟩⟩
theorem bld_exprs {Tb:World→Prop} {wB:World} {base:Nat} {hv:Value} {gs:List (T→Int⊕T)} {xs:List Value} {w wr:World} (h:Bld (ExE Tb wB) 1 175 base hv gs xs wr) (hlo:w.heap.size≤base) (hn:gs.length≤1000000):∃ A c,hv=.slice A gs.length c∧Sat wB wr (newB w wr) (fun x=>ListOk Tb x (.slice A gs.length c) gs):=by
 have hrow:=h.row
 rcases h.row.2 with ⟨rfl,h0⟩ | ⟨g,cap,cur,rfl,hb0,hgb,_⟩
 ·exact ⟨none,0,by rw [h0],Sat.all fun w' _=>⟨none,0,rfl,hn,fun i hi=>by omega⟩⟩
 ·have hgl:=(Array.getElem?_eq_some_iff.1 hgb).1
  refine ⟨some ⟨g,0,none⟩,cap,rfl,newB w wr,fun b hb=>⟨hb,hb.2⟩,fun w' hw hy=>⟨_,_,rfl,hn,fun i hi=>?_⟩⟩
  obtain ⟨ty,q,hc,hs⟩:=h.el i hi
  have c0:=row_cell hrow (elC_get (r:=0) (by rw [hc];rfl) (by omega))
  have hgw:w'.heap[g]?=wr.heap[g]?:=hy g ⟨by omega,hgl⟩
  refine ⟨g,0,.iface ty q,rfl,get_lt hgl hgw,?_,?_⟩
  ·rw [cell_of hgw,Nat.zero_add];rw [Nat.mul_one,Nat.add_zero] at c0;exact c0
  ·obtain ⟨Y,h1,h2⟩:=hs
   exact h2 w' hw fun b hb=>hy b (newX_new hlo (h1 b hb).1)
structure PjB (b:Nat) (nl nk o:Value) (w:World):Prop where
 q3:w.cell? ⟨b,3,none⟩=some nl
 q4:w.cell? ⟨b,4,none⟩=some nk
 p0:w.cell? ⟨b+2,0,none⟩=some (.slice none 0 0)
 p1:w.cell? ⟨b+2,1,none⟩=some nk
 p2:w.cell? ⟨b+2,2,none⟩=some o
 pf:w.frozen? ⟨b+2,2,none⟩=false
 r0:w.cell? ⟨b+1,0,none⟩=some (.slice none 0 0)
 r1:w.cell? ⟨b+1,1,none⟩=some (.slice none 0 0)
 r2:w.cell? ⟨b+1,2,none⟩=some (.slice none 0 0)
 f0:w.frozen? ⟨b+1,0,none⟩=false
 f1:w.frozen? ⟨b+1,1,none⟩=false
 f2:w.frozen? ⟨b+1,2,none⟩=false
 lt:b+2<w.heap.size
theorem PjB.blocks {b:Nat} {nl nk o:Value} {w w':World} (h:PjB b nl nk o w) (h0:w'.heap[b]?=w.heap[b]?) (h1:w'.heap[b+1]?=w.heap[b+1]?) (h2:w'.heap[b+2]?=w.heap[b+2]?):PjB b nl nk o w' :=
 ⟨(cell_of h0 _).trans h.q3,(cell_of h0 _).trans h.q4,(cell_of h2 _).trans h.p0,(cell_of h2 _).trans h.p1,(cell_of h2 _).trans h.p2,(World.frozen?_of_block (a:=⟨b+2,2,none⟩) h2).trans h.pf,(cell_of h1 _).trans h.r0,(cell_of h1 _).trans h.r1,(cell_of h1 _).trans h.r2,(World.frozen?_of_block (a:=⟨b+1,0,none⟩) h1).trans h.f0,(World.frozen?_of_block (a:=⟨b+1,1,none⟩) h1).trans h.f1,(World.frozen?_of_block (a:=⟨b+1,2,none⟩) h1).trans h.f2,get_lt h.lt h2⟩
theorem PjB.stay {b:Nat} {nl nk o:Value} {w w':World} (h:PjB b nl nk o w) (hb:Below w.heap.size w w'):PjB b nl nk o w' :=
 h.blocks (hb.block b (by have:=h.lt;omega)) (hb.block (b+1) (by have:=h.lt;omega)) (hb.block (b+2) h.lt)
theorem PjB.set {b:Nat} {nl nk o:Value} {w:World} (h:PjB b nl nk o w) (u:Value):PjB b nl nk u (w.setCell ⟨b+2,2,none⟩ u):=by
 have e0:(w.setCell ⟨b+2,2,none⟩ u).heap[b]?=w.heap[b]?:=Below.heap_setCell _ _ _ _ (by simp)
 have e1:(w.setCell ⟨b+2,2,none⟩ u).heap[b+1]?=w.heap[b+1]?:=Below.heap_setCell _ _ _ _ (by simp)
 refine ⟨(cell_of e0 _).trans h.q3,(cell_of e0 _).trans h.q4,(set_other (.inr (by omega)) u).trans h.p0,(set_other (.inr (by omega)) u).trans h.p1,World.cell?_setCell_same w ⟨b+2,2,none⟩ u h.p2,?_,(cell_of e1 _).trans h.r0,(cell_of e1 _).trans h.r1,(cell_of e1 _).trans h.r2,(World.frozen?_of_block (a:=⟨b+1,0,none⟩) e1).trans h.f0,(World.frozen?_of_block (a:=⟨b+1,1,none⟩) e1).trans h.f1,(World.frozen?_of_block (a:=⟨b+1,2,none⟩) e1).trans h.f2,by rw [set_size];exact h.lt⟩
 have:=h.pf
 simpa [go_sem] using this
theorem PjB.grown {b:Nat} {nl nk o:Value} {w w':World} {base:Nat} {e:TypeId} {s n:Nat} {hv:Value} {xs:List Value} (h:PjB b nl nk o w) (hG:w.grownBy w' hv.ownBlock) (hr:w.ownsRow base e s hv n xs) (hb:b+3≤base:=by omega):PjB b nl nk o w':=by
 have hl:=h.lt
 have ne:∀ k,k<base→some k≠hv.ownBlock:=fun k hk e=>by
  have:=(own_lt2 hr e.symm).1
  omega
 exact h.blocks (hG.block b (by omega) (ne b (by omega))) (hG.block (b+1) (by omega) (ne (b+1) (by omega))) (hG.block (b+2) hl (ne (b+2) (by omega)))
def PjPost (Tb:World→Prop) (wB:World) (gs:List (T→Int⊕T)) (ks:List ByteArray) (w:World) (e:Ending) (w':World):Prop :=
 Below w.heap.size w w'∧∃ NA nc LA lc,e=.returned (.agg #[.slice none 0 0,.slice NA ks.length nc,.slice LA gs.length lc])∧Sat wB w' (newB w w') (fun x=>StrsAt x (.slice NA ks.length nc) ks∧ListOk Tb x (.slice LA gs.length lc) gs)
theorem Sat.sets {wB w W:World} {P:World→Prop} {b:Nat} {u0 u1 u2:Value} {wa:World} (h:Sat wB W (newB wa W) P) (hb:b<wa.heap.size) (hw:w.heap.size≤wa.heap.size):Sat wB (((W.setCell ⟨b,0,none⟩ u0).setCell ⟨b,1,none⟩ u1).setCell ⟨b,2,none⟩ u2) (newB w (((W.setCell ⟨b,0,none⟩ u0).setCell ⟨b,1,none⟩ u1).setCell ⟨b,2,none⟩ u2)) P :=
 h.move fun k hk=>by
  have h1:=hk.1
  refine ⟨(Below.heap_setCell _ _ _ _ (by simp;omega)).trans ((Below.heap_setCell _ _ _ _ (by simp;omega)).trans (Below.heap_setCell _ _ _ _ (by simp;omega))),by omega,?_⟩
  rw [set_size,set_size,set_size]
  exact hk.2
set_option maxHeartbeats 8000000 in
set_option maxRecDepth 100000 in
theorem pproj_any {Tb:World→Prop} (hL:Lies Tb) (t:T) (gs:List (T→Int⊕T)) (k6:kindOf t=6) (hl:nK t=gs.length) (h0:0<gs.length) (hn:gs.length≤100000) (hgs:∀ i,(hi:i<gs.length)→isOp (nam t i)=false∧PxSaid Tb (elt t i) gs[i])
  (v:Value) (wB w:World) (ha:At wB 13 v t) (hk:okA t) (hb0:Below wB.heap.size wB w) (hT:Tb w):Calls Tryz.prog 123 #[v] w (PjPost Tb wB gs (kOf t) w):=by
 obtain ⟨iX,hiX,zX0,zX1,zX2⟩:=info_parts infoEx
 obtain ⟨g1,La,Ka,Lc,Kc,hg1,rfl,hfj,hel,hnm⟩:=ha.open
 have hnL:nL t=nK t:=(hk.names k6).symm
 have HKj:=hid hk
 have Hel:=hid hel.out
 have Hnm:=hid hnm.out
 have HT:Hid (∀ w':World,Below w.heap.size w w'→Tb w'):=fun w' hb=>hL w hT w w' hT hb
 have HEs:=hid hgs
 have Hl:=hid hl
 have Hhn:=hid hn
 have hnk:nK t≤100000:=by omega
 have hnk0:0<nK t:=by omega
 have hnki:(0:Int)<(nK t:Int):=by omega
 have Hg1:=hid hg1
 have HNs:Hid (∀ (x:World) (X:Nat→Prop),Sat wB x X (fun x=>StrsAt x (.slice Ka (nK t) Kc) (kOf t))):=fun x X=>Sat.all fun w' hw=>(names_strs (Kc:=Kc) hnm.out hfj.m1).keep hw
 have HPx:Hid (∀ (j:T) (g:T→Int⊕T) (v:Value) (w':World),PxSaid Tb j g→At wB 13 v j→okA j→Below w.heap.size w w'→Calls Tryz.prog 148 #[v] w' (XpPost Tb wB g w')):=fun j g v w' h1 h2 h3 h4=>ppExpr_any hL j g h1 v wB w' h2 h3 (hb0.trans (h4.mono hb0.size)) (HT.out _ h4)
 have HB1:Hid (Below w.heap.size w (((w.alloc (.cells #[.int .i64 6,.int .i64 (nOf t),.string (sOf t),.slice La (nK t) Lc,.slice Ka (nK t) Kc] 36)).alloc (.cells #[.slice none 0 0,.slice none 0 0,.slice none 0 0] 168)).alloc (.cells #[.slice none 0 0,.slice Ka (nK t) Kc,.slice none 0 0] 168))):=(((Below.refl _ _).alloc (Nat.le_refl _) _).alloc (by simp) _).alloc (by simp;omega) _
 have HX1:Hid (PjB w.heap.size (.slice La (nK t) Lc) (.slice Ka (nK t) Kc) (.slice none 0 0) (((w.alloc (.cells #[.int .i64 6,.int .i64 (nOf t),.string (sOf t),.slice La (nK t) Lc,.slice Ka (nK t) Kc] 36)).alloc (.cells #[.slice none 0 0,.slice none 0 0,.slice none 0 0] 168)).alloc (.cells #[.slice none 0 0,.slice Ka (nK t) Kc,.slice none 0 0] 168))):=by
  show PjB _ _ _ _ _
  constructor<;>simp [go_sem]
 rw [k6,hnL]
 have HW1:Hid ((((w.alloc (.cells #[.int .i64 6,.int .i64 (nOf t),.string (sOf t),.slice La (nK t) Lc,.slice Ka (nK t) Kc] 36)).alloc (.cells #[.slice none 0 0,.slice none 0 0,.slice none 0 0] 168)).alloc (.cells #[.slice none 0 0,.slice Ka (nK t) Kc,.slice none 0 0] 168)).heap.size=w.heap.size+3):=by show _=_;simp
 clear ha hk hel hnm hfj hT hL hgs hl hn hg1
 go_enter Tryz.func123,Tryz.ntmps123
 go_wp2_with fail
 refine (needP_any _).mono ?_
 rintro e w2 ⟨rfl,rfl⟩
 go_wp2_with fail
 generalize ((w.alloc (.cells #[.int .i64 6,.int .i64 (nOf t),.string (sOf t),.slice La (nK t) Lc,.slice Ka (nK t) Kc] 36)).alloc (.cells #[.slice none 0 0,.slice none 0 0,.slice none 0 0] 168)).alloc (.cells #[.slice none 0 0,.slice Ka (nK t) Kc,.slice none 0 0] 168)=W1 at HB1 HX1 HW1 ⊢
 go_loopg [22] (nK t) (fun g i wr=>∃ (k:Nat) (xs:List Value) (o:Value),g=nK t - k∧k≤nK t∧i=.int .i64 k∧Hid (Below w.heap.size w wr)∧Hid (PjB w.heap.size (.slice La (nK t) Lc) (.slice Ka (nK t) Kc) o wr)∧Hid (Bld (ExE Tb wB) 1 175 (w.heap.size+3) o (gs.take k) xs wr)∧Hid (w.heap.size+3≤wr.heap.size))
 case atStart=>exact ⟨0,[],_,rfl,Nat.zero_le _,rfl,HB1,HX1,Bld.nil _ _ _ _ _,(by show _≤_;rw [HW1.out];exact Nat.le_refl _)⟩
 case round =>
  have HW1s:=hid HW1.out
  clear HB1 HX1 HW1
  obtain ⟨k,xs,o,rfl,hk,rfl,HB,HX,HL,HWr⟩:=hrel
  have Hbr:=hid (hb0.trans (HB.out.mono hb0.size))
  by_cases hlt:k<nK t
  ·have hltL:k<nL t:=by omega
   have hlte:k<gs.length:=by have:=Hl.out;omega
   obtain ⟨kb,ko,rfl,hkb,hks,hkc⟩:=Hnm.out.keep Hbr.out k hlt
   obtain ⟨bb,oo,A,B,C,D,rfl,hbl,p0,p1,p2,p3,p4,Ha⟩:=Hel.out.shape Hbr.out k hltL
   obtain ⟨e2,e3⟩:=HEs.out k hlte
   have HO:=hid (isOperator_any (nam t k))
   rw [e2] at HO
   obtain ⟨j,hj⟩:∃ j,elt t k=j:=⟨_,rfl⟩
   have hkj:=HKj.out.elt hltL
   rw [hj] at p0 p1 p2 p3 p4 Ha hkj e3
   have HC:=hid (HPx.out j _ _ wr.drew e3 (Ha.out.up (show g1≤13 by have:=Hg1.out;omega)) hkj HB.out.drew)
   have HTk:Hid (gs.take (k+1)=gs.take k++[gs[k]]):=by show _=_;rw [List.take_add_one,List.getElem?_eq_getElem hlte];rfl
   have hxl:(gs.take k).length=k:=by rw [List.length_take];omega
   generalize gs[k]=gk at HC HTk
   obtain ⟨OA,oc,ho⟩:=row_slice HL.out.row
   rw [hxl] at ho
   subst ho
   have hq3:=HX.out.q3
   have hq2:=HX.out.p2
   have Hxl:=hid hxl
   have HRw:Hid (∀ w':World,Below wr.heap.size wr w'→Bld (ExE Tb wB) 1 175 (w.heap.size+3) (.slice OA k oc) (gs.take k) xs w'∧PjB w.heap.size (.slice (some ⟨bb,oo,none⟩) (nK t) Lc) (.slice (some ⟨kb,ko,none⟩) (nK t) Kc) (.slice OA k oc) w'):=fun w' hb=>⟨HL.out.keep (exE_moves Tb wB) hb,HX.out.stay hb⟩
   have HRo:Hid (∀ w':World,Below wr.heap.size wr w'→w'.ownsRow (w.heap.size+3) 175 1 (.slice OA k oc) k xs):=fun w' hb=>by
    have:=(HRw.out w' hb).1.row
    rw [hxl] at this
    exact this
   have Hdr:=hid (below_drew wr)
   have hlow:=HWr.out
   clear e2 e3 hj hkj Ha HL HX
   go_wp2_with fail
   refine (HO.out _).mono ?_
   rintro e wr ⟨rfl,rfl⟩
   go_wp2_with fail
   refine (needP_any _).mono ?_
   rintro e wr ⟨rfl,rfl⟩
   go_wp2_with fail
   go_region_law (first | (refine step_append_lies _ (by rfl) _ _ _ (by rfl) (w.heap.size+3) 175 iX _ 1 16 Tryz.underlying166 hiX zX0 zX1 zX2 rfl (by omega) (.slice OA k oc) k xs (by rfl) (HRo.out _ HBa4.out) ⟨w4.heap.size,0,none⟩ 1 1 [.iface t6 v6] (by rfl) (by rfl) (World.news_of_block (cs:=#[.iface t6 v6]) (t:=175) (fr:=(0,0)) (heap_alloc_new w4 _)) (by simp [Value.oneCell']) (by omega) (by unfold maxLen;omega) (by omega) hlo4 (w4.heap.size+1) (by simp) ?_;intro g cap w7 hown7 hgrow7 hat7 hlt7;have HX7:=hid ((HRw.out _ HBa4.out).2.grown hgrow7 (HRo.out _ HBa4.out));have hc7:=HX7.out.p2;have hf7:=HX7.out.pf) | (go_simp;go_wp2_with (go_at_call 148;refine HC.out.mono ?_;rintro e w4 ⟨b4,t6,v6,rfl,ht⟩;have Hb4:=hid (Hdr.out.trans b4);have Ht4:=hid ht;have HBa4:=hid (Hb4.out.trans (((Below.refl _ _).alloc (Nat.le_refl _) (.cells #[.iface t6 v6] 175)).mono Hb4.out.size));have hc4:=(HRw.out _ Hb4.out).2.p2;have hc4a:=(HRw.out _ HBa4.out).2.p2;have hlo4:w.heap.size+3≤(w4.alloc (.cells #[.iface t6 v6] 175)).heap.size:=(by have:=Hb4.out.size;simp;omega);clear b4 ht)))
   all_goals
    have HBx:Hid (Below w4.heap.size w4 (w4.alloc (.cells #[.iface t6 v6] 175))):=(Below.refl _ _).alloc (Nat.le_refl _) _
    have HL7:=hid (Bld.grow (x:=gk) (cs:=[.iface t6 v6]) (v':=.slice (some ⟨g,0,none⟩) (k+1) cap) (exE_moves Tb wB) (HRw.out wr (Below.refl _ _)).1 HBa4.out rfl (exE_moves Tb wB _ _ _ _ _ _ ⟨t6,v6,rfl,Ht4.out⟩ (fun b hb=>⟨HBx.out.block b hb.2,hb⟩)) (fun b hb=>⟨hb.1,Nat.lt_of_lt_of_le hb.2 HBx.out.size⟩) hlow (by rw [Hxl.out];exact hown7) hgrow7 (hat7.elim (fun h=>.inl h.symm) (fun h=>.inr (by rw [h];simp [Value.ownBlock]))))
    have HB7:=hid (below_grown (HB.out.trans (HBa4.out.mono HB.out.size)) (HRo.out _ HBa4.out) (by omega) (by have:=HB.out.size;omega) hgrow7)
    rw [← HTk.out] at HL7
    have HX8:=hid (HX7.out.set (.slice (some ⟨g,0,none⟩) (k+1) cap))
    have HB8:=hid (set_low HB7.out (b:=w.heap.size+2) (by omega) 2 (.slice (some ⟨g,0,none⟩) (k+1) cap))
    have HL8:=hid (HL7.out.off (exE_moves Tb wB) (w1:=w7.setCell ⟨w.heap.size+2,2,none⟩ (.slice (some ⟨g,0,none⟩) (k+1) cap)) (by rw [set_size];exact Nat.le_refl _) (fun b h1 h2=>Below.heap_setCell _ _ _ _ (by simp;omega)))
    have HW8:Hid (w.heap.size+3≤(w7.setCell ⟨w.heap.size+2,2,none⟩ (.slice (some ⟨g,0,none⟩) (k+1) cap)).heap.size):=by show _≤_;rw [set_size];have:=HX7.out.lt;omega
    clear hown7 hgrow7 hat7 hlt7 hc7 hf7 hc4 hc4a HX7 HL7 HB7 HC HO p0 p1 p2 p3 p4 hq2 hq3
    go_wp2_with fail
    go_roundg (nK t - (k+1))
    case rel=>exact ⟨k+1,_,_,rfl,by omega,by go_num,HB8,HX8,HL8,HW8⟩
    case measure=>omega
  ·obtain rfl:k=nK t:=by omega
   rw [Hl.out,List.take_length] at HL
   obtain ⟨A,c,rfl,hs⟩:=bld_exprs (w:=W1) HL.out (by have:=HW1s.out;omega) (by have:=Hhn.out;omega)
   have HS:=hid (Sat.sets (b:=w.heap.size+1) (u0:=.slice none 0 0) (u1:=.slice Ka (nK t) Kc) (u2:=.slice A gs.length c) (wa:=W1) (w:=w) ((HNs.out wr (newB W1 wr)).and hs) (by have:=HW1s.out;omega) (by have:=HW1s.out;omega))
   have HBf:=hid (set3_below HB.out (b:=w.heap.size+1) (by omega) (.slice none 0 0) (.slice Ka (nK t) Kc) (.slice A gs.length c))
   have hq0:=HX.out.p0
   have hq1:=HX.out.p1
   have hq2:=HX.out.p2
   have r0:=HX.out.r0
   have r1:=HX.out.r1
   have r2:=HX.out.r2
   have f0:=HX.out.f0
   have f1:=HX.out.f1
   have f2:=HX.out.f2
   clear hs HL
   go_wp2_with fail
   refine bodyPost_ret (v:=.agg #[.slice none 0 0,.slice Ka (nK t) Kc,.slice A gs.length c]) (by simp [results,Tryz.results123,go_sem, *]) rfl ?_
   exact ⟨HBf.out,Ka,Kc,A,c,rfl,HS.out⟩
end Go.Proofs.YtknakfpciccoaabGreatDoor
/- The stages $project and $unwind are read. -/
namespace Go.Proofs.YtknakfpciccoaabGreatDoor
open Go.RowKit
def opProject:ByteArray:=⟨#[36,112,114,111,106,101,99,116]⟩
set_option maxHeartbeats 8000000 in
set_option maxRecDepth 100000 in
theorem pstage_project {Tb:World→Prop} (hV:ValidSaid Tb) (hL:Lies Tb) (gs:List (T→Int⊕T)) (ks:List ByteArray) (hkl:ks.length≤1000000) (t j:T) (k6:kindOf t=6) (k1:nK t=1) (hj:elt t 0=j) (hx:nam t 0=opProject) (h:∀ (v:Value) (wB w:World),At wB 13 v j→okA j→Below wB.heap.size wB w→Tb w→Calls Tryz.prog 123 #[v] w (PjPost Tb wB gs ks w)):PsSaid Tb t (prjS gs ks):=by
 intro v wB w ha hk hb0 hT
 have l1:nL t=1:=by have:=hk.names k6;omega
 have hkj:okA j:=by rw [← hj];exact hk.elt (by omega)
 have Ha:=hid ha
 obtain ⟨g1,La,Ka,Lc,Kc,hg1,rfl,_,_,_⟩:=ha.open
 have HB1:Hid (Below w.heap.size w (w.alloc (.cells #[.int .i64 (kindOf t),.int .i64 (nOf t),.string (sOf t),.slice La (nL t) Lc,.slice Ka (nK t) Kc] 36))):=(Below.refl _ _).alloc (Nat.le_refl _) _
 have HC:=hid (ppOp_any t j opProject hj hx _ wB _ Ha.out hk k6 k1 (hb0.trans (HB1.out.mono hb0.size)))
 have HE:Hid (∀ (v:Value) (w':World),At wB 13 v j→Below w.heap.size w w'→Calls Tryz.prog 123 #[v] w' (PjPost Tb wB gs ks w')):=fun v w' h1 h2=>h v wB w' h1 hkj (hb0.trans (h2.mono hb0.size)) (hL w hT w w' hT h2)
 clear ha hk hg1 hb0 hT h k6 k1 l1 hkj Ha hj hx
 unfold opProject at *
 go_enter Tryz.func94,Tryz.ntmps94
 go_wp2_with fail
 refine HC.out.mono ?_
 rintro e w2 ⟨b2,A,B,C,D,rfl,hat⟩
 have HBa:Hid (Below w2.heap.size w2 (w2.alloc (.cells #[.int .i64 (kindOf j),.int .i64 (nOf j),.string (sOf j),.slice A (nL j) B,.slice C (nK j) D] 36))):=(Below.refl _ _).alloc (Nat.le_refl _) _
 have HB2:=hid (HB1.out.trans (b2.mono HB1.out.size))
 have HB3:=hid (HB2.out.trans (HBa.out.mono HB2.out.size))
 have HP:=hid (HE.out _ _ hat HB3.out)
 have HY:=hid (box_new w2 (.int .i64 (kindOf j)) (.int .i64 (nOf j)) (.string (sOf j)) (.slice A (nL j) B) (.slice C (nK j) D))
 clear b2 hat HC HE
 have y0:=HY.out.q0
 have y1:=HY.out.q1
 have y2:=HY.out.q2
 have y3:=HY.out.q3
 have y4:=HY.out.q4
 go_wp2_with fail
 refine HP.out.mono ?_
 rintro e w5 ⟨b5,NA,nc,LA,lc,rfl,hs⟩
 have HB5:=hid (HB3.out.trans (b5.mono HB3.out.size))
 have HS:=hid ((hs.later (wa:=w) (Below.refl _ _) HB3.out.size).mono (Q:=fun x=>StageOk Tb x (.iface 168 (.agg #[.slice none 0 0,.slice NA ks.length nc,.slice LA gs.length lc])) (prjS gs ks)) fun w' hw hh=>project_ok hV hL hh.2 hh.1 hkl)
 clear b5 hs HP y0 y1 y2 y3 y4
 go_wp2_with fail
 go_ret
 exact ⟨HB5.out,_,_,rfl,HS.out⟩
end Go.Proofs.YtknakfpciccoaabGreatDoor
/- The entries of $group are read. -/
namespace Go.Proofs.YtknakfpciccoaabGreatDoor
open Go.RowKit
end Go.Proofs.YtknakfpciccoaabGreatDoor
/- The walk of parseEntries. -/
namespace Go.Proofs.YtknakfpciccoaabGreatDoor
open Go.RowKit
end Go.Proofs.YtknakfpciccoaabGreatDoor
/- slices.Grow of texts; slices.Concat of two rows of texts. -/
namespace Go.Proofs.YtknakfpciccoaabGreatDoor
open Go.RowKit
end Go.Proofs.YtknakfpciccoaabGreatDoor
/- The walk of parseGroup. -/
namespace Go.Proofs.YtknakfpciccoaabGreatDoor
open Go.RowKit
end Go.Proofs.YtknakfpciccoaabGreatDoor
/- $group is a stage. -/
namespace Go.Proofs.YtknakfpciccoaabGreatDoor
open Go.RowKit
end Go.Proofs.YtknakfpciccoaabGreatDoor
/- Stages are read: $group. -/
namespace Go.Proofs.YtknakfpciccoaabGreatDoor
open Go.RowKit
end Go.Proofs.YtknakfpciccoaabGreatDoor
/- Summed, without the program: the groups, as documents. -/
namespace Go.Proofs.YtknakfpciccoaabGreatDoor
open Go.RowKit
theorem q6:(quoL ⟨#[95,105,100]⟩).length=5∧(quoL ⟨#[110]⟩).length=3∧(quoL ⟨#[115]⟩).length=3∧(quoL ⟨#[108]⟩).length=3∧(quoL ⟨#[102]⟩).length=3∧(quoL ⟨#[109]⟩).length=3:=⟨by kernel_rfl,by kernel_rfl,by kernel_rfl,by kernel_rfl,by kernel_rfl,by kernel_rfl⟩
end Go.Proofs.YtknakfpciccoaabGreatDoor
/- The pipeline of Summed: its text, its tree, what it is read as. -/
namespace Go.Proofs.YtknakfpciccoaabGreatDoor
open Go.RowKit
def dolT (s:ByteArray):T:=leafT 4 0 s
def dPth (k:Nat):ByteArray:=⟨#[36]⟩++pth k
theorem dpth_all:((List.range 6).all fun k=>isOp (dPth k)&&(decide ((dPth k).extract 1 (dPth k).size=pth k)&&(decide (1≤(dPth k).size)&&decide ((dPth k).size≤1000))))=true:=by kernel_rfl
theorem dpth {k:Nat} (h:k<6):isOp (dPth k)=true∧(dPth k).extract 1 (dPth k).size=pth k∧1≤(dPth k).size∧(dPth k).size≤1000:=by
 have:=List.all_eq_true.1 dpth_all k (List.mem_range.2 h)
 simpa only [Bool.and_eq_true,decide_eq_true_eq] using this
theorem px_path {Tb:World→Prop} (hA:StoreSaid Tb) (s x:ByteArray) (p:List ByteArray) (hop:isOp s=true) (hx:s.extract 1 s.size=x) (h1:1≤s.size) (h2:s.size≤1000) (hp:pathOk x=true) (hs:splitP x=p):PxSaid Tb (dolT s) (fun d=>.inr (orNull p d)):=by
 subst hs
 refine pexpr_text hA.lies (dolT s) _ rfl fun v wB w ha hk hb0 hT=>?_
 exact ptext_found hA.atoi hA.itoa hA.split hA.lies (dolT s) x v wB w ha hop hx h1 (by show s.size≤_;omega) hp hT
theorem px_pth {Tb:World→Prop} (hA:StoreSaid Tb) {k:Nat} (h:k<6):PxSaid Tb (dolT (dPth k)) (fun d=>.inr (orNull (pthP k) d)):=by
 obtain ⟨h1,h2,h3,h4⟩:=dpth h
 exact px_path hA (dPth k) (pth k) (pthP k) h1 h2 h3 h4 (pth_ok h) (pth_splits h)
end Go.Proofs.YtknakfpciccoaabGreatDoor
/- The pipelines of Sorted: their texts and trees, what they are read as, what they make. -/
namespace Go.Proofs.YtknakfpciccoaabGreatDoor
open Go.RowKit
theorem cat_list (a b:ByteArray):(a++b).data.toList=a.data.toList++b.data.toList:=by
 rw [ByteArray.data_append,Array.toList_append]
def quoP (k:Nat):ByteArray:=(⟨#[34]⟩++pth k)++⟨#[34]⟩
def soA:ByteArray:=⟨#[91,123,34,36,115,111,114,116,34,58,123]⟩
def soB:ByteArray:=⟨#[58,49,125,125,93]⟩
def soC:ByteArray:=⟨#[58,49,125,125,44,123,34,36,115,107,105,112,34,58]⟩
def soD:ByteArray:=⟨#[125,44,123,34,36,108,105,109,105,116,34,58]⟩
def soE:ByteArray:=⟨#[125,93]⟩
def soF:ByteArray:=⟨#[58,49,125,125,44,123,34,36,112,114,111,106,101,99,116,34,58,123,34,107,34,58,34,36]⟩
def soG:ByteArray:=⟨#[34,125,125,93]⟩
def so1 (k:Nat):ByteArray:=(soA++quoP k)++soB
def so2 (k:Nat) (a b:Int):ByteArray:=((((soA++quoP k)++soC)++baL (Lib.itoa a))++soD)++baL (Lib.itoa b)++soE
def so3 (k:Nat):ByteArray:=((soA++quoP k)++soF)++pth k++soG
def prjT (k:Nat):T:=o1 nProject (o1 ⟨#[107]⟩ (dolT (dPth k)))
def st1T (k:Nat):T:=mkT 5 0 ByteArray.empty [srtT k] []
def st2T (k:Nat) (a b:Int):T:=mkT 5 0 ByteArray.empty [srtT k,o1 nSkip (nT a),o1 nLimit (nT b)] []
def st3T (k:Nat):T:=mkT 5 0 ByteArray.empty [srtT k,prjT k] []
def srtB (k:Nat):ByteArray:=baL ([123,34,36,115,111,114,116,34,58,123,34]++((pth k).data.toList++[34,58,49,125,125]))
theorem so1_at {k:Nat} (hk:k<6):(tJ (so1 k)=st1T k∧eJ (so1 k)=0)∧(so1 k).size≤100:=by
 have h1:=srt_rep hk 8 (s:=srtB k) (baL_list _)
 have h2:=(RepL.one h1).list (by simp) (s':=so1 k) (by
  unfold so1 quoP
  simp only [cat_list,soA,soB,srtB,baL_list]
  simp)
 have:=h2.parse (by omega)
 exact ⟨⟨this.2,this.1⟩,Nat.le_trans h2.size (by omega)⟩
theorem so2_at {k:Nat} (hk:k<6) {a b:Int} (a0:0≤a) (a1:a<30) (b0:0≤b) (b1:b<30):(tJ (so2 k a b)=st2T k a b∧eJ (so2 k a b)=0)∧(so2 k a b).size≤200:=by
 have h1:=srt_rep hk 8 (s:=srtB k) (baL_list _)
 have h2:=skp_rep a0 a1 9 (s:=baL ([123,34,36,115,107,105,112,34,58]++((baL (Lib.itoa a)).data.toList++[125]))) (baL_list _)
 have h3:=lim_rep b0 b1 9 (s:=baL ([123,34,36,108,105,109,105,116,34,58]++((baL (Lib.itoa b)).data.toList++[125]))) (baL_list _)
 have h4:=(RepL.one h1).snoc (by simp) h2 (u':=baL ((srtB k).data.toList++(44::(baL ([123,34,36,115,107,105,112,34,58]++((baL (Lib.itoa a)).data.toList++[125]))).data.toList))) (baL_list _)
 have h5:=h4.snoc (by simp) h3 (u':=baL ((baL ((srtB k).data.toList++(44::(baL ([123,34,36,115,107,105,112,34,58]++((baL (Lib.itoa a)).data.toList++[125]))).data.toList))).data.toList++(44::(baL ([123,34,36,108,105,109,105,116,34,58]++((baL (Lib.itoa b)).data.toList++[125]))).data.toList))) (baL_list _)
 have h6:=h5.list (by simp) (s':=so2 k a b) (by
  unfold so2 quoP
  simp only [cat_list,soA,soC,soD,soE,srtB,baL_list]
  simp)
 have:=h6.parse (by omega)
 exact ⟨⟨this.2,this.1⟩,Nat.le_trans h6.size (by omega)⟩
theorem prj_repB:((List.range 6).all fun k=>decide (([123,34,36,112,114,111,106,101,99,116,34,58,123,34,107,34,58,34,36]++((pth k).data.toList++[34,125,125]))=wrT 11 (prjT k))&&fitB 12 (prjT k)&&(chkT 11 (prjT k) 1048576).isSome)=true:=by kernel_rfl
theorem prj_canB:(List.range 6).map (fun k=>canT 11 (prjT k))=(List.range 6).map prjT:=by kernel_rfl
def prjB (k:Nat):ByteArray:=baL ([123,34,36,112,114,111,106,101,99,116,34,58,123,34,107,34,58,34,36]++((pth k).data.toList++[34,125,125]))
theorem prj_rep {k:Nat} (hk:k<6):Rep 11 (prjT k) (prjB k) 40:=by
 have h1:=List.all_eq_true.1 prj_repB k (List.mem_range.2 hk)
 simp only [Bool.and_eq_true,decide_eq_true_eq] at h1
 obtain ⟨⟨a,b⟩,c⟩:=h1
 refine ⟨?_,fitB_fit _ _ b,?_,?_,?_⟩
 ·rw [prjB,baL_list];exact a
 ·rcases chk_says 11 (prjT k) 1048576 (by omega) with ⟨_,h,_⟩ | ⟨h,_⟩
  ·exact h
  ·rw [h] at c;cases c
 ·have h2:=congrArg (fun l=>l[k]?) prj_canB
  simpa [hk] using h2
 ·have h1:(prjB k).size=(prjB k).data.toList.length:=rfl
  have h2:(pth k).size=(pth k).data.toList.length:=rfl
  have:=pth_10 hk
  rw [h1,prjB,baL_list]
  simp only [List.length_append,List.length_cons,List.length_nil]
  omega
theorem so3_at {k:Nat} (hk:k<6):(tJ (so3 k)=st3T k∧eJ (so3 k)=0)∧(so3 k).size≤200:=by
 have h1:=srt_rep hk 8 (s:=srtB k) (baL_list _)
 have h4:=(RepL.one h1).snoc (by simp) (prj_rep hk) (u':=baL ((srtB k).data.toList++(44::(prjB k).data.toList))) (baL_list _)
 have h6:=h4.list (by simp) (s':=so3 k) (by
  unfold so3 quoP
  simp only [cat_list,soA,soF,soG,srtB,prjB,baL_list]
  simp)
 have:=h6.parse (by omega)
 exact ⟨⟨this.2,this.1⟩,Nat.le_trans h6.size (by omega)⟩
theorem ps_sort {Tb:World→Prop} (hA:StoreSaid Tb) {k:Nat} (hk:k<6):PsSaid Tb (srtT k) (srtS [(pthP k,1)]):=by
 refine pstage_sort hA.atoi hA.itoa hA.split hA.lies [(pthP k,1)] (srtT k) (o1 (pth k) (nT 1)) rfl rfl rfl rfl rfl rfl (by simp) (by simp) fun i hi=>?_
 obtain rfl:i=0:=by simp at hi;omega
 exact ⟨rfl,rfl,.inl rfl,pth_splits hk,pth_ok hk,by show (pth k).size≤_;have:=pth_10 hk;omega⟩
def keyE (k:Nat) (d:T):Int⊕T:=.inr (orNull (pthP k) d)
def so3G (k:Nat):List StgF:=[srtS [(pthP k,1)],prjS [keyE k] [⟨#[107]⟩]]
theorem so1_read {Tb:World→Prop} (hA:StoreSaid Tb) {k:Nat} (hk:k<6):PpSaid Tb (st1T k) [srtS [(pthP k,1)]]:=by
 intro v wB w ha hk' hb0 hT
 refine ppipe_any hA.lies (st1T k) _ rfl rfl (by simp) (fun i hi=>?_) v wB w ha hk' hb0 hT
 obtain rfl:i=0:=by simp at hi;omega
 exact ps_sort hA hk
theorem so2_read {Tb:World→Prop} (hA:StoreSaid Tb) {k:Nat} (hk:k<6) {a b:Int} (a0:0≤a) (b0:0≤b):PpSaid Tb (st2T k a b) [srtS [(pthP k,1)],skpS a,limS b]:=by
 intro v wB w ha hk' hb0 hT
 refine ppipe_any hA.lies (st2T k a b) _ rfl rfl (by simp) (fun i hi=>?_) v wB w ha hk' hb0 hT
 have hi':i<3:=hi
 match i,hi' with
 | 0,_=>exact ps_sort hA hk
 | 1,_=>exact pstage_skip (o1 nSkip (nT a)) (nT a) rfl rfl rfl rfl rfl a0
 | 2,_=>exact pstage_limit (o1 nLimit (nT b)) (nT b) rfl rfl rfl rfl rfl b0
theorem so3_read {Tb:World→Prop} (hA:StoreSaid Tb) {k:Nat} (hk:k<6):PpSaid Tb (st3T k) (so3G k):=by
 intro v wB w ha hk' hb0 hT
 refine ppipe_any hA.lies (st3T k) _ rfl rfl (by simp [so3G]) (fun i hi=>?_) v wB w ha hk' hb0 hT
 have hi':i<2:=hi
 match i,hi' with
 | 0,_=>exact ps_sort hA hk
 | 1,_ =>
  refine pstage_project hA.valid hA.lies [keyE k] [⟨#[107]⟩] (by decide) (prjT k) (o1 ⟨#[107]⟩ (dolT (dPth k))) rfl rfl rfl rfl fun v wB w ha hk'' hb0 hT=>?_
  refine pproj_any hA.lies (o1 ⟨#[107]⟩ (dolT (dPth k))) [keyE k] rfl rfl (by simp) (by simp) (fun i hi=>?_) v wB w ha hk'' hb0 hT
  obtain rfl:i=0:=by simp at hi;omega
  exact ⟨by kernel_rfl,px_pth hA hk⟩
end Go.Proofs.YtknakfpciccoaabGreatDoor
