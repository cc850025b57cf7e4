import Derived.Test.YtknakfpciccoaabGreatDoorZU27
import Derived.Test.YtknakfpciccoaabGreatDoorZU23
import Derived.Test.YtknakfpciccoaabGreatDoorZU18
import Derived.Test.YtknakfpciccoaabGreatDoorZU3
import Derived.Test.YtknakfpciccoaabGreatDoorZU2
import Derived.Test.YtknakfpciccoaabGreatDoorZU9
import Derived.Test.YtknakfpciccoaabGreatDoorZU20
import Derived.Test.YtknakfpciccoaabGreatDoorZU21
import Derived.Test.YtknakfpciccoaabGreatDoorZU10
/- $project and $unwind are read. -/
namespace Go.Proofs.YtknakfpciccoaabGreatDoor
open Go.RowKit
theorem infoEx:(Tryz.prog.info? 175).map (fun i=>(i.zero,i.size,i.bytes))=some (some .nilIface,1,16):=by kernel_rfl
def ExE (Tb:World→Prop) (wB:World) (w:World) (X:Nat→Prop) (cs:List Value) (g:T→Int⊕T):Prop:=∃ ty q,cs=[.iface ty q]∧Sat wB w X (fun x=>ExprOk Tb x (.iface ty q) g)
theorem exE_moves (Tb:World→Prop) (wB:World):Moves (ExE Tb wB):=fun _ _ _ _ _ _ h hb=>by
 obtain ⟨ty,q,h1,h2⟩:=h
 exact ⟨ty,q,h1,h2.move hb⟩
theorem Bld.off {α:Type} {E:World→(Nat→Prop)→List Value→α→Prop} (hE:Moves E) {s:Nat} {e:TypeId} {base:Nat} {hv:Value} {l:List α} {xs:List Value} {wr w1:World} (h:Bld E s e base hv l xs wr) (hs:wr.heap.size≤w1.heap.size) (hb:∀ b,base≤b→b<wr.heap.size→w1.heap[b]?=wr.heap[b]?):Bld E s e base hv l xs w1 :=
 ⟨rowH_move h.row hb,fun i hi=>hE _ _ _ _ _ _ (h.el i hi) fun b hX=>⟨hb b hX.1 hX.2.1,hX.1,Nat.lt_of_lt_of_le hX.2.1 hs,hX.2.2⟩⟩
theorem bld_exprs {Tb:World→Prop} {wB:World} {base:Nat} {hv:Value} {gs:List (T→Int⊕T)} {xs:List Value} {w wr:World} (h:Bld (ExE Tb wB) 1 175 base hv gs xs wr) (hlo:w.heap.size≤base) (hn:gs.length≤1000000):∃ A c,hv=.slice A gs.length c∧Sat wB wr (newB w wr) (fun x=>ListOk Tb x (.slice A gs.length c) gs):=by
 have hrow:=h.row
 rcases h.row.2 with ⟨rfl,h0⟩ | ⟨g,cap,cur,rfl,hb0,hgb,_⟩
 ·exact ⟨none,0,by rw [h0],Sat.all fun w' _=>⟨none,0,rfl,hn,fun i hi=>by omega⟩⟩
 ·have hgl:=(Array.getElem?_eq_some_iff.1 hgb).1
  refine ⟨some ⟨g,0,none⟩,cap,rfl,newB w wr,fun b hb=>⟨hb,hb.2⟩,fun w' hw hy=>⟨_,_,rfl,hn,fun i hi=>?_⟩⟩
  obtain ⟨ty,q,hc,hs⟩:=h.el i hi
  have c0:=row_cell hrow (elC_get (r:=0) (by rw [hc];rfl) (by omega))
  have hgw:w'.heap[g]?=wr.heap[g]?:=hy g ⟨by omega,hgl⟩
  refine ⟨g,0,.iface ty q,rfl,get_lt hgl hgw,?_,?_⟩
  ·rw [cell_of hgw,Nat.zero_add];rw [Nat.mul_one,Nat.add_zero] at c0;exact c0
  ·obtain ⟨Y,h1,h2⟩:=hs
   exact h2 w' hw fun b hb=>hy b (newX_new hlo (h1 b hb).1)
structure PjB (b:Nat) (nl nk o:Value) (w:World):Prop where
 q3:w.cell? ⟨b,3,none⟩=some nl
 q4:w.cell? ⟨b,4,none⟩=some nk
 p0:w.cell? ⟨b+2,0,none⟩=some (.slice none 0 0)
 p1:w.cell? ⟨b+2,1,none⟩=some nk
 p2:w.cell? ⟨b+2,2,none⟩=some o
 pf:w.frozen? ⟨b+2,2,none⟩=false
 r0:w.cell? ⟨b+1,0,none⟩=some (.slice none 0 0)
 r1:w.cell? ⟨b+1,1,none⟩=some (.slice none 0 0)
 r2:w.cell? ⟨b+1,2,none⟩=some (.slice none 0 0)
 f0:w.frozen? ⟨b+1,0,none⟩=false
 f1:w.frozen? ⟨b+1,1,none⟩=false
 f2:w.frozen? ⟨b+1,2,none⟩=false
 lt:b+2<w.heap.size
theorem PjB.blocks {b:Nat} {nl nk o:Value} {w w':World} (h:PjB b nl nk o w) (h0:w'.heap[b]?=w.heap[b]?) (h1:w'.heap[b+1]?=w.heap[b+1]?) (h2:w'.heap[b+2]?=w.heap[b+2]?):PjB b nl nk o w' :=
 ⟨(cell_of h0 _).trans h.q3,(cell_of h0 _).trans h.q4,(cell_of h2 _).trans h.p0,(cell_of h2 _).trans h.p1,(cell_of h2 _).trans h.p2,(World.frozen?_of_block (a:=⟨b+2,2,none⟩) h2).trans h.pf,(cell_of h1 _).trans h.r0,(cell_of h1 _).trans h.r1,(cell_of h1 _).trans h.r2,(World.frozen?_of_block (a:=⟨b+1,0,none⟩) h1).trans h.f0,(World.frozen?_of_block (a:=⟨b+1,1,none⟩) h1).trans h.f1,(World.frozen?_of_block (a:=⟨b+1,2,none⟩) h1).trans h.f2,get_lt h.lt h2⟩
theorem PjB.stay {b:Nat} {nl nk o:Value} {w w':World} (h:PjB b nl nk o w) (hb:Below w.heap.size w w'):PjB b nl nk o w' :=
 h.blocks (hb.block b (by have:=h.lt;omega)) (hb.block (b+1) (by have:=h.lt;omega)) (hb.block (b+2) h.lt)
theorem PjB.set {b:Nat} {nl nk o:Value} {w:World} (h:PjB b nl nk o w) (u:Value):PjB b nl nk u (w.setCell ⟨b+2,2,none⟩ u):=by
 have e0:(w.setCell ⟨b+2,2,none⟩ u).heap[b]?=w.heap[b]?:=Below.heap_setCell _ _ _ _ (by simp)
 have e1:(w.setCell ⟨b+2,2,none⟩ u).heap[b+1]?=w.heap[b+1]?:=Below.heap_setCell _ _ _ _ (by simp)
 refine ⟨(cell_of e0 _).trans h.q3,(cell_of e0 _).trans h.q4,(set_other (.inr (by omega)) u).trans h.p0,(set_other (.inr (by omega)) u).trans h.p1,World.cell?_setCell_same w ⟨b+2,2,none⟩ u h.p2,?_,(cell_of e1 _).trans h.r0,(cell_of e1 _).trans h.r1,(cell_of e1 _).trans h.r2,(World.frozen?_of_block (a:=⟨b+1,0,none⟩) e1).trans h.f0,(World.frozen?_of_block (a:=⟨b+1,1,none⟩) e1).trans h.f1,(World.frozen?_of_block (a:=⟨b+1,2,none⟩) e1).trans h.f2,by rw [set_size];exact h.lt⟩
 have:=h.pf
 simpa [go_sem] using this
theorem PjB.grown {b:Nat} {nl nk o:Value} {w w':World} {base:Nat} {e:TypeId} {s n:Nat} {hv:Value} {xs:List Value} (h:PjB b nl nk o w) (hG:w.grownBy w' hv.ownBlock) (hr:w.ownsRow base e s hv n xs) (hb:b+3≤base:=by omega):PjB b nl nk o w':=by
 have hl:=h.lt
 have ne:∀ k,k<base→some k≠hv.ownBlock:=fun k hk e=>by
  have:=(own_lt2 hr e.symm).1
  omega
 exact h.blocks (hG.block b (by omega) (ne b (by omega))) (hG.block (b+1) (by omega) (ne (b+1) (by omega))) (hG.block (b+2) hl (ne (b+2) (by omega)))
def PjPost (Tb:World→Prop) (wB:World) (gs:List (T→Int⊕T)) (ks:List ByteArray) (w:World) (e:Ending) (w':World):Prop :=
 Below w.heap.size w w'∧∃ NA nc LA lc,e=.returned (.agg #[.slice none 0 0,.slice NA ks.length nc,.slice LA gs.length lc])∧Sat wB w' (newB w w') (fun x=>StrsAt x (.slice NA ks.length nc) ks∧ListOk Tb x (.slice LA gs.length lc) gs)
theorem Sat.sets {wB w W:World} {P:World→Prop} {b:Nat} {u0 u1 u2:Value} {wa:World} (h:Sat wB W (newB wa W) P) (hb:b<wa.heap.size) (hw:w.heap.size≤wa.heap.size):Sat wB (((W.setCell ⟨b,0,none⟩ u0).setCell ⟨b,1,none⟩ u1).setCell ⟨b,2,none⟩ u2) (newB w (((W.setCell ⟨b,0,none⟩ u0).setCell ⟨b,1,none⟩ u1).setCell ⟨b,2,none⟩ u2)) P :=
 h.move fun k hk=>by
  have h1:=hk.1
  refine ⟨(Below.heap_setCell _ _ _ _ (by simp;omega)).trans ((Below.heap_setCell _ _ _ _ (by simp;omega)).trans (Below.heap_setCell _ _ _ _ (by simp;omega))),by omega,?_⟩
  rw [set_size,set_size,set_size]
  exact hk.2
set_option maxHeartbeats 8000000 in
set_option maxRecDepth 100000 in
theorem pproj_any {Tb:World→Prop} (hL:Lies Tb) (t:T) (gs:List (T→Int⊕T)) (k6:kindOf t=6) (hl:nK t=gs.length) (h0:0<gs.length) (hn:gs.length≤100000) (hgs:∀ i,(hi:i<gs.length)→isOp (nam t i)=false∧PxSaid Tb (elt t i) gs[i])
  (v:Value) (wB w:World) (ha:At wB 13 v t) (hk:okA t) (hb0:Below wB.heap.size wB w) (hT:Tb w):Calls Tryz.prog 123 #[v] w (PjPost Tb wB gs (kOf t) w):=by
 obtain ⟨iX,hiX,zX0,zX1,zX2⟩:=info_parts infoEx
 obtain ⟨g1,La,Ka,Lc,Kc,hg1,rfl,hfj,hel,hnm⟩:=ha.open
 have hnL:nL t=nK t:=(hk.names k6).symm
 have HKj:=hid hk
 have Hel:=hid hel.out
 have Hnm:=hid hnm.out
 have HT:Hid (∀ w':World,Below w.heap.size w w'→Tb w'):=fun w' hb=>hL w hT w w' hT hb
 have HEs:=hid hgs
 have Hl:=hid hl
 have Hhn:=hid hn
 have hnk:nK t≤100000:=by omega
 have hnk0:0<nK t:=by omega
 have hnki:(0:Int)<(nK t:Int):=by omega
 have Hg1:=hid hg1
 have HNs:Hid (∀ (x:World) (X:Nat→Prop),Sat wB x X (fun x=>StrsAt x (.slice Ka (nK t) Kc) (kOf t))):=fun x X=>Sat.all fun w' hw=>(names_strs (Kc:=Kc) hnm.out hfj.m1).keep hw
 have HPx:Hid (∀ (j:T) (g:T→Int⊕T) (v:Value) (w':World),PxSaid Tb j g→At wB 13 v j→okA j→Below w.heap.size w w'→Calls Tryz.prog 148 #[v] w' (XpPost Tb wB g w')):=fun j g v w' h1 h2 h3 h4=>ppExpr_any hL j g h1 v wB w' h2 h3 (hb0.trans (h4.mono hb0.size)) (HT.out _ h4)
 have HB1:Hid (Below w.heap.size w (((w.alloc (.cells #[.int .i64 6,.int .i64 (nOf t),.string (sOf t),.slice La (nK t) Lc,.slice Ka (nK t) Kc] 36)).alloc (.cells #[.slice none 0 0,.slice none 0 0,.slice none 0 0] 168)).alloc (.cells #[.slice none 0 0,.slice Ka (nK t) Kc,.slice none 0 0] 168))):=(((Below.refl _ _).alloc (Nat.le_refl _) _).alloc (by simp) _).alloc (by simp;omega) _
 have HX1:Hid (PjB w.heap.size (.slice La (nK t) Lc) (.slice Ka (nK t) Kc) (.slice none 0 0) (((w.alloc (.cells #[.int .i64 6,.int .i64 (nOf t),.string (sOf t),.slice La (nK t) Lc,.slice Ka (nK t) Kc] 36)).alloc (.cells #[.slice none 0 0,.slice none 0 0,.slice none 0 0] 168)).alloc (.cells #[.slice none 0 0,.slice Ka (nK t) Kc,.slice none 0 0] 168))):=by
  show PjB _ _ _ _ _
  constructor<;>simp [go_sem]
 rw [k6,hnL]
 have HW1:Hid ((((w.alloc (.cells #[.int .i64 6,.int .i64 (nOf t),.string (sOf t),.slice La (nK t) Lc,.slice Ka (nK t) Kc] 36)).alloc (.cells #[.slice none 0 0,.slice none 0 0,.slice none 0 0] 168)).alloc (.cells #[.slice none 0 0,.slice Ka (nK t) Kc,.slice none 0 0] 168)).heap.size=w.heap.size+3):=by show _=_;simp
 clear ha hk hel hnm hfj hT hL hgs hl hn hg1
 go_enter Tryz.func123,Tryz.ntmps123
 go_wp2_with fail
 refine (needP_any _).mono ?_
 rintro e w2 ⟨rfl,rfl⟩
 go_wp2_with fail
 generalize ((w.alloc (.cells #[.int .i64 6,.int .i64 (nOf t),.string (sOf t),.slice La (nK t) Lc,.slice Ka (nK t) Kc] 36)).alloc (.cells #[.slice none 0 0,.slice none 0 0,.slice none 0 0] 168)).alloc (.cells #[.slice none 0 0,.slice Ka (nK t) Kc,.slice none 0 0] 168)=W1 at HB1 HX1 HW1 ⊢
 go_loopg [22] (nK t) (fun g i wr=>∃ (k:Nat) (xs:List Value) (o:Value),g=nK t - k∧k≤nK t∧i=.int .i64 k∧Hid (Below w.heap.size w wr)∧Hid (PjB w.heap.size (.slice La (nK t) Lc) (.slice Ka (nK t) Kc) o wr)∧Hid (Bld (ExE Tb wB) 1 175 (w.heap.size+3) o (gs.take k) xs wr)∧Hid (w.heap.size+3≤wr.heap.size))
 case atStart=>exact ⟨0,[],_,rfl,Nat.zero_le _,rfl,HB1,HX1,Bld.nil _ _ _ _ _,(by show _≤_;rw [HW1.out];exact Nat.le_refl _)⟩
 case round =>
  have HW1s:=hid HW1.out
  clear HB1 HX1 HW1
  obtain ⟨k,xs,o,rfl,hk,rfl,HB,HX,HL,HWr⟩:=hrel
  have Hbr:=hid (hb0.trans (HB.out.mono hb0.size))
  by_cases hlt:k<nK t
  ·have hltL:k<nL t:=by omega
   have hlte:k<gs.length:=by have:=Hl.out;omega
   obtain ⟨kb,ko,rfl,hkb,hks,hkc⟩:=Hnm.out.keep Hbr.out k hlt
   obtain ⟨bb,oo,A,B,C,D,rfl,hbl,p0,p1,p2,p3,p4,Ha⟩:=Hel.out.shape Hbr.out k hltL
   obtain ⟨e2,e3⟩:=HEs.out k hlte
   have HO:=hid (isOperator_any (nam t k))
   rw [e2] at HO
   obtain ⟨j,hj⟩:∃ j,elt t k=j:=⟨_,rfl⟩
   have hkj:=HKj.out.elt hltL
   rw [hj] at p0 p1 p2 p3 p4 Ha hkj e3
   have HC:=hid (HPx.out j _ _ wr.drew e3 (Ha.out.up (show g1≤13 by have:=Hg1.out;omega)) hkj HB.out.drew)
   have HTk:Hid (gs.take (k+1)=gs.take k++[gs[k]]):=by show _=_;rw [List.take_add_one,List.getElem?_eq_getElem hlte];rfl
   have hxl:(gs.take k).length=k:=by rw [List.length_take];omega
   generalize gs[k]=gk at HC HTk
   obtain ⟨OA,oc,ho⟩:=row_slice HL.out.row
   rw [hxl] at ho
   subst ho
   have hq3:=HX.out.q3
   have hq2:=HX.out.p2
   have Hxl:=hid hxl
   have HRw:Hid (∀ w':World,Below wr.heap.size wr w'→Bld (ExE Tb wB) 1 175 (w.heap.size+3) (.slice OA k oc) (gs.take k) xs w'∧PjB w.heap.size (.slice (some ⟨bb,oo,none⟩) (nK t) Lc) (.slice (some ⟨kb,ko,none⟩) (nK t) Kc) (.slice OA k oc) w'):=fun w' hb=>⟨HL.out.keep (exE_moves Tb wB) hb,HX.out.stay hb⟩
   have HRo:Hid (∀ w':World,Below wr.heap.size wr w'→w'.ownsRow (w.heap.size+3) 175 1 (.slice OA k oc) k xs):=fun w' hb=>by
    have:=(HRw.out w' hb).1.row
    rw [hxl] at this
    exact this
   have Hdr:=hid (below_drew wr)
   have hlow:=HWr.out
   clear e2 e3 hj hkj Ha HL HX
   go_wp2_with fail
   refine (HO.out _).mono ?_
   rintro e wr ⟨rfl,rfl⟩
   go_wp2_with fail
   refine (needP_any _).mono ?_
   rintro e wr ⟨rfl,rfl⟩
   go_wp2_with fail
   go_region_law (first | (refine step_append_lies _ (by rfl) _ _ _ (by rfl) (w.heap.size+3) 175 iX _ 1 16 Tryz.underlying166 hiX zX0 zX1 zX2 rfl (by omega) (.slice OA k oc) k xs (by rfl) (HRo.out _ HBa4.out) ⟨w4.heap.size,0,none⟩ 1 1 [.iface t6 v6] (by rfl) (by rfl) (World.news_of_block (cs:=#[.iface t6 v6]) (t:=175) (fr:=(0,0)) (heap_alloc_new w4 _)) (by simp [Value.oneCell']) (by omega) (by unfold maxLen;omega) (by omega) hlo4 (w4.heap.size+1) (by simp) ?_;intro g cap w7 hown7 hgrow7 hat7 hlt7;have HX7:=hid ((HRw.out _ HBa4.out).2.grown hgrow7 (HRo.out _ HBa4.out));have hc7:=HX7.out.p2;have hf7:=HX7.out.pf) | (go_simp;go_wp2_with (go_at_call 148;refine HC.out.mono ?_;rintro e w4 ⟨b4,t6,v6,rfl,ht⟩;have Hb4:=hid (Hdr.out.trans b4);have Ht4:=hid ht;have HBa4:=hid (Hb4.out.trans (((Below.refl _ _).alloc (Nat.le_refl _) (.cells #[.iface t6 v6] 175)).mono Hb4.out.size));have hc4:=(HRw.out _ Hb4.out).2.p2;have hc4a:=(HRw.out _ HBa4.out).2.p2;have hlo4:w.heap.size+3≤(w4.alloc (.cells #[.iface t6 v6] 175)).heap.size:=(by have:=Hb4.out.size;simp;omega);clear b4 ht)))
   all_goals
    have HBx:Hid (Below w4.heap.size w4 (w4.alloc (.cells #[.iface t6 v6] 175))):=(Below.refl _ _).alloc (Nat.le_refl _) _
    have HL7:=hid (Bld.grow (x:=gk) (cs:=[.iface t6 v6]) (v':=.slice (some ⟨g,0,none⟩) (k+1) cap) (exE_moves Tb wB) (HRw.out wr (Below.refl _ _)).1 HBa4.out rfl (exE_moves Tb wB _ _ _ _ _ _ ⟨t6,v6,rfl,Ht4.out⟩ (fun b hb=>⟨HBx.out.block b hb.2,hb⟩)) (fun b hb=>⟨hb.1,Nat.lt_of_lt_of_le hb.2 HBx.out.size⟩) hlow (by rw [Hxl.out];exact hown7) hgrow7 (hat7.elim (fun h=>.inl h.symm) (fun h=>.inr (by rw [h];simp [Value.ownBlock]))))
    have HB7:=hid (below_grown (HB.out.trans (HBa4.out.mono HB.out.size)) (HRo.out _ HBa4.out) (by omega) (by have:=HB.out.size;omega) hgrow7)
    rw [← HTk.out] at HL7
    have HX8:=hid (HX7.out.set (.slice (some ⟨g,0,none⟩) (k+1) cap))
    have HB8:=hid (set_low HB7.out (b:=w.heap.size+2) (by omega) 2 (.slice (some ⟨g,0,none⟩) (k+1) cap))
    have HL8:=hid (HL7.out.off (exE_moves Tb wB) (w1:=w7.setCell ⟨w.heap.size+2,2,none⟩ (.slice (some ⟨g,0,none⟩) (k+1) cap)) (by rw [set_size];exact Nat.le_refl _) (fun b h1 h2=>Below.heap_setCell _ _ _ _ (by simp;omega)))
    have HW8:Hid (w.heap.size+3≤(w7.setCell ⟨w.heap.size+2,2,none⟩ (.slice (some ⟨g,0,none⟩) (k+1) cap)).heap.size):=by show _≤_;rw [set_size];have:=HX7.out.lt;omega
    clear hown7 hgrow7 hat7 hlt7 hc7 hf7 hc4 hc4a HX7 HL7 HB7 HC HO p0 p1 p2 p3 p4 hq2 hq3
    go_wp2_with fail
    go_roundg (nK t - (k+1))
    case rel=>exact ⟨k+1,_,_,rfl,by omega,by go_num,HB8,HX8,HL8,HW8⟩
    case measure=>omega
  ·obtain rfl:k=nK t:=by omega
   rw [Hl.out,List.take_length] at HL
   obtain ⟨A,c,rfl,hs⟩:=bld_exprs (w:=W1) HL.out (by have:=HW1s.out;omega) (by have:=Hhn.out;omega)
   have HS:=hid (Sat.sets (b:=w.heap.size+1) (u0:=.slice none 0 0) (u1:=.slice Ka (nK t) Kc) (u2:=.slice A gs.length c) (wa:=W1) (w:=w) ((HNs.out wr (newB W1 wr)).and hs) (by have:=HW1s.out;omega) (by have:=HW1s.out;omega))
   have HBf:=hid (set3_below HB.out (b:=w.heap.size+1) (by omega) (.slice none 0 0) (.slice Ka (nK t) Kc) (.slice A gs.length c))
   have hq0:=HX.out.p0
   have hq1:=HX.out.p1
   have hq2:=HX.out.p2
   have r0:=HX.out.r0
   have r1:=HX.out.r1
   have r2:=HX.out.r2
   have f0:=HX.out.f0
   have f1:=HX.out.f1
   have f2:=HX.out.f2
   clear hs HL
   go_wp2_with fail
   refine bodyPost_ret (v:=.agg #[.slice none 0 0,.slice Ka (nK t) Kc,.slice A gs.length c]) (by simp [results,Tryz.results123,go_sem, *]) rfl ?_
   exact ⟨HBf.out,Ka,Kc,A,c,rfl,HS.out⟩
end Go.Proofs.YtknakfpciccoaabGreatDoor
/- The stages $project and $unwind are read. -/
namespace Go.Proofs.YtknakfpciccoaabGreatDoor
open Go.RowKit
def opProject:ByteArray:=⟨#[36,112,114,111,106,101,99,116]⟩
set_option maxHeartbeats 8000000 in
set_option maxRecDepth 100000 in
theorem pstage_project {Tb:World→Prop} (hV:ValidSaid Tb) (hL:Lies Tb) (gs:List (T→Int⊕T)) (ks:List ByteArray) (hkl:ks.length≤1000000) (t j:T) (k6:kindOf t=6) (k1:nK t=1) (hj:elt t 0=j) (hx:nam t 0=opProject) (h:∀ (v:Value) (wB w:World),At wB 13 v j→okA j→Below wB.heap.size wB w→Tb w→Calls Tryz.prog 123 #[v] w (PjPost Tb wB gs ks w)):PsSaid Tb t (prjS gs ks):=by
 intro v wB w ha hk hb0 hT
 have l1:nL t=1:=by have:=hk.names k6;omega
 have hkj:okA j:=by rw [← hj];exact hk.elt (by omega)
 have Ha:=hid ha
 obtain ⟨g1,La,Ka,Lc,Kc,hg1,rfl,_,_,_⟩:=ha.open
 have HB1:Hid (Below w.heap.size w (w.alloc (.cells #[.int .i64 (kindOf t),.int .i64 (nOf t),.string (sOf t),.slice La (nL t) Lc,.slice Ka (nK t) Kc] 36))):=(Below.refl _ _).alloc (Nat.le_refl _) _
 have HC:=hid (ppOp_any t j opProject hj hx _ wB _ Ha.out hk k6 k1 (hb0.trans (HB1.out.mono hb0.size)))
 have HE:Hid (∀ (v:Value) (w':World),At wB 13 v j→Below w.heap.size w w'→Calls Tryz.prog 123 #[v] w' (PjPost Tb wB gs ks w')):=fun v w' h1 h2=>h v wB w' h1 hkj (hb0.trans (h2.mono hb0.size)) (hL w hT w w' hT h2)
 clear ha hk hg1 hb0 hT h k6 k1 l1 hkj Ha hj hx
 unfold opProject at *
 go_enter Tryz.func94,Tryz.ntmps94
 go_wp2_with fail
 refine HC.out.mono ?_
 rintro e w2 ⟨b2,A,B,C,D,rfl,hat⟩
 have HBa:Hid (Below w2.heap.size w2 (w2.alloc (.cells #[.int .i64 (kindOf j),.int .i64 (nOf j),.string (sOf j),.slice A (nL j) B,.slice C (nK j) D] 36))):=(Below.refl _ _).alloc (Nat.le_refl _) _
 have HB2:=hid (HB1.out.trans (b2.mono HB1.out.size))
 have HB3:=hid (HB2.out.trans (HBa.out.mono HB2.out.size))
 have HP:=hid (HE.out _ _ hat HB3.out)
 have HY:=hid (box_new w2 (.int .i64 (kindOf j)) (.int .i64 (nOf j)) (.string (sOf j)) (.slice A (nL j) B) (.slice C (nK j) D))
 clear b2 hat HC HE
 have y0:=HY.out.q0
 have y1:=HY.out.q1
 have y2:=HY.out.q2
 have y3:=HY.out.q3
 have y4:=HY.out.q4
 go_wp2_with fail
 refine HP.out.mono ?_
 rintro e w5 ⟨b5,NA,nc,LA,lc,rfl,hs⟩
 have HB5:=hid (HB3.out.trans (b5.mono HB3.out.size))
 have HS:=hid ((hs.later (wa:=w) (Below.refl _ _) HB3.out.size).mono (Q:=fun x=>StageOk Tb x (.iface 168 (.agg #[.slice none 0 0,.slice NA ks.length nc,.slice LA gs.length lc])) (prjS gs ks)) fun w' hw hh=>project_ok hV hL hh.2 hh.1 hkl)
 clear b5 hs HP y0 y1 y2 y3 y4
 go_wp2_with fail
 go_ret
 exact ⟨HB5.out,_,_,rfl,HS.out⟩
theorem Sat.strsU {wB w w':World} {v:Value} {l:List ByteArray} (h:StrsB w' (newB w w') v l):Sat wB w' (newB w w') (fun x=>StrsAt x v l) :=
 ⟨newB w w',fun _ hb=>⟨hb,hb.2⟩,fun w2 _ hy=>(h.move (X':=fun b=>b<w2.heap.size) fun b hb=>⟨hy b hb,get_lt hb.2 (hy b hb)⟩).at fun _ hb=>hb⟩
def opUnwind:ByteArray:=⟨#[36,117,110,119,105,110,100]⟩
set_option maxHeartbeats 8000000 in
set_option maxRecDepth 100000 in
theorem pstage_unwind {Tb:World→Prop} (hV:ValidSaid Tb) (hA:AtoiSaid Tb) (hI:ItoaSaid Tb) (hSp:SplitSaid Tb) (hL:Lies Tb) (t j:T) (k6:kindOf t=6) (k1:nK t=1) (hj:elt t 0=j) (hx:nam t 0=opUnwind) (k4:kindOf j=4) (y:ByteArray) (hs:splitP (sOf j)=[y]) (hp:pathOk (sOf j)=true) (hz:(sOf j).size≤1000):PsSaid Tb t (unwS y):=by
 intro v wB w ha hk hb0 hT
 have Ha:=hid ha
 obtain ⟨g1,La,Ka,Lc,Kc,hg1,rfl,_,_,_⟩:=ha.open
 have HB1:Hid (Below w.heap.size w (w.alloc (.cells #[.int .i64 (kindOf t),.int .i64 (nOf t),.string (sOf t),.slice La (nL t) Lc,.slice Ka (nK t) Kc] 36))):=(Below.refl _ _).alloc (Nat.le_refl _) _
 have HC:=hid (ppOp_any t j opUnwind hj hx _ wB _ Ha.out hk k6 k1 (hb0.trans (HB1.out.mono hb0.size)))
 have HE:Hid (∀ w':World,Below w.heap.size w w'→Calls Tryz.prog 124 #[.string (sOf j)] w' fun e w2=>Below w'.heap.size w' w2∧∃ v,e=.returned v∧StrsB w2 (newB w' w2) v (splitP (sOf j))):=fun w' h2=>ppPath_any hSp (sOf j) w' (by omega) hp (hL w hT w w' hT h2)
 rw [hs] at HE
 clear ha hk hg1 hb0 hT k6 k1 Ha hj hx hz hs hp hSp
 unfold opUnwind at *
 go_enter Tryz.func94,Tryz.ntmps94
 go_wp2_with fail
 refine HC.out.mono ?_
 rintro e w2 ⟨b2,A,B,C,D,rfl,hat⟩
 have HBa:Hid (Below w2.heap.size w2 (w2.alloc (.cells #[.int .i64 (kindOf j),.int .i64 (nOf j),.string (sOf j),.slice A (nL j) B,.slice C (nK j) D] 36))):=(Below.refl _ _).alloc (Nat.le_refl _) _
 have HB2:=hid (HB1.out.trans (b2.mono HB1.out.size))
 have HB3:=hid (HB2.out.trans (HBa.out.mono HB2.out.size))
 have HP:=hid (HE.out _ HB3.out)
 have HY:=hid (box_new w2 (.int .i64 (kindOf j)) (.int .i64 (nOf j)) (.string (sOf j)) (.slice A (nL j) B) (.slice C (nK j) D))
 rw [k4] at HY HP HB3 HBa ⊢
 clear b2 hat HC HE
 have y0:=HY.out.q0
 have y1:=HY.out.q1
 have y2:=HY.out.q2
 have y3:=HY.out.q3
 have y4:=HY.out.q4
 go_wp2_with fail
 refine (needP_any _).mono ?_
 rintro e w4 ⟨rfl,rfl⟩
 go_wp2_with fail
 refine HP.out.mono ?_
 rintro e w5 ⟨b5,pv,rfl,hst⟩
 have HB5:=hid (HB3.out.trans (b5.mono HB3.out.size))
 have Hst:Hid (Sat wB w5 (newB w w5) (fun x=>StrsAt x pv [y])):=(Sat.strsU hst).later (wa:=w) (Below.refl _ _) HB3.out.size
 obtain ⟨PA,pc,hpv,hz1,hz2⟩:=hst
 have hpv':pv=.slice PA 1 pc:=hpv
 subst hpv'
 have HS:=hid (Hst.out.mono (Q:=fun x=>StageOk Tb x (.iface 173 (.agg #[.slice none 0 0,.slice PA 1 pc])) (unwS y)) fun w' hw hh=>unwind_ok hV hA hI hL hh)
 clear b5 hpv hz1 hz2 HP y0 y1 y2 y3 y4
 go_wp2_with fail
 go_ret
 exact ⟨HB5.out,_,_,rfl,HS.out⟩
end Go.Proofs.YtknakfpciccoaabGreatDoor
/- A tree whose numbers fit lies in some world. -/
namespace Go.Proofs.YtknakfpciccoaabGreatDoor
open Go.RowKit
def FitT:Nat→T→Prop
 | 0,_=>False
 | f+1,t=>Fits t∧(∀ i,i<nL t→FitT f (elt t i))∧∀ i,i<nK t→(nam t i).size≤140737488355328
theorem lies_list {f:Nat} {t:T} (ih:∀ i,i<nL t→∀ w:World,∃ w' v,Below w.heap.size w w'∧At w' f v (elt t i)):∀ k,k≤nL t→∀ w:World,∃ (w':World) (xs:List Value),Below w.heap.size w w'∧xs.length=k*5∧∀ i,i<k→At w' f (fv xs i) (elt t i)
 | 0,_,w=>⟨w,[],Below.refl _ _,rfl,fun i hi=>absurd hi (Nat.not_lt_zero i)⟩
 | k+1,hk,w=>by
  obtain ⟨w1,xs,b1,hx,h1⟩:=lies_list ih k (by omega) w
  obtain ⟨w2,v,b2,ha⟩:=ih k (by omega) w1
  obtain ⟨g,La,Ka,Lc,Kc,rfl,rfl,_⟩:=ha.open
  refine ⟨w2,xs++[.int .i64 (kindOf (elt t k)),.int .i64 (nOf (elt t k)),.string (sOf (elt t k)),.slice La (nL (elt t k)) Lc,.slice Ka (nK (elt t k)) Kc],b1.trans (b2.mono b1.size),by rw [List.length_append,hx];simp;omega,fun i hi=>?_⟩
  by_cases e:i<k
  ·rw [fv_left hx e]
   exact At.keep b2 (h1 i e)
  ·obtain rfl:i=k:=by omega
   rw [fv_right hx]
   exact ha
theorem lies_some:∀ (f:Nat) (t:T),FitT f t→∀ w:World,∃ w' v,Below w.heap.size w w'∧At w' f v t
 | 0,_,h,_=>h.elim
 | f+1,t,⟨hf,he,hn⟩,w=>by
  obtain ⟨w1,xs,b1,hx,h1⟩:=lies_list (fun i hi=>lies_some f (elt t i) (he i hi)) (nL t) (Nat.le_refl _) w
  have bA:Below w1.heap.size w1 (w1.alloc (.cells xs.toArray 36)):=(Below.refl _ _).alloc (Nat.le_refl _) _
  have bB:Below (w1.heap.size+1) (w1.alloc (.cells xs.toArray 36)) ((w1.alloc (.cells xs.toArray 36)).alloc (.cells (namesV (kOf t)).toArray 9)):=(Below.refl _ _).alloc (by simp) _
  have r1:(w1.alloc (.cells xs.toArray 36)).ownsRow 0 36 5 (.slice (some ⟨w1.heap.size,0,none⟩) (nL t) (nL t)) (nL t) xs:=by
   have:=World.ownsRow_lit (base:=0) (e:=36) (size:=5) w1 xs.toArray (nL t) (Nat.zero_le _) (by have:=hf.l1;unfold maxLen;omega) (by simpa using hx)
   simpa using this
  have r2:((w1.alloc (.cells xs.toArray 36)).alloc (.cells (namesV (kOf t)).toArray 9)).ownsRow 0 9 1 (.slice (some ⟨w1.heap.size+1,0,none⟩) (nK t) (nK t)) (nK t) (namesV (kOf t)):=by
   have:=World.ownsRow_lit (base:=0) (e:=9) (size:=1) (w1.alloc (.cells xs.toArray 36)) (namesV (kOf t)).toArray (nK t) (Nat.zero_le _) (by have:=hf.m1;unfold maxLen;omega) (by simp [namesV,nK])
   simpa using this
  have hC:Below w1.heap.size w1 ((w1.alloc (.cells xs.toArray 36)).alloc (.cells (namesV (kOf t)).toArray 9)):=bA.trans (bB.mono (by omega))
  generalize ((w1.alloc (.cells xs.toArray 36)).alloc (.cells (namesV (kOf t)).toArray 9))=w3 at bB r2 hC
  refine ⟨w3,_,b1.trans (hC.mono b1.size),some ⟨w1.heap.size,0,none⟩,some ⟨w1.heap.size+1,0,none⟩,nL t,nK t,rfl,hf,fun i hi=>?_,fun i hi=>?_⟩
  ·have hc:∀ j,j<5→w3.cell? ⟨w1.heap.size,i*5+j,none⟩=some (cx xs (i*5+j)):=fun j hj=>(bB.cell (p:=⟨w1.heap.size,i*5+j,none⟩) (by simp)).trans (row_cell r1 (cx_some (by omega)))
   have hlt:w1.heap.size<w3.heap.size:=by have:=bB.size;simp at this;omega
   refine ⟨w1.heap.size,0,cx xs (i*5),cx xs (i*5+1),cx xs (i*5+2),cx xs (i*5+3),cx xs (i*5+4),rfl,hlt,(by rw [Nat.zero_add];exact hc 0 (by omega)),(by rw [Nat.zero_add];exact hc 1 (by omega)),(by rw [Nat.zero_add];exact hc 2 (by omega)),(by rw [Nat.zero_add];exact hc 3 (by omega)),(by rw [Nat.zero_add];exact hc 4 (by omega)),?_⟩
   exact At.keep hC (h1 i hi)
  ·have hi':i<(kOf t).length:=hi
   refine ⟨w1.heap.size+1,0,rfl,(r2.lt _ rfl).2,hn i hi,?_⟩
   rw [Nat.zero_add]
   refine row_cell r2 ?_
   simp [namesV,nam,List.getD_eq_getElem?_getD,hi']
theorem parse_tree {f:Nat} {t:T} (hf:FitT f t) (hg:Good 12 t) (hl:(wrT 12 t).length≤4000):eJ (baL (wrT 12 t))=0∧tJ (baL (wrT 12 t))=canT 12 t:=by
 obtain ⟨w,v,_,ha⟩:=lies_some f t hf default
 exact (parse_wr ha hg).2 hl
end Go.Proofs.YtknakfpciccoaabGreatDoor
/- Bytes and values, pure: what was read is written as it was. -/
namespace Go.Proofs.YtknakfpciccoaabGreatDoor
open Go.RowKit
end Go.Proofs.YtknakfpciccoaabGreatDoor
/- The walk of the program's Compare. -/
namespace Go.Proofs.YtknakfpciccoaabGreatDoor
open Go.RowKit
end Go.Proofs.YtknakfpciccoaabGreatDoor
/- The walk of the program's Decode, in one form. -/
namespace Go.Proofs.YtknakfpciccoaabGreatDoor
open Go.RowKit
end Go.Proofs.YtknakfpciccoaabGreatDoor
/- The walk of Texts: it returns true. -/
namespace Go.Proofs.YtknakfpciccoaabGreatDoor
open Go.RowKit
end Go.Proofs.YtknakfpciccoaabGreatDoor
/- document. -/
namespace Go.Proofs.YtknakfpciccoaabGreatDoor
open Go.RowKit
def docA (id:Int) (i:Nat):ByteArray:=((⟨#[123,34,95,105,100,34,58]⟩++baL (Lib.itoa id))++⟨#[44,34,97,34,58]⟩)++vt i
def docS (id:Int) (i:Nat) (o:Option Nat):ByteArray:=(match o with | none=>docA id i | some j=>(docA id i++⟨#[44,34,99,34,58]⟩)++vt j)++⟨#[125]⟩
theorem itoa30 {n:Int} (h0:0≤n) (h1:n<30):(baL (Lib.itoa n)).size≤2:=by
 obtain ⟨k,rfl⟩:∃ k:Nat,n=(k:Int):=⟨n.toNat,by omega⟩
 have h:((List.range 30).all fun k=>decide ((baL (Lib.itoa ((k:Nat):Int))).size≤2))=true:=by kernel_rfl
 exact of_decide_eq_true (List.all_eq_true.1 h k (List.mem_range.2 (by omega)))
set_option maxHeartbeats 4000000 in
set_option maxRecDepth 100000 in
theorem document_any {Tb:World→Prop} (hI:ItoaSaid Tb) (hL:Lies Tb) (id c d:Int) (w:World) (i0:0≤id) (i1:id<30) (c0:-9223372036854775808≤c) (c1:c≤9223372036854775807) (d0:-9223372036854775808≤d) (d1:d≤9223372036854775807) (hT:Tb w) :
  Calls Tryz.prog 20 #[.int .i64 id,.int .i64 c,.int .i64 d] w fun e w'=>Below w.heap.size w w'∧∃ i o,i<36∧(∀ j,o=some j→j<36)∧e=.returned (.string (docS id i o)):=by
 have HI:=hid (hI id w (by omega) (by omega) hT)
 have HT:Hid (∀ w':World,Below w.heap.size w w'→Tb w'):=fun w' hb=>hL w hT w w' hT hb
 have HV:Hid (∀ (c:Int) (w:World),-9223372036854775808≤c→c≤9223372036854775807→Tb w→Calls Tryz.prog 32 #[.int .i64 c] w (ValPostV w)):=fun c w h0 h1 ht=>value_any' hI hL c w h0 h1 ht
 have HP:Hid (∀ w,Calls Tryz.prog 11 #[.int .i64 d,.int .i64 3] w fun e w'=>e=.returned (.int .i64 (absZ d % 3))∧w'=w):=fun w=>pick_any d 3 w d0 d1 (by omega) (by omega)
 have HQ:Hid (-9223372036854775808≤d.tdiv 3∧d.tdiv 3≤9223372036854775807):=by
  show _∧_
  have h1:=Int.tdiv_mul_add_tmod d 3
  by_cases h:0≤d
  ·rw [Int.tdiv_eq_ediv_of_nonneg h];omega
  ·have:d.tdiv 3=-((-d).tdiv 3):=by rw [Int.neg_tdiv];simp
   rw [this,Int.tdiv_eq_ediv_of_nonneg (by omega)];omega
 have hq:IntKind.i64.wrap (d.tdiv 3)=d.tdiv 3:=by rw [IntKind.wrap_i64];have:=HQ.out;omega
 have Hz:=hid (itoa30 i0 i1)
 have Hc:=hid (And.intro c0 c1)
 clear hT hI hL
 obtain ⟨a1,e1,z1,r1⟩:=cat_run ⟨#[123,34,95,105,100,34,58]⟩ (baL (Lib.itoa id)) 7 (baL (Lib.itoa id)).size rfl rfl (by have:=Hz.out;omega)
 obtain ⟨a2,e2,z2,r2⟩:=cat_run a1 ⟨#[44,34,97,34,58]⟩ a1.size 5 rfl rfl (by have:=Hz.out;omega)
 have E2:=hid (And.intro e1 e2)
 have Z2:Hid (a2.size≤14):=by show _≤_;have:=Hz.out;omega
 clear e1 e2 z1 z2 Hz
 generalize hbi:baL (Lib.itoa id)=bi at HI r1 E2
 have Hbi:=hid hbi
 clear hbi
 go_enter Tryz.func20,Tryz.ntmps20
 go_wp2_with fail
 refine HI.out.mono ?_
 rintro e w1 ⟨rfl,b1⟩
 have HB1:=hid b1
 have HV1:=hid (HV.out c w1 Hc.out.1 Hc.out.2 (HT.out _ b1))
 clear b1 HI
 go_wp2_with fail
 refine HV1.out.mono ?_
 rintro e w2 ⟨sv,⟨i,hi,rfl⟩,rfl,b2⟩
 have HB2:=hid (HB1.out.trans (b2.mono HB1.out.size))
 have Hi:=hid hi
 obtain ⟨a3,e3,z3,r3⟩:=cat_run a2 (vt i) a2.size (vt i).size rfl rfl (by have:=Z2.out;have:=vt_le hi;omega)
 have E3:Hid (a3=docA id i):=by show _=_;rw [e3,E2.out.2,E2.out.1,← Hbi.out];rfl
 have Z3:Hid (a3.size≤24):=by show _≤_;have:=Z2.out;have:=vt_le hi;omega
 clear b2 hi HV1 e3 z3
 generalize vt i=si at *
 go_wp2_with fail
 refine (HP.out w2).mono ?_
 rintro e w3 ⟨rfl,rfl⟩
 by_cases hp:0<absZ d % 3
 ·have HV2:=hid (HV.out (d.tdiv 3) w3 HQ.out.1 HQ.out.2 (HT.out _ HB2.out))
  obtain ⟨a4,e4,z4,r4⟩:=cat_run a3 ⟨#[44,34,99,34,58]⟩ a3.size 5 rfl rfl (by have:=Z3.out;omega)
  have E4:=hid e4
  have Z4:Hid (a4.size≤29):=by show _≤_;have:=Z3.out;omega
  clear e4 z4
  go_wp2_with fail
  refine HV2.out.mono ?_
  rintro e w4 ⟨sv2,⟨j,hj,rfl⟩,rfl,b4⟩
  have HB4:=hid (HB2.out.trans (b4.mono HB2.out.size))
  have Hj:=hid hj
  obtain ⟨a5,e5,z5,r5⟩:=cat_run a4 (vt j) a4.size (vt j).size rfl rfl (by have:=Z4.out;have:=vt_le hj;omega)
  obtain ⟨a6,e6,z6,r6⟩:=cat_run a5 ⟨#[125]⟩ a5.size 1 rfl rfl (by have:=Z4.out;have:=vt_le hj;omega)
  have E6:Hid (a6=docS id i (some j)):=by show _=_;rw [e6,e5,E4.out,E3.out];rfl
  clear b4 hj HV2 e5 z5 e6 z6
  generalize vt j=sj at *
  go_wp2_with fail
  go_ret
  exact ⟨HB4.out,i,some j,Hi.out,fun j' hj'=>by cases hj';exact Hj.out,by rw [E6.out];rfl⟩
 ·obtain ⟨a6,e6,z6,r6⟩:=cat_run a3 ⟨#[125]⟩ a3.size 1 rfl rfl (by have:=Z3.out;omega)
  have E6:Hid (a6=docS id i none):=by show _=_;rw [e6,E3.out];rfl
  clear e6 z6
  go_wp2_with fail
  go_ret
  exact ⟨HB2.out,i,none,Hi.out,(fun j' hj'=>by cases hj'),by rw [E6.out];rfl⟩
end Go.Proofs.YtknakfpciccoaabGreatDoor
/- The documents that the statements make, as trees. -/
namespace Go.Proofs.YtknakfpciccoaabGreatDoor
open Go.RowKit
def docT (id:Int) (i:Nat) (o:Option Nat):T:=match o with
 | none=>mkT 6 0 ByteArray.empty [nT id,tv i] [⟨#[95,105,100]⟩,⟨#[97]⟩]
 | some j=>mkT 6 0 ByteArray.empty [nT id,tv i,tv j] [⟨#[95,105,100]⟩,⟨#[97]⟩,⟨#[99]⟩]
theorem vt_print11:((List.range 36).all fun i=>decide (wrT 11 (tv i)=(vt i).data.toList))=true:=by kernel_rfl
theorem vt_wr11 {i:Nat} (h:i<36):wrT 11 (tv i)=(vt i).data.toList:=of_decide_eq_true (List.all_eq_true.1 vt_print11 i (List.mem_range.2 h))
theorem nT_wr (n:Int):wrT 11 (nT n)=Lib.itoa n:=by
 rw [wrT_leaf (by show (3:Int)≠5;decide) (by show (3:Int)≠6;decide)]
 rfl
theorem ba_list {s:ByteArray} {l:List UInt8} (h:s.data.toList=l):s=baL l:=by
 apply (data_eq_iff _ _).1
 rw [h]
 simp [baL]
theorem app_list (a b:ByteArray):(a++b).data.toList=a.data.toList++b.data.toList:=by simp
theorem qId:quoL ⟨#[95,105,100]⟩=[34,95,105,100,34]:=by kernel_rfl
theorem qA:quoL ⟨#[97]⟩=[34,97,34]:=by kernel_rfl
theorem qC:quoL ⟨#[99]⟩=[34,99,34]:=by kernel_rfl
theorem docS_wr {id:Int} {i:Nat} {o:Option Nat} (hi:i<36) (ho:∀ j,o=some j→j<36):docS id i o=baL (wrT 12 (docT id i o)):=by
 apply ba_list
 cases o with
 | none =>
  have e:wrT 12 (docT id i none)=123::((([]++([]++(quoL ⟨#[95,105,100]⟩++(58::wrT 11 (nT id)))))++([44]++(quoL ⟨#[97]⟩++(58::wrT 11 (tv i)))))++[125]):=rfl
  rw [e,vt_wr11 hi,nT_wr,qId,qA]
  unfold docS docA
  simp only [app_list]
  simp [baL]
 | some j =>
  have e:wrT 12 (docT id i (some j))=123::(((([]++([]++(quoL ⟨#[95,105,100]⟩++(58::wrT 11 (nT id)))))++([44]++(quoL ⟨#[97]⟩++(58::wrT 11 (tv i)))))++([44]++(quoL ⟨#[99]⟩++(58::wrT 11 (tv j)))))++[125]):=rfl
  rw [e,vt_wr11 hi,vt_wr11 (ho j rfl),nT_wr,qId,qA,qC]
  unfold docS docA
  simp only [app_list]
  simp [baL]
def fitB:Nat→T→Bool
 | 0,_=>false
 | f+1,t=>(decide (-9223372036854775808≤kindOf t)&&decide (kindOf t≤9223372036854775807)&&decide (-9223372036854775808≤nOf t)&&decide (nOf t≤9223372036854775807)&&decide ((sOf t).size≤140737488355328)&&decide (nL t≤1759218604442)&&decide (nK t≤8796093022208))&&((List.range (nL t)).all fun i=>fitB f (elt t i))&&((List.range (nK t)).all fun i=>decide ((nam t i).size≤140737488355328))
theorem fitB_fit:∀ (f:Nat) (t:T),fitB f t=true→FitT f t
 | 0,_,h=>by cases h
 | f+1,t,h=>by
  unfold fitB at h
  simp only [Bool.and_eq_true,decide_eq_true_eq,List.all_eq_true,List.mem_range] at h
  obtain ⟨⟨⟨⟨⟨⟨⟨⟨h1,h2⟩,h3⟩,h4⟩,h5⟩,h6⟩,h7⟩,h8⟩,h9⟩:=h
  exact ⟨⟨h1,h2,h3,h4,h5,h6,h7⟩,fun i hi=>fitB_fit f _ (h8 i hi),h9⟩
theorem tv_fitB:((List.range 36).all fun i=>fitB 3 (tv i))=true:=by kernel_rfl
theorem tv_fit {i:Nat} (h:i<36):FitT 3 (tv i):=fitB_fit 3 _ (List.all_eq_true.1 tv_fitB i (List.mem_range.2 h))
theorem tv_good11B:((List.range 36).all fun i=>(chkT 11 (tv i) 1048576).isSome)=true:=by kernel_rfl
theorem tv_good11 {i:Nat} (h:i<36):Good 11 (tv i):=by
 have h1:=List.all_eq_true.1 tv_good11B i (List.mem_range.2 h)
 rcases chk_says 11 (tv i) 1048576 (by omega) with ⟨_,h2,_⟩ | ⟨h3,_⟩
 ·exact h2
 ·rw [h3] at h1;cases h1
theorem tv_can:(List.range 36).map (fun i=>canT 11 (tv i))=(List.range 36).map tv:=by kernel_rfl
theorem tv_can11 {i:Nat} (h:i<36):canT 11 (tv i)=tv i:=by
 have:=congrArg (fun l=>l[i]?) tv_can
 simpa [h] using this
theorem nT_good (n:Int) (m:Nat):Good m (nT n):=by
 have h:leafGood (nT n):=⟨rfl,rfl,.inr (.inr (.inl ⟨rfl,noText_mk 3 n [] []⟩))⟩
 cases m with
 | zero=>exact h
 | succ m=>exact .inl h
theorem nT_fit {n:Int} (h0:-9223372036854775808≤n) (h1:n≤9223372036854775807):FitT 3 (nT n) :=
 ⟨⟨by show -9223372036854775808≤(3:Int);omega,by show (3:Int)≤9223372036854775807;omega,h0,h1,by show (0:Nat)≤_;omega,by show (0:Nat)≤_;omega,by show (0:Nat)≤_;omega⟩,fun i hi=>absurd hi (Nat.not_lt_zero i),fun i hi=>absurd hi (Nat.not_lt_zero i)⟩
theorem docT_elt {id:Int} {i:Nat} {o:Option Nat} (ho:∀ j,o=some j→j<36) (hi:i<36) {k:Nat} (hk:k<nL (docT id i o)):elt (docT id i o) k=nT id∨∃ j,j<36∧elt (docT id i o) k=tv j:=by
 cases o with
 | none =>
  have hk':k<2:=hk
  match k,hk' with
  | 0,_=>exact .inl rfl
  | 1,_=>exact .inr ⟨i,hi,rfl⟩
 | some j =>
  have hk':k<3:=hk
  match k,hk' with
  | 0,_=>exact .inl rfl
  | 1,_=>exact .inr ⟨i,hi,rfl⟩
  | 2,_=>exact .inr ⟨j,ho j rfl,rfl⟩
theorem docT_good {id:Int} {i:Nat} {o:Option Nat} (hi:i<36) (ho:∀ j,o=some j→j<36):Good 12 (docT id i o):=by
 refine .inr ⟨by cases o<;>rfl,by cases o<;>exact noText_mk _ _ _ _,fun k hk=>?_,.inr ⟨by cases o<;>rfl,by cases o<;>rfl,by cases o<;>kernel_rfl,by cases o<;>kernel_rfl⟩⟩
 rcases docT_elt ho hi hk with e | ⟨j,hj,e⟩
 ·rw [e];exact nT_good id 11
 ·rw [e];exact tv_good11 hj
theorem docT_fit {id:Int} {i:Nat} {o:Option Nat} (h0:-9223372036854775808≤id) (h1:id≤9223372036854775807) (hi:i<36) (ho:∀ j,o=some j→j<36):FitT 4 (docT id i o):=by
 have hF:Fits (docT id i o):=by
  cases o with
  | none=>exact ⟨by show (-9223372036854775808:Int)≤6;omega,by show (6:Int)≤9223372036854775807;omega,by show (-9223372036854775808:Int)≤0;omega,by show (0:Int)≤9223372036854775807;omega,by show (0:Nat)≤_;omega,by show (2:Nat)≤_;omega,by show (2:Nat)≤_;omega⟩
  | some j=>exact ⟨by show (-9223372036854775808:Int)≤6;omega,by show (6:Int)≤9223372036854775807;omega,by show (-9223372036854775808:Int)≤0;omega,by show (0:Int)≤9223372036854775807;omega,by show (0:Nat)≤_;omega,by show (3:Nat)≤_;omega,by show (3:Nat)≤_;omega⟩
 refine ⟨hF,fun k hk=>?_,fun k hk=>?_⟩
 ·rcases docT_elt ho hi hk with e | ⟨j,hj,e⟩
  ·rw [e];exact nT_fit h0 h1
  ·rw [e];exact tv_fit hj
 ·cases o with
  | none =>
   have hk':k<2:=hk
   match k,hk' with
   | 0,_=>show (3:Nat)≤_;omega
   | 1,_=>show (1:Nat)≤_;omega
  | some j =>
   have hk':k<3:=hk
   match k,hk' with
   | 0,_=>show (3:Nat)≤_;omega
   | 1,_=>show (1:Nat)≤_;omega
   | 2,_=>show (1:Nat)≤_;omega
theorem docT_can {id:Int} {i:Nat} {o:Option Nat} (hi:i<36) (ho:∀ j,o=some j→j<36):canT 12 (docT id i o)=docT id i o:=by
 have hn:canT 11 (nT id)=nT id:=rfl
 cases o with
 | none =>
  show mkT 6 0 ByteArray.empty [canT 11 (nT id),canT 11 (tv i)] _=_
  rw [hn,tv_can11 hi];rfl
 | some j =>
  show mkT 6 0 ByteArray.empty [canT 11 (nT id),canT 11 (tv i),canT 11 (tv j)] _=_
  rw [hn,tv_can11 hi,tv_can11 (ho j rfl)];rfl
theorem docS_size {id:Int} {i:Nat} {o:Option Nat} (h0:0≤id) (h1:id<30) (hi:i<36) (ho:∀ j,o=some j→j<36):(docS id i o).size≤40:=by
 have h2:=itoa30 h0 h1
 have h3:=vt_le hi
 cases o with
 | none=>unfold docS docA;simp only [ByteArray.size_append];have:(⟨#[123,34,95,105,100,34,58]⟩:ByteArray).size=7:=rfl;have:(⟨#[44,34,97,34,58]⟩:ByteArray).size=5:=rfl;have:(⟨#[125]⟩:ByteArray).size=1:=rfl;omega
 | some j=>have h4:=vt_le (ho j rfl);unfold docS docA;simp only [ByteArray.size_append];have:(⟨#[123,34,95,105,100,34,58]⟩:ByteArray).size=7:=rfl;have:(⟨#[44,34,97,34,58]⟩:ByteArray).size=5:=rfl;have:(⟨#[44,34,99,34,58]⟩:ByteArray).size=5:=rfl;have:(⟨#[125]⟩:ByteArray).size=1:=rfl;omega
theorem doc_parse {id:Int} {i:Nat} {o:Option Nat} (h0:0≤id) (h1:id<30) (hi:i<36) (ho:∀ j,o=some j→j<36):eJ (docS id i o)=0∧tJ (docS id i o)=docT id i o:=by
 have hw:=docS_wr (id:=id) hi ho
 have hz:=docS_size h0 h1 hi ho
 rw [hw,baL_size] at hz
 have hp:=parse_tree (docT_fit (id:=id) (by omega) (by omega) hi ho) (docT_good hi ho) (by omega)
 rw [docT_can hi ho] at hp
 rw [hw]
 exact hp
end Go.Proofs.YtknakfpciccoaabGreatDoor
/- What the documents of the statements are: they may be inserted; their numbers. -/
namespace Go.Proofs.YtknakfpciccoaabGreatDoor
open Go.RowKit
theorem docT_isDoc (id:Int) (i:Nat) (o:Option Nat):isDoc (docT id i o)=true:=by cases o<;>kernel_rfl
theorem docT_id (id:Int) (i:Nat) (o:Option Nat):idT (docT id i o)=nT id:=by cases o<;>kernel_rfl
theorem tv_bytesB:((List.range 36).all fun i=>decide (bytesT 11 (tv i)≤100))=true:=by kernel_rfl
theorem tv_bytes {i:Nat} (h:i<36):bytesT 11 (tv i)≤100:=of_decide_eq_true (List.all_eq_true.1 tv_bytesB i (List.mem_range.2 h))
theorem nT_bytes (n:Int):bytesT 11 (nT n)=9:=by kernel_rfl
theorem docT_bytes {id:Int} {i:Nat} {o:Option Nat} (hi:i<36) (ho:∀ j,o=some j→j<36):bytesT 12 (docT id i o)≤300:=by
 have h1:=tv_bytes hi
 have h2:=nT_bytes id
 cases o with
 | none =>
  have e:bytesT 12 (docT id i none)=5+sumK (docT id i none) 2+(((0+bytesT 11 (nT id))+bytesT 11 (tv i))):=rfl
  have k:sumK (docT id i none) 2≤50:=by
   have:sumK (docT id i none) 2=sumK (docT 0 0 none) 2:=rfl
   rw [this];decide
  omega
 | some j =>
  have h3:=tv_bytes (ho j rfl)
  have e:bytesT 12 (docT id i (some j))=5+sumK (docT id i (some j)) 3+((((0+bytesT 11 (nT id))+bytesT 11 (tv i)))+bytesT 11 (tv j)):=rfl
  have k:sumK (docT id i (some j)) 3≤50:=by
   have:sumK (docT id i (some j)) 3=sumK (docT 0 0 (some 0)) 3:=rfl
   rw [this];decide
  omega
theorem docT_isV {id:Int} {i:Nat} {o:Option Nat} (hi:i<36) (ho:∀ j,o=some j→j<36):isV (docT id i o)=true:=(isV_iff _).2 ⟨docT_good hi ho,by have:=docT_bytes (id:=id) hi ho;omega⟩
theorem docT_small {id:Int} {i:Nat} {o:Option Nat} (hi:i<36) (ho:∀ j,o=some j→j<36):tooBig (docT id i o)=false:=by
 unfold tooBig
 rw [docT_isV hi ho]
 have h1:=encT_len 12 _ (docT_good (id:=id) hi ho)
 have h2:=docT_bytes (id:=id) hi ho
 have h3:(encS true (encT 12 (docT id i o))).size=(encT 12 (docT id i o)).length:=baL_size _
 rw [h3]
 simp
 omega
theorem doc_in {id:Int} {i:Nat} {o:Option Nat} (h0:0≤id) (h1:id<30) (hi:i<36) (ho:∀ j,o=some j→j<36):inErr (docS id i o)=none:=by
 obtain ⟨h2,h3⟩:=doc_parse h0 h1 hi ho
 unfold inErr
 rw [h2,h3,docT_isDoc,docT_small hi ho]
 simp
theorem nT_cmp (a b:Int):(cmpT 16 (nT a) (nT b)==0)=(a==b):=by
 have e:cmpT 16 (nT a) (nT b)=cmpI a b:=by
  have ka:kindOf (nT a)=3:=rfl
  have kb:kindOf (nT b)=3:=rfl
  rw [cmpT,ka,kb,if_neg (by simp),if_pos (.inr rfl)]
  rfl
 rw [e]
 by_cases h1:a<b
 ·rw [cmpI_lt h1,beq_eq_false_iff_ne.2 (by omega:a≠b)];rfl
 ·by_cases h2:b<a
  ·rw [cmpI_gt h2,beq_eq_false_iff_ne.2 (by omega:a≠b)];rfl
  ·obtain rfl:a=b:=by omega
   rw [cmpI_eq (Int.le_refl _) (Int.le_refl _)];simp
theorem doc_same (a b:Int) (i:Nat) (o:Option Nat):sameId (nT a) (docT b i o)=(b==a):=by
 unfold sameId
 rw [docT_id,nT_cmp]
end Go.Proofs.YtknakfpciccoaabGreatDoor
/- quoted, path. -/
namespace Go.Proofs.YtknakfpciccoaabGreatDoor
open Go.RowKit
end Go.Proofs.YtknakfpciccoaabGreatDoor
