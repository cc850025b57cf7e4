import Derived.Test.YtknakfpciccoaabGreatDoorZU31
import Derived.Test.YtknakfpciccoaabGreatDoorZU25
import Derived.Test.YtknakfpciccoaabGreatDoorZU30
/- The groups' rows, cell by cell. -/
namespace Go.Proofs.YtknakfpciccoaabGreatDoor
open Go.RowKit
theorem GrI.cells5 {w0:World} {c:Nat} {NA:Option Addr} {nc:Nat} {bv ev:Value} {ops:List ByteArray} {L:Nat→Lab} {gv:Value} {xs:List Value} {rb:Nat→Nat} {ys:Nat→List Value} {st:List (T×List T)} {w:World} (h:GrI w0 c NA nc bv ev ops L gv xs rb ys st w) {i j:Nat} (hi:i<st.length) (hj:j<ops.length) {u0 u1 u2 u3 u4:Value} (hf:fv (ys i) (j+1)=.agg #[u0,u1,u2,u3,u4]) {w6:World} (hb:w6.heap[rb i]?=w.heap[rb i]?) :
  (w6.cell? ⟨rb i,5+j*5,none⟩=some u0∧w6.cell? ⟨rb i,5+j*5+1,none⟩=some u1∧w6.cell? ⟨rb i,5+j*5+2,none⟩=some u2∧w6.cell? ⟨rb i,5+j*5+3,none⟩=some u3∧w6.cell? ⟨rb i,5+j*5+4,none⟩=some u4)∧∀ o,w6.frozen? ⟨rb i,o,none⟩=false:=by
 have hr:=h.row i hi
 have hy:(ys i).length=(ops.length+1)*5:=hr.1
 unfold fv at hf
 simp only [Value.agg.injEq,Array.mk.injEq,List.cons.injEq,and_true] at hf
 have hc:∀ r,r<5→w6.cell? ⟨rb i,5+j*5+r,none⟩=some (cx (ys i) ((j+1)*5+r)):=fun r hr'=>by
  rw [cell_of hb,show 5+j*5+r=(j+1)*5+r by omega]
  exact row_cell hr (cx_some (by omega))
 refine ⟨⟨?_,?_,?_,?_,?_⟩,fun o=>(World.frozen?_of_block (a:=⟨rb i,o,none⟩) hb).trans (hr.frozenAt o)⟩
 ·rw [← hf.1];exact hc 0 (by omega)
 ·rw [← hf.2.1];exact hc 1 (by omega)
 ·rw [← hf.2.2.1];exact hc 2 (by omega)
 ·rw [← hf.2.2.2.1];exact hc 3 (by omega)
 ·rw [← hf.2.2.2.2];exact hc 4 (by omega)
theorem below_put5o {lo:Nat} {w W:World} (h:Below lo w W) {g:Nat} (hg:lo≤g) (o:Nat) (u0 u1 u2 u3 u4:Value):Below lo w (put5o W g o u0 u1 u2 u3 u4):=by
 obtain ⟨r1,r2,r3,r4⟩:=put5o_rest W g o u0 u1 u2 u3 u4
 exact ⟨r2.trans h.os,r3.trans h.tape,r4.trans h.output,by rw [r1];exact h.size,fun b hb=>(put5o_other W (by omega) o u0 u1 u2 u3 u4).trans (h.block b hb)⟩
theorem rowE_getD (doc:T):∀ (es:List (ByteArray×(T→Int⊕T))) (k:Nat) (a a':List T),rowE doc es k a=.inr a'→∀ j,k+es.length≤j→a'.getD j zeroT=a.getD j zeroT
 | [],k,a,a',h,j,hj=>by
  simp only [rowE,Sum.inr.injEq] at h
  rw [h]
 | e0::es,k,a,a',h,j,hj=>by
  rw [rowE] at h
  rw [List.length_cons] at hj
  cases h0:accS e0.2 e0.1 (a.getD k zeroT) doc with
  | inl y=>rw [h0] at h;cases h
  | inr t =>
   rw [h0] at h
   rw [rowE_getD doc es (k+1) (a.set k t) a' h j (by omega),List.getD_eq_getElem?_getD,List.getElem?_set_ne (by omega),← List.getD_eq_getElem?_getD]
theorem gth_nL {n N:Nat} {P:Nat→Prop} {st:List (T×List T)} (b:T) (h:∀ i,(h:i<st.length)→∀ j,P j→nL (st[i].2.getD j zeroT)≤N) (j:Nat) (hP:P j):nL (((gthS n st b)[gthI st b]'(gth_lt _ _ _)).2.getD j zeroT)≤N:=by
 have hle:gthI st b≤st.length:=List.findIdx_le_length
 by_cases e:gthI st b<st.length
 ·have e2:gthS n st b=st:=by unfold gthS;rw [if_pos e]
  simp only [e2]
  exact h _ e j hP
 ·have e2:gthS n st b=st++[(b,List.replicate n zeroT)]:=by unfold gthS;rw [if_neg e]
  simp only [e2]
  rw [List.getElem_append_right (by omega)]
  simp only [show gthI st b - st.length=0 by omega,List.getElem_cons_zero]
  have:(List.replicate n zeroT).getD j zeroT=zeroT:=by
   rw [List.getD_eq_getElem?_getD,List.getElem?_replicate]
   by_cases hj:j<n
   ·rw [if_pos hj];rfl
   ·rw [if_neg hj];rfl
  rw [this]
  exact Nat.zero_le _
theorem ag_fin {w0:World} {c:Nat} {NA:Option Addr} {nc:Nat} {bv ev:Value} {ops:List ByteArray} {L:Nat→Lab} {gv:Value} {xs:List Value} {rb:Nat→Nat} {ys:Nat→List Value} {st:List (T×List T)} {W:World} (hG:GrI w0 c NA nc bv ev ops L gv xs rb ys st W) {i j:Nat} (hi:i<st.length) (hj:j<ops.length) {w:World} {d:Nat} (hbW:Below w0.heap.size w W) {q0 q1 q2 q3 q4:Value} (hdoc:BoxAt d q0 q1 q2 q3 q4 W) (hLd:L d=.no) {r:Int⊕T} {e:Ending} {w6:World} (h:AgPost w0 c NA nc bv ev ops L gv xs rb st i j r W e w6) {s0 s1 s2 s3 s4:Value} (hf:fv (ys i) (j+1)=.agg #[s0,s1,s2,s3,s4]) :
  ∃ (vk vn:Int) (vs:ByteArray) (VA:Option Addr) (vl VB:Nat) (VC:Option Addr) (vm VD:Nat) (er:Int),e=.returned (.tuple #[.agg #[.int .i64 vk,.int .i64 vn,.string vs,.slice VA vl VB,.slice VC vm VD],.int .i64 er])∧(w6.cell? ⟨rb i,5+j*5,none⟩=some s0∧w6.cell? ⟨rb i,5+j*5+1,none⟩=some s1∧w6.cell? ⟨rb i,5+j*5+2,none⟩=some s2∧w6.cell? ⟨rb i,5+j*5+3,none⟩=some s3∧w6.cell? ⟨rb i,5+j*5+4,none⟩=some s4)∧(∀ o,w6.frozen? ⟨rb i,o,none⟩=false)∧Hid (Below w0.heap.size w (put5o w6 (rb i) (5+j*5) (.int .i64 vk) (.int .i64 vn) (.string vs) (.slice VA vl VB) (.slice VC vm VD))∧BoxAt d q0 q1 q2 q3 q4 (put5o w6 (rb i) (5+j*5) (.int .i64 vk) (.int .i64 vn) (.string vs) (.slice VA vl VB) (.slice VC vm VD)))∧Hid ((r=.inl er∧er≠0)∨∃ t,r=.inr t∧er=0∧∃ L' ys',GrI w0 c NA nc bv ev ops L' gv xs rb ys' (stPut st i j t) (put5o w6 (rb i) (5+j*5) (.int .i64 vk) (.int .i64 vn) (.string vs) (.slice VA vl VB) (.slice VC vm VD))∧L' d=.no):=by
 obtain ⟨hb,hfr,vk,vn,vs,VA,vl,VB,VC,vm,VD,er,rfl,hc⟩:=h.flat
 have hr:=h.2.1
 have hrl:=hG.rl i hi
 have hlow:=hG.low (rb i) (by rw [hrl];intro e;cases e)
 have hblk:w6.heap[rb i]?=W.heap[rb i]?:=hfr _ hlow.2 (by rw [hrl];intro e;cases e)
 obtain ⟨k1,k2⟩:=hG.cells5 hi hj hf hblk
 refine ⟨vk,vn,vs,VA,vl,VB,VC,vm,VD,er,rfl,k1,k2,⟨below_put5o (hbW.trans hb) hlow.1 _ _ _ _ _ _,?_⟩,?_⟩
 ·refine hdoc.move ?_ ((put5o_other w6 (fun e=>?_) _ _ _ _ _ _).trans (hfr d hdoc.lt (by rw [hLd];intro e;cases e)))
  ·rw [(put5o_rest w6 (rb i) (5+j*5) _ _ _ _ _).1]
   exact hb.size
  ·rw [e,hrl] at hLd
   cases hLd
 ·rcases hc with hc | ⟨t,h1,h2,L',ys',h3,h4⟩
  ·exact .inl hc
  ·refine .inr ⟨t,h1,h2,L',ys',?_,h4 d hdoc.lt hLd⟩
   rw [show 5+j*5=(j+1)*5 by omega]
   exact h3
end Go.Proofs.YtknakfpciccoaabGreatDoor
/- The walk of a group's take. -/
namespace Go.Proofs.YtknakfpciccoaabGreatDoor
open Go.RowKit
def TkPost (w0:World) (c:Nat) (NA:Option Addr) (nc:Nat) (bv ev:Value) (ops:List ByteArray) (r:Int⊕List (T×List T)) (w:World) (e:Ending) (w':World):Prop :=
 Below w0.heap.size w w'∧((∃ x,r=.inl x∧x≠0∧e=.returned (.int .i64 x))∨∃ st',r=.inr st'∧e=.returned (.int .i64 0)∧∃ L gv xs rb ys,GrI w0 c NA nc bv ev ops L gv xs rb ys st' w')
theorem takE_err1 {gb:T→Int⊕T} {es:List (ByteArray×(T→Int⊕T))} {st:List (T×List T)} {doc:T} {x:Int} (h:gb doc=.inl x):takE gb es st doc=.inl x:=by
 unfold takE
 rw [h]
theorem takE_err2 {gb:T→Int⊕T} {es:List (ByteArray×(T→Int⊕T))} {st:List (T×List T)} {doc t:T} {x:Int} (h:gb doc=.inr t) (h2:rowE doc es 0 ((gthS es.length st t)[gthI st t]'(gth_lt _ _ _)).2=.inl x):takE gb es st doc=.inl x:=by
 unfold takE
 rw [h]
 show (match rowE doc es 0 ((gthS es.length st t)[gthI st t]'(gth_lt _ _ _)).2 with | .inl x=>Sum.inl x | .inr a=>Sum.inr (stRow (gthS es.length st t) (gthI st t) a))=_
 rw [h2]
theorem takE_ok {gb:T→Int⊕T} {es:List (ByteArray×(T→Int⊕T))} {st:List (T×List T)} {doc t:T} {a:List T} (h:gb doc=.inr t) (h2:rowE doc es 0 ((gthS es.length st t)[gthI st t]'(gth_lt _ _ _)).2=.inr a):takE gb es st doc=.inr (stRow (gthS es.length st t) (gthI st t) a):=by
 unfold takE
 rw [h]
 show (match rowE doc es 0 ((gthS es.length st t)[gthI st t]'(gth_lt _ _ _)).2 with | .inl x=>Sum.inl x | .inr a=>Sum.inr (stRow (gthS es.length st t) (gthI st t) a))=_
 rw [h2]
set_option maxHeartbeats 8000000 in
set_option maxRecDepth 100000 in
theorem gtake_any {Tb:World→Prop} (hL:Lies Tb) (w0:World) (c:Nat) (NA:Option Addr) (nc:Nat) (bv ev:Value) (es:List (ByteArray×(T→Int⊕T))) (ops:List ByteArray) (hops:ops=es.map Prod.fst) (L:Nat→Lab) (gv:Value) (xs:List Value) (rb:Nat→Nat) (ys:Nat→List Value) (st:List (T×List T)) (doc:T) (x:Value) (w:World) (ks:List ByteArray) (gb:T→Int⊕T) (hI:GrI w0 c NA nc bv ev ops L gv xs rb ys st w) (hb0:Below w0.heap.size w0 w) (hk:StrsAt w0 (.slice NA (ops.length+1) nc) ks) (hby:ExprOk Tb w0 bv gb) (hes:EntsOk Tb w0 ev es) (hn:st.length≤999999) (hl:∀ i,(h:i<st.length)→∀ j,(∃ hj:j<ops.length,ops[j]=gList)→nL (st[i].2.getD j zeroT)≤999999) (hd:At w0 13 x doc) (hok:okA doc) (hT:Tb w0) :
  Calls Tryz.prog 239 #[.pointer (some ⟨c,0,none⟩),x] w (TkPost w0 c NA nc bv ev ops (takE gb es st doc) w):=by
 obtain ⟨g1,La,Ka,Lc,Kc,hg1,hx,hj1,hj2,hj3⟩:=hd.open
 clear hj1 hj2 hj3
 obtain ⟨ty,p,fid,rfl,hm,hcall,hbeh⟩:=hby
 have HD:=hid (And.intro hd hok)
 have HI:=hid hI
 have HB0:=hid hb0
 have Hk:=hid hk
 have Hes:=hid hes
 have Hn:=hid hn
 have Hl:=hid hl
 have Hops:=hid hops
 have HT:Hid (∀ w':World,Below w0.heap.size w0 w'→Tb w'):=fun w' hb=>hL w0 hT w0 w' hT hb
 have HBx:Hid (Below w.heap.size w (w.alloc (.cells #[.int .i64 (kindOf doc),.int .i64 (nOf doc),.string (sOf doc),.slice La (nL doc) Lc,.slice Ka (nK doc) Kc] 36))):=(Below.refl _ _).alloc (Nat.le_refl _) _
 have HX:=hid (box_new w (.int .i64 (kindOf doc)) (.int .i64 (nOf doc)) (.string (sOf doc)) (.slice La (nL doc) Lc) (.slice Ka (nK doc) Kc))
 have HI1:=hid (hI.keep HBx.out)
 have hcl:=hid (hI.low c (by rw [hI.lc];intro e;cases e))
 have HC:Hid (∀ wx,Below w.heap.size w wx→_):=fun wx hq=>hbeh w0 wx x doc (Below.refl _ _) (hb0.trans (hq.mono hb0.size)) hd hok (HT.out wx (hb0.trans (hq.mono hb0.size)))
 rw [hx] at HC
 have hmw:=hm
 subst hx
 clear hI hb0 hk hes hn hl hops hd hok hT hL hbeh hm hg1
 go_enter Tryz.func239,Tryz.ntmps239
 go_upto_region 1 with fail
 go_cut [5,6] (fun s5 s6 wx=>∃ (bx:Nat) (vk vn:Int) (vs:ByteArray) (VA:Option Addr) (vl VB:Nat) (VC:Option Addr) (vm VD:Nat) (er:Int),s5=.pointer (some ⟨bx,0,none⟩)∧s6=.int .i64 er∧Hid (Below w.heap.size w wx∧BoxAt bx (.int .i64 vk) (.int .i64 vn) (.string vs) (.slice VA vl VB) (.slice VC vm VD) wx∧BoxAt w.heap.size (.int .i64 (kindOf doc)) (.int .i64 (nOf doc)) (.string (sOf doc)) (.slice La (nL doc) Lc) (.slice Ka (nK doc) Kc) wx∧w.heap.size<wx.heap.size)∧Hid ((gb doc=.inl er∧er≠0)∨∃ t A B C D,gb doc=.inr t∧er=0∧Value.agg #[.int .i64 vk,.int .i64 vn,.string vs,.slice VA vl VB,.slice VC vm VD]=.agg #[.int .i64 (kindOf t),.int .i64 (nOf t),.string (sOf t),.slice A (nL t) B,.slice C (nK t) D]∧At w0 13 (.agg #[.int .i64 (kindOf t),.int .i64 (nOf t),.string (sOf t),.slice A (nL t) B,.slice C (nK t) D]) t∧okA t))
 case first =>
  clear HD Hk Hes Hn Hl Hops HB0 HI hcl
  have c2a:=HI1.out.c2
  have HBz:=hid (HBx.out.alloc HBx.out.size (.cells #[.int .i64 0,.int .i64 0,.string ⟨#[]⟩,.slice none 0 0,.slice none 0 0] 36))
  have HI1z:=hid (HI1.out.keep ((Below.refl _ _).alloc (Nat.le_refl _) (.cells #[.int .i64 0,.int .i64 0,.string ⟨#[]⟩,.slice none 0 0,.slice none 0 0] 36)))
  have c2b:=HI1z.out.c2
  have HXz:=hid (HX.out.stay ((Below.refl _ _).alloc (Nat.le_refl _) (.cells #[.int .i64 0,.int .i64 0,.string ⟨#[]⟩,.slice none 0 0,.slice none 0 0] 36)))
  have HQ0:=hid HBx.out.drew
  have HQ1:=hid HBz.out.drew
  have r0:=HX.out.q0
  have r1:=HX.out.q1
  have r2:=HX.out.q2
  have r3:=HX.out.q3
  have r4:=HX.out.q4
  have s0:=HXz.out.q0
  have s1:=HXz.out.q1
  have s2:=HXz.out.q2
  have s3:=HXz.out.q3
  have s4:=HXz.out.q4
  have HZ:Hid (BoxAt (w.heap.size+1) (.int .i64 0) (.int .i64 0) (.string ⟨#[]⟩) (.slice none 0 0) (.slice none 0 0) ((w.alloc (.cells #[.int .i64 (kindOf doc),.int .i64 (nOf doc),.string (sOf doc),.slice La (nL doc) Lc,.slice Ka (nK doc) Kc] 36)).alloc (.cells #[.int .i64 0,.int .i64 0,.string ⟨#[]⟩,.slice none 0 0,.slice none 0 0] 36))):=by
   constructor<;>simp [go_sem]
  go_region_law (first | (go_simp;with_reducible refine Calls.mono (HC.out _ HQ0.out) ?_;rintro e w2 he;obtain ⟨b2,vk,vn,vs,VA,vl,VB,VC,vm,VD,er,rfl,hc⟩:=EvPost.flat he;have HB2:=hid (HQ0.out.trans (b2.mono HQ0.out.size));have HX2:=hid (HX.out.stay ((below_drew _).trans (b2.mono (below_drew _).size)));have HCC:=hid hc;have HFin:=hid (And.intro (HB2.out.alloc HB2.out.size (.cells #[.int .i64 vk,.int .i64 vn,.string vs,.slice VA vl VB,.slice VC vm VD] 36)) (And.intro (box_new w2 (.int .i64 vk) (.int .i64 vn) (.string vs) (.slice VA vl VB) (.slice VC vm VD)) (And.intro (HX2.out.stay ((Below.refl _ _).alloc (Nat.le_refl _) (.cells #[.int .i64 vk,.int .i64 vn,.string vs,.slice VA vl VB,.slice VC vm VD] 36))) (Nat.lt_of_lt_of_le HX2.out.lt ((Below.refl w2.heap.size w2).alloc (Nat.le_refl _) (.cells #[.int .i64 vk,.int .i64 vn,.string vs,.slice VA vl VB,.slice VC vm VD] 36)).size))));clear b2 hc he;dsimp only) | (go_simp;with_reducible refine Calls.mono (HC.out _ HQ1.out) ?_;rintro e w2 he;obtain ⟨b2,vk,vn,vs,VA,vl,VB,VC,vm,VD,er,rfl,hc⟩:=EvPost.flat he;have HB2:=hid (HQ1.out.trans (b2.mono HQ1.out.size));have HX2:=hid (HXz.out.stay ((below_drew _).trans (b2.mono (below_drew _).size)));have HZ2:=hid (HZ.out.stay ((below_drew _).trans (b2.mono (below_drew _).size)));have HCC:=hid hc;have n0:=HZ2.out.q0;have n1:=HZ2.out.q1;have n2:=HZ2.out.q2;have n3:=HZ2.out.q3;have n4:=HZ2.out.q4;have m0:=HZ2.out.f0;have m1:=HZ2.out.f1;have m2:=HZ2.out.f2;have m3:=HZ2.out.f3;have m4:=HZ2.out.f4;have HFin:=hid (And.intro (below_res HB2.out (b:=w.heap.size+1) (by omega) (by have:=HZ2.out.lt;omega) (.int .i64 vk) (.int .i64 vn) (.string vs) (.slice VA vl VB) (.slice VC vm VD)) (And.intro (HZ2.out.put5 (.int .i64 vk) (.int .i64 vn) (.string vs) (.slice VA vl VB) (.slice VC vm VD)) (And.intro (HX2.out.move (w':=put5 w2 (w.heap.size+1) (.int .i64 vk) (.int .i64 vn) (.string vs) (.slice VA vl VB) (.slice VC vm VD)) (by rw [put5_size];exact Nat.le_refl _) (put5_other w2 (by omega) (.int .i64 vk) (.int .i64 vn) (.string vs) (.slice VA vl VB) (.slice VC vm VD))) (show w.heap.size<(put5 w2 (w.heap.size+1) (.int .i64 vk) (.int .i64 vn) (.string vs) (.slice VA vl VB) (.slice VC vm VD)).heap.size by rw [put5_size];exact HX2.out.lt))));clear b2 hc he;dsimp only))
  all_goals
   go_wp2_with fail
   go_meet
   unfold put5 at HFin
   exact ⟨_,_,_,_,_,_,_,_,_,_,_,rfl,rfl,HFin,HCC⟩
 case rest =>
  obtain ⟨bx,vk,vn,vs,VA,vl,VB,VC,vm,VD,er,rfl,rfl,HF,HG⟩:=hcut
  have Hw0:=hid HB0.out.size
  rcases HG.out with ⟨h1,h2⟩ | ⟨t,A,B,C,D,h1,rfl,h3,h4,h5⟩
  ·have ez:(er==0)=false:=by simpa using h2
   have Hret:Hid (TkPost w0 c NA nc (.iface ty p) ev ops (takE gb es st doc) w (.returned (.int .i64 er)) wc):=by
    exact ⟨HF.out.1.mono Hw0.out,.inl ⟨er,takE_err1 h1,h2,rfl⟩⟩
   clear h1 h2 HG HF HC HI HI1 HX HBx HD Hes Hl Hops Hk HB0 Hn hcl hmw hcall
   go_wp2_with fail
   go_ret
   exact Hret.out
  ·have Ht:=hid (And.intro h1 (And.intro h4 h5))
   simp only [Value.agg.injEq,Array.mk.injEq,List.cons.injEq,and_true,Value.int.injEq,true_and,Value.string.injEq,Value.slice.injEq] at h3
   obtain ⟨rfl,rfl,rfl,⟨rfl,rfl,rfl⟩,rfl,rfl,rfl⟩:=h3
   have Hlen:Hid (ops.length=es.length):=by show _=_;rw [Hops.out,List.length_map]
   have HI3:=hid (HI.out.keep HF.out.1)
   have HB03:=hid (HB0.out.trans (HF.out.1.mono HB0.out.size))
   obtain ⟨EA,ec,hev,hen,hee⟩:=Hes.out
   clear Hes
   subst hev
   have Hee:=hid hee
   have Hen:=hid hen
   have HGa:=hid (gathered_any w0 c NA nc (.iface ty p) (.slice EA es.length ec) ops L gv xs rb ys st t VA VC VB VD wc ks HI3.out HB03.out Hk.out (by rw [Hlen.out];exact hen) (by have:=Hn.out;omega) h4 h5)
   have HY:=hid HF.out.2.1
   have HDo:=hid (HF.out.2.2)
   have HBF:=hid HF.out.1
   have HLd:Hid (L w.heap.size=.no):=by
    show _=_
    cases hc:L w.heap.size with
    | no=>rfl
    | _=>exact absurd (HI.out.low w.heap.size (by rw [hc];intro e;cases e)).2 (by omega)
   clear h1 h4 h5 hee hen HG HF HC HI1 HX HBx hmw hcall Hk HI3
   have y0:=HY.out.q0
   have y1:=HY.out.q1
   have y2:=HY.out.q2
   have y3:=HY.out.q3
   have y4:=HY.out.q4
   go_wp2_with fail
   refine HGa.out.mono ?_
   rintro e w4 ⟨b4,L4,gv4,xs4,rb4,ys4,hI4,hL4,o,ho,rfl⟩
   rw [Hlen.out] at hI4
   have hdl:=hL4 w.heap.size HDo.out.2 HLd.out
   have HD4:=hid (HDo.out.1.move b4.size hdl.2)
   have HB4:=hid ((HBF.out.mono Hw0.out).trans b4)
   have HIS:=hid (gth_lt es.length st t)
   have Hst:Hid (∃ a L' ys',rowE doc (es.take 0) 0 ((gthS es.length st t)[gthI st t]'(gth_lt _ _ _)).2=.inr a∧GrI w0 c NA nc (.iface ty p) (.slice EA es.length ec) ops L' gv4 xs4 rb4 ys' (stRow (gthS es.length st t) (gthI st t) a) w4∧L' w.heap.size=.no):=⟨_,L4,ys4,rfl,by rw [stRow_same];exact hI4,hdl.1⟩
   have c34:=hI4.c3
   have Ho:=hid ho
   have hel:¬ (es.length:Int)<0:=by omega
   clear b4 hI4 hL4 hdl ho HGa HDo HBF HB03 HLd HI HY y0 y1 y2 y3 y4
   go_wp2_with fail
   go_loopg [30] es.length (fun g i wr=>∃ k:Nat,g=es.length - k∧k≤es.length∧i=.int .i64 k∧Hid (∃ a L' ys',rowE doc (es.take k) 0 ((gthS es.length st t)[gthI st t]'(gth_lt _ _ _)).2=.inr a∧GrI w0 c NA nc (.iface ty p) (.slice EA es.length ec) ops L' gv4 xs4 rb4 ys' (stRow (gthS es.length st t) (gthI st t) a) wr∧L' w.heap.size=.no)∧Hid (Below w0.heap.size w wr)∧Hid (BoxAt w.heap.size (.int .i64 (kindOf doc)) (.int .i64 (nOf doc)) (.string (sOf doc)) (.slice La (nL doc) Lc) (.slice Ka (nK doc) Kc) wr))
   case atStart=>exact ⟨0,rfl,Nat.zero_le _,rfl,Hst,HB4,HD4⟩
   case round =>
    obtain ⟨k,rfl,hk,rfl,HR,HBr,HDr⟩:=hrel
    have Hb0r:=hid (HB0.out.trans HBr.out)
    by_cases hlt:k<es.length
    ·obtain ⟨a,L',ys',hrow,hG,hLd⟩:=HR.out
     obtain ⟨b,o',u,rfl,hbl,p0,p1,hex,hgop⟩:=Hee.out k hlt
     obtain ⟨ty2,p2,hu⟩:∃ ty2 p2,u=.iface ty2 p2:=by
      obtain ⟨a1,b1,_,h,_⟩:=hex
      exact ⟨a1,b1,h⟩
     subst hu
     have hko:k<ops.length:=by rw [Hlen.out];exact hlt
     have hopk:ops[k]=es[k].1:=by
      have h:=Hops.out
      subst h
      exact List.getElem_map ..
     have hin:gthI st t<(stRow (gthS es.length st t) (gthI st t) a).length:=by rw [stRow_len];exact HIS.out
     obtain ⟨s,sA,sB,sC,sD,hs0,hsf⟩:=hG.shape (i:=gthI st t) (j:=k) hin hko
     have hs1:s=a.getD k zeroT:=by rw [hs0,stRow_get _ _ _ HIS.out]
     have hs2:ops[k]=gList→nL s≤999999:=fun hg=>by
      rw [hs1,rowE_getD doc _ 0 _ _ hrow k (by rw [List.length_take];omega)]
      exact gth_nL t Hl.out k ⟨hko,hg⟩
     obtain ⟨op,hop⟩:∃ op,es[k].1=op:=⟨_,rfl⟩
     obtain ⟨gk,hgk⟩:∃ gk,es[k].2=gk:=⟨_,rfl⟩
     rw [hgk] at hex
     rw [hop] at p0
     have p0r:=(Hb0r.out.cell (p:=⟨b,o'+k*2,none⟩) hbl).trans p0
     have p1r:=(Hb0r.out.cell (p:=⟨b,o'+k*2+1,none⟩) hbl).trans p1
     have HBa:Hid (Below wr.heap.size wr (wr.alloc (.cells #[.string op,.iface ty2 p2] 239))):=(Below.refl _ _).alloc (Nat.le_refl _) _
     have HBd:Hid (Below wr.heap.size wr (wr.alloc (.cells #[.string op,.iface ty2 p2] 239)).drew):=HBa.out.drew
     have HG2:=hid (hG.keep HBd.out)
     have HDd:=hid (HDr.out.stay HBd.out)
     have HDa:=hid (HDr.out.stay HBa.out)
     have HBw:=hid (HBr.out.trans (HBd.out.mono (Nat.le_trans Hw0.out HBr.out.size)))
     have Hb0d:=hid (HB0.out.trans HBw.out)
     have HLd:=hid hLd
     obtain ⟨⟨e0,e1,e2,e3,e4⟩,hfz⟩:=(hG.keep HBa.out).cells5 hin hko hsf rfl
     have HCg:=hid (addGrp_any w0 c NA nc (.iface ty p) (.slice (some ⟨b,o',none⟩) es.length ec) ops L' gv4 xs4 rb4 ys' (stRow (gthS es.length st t) (gthI st t) a) _ HG2.out Hb0d.out (gthI st t) k hin hko (by rw [hopk];exact hgop) (.iface ty2 p2) gk hex doc _ HD.out.1 HD.out.2 (fun w' hb=>HT.out w' (Hb0d.out.trans (hb.mono Hb0d.out.size))) (fun hg=>by rw [← hs0];have:=hs2 hg;omega))
     rw [hsf,hopk,hop,← hs0] at HCg
     have Hfin:=hid (fun e w6 h=>ag_fin (e:=e) (w6:=w6) (r:=accS gk op s doc) HG2.out hin hko HBw.out HDd.out hLd h hsf)
     have Hsn:=hid (And.intro hrow (And.intro hs1 (And.intro hop hgk)))
     have ho5:o=5:=Ho.out (fun e=>by rw [e] at hko;exact absurd hko (Nat.not_lt_zero _))
     subst ho5
     have HE1:Hid (es.take (k+1)=es.take k++[es[k]]):=by show _=_;rw [List.take_add_one,List.getElem?_eq_getElem hlt];rfl
     have HE2:Hid (es=es.take k++es[k]::es.drop (k+1)):=by show _=_;rw [← List.drop_eq_getElem_cons hlt,List.take_append_drop]
     have HE3:Hid ((es.take k).length=k):=by show _=_;rw [List.length_take];omega
     have x1:(k:Int)<(es.length:Int):=by omega
     have x2:¬ (k:Int)<0:=by omega
     have x3:(k:Int)<(ops.length:Int):=by omega
     clear hrow hG hs0 hs1 hs2 hop hgk hopk hgop hex p0 p1 HR hsf hLd HDr hbl
     go_upto_region 8 with fail
     go_cut [6] from 31 to 51 (fun s6 wx=>∃ er:Int,s6=.int .i64 er∧Hid (Below w0.heap.size w wx∧BoxAt w.heap.size (.int .i64 (kindOf doc)) (.int .i64 (nOf doc)) (.string (sOf doc)) (.slice La (nL doc) Lc) (.slice Ka (nK doc) Kc) wx)∧Hid ((accS gk op s doc=.inl er∧er≠0)∨∃ t',accS gk op s doc=.inr t'∧er=0∧∃ L2 ys2,GrI w0 c NA nc (.iface ty p) (.slice (some ⟨b,o',none⟩) es.length ec) ops L2 gv4 xs4 rb4 ys2 (stPut (stRow (gthS es.length st t) (gthI st t) a) (gthI st t) k t') wx∧L2 w.heap.size=.no))
     case first =>
      clear HE1 HE2 HE3 Hsn HB4 HD4 Hst Hee Hen HD HT Hn Hl Hops Hlen hcl Ht HBr Hb0r HBa HIS c34
      have d0:=HDa.out.q0
      have d1:=HDa.out.q1
      have d2:=HDa.out.q2
      have d3:=HDa.out.q3
      have d4:=HDa.out.q4
      go_region_law (go_simp;go_wp2_with (go_at_call 241;refine HCg.out.mono ?_;rintro e w6 he;obtain ⟨vk,vn,vs,VA2,vl,VB2,VC2,vm,VD2,er,rfl,⟨g0,g1,g2,g3,g4⟩,hz,HF1,HF2⟩:=Hfin.out _ _ he;have z0:=hz (5+k*5);have z1:=hz (5+k*5+1);have z2:=hz (5+k*5+2);have z3:=hz (5+k*5+3);have z4:=hz (5+k*5+4);clear he hz))
      all_goals
       go_wp2_with fail
       go_meet
       unfold put5o at HF1 HF2
       exact ⟨_,rfl,HF1,HF2⟩
     case rest =>
      obtain ⟨er,rfl,HF1,HF2⟩:=hcut
      rcases HF2.out with ⟨h1,h2⟩ | ⟨t',h1,rfl,L2,ys2,h3,h4⟩
      ·have ez:(er==0)=false:=by simpa using h2
       have Hret:Hid (TkPost w0 c NA nc (.iface ty p) (.slice (some ⟨b,o',none⟩) es.length ec) ops (takE gb es st doc) w (.returned (.int .i64 er)) wc):=by
        have h5:=rowE_err doc (es.take k) es[k] (es.drop (k+1)) 0 _ a er Hsn.out.1 (by rw [HE3.out,Nat.zero_add,Hsn.out.2.2.2,Hsn.out.2.2.1,← Hsn.out.2.1];exact h1)
        rw [← HE2.out] at h5
        exact ⟨HF1.out.1,.inl ⟨er,takE_err2 Ht.out.1 h5,h2,rfl⟩⟩
       clear h1 h2 HF1 HF2 HCg Hfin HG2 HDd HDa HBw Hb0d HLd Hsn HE1 HE2 HE3 Hst HB4 HD4 Hee Hen HD HT Hn Hl Hops Hlen hcl Ht HBr Hb0r HBa HBd HIS c34 e0 e1 e2 e3 e4 hfz p0r p1r
       go_wp2_with fail
       go_ret
       exact Hret.out
      ·have HR2:Hid (∃ a L' ys',rowE doc (es.take (k+1)) 0 ((gthS es.length st t)[gthI st t]'(gth_lt _ _ _)).2=.inr a∧GrI w0 c NA nc (.iface ty p) (.slice (some ⟨b,o',none⟩) es.length ec) ops L' gv4 xs4 rb4 ys' (stRow (gthS es.length st t) (gthI st t) a) wc∧L' w.heap.size=.no):=by
        have h5:=rowE_snoc doc (es.take k) es[k] 0 _ a t' Hsn.out.1 (by rw [HE3.out,Nat.zero_add,Hsn.out.2.2.2,Hsn.out.2.2.1,← Hsn.out.2.1];exact h1)
        rw [HE3.out,Nat.zero_add,← HE1.out] at h5
        exact ⟨a.set k t',L2,ys2,h5,by rw [← stRow_put];exact h3,h4⟩
       have hen2:es.length≤100000:=Hen.out
       have HQ1:=hid HF1.out.1
       have HQ2:=hid HF1.out.2
       clear h1 h3 h4 HF1 HF2 HCg Hfin HG2 HDd HDa HBw Hb0d HLd Hsn HE1 HE2 HE3 HBr Hb0r HBa HBd e0 e1 e2 e3 e4 hfz p0r p1r
       go_wp2_with fail
       go_roundg (es.length - (k+1))
       case rel=>exact ⟨k+1,rfl,by omega,by go_num,HR2,HQ1,HQ2⟩
       case measure=>omega
    ·obtain rfl:k=es.length:=by omega
     have Hret:Hid (TkPost w0 c NA nc (.iface ty p) (.slice EA es.length ec) ops (takE gb es st doc) w (.returned (.int .i64 0)) wr):=by
      obtain ⟨a,L',ys',hrow,hG,hLd⟩:=HR.out
      rw [List.take_length] at hrow
      exact ⟨HBr.out,.inr ⟨_,takE_ok Ht.out.1 hrow,rfl,L',gv4,xs4,rb4,ys',hG⟩⟩
     have x1:¬ (es.length:Int)<(es.length:Int):=by omega
     clear HR HBr HDr Hb0r Hst HB4 HD4 Hee Hen HD HT Hn Hl Hops Hlen hcl Ht HIS c34
     go_wp2_with fail
     go_ret
     exact Hret.out
end Go.Proofs.YtknakfpciccoaabGreatDoor
/- The walk of each, over what lies where the work knows it. -/
namespace Go.Proofs.YtknakfpciccoaabGreatDoor
open Go.RowKit
set_option maxHeartbeats 4000000 in
set_option maxRecDepth 100000 in
theorem eachG_any {σ:Type} (st:σ→T→Int⊕σ) (I:Nat→σ→World→Prop) (gid:FuncId) (hgid:∀ (a:Array Value) (w:World),(callFunc gid a).run Tryz.prog w=.ok (.enter gid a) w) (pv:Value) (c:Nat) (La:Option Addr) (Lc:Nat) (l:List T) (s:σ) (w0 w:World) (hn:l.length≤1000000) (hI:I 0 s w)
  (hIc:∀ k s w,I k s w→∃ v,w.cell? ⟨c,0,none⟩=some v) (hIl:∀ k s w,I k s w→w0.heap.size≤w.heap.size)
  (hst:∀ k s d wr,(h:k<l.length)→l[k]=d→I k s wr→∃ bb oo A B C D,La=some ⟨bb,oo,none⟩∧wr.cell? ⟨bb,oo+k*5,none⟩=some (.int .i64 (kindOf d))∧wr.cell? ⟨bb,oo+k*5+1,none⟩=some (.int .i64 (nOf d))∧wr.cell? ⟨bb,oo+k*5+2,none⟩=some (.string (sOf d))∧wr.cell? ⟨bb,oo+k*5+3,none⟩=some (.slice A (nL d) B)∧wr.cell? ⟨bb,oo+k*5+4,none⟩=some (.slice C (nK d) D)∧∀ wx,Below wr.heap.size wr wx→Calls Tryz.prog gid #[pv,.agg #[.int .i64 (kindOf d),.int .i64 (nOf d),.string (sOf d),.slice A (nL d) B,.slice C (nK d) D]] wx (WkPost st s (I (k+1)) d w0 wx)) :
  Calls Tryz.prog 225 #[.pointer (some ⟨c,0,none⟩),.slice La l.length Lc,.func (Fn.func gid) #[pv] #[]] w (EaPost st s (I l.length) c l w0 w):=by
 have HI:=hid hI
 have HIc:=hid hIc
 have HIl:=hid hIl
 have HSt:=hid hst
 clear hI hIc hst hIl
 obtain ⟨n,hln⟩:∃ n,l.length=n:=⟨_,rfl⟩
 have Hln:=hid hln
 rw [hln] at hn ⊢
 clear hln
 go_enter Tryz.func225,Tryz.ntmps225
 go_wp2_with fail
 go_loopg [14] n (fun g i wr=>∃ (k:Nat) (s':σ),g=n - k∧k≤n∧i=.int .i64 k∧Hid (Below w0.heap.size w wr)∧Hid (I k s' wr)∧Hid (eachE st (l.take k) 0 s=.inr s'))
 case atStart=>exact ⟨0,s,rfl,Nat.zero_le _,rfl,Below.refl _ _,HI,rfl⟩
 case round =>
  obtain ⟨k,s',rfl,hk,rfl,HB,HS,HE⟩:=hrel
  by_cases hlt:k<n
  ·have hkl:k<l.length:=by rw [Hln.out];exact hlt
   have HG:Hid (l.take (k+1)=l.take k++[l[k]]):=by show _=_;rw [List.take_add_one,List.getElem?_eq_getElem hkl];rfl
   have HG2:Hid (l=l.take k++l[k]::l.drop (k+1)):=by show _=_;rw [← List.drop_eq_getElem_cons hkl,List.take_append_drop]
   have HGl:Hid ((l.take k).length=k):=by show _=_;rw [List.length_take];omega
   have HQ:=hid (HSt.out k s' l[k] wr hkl rfl HS.out)
   generalize l[k]=d at HG HG2 HQ
   obtain ⟨bb,oo,A,B,C,D,rfl,p0,p1,p2,p3,p4,hq⟩:=HQ.out
   have HBi:Hid (Below wr.heap.size wr (wr.alloc (.cells #[.int .i64 (kindOf d),.int .i64 (nOf d),.string (sOf d),.slice A (nL d) B,.slice C (nK d) D] 36))):=(Below.refl _ _).alloc (Nat.le_refl _) _
   have HC:=hid (hq _ HBi.out)
   have HLw:=hid (HIl.out _ _ _ HS.out)
   clear hq HQ
   go_wp2_with fail
   refine HC.out.mono ?_
   rintro e w2 ⟨b2,⟨x,hx,hne,rfl⟩ | ⟨s2,hx,rfl,hI2⟩⟩
   ·have ez:(x==0)=false:=by simpa using hne
    have HF:Hid (eachE st l 0 s=.inl (k,x)∧x≠0):=⟨by have:=eachE_err st _ _ (l.drop (k+1)) 0 s s' x HE.out hx;rw [← HG2.out,HGl.out,Nat.zero_add] at this;exact this,hne⟩
    have HBf:=hid ((HB.out.trans (HBi.out.mono HLw.out)).trans b2)
    clear b2 hx hne HC
    go_wp2_with fail
    refine bodyPost_ret (v:=.tuple #[.slice none 0 0,.int .i64 (k:Nat),.int .i64 x]) (by simp [results,Tryz.results225,go_sem, *]) rfl ?_
    exact ⟨HBf.out,.inl ⟨k,x,HF.out.1,HF.out.2,rfl⟩⟩
   ·have HE2:Hid (eachE st (l.take (k+1)) 0 s=.inr s2):=by show _=_;rw [HG.out];exact eachE_snoc st _ _ 0 s s' s2 HE.out hx
    have HBf:=hid ((HB.out.trans (HBi.out.mono HLw.out)).trans b2)
    have HI2:=hid hI2
    clear b2 hx HC hI2
    go_wp2_with fail
    go_roundg (n - (k+1))
    case rel=>exact ⟨k+1,s2,rfl,by omega,by go_num,HBf,HI2,HE2⟩
    case measure=>omega
  ·obtain rfl:k=n:=by omega
   have HF:Hid (eachE st l 0 s=.inr s'):=by
    have h1:=HE.out
    rw [← Hln.out,List.take_length] at h1
    exact h1
   obtain ⟨v,hv⟩:=HIc.out _ s' wr HS.out
   go_wp2_with fail
   refine bodyPost_ret (v:=.tuple #[v,.int .i64 0,.int .i64 0]) (by simp [results,Tryz.results225,go_sem, *]) rfl ?_
   exact ⟨HB.out,.inr ⟨s',v,HF.out,HS.out,hv,rfl⟩⟩
end Go.Proofs.YtknakfpciccoaabGreatDoor
/- The groups as documents: they lie off the stage's own box. -/
namespace Go.Proofs.YtknakfpciccoaabGreatDoor
open Go.RowKit
theorem AtP.up1 {p:Nat→Prop} {w:World}:∀ {f:Nat} {v:Value} {t:T},AtP p w f v t→AtP p w (f+1) v t:=by
 intro f
 induction f with
 | zero=>intro v t h;exact h.elim
 | succ f ih =>
  rintro v t ⟨La,Ka,Lc,Kc,rfl,hf,hl,hk⟩
  refine ⟨La,Ka,Lc,Kc,rfl,hf,fun i hi=>?_,hk⟩
  obtain ⟨b,o,c0,c1,c2,c3,c4,h0,hb,q0,q1,q2,q3,q4,ha⟩:=hl i hi
  exact ⟨b,o,c0,c1,c2,c3,c4,h0,hb,q0,q1,q2,q3,q4,ih ha⟩
theorem AccAt.atP {w0:World} {L:Nat→Lab} {w:World} {i j c:Nat} {op:ByteArray} {v:Value} {a:T} (h:AccAt w0 L w i j op v a) (hb:Below w0.heap.size w0 w) (hc:w0.heap.size≤c) (hL:L c=.box):AtP (fun b=>b≠c) w 14 v a:=by
 rcases h with ⟨_,h,_⟩ | ⟨_,A,B,zs,rfl,h3,h4,h5,h6,h7⟩
 ·exact (At.toP (fun b h=>by omega) hb h).up1
 ·have hk:nK a=0:=by
   rcases h3 with h3 | h3
   ·rw [h3];rfl
   ·rw [h3];rfl
  have hz:zs.length=nL a*5:=h4.1
  have hfit:-9223372036854775808≤kindOf a∧kindOf a≤9223372036854775807∧nOf a=0∧sOf a=ByteArray.empty:=by
   rcases h3 with h3 | h3
   ·rw [h3];exact ⟨by show -9223372036854775808≤(0:Int);omega,by show (0:Int)≤_;omega,rfl,rfl⟩
   ·rw [h3];exact ⟨by show -9223372036854775808≤(5:Int);omega,by show (5:Int)≤_;omega,rfl,rfl⟩
  refine ⟨A,none,B,0,by rw [hk],⟨hfit.1,hfit.2.1,by rw [hfit.2.2.1];omega,by rw [hfit.2.2.1];omega,by rw [hfit.2.2.2];show (0:Nat)≤_;omega,by omega,by omega⟩,fun k hk'=>?_,fun k hk'=>by omega⟩
  rcases h4.2 with ⟨_,h0⟩ | ⟨g,cap,cur,h',hb0,hg,rest⟩
  ·omega
  ·simp only [Value.slice.injEq,true_and] at h'
   obtain ⟨rfl,rfl⟩:=h'
   have hcl:∀ r,r<5→w.cell? ⟨g,k*5+r,none⟩=some (cx zs (k*5+r)):=fun r hr=>row_cell h4 (cx_some (by omega))
   refine ⟨g,0,cx zs (k*5),cx zs (k*5+1),cx zs (k*5+2),cx zs (k*5+3),cx zs (k*5+4),rfl,⟨(Array.getElem?_eq_some_iff.1 hg).1,fun e=>?_⟩,(by rw [Nat.zero_add];exact hcl 0 (by omega)),(by rw [Nat.zero_add];exact hcl 1 (by omega)),(by rw [Nat.zero_add];exact hcl 2 (by omega)),(by rw [Nat.zero_add];exact hcl 3 (by omega)),(by rw [Nat.zero_add];exact hcl 4 (by omega)),?_⟩
   ·have:=h6 g rfl
    rw [e,hL] at this
    cases this
   ·exact At.toP (fun b h=>by omega) hb (h7 k hk').1
theorem GrI.grpP {w0:World} {c:Nat} {NA:Option Addr} {nc:Nat} {bv ev:Value} {ops:List ByteArray} {L:Nat→Lab} {gv:Value} {xs:List Value} {rb:Nat→Nat} {ys:Nat→List Value} {st:List (T×List T)} {w:World} (h:GrI w0 c NA nc bv ev ops L gv xs rb ys st w) (hb:Below w0.heap.size w0 w) {ks:List ByteArray} (hk:StrsAt w0 (.slice NA (ops.length+1) nc) ks) (ho:ops.length≤100000) {i:Nat} (hi:i<st.length):AtP (fun b=>b≠c) w 15 (fv xs i) (grpT ks st[i]):=by
 obtain ⟨C,D,e1,hkn,hks⟩:=hk
 simp only [Value.slice.injEq] at e1
 obtain ⟨rfl,e2,rfl⟩:=e1
 have hcl:=h.low c (by rw [h.lc];intro e;cases e)
 have hlen:=h.len i hi
 rw [h.el i hi]
 have hr:=h.row i hi
 have hy:(ys i).length=(ops.length+1)*5:=hr.1
 refine ⟨some ⟨rb i,0,none⟩,NA,ops.length+1,nc,?_,?_,fun j hj=>?_,fun j hj=>?_⟩
 ·unfold grpT
  rw [kindOf_mk,nOf_mk,sOf_mk,nL_mk,nK_mk,List.length_cons,hlen,← e2]
  rfl
 ·unfold grpT
  exact ⟨by rw [kindOf_mk];omega,by rw [kindOf_mk];omega,by rw [nOf_mk];omega,by rw [nOf_mk];omega,by rw [sOf_mk];show (0:Nat)≤_;omega,by rw [nL_mk,List.length_cons,hlen];omega,by rw [nK_mk];exact hkn⟩
 ·unfold grpT at hj
  rw [nL_mk,List.length_cons,hlen] at hj
  have hc:∀ r,r<5→w.cell? ⟨rb i,j*5+r,none⟩=some (cx (ys i) (j*5+r)):=fun r hr'=>row_cell hr (cx_some (by omega))
  refine ⟨rb i,0,cx (ys i) (j*5),cx (ys i) (j*5+1),cx (ys i) (j*5+2),cx (ys i) (j*5+3),cx (ys i) (j*5+4),rfl,⟨(hr.lt _ rfl).2,fun e=>?_⟩,(by rw [Nat.zero_add];exact hc 0 (by omega)),(by rw [Nat.zero_add];exact hc 1 (by omega)),(by rw [Nat.zero_add];exact hc 2 (by omega)),(by rw [Nat.zero_add];exact hc 3 (by omega)),(by rw [Nat.zero_add];exact hc 4 (by omega)),?_⟩
  ·have:=h.rl i hi
   rw [e,h.lc] at this
   cases this
  show AtP _ w 14 (fv (ys i) j) (elt (grpT ks st[i]) j)
  cases j with
  | zero=>exact (At.toP (fun b h=>by omega) hb (h.by_ i hi).1).up1
  | succ j =>
   have e3:elt (grpT ks st[i]) (j+1)=st[i].2.getD j zeroT:=by
    unfold grpT
    rw [elt_mk,List.getD_cons_succ,List.getD_eq_getElem?_getD,List.getD_eq_getElem?_getD,List.getElem?_eq_getElem (by omega)]
    rfl
   rw [e3]
   exact (h.acc i hi j (by omega)).atP hb hcl.1 h.lc
 ·unfold grpT at hj
  rw [nK_mk] at hj
  obtain ⟨b,o,h0,hbl,hsz,hc⟩:=hks j hj
  unfold grpT
  refine ⟨b,o,h0,⟨Nat.lt_of_lt_of_le hbl hb.size,by omega⟩,?_,?_⟩
  ·rw [nam_mk];exact hsz
  ·rw [nam_mk,hb.cell (p:=⟨b,_,none⟩) hbl];exact hc
end Go.Proofs.YtknakfpciccoaabGreatDoor
/- The groups are handed on, one behind the other. -/
namespace Go.Proofs.YtknakfpciccoaabGreatDoor
open Go.RowKit
def emE (made:List T) (d:T):Int⊕List T:=if tooBig d then .inl 15 else .inr (made++[d])
theorem emE_all:∀ (l:List T) (k:Nat) (s s':List T),eachE emE l k s=.inr s'→s'=s++l∧∀ i,(h:i<l.length)→tooBig l[i]=false
 | [],k,s,s',h=>by
  simp only [eachE,Sum.inr.injEq] at h
  exact ⟨by rw [← h,List.append_nil],fun i h=>absurd h (Nat.not_lt_zero i)⟩
 | d::r,k,s,s',h=>by
  simp only [eachE] at h
  cases hb:tooBig d with
  | true =>
   rw [show emE s d=.inl 15 by unfold emE;rw [hb];rfl] at h
   cases h
  | false =>
   rw [show emE s d=.inr (s++[d]) by unfold emE;rw [hb];rfl] at h
   obtain ⟨h1,h2⟩:=emE_all r (k+1) (s++[d]) s' h
   refine ⟨by rw [h1,List.append_assoc];rfl,fun i hi=>?_⟩
   cases i with
   | zero=>exact hb
   | succ i=>exact h2 i (by rw [List.length_cons] at hi;omega)
structure EmI (W2:World) (c:Nat) (gxs:List Value) (n:Nat) (v:Value) (xs:List Value) (w:World):Prop where
 made:Mk w c v n xs
 own:∀ b,v.ownBlock=some b→W2.heap.size≤b
 os:w.os=W2.os
 tape:w.tape=W2.tape
 output:w.output=W2.output
 size:W2.heap.size≤w.heap.size
 block:∀ b,b<W2.heap.size→b≠c→w.heap[b]?=W2.heap[b]?
 el:∀ i,i<n→fv xs i=fv gxs i
theorem EmI.start {W2:World} {c:Nat} (gxs:List Value) (h0:W2.cell? ⟨c,0,none⟩=some (.slice none 0 0)) (hf:W2.frozen? ⟨c,0,none⟩=false) (hc:c<W2.heap.size):EmI W2 c gxs 0 (.slice none 0 0) [] W2 :=
 ⟨⟨h0,hf,hc,World.ownsRow_nil _ _ _ _,by simp [Value.ownBlock]⟩,fun b e=>by simp [Value.ownBlock] at e,rfl,rfl,rfl,Nat.le_refl _,fun _ _ _=>rfl,fun i hi=>absurd hi (Nat.not_lt_zero i)⟩
theorem EmI.keep {W2:World} {c:Nat} {gxs:List Value} {n:Nat} {v:Value} {xs:List Value} {w w':World} (h:EmI W2 c gxs n v xs w) (hb:Below w.heap.size w w'):EmI W2 c gxs n v xs w' :=
 ⟨h.made.keep hb,h.own,hb.os.trans h.os,hb.tape.trans h.tape,hb.output.trans h.output,Nat.le_trans h.size hb.size,fun b h1 h2=>(hb.block b (Nat.lt_of_lt_of_le h1 h.size)).trans (h.block b h1 h2),h.el⟩
theorem emit_em {Tb:World→Prop} (hV:ValidSaid Tb) (hL:Lies Tb) (W2 w0 wr wx:World) (c n:Nat) (gxs:List Value) (v:Value) (xs:List Value) (made:List T) (t:T) (A C:Option Addr) (B D:Nat) (h:EmI W2 c gxs n v xs wr) (hb:Below wr.heap.size wr wx) (hn:n≤1000000) (hc:w0.heap.size≤c) (hcw:c<W2.heap.size) (hf:fv gxs n=.agg #[.int .i64 (kindOf t),.int .i64 (nOf t),.string (sOf t),.slice A (nL t) B,.slice C (nK t) D]) (ha:AtP (fun b=>b≠c) W2 15 (.agg #[.int .i64 (kindOf t),.int .i64 (nOf t),.string (sOf t),.slice A (nL t) B,.slice C (nK t) D]) t) (hT:Tb wx) :
  Calls Tryz.prog 227 #[.pointer (some ⟨c,0,none⟩),.agg #[.int .i64 (kindOf t),.int .i64 (nOf t),.string (sOf t),.slice A (nL t) B,.slice C (nK t) D]] wx (WkPost emE made (fun s' w'=>s'=made++[t]∧∃ v xs,EmI W2 c gxs (n+1) v xs w') t w0 wx):=by
 have h':=h.keep hb
 have hat:AtP (fun _=>True) wx 15 (.agg #[.int .i64 (kindOf t),.int .i64 (nOf t),.string (sOf t),.slice A (nL t) B,.slice C (nK t) D]) t:=ha.move h'.size fun b h1 h2=>⟨True.intro,h'.block b h1 h2⟩
 have hsz:=h'.size
 refine (emit_any hV hL c 15 t v n xs A C B D wx h'.made hn hat.at hT).mono ?_
 rintro e w' (⟨b2,hbig,rfl⟩ | ⟨hB,hbig,rfl,hoff,g,cap,q0,f0,hg,hO⟩)
 ·exact ⟨b2.mono (by omega),.inl ⟨15,by unfold emE;rw [hbig];rfl,by decide,rfl⟩⟩
 ·have hx:xs.length=n*5:=h'.made.row.1
  have s2:=hB.size
  have old:∀ b,b<W2.heap.size→b≠c→w'.heap[b]?=wx.heap[b]?:=fun b h1 h2=>hB.block b (by omega) h2 (fun e=>by have:=h'.own b e.symm;omega)
  have hgW:W2.heap.size≤g:=by
   rcases hg with hg | hg
   ·exact h'.own g hg
   ·omega
  refine ⟨⟨hB.os,hB.tape,hB.output,hB.size,fun b hb'=>old b (by omega) (by omega)⟩,.inr ⟨made++[t],by unfold emE;rw [hbig];rfl,rfl,rfl,_,_,⟨q0,f0,by omega,hO,?_⟩,?_,hB.os.trans h'.os,hB.tape.trans h'.tape,hB.output.trans h'.output,by omega,fun b h1 h2=>(old b h1 h2).trans (h'.block b h1 h2),fun i hi=>?_⟩⟩
  ·simp only [Value.ownBlock,ne_eq,Option.some.injEq]
   omega
  ·intro b e
   simp only [Value.ownBlock,Option.some.injEq] at e
   omega
  ·by_cases e:i<n
   ·rw [fv_first hx e];exact h'.el i e
   ·obtain rfl:i=n:=by omega
    rw [fv_last hx,hf]
theorem EmI.docs {W2:World} {c:Nat} {gxs:List Value} {v:Value} {xs:List Value} {w:World} {l:List T} (h:EmI W2 c gxs l.length v xs w) (hn:l.length≤1000000) (ha:∀ i,(h:i<l.length)→AtP (fun b=>b≠c) W2 15 (fv gxs i) l[i]) (hs:∀ i,(h:i<l.length)→tooBig l[i]=false):DocsAt w v l:=by
 have h1:=h.made
 have hx:xs.length=l.length*5:=h1.row.1
 rcases h1.row.2 with ⟨rfl,h0⟩ | ⟨g,cap,cur,rfl,hb0,hg,hnc,hcm,rest⟩
 ·exact ⟨none,0,by rw [h0],hn,by omega,by omega,fun i hi=>by rw [nL_mk] at hi;omega,fun i hi=>(small_good (hs i hi)).2⟩
 ·refine ⟨_,_,rfl,hn,hnc,by unfold maxLen at hcm;omega,fun i hi=>?_,fun i hi=>(small_good (hs i hi)).2⟩
  rw [nL_mk] at hi
  have hc:∀ j,j<5→w.cell? ⟨g,i*5+j,none⟩=some (cx xs (i*5+j)):=fun j hj=>row_cell h1.row (cx_some (by omega))
  refine ⟨g,0,cx xs (i*5),cx xs (i*5+1),cx xs (i*5+2),cx xs (i*5+3),cx xs (i*5+4),rfl,(Array.getElem?_eq_some_iff.1 hg).1,(by rw [Nat.zero_add];exact hc 0 (by omega)),(by rw [Nat.zero_add];exact hc 1 (by omega)),(by rw [Nat.zero_add];exact hc 2 (by omega)),(by rw [Nat.zero_add];exact hc 3 (by omega)),(by rw [Nat.zero_add];exact hc 4 (by omega)),?_⟩
  rw [elt_docs l hi]
  show At w 13 (fv xs i) l[i]
  rw [h.el i hi]
  have h2:AtP (fun _=>True) w 15 (fv gxs i) l[i]:=(ha i hi).move h.size fun b k1 k2=>⟨True.intro,h.block b k1 k2⟩
  exact (h2.fit (small_good (hs i hi)).1).at
end Go.Proofs.YtknakfpciccoaabGreatDoor
/- How groups grow; how they begin. -/
namespace Go.Proofs.YtknakfpciccoaabGreatDoor
open Go.RowKit
theorem rowE_low (doc:T):∀ (es:List (ByteArray×(T→Int⊕T))) (k:Nat) (a a':List T),rowE doc es k a=.inr a'→∀ j,j<k→a'.getD j zeroT=a.getD j zeroT
 | [],k,a,a',h,j,hj=>by
  simp only [rowE,Sum.inr.injEq] at h
  rw [h]
 | e0::es,k,a,a',h,j,hj=>by
  rw [rowE] at h
  cases h0:accS e0.2 e0.1 (a.getD k zeroT) doc with
  | inl y=>rw [h0] at h;cases h
  | inr t =>
   rw [h0] at h
   rw [rowE_low doc es (k+1) (a.set k t) a' h j (by omega),List.getD_eq_getElem?_getD,List.getElem?_set_ne (by omega),← List.getD_eq_getElem?_getD]
theorem accS_nL {g:T→Int⊕T} {op:ByteArray} {s doc t:T} (ho:op=gList) (h:accS g op s doc=.inr t):nL t≤nL s+1:=by
 unfold accS at h
 rw [if_pos ho] at h
 cases hg:g doc with
 | inl x=>rw [hg] at h;cases h
 | inr v =>
  rw [hg] at h
  simp only [Sum.inr.injEq] at h
  rw [← h,nL_mk,List.length_append]
  exact Nat.le_refl _
theorem rowE_nL (doc:T):∀ (es:List (ByteArray×(T→Int⊕T))) (k:Nat) (a a':List T),rowE doc es k a=.inr a'→∀ j,(hj:j<es.length)→es[j].1=gList→nL (a'.getD (k+j) zeroT)≤nL (a.getD (k+j) zeroT)+1
 | [],k,a,a',h,j,hj,_=>absurd hj (Nat.not_lt_zero j)
 | e0::es,k,a,a',h,j,hj,ho=>by
  rw [rowE] at h
  cases h0:accS e0.2 e0.1 (a.getD k zeroT) doc with
  | inl y=>rw [h0] at h;cases h
  | inr t =>
   rw [h0] at h
   cases j with
   | zero =>
    rw [Nat.add_zero,rowE_low doc es (k+1) (a.set k t) a' h k (by omega)]
    by_cases hk:k<a.length
    ·rw [List.getD_eq_getElem?_getD,List.getElem?_set_self hk]
     exact accS_nL ho h0
    ·rw [List.getD_eq_getElem?_getD,List.getElem?_eq_none (by rw [List.length_set];omega)]
     exact Nat.zero_le _
   | succ j =>
    have:=rowE_nL doc es (k+1) (a.set k t) a' h j (by rw [List.length_cons] at hj;omega) ho
    rw [show k+1+j=k+(j+1) by omega] at this
    rw [show (a.set k t).getD (k+(j+1)) zeroT=a.getD (k+(j+1)) zeroT by rw [List.getD_eq_getElem?_getD,List.getElem?_set_ne (by omega),← List.getD_eq_getElem?_getD]] at this
    exact this
theorem stRow_ne (S:List (T×List T)) (i:Nat) (a:List T) {k:Nat} (hk:k<S.length) (h:¬ i=k):(stRow S i a)[k]'(by rw [stRow_len];exact hk)=S[k]:=by
 unfold stRow
 rw [List.getElem_modify,if_neg h]
theorem takE_form {gb:T→Int⊕T} {es:List (ByteArray×(T→Int⊕T))} {st st':List (T×List T)} {doc:T} (h:takE gb es st doc=.inr st'):∃ b a,rowE doc es 0 ((gthS es.length st b)[gthI st b]'(gth_lt _ _ _)).2=.inr a∧st'=stRow (gthS es.length st b) (gthI st b) a:=by
 unfold takE at h
 cases hg:gb doc with
 | inl x=>rw [hg] at h;cases h
 | inr b =>
  rw [hg] at h
  dsimp only at h
  cases hr:rowE doc es 0 ((gthS es.length st b)[gthI st b]'(gth_lt _ _ _)).2 with
  | inl x=>rw [hr] at h;cases h
  | inr a =>
   rw [hr] at h
   simp only [Sum.inr.injEq] at h
   exact ⟨b,a,hr,h.symm⟩
theorem gthS_len (n:Nat) (st:List (T×List T)) (b:T):(gthS n st b).length≤st.length+1:=by
 unfold gthS
 by_cases h:gthI st b<st.length
 ·rw [if_pos h];omega
 ·rw [if_neg h,List.length_append];exact Nat.le_refl _
theorem takE_len {gb:T→Int⊕T} {es:List (ByteArray×(T→Int⊕T))} {st st':List (T×List T)} {doc:T} (h:takE gb es st doc=.inr st'):st'.length≤st.length+1:=by
 obtain ⟨b,a,_,rfl⟩:=takE_form h
 rw [stRow_len]
 exact gthS_len _ _ _
theorem takE_nL {gb:T→Int⊕T} {es:List (ByteArray×(T→Int⊕T))} {st st':List (T×List T)} {doc:T} {N:Nat} (h:takE gb es st doc=.inr st') (hl:∀ i,(h:i<st.length)→∀ j,(∃ hj:j<es.length,es[j].1=gList)→nL (st[i].2.getD j zeroT)≤N):∀ i,(h:i<st'.length)→∀ j,(∃ hj:j<es.length,es[j].1=gList)→nL (st'[i].2.getD j zeroT)≤N+1:=by
 obtain ⟨b,a,hr,rfl⟩:=takE_form h
 intro i hi j hj
 have hi2:i<(gthS es.length st b).length:=by rw [stRow_len] at hi;exact hi
 by_cases e:gthI st b=i
 ·subst e
  rw [stRow_get _ _ _ hi2]
  have h1:=rowE_nL doc es 0 _ a hr j hj.1 hj.2
  rw [Nat.zero_add] at h1
  have h2:=gth_nL (n:=es.length) b hl j hj
  omega
 ·have e1:(stRow (gthS es.length st b) (gthI st b) a)[i]=(gthS es.length st b)[i]:=stRow_ne _ _ _ hi2 e
  rw [e1]
  have hle:gthI st b≤st.length:=List.findIdx_le_length
  by_cases e2:gthI st b<st.length
  ·have e3:gthS es.length st b=st:=by unfold gthS;rw [if_pos e2]
   simp only [e3] at hi2 ⊢
   have:=hl i hi2 j hj
   omega
  ·have e3:gthS es.length st b=st++[(b,List.replicate es.length zeroT)]:=by unfold gthS;rw [if_neg e2]
   have hi3:i<st.length:=by
    rw [e3,List.length_append,List.length_cons,List.length_nil] at hi2
    omega
   simp only [e3,List.getElem_append_left hi3]
   have:=hl i hi3 j hj
   omega
theorem GrI.start (w:World) (NA:Option Addr) (nc:Nat) (bv ev:Value) (ops:List ByteArray):GrI w w.heap.size NA nc bv ev ops (fun b=>if b=w.heap.size then .box else .no) (.slice none 0 0) [] (fun _=>0) (fun _=>[]) [] (w.alloc (.cells #[.slice none 0 0,.slice NA (ops.length+1) nc,bv,ev,.slice none 0 0] 178)):=by
 refine ⟨if_pos rfl,fun b hb=>?_,by simp [go_sem],by simp [go_sem],by simp [go_sem],by simp [go_sem],by simp [go_sem],by simp [go_sem],by simp [go_sem],World.ownsRow_nil _ _ _ _,fun b e=>by simp [Value.ownBlock] at e,fun i hi=>absurd hi (Nat.not_lt_zero i),fun i hi=>absurd hi (Nat.not_lt_zero i),fun i hi=>absurd hi (Nat.not_lt_zero i),fun i hi=>absurd hi (Nat.not_lt_zero i),fun i hi=>absurd hi (Nat.not_lt_zero i),fun i hi=>absurd hi (Nat.not_lt_zero i)⟩
 by_cases e:b=w.heap.size
 ·subst e
  exact ⟨Nat.le_refl _,by simp⟩
 ·simp only [if_neg e] at hb
  exact absurd rfl hb
end Go.Proofs.YtknakfpciccoaabGreatDoor
