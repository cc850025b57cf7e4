import Derived.Test.YtknakfpciccoaabGreatDoorZU23
import Derived.Test.YtknakfpciccoaabGreatDoorZU24
import Derived.Test.YtknakfpciccoaabGreatDoorZU12
/- The walk of Put, for a path of one step. -/
namespace Go.Proofs.YtknakfpciccoaabGreatDoor
open Go.RowKit
set_option maxHeartbeats 8000000 in
set_option maxRecDepth 100000 in
theorem cloneW_any (f b o m c:Nat) (t:T) (w0 w:World) (hw0:Below w0.heap.size w0 w) (h:ElemsAt w0 f (some ⟨b,o,none⟩) t) (hm:nL t=m) (hn:m≤2000000) (hb0:b<w0.heap.size) :
  Calls Tryz.prog 234 #[.slice (some ⟨b,o,none⟩) m c] w fun e w'=>Below w.heap.size w w'∧∃ v zs,e=.returned v∧w'.ownsRow w.heap.size 36 5 v m zs∧∀ i,i<m→At w0 f (fv zs i) (elt t i):=by
 have hbw:b<w.heap.size:=Nat.lt_of_lt_of_le hb0 hw0.size
 obtain ⟨iV,hiV,zV0,zV1,zV2⟩:=info_parts infoV
 obtain ⟨zs,h1,h2,h3,h4⟩:=elems_list h (nL t) (Nat.le_refl _)
 rw [hm] at h1 h2
 have HB1:Hid (Below w.heap.size w (w.alloc (.cells #[] 36))):=(Below.refl _ _).alloc (Nat.le_refl _) _
 have HO:Hid ((w.alloc (.cells #[] 36)).ownsRow w.heap.size 36 5 (.slice (some ⟨w.heap.size,0,none⟩) 0 0) 0 []):=by
  have:=World.ownsRow_lit (base:=w.heap.size) (e:=36) (size:=5) w #[] 0 (Nat.le_refl _) (by unfold maxLen;omega) rfl
  have h5:(w.alloc (.cells #[] 36)).ownsRow w.heap.size 36 5 (.slice (some ⟨w.heap.size,0,none⟩) 0 0) 0 []:=by simpa using this
  exact h5
 have HS:Hid (Src Tryz.prog 5 34 (.slice (some ⟨b,o,none⟩) m c) m zs (w.alloc (.cells #[] 36))):=Src.ofSlice _ Tryz.underlying34 ⟨b,o,none⟩ m c zs h1 (fun j u hu=>by rw [show (⟨b,o,none⟩:Addr).add j=⟨b,o+j,none⟩ by unfold Addr.add;by_cases e:j=0<;>simp [e]];exact (HB1.out.cell (p:=⟨b,o+j,none⟩) hbw).trans ((hw0.cell (p:=⟨b,o+j,none⟩) hb0).trans (h3 j u hu))) h4
 have Hz:=hid (And.intro h1 h2)
 clear h h1 h2 h3 h4 hm
 have heq:(binOp .eql 34 (.slice (some ⟨b,o,none⟩) m c) (.slice none 0 0)).run Tryz.prog w=.ok (.bool false) w:=by kernel_rfl
 go_enter Tryz.func234,Tryz.ntmps234
 go_wp2_with (at_builtin;refine wpList_append_src _ rfl (.tmp 5) (.tmp 6) 34 34 rfl w.heap.size 36 iV _ 5 80 Tryz.underlying34 hiV zV0 zV1 zV2 rfl (.slice (some ⟨w.heap.size,0,none⟩) 0 0) 0 [] rfl HO.out (.slice (some ⟨b,o,none⟩) m c) m zs rfl HS.out (by unfold maxLen;omega) (by omega) (by simp) ?_;intro v' w6 hO6 hG6 hat6)
 have H6:=hid hO6
 have HB6:=hid (below_grown HB1.out HO.out (Nat.le_refl _) (by simp) hG6)
 clear hO6 hG6 hat6
 go_wp2_with fail
 go_ret
 rw [Nat.zero_add,List.nil_append] at H6
 exact ⟨HB6.out,v',zs,rfl,H6.out,Hz.out.2⟩
set_option maxHeartbeats 4000000 in
set_option maxRecDepth 100000 in
theorem put_nil (PA:Option Addr) (pc:Nat) (x o:T) (XA XC A C:Option Addr) (XB XD B D:Nat) (w:World) :
  Calls Tryz.prog 232 #[.slice PA 0 pc,.agg #[.int .i64 (kindOf x),.int .i64 (nOf x),.string (sOf x),.slice XA (nL x) XB,.slice XC (nK x) XD],.agg #[.int .i64 (kindOf o),.int .i64 (nOf o),.string (sOf o),.slice A (nL o) B,.slice C (nK o) D]] w fun e w'=>Below w.heap.size w w'∧e=.returned (.agg #[.int .i64 (kindOf o),.int .i64 (nOf o),.string (sOf o),.slice A (nL o) B,.slice C (nK o) D]):=by
 have HB:Hid (Below w.heap.size w (((w.alloc (.cells #[.int .i64 (kindOf x),.int .i64 (nOf x),.string (sOf x),.slice XA (nL x) XB,.slice XC (nK x) XD] 36)).alloc (.cells #[.int .i64 (kindOf o),.int .i64 (nOf o),.string (sOf o),.slice A (nL o) B,.slice C (nK o) D] 36)).alloc (.cells #[.int .i64 (kindOf o),.int .i64 (nOf o),.string (sOf o),.slice A (nL o) B,.slice C (nK o) D] 36))):=(((Below.refl _ _).alloc (Nat.le_refl _) _).alloc (by simp) _).alloc (by simp;omega) _
 go_enter Tryz.func232,Tryz.ntmps232
 go_wp2_with fail
 refine bodyPost_ret (v:=.agg #[.int .i64 (kindOf o),.int .i64 (nOf o),.string (sOf o),.slice A (nL o) B,.slice C (nK o) D]) (by simp [results,Tryz.results232,go_sem]) rfl ?_
 exact ⟨HB.out,rfl⟩
theorem row_at {w w':World} {base g n cap:Nat} {e:TypeId} {s:Nat} {xs:List Value} (h:w.ownsRow base e s (.slice (some ⟨g,0,none⟩) n cap) n xs) (hg:w'.heap[g]?=w.heap[g]?):w'.ownsRow base e s (.slice (some ⟨g,0,none⟩) n cap) n xs:=by
 refine ⟨h.1,?_⟩
 rcases h.2 with ⟨h1,_⟩ | ⟨g',cap',cur,h1,h2,h3,h4⟩
 ·cases h1
 ·cases h1
  exact .inr ⟨g,cap,cur,rfl,h2,hg.trans h3,h4⟩
theorem row_free {w:World} {base g n cap:Nat} {e:TypeId} {s:Nat} {xs:List Value} (h:w.ownsRow base e s (.slice (some ⟨g,0,none⟩) n cap) n xs) (j:Nat):w.frozen? ⟨g,j,none⟩=false:=by
 rcases h.2 with ⟨h1,_⟩ | ⟨g',cap',cur,h1,h2,h3,h4⟩
 ·cases h1
 ·cases h1
  exact frozen_of_row _ g j _ _ h3
theorem row_cellsP {w:World} {lo g n cap:Nat} {xs:List Value} (h:w.ownsRow lo 36 5 (.slice (some ⟨g,0,none⟩) n cap) n xs) {k:Nat} (hk:k<n) {u0 u1 u2 u3 u4:Value} (hf:fv xs k=.agg #[u0,u1,u2,u3,u4]) :
  w.cell? ⟨g,k*5,none⟩=some u0∧w.cell? ⟨g,k*5+1,none⟩=some u1∧w.cell? ⟨g,k*5+2,none⟩=some u2∧w.cell? ⟨g,k*5+3,none⟩=some u3∧w.cell? ⟨g,k*5+4,none⟩=some u4:=by
 have hx:xs.length=n*5:=h.1
 unfold fv at hf
 simp only [Value.agg.injEq,Array.mk.injEq,List.cons.injEq,and_true] at hf
 have hc:∀ r,r<5→w.cell? ⟨g,k*5+r,none⟩=some (cx xs (k*5+r)):=fun r hr'=>row_cell h (cx_some (by omega))
 refine ⟨?_,?_,?_,?_,?_⟩
 ·rw [← hf.1];exact hc 0 (by omega)
 ·rw [← hf.2.1];exact hc 1 (by omega)
 ·rw [← hf.2.2.1];exact hc 2 (by omega)
 ·rw [← hf.2.2.2.1];exact hc 3 (by omega)
 ·rw [← hf.2.2.2.2];exact hc 4 (by omega)
def putT (t:T) (k:Nat) (o:T):T:=mkT (kindOf t) (nOf t) (sOf t) ((lOf t).set k o) (kOf t)
structure PtB (b:Nat) (t o:T) (La Ka A C:Option Addr) (Lc Kc B D:Nat) (w:World):Prop where
 v:BoxAt b (.int .i64 (kindOf t)) (.int .i64 (nOf t)) (.string (sOf t)) (.slice La (nL t) Lc) (.slice Ka (nK t) Kc) w
 o:BoxAt (b+1) (.int .i64 (kindOf o)) (.int .i64 (nOf o)) (.string (sOf o)) (.slice A (nL o) B) (.slice C (nK o) D) w
 r:BoxAt (b+2) (.int .i64 0) (.int .i64 0) (.string ⟨#[]⟩) (.slice none 0 0) (.slice none 0 0) w
theorem PtB.stay {b:Nat} {t o:T} {La Ka A C:Option Addr} {Lc Kc B D:Nat} {w w':World} (h:PtB b t o La Ka A C Lc Kc B D w) (hb:Below w.heap.size w w'):PtB b t o La Ka A C Lc Kc B D w':=⟨h.v.stay hb,h.o.stay hb,h.r.stay hb⟩
theorem PtB.new (t o:T) (La Ka A C:Option Addr) (Lc Kc B D:Nat) (w:World):PtB w.heap.size t o La Ka A C Lc Kc B D (((w.alloc (.cells #[.int .i64 (kindOf t),.int .i64 (nOf t),.string (sOf t),.slice La (nL t) Lc,.slice Ka (nK t) Kc] 36)).alloc (.cells #[.int .i64 (kindOf o),.int .i64 (nOf o),.string (sOf o),.slice A (nL o) B,.slice C (nK o) D] 36)).alloc (.cells #[.int .i64 0,.int .i64 0,.string ⟨#[]⟩,.slice none 0 0,.slice none 0 0] 36)):=by
 refine ⟨?_,?_,?_⟩
 ·constructor<;>simp [go_sem]
 ·constructor<;>simp [go_sem]
 ·constructor<;>simp [go_sem]
theorem BoxAt.of_block {b:Nat} {c0 c1 c2 c3 c4:Value} {w w':World} (h:BoxAt b c0 c1 c2 c3 c4 w) (e:w'.heap[b]?=w.heap[b]?):BoxAt b c0 c1 c2 c3 c4 w' :=
 ⟨(cell_of e _).trans h.q0,(cell_of e _).trans h.q1,(cell_of e _).trans h.q2,(cell_of e _).trans h.q3,(cell_of e _).trans h.q4,(World.frozen?_of_block (a:=⟨b,0,none⟩) e).trans h.f0,(World.frozen?_of_block (a:=⟨b,1,none⟩) e).trans h.f1,(World.frozen?_of_block (a:=⟨b,2,none⟩) e).trans h.f2,(World.frozen?_of_block (a:=⟨b,3,none⟩) e).trans h.f3,(World.frozen?_of_block (a:=⟨b,4,none⟩) e).trans h.f4,by
  have h1:=h.lt
  rw [Array.getElem?_eq_getElem h1] at e
  exact (Array.getElem?_eq_some_iff.1 e).1⟩
theorem BoxAt.set_v {b c:Nat} {c0 c1 c2 c3 c4:Value} {w:World} (h:BoxAt b c0 c1 c2 c3 c4 w) (o:Nat) (u:Value) (hc:c≠b):BoxAt b c0 c1 c2 c3 c4 (w.setCell ⟨c,o,none⟩ u) :=
 h.of_block (Below.heap_setCell _ _ _ _ (by simp;omega))
theorem PtB.off {b g:Nat} {t o:T} {La Ka A C:Option Addr} {Lc Kc B D:Nat} {w w':World} (h:PtB b t o La Ka A C Lc Kc B D w) (hG:w.grownBy w' (some g)) (hg:b+2<g):PtB b t o La Ka A C Lc Kc B D w' :=
 ⟨h.v.of_block (hG.block b h.v.lt (by simp;omega)),h.o.of_block (hG.block (b+1) h.o.lt (by simp;omega)),h.r.of_block (hG.block (b+2) h.r.lt (by simp;omega))⟩
theorem grown_low {w w1 w2:World} {g:Nat} (h:Below w.heap.size w w1) (hG:w1.grownBy w2 (some g)) (hg:w.heap.size≤g):Below w.heap.size w w2 :=
 h.trans ⟨hG.os,hG.tape,hG.output,hG.size,fun b hb=>hG.block b (Nat.lt_of_lt_of_le hb h.size) (by simp;omega)⟩
theorem set_low {w W:World} (h:Below w.heap.size w W) {b:Nat} (hb:w.heap.size≤b) (o:Nat) (u:Value):Below w.heap.size w (W.setCell ⟨b,o,none⟩ u):=by
 obtain ⟨t1,t2,t3,t4⟩:=setC_rest W ⟨b,o,none⟩ u
 exact ⟨t2.trans h.os,t3.trans h.tape,t4.trans h.output,by rw [t1];exact h.size,fun k hk=>(Below.heap_setCell _ _ _ _ (by simp;omega)).trans (h.block k hk)⟩
theorem set_size (W:World) (a:Addr) (u:Value):(W.setCell a u).heap.size=W.heap.size:=(setC_rest W a u).1
theorem put_at {w0 w5 w6 Wf:World} {t o:T} {k g cap g1 lo:Nat} {Ka A C:Option Addr} {Kc B D:Nat} {La:Option Addr} {zs:List Value} (hfit:Fits t) (_hel:ElemsAt w0 g1 La t) (hnm:NamesAt w0 Ka t) (hg1:g1≤13) (ho:At w0 13 (.agg #[.int .i64 (kindOf o),.int .i64 (nOf o),.string (sOf o),.slice A (nL o) B,.slice C (nK o) D]) o) (hzs:∀ i,i<nL t→At w0 g1 (fv zs i) (elt t i)) (hk:k<nL t)
  (_hr:∀ w':World,Below w6.heap.size w6 w'→w'.ownsRow w5.heap.size 36 5 (.slice (some ⟨g,0,none⟩) (nL t) cap) (nL t) zs)
  (hrow:Wf.ownsRow w5.heap.size 36 5 (.slice (some ⟨g,0,none⟩) (nL t) cap) (nL t) (setV zs k (.int .i64 (kindOf o)) (.int .i64 (nOf o)) (.string (sOf o)) (.slice A (nL o) B) (.slice C (nK o) D))) (hb:Below w0.heap.size w0 Wf) (hlo:lo≤g) :
  AtP (fun b=>b<w0.heap.size∨lo≤b) Wf 15 (.agg #[.int .i64 (kindOf t),.int .i64 (nOf t),.string (sOf t),.slice (some ⟨g,0,none⟩) (nL t) cap,.slice Ka (nK t) Kc]) (putT t k o):=by
 have hgl:g<Wf.heap.size:=by
  rcases hrow.2 with ⟨h1,_⟩ | ⟨g',cap',cur,h1,h2,h3,h4⟩
  ·cases h1
  ·cases h1
   exact (Array.getElem?_eq_some_iff.1 h3).1
 have hnl:nL (putT t k o)=nL t:=by unfold putT;rw [nL_mk,List.length_set];rfl
 have hnk:nK (putT t k o)=nK t:=by unfold putT;rw [nK_mk];rfl
 have hx:=hrow.1
 have hx0:zs.length=nL t*5:=by rw [setV_len] at hx;exact hx
 refine ⟨some ⟨g,0,none⟩,Ka,cap,Kc,?_,?_,fun i hi=>?_,fun i hi=>?_⟩
 ·rw [hnl,hnk]
  unfold putT
  rw [kindOf_mk,nOf_mk,sOf_mk]
 ·refine ⟨?_,?_,?_,?_,?_,?_,?_⟩
  ·unfold putT;rw [kindOf_mk];exact hfit.1
  ·unfold putT;rw [kindOf_mk];exact hfit.2
  ·unfold putT;rw [nOf_mk];exact hfit.3
  ·unfold putT;rw [nOf_mk];exact hfit.4
  ·unfold putT;rw [sOf_mk];exact hfit.5
  ·rw [hnl];exact hfit.6
  ·rw [hnk];exact hfit.7
 ·rw [hnl] at hi
  have up:∀ {f:Nat} {v:Value} {x:T},f≤14→At w0 f v x→AtP (fun b=>b<w0.heap.size∨lo≤b) Wf 14 v x:=fun hf ha=>At.toP (fun b hb'=>.inl hb') hb (ha.up hf)
  obtain ⟨u0,u1,u2,u3,u4,hfu,hau⟩:∃ u0 u1 u2 u3 u4,fv (setV zs k (.int .i64 (kindOf o)) (.int .i64 (nOf o)) (.string (sOf o)) (.slice A (nL o) B) (.slice C (nK o) D)) i=.agg #[u0,u1,u2,u3,u4]∧AtP (fun b=>b<w0.heap.size∨lo≤b) Wf 14 (.agg #[u0,u1,u2,u3,u4]) (elt (putT t k o) i):=by
   by_cases e:i=k
   ·subst e
    refine ⟨_,_,_,_,_,fv_setV_same (by omega) _ _ _ _ _,?_⟩
    have e2:elt (putT t i o) i=o:=by
     unfold putT
     rw [elt_mk,List.getD_eq_getElem?_getD,List.getElem?_set_self (by exact hi)]
     rfl
    rw [e2]
    exact up (by omega) ho
   ·refine ⟨_,_,_,_,_,rfl,?_⟩
    have e2:elt (putT t k o) i=elt t i:=by
     unfold putT
     rw [elt_mk,List.getD_eq_getElem?_getD,List.getElem?_set_ne (by omega),← List.getD_eq_getElem?_getD]
     rfl
    have e3:=fv_setV_other (xs:=zs) (i:=k) (k:=i) e (.int .i64 (kindOf o)) (.int .i64 (nOf o)) (.string (sOf o)) (.slice A (nL o) B) (.slice C (nK o) D)
    rw [e2]
    have:=up (by omega) (hzs i hi)
    rw [← e3] at this
    exact this
  obtain ⟨c0,c1,c2,c3,c4⟩:=row_cellsP hrow hi hfu
  refine ⟨g,0,u0,u1,u2,u3,u4,rfl,⟨hgl,.inr hlo⟩,?_,?_,?_,?_,?_,hau⟩
  ·rw [Nat.zero_add];exact c0
  ·rw [Nat.zero_add];exact c1
  ·rw [Nat.zero_add];exact c2
  ·rw [Nat.zero_add];exact c3
  ·rw [Nat.zero_add];exact c4
 ·rw [hnk] at hi
  obtain ⟨b,oo,h0,hbl,h2,h3⟩:=hnm i hi
  have e2:nam (putT t k o) i=nam t i:=by unfold putT;rw [nam_mk];rfl
  rw [e2]
  exact ⟨b,oo,h0,⟨Nat.lt_of_lt_of_le hbl hb.size,.inl hbl⟩,h2,(hb.cell (p:=⟨b,_,none⟩) hbl).trans h3⟩
set_option maxHeartbeats 8000000 in
set_option maxRecDepth 100000 in
theorem put_one {Tb:World→Prop} (hA:AtoiSaid Tb) (hI:ItoaSaid Tb) (hL:Lies Tb) (pb po pc:Nat) (y:ByteArray) (t o:T) (k:Nat) (La Ka A C:Option Addr) (Lc Kc B D:Nat) (w0 w:World) (hb0:Below w0.heap.size w0 w) (hp:w.cell? ⟨pb,po,none⟩=some (.string y)) (hpl:pb<w.heap.size) (hy:y.size≤140737488355328) (h:At w0 13 (.agg #[.int .i64 (kindOf t),.int .i64 (nOf t),.string (sOf t),.slice La (nL t) Lc,.slice Ka (nK t) Kc]) t) (ho:At w0 13 (.agg #[.int .i64 (kindOf o),.int .i64 (nOf o),.string (sOf o),.slice A (nL o) B,.slice C (nK o) D]) o) (hok:okA t) (hk:plc y t=some k) (hsm:nL t≤2000000) (hT:Tb w) :
  Calls Tryz.prog 232 #[.slice (some ⟨pb,po,none⟩) 1 pc,.agg #[.int .i64 (kindOf t),.int .i64 (nOf t),.string (sOf t),.slice La (nL t) Lc,.slice Ka (nK t) Kc],.agg #[.int .i64 (kindOf o),.int .i64 (nOf o),.string (sOf o),.slice A (nL o) B,.slice C (nK o) D]] w fun e w'=>Below w.heap.size w w'∧∃ RA Rc,e=.returned (.agg #[.int .i64 (kindOf t),.int .i64 (nOf t),.string (sOf t),.slice RA (nL t) Rc,.slice Ka (nK t) Kc])∧AtP (fun b=>b<w0.heap.size∨w.heap.size≤b) w' 15 (.agg #[.int .i64 (kindOf t),.int .i64 (nOf t),.string (sOf t),.slice RA (nL t) Rc,.slice Ka (nK t) Kc]) (putT t k o):=by
 have hkl:k<nL t:=plc_lt hk fun h6=>hok.names h6
 have Ht:=hid h
 obtain ⟨g1,La1,Ka1,Lc1,Kc1,hg1,hx,hfit,hel,hnm⟩:=h.open
 simp only [Value.agg.injEq,Array.mk.injEq,List.cons.injEq,Value.slice.injEq,and_true,true_and] at hx
 obtain ⟨⟨rfl,rfl⟩,rfl,rfl⟩:=hx
 obtain ⟨eb,eo,hLa,hebl⟩:∃ eb eo,La=some ⟨eb,eo,none⟩∧eb<w0.heap.size:=by
  obtain ⟨b,o,_,_,_,_,_,h0,h1,_⟩:=hel.out k hkl
  exact ⟨b,o,h0,h1⟩
 subst hLa
 have hlm:nL t≤2000000:=hsm
 have HB1:Hid (Below w.heap.size w (((w.alloc (.cells #[.int .i64 (kindOf t),.int .i64 (nOf t),.string (sOf t),.slice (some ⟨eb,eo,none⟩) (nL t) Lc,.slice Ka (nK t) Kc] 36)).alloc (.cells #[.int .i64 (kindOf o),.int .i64 (nOf o),.string (sOf o),.slice A (nL o) B,.slice C (nK o) D] 36)).alloc (.cells #[.int .i64 0,.int .i64 0,.string ⟨#[]⟩,.slice none 0 0,.slice none 0 0] 36))):=(((Below.refl _ _).alloc (Nat.le_refl _) _).alloc (by simp) _).alloc (by simp;omega) _
 have HX1:=hid (PtB.new t o (some ⟨eb,eo,none⟩) Ka A C Lc Kc B D w)
 have Hb0:=hid hb0
 have HT:Hid (∀ w':World,Below w.heap.size w w'→Tb w'):=fun w' hb=>hL w hT w w' hT hb
 have HPl:Hid (∀ w':World,Below w.heap.size w w'→Calls Tryz.prog 233 #[.string y,.agg #[.int .i64 (kindOf t),.int .i64 (nOf t),.string (sOf t),.slice (some ⟨eb,eo,none⟩) (nL t) Lc,.slice Ka (nK t) Kc]] w' fun e w2=>e=.returned (.int .i64 (k:Nat))∧Below w'.heap.size w' w2):=fun w' hb=>(placeOf_any hA hI hL y 13 _ t w' hy (Ht.out.keep (hb0.trans (hb.mono hb0.size))) (HT.out _ hb)).mono fun e w2 hh=>⟨by rw [hh.1,hk];rfl,hh.2⟩
 have HCl:Hid (∀ w':World,Below w.heap.size w w'→Calls Tryz.prog 234 #[.slice (some ⟨eb,eo,none⟩) (nL t) Lc] w' fun e w2=>Below w'.heap.size w' w2∧∃ v zs,e=.returned v∧w2.ownsRow w'.heap.size 36 5 v (nL t) zs∧∀ i,i<nL t→At w0 g1 (fv zs i) (elt t i)):=fun w' hb=>by
  have:=cloneW_any g1 eb eo (nL t) Lc t w0 w' (hb0.trans (hb.mono hb0.size)) hel.out rfl (by omega) hebl
  exact this
 have Hel:=hid hel.out
 have Hnm:=hid hnm.out
 have Hfit:=hid hfit
 have Ho:=hid ho
 have hpw:∀ w':World,Below w.heap.size w w'→w'.cell? ⟨pb,po,none⟩=some (.string y):=fun w' hb=>(hb.cell (p:=⟨pb,po,none⟩) hpl).trans hp
 have Hpw:=hid hpw
 have Hg1:=hid hg1
 have hkli:(k:Int)<(nL t:Int):=by omega
 clear hA hI hL hb0 hp hpl hy h ho hok hk hT hel hnm hfit hg1 hpw hsm hebl
 go_enter Tryz.func232,Tryz.ntmps232
 go_wp2_with fail
 generalize (((w.alloc (.cells #[.int .i64 (kindOf t),.int .i64 (nOf t),.string (sOf t),.slice (some ⟨eb,eo,none⟩) (nL t) Lc,.slice Ka (nK t) Kc] 36)).alloc (.cells #[.int .i64 (kindOf o),.int .i64 (nOf o),.string (sOf o),.slice A (nL o) B,.slice C (nK o) D] 36)).alloc (.cells #[.int .i64 0,.int .i64 0,.string ⟨#[]⟩,.slice none 0 0,.slice none 0 0] 36))=W1 at HB1 HX1 ⊢
 have HBd:=hid HB1.out.drew
 have HXd:=hid (HX1.out.stay (below_drew _))
 have HP1:=hid (HPl.out _ HBd.out)
 have pd:=Hpw.out _ HB1.out
 have HSo:Hid (∀ wx:World,Below W1.heap.size W1 wx→(wx.cell? ⟨pb,po,none⟩=some (.string y)∧wx.cell? ⟨w.heap.size,0,none⟩=some (.int .i64 (kindOf t))∧wx.cell? ⟨w.heap.size,1,none⟩=some (.int .i64 (nOf t))∧wx.cell? ⟨w.heap.size,2,none⟩=some (.string (sOf t))∧wx.cell? ⟨w.heap.size,3,none⟩=some (.slice (some ⟨eb,eo,none⟩) (nL t) Lc)∧wx.cell? ⟨w.heap.size,4,none⟩=some (.slice Ka (nK t) Kc))):=fun wx hb=>by
  have h1:=HX1.out.stay hb
  exact ⟨Hpw.out _ (HB1.out.trans (hb.mono HB1.out.size)),h1.v.q0,h1.v.q1,h1.v.q2,h1.v.q3,h1.v.q4⟩
 have HSd:=hid (HSo.out _ (below_drew _))
 go_region_held3 (fun wx=>wx.cell? ⟨pb,po,none⟩=some (.string y)∧wx.cell? ⟨w.heap.size,0,none⟩=some (.int .i64 (kindOf t))∧wx.cell? ⟨w.heap.size,1,none⟩=some (.int .i64 (nOf t))∧wx.cell? ⟨w.heap.size,2,none⟩=some (.string (sOf t))∧wx.cell? ⟨w.heap.size,3,none⟩=some (.slice (some ⟨eb,eo,none⟩) (nL t) Lc)∧wx.cell? ⟨w.heap.size,4,none⟩=some (.slice Ka (nK t) Kc)) (first | exact hc5 | exact HSd.out) ((go_at_call 233;refine HP1.out.mono ?_;rintro e5 w5 ⟨rfl,hb5⟩;have hc5:=HSo.out _ ((below_drew _).trans hb5)))
 have HB5:=hid (HBd.out.trans (hb5.mono HBd.out.size))
 have HX5:=hid (HXd.out.stay hb5)
 have HC5:=hid (HCl.out _ HB5.out)
 have v3:=HX5.out.v.q3
 clear hc5 hb5 HSo HSd HP1 HPl HCl pd HBd HXd HB1 HX1
 go_wp2_with fail
 refine HC5.out.mono ?_
 rintro e6 w6 ⟨b6,cv,zs,rfl,hrow,hzs⟩
 obtain ⟨g,cap,rfl,hgl,hglt⟩:∃ g cap,cv=.slice (some ⟨g,0,none⟩) (nL t) cap∧w5.heap.size≤g∧g<w6.heap.size:=by
  rcases hrow.2 with ⟨_,h0⟩ | ⟨g,cap,cur,h1,h2,h3,_⟩
  ·omega
  ·exact ⟨g,cap,h1,h2,(Array.getElem?_eq_some_iff.1 h3).1⟩
 have hzk:=hzs k hkl
 obtain ⟨xt,hxt⟩:∃ xt,elt t k=xt:=⟨_,rfl⟩
 rw [hxt] at hzk
 obtain ⟨g2,XA,XC,XB,XD,_,hfk,_,_,_⟩:=hzk.open
 have HRow:=hid hrow
 have Hzs:=hid hzs
 have HB6:=hid (HB5.out.trans (b6.mono HB5.out.size))
 have HX6:=hid (HX5.out.stay b6)
 have HRw:Hid (∀ w':World,Below w6.heap.size w6 w'→w'.ownsRow w5.heap.size 36 5 (.slice (some ⟨g,0,none⟩) (nL t) cap) (nL t) zs):=fun w' hb=>row_at HRow.out (hb.block g hglt)
 obtain ⟨x0,x1,x2,x3,x4⟩:=row_cellsP HRow.out hkl hfk
 have HFx:Hid (∀ w':World,Below w6.heap.size w6 w'→(w'.cell? ⟨g,k*5,none⟩=some (.int .i64 (kindOf xt))∧w'.cell? ⟨g,k*5+1,none⟩=some (.int .i64 (nOf xt))∧w'.cell? ⟨g,k*5+2,none⟩=some (.string (sOf xt))∧w'.cell? ⟨g,k*5+3,none⟩=some (.slice XA (nL xt) XB)∧w'.cell? ⟨g,k*5+4,none⟩=some (.slice XC (nK xt) XD))∧∀ j,w'.frozen? ⟨g,j,none⟩=false):=fun w' hb=>⟨row_cellsP (HRw.out w' hb) hkl hfk,fun j=>row_free (HRw.out w' hb) j⟩
 have HP7:Hid (∀ (PA:Option Addr) (pc:Nat) (w':World),Calls Tryz.prog 232 #[.slice PA 0 pc,.agg #[.int .i64 (kindOf xt),.int .i64 (nOf xt),.string (sOf xt),.slice XA (nL xt) XB,.slice XC (nK xt) XD],.agg #[.int .i64 (kindOf o),.int .i64 (nOf o),.string (sOf o),.slice A (nL o) B,.slice C (nK o) D]] w' fun e w''=>Below w'.heap.size w' w''∧e=.returned (.agg #[.int .i64 (kindOf o),.int .i64 (nOf o),.string (sOf o),.slice A (nL o) B,.slice C (nK o) D])):=fun PA pc w'=>put_nil PA pc xt o XA XC A C XB XD B D w'
 have HDw:Hid (∀ w':World,Below w6.drew.heap.size w6.drew w'→Below w6.heap.size w6 w'):=fun w' hb=>(below_drew w6).trans hb
 have o0:=HX6.out.o.q0
 have o1:=HX6.out.o.q1
 have o2:=HX6.out.o.q2
 have o3:=HX6.out.o.q3
 have o4:=HX6.out.o.q4
 have HW6:Hid (w.heap.size+2<w5.heap.size):=HX5.out.r.lt
 clear hrow hzs hzk hfk b6 HC5 v3 HX5
 go_wp2_with fail
 go_region_law (go_simp;with_reducible refine Calls.mono (HP7.out _ _ _) ?_;rintro e7 w7 ⟨b7,rfl⟩;dsimp only;have Hb7:=hid (HDw.out w7 b7);have y0:=(HFx.out w7 Hb7.out).1.1;have y1:=(HFx.out w7 Hb7.out).1.2.1;have y2:=(HFx.out w7 Hb7.out).1.2.2.1;have y3:=(HFx.out w7 Hb7.out).1.2.2.2.1;have y4:=(HFx.out w7 Hb7.out).1.2.2.2.2;have yf0:=(HFx.out w7 Hb7.out).2 (k*5);have yf1:=(HFx.out w7 Hb7.out).2 (k*5+1);have yf2:=(HFx.out w7 Hb7.out).2 (k*5+2);have yf3:=(HFx.out w7 Hb7.out).2 (k*5+3);have yf4:=(HFx.out w7 Hb7.out).2 (k*5+4);clear b7)
 all_goals
  have HX7:=hid (HX6.out.stay Hb7.out)
  have HR8:=hid (row_setV (HRw.out w7 Hb7.out) k (.int .i64 (kindOf o)) (.int .i64 (nOf o)) (.string (sOf o)) (.slice A (nL o) B) (.slice C (nK o) D))
  obtain ⟨W8,hW8⟩:∃ W8,put5o w7 g (k*5) (.int .i64 (kindOf o)) (.int .i64 (nOf o)) (.string (sOf o)) (.slice A (nL o) B) (.slice C (nK o) D)=W8:=⟨_,rfl⟩
  rw [hW8] at HR8
  unfold put5o at hW8
  rw [hW8]
  have HX8:=hid (HX7.out.off HR8.out.2 (by have:=HW6.out;omega))
  have HB8:Hid (Below w.heap.size w W8):=grown_low (HB6.out.trans (Hb7.out.mono HB6.out.size)) HR8.out.2 (by have:=HW6.out;omega)
  have HO:=hid ((HX8.out.r.set_v 3 (.slice (some ⟨g,0,none⟩) (nL t) cap) (c:=w.heap.size) (by omega)).put5 (.int .i64 (kindOf t)) (.int .i64 (nOf t)) (.string (sOf t)) (.slice (some ⟨g,0,none⟩) (nL t) cap) (.slice Ka (nK t) Kc))
  have HBf:=hid (below_res (set_low HB8.out (b:=w.heap.size) (Nat.le_refl _) 3 (.slice (some ⟨g,0,none⟩) (nL t) cap)) (b:=w.heap.size+2) (by omega) (by have:=HX8.out.r.lt;rw [set_size];omega) (.int .i64 (kindOf t)) (.int .i64 (nOf t)) (.string (sOf t)) (.slice (some ⟨g,0,none⟩) (nL t) cap) (.slice Ka (nK t) Kc))
  have HRf:=hid (row_at HR8.out.1 (w':=put5 (W8.setCell ⟨w.heap.size,3,none⟩ (.slice (some ⟨g,0,none⟩) (nL t) cap)) (w.heap.size+2) (.int .i64 (kindOf t)) (.int .i64 (nOf t)) (.string (sOf t)) (.slice (some ⟨g,0,none⟩) (nL t) cap) (.slice Ka (nK t) Kc)) ((put5_other _ (by have:=HW6.out;omega) (.int .i64 (kindOf t)) (.int .i64 (nOf t)) (.string (sOf t)) (.slice (some ⟨g,0,none⟩) (nL t) cap) (.slice Ka (nK t) Kc)).trans (Below.heap_setCell _ _ _ _ (by simp;have:=HW6.out;omega))))
  have HBw:=hid (Hb0.out.trans (HBf.out.mono Hb0.out.size))
  have HAt:=hid (put_at Hfit.out Hel.out Hnm.out (by have:=Hg1.out;omega) Ho.out Hzs.out hkl HRw.out HRf.out HBw.out (lo:=w.heap.size) (Kc:=Kc) (by have:=HW6.out;omega))
  unfold put5 at HO HBf HAt
  have v0:=HX8.out.v.q0
  have v1:=HX8.out.v.q1
  have v2:=HX8.out.v.q2
  have v3:=HX8.out.v.q3
  have v4:=HX8.out.v.q4
  have vf:=HX8.out.v.f3
  have r0:=HX8.out.r.q0
  have r1:=HX8.out.r.q1
  have r2:=HX8.out.r.q2
  have r3:=HX8.out.r.q3
  have r4:=HX8.out.r.q4
  have z0:=HX8.out.r.f0
  have z1:=HX8.out.r.f1
  have z2:=HX8.out.r.f2
  have z3:=HX8.out.r.f3
  have z4:=HX8.out.r.f4
  clear hW8 o0 o1 o2 o3 o4 x0 x1 x2 x3 x4 y0 y1 y2 y3 y4 yf0 yf1 yf2 yf3 yf4 HP7 HFx HX7 HX6
  go_wp2_with fail
  all_goals
   clear r0 r1 r2 r3 r4 z0 z1 z2 z3 z4 v0 v1 v2 v3 v4 vf
   have r0:=HO.out.q0
   have r1:=HO.out.q1
   have r2:=HO.out.q2
   have r3:=HO.out.q3
   have r4:=HO.out.q4
   refine bodyPost_ret (v:=.agg #[.int .i64 (kindOf t),.int .i64 (nOf t),.string (sOf t),.slice (some ⟨g,0,none⟩) (nL t) cap,.slice Ka (nK t) Kc]) (by simp [results,Tryz.results232,go_sem, *]) rfl ?_
   exact ⟨HBf.out,_,_,rfl,HAt.out⟩
end Go.Proofs.YtknakfpciccoaabGreatDoor
/- Stages of a pipeline: what they do; $project, $match. -/
namespace Go.Proofs.YtknakfpciccoaabGreatDoor
open Go.RowKit
def StPost (g:List T→(Nat×Int)⊕List T) (l:List T) (w:World) (e:Ending) (w':World):Prop :=
 Below w.heap.size w w'∧((∃ (k:Nat) (x:Int),g l=.inl (k,x)∧x≠0∧e=.returned (.tuple #[.slice none 0 0,.int .i64 k,.int .i64 x]))∨∃ r v,g l=.inr r∧e=.returned (.tuple #[v,.int .i64 0,.int .i64 0])∧DocsAt w' v r)
def StageOk (Tb:World→Prop) (w:World) (v:Value) (g:List T→(Nat×Int)⊕List T):Prop :=
 ∃ (ty:TypeId) (p:Value) (fid:FuncId),v=.iface ty p∧(∀ w':World,(method 419 ty p "sheaf/pipe.run").run Tryz.prog w'=.ok (fid,p) w')∧(∀ (a:Array Value) (w':World),(callFunc fid a).run Tryz.prog w'=.ok (.enter fid a) w') ∧
  ∀ (wr:World) (dv:Value) (l:List T),Below w.heap.size w wr→DocsAt wr dv l→Tb wr→Calls Tryz.prog fid #[p,dv] wr (StPost g l wr)
theorem MkI.start (w:World) (ty:TypeId) (cs:List Value):MkI w w.heap.size (fun o=>if o=0 then none else (.slice none 0 0::cs)[o]?) [] (w.alloc (.cells (.slice none 0 0::cs).toArray ty)):=by
 refine ⟨.slice none 0 0,[],fun b=>b<w.heap.size,⟨?_,?_,by simp,World.ownsRow_nil _ _ _ _,by simp [Value.ownBlock]⟩,fun b hb=>hb,fun b hb=>⟨by simp;omega,by omega,by simp [Value.ownBlock]⟩,fun i hi=>absurd hi (Nat.not_lt_zero i),fun o ho=>?_⟩
 ·rw [cell_of_row _ w.heap.size 0 _ _ (0,0) (heap_alloc_new w _)];rfl
 ·exact frozen_of_row _ w.heap.size 0 _ _ (heap_alloc_new w _)
 ·rw [cell_of_row _ w.heap.size o _ _ (0,0) (heap_alloc_new w _)]
  show _=if o=0 then none else (Value.slice none 0 0::cs)[o]?
  rw [if_neg ho]
  simp
def prjS (gs:List (T→Int⊕T)) (ks:List ByteArray) (l:List T):(Nat×Int)⊕List T:=eachE (prjE gs ks) l 0 []
theorem prjE_len (gs:List (T→Int⊕T)) (ks:List ByteArray) (s:List T) (d:T) (s':List T) (h:prjE gs ks s d=.inr s'):s'.length=s.length+1:=by
 unfold prjE at h
 cases hl:evL gs d with
 | inl x=>rw [hl] at h;cases h
 | inr l =>
  rw [hl] at h
  dsimp only at h
  split at h
  ·cases h
  ·simp only [Sum.inr.injEq] at h
   rw [← h]
   simp
set_option maxHeartbeats 8000000 in
set_option maxRecDepth 100000 in
theorem prun_any {Tb:World→Prop} (hV:ValidSaid Tb) (hL:Lies Tb) (nv lv:Value) (ks:List ByteArray) (gs:List (T→Int⊕T)) (dv:Value) (l:List T) (w:World) (hl:ListOk Tb w lv gs) (hk:StrsAt w nv ks) (hkl:ks.length≤1000000) (hd:DocsAt w dv l) (hT:Tb w) :
  Calls Tryz.prog 224 #[.agg #[.slice none 0 0,nv,lv],dv] w (StPost (prjS gs ks) l w):=by
 have hmf:∀ (fn:Fn) (first cap:Array Value) (w:World),(Instr.makeFunc fn first cap).run Tryz.prog w=.ok (.func fn first cap) w:=fun _ _ _ _=>rfl
 have HB1:Hid (Below w.heap.size w (w.alloc (.cells #[.slice none 0 0,nv,lv] 168))):=(Below.refl _ _).alloc (Nat.le_refl _) _
 have hfx:(fun o=>if o=0 then none else ([.slice none 0 0,nv,lv]:List Value)[o]?)=(fun o=>if o=1 then some nv else if o=2 then some lv else none):=by
  funext o
  match o with
  | 0=>rfl
  | 1=>rfl
  | 2=>rfl
  | o+3=>simp
 have hst:=MkI.start w 168 [nv,lv]
 rw [hfx] at hst
 have hdl:l.length≤1000000:=by obtain ⟨_,_,_,h,_⟩:=hd;exact h
 have HC:=hid (each_any (prjE gs ks) (fun k made w'=>MkI w w.heap.size (fun o=>if o=1 then some nv else if o=2 then some lv else none) made w'∧made.length≤k) 226 (fun _ _=>rfl) (.pointer (some ⟨w.heap.size,0,none⟩)) w.heap.size dv l [] w _ HB1.out hd ⟨hst,Nat.le_refl _⟩
  (fun k s wx wy h hb=>⟨h.1.keep hb,h.2⟩) (fun k s wx h=>h.1.cell) (fun k s d v wr hkl' h hb ha hok=>by
   refine (ptake_any hV hL w w.heap.size nv lv ks gs s d v wr hb hl hk hkl h.1 (by omega) ha hok (fun w' hb'=>hL w hT w w' hT (hb.trans hb'))).mono ?_
   rintro e w' ⟨h1,h2 | ⟨s',h2,h3,h4⟩⟩
   ·exact ⟨h1,.inl h2⟩
   ·exact ⟨h1,.inr ⟨s',h2,h3,h4,by have:=prjE_len gs ks s d s' h2;have:=h.2;omega⟩⟩))
 obtain ⟨DA,dc,hdv,_⟩:=hd
 obtain ⟨NA,nc,hnv,_,_⟩:=hk
 obtain ⟨EA,ec,hlv,_,_⟩:=hl
 subst hdv
 subst hnv
 subst hlv
 have Hdl:=hid hdl
 clear hst hfx hT hV hL hdl
 go_enter Tryz.func224,Tryz.ntmps224
 go_wp2_with fail
 refine HC.out.mono ?_
 rintro e w2 ⟨b2,⟨k,x,h1,h2,rfl⟩ | ⟨s',v,h1,h2,h3,rfl⟩⟩
 ·have HB:=hid (HB1.out.trans b2)
  have HF:=hid (And.intro h1 h2)
  clear b2 h1 h2 HC
  go_wp2_with fail
  refine bodyPost_ret (v:=.tuple #[.slice none 0 0,.int .i64 (k:Nat),.int .i64 x]) (by simp [results,Tryz.results224,go_sem, *]) rfl ?_
  exact ⟨HB.out,.inl ⟨k,x,HF.out.1,HF.out.2,rfl⟩⟩
 ·have HB:=hid (HB1.out.trans b2)
  have HF:=hid (And.intro h1 (h2.1.docs (by have:=h2.2;have:=Hdl.out;omega) h3))
  clear b2 h1 h2 h3 HC
  go_wp2_with fail
  refine bodyPost_ret (v:=.tuple #[v,.int .i64 0,.int .i64 0]) (by simp [results,Tryz.results224,go_sem, *]) rfl ?_
  exact ⟨HB.out,.inr ⟨s',v,HF.out.1,rfl,HF.out.2⟩⟩
theorem meth_project (p:Value) (w:World):(method 419 168 p "sheaf/pipe.run").run Tryz.prog w=.ok (224,p) w:=by kernel_rfl
theorem meth_match (p:Value) (w:World):(method 419 162 p "sheaf/pipe.run").run Tryz.prog w=.ok (222,p) w:=by kernel_rfl
set_option maxHeartbeats 4000000 in
set_option maxRecDepth 100000 in
theorem project_ok {Tb:World→Prop} (hV:ValidSaid Tb) (hL:Lies Tb) {w:World} {nv lv:Value} {ks:List ByteArray} {gs:List (T→Int⊕T)} (hl:ListOk Tb w lv gs) (hk:StrsAt w nv ks) (hkl:ks.length≤1000000):StageOk Tb w (.iface 168 (.agg #[.slice none 0 0,nv,lv])) (prjS gs ks) :=
 ⟨_,_,_,rfl,meth_project _,fun _ _=>rfl,fun wr dv l hb hd hT=>prun_any hV hL nv lv ks gs dv l wr (hl.keep hb) (hk.keep hb) hkl hd hT⟩
theorem keep_filter2 (p:T→Bool) (l:List T):∀ j,j≤l.length→keepL p (mkT 5 0 ByteArray.empty l []) j=(l.take j).filter p
 | 0,_=>rfl
 | j+1,h=>by
  rw [keepL,keep_filter2 p l j (by omega),elt_docs l h,List.take_add_one,List.getElem?_eq_getElem h,List.filter_append]
  simp only [Option.toList_some,List.filter_cons,List.filter_nil]
theorem Held.docs {w0:World} {hv:Value} {l:List T} {xs:List Value} {wr:World} (h:Held w0 13 hv l xs wr) (hn:l.length≤1000000) (hok:∀ i,(h:i<l.length)→okA l[i]):DocsAt wr hv l:=by
 have hx:xs.length=l.length*5:=h.row.1
 rcases h.row.2 with ⟨rfl,h0⟩ | ⟨g,cap,cur,rfl,hb0,hg,hnc,hcm,rest⟩
 ·exact ⟨none,0,by rw [h0],hn,by omega,by omega,fun i hi=>by rw [nL_mk] at hi;omega,hok⟩
 ·refine ⟨_,_,rfl,hn,hnc,by unfold maxLen at hcm;omega,fun i hi=>?_,hok⟩
  rw [nL_mk] at hi
  have hc:∀ j,j<5→wr.cell? ⟨g,i*5+j,none⟩=some (cx xs (i*5+j)):=fun j hj=>row_cell h.row (cx_some (by omega))
  refine ⟨g,0,cx xs (i*5),cx xs (i*5+1),cx xs (i*5+2),cx xs (i*5+3),cx xs (i*5+4),rfl,(Array.getElem?_eq_some_iff.1 hg).1,(by rw [Nat.zero_add];exact hc 0 (by omega)),(by rw [Nat.zero_add];exact hc 1 (by omega)),(by rw [Nat.zero_add];exact hc 2 (by omega)),(by rw [Nat.zero_add];exact hc 3 (by omega)),(by rw [Nat.zero_add];exact hc 4 (by omega)),?_⟩
  rw [elt_docs l hi]
  exact At.keep h.low (h.at_ i hi)
def mtcS (p:T→Bool) (l:List T):(Nat×Int)⊕List T:=.inr (l.filter p)
set_option maxHeartbeats 4000000 in
set_option maxRecDepth 100000 in
theorem mrun_any {Tb:World→Prop} (hA:AtoiSaid Tb) (hI:ItoaSaid Tb) (hL:Lies Tb) (fv':Value) (t:T) (dv:Value) (l:List T) (w:World) (hf:FilAt w 16 fv' t) (hd:DocsAt w dv l) (hT:Tb w) :
  Calls Tryz.prog 222 #[.agg #[fv'],dv] w (StPost (mtcS (evF 16 t)) l w):=by
 have HB1:Hid (Below w.heap.size w (w.alloc (.cells #[fv'] 162))):=(Below.refl _ _).alloc (Nat.le_refl _) _
 obtain ⟨La,Lc,rfl,hn,_,_,hel,hok⟩:=hd
 have HC:=hid (among_docs hL 16 (fil_any hA hI hL 16) fv' t (mkT 5 0 ByteArray.empty l []) 13 La Lc _ (FilAt.keep HB1.out 16 _ _ hf) (hel.keep HB1.out) (by rw [nL_mk];exact hn) (by omega) (fun i hi=>by rw [nL_mk] at hi;rw [elt_docs l hi];exact hok i hi) (hL w hT _ _ hT HB1.out))
 rw [nL_mk,keep_filter2 _ _ _ (Nat.le_refl _),List.take_length] at HC
 have HOk:Hid (∀ i,(h:i<(l.filter (evF 16 t)).length)→okA (l.filter (evF 16 t))[i]):=fun i hi=>by
  obtain ⟨hm,_⟩:=List.mem_filter.1 (List.getElem_mem hi)
  obtain ⟨k,hk,e⟩:=List.getElem_of_mem hm
  rw [← e]
  exact hok k hk
 have HLe:Hid ((l.filter (evF 16 t)).length≤1000000):=Nat.le_trans (List.length_filter_le _ _) hn
 obtain ⟨FA,fc,hfv,_⟩:=hf
 subst hfv
 clear hel hok hT hA hI hL
 go_enter Tryz.func222,Tryz.ntmps222
 go_wp2_with fail
 refine HC.out.mono ?_
 rintro e w2 ⟨hv,xs,rfl,hh⟩
 have HB:=hid (HB1.out.trans (hh.low.mono HB1.out.size))
 have HD:=hid (hh.docs HLe.out HOk.out)
 clear hh HC
 go_wp2_with fail
 refine bodyPost_ret (v:=.tuple #[hv,.int .i64 0,.int .i64 0]) (by simp [results,Tryz.results222,go_sem, *]) rfl ?_
 exact ⟨HB.out,.inr ⟨_,hv,rfl,rfl,HD.out⟩⟩
set_option maxHeartbeats 4000000 in
set_option maxRecDepth 100000 in
theorem match_ok {Tb:World→Prop} (hA:AtoiSaid Tb) (hI:ItoaSaid Tb) (hL:Lies Tb) {w:World} {fv':Value} {t:T} (hf:FilAt w 16 fv' t):StageOk Tb w (.iface 162 (.agg #[fv'])) (mtcS (evF 16 t)) :=
 ⟨_,_,_,rfl,meth_match _,fun _ _=>rfl,fun wr dv l hb hd hT=>mrun_any hA hI hL fv' t dv l wr (FilAt.keep hb 16 _ _ hf) hd hT⟩
end Go.Proofs.YtknakfpciccoaabGreatDoor
