import Derived.Test.YtknakfpciccoaabGreatDoorZU30
/- The walk of gathered: the group that a document belongs to. -/
namespace Go.Proofs.YtknakfpciccoaabGreatDoor
open Go.RowKit
def gthI (st:List (T×List T)) (b:T):Nat:=st.findIdx fun s=>eqT s.1 b
def gthS (n:Nat) (st:List (T×List T)) (b:T):List (T×List T):=if gthI st b<st.length then st else st++[(b,List.replicate n zeroT)]
theorem gthI_found {st:List (T×List T)} {b:T} {k:Nat} (hk:k<st.length) (h:eqT st[k].1 b=true) (hb:∀ j,(hj:j<st.length)→j<k→eqT st[j].1 b=false):gthI st b=k:=by
 unfold gthI
 rw [List.findIdx_eq hk]
 exact ⟨h,fun j hj=>hb j (by omega) hj⟩
theorem gthI_none {st:List (T×List T)} {b:T} (hb:∀ j,(hj:j<st.length)→eqT st[j].1 b=false):gthI st b=st.length:=by
 unfold gthI
 rw [List.findIdx_eq_length]
 intro x hx
 obtain ⟨j,hj,rfl⟩:=List.getElem_of_mem hx
 exact hb j hj
theorem grp_first (ks:List ByteArray) (s:T×List T):elt (grpT ks s) 0=s.1:=rfl
def GaPost (w0:World) (c:Nat) (NA:Option Addr) (nc:Nat) (bv ev:Value) (ops:List ByteArray) (L0:Nat→Lab) (st:List (T×List T)) (b:T) (w:World) (e:Ending) (w':World):Prop :=
 Below w0.heap.size w w'∧∃ L gv xs rb ys,GrI w0 c NA nc bv ev ops L gv xs rb ys (gthS ops.length st b) w'∧(∀ b,b<w.heap.size→L0 b=.no→L b=.no∧w'.heap[b]?=w.heap[b]?)∧∃ o,(ops≠[]→o=5)∧e=.returned (.slice (some ⟨rb (gthI st b),o,none⟩) ops.length ops.length)
theorem anyL_offG {p:T→Bool} {t:T}:∀ {k j:Nat},anyL p t k=false→j<k→p (elt t j)=false
 | 0,_,_,h=>absurd h (Nat.not_lt_zero _)
 | k+1,j,h,hj=>by
  rw [anyL,Bool.or_eq_false_iff] at h
  by_cases e:j<k
  ·exact anyL_offG h.1 e
  ·obtain rfl:j=k:=by omega
   exact h.2
theorem GrI.rowCell {w0:World} {c:Nat} {NA:Option Addr} {nc:Nat} {bv ev:Value} {ops:List ByteArray} {L:Nat→Lab} {gv:Value} {xs:List Value} {rb:Nat→Nat} {ys:Nat→List Value} {st:List (T×List T)} {w:World} (h:GrI w0 c NA nc bv ev ops L gv xs rb ys st w) {i:Nat} (hi:i<st.length):∃ g cap,gv=.slice (some ⟨g,0,none⟩) st.length cap∧w.cell? ⟨g,i*5+3,none⟩=some (.slice (some ⟨rb i,0,none⟩) (ops.length+1) (ops.length+1)):=by
 have hx:xs.length=st.length*5:=h.grow.1
 have hg:=h.grow
 rcases h.grow.2 with ⟨rfl,h0⟩ | ⟨g,cap,cur,rfl,hb0,hgb,rest⟩
 ·omega
 ·refine ⟨g,cap,rfl,?_⟩
  rw [row_cell hg (cx_some (by omega))]
  have:=h.el i hi
  unfold fv at this
  simp only [Value.agg.injEq,Array.mk.injEq,List.cons.injEq,and_true] at this
  rw [this.2.2.2.1]
set_option maxHeartbeats 8000000 in
set_option maxRecDepth 100000 in
theorem gatheredOld_any (w0:World) (c:Nat) (NA:Option Addr) (nc:Nat) (bv ev:Value) (ops:List ByteArray) (L:Nat→Lab) (gv:Value) (xs:List Value) (rb:Nat→Nat) (ys:Nat→List Value) (st:List (T×List T)) (b:T) (A C:Option Addr) (B D:Nat) (w:World) (ks:List ByteArray) (hI:GrI w0 c NA nc bv ev ops L gv xs rb ys st w) (hb0:Below w0.heap.size w0 w) (hk:StrsAt w0 (.slice NA (ops.length+1) nc) ks) (ho:ops.length≤100000) (hn:st.length≤1000000) (ha:At w0 13 (.agg #[.int .i64 (kindOf b),.int .i64 (nOf b),.string (sOf b),.slice A (nL b) B,.slice C (nK b) D]) b) (hbk:okA b) (hold:gthI st b<st.length) :
  Calls Tryz.prog 240 #[.pointer (some ⟨c,0,none⟩),.agg #[.int .i64 (kindOf b),.int .i64 (nOf b),.string (sOf b),.slice A (nL b) B,.slice C (nK b) D]] w (GaPost w0 c NA nc bv ev ops L st b w):=by
 have hmf:∀ (fn:Fn) (first cap:Array Value) (w:World),(Instr.makeFunc fn first cap).run Tryz.prog w=.ok (.func fn first cap) w:=fun _ _ _ _=>rfl
 have HB1:Hid (Below w.heap.size w (w.alloc (.cells #[.int .i64 (kindOf b),.int .i64 (nOf b),.string (sOf b),.slice A (nL b) B,.slice C (nK b) D] 36))):=(Below.refl _ _).alloc (Nat.le_refl _) _
 have HX:=hid (box_new w (.int .i64 (kindOf b)) (.int .i64 (nOf b)) (.string (sOf b)) (.slice A (nL b) B) (.slice C (nK b) D))
 have HI1:=hid (hI.keep HB1.out)
 have HB01:=hid (hb0.trans (HB1.out.mono hb0.size))
 obtain ⟨GA,gc,hgv,hel⟩:=HI1.out.elems HB01.out hk ho
 have HIx:=hid (indexFuncC_any (fun t=>eqT (elt t 0) b) 242 (fun _ _=>rfl) (.pointer (some ⟨w.heap.size,0,none⟩)) 15 GA gc (mkT 5 0 ByteArray.empty (st.map (grpT ks)) []) _ hel (by rw [nL_mk,List.length_map];omega) (fun k hk' wr v hb ha'=>by
  rw [nL_mk,List.length_map] at hk'
  rw [elt_docs _ (by rw [List.length_map];exact hk'),List.getElem_map] at ha' ⊢
  exact gath1_any 15 13 v _ w.heap.size b A C B D wr ha' (by unfold grpT;rw [nL_mk];simp) (by omega) (by rw [grp_first];exact (hI.by_ k hk').2) ((ha.keep HB01.out).keep hb) hbk (HX.out.stay hb)))
 rw [nL_mk,List.length_map] at HIx
 have Hn:Hid (∀ k,(h:k<st.length)→elt (mkT 5 0 ByteArray.empty (st.map (grpT ks)) []) k=grpT ks st[k]):=fun k h=>by rw [elt_docs _ (by rw [List.length_map];exact h),List.getElem_map]
 have Hold:=hid hold
 have HB0:=hid hb0
 have c4:=HI1.out.c4
 rw [hgv] at c4
 subst hgv
 clear hI hb0 hk ha hbk hel hold ho
 go_enter Tryz.func240,Tryz.ntmps240
 go_wp2_with fail
 refine HIx.out.mono ?_
 rintro e w2 ⟨b2,m,rfl,⟨rfl,hno⟩ | ⟨k,rfl,hk,hp,hbef⟩⟩
 ·exfalso
  have:=gthI_none (st:=st) (b:=b) (fun j hj=>by have:=anyL_offG hno hj;rwa [Hn.out j hj,grp_first] at this)
  have:=Hold.out
  omega
 ·rw [Hn.out k hk,grp_first] at hp
  have HK:=hid (gthI_found hk hp (fun j hj hjk=>by have:=anyL_offG hbef hjk;rwa [Hn.out j hj,grp_first] at this))
  have HI2:=hid (HI1.out.keep b2)
  have HBf:=hid ((HB1.out.trans (b2.mono HB1.out.size)).mono HB0.out.size)
  have HBw:=hid (HB1.out.trans (b2.mono HB1.out.size))
  obtain ⟨g,cap,hgv2,hrc⟩:=HI2.out.rowCell hk
  simp only [Value.slice.injEq,true_and] at hgv2
  obtain ⟨rfl,rfl⟩:=hgv2
  have c42:=HI2.out.c4
  have HS:Hid (gthS ops.length st b=st):=by show _=_;unfold gthS;rw [if_pos (by rw [HK.out];exact hk)]
  have x1:(k:Int)<(st.length:Int):=by omega
  have x2:¬ (k:Int)<0:=by omega
  clear b2 hp hbef HIx
  have Hret:Hid (GaPost w0 c NA nc bv ev ops L st b w (.returned (.slice (some ⟨rb k,if ops.length=0 then 0 else 5,none⟩) ops.length ops.length)) w2):=by
   refine ⟨HBf.out,L,_,xs,rb,ys,by rw [HS.out];exact HI2.out,fun b h1 h2=>⟨h2,HBw.out.block b h1⟩,_,fun h=>?_,by rw [HK.out]⟩
   rw [if_neg]
   intro e
   exact h (List.length_eq_zero_iff.1 e)
  clear HI2 HBf HBw HS HK HB0 Hold Hn HI1 HB1 HB01
  rcases Nat.eq_zero_or_pos ops.length with e0 | e0
  ·rw [if_pos e0,e0] at Hret
   go_wp2_with fail
   all_goals (go_ret;first | exact Hret.out | (exfalso;omega))
  ·rw [if_neg (by omega)] at Hret
   have e1:ops≠[]:=fun e=>by rw [e] at e0;exact absurd e0 (Nat.lt_irrefl 0)
   go_wp2_with fail
   all_goals first | contradiction | (go_ret;exact Hret.out)
end Go.Proofs.YtknakfpciccoaabGreatDoor
/- The walk of gathered: a group that there was none of. -/
namespace Go.Proofs.YtknakfpciccoaabGreatDoor
open Go.RowKit
theorem gthS_new {n:Nat} {st:List (T×List T)} {b:T} (h:gthI st b=st.length):gthS n st b=st++[(b,List.replicate n zeroT)]:=by
 unfold gthS
 rw [if_neg (by omega)]
theorem GrI.newA {w0:World} {c:Nat} {NA:Option Addr} {nc:Nat} {bv ev:Value} {ops:List ByteArray} {L:Nat→Lab} {gv:Value} {xs:List Value} {rb:Nat→Nat} {ys:Nat→List Value} {st:List (T×List T)} {w w2 W4 w6:World} (h:GrI w0 c NA nc bv ev ops L gv xs rb ys st w2) (hw:w0.heap.size≤w.heap.size) (hbf:Below w.heap.size w w2) (hb:Below w2.heap.size w2 W4) {r:Nat} {zs:List Value} (hr0:w2.heap.size≤r) (hr:W4.ownsRow w2.heap.size 36 5 (.slice (some ⟨r,0,none⟩) (ops.length+1) (ops.length+1)) (ops.length+1) zs) {b:T} {v:Value} (ha:At w0 13 v b) (hbk:okA b) (hz:fv zs 0=v∧∀ k,1≤k→k<ops.length+1→fv zs k=.agg #[.int .i64 0,.int .i64 0,.string ⟨#[]⟩,.slice none 0 0,.slice none 0 0]) (hG:W4.grownBy w6 gv.ownBlock) {g cap n:Nat} {y0 y1 y2 y3 y4:Value} (hn:n=W4.heap.size) (hat:gv.ownBlock=some g∨g=n) (hlt:g<w6.heap.size) (hgc:g≠c) (hown:w6.ownsRow w0.heap.size 36 5 (.slice (some ⟨g,0,none⟩) (st.length+1) cap) (st.length+1) (xs++[y0,y1,y2,y3,y4])) (hc:w6.cell? ⟨c,4,none⟩=some gv) (wF:World) (hF:wF=(put5o w6 g (st.length*5) (.int .i64 6) (.int .i64 0) (.string ⟨#[]⟩) (.slice (some ⟨r,0,none⟩) (ops.length+1) (ops.length+1)) (.slice NA (ops.length+1) nc)).setCell ⟨c,4,none⟩ (.slice (some ⟨g,0,none⟩) (st.length+1) cap)∨wF=put5o (w6.setCell ⟨c,4,none⟩ (.slice (some ⟨g,0,none⟩) (st.length+1) cap)) g (st.length*5) (.int .i64 6) (.int .i64 0) (.string ⟨#[]⟩) (.slice (some ⟨r,0,none⟩) (ops.length+1) (ops.length+1)) (.slice NA (ops.length+1) nc)) :
  Below w0.heap.size w wF∧∃ L' gv' xs' rb' ys',GrI w0 c NA nc bv ev ops L' gv' xs' rb' ys' (st++[(b,List.replicate ops.length zeroT)]) wF∧∀ b,b<w.heap.size→L b=.no→L' b=.no∧wF.heap[b]?=w.heap[b]?:=by
 have hx:xs.length=st.length*5:=h.grow.1
 have hFin:GFin w0.heap.size c g st.length cap xs [.int .i64 6,.int .i64 0,.string ⟨#[]⟩,.slice (some ⟨r,0,none⟩) (ops.length+1) (ops.length+1),.slice NA (ops.length+1) nc] w6 wF:=by
  rcases hF with rfl | rfl
  ·exact gfinA hown hx hgc hc _ _ _ _ _
  ·exact gfinB hown hx hgc hc _ _ _ _ _
 obtain ⟨k1,L',xs',k3,k2⟩:=h.snoc hb hG (hat.imp id fun e=>by omega) hlt hr0 hr (by rw [hz.1];exact ha) hbk hz.2 hFin
 exact ⟨(hbf.mono hw).trans k1,L',_,xs',_,_,k2,fun b h1 h2=>⟨(k3 b (Nat.lt_of_lt_of_le h1 hbf.size) h2).1,(k3 b (Nat.lt_of_lt_of_le h1 hbf.size) h2).2.trans (hbf.block b h1)⟩⟩
set_option maxHeartbeats 8000000 in
set_option maxRecDepth 100000 in
theorem gatheredNew_any (w0:World) (c:Nat) (NA:Option Addr) (nc:Nat) (bv ev:Value) (ops:List ByteArray) (L:Nat→Lab) (gv:Value) (xs:List Value) (rb:Nat→Nat) (ys:Nat→List Value) (st:List (T×List T)) (b:T) (A C:Option Addr) (B D:Nat) (w:World) (ks:List ByteArray) (hI:GrI w0 c NA nc bv ev ops L gv xs rb ys st w) (hb0:Below w0.heap.size w0 w) (hk:StrsAt w0 (.slice NA (ops.length+1) nc) ks) (ho:ops.length≤100000) (hn:st.length≤1000000) (ha:At w0 13 (.agg #[.int .i64 (kindOf b),.int .i64 (nOf b),.string (sOf b),.slice A (nL b) B,.slice C (nK b) D]) b) (hbk:okA b) (hnew:gthI st b=st.length) :
  Calls Tryz.prog 240 #[.pointer (some ⟨c,0,none⟩),.agg #[.int .i64 (kindOf b),.int .i64 (nOf b),.string (sOf b),.slice A (nL b) B,.slice C (nK b) D]] w (GaPost w0 c NA nc bv ev ops L st b w):=by
 obtain ⟨iV,hiV,zV0,zV1,zV2⟩:=info_parts infoV
 have hmf:∀ (fn:Fn) (first cap:Array Value) (w:World),(Instr.makeFunc fn first cap).run Tryz.prog w=.ok (.func fn first cap) w:=fun _ _ _ _=>rfl
 have HB1:Hid (Below w.heap.size w (w.alloc (.cells #[.int .i64 (kindOf b),.int .i64 (nOf b),.string (sOf b),.slice A (nL b) B,.slice C (nK b) D] 36))):=(Below.refl _ _).alloc (Nat.le_refl _) _
 have HX:=hid (box_new w (.int .i64 (kindOf b)) (.int .i64 (nOf b)) (.string (sOf b)) (.slice A (nL b) B) (.slice C (nK b) D))
 have HI1:=hid (hI.keep HB1.out)
 have HB01:=hid (hb0.trans (HB1.out.mono hb0.size))
 obtain ⟨GA,gc,hgv,hel⟩:=HI1.out.elems HB01.out hk ho
 have HIx:=hid (indexFuncC_any (fun t=>eqT (elt t 0) b) 242 (fun _ _=>rfl) (.pointer (some ⟨w.heap.size,0,none⟩)) 15 GA gc (mkT 5 0 ByteArray.empty (st.map (grpT ks)) []) _ hel (by rw [nL_mk,List.length_map];omega) (fun k hk' wr v hb ha'=>by
  rw [nL_mk,List.length_map] at hk'
  rw [elt_docs _ (by rw [List.length_map];exact hk'),List.getElem_map] at ha' ⊢
  exact gath1_any 15 13 v _ w.heap.size b A C B D wr ha' (by unfold grpT;rw [nL_mk];simp) (by omega) (by rw [grp_first];exact (hI.by_ k hk').2) ((ha.keep HB01.out).keep hb) hbk (HX.out.stay hb)))
 rw [nL_mk,List.length_map] at HIx
 have Hn:Hid (∀ k,(h:k<st.length)→elt (mkT 5 0 ByteArray.empty (st.map (grpT ks)) []) k=grpT ks st[k]):=fun k h=>by rw [elt_docs _ (by rw [List.length_map];exact h),List.getElem_map]
 have Hold:=hid hnew
 have HB0:=hid hb0
 have Hk:=hid hk
 have Ha:=hid ha
 have Hbk:=hid hbk
 have Ho:=hid ho
 have hnn:=hid hn
 have hcw:=HI1.out.low c (by rw [HI1.out.lc];intro e;cases e)
 have c4:=HI1.out.c4
 rw [hgv] at c4
 subst hgv
 clear hI hb0 hk ha hbk hel hnew ho hn
 go_enter Tryz.func240,Tryz.ntmps240
 go_wp2_with fail
 refine HIx.out.mono ?_
 rintro e w2 ⟨b2,m,rfl,⟨rfl,hno⟩ | ⟨k,rfl,hk,hp,hbef⟩⟩
 ·have HI2:=hid (HI1.out.keep b2)
  have HX2:=hid (HX.out.stay b2)
  have HBf:=hid (HB1.out.trans (b2.mono HB1.out.size))
  have Hw0:=hid HB0.out.size
  have hl:=hid (HI2.out.low c (by rw [HI2.out.lc];intro e;cases e))
  clear b2 HIx hno
  have c42:=HI2.out.c4
  go_upto_region 4 with fail
  go_cut [] (fun wx=>Hid (Below w0.heap.size w wx∧∃ L' gv' xs' rb' ys',GrI w0 c NA nc bv ev ops L' gv' xs' rb' ys' (st++[(b,List.replicate ops.length zeroT)]) wx∧∀ b,b<w.heap.size→L b=.no→L' b=.no∧wx.heap[b]?=w.heap[b]?))
  case first =>
   have HQ0:Hid (Below w2.heap.size w2 w2.drew):=below_drew _
   have HQ1:Hid (Below w2.heap.size w2 (w2.alloc (.cells #[.int .i64 0,.int .i64 0,.string ⟨#[]⟩,.slice none 0 0,.slice none 0 0] 36)).drew):=((Below.refl _ _).alloc (Nat.le_refl _) _).drew
   have HA3:Hid (Below w2.heap.size w2 (w2.alloc (.cells #[.int .i64 0,.int .i64 0,.string ⟨#[]⟩,.slice none 0 0,.slice none 0 0] 36))):=(Below.refl _ _).alloc (Nat.le_refl _) _
   have HXl:Hid (xs.length=st.length*5):=HI2.out.grow.1
   have HC:Hid (∀ wx,Below w2.heap.size w2 wx→_):=fun wx hq=>start_any c (ops.length+1) NA nc b A C B D wx (by omega) (by have:=Ho.out;omega) (Nat.lt_of_lt_of_le hl.out.2 hq.size) ((hq.cell (p:=⟨c,1,none⟩) hl.out.2).trans HI2.out.c1)
   have HX3:=hid (HX2.out.stay HA3.out)
   have c4a:=(HA3.out.cell (p:=⟨c,4,none⟩) hl.out.2).trans c42
   have r0:=HX2.out.q0
   have r1:=HX2.out.q1
   have r2:=HX2.out.q2
   have r3:=HX2.out.q3
   have r4:=HX2.out.q4
   have ra0:=HX3.out.q0
   have ra1:=HX3.out.q1
   have ra2:=HX3.out.q2
   have ra3:=HX3.out.q3
   have ra4:=HX3.out.q4
   have HGc:Hid (∀ g n,c<n→((Value.slice GA st.length gc).ownBlock=some g∨g=n)→g≠c):=fun g n hn hg e=>by
    subst e
    rcases hg with hg | hg
    ·have:=HI2.out.gl _ hg
     rw [HI2.out.lc] at this
     cases this
    ·omega
   have HAp:Hid (some c≠(Value.slice GA st.length gc).ownBlock):=fun e=>by
    have:=HI2.out.gl _ e.symm
    rw [HI2.out.lc] at this
    cases this
   have x9:(st.length:Int)<(st.length:Int)+1:=by omega
   clear HB1 HX HB01 Hn Hold HB0 Hk hcw c4 HI1 hmf
   go_region_law (first | (refine step_append_lies _ (by rfl) _ _ _ (by rfl) w0.heap.size 36 iV _ 5 80 Tryz.underlying34 hiV zV0 zV1 zV2 rfl (by omega) (.slice GA st.length gc) st.length xs (by rfl) HI3a.out.grow ⟨w3.heap.size,0,none⟩ 1 1 [.int .i64 0,.int .i64 0,.string ⟨#[]⟩,.slice none 0 0,.slice none 0 0] (by rfl) (by rfl) (World.news_of_block (cs:=#[.int .i64 0,.int .i64 0,.string ⟨#[]⟩,.slice none 0 0,.slice none 0 0]) (t:=36) (fr:=(0,0)) (heap_alloc_new w3 _)) (by simp [Value.oneCell']) (by omega) (by unfold maxLen;have:=hnn.out;omega) (by have:=hnn.out;omega) (by first | exact HLo3.out | (simp only [World.size_alloc];have:=HLo3.out;omega)) (w3.heap.size+1) (by simp) ?_;intro g cap w6 hown6 hgrow6 hat6 hlt6;have hgc:g≠c:=HGc.out g _ (by have:=hl.out.2;have:=HLo3.out;have:=HB3.out.size;simp;omega) hat6;have hcg:c≠g:=fun e=>hgc e.symm;have HB6:=hid (hgrow6.block c (HI3a.out.low c (by rw [HI3a.out.lc];intro e;cases e)).2 HAp.out);have c6:=(cell_of HB6.out 4).trans HI3a.out.c4;have f6:=(World.frozen?_of_block (a:=⟨c,4,none⟩) HB6.out).trans HI3a.out.f4;have y0:w6.cell? ⟨g,st.length*5,none⟩=some (.int .i64 0):=new_cell hown6 HXl.out 0 (by omega) rfl;have z0:w6.frozen? ⟨g,st.length*5,none⟩=false:=hown6.frozenAt _;have y1:w6.cell? ⟨g,st.length*5+1,none⟩=some (.int .i64 0):=new_cell hown6 HXl.out 1 (by omega) rfl;have z1:w6.frozen? ⟨g,st.length*5+1,none⟩=false:=hown6.frozenAt _;have y2:w6.cell? ⟨g,st.length*5+2,none⟩=some (.string ⟨#[]⟩):=new_cell hown6 HXl.out 2 (by omega) rfl;have z2:w6.frozen? ⟨g,st.length*5+2,none⟩=false:=hown6.frozenAt _;have y3:w6.cell? ⟨g,st.length*5+3,none⟩=some (.slice none 0 0):=new_cell hown6 HXl.out 3 (by omega) rfl;have z3:w6.frozen? ⟨g,st.length*5+3,none⟩=false:=hown6.frozenAt _;have y4:w6.cell? ⟨g,st.length*5+4,none⟩=some (.slice none 0 0):=new_cell hown6 HXl.out 4 (by omega) rfl;have z4:w6.frozen? ⟨g,st.length*5+4,none⟩=false:=hown6.frozenAt _;have HFA:=hid (GrI.newA HI2.out Hw0.out HBf.out HB4.out HT3.out.1 HT4.out Ha.out Hbk.out HT3.out.2.2 hgrow6 (by simp) hat6 hlt6 hgc hown6 c6 _ (.inl rfl));have HFB:=hid (GrI.newA HI2.out Hw0.out HBf.out HB4.out HT3.out.1 HT4.out Ha.out Hbk.out HT3.out.2.2 hgrow6 (by simp) hat6 hlt6 hgc hown6 c6 _ (.inr rfl));clear hown6 hgrow6 hat6 hlt6 HB6) | (refine step_append_lies _ (by rfl) _ _ _ (by rfl) w0.heap.size 36 iV _ 5 80 Tryz.underlying34 hiV zV0 zV1 zV2 rfl (by omega) (.slice GA st.length gc) st.length xs (by rfl) HI3.out.grow ⟨w2.heap.size,0,none⟩ 1 1 [.int .i64 0,.int .i64 0,.string ⟨#[]⟩,.slice none 0 0,.slice none 0 0] (by rfl) (by rfl) (World.news_of_block (cs:=#[.int .i64 0,.int .i64 0,.string ⟨#[]⟩,.slice none 0 0,.slice none 0 0]) (t:=36) (fr:=(0,0)) HZ3.out) (by simp [Value.oneCell']) (by omega) (by unfold maxLen;have:=hnn.out;omega) (by have:=hnn.out;omega) (by first | exact HLo3.out | (simp only [World.size_alloc];have:=HLo3.out;omega)) w3.heap.size (by simp) ?_;intro g cap w6 hown6 hgrow6 hat6 hlt6;have hgc:g≠c:=HGc.out g _ (by have:=hl.out.2;have:=HLo3.out;have:=HB3.out.size;simp;omega) hat6;have hcg:c≠g:=fun e=>hgc e.symm;have HB6:=hid (hgrow6.block c (HI3.out.low c (by rw [HI3.out.lc];intro e;cases e)).2 HAp.out);have c6:=(cell_of HB6.out 4).trans HI3.out.c4;have f6:=(World.frozen?_of_block (a:=⟨c,4,none⟩) HB6.out).trans HI3.out.f4;have y0:w6.cell? ⟨g,st.length*5,none⟩=some (.int .i64 0):=new_cell hown6 HXl.out 0 (by omega) rfl;have z0:w6.frozen? ⟨g,st.length*5,none⟩=false:=hown6.frozenAt _;have y1:w6.cell? ⟨g,st.length*5+1,none⟩=some (.int .i64 0):=new_cell hown6 HXl.out 1 (by omega) rfl;have z1:w6.frozen? ⟨g,st.length*5+1,none⟩=false:=hown6.frozenAt _;have y2:w6.cell? ⟨g,st.length*5+2,none⟩=some (.string ⟨#[]⟩):=new_cell hown6 HXl.out 2 (by omega) rfl;have z2:w6.frozen? ⟨g,st.length*5+2,none⟩=false:=hown6.frozenAt _;have y3:w6.cell? ⟨g,st.length*5+3,none⟩=some (.slice none 0 0):=new_cell hown6 HXl.out 3 (by omega) rfl;have z3:w6.frozen? ⟨g,st.length*5+3,none⟩=false:=hown6.frozenAt _;have y4:w6.cell? ⟨g,st.length*5+4,none⟩=some (.slice none 0 0):=new_cell hown6 HXl.out 4 (by omega) rfl;have z4:w6.frozen? ⟨g,st.length*5+4,none⟩=false:=hown6.frozenAt _;have HFA:=hid (GrI.newA HI2.out Hw0.out HBf.out HB4.out HT3.out.1 HT4.out Ha.out Hbk.out HT3.out.2.2 hgrow6 rfl hat6 hlt6 hgc hown6 c6 _ (.inl rfl));have HFB:=hid (GrI.newA HI2.out Hw0.out HBf.out HB4.out HT3.out.1 HT4.out Ha.out Hbk.out HT3.out.2.2 hgrow6 rfl hat6 hlt6 hgc hown6 c6 _ (.inr rfl));clear hown6 hgrow6 hat6 hlt6 HB6) | (go_simp;go_wp2_with (go_at_call 243;refine (HC.out _ HQ0.out).mono ?_;rintro e w3 ⟨b3,r,zs,hr0,rfl,hrow,hz0,hzk⟩;have HB3:=hid (HQ0.out.trans (b3.mono HQ0.out.size));have HT3:=hid (And.intro (Nat.le_trans HQ0.out.size hr0) (And.intro (own_base hrow (fun b hb=>Nat.le_trans HQ0.out.size (hrow.lt b hb).1)) (And.intro hz0 hzk)));have HI3:=hid (HI2.out.keep HB3.out);have HI3a:=hid (HI3.out.keep ((Below.refl _ _).alloc (Nat.le_refl _) (.cells #[.int .i64 0,.int .i64 0,.string ⟨#[]⟩,.slice none 0 0,.slice none 0 0] 36)));have HLo3:Hid (w0.heap.size≤w3.heap.size):=Nat.le_trans (Nat.le_of_lt (Nat.lt_of_le_of_lt hl.out.1 hl.out.2)) HB3.out.size;have c43:=HI3.out.c4;have c43a:=HI3a.out.c4;have HB4:=hid (HB3.out.alloc HB3.out.size (.cells #[.int .i64 0,.int .i64 0,.string ⟨#[]⟩,.slice none 0 0,.slice none 0 0] 36));have HT4:=hid (HT3.out.2.1.alloc (.cells #[.int .i64 0,.int .i64 0,.string ⟨#[]⟩,.slice none 0 0,.slice none 0 0] 36));have HCALL:=hid True.intro;clear b3 hr0 hrow hz0 hzk);clear HCALL) | (go_simp;go_wp2_with (go_at_call 243;refine (HC.out _ HQ1.out).mono ?_;rintro e w3 ⟨b3,r,zs,hr0,rfl,hrow,hz0,hzk⟩;have HB3:=hid (HQ1.out.trans (b3.mono HQ1.out.size));have HT3:=hid (And.intro (Nat.le_trans HQ1.out.size hr0) (And.intro (own_base hrow (fun b hb=>Nat.le_trans HQ1.out.size (hrow.lt b hb).1)) (And.intro hz0 hzk)));have HI3:=hid (HI2.out.keep HB3.out);have HZ3:=hid ((b3.block w2.heap.size (by show _<(w2.alloc (.cells #[.int .i64 0,.int .i64 0,.string ⟨#[]⟩,.slice none 0 0,.slice none 0 0] 36)).heap.size;simp)).trans (heap_alloc_new w2 (.cells #[.int .i64 0,.int .i64 0,.string ⟨#[]⟩,.slice none 0 0,.slice none 0 0] 36)));have HLo3:Hid (w0.heap.size≤w3.heap.size):=Nat.le_trans (Nat.le_of_lt (Nat.lt_of_le_of_lt hl.out.1 hl.out.2)) HB3.out.size;have c43:=HI3.out.c4;have HB4:=hid HB3.out;have HT4:=hid HT3.out.2.1;clear b3 hr0 hrow hz0 hzk)))
   all_goals
    go_wp2_with fail
    go_meet
    unfold put5o at HFA HFB
    first | with_reducible exact HFA | with_reducible exact HFB
  case rest =>
   obtain ⟨HBn,L',gv',xs',rb',ys',HG,HL⟩:=hcut.out
   have HLL:=hid HL
   have HBN:=hid HBn
   have HGR:=hid HG
   have HS:=hid (gthS_new (n:=ops.length) Hold.out)
   obtain ⟨g,cap,hgv2,hrc⟩:=HG.rowCell (i:=st.length) (by rw [List.length_append];simp)
   rw [List.length_append,List.length_cons,List.length_nil] at hgv2
   subst hgv2
   have c4f:=HG.c4
   have x1:(st.length:Int)<(st.length:Int)+1:=by omega
   have x2:¬ (st.length:Int)<0:=by omega
   clear HG HBn hcut HL
   have Hret:Hid (GaPost w0 c NA nc bv ev ops L st b w (.returned (.slice (some ⟨rb' st.length,if ops.length=0 then 0 else 5,none⟩) ops.length ops.length)) wc):=by
    refine ⟨HBN.out,L',_,xs',rb',ys',by rw [HS.out];exact HGR.out,HLL.out,_,fun h=>?_,by rw [Hold.out]⟩
    rw [if_neg]
    intro e
    exact h (List.length_eq_zero_iff.1 e)
   clear HGR HBN HS HLL Hw0 Hold HI2 HBf HB0 Hn HI1 HB1 HB01 HX HX2 Hk Ha c42 c4 hcw
   rcases Nat.eq_zero_or_pos ops.length with e0 | e0
   ·rw [if_pos e0,e0] at Hret
    go_wp2_with fail
    all_goals (go_ret;first | exact Hret.out | (exfalso;omega))
   ·rw [if_neg (by omega)] at Hret
    have e1:ops≠[]:=fun e=>by rw [e] at e0;exact absurd e0 (Nat.lt_irrefl 0)
    go_wp2_with fail
    all_goals first | contradiction | (go_ret;exact Hret.out)
 ·exfalso
  rw [Hn.out k hk,grp_first] at hp
  have HK:=gthI_found hk hp (fun j hj hjk=>by have:=anyL_offG hbef hjk;rwa [Hn.out j hj,grp_first] at this)
  have:=Hold.out
  omega
theorem gathered_any (w0:World) (c:Nat) (NA:Option Addr) (nc:Nat) (bv ev:Value) (ops:List ByteArray) (L:Nat→Lab) (gv:Value) (xs:List Value) (rb:Nat→Nat) (ys:Nat→List Value) (st:List (T×List T)) (b:T) (A C:Option Addr) (B D:Nat) (w:World) (ks:List ByteArray) (hI:GrI w0 c NA nc bv ev ops L gv xs rb ys st w) (hb0:Below w0.heap.size w0 w) (hk:StrsAt w0 (.slice NA (ops.length+1) nc) ks) (ho:ops.length≤100000) (hn:st.length≤1000000) (ha:At w0 13 (.agg #[.int .i64 (kindOf b),.int .i64 (nOf b),.string (sOf b),.slice A (nL b) B,.slice C (nK b) D]) b) (hbk:okA b) :
  Calls Tryz.prog 240 #[.pointer (some ⟨c,0,none⟩),.agg #[.int .i64 (kindOf b),.int .i64 (nOf b),.string (sOf b),.slice A (nL b) B,.slice C (nK b) D]] w (GaPost w0 c NA nc bv ev ops L st b w):=by
 by_cases h:gthI st b<st.length
 ·exact gatheredOld_any w0 c NA nc bv ev ops L gv xs rb ys st b A C B D w ks hI hb0 hk ho (by omega) ha hbk h
 ·exact gatheredNew_any w0 c NA nc bv ev ops L gv xs rb ys st b A C B D w ks hI hb0 hk ho hn ha hbk (by have:gthI st b≤st.length:=List.findIdx_le_length;omega)
end Go.Proofs.YtknakfpciccoaabGreatDoor
/- The groups, behind an entry's turn. -/
namespace Go.Proofs.YtknakfpciccoaabGreatDoor
open Go.RowKit
def accS (g:T→Int⊕T) (op:ByteArray) (s doc:T):Int⊕T:=if op=gList then (match g doc with | .inl x=>.inl x | .inr v=>.inr (mkT 5 0 ByteArray.empty (lOf s++[v]) [])) else accG g op s doc
def stPut (st:List (T×List T)) (i j:Nat) (t:T):List (T×List T):=st.modify i fun s=>(s.1,s.2.set j t)
theorem stPut_len (st:List (T×List T)) (i j:Nat) (t:T):(stPut st i j t).length=st.length:=List.length_modify _ _ _
theorem stPut_get (st:List (T×List T)) (i j:Nat) (t:T) {k:Nat} (hk:k<st.length):(stPut st i j t)[k]'(by rw [stPut_len];exact hk)=if i=k then (st[k].1,st[k].2.set j t) else st[k]:=by
 unfold stPut
 rw [List.getElem_modify]
theorem GrI.put {w0:World} {c:Nat} {NA:Option Addr} {nc:Nat} {bv ev:Value} {ops:List ByteArray} {L:Nat→Lab} {gv:Value} {xs:List Value} {rb:Nat→Nat} {ys:Nat→List Value} {st:List (T×List T)} {w:World} (h:GrI w0 c NA nc bv ev ops L gv xs rb ys st w) {L':Nat→Lab} {w5:World} {i j:Nat} (hi:i<st.length) (hj:j<ops.length) (hk:∀ b,L b≠.no→L b≠.lst i j→L' b=L b∧w5.heap[b]?=w.heap[b]?) (hn:∀ b,L' b≠.no→w0.heap.size≤b∧b<w5.heap.size) {u0 u1 u2 u3 u4:Value} {t:T} (ha:AccAt w0 L' w5 i j ops[j] (.agg #[u0,u1,u2,u3,u4]) t) :
  GrI w0 c NA nc bv ev ops L' gv xs rb (fun k=>if k=i then setV (ys i) (j+1) u0 u1 u2 u3 u4 else ys k) (stPut st i j t) (put5o w5 (rb i) ((j+1)*5) u0 u1 u2 u3 u4):=by
 have hW:∀ b,b≠rb i→(put5o w5 (rb i) ((j+1)*5) u0 u1 u2 u3 u4).heap[b]?=w5.heap[b]?:=fun b hb=>put5o_other w5 hb _ _ _ _ _ _
 obtain ⟨r1,r2,r3,r4⟩:=put5o_rest w5 (rb i) ((j+1)*5) u0 u1 u2 u3 u4
 have hri:=h.rl i hi
 obtain ⟨l1,l2⟩:=hk (rb i) (by rw [hri];intro e;cases e) (by rw [hri];intro e;cases e)
 have hrow:w5.ownsRow w0.heap.size 36 5 (.slice (some ⟨rb i,0,none⟩) (ops.length+1) (ops.length+1)) (ops.length+1) (ys i):=own_move (h.row i hi) fun b e=>by
  obtain rfl:rb i=b:=by simpa [Value.ownBlock] using e
  exact l2
 have hrow':=(row_setV hrow (j+1) u0 u1 u2 u3 u4).1
 generalize put5o w5 (rb i) ((j+1)*5) u0 u1 u2 u3 u4=W at *
 have hy:(ys i).length=(ops.length+1)*5:=hrow.1
 have old:∀ b,L b≠.no→L b≠.lst i j→b≠rb i→L' b=L b∧W.heap[b]?=w.heap[b]?:=fun b h1 h2 h3=>⟨(hk b h1 h2).1,(hW b h3).trans (hk b h1 h2).2⟩
 obtain ⟨k1,k2⟩:=old c (by rw [h.lc];intro e;cases e) (by rw [h.lc];intro e;cases e) (fun e=>by rw [← e,h.lc] at hri;cases hri)
 refine ⟨k1.trans h.lc,fun b hb=>by rw [r1];exact hn b hb,(cell_of k2 0).trans h.c0,(cell_of k2 1).trans h.c1,(cell_of k2 2).trans h.c2,(cell_of k2 3).trans h.c3,(cell_of k2 4).trans h.c4,(World.frozen?_of_block (a:=⟨c,0,none⟩) k2).trans h.f0,(World.frozen?_of_block (a:=⟨c,4,none⟩) k2).trans h.f4,?_,fun b e=>?_,?_,?_,?_,?_,?_,?_⟩
 ·rw [stPut_len]
  exact own_move h.grow fun b e=>(old b (by rw [h.gl b e];intro e;cases e) (by rw [h.gl b e];intro e;cases e) (fun e'=>by have:=h.gl b e;rw [e',hri] at this;cases this)).2
 ·have hg:=h.gl b e
  exact (hk b (by rw [hg];intro e;cases e) (by rw [hg];intro e;cases e)).1.trans hg
 ·intro k hk'
  have hk2:k<st.length:=by rw [stPut_len] at hk';exact hk'
  exact h.el k hk2
 ·intro k hk'
  have hk2:k<st.length:=by rw [stPut_len] at hk';exact hk'
  have hg:=h.rl k hk2
  exact (hk _ (by rw [hg];intro e;cases e) (by rw [hg];intro e;cases e)).1.trans hg
 ·intro k hk'
  have hk2:k<st.length:=by rw [stPut_len] at hk';exact hk'
  by_cases e:k=i
  ·subst e
   rw [if_pos rfl]
   exact hrow'
  ·rw [if_neg e]
   refine own_move (h.row k hk2) fun b eb=>?_
   obtain rfl:rb k=b:=by simpa [Value.ownBlock] using eb
   have hg:=h.rl k hk2
   exact (old _ (by rw [hg];intro e;cases e) (by rw [hg];intro e;cases e) (fun e'=>by rw [e',hri] at hg;simp only [Lab.row.injEq] at hg;exact e hg.symm)).2
 ·intro k hk'
  have hk2:k<st.length:=by rw [stPut_len] at hk';exact hk'
  rw [stPut_get st i j t hk2]
  by_cases e:k=i
  ·subst e
   simp only [if_true]
   rw [fv_setV_other (by omega)]
   exact h.by_ k hk2
  ·rw [if_neg e,if_neg (fun x=>e x.symm)]
   exact h.by_ k hk2
 ·intro k hk'
  have hk2:k<st.length:=by rw [stPut_len] at hk';exact hk'
  rw [stPut_get st i j t hk2]
  by_cases e:i=k
  ·rw [if_pos e,List.length_set]
   exact h.len k hk2
  ·rw [if_neg e]
   exact h.len k hk2
 ·intro k hk' j' hj'
  have hk2:k<st.length:=by rw [stPut_len] at hk';exact hk'
  rw [stPut_get st i j t hk2]
  have hmv:(k≠i∨j'≠j)→∀ b,L b=.lst k j'→L' b=.lst k j'∧W.heap[b]?=w.heap[b]?:=fun hne b hb=>by
   have:=old b (by rw [hb];intro e;cases e) (by
    rw [hb]
    intro e
    simp only [Lab.lst.injEq] at e
    rcases hne with hne | hne
    ·exact hne e.1
    ·exact hne e.2) (fun e'=>by rw [e',hri] at hb;cases hb)
   exact ⟨this.1.trans hb,this.2⟩
  by_cases e:k=i
  ·subst e
   simp only [if_true]
   have hl:=h.len k hk2
   by_cases e2:j'=j
   ·subst e2
    rw [fv_setV_same (by omega),List.getD_eq_getElem?_getD,List.getElem?_set_self (by omega)]
    refine ha.move fun b hb=>⟨hb,hW b fun e'=>?_⟩
    rw [e',l1,hri] at hb
    cases hb
   ·rw [fv_setV_other (by omega),List.getD_eq_getElem?_getD,List.getElem?_set_ne (by omega),← List.getD_eq_getElem?_getD]
    exact (h.acc k hk2 j' hj').move (hmv (.inr e2))
  ·simp only [if_neg e,if_neg (fun x:i=k=>e x.symm)]
   exact (h.acc k hk2 j' hj').move (hmv (.inl e))
theorem GrI.putB {w0:World} {c:Nat} {NA:Option Addr} {nc:Nat} {bv ev:Value} {ops:List ByteArray} {L:Nat→Lab} {gv:Value} {xs:List Value} {rb:Nat→Nat} {ys:Nat→List Value} {st:List (T×List T)} {w:World} (h:GrI w0 c NA nc bv ev ops L gv xs rb ys st w) {w5:World} (hb:Below w.heap.size w w5) {i j:Nat} (hi:i<st.length) (hj:j<ops.length) (hne:ops[j]≠gList) {u0 u1 u2 u3 u4:Value} {t:T} (ha:At w0 13 (.agg #[u0,u1,u2,u3,u4]) t) (hok:kindOf t≠0→okA t) :
  GrI w0 c NA nc bv ev ops L gv xs rb (fun k=>if k=i then setV (ys i) (j+1) u0 u1 u2 u3 u4 else ys k) (stPut st i j t) (put5o w5 (rb i) ((j+1)*5) u0 u1 u2 u3 u4) :=
 h.put hi hj (fun b h1 _=>⟨rfl,hb.block b (h.low b h1).2⟩) (fun b h1=>⟨(h.low b h1).1,Nat.lt_of_lt_of_le (h.low b h1).2 hb.size⟩) (.inl ⟨hne,ha,hok⟩)
theorem GrI.putL {w0:World} {c:Nat} {NA:Option Addr} {nc:Nat} {bv ev:Value} {ops:List ByteArray} {L:Nat→Lab} {gv:Value} {xs:List Value} {rb:Nat→Nat} {ys:Nat→List Value} {st:List (T×List T)} {w:World} (h:GrI w0 c NA nc bv ev ops L gv xs rb ys st w) {w5:World} {i j:Nat} (hi:i<st.length) (hj:j<ops.length) (he:ops[j]=gList) {s v:T} {A A':Option Addr} {B B':Nat} {zs cs:List Value} (hA:∀ b,(Value.slice A (nL s) B).ownBlock=some b→L b=.lst i j) (hel:∀ k,k<nL s→At w0 13 (fv zs k) (elt s k)∧okA (elt s k)) (hz:zs.length=nL s*5) (hG:w.grownBy w5 (Value.slice A (nL s) B).ownBlock) (hO:w5.ownsRow w0.heap.size 36 5 (.slice A' (nL s+1) B') (nL s+1) (zs++cs)) (hat:(Value.slice A' (nL s+1) B').ownBlock=(Value.slice A (nL s) B).ownBlock∨∃ b,(Value.slice A' (nL s+1) B').ownBlock=some b∧w.heap.size≤b) {c0 c1 c2 c3 c4:Value} (hcs:cs=[c0,c1,c2,c3,c4]) (hv:At w0 13 (.agg #[c0,c1,c2,c3,c4]) v) (hok:okA v) (hn:nL s+1≤1000000) :
  ∃ L',GrI w0 c NA nc bv ev ops L' gv xs rb (fun k=>if k=i then setV (ys i) (j+1) (.int .i64 5) (.int .i64 0) (.string ⟨#[]⟩) (.slice A' (nL s+1) B') (.slice none 0 0) else ys k) (stPut st i j (mkT 5 0 ByteArray.empty (lOf s++[v]) [])) (put5o w5 (rb i) ((j+1)*5) (.int .i64 5) (.int .i64 0) (.string ⟨#[]⟩) (.slice A' (nL s+1) B') (.slice none 0 0))∧∀ b,b<w.heap.size→L b=.no→L' b=.no:=by
 subst hcs
 have hlt:=hO.lt
 refine ⟨fun b=>if (Value.slice A' (nL s+1) B').ownBlock=some b then .lst i j else L b,h.put hi hj (fun b h1 h2=>⟨if_neg fun e=>?_,hG.block b (h.low b h1).2 fun e=>h2 (hA b e.symm)⟩) (fun b hb=>?_) (.inr ⟨he,A',B',zs++[c0,c1,c2,c3,c4],?_,.inr rfl,?_,?_,fun b hb=>?_,fun k hk=>?_⟩),fun b h1 h2=>?_⟩
 ·rcases hat with e' | ⟨b',e',e2⟩
  ·exact h2 (hA b (e'.symm.trans e))
  ·rw [e',Option.some.injEq] at e
   have:=(h.low b h1).2
   omega
 ·by_cases e:(Value.slice A' (nL s+1) B').ownBlock=some b
  ·exact hlt b e
  ·simp only [if_neg e] at hb
   exact ⟨(h.low b hb).1,Nat.lt_of_lt_of_le (h.low b hb).2 hG.size⟩
 ·rw [kindOf_mk,nOf_mk,sOf_mk,nL_mk,List.length_append,List.length_cons,List.length_nil]
  rfl
 ·rw [nL_mk,List.length_append,List.length_cons,List.length_nil]
  exact hO
 ·rw [nL_mk,List.length_append,List.length_cons,List.length_nil]
  exact hn
 ·rw [nL_mk,List.length_append,List.length_cons,List.length_nil] at hb
  exact if_pos hb
 ·rw [nL_mk,List.length_append,List.length_cons,List.length_nil] at hk
  rw [elt_mk]
  by_cases e:k<nL s
  ·rw [fv_first hz e,List.getD_eq_getElem?_getD,List.getElem?_append_left (by exact e),← List.getD_eq_getElem?_getD]
   exact hel k e
  ·obtain rfl:k=nL s:=by unfold nL at *;omega
   rw [fv_last hz,List.getD_eq_getElem?_getD,List.getElem?_append_right (by exact Nat.le_refl _)]
   unfold nL
   simp only [Nat.sub_self,List.getElem?_cons_zero,Option.getD_some]
   exact ⟨hv,hok⟩
 ·simp only
  rw [if_neg]
  ·exact h2
  ·intro e
   rcases hat with e' | ⟨b',e',e2⟩
   ·have:=hA b (e'.symm.trans e)
    rw [h2] at this
    cases this
   ·rw [e',Option.some.injEq] at e
    omega
end Go.Proofs.YtknakfpciccoaabGreatDoor
/- The walk of an entry's add, on what a group has gathered. -/
namespace Go.Proofs.YtknakfpciccoaabGreatDoor
open Go.RowKit
def isGOp (op:ByteArray):Prop:=op=gSum∨op=gMin∨op=gMax∨op=gFirst∨op=gLast∨op=gList
def AgPost (w0:World) (c:Nat) (NA:Option Addr) (nc:Nat) (bv ev:Value) (ops:List ByteArray) (L:Nat→Lab) (gv:Value) (xs:List Value) (rb:Nat→Nat) (st:List (T×List T)) (i j:Nat) (r:Int⊕T) (w:World) (e:Ending) (w5:World):Prop :=
 Below w0.heap.size w w5∧(∀ b,b<w.heap.size→L b≠.lst i j→w5.heap[b]?=w.heap[b]?) ∧
 ((∃ x,r=.inl x∧x≠0∧e=.returned (.tuple #[.agg #[.int .i64 0,.int .i64 0,.string ⟨#[]⟩,.slice none 0 0,.slice none 0 0],.int .i64 x])) ∨
  ∃ (t:T) (vk vn:Int) (vs:ByteArray) (VA:Option Addr) (vl VB:Nat) (VC:Option Addr) (vm VD:Nat),r=.inr t∧e=.returned (.tuple #[.agg #[.int .i64 vk,.int .i64 vn,.string vs,.slice VA vl VB,.slice VC vm VD],.int .i64 0])∧∃ L' ys',GrI w0 c NA nc bv ev ops L' gv xs rb ys' (stPut st i j t) (put5o w5 (rb i) ((j+1)*5) (.int .i64 vk) (.int .i64 vn) (.string vs) (.slice VA vl VB) (.slice VC vm VD))∧∀ b,b<w.heap.size→L b=.no→L' b=.no)
theorem GrI.shape {w0:World} {c:Nat} {NA:Option Addr} {nc:Nat} {bv ev:Value} {ops:List ByteArray} {L:Nat→Lab} {gv:Value} {xs:List Value} {rb:Nat→Nat} {ys:Nat→List Value} {st:List (T×List T)} {w:World} (h:GrI w0 c NA nc bv ev ops L gv xs rb ys st w) {i j:Nat} (hi:i<st.length) (hj:j<ops.length):∃ s A B C D,s=st[i].2.getD j zeroT∧fv (ys i) (j+1)=.agg #[.int .i64 (kindOf s),.int .i64 (nOf s),.string (sOf s),.slice A (nL s) B,.slice C (nK s) D]:=by
 rcases h.acc i hi j hj with ⟨_,h,_⟩ | ⟨_,A,B,zs,hv,hs,_⟩
 ·obtain ⟨g,La,Ka,Lc,Kc,_,hx,_,_,_⟩:=h.open
  exact ⟨_,La,Lc,Ka,Kc,rfl,hx⟩
 ·refine ⟨_,A,B,none,0,rfl,hv.trans ?_⟩
  have:nK (st[i].2.getD j zeroT)=0:=by
   rcases hs with hs | hs
   ·rw [hs];rfl
   ·rw [hs];rfl
  rw [this]
theorem addGrp_any {Tb:World→Prop} (w0:World) (c:Nat) (NA:Option Addr) (nc:Nat) (bv ev:Value) (ops:List ByteArray) (L:Nat→Lab) (gv:Value) (xs:List Value) (rb:Nat→Nat) (ys:Nat→List Value) (st:List (T×List T)) (w:World) (hI:GrI w0 c NA nc bv ev ops L gv xs rb ys st w) (hb0:Below w0.heap.size w0 w) (i j:Nat) (hi:i<st.length) (hj:j<ops.length) (hop:isGOp ops[j]) (u:Value) (g:T→Int⊕T) (hu:ExprOk Tb w0 u g) (doc:T) (x:Value) (hd:At w0 13 x doc) (hok:okA doc) (hT:∀ w',Below w.heap.size w w'→Tb w') (hn:ops[j]=gList→nL (st[i].2.getD j zeroT)+1≤1000000) :
  Calls Tryz.prog 241 #[.agg #[.string ops[j],u],fv (ys i) (j+1),x] w (AgPost w0 c NA nc bv ev ops L gv xs rb st i j (accS g ops[j] (st[i].2.getD j zeroT) doc) w):=by
 obtain ⟨ty,p,fid,rfl,hm,hcall,hbeh⟩:=hu
 have hbeh':=fun wr x doc h1 h2 h3 h4=>hbeh w0 wr x doc (Below.refl _ _) h1 h2 h3 h4
 have hacc:=hI.acc i hi j hj
 generalize st[i].2.getD j zeroT=s at hacc hn ⊢
 rcases hacc with ⟨hne,ha,hka⟩ | ⟨he,A,B,zs,hv,hs,hrow,hl,hlab,hel⟩
 ·obtain ⟨g1,La,Ka,Lc,Kc,_,hx,_,_,_⟩:=ha.open
  rw [hx] at ha ⊢
  have hpost:∀ e w5,AdPost w0 (accG g ops[j] s doc) w e w5→AgPost w0 c NA nc bv ev ops L gv xs rb st i j (accS g ops[j] s doc) w e w5:=by
   rintro e w5 ⟨hb,hr⟩
   refine ⟨hb.mono hb0.size,fun b h1 _=>hb.block b h1,?_⟩
   unfold accS
   rw [if_neg hne]
   rcases hr with hr | ⟨t,A2,B2,C2,D2,h1,h2,h3,h4⟩
   ·exact .inl hr
   ·exact .inr ⟨t,_,_,_,_,_,_,_,_,_,h1,h2,L,_,hI.putB hb hi hj hne h3 h4,fun b _ h=>h⟩
  by_cases e:ops[j]=gSum
  ·exact (addSum_any ops[j] e ty p fid hm hcall g w0 hbeh' _ doc La Ka Lc Kc x w hb0 ha hd hok hT).mono hpost
  ·refine (addRep_any ops[j] ?_ ty p fid hm hcall g w0 hbeh' _ doc La Ka Lc Kc x w hb0 ha hka hd hok hT).mono hpost
   rcases hop with h | h | h | h | h | h
   ·exact absurd h e
   ·exact .inl h
   ·exact .inr (.inl h)
   ·exact .inr (.inr (.inl h))
   ·exact .inr (.inr (.inr h))
   ·exact absurd h hne
 ·have hn:=hn he
  have hk0:nK s=0:=by
   rcases hs with hs | hs
   ·rw [hs];rfl
   ·rw [hs];rfl
  have hv2:fv (ys i) (j+1)=.agg #[.int .i64 (kindOf s),.int .i64 (nOf s),.string (sOf s),.slice A (nL s) B,.slice none (nK s) 0]:=by rw [hv,hk0]
  rw [hv2]
  refine (addList_any ops[j] he ty p fid hm hcall g w0 hbeh' _ doc A none B 0 x w hb0 w0.heap.size zs hrow hb0.size (by omega) hd hok hT).mono ?_
  rintro e w5 (⟨hb,x',h1,h2,h3⟩ | ⟨t,A2,B2,C2,D2,A',B',h1,h2,h3,h4,h5,h6,h7⟩)
  ·refine ⟨hb.mono hb0.size,fun b h1 _=>hb.block b h1,.inl ⟨x',?_,h2,h3⟩⟩
   unfold accS
   rw [if_pos he,h1]
  ·have hfr:∀ b,b<w.heap.size→L b≠.lst i j→w5.heap[b]?=w.heap[b]?:=fun b k1 k2=>h3.block b k1 fun e=>k2 (hlab b e.symm)
   have hlo:∀ b,(Value.slice A (nL s) B).ownBlock=some b→w0.heap.size≤b:=fun b e=>(hrow.lt b e).1
   refine ⟨⟨h3.os,h3.tape,h3.output,h3.size,fun b hb=>h3.block b (Nat.lt_of_lt_of_le hb hb0.size) fun e=>?_⟩,hfr,.inr ⟨mkT 5 0 ByteArray.empty (lOf s++[t]) [],_,_,_,_,_,_,_,_,_,?_,h2,?_⟩⟩
   ·have:=hlo b e.symm
    omega
   ·unfold accS
    rw [if_pos he,h1]
   ·obtain ⟨L',hG,hL'⟩:=hI.putL (v:=t) hi hj he hlab hel hrow.1 h3 h4 h5 rfl h6 h7 hn
    exact ⟨L',_,hG,hL'⟩
end Go.Proofs.YtknakfpciccoaabGreatDoor
/- The walk of a group's take. -/
namespace Go.Proofs.YtknakfpciccoaabGreatDoor
open Go.RowKit
def rowE (doc:T):List (ByteArray×(T→Int⊕T))→Nat→List T→Int⊕List T
 | [],_,a=>.inr a
 | e::es,k,a=>match accS e.2 e.1 (a.getD k zeroT) doc with
  | .inl x=>.inl x
  | .inr t=>rowE doc es (k+1) (a.set k t)
theorem rowE_err (doc:T):∀ (es:List (ByteArray×(T→Int⊕T))) (e:ByteArray×(T→Int⊕T)) (r:List (ByteArray×(T→Int⊕T))) (k:Nat) (a a':List T) (x:Int),rowE doc es k a=.inr a'→accS e.2 e.1 (a'.getD (k+es.length) zeroT) doc=.inl x→rowE doc (es++e::r) k a=.inl x
 | [],e,r,k,a,a',x,h,hx=>by
  simp only [rowE,Sum.inr.injEq] at h
  subst h
  rw [List.nil_append,rowE,show accS e.2 e.1 (a.getD k zeroT) doc=.inl x from hx]
 | e0::es,e,r,k,a,a',x,h,hx=>by
  rw [rowE] at h
  rw [List.cons_append,rowE]
  cases h0:accS e0.2 e0.1 (a.getD k zeroT) doc with
  | inl y=>rw [h0] at h;cases h
  | inr t =>
   rw [h0] at h
   exact rowE_err doc es e r (k+1) (a.set k t) a' x h (by rw [show k+1+es.length=k+(e0::es).length by rw [List.length_cons];omega];exact hx)
theorem rowE_snoc (doc:T):∀ (es:List (ByteArray×(T→Int⊕T))) (e:ByteArray×(T→Int⊕T)) (k:Nat) (a a':List T) (t:T),rowE doc es k a=.inr a'→accS e.2 e.1 (a'.getD (k+es.length) zeroT) doc=.inr t→rowE doc (es++[e]) k a=.inr (a'.set (k+es.length) t)
 | [],e,k,a,a',t,h,hx=>by
  simp only [rowE,Sum.inr.injEq] at h
  subst h
  rw [List.nil_append,rowE,show accS e.2 e.1 (a.getD k zeroT) doc=.inr t from hx]
  rfl
 | e0::es,e,k,a,a',t,h,hx=>by
  rw [rowE] at h
  rw [List.cons_append,rowE]
  cases h0:accS e0.2 e0.1 (a.getD k zeroT) doc with
  | inl y=>rw [h0] at h;cases h
  | inr t0 =>
   rw [h0] at h
   have:=rowE_snoc doc es e (k+1) (a.set k t0) a' t h (by rw [show k+1+es.length=k+(e0::es).length by rw [List.length_cons];omega];exact hx)
   rw [show k+1+es.length=k+(e0::es).length by rw [List.length_cons];omega] at this
   exact this
def stRow (S:List (T×List T)) (i:Nat) (a:List T):List (T×List T):=S.modify i fun s=>(s.1,a)
theorem stRow_len (S:List (T×List T)) (i:Nat) (a:List T):(stRow S i a).length=S.length:=List.length_modify _ _ _
theorem stRow_get (S:List (T×List T)) (i:Nat) (a:List T) (h:i<S.length):((stRow S i a)[i]'(by rw [stRow_len];exact h)).2=a:=by
 unfold stRow
 rw [List.getElem_modify,if_pos rfl]
theorem stRow_put (S:List (T×List T)) (i:Nat) (a:List T) (k:Nat) (t:T):stPut (stRow S i a) i k t=stRow S i (a.set k t):=by
 unfold stPut stRow
 refine List.ext_getElem (by simp [List.length_modify]) fun n h1 h2=>?_
 simp only [List.getElem_modify]
 by_cases e:i=n
 ·simp only [if_pos e]
 ·simp only [if_neg e]
theorem stRow_same (S:List (T×List T)) (i:Nat) (h:i<S.length):stRow S i S[i].2=S:=by
 unfold stRow
 refine List.ext_getElem (by simp [List.length_modify]) fun n h1 h2=>?_
 rw [List.getElem_modify]
 by_cases e:i=n
 ·subst e
  rw [if_pos rfl]
 ·rw [if_neg e]
theorem gth_lt (n:Nat) (st:List (T×List T)) (b:T):gthI st b<(gthS n st b).length:=by
 have:gthI st b≤st.length:=List.findIdx_le_length
 unfold gthS
 by_cases h:gthI st b<st.length
 ·rw [if_pos h];exact h
 ·rw [if_neg h,List.length_append,List.length_cons,List.length_nil];omega
def takE (gb:T→Int⊕T) (es:List (ByteArray×(T→Int⊕T))) (st:List (T×List T)) (doc:T):Int⊕List (T×List T):=match gb doc with
 | .inl x=>.inl x
 | .inr b=>match rowE doc es 0 ((gthS es.length st b)[gthI st b]'(gth_lt _ _ _)).2 with
  | .inl x=>.inl x
  | .inr a=>.inr (stRow (gthS es.length st b) (gthI st b) a)
def EntsOk (Tb:World→Prop) (w:World) (v:Value) (es:List (ByteArray×(T→Int⊕T))):Prop :=
 ∃ A c,v=.slice A es.length c∧es.length≤100000∧∀ i,(h:i<es.length)→∃ b o u,A=some ⟨b,o,none⟩∧b<w.heap.size∧w.cell? ⟨b,o+i*2,none⟩=some (.string es[i].1)∧w.cell? ⟨b,o+i*2+1,none⟩=some u∧ExprOk Tb w u es[i].2∧isGOp es[i].1
theorem EntsOk.keep {Tb:World→Prop} {w w':World} {v:Value} {es:List (ByteArray×(T→Int⊕T))} (h:EntsOk Tb w v es) (hb:Below w.heap.size w w'):EntsOk Tb w' v es:=by
 obtain ⟨A,c,hv,hn,h⟩:=h
 refine ⟨A,c,hv,hn,fun i hi=>?_⟩
 obtain ⟨b,o,u,h0,hl,q1,q2,hu,ho⟩:=h i hi
 exact ⟨b,o,u,h0,Nat.lt_of_lt_of_le hl hb.size,(hb.cell (p:=⟨b,_,none⟩) hl).trans q1,(hb.cell (p:=⟨b,_,none⟩) hl).trans q2,hu.keep hb,ho⟩
theorem EvPost.flat {w0:World} {g:T→Int⊕T} {doc:T} {w:World} {e:Ending} {w':World} (h:EvPost w0 g doc w e w'):Below w.heap.size w w'∧∃ (vk vn:Int) (vs:ByteArray) (VA:Option Addr) (vl VB:Nat) (VC:Option Addr) (vm VD:Nat) (er:Int),e=.returned (.tuple #[.agg #[.int .i64 vk,.int .i64 vn,.string vs,.slice VA vl VB,.slice VC vm VD],.int .i64 er])∧((g doc=.inl er∧er≠0)∨∃ t A B C D,g doc=.inr t∧er=0∧Value.agg #[.int .i64 vk,.int .i64 vn,.string vs,.slice VA vl VB,.slice VC vm VD]=.agg #[.int .i64 (kindOf t),.int .i64 (nOf t),.string (sOf t),.slice A (nL t) B,.slice C (nK t) D]∧At w0 13 (.agg #[.int .i64 (kindOf t),.int .i64 (nOf t),.string (sOf t),.slice A (nL t) B,.slice C (nK t) D]) t∧okA t):=by
 obtain ⟨hb,⟨x,h1,h2,rfl⟩ | ⟨t,A,B,C,D,h1,rfl,h3,h4⟩⟩:=h
 ·exact ⟨hb,_,_,_,_,_,_,_,_,_,x,rfl,.inl ⟨h1,h2⟩⟩
 ·exact ⟨hb,_,_,_,_,_,_,_,_,_,0,rfl,.inr ⟨t,A,B,C,D,h1,rfl,rfl,h3,h4⟩⟩
theorem AgPost.flat {w0:World} {c:Nat} {NA:Option Addr} {nc:Nat} {bv ev:Value} {ops:List ByteArray} {L:Nat→Lab} {gv:Value} {xs:List Value} {rb:Nat→Nat} {st:List (T×List T)} {i j:Nat} {r:Int⊕T} {w:World} {e:Ending} {w5:World} (h:AgPost w0 c NA nc bv ev ops L gv xs rb st i j r w e w5):Below w0.heap.size w w5∧(∀ b,b<w.heap.size→L b≠.lst i j→w5.heap[b]?=w.heap[b]?)∧∃ (vk vn:Int) (vs:ByteArray) (VA:Option Addr) (vl VB:Nat) (VC:Option Addr) (vm VD:Nat) (er:Int),e=.returned (.tuple #[.agg #[.int .i64 vk,.int .i64 vn,.string vs,.slice VA vl VB,.slice VC vm VD],.int .i64 er])∧((r=.inl er∧er≠0)∨∃ t,r=.inr t∧er=0∧∃ L' ys',GrI w0 c NA nc bv ev ops L' gv xs rb ys' (stPut st i j t) (put5o w5 (rb i) ((j+1)*5) (.int .i64 vk) (.int .i64 vn) (.string vs) (.slice VA vl VB) (.slice VC vm VD))∧∀ b,b<w.heap.size→L b=.no→L' b=.no):=by
 obtain ⟨h1,h2,⟨x,h3,h4,rfl⟩ | ⟨t,_,_,_,_,_,_,_,_,_,h3,rfl,h5⟩⟩:=h
 ·exact ⟨h1,h2,_,_,_,_,_,_,_,_,_,x,rfl,.inl ⟨h3,h4⟩⟩
 ·exact ⟨h1,h2,_,_,_,_,_,_,_,_,_,0,rfl,.inr ⟨t,h3,rfl,h5⟩⟩
end Go.Proofs.YtknakfpciccoaabGreatDoor
