import Derived.Test.YtknakfpciccoaabGreatDoorZS29
import Derived.Test.YtknakfpciccoaabGreatDoorZS24
import Derived.Test.YtknakfpciccoaabGreatDoorZS18
/- The walk of parseGroup. -/
namespace Go.Proofs.YtknakfpciccoaabGreatDoor
open Go.RowKit
def byNm : ByteArray:=⟨#[98,121]⟩
def mkNm : ByteArray:=⟨#[109,97,107,101]⟩
def GpPost (Tb : World→Prop) (wB : World) (gb : T→Int⊕T) (es : List (ByteArray×(T→Int⊕T))) (ks : List ByteArray) (w : World) (e : Ending) (w' : World) : Prop :=
 Below w.heap.size w w'∧∃ NA nc ty p EA ec,e=.returned (.agg #[.slice none 0 0,.slice NA (es.length+1) nc,.iface ty p,.slice EA es.length ec,.slice none 0 0])∧Sat wB w' (newB w w') (fun x=>StrsAt x (.slice NA (es.length+1) nc) ks∧ExprOk Tb x (.iface ty p) gb∧EntsOk Tb x (.slice EA es.length ec) es)
theorem Sat.strs {wB w w' : World} {v : Value} {l : List ByteArray} (h : StrsB w' (newB w w') v l) : Sat wB w' (newB w w') (fun x=>StrsAt x v l) :=
 ⟨newB w w',fun _ hb=>⟨hb,hb.2⟩,fun w2 _ hy=>(h.move (X':=fun b=>b<w2.heap.size) fun b hb=>⟨hy b hb,get_lt hb.2 (hy b hb)⟩).at fun _ hb=>hb⟩
structure GpB (b : Nat) (nl nk : Value) (w : World) : Prop where
 q3 : w.cell? ⟨b,3,none⟩=some nl
 q4 : w.cell? ⟨b,4,none⟩=some nk
 box : BoxAt (b+1) (.slice none 0 0) (.slice none 0 0) .nilIface (.slice none 0 0) (.slice none 0 0) w
theorem GpB.stay {b : Nat} {nl nk : Value} {w w' : World} (h : GpB b nl nk w) (hb : Below w.heap.size w w') : GpB b nl nk w' :=
 have h0 : b<w.heap.size:=by have:=h.box.lt; omega
 ⟨(hb.cell (p:=⟨b,3,none⟩) h0).trans h.q3,(hb.cell (p:=⟨b,4,none⟩) h0).trans h.q4,h.box.stay hb⟩
theorem Sat.put5 {wB w wa W : World} {P : World→Prop} {b : Nat} (h : Sat wB W (newB wa W) P) (hb : b<wa.heap.size) (hw : w.heap.size≤wa.heap.size) (u0 u1 u2 u3 u4 : Value) : Sat wB (put5 W b u0 u1 u2 u3 u4) (newB w (put5 W b u0 u1 u2 u3 u4)) P :=
 h.move fun k hk=>by
  have h1:=hk.1
  refine ⟨put5_other W (by omega) u0 u1 u2 u3 u4,by omega,?_⟩
  rw [put5_size]
  exact hk.2
set_option maxHeartbeats 8000000 in
set_option maxRecDepth 100000 in
theorem pgroup_any {Tb : World→Prop} (hL : Lies Tb) (t bt mt : T) (iB iM : Nat) (gb : T→Int⊕T) (es : List (ByteArray×(T→Int⊕T))) (k6 : kindOf t=6) (k2 : nK t=2) (hiB : idxL byNm (kOf t)=some iB) (hiM : idxL mkNm (kOf t)=some iM) (hbt : elt t iB=bt) (hmt : elt t iM=mt) (hb : PxSaid Tb bt gb)
  (m6 : kindOf mt=6) (hl : nK mt=es.length) (hn : es.length≤100000) (hes : ∀ i,(hi : i<es.length)→nam mt i≠idNm∧isOp (nam mt i)=false∧PeSaid Tb (elt mt i) es[i].1 es[i].2∧isGOp es[i].1∧es[i].1.size≤100)
  (v : Value) (wB w : World) (ha : At wB 13 v t) (hk : okA t) (hb0 : Below wB.heap.size wB w) (hT : Tb w) : Calls Tryz.prog 125 #[v] w (GpPost Tb wB gb es (idNm :: kOf mt) w):=by
 have lB : iB<2:=by have:=idxL_lt hiB; unfold nK at k2; omega
 have lM : iM<2:=by have:=idxL_lt hiM; unfold nK at k2; omega
 have l2 : nL t=2:=by have:=hk.names k6; omega
 obtain ⟨g1,La,Ka,Lc,Kc,hg1,rfl,hfj,hel,hnm⟩:=ha.open
 obtain ⟨eb,eo,hLa,hebl⟩ : ∃ eb eo,La=some ⟨eb,eo,none⟩∧eb<wB.heap.size:=by
  obtain ⟨b,o,_,_,_,_,_,h0,h1,_⟩:=hel.out 0 (by omega)
  exact ⟨b,o,h0,h1⟩
 subst hLa
 have hkb : okA bt:=by rw [← hbt]; exact hk.elt (by omega)
 have hkm : okA mt:=by rw [← hmt]; exact hk.elt (by omega)
 obtain ⟨bA,bB,bC,bD,hB⟩ : ∃ bA bB bC bD,(∀ w' : World,Below wB.heap.size wB w'→w'.cell? ⟨eb,eo+iB * 5,none⟩=some (.int .i64 (kindOf bt))∧w'.cell? ⟨eb,eo+iB * 5+1,none⟩=some (.int .i64 (nOf bt))∧w'.cell? ⟨eb,eo+iB * 5+2,none⟩=some (.string (sOf bt))∧w'.cell? ⟨eb,eo+iB * 5+3,none⟩=some (.slice bA (nL bt) bB)∧w'.cell? ⟨eb,eo+iB * 5+4,none⟩=some (.slice bC (nK bt) bD))∧At wB 13 (.agg #[.int .i64 (kindOf bt),.int .i64 (nOf bt),.string (sOf bt),.slice bA (nL bt) bB,.slice bC (nK bt) bD]) bt:=by
  obtain ⟨b,o,A,B,C,D,h0,hbl,p0,p1,p2,p3,p4,Ha⟩:=hel.out.shape (Below.refl _ _) iB (by omega)
  cases h0
  rw [hbt] at p0 p1 p2 p3 p4 Ha
  exact ⟨A,B,C,D,fun w' hw=>⟨(hw.cell (p:=⟨_,_,none⟩) hebl).trans p0,(hw.cell (p:=⟨_,_,none⟩) hebl).trans p1,(hw.cell (p:=⟨_,_,none⟩) hebl).trans p2,(hw.cell (p:=⟨_,_,none⟩) hebl).trans p3,(hw.cell (p:=⟨_,_,none⟩) hebl).trans p4⟩,Ha.out.up (by omega)⟩
 obtain ⟨mA,mB,mC,mD,hM⟩ : ∃ mA mB mC mD,(∀ w' : World,Below wB.heap.size wB w'→w'.cell? ⟨eb,eo+iM * 5,none⟩=some (.int .i64 (kindOf mt))∧w'.cell? ⟨eb,eo+iM * 5+1,none⟩=some (.int .i64 (nOf mt))∧w'.cell? ⟨eb,eo+iM * 5+2,none⟩=some (.string (sOf mt))∧w'.cell? ⟨eb,eo+iM * 5+3,none⟩=some (.slice mA (nL mt) mB)∧w'.cell? ⟨eb,eo+iM * 5+4,none⟩=some (.slice mC (nK mt) mD))∧At wB 13 (.agg #[.int .i64 (kindOf mt),.int .i64 (nOf mt),.string (sOf mt),.slice mA (nL mt) mB,.slice mC (nK mt) mD]) mt:=by
  obtain ⟨b,o,A,B,C,D,h0,hbl,p0,p1,p2,p3,p4,Ha⟩:=hel.out.shape (Below.refl _ _) iM (by omega)
  cases h0
  rw [hmt] at p0 p1 p2 p3 p4 Ha
  exact ⟨A,B,C,D,fun w' hw=>⟨(hw.cell (p:=⟨_,_,none⟩) hebl).trans p0,(hw.cell (p:=⟨_,_,none⟩) hebl).trans p1,(hw.cell (p:=⟨_,_,none⟩) hebl).trans p2,(hw.cell (p:=⟨_,_,none⟩) hebl).trans p3,(hw.cell (p:=⟨_,_,none⟩) hebl).trans p4⟩,Ha.out.up (by omega)⟩
 have HBc:=hid hB.1
 have HMc:=hid hM.1
 have HMn : Hid (∀ w' : World,Below wB.heap.size wB w'→StrsAt w' (.slice mC (nK mt) mD) (kOf mt)):=by
  obtain ⟨g2,A2,K2,C2,D2,_,hx2,hf2,_,hnm2⟩:=hM.2.open
  simp only [Value.agg.injEq,Array.mk.injEq,List.cons.injEq,Value.slice.injEq,and_true,true_and] at hx2
  obtain ⟨⟨rfl,rfl⟩,rfl,rfl⟩:=hx2
  exact fun w' hw=>(names_strs hnm2.out hf2.m1).keep hw
 have HE : Hid (∀ w' : World,Below wB.heap.size wB w'→Tb w'→Calls Tryz.prog 148 #[.agg #[.int .i64 (kindOf bt),.int .i64 (nOf bt),.string (sOf bt),.slice bA (nL bt) bB,.slice bC (nK bt) bD]] w' (XpPost Tb wB gb w')):=fun w' h1 h2=>ppExpr_any hL bt gb hb _ wB w' hB.2 hkb h1 h2
 have HEs : Hid (∀ w' : World,Below wB.heap.size wB w'→Tb w'→Calls Tryz.prog 150 #[.agg #[.int .i64 (kindOf mt),.int .i64 (nOf mt),.string (sOf mt),.slice mA (nL mt) mB,.slice mC (nK mt) mD]] w' (EsPost Tb wB es w')):=fun w' h1 h2=>pents_any hL mt es m6 hl hn hes _ wB w' hM.2 hkm h1 h2
 have HT : Hid (∀ w' : World,Below w.heap.size w w'→Tb w'):=fun w' hb=>hL w hT w w' hT hb
 rw [k6,k2,l2]
 have HB1 : Hid (Below w.heap.size w ((w.alloc (.cells #[.int .i64 6,.int .i64 (nOf t),.string (sOf t),.slice (some ⟨eb,eo,none⟩) 2 Lc,.slice Ka 2 Kc] 36)).alloc (.cells #[.slice none 0 0,.slice none 0 0,.nilIface,.slice none 0 0,.slice none 0 0] 178))):=((Below.refl _ _).alloc (Nat.le_refl _) _).alloc (by simp) _
 have HG1 : Hid (GpB w.heap.size (.slice (some ⟨eb,eo,none⟩) 2 Lc) (.slice Ka 2 Kc) ((w.alloc (.cells #[.int .i64 6,.int .i64 (nOf t),.string (sOf t),.slice (some ⟨eb,eo,none⟩) 2 Lc,.slice Ka 2 Kc] 36)).alloc (.cells #[.slice none 0 0,.slice none 0 0,.nilIface,.slice none 0 0,.slice none 0 0] 178))):=⟨by simp [go_sem],by simp [go_sem],by constructor <;> simp [go_sem]⟩
 have HW1s : Hid (((w.alloc (.cells #[.int .i64 6,.int .i64 (nOf t),.string (sOf t),.slice (some ⟨eb,eo,none⟩) 2 Lc,.slice Ka 2 Kc] 36)).alloc (.cells #[.slice none 0 0,.slice none 0 0,.nilIface,.slice none 0 0,.slice none 0 0] 178)).heap.size=w.heap.size+2):=by show _=_; simp
 have HIx : Hid (∀ w' : World,Below w.heap.size w w'→Calls Tryz.prog 91 #[.slice Ka 2 Kc,.string ⟨#[98,121]⟩] w' (fun e w2=>e=.returned (.int .i64 (iB : Nat))∧w2=w')∧Calls Tryz.prog 91 #[.slice Ka 2 Kc,.string ⟨#[109,97,107,101]⟩] w' (fun e w2=>e=.returned (.int .i64 (iM : Nat))∧w2=w')):=by
  intro w' hw
  have hs:=(names_strs (Kc:=Kc) hnm.out hfj.m1).keep (hb0.trans (hw.mono hb0.size))
  rw [k2] at hs
  refine ⟨(index_any _ _ byNm w' hs).mono fun e w2 hh=>⟨by rw [hh.1,hiB]; rfl,hh.2⟩,(index_any _ _ mkNm w' hs).mono fun e w2 hh=>⟨by rw [hh.1,hiM]; rfl,hh.2⟩⟩
 have Hb0:=hid hb0
 have Hl:=hid hl
 have Hn:=hid hn
 have lBi : (iB : Int)<2:=by omega
 have lMi : (iM : Int)<2:=by omega
 clear ha hk hel hnm hfj hb hes hB hM hkb hkm hbt hmt hiB hiM hT hL hl hn m6 hb0 hg1 hebl
 go_enter Tryz.func125,Tryz.ntmps125
 go_wp2_with fail
 refine (needP_any _).mono ?_
 rintro e w2 ⟨rfl,rfl⟩
 generalize ((w.alloc (.cells #[.int .i64 6,.int .i64 (nOf t),.string (sOf t),.slice (some ⟨eb,eo,none⟩) 2 Lc,.slice Ka 2 Kc] 36)).alloc (.cells #[.slice none 0 0,.slice none 0 0,.nilIface,.slice none 0 0,.slice none 0 0] 178))=W1 at HB1 HG1 HW1s ⊢
 have HBd:=hid HB1.out.drew
 have HGd:=hid (HG1.out.stay (below_drew _))
 have HWd : Hid (W1.drew.heap.size=w.heap.size+2):=by show _=_; simpa using HW1s.out
 have HSd:=hid HGd.out.q4
 have HI1:=hid (HIx.out _ HBd.out).1
 have HI2:=hid (HIx.out _ HBd.out).2
 clear HIx HB1 HG1
 go_wp2_with fail
 go_region_held3 (fun wx=>wx.cell? ⟨w.heap.size,4,none⟩=some (.slice Ka 2 Kc)) (first | exact HSd.out) (first | (go_at_call 91; with_reducible refine Calls.mono HI1.out ?_; rintro e5 w5 ⟨rfl,rfl⟩) | (go_at_call 91; with_reducible refine Calls.mono HI2.out ?_; rintro e5 w5 ⟨rfl,rfl⟩))
 clear HSd HI1 HI2
 generalize W1.drew=Wd at HBd HGd HWd ⊢
 go_wp2_with fail
 refine (needP_any _).mono ?_
 rintro e Wd ⟨rfl,rfl⟩
 have HBi : Hid (Below Wd.heap.size Wd (Wd.alloc (.cells #[.string ⟨#[95,105,100]⟩] 9))):=(Below.refl _ _).alloc (Nat.le_refl _) _
 have HBj : Hid (Below Wd.heap.size Wd ((Wd.alloc (.cells #[.string ⟨#[95,105,100]⟩] 9)).alloc (.cells #[.slice (some ⟨Wd.heap.size,0,none⟩) 1 1,.slice mC (nK mt) mD] 28))):=((Below.refl _ _).alloc (Nat.le_refl _) _).alloc (by simp) _
 have HBw : Hid (Below wB.heap.size wB Wd):=Hb0.out.trans (HBd.out.mono Hb0.out.size)
 have q3:=(HGd.out.stay HBi.out).q3
 obtain ⟨m0,m1,m2,m3,m4⟩:=HMc.out _ (HBw.out.trans (HBi.out.mono HBw.out.size))
 have HCc : Hid (Calls Tryz.prog 149 #[.slice (some ⟨Wd.heap.size+1,0,none⟩) 2 2] ((Wd.alloc (.cells #[.string ⟨#[95,105,100]⟩] 9)).alloc (.cells #[.slice (some ⟨Wd.heap.size,0,none⟩) 1 1,.slice mC (nK mt) mD] 28)) fun e w'=>Below ((Wd.alloc (.cells #[.string ⟨#[95,105,100]⟩] 9)).alloc (.cells #[.slice (some ⟨Wd.heap.size,0,none⟩) 1 1,.slice mC (nK mt) mD] 28)).heap.size ((Wd.alloc (.cells #[.string ⟨#[95,105,100]⟩] 9)).alloc (.cells #[.slice (some ⟨Wd.heap.size,0,none⟩) 1 1,.slice mC (nK mt) mD] 28)) w'∧∃ v,e=.returned v∧StrsB w' (newB ((Wd.alloc (.cells #[.string ⟨#[95,105,100]⟩] 9)).alloc (.cells #[.slice (some ⟨Wd.heap.size,0,none⟩) 1 1,.slice mC (nK mt) mD] 28)) w') v ([idNm] ++ kOf mt)):=by
  refine concat_any (Wd.heap.size+1) (some ⟨Wd.heap.size,0,none⟩) mC 1 mD 1 (nK mt) [idNm] (kOf mt) ((Wd.alloc (.cells #[.string ⟨#[95,105,100]⟩] 9)).alloc (.cells #[.slice (some ⟨Wd.heap.size,0,none⟩) 1 1,.slice mC (nK mt) mD] 28)) (by simp [go_sem]) (by simp [go_sem]) ?_ (HMn.out _ (HBw.out.trans (HBj.out.mono HBw.out.size))) (by simp) (by omega) (by have:=Hl.out; have:=Hn.out; omega)
  refine ⟨_,_,rfl,by simp,fun i hi=>?_⟩
  obtain rfl : i=0:=by simp at hi; omega
  exact ⟨Wd.heap.size,0,rfl,by simp; omega,by decide,by simp [go_sem]; rfl⟩
 have HBd5:=hid (HBd.out.trans (HBj.out.mono HBd.out.size))
 have HG5:=hid (HGd.out.stay HBj.out)
 have HBw5:=hid (HBw.out.trans (HBj.out.mono HBw.out.size))
 have HW5 : Hid (w.heap.size+2≤((Wd.alloc (.cells #[.string ⟨#[95,105,100]⟩] 9)).alloc (.cells #[.slice (some ⟨Wd.heap.size,0,none⟩) 1 1,.slice mC (nK mt) mD] 28)).heap.size):=by show _≤_; have:=HWd.out; simp; omega
 go_wp2_with fail
 refine HCc.out.mono ?_
 rintro e w6 ⟨b6,nv,rfl,hs6⟩
 have HS6:=hid hs6
 obtain ⟨NA,nc,hnv,hz1,hz2⟩:=hs6
 have hlen : ([idNm] ++ kOf mt).length=es.length+1:=by have:=Hl.out; unfold nK at this; simp; omega
 rw [hlen] at hnv
 subst hnv
 clear hz1 hz2 hlen m0 m1 m2 m3 m4 q3 HCc
 have HB6:=hid (HBd5.out.trans (b6.mono HBd5.out.size))
 have HG6:=hid (HG5.out.stay b6)
 have HBw6:=hid (HBw5.out.trans (b6.mono HBw5.out.size))
 have HS6a:=hid ((Sat.strs (wB:=wB) HS6.out).later (wa:=W1) (below_drew _) (by have:=HW5.out; have:=HW1s.out; omega))
 have HB6d:=hid HB6.out.drew
 have HBw6d:=hid HBw6.out.drew
 have HG6d:=hid (HG6.out.stay (below_drew _))
 have HW6 : Hid (W1.heap.size≤w6.drew.heap.size):=by show _≤_; have:=HW5.out; have:=HW1s.out; have:=b6.size; simp; omega
 have HE6:=hid (HE.out _ HBw6d.out (HT.out _ HB6d.out))
 obtain ⟨e0,e1,e2,e3,e4⟩:=HBc.out _ HBw6.out
 obtain ⟨m0,m1,m2,m3,m4⟩:=HMc.out _ HBw6.out
 have q3:=HG6.out.q3
 clear b6 HS6 HE HBd HGd HBj HBi HBw HBd5 HG5 HBw5 HW5 HWd
 go_wp2_with fail
 go_region_law (first | (go_simp; go_wp2_with (go_at_call 148; refine HE6.out.mono ?_; rintro e7 w7 ⟨b7,ty,p,rfl,hs7⟩; have HB7:=hid (HB6d.out.trans (b7.mono HB6d.out.size)); have HBw7:=hid (HBw6d.out.trans (b7.mono HBw6d.out.size)); have HG7:=hid (HG6d.out.stay b7); have q37:=HG7.out.q3; have Hb7:=hid b7; have Hs7:=hid hs7; obtain ⟨n0,n1,n2,n3,n4⟩:=HMc.out _ HBw7.out; have HCALL:=hid trivial; clear b7 hs7); clear HCALL) | (go_simp; go_wp2_with (go_at_call 150; refine (HEs.out w7 HBw7.out (HT.out _ HB7.out)).mono ?_; rintro e8 w8 ⟨b8,EA,ec,rfl,hs8⟩; have HG8:=hid (HG7.out.stay b8); have Hb8:=hid b8; have Hs8:=hid hs8; have r0:=HG8.out.box.q0; have r1:=HG8.out.box.q1; have r2:=HG8.out.box.q2; have r3:=HG8.out.box.q3; have r4:=HG8.out.box.q4; have z0:=HG8.out.box.f0; have z1:=HG8.out.box.f1; have z2:=HG8.out.box.f2; have z3:=HG8.out.box.f3; have z4:=HG8.out.box.f4; have HCALL:=hid trivial; clear b8 hs8); clear HCALL))
 all_goals
  go_wp2_with fail
  have HO:=hid (HG8.out.box.put5 (.slice none 0 0) (.slice NA (es.length+1) nc) (.iface ty p) (.slice EA es.length ec) (.slice none 0 0))
  have HBf:=hid (below_res (HB7.out.trans (Hb8.out.mono HB7.out.size)) (b:=w.heap.size+1) (by omega) (by have:=HG8.out.box.lt; omega) (.slice none 0 0) (.slice NA (es.length+1) nc) (.iface ty p) (.slice EA es.length ec) (.slice none 0 0))
  have HSf:=hid ((((HS6a.out.later (wa:=W1) Hb7.out (Nat.le_refl _)).later (wa:=W1) Hb8.out (Nat.le_refl _)).and ((Hs7.out.later (wa:=W1) Hb8.out HW6.out).and (Hs8.out.later (wa:=W1) (Below.refl _ _) (Nat.le_trans HW6.out Hb7.out.size)))).put5 (w:=w) (b:=w.heap.size+1) (by have:=HW1s.out; omega) (by have:=HW1s.out; omega) (.slice none 0 0) (.slice NA (es.length+1) nc) (.iface ty p) (.slice EA es.length ec) (.slice none 0 0))
  unfold put5 at HO HBf HSf
  clear r0 r1 r2 r3 r4 z0 z1 z2 z3 z4 n0 n1 n2 n3 n4 e0 e1 e2 e3 e4 m0 m1 m2 m3 m4 q3 q37
  have r0:=HO.out.q0
  have r1:=HO.out.q1
  have r2:=HO.out.q2
  have r3:=HO.out.q3
  have r4:=HO.out.q4
  refine bodyPost_ret (v:=.agg #[.slice none 0 0,.slice NA (es.length+1) nc,.iface ty p,.slice EA es.length ec,.slice none 0 0]) (by simp [results,Tryz.results125,go_sem, *]) rfl ?_
  exact ⟨HBf.out,NA,nc,ty,p,EA,ec,rfl,HSf.out⟩
end Go.Proofs.YtknakfpciccoaabGreatDoor
/- The walk of a pipeline: its stages, one behind the other. -/
namespace Go.Proofs.YtknakfpciccoaabGreatDoor
open Go.RowKit
theorem At.cells {w w' : World} (hs : w.heap.size≤w'.heap.size) (hc : ∀ b o,w'.cell? ⟨b,o,none⟩=w.cell? ⟨b,o,none⟩) : ∀ {f : Nat} {v : Value} {t : T},At w f v t→At w' f v t:=by
 intro f
 induction f with
 | zero=>intro v t h; exact h.elim
 | succ f ih =>
  rintro v t ⟨La,Ka,Lc,Kc,rfl,hf,hl,hk⟩
  refine ⟨La,Ka,Lc,Kc,rfl,hf,fun i hi=>?_,fun i hi=>?_⟩
  ·obtain ⟨b,o,c0,c1,c2,c3,c4,h0,hbl,q0,q1,q2,q3,q4,ha⟩:=hl i hi
   exact ⟨b,o,c0,c1,c2,c3,c4,h0,Nat.lt_of_lt_of_le hbl hs,(hc _ _).trans q0,(hc _ _).trans q1,(hc _ _).trans q2,(hc _ _).trans q3,(hc _ _).trans q4,ih ha⟩
  ·obtain ⟨b,o,h0,hbl,h2,h3⟩:=hk i hi
   exact ⟨b,o,h0,Nat.lt_of_lt_of_le hbl hs,h2,(hc _ _).trans h3⟩
theorem DocsAt.cells {w w' : World} {v : Value} {l : List T} (h : DocsAt w v l) (hs : w.heap.size≤w'.heap.size) (hc : ∀ b o,w'.cell? ⟨b,o,none⟩=w.cell? ⟨b,o,none⟩) : DocsAt w' v l:=by
 obtain ⟨La,Lc,h1,h2,h3,h4,h5,h6⟩:=h
 refine ⟨La,Lc,h1,h2,h3,h4,fun i hi=>?_,h6⟩
 obtain ⟨b,o,c0,c1,c2,c3,c4,h0,hbl,q0,q1,q2,q3,q4,ha⟩:=h5 i hi
 exact ⟨b,o,c0,c1,c2,c3,c4,h0,Nat.lt_of_lt_of_le hbl hs,(hc _ _).trans q0,(hc _ _).trans q1,(hc _ _).trans q2,(hc _ _).trans q3,(hc _ _).trans q4,ha.cells hs hc⟩
theorem set_self {w : World} {b o : Nat} {u : Value} (h : w.cell? ⟨b,o,none⟩=some u) (c k : Nat) : (w.setCell ⟨b,o,none⟩ u).cell? ⟨c,k,none⟩=w.cell? ⟨c,k,none⟩:=by
 by_cases e : b≠c∨o≠k
 ·exact set_other e u
 ·have e1 : b=c:=Decidable.byContradiction fun h=>e (.inl h)
  have e2 : o=k:=Decidable.byContradiction fun h=>e (.inr h)
  subst e1
  subst e2
  rw [World.cell?_setCell_same w ⟨b,o,none⟩ u h,h]
def pipE : List (List T→(Nat×Int)⊕List T)→List T→Nat→(Nat×Nat×Int)⊕List T
 | [],l,_=>.inr l
 | g :: gs,l,i=>match g l with
  | .inl (k,x)=>.inl (i,k,x)
  | .inr r=>pipE gs r (i+1)
def StagesOk (Tb : World→Prop) (w : World) (v : Value) (gs : List (List T→(Nat×Int)⊕List T)) : Prop :=
 ∃ A c,v=.slice A gs.length c∧gs.length≤1000000∧∀ i,(h : i<gs.length)→∃ b o u,A=some ⟨b,o,none⟩∧b<w.heap.size∧w.cell? ⟨b,o+i,none⟩=some u∧StageOk Tb w u gs[i]
def RnPost (gs : List (List T→(Nat×Int)⊕List T)) (l : List T) (w : World) (e : Ending) (w' : World) : Prop :=
 Below w.heap.size w w'∧((∃ (i k : Nat) (x : Int),pipE gs l 0=.inl (i,k,x)∧x≠0∧e=.returned (.tuple #[.slice none 0 0,.agg #[.int .i64 i,.int .i64 k,.int .i64 x]]))∨∃ r v,pipE gs l 0=.inr r∧e=.returned (.tuple #[v,.agg #[.int .i64 0,.int .i64 0,.int .i64 0]])∧DocsAt w' v r)
structure Box3 (b : Nat) (w : World) : Prop where
 q0 : w.cell? ⟨b,0,none⟩=some (.int .i64 0)
 q1 : w.cell? ⟨b,1,none⟩=some (.int .i64 0)
 q2 : w.cell? ⟨b,2,none⟩=some (.int .i64 0)
 f0 : w.frozen? ⟨b,0,none⟩=false
 f1 : w.frozen? ⟨b,1,none⟩=false
 f2 : w.frozen? ⟨b,2,none⟩=false
 lt : b<w.heap.size
theorem Box3.stay {b : Nat} {w w' : World} (h : Box3 b w) (hb : Below w.heap.size w w') : Box3 b w' :=
 ⟨(hb.cell (p:=⟨b,0,none⟩) h.lt).trans h.q0,(hb.cell (p:=⟨b,1,none⟩) h.lt).trans h.q1,(hb.cell (p:=⟨b,2,none⟩) h.lt).trans h.q2,(World.frozen?_of_block (a:=⟨b,0,none⟩) (hb.block b h.lt)).trans h.f0,(World.frozen?_of_block (a:=⟨b,1,none⟩) (hb.block b h.lt)).trans h.f1,(World.frozen?_of_block (a:=⟨b,2,none⟩) (hb.block b h.lt)).trans h.f2,Nat.lt_of_lt_of_le h.lt hb.size⟩
theorem Box3.new (w : World) : Box3 w.heap.size (w.alloc (.cells #[.int .i64 0,.int .i64 0,.int .i64 0] 57)):=by
 constructor <;> simp [go_sem]
theorem set3_below {w W : World} (h : Below w.heap.size w W) {b : Nat} (hb : w.heap.size≤b) (u0 u1 u2 : Value) : Below w.heap.size w (((W.setCell ⟨b,0,none⟩ u0).setCell ⟨b,1,none⟩ u1).setCell ⟨b,2,none⟩ u2):=by
 have one : ∀ (W : World) (o : Nat) (u : Value),Below w.heap.size w W→Below w.heap.size w (W.setCell ⟨b,o,none⟩ u):=fun W o u h=>by
  obtain ⟨t1,t2,t3,t4⟩:=setC_rest W ⟨b,o,none⟩ u
  exact ⟨t2.trans h.os,t3.trans h.tape,t4.trans h.output,by rw [t1]; exact h.size,fun k hk=>(Below.heap_setCell _ _ _ _ (by simp; omega)).trans (h.block k hk)⟩
 exact one _ _ _ (one _ _ _ (one _ _ _ h))
theorem set3_docs {W : World} {b : Nat} (h : Box3 b W) {v : Value} {l : List T} (hd : DocsAt W v l) : DocsAt (((W.setCell ⟨b,0,none⟩ (.int .i64 0)).setCell ⟨b,1,none⟩ (.int .i64 0)).setCell ⟨b,2,none⟩ (.int .i64 0)) v l:=by
 have h1:=set_self h.q0
 have h2:=set_self ((h1 b 1).trans h.q1)
 have h3:=set_self ((h2 b 2).trans ((h1 b 2).trans h.q2))
 exact hd.cells (by simp [World.setCell]) fun c k=>(h3 c k).trans ((h2 c k).trans (h1 c k))
set_option maxHeartbeats 8000000 in
set_option maxRecDepth 100000 in
theorem pipe_any {Tb : World→Prop} (hL : Lies Tb) (pv dv : Value) (gs : List (List T→(Nat×Int)⊕List T)) (l : List T) (w : World) (hp : StagesOk Tb w pv gs) (hd : DocsAt w dv l) (hT : Tb w) :
  Calls Tryz.prog 23 #[pv,dv] w (RnPost gs l w):=by
 obtain ⟨EA,ec,rfl,hn,hes⟩:=hp
 have HEs:=hid hes
 have HT : Hid (∀ w' : World,Below w.heap.size w w'→Tb w'):=fun w' hb=>hL w hT w w' hT hb
 have HB1 : Hid (Below w.heap.size w (w.alloc (.cells #[.int .i64 0,.int .i64 0,.int .i64 0] 57))):=(Below.refl _ _).alloc (Nat.le_refl _) _
 have HX1:=hid (Box3.new w)
 have HD1:=hid (hd.keep HB1.out)
 obtain ⟨DA,dc,hdv,hz⟩:=hd
 clear hes hT hL hz
 subst hdv
 obtain ⟨n,hln⟩ : ∃ n,gs.length=n:=⟨_,rfl⟩
 have Hln:=hid hln
 rw [hln] at hn ⊢
 clear hln
 go_enter Tryz.func23,Tryz.ntmps23
 go_wp2_with fail
 go_loopg [1,13] n (fun g d i wr=>∃ (k : Nat) (l' : List T),g=n - k∧k≤n∧i=.int .i64 k∧Hid (Below w.heap.size w wr)∧Hid (Box3 w.heap.size wr)∧Hid (DocsAt wr d l')∧Hid (pipE gs l 0=pipE (gs.drop k) l' k))
 case atStart=>exact ⟨0,l,rfl,Nat.zero_le _,rfl,HB1,HX1,HD1,rfl⟩
 case round =>
  obtain ⟨k,l',rfl,hk,rfl,HB,HX,HD,HE⟩:=hrel
  by_cases hlt : k<n
  ·have hkl : k<gs.length:=by rw [Hln.out]; exact hlt
   obtain ⟨b,o,u,rfl,hbl,p0,hex⟩:=HEs.out k hkl
   have p0':=(HB.out.cell (p:=⟨b,o+k,none⟩) hbl).trans p0
   obtain ⟨ty,p,fid,rfl,hm,hcall,hbeh⟩:=hex
   have HG : Hid (pipE gs l 0=pipE (gs[k] :: gs.drop (k+1)) l' k):=by show _=_; rw [← List.drop_eq_getElem_cons hkl]; exact HE.out
   generalize gs[k]=gk at hbeh HG
   have hmw:=hm wr
   have HC:=hid (hbeh wr u1 l' HB.out HD.out (HT.out _ HB.out))
   clear p0 hbeh hm
   go_wp2_with fail
   refine HC.out.mono ?_
   rintro e w2 ⟨b2,⟨j,x,h1,h2,rfl⟩ | ⟨r,v,h1,rfl,h3⟩⟩
   ·have ez : (x == 0)=false:=by simpa using h2
    have HF : Hid (pipE gs l 0=.inl (k,j,x)∧x≠0):=⟨by rw [HG.out,pipE,h1],h2⟩
    have HB2:=hid (HB.out.trans (b2.mono HB.out.size))
    have HX2:=hid (HX.out.stay b2)
    have HBf:=hid (set3_below HB2.out (b:=w.heap.size) (Nat.le_refl _) (.int .i64 (k : Nat)) (.int .i64 (j : Nat)) (.int .i64 x))
    have q0:=HX2.out.q0
    have q1:=HX2.out.q1
    have q2:=HX2.out.q2
    have f0:=HX2.out.f0
    have f1:=HX2.out.f1
    have f2:=HX2.out.f2
    clear b2 h1 h2 HC
    go_wp2_with fail
    refine bodyPost_ret (v:=.tuple #[.slice none 0 0,.agg #[.int .i64 (k : Nat),.int .i64 (j : Nat),.int .i64 x]]) (by simp [results,Tryz.results23,go_sem, *]) rfl ?_
    exact ⟨HBf.out,.inl ⟨k,j,x,HF.out.1,HF.out.2,rfl⟩⟩
   ·have HE2 : Hid (pipE gs l 0=pipE (gs.drop (k+1)) r (k+1)):=by show _=_; rw [HG.out,pipE,h1]
    have HB2:=hid (HB.out.trans (b2.mono HB.out.size))
    have HX2:=hid (HX.out.stay b2)
    have HD2:=hid h3
    clear b2 h1 h3 HC
    go_wp2_with fail
    go_roundg (n - (k+1))
    case rel=>exact ⟨k+1,r,rfl,by omega,by go_num,HB2,HX2,HD2,HE2⟩
    case measure=>omega
  ·obtain rfl : k=n:=by omega
   have HF : Hid (pipE gs l 0=.inr l'):=by
    show _=_
    rw [HE.out,← Hln.out,List.drop_length]
    rfl
   have HBf:=hid (set3_below HB.out (b:=w.heap.size) (Nat.le_refl _) (.int .i64 0) (.int .i64 0) (.int .i64 0))
   have HDf:=hid (set3_docs HX.out HD.out)
   have q0:=HX.out.q0
   have q1:=HX.out.q1
   have q2:=HX.out.q2
   have f0:=HX.out.f0
   have f1:=HX.out.f1
   have f2:=HX.out.f2
   go_wp2_with fail
   refine bodyPost_ret (v:=.tuple #[u1,.agg #[.int .i64 0,.int .i64 0,.int .i64 0]]) (by simp [results,Tryz.results23,go_sem, *]) rfl ?_
   exact ⟨HBf.out,.inr ⟨l',u1,HF.out,rfl,HDf.out⟩⟩
end Go.Proofs.YtknakfpciccoaabGreatDoor
/- Stages are read: what a reader of stages answers; parsePipeline, pipe.Parse. -/
namespace Go.Proofs.YtknakfpciccoaabGreatDoor
open Go.RowKit
abbrev StgF:=List T→(Nat×Int)⊕List T
def SgPost (Tb : World→Prop) (wB : World) (g : StgF) (w : World) (e : Ending) (w' : World) : Prop :=
 Below w.heap.size w w'∧∃ ty p,e=.returned (.iface ty p)∧Sat wB w' (newB w w') (fun x=>StageOk Tb x (.iface ty p) g)
def PsSaid (Tb : World→Prop) (t : T) (g : StgF) : Prop:=∀ (v : Value) (wB w : World),At wB 13 v t→okA t→Below wB.heap.size wB w→Tb w→Calls Tryz.prog 94 #[v] w (SgPost Tb wB g w)
theorem newX_new {base : Nat} {hv : Value} {w wr : World} (hlo : w.heap.size≤base) {b : Nat} (h : newX base hv wr b) : newB w wr b:=⟨Nat.le_trans hlo h.1,h.2.1⟩
theorem infoSg : (Tryz.prog.info? 82).map (fun i=>(i.zero,i.size,i.bytes))=some (some .nilIface,1,16):=by kernel_rfl
def StgE (Tb : World→Prop) (wB : World) (w : World) (X : Nat→Prop) (cs : List Value) (g : StgF) : Prop:=∃ ty q,cs=[.iface ty q]∧Sat wB w X (fun x=>StageOk Tb x (.iface ty q) g)
theorem stgE_moves (Tb : World→Prop) (wB : World) : Moves (StgE Tb wB):=fun _ _ _ _ _ _ h hb=>by
 obtain ⟨ty,q,h1,h2⟩:=h
 exact ⟨ty,q,h1,h2.move hb⟩
theorem bld_stages {Tb : World→Prop} {wB : World} {base : Nat} {hv : Value} {gs : List StgF} {xs : List Value} {w wr : World} (h : Bld (StgE Tb wB) 1 82 base hv gs xs wr) (hlo : w.heap.size≤base) (hn : gs.length≤1000000) : ∃ A c,hv=.slice A gs.length c∧Sat wB wr (newB w wr) (fun x=>StagesOk Tb x (.slice A gs.length c) gs):=by
 have hrow:=h.row
 rcases h.row.2 with ⟨rfl,h0⟩ | ⟨g,cap,cur,rfl,hb0,hgb,_⟩
 ·exact ⟨none,0,by rw [h0],Sat.all fun w' _=>⟨none,0,rfl,hn,fun i hi=>by omega⟩⟩
 ·have hgl:=(Array.getElem?_eq_some_iff.1 hgb).1
  refine ⟨some ⟨g,0,none⟩,cap,rfl,newB w wr,fun b hb=>⟨hb,hb.2⟩,fun w' hw hy=>⟨_,_,rfl,hn,fun i hi=>?_⟩⟩
  obtain ⟨ty,q,hc,hs⟩:=h.el i hi
  have c0:=row_cell hrow (elC_get (r:=0) (by rw [hc]; rfl) (by omega))
  have hgw : w'.heap[g]?=wr.heap[g]?:=hy g ⟨by omega,hgl⟩
  refine ⟨g,0,.iface ty q,rfl,get_lt hgl hgw,?_,?_⟩
  ·rw [cell_of hgw,Nat.zero_add]; rw [Nat.mul_one,Nat.add_zero] at c0; exact c0
  ·obtain ⟨Y,h1,h2⟩:=hs
   exact h2 w' hw fun b hb=>hy b (newX_new hlo (h1 b hb).1)
def PlPost (Tb : World→Prop) (wB : World) (gs : List StgF) (w : World) (e : Ending) (w' : World) : Prop :=
 Below w.heap.size w w'∧∃ A c,e=.returned (.slice A gs.length c)∧Sat wB w' (newB w w') (fun x=>StagesOk Tb x (.slice A gs.length c) gs)
set_option maxHeartbeats 8000000 in
set_option maxRecDepth 100000 in
theorem ppipe_any {Tb : World→Prop} (hL : Lies Tb) (t : T) (gs : List StgF) (k5 : kindOf t=5) (hl : nL t=gs.length) (hn : gs.length≤8) (hgs : ∀ i,(hi : i<gs.length)→PsSaid Tb (elt t i) gs[i])
  (v : Value) (wB w : World) (ha : At wB 13 v t) (hk : okA t) (hb0 : Below wB.heap.size wB w) (hT : Tb w) : Calls Tryz.prog 64 #[v] w (PlPost Tb wB gs w):=by
 obtain ⟨iE,hiE,zE0,zE1,zE2⟩:=info_parts infoSg
 obtain ⟨g1,La,Ka,Lc,Kc,hg1,rfl,hfj,hel,hnm⟩:=ha.open
 have HKj:=hid hk
 have Hel:=hid hel.out
 have HT : Hid (∀ w' : World,Below w.heap.size w w'→Tb w'):=fun w' hb=>hL w hT w w' hT hb
 have HEs:=hid hgs
 have Hl:=hid hl
 have Hhn:=hid hn
 have hnl : nL t≤8:=by omega
 have hnli : (nL t : Int)≤8:=by omega
 have Hg1:=hid hg1
 rw [k5]
 clear ha hk hel hnm hfj hT hL hgs hl hn hg1
 go_enter Tryz.func64,Tryz.ntmps64
 go_wp2_with fail
 refine (needP_any _).mono ?_
 rintro e w2 ⟨rfl,rfl⟩
 go_wp2_with fail
 go_loopg [3,19] (nL t) (fun g o i wr=>∃ (k : Nat) (xs : List Value),g=nL t - k∧k≤nL t∧i=.int .i64 k∧Hid (Below (w.heap.size+1) (w.alloc (.cells #[.int .i64 5,.int .i64 (nOf t),.string (sOf t),.slice La (nL t) Lc,.slice Ka (nK t) Kc] 36)) wr)∧Hid (Bld (StgE Tb wB) 1 82 (w.heap.size+1) o (gs.take k) xs wr))
 case atStart=>exact ⟨0,[],rfl,Nat.zero_le _,rfl,Below.refl _ _,Bld.nil _ _ _ _ _⟩
 case round =>
  obtain ⟨k,xs,rfl,hk,rfl,HB,HL⟩:=hrel
  obtain ⟨q0,q1,q2,q3,q4,hz,hbw⟩:=box_facts HB.out
  have Hbr:=hid (hb0.trans (hbw.mono hb0.size))
  have Hbw:=hid hbw
  clear hbw
  by_cases hlt : k<nL t
  ·have hlte : k<gs.length:=by have:=Hl.out; omega
   obtain ⟨bb,oo,A,B,C,D,rfl,hbl,p0,p1,p2,p3,p4,Ha⟩:=Hel.out.shape Hbr.out k hlt
   obtain ⟨j,hj⟩ : ∃ j,elt t k=j:=⟨_,rfl⟩
   have HKe:=hid (HKj.out.elt hlt)
   have HPs:=hid (HEs.out k hlte)
   rw [hj] at p0 p1 p2 p3 p4 Ha HKe HPs
   clear hj
   have HBx : Hid (Below wr.heap.size wr (wr.alloc (.cells #[.int .i64 (kindOf j),.int .i64 (nOf j),.string (sOf j),.slice A (nL j) B,.slice C (nK j) D] 36))):=(Below.refl _ _).alloc (Nat.le_refl _) _
   have HC:=hid (HPs.out _ wB _ (Ha.out.up (show g1≤13 by have:=Hg1.out; omega)) HKe.out (Hbr.out.trans (HBx.out.mono Hbr.out.size)) (HT.out _ (Hbw.out.trans (HBx.out.mono Hbw.out.size))))
   have HTk : Hid (gs.take (k+1)=gs.take k ++ [gs[k]]):=by show _=_; rw [List.take_add_one,List.getElem?_eq_getElem hlte]; rfl
   have hxl : (gs.take k).length=k:=by rw [List.length_take]; omega
   generalize gs[k]=gk at HC HTk
   clear HPs HKe
   go_wp2_with fail
   refine HC.out.mono ?_
   rintro e w3 ⟨b3,t6,v6,rfl,ht⟩
   have HTt:=hid (ht.later (wa:=wr) (Below.refl _ _) HBx.out.size)
   have Hb3:=hid (HBx.out.trans (b3.mono HBx.out.size))
   have HB4 : Hid (Below w3.heap.size w3 (w3.alloc (.cells #[.iface t6 v6] 82))):=(Below.refl _ _).alloc (Nat.le_refl _) _
   have HL4:=hid ((HL.out.keep (stgE_moves Tb wB) Hb3.out).keep (stgE_moves Tb wB) HB4.out)
   have HSrc : Hid (Src Tryz.prog 1 53 (.slice (some ⟨w3.heap.size,0,none⟩) 1 1) 1 [.iface t6 v6] (w3.alloc (.cells #[.iface t6 v6] 82))):=Src.ofSlice _ Tryz.underlying53 ⟨w3.heap.size,0,none⟩ 1 1 [.iface t6 v6] (by simp) (World.news_of_block (heap_alloc_new w3 _)) (by simp [Value.oneCell'])
   have hlo : w.heap.size+1≤(w3.alloc (.cells #[.iface t6 v6] 82)).heap.size:=by have:=Hb3.out.size; simp; omega
   clear b3 ht HC
   go_wp2_with (at_builtin; refine wpList_append_src _ rfl (.tmp 23) (.tmp 26) 53 53 rfl (w.heap.size+1) 82 iE _ 1 16 Tryz.underlying53 hiE zE0 zE1 zE2 rfl u3 (gs.take k).length xs rfl HL4.out.row (.slice (some ⟨w3.heap.size,0,none⟩) 1 1) 1 [.iface t6 v6] rfl HSrc.out (by unfold maxLen; omega) (by omega) hlo ?_; intro v' w6 hO6 hG6 hat6)
   have HL6:=hid (HL.out.grow (x:=gk) (cs:=[.iface t6 v6]) (stgE_moves Tb wB) (Hb3.out.trans (HB4.out.mono Hb3.out.size)) rfl (stgE_moves Tb wB _ _ _ _ _ _ ⟨t6,v6,rfl,HTt.out⟩ (fun b hb=>⟨HB4.out.block b hb.2,hb⟩)) (fun b hb=>⟨hb.1,Nat.lt_of_lt_of_le hb.2 HB4.out.size⟩) (by omega) hO6 hG6 hat6)
   have HB6:=hid (below_grown ((HB.out.trans (Hb3.out.mono (by omega))).trans (HB4.out.mono (by have:=Hb3.out.size; omega))) HL4.out.row (Nat.le_refl _) (by omega) hG6)
   rw [← HTk.out] at HL6
   clear hO6 hG6 hat6
   go_wp2_with fail
   go_roundg (nL t - (k+1))
   case rel=>exact ⟨k+1,_,rfl,by omega,by go_num,HB6,HL6⟩
   case measure=>omega
  ·obtain rfl : k=nL t:=by omega
   rw [Hl.out,List.take_length] at HL
   obtain ⟨A,c,rfl,hs⟩:=bld_stages (w:=w) HL.out (by omega) (by have:=Hhn.out; omega)
   have HS:=hid hs
   clear hs HL
   go_wp2_with fail
   go_ret
   exact ⟨Hbw.out,_,_,rfl,HS.out⟩
def PpSaid (Tb : World→Prop) (t : T) (gs : List StgF) : Prop:=∀ (v : Value) (wB w : World),At wB 13 v t→okA t→Below wB.heap.size wB w→Tb w→Calls Tryz.prog 64 #[v] w (PlPost Tb wB gs w)
set_option maxHeartbeats 4000000 in
set_option maxRecDepth 100000 in
theorem pParseIn_any {Tb : World→Prop} (t : T) (gs : List StgF) (h : PpSaid Tb t gs) (v : Value) (wB w : World) (ha : At wB 13 v t) (hk : okA t) (hb0 : Below wB.heap.size wB w) (hT : Tb w) (p : Nat)
  (La Ka : Option Addr) (Lc Kc : Nat) (hv : v=.agg #[.int .i64 (kindOf t),.int .i64 (nOf t),.string (sOf t),.slice La (nL t) Lc,.slice Ka (nK t) Kc])
  (q0 : w.cell? ⟨p,0,none⟩=some (.int .i64 (kindOf t))) (q1 : w.cell? ⟨p,1,none⟩=some (.int .i64 (nOf t))) (q2 : w.cell? ⟨p,2,none⟩=some (.string (sOf t))) (q3 : w.cell? ⟨p,3,none⟩=some (.slice La (nL t) Lc)) (q4 : w.cell? ⟨p,4,none⟩=some (.slice Ka (nK t) Kc)) :
  Calls Tryz.prog 63 #[.pointer (some ⟨p,0,none⟩)] w (PlPost Tb wB gs w):=by
 subst hv
 have HC:=hid (h _ wB w ha hk hb0 hT)
 clear ha hk hb0 hT h
 go_enter Tryz.func63,Tryz.ntmps63
 go_wp2_with fail
 refine HC.out.mono ?_
 rintro e w3 ⟨b3,A,c,rfl,hs⟩
 have HB3:=hid b3
 have HS:=hid hs
 clear b3 hs
 go_wp2_with fail
 go_ret
 exact ⟨HB3.out,_,_,rfl,HS.out⟩
set_option maxHeartbeats 4000000 in
set_option maxRecDepth 100000 in
theorem pParse_any {Tb : World→Prop} (hL : Lies Tb) (t : T) (gs : List StgF) (h : PpSaid Tb t gs) (v : Value) (wB w : World) (ha : At wB 13 v t) (hk : okA t) (hb0 : Below wB.heap.size wB w) (hT : Tb w) :
  Calls Tryz.prog 40 #[v] w fun e w'=>Below w.heap.size w w'∧∃ A c,e=.returned (.tuple #[.slice A gs.length c,.int .i64 0])∧Sat wB w' (newB w w') (fun x=>StagesOk Tb x (.slice A gs.length c) gs):=by
 have hmf : ∀ (fn : Fn) (first cap : Array Value) (w : World),(Instr.makeFunc fn first cap).run Tryz.prog w=.ok (.func fn first cap) w:=fun _ _ _ _=>rfl
 obtain ⟨g1,La,Ka,Lc,Kc,hg1,hv,_,_,_⟩:=ha.open
 have HB1 : Hid (Below w.heap.size w (w.alloc (.cells #[.int .i64 (kindOf t),.int .i64 (nOf t),.string (sOf t),.slice La (nL t) Lc,.slice Ka (nK t) Kc] 36))):=(Below.refl _ _).alloc (Nat.le_refl _) _
 have HE:=hid (boxErr_facts (w.alloc (.cells #[.int .i64 (kindOf t),.int .i64 (nOf t),.string (sOf t),.slice La (nL t) Lc,.slice Ka (nK t) Kc] 36)))
 have hbb : Below (w.heap.size+1) (w.alloc (.cells #[.int .i64 (kindOf t),.int .i64 (nOf t),.string (sOf t),.slice La (nL t) Lc,.slice Ka (nK t) Kc] 36)) (boxErr (w.alloc (.cells #[.int .i64 (kindOf t),.int .i64 (nOf t),.string (sOf t),.slice La (nL t) Lc,.slice Ka (nK t) Kc] 36))):=HE.out.2.2.2.mono (by simp)
 obtain ⟨q0,q1,q2,q3,q4,hz,hbw⟩:=box_facts hbb
 have HI:=hid (pParseIn_any t gs h v wB (boxErr (w.alloc (.cells #[.int .i64 (kindOf t),.int .i64 (nOf t),.string (sOf t),.slice La (nL t) Lc,.slice Ka (nK t) Kc] 36))) ha hk (hb0.trans (hbw.mono hb0.size)) (hL w hT _ _ hT hbw) w.heap.size La Ka Lc Kc hv q0 q1 q2 q3 q4)
 have HA:=hid (attemptP 63 (fun _ _=>rfl) (fun v w'=>∃ A c,v=.slice A gs.length c∧Sat wB w' (newB (boxErr (w.alloc (.cells #[.int .i64 (kindOf t),.int .i64 (nOf t),.string (sOf t),.slice La (nL t) Lc,.slice Ka (nK t) Kc] 36))) w') (fun x=>StagesOk Tb x (.slice A gs.length c) gs)) (.pointer (some ⟨w.heap.size,0,none⟩)) _ (HI.out.mono fun e w' hh=>by
  obtain ⟨h1,A,c,h2,h3⟩:=hh
  exact ⟨h1,_,h2,A,c,rfl,h3⟩))
 subst hv
 clear ha hk hb0 hT h hL hbb q0 q1 q2 q3 q4 hz hbw HI hg1 HE
 go_enter Tryz.func40,Tryz.ntmps40
 go_wp2_with fail
 refine HA.out.mono ?_
 rintro e w3 ⟨b3,x,w2,rfl,⟨A,c,rfl,hs⟩,hab,hb2⟩
 have HB3:=hid (HB1.out.trans (b3.mono HB1.out.size))
 have HS:=hid (hs.attempt (w:=w) (by simp) hab)
 clear b3 hs hab hb2 HA
 go_wp2_with fail
 refine bodyPost_ret (v:=.tuple #[.slice A gs.length c,.int .i64 0]) (by simp [results,Tryz.results40,go_sem, *]) rfl ?_
 exact ⟨HB3.out,_,_,rfl,HS.out⟩
end Go.Proofs.YtknakfpciccoaabGreatDoor
/- The groups' rows, cell by cell. -/
namespace Go.Proofs.YtknakfpciccoaabGreatDoor
open Go.RowKit
theorem GrI.cells5 {w0 : World} {c : Nat} {NA : Option Addr} {nc : Nat} {bv ev : Value} {ops : List ByteArray} {L : Nat→Lab} {gv : Value} {xs : List Value} {rb : Nat→Nat} {ys : Nat→List Value} {st : List (T×List T)} {w : World} (h : GrI w0 c NA nc bv ev ops L gv xs rb ys st w) {i j : Nat} (hi : i<st.length) (hj : j<ops.length) {u0 u1 u2 u3 u4 : Value} (hf : fv (ys i) (j+1)=.agg #[u0,u1,u2,u3,u4]) {w6 : World} (hb : w6.heap[rb i]?=w.heap[rb i]?) :
  (w6.cell? ⟨rb i,5+j * 5,none⟩=some u0∧w6.cell? ⟨rb i,5+j * 5+1,none⟩=some u1∧w6.cell? ⟨rb i,5+j * 5+2,none⟩=some u2∧w6.cell? ⟨rb i,5+j * 5+3,none⟩=some u3∧w6.cell? ⟨rb i,5+j * 5+4,none⟩=some u4)∧∀ o,w6.frozen? ⟨rb i,o,none⟩=false:=by
 have hr:=h.row i hi
 have hy : (ys i).length=(ops.length+1) * 5:=hr.1
 unfold fv at hf
 simp only [Value.agg.injEq,Array.mk.injEq,List.cons.injEq,and_true] at hf
 have hc : ∀ r,r<5→w6.cell? ⟨rb i,5+j * 5+r,none⟩=some (cx (ys i) ((j+1) * 5+r)):=fun r hr'=>by
  rw [cell_of hb,show 5+j * 5+r=(j+1) * 5+r by omega]
  exact row_cell hr (cx_some (by omega))
 refine ⟨⟨?_,?_,?_,?_,?_⟩,fun o=>(World.frozen?_of_block (a:=⟨rb i,o,none⟩) hb).trans (hr.frozenAt o)⟩
 ·rw [← hf.1]; exact hc 0 (by omega)
 ·rw [← hf.2.1]; exact hc 1 (by omega)
 ·rw [← hf.2.2.1]; exact hc 2 (by omega)
 ·rw [← hf.2.2.2.1]; exact hc 3 (by omega)
 ·rw [← hf.2.2.2.2]; exact hc 4 (by omega)
theorem below_put5o {lo : Nat} {w W : World} (h : Below lo w W) {g : Nat} (hg : lo≤g) (o : Nat) (u0 u1 u2 u3 u4 : Value) : Below lo w (put5o W g o u0 u1 u2 u3 u4):=by
 obtain ⟨r1,r2,r3,r4⟩:=put5o_rest W g o u0 u1 u2 u3 u4
 exact ⟨r2.trans h.os,r3.trans h.tape,r4.trans h.output,by rw [r1]; exact h.size,fun b hb=>(put5o_other W (by omega) o u0 u1 u2 u3 u4).trans (h.block b hb)⟩
theorem rowE_getD (doc : T) : ∀ (es : List (ByteArray×(T→Int⊕T))) (k : Nat) (a a' : List T),rowE doc es k a=.inr a'→∀ j,k+es.length≤j→a'.getD j zeroT=a.getD j zeroT
 | [],k,a,a',h,j,hj=>by
  simp only [rowE,Sum.inr.injEq] at h
  rw [h]
 | e0 :: es,k,a,a',h,j,hj=>by
  rw [rowE] at h
  rw [List.length_cons] at hj
  cases h0 : accS e0.2 e0.1 (a.getD k zeroT) doc with
  | inl y=>rw [h0] at h; cases h
  | inr t =>
   rw [h0] at h
   rw [rowE_getD doc es (k+1) (a.set k t) a' h j (by omega),List.getD_eq_getElem?_getD,List.getElem?_set_ne (by omega),← List.getD_eq_getElem?_getD]
theorem gth_nL {n N : Nat} {P : Nat→Prop} {st : List (T×List T)} (b : T) (h : ∀ i,(h : i<st.length)→∀ j,P j→nL (st[i].2.getD j zeroT)≤N) (j : Nat) (hP : P j) : nL (((gthS n st b)[gthI st b]'(gth_lt _ _ _)).2.getD j zeroT)≤N:=by
 have hle : gthI st b≤st.length:=List.findIdx_le_length
 by_cases e : gthI st b<st.length
 ·have e2 : gthS n st b=st:=by unfold gthS; rw [if_pos e]
  simp only [e2]
  exact h _ e j hP
 ·have e2 : gthS n st b=st ++ [(b,List.replicate n zeroT)]:=by unfold gthS; rw [if_neg e]
  simp only [e2]
  rw [List.getElem_append_right (by omega)]
  simp only [show gthI st b - st.length=0 by omega,List.getElem_cons_zero]
  have : (List.replicate n zeroT).getD j zeroT=zeroT:=by
   rw [List.getD_eq_getElem?_getD,List.getElem?_replicate]
   by_cases hj : j<n
   ·rw [if_pos hj]; rfl
   ·rw [if_neg hj]; rfl
  rw [this]
  exact Nat.zero_le _
theorem ag_fin {w0 : World} {c : Nat} {NA : Option Addr} {nc : Nat} {bv ev : Value} {ops : List ByteArray} {L : Nat→Lab} {gv : Value} {xs : List Value} {rb : Nat→Nat} {ys : Nat→List Value} {st : List (T×List T)} {W : World} (hG : GrI w0 c NA nc bv ev ops L gv xs rb ys st W) {i j : Nat} (hi : i<st.length) (hj : j<ops.length) {w : World} {d : Nat} (hbW : Below w0.heap.size w W) {q0 q1 q2 q3 q4 : Value} (hdoc : BoxAt d q0 q1 q2 q3 q4 W) (hLd : L d=.no) {r : Int⊕T} {e : Ending} {w6 : World} (h : AgPost w0 c NA nc bv ev ops L gv xs rb st i j r W e w6) {s0 s1 s2 s3 s4 : Value} (hf : fv (ys i) (j+1)=.agg #[s0,s1,s2,s3,s4]) :
  ∃ (vk vn : Int) (vs : ByteArray) (VA : Option Addr) (vl VB : Nat) (VC : Option Addr) (vm VD : Nat) (er : Int),e=.returned (.tuple #[.agg #[.int .i64 vk,.int .i64 vn,.string vs,.slice VA vl VB,.slice VC vm VD],.int .i64 er])∧(w6.cell? ⟨rb i,5+j * 5,none⟩=some s0∧w6.cell? ⟨rb i,5+j * 5+1,none⟩=some s1∧w6.cell? ⟨rb i,5+j * 5+2,none⟩=some s2∧w6.cell? ⟨rb i,5+j * 5+3,none⟩=some s3∧w6.cell? ⟨rb i,5+j * 5+4,none⟩=some s4)∧(∀ o,w6.frozen? ⟨rb i,o,none⟩=false)∧Hid (Below w0.heap.size w (put5o w6 (rb i) (5+j * 5) (.int .i64 vk) (.int .i64 vn) (.string vs) (.slice VA vl VB) (.slice VC vm VD))∧BoxAt d q0 q1 q2 q3 q4 (put5o w6 (rb i) (5+j * 5) (.int .i64 vk) (.int .i64 vn) (.string vs) (.slice VA vl VB) (.slice VC vm VD)))∧Hid ((r=.inl er∧er≠0)∨∃ t,r=.inr t∧er=0∧∃ L' ys',GrI w0 c NA nc bv ev ops L' gv xs rb ys' (stPut st i j t) (put5o w6 (rb i) (5+j * 5) (.int .i64 vk) (.int .i64 vn) (.string vs) (.slice VA vl VB) (.slice VC vm VD))∧L' d=.no):=by
 obtain ⟨hb,hfr,vk,vn,vs,VA,vl,VB,VC,vm,VD,er,rfl,hc⟩:=h.flat
 have hr:=h.2.1
 have hrl:=hG.rl i hi
 have hlow:=hG.low (rb i) (by rw [hrl]; intro e; cases e)
 have hblk : w6.heap[rb i]?=W.heap[rb i]?:=hfr _ hlow.2 (by rw [hrl]; intro e; cases e)
 obtain ⟨k1,k2⟩:=hG.cells5 hi hj hf hblk
 refine ⟨vk,vn,vs,VA,vl,VB,VC,vm,VD,er,rfl,k1,k2,⟨below_put5o (hbW.trans hb) hlow.1 _ _ _ _ _ _,?_⟩,?_⟩
 ·refine hdoc.move ?_ ((put5o_other w6 (fun e=>?_) _ _ _ _ _ _).trans (hfr d hdoc.lt (by rw [hLd]; intro e; cases e)))
  ·rw [(put5o_rest w6 (rb i) (5+j * 5) _ _ _ _ _).1]
   exact hb.size
  ·rw [e,hrl] at hLd
   cases hLd
 ·rcases hc with hc | ⟨t,h1,h2,L',ys',h3,h4⟩
  ·exact .inl hc
  ·refine .inr ⟨t,h1,h2,L',ys',?_,h4 d hdoc.lt hLd⟩
   rw [show 5+j * 5=(j+1) * 5 by omega]
   exact h3
end Go.Proofs.YtknakfpciccoaabGreatDoor
