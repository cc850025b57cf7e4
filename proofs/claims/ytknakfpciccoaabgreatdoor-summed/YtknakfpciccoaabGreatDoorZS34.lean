import Derived.Test.YtknakfpciccoaabGreatDoorZS33
import Derived.Test.YtknakfpciccoaabGreatDoorZS29
import Derived.BigQuiet
/- The walk of filled. -/
namespace Go.Proofs.YtknakfpciccoaabGreatDoor
open Go.RowKit
set_option maxHeartbeats 8000000 in
set_option maxRecDepth 100000 in
theorem filled_any {Tb : World→Prop} (hA : StoreSaid Tb) (v : Value) (n : Nat) (w : World) (hv : RawAt w v n) (hT : Tb w) :
  Calls Tryz.prog 7 #[v] w fun e w'=>∃ p l,e=.returned (.tuple #[.pointer (some ⟨p,0,none⟩),.int .i64 (l.length : Nat)])∧Below w.heap.size w w'∧DocsOf l∧l.length≤30∧StP w.heap.size w' p 2 (two (some l) (some l)):=by
 obtain ⟨A,cp,rfl,hn,hr⟩:=hv
 have HR:=hid hr
 have HA:=hid hA
 have HN:=hid (new_any w)
 have HT : Hid (∀ w' : World,Below w.heap.size w w'→Tb w'):=fun w' hb=>hA.lies w hT w w' hT hb
 have HD : Hid (∀ (id c d : Int) (w : World),0≤id→id<30→-9223372036854775808≤c→c≤9223372036854775807→-9223372036854775808≤d→d≤9223372036854775807→Tb w→Calls Tryz.prog 20 #[.int .i64 id,.int .i64 c,.int .i64 d] w fun e w'=>Below w.heap.size w w'∧∃ i o,i<36∧(∀ j,o=some j→j<36)∧e=.returned (.string (docS id i o))):=fun id c d w h1 h2 h3 h4 h5 h6 h7=>document_any hA.itoa hA.lies id c d w h1 h2 h3 h4 h5 h6 h7
 have HS0:=hid (StP.new w)
 have HB0 : Hid (Below w.heap.size w ((w.alloc (.map #[] 0)).alloc (.cells #[.map (some w.heap.size)] 76))):=((Below.refl _ _).alloc (Nat.le_refl _) _).alloc (by simp) _
 clear hr hA hT
 go_enter Tryz.func7,Tryz.ntmps7
 go_wp2_with fail
 refine HN.out.mono ?_
 rintro e w1 ⟨rfl,rfl⟩
 generalize (w.alloc (.map #[] 0)).alloc (.cells #[.map (some w.heap.size)] 76)=w1 at HS0 HB0 ⊢
 generalize w.heap.size+1=p at HS0 ⊢
 have HC1:=hid (create_st HS0.out nX (by decide) (by omega) (by kernel_rfl) rfl)
 clear HN
 go_wp2_with fail
 refine HC1.out.mono ?_
 rintro e w2 ⟨rfl,b2,s2⟩
 have HB2:=hid (HB0.out.trans b2)
 have HC2:=hid (create_st s2 nY (by decide) (by omega) (by kernel_rfl) rfl)
 clear HC1 b2 s2 HS0 HB0
 go_wp2_with fail
 refine HC2.out.mono ?_
 rintro e w3 ⟨rfl,b3,s3⟩
 rw [one_two] at s3
 have HB3:=hid (HB2.out.trans b3)
 have HS3:=hid s3
 clear HC2 b3 s3 HB2
 go_wp2_with fail
 go_loopg [7,8] 30 (fun g a i wr=>∃ (k q : Nat),g=30 - k∧k≤30∧Hid (q=2 * k)∧a=.int .i64 k∧i=.int .i64 q∧Hid (Below w.heap.size w wr)∧Hid (∃ l : List T,l.length=k∧DocsOf l∧StP w.heap.size wr p 2 (two (some l) (some l))))
 case atStart=>exact ⟨0,0,rfl,Nat.zero_le _,rfl,rfl,rfl,HB3,[],rfl,DocsOf.nil,HS3.out⟩
 case round =>
  clear HS3 HB3
  obtain ⟨k,q,rfl,hk,HQ,rfl,rfl,HB,HL⟩:=hrel
  have hq:=HQ.out
  by_cases hlt : q+1<n∧k<30
  ·obtain ⟨h1,h2⟩:=hlt
   obtain ⟨b,o,z,hAe,hbl,c1,z0,z1⟩:=HR.out q (by omega)
   obtain ⟨b',o',z',hAe',_,c2,z0',z1'⟩:=HR.out (q+1) (by omega)
   subst hAe
   simp only [Option.some.injEq,Addr.mk.injEq,and_true] at hAe'
   obtain ⟨rfl,rfl⟩:=hAe'
   have HSw : Hid (∀ w5 : World,Below wr.heap.size wr w5→(w5.cell? ⟨b,o+q,none⟩=some (.int .i64 z)∧w5.cell? ⟨b,o+(q+1),none⟩=some (.int .i64 z'))):=by
    intro w5 hh
    have hbw : b<wr.heap.size:=Nat.lt_of_lt_of_le hbl HB.out.size
    exact ⟨(hh.cell (p:=⟨b,_,none⟩) hbw).trans ((HB.out.cell (p:=⟨b,_,none⟩) hbl).trans c1),(hh.cell (p:=⟨b,_,none⟩) hbw).trans ((HB.out.cell (p:=⟨b,_,none⟩) hbl).trans c2)⟩
   have HSd:=hid (HSw.out wr.drew (below_drew wr))
   have HDk : Hid (∀ w5 : World,Below wr.heap.size wr w5→Calls Tryz.prog 20 #[.int .i64 (k : Nat),.int .i64 z,.int .i64 z'] w5 fun e w'=>Below w5.heap.size w5 w'∧∃ i o,i<36∧(∀ j,o=some j→j<36)∧e=.returned (.string (docS (k : Nat) i o))):=fun w5 hh=>HD.out k z z' w5 (by omega) (by omega) z0 z1 z0' z1' (HT.out _ (HB.out.trans (hh.mono HB.out.size)))
   have x1 : (q : Int)+1<(n : Int):=by omega
   have x2 : (k : Int)<30:=by omega
   have hw1 : IntKind.i64.wrap ((q : Int)+1)=(q : Int)+1:=by rw [IntKind.wrap_i64]; omega
   have y1 : (q : Int)<(n : Int):=by omega
   have y2 : (0 : Int)≤(q : Int)+1:=by omega
   have y3 : ((q : Int)+1).toNat=q+1:=by omega
   have HX:=hid (And.intro h1 h2)
   clear c1 c2 z0 z1 z0' z1' h1 h2 hq hbl
   go_wp2_with fail
   go_region_held3 (fun wx=>wx.cell? ⟨b,o+q,none⟩=some (.int .i64 z)∧wx.cell? ⟨b,o+(q+1),none⟩=some (.int .i64 z')) (first | exact hc5 | exact HSd.out) ((go_at_call 20; refine (HDk.out _ (below_drew wr)).mono ?_; rintro e5 w5 ⟨hb5,di,dq,hdi,hdq,rfl⟩; have hc5:=HSw.out _ ((below_drew wr).trans hb5)))
   have HB5:=hid (HB.out.trans (((below_drew wr).trans hb5).mono HB.out.size))
   have hkq : (k : Int)<30:=x2
   obtain ⟨l,hll,hdo,hst⟩:=HL.out
   have HDo:=hid hdo
   have Hll:=hid hll
   have hz:=docS_size (id:=(k : Int)) (by omega) (by omega) hdi hdq
   have HPa:=hid (doc_parse (id:=(k : Int)) (by omega) (by omega) hdi hdq)
   have HIn:=hid (doc_in (id:=(k : Int)) (by omega) (by omega) hdi hdq)
   have HDi:=hid (And.intro hdi hdq)
   generalize docS (k : Int) di dq=sd at *
   have HS1:=hid (hst.keep ((below_drew wr).trans hb5))
   have HFr : Hid (anyL (sameId (idT (tJ sd))) (mkT 5 0 ByteArray.empty l []) l.length=false):=by show _=_; rw [HPa.out.2,← hll]; exact hdo.fresh di dq
   have HI1:=hid (insert_st HA.out HS1.out nX sd l (by decide) (by omega) (two_x _ _) HIn.out HFr.out (by omega) (HT.out _ HB5.out))
   clear hb5 hc5 HSw HSd HDk hdo hst hll hdi hdq HL x1 y1 y2 y3 hw1 HB
   go_wp2_with fail
   refine HI1.out.mono ?_
   rintro e6 w6 ⟨rfl,b6,s6⟩
   rw [two_setx] at s6
   have HB6:=hid (HB5.out.trans b6)
   have HI2:=hid (insert_st HA.out s6 nY sd l (by decide) (by omega) (two_y _ _) HIn.out HFr.out (by have:=Hll.out; omega) (HT.out _ HB6.out))
   clear b6 s6 HI1 HS1 HB5
   go_wp2_with fail
   refine HI2.out.mono ?_
   rintro e7 w7 ⟨rfl,b7,s7⟩
   rw [two_sety] at s7
   have HB7:=hid (HB6.out.trans b7)
   have HS7:=hid s7
   clear b7 s7 HI2 HB6
   have hq2 : (q : Int)+2<9223372036854775807:=by have:=HX.out; omega
   go_wp2_with fail
   go_roundg (30 - (k+1))
   case rel =>
    refine ⟨k+1,q+2,rfl,by omega,(by show _=_; have:=HQ.out; omega),by go_num,by go_num,HB7,l ++ [tJ sd],by rw [List.length_append,Hll.out]; rfl,?_,HS7.out⟩
    rw [HPa.out.2,← Hll.out]
    exact HDo.out.snoc HDi.out.1 HDi.out.2
   case measure=>omega
  ·obtain ⟨l,hll,hdo,hst⟩:=HL.out
   have Hll:=hid hll
   have HDo:=hid hdo
   have HSt:=hid hst
   have Hlen:=hid hk
   have HF1:=hid (find_st HA.out hst nX allS l (by decide) (by decide) (two_x _ _) (by omega) allS_e allS_ok (HT.out _ HB.out))
   rw [all_filter,hll] at HF1
   clear hdo hst HL HD HR hll
   have hw1 : IntKind.i64.wrap ((q : Int)+1)=(q : Int)+1:=by rw [IntKind.wrap_i64]; omega
   by_cases x1 : q+1<n
   ·have x1' : (q : Int)+1<(n : Int):=by omega
    obtain rfl : k=30:=by omega
    clear hlt hq x1
    go_wp2_with fail
    refine HF1.out.mono ?_
    rintro e8 w8 ⟨b8,A8,c8,rfl,_⟩
    have HB8:=hid (HB.out.trans (b8.mono HB.out.size))
    have HS8:=hid (HSt.out.keep b8)
    have HF2:=hid (find_none HA.out HS8.out ⟨#[122]⟩ allS (by decide) (by decide) (two_none _ _ (by decide) (by decide)) allS_e allS_ok (HT.out _ HB8.out))
    clear b8 HF1
    go_wp2_with fail
    refine HF2.out.mono ?_
    rintro e9 w9 ⟨b9,rfl⟩
    have HB9:=hid (HB8.out.trans (b9.mono HB8.out.size))
    have HS9:=hid (HS8.out.keep b9)
    clear b9 HF2
    go_wp2_with fail
    refine bodyPost_ret (v:=.tuple #[.pointer (some ⟨p,0,none⟩),.int .i64 ((30 : Nat) : Int)]) (by simp [results,Tryz.results7,go_sem, *]) rfl ?_
    exact ⟨p,l,by rw [Hll.out],HB9.out,HDo.out,by rw [Hll.out]; exact Hlen.out,HS9.out⟩
   ·have x1' : ¬ ((q : Int)+1<(n : Int)):=by omega
    clear hlt hq x1
    go_wp2_with fail
    refine HF1.out.mono ?_
    rintro e8 w8 ⟨b8,A8,c8,rfl,_⟩
    have HB8:=hid (HB.out.trans (b8.mono HB.out.size))
    have HS8:=hid (HSt.out.keep b8)
    have HF2:=hid (find_none HA.out HS8.out ⟨#[122]⟩ allS (by decide) (by decide) (two_none _ _ (by decide) (by decide)) allS_e allS_ok (HT.out _ HB8.out))
    clear b8 HF1
    go_wp2_with fail
    refine HF2.out.mono ?_
    rintro e9 w9 ⟨b9,rfl⟩
    have HB9:=hid (HB8.out.trans (b9.mono HB8.out.size))
    have HS9:=hid (HS8.out.keep b9)
    clear b9 HF2
    go_wp2_with fail
    refine bodyPost_ret (v:=.tuple #[.pointer (some ⟨p,0,none⟩),.int .i64 (k : Nat)]) (by simp [results,Tryz.results7,go_sem, *]) rfl ?_
    exact ⟨p,l,by rw [Hll.out],HB9.out,HDo.out,by rw [Hll.out]; exact Hlen.out,HS9.out⟩
end Go.Proofs.YtknakfpciccoaabGreatDoor
/- The walk of Summed. -/
namespace Go.Proofs.YtknakfpciccoaabGreatDoor
open Go.RowKit
theorem strs_cell {w : World} {A : Option Addr} {n c : Nat} {l : List ByteArray} (h : StrsAt w (.slice A n c) l) {k : Nat} (hk : k<l.length) {s : ByteArray} (hs : l.getD k ByteArray.empty=s) : ∃ b o,A=some ⟨b,o,none⟩∧w.cell? ⟨b,o+k,none⟩=some (.string s):=by
 obtain ⟨A',c',hv,_,h⟩:=h
 simp only [Value.slice.injEq] at hv
 obtain ⟨rfl,rfl,rfl⟩:=hv
 obtain ⟨b,o,h1,_,_,h2⟩:=h k hk
 exact ⟨b,o,h1,by rw [h2,hs]⟩
structure O6 (w : World) (eb eo lb lo lc cnt c1 : Nat) (n s f m : Int) : Prop where
 q1 : w.cell? ⟨eb,eo+6,none⟩=some (.int .i64 n)
 q2 : w.cell? ⟨eb,eo+11,none⟩=some (.int .i64 s)
 q3 : w.cell? ⟨eb,eo+18,none⟩=some (.slice (some ⟨lb,lo,none⟩) cnt lc)
 q4 : w.cell? ⟨eb,eo+21,none⟩=some (.int .i64 f)
 q5 : w.cell? ⟨eb,eo+26,none⟩=some (.int .i64 m)
 e0 : w.cell? ⟨lb,lo+1,none⟩=some (.int .i64 f)
 e1 : w.cell? ⟨lb,lo+c1 * 5+1,none⟩=some (.int .i64 m)
 l1 : eb<w.heap.size
 l2 : lb<w.heap.size
theorem O6.keep {w w' : World} {eb eo lb lo lc cnt c1 : Nat} {n s f m : Int} (h : O6 w eb eo lb lo lc cnt c1 n s f m) (hb : Below w.heap.size w w') : O6 w' eb eo lb lo lc cnt c1 n s f m :=
 ⟨(hb.cell (p:=⟨eb,_,none⟩) h.l1).trans h.q1,(hb.cell (p:=⟨eb,_,none⟩) h.l1).trans h.q2,(hb.cell (p:=⟨eb,_,none⟩) h.l1).trans h.q3,(hb.cell (p:=⟨eb,_,none⟩) h.l1).trans h.q4,(hb.cell (p:=⟨eb,_,none⟩) h.l1).trans h.q5,(hb.cell (p:=⟨lb,_,none⟩) h.l2).trans h.e0,(hb.cell (p:=⟨lb,_,none⟩) h.l2).trans h.e1,Nat.lt_of_lt_of_le h.l1 hb.size,Nat.lt_of_lt_of_le h.l2 hb.size⟩
theorem elem_n {w : World} {f : Nat} {La : Option Addr} {t : T} (h : ElemsAt w f La t) {i : Nat} (hi : i<nL t) {x : T} (hx : elt t i=x) : ∃ b o,La=some ⟨b,o,none⟩∧b<w.heap.size∧w.cell? ⟨b,o+i * 5+1,none⟩=some (.int .i64 (nOf x)):=by
 obtain ⟨bb,oo,A,B,C,D,h0,hbl,p0,p1,p2,p3,p4,Ha⟩:=h.shape (Below.refl _ _) i hi
 exact ⟨bb,oo,h0,hbl,by rw [← hx]; exact p1⟩
theorem obj6_open {w : World} {v : Value} {b : T} {n s f m : Int} {is : List Int} (h : At w 13 v (obj6 b n s f m is)) (hne : is≠[]) (hf : is.headD 0=f) (hm : is.getLastD 0=m) {c1 : Nat} (hc : is.length=c1+1) : ∃ eb eo Lc Ka Kc lb lo lc,v=.agg #[.int .i64 6,.int .i64 0,.string ByteArray.empty,.slice (some ⟨eb,eo,none⟩) 6 Lc,.slice Ka 6 Kc]∧O6 w eb eo lb lo lc is.length c1 n s f m:=by
 obtain ⟨g,La,Ka,Lc,Kc,hg,hv,_,hel,_⟩:=h.open
 have hL : nL (obj6 b n s f m is)=6:=rfl
 obtain ⟨eb,eo,h1,l1,q1⟩:=elem_n hel.out (i:=1) (by rw [hL]; omega) (x:=nT n) rfl
 obtain ⟨eb2,eo2,h2,_,q2⟩:=elem_n hel.out (i:=2) (by rw [hL]; omega) (x:=nT s) rfl
 obtain ⟨eb4,eo4,h4,_,q4⟩:=elem_n hel.out (i:=4) (by rw [hL]; omega) (x:=nT f) rfl
 obtain ⟨eb5,eo5,h5,_,q5⟩:=elem_n hel.out (i:=5) (by rw [hL]; omega) (x:=nT m) rfl
 obtain ⟨eb3,eo3,A3,B3,C3,D3,h3,_,_,_,_,q3,_,Ha⟩:=hel.out.shape (Below.refl _ _) 3 (by rw [hL]; omega)
 have e3 : elt (obj6 b n s f m is) 3=numsT is:=rfl
 rw [e3] at q3 Ha
 rw [h1] at h2 h3 h4 h5
 simp only [Option.some.injEq,Addr.mk.injEq,and_true] at h2 h3 h4 h5
 obtain ⟨rfl,rfl⟩:=h2
 obtain ⟨rfl,rfl⟩:=h3
 obtain ⟨rfl,rfl⟩:=h4
 obtain ⟨rfl,rfl⟩:=h5
 obtain ⟨g2,La2,Ka2,Lc2,Kc2,_,hv2,_,hel2,_⟩:=Ha.out.open
 simp only [Value.agg.injEq,Array.mk.injEq,List.cons.injEq,Value.slice.injEq,and_true,true_and] at hv2
 obtain ⟨⟨rfl,rfl⟩,_⟩:=hv2
 have h0l : 0<is.length:=by omega
 obtain ⟨lb,lo,k0,l2,e0⟩:=elem_n hel2.out (i:=0) (by rw [nums_nL]; omega) (nums_elt is h0l)
 obtain ⟨lb',lo',k1,_,e1⟩:=elem_n hel2.out (i:=c1) (by rw [nums_nL]; omega) (nums_elt is (by omega))
 rw [k0] at k1
 simp only [Option.some.injEq,Addr.mk.injEq,and_true] at k1
 obtain ⟨rfl,rfl⟩:=k1
 have i0 : nOf (nT is[0])=f:=by
  rw [← hf]
  cases is with
  | nil=>exact absurd rfl hne
  | cons a r=>rfl
 have i1 : nOf (nT (is[c1]'(by omega)))=m:=by
  rw [← hm,List.getLastD_eq_getLast?,List.getLast?_eq_getElem?]
  have : is.length - 1=c1:=by omega
  rw [this,List.getElem?_eq_getElem (by omega)]
  rfl
 refine ⟨eb,eo,Lc,Ka,Kc,lb,lo,B3,?_,?_,?_,?_,?_,?_,?_,?_,l1,l2⟩
 ·rw [hv,h1]; rfl
 ·exact q1
 ·exact q2
 ·rw [q3,k0,nums_nL]
 ·exact q4
 ·exact q5
 ·rw [← i0]; rw [Nat.zero_mul,Nat.add_zero] at e0; exact e0
 ·rw [← i1]; exact e1
theorem parse6 {Tb : World→Prop} (hA : StoreSaid Tb) {s : ByteArray} {w : World} (hs : s.size≤2000) (hT : Tb w) (h0 : eJ s=0) {b : T} {n sm f m : Int} {is : List Int} (ht : tJ s=obj6 b n sm f m is) (hne : is≠[]) (hf : is.headD 0=f) (hm : is.getLastD 0=m) {c1 : Nat} (hc : is.length=c1+1) :
  Calls Tryz.prog 14 #[.string s] w fun e w'=>Below w.heap.size w w'∧∃ eb eo Lc Ka Kc lb lo lc,e=.returned (.tuple #[.agg #[.int .i64 6,.int .i64 0,.string ByteArray.empty,.slice (some ⟨eb,eo,none⟩) 6 Lc,.slice Ka 6 Kc],.int .i64 0])∧O6 w' eb eo lb lo lc is.length c1 n sm f m:=by
 refine (parse_ok hA.dec hA.int hA.lies s w (by omega) hT h0).mono ?_
 rintro e w' ⟨hb,A,B,C,D',rfl,ha⟩
 rw [ht] at ha
 obtain ⟨eb,eo,Lc,Ka,Kc,lb,lo,lc,hv,ho⟩:=obj6_open ha hne hf hm hc
 refine ⟨hb,eb,eo,Lc,Ka,Kc,lb,lo,lc,?_,ho⟩
 rw [ht,hv]
end Go.Proofs.YtknakfpciccoaabGreatDoor
/- Summed: the walk. -/
namespace Go.Proofs.YtknakfpciccoaabGreatDoor
open Go.RowKit
theorem sumQ_app : (⟨([34,44,34,109,97,107,101,34,58,123,34,110,34,58,123,34,36,99,111,117,110,116,34,58,110,117,108,108,125,44,34,115,34,58,123,34,36,115,117,109,34,58,34,36,95,105,100,34,125,44,34,108,34,58,123,34,36,108].append [105,115,116,34,58,34,36,95,105,100,34,125,44,34,102,34,58,123,34,36,102,105,114,115,116,34,58,34,36,95,105,100,34,125,44,34,109,34,58,123,34,36,109,97,120,34,58,34,36,95,105,100,34,125,125,125,125,93]).toArray⟩ : ByteArray)=sumQ:=by kernel_rfl
theorem pth_sizeB : ((List.range 6).all fun k=>decide ((pth k).size≤10))=true:=by kernel_rfl
theorem pth_size {k : Nat} (h : k<6) : (pth k).size≤10:=of_decide_eq_true (List.all_eq_true.1 pth_sizeB k (List.mem_range.2 h))
set_option maxHeartbeats 8000000 in
set_option maxRecDepth 100000 in
theorem Summed_any {Tb : World→Prop} (hA : StoreSaid Tb) (v : Value) (n : Nat) (a : Int) (w : World) (hv : RawAt w v n) (a0 : -9223372036854775808≤a) (a1 : a≤9223372036854775807) (hT : Tb w) :
  Calls Tryz.prog 4 #[v,.int .i64 a] w fun e w'=>e=.returned (.bool true)∧Below w.heap.size w w':=by
 have HFi:=hid (filled_any hA v n w hv hT)
 have HT : Hid (∀ w' : World,Below w.heap.size w w'→Tb w'):=fun w' hb=>hA.lies w hT w w' hT hb
 have HPa:=hid (fun w=>path_any a w a0 a1)
 have hk:=pthN_lt a
 generalize pthN a=k at HPa hk
 have hzp:=pth_size hk
 have Hk:=hid hk
 have HA:=hid hA
 obtain ⟨px,hpx⟩ : ∃ px,pth k=px:=⟨_,rfl⟩
 rw [hpx] at HPa hzp
 obtain ⟨o1,oe1,oz1,or1⟩:=cat_run sumP px 19 px.size (by decide) rfl (by omega)
 obtain ⟨o2,oe2,oz2,or2⟩:=cat_run o1 sumQ o1.size 116 rfl (by kernel_rfl) (by omega)
 have HS : Hid (o2=sumS k):=by show _=_; rw [oe2,oe1,← hpx]; rfl
 have Hz : Hid (o2.size≤1000):=by show _≤_; omega
 have or3:=or2
 rw [← sumQ_app] at or3
 unfold sumP at or1
 unfold sumQ at or2
 clear hv hT a0 a1 hA hk oe1 oe2 oz1 oz2 hpx hzp
 go_enter Tryz.func4,Tryz.ntmps4
 go_wp2_with fail
 refine HFi.out.mono ?_
 rintro e w1 ⟨p,l,rfl,b1,hdo,hl,hst⟩
 have HB1:=hid b1
 obtain ⟨gs,hinv,hgs⟩:=sum_pipe Hk.out hdo hl
 have HI:=hid hinv
 have hll:=hl
 have HLl:=hid hl
 have HR : Hid (∀ w2 : World,Below w1.heap.size w1 w2→Calls Tryz.prog 10 #[.pointer (some ⟨p,0,none⟩),.string nX,.string o2] w2 fun e w'=>Below w2.heap.size w2 w'∧∃ A c,e=.returned (.tuple #[.slice A gs.length c,.int .i64 0,.int .i64 0,.int .i64 0])∧StrsAt w' (.slice A gs.length c) (gs.map fun p=>prT (grpD p))):=by
  intro w2 hb
  have hp:=sum_at Hk.out
  rw [HS.out]
  have hrd : PpSaid Tb (tJ (sumS k)) [grpS (fun d=>.inr (orNull (pthP k) d)) es5 ks6]:=by rw [hp.1]; exact sum_read HA.out Hk.out
  refine (run_st HA.out (hst.keep hb) nX (sumS k) l _ (by decide) (by have:=Hz.out; rw [HS.out] at this; omega) (two_x _ _) (by omega) hp.2 hrd (HT.out _ (b1.trans (hb.mono b1.size)))).mono ?_
  have hpe : pipE [grpS (fun d=>.inr (orNull (pthP k) d)) es5 ks6] l 0=.inr (gs.map grpD):=by rw [pipE,hgs]; rfl
  rintro e w' ⟨h1,⟨i,kk,x,sv,h2,_⟩ | ⟨r,sv,h2,rfl,h3,h4⟩⟩
  ·rw [hpe] at h2; cases h2
  ·rw [hpe] at h2
   simp only [Sum.inr.injEq] at h2
   subst h2
   obtain ⟨A,c,rfl⟩:=row_slice h3
   rw [List.length_map] at h3 h4 ⊢
   refine ⟨h1,A,c,rfl,?_⟩
   have hrow:=row_strs (w:=w2) (w':=w') (v:=.slice A gs.length c) (l:=gs.map fun p=>prT (grpD p)) (by rw [List.length_map,List.map_map]; rw [List.map_map] at h3; exact h3) (by rw [List.length_map]; omega) (fun i hi=>by
    rw [List.length_map] at hi
    have hm:=List.getElem_mem hi
    obtain ⟨q1,q2,q3,q4,q5,q6⟩:=hinv.in64 hl hm
    have:=(obj6_parse (hinv.el _ hm).1 q1 q2 q3 q4 q5 q6).2.2
    rw [List.getD_eq_getElem?_getD,List.getElem?_map,List.getElem?_eq_getElem hi]
    show (prT (grpD gs[i])).size≤_
    unfold grpD
    omega)
   exact hrow.at fun b hb=>hb.2
 obtain ⟨ln,hln⟩ : ∃ ln,l.length=ln:=⟨_,rfl⟩
 rw [hln] at HI hll ⊢
 clear hst hdo hl b1 HFi HS hinv hgs hln HLl
 go_wp2_with fail
 refine (HPa.out _).mono ?_
 rintro e w2 ⟨rfl,b2⟩
 have HB2:=hid (HB1.out.trans (b2.mono HB1.out.size))
 have HRn:=hid (HR.out w2 b2)
 clear b2 HPa HR
 go_wp2_with fail
 refine HRn.out.mono ?_
 rintro e w3 ⟨b3,A,c,rfl,hstr⟩
 have HB3:=hid (HB2.out.trans (b3.mono HB2.out.size))
 have HStr:=hid hstr
 have Hpr : Hid (∀ k,(hk : k<gs.length)→eJ (prT (grpD gs[k]))=0∧tJ (prT (grpD gs[k]))=grpD gs[k]∧(prT (grpD gs[k])).size≤2000):=fun k hk=>by
  have hm:=List.getElem_mem hk
  obtain ⟨q1,q2,q3,q4,q5,q6⟩:=HI.out.in64 hll hm
  exact obj6_parse (HI.out.el _ hm).1 q1 q2 q3 q4 q5 q6
 obtain ⟨gn,hgn⟩ : ∃ gn,gs.length=gn:=⟨_,rfl⟩
 have Hgn:=hid hgn
 have hgn30 : gn≤1000000:=by
  obtain ⟨_,_,h1,_,_⟩:=hstr
  have:=HI.out.len
  have hle : gs.length≤(gs.map fun p=>p.2.length).sum:=by
   have hh : ∀ (l : List (T×List Int)),(∀ p ∈ l,p.2≠[])→l.length≤(l.map fun p=>p.2.length).sum:=by
    intro l
    induction l with
    | nil=>intro _; exact Nat.le_refl _
    | cons a r ih =>
     intro h
     have h1:=ih fun p hp=>h p (List.mem_cons_of_mem _ hp)
     have h2:=h a (List.mem_cons_self ..)
     have h3 : 0<a.2.length:=List.length_pos_iff.2 h2
     rw [List.length_cons,List.map_cons,List.sum_cons]
     omega
   exact hh gs fun p hp=>(HI.out.el p hp).2.1
  omega
 rw [hgn] at HStr ⊢
 clear b3 hstr hgn HRn HB2 HB1
 go_wp2_with fail
 go_loopg [11,12,13,14] gn (fun g cc ss la i wr=>∃ (k : Nat) (cz sz lz : Int),g=gn - k∧k≤gn∧cc=.int .i64 cz∧ss=.int .i64 sz∧la=.int .i64 lz∧i=.int .i64 k∧Hid (Below w3.heap.size w3 wr)∧Hid (cz=((((gs.take k).map fun p=>p.2.length).sum : Nat) : Int)∧sz=((gs.take k).map fun p=>p.2.sum).sum∧∀ h : k<gs.length,lz<gs[k].2.headD 0))
 case atStart =>
  refine ⟨0,0,0,-1,rfl,Nat.zero_le _,rfl,rfl,rfl,rfl,Below.refl _ _,rfl,rfl,fun h=>?_⟩
  have hm:=List.getElem_mem h
  have:=(HI.out.el _ hm).2.2 _ (head_mem (HI.out.el _ hm).2.1)
  omega
 case round =>
  obtain ⟨k,cz,sz,lz,rfl,hk,rfl,rfl,rfl,rfl,HB,HF⟩:=hrel
  by_cases hlt : k<gn
  ·have hkl : k<gs.length:=by rw [Hgn.out]; exact hlt
   obtain ⟨pk,hpk⟩ : ∃ pk,gs[k]=pk:=⟨_,rfl⟩
   have hm : pk ∈ gs:=by rw [← hpk]; exact List.getElem_mem hkl
   obtain ⟨_,hne,hel⟩:=HI.out.el pk hm
   obtain ⟨n1,n2,n3,n4,n5,n6⟩:=HI.out.in64 hll hm
   have hpr:=Hpr.out k hkl
   rw [hpk] at hpr
   obtain ⟨b,o,hA0,hcell⟩:=strs_cell (HStr.out.keep HB.out) (k:=k) (by rw [List.length_map]; exact hkl) (s:=prT (grpD pk)) (by rw [List.getD_eq_getElem?_getD,List.getElem?_map,List.getElem?_eq_getElem hkl,hpk]; rfl)
   subst hA0
   obtain ⟨c1,hc1⟩ : ∃ c1,pk.2.length=c1+1:=⟨pk.2.length - 1,by have:=List.length_pos_iff.2 hne; omega⟩
   have HP:=hid (parse6 HA.out (s:=prT (grpD pk)) (w:=wr) hpr.2.2 (HT.out _ (HB3.out.trans (HB.out.mono HB3.out.size))) hpr.1 hpr.2.1 hne rfl rfl hc1)
   have hlast:=HF.out.2.2 hkl
   rw [hpk] at hlast
   have Htk : Hid (gs.take (k+1)=gs.take k ++ [pk]):=by show _=_; rw [List.take_add_one,List.getElem?_eq_getElem hkl,hpk]; rfl
   have Hnext : Hid (∀ h : k+1<gs.length,pk.2.headD 0<gs[k+1].2.headD 0):=fun h=>by
    have:=List.pairwise_iff_getElem.1 HI.out.asc k (k+1) hkl h (by omega)
    rw [hpk] at this
    exact this
   have hcb : 0≤cz∧cz≤30:=by
    have h1:=HF.out.1
    have h2:=HI.out.len
    have h3 : ((gs.take k).map fun p=>p.2.length).sum≤(gs.map fun p=>p.2.length).sum:=by
     conv=>rhs; rw [← List.take_append_drop k gs]
     rw [List.map_append,List.sum_append]
     omega
    omega
   have hsb : 0≤pk.2.sum∧pk.2.sum≤900:=by
    have h5:=sum_bound hel
    have h6 : ((pk.2.length : Int)) * (ln : Int)≤30 * 30:=Int.mul_le_mul (by omega) (by omega) (by omega) (by omega)
    omega
   have hzb : 0≤sz∧sz≤100000:=by
    have h1:=HF.out.2.1
    have hh : ∀ (l : List (T×List Int)),(∀ p ∈ l,0≤p.2.sum∧p.2.sum≤900)→0≤(l.map fun p=>p.2.sum).sum∧(l.map fun p=>p.2.sum).sum≤900 * (l.length : Int):=by
     intro l
     induction l with
     | nil=>intro _; simp
     | cons a r ih =>
      intro h
      have h1:=ih fun p hp=>h p (List.mem_cons_of_mem _ hp)
      have h2:=h a (List.mem_cons_self ..)
      rw [List.map_cons,List.sum_cons,List.length_cons]
      omega
    have h2:=hh (gs.take k) fun p hp=>by
     have hp':=List.mem_of_mem_take hp
     have h5:=sum_bound (HI.out.el p hp').2.2
     have h4:=(HI.out.in64 hll hp').1
     have h6 : ((p.2.length : Int)) * (ln : Int)≤30 * 30:=Int.mul_le_mul (by omega) (by omega) (by omega) (by omega)
     omega
    have h3 : (gs.take k).length≤30:=by
     have h7 : gs.length≤(gs.map fun p=>p.2.length).sum:=by
      have hh : ∀ (l : List (T×List Int)),(∀ p ∈ l,p.2≠[])→l.length≤(l.map fun p=>p.2.length).sum:=by
       intro l
       induction l with
       | nil=>intro _; exact Nat.le_refl _
       | cons a r ih =>
        intro h
        have h1:=ih fun p hp=>h p (List.mem_cons_of_mem _ hp)
        have h3 : 0<a.2.length:=List.length_pos_iff.2 (h a (List.mem_cons_self ..))
        rw [List.length_cons,List.map_cons,List.sum_cons]
        omega
      exact hh gs fun p hp=>(HI.out.el p hp).2.1
     have:=HI.out.len
     rw [List.length_take]
     omega
    omega
   obtain ⟨cz2,hcz2⟩ : ∃ x : Int,x=cz+(pk.2.length : Int):=⟨_,rfl⟩
   obtain ⟨sz2,hsz2⟩ : ∃ x : Int,x=sz+pk.2.sum:=⟨_,rfl⟩
   have HF2 : Hid (cz2=((((gs.take (k+1)).map fun p=>p.2.length).sum : Nat) : Int)∧sz2=((gs.take (k+1)).map fun p=>p.2.sum).sum):=by
    rw [Htk.out,List.map_append,List.sum_append,List.map_append,List.sum_append,hcz2,hsz2,HF.out.1,HF.out.2.1]
    exact ⟨by simp,by simp⟩
   have hwc : IntKind.i64.wrap (cz+(pk.2.length : Int))=cz2:=by rw [IntKind.wrap_i64]; omega
   have hws : IntKind.i64.wrap (sz+pk.2.sum)=sz2:=by rw [IntKind.wrap_i64]; omega
   have hz0 : ((pk.2.length : Int) == 0)=false:=by simp; omega
   have hcp : 0<pk.2.length:=by omega
   have hw1 : IntKind.i64.wrap ((pk.2.length : Int) - 1)=(c1 : Int):=by rw [IntKind.wrap_i64]; omega
   have hcl : (c1 : Int)<(pk.2.length : Int):=by omega
   have hcl2 : c1<pk.2.length:=by omega
   have hnle : ¬ (pk.2.headD 0≤lz):=by omega
   generalize pk.2.length=cnt at *
   generalize pk.2.sum=sm at *
   generalize pk.2.headD 0=fi at *
   generalize pk.2.getLastD 0=mx at *
   clear hpr hne hel n1 n2 n3 n4 n5 n6 hm hpk hcb hsb hzb hcz2 hsz2 hlast hc1 Htk Hpr
   go_wp2_with fail
   refine HP.out.mono ?_
   rintro e w5 ⟨b5,eb,eo,Lc,Ka,Kc,lb,lo,lc,rfl,ho⟩
   have HBa : Hid (Below w5.heap.size w5 (w5.alloc (.cells #[.int .i64 6,.int .i64 0,.string ByteArray.empty,.slice (some ⟨eb,eo,none⟩) 6 Lc,.slice Ka 6 Kc] 36))):=(Below.refl _ _).alloc (Nat.le_refl _) _
   have HB5:=hid ((HB.out.trans (b5.mono HB.out.size)).trans (HBa.out.mono (HB.out.trans (b5.mono HB.out.size)).size))
   have HO:=hid (ho.keep HBa.out)
   have q1:=HO.out.q1
   have q2:=HO.out.q2
   have q3:=HO.out.q3
   have q4:=HO.out.q4
   have q5:=HO.out.q5
   have e0:=HO.out.e0
   have e1:=HO.out.e1
   clear b5 ho HP hcell
   go_wp2_with fail
   go_quiet (fail)
   have HB6:=hid (below_drewN HB5.out nq)
   go_wp2_with fail
   go_roundg (gn - (k+1))
   case rel=>exact ⟨k+1,cz2,sz2,fi,rfl,by omega,rfl,rfl,rfl,by go_num,HB6,HF2.out.1,HF2.out.2,Hnext.out⟩
   case measure=>omega
  ·obtain rfl : k=gn:=by omega
   have h1:=HF.out.1
   have h2:=HF.out.2.1
   rw [← Hgn.out,List.take_length] at h1 h2
   rw [HI.out.len] at h1
   have h3:=HI.out.sum
   rw [← h2] at h3
   subst h1
   obtain ⟨x,hx⟩ : ∃ x : Int,x=(ln : Int) - 1:=⟨_,rfl⟩
   rw [← hx] at h3
   obtain ⟨y,hy⟩ : ∃ y : Int,y=(ln : Int) * x:=⟨_,rfl⟩
   rw [← hy] at h3
   have hyb : y≤30 * 30:=by
    rw [hy]
    by_cases h0 : 0≤x
    ·exact Int.mul_le_mul (by omega) (by omega) h0 (by omega)
    ·have : x=-1:=by omega
     rw [this]
     omega
   have hya : -30≤y:=by
    rw [hy]
    by_cases h0 : 0≤x
    ·have:=Int.mul_nonneg (show (0 : Int)≤(ln : Int) by omega) h0
     omega
    ·have : x=-1:=by omega
     rw [this]
     omega
   have hw1 : IntKind.i64.wrap ((ln : Int) - 1)=x:=by rw [IntKind.wrap_i64]; omega
   have hw2 : IntKind.i64.wrap ((ln : Int) * x)=y:=by rw [IntKind.wrap_i64,← hy]; omega
   have hw3 : y.tdiv 2=sz:=by rw [← h3,Int.mul_comm]; exact Int.mul_tdiv_cancel _ (by decide)
   have hw4 : IntKind.i64.wrap sz=sz:=by rw [IntKind.wrap_i64]; omega
   have HBf:=hid (HB3.out.trans (HB.out.mono HB3.out.size))
   clear h2 h3 hx hy hyb hya Hpr HStr
   go_wp2_with fail
   go_ret
   exact ⟨rfl,HBf.out⟩
end Go.Proofs.YtknakfpciccoaabGreatDoor
