import Derived.Test.YtknakfpciccoaabGreatDoorZS22
import Derived.Deep.RegionLaw
/- The walk of appendEntries. -/
namespace Go.Proofs.YtknakfpciccoaabGreatDoor
open Go.RowKit
theorem splice_mid (a z b c : List UInt8) (h : z.length=4) : (a ++ z ++ c).take a.length ++ (b ++ (a ++ z ++ c).drop (a.length+4))=a ++ (b ++ c):=by
 have e1 : (a ++ z ++ c).take a.length=a:=by rw [List.append_assoc]; exact List.take_left
 have e2 : (a ++ z ++ c).drop (a.length+4)=c:=by rw [← h,← List.length_append]; exact List.drop_left
 rw [e1,e2]
theorem rowE_src {w : World} {lo : Nat} {l : List UInt8} {v : Value} {n g cap : Nat} (h : w.ownsRow lo 5 1 v n (bytesV ([] ++ l))) (hv : v=.slice (some ⟨g,0,none⟩) n cap) : ∀ j u,(bytesV l)[j]?=some u→w.cell? ((⟨g,0,none⟩ : Addr).add j)=some u:=by
 subst hv
 exact h.cells (g:=g) rfl
set_option maxHeartbeats 4000000 in
set_option maxRecDepth 100000 in
theorem appEnt_any (w0 : World) (m : Nat) (ih : AvSaid w0 m) (f : Nat) (La Ka : Option Addr) (Lc Kc : Nat) (t : T) (acc : List UInt8) (r : Value) (w : World)
  (hl : ElemsAt w0 f La t) (hkn : NamesAt w0 Ka t) (hn : nL t≤1759218604442) (hnk : kindOf t=6→nK t=nL t) (hg : ∀ i,i<nL t→Good m (elt t i)) (hb : Below w0.heap.size w0 w) (hr : w.ownsRow w0.heap.size 5 1 r acc.length (bytesV acc))
  (hlen : acc.length+(catB (encT m) t (nL t)).length+4≤100000000) :
  Calls Tryz.prog 146 #[r,.agg #[.int .i64 (kindOf t),.int .i64 (nOf t),.string (sOf t),.slice La (nL t) Lc,.slice Ka (nK t) Kc]] w fun e w'=>∃ r',e=.returned r'∧QG w0 r w r' (acc ++ (beL (catB (encT m) t (nL t)).length 4 ++ catB (encT m) t (nL t))) w':=by
 obtain ⟨iB,hiB,zB0,zB1,zB2⟩:=info_parts infoBE
 have HR:=hid hr
 have H0 : Hid (QG w0 r (w.alloc (.cells #[.int .i64 (kindOf t),.int .i64 (nOf t),.string (sOf t),.slice La (nL t) Lc,.slice Ka (nK t) Kc] 36)) r acc (w.alloc (.cells #[.int .i64 (kindOf t),.int .i64 (nOf t),.string (sOf t),.slice La (nL t) Lc,.slice Ka (nK t) Kc] 36))):=QG.here HR.out
 have HB1 : Hid (Below w0.heap.size w0 (w.alloc (.cells #[.int .i64 (kindOf t),.int .i64 (nOf t),.string (sOf t),.slice La (nL t) Lc,.slice Ka (nK t) Kc] 36))):=hb.alloc hb.size _
 have HC0:=hid (appNum_any w0 r acc 0 4 _ H0.out.row HB1.out.size (by omega) (by omega) (by omega) (by omega))
 obtain ⟨A0,c0,hs0⟩:=rowE_shape0 hr
 have Hih:=hid ih
 have Hl:=hid hl
 have HK:=hid hkn
 have Hg:=hid hg
 have HNK:=hid hnk
 have hl0 : acc.length≤100000000:=by omega
 obtain ⟨p,hp⟩ : ∃ p,p=acc.length:=⟨_,rfl⟩
 have HM : Hid (∀ k,k≤nL t→(catB (encT m) t k).length+p+4≤100000000):=hid (fun k hk=>by have:=catB_mono (encT m) t hk; omega)
 rw [← hp] at hs0 hl0
 have Hp:=hid hp
 have Hs0:=hid hs0
 clear hr ih hl hkn hg hb hlen hnk hp
 go_enter Tryz.func146,Tryz.ntmps146
 rw [hs0]
 clear hs0
 go_wp2_with fail
 rw [← Hs0.out]
 refine HC0.out.mono ?_
 rintro e w1 ⟨r1,rfl,hq1⟩
 obtain ⟨q0,q1,q2,q3,q4,hz⟩:=QG.box HR.out hq1
 obtain ⟨A1,c1,hs1⟩:=rowE_shape0 hq1.row
 rw [List.length_append,beL_len,← Hp.out] at hs1
 have Hs1:=hid hs1
 subst hs1
 have HQ1:=hid hq1
 clear hq1 HC0
 go_wp2_with fail
 clear q0 q1 q2 q3 q4 hz
 go_loopg [0,18] (nL t) (fun g o i wr=>∃ k : Nat,g=nL t - k∧k≤nL t∧i=.int .i64 k∧Hid (QG w0 r (w.alloc (.cells #[.int .i64 (kindOf t),.int .i64 (nOf t),.string (sOf t),.slice La (nL t) Lc,.slice Ka (nK t) Kc] 36)) o (acc ++ beL 0 4 ++ catB (encT m) t k) wr))
 case atStart=>exact ⟨0,rfl,Nat.zero_le _,rfl,HQ1.out.acc (by simp [catB])⟩
 case round =>
  obtain ⟨k,rfl,hk,rfl,HQ⟩:=hrel
  obtain ⟨q0,q1,q2,q3,q4,hz⟩:=QG.box HR.out HQ.out
  have Hbr:=hid (HQ.out.below H0.out.row HB1.out)
  by_cases hlt : k<nL t
  ·obtain ⟨bb,oo,A,B,C,D,rfl,hbl,p0,p1,p2,p3,p4,Ha⟩:=Hl.out.shape Hbr.out k hlt
   have hm1:=HM.out (k+1) hlt
   have HG:=hid (Hg.out k hlt)
   have HBi : Hid (Below wr.heap.size wr (wr.alloc (.cells #[.int .i64 (kindOf (elt t k)),.int .i64 (nOf (elt t k)),.string (sOf (elt t k)),.slice A (nL (elt t k)) B,.slice C (nK (elt t k)) D] 36))):=(Below.refl _ _).alloc (Nat.le_refl _) _
   have HX:=hid (HQ.out.keep HBi.out)
   have Hb2:=hid (Hbr.out.trans (HBi.out.mono Hbr.out.size))
   by_cases k6 : kindOf t=6
   ·have e6 : (kindOf t == 6)=true:=by simpa using k6
    have hltK : k<nK t:=by have:=HNK.out k6; omega
    have hn2 : nK t≤1759218604442:=by have:=HNK.out k6; omega
    obtain ⟨kb,ko,rfl,hkb,hks,hkc⟩:=HK.out k hltK
    have HN : Hid (∀ wx,Below w0.heap.size w0 wx→wx.cell? ⟨kb,ko+k,none⟩=some (.string (nam t k))):=hid (fun wx hB=>(hB.cell (p:=⟨kb,ko+k,none⟩) hkb).trans hkc)
    have HJ : Hid (catB (encT m) t (k+1)=catB (encT m) t k ++ beL (nam t k).size 2 ++ (nam t k).data.toList ++ encT m (elt t k)):=by show catB (encT m) t k ++ _=_; unfold nameE; rw [if_pos k6]; simp
    rw [HJ.out] at hm1
    have hsz : (nam t k).data.toList.length=(nam t k).size:=rfl
    simp only [List.length_append,beL_len,hsz] at hm1
    have hkw:=HN.out _ Hb2.out
    clear k6 hkc hsz
    generalize nam t k=s at *
    have fz : IntKind.u64.wrap (s.size : Int)=(s.size : Int):=by rw [IntKind.wrap_u64]; omega
    have hpl : p=acc.length:=Hp.out
    have hlK : (acc ++ beL 0 4 ++ catB (encT m) t k).length=p+4+(catB (encT m) t k).length:=by rw [List.length_append,List.length_append,beL_len,hpl]
    clear hpl
    have HC:=hid (appNum_any w0 u0 (acc ++ beL 0 4 ++ catB (encT m) t k) (s.size : Int) 2 _ HX.out.row Hb2.out.size (by omega) (by omega) (by omega) (by omega))
    generalize hL : acc ++ beL 0 4 ++ catB (encT m) t k=accK at *
    have HL:=hid hL
    have HlK:=hid hlK
    clear hL hlK
    go_wp2_with fail
    refine HC.out.mono ?_
    rintro e w2 ⟨r2,rfl,hq2⟩
    have HQ2:=hid (HX.out.trans hq2)
    have HI2:=hid hq2
    have Hbw2:=hid (HQ2.out.below H0.out.row HB1.out)
    clear hq2 q0 q1 q2 q3 q4 hz HC hkw
    obtain ⟨q0,q1,q2,q3,q4,hz⟩:=QG.box HR.out HQ2.out
    have hkw:=HN.out _ Hbw2.out
    have hlen2 : (accK ++ beL (s.size : Int) 2).length≤100000000:=by have:=HlK.out; rw [List.length_append,beL_len]; omega
    generalize hL2 : accK ++ beL (s.size : Int) 2=acc2 at *
    have HL2:=hid hL2
    clear hL2
    go_wp2_with (at_builtin; refine wpList_append_src _ rfl (.tmp 35) (.tmp 40) 98 9 rfl w0.heap.size 5 iB _ 1 1 Tryz.underlying98 hiB zB0 zB1 zB2 rfl r2 acc2.length (bytesV acc2) rfl HI2.out.row (.string s) s.size (bytesV s.data.toList) rfl (src_bytes _ Tryz.underlying9 s) (by unfold maxLen; omega) (by omega) Hbw2.out.size ?_; intro r3 w3 hO3 hG3 hat3; have HI3:=hid (HI2.out.grow (l:=s.data.toList) hO3 hG3 hat3); clear hO3 hG3 hat3; obtain ⟨j0,j1,j2,j3,j4,jz⟩:=QG.box HQ.out.row HI3.out)
    have HX3:=hid (HX.out.trans HI3.out)
    have hlen3 : (acc2 ++ s.data.toList).length+(encT m (elt t k)).length≤100000000:=by
     have h1:=HlK.out
     have h2 : s.data.toList.length=s.size:=rfl
     rw [← HL2.out,List.length_append,List.length_append,beL_len,h2]
     omega
    refine (Hih.out f _ (elt t k) (acc2 ++ s.data.toList) r3 w3 Ha.out HG.out (HX3.out.below H0.out.row HB1.out) HX3.out.row hlen3).mono ?_
    rintro e w4 ⟨r4,rfl,hq4⟩
    have HQ4:=hid (HX3.out.trans hq4)
    clear hq4 q0 q1 q2 q3 q4 hz j0 j1 j2 j3 j4 jz hkw
    go_wp2_with fail
    go_roundg (nL t - (k+1))
    case rel=>exact ⟨k+1,rfl,by omega,by go_num,HQ4.out.acc (by rw [HJ.out,← HL2.out,← HL.out]; simp)⟩
    case measure=>omega
   ·have e6 : (kindOf t == 6)=false:=by simpa using k6
    have HJ : Hid (catB (encT m) t (k+1)=catB (encT m) t k ++ encT m (elt t k)):=by show catB (encT m) t k ++ _=_; unfold nameE; rw [if_neg k6]; simp
    rw [HJ.out] at hm1
    clear k6
    go_wp2_with fail
    refine (Hih.out f _ (elt t k) _ u0 _ Ha.out HG.out Hb2.out HX.out.row (by rw [List.length_append] at hm1; rw [List.length_append,List.length_append,beL_len,← Hp.out]; omega)).mono ?_
    rintro e w2 ⟨r2,rfl,hq2⟩
    have HQ2:=hid (HX.out.trans hq2)
    clear hq2 q0 q1 q2 q3 q4 hz
    go_wp2_with fail
    go_roundg (nL t - (k+1))
    case rel=>exact ⟨k+1,rfl,by omega,by go_num,HQ2.out.acc (by rw [HJ.out]; simp)⟩
    case measure=>omega
  ·obtain rfl : k=nL t:=by omega
   have hm0:=HM.out (nL t) hk
   obtain ⟨L,hL⟩ : ∃ L,L=(catB (encT m) t (nL t)).length:=⟨_,rfl⟩
   have hlen : (acc ++ beL 0 4 ++ catB (encT m) t (nL t)).length=p+4+L:=by rw [List.length_append,List.length_append,beL_len,← Hp.out,hL]
   obtain ⟨g,cap,hs,hcap,hcm⟩:=rowE_shape HQ.out.row (by omega)
   obtain ⟨n,hn3⟩ : ∃ n,n=p+4+L:=⟨_,rfl⟩
   rw [hlen,← hn3] at hs hcap
   rw [← hL] at hm0
   have f1 : IntKind.i64.wrap ((n : Int) - ((p : Int)+4))=(L : Int):=by rw [IntKind.wrap_i64]; omega
   have f2 : IntKind.u64.wrap (L : Int)=(L : Int):=by rw [IntKind.wrap_u64]; omega
   have f3 : p+4≤cap:=by omega
   have HQd:=hid (HQ.out.keep (below_drew wr))
   have hbd : w0.heap.size≤wr.drew.heap.size:=by have:=Hbr.out.size; simpa using this
   have HC:=hid (appNum_any w0 (.slice none 0 0) [] (L : Int) 4 wr.drew (World.ownsRow_nil _ _ _ _) hbd (by omega) (by omega) (by omega) (by simp))
   have x1 : (0 : Int)≤(p : Int)+4:=by omega
   have x2 : (p : Int)+4≤(cap : Int):=by omega
   have x3 : ((p : Int)+4).toNat=p+4:=by omega
   have x5 : (cap=p)=False:=by simp only [eq_iff_iff,iff_false]; omega
   have HL:=hid hL
   have Hn3:=hid hn3
   have Hlen:=hid hlen
   clear hL hn3 hlen hm0 hcap hcm hlt
   subst hs
   have HCP:=hid (fun (w5 : World) (h5 : QG w0 r (w.alloc (.cells #[.int .i64 (kindOf t),.int .i64 (nOf t),.string (sOf t),.slice La (nL t) Lc,.slice Ka (nK t) Kc] 36)) (.slice (some ⟨g,0,none⟩) n cap) (acc ++ beL 0 4 ++ catB (encT m) t (nL t)) w5)=>QG.copy (off:=p) (cs:=beL (L : Int) 4) (out:=acc ++ (beL (L : Int) 4 ++ catB (encT m) t (nL t))) (by rw [Hlen.out,Hn3.out]) h5 (by rw [Hlen.out,beL_len]; omega) (by rw [beL_len,Hp.out]; exact (splice_mid acc (beL 0 4) _ _ (by rw [beL_len])).symm))
   have hszB : (Tryz.prog.info? 5).map (·.size)=some 1:=by rw [hiB]; simp [zB1]
   have hmin : (bytesV (beL (L : Int) 4)).length=Nat.min 4 4:=by rw [bytesV_length,beL_len]; rfl
   have honeB : ∀ v ∈ bytesV (beL (L : Int) 4),v.oneCell'=true:=fun u hu=>by obtain ⟨b,_,rfl⟩:=List.mem_map.1 hu; rfl
   go_wp2_with fail
   go_region_law (first | (refine step_copy_row (by rfl) (.tmp 49) (.tmp 55) 98 98 (by rfl) 5 Tryz.underlying98 hszB g p 4 (cap - p) ⟨g5,0,none⟩ 4 cap5 (by rfl) (by rfl) cur 5 hcur (bytesV (beL (L : Int) 4)) hmin hsrc hfit honeB _ rfl ?_) | (go_simp; go_wp2_with (go_at_call 145; refine HC.out.mono ?_; rintro e w5 ⟨r5,rfl,hq5⟩; obtain ⟨g5,cap5,hs5,hcap5,hcm5⟩:=rowE_shape hq5.row (by simp [beL_len]); obtain ⟨cur,hcur,hfit,hnc,hQ6⟩:=HCP.out _ (HQd.out.beside hq5); have hsrc:=(rowE_src hq5.row hs5); rw [List.nil_append,beL_len] at hs5; subst hs5)))
   all_goals
    rw [bytesV_length,beL_len] at hQ6
    generalize w5.setRow g (List.take p cur.toList ++ (bytesV (beL (L : Int) 4) ++ List.drop (p+4) cur.toList)).toArray=w6 at hQ6 ⊢
    have HQ6:=hid hQ6
    clear hQ6 hq5 hsrc hcur hfit hnc hcap5 hcm5
    go_wp2_with fail
    go_ret
    exact ⟨_,rfl,by rw [← HL.out,← Hs0.out]; exact HQ6.out.from HR.out⟩
end Go.Proofs.YtknakfpciccoaabGreatDoor
/- The walks of appendValue and of Encode. -/
namespace Go.Proofs.YtknakfpciccoaabGreatDoor
open Go.RowKit
set_option maxHeartbeats 4000000 in
set_option maxRecDepth 100000 in
theorem appVal_box (w0 : World) (m : Nat) (ih : AvSaid w0 m) (f : Nat) (La Ka : Option Addr) (Lc Kc : Nat) (t : T) (acc : List UInt8) (r : Value) (w : World)
  (hl : ElemsAt w0 f La t) (hkn : NamesAt w0 Ka t) (hn : nL t≤1759218604442) (hnk : kindOf t=6→nK t=nL t) (hg : ∀ i,i<nL t→Good m (elt t i)) (hk : kindOf t=5∨kindOf t=6) (hb0 : Below w0.heap.size w0 w) (hr : w.ownsRow w0.heap.size 5 1 r acc.length (bytesV acc))
  (hlen : acc.length+(catB (encT m) t (nL t)).length+5≤100000000) :
  Calls Tryz.prog 118 #[r,.agg #[.int .i64 (kindOf t),.int .i64 (nOf t),.string (sOf t),.slice La (nL t) Lc,.slice Ka (nK t) Kc]] w fun e w'=>∃ r',e=.returned r'∧QG w0 r w r' (acc ++ boxE t (catB (encT m) t (nL t))) w':=by
 obtain ⟨iB,hiB,zB0,zB1,zB2⟩:=info_parts infoBE
 have HR:=hid hr
 have hb : w0.heap.size≤w.heap.size:=hb0.size
 have HBx : Hid (Below w0.heap.size w0 (w.alloc (.cells #[.int .i64 (kindOf t),.int .i64 (nOf t),.string (sOf t),.slice La (nL t) Lc,.slice Ka (nK t) Kc] 36))):=hb0.alloc hb0.size _
 have hl1 : acc.length≤100000000:=by omega
 have fk : IntKind.u8.wrap (kindOf t)=((kindB t).toNat : Int):=wrapB _
 have HE:=hid (fun (r1 : Value) (w1 : World) (hb1 : Below w0.heap.size w0 w1) (hr1 : w1.ownsRow w0.heap.size 5 1 r1 (acc ++ [kindB t]).length (bytesV (acc ++ [kindB t])))=>appEnt_any w0 m ih f La Ka Lc Kc t (acc ++ [kindB t]) r1 w1 hl hkn hn hnk hg hb1 hr1 (by simp only [List.length_append,List.length_cons,List.length_nil]; omega))
 have HW : Hid (acc ++ boxE t (catB (encT m) t (nL t))=acc ++ [kindB t] ++ (beL (catB (encT m) t (nL t)).length 4 ++ catB (encT m) t (nL t))):=by show _=_; simp [boxE]
 clear hr hl hkn hn hnk hg hlen ih hb0
 have H0 : Hid (QG w0 r (w.alloc (.cells #[.int .i64 (kindOf t),.int .i64 (nOf t),.string (sOf t),.slice La (nL t) Lc,.slice Ka (nK t) Kc] 36)) r acc (w.alloc (.cells #[.int .i64 (kindOf t),.int .i64 (nOf t),.string (sOf t),.slice La (nL t) Lc,.slice Ka (nK t) Kc] 36))):=QG.here HR.out
 have HB1 : Hid (Below (w.heap.size+1) (w.alloc (.cells #[.int .i64 (kindOf t),.int .i64 (nOf t),.string (sOf t),.slice La (nL t) Lc,.slice Ka (nK t) Kc] 36)) ((w.alloc (.cells #[.int .i64 (kindOf t),.int .i64 (nOf t),.string (sOf t),.slice La (nL t) Lc,.slice Ka (nK t) Kc] 36)).alloc (.cells #[.int .u8 ((kindB t).toNat : Int)] 5))):=(Below.refl _ _).alloc (by simp) _
 have HI1:=hid (H0.out.keep (HB1.out.mono (by simp)))
 have HSb : Hid (Src Tryz.prog 1 98 (.slice (some ⟨w.heap.size+1,0,none⟩) 1 1) 1 (bytesV [kindB t]) ((w.alloc (.cells #[.int .i64 (kindOf t),.int .i64 (nOf t),.string (sOf t),.slice La (nL t) Lc,.slice Ka (nK t) Kc] 36)).alloc (.cells #[.int .u8 ((kindB t).toNat : Int)] 5))):=by
  have:=srcE_built (w.alloc (.cells #[.int .i64 (kindOf t),.int .i64 (nOf t),.string (sOf t),.slice La (nL t) Lc,.slice Ka (nK t) Kc] 36)) [kindB t]
  apply hid
  simpa [bytesV] using this
 have hbz : w0.heap.size≤((w.alloc (.cells #[.int .i64 (kindOf t),.int .i64 (nOf t),.string (sOf t),.slice La (nL t) Lc,.slice Ka (nK t) Kc] 36)).alloc (.cells #[.int .u8 ((kindB t).toNat : Int)] 5)).heap.size:=by simp; omega
 have HR0:=hid H0.out.row
 rcases hk with hk | hk
 ·have e2 : (kindOf t == 2)=false:=by rw [hk]; rfl
  have e3 : (kindOf t == 3)=false:=by rw [hk]; rfl
  have e4 : (kindOf t == 4)=false:=by rw [hk]; rfl
  have e5 : (kindOf t == 5)=true:=by rw [hk]; rfl
  clear hk
  go_enter Tryz.func118,Tryz.ntmps118
  go_wp2_with (at_builtin; refine wpList_append_src _ rfl (.tmp 5) (.tmp 9) 98 98 rfl w0.heap.size 5 iB _ 1 1 Tryz.underlying98 hiB zB0 zB1 zB2 rfl r acc.length (bytesV acc) rfl HI1.out.row (.slice (some ⟨w.heap.size+1,0,none⟩) 1 1) 1 (bytesV [kindB t]) rfl HSb.out (by unfold maxLen; omega) (by omega) hbz ?_; intro r1 w1 hO1 hG1 hat1; have HQ1:=hid (HI1.out.grow (l:=[kindB t]) hO1 hG1 hat1); clear hO1 hG1 hat1 HI1 HSb HB1 H0 hbz; obtain ⟨q0,q1,q2,q3,q4,hz⟩:=QG.box HR.out HQ1.out; have hb1 : w0.heap.size≤w1.heap.size:=by omega)
  refine (HE.out r1 w1 (HQ1.out.below HR0.out HBx.out) HQ1.out.row).mono ?_
  rintro e w2 ⟨r2,rfl,hq2⟩
  have HQ2:=hid (HQ1.out.trans hq2)
  clear hq2 q0 q1 q2 q3 q4 hz
  go_wp2_with fail
  go_ret
  exact ⟨_,rfl,by rw [HW.out]; exact HQ2.out.from HR.out⟩
 ·have e2 : (kindOf t == 2)=false:=by rw [hk]; rfl
  have e3 : (kindOf t == 3)=false:=by rw [hk]; rfl
  have e4 : (kindOf t == 4)=false:=by rw [hk]; rfl
  have e5 : (kindOf t == 5)=false:=by rw [hk]; rfl
  have e6 : (kindOf t == 6)=true:=by rw [hk]; rfl
  clear hk
  go_enter Tryz.func118,Tryz.ntmps118
  go_wp2_with (at_builtin; refine wpList_append_src _ rfl (.tmp 5) (.tmp 9) 98 98 rfl w0.heap.size 5 iB _ 1 1 Tryz.underlying98 hiB zB0 zB1 zB2 rfl r acc.length (bytesV acc) rfl HI1.out.row (.slice (some ⟨w.heap.size+1,0,none⟩) 1 1) 1 (bytesV [kindB t]) rfl HSb.out (by unfold maxLen; omega) (by omega) hbz ?_; intro r1 w1 hO1 hG1 hat1; have HQ1:=hid (HI1.out.grow (l:=[kindB t]) hO1 hG1 hat1); clear hO1 hG1 hat1 HI1 HSb HB1 H0 hbz; obtain ⟨q0,q1,q2,q3,q4,hz⟩:=QG.box HR.out HQ1.out; have hb1 : w0.heap.size≤w1.heap.size:=by omega)
  refine (HE.out r1 w1 (HQ1.out.below HR0.out HBx.out) HQ1.out.row).mono ?_
  rintro e w2 ⟨r2,rfl,hq2⟩
  have HQ2:=hid (HQ1.out.trans hq2)
  clear hq2 q0 q1 q2 q3 q4 hz
  go_wp2_with fail
  go_ret
  exact ⟨_,rfl,by rw [HW.out]; exact HQ2.out.from HR.out⟩
theorem leafK {t : T} (h : leafGood t) : kindOf t≠5∧kindOf t≠6:=by
 obtain ⟨_,_,h⟩:=h
 rcases h with ⟨h,_⟩ | ⟨h,_⟩ | ⟨h,_⟩ | ⟨h,_⟩ <;> omega
theorem appVal_any (w0 : World) : ∀ m, AvSaid w0 m
  | 0 => by
    intro f v t acc r w h hg hb hr hl
    obtain ⟨g, La, Ka, Lc, Kc, rfl, rfl, hf, _, _⟩ := h.open
    exact appVal_leaf w0 t hg hf acc r w La Ka Lc Kc hb.size hr hl
  | m + 1 => by
    intro f v t acc r w h hg hb hr hl
    obtain ⟨g, La, Ka, Lc, Kc, rfl, rfl, hf, hl', hk'⟩ := h.open
    rcases hg with hg | ⟨_, _, he, hk⟩
    · obtain ⟨k5, k6⟩ := leafK hg
      rw [encT_leaf k5 k6] at hl ⊢
      exact appVal_leaf w0 t hg hf acc r w La Ka Lc Kc hb.size hr hl
    · have hk2 : kindOf t = 5 ∨ kindOf t = 6 := by rcases hk with ⟨hk, _⟩ | ⟨hk, _⟩ <;> omega
      rw [encT_box hk2] at hl ⊢
      simp only [boxE, List.length_cons, List.length_append, beL_len] at hl
      exact appVal_box w0 m (appVal_any w0 m) g La Ka Lc Kc t acc r w hl'.out hk'.out hf.l1 (fun h6 => by rcases hk with ⟨hk, _⟩ | ⟨_, hk, _⟩; · omega
                                                                                                          · exact hk) he hk2 hb hr (by omega)
end Go.Proofs.YtknakfpciccoaabGreatDoor
/- The walk of text.Encode. -/
namespace Go.Proofs.YtknakfpciccoaabGreatDoor
open Go.RowKit
def encS (ok : Bool) (l : List UInt8) : ByteArray:=if ok then baL l else ⟨#[]⟩
def encF (ok : Bool) : Int:=if ok then 0 else 5
set_option maxHeartbeats 4000000 in
set_option maxRecDepth 100000 in
theorem tEncode_any {Tb : World→Prop} (hV : ValidSaid Tb) (hL : Lies Tb) (f : Nat) (v : Value) (t : T) (w : World) (h : At w f v t) (hT : Tb w) :
  Calls Tryz.prog 87 #[v] w fun e w'=>e=.returned (.tuple #[.string (encS (isV t) (encT 12 t)),.int .i64 (encF (isV t))])∧Below w.heap.size w w':=by
 have HA:=hid h
 have HT:=hid hT
 have HL:=hid hL
 have HV:=hid hV
 obtain ⟨f1,La,Ka,Lc,Kc,hf1,rfl,hf,hl,hk⟩:=h.open
 clear h hf hf1 hl hk hT hL hV
 have HB1 : Hid (Below w.heap.size w (w.alloc (.cells #[.int .i64 (kindOf t),.int .i64 (nOf t),.string (sOf t),.slice La (nL t) Lc,.slice Ka (nK t) Kc] 36))):=(Below.refl _ _).alloc (Nat.le_refl _) _
 have HI:=hid (isValue_any HV.out HL.out f _ t _ (HA.out.keep HB1.out) (HL.out w HT.out _ _ HT.out HB1.out))
 go_enter Tryz.func87,Tryz.ntmps87
 go_wp2_with fail
 refine HI.out.mono ?_
 rintro e w2 ⟨rfl,b2⟩
 have HB2 : Hid (Below (w.heap.size+1) (w.alloc (.cells #[.int .i64 (kindOf t),.int .i64 (nOf t),.string (sOf t),.slice La (nL t) Lc,.slice Ka (nK t) Kc] 36)) w2):=b2.mono (by simp)
 obtain ⟨q0,q1,q2,q3,q4,hz,hbw⟩:=box_facts HB2.out
 have Hbw:=hid hbw
 clear b2 hbw HI
 cases hi : isV t with
 | false =>
  have Hi:=hid hi
  clear hi
  go_wp2_with fail
  go_ret2
  exact ⟨by rw [Hi.out]; rfl,Hbw.out⟩
 | true =>
  have Hi:=hid hi
  have HG:=hid ((isV_iff t).1 hi)
  have HA2:=hid (HA.out.keep Hbw.out)
  have HW:=hid (encT_len 12 t HG.out.1)
  have HP:=hid (appVal_any w2 12 f _ t [] (.slice none 0 0) w2 HA2.out HG.out.1 (Below.refl _ _) (World.ownsRow_nil _ _ _ _) (by have:=HW.out; have:=HG.out.2; simp only [List.length_nil]; omega))
  clear hi
  go_wp2_with fail
  refine HP.out.mono ?_
  rintro e w3 ⟨r3,rfl,hq3⟩
  have HB3:=hid (Hbw.out.trans ((hq3.below (a:=[]) (World.ownsRow_nil _ _ _ _) (Below.refl _ _)).mono (Nat.le_of_lt hz)))
  have hcv:=conv_own (P:=Tryz.prog) Tryz.underlying98 Tryz.underlying5 Tryz.underlying9 hq3.row
  rw [List.nil_append] at hcv
  clear hq3 HP q0 q1 q2 q3 q4 hz
  go_wp2_with fail
  go_ret2
  exact ⟨by rw [Hi.out]; rfl,HB3.out⟩
end Go.Proofs.YtknakfpciccoaabGreatDoor
/- idOf, isDocument, IsTooBig. -/
namespace Go.Proofs.YtknakfpciccoaabGreatDoor
open Go.RowKit
def idS : ByteArray:=⟨#[95,105,100]⟩
def idP (t : T) : Option Nat:=idxL idS (kOf t)
set_option maxHeartbeats 4000000 in
set_option maxRecDepth 100000 in
theorem idOf_any (f : Nat) (v : Value) (t : T) (k : Nat) (w : World) (h : At w f v t) (hk : idP t=some k) (hlt : k<nL t) :
  Calls Tryz.prog 61 #[v] w fun e w'=>Below w.heap.size w w'∧∃ g A B C D,f=g+1∧e=.returned (.agg #[.int .i64 (kindOf (elt t k)),.int .i64 (nOf (elt t k)),.string (sOf (elt t k)),.slice A (nL (elt t k)) B,.slice C (nK (elt t k)) D])∧At w' g (.agg #[.int .i64 (kindOf (elt t k)),.int .i64 (nOf (elt t k)),.string (sOf (elt t k)),.slice A (nL (elt t k)) B,.slice C (nK (elt t k)) D]) (elt t k):=by
 obtain ⟨g,La,Ka,Lc,Kc,rfl,rfl,hf,hl,hkk⟩:=h.open
 have HB1 : Hid (Below w.heap.size w ((w.alloc (.cells #[.int .i64 (kindOf t),.int .i64 (nOf t),.string (sOf t),.slice La (nL t) Lc,.slice Ka (nK t) Kc] 36)).alloc (.cells #[.int .i64 0,.int .i64 0,.string ⟨#[]⟩,.slice none 0 0,.slice none 0 0] 36))):=((Below.refl _ _).alloc (Nat.le_refl _) _).alloc (by simp) _
 have HS:=hid ((names_strs (Kc:=Kc) hkk.out hf.m1).keep HB1.out.drew)
 obtain ⟨bb,oo,A,B,C,D,rfl,hbl,p0,p1,p2,p3,p4,Ha⟩:=hl.out.shape HB1.out.drew k hlt
 have HI : Hid (∀ w' : World,StrsAt w' (.slice Ka (nK t) Kc) (kOf t)→Calls Tryz.prog 91 #[.slice Ka (nK t) Kc,.string ⟨#[95,105,100]⟩] w' fun e w2=>e=.returned (.int .i64 (k : Int))∧w2=w'):=fun w' hs=>(index_any _ _ idS w' hs).mono fun e w2 hh=>⟨by rw [hh.1]; show Ending.returned (.int .i64 (idxI (idP t)))=_; rw [hk]; rfl,hh.2⟩
 have hl1:=hf.l1
 clear h hf hl hkk hk
 go_enter Tryz.func61,Tryz.ntmps61
 go_wp2_with fail
 go_region_law (go_simp; go_wp2_with (go_at_call 91; refine (HI.out _ HS.out).mono ?_; rintro e w2 ⟨rfl,rfl⟩))
 all_goals
  go_wp2_with fail
  refine bodyPost_ret (v:=.agg #[.int .i64 (kindOf (elt t k)),.int .i64 (nOf (elt t k)),.string (sOf (elt t k)),.slice A (nL (elt t k)) B,.slice C (nK (elt t k)) D]) (by simp [results,Tryz.results61,go_sem, *]) rfl ?_
  have hb : Below w.heap.size w (((w.alloc (.cells #[.int .i64 (kindOf t),.int .i64 (nOf t),.string (sOf t),.slice (some ⟨bb,oo,none⟩) (nL t) Lc,.slice Ka (nK t) Kc] 36)).alloc (.cells #[.int .i64 (kindOf (elt t k)),.int .i64 (nOf (elt t k)),.string (sOf (elt t k)),.slice A (nL (elt t k)) B,.slice C (nK (elt t k)) D] 36)).drew):=(((Below.refl _ _).alloc (Nat.le_refl _) _).alloc (by simp) _).drew
  exact ⟨hb,g,A,B,C,D,rfl,rfl,Ha.out.keep hb⟩
theorem field0_run (a b c d e : Value) (w : World) : (Instr.field 36 (.agg #[a,b,c,d,e]) 0).run Tryz.prog w=.ok a w:=by kernel_rfl
def isDoc (t : T) : Bool:=kindOf t == 6 && match idP t with
 | some k=>kindOf (elt t k) == 3 || kindOf (elt t k) == 4
 | none=>false
set_option maxHeartbeats 4000000 in
set_option maxRecDepth 100000 in
theorem isDoc_any (f : Nat) (v : Value) (t : T) (w : World) (h : At w f v t) (hok : okA t) :
  Calls Tryz.prog 58 #[v] w fun e w'=>e=.returned (.bool (isDoc t))∧Below w.heap.size w w':=by
 have HA:=hid h
 obtain ⟨g,La,Ka,Lc,Kc,rfl,rfl,hf,hl,hkk⟩:=h.open
 have HB1 : Hid (Below w.heap.size w (w.alloc (.cells #[.int .i64 (kindOf t),.int .i64 (nOf t),.string (sOf t),.slice La (nL t) Lc,.slice Ka (nK t) Kc] 36))):=(Below.refl _ _).alloc (Nat.le_refl _) _
 have HS:=hid ((names_strs (Kc:=Kc) hkk.out hf.m1).keep HB1.out)
 have HI:=hid (contains_any _ _ ⟨#[95,105,100]⟩ _ HS.out)
 have HOk:=hid hok
 clear h hf hl hkk hok
 by_cases k6 : kindOf t=6
 ·have e6 : (kindOf t == 6)=true:=by simpa using k6
  cases hi : idP t with
  | none =>
   have HR : Hid (isDoc t=false):=by show _=_; unfold isDoc; rw [hi]; simp
   have e : (idxL ⟨#[95,105,100]⟩ (kOf t)).isSome=false:=by rw [show idxL ⟨#[95,105,100]⟩ (kOf t)=none from hi]; rfl
   rw [e] at HI
   rw [k6] at HI HB1 ⊢
   clear e hi k6 e6 HOk HA HS
   go_enter Tryz.func58,Tryz.ntmps58
   go_wp2_with fail
   refine HI.out.mono ?_
   rintro e w2 ⟨rfl,rfl⟩
   go_wp2_with fail
   go_ret
   exact ⟨ret_bool (by rw [HR.out]),HB1.out⟩
  | some k =>
   have hkl : k<(kOf t).length:=idxL_lt hi
   have hlt : k<nL t:=by have:=HOk.out.names k6; unfold nK at this; omega
   have HR : Hid (isDoc t=(kindOf (elt t k) == 3 || kindOf (elt t k) == 4)):=by show _=_; unfold isDoc; rw [hi,e6]; rfl
   have e : (idxL ⟨#[95,105,100]⟩ (kOf t)).isSome=true:=by rw [show idxL ⟨#[95,105,100]⟩ (kOf t)=some k from hi]; rfl
   rw [e] at HI
   have HO:=hid (idOf_any _ _ t k _ (HA.out.keep HB1.out) hi hlt)
   rw [k6] at HI HB1 HO ⊢
   clear e hi k6 e6 HOk hkl hlt HA HS
   have HKo : Hid (kindOf (elt t k)=3∨kindOf (elt t k)≠3):=by by_cases h : kindOf (elt t k)=3 <;> simp [Hid,h]
   go_enter Tryz.func58,Tryz.ntmps58
   go_wp2_with fail
   refine HI.out.mono ?_
   rintro e w2 ⟨rfl,rfl⟩
   go_wp2_with fail
   refine HO.out.mono ?_
   rintro e w2 ⟨b2,g',A,B,C,D,hg,rfl,ha⟩
   have HB2:=hid (HB1.out.trans (b2.mono HB1.out.size))
   clear b2 ha hg HO
   have hfd:=field0_run
   rcases HKo.out with h3 | h3
   ·have e3 : (kindOf (elt t k) == 3)=true:=by simpa using h3
    have HR2 : Hid (isDoc t=true):=by show _=_; rw [HR.out,e3]; rfl
    clear h3 HKo
    go_wp2_with fail
    go_ret
    exact ⟨ret_bool (by rw [HR2.out]),HB2.out⟩
   ·have e3 : (kindOf (elt t k) == 3)=false:=by simpa using h3
    have HR2 : Hid (isDoc t=(kindOf (elt t k) == 4)):=by show _=_; rw [HR.out,e3]; rfl
    clear h3 HKo
    go_wp2_with fail
    go_ret
    exact ⟨ret_bool (by rw [HR2.out]),HB2.out⟩
 ·have e6 : (kindOf t == 6)=false:=by simpa using k6
  have HR : Hid (isDoc t=false):=by show _=_; unfold isDoc; rw [e6]; rfl
  have n6 : (kindOf t != 6)=true:=by simpa using k6
  clear k6 HOk e6
  go_enter Tryz.func58,Tryz.ntmps58
  go_wp2_with fail
  go_ret
  exact ⟨ret_bool (by rw [HR.out]),HB1.out⟩
def tooBig (t : T) : Bool:=!isV t || decide (1000<(encS (isV t) (encT 12 t)).size)
set_option maxHeartbeats 4000000 in
set_option maxRecDepth 100000 in
theorem tooBig_any {Tb : World→Prop} (hV : ValidSaid Tb) (hL : Lies Tb) (f : Nat) (v : Value) (t : T) (w : World) (h : At w f v t) (hT : Tb w) :
  Calls Tryz.prog 59 #[v] w fun e w'=>e=.returned (.bool (tooBig t))∧Below w.heap.size w w':=by
 have HA:=hid h
 obtain ⟨g,La,Ka,Lc,Kc,rfl,rfl,hf,hl,hkk⟩:=h.open
 have HB1 : Hid (Below w.heap.size w (w.alloc (.cells #[.int .i64 (kindOf t),.int .i64 (nOf t),.string (sOf t),.slice La (nL t) Lc,.slice Ka (nK t) Kc] 36))):=(Below.refl _ _).alloc (Nat.le_refl _) _
 have HE:=hid (tEncode_any hV hL _ _ t _ (HA.out.keep HB1.out) (hL w hT _ _ hT HB1.out))
 clear h hf hl hkk hT hL hV HA
 cases hv : isV t with
 | true =>
  rw [hv] at HE
  have HR : Hid (tooBig t=decide ((1000 : Int)<((encS true (encT 12 t)).size : Int))):=by show _=_; unfold tooBig; rw [hv]; simp; omega
  clear hv
  have e0 : encF true=0:=rfl
  rw [e0] at HE
  clear e0
  generalize encS true (encT 12 t)=bs at HE HR
  go_enter Tryz.func59,Tryz.ntmps59
  go_wp2_with fail
  refine HE.out.mono ?_
  rintro e w2 ⟨rfl,b2⟩
  have HB2:=hid (HB1.out.trans (b2.mono HB1.out.size))
  clear b2 HE
  go_wp2_with fail
  go_ret
  exact ⟨ret_bool (by rw [HR.out]),HB2.out⟩
 | false =>
  rw [hv] at HE
  have HR : Hid (tooBig t=true):=by show _=_; unfold tooBig; rw [hv]; simp
  clear hv
  have e0 : encF false=5:=rfl
  rw [e0] at HE
  clear e0
  generalize encS false (encT 12 t)=bs at HE
  go_enter Tryz.func59,Tryz.ntmps59
  go_wp2_with fail
  refine HE.out.mono ?_
  rintro e w2 ⟨rfl,b2⟩
  have HB2:=hid (HB1.out.trans (b2.mono HB1.out.size))
  clear b2 HE
  go_wp2_with fail
  go_ret
  exact ⟨ret_bool (by rw [HR.out]),HB2.out⟩
end Go.Proofs.YtknakfpciccoaabGreatDoor
/- readDocument. -/
namespace Go.Proofs.YtknakfpciccoaabGreatDoor
open Go.RowKit
def DocPost (s : ByteArray) (w : World) (e : Ending) (w' : World) : Prop :=
  Below w.heap.size w w' ∧
  ((eJ s ≠ 0 ∧ e = .returned (.tuple #[zeroV, .int .i64 (eJ s)])) ∨ (eJ s = 0 ∧ isDoc (tJ s) = false ∧ e = .returned (.tuple #[zeroV, .int .i64 7])) ∨ (eJ s = 0 ∧ isDoc (tJ s) = true ∧ tooBig (tJ s) = true ∧ e = .returned (.tuple #[zeroV, .int .i64 15])) ∨
   (eJ s = 0 ∧ isDoc (tJ s) = true ∧ tooBig (tJ s) = false ∧ ∃ A B C D, e = .returned (.tuple #[.agg #[.int .i64 (kindOf (tJ s)), .int .i64 (nOf (tJ s)), .string (sOf (tJ s)), .slice A (nL (tJ s)) B, .slice C (nK (tJ s)) D], .int .i64 0]) ∧ AtP (newB w w') w' 13 (.agg #[.int .i64 (kindOf (tJ s)), .int .i64 (nOf (tJ s)), .string (sOf (tJ s)), .slice A (nL (tJ s)) B, .slice C (nK (tJ s)) D]) (tJ s)))
set_option maxHeartbeats 4000000 in
set_option maxRecDepth 100000 in
theorem readDoc_bad {Tb : World→Prop} (hD : DecSaid Tb) (hN : IntSaid Tb) (hL : Lies Tb) (s : ByteArray) (w : World) (hs : s.size≤140737488355328) (hT : Tb w) (h0 : eJ s≠0) :
  Calls Tryz.prog 37 #[.string s] w (DocPost s w):=by
 have HB0 : Hid (Below w.heap.size w (w.alloc (.cells #[.int .i64 0,.int .i64 0,.string ⟨#[]⟩,.slice none 0 0,.slice none 0 0] 36))):=(Below.refl _ _).alloc (Nat.le_refl _) _
 have HP:=hid (parse_u hD hN hL s (w.alloc (.cells #[.int .i64 0,.int .i64 0,.string ⟨#[]⟩,.slice none 0 0,.slice none 0 0] 36)) hs (hL w hT _ _ hT HB0.out))
 have H0:=hid h0
 have ez : (eJ s == 0)=false:=by simpa using h0
 clear hT hD hN hL h0
 go_enter Tryz.func37,Tryz.ntmps37
 go_wp2_with fail
 refine HP.out.mono ?_
 rintro e w1 ⟨b1,es,A,B,C,D,rfl,hF,hS,h1,h2⟩
 have HBa : Hid (Below w1.heap.size w1 (w1.alloc (.cells #[.int .i64 (kindOf (tJ s)),.int .i64 (nOf (tJ s)),.string (sOf (tJ s)),.slice A (nL (tJ s)) B,.slice C (nK (tJ s)) D] 36))):=(Below.refl _ _).alloc (Nat.le_refl _) _
 have HB:=hid ((HB0.out.trans (b1.mono HB0.out.size)).trans (HBa.out.mono (HB0.out.trans (b1.mono HB0.out.size)).size))
 have HX:=hid (((box_new w (.int .i64 0) (.int .i64 0) (.string ⟨#[]⟩) (.slice none 0 0) (.slice none 0 0)).stay b1).stay HBa.out)
 have r0:=HX.out.q0
 have r1:=HX.out.q1
 have r2:=HX.out.q2
 have r3:=HX.out.q3
 have r4:=HX.out.q4
 have z0:=HX.out.f0
 have z1:=HX.out.f1
 have z2:=HX.out.f2
 have z3:=HX.out.f3
 have z4:=HX.out.f4
 clear b1 hF hS h1 h2 HP
 go_wp2_with fail
 refine bodyPost_ret (v:=.tuple #[zeroV,.int .i64 (eJ s)]) (by simp [results,Tryz.results37,go_sem,zeroV, *]) rfl ?_
 exact ⟨HB.out.trans ((put5_but (w1.alloc (.cells #[.int .i64 (kindOf (tJ s)),.int .i64 (nOf (tJ s)),.string (sOf (tJ s)),.slice A (nL (tJ s)) B,.slice C (nK (tJ s)) D] 36)) w.heap.size _ _ _ _ _).below HB.out.size),.inl ⟨H0.out,rfl⟩⟩
set_option maxHeartbeats 4000000 in
set_option maxRecDepth 100000 in
theorem readDoc_ok {Tb : World→Prop} (hV : ValidSaid Tb) (hD : DecSaid Tb) (hN : IntSaid Tb) (hL : Lies Tb) (s : ByteArray) (w : World) (hs : s.size≤140737488355328) (hT : Tb w) (h0 : eJ s=0) :
  Calls Tryz.prog 37 #[.string s] w (DocPost s w):=by
 have HB0 : Hid (Below w.heap.size w (w.alloc (.cells #[.int .i64 0,.int .i64 0,.string ⟨#[]⟩,.slice none 0 0,.slice none 0 0] 36))):=(Below.refl _ _).alloc (Nat.le_refl _) _
 have HP:=hid (parseP_ok hD hN hL s (w.alloc (.cells #[.int .i64 0,.int .i64 0,.string ⟨#[]⟩,.slice none 0 0,.slice none 0 0] 36)) hs (hL w hT _ _ hT HB0.out) h0)
 have H0:=hid h0
 have HK:=hid (parsed_okA h0)
 have HT : Hid (∀ w' : World,Below w.heap.size w w'→Tb w'):=fun w' hb=>hL w hT w w' hT hb
 have HTB : Hid (∀ (v : Value) (w : World),At w 13 v (tJ s)→Tb w→Calls Tryz.prog 59 #[v] w fun e w'=>e=.returned (.bool (tooBig (tJ s)))∧Below w.heap.size w w'):=fun v w ha ht=>tooBig_any hV hL 13 v (tJ s) w ha ht
 have Hsz : Hid ((w.alloc (.cells #[.int .i64 0,.int .i64 0,.string ⟨#[]⟩,.slice none 0 0,.slice none 0 0] 36)).heap.size=w.heap.size+1):=by show _=_; simp
 clear hT hD hN hL h0 hV
 go_enter Tryz.func37,Tryz.ntmps37
 go_wp2_with fail
 refine HP.out.mono ?_
 rintro e w1 ⟨b1,A,B,C,D,rfl,ha⟩
 have HBa : Hid (Below w1.heap.size w1 (w1.alloc (.cells #[.int .i64 (kindOf (tJ s)),.int .i64 (nOf (tJ s)),.string (sOf (tJ s)),.slice A (nL (tJ s)) B,.slice C (nK (tJ s)) D] 36))):=(Below.refl _ _).alloc (Nat.le_refl _) _
 have HB:=hid ((HB0.out.trans (b1.mono HB0.out.size)).trans (HBa.out.mono (HB0.out.trans (b1.mono HB0.out.size)).size))
 have HX:=hid (((box_new w (.int .i64 0) (.int .i64 0) (.string ⟨#[]⟩) (.slice none 0 0) (.slice none 0 0)).stay b1).stay HBa.out)
 have HY:=hid (box_new w1 (.int .i64 (kindOf (tJ s))) (.int .i64 (nOf (tJ s))) (.string (sOf (tJ s))) (.slice A (nL (tJ s)) B) (.slice C (nK (tJ s)) D))
 have HAt:=hid (ha.move (q:=fun b=>w.heap.size+1≤b∧b<w1.heap.size) (w':=w1.alloc (.cells #[.int .i64 (kindOf (tJ s)),.int .i64 (nOf (tJ s)),.string (sOf (tJ s)),.slice A (nL (tJ s)) B,.slice C (nK (tJ s)) D] 36)) HBa.out.size (fun b hb hp=>⟨⟨by have:=hp.1; have:=Hsz.out; omega,hb⟩,HBa.out.block b hb⟩))
 have HI:=hid (isDoc_any 13 _ (tJ s) _ HAt.out.at HK.out)
 clear b1 ha HP
 cases hd : isDoc (tJ s) with
 | false =>
  rw [hd] at HI
  have Hd:=hid hd
  clear hd
  go_wp2_with fail
  refine HI.out.mono ?_
  rintro e w2 ⟨rfl,b2⟩
  have HB2:=hid (HB.out.trans (b2.mono HB.out.size))
  have HX2:=hid (HX.out.stay b2)
  have r0:=HX2.out.q0
  have r1:=HX2.out.q1
  have r2:=HX2.out.q2
  have r3:=HX2.out.q3
  have r4:=HX2.out.q4
  have z0:=HX2.out.f0
  have z1:=HX2.out.f1
  have z2:=HX2.out.f2
  have z3:=HX2.out.f3
  have z4:=HX2.out.f4
  clear b2 HI
  go_wp2_with fail
  refine bodyPost_ret (v:=.tuple #[zeroV,.int .i64 7]) (by simp [results,Tryz.results37,go_sem,zeroV, *]) rfl ?_
  exact ⟨HB2.out.trans ((put5_but w2 w.heap.size _ _ _ _ _).below HB2.out.size),.inr (.inl ⟨H0.out,Hd.out,rfl⟩)⟩
 | true =>
  rw [hd] at HI
  have Hd:=hid hd
  clear hd
  go_wp2_with fail
  refine HI.out.mono ?_
  rintro e w2 ⟨rfl,b2⟩
  have HB2:=hid (HB.out.trans (b2.mono HB.out.size))
  have HX2:=hid (HX.out.stay b2)
  have HY2:=hid (HY.out.stay b2)
  have HAt2:=hid (HAt.out.move (q:=fun b=>w.heap.size+1≤b∧b<w1.heap.size) b2.size (fun b hb hp=>⟨hp,b2.block b hb⟩))
  have HG:=hid (HTB.out _ w2 HAt2.out.at (HT.out _ HB2.out))
  have y0:=HY2.out.q0
  have y1:=HY2.out.q1
  have y2:=HY2.out.q2
  have y3:=HY2.out.q3
  have y4:=HY2.out.q4
  clear b2 HI
  cases hb : tooBig (tJ s) with
  | true =>
   rw [hb] at HG
   have Hb:=hid hb
   clear hb
   go_wp2_with fail
   refine HG.out.mono ?_
   rintro e w3 ⟨rfl,b3⟩
   have HB3:=hid (HB2.out.trans (b3.mono HB2.out.size))
   have HX3:=hid (HX2.out.stay b3)
   have r0:=HX3.out.q0
   have r1:=HX3.out.q1
   have r2:=HX3.out.q2
   have r3:=HX3.out.q3
   have r4:=HX3.out.q4
   have z0:=HX3.out.f0
   have z1:=HX3.out.f1
   have z2:=HX3.out.f2
   have z3:=HX3.out.f3
   have z4:=HX3.out.f4
   clear b3 HG y0 y1 y2 y3 y4
   go_wp2_with fail
   refine bodyPost_ret (v:=.tuple #[zeroV,.int .i64 15]) (by simp [results,Tryz.results37,go_sem,zeroV, *]) rfl ?_
   exact ⟨HB3.out.trans ((put5_but w3 w.heap.size _ _ _ _ _).below HB3.out.size),.inr (.inr (.inl ⟨H0.out,Hd.out,Hb.out,rfl⟩))⟩
  | false =>
   rw [hb] at HG
   have Hb:=hid hb
   clear hb
   go_wp2_with fail
   refine HG.out.mono ?_
   rintro e w3 ⟨rfl,b3⟩
   have HB3:=hid (HB2.out.trans (b3.mono HB2.out.size))
   have HX3:=hid (HX2.out.stay b3)
   have HY3:=hid (HY2.out.stay b3)
   have HAt3:=hid (HAt2.out.move (q:=fun b=>w.heap.size+1≤b∧b<w1.heap.size) b3.size (fun b hb hp=>⟨hp,b3.block b hb⟩))
   have HO:=hid (HX3.out.put5 (.int .i64 (kindOf (tJ s))) (.int .i64 (nOf (tJ s))) (.string (sOf (tJ s))) (.slice A (nL (tJ s)) B) (.slice C (nK (tJ s)) D))
   have HW1 : Hid (w1.heap.size≤w3.heap.size):=by show _≤_; have:=HY3.out.lt; omega
   have v0:=HY3.out.q0
   have v1:=HY3.out.q1
   have v2:=HY3.out.q2
   have v3:=HY3.out.q3
   have v4:=HY3.out.q4
   have r0:=HX3.out.q0
   have r1:=HX3.out.q1
   have r2:=HX3.out.q2
   have r3:=HX3.out.q3
   have r4:=HX3.out.q4
   have z0:=HX3.out.f0
   have z1:=HX3.out.f1
   have z2:=HX3.out.f2
   have z3:=HX3.out.f3
   have z4:=HX3.out.f4
   unfold put5 at HO
   clear b3 HG y0 y1 y2 y3 y4
   go_wp2_with fail
   clear r0 r1 r2 r3 r4 z0 z1 z2 z3 z4
   have HO1:=hid HO.out
   have r0:=HO1.out.q0
   have r1:=HO1.out.q1
   have r2:=HO1.out.q2
   have r3:=HO1.out.q3
   have r4:=HO1.out.q4
   refine bodyPost_ret (v:=.tuple #[.agg #[.int .i64 (kindOf (tJ s)),.int .i64 (nOf (tJ s)),.string (sOf (tJ s)),.slice A (nL (tJ s)) B,.slice C (nK (tJ s)) D],.int .i64 0]) (by simp [results,Tryz.results37,go_sem, *]) rfl ?_
   refine ⟨HB3.out.trans ((put5_but w3 w.heap.size _ _ _ _ _).below HB3.out.size),.inr (.inr (.inr ⟨H0.out,Hd.out,Hb.out,A,B,C,D,rfl,?_⟩))⟩
   exact HAt3.out.move (w':=put5 w3 w.heap.size _ _ _ _ _) (by rw [put5_size]; exact Nat.le_refl _) (fun b hb hp=>⟨⟨by omega,by simpa [World.setCell] using hb⟩,put5_other w3 (by omega) _ _ _ _ _⟩)
theorem readDoc_any {Tb : World→Prop} (hV : ValidSaid Tb) (hD : DecSaid Tb) (hN : IntSaid Tb) (hL : Lies Tb) (s : ByteArray) (w : World) (hs : s.size≤140737488355328) (hT : Tb w) :
  Calls Tryz.prog 37 #[.string s] w (DocPost s w):=by
 by_cases h0 : eJ s=0
 ·exact readDoc_ok hV hD hN hL s w hs hT h0
 ·exact readDoc_bad hD hN hL s w hs hT h0
end Go.Proofs.YtknakfpciccoaabGreatDoor
/- hasID. -/
namespace Go.Proofs.YtknakfpciccoaabGreatDoor
open Go.RowKit
set_option maxHeartbeats 4000000 in
set_option maxRecDepth 100000 in
theorem hasID1_any (f gx : Nat) (v : Value) (t : T) (k p : Nat) (x : T) (A C : Option Addr) (B D : Nat) (w : World) (h : At w f v t) (hk : idP t=some k) (hlt : k<nL t) (hf : f≤16) (ht : okA t) (hx : At w gx (.agg #[.int .i64 (kindOf x),.int .i64 (nOf x),.string (sOf x),.slice A (nL x) B,.slice C (nK x) D]) x) (hox : okA x)
  (hb : BoxAt p (.int .i64 (kindOf x)) (.int .i64 (nOf x)) (.string (sOf x)) (.slice A (nL x) B) (.slice C (nK x) D) w) :
  Calls Tryz.prog 89 #[v,.pointer (some ⟨p,0,none⟩)] w fun e w'=>e=.returned (.bool (cmpT 16 (elt t k) x == 0))∧Below w.heap.size w w':=by
 have HA:=hid h
 obtain ⟨g,La,Ka,Lc,Kc,rfl,rfl,hff,hl,hkk⟩:=h.open
 have HB1 : Hid (Below w.heap.size w (w.alloc (.cells #[.int .i64 (kindOf t),.int .i64 (nOf t),.string (sOf t),.slice La (nL t) Lc,.slice Ka (nK t) Kc] 36))):=(Below.refl _ _).alloc (Nat.le_refl _) _
 have HD:=hid HB1.out.drew
 have HX:=hid (hb.stay HD.out)
 have HY:=hid ((box_new w (.int .i64 (kindOf t)) (.int .i64 (nOf t)) (.string (sOf t)) (.slice La (nL t) Lc) (.slice Ka (nK t) Kc)).stay (below_drew _))
 have HI:=hid (idOf_any _ _ t k _ (HA.out.keep HD.out) hk hlt)
 have HE : Hid (∀ (w' : World) (g' : Nat) (u : Value),Below w.heap.size w w'→g'+1=g+1→At w' g' u (elt t k)→Calls Tryz.prog 90 #[u,.agg #[.int .i64 (kindOf x),.int .i64 (nOf x),.string (sOf x),.slice A (nL x) B,.slice C (nK x) D]] w' fun e w2=>e=.returned (.bool (cmpT 16 (elt t k) x == 0))∧Below w'.heap.size w' w2):=fun w' g' u hb' hg ha=>equal16 ha (hx.keep hb') (by omega) (ht.elt hlt) hox
 generalize cmpT 16 (elt t k) x=cc at HE ⊢
 have HSo : Hid (∀ wx,BoxAt p (.int .i64 (kindOf x)) (.int .i64 (nOf x)) (.string (sOf x)) (.slice A (nL x) B) (.slice C (nK x) D) wx→BoxAt w.heap.size (.int .i64 (kindOf t)) (.int .i64 (nOf t)) (.string (sOf t)) (.slice La (nL t) Lc) (.slice Ka (nK t) Kc) wx→(fun wx=>wx.cell? ⟨p,0,none⟩=some (.int .i64 (kindOf x))∧wx.cell? ⟨p,1,none⟩=some (.int .i64 (nOf x))∧wx.cell? ⟨p,2,none⟩=some (.string (sOf x))∧wx.cell? ⟨p,3,none⟩=some (.slice A (nL x) B)∧wx.cell? ⟨p,4,none⟩=some (.slice C (nK x) D)∧wx.cell? ⟨w.heap.size,0,none⟩=some (.int .i64 (kindOf t))∧wx.cell? ⟨w.heap.size,1,none⟩=some (.int .i64 (nOf t))∧wx.cell? ⟨w.heap.size,2,none⟩=some (.string (sOf t))∧wx.cell? ⟨w.heap.size,3,none⟩=some (.slice La (nL t) Lc)∧wx.cell? ⟨w.heap.size,4,none⟩=some (.slice Ka (nK t) Kc)) wx):=fun wx a b=>⟨a.q0,a.q1,a.q2,a.q3,a.q4,b.q0,b.q1,b.q2,b.q3,b.q4⟩
 have HSd:=hid (HSo.out _ HX.out HY.out)
 clear h hff hl hkk hk hlt hf ht hx hox hb HA
 go_enter Tryz.func89,Tryz.ntmps89
 go_wp2_with fail
 go_region_held3 (fun wx=>wx.cell? ⟨p,0,none⟩=some (.int .i64 (kindOf x))∧wx.cell? ⟨p,1,none⟩=some (.int .i64 (nOf x))∧wx.cell? ⟨p,2,none⟩=some (.string (sOf x))∧wx.cell? ⟨p,3,none⟩=some (.slice A (nL x) B)∧wx.cell? ⟨p,4,none⟩=some (.slice C (nK x) D)∧wx.cell? ⟨w.heap.size,0,none⟩=some (.int .i64 (kindOf t))∧wx.cell? ⟨w.heap.size,1,none⟩=some (.int .i64 (nOf t))∧wx.cell? ⟨w.heap.size,2,none⟩=some (.string (sOf t))∧wx.cell? ⟨w.heap.size,3,none⟩=some (.slice La (nL t) Lc)∧wx.cell? ⟨w.heap.size,4,none⟩=some (.slice Ka (nK t) Kc)) (first | exact hS4 | exact hS3 | exact HSd.out) (first | (go_at_call 61; refine HI.out.mono ?_; rintro e w3 ⟨b3,g',A2,B2,C2,D2,hg3,rfl,ha3⟩; have hS3:=HSo.out _ (HX.out.stay b3) (HY.out.stay b3)) | (go_at_call 90; refine (HE.out _ _ _ (HD.out.trans (b3.mono HD.out.size)) hg3.symm ha3).mono ?_; rintro e w4 ⟨rfl,b4⟩; have hS4:=HSo.out _ ((HX.out.stay b3).stay b4) ((HY.out.stay b3).stay b4)))
 have HBf:=hid ((HD.out.trans (b3.mono HD.out.size)).trans (b4.mono (HD.out.trans (b3.mono HD.out.size)).size))
 clear b3 b4 hS3 hS4 ha3 hg3
 go_wp2_with fail
 go_ret
 exact ⟨rfl,HBf.out⟩
def idT (t : T) : T:=elt t ((idP t).getD 0)
def sameId (x t : T) : Bool:=cmpT 16 (idT t) x == 0
def Doc (t : T) : Prop:=okA t∧∃ k,idP t=some k∧k<nL t
theorem isDoc_doc {t : T} (h : okA t) (hd : isDoc t=true) : Doc t:=by
 unfold isDoc at hd
 simp only [Bool.and_eq_true,beq_iff_eq] at hd
 cases hi : idP t with
 | none=>rw [hi] at hd; simp at hd
 | some k=>exact ⟨h,k,hi,by have h1:=h.names hd.1; have h2 : k<(kOf t).length:=idxL_lt hi; unfold nK at h1; omega⟩
set_option maxHeartbeats 4000000 in
set_option maxRecDepth 100000 in
theorem hasID_any (c f gx : Nat) (d x : T) (La : Option Addr) (Lc : Nat) (vx : Value) (w : World) (hc : w.cell? ⟨c,0,none⟩=some (.slice La (nL d) Lc)) (hcl : c<w.heap.size) (hl : ElemsAt w f La d) (hn : nL d≤1000000) (hf : f≤16) (hd : ∀ i,i<nL d→Doc (elt d i)) (hx : At w gx vx x) (hox : okA x) :
  Calls Tryz.prog 60 #[.pointer (some ⟨c,0,none⟩),vx] w fun e w'=>e=.returned (.bool (anyL (sameId x) d (nL d)))∧Below w.heap.size w w':=by
 have hmf : ∀ (fn : Fn) (first cap : Array Value) (w : World),(Instr.makeFunc fn first cap).run Tryz.prog w=.ok (.func fn first cap) w:=fun _ _ _ _=>rfl
 have HX0:=hid hx
 obtain ⟨g,A,C,B,D,rfl,rfl,hff,hl',hkk⟩:=hx.open
 have HB1 : Hid (Below w.heap.size w (w.alloc (.cells #[.int .i64 (kindOf x),.int .i64 (nOf x),.string (sOf x),.slice A (nL x) B,.slice C (nK x) D] 36))):=(Below.refl _ _).alloc (Nat.le_refl _) _
 have HBx:=hid (box_new w (.int .i64 (kindOf x)) (.int .i64 (nOf x)) (.string (sOf x)) (.slice A (nL x) B) (.slice C (nK x) D))
 have q0 : (w.alloc (.cells #[.int .i64 (kindOf x),.int .i64 (nOf x),.string (sOf x),.slice A (nL x) B,.slice C (nK x) D] 36)).cell? ⟨c,0,none⟩=some (.slice La (nL d) Lc):=(HB1.out.cell (p:=⟨c,0,none⟩) hcl).trans hc
 have HC:=hid (containsFuncC_any (sameId x) 89 (fun _ _=>rfl) (.pointer (some ⟨w.heap.size,0,none⟩)) f La Lc d (w.alloc (.cells #[.int .i64 (kindOf x),.int .i64 (nOf x),.string (sOf x),.slice A (nL x) B,.slice C (nK x) D] 36)) (hl.keep HB1.out) (by omega) (fun k hk wr v hb ha=>by
  obtain ⟨ho,i,hi,hil⟩:=hd k hk
  have e : sameId x (elt d k)=(cmpT 16 (elt (elt d k) i) x == 0):=by unfold sameId idT; rw [hi]; rfl
  rw [e]
  exact hasID1_any f _ v (elt d k) i w.heap.size x A C B D wr ha hi hil hf ho ((HX0.out.keep HB1.out).keep hb) hox (HBx.out.stay hb)))
 clear hx hff hl' hkk hl hd hox hc HX0 HBx
 go_enter Tryz.func60,Tryz.ntmps60
 go_wp2_with fail
 refine HC.out.mono ?_
 rintro e w2 ⟨rfl,b2⟩
 have HB2:=hid (HB1.out.trans (b2.mono HB1.out.size))
 clear b2 HC
 go_wp2_with fail
 go_ret
 exact ⟨rfl,HB2.out⟩
end Go.Proofs.YtknakfpciccoaabGreatDoor
