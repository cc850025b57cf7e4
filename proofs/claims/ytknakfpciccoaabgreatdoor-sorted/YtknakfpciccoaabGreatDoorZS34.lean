import Derived.Test.YtknakfpciccoaabGreatDoorZS33
/- Sorted: the walk. -/
namespace Go.Proofs.YtknakfpciccoaabGreatDoor
open Go.RowKit
theorem TyAt.two {w:World} {A:Option Addr} {n c:Nat} {l:List ByteArray} (h:TyAt w (.slice A n c) l) {i:Nat} (hi:i+1<l.length) {s r:ByteArray} (hs:l[i]=s) (hr:l[i+1]=r):∃ b o,A=some ⟨b,o,none⟩∧∀ w':World,Below w.heap.size w w'→w'.cell? ⟨b,o+i,none⟩=some (.string s)∧w'.cell? ⟨b,o+(i+1),none⟩=some (.string r):=by
 obtain ⟨A',c',hv,hn,h⟩:=h
 simp only [Value.slice.injEq] at hv
 obtain ⟨rfl,_,_⟩:=hv
 obtain ⟨b,o,rfl,hb,h1⟩:=h i (by omega)
 obtain ⟨b',o',e,_,h2⟩:=h (i+1) hi
 simp only [Option.some.injEq,Addr.mk.injEq,and_true] at e
 obtain ⟨rfl,rfl⟩:=e
 rw [hs] at h1
 rw [hr] at h2
 exact ⟨b,o,rfl,fun w' hw=>⟨(hw.cell (p:=⟨b,_,none⟩) hb).trans h1,(hw.cell (p:=⟨b,_,none⟩) hb).trans h2⟩⟩
set_option maxHeartbeats 8000000 in
set_option maxRecDepth 100000 in
theorem Sorted_any {Tb:World→Prop} (hA:StoreSaid Tb) (v:Value) (n:Nat) (a b c:Int) (w:World) (hv:RawAt w v n) (a0:-9223372036854775808≤a) (a1:a≤9223372036854775807) (b0:-9223372036854775808≤b) (b1:b≤9223372036854775807) (c0:-9223372036854775808≤c) (c1:c≤9223372036854775807) (hT:Tb w) :
  Calls Tryz.prog 3 #[v,.int .i64 a,.int .i64 b,.int .i64 c] w fun e w'=>e=.returned (.bool true)∧Below w.heap.size w w':=by
 have HFi:=hid (filled_any hA v n w hv hT)
 have HT:Hid (∀ w':World,Below w.heap.size w w'→Tb w'):=fun w' hb=>hA.lies w hT w w' hT hb
 have HPa:=hid (fun w=>path_any a w a0 a1)
 have hk:=pthN_lt a
 generalize pthN a=k at HPa hk
 have HQu:=hid (fun w=>quoted_any (pth k) w (by have:=pth_10 hk;omega))
 have HP8:=hid (fun w=>pick_any b 8 w b0 b1 (by omega) (by omega))
 have HP30:=hid (fun w=>pick_any c 30 w c0 c1 (by omega) (by omega))
 obtain ⟨sN,hsN⟩:∃ sN:Nat,absZ b % 8=(sN:Int):=⟨(absZ b % 8).toNat,by omega⟩
 obtain ⟨lN,hlN⟩:∃ lN:Nat,absZ c % 30=(lN:Int):=⟨(absZ c % 30).toNat,by omega⟩
 have hs30:sN<8:=by omega
 have hl30:lN<30:=by omega
 rw [hsN] at HP8
 rw [hlN] at HP30
 have HIt:Hid (∀ (m:Int) (w':World),0≤m→m<30→Below w.heap.size w w'→Calls Tryz.prog 12 #[.int .i64 m] w' fun e w2=>e=.returned (.string (baL (Lib.itoa m)))∧Below w'.heap.size w' w2):=fun m w' h1 h2 h3=>hA.itoa m w' (by omega) (by omega) (HT.out _ h3)
 have hzp:=pth_10 hk
 have Hk:=hid hk
 have HA:=hid hA
 have hzs:(baL (Lib.itoa (sN:Int))).size≤2:=itoa30 (by omega) (by omega)
 have hzl:(baL (Lib.itoa (lN:Int))).size≤2:=itoa30 (by omega) (by omega)
 have hzq:(quoP k).size=(pth k).size+2:=by
  unfold quoP
  rw [ByteArray.size_append,ByteArray.size_append]
  show 1+(pth k).size+1=_
  omega
 obtain ⟨qp,hqp⟩:∃ qp,quoP k=qp:=⟨_,rfl⟩
 rw [hqp] at hzq
 have HQu2:Hid (∀ w:World,Calls Tryz.prog 8 #[.string (pth k)] w fun e w'=>e=.returned (.string qp)∧w'=w):=by rw [← hqp];exact HQu.out
 obtain ⟨px,hpx⟩:∃ px,pth k=px:=⟨_,rfl⟩
 obtain ⟨is,his⟩:∃ x,baL (Lib.itoa (sN:Int))=x:=⟨_,rfl⟩
 obtain ⟨il,hil⟩:∃ x,baL (Lib.itoa (lN:Int))=x:=⟨_,rfl⟩
 rw [his] at hzs
 rw [hil] at hzl
 rw [hpx] at HPa hzp HQu2 hzq
 obtain ⟨o1,oe1,oz1,or1⟩:=cat_run soA qp 11 qp.size (by decide) rfl (by omega)
 obtain ⟨o2,oe2,oz2,or2⟩:=cat_run o1 soB o1.size 5 rfl (by decide) (by omega)
 obtain ⟨o3,oe3,oz3,or3⟩:=cat_run o1 soC o1.size 14 rfl (by decide) (by omega)
 obtain ⟨o4,oe4,oz4,or4⟩:=cat_run o3 is o3.size is.size rfl rfl (by omega)
 obtain ⟨o5,oe5,oz5,or5⟩:=cat_run o4 soD o4.size 12 rfl (by decide) (by omega)
 obtain ⟨o6,oe6,oz6,or6⟩:=cat_run o5 il o5.size il.size rfl rfl (by omega)
 obtain ⟨o7,oe7,oz7,or7⟩:=cat_run o6 soE o6.size 2 rfl (by decide) (by omega)
 obtain ⟨o8,oe8,oz8,or8⟩:=cat_run o1 soF o1.size 24 rfl (by decide) (by omega)
 obtain ⟨o9,oe9,oz9,or9⟩:=cat_run o8 px o8.size px.size rfl rfl (by omega)
 obtain ⟨o10,oe10,oz10,or10⟩:=cat_run o9 soG o9.size 4 rfl (by decide) (by omega)
 have HS1:Hid (o2=so1 k):=by show _=_;rw [oe2,oe1,← hqp];rfl
 have HS2:Hid (o7=so2 k sN lN):=by show _=_;rw [oe7,oe6,oe5,oe4,oe3,oe1,← hqp,← his,← hil];rfl
 have HS3:Hid (o10=so3 k):=by show _=_;rw [oe10,oe9,oe8,oe1,← hqp,← hpx];rfl
 unfold soA at or1
 unfold soB at or2
 unfold soC at or3
 unfold soD at or5
 unfold soE at or7
 unfold soF at or8
 unfold soG at or10
 have HIt1:Hid (∀ w':World,Below w.heap.size w w'→Calls Tryz.prog 12 #[.int .i64 (sN:Int)] w' fun e w2=>e=.returned (.string is)∧Below w'.heap.size w' w2):=fun w' h=>by have:=HIt.out (sN:Int) w' (by omega) (by omega) h;rw [his] at this;exact this
 have HIt2:Hid (∀ w':World,Below w.heap.size w w'→Calls Tryz.prog 12 #[.int .i64 (lN:Int)] w' fun e w2=>e=.returned (.string il)∧Below w'.heap.size w' w2):=fun w' h=>by have:=HIt.out (lN:Int) w' (by omega) (by omega) h;rw [hil] at this;exact this
 clear hv hT a0 a1 b0 b1 c0 c1 hA hk oe1 oe2 oe3 oe4 oe5 oe6 oe7 oe8 oe9 oe10 oz1 oz2 oz3 oz4 oz5 oz6 oz7 oz8 oz9 oz10 hpx hzp hzq hqp his hil hzs hzl hsN hlN HQu HIt
 go_enter Tryz.func3,Tryz.ntmps3
 go_wp2_with fail
 refine HFi.out.mono ?_
 rintro e w1 ⟨p,l,rfl,b1,hdo,hl,hst⟩
 have HB1:=hid b1
 obtain ⟨sl,hsl,hdc,hpw,hp1,hp3,hp2⟩:=sort_all Hk.out hdo hl
 have HRun:Hid (∀ (s:ByteArray) (t:T) (gs:List StgF) (R:List T) (w2:World),Below w1.heap.size w1 w2→s.size≤1000→tJ s=t∧eJ s=0→PpSaid Tb t gs→pipE gs l 0=.inr R→Calls Tryz.prog 10 #[.pointer (some ⟨p,0,none⟩),.string nX,.string s] w2 fun e w'=>Below w2.heap.size w2 w'∧∃ A c,e=.returned (.tuple #[.slice A R.length c,.int .i64 0,.int .i64 0,.int .i64 0])∧R.length≤c∧((A=none∧R.length=0∧c=0)∨∃ g,A=some ⟨g,0,none⟩)∧TyAt w' (.slice A R.length c) (R.map prT)):=by
  intro s t gs R w2 hb hs ⟨h1,h2⟩ hp hpe
  subst h1
  refine (run_st HA.out (hst.keep hb) nX s l gs (by decide) (by omega) (two_x _ _) (by omega) h2 hp (HT.out _ (b1.trans (hb.mono b1.size)))).mono ?_
  rintro e w' ⟨h3,⟨i,kk,x,sv,h4,_⟩ | ⟨r,sv,h4,rfl,h5,h6⟩⟩
  ·rw [hpe] at h4;cases h4
  ·rw [hpe] at h4
   simp only [Sum.inr.injEq] at h4
   subst h4
   obtain ⟨A,c,rfl⟩:=row_slice h5
   refine ⟨h3,A,c,rfl,(row_cap h5).1,?_,TyAt.of_row h5 h6⟩
   rcases h5.2 with ⟨h',h0⟩ | ⟨g',cap',cur,h',_⟩
   ·simp only [Value.slice.injEq] at h'
    exact .inl ⟨h'.1,h0,h'.2.2⟩
   ·simp only [Value.slice.injEq] at h'
    exact .inr ⟨g',h'.1⟩
 obtain ⟨ln,hln⟩:∃ ln,l.length=ln:=⟨_,rfl⟩
 rw [hln] at hsl hl hp2
 obtain ⟨fr,hfr⟩:∃ fr,fr=min sN ln:=⟨_,rfl⟩
 obtain ⟨tz,htz⟩:∃ tz,tz=min (fr+lN) ln:=⟨_,rfl⟩
 obtain ⟨pn,hpn⟩:∃ pn,tz - fr=pn:=⟨_,rfl⟩
 have hR1:Hid (∀ w2:World,Below w1.heap.size w1 w2→Calls Tryz.prog 10 #[.pointer (some ⟨p,0,none⟩),.string nX,.string o2] w2 fun e w'=>Below w2.heap.size w2 w'∧∃ A c,e=.returned (.tuple #[.slice A ln c,.int .i64 0,.int .i64 0,.int .i64 0])∧ln≤c∧((A=none∧ln=0∧c=0)∨∃ g,A=some ⟨g,0,none⟩)∧TyAt w' (.slice A ln c) (sl.map prT)):=fun w2 hb=>by
  have h:=so1_at Hk.out
  have:=HRun.out (so1 k) (st1T k) _ sl w2 hb (by omega) h.1 (so1_read HA.out Hk.out) hp1
  rw [hsl] at this
  rw [HS1.out]
  exact this
 have hR2:Hid (∀ w2:World,Below w1.heap.size w1 w2→Calls Tryz.prog 10 #[.pointer (some ⟨p,0,none⟩),.string nX,.string o7] w2 fun e w'=>Below w2.heap.size w2 w'∧∃ A c,e=.returned (.tuple #[.slice A pn c,.int .i64 0,.int .i64 0,.int .i64 0])∧TyAt w' (.slice A pn c) (((sl.map prT).drop fr).take pn)):=fun w2 hb=>by
  have h:=so2_at Hk.out (a:=sN) (b:=lN) (by omega) (by omega) (by omega) (by omega)
  have h2:=HRun.out (so2 k sN lN) (st2T k sN lN) _ ((sl.drop fr).take (tz - fr)) w2 hb (by omega) h.1 (so2_read HA.out Hk.out (by omega) (by omega)) (hp2 sN lN fr tz hfr htz)
  have hle:((sl.drop fr).take (tz - fr)).length=tz - fr:=by rw [List.length_take,List.length_drop];omega
  rw [hle,List.map_take,List.map_drop,hpn] at h2
  rw [HS2.out]
  refine h2.mono ?_
  rintro e w' ⟨q1,A,c,q2,_,_,q5⟩
  exact ⟨q1,A,c,q2,q5⟩
 have hR3:Hid (∀ w2:World,Below w1.heap.size w1 w2→Calls Tryz.prog 10 #[.pointer (some ⟨p,0,none⟩),.string nX,.string o10] w2 fun e w'=>Below w2.heap.size w2 w'∧∃ A c,e=.returned (.tuple #[.slice A ln c,.int .i64 0,.int .i64 0,.int .i64 0])∧TyAt w' (.slice A ln c) (sl.map fun d=>prT (kO (orNull (pthP k) d)))):=fun w2 hb=>by
  have h:=so3_at Hk.out
  have h2:=HRun.out (so3 k) (st3T k) _ _ w2 hb (by omega) h.1 (so3_read HA.out Hk.out) hp3
  rw [List.length_map,hsl,List.map_map] at h2
  rw [HS3.out]
  refine h2.mono ?_
  rintro e w' ⟨q1,A,c,q2,_,_,q5⟩
  exact ⟨q1,A,c,q2,q5⟩
 have Hdc:=hid hdc
 have Hpw:=hid hpw
 have Hsl:=hid hsl
 have Hft:Hid (fr≤tz∧tz≤ln∧fr≤ln∧tz - fr=pn):=by refine ⟨?_,?_,?_,?_⟩<;>omega
 have hmin1:min (sN:Int) (ln:Int)=(fr:Int):=by omega
 have hwf:IntKind.i64.wrap ((fr:Int)+(lN:Int))=((fr+lN:Nat):Int):=by rw [IntKind.wrap_i64];omega
 obtain ⟨fl,hfl⟩:∃ fl,fr+lN=fl:=⟨_,rfl⟩
 have hmin2:min (fl:Int) (ln:Int)=(tz:Int):=by omega
 rw [hfl] at hwf
 have Hln:=hid hl
 rw [hln]
 clear hst hdo hl b1 HFi hln hsl hdc hpw hp1 hp2 hp3 HRun hfr htz hpn hfl HS1 HS2 HS3
 go_wp2_with fail
 refine (HPa.out _).mono ?_
 rintro e w2 ⟨rfl,b2⟩
 have HB2:=hid b2
 clear b2
 go_wp2_with fail
 refine (HQu2.out _).mono ?_
 rintro e w2 ⟨rfl,rfl⟩
 have HRn:=hid (hR1.out w2 HB2.out)
 clear hR1
 go_wp2_with fail
 refine HRn.out.mono ?_
 rintro e w3 ⟨b3,LA,lc,rfl,hlc,hcase,hty⟩
 have HB3:=hid (HB2.out.trans (b3.mono HB2.out.size))
 have HTy:=hid hty
 have Hca:=hid hcase
 clear b3 hty hcase HRn HB2
 go_wp2_with fail
 refine (HP8.out _).mono ?_
 rintro e w3 ⟨rfl,rfl⟩
 go_wp2_with fail
 refine (HP30.out _).mono ?_
 rintro e w3 ⟨rfl,rfl⟩
 have HC:=hid (HIt1.out w3 (HB1.out.trans (HB3.out.mono HB1.out.size)))
 go_wp2_with fail
 refine HC.out.mono ?_
 rintro e w4 ⟨rfl,b4⟩
 have HB4:=hid (HB3.out.trans (b4.mono HB3.out.size))
 have HTy:=hid (HTy.out.keep b4)
 have HC:=hid (HIt2.out w4 (HB1.out.trans (HB4.out.mono HB1.out.size)))
 clear b4 HB3
 go_wp2_with fail
 refine HC.out.mono ?_
 rintro e w5 ⟨rfl,b5⟩
 have HB5:=hid (HB4.out.trans (b5.mono HB4.out.size))
 have HTy:=hid (HTy.out.keep b5)
 have HC:=hid (hR2.out w5 HB5.out)
 clear b5 HB4
 go_wp2_with fail
 refine HC.out.mono ?_
 rintro e w6 ⟨b6,PA,pc,rfl,hty⟩
 have HB6:=hid (HB5.out.trans (b6.mono HB5.out.size))
 have HTy:=hid (HTy.out.keep b6)
 have HTp:=hid hty
 clear b6 hty HB5 HC hR2
 go_wp2_with fail
 refine (HPa.out _).mono ?_
 rintro e w7 ⟨rfl,b7⟩
 have HB7:=hid (HB6.out.trans (b7.mono HB6.out.size))
 have HTy:=hid (HTy.out.keep b7)
 have HTp:=hid (HTp.out.keep b7)
 have HC:=hid (hR3.out w7 HB7.out)
 clear b7 HB6
 go_wp2_with fail
 refine HC.out.mono ?_
 rintro e w8 ⟨b8,KA,kc,rfl,hty⟩
 have HB8:=hid (HB7.out.trans (b8.mono HB7.out.size))
 have HTy:=hid (HTy.out.keep b8)
 have HTp:=hid (HTp.out.keep b8)
 have HTk:=hid hty
 clear b8 hty HB7 HC hR3 HPa HQu2 HP8 HP30 HIt1 HIt2
 have HBw:=hid (HB1.out.trans (HB8.out.mono HB1.out.size))
 go_upto_region 13 with fail
 go_cut [27] (fun s wx=>s=.bool true∧Hid (Below w8.heap.size w8 wx))
 case first =>
  obtain ⟨f1,f2,f3,f4⟩:=Hft.out
  have m2:¬ (fr:Int)<0:=by omega
  have m3:(fr:Int)≤(tz:Int):=by omega
  have m4:(tz:Int)≤(lc:Int):=by omega
  have m5:tz≤lc:=by omega
  rcases Hca.out with ⟨rfl,h0,rfl⟩ | ⟨g,rfl⟩
  ·subst h0
   obtain rfl:fr=0:=by omega
   obtain rfl:tz=0:=by omega
   obtain rfl:pn=0:=by omega
   have HTs:Hid (TyAt w8 (.slice none 0 0) []):=⟨none,0,rfl,by simp,fun i hi=>absurd hi (Nat.not_lt_zero i)⟩
   have HTq:Hid (TyAt w8 (.slice PA 0 pc) []):=by
     have h5:=HTp.out
     simp only [List.take_zero] at h5
     exact h5
   have HC:=hid (sameTextsY_eq _ _ _ w8 HTq.out HTs.out)
   have r1:IntKind.i64.wrap (lN:Int)=(lN:Int):=by rw [IntKind.wrap_i64];omega
   have r2:min (lN:Int) 0=0:=by omega
   clear hwf hmin1 hmin2 m2 m3 m4 m5 f1 f2 f3 f4
   go_wp2_with fail
   refine HC.out.mono ?_
   rintro e w9 ⟨rfl,b9⟩
   have HB9:=hid b9
   clear b9 HC
   go_wp2_with fail
   go_meet
   exact ⟨rfl,HB9⟩
  ·by_cases hfc:fr=lc
   ·obtain rfl:fr=tz:=by omega
    obtain rfl:pn=0:=by omega
    subst hfc
    have HTs:Hid (TyAt w8 (.slice (some ⟨g,0,none⟩) 0 0) []):=⟨_,0,rfl,by simp,fun i hi=>absurd hi (Nat.not_lt_zero i)⟩
    have HTq:Hid (TyAt w8 (.slice PA 0 pc) []):=by
     have h5:=HTp.out
     simp only [List.take_zero] at h5
     exact h5
    have HC:=hid (sameTextsY_eq _ _ _ w8 HTq.out HTs.out)
    go_wp2_with fail
    refine HC.out.mono ?_
    rintro e w9 ⟨rfl,b9⟩
    have HB9:=hid b9
    clear b9 HC
    go_wp2_with fail
    go_meet
    exact ⟨rfl,HB9⟩
   ·have HTs:=hid (HTy.out.sub (fr:=fr) (tz:=tz) (o':=fr) (c':=lc - fr) f1 f2 (fun _=>by omega))
    rw [f4] at HTs
    have HC:=hid (sameTextsY_eq _ _ _ w8 HTp.out HTs.out)
    go_wp2_with fail
    refine HC.out.mono ?_
    rintro e w9 ⟨rfl,b9⟩
    have HB9:=hid b9
    clear b9 HC
    go_wp2_with fail
    go_meet
    exact ⟨rfl,HB9⟩
 case rest =>
  obtain ⟨rfl,HBc⟩:=hcut
  have HTy:=hid (HTy.out.keep HBc.out)
  have HTk:=hid (HTk.out.keep HBc.out)
  have HBw:=hid (HBw.out.trans (HBc.out.mono HBw.out.size))
  clear HTp Hca Hft hmin1 hmin2 hwf HB8 HBc HB1
  go_wp2_with fail
  go_loopg [28] ln (fun gh ii wr=>∃ i:Nat,gh=ln+1 - i∧1≤i∧i≤ln+1∧ii=.int .i64 i∧Hid (Below wc.heap.size wc wr))
  case atStart=>exact ⟨1,by omega,Nat.le_refl _,by omega,rfl,Below.refl _ _⟩
  case round =>
   obtain ⟨i,rfl,hi1,hi2,rfl,HB⟩:=hrel
   have hl30':=Hln.out
   by_cases hlt:i<ln
   ·obtain ⟨j,hj⟩:∃ j,i=j+1:=⟨i - 1,by omega⟩
    have hjl:j+1<sl.length:=by rw [Hsl.out];omega
    obtain ⟨x,hx⟩:∃ x,sl[j]=x:=⟨_,rfl⟩
    obtain ⟨y,hy⟩:∃ y,sl[j+1]=y:=⟨_,rfl⟩
    have dx:IsDoc x:=by rw [← hx];exact Hdc.out _ (List.getElem_mem _)
    have dy:IsDoc y:=by rw [← hy];exact Hdc.out _ (List.getElem_mem _)
    have hlt2:ltD k x y:=by
     have:=List.pairwise_iff_getElem.mp Hpw.out j (j+1) (by omega) hjl (by omega)
     rw [hx,hy] at this
     exact this
    obtain ⟨kb,ko,rfl,hkc⟩:=(HTk.out.keep HB.out).two (i:=j) (by rw [List.length_map];exact hjl) (s:=prT (kO (orNull (pthP k) x))) (r:=prT (kO (orNull (pthP k) y))) (by rw [List.getElem_map,hx]) (by rw [List.getElem_map,hy])
    obtain ⟨lb,lo,rfl,hlc2⟩:=(HTy.out.keep HB.out).two (i:=j) (by rw [List.length_map];exact hjl) (s:=prT x) (r:=prT y) (by rw [List.getElem_map,hx]) (by rw [List.getElem_map,hy])
    rw [← hj] at hkc hlc2
    have Hkc:=hid hkc
    have Hlc:=hid hlc2
    have sx:=doc_key Hk.out dx
    have sy:=doc_key Hk.out dy
    obtain ⟨cc,hcc⟩:∃ cc,cmpI (keyR k x) (keyR k y)=cc:=⟨_,rfl⟩
    have hcm:cmpT 13 (kO (orNull (pthP k) x)) (kO (orNull (pthP k) y))=cc:=by rw [kO_cmp,(key_cmp Hk.out dx dy).2,hcc]
    have hc1:¬ 0<cc∧(cc=0→idD x<idD y):=by
     have:=cmpI_sgn (keyR k x) (keyR k y)
     rw [hcc] at this
     unfold ltD at hlt2
     have hb:cc=-1∨cc=0∨cc=1:=by rw [← hcc];unfold cmpI;split<;>(try split)<;>omega
     refine ⟨?_,fun h=>?_⟩<;>omega
    have HPk:Hid (∀ (t:T) (w':World),Sm t→Below wr.heap.size wr w'→Calls Tryz.prog 14 #[.string (prT (kO t))] w' fun e w2=>Below w'.heap.size w' w2∧∃ A B C D,e=.returned (.tuple #[.agg #[.int .i64 6,.int .i64 0,.string ByteArray.empty,.slice A 1 B,.slice C 1 D],.int .i64 0])∧At w2 13 (.agg #[.int .i64 6,.int .i64 0,.string ByteArray.empty,.slice A 1 B,.slice C 1 D]) (kO t)):=fun t w' h1 h2=>parseK HA.out h1 (HT.out _ (HBw.out.trans ((HB.out.trans (h2.mono HB.out.size)).mono HBw.out.size)))
    have HPd:Hid (∀ (d:T) (w':World),IsDoc d→Below wr.heap.size wr w'→Calls Tryz.prog 14 #[.string (prT d)] w' fun e w2=>Below w'.heap.size w' w2∧∃ eb eo m Lc Ka Kc,e=.returned (.tuple #[.agg #[.int .i64 6,.int .i64 0,.string ByteArray.empty,.slice (some ⟨eb,eo,none⟩) m Lc,.slice Ka m Kc],.int .i64 0])∧0<m∧eb<w2.heap.size∧w2.cell? ⟨eb,eo+1,none⟩=some (.int .i64 (idD d))):=fun d w' h1 h2=>parseD HA.out h1 (HT.out _ (HBw.out.trans ((HB.out.trans (h2.mono HB.out.size)).mono HBw.out.size)))
    have HCm:Hid (∀ (va vb:Value) (w':World),At w' 13 va (kO (orNull (pthP k) x))→At w' 13 vb (kO (orNull (pthP k) y))→Below wr.heap.size wr w'→Calls Tryz.prog 15 #[va,vb] w' fun e w2=>e=.returned (.tuple #[.int .i64 cc,.int .i64 0])∧Below w'.heap.size w' w2):=fun va vb w' h1 h2 h3=>by
     have:=tCompare_any HA.out.valid HA.out.lies 13 13 va vb _ _ w' h1 h2 (HT.out _ (HBw.out.trans ((HB.out.trans (h3.mono HB.out.size)).mono HBw.out.size)))
     rw [kO_isV sx,kO_isV sy,hcm] at this
     exact this
    have Hsx:=hid sx
    have Hsy:=hid sy
    have Hdx:=hid dx
    have Hdy:=hid dy
    have hcn:=hc1.1
    have Hci:=hid hc1.2
    have HP1:=hid (HPk.out _ wr sx (Below.refl _ _))
    have hwj:IntKind.i64.wrap ((i:Int) - 1)=(j:Int):=by rw [IntKind.wrap_i64];omega
    have hlti:(i:Int)<(ln:Int):=by omega
    have hji:(j:Int)<(ln:Int):=by omega
    have hjn:j<ln:=by omega
    obtain ⟨kk1,kk2⟩:=Hkc.out wr (Below.refl _ _)
    generalize hgx:orNull (pthP k) x=gx at *
    generalize hgy:orNull (pthP k) y=gy at *
    clear hgx hgy sx sy dx dy hx hy hlt2 hcc hcm hc1 hkc hlc2 hjl
    have Hj:=hid hj
    clear hj
    go_wp2_with fail
    refine HP1.out.mono ?_
    rintro e w11 ⟨b11,A1,B1,C1,D1,rfl,ha1⟩
    obtain ⟨W1,hW1⟩:∃ W,w11.alloc (.cells #[.int .i64 6,.int .i64 0,.string ByteArray.empty,.slice A1 1 B1,.slice C1 1 D1] 36)=W:=⟨_,rfl⟩
    have HY1:=hid (box_new w11 (.int .i64 6) (.int .i64 0) (.string ByteArray.empty) (.slice A1 1 B1) (.slice C1 1 D1))
    have HBa:Hid (Below w11.heap.size w11 W1):=by rw [← hW1];exact (Below.refl _ _).alloc (Nat.le_refl _) _
    rw [hW1] at HY1
    have HB1:=hid (b11.trans (HBa.out.mono b11.size))
    have HA1:=hid (ha1.keep HBa.out)
    have HP2:=hid (HPk.out _ W1 Hsy.out HB1.out)
    obtain ⟨kk3,kk4⟩:=Hkc.out W1 HB1.out
    clear b11 ha1 HP1 kk1 kk2 HPk HBa
    have y0:=HY1.out.q0
    have y1:=HY1.out.q1
    have y2:=HY1.out.q2
    have y3:=HY1.out.q3
    have y4:=HY1.out.q4
    go_wp2_with fail
    refine HP2.out.mono ?_
    rintro e w12 ⟨b12,A2,B2,C2,D2,rfl,ha2⟩
    obtain ⟨W2,hW2⟩:∃ W,w12.alloc (.cells #[.int .i64 6,.int .i64 0,.string ByteArray.empty,.slice A2 1 B2,.slice C2 1 D2] 36)=W:=⟨_,rfl⟩
    have HY2:=hid (box_new w12 (.int .i64 6) (.int .i64 0) (.string ByteArray.empty) (.slice A2 1 B2) (.slice C2 1 D2))
    have HBa:Hid (Below w12.heap.size w12 W2):=by rw [← hW2];exact (Below.refl _ _).alloc (Nat.le_refl _) _
    rw [hW2] at HY2
    have HBb:=hid (b12.trans (HBa.out.mono b12.size))
    have HB2:=hid (HB1.out.trans (HBb.out.mono HB1.out.size))
    have HA1:=hid (HA1.out.keep HBb.out)
    have HA2:=hid (ha2.keep HBa.out)
    have HY1:=hid (HY1.out.stay HBb.out)
    have HC:=hid (HCm.out _ _ W2 HA1.out HA2.out HB2.out)
    clear b12 ha2 HP2 kk3 kk4 HBa HBb y0 y1 y2 y3 y4 HB1
    have y0:=HY1.out.q0
    have y1:=HY1.out.q1
    have y2:=HY1.out.q2
    have y3:=HY1.out.q3
    have y4:=HY1.out.q4
    have z0:=HY2.out.q0
    have z1:=HY2.out.q1
    have z2:=HY2.out.q2
    have z3:=HY2.out.q3
    have z4:=HY2.out.q4
    go_wp2_with fail
    refine HC.out.mono ?_
    rintro e w13 ⟨rfl,b13⟩
    have HB3:=hid (HB2.out.trans (b13.mono HB2.out.size))
    have HP3:=hid (HPd.out _ w13 Hdx.out HB3.out)
    obtain ⟨kk5,kk6⟩:=Hlc.out w13 HB3.out
    clear b13 HC HCm HA1 HA2 HY1 HY2 HB2 y0 y1 y2 y3 y4 z0 z1 z2 z3 z4 hW1 hW2
    go_wp2_with fail
    refine HP3.out.mono ?_
    rintro e w14 ⟨b14,eb,eo,m1,M1,N1,O1,rfl,hm1,hl1,hc1⟩
    obtain ⟨W4,hW4⟩:∃ W,w14.alloc (.cells #[.int .i64 6,.int .i64 0,.string ByteArray.empty,.slice (some ⟨eb,eo,none⟩) m1 M1,.slice N1 m1 O1] 36)=W:=⟨_,rfl⟩
    have HY4:=hid (box_new w14 (.int .i64 6) (.int .i64 0) (.string ByteArray.empty) (.slice (some ⟨eb,eo,none⟩) m1 M1) (.slice N1 m1 O1))
    have HBa:Hid (Below w14.heap.size w14 W4):=by rw [← hW4];exact (Below.refl _ _).alloc (Nat.le_refl _) _
    rw [hW4] at HY4
    have HB4:=hid ((HB3.out.trans (b14.mono HB3.out.size)).trans (HBa.out.mono (HB3.out.trans (b14.mono HB3.out.size)).size))
    have HE1:Hid (∀ w':World,Below W4.heap.size W4 w'→w'.cell? ⟨eb,eo+1,none⟩=some (.int .i64 (idD x))):=fun w' h=>(h.cell (p:=⟨eb,_,none⟩) (Nat.lt_of_lt_of_le hl1 HBa.out.size)).trans ((HBa.out.cell (p:=⟨eb,_,none⟩) hl1).trans hc1)
    have HP4:=hid (HPd.out _ W4 Hdy.out HB4.out)
    obtain ⟨kk7,kk8⟩:=Hlc.out W4 HB4.out
    clear b14 hl1 hc1 HP3 kk5 kk6 HPd HBa HB3
    have y0:=HY4.out.q0
    have y1:=HY4.out.q1
    have y2:=HY4.out.q2
    have y3:=HY4.out.q3
    have y4:=HY4.out.q4
    go_wp2_with fail
    refine HP4.out.mono ?_
    rintro e w15 ⟨b15,fb,fo,m2,M2,N2,O2,rfl,hm2,hl2,hc2⟩
    obtain ⟨W5,hW5⟩:∃ W,w15.alloc (.cells #[.int .i64 6,.int .i64 0,.string ByteArray.empty,.slice (some ⟨fb,fo,none⟩) m2 M2,.slice N2 m2 O2] 36)=W:=⟨_,rfl⟩
    have HY5:=hid (box_new w15 (.int .i64 6) (.int .i64 0) (.string ByteArray.empty) (.slice (some ⟨fb,fo,none⟩) m2 M2) (.slice N2 m2 O2))
    have HBa:Hid (Below w15.heap.size w15 W5):=by rw [← hW5];exact (Below.refl _ _).alloc (Nat.le_refl _) _
    rw [hW5] at HY5
    have HBb:=hid (b15.trans (HBa.out.mono b15.size))
    have HB5:=hid (HB4.out.trans (HBb.out.mono HB4.out.size))
    have HY4:=hid (HY4.out.stay HBb.out)
    have e1:=HE1.out W5 HBb.out
    have e2:W5.cell? ⟨fb,fo+1,none⟩=some (.int .i64 (idD y)):=(HBa.out.cell (p:=⟨fb,_,none⟩) hl2).trans hc2
    have HBf:=hid (HB.out.trans (HB5.out.mono HB.out.size))
    have z1:((m1:Int)==0)=false:=by simp;omega
    have z2:((m2:Int)==0)=false:=by simp;omega
    have g1:(0:Int)<(m1:Int):=by omega
    have g2:(0:Int)<(m2:Int):=by omega
    clear b15 hl2 hc2 HP4 kk7 kk8 HBa HBb y0 y1 y2 y3 y4 HB4 HE1 HB5
    generalize idD x=ix at *
    generalize idD y=iy at *
    have y0:=HY4.out.q0
    have y1:=HY4.out.q1
    have y2:=HY4.out.q2
    have y3:=HY4.out.q3
    have y4:=HY4.out.q4
    have z0:=HY5.out.q0
    have z1:=HY5.out.q1
    have z2:=HY5.out.q2
    have z3:=HY5.out.q3
    have z4:=HY5.out.q4
    by_cases hc0:cc=0
    ·have hlt4:=Hci.out hc0
     have hng:¬ iy≤ix:=by omega
     subst hc0
     clear Hci
     go_wp2_with fail
     go_quiet (fail)
     have HB6:=hid (below_drewN HBf.out nq)
     go_wp2_with fail
     go_roundg (ln+1 - (i+1))
     case rel=>exact ⟨i+1,rfl,by omega,by omega,by go_num,HB6⟩
     case measure=>omega
    ·have hcz:(cc==0)=false:=by simp;exact hc0
     clear Hci hc0
     go_wp2_with fail
     go_quiet (fail)
     have HB6:=hid (below_drewN HBf.out nq)
     go_wp2_with fail
     go_roundg (ln+1 - (i+1))
     case rel=>exact ⟨i+1,rfl,by omega,by omega,by go_num,HB6⟩
     case measure=>omega
   ·have hlti:¬ (i:Int)<(ln:Int):=by omega
    have HBf:=hid (HBw.out.trans (HB.out.mono HBw.out.size))
    go_wp2_with fail
    go_ret
    exact ⟨rfl,HBf.out⟩
end Go.Proofs.YtknakfpciccoaabGreatDoor
