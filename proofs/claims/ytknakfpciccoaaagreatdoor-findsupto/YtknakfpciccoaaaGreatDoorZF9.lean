import Derived.Test.YtknakfpciccoaaaGreatDoorZF8
/- The walk of the program's parser: objects. -/
set_option maxHeartbeats 4000000
set_option maxRecDepth 100000
namespace Go.Proofs.YtknakfpciccoaaaGreatDoor
open Go.RowKit
theorem Hu {s:ByteArray} {k:Nat} (h:fF s (sk s k)=none):iI s true k=none:=by unfold iI;rw [if_pos rfl,h];rfl
theorem Hw {s:ByteArray} {k:Nat} {x:ByteArray} {j:Nat} (h:fF s (sk s k)=some (x,j)) (h2:cB s (sk s j)≠58):iI s true k=none:=by
 unfold iI;rw [if_pos rfl,h];simp only [Option.bind_some];rw [if_neg h2]
theorem Ia {s:ByteArray} {k:Nat} {x:ByteArray} {j:Nat} (h:fF s (sk s k)=some (x,j)) (h2:cB s (sk s j)=58):iI s true k=some (x,sk s j+1):=by
 unfold iI;rw [if_pos rfl,h];simp only [Option.bind_some];rw [if_pos h2]
theorem Ku {Tb:World->Prop} (hD:bS Tb) (n:Nat) (s:ByteArray) (ih:tH Tb s n) (c:Nat) (hS:dB Tb c) (i:Nat) (w:World) (h:PL c s i w) (hT:Tb w) (hs:s.size<=4000) (hb:cB s i=123) (hn:s.size<i+n+1) :
  Calls Tryz.prog 183 #[.pointer (some ⟨c,0,none⟩)] w (WA n c 6 s true (i+1) w):=by
 obtain ⟨iS,Rk,Rl,Rm,Rn⟩:=info_parts Dz;obtain ⟨iV,G8,G9,Hf,Ho⟩:=info_parts yg;have hlt:i<s.size:=aZ (by omega);have Kr:=eT s (i+1);have Kt:=fu (s:=s) (i:=i+1) (by omega);have Nb:=aj (JI.start (f:=n) (k:=6) h.lt);have iL:=aj (h.keep (((Below.refl _ _).alloc (Nat.le_refl _) (.cells #[.int .i64 0,.int .i64 0,.string ⟨#[]⟩,.slice none 0 0,.slice none 0 0] 25)).alloc (by simp) (.cells #[.int .i64 6,.int .i64 0,.string ⟨#[]⟩,.slice none 0 0,.slice none 0 0] 25)));have HO:=aj (Du c s i 123 125 _ iL.out hs (by omega) (by omega) (by omega));have HT:=aj hT;have HS:=aj hS;have HI:=aj ih;have HD:=aj hD;have hcl:=h.lt;clear h hT hS ih hb hD;go_in;go_wp2_with fail;refine HO.out.mono ?_;rintro e w1 ⟨B1,hcase⟩;have Rh:=aj (Nb.out.inner B1)
 obtain ⟨more,k0,he,jR,HA,hk0⟩:∃ (more:Bool) (k0:Nat),e=.returned (.bool more)/\Hid (PL c s k0 w1)/\Hid (gH n s true (i+1) more k0 [] [])/\(i<k0/\k0<=s.size):=by
  rcases hcase with ⟨hc,he,hL⟩ | ⟨hc,he,hL⟩
  ·exact ⟨false,_,he,hL,nM (by show _=125;omega),by omega,by have:=aZ (s:=s) (i:=sk s (i+1)) (by omega);omega⟩
  ·exact ⟨true,_,he,hL,nJ (by show _≠125;omega),by omega,by omega⟩
 subst he;clear hcase B1 HO Nb iL Kr Kt;go_wp2_with fail;go_loopg [4] (ms s more k0) (fun g b wr=>∃ (more:Bool) (k:Nat) (L:List T) (K:List ByteArray) (Lv Kv:Value) (xs:List Value) (sub:Nat->List jh),g=ms s more k/\b=.bool more/\i<k/\k<=s.size/\L.length<=k/\K.length<=k/\Hid (JI n 6 c w w.heap.size (w.heap.size+1) (w.heap.size+2) L K Lv Kv xs sub wr)/\Hid (PL c s k wr)/\Hid (gH n s true (i+1) more k L K))
 case atStart=>exact ⟨more,k0,[],[],_,_,[],fun _=>[],rfl,rfl,hk0.1,hk0.2,by simp,by simp,Rh,jR,HA⟩
 case round =>
  clear Rh jR HA hk0;obtain ⟨more,k,L,K,Lv,Kv,xs,sub,rfl,rfl,hk1,hk2,YS,hlK,HE,jR,HA⟩:=hrel;cases more with
  | false =>
   obtain ⟨A,B,rfl⟩:=aJ HE.out.grow.oL;obtain ⟨C,D,rfl⟩:=aJ HE.out.grow.vB;have r0:=HE.out.res.q0;have r1:=HE.out.res.q1;have r2:=HE.out.res.q2;have r3:=HE.out.res.q3;have r4:=HE.out.res.q4;have s0:=HE.out.res.f0;have s1:=HE.out.res.f1;have s2:=HE.out.res.f2;have s3:=HE.out.res.f3;have s4:=HE.out.res.f4;have t0:=HE.out.box.q0;have t1:=HE.out.box.q1;have t2:=HE.out.box.q2;have t3:=HE.out.box.q3;have t4:=HE.out.box.q4;go_wp2_with fail;refine bodyPost_ret (v:=fB (dU 6 0 ByteArray.empty L K) A B C D) (by simp [results,Tryz.results183,go_sem,fB,dP,mF,nW,cK,lU, *];rfl) rfl ?_;have hE:=HE.out;have hF:=hE.grow.flat 6 (by omega) (by omega) (by omega) (by omega);have hp:=jC (rb:=w.heap.size) hE.but hcl hF hE.grow.sep (Nat.le_refl _) (by omega) (.int .i64 6) (.int .i64 0) (.string ⟨#[]⟩) (.slice A L.length B) (.slice C K.length D);refine ⟨hp.1,Or.inl ⟨dU 6 0 ByteArray.empty L K,k,_,A,B,C,D,?_,rfl,?_,hp.2.2.1,jR.out.same hp.2.2.2.1 (by rw [hp.2.2.2.2];exact Nat.le_refl _)⟩⟩
   ·rw [HA.out.2 rfl];rfl
   ·unfold fB;rw [dP,mF,nW,cK,lU];exact hp.2.1
  | true =>
   obtain ⟨m,hm,hX⟩:=HA.out.1 rfl;have HX:=aj hX;obtain ⟨m,rfl⟩:∃ m',m=m'+1:=⟨m - 1,by omega⟩;have hge:=eT s k;have hle:=fu hk2;clear HA hX;go_wp2_with fail;refine (qZ c s k wr jR.out hs hk2).mono ?_;rintro e wa ⟨rfl,hBa,YU⟩;have Kw:=aj (HE.out.inner hBa);have M6:=aj YU;have Ri:=aj (Kw.out.keep (ak wa));have gF:=aj (M6.out.keep (ak wa));have HT3:=aj (aG.stays HS.out HT.out Ri.out.but (Nat.le_of_lt hcl));have hc3:=Kw.out.box.q4;clear hBa YU HE jR Kw M6;go_wp2_with fail;cases hz2:fF s (sk s k) with
   | none =>
    have HZ:Hid ((fM (aS s n) s true (i+1)).map (fun r=>(dU 6 0 ByteArray.empty r.1.2 r.1.1,r.2))=none):=by
     show _=_;rw [HX.out,wT (Hu hz2)];rfl
    have HC:=aj (Xz HD.out HS.out hz2 gF.out HT3.out hs hle);refine wp_region_held_drew (S:=fun wx=>wx.cell? ⟨w.heap.size+1,4,none⟩=some Kv) (by kernel_rfl) Ri.out.box.q4 (fun hHeld=>?_);refine wpAnyH_take (i:=0) (v:=.pointer (some ⟨w.heap.size+1,4,none⟩)) rfl (by kernel_rfl) (by kernel_rfl) (by kernel_rfl) (fun _ _ _ h=>h) (Or.inl ⟨by rfl,(by intro wx hSw;go_simp)⟩) hHeld ?_;refine wpAnyH_take (i:=1) (v:=Kv) rfl (by kernel_rfl) (by kernel_rfl) (by kernel_rfl) (fun _ _ _ h=>h) (Or.inl ⟨by rfl,(by intro wx hSw;go_simp)⟩) hHeld ?_;refine wpAnyH_take (i:=2) (v:=.pointer (some ⟨c,0,none⟩)) rfl (by kernel_rfl) (by kernel_rfl) (by kernel_rfl) (fun _ _ _ h=>h) (Or.inl ⟨by rfl,(by intro wx hSw;go_simp)⟩) hHeld ?_;refine wpAnyH_ready (rs:=[3]) (by kernel_rfl) (by simp) (AllReadyH.cons rfl (fun KK WB=>?_) AllReadyH.nil);go_simp;go_wp2_with (go_at_call 181;refine HC.out.mono ?_;rintro e w5 ⟨rfl,hb5⟩);exact ⟨rfl,Ri.out.but.trans hb5,Or.inr ⟨HZ.out,rfl⟩⟩
   | some p =>
    obtain ⟨nm,j⟩:=p;have gG:=oD hz2;have hj1:=eT s j;have hj2:=fu gG.2.1;have HC:=aj (Xy HD.out HS.out hz2 gF.out HT3.out hs hle);go_region_law (first | (refine step_append_lies _ (by rfl) _ _ _ (by rfl) (w.heap.size+2) 9 iS _ 1 16 Tryz.underlying23 Rk Rl Rm Rn rfl (by omega) Kv K.length (lK K) (by rfl) (WC.out.keep (bG _ _)).grow.vB ⟨w4.heap.size,0,none⟩ 1 1 [.string nm] (by rfl) (by rfl) (World.news_of_block (cs:=#[.string nm]) (t:=9) (fr:=(0,0)) (heap_alloc_new w4 _)) (by simp [Value.oneCell']) (by omega) (by unfold maxLen;omega) (by omega) (WC.out.keep (bG _ _)).grow.low (w4.heap.size+1) (by simp) ?_;intro g4 cap4 w7 yh rF OB Ve;have Fb:=aj ((WC.out.keep ((Below.refl _ _).alloc (Nat.le_refl _) (.cells #[.string nm] 9))).mO rF (WC.out.keep ((Below.refl _ _).alloc (Nat.le_refl _) (.cells #[.string nm] 9))).grow.vB);have hc7:=Fb.out.q4;have hf7:=Fb.out.f4) | (go_simp;go_wp2_with (go_at_call 181;refine HC.out.mono ?_;rintro e w4 ⟨rfl,hb4,hl4⟩;have WC:=aj (Ri.out.inner hb4);have jM:=aj hl4;have hc4:=WC.out.box.q4;have ab8:=(WC.out.keep ((Below.refl _ _).alloc (Nat.le_refl _) (.cells #[.string nm] 9))).box.q4;clear hb4 hl4)))
    all_goals
     have H8:=aj (WC.out.Wz _ (by omega) yh rF OB);have Qu:=aj H8.out.1;have HL8:=aj (jM.out.same H8.out.2.1 H8.out.2.2);clear yh rF OB Ve Fb hc7 hf7 WC hc4 ab8 Ri hc3 H8 jM gF HT3 HC;go_wp2_with fail;refine (qZ c s j _ HL8.out hs gG.2.1).mono ?_;rintro e wb ⟨rfl,hBb,Ro⟩;have UC:=aj (Qu.out.inner hBb);have HLb:=aj Ro;clear hBb Ro Qu HL8;by_cases Vf:cB s (sk s j)=58
     ·have hkey:=Ia hz2 Vf;have afE:=aZ (s:=s) (i:=sk s j) (by omega);have Ky:=aj hkey;have HCe:=aj (jU c s (sk s j) 58 wb HLb.out hs (by omega) (by omega));clear hkey Vf;go_wp2_with fail;refine HCe.out.mono ?_;rintro e wc ⟨rfl,ZB,hLc⟩;have HEc:=aj (UC.out.inner ZB);have UD:=aj (HEc.out.keep (ak wc));have HL9:=aj (PL.keep hLc (ak wc));have HT9:=aj (aG.stays HS.out HT.out UD.out.but (Nat.le_of_lt hcl));have hc9:=HEc.out.box.q3;clear ZB hLc UC HLb HEc HCe;go_wp2_with fail;cases hz:aS s n (sk s j+1) with
      | none =>
       have HZ:Hid ((fM (aS s n) s true (i+1)).map (fun r=>(dU 6 0 ByteArray.empty r.1.2 r.1.1,r.2))=none):=by
        show _=_;rw [HX.out,r9 Ky.out hz];rfl
       have HC:=aj (Rb HI.out hz HS.out HL9.out HT9.out (by omega) (by omega));refine wp_region_held_drew (S:=fun wx=>wx.cell? ⟨w.heap.size+1,3,none⟩=some Lv) (by kernel_rfl) UD.out.box.q3 (fun hHeld=>?_);refine wpAnyH_take (i:=0) (v:=.pointer (some ⟨w.heap.size+1,3,none⟩)) rfl (by kernel_rfl) (by kernel_rfl) (by kernel_rfl) (fun _ _ _ h=>h) (Or.inl ⟨by rfl,(by intro wx hSw;go_simp)⟩) hHeld ?_;refine wpAnyH_take (i:=1) (v:=Lv) rfl (by kernel_rfl) (by kernel_rfl) (by kernel_rfl) (fun _ _ _ h=>h) (Or.inl ⟨by rfl,(by intro wx hSw;go_simp)⟩) hHeld ?_;refine wpAnyH_take (i:=2) (v:=.pointer (some ⟨c,0,none⟩)) rfl (by kernel_rfl) (by kernel_rfl) (by kernel_rfl) (fun _ _ _ h=>h) (Or.inl ⟨by rfl,(by intro wx hSw;go_simp)⟩) hHeld ?_;refine wpAnyH_ready (rs:=[3]) (by kernel_rfl) (by simp) (AllReadyH.cons rfl (fun KK WB=>?_) AllReadyH.nil);go_simp;go_wp2_with (go_at_call 100;refine HC.out.mono ?_;rintro e w5 ⟨rfl,hb5⟩);exact ⟨rfl,UD.out.but.trans hb5,Or.inr ⟨HZ.out,rfl⟩⟩
      | some p =>
       obtain ⟨t,j'⟩:=p;have ZC:=dV n (sk s j+1) t j' (by omega) hz;have Vd:=eT s j';have Oz:=fu ZC.2;have HC:=aj (Ra HI.out hz HS.out HL9.out HT9.out (by omega) (by omega));go_region_law (first | (refine step_append_lies _ (by rfl) _ _ _ (by rfl) (w.heap.size+2) 25 iV _ 5 80 Tryz.underlying22 G8 G9 Hf Ho rfl (by omega) Lv L.length xs (by rfl) (DF.out.keep (bG _ _)).grow.oL ⟨w5.heap.size,0,none⟩ 1 1 [.int .i64 (ah t),.int .i64 (aB t),.string (aF t),.slice A (nL t) B,.slice C (nK t) D] (by rfl) (by rfl) (World.news_of_block (cs:=#[.int .i64 (ah t),.int .i64 (aB t),.string (aF t),.slice A (nL t) B,.slice C (nK t) D]) (t:=25) (fr:=(0,0)) (heap_alloc_new w5 _)) (by simp [Value.oneCell']) (by omega) (by unfold maxLen;omega) (by omega) (DF.out.keep (bG _ _)).grow.low (w5.heap.size+1) (by simp) ?_;intro g cap w6 hown6 cu bI Cz;have DI:=aj ((DF.out.keep ((Below.refl _ _).alloc (Nat.le_refl _) (vC t A B C D))).mO cu (DF.out.keep ((Below.refl _ _).alloc (Nat.le_refl _) (vC t A B C D))).grow.oL);have hc6:=DI.out.q3;have YT:=DI.out.f3) | (go_simp;go_wp2_with (go_at_call 100;refine HC.out.mono ?_;rintro e w5 ⟨es,A,B,C,D,rfl,hb5,Zx,hS5,hL5⟩;have DF:=aj (UD.out.inner hb5);have JU:=aj hL5;have Zy:=aj Zx;have Nf:=aj (UD.out.E9 hb5 hS5);have Rj:=aj hS5;have kD:=DF.out.box.q3;have XA:=(DF.out.keep ((Below.refl _ _).alloc (Nat.le_refl _) (vC t A B C D))).box.q3;clear Zx hS5 hL5 hb5)))
       all_goals
        have H6:=aj (DF.out.M9 _ Zy.out Rj.out Nf.out hown6 cu bI);have Gp:=aj H6.out.1;have pW:=aj (JU.out.same H6.out.2.1 H6.out.2.2);clear hown6 cu bI Cz DI hc6 YT Zy Nf Rj DF kD XA H6 JU HC;go_wp2_with fail;refine (Ap c s (sk s j') 125 _ pW.out hs Oz (by omega)).mono ?_;rintro e w7 ⟨OA,⟨sj,rfl,hL7⟩ | ⟨Ng,rfl,hL7⟩ | ⟨sj,Ng,rfl⟩⟩
        ·have Zz:=aZ (s:=s) (i:=sk s j') (by omega);have Ht:=aj (Gp.out.inner OA);have Fa:=aj hL7;have Fb:Hid (gH n s true (i+1) true (sk s j'+1) (L++[t]) (K++[nm])):=⟨fun _=>⟨m,by omega,HX.out.trans (uU K L Ky.out hz sj)⟩,fun h=>by cases h⟩;clear OA hL7 Gp pW HX sj;go_wp2_with fail;go_roundg (ms s true (sk s j'+1))
         case rel=>exact ⟨true,sk s j'+1,L++[t],K++[nm],_,_,_,_,rfl,rfl,by omega,by omega,by simp;omega,by simp;omega,Ht,Fa,Fb⟩
         case measure=>unfold ms;simp;omega
        ·have ZA:=aZ (s:=s) (i:=sk s j') (by omega);have Ht:=aj (Gp.out.inner OA);have Fa:=aj hL7;have Fb:Hid (gH n s true (i+1) false (sk s j'+1) (L++[t]) (K++[nm])):=⟨(fun h=>by cases h),fun _=>HX.out.trans (uV K L Ky.out hz (by show cB s (sk s j')=125;omega))⟩;clear OA hL7 Gp pW HX Ng;go_wp2_with fail;go_roundg (ms s false (sk s j'+1))
         case rel=>exact ⟨false,sk s j'+1,L++[t],K++[nm],_,_,_,_,rfl,rfl,by omega,by omega,by simp;omega,by simp;omega,Ht,Fa,Fb⟩
         case measure=>unfold ms;simp;omega
        ·have rE:=aj (Gp.out.but.trans OA)
         have HZ:Hid ((fM (aS s n) s true (i+1)).map (fun r=>(dU 6 0 ByteArray.empty r.1.2 r.1.1,r.2))=none):=by
          show _=_;rw [HX.out,uW Ky.out hz sj (by show cB s (sk s j')≠125;omega)];rfl
         clear OA sj Ng HX;go_wp2_with fail;exact ⟨rfl,rE.out,Or.inr ⟨HZ.out,rfl⟩⟩
     ·have HZ:Hid ((fM (aS s n) s true (i+1)).map (fun r=>(dU 6 0 ByteArray.empty r.1.2 r.1.1,r.2))=none):=by
       show _=_;rw [HX.out,wT (Hw hz2 Vf)];rfl
      have HCe:=aj (oJ c s (sk s j) 58 wb HLb.out hs hj2 (by omega));clear Vf;go_wp2_with fail;refine HCe.out.mono ?_;rintro e wc ⟨rfl,ZB⟩;have HBc:=aj (UC.out.but.trans ZB);clear ZB;go_wp2_with fail;exact ⟨rfl,HBc.out,Or.inr ⟨HZ.out,rfl⟩⟩
theorem AY {s:ByteArray} {i:Nat} (h:cB s i<256):pk s i=cB s i:=by
 unfold pk;rw [if_pos (aZ h)]
theorem aK.gW {b:Nat} {c0 c1 c2 c3 c4:Value} {w w':World} (h:aK b c0 c1 c2 c3 c4 w) (hb:Below w.heap.size w w'):aK b c0 c1 c2 c3 c4 w':=h.move hb.size (hb.block _ h.lt)
theorem Nh {n c lo:Nat} {s:ByteArray} {w w4:World} {x:Option (T×Nat)} {f:Nat->Nat} {t:T} {j:Nat} {es:List jh} {A C:Option Addr} {B D:Nat} (hx:x=some (t,j)) (hB:aG c w w4) (hc:c<w.heap.size) (hz:w.heap.size<lo) (hF:fC w4 n (.agg #[.int .i64 (ah t),.int .i64 (aB t),.string (aF t),.slice A (nL t) B,.slice C (nK t) D]) t es) (hS:mD lo w4 es) (hL:PL c s (f j) w4) :
  rD n c s x f w (.returned (.agg #[.int .i64 (ah t),.int .i64 (aB t),.string (aF t),.slice A (nL t) B,.slice C (nK t) D])) (((((w4.setCell ⟨w.heap.size,0,none⟩ (.int .i64 (ah t))).setCell ⟨w.heap.size,1,none⟩ (.int .i64 (aB t))).setCell ⟨w.heap.size,2,none⟩ (.string (aF t))).setCell ⟨w.heap.size,3,none⟩ (.slice A (nL t) B)).setCell ⟨w.heap.size,4,none⟩ (.slice C (nK t) D)):=by
 have hp:=jC (rb:=w.heap.size) hB hc hF hS (Nat.le_refl _) hz (.int .i64 (ah t)) (.int .i64 (aB t)) (.string (aF t)) (.slice A (nL t) B) (.slice C (nK t) D);exact ⟨hp.1,Or.inl ⟨t,j,es,A,B,C,D,hx,rfl,hp.2.1,hp.2.2.1,hL.same hp.2.2.2.1 (by rw [hp.2.2.2.2];exact Nat.le_refl _)⟩⟩
theorem DJ {n c:Nat} {s:ByteArray} {w wr:World} {x:Option (T×Nat)} {j:Nat} (k m:Int) (y:ByteArray) (hk0:0<=k) (hk1:k<=100) (hm:-9223372036854775808<=m/\m<=9223372036854775807) (hy:y.size<=140737488355328) (hx:x=some (aR k m y,j)) (hB:aG c w wr) (hc:c<w.heap.size) (hL:PL c s j wr) :
  rD (n+1) c s x id w (.returned (.agg #[.int .i64 k,.int .i64 m,.string y,.slice none 0 0,.slice none 0 0])) (((((wr.setCell ⟨w.heap.size,0,none⟩ (.int .i64 k)).setCell ⟨w.heap.size,1,none⟩ (.int .i64 m)).setCell ⟨w.heap.size,2,none⟩ (.string y)).setCell ⟨w.heap.size,3,none⟩ (.slice none 0 0)).setCell ⟨w.heap.size,4,none⟩ (.slice none 0 0)):=by
 have hp:=jC (rb:=w.heap.size) hB hc (sD wr n k m y hk0 hk1 hm.1 hm.2 hy) (vD (w.heap.size+1) wr) (Nat.le_refl _) (by omega) (.int .i64 k) (.int .i64 m) (.string y) (.slice none 0 0) (.slice none 0 0);exact ⟨hp.1,Or.inl ⟨aR k m y,j,_,none,0,none,0,hx,rfl,hp.2.1,hp.2.2.1,hL.same hp.2.2.2.1 (by rw [hp.2.2.2.2];exact Nat.le_refl _)⟩⟩
def rG (s:ByteArray) (j:Nat):Option (T×Nat) :=
 if ku s j jg=true then some (aR 1 0 ByteArray.empty,j+4)
 else if ku s j jP=true then some (aR 2 1 ByteArray.empty,j+4)
 else if ku s j iJ=true then some (aR 2 0 ByteArray.empty,j+5)
 else none
theorem Rp (n c:Nat) (s:ByteArray) (j:Nat) (w:World) (h:PL c s j w) (hs:s.size<=4000) (hj:j<=s.size) :
  Calls Tryz.prog 186 #[.pointer (some ⟨c,0,none⟩)] w (rD (n+1) c s (rG s j) id w):=by
 have HB0:=aj (bG w (.cells #[.int .i64 0,.int .i64 0,.string ⟨#[]⟩,.slice none 0 0,.slice none 0 0] 25));have dA:Hid (aK w.heap.size (.int .i64 0) (.int .i64 0) (.string ⟨#[]⟩) (.slice none 0 0) (.slice none 0 0) (w.alloc (.cells #[.int .i64 0,.int .i64 0,.string ⟨#[]⟩,.slice none 0 0,.slice none 0 0] 25))):=bD w _ _ _ _ _;have hlc:=h.lt;have iL:=aj (h.keep HB0.out);clear h;cases hp1:ku s j jg with
 | true =>
  have HA:=aj (Au c s j jg _ iL.out hs hp1);have HX:Hid (rG s j=some (aR 1 0 ByteArray.empty,j+4)):=by show _=_;unfold rG;rw [if_pos hp1]
  clear hp1;go_in;go_wp2_with fail;refine HA.out.mono ?_;rintro e w1 ⟨rfl,B1,L1⟩;have aQ:=aj L1;have HR1:=aj (dA.out.move B1.size (B1.block _ dA.out.lt (by omega)));have HW1:=aj ((aG.of (c:=c) HB0.out).trans B1);clear B1 L1 HA dA HB0 iL;have r0:=HR1.out.q0;have r1:=HR1.out.q1;have r2:=HR1.out.q2;have r3:=HR1.out.q3;have r4:=HR1.out.q4;have s0:=HR1.out.f0;have s1:=HR1.out.f1;have s2:=HR1.out.f2;have s3:=HR1.out.f3;have s4:=HR1.out.f4;go_wp2_with fail;refine bodyPost_ret (v:=.agg #[.int .i64 1,.int .i64 0,.string ⟨#[]⟩,.slice none 0 0,.slice none 0 0]) (by simp [results,Tryz.results186,go_sem, *]) rfl ?_;exact DJ 1 0 ByteArray.empty (by omega) (by omega) (by omega) (by simp) HX.out HW1.out hlc aQ.out
 | false =>
  have HA:=aj (EY c s j jg _ iL.out hj hp1);have HX0:Hid (rG s j=if ku s j jP=true then some (aR 2 1 ByteArray.empty,j+4) else if ku s j iJ=true then some (aR 2 0 ByteArray.empty,j+5) else none):=by show _=_;unfold rG;rw [if_neg (by rw [hp1];simp)]
  clear hp1;go_in;go_wp2_with fail;refine HA.out.mono ?_;rintro e w1 ⟨rfl,B1,L1⟩;have aQ:=aj L1;have HR1:=aj (dA.out.move B1.size (B1.block _ dA.out.lt (by omega)));have HW1:=aj ((aG.of (c:=c) HB0.out).trans B1);clear B1 L1 HA dA HB0 iL;cases hp2:ku s j jP with
  | true =>
   have HA2:=aj (Au c s j jP _ aQ.out hs hp2);have HX:Hid (rG s j=some (aR 2 1 ByteArray.empty,j+4)):=by show _=_;rw [HX0.out,if_pos hp2]
   clear hp2;go_wp2_with fail;refine HA2.out.mono ?_;rintro e w2 ⟨rfl,B2,L2⟩;have HL2:=aj L2;have HR2:=aj (HR1.out.move B2.size (B2.block _ HR1.out.lt (by omega)));have HW2:=aj (HW1.out.trans B2);clear B2 L2 HA2 HR1 HW1 aQ;have r0:=HR2.out.q0;have r1:=HR2.out.q1;have r2:=HR2.out.q2;have r3:=HR2.out.q3;have r4:=HR2.out.q4;have s0:=HR2.out.f0;have s1:=HR2.out.f1;have s2:=HR2.out.f2;have s3:=HR2.out.f3;have s4:=HR2.out.f4;go_wp2_with fail;refine bodyPost_ret (v:=.agg #[.int .i64 2,.int .i64 1,.string ⟨#[]⟩,.slice none 0 0,.slice none 0 0]) (by simp [results,Tryz.results186,go_sem, *]) rfl ?_;exact DJ 2 1 ByteArray.empty (by omega) (by omega) (by omega) (by simp) HX.out HW2.out hlc HL2.out
  | false =>
   have HA2:=aj (EY c s j jP _ aQ.out hj hp2);have q8:Hid (rG s j=if ku s j iJ=true then some (aR 2 0 ByteArray.empty,j+5) else none):=by show _=_;rw [HX0.out,if_neg (by rw [hp2];simp)]
   clear hp2;go_wp2_with fail;refine HA2.out.mono ?_;rintro e w2 ⟨rfl,B2,L2⟩;have HL2:=aj L2;have HR2:=aj (HR1.out.move B2.size (B2.block _ HR1.out.lt (by omega)));have HW2:=aj (HW1.out.trans B2);clear B2 L2 HA2 HR1 HW1 aQ;cases hp3:ku s j iJ with
   | true =>
    have oM:=aj (Au c s j iJ _ HL2.out hs hp3);have HX:Hid (rG s j=some (aR 2 0 ByteArray.empty,j+5)):=by show _=_;rw [q8.out,if_pos hp3]
    clear hp3;go_wp2_with fail;refine oM.out.mono ?_;rintro e w3 ⟨rfl,B3,L3⟩;have gF:=aj L3;have HR3:=aj (HR2.out.move B3.size (B3.block _ HR2.out.lt (by omega)));have HW3:=aj (HW2.out.trans B3);clear B3 L3 oM HR2 HW2 HL2;have r0:=HR3.out.q0;have r1:=HR3.out.q1;have r2:=HR3.out.q2;have r3:=HR3.out.q3;have r4:=HR3.out.q4;have s0:=HR3.out.f0;have s1:=HR3.out.f1;have s2:=HR3.out.f2;have s3:=HR3.out.f3;have s4:=HR3.out.f4;go_wp2_with fail;refine bodyPost_ret (v:=.agg #[.int .i64 2,.int .i64 0,.string ⟨#[]⟩,.slice none 0 0,.slice none 0 0]) (by simp [results,Tryz.results186,go_sem, *]) rfl ?_;exact DJ 2 0 ByteArray.empty (by omega) (by omega) (by omega) (by simp) HX.out HW3.out hlc gF.out
   | false =>
    have oM:=aj (EY c s j iJ _ HL2.out hj hp3);have HX:Hid (rG s j=none):=by show _=_;rw [q8.out,if_neg (by rw [hp3];simp)]
    clear hp3;go_wp2_with fail;refine oM.out.mono ?_;rintro e w3 ⟨rfl,B3,L3⟩;have HW3:=aj (HW2.out.trans B3);clear B3 L3 oM HR2 HW2 HL2;go_wp2_with fail;exact ⟨rfl,HW3.out,Or.inr ⟨HX.out,rfl⟩⟩
theorem Kz {f:Nat->Option (T×Nat)} {s:ByteArray} {j:Nat} (h1:cB s j≠34) (h2:cB s j≠91) (h3:cB s j≠123) (h4:¬ (cB s j=45\/iM (cB s j)=true)):bH f s j=rG s j:=by
 unfold bH rG;rw [if_neg h1,if_neg h2,if_neg h3,if_neg h4]
theorem oN {s:ByteArray} {j a:Nat} (h:cB s j=a) (ha:a<256):pk s j=a:=by rw [AY (by omega),h]
theorem mP {s:ByteArray} {j a:Nat} (h:cB s j≠a) (ha:0<a):pk s j≠a:=by
 unfold pk;split
 ·exact h
 ·omega
theorem OC {Tb:World->Prop} (hD:bS Tb) (n:Nat) (s:ByteArray) (c:Nat) (hS:dB Tb c) (j:Nat) (w:World) (h:PL c s j w) (hT:Tb w) (hs:s.size<=4000) (hj:j<=s.size) (hq:cB s j=34) :
  Calls Tryz.prog 140 #[.pointer (some ⟨c,0,none⟩)] w (rD (n+1) c s (bH (aS s n) s j) id w):=by
 have HB0:=aj (bG w (.cells #[.int .i64 0,.int .i64 0,.string ⟨#[]⟩,.slice none 0 0,.slice none 0 0] 25));have dA:Hid (aK w.heap.size (.int .i64 0) (.int .i64 0) (.string ⟨#[]⟩) (.slice none 0 0) (.slice none 0 0) (w.alloc (.cells #[.int .i64 0,.int .i64 0,.string ⟨#[]⟩,.slice none 0 0,.slice none 0 0] 25))):=bD w _ _ _ _ _;have hlc:=h.lt;have iL:=aj (h.keep HB0.out);have HT:=aj hT;have HS:=aj hS;have HD:=aj hD;have HP:=aj (oI c s j _ iL.out hj);have hpk:=oN hq (by omega);have HX:Hid (bH (aS s n) s j=(fF s j).map fun p=>(aR 4 0 p.1,p.2)):=by show _=_;unfold bH;rw [if_pos hq]
 clear h hT hS hD hq;go_in;go_wp2_with fail;refine HP.out.mono ?_;rintro e w1 ⟨rfl,b1⟩;have aQ:=aj (iL.out.keep b1);have HR1:=aj (dA.out.gW b1);have HW1:=aj (aG.of (c:=c) (HB0.out.trans (b1.mono HB0.out.size)));have HT1:=aj (aG.stays HS.out HT.out HW1.out (Nat.le_of_lt hlc));have HA:=aj (EZ HD.out c HS.out s j w1 aQ.out HT1.out hs hj);clear b1 HP dA HB0 iL;rw [hpk];go_wp2_with fail;refine HA.out.mono ?_;rintro e w2 ⟨B2,⟨x,k,hx,rfl,L2⟩ | ⟨hx,rfl⟩⟩
 ·have gG:=oD hx;have HL2:=aj L2;have HR2:=aj (HR1.out.move B2.size (B2.block _ HR1.out.lt (by omega)));have HW2:=aj (HW1.out.trans B2);have HZ:Hid (bH (aS s n) s j=some (aR 4 0 x,k)):=by show _=_;rw [HX.out,hx];rfl
  clear B2 L2 HA HR1 HW1 aQ hx;have r0:=HR2.out.q0;have r1:=HR2.out.q1;have r2:=HR2.out.q2;have r3:=HR2.out.q3;have r4:=HR2.out.q4;have s0:=HR2.out.f0;have s1:=HR2.out.f1;have s2:=HR2.out.f2;have s3:=HR2.out.f3;have s4:=HR2.out.f4;go_wp2_with fail;refine bodyPost_ret (v:=.agg #[.int .i64 4,.int .i64 0,.string x,.slice none 0 0,.slice none 0 0]) (by simp [results,Tryz.results140,go_sem, *]) rfl ?_;exact DJ 4 0 x (by omega) (by omega) (by omega) (by omega) HZ.out HW2.out hlc HL2.out
 ·have HW2:=aj (HW1.out.trans B2);have HZ:Hid (bH (aS s n) s j=none):=by show _=_;rw [HX.out,hx];rfl
  clear B2 hx;go_wp2_with fail;exact ⟨rfl,HW2.out,Or.inr ⟨HZ.out,rfl⟩⟩
theorem OD {Tb:World->Prop} (n:Nat) (s:ByteArray) (ih:tH Tb s n) (c:Nat) (hS:dB Tb c) (j:Nat) (w:World) (h:PL c s j w) (hT:Tb w) (hs:s.size<=4000) (hj:j<=s.size) (hn:s.size<j+n+1) (hq:cB s j=91) :
  Calls Tryz.prog 140 #[.pointer (some ⟨c,0,none⟩)] w (rD (n+1) c s (bH (aS s n) s j) id w):=by
 have HB0:=aj (bG w (.cells #[.int .i64 0,.int .i64 0,.string ⟨#[]⟩,.slice none 0 0,.slice none 0 0] 25));have dA:Hid (aK w.heap.size (.int .i64 0) (.int .i64 0) (.string ⟨#[]⟩) (.slice none 0 0) (.slice none 0 0) (w.alloc (.cells #[.int .i64 0,.int .i64 0,.string ⟨#[]⟩,.slice none 0 0,.slice none 0 0] 25))):=bD w _ _ _ _ _;have hlc:=h.lt;have iL:=aj (h.keep HB0.out);have HT:=aj hT;have HS:=aj hS;have HI:=aj ih;have HP:=aj (oI c s j _ iL.out hj);have hpk:=oN hq (by omega);have HX:Hid (bH (aS s n) s j=(fM (aS s n) s false (j+1)).map fun r=>(dU 5 0 ByteArray.empty r.1.2 r.1.1,r.2)):=by show _=_;unfold bH;rw [if_neg (by omega),if_pos hq]
 have Hq:=aj hq;clear h hT hS ih hq;go_in;go_wp2_with fail;refine HP.out.mono ?_;rintro e w1 ⟨rfl,b1⟩;have aQ:=aj (iL.out.keep b1);have HR1:=aj (dA.out.gW b1);have HW1:=aj (aG.of (c:=c) (HB0.out.trans (b1.mono HB0.out.size)));have HT1:=aj (aG.stays HS.out HT.out HW1.out (Nat.le_of_lt hlc));have HA:=aj (Rf n s HI.out c HS.out j w1 aQ.out HT1.out hs Hq.out hn);have hl1:=HR1.out.lt;clear b1 HP dA HB0 iL;rw [hpk];go_wp2_with fail;refine HA.out.mono ?_;rintro e w2 ⟨B2,⟨t,k,es,A,B,C,D,hx,rfl,hF,hSp,L2⟩ | ⟨hx,rfl⟩⟩
 ·have HL2:=aj L2;have HR2:=aj (HR1.out.move B2.size (B2.block _ HR1.out.lt (by omega)));have HW2:=aj (HW1.out.trans B2);have HZ:Hid (bH (aS s n) s j=some (t,k)):=by show _=_;rw [HX.out,hx]
  have HF:=aj hF;have UE:=aj hSp;clear B2 L2 HA HR1 HW1 aQ hx hF hSp;have r0:=HR2.out.q0;have r1:=HR2.out.q1;have r2:=HR2.out.q2;have r3:=HR2.out.q3;have r4:=HR2.out.q4;have s0:=HR2.out.f0;have s1:=HR2.out.f1;have s2:=HR2.out.f2;have s3:=HR2.out.f3;have s4:=HR2.out.f4;unfold fB at HF ⊢;go_wp2_with fail;refine bodyPost_ret (v:=.agg #[.int .i64 (ah t),.int .i64 (aB t),.string (aF t),.slice A (nL t) B,.slice C (nK t) D]) (by simp [results,Tryz.results140,go_sem, *]) rfl ?_;exact Nh HZ.out HW2.out hlc hl1 HF.out UE.out HL2.out
 ·have HW2:=aj (HW1.out.trans B2);have HZ:Hid (bH (aS s n) s j=none):=by show _=_;rw [HX.out,hx]
  clear B2 hx;go_wp2_with fail;exact ⟨rfl,HW2.out,Or.inr ⟨HZ.out,rfl⟩⟩
theorem Ib {Tb:World->Prop} (hD:bS Tb) (n:Nat) (s:ByteArray) (ih:tH Tb s n) (c:Nat) (hS:dB Tb c) (j:Nat) (w:World) (h:PL c s j w) (hT:Tb w) (hs:s.size<=4000) (hj:j<=s.size) (hn:s.size<j+n+1) (hq:cB s j=123) :
  Calls Tryz.prog 140 #[.pointer (some ⟨c,0,none⟩)] w (rD (n+1) c s (bH (aS s n) s j) id w):=by
 have HB0:=aj (bG w (.cells #[.int .i64 0,.int .i64 0,.string ⟨#[]⟩,.slice none 0 0,.slice none 0 0] 25));have dA:Hid (aK w.heap.size (.int .i64 0) (.int .i64 0) (.string ⟨#[]⟩) (.slice none 0 0) (.slice none 0 0) (w.alloc (.cells #[.int .i64 0,.int .i64 0,.string ⟨#[]⟩,.slice none 0 0,.slice none 0 0] 25))):=bD w _ _ _ _ _;have hlc:=h.lt;have iL:=aj (h.keep HB0.out);have HT:=aj hT;have HS:=aj hS;have HD:=aj hD;have HI:=aj ih;have HP:=aj (oI c s j _ iL.out hj);have hpk:=oN hq (by omega);have HX:Hid (bH (aS s n) s j=(fM (aS s n) s true (j+1)).map fun r=>(dU 6 0 ByteArray.empty r.1.2 r.1.1,r.2)):=by show _=_;unfold bH;rw [if_neg (by omega),if_neg (by omega),if_pos hq]
 have Hq:=aj hq;clear h hT hS hD ih hq;go_in;go_wp2_with fail;refine HP.out.mono ?_;rintro e w1 ⟨rfl,b1⟩;have aQ:=aj (iL.out.keep b1);have HR1:=aj (dA.out.gW b1);have HW1:=aj (aG.of (c:=c) (HB0.out.trans (b1.mono HB0.out.size)));have HT1:=aj (aG.stays HS.out HT.out HW1.out (Nat.le_of_lt hlc));have HA:=aj (Ku HD.out n s HI.out c HS.out j w1 aQ.out HT1.out hs Hq.out hn);have hl1:=HR1.out.lt;clear b1 HP dA HB0 iL;rw [hpk];go_wp2_with fail;refine HA.out.mono ?_;rintro e w2 ⟨B2,⟨t,k,es,A,B,C,D,hx,rfl,hF,hSp,L2⟩ | ⟨hx,rfl⟩⟩
 ·have HL2:=aj L2;have HR2:=aj (HR1.out.move B2.size (B2.block _ HR1.out.lt (by omega)));have HW2:=aj (HW1.out.trans B2);have HZ:Hid (bH (aS s n) s j=some (t,k)):=by show _=_;rw [HX.out,hx]
  have HF:=aj hF;have UE:=aj hSp;clear B2 L2 HA HR1 HW1 aQ hx hF hSp;have r0:=HR2.out.q0;have r1:=HR2.out.q1;have r2:=HR2.out.q2;have r3:=HR2.out.q3;have r4:=HR2.out.q4;have s0:=HR2.out.f0;have s1:=HR2.out.f1;have s2:=HR2.out.f2;have s3:=HR2.out.f3;have s4:=HR2.out.f4;unfold fB at HF ⊢;go_wp2_with fail;refine bodyPost_ret (v:=.agg #[.int .i64 (ah t),.int .i64 (aB t),.string (aF t),.slice A (nL t) B,.slice C (nK t) D]) (by simp [results,Tryz.results140,go_sem, *]) rfl ?_;exact Nh HZ.out HW2.out hlc hl1 HF.out UE.out HL2.out
 ·have HW2:=aj (HW1.out.trans B2);have HZ:Hid (bH (aS s n) s j=none):=by show _=_;rw [HX.out,hx]
  clear B2 hx;go_wp2_with fail;exact ⟨rfl,HW2.out,Or.inr ⟨HZ.out,rfl⟩⟩
theorem Rq {Tb:World->Prop} (hN:dz Tb) (n:Nat) (s:ByteArray) (c:Nat) (hS:dB Tb c) (j:Nat) (w:World) (h:PL c s j w) (hT:Tb w) (hs:s.size<=4000) (hj:j<=s.size) (hq:cB s j=45\/iM (cB s j)=true) :
  Calls Tryz.prog 140 #[.pointer (some ⟨c,0,none⟩)] w (rD (n+1) c s (bH (aS s n) s j) id w):=by
 have HB0:=aj (bG w (.cells #[.int .i64 0,.int .i64 0,.string ⟨#[]⟩,.slice none 0 0,.slice none 0 0] 25));have dA:Hid (aK w.heap.size (.int .i64 0) (.int .i64 0) (.string ⟨#[]⟩) (.slice none 0 0) (.slice none 0 0) (w.alloc (.cells #[.int .i64 0,.int .i64 0,.string ⟨#[]⟩,.slice none 0 0,.slice none 0 0] 25))):=bD w _ _ _ _ _;have hlc:=h.lt;have iL:=aj (h.keep HB0.out);have HT:=aj hT;have HS:=aj hS;have HN:=aj hN;have HP:=aj (oI c s j _ iL.out hj)
 have hrg:45<=cB s j/\cB s j<=57:=by
  rcases hq with hq | hq
  ·omega
  ·unfold iM at hq;simp at hq;omega
 have hpk:pk s j=cB s j:=AY (by omega);have HX:Hid (bH (aS s n) s j=(eY s j).map fun p=>(aR 3 p.1 ByteArray.empty,p.2)):=by show _=_;unfold bH;rw [if_neg (by omega),if_neg (by omega),if_neg (by omega),if_pos hq]
 have Hq:=aj hq;obtain ⟨a,ha⟩:∃ a,cB s j=a:=⟨_,rfl⟩;have HG:Hid (a=45\/iM a=true):=by rw [<- ha];exact hq
 rw [ha] at hrg hpk;have Ha:=aj ha;clear h hT hS hN hq ha;have y1:((a:Int)==34)=false:=by rw [beq_eq_false_iff_ne];omega
 have y2:((a:Int)==91)=false:=by rw [beq_eq_false_iff_ne];omega
 have y3:((a:Int)==123)=false:=by rw [beq_eq_false_iff_ne];omega
 clear hrg;go_in;go_wp2_with fail;refine HP.out.mono ?_;rintro e w1 ⟨rfl,b1⟩;have aQ:=aj (iL.out.keep b1);have HR1:=aj (dA.out.gW b1);have HW1:=aj (aG.of (c:=c) (HB0.out.trans (b1.mono HB0.out.size)));have HT1:=aj (aG.stays HS.out HT.out HW1.out (Nat.le_of_lt hlc));have HA:=aj (U9 HN.out c HS.out s j w1 aQ.out HT1.out hs Hq.out);clear b1 HP dA HB0 iL;rw [hpk];by_cases h45:a=45
 ·have y4:((a:Int)==45)=true:=by rw [beq_iff_eq];omega
  clear h45;go_wp2_with fail;refine HA.out.mono ?_;rintro e w2 ⟨B2,⟨v,k,hx,rfl,L2⟩ | ⟨hx,rfl⟩⟩
  ·have gG:=Am hj hx;have HL2:=aj L2;have HR2:=aj (HR1.out.move B2.size (B2.block _ HR1.out.lt (by omega)));have HW2:=aj (HW1.out.trans B2);have HZ:Hid (bH (aS s n) s j=some (aR 3 v ByteArray.empty,k)):=by show _=_;rw [HX.out,hx];rfl
   clear B2 L2 HA HR1 HW1 aQ hx;have r0:=HR2.out.q0;have r1:=HR2.out.q1;have r2:=HR2.out.q2;have r3:=HR2.out.q3;have r4:=HR2.out.q4;have s0:=HR2.out.f0;have s1:=HR2.out.f1;have s2:=HR2.out.f2;have s3:=HR2.out.f3;have s4:=HR2.out.f4;go_wp2_with fail;refine bodyPost_ret (v:=.agg #[.int .i64 3,.int .i64 v,.string ⟨#[]⟩,.slice none 0 0,.slice none 0 0]) (by simp [results,Tryz.results140,go_sem, *]) rfl ?_;exact DJ 3 v ByteArray.empty (by omega) (by omega) gG.2.2 (by simp) HZ.out HW2.out hlc HL2.out
  ·have HW2:=aj (HW1.out.trans B2);have HZ:Hid (bH (aS s n) s j=none):=by show _=_;rw [HX.out,hx];rfl
   clear B2 hx;go_wp2_with fail;exact ⟨rfl,HW2.out,Or.inr ⟨HZ.out,rfl⟩⟩
 ·have y4:((a:Int)==45)=false:=by rw [beq_eq_false_iff_ne];omega
  have hd:iM a=true:=HG.out.resolve_left h45;have CB:=aj (nH a w1);rw [hd] at CB;clear h45 hd;go_wp2_with fail;refine CB.out.mono ?_;rintro e w1' ⟨rfl,rfl⟩;go_wp2_with fail;refine HA.out.mono ?_;rintro e w2 ⟨B2,⟨v,k,hx,rfl,L2⟩ | ⟨hx,rfl⟩⟩
  ·have gG:=Am hj hx;have HL2:=aj L2;have HR2:=aj (HR1.out.move B2.size (B2.block _ HR1.out.lt (by omega)));have HW2:=aj (HW1.out.trans B2);have HZ:Hid (bH (aS s n) s j=some (aR 3 v ByteArray.empty,k)):=by show _=_;rw [HX.out,hx];rfl
   clear B2 L2 HA HR1 HW1 aQ hx;have r0:=HR2.out.q0;have r1:=HR2.out.q1;have r2:=HR2.out.q2;have r3:=HR2.out.q3;have r4:=HR2.out.q4;have s0:=HR2.out.f0;have s1:=HR2.out.f1;have s2:=HR2.out.f2;have s3:=HR2.out.f3;have s4:=HR2.out.f4;go_wp2_with fail;refine bodyPost_ret (v:=.agg #[.int .i64 3,.int .i64 v,.string ⟨#[]⟩,.slice none 0 0,.slice none 0 0]) (by simp [results,Tryz.results140,go_sem, *]) rfl ?_;exact DJ 3 v ByteArray.empty (by omega) (by omega) gG.2.2 (by simp) HZ.out HW2.out hlc HL2.out
  ·have HW2:=aj (HW1.out.trans B2);have HZ:Hid (bH (aS s n) s j=none):=by show _=_;rw [HX.out,hx];rfl
   clear B2 hx;go_wp2_with fail;exact ⟨rfl,HW2.out,Or.inr ⟨HZ.out,rfl⟩⟩
theorem OE (n:Nat) (s:ByteArray) (c:Nat) (j:Nat) (w:World) (h:PL c s j w) (hs:s.size<=4000) (hj:j<=s.size) (h1:cB s j≠34) (h2:cB s j≠91) (h3:cB s j≠123) (h4:¬ (cB s j=45\/iM (cB s j)=true)) :
  Calls Tryz.prog 140 #[.pointer (some ⟨c,0,none⟩)] w (rD (n+1) c s (bH (aS s n) s j) id w):=by
 have HB0:=aj (bG w (.cells #[.int .i64 0,.int .i64 0,.string ⟨#[]⟩,.slice none 0 0,.slice none 0 0] 25));have dA:Hid (aK w.heap.size (.int .i64 0) (.int .i64 0) (.string ⟨#[]⟩) (.slice none 0 0) (.slice none 0 0) (w.alloc (.cells #[.int .i64 0,.int .i64 0,.string ⟨#[]⟩,.slice none 0 0,.slice none 0 0] 25))):=bD w _ _ _ _ _;have hlc:=h.lt;have iL:=aj (h.keep HB0.out);have HP:=aj (oI c s j _ iL.out hj);have HX:=aj (Kz (f:=aS s n) h1 h2 h3 h4);have p1:=mP h1 (by omega);have p2:=mP h2 (by omega);have p3:=mP h3 (by omega);have p4:pk s j≠45:=mP (fun e=>h4 (Or.inl e)) (by omega);have p5:iM (pk s j)=false:=by rw [AV];simpa using fun e=>h4 (Or.inr e)
 clear h h1 h2 h3 h4;obtain ⟨a,ha⟩:∃ a,pk s j=a:=⟨_,rfl⟩;rw [ha] at HP p1 p2 p3 p4 p5;clear ha;have y1:((a:Int)==34)=false:=by rw [beq_eq_false_iff_ne];omega
 have y2:((a:Int)==91)=false:=by rw [beq_eq_false_iff_ne];omega
 have y3:((a:Int)==123)=false:=by rw [beq_eq_false_iff_ne];omega
 have y4:((a:Int)==45)=false:=by rw [beq_eq_false_iff_ne];omega
 clear p1 p2 p3 p4;go_in;go_wp2_with fail;refine HP.out.mono ?_;rintro e w1 ⟨rfl,b1⟩;have aQ:=aj (iL.out.keep b1);have HR1:=aj (dA.out.gW b1);have HW1:=aj (aG.of (c:=c) (HB0.out.trans (b1.mono HB0.out.size)));have HA:=aj (Rp n c s j w1 aQ.out hs hj);have CB:=aj (nH a w1);rw [p5] at CB;have hl1:=HR1.out.lt;clear b1 HP dA HB0 iL p5;go_wp2_with fail;refine CB.out.mono ?_;rintro e w1' ⟨rfl,rfl⟩;go_wp2_with fail;refine HA.out.mono ?_;rintro e w2 ⟨B2,⟨t,k,es,A,B,C,D,hx,rfl,hF,hSp,L2⟩ | ⟨hx,rfl⟩⟩
 ·have HL2:=aj L2;have HR2:=aj (HR1.out.move B2.size (B2.block _ HR1.out.lt (by omega)));have HW2:=aj (HW1.out.trans B2);have HZ:Hid (bH (aS s n) s j=some (t,k)):=by show _=_;rw [HX.out,hx]
  have HF:=aj hF;have UE:=aj hSp;clear B2 L2 HA HR1 HW1 aQ hx hF hSp;have r0:=HR2.out.q0;have r1:=HR2.out.q1;have r2:=HR2.out.q2;have r3:=HR2.out.q3;have r4:=HR2.out.q4;have s0:=HR2.out.f0;have s1:=HR2.out.f1;have s2:=HR2.out.f2;have s3:=HR2.out.f3;have s4:=HR2.out.f4;unfold fB at HF ⊢;go_wp2_with fail;refine bodyPost_ret (v:=.agg #[.int .i64 (ah t),.int .i64 (aB t),.string (aF t),.slice A (nL t) B,.slice C (nK t) D]) (by simp [results,Tryz.results140,go_sem, *]) rfl ?_;exact Nh HZ.out HW2.out hlc hl1 HF.out UE.out HL2.out
 ·have HW2:=aj (HW1.out.trans B2);have HZ:Hid (bH (aS s n) s j=none):=by show _=_;rw [HX.out,hx]
  clear B2 hx;go_wp2_with fail;exact ⟨rfl,HW2.out,Or.inr ⟨HZ.out,rfl⟩⟩
theorem Rs {Tb:World->Prop} (hD:bS Tb) (hN:dz Tb) (n:Nat) (s:ByteArray) (ih:tH Tb s n) (c:Nat) (hS:dB Tb c) (j:Nat) (w:World) (h:PL c s j w) (hT:Tb w) (hs:s.size<=4000) (hj:j<=s.size) (hn:s.size<j+n+1) :
  Calls Tryz.prog 140 #[.pointer (some ⟨c,0,none⟩)] w (rD (n+1) c s (bH (aS s n) s j) id w):=by
 by_cases h1:cB s j=34
 ·exact OC hD n s c hS j w h hT hs hj h1
 by_cases h2:cB s j=91
 ·exact OD n s ih c hS j w h hT hs hj hn h2
 by_cases h3:cB s j=123
 ·exact Ib hD n s ih c hS j w h hT hs hj hn h3
 by_cases h4:cB s j=45\/iM (cB s j)=true
 ·exact Rq hN n s c hS j w h hT hs hj h4
 ·exact OE n s c j w h hs hj h1 h2 h3 h4
end Go.Proofs.YtknakfpciccoaaaGreatDoor
