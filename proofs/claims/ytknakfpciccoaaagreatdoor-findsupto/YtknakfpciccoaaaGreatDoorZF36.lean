import Derived.Test.YtknakfpciccoaaaGreatDoorZF35
/- The walks of the reference's parser: objects, part by part. -/
set_option maxHeartbeats 8000000
set_option maxRecDepth 100000
namespace Go.Proofs.YtknakfpciccoaaaGreatDoor
open Go.RowKit
def St (c:Nat) (s:ByteArray) (good:Nat->Prop) (bad:Prop) (w:World):Prop:=(∃ j,j<=s.size/\good j/\RL c s j false w)\/(bad/\RB c s w)
theorem St.same {c:Nat} {s:ByteArray} {good:Nat->Prop} {bad:Prop} {w w':World} (h:St c s good bad w) (hb:w'.heap[c]?=w.heap[c]?) (hs:w.heap.size<=w'.heap.size):St c s good bad w':=by
 rcases h with ⟨j,h1,h2,h3⟩ | ⟨h1,h2⟩
 ·exact Or.inl ⟨j,h1,h2,h3.same hb hs⟩
 ·exact Or.inr ⟨h1,h2.same hb hs⟩
theorem P6 (c:Nat) (s:ByteArray) (i:Nat) (w:World) (h:RL c s i false w) (hs:s.size<=4000) (hi:i<=s.size) (hsk:sk s i=i) :
  Calls Tryz.prog 201 #[.pointer (some ⟨c,0,none⟩)] w fun e w'=>aG c w w'/\∃ x:ByteArray,e=.returned (.string x)/\x.size<=16000/\St c s (fun j=>fF s i=some (x,j)/\i<j) (fF s i=none) w':=by
 refine (EL c s i w h hs hi hsk).mono ?_;rintro e w' ⟨hB,⟨x,j,hx,rfl,hL⟩ | ⟨hx,rfl,hR⟩⟩
 ·have:=oD hx;exact ⟨hB,x,rfl,by omega,Or.inl ⟨j,by omega,⟨hx,by omega⟩,hL⟩⟩
 ·exact ⟨hB,⟨#[]⟩,rfl,by show (0:Nat)<=16000;omega,Or.inr ⟨hx,hR⟩⟩
theorem P7 (c:Nat) (s:ByteArray) (k:Nat) (x:ByteArray) (w:World) (h:St c s (fun j=>fF s (sk s k)=some (x,j)/\sk s k<j) (fF s (sk s k)=none) w) (hs:s.size<=4000) :
  Calls Tryz.prog 206 #[.pointer (some ⟨c,0,none⟩),.string ⟨#[58]⟩] w fun e w'=>e=.returned (.tuple #[])/\aG c w w'/\St c s (fun j=>iI s true k=some (x,j)/\k<j) (iI s true k=none) w':=by
 have hk:=eT s k;rcases h with ⟨j,hj,⟨hx,hlt⟩,hL⟩ | ⟨hx,hR⟩
 ·have hsj:=eT s j;by_cases Vf:cB s (sk s j)=58
  ·have hl:=aZ (s:=s) (i:=sk s j) (by omega);refine (sK c s j 58 w hL hs hj Vf).mono ?_;rintro e w' ⟨rfl,hB,hL'⟩;exact ⟨rfl,hB,Or.inl ⟨_,by omega,⟨Ia hx Vf,by omega⟩,hL'⟩⟩
  ·refine (wD c s j 58 w hL hs hj Vf).mono ?_;rintro e w' ⟨rfl,hB,hR⟩;exact ⟨rfl,hB,Or.inr ⟨Hw hx Vf,hR⟩⟩
 ·refine (BP c s ⟨#[58]⟩ w hR hs).mono ?_;rintro e w' ⟨rfl,hB,hR⟩;exact ⟨rfl,hB,Or.inr ⟨Hu hx,hR⟩⟩
theorem Mt (n c:Nat) (s:ByteArray) (w:World) (h:RB c s w) (hs:s.size<=4000) :
  Calls Tryz.prog 167 #[.pointer (some ⟨c,0,none⟩)] w (eP (n+1) c s none w):=by
 obtain ⟨i,hi,h⟩:=h;have HB0:=aj (bG w (.cells #[.int .i64 0,.int .i64 0,.string ⟨#[]⟩,.slice none 0 0,.slice none 0 0] 25));have dA:Hid (aK w.heap.size (.int .i64 0) (.int .i64 0) (.string ⟨#[]⟩) (.slice none 0 0) (.slice none 0 0) (w.alloc (.cells #[.int .i64 0,.int .i64 0,.string ⟨#[]⟩,.slice none 0 0,.slice none 0 0] 25))):=bD w _ _ _ _ _;have hlc:=h.lt;have HK:=aj (fQ c s i true _ (h.keep HB0.out) hs hi);have hle:=LY hi;clear h;go_in;go_wp2_with fail;refine HK.out.mono ?_;rintro e w1 ⟨rfl,B1,L1⟩;have aQ:=aj L1;have HR1:=aj (dA.out.move B1.size (B1.block _ dA.out.lt (by omega)));have HW1:=aj ((aG.of (c:=c) HB0.out).trans B1);have HP:=aj (bL c s (sk s i) true w1 L1);clear B1 L1 HK dA HB0;go_wp2_with fail;refine HP.out.mono ?_;rintro e w2 ⟨rfl,b2⟩;have HL2:=aj (aQ.out.keep b2);have HR2:=aj (HR1.out.gW b2);have HW2:=aj (HW1.out.trans (aG.of b2));clear b2 HP aQ HR1 HW1;have q2:=HL2.out.q2;have r0:=HR2.out.q0;have r1:=HR2.out.q1;have r2:=HR2.out.q2;have r3:=HR2.out.q3;have r4:=HR2.out.q4;have s0:=HR2.out.f0;have s1:=HR2.out.f1;have s2:=HR2.out.f2;have s3:=HR2.out.f3;have s4:=HR2.out.f4;go_wp2_with fail;refine bodyPost_ret (v:=.agg #[.int .i64 0,.int .i64 0,.string ⟨#[]⟩,.slice none 0 0,.slice none 0 0]) (by simp [results,Tryz.results167,go_sem, *]) rfl ?_;exact lT 0 0 ByteArray.empty (by omega) (by omega) (by omega) (by simp) rfl HW2.out hlc ⟨sk s i,hle,HL2.out⟩
theorem P8 (n:Nat) (s:ByteArray) (ih:Ce s n) (c k:Nat) (x:ByteArray) (w:World) (h:St c s (fun j=>iI s true k=some (x,j)/\k<j) (iI s true k=none) w) (hs:s.size<=4000) (hk:k<=s.size) (hn:s.size<k+n) :
  Calls Tryz.prog 167 #[.pointer (some ⟨c,0,none⟩)] w (aaL n c s ((iI s true k).bind fun p=>aS s n p.2) w):=by
 rcases h with ⟨j,hj,⟨hx,hlt⟩,hL⟩ | ⟨hx,hR⟩
 ·rw [hx];exact (ih c j w hL hj (by omega)).mono fun _ _ h=>eP.uni h
 ·rw [hx];obtain ⟨n,rfl⟩:∃ m,n=m+1:=⟨n - 1,by omega⟩;exact (Mt n c s w hR hs).mono fun _ _ h=>eP.uni h
theorem V8 (c:Nat) (s:ByteArray) (a:UInt8) (t:T) (x:Option (T×Nat)) (w:World) (h:St c s (fun j=>x=some (t,j)) (x=none) w) (hs:s.size<=4000) :
  Calls Tryz.prog 204 #[.pointer (some ⟨c,0,none⟩),.string ⟨#[a]⟩] w fun e w'=>aG c w w'/\((e=.returned (.bool true)/\∃ j,x=some (t,j)/\cB s (sk s j)=a.toNat/\sk s j<s.size/\RL c s (sk s j+1) false w')\/(e=.returned (.bool false)/\St c s (fun j=>∃ j0,x=some (t,j0)/\j=sk s j0/\cB s j≠a.toNat) (x=none) w')):=by
 rcases h with ⟨j,hj,hx,hL⟩ | ⟨hx,hR⟩
 ·have hsj:=fu hj;by_cases ha:cB s (sk s j)=a.toNat
  ·have hlt:=aZ (s:=s) (i:=sk s j) (by rw [ha];exact a.toNat_lt);refine (wC c s j a w hL hs hj ha).mono ?_;rintro e w' ⟨rfl,hB,hL'⟩;exact ⟨hB,Or.inl ⟨rfl,j,hx,ha,hlt,hL'⟩⟩
  ·refine (Cg c s j a w hL hs hj ha).mono ?_;rintro e w' ⟨rfl,hB,hL'⟩;exact ⟨hB,Or.inr ⟨rfl,Or.inl ⟨sk s j,hsj,⟨j,hx,rfl,ha⟩,hL'⟩⟩⟩
 ·refine (uG c s ⟨#[a]⟩ w hR hs).mono ?_;rintro e w' ⟨rfl,hB,hR'⟩;exact ⟨hB,Or.inr ⟨rfl,Or.inr ⟨hx,hR'⟩⟩⟩
theorem P9 (c:Nat) (s:ByteArray) (a:Nat) (t:T) (x:Option (T×Nat)) (w:World) (h:St c s (fun j=>∃ j0,x=some (t,j0)/\j=sk s j0/\cB s j≠a) (x=none) w) (hs:s.size<=4000) :
  Calls Tryz.prog 206 #[.pointer (some ⟨c,0,none⟩),.string ⟨#[44]⟩] w fun e w'=>e=.returned (.tuple #[])/\aG c w w'/\((∃ j0,x=some (t,j0)/\cB s (sk s j0)=44/\sk s j0<s.size/\RL c s (sk s j0+1) false w')\/((x=none\/∃ j0,x=some (t,j0)/\cB s (sk s j0)≠44/\cB s (sk s j0)≠a)/\RB c s w')):=by
 rcases h with ⟨j,hj,⟨j0,hx,rfl,hne⟩,hL⟩ | ⟨hx,hR⟩
 ·by_cases sj:cB s (sk s j0)=44
  ·have hlt:=aZ (s:=s) (i:=sk s j0) (by omega);have:=sK c s (sk s j0) 44 w hL hs hj (by rw [lW];exact sj);rw [lW] at this;refine this.mono ?_;rintro e w' ⟨rfl,hB,hL'⟩;exact ⟨rfl,hB,Or.inl ⟨j0,hx,sj,hlt,hL'⟩⟩
  ·refine (wD c s (sk s j0) 44 w hL hs hj (by rw [lW];exact sj)).mono ?_;rintro e w' ⟨rfl,hB,hR'⟩;exact ⟨rfl,hB,Or.inr ⟨Or.inr ⟨j0,hx,sj,hne⟩,hR'⟩⟩
 ·refine (BP c s ⟨#[44]⟩ w hR hs).mono ?_;rintro e w' ⟨rfl,hB,hR'⟩;exact ⟨rfl,hB,Or.inr ⟨Or.inl hx,hR'⟩⟩
theorem JI.wait {f:Nat} {k:Int} {c:Nat} {w:World} {rb bx lo:Nat} {L:List T} {K:List ByteArray} {Lv Kv Cy:Value} {xs:List Value} {sub:Nat->List jh} {wr w6:World} {o:Obj} {x:T} {es:List jh} {v:Value} {g cap lo' b6:Nat} {c0 c1 c2 c3 c4:Value}
  (h:JI f k c w rb bx lo L K Lv Kv xs sub wr) (hF:fC wr f v x es) (hS':mD lo' wr es) (hl:bx<lo') (hb6:bx≠b6) (hX:aK b6 c0 c1 c2 c3 c4 wr) (Ub:∀ b,Kv.ownBlock=some b->b<lo'/\b≠b6)
  (hS:mD lo wr (jB sub L.length++es++[⟨Lv,L.length,Kv,K.length⟩])) (hK':Cy=.slice (some ⟨g,0,none⟩) (K.length+1) cap) (hG:(wr.alloc o).grownBy w6 Kv.ownBlock) (hat:Kv.ownBlock=some g\/g=wr.heap.size+1) (hlt:g<w6.heap.size) :
  fC (w6.setCell ⟨bx,4,none⟩ Cy) f v x es/\mD lo' (w6.setCell ⟨bx,4,none⟩ Cy) es/\mD lo (w6.setCell ⟨bx,4,none⟩ Cy) (jB sub L.length++es++[⟨Lv,L.length,Cy,K.length+1⟩])/\aK b6 c0 c1 c2 c3 c4 (w6.setCell ⟨bx,4,none⟩ Cy):=by
 have hsz:wr.heap.size<=w6.heap.size:=by have:=hG.size;simp at this;omega
 have hblk:∀ b,b<wr.heap.size->some b≠Kv.ownBlock->b≠bx->(w6.setCell ⟨bx,4,none⟩ Cy).heap[b]?=wr.heap[b]?:=by
  intro b h1 h2 h3;rw [Below.heap_setCell _ _ _ _ (by simpa using h3),hG.block b (by simp;omega) h2];exact Below.heap_alloc _ _ _ h1
 refine ⟨hF.move fun b hb=>?_,hS'.keep (by simpa [World.setCell] using hsz),?_,hX.move (by simpa [World.setCell] using hsz) (hblk b6 hX.lt ?_ (by omega))⟩
 ·have hb':=hS'.lies b hb;refine hblk b hb'.2 ?_ (by omega);intro e;have:=(Ub b e.symm).1;omega
 ·refine hS.Zu (by simpa [World.setCell] using hsz) ?_ ?_ h.grow.low
  ·rcases hat with e | e
   ·left;rw [hK',e];rfl
   ·right
    intro g' hg';rw [hK'] at hg';have:g'=g:=by simpa [Value.ownBlock] using hg'.symm
    omega
  ·intro g' hg';rw [hK'] at hg';have:g'=g:=by simpa [Value.ownBlock] using hg'.symm
   subst this;simpa [World.setCell] using hlt
 ·intro e;exact (Ub b6 e.symm).2 rfl
theorem wF {s:ByteArray} {n k:Nat} {t:T} {j:Nat} {nm:ByteArray} (hnm:∀ p,iI s true k=some p->p.1=nm) (h:((iI s true k).bind fun p=>aS s n p.2)=some (t,j)):∃ k',iI s true k=some (nm,k')/\aS s n k'=some (t,j):=by
 cases hk:iI s true k with
 | none=>rw [hk] at h;cases h
 | some p =>
  rw [hk] at h;exact ⟨p.2,by rw [<- hnm p hk],h⟩
theorem F6 {s:ByteArray} {n m k:Nat} (h:((iI s true k).bind fun p=>aS s n p.2)=none):zw (aS s n) s true (m+1) k=none:=by
 cases hk:iI s true k with
 | none=>exact wT hk
 | some p =>
  rw [hk] at h;exact r9 hk h
theorem Jy (n:Nat) (s:ByteArray) (ih:Ce s n) (c j:Nat) (w:World) (h:RL c s j false w) (hs:s.size<=4000) (hj:j<=s.size) (hn:s.size<j+n) :
  Calls Tryz.prog 207 #[.pointer (some ⟨c,0,none⟩)] w (F5 n c 6 s true j w):=by
 obtain ⟨iS,Rk,Rl,Rm,Rn⟩:=info_parts Dz;obtain ⟨iV,G8,G9,Hf,Ho⟩:=info_parts yg;have Kr:=eT s j;have Kt:=fu hj;have Nb:=aj (JI.start (f:=n) (k:=6) h.lt);have iL:=aj (h.keep (((Below.refl _ _).alloc (Nat.le_refl _) (.cells #[.int .i64 0,.int .i64 0,.string ⟨#[]⟩,.slice none 0 0,.slice none 0 0] 25)).alloc (by simp) (.cells #[.int .i64 6,.int .i64 0,.string ⟨#[]⟩,.slice none 0 0,.slice none 0 0] 25)));have HI:=aj ih;have hcl:=h.lt;obtain ⟨ed,hed⟩:∃ ed,decide (cB s (sk s j)=125)=ed:=⟨_,rfl⟩;obtain ⟨k0,hk0⟩:∃ k0,(if ed=true then sk s j+1 else sk s j)=k0:=⟨_,rfl⟩
 have HO:Hid (Calls Tryz.prog 204 #[.pointer (some ⟨c,0,none⟩),.string ⟨#[125]⟩] ((w.alloc (.cells #[.int .i64 0,.int .i64 0,.string ⟨#[]⟩,.slice none 0 0,.slice none 0 0] 25)).alloc (.cells #[.int .i64 6,.int .i64 0,.string ⟨#[]⟩,.slice none 0 0,.slice none 0 0] 25)) (nU c s ed k0 false ((w.alloc (.cells #[.int .i64 0,.int .i64 0,.string ⟨#[]⟩,.slice none 0 0,.slice none 0 0] 25)).alloc (.cells #[.int .i64 6,.int .i64 0,.string ⟨#[]⟩,.slice none 0 0,.slice none 0 0] 25)))):=by
  cases ed with
  | true =>
   subst hk0;exact wC c s j 125 _ iL.out hs hj (of_decide_eq_true hed)
  | false =>
   subst hk0;exact Cg c s j 125 _ iL.out hs hj (of_decide_eq_false hed)
 have HA:Hid (gH n s true j (!ed) k0 [] []):=by
  cases ed with
  | true=>subst hk0;exact nM (of_decide_eq_true hed)
  | false=>subst hk0;exact nJ (of_decide_eq_false hed)
 have hk1:j<=k0/\k0<=s.size:=by
  cases ed with
  | true=>subst hk0;have:=aZ (s:=s) (i:=sk s j) (by have:=of_decide_eq_true hed;omega);simp;omega
  | false=>subst hk0;simp;omega
 clear h ih hed hk0 Kr Kt;go_in;go_wp2_with fail;refine HO.out.mono ?_;rintro e w1 ⟨rfl,B1,L1⟩;have Rh:=aj (Nb.out.inner B1);have aQ:=aj L1;clear B1 L1 HO Nb iL;go_wp2_with fail;go_loopg [4] (ms s (!ed) k0) (fun g b wr=>∃ (ed:Bool) (k:Nat) (L:List T) (K:List ByteArray) (Lv Kv:Value) (xs:List Value) (sub:Nat->List jh),b=.bool ed/\L.length<=k/\K.length<=k/\k<=4001/\Hid (JI n 6 c w w.heap.size (w.heap.size+1) (w.heap.size+2) L K Lv Kv xs sub wr)/\((g=ms s (!ed) k/\j<=k/\k<=s.size/\Hid (RL c s k false wr)/\Hid (gH n s true j (!ed) k L K))\/(g=0/\ed=false/\Hid (RB c s wr)/\Hid (fM (aS s n) s true j=none))))
 case atStart=>exact ⟨ed,k0,[],[],_,_,[],fun _=>[],rfl,by simp,by simp,by omega,Rh,Or.inl ⟨rfl,hk1.1,hk1.2,aQ,HA⟩⟩
 case round =>
  clear Rh aQ HA hk1;obtain ⟨ed,k,L,K,Lv,Kv,xs,sub,rfl,YS,hlK,hk4,HE,hst⟩:=hrel;rcases hst with ⟨rfl,hk1,hk2,jR,HA⟩ | ⟨rfl,rfl,HR,HZ⟩
  ·cases ed with
   | true =>
    obtain ⟨A,B,rfl⟩:=aJ HE.out.grow.oL;obtain ⟨C,D,rfl⟩:=aJ HE.out.grow.vB;have HX:Hid ((fM (aS s n) s true j).map (fun r=>(dU (6:Int) 0 ByteArray.empty r.1.2 r.1.1,r.2))=some (dU (6:Int) 0 ByteArray.empty L K,k)):=by show _=_;rw [HA.out.2 rfl];rfl
    have r0:=HE.out.res.q0;have r1:=HE.out.res.q1;have r2:=HE.out.res.q2;have r3:=HE.out.res.q3;have r4:=HE.out.res.q4;have s0:=HE.out.res.f0;have s1:=HE.out.res.f1;have s2:=HE.out.res.f2;have s3:=HE.out.res.f3;have s4:=HE.out.res.f4;have t0:=HE.out.box.q0;have t1:=HE.out.box.q1;have t2:=HE.out.box.q2;have t3:=HE.out.box.q3;have t4:=HE.out.box.q4;go_wp2_with fail;refine bodyPost_ret (v:=.agg #[.int .i64 6,.int .i64 0,.string ⟨#[]⟩,.slice A L.length B,.slice C K.length D]) (by simp [results,Tryz.results207,go_sem, *]) rfl ?_;exact wE (k:=6) (by omega) (by omega) (by omega) HE.out (Or.inl ⟨k,HX.out,jR.out⟩)
   | false =>
    obtain ⟨m,hm,hX⟩:=HA.out.1 rfl;have HX:=aj hX;obtain ⟨m,rfl⟩:∃ m',m=m'+1:=⟨m - 1,by omega⟩;have q2:=jR.out.q2;have HK:=aj (fQ c s k false wr jR.out hs (by omega));have hsk:=fu hk2
    have Ub:Hid (∀ b,Kv.ownBlock=some b->b<wr.heap.size):=by
     intro b hb;exact (HE.out.grow.sep.lies b (by rw [aO,fV];simp [blk,hb])).2
    clear HA hX;go_wp2_with fail;refine HK.out.mono ?_;rintro e w2 ⟨rfl,B2,L2⟩;have HT:=aj (P6 c s (sk s k) w2 L2 hs hsk (lW s k));clear L2 HK q2 jR;go_wp2_with fail;refine HT.out.mono ?_;rintro e w3 ⟨B3,nm,rfl,hnm,S3⟩;have HM:=aj (P7 c s k nm w3 S3 hs);clear S3 HT;go_wp2_with fail;refine HM.out.mono ?_;rintro e w4 ⟨rfl,B4,S4⟩
    have HN:Hid (∀ p,iI s true k=some p->p.1=nm):=by
     intro p hp;rcases S4 with ⟨j',_,⟨h1,_⟩,_⟩ | ⟨h1,_⟩
     ·rw [h1] at hp;cases hp;rfl
     ·rw [h1] at hp;cases hp
    have HC:=aj (P8 n s HI.out c k nm w4 S4 hs hk2 (by omega));clear S4 HM;generalize hx:((iI s true k).bind fun p=>aS s n p.2)=x at HC;go_wp2_with fail;refine HC.out.mono ?_;rintro e w5 ⟨B5,t,es,A,B,C,D,rfl,hF,hS,hcase⟩;have B25:=((B2.trans B3).trans B4).trans B5;have hsz:wr.heap.size<=w4.heap.size:=((B2.trans B3).trans B4).size;have DF:=aj (HE.out.inner B25);have Kw:=aj (DF.out.keep ((Below.refl _ _).alloc (Nat.le_refl _) (vC t A B C D)));have Uc:=aj (Kw.out.keep ((Below.refl _ _).alloc (Nat.le_refl _) (.cells #[.string nm] 9)));have hba:Below w5.heap.size w5 (w5.alloc (vC t A B C D)):=bG _ _;have HF:=aj (hF.keep hS hba);have Ze:=aj ((hS.lower hsz).keep hba.size);have HS:=aj ((HE.out.E9 B25 (hS.lower hsz)).keep hba.size);have sS:=aj (bD w5 (.int .i64 (ah t)) (.int .i64 (aB t)) (.string (aF t)) (.slice A (nL t) B) (.slice C (nK t) D));have hw5:wr.heap.size<=w5.heap.size:=B25.size
    have XI:Hid (St c s (fun j'=>x=some (t,j')) (x=none) (w5.alloc (vC t A B C D))):=by
     rcases hcase with ⟨j',h1,h2⟩ | ⟨h1,h2⟩
     ·refine Or.inl ⟨j',?_,h1,h2.keep hba⟩;rw [<- hx] at h1;obtain ⟨k',hk',hv⟩:=wF HN.out h1;exact (dV n k' t j' (kR hk2 hk').2.1 hv).2
     ·exact Or.inr ⟨h1,h2.keep hba⟩
    have Hx:=aj hx;have c4:=Kw.out.box.q4;have hbx:=HE.out.box.lt;clear B2 B3 B4 B5 B25 hF hS hcase hba HE HC DF hx
    go_wp2_with (at_builtin;first | (refine wpList_append_lies _ rfl (.tmp 28) (.tmp 30) 23 rfl (w.heap.size+2) 9 iS _ 1 16 Tryz.underlying23 Rk Rl Rm Rn rfl (by omega) Kv K.length (lK K) rfl Uc.out.grow.vB ⟨w5.heap.size+1,0,none⟩ 1 1 [.string nm] (by rfl) rfl (by have:=World.news_of_block (cs:=#[.string nm]) (t:=9) (fr:=(0,0)) (heap_alloc_new (w5.alloc (vC t A B C D)) (.cells #[.string nm] 9));simpa using this) (by simp [Value.oneCell']) (by omega) (by unfold maxLen;omega) (by omega) Uc.out.grow.low (w5.heap.size+2) (by simp) ?_;intro g4 cap4 w7 yh rF OB Ve;have Fb:=aj (Uc.out.mO rF Uc.out.grow.vB);have hc7:=Fb.out.q4;have hf7:=Fb.out.f4;have HQ:=aj (JI.wait (k:=6) (g:=g4) (cap:=cap4) (o:=.cells #[.string nm] 9) Kw.out HF.out Ze.out hbx (by omega) sS.out (fun b hb=>⟨Ub.out b hb,by have:=Ub.out b hb;omega⟩) HS.out rfl rF (OB.imp id fun e=>by simp;omega) Ve);have x0:=HQ.out.2.2.2.q0;have x1:=HQ.out.2.2.2.q1;have x2:=HQ.out.2.2.2.q2;have x3:=HQ.out.2.2.2.q3;have x4:=HQ.out.2.2.2.q4;have H8:=aj (Kw.out.Wz (.cells #[.string nm] 9) (by omega) yh rF (OB.imp id fun e=>by simp;omega));have c83:=H8.out.1.box.q3;have Qu:=aj H8.out.1;have Ud:=aj (Qu.out.keep ((Below.refl _ _).alloc (Nat.le_refl _) (vC t A B C D)));have hnw:=World.news_of_block (cs:=#[.int .i64 (ah t),.int .i64 (aB t),.string (aF t),.slice A (nL t) B,.slice C (nK t) D]) (t:=25) (fr:=(0,0)) (heap_alloc_new (w7.setCell ⟨w.heap.size+1,4,none⟩ (.slice (some ⟨g4,0,none⟩) (K.length+1) cap4)) (vC t A B C D));have Hnw:=aj hnw;clear hnw) | (refine wpList_append_lies _ rfl (.tmp 34) (.tmp 36) 22 rfl (w.heap.size+2) 25 iV _ 5 80 Tryz.underlying22 G8 G9 Hf Ho rfl (by omega) Lv L.length xs rfl Ud.out.grow.oL ⟨w7.heap.size,0,none⟩ 1 1 [.int .i64 (ah t),.int .i64 (aB t),.string (aF t),.slice A (nL t) B,.slice C (nK t) D] (by rfl) rfl (by have:=Hnw.out;simpa [World.setCell] using this) (by simp [Value.oneCell']) (by omega) (by unfold maxLen;omega) (by omega) Ud.out.grow.low (w7.heap.size+1) (by simp [World.setCell]) ?_;intro g9 agM w9 Xk Mv aaM adn;have HX9:=aj (Ud.out.mO Mv Ud.out.grow.oL);have hc9:=HX9.out.q3;have hf9:=HX9.out.f3))
    have hKl:(K++[nm]).length=K.length+1:=by simp
    have HS8:Hid (mD (w.heap.size+2) (w7.setCell ⟨w.heap.size+1,4,none⟩ (.slice (some ⟨g4,0,none⟩) (K.length+1) cap4)) (jB sub L.length++es++[⟨Lv,L.length,.slice (some ⟨g4,0,none⟩) (K.length+1) cap4,(K++[nm]).length⟩])):=by rw [hKl];exact HQ.out.2.2.1
    have H9:=aj (Qu.out.M9 (vC t A B C D) HQ.out.1 HQ.out.2.1 HS8.out Xk Mv (aaM.imp id fun e=>by simp [World.setCell];omega));have UD:=aj H9.out.1;have HK9:=aj ((XI.out.same H8.out.2.1 H8.out.2.2).same H9.out.2.1 H9.out.2.2);have HO:=aj (V8 c s 125 t x _ HK9.out hs);clear yh rF OB Ve Fb hc7 hf7 HQ x0 x1 x2 x3 x4 H8 c83 Qu Ud Hnw Xk Mv aaM adn HX9 hc9 hf9 HS8 H9 HF HS Ze sS Kw Uc c4 XI HK9;go_wp2_with fail;refine HO.out.mono ?_;rintro e w10 ⟨B10,⟨rfl,j',hx',Yr,hlt',L10⟩ | ⟨rfl,S10⟩⟩
    ·have Qa:=aj (UD.out.inner B10);have adp:=aj L10;obtain ⟨k',hk',hv⟩:=wF HN.out (Hx.out.trans hx');have gG:=dV n k' t j' (kR hk2 hk').2.1 hv;have aaN:=(kR hk2 hk').1;have Vd:=eT s j';have adq:Hid (gH n s true j false (sk s j'+1) (L++[t]) (K++[nm])):=⟨(fun h=>by cases h),fun _=>HX.out.trans (uV K L hk' hv Yr)⟩;clear B10 L10 HO UD hx' hk' hv;go_wp2_with fail;go_roundg (ms s false (sk s j'+1))
     case rel=>exact ⟨true,sk s j'+1,L++[t],K++[nm],_,_,_,_,rfl,by simp;omega,by simp;omega,by omega,Qa,Or.inl ⟨rfl,by omega,by omega,adp,adq⟩⟩
     case measure=>unfold ms;simp;omega
    ·have Qa:=aj (UD.out.inner B10);have Yt:=aj (P9 c s 125 t x w10 S10 hs);clear B10 S10 HO UD;go_wp2_with fail;refine Yt.out.mono ?_;rintro e w11 ⟨rfl,B11,⟨j',hx',sj,hlt',L11⟩ | ⟨hbad,R11⟩⟩
     ·have Yu:=aj (Qa.out.inner B11);have adr:=aj L11;obtain ⟨k',hk',hv⟩:=wF HN.out (Hx.out.trans hx');have gG:=dV n k' t j' (kR hk2 hk').2.1 hv;have aaN:=(kR hk2 hk').1;have Vd:=eT s j';have ads:Hid (gH n s true j true (sk s j'+1) (L++[t]) (K++[nm])):=⟨fun _=>⟨m,by omega,HX.out.trans (uU K L hk' hv sj)⟩,fun h=>by cases h⟩;clear B11 L11 Yt Qa hx' hk' hv;go_wp2_with fail;go_roundg (ms s true (sk s j'+1))
      case rel=>exact ⟨false,sk s j'+1,L++[t],K++[nm],_,_,_,_,rfl,by simp;omega,by simp;omega,by omega,Yu,Or.inl ⟨rfl,by omega,by omega,adr,ads⟩⟩
      case measure=>unfold ms;simp;omega
     ·have Yu:=aj (Qa.out.inner B11);have adt:=aj R11
      have HZ:Hid (fM (aS s n) s true j=none):=by
       show _=_;rw [HX.out];rcases hbad with hn' | ⟨j',hx',sj,Yr⟩
       ·rw [F6 (Hx.out.trans hn')];rfl
       ·obtain ⟨k',hk',hv⟩:=wF HN.out (Hx.out.trans hx');rw [uW hk' hv sj Yr];rfl
      clear B11 R11 Yt Qa hbad;go_wp2_with fail;go_roundg 0
      case rel=>exact ⟨false,k+1,L++[t],K++[nm],_,_,_,_,rfl,by simp;omega,by simp;omega,by omega,Yu,Or.inr ⟨rfl,rfl,adt,HZ⟩⟩
      case measure=>unfold ms;simp;omega
  ·obtain ⟨A,B,rfl⟩:=aJ HE.out.grow.oL;obtain ⟨C,D,rfl⟩:=aJ HE.out.grow.vB;have HX:Hid ((fM (aS s n) s true j).map (fun r=>(dU (6:Int) 0 ByteArray.empty r.1.2 r.1.1,r.2))=none):=by show _=_;rw [HZ.out];rfl
   obtain ⟨jb,hjb,Ro⟩:=HR.out;have q2:=Ro.q2;have HR':=aj HR.out;clear Ro HR;have r0:=HE.out.res.q0;have r1:=HE.out.res.q1;have r2:=HE.out.res.q2;have r3:=HE.out.res.q3;have r4:=HE.out.res.q4;have s0:=HE.out.res.f0;have s1:=HE.out.res.f1;have s2:=HE.out.res.f2;have s3:=HE.out.res.f3;have s4:=HE.out.res.f4;have t0:=HE.out.box.q0;have t1:=HE.out.box.q1;have t2:=HE.out.box.q2;have t3:=HE.out.box.q3;have t4:=HE.out.box.q4;go_wp2_with fail;refine bodyPost_ret (v:=.agg #[.int .i64 6,.int .i64 0,.string ⟨#[]⟩,.slice A L.length B,.slice C K.length D]) (by simp [results,Tryz.results207,go_sem, *]) rfl ?_;exact wE (k:=6) (by omega) (by omega) (by omega) HE.out (Or.inr ⟨HX.out,HR'.out⟩)
theorem Jz (n c:Nat) (s:ByteArray) (w:World) (h:RB c s w) (hs:s.size<=4000) :
  Calls Tryz.prog 207 #[.pointer (some ⟨c,0,none⟩)] w (eP (n+1) c s none w):=by
 have hcl:c<w.heap.size:=by obtain ⟨_,_,hL⟩:=h;exact hL.lt
 have Nb:=aj (JI.start (f:=n) (k:=6) hcl);have dA:=aj (h.keep (((Below.refl _ _).alloc (Nat.le_refl _) (.cells #[.int .i64 0,.int .i64 0,.string ⟨#[]⟩,.slice none 0 0,.slice none 0 0] 25)).alloc (by simp) (.cells #[.int .i64 6,.int .i64 0,.string ⟨#[]⟩,.slice none 0 0,.slice none 0 0] 25)));have HO:=aj (uG c s ⟨#[125]⟩ _ dA.out hs);clear h;go_in;go_wp2_with fail;refine HO.out.mono ?_;rintro e w1 ⟨rfl,B1,R1⟩;have HE:=aj (Nb.out.inner B1);have HR1:=aj R1;clear B1 R1 HO Nb dA;go_wp2_with fail;go_loopg [4] 0 (fun g b wr=>g=0/\b=.bool false/\Hid (RB c s wr)/\Hid (JI n 6 c w w.heap.size (w.heap.size+1) (w.heap.size+2) [] [] (.slice none 0 0) (.slice none 0 0) [] (fun _=>[]) wr))
 case atStart=>exact ⟨rfl,rfl,HR1,HE⟩
 case round =>
  clear HR1 HE;obtain ⟨rfl,rfl,HR,HE⟩:=hrel;obtain ⟨jb,hjb,Ro⟩:=HR.out;have q2:=Ro.q2;have HR':=aj HR.out;clear Ro HR;have r0:=HE.out.res.q0;have r1:=HE.out.res.q1;have r2:=HE.out.res.q2;have r3:=HE.out.res.q3;have r4:=HE.out.res.q4;have s0:=HE.out.res.f0;have s1:=HE.out.res.f1;have s2:=HE.out.res.f2;have s3:=HE.out.res.f3;have s4:=HE.out.res.f4;have t0:=HE.out.box.q0;have t1:=HE.out.box.q1;have t2:=HE.out.box.q2;have t3:=HE.out.box.q3;have t4:=HE.out.box.q4;go_wp2_with fail;refine bodyPost_ret (v:=.agg #[.int .i64 6,.int .i64 0,.string ⟨#[]⟩,.slice none 0 0,.slice none 0 0]) (by simp [results,Tryz.results207,go_sem, *]) rfl ?_;exact wE (k:=6) (L:=[]) (K:=[]) (by omega) (by simp) (by simp) HE.out (Or.inr ⟨rfl,HR'.out⟩)
theorem F7 {n m c:Nat} {s:ByteArray} {w w1 w2:World} {x:Option (T×Nat)} {e:Ending} (hB:aG c w w1) (hc:c<w.heap.size) (hlo:w.heap.size<w1.heap.size) (h:eP n c s x w1 e w2) (hnm:n=m) :
  ∃ t A B C D,e=.returned (.agg #[.int .i64 (ah t),.int .i64 (aB t),.string (aF t),.slice A (nL t) B,.slice C (nK t) D])/\(aK w.heap.size (.int .i64 0) (.int .i64 0) (.string ⟨#[]⟩) (.slice none 0 0) (.slice none 0 0) w1->aK w.heap.size (.int .i64 0) (.int .i64 0) (.string ⟨#[]⟩) (.slice none 0 0) (.slice none 0 0) w2) /\
   eP m c s x w (.returned (.agg #[.int .i64 (ah t),.int .i64 (aB t),.string (aF t),.slice A (nL t) B,.slice C (nK t) D])) (((((w2.setCell ⟨w.heap.size,0,none⟩ (.int .i64 (ah t))).setCell ⟨w.heap.size,1,none⟩ (.int .i64 (aB t))).setCell ⟨w.heap.size,2,none⟩ (.string (aF t))).setCell ⟨w.heap.size,3,none⟩ (.slice A (nL t) B)).setCell ⟨w.heap.size,4,none⟩ (.slice C (nK t) D)):=by
 subst hnm;obtain ⟨hB2,h⟩:=h;have kS:aK w.heap.size (.int .i64 0) (.int .i64 0) (.string ⟨#[]⟩) (.slice none 0 0) (.slice none 0 0) w1->aK w.heap.size (.int .i64 0) (.int .i64 0) (.string ⟨#[]⟩) (.slice none 0 0) (.slice none 0 0) w2:=fun R=>R.move hB2.size (hB2.block _ R.lt (by omega));rcases h with ⟨t,j,es,A,B,C,D,hx,he,hF,hS,hL⟩ | ⟨hx,⟨t,es,A,B,C,D,he,hF,hS⟩,hR⟩
 ·have hp:=jC (rb:=w.heap.size) (hB.trans hB2) hc hF hS (Nat.le_refl _) hlo (.int .i64 (ah t)) (.int .i64 (aB t)) (.string (aF t)) (.slice A (nL t) B) (.slice C (nK t) D);exact ⟨t,A,B,C,D,he,kS,hp.1,Or.inl ⟨t,j,es,A,B,C,D,hx,rfl,hp.2.1,hp.2.2.1,hL.same hp.2.2.2.1 (by rw [hp.2.2.2.2];exact Nat.le_refl _)⟩⟩
 ·have hp:=jC (rb:=w.heap.size) (hB.trans hB2) hc hF hS (Nat.le_refl _) hlo (.int .i64 (ah t)) (.int .i64 (aB t)) (.string (aF t)) (.slice A (nL t) B) (.slice C (nK t) D);exact ⟨t,A,B,C,D,he,kS,hp.1,Or.inr ⟨hx,⟨t,es,A,B,C,D,rfl,hp.2.1,hp.2.2.1⟩,hR.same hp.2.2.2.1 (by rw [hp.2.2.2.2];exact Nat.le_refl _)⟩⟩
theorem Qb (n c:Nat) (s:ByteArray) (i:Nat) (w:World) (h:RL c s i false w) (hs:s.size<=4000) (hi:i<=s.size) (hq:cB s (sk s i)=34) :
  Calls Tryz.prog 167 #[.pointer (some ⟨c,0,none⟩)] w (eP (n+1) c s (aS s (n+1) i) w):=by
 have HB0:=aj (bG w (.cells #[.int .i64 0,.int .i64 0,.string ⟨#[]⟩,.slice none 0 0,.slice none 0 0] 25));have dA:Hid (aK w.heap.size (.int .i64 0) (.int .i64 0) (.string ⟨#[]⟩) (.slice none 0 0) (.slice none 0 0) (w.alloc (.cells #[.int .i64 0,.int .i64 0,.string ⟨#[]⟩,.slice none 0 0,.slice none 0 0] 25))):=bD w _ _ _ _ _;have hlc:=h.lt;have HK:=aj (fQ c s i false _ (h.keep HB0.out) hs (by omega));have hle:=fu hi;have aaO:=lW s i;have HX:Hid (aS s (n+1) i=(fF s (sk s i)).map fun p=>(aR 4 0 p.1,p.2)):=by show _=_;rw [aS];unfold bH;rw [if_pos hq]
 have hpk:=oN hq (by omega);clear h hq;generalize sk s i=j at *;go_in;go_wp2_with fail;refine HK.out.mono ?_;rintro e w1 ⟨rfl,B1,L1⟩;have aQ:=aj L1;have HR1:=aj (dA.out.move B1.size (B1.block _ dA.out.lt (by omega)));have HW1:=aj ((aG.of (c:=c) HB0.out).trans B1);have HP:=aj (bL c s j false w1 L1);rw [hpk] at HP;clear B1 L1 HK dA HB0 hpk;go_wp2_with fail;refine HP.out.mono ?_;rintro e w2 ⟨rfl,b2⟩;have HL2:=aj (aQ.out.keep b2);have HR2:=aj (HR1.out.gW b2);have HW2:=aj (HW1.out.trans (aG.of b2));have HT:=aj (EL c s j w2 HL2.out hs hle aaO);clear b2 HP aQ HR1 HW1 aaO;have q2:=HL2.out.q2;go_wp2_with fail;refine HT.out.mono ?_;clear q2 HL2;rintro e w3 ⟨B3,⟨x,k,hx,rfl,L3⟩ | ⟨hx,rfl,R3⟩⟩
 ·have gG:=oD hx;have gF:=aj L3;have HR3:=aj (HR2.out.move B3.size (B3.block _ HR2.out.lt (by omega)));have HW3:=aj (HW2.out.trans B3);have HZ:Hid (aS s (n+1) i=some (aR 4 0 x,k)):=by show _=_;rw [HX.out,hx];rfl
  clear B3 L3 HT HR2 HW2 hx;have r0:=HR3.out.q0;have r1:=HR3.out.q1;have r2:=HR3.out.q2;have r3:=HR3.out.q3;have r4:=HR3.out.q4;have s0:=HR3.out.f0;have s1:=HR3.out.f1;have s2:=HR3.out.f2;have s3:=HR3.out.f3;have s4:=HR3.out.f4;go_wp2_with fail;refine bodyPost_ret (v:=.agg #[.int .i64 4,.int .i64 0,.string x,.slice none 0 0,.slice none 0 0]) (by simp [results,Tryz.results167,go_sem, *]) rfl ?_;exact yI 4 0 x (by omega) (by omega) (by omega) (by omega) HZ.out HW3.out hlc gF.out
 ·have gF:=aj R3;have HR3:=aj (HR2.out.move B3.size (B3.block _ HR2.out.lt (by omega)));have HW3:=aj (HW2.out.trans B3);have HZ:Hid (aS s (n+1) i=none):=by show _=_;rw [HX.out,hx];rfl
  clear B3 R3 HT HR2 HW2 hx;have r0:=HR3.out.q0;have r1:=HR3.out.q1;have r2:=HR3.out.q2;have r3:=HR3.out.q3;have r4:=HR3.out.q4;have s0:=HR3.out.f0;have s1:=HR3.out.f1;have s2:=HR3.out.f2;have s3:=HR3.out.f3;have s4:=HR3.out.f4;go_wp2_with fail;refine bodyPost_ret (v:=.agg #[.int .i64 4,.int .i64 0,.string ⟨#[]⟩,.slice none 0 0,.slice none 0 0]) (by simp [results,Tryz.results167,go_sem, *]) rfl ?_;exact lT 4 0 ByteArray.empty (by omega) (by omega) (by omega) (by simp) HZ.out HW3.out hlc gF.out
theorem Ue (n c:Nat) (s:ByteArray) (i:Nat) (w:World) (h:RL c s i false w) (hs:s.size<=4000) (hi:i<=s.size) (hq:cB s (sk s i)=45\/iM (cB s (sk s i))=true) :
  Calls Tryz.prog 167 #[.pointer (some ⟨c,0,none⟩)] w (eP (n+1) c s (aS s (n+1) i) w):=by
 have HB0:=aj (bG w (.cells #[.int .i64 0,.int .i64 0,.string ⟨#[]⟩,.slice none 0 0,.slice none 0 0] 25));have dA:Hid (aK w.heap.size (.int .i64 0) (.int .i64 0) (.string ⟨#[]⟩) (.slice none 0 0) (.slice none 0 0) (w.alloc (.cells #[.int .i64 0,.int .i64 0,.string ⟨#[]⟩,.slice none 0 0,.slice none 0 0] 25))):=bD w _ _ _ _ _;have hlc:=h.lt;have HK:=aj (fQ c s i false _ (h.keep HB0.out) hs (by omega));have hle:=fu hi
 have hrg:45<=cB s (sk s i)/\cB s (sk s i)<=57:=by
  rcases hq with hq | hq
  ·omega
  ·unfold iM at hq;simp at hq;omega
 have HX:Hid (aS s (n+1) i=(eY s (sk s i)).map fun p=>(aR 3 p.1 ByteArray.empty,p.2)):=by show _=_;rw [aS];unfold bH;rw [if_neg (by omega),if_neg (by omega),if_neg (by omega),if_pos hq]
 have hpk:pk s (sk s i)=cB s (sk s i):=AY (by omega);have Hq:=aj hq;clear h hq;generalize sk s i=j at *;have HPk:=aj hpk;obtain ⟨a,ha⟩:∃ a,cB s j=a:=⟨_,rfl⟩;have Ha:=aj ha;rw [ha] at hrg hpk;have y1:((a:Int)==34)=false:=by rw [beq_eq_false_iff_ne];omega
 have adu:Hid (∀ w',RL c s j false w'->Calls Tryz.prog 203 #[.pointer (some ⟨c,0,none⟩)] w' (eP (n+1) c s (aS s (n+1) i) w')):=by
  intro w' h';rw [HX.out];rcases Hq.out with h1 | h1
  ·exact TR n c s j w' h' hs h1
  ·exact TS n c s j w' h' hs h1
 have HG:Hid (a=45\/iM a=true):=by rw [<- ha];exact Hq.out
 clear hrg ha;go_in;go_wp2_with fail;refine HK.out.mono ?_;rintro e w1 ⟨rfl,B1,L1⟩;have aQ:=aj L1;have HR1:=aj (dA.out.move B1.size (B1.block _ dA.out.lt (by omega)));have HW1:=aj ((aG.of (c:=c) HB0.out).trans B1);have HP:=aj (bL c s j false w1 L1);rw [hpk] at HP;clear B1 L1 HK dA HB0 hpk;go_wp2_with fail;refine HP.out.mono ?_;rintro e w2 ⟨rfl,b2⟩;have HL2:=aj (aQ.out.keep b2);have HR2:=aj (HR1.out.gW b2);have HW2:=aj (HW1.out.trans (aG.of b2));have HC:=aj (adu.out w2 HL2.out);have hlo:=HR2.out.lt;clear b2 HP aQ HR1 HW1;have q2:=HL2.out.q2;by_cases h45:a=45
 ·have y4:((a:Int)==45)=true:=by rw [beq_iff_eq];omega
  clear h45;go_wp2_with fail;refine HC.out.mono ?_;intro e w3 hpost;obtain ⟨t,A,B,C,D,rfl,kS,hfin⟩:=F7 (m:=n+1) HW2.out hlc hlo hpost rfl;have HR3:=aj (kS HR2.out);have HFin:=aj hfin;clear hpost kS hfin HC q2 HR2;have r0:=HR3.out.q0;have r1:=HR3.out.q1;have r2:=HR3.out.q2;have r3:=HR3.out.q3;have r4:=HR3.out.q4;have s0:=HR3.out.f0;have s1:=HR3.out.f1;have s2:=HR3.out.f2;have s3:=HR3.out.f3;have s4:=HR3.out.f4;go_wp2_with fail;refine bodyPost_ret (v:=.agg #[.int .i64 (ah t),.int .i64 (aB t),.string (aF t),.slice A (nL t) B,.slice C (nK t) D]) (by simp [results,Tryz.results167,go_sem, *]) rfl ?_;exact HFin.out
 ·have y4:((a:Int)==45)=false:=by rw [beq_eq_false_iff_ne];omega
  have hd:iM a=true:=HG.out.resolve_left h45;have CB:=aj (jY a w2);rw [hd] at CB;clear h45 hd;go_wp2_with fail;refine CB.out.mono ?_;rintro e w2' ⟨rfl,rfl⟩;go_wp2_with fail;refine HC.out.mono ?_;intro e w3 hpost;obtain ⟨t,A,B,C,D,rfl,kS,hfin⟩:=F7 (m:=n+1) HW2.out hlc hlo hpost rfl;have HR3:=aj (kS HR2.out);have HFin:=aj hfin;clear hpost kS hfin HC q2 HR2;have r0:=HR3.out.q0;have r1:=HR3.out.q1;have r2:=HR3.out.q2;have r3:=HR3.out.q3;have r4:=HR3.out.q4;have s0:=HR3.out.f0;have s1:=HR3.out.f1;have s2:=HR3.out.f2;have s3:=HR3.out.f3;have s4:=HR3.out.f4;go_wp2_with fail;refine bodyPost_ret (v:=.agg #[.int .i64 (ah t),.int .i64 (aB t),.string (aF t),.slice A (nL t) B,.slice C (nK t) D]) (by simp [results,Tryz.results167,go_sem, *]) rfl ?_;exact HFin.out
end Go.Proofs.YtknakfpciccoaaaGreatDoor
