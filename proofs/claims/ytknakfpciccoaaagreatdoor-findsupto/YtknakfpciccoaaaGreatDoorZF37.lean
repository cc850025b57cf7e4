import Derived.Test.YtknakfpciccoaaaGreatDoorZF36
import Derived.Test.YtknakfpciccoaaaGreatDoorZF29
/- The walk of the reference's parser: a value that is a word, a list or an object. -/
set_option maxHeartbeats 8000000
set_option maxRecDepth 100000
namespace Go.Proofs.YtknakfpciccoaaaGreatDoor
open Go.RowKit
def wd (k:Nat):ByteArray:=if k=0 then jg else if k=1 then iJ else jP
theorem V9 (k:Nat):(wd k).size<=100:=by unfold wd;split<;>(try split)<;>decide
structure W3 (b:Nat) (w:World):Prop where
 q0:w.cell? ⟨b,0,none⟩=some (.string jg)
 q1:w.cell? ⟨b,1,none⟩=some (.string iJ)
 q2:w.cell? ⟨b,2,none⟩=some (.string jP)
 lt:b<w.heap.size
theorem W3.move {b:Nat} {w w':World} (h:W3 b w) (hs:w.heap.size<=w'.heap.size) (hb:w'.heap[b]?=w.heap[b]?):W3 b w' :=
 ⟨(aC hb _).trans h.q0,(aC hb _).trans h.q1,(aC hb _).trans h.q2,Nat.lt_of_lt_of_le h.lt hs⟩
theorem Yv (w:World):W3 w.heap.size (w.alloc (.cells #[.string jg,.string iJ,.string jP] 9)):=by
 refine ⟨?_,?_,?_,?_⟩<;>simp [go_sem]
theorem Mw {f:Nat->Option (T×Nat)} {s:ByteArray} {j:Nat} (h1:cB s j≠34) (h4:¬ (cB s j=45\/iM (cB s j)=true)) (h2:cB s j≠91) (h3:cB s j≠123) (w0:ku s j jg=false) (w1:ku s j iJ=false) (w2:ku s j jP=false):bH f s j=none:=by
 unfold bH;rw [if_neg h1,if_neg h2,if_neg h3,if_neg h4,if_neg (by rw [w0];simp),if_neg (by rw [w2];simp),if_neg (by rw [w1];simp)]
theorem Mx {f:Nat->Option (T×Nat)} {s:ByteArray} {j:Nat} (h:ku s j jg=true):bH f s j=some (aR 1 0 ByteArray.empty,j+4):=by
 have hc:cB s j=110:=oG (t:=jg) (c:=110) (r:=[117,108,108]) rfl h;unfold bH;rw [if_neg (by omega),if_neg (by omega),if_neg (by omega),if_neg (by unfold iM;simp;omega),if_pos h]
theorem MB {f:Nat->Option (T×Nat)} {s:ByteArray} {j:Nat} (h:ku s j jP=true):bH f s j=some (aR 2 1 ByteArray.empty,j+4):=by
 have hc:cB s j=116:=oG (t:=jP) (c:=116) (r:=[114,117,101]) rfl h
 have h0:ku s j jg=false:=by
  cases h0:ku s j jg with
  | false=>rfl
  | true=>have:=oG (t:=jg) (c:=110) (r:=[117,108,108]) rfl h0;rw [hc] at this;cases this
 unfold bH;rw [if_neg (by omega),if_neg (by omega),if_neg (by omega),if_neg (by unfold iM;simp;omega),if_neg (by rw [h0];simp),if_pos h]
theorem JE {f:Nat->Option (T×Nat)} {s:ByteArray} {j:Nat} (h:ku s j iJ=true):bH f s j=some (aR 2 0 ByteArray.empty,j+5):=by
 have hc:cB s j=102:=oG (t:=iJ) (c:=102) (r:=[97,108,115,101]) rfl h
 have h0:ku s j jg=false:=by
  cases h0:ku s j jg with
  | false=>rfl
  | true=>have:=oG (t:=jg) (c:=110) (r:=[117,108,108]) rfl h0;rw [hc] at this;cases this
 have h1:ku s j jP=false:=by
  cases h1:ku s j jP with
  | false=>rfl
  | true=>have:=oG (t:=jP) (c:=116) (r:=[114,117,101]) rfl h1;rw [hc] at this;cases this
 unfold bH;rw [if_neg (by omega),if_neg (by omega),if_neg (by omega),if_neg (by unfold iM;simp;omega),if_neg (by rw [h0];simp),if_neg (by rw [h1];simp),if_pos h]
structure WI (c:Nat) (s:ByteArray) (j b k:Nat) (w wr:World):Prop where
 rd:RL c s j false wr
 res:aK w.heap.size (.int .i64 0) (.int .i64 0) (.string ⟨#[]⟩) (.slice none 0 0) (.slice none 0 0) wr
 row:W3 b wr
 but:aG c w wr
 lc:c<w.heap.size
 lb:w.heap.size<b
 not:∀ i,i<k->ku s j (wd i)=false
theorem WI.next {c:Nat} {s:ByteArray} {j b k:Nat} {w wr w1:World} (h:WI c s j b k w wr) (hB:aG c wr w1) (hL:RL c s j false w1) (hp:ku s j (wd k)=false):WI c s j b (k+1) w w1:=by
 have h1:=h.lc;have h2:=h.lb;refine ⟨hL,h.res.move hB.size (hB.block _ h.res.lt (by omega)),h.row.move hB.size (hB.block _ h.row.lt (by omega)),h.but.trans hB,h1,h2,fun i hi=>?_⟩;by_cases e:i=k
 ·subst e;exact hp
 ·exact h.not i (by omega)
def Uf (n c:Nat) (s:ByteArray) (i:Nat) (w:World):Ending->World->Prop:=eP (n+1) c s (aS s (n+1) i) w
theorem Qc (n c:Nat) (s:ByteArray) (ih:Ce s n) (i:Nat) (w:World) (h:RL c s i false w) (hs:s.size<=4000) (hi:i<=s.size) (hn:s.size<i+n+1) (x9:cB s (sk s i)≠34) (h45:¬ (cB s (sk s i)=45\/iM (cB s (sk s i))=true)) :
  Calls Tryz.prog 167 #[.pointer (some ⟨c,0,none⟩)] w (Uf n c s i w):=by
 have HB0:=aj (bG w (.cells #[.int .i64 0,.int .i64 0,.string ⟨#[]⟩,.slice none 0 0,.slice none 0 0] 25));have dA:Hid (aK w.heap.size (.int .i64 0) (.int .i64 0) (.string ⟨#[]⟩) (.slice none 0 0) (.slice none 0 0) (w.alloc (.cells #[.int .i64 0,.int .i64 0,.string ⟨#[]⟩,.slice none 0 0,.slice none 0 0] 25))):=bD w _ _ _ _ _;have hlc:=h.lt;have HK:=aj (fQ c s i false _ (h.keep HB0.out) hs (by omega));have hle:=fu hi;have hge:=eT s i;have JF:=aj (lW s i);have HX:Hid (aS s (n+1) i=bH (aS s n) s (sk s i)):=by show _=_;rw [aS]
 have V7:=aj x9;have Ym:=aj h45;have HI:=aj ih;have p1:((pk s (sk s i):Int)==34)=false:=by have:=mP x9 (by omega);rw [beq_eq_false_iff_ne];omega
 have p4:((pk s (sk s i):Int)==45)=false:=by have:=mP (s:=s) (j:=sk s i) (a:=45) (fun e=>h45 (Or.inl e)) (by omega);rw [beq_eq_false_iff_ne];omega
 have p5:iM (pk s (sk s i))=false:=by rw [AV];simpa using fun e=>h45 (Or.inr e)
 clear h x9 h45 ih;generalize sk s i=j at *;obtain ⟨a,ha⟩:∃ a,pk s j=a:=⟨_,rfl⟩;rw [ha] at p1 p4 p5;go_in;go_wp2_with fail;refine HK.out.mono ?_;rintro e w1 ⟨rfl,B1,L1⟩;have aQ:=aj L1;have HR1:=aj (dA.out.move B1.size (B1.block _ dA.out.lt (by omega)));have HW1:=aj ((aG.of (c:=c) HB0.out).trans B1);have HP:=aj (bL c s j false w1 L1);rw [ha] at HP;clear B1 L1 HK dA HB0 ha;go_wp2_with fail;refine HP.out.mono ?_;rintro e w2 ⟨rfl,b2⟩;have HL2:=aj (aQ.out.keep b2);have HR2:=aj (HR1.out.gW b2);have HW2:=aj (HW1.out.trans (aG.of b2));have CB:=aj (jY a w2);rw [p5] at CB;have hlo:=HR2.out.lt;clear b2 HP aQ HR1 HW1 p5;have q2:=HL2.out.q2;go_wp2_with fail;refine CB.out.mono ?_;rintro e w2 ⟨rfl,rfl⟩
 have HI2:Hid (WI c s j w2.heap.size 0 w (w2.alloc (.cells #[.string jg,.string iJ,.string jP] 9))):=by
  have hb:Below w2.heap.size w2 (w2.alloc (.cells #[.string jg,.string iJ,.string jP] 9)):=bG _ _;exact ⟨HL2.out.keep hb,HR2.out.gW hb,Yv w2,HW2.out.trans (aG.of hb),hlc,hlo,fun i hi=>by omega⟩
 clear CB HL2 HR2 HW2 q2;generalize hbk:w2.heap.size=bk at HI2 hlo;go_wp2_with fail;clear hbk p1 p4;have aaP:Hid (WI c s j bk 0 w (w2.alloc (.cells #[.string ⟨#[110,117,108,108]⟩,.string ⟨#[102,97,108,115,101]⟩,.string ⟨#[116,114,117,101]⟩] 9))):=HI2;clear HI2;go_loopg [5] 3 (fun g v wr=>∃ k:Nat,g=3 - k/\k<=3/\v=.int .i64 (k:Int)/\Hid (WI c s j bk k w wr))
 case atStart=>exact ⟨0,rfl,by omega,rfl,aaP⟩
 case round =>
  clear aaP;obtain ⟨k,rfl,hk,rfl,zT⟩:=hrel;by_cases hk3:k<3
  ·have HH:=aj (FV c s j (wd k) wr zT.out.rd hs hle (V9 k));rw [JF.out] at HH;have t0:=zT.out.row.q0;have t1:=zT.out.row.q1;have t2:=zT.out.row.q2;cases hp:ku s j (wd k) with
   | false =>
    rw [hp,if_neg (by simp)] at HH;have Hp:=aj hp;clear hp;obtain rfl | rfl | rfl:k=0\/k=1\/k=2:=by omega
    all_goals
     go_wp2_with fail;refine HH.out.mono ?_;rintro e w3 ⟨rfl,B3,L3⟩;have HW3:=aj (zT.out.next B3 L3 Hp.out);clear B3 L3 HH t0 t1 t2 zT;go_wp2_with fail
    ·go_roundg (3 - 1)
     case rel=>exact ⟨1,rfl,by omega,rfl,HW3⟩
     case measure=>omega
    ·go_roundg (3 - 2)
     case rel=>exact ⟨2,rfl,by omega,rfl,HW3⟩
     case measure=>omega
    ·go_roundg (3 - 3)
     case rel=>exact ⟨3,rfl,by omega,rfl,HW3⟩
     case measure=>omega
   | true =>
    rw [hp,if_pos rfl] at HH;have Hp:=aj hp;clear hp;obtain rfl | rfl | rfl:k=0\/k=1\/k=2:=by omega
    all_goals
     go_wp2_with fail;refine HH.out.mono ?_;rintro e w3 ⟨rfl,B3,L3⟩;have HR3:=aj (zT.out.res.move B3.size (B3.block _ zT.out.res.lt (by omega)));have HB3:=aj (zT.out.but.trans B3);have gF:=aj L3;clear B3 L3 HH t0 t1 t2 zT;have r0:=HR3.out.q0;have r1:=HR3.out.q1;have r2:=HR3.out.q2;have r3:=HR3.out.q3;have r4:=HR3.out.q4;have s0:=HR3.out.f0;have s1:=HR3.out.f1;have s2:=HR3.out.f2;have s3:=HR3.out.f3;have s4:=HR3.out.f4;go_wp2_with fail
    ·refine bodyPost_ret (v:=.agg #[.int .i64 1,.int .i64 0,.string ⟨#[]⟩,.slice none 0 0,.slice none 0 0]) (by simp [results,Tryz.results167,go_sem, *]) rfl ?_;exact yI 1 0 ByteArray.empty (by omega) (by omega) (by omega) (by simp) (HX.out.trans (Mx Hp.out)) HB3.out hlc gF.out
    ·refine bodyPost_ret (v:=.agg #[.int .i64 2,.int .i64 0,.string ⟨#[]⟩,.slice none 0 0,.slice none 0 0]) (by simp [results,Tryz.results167,go_sem, *]) rfl ?_;exact yI 2 0 ByteArray.empty (by omega) (by omega) (by omega) (by simp) (HX.out.trans (JE Hp.out)) HB3.out hlc gF.out
    ·refine bodyPost_ret (v:=.agg #[.int .i64 2,.int .i64 1,.string ⟨#[]⟩,.slice none 0 0,.slice none 0 0]) (by simp [results,Tryz.results167,go_sem, *]) rfl ?_;exact yI 2 1 ByteArray.empty (by omega) (by omega) (by omega) (by simp) (HX.out.trans (MB Hp.out)) HB3.out hlc gF.out
  ·obtain rfl:k=3:=by omega
   have hlo2:=zT.out.res.lt;by_cases Zf:cB s j=91
   ·have hjl:j<s.size:=aZ (by omega);have HY:Hid (aS s (n+1) i=(fM (aS s n) s false (j+1)).map fun r=>(dU ((5:Nat):Int) 0 ByteArray.empty r.1.2 r.1.1,r.2)):=by show _=_;rw [HX.out];unfold bH;rw [if_neg V7.out,if_pos Zf];rfl
    have HO:=aj (wC c s j 91 wr zT.out.rd hs hle (by rw [JF.out];exact Zf));rw [JF.out] at HO;clear Zf;go_wp2_with fail;refine HO.out.mono ?_;rintro e w3 ⟨rfl,B3,L3⟩;have HR3:=aj (zT.out.res.move B3.size (B3.block _ zT.out.res.lt (by omega)));have HB3:=aj (zT.out.but.trans B3);have HC:=aj (P5 n s HI.out c (j+1) w3 L3 hs (by omega) (by omega));have hlo3:=HR3.out.lt;clear B3 L3 HO zT;go_wp2_with fail;refine HC.out.mono ?_;intro e w4 hpost;unfold F5 at hpost;rw [<- HY.out] at hpost;obtain ⟨t,A,B,C,D,rfl,kS,hfin⟩:=F7 (m:=n+1) HB3.out hlc hlo3 hpost rfl;have HR4:=aj (kS HR3.out);have HFin:=aj hfin;clear hpost kS hfin HC HR3;have r0:=HR4.out.q0;have r1:=HR4.out.q1;have r2:=HR4.out.q2;have r3:=HR4.out.q3;have r4:=HR4.out.q4;have s0:=HR4.out.f0;have s1:=HR4.out.f1;have s2:=HR4.out.f2;have s3:=HR4.out.f3;have s4:=HR4.out.f4;go_wp2_with fail;refine bodyPost_ret (v:=.agg #[.int .i64 (ah t),.int .i64 (aB t),.string (aF t),.slice A (nL t) B,.slice C (nK t) D]) (by simp [results,Tryz.results167,go_sem, *]) rfl ?_;exact HFin.out
   ·have HO:=aj (Cg c s j 91 wr zT.out.rd hs hle (by rw [JF.out];exact Zf));rw [JF.out] at HO;have H91:=aj Zf;have H0:=aj (zT.out.not 0 (by omega));have H1:=aj (zT.out.not 1 (by omega));have H2:=aj (zT.out.not 2 (by omega));clear Zf;go_wp2_with fail;refine HO.out.mono ?_;rintro e w3 ⟨rfl,B3,L3⟩;have HR3:=aj (zT.out.res.move B3.size (B3.block _ zT.out.res.lt (by omega)));have HB3:=aj (zT.out.but.trans B3);have gF:=aj L3;clear B3 L3 HO zT
    have HC:Hid (∀ w4,aG c w w4->w.heap.size<w4.heap.size->(∃ j',(cB s j=123/\j'=j+1/\RL c s j' false w4)\/(cB s j≠123/\RB c s w4))->Calls Tryz.prog 207 #[.pointer (some ⟨c,0,none⟩)] w4 (eP (n+1) c s (aS s (n+1) i) w4)):=by
     rintro w4 _ _ ⟨j',⟨h1,rfl,h2⟩ | ⟨h1,h2⟩⟩
     ·have hjl:j<s.size:=aZ (by omega);have:=Jy n s HI.out c (j+1) w4 h2 hs (by omega) (by omega);unfold F5 at this;have HY:aS s (n+1) i=(fM (aS s n) s true (j+1)).map fun r=>(dU ((6:Nat):Int) 0 ByteArray.empty r.1.2 r.1.1,r.2):=by rw [HX.out];unfold bH;rw [if_neg V7.out,if_neg H91.out,if_pos h1];rfl
      rw [HY];exact this
     ·have HY:aS s (n+1) i=none:=HX.out.trans (Mw V7.out Ym.out H91.out h1 H0.out H1.out H2.out);rw [HY];exact Jz n c s w4 h2 hs
    have HM:Hid (Calls Tryz.prog 206 #[.pointer (some ⟨c,0,none⟩),.string ⟨#[123]⟩] w3 fun e w'=>e=.returned (.tuple #[])/\aG c w3 w'/\∃ j',(cB s j=123/\j'=j+1/\RL c s j' false w')\/(cB s j≠123/\RB c s w')):=by
     by_cases Wd:cB s j=123
     ·have:=sK c s j 123 w3 gF.out hs hle (by rw [JF.out];exact Wd);rw [JF.out] at this;exact this.mono fun e w' ⟨h1,h2,h3⟩=>⟨h1,h2,j+1,Or.inl ⟨Wd,rfl,h3⟩⟩
     ·exact (wD c s j 123 w3 gF.out hs hle (by rw [JF.out];exact Wd)).mono fun e w' ⟨h1,h2,h3⟩=>⟨h1,h2,0,Or.inr ⟨Wd,h3⟩⟩
    go_wp2_with fail;refine HM.out.mono ?_;rintro e w4 ⟨rfl,B4,hst⟩;have HR4:=aj (HR3.out.move B4.size (B4.block _ HR3.out.lt (by omega)));have bO:=aj (HB3.out.trans B4);have aaQ:=HR4.out.lt;have Xc:=aj (HC.out w4 bO.out aaQ hst);clear B4 hst HM HC HR3 HB3 gF;go_wp2_with fail;refine Xc.out.mono ?_;intro e w5 hpost;obtain ⟨t,A,B,C,D,rfl,kS,hfin⟩:=F7 (m:=n+1) bO.out hlc aaQ hpost rfl;have zS:=aj (kS HR4.out);have HFin:=aj hfin;clear hpost kS hfin Xc HR4;have r0:=zS.out.q0;have r1:=zS.out.q1;have r2:=zS.out.q2;have r3:=zS.out.q3;have r4:=zS.out.q4;have s0:=zS.out.f0;have s1:=zS.out.f1;have s2:=zS.out.f2;have s3:=zS.out.f3;have s4:=zS.out.f4;go_wp2_with fail;refine bodyPost_ret (v:=.agg #[.int .i64 (ah t),.int .i64 (aB t),.string (aF t),.slice A (nL t) B,.slice C (nK t) D]) (by simp [results,Tryz.results167,go_sem, *]) rfl ?_;exact HFin.out
theorem Wh (n:Nat) (s:ByteArray) (hs:s.size<=4000) (ih:Ce s n):Ce s (n+1):=by
 intro c i w h hi hn;by_cases x9:cB s (sk s i)=34
 ·exact Qb n c s i w h hs hi x9
 by_cases h45:cB s (sk s i)=45\/iM (cB s (sk s i))=true
 ·exact Ue n c s i w h hs hi h45
 ·exact Qc n c s ih i w h hs hi (by omega) x9 h45
theorem Ug (s:ByteArray) (hs:s.size<=4000):∀ n,Ce s n
 | 0=>fun c i w _ hi hn=>by omega
 | n+1=>Wh n s hs (Ug s hs n)
theorem Yw (w:World) (s:ByteArray):RL w.heap.size s 0 false (w.alloc (.cells #[.string s,.int .i64 0,.bool false] 196)):=by
 refine ⟨?_,?_,?_,?_,?_,?_⟩<;>simp [go_sem]
theorem wG {w wr:World} {s:ByteArray} {n:Int} (hW:Below w.heap.size w wr) (h0:eJ s=n) (hn:n≠0) :
  sF s w (.returned (.tuple #[.agg #[.int .i64 0,.int .i64 0,.string ⟨#[]⟩,.slice none 0 0,.slice none 0 0],.int .i64 n])) (((((wr.setCell ⟨w.heap.size,0,none⟩ (.int .i64 0)).setCell ⟨w.heap.size,1,none⟩ (.int .i64 0)).setCell ⟨w.heap.size,2,none⟩ (.string ⟨#[]⟩)).setCell ⟨w.heap.size,3,none⟩ (.slice none 0 0)).setCell ⟨w.heap.size,4,none⟩ (.slice none 0 0)):=by
 refine ⟨((((hW.setCell (Nat.le_refl _) _).setCell (Nat.le_refl _) _).setCell (Nat.le_refl _) _).setCell (Nat.le_refl _) _).setCell (Nat.le_refl _) _,Or.inr ⟨by rw [h0];exact hn,by rw [h0];rfl⟩⟩
theorem F8 (s:ByteArray) (w:World) :
  Calls Tryz.prog 132 #[.string s] w (sF s w):=by
 have HB0:=aj (bG w (.cells #[.int .i64 0,.int .i64 0,.string ⟨#[]⟩,.slice none 0 0,.slice none 0 0] 25));have dA:Hid (aK w.heap.size (.int .i64 0) (.int .i64 0) (.string ⟨#[]⟩) (.slice none 0 0) (.slice none 0 0) (w.alloc (.cells #[.int .i64 0,.int .i64 0,.string ⟨#[]⟩,.slice none 0 0,.slice none 0 0] 25))):=bD w _ _ _ _ _;by_cases hlong:4000<s.size
 ·have HZ:=aj (Nj hlong);have x1:decide ((4000:Int)<(s.size:Int))=true:=decide_eq_true (by omega);have r0:=dA.out.q0;have r1:=dA.out.q1;have r2:=dA.out.q2;have r3:=dA.out.q3;have r4:=dA.out.q4;have s0:=dA.out.f0;have s1:=dA.out.f1;have s2:=dA.out.f2;have s3:=dA.out.f3;have s4:=dA.out.f4;clear hlong;go_in;go_wp2_with fail;refine bodyPost_ret (v:=.tuple #[.agg #[.int .i64 0,.int .i64 0,.string ⟨#[]⟩,.slice none 0 0,.slice none 0 0],.int .i64 1]) (by simp [results,Tryz.results132,go_sem, *]) rfl ?_;exact ⟨HB0.out,Or.inr ⟨by rw [HZ.out];omega,by rw [HZ.out];rfl⟩⟩
 ·have hs:s.size<=4000:=by omega
  have x1:decide ((4000:Int)<(s.size:Int))=false:=decide_eq_false (by omega);clear hlong;obtain ⟨c,hc⟩:∃ c,c=w.heap.size+1:=⟨_,rfl⟩;have HB1:Hid (Below w.heap.size w ((w.alloc (.cells #[.int .i64 0,.int .i64 0,.string ⟨#[]⟩,.slice none 0 0,.slice none 0 0] 25)).alloc (.cells #[.string s,.int .i64 0,.bool false] 196))):=HB0.out.alloc (by simp) _;have HR1:Hid (aK w.heap.size (.int .i64 0) (.int .i64 0) (.string ⟨#[]⟩) (.slice none 0 0) (.slice none 0 0) ((w.alloc (.cells #[.int .i64 0,.int .i64 0,.string ⟨#[]⟩,.slice none 0 0,.slice none 0 0] 25)).alloc (.cells #[.string s,.int .i64 0,.bool false] 196))):=dA.out.gW (bG _ _)
  have aQ:Hid (RL c s 0 false ((w.alloc (.cells #[.int .i64 0,.int .i64 0,.string ⟨#[]⟩,.slice none 0 0,.slice none 0 0] 25)).alloc (.cells #[.string s,.int .i64 0,.bool false] 196))):=by
   have:=Yw (w.alloc (.cells #[.int .i64 0,.int .i64 0,.string ⟨#[]⟩,.slice none 0 0,.slice none 0 0] 25)) s;have e:(w.alloc (.cells #[.int .i64 0,.int .i64 0,.string ⟨#[]⟩,.slice none 0 0,.slice none 0 0] 25)).heap.size=c:=by rw [hc];simp
   rw [e] at this;exact this
  have Hz:Hid (((w.alloc (.cells #[.int .i64 0,.int .i64 0,.string ⟨#[]⟩,.slice none 0 0,.slice none 0 0] 25)).alloc (.cells #[.string s,.int .i64 0,.bool false] 196)).heap.size=c+1):=by show _=_;rw [hc];simp
  have HV:=aj (Ug s hs (s.size+1) c 0 _ aQ.out (by omega) (by omega));clear HB0 dA;go_in;go_wp2_with fail;rw [<- hc];have hcw:w.heap.size<c:=by omega
  clear hc;refine HV.out.mono ?_;rintro e w1 ⟨B1,⟨t,j,es,A,B,C,D,hd,rfl,hF,hS,L1⟩ | ⟨hd,⟨t,es,A,B,C,D,rfl,hF,hS⟩,R1⟩⟩
  ·have hl1:c+1<=w1.heap.size:=by have:=B1.size;rw [Hz.out] at this;exact this
   have HW1:=aj (HB1.out.trans ((B1.below (by rw [Hz.out];omega)).mono (by omega)));have HR2:=aj (HR1.out.move B1.size (B1.block _ HR1.out.lt (by omega)));have hcnt:=vF _ _ _ _ (by omega) hd;have gG:=dV _ _ _ _ (by omega) hd;have RD:=aj hcnt.2;have Hd:=aj hd;have jQ:=aj (bG w1 (vC t A B C D));have HF:=aj (hF.keep hS jQ.out)
   have HS:Hid (mD (c+1) (w1.alloc (vC t A B C D)) es):=by
    have:=hS.keep jQ.out.size;rw [Hz.out] at this;exact this
   have Qw:=aj (bD w1 (.int .i64 (ah t)) (.int .i64 (aB t)) (.string (aF t)) (.slice A (nL t) B) (.slice C (nK t) D));have M6:=aj (L1.keep jQ.out);have RF:=aj (HR2.out.gW jQ.out);have HWa:=aj (HW1.out.trans (jQ.out.mono (by omega)));have HK:=aj (fQ c s j false _ M6.out hs (by omega));have acf:=fu gG.2;clear B1 L1 hF hS hd HV HR1 HB1 hcnt HR2 HW1 jQ;unfold fB at HF ⊢;go_wp2_with fail;refine HK.out.mono ?_;rintro e w2 ⟨rfl,B2,L2⟩;have hz1:(w1.alloc (vC t A B C D)).heap.size=w1.heap.size+1:=by simp
   have HL2:=aj L2;have ru:=aj (HF.out.move fun b hb=>B2.block b (HS.out.lies b hb).2 (by have:=(HS.out.lies b hb).1;omega));have HS2:=aj (HS.out.keep B2.size);have oP:=aj (Qw.out.move B2.size (B2.block _ Qw.out.lt (by omega)));have HR3:=aj (RF.out.move B2.size (B2.block _ RF.out.lt (by omega)));have HW2:=aj (HWa.out.trans ((B2.below (by omega)).mono (by omega)));clear B2 L2 HK HF HS Qw RF HWa M6 hz1;have q1:=HL2.out.q1;have q2:=HL2.out.q2;by_cases h0:sk s j=s.size
   ·have Ih:=aj (DU Hd.out h0);have XK:=aj (Nk hs Ih.out);have x2:((sk s j:Int)==(s.size:Int))=true:=by rw [beq_iff_eq];omega
    have HI:=aj (Tq (s.size+1) _ t _ ru.out.at);have hmin:=Dt (s.size+1) 16 t ru.out.at.Xp;have Oj:12<bn 16 t ↔ 12<bn (s.size+1) t:=by rw [hmin];omega
    have h16:=qM 16 t;clear h0 hmin;have v0:=oP.out.q0;have v1:=oP.out.q1;have v2:=oP.out.q2;have v3:=oP.out.q3;have v4:=oP.out.q4;go_wp2_with fail;refine HI.out.mono ?_;rintro e w3 ⟨rfl,hb3⟩;have vg:=aj (ru.out.keep HS2.out hb3);have JV:=aj (HS2.out.keep hb3.size);have DK:=aj (oP.out.gW hb3);have HR4:=aj (HR3.out.gW hb3);have HW3:=aj (HW2.out.trans (hb3.mono HW2.out.size));clear hb3 ru HS2 oP HR3 HW2 HI v0 v1 v2 v3 v4 q1 q2 x2;by_cases hdp:12<bn 16 t
    ·have HZ:Hid (eJ s=3):=by show _=_;rw [XK.out,if_pos (Oj.1 hdp)]
     have x3:decide ((12:Int)<(bn 16 t:Int))=true:=decide_eq_true (by omega);clear hdp Oj h16;have r0:=HR4.out.q0;have r1:=HR4.out.q1;have r2:=HR4.out.q2;have r3:=HR4.out.q3;have r4:=HR4.out.q4;have s0:=HR4.out.f0;have s1:=HR4.out.f1;have s2:=HR4.out.f2;have s3:=HR4.out.f3;have s4:=HR4.out.f4;go_wp2_with fail;refine bodyPost_ret (v:=.tuple #[.agg #[.int .i64 0,.int .i64 0,.string ⟨#[]⟩,.slice none 0 0,.slice none 0 0],.int .i64 3]) (by simp [results,Tryz.results132,go_sem, *]) rfl ?_;exact wG HW3.out HZ.out (by omega)
    ·have x3:decide ((12:Int)<(bn 16 t:Int))=false:=decide_eq_false (by omega);have Hdp:Hid (bn (s.size+1) t<=12):=by show _<=_;omega
     have RG:Hid (eJ s=if bN (s.size+1) t=true then 4 else 0):=by show _=_;rw [XK.out,if_neg (fun h=>hdp (Oj.2 h))]
     have HI2:=aj (PE (s.size+1) _ t _ vg.out.at);clear hdp Oj XK;have v0:=DK.out.q0;have v1:=DK.out.q1;have v2:=DK.out.q2;have v3:=DK.out.q3;have v4:=DK.out.q4;go_wp2_with fail;refine HI2.out.mono ?_;rintro e w4 ⟨rfl,hb4⟩;have Xt:=aj (Ig (vg.out.keep JV.out hb4) RD.out Hdp.out);have ZE:=aj (JV.out.keep hb4.size);have Ic:=aj (DK.out.gW hb4);have zS:=aj (HR4.out.gW hb4);have XC:=aj (HW3.out.trans (hb4.mono HW3.out.size));clear hb4 vg JV DK HR4 HW3 HI2 v0 v1 v2 v3 v4;have r0:=zS.out.q0;have r1:=zS.out.q1;have r2:=zS.out.q2;have r3:=zS.out.q3;have r4:=zS.out.q4;have s0:=zS.out.f0;have s1:=zS.out.f1;have s2:=zS.out.f2;have s3:=zS.out.f3;have s4:=zS.out.f4;by_cases Qx:bN (s.size+1) t=true
     ·have HZ:Hid (eJ s=4):=by show _=_;rw [RG.out,if_pos Qx]
      rw [Qx];go_wp2_with fail;refine bodyPost_ret (v:=.tuple #[.agg #[.int .i64 0,.int .i64 0,.string ⟨#[]⟩,.slice none 0 0,.slice none 0 0],.int .i64 4]) (by simp [results,Tryz.results132,go_sem, *]) rfl ?_;exact wG XC.out HZ.out (by omega)
     ·have XL:bN (s.size+1) t=false:=by simpa using Qx
      have HZ:Hid (ZF s t):=by
       have h0:eJ s=0:=by rw [RG.out,if_neg Qx]
       exact ⟨h0,Nl h0 Ih.out⟩
      rw [XL];clear Qx XL;have v0:=Ic.out.q0;have v1:=Ic.out.q1;have v2:=Ic.out.q2;have v3:=Ic.out.q3;have v4:=Ic.out.q4;go_wp2_with fail;refine bodyPost_ret (v:=.tuple #[.agg #[.int .i64 (ah t),.int .i64 (aB t),.string (aF t),.slice A (nL t) B,.slice C (nK t) D],.int .i64 0]) (by simp [results,Tryz.results132,go_sem, *]) rfl ?_;obtain ⟨p1,p2,p3⟩:=vG XC.out Xt.out ZE.out (Nat.le_refl _) (by omega) (.int .i64 (ah t)) (.int .i64 (aB t)) (.string (aF t)) (.slice A (nL t) B) (.slice C (nK t) D);exact ⟨p1,Or.inl ⟨t,es,A,B,C,D,HZ.out,rfl,p2,p3⟩⟩
   ·have HZ:=aj (zD hs (DT Hd.out h0));have x2:((sk s j:Int)==(s.size:Int))=false:=by rw [beq_eq_false_iff_ne];omega
    clear h0;have r0:=HR3.out.q0;have r1:=HR3.out.q1;have r2:=HR3.out.q2;have r3:=HR3.out.q3;have r4:=HR3.out.q4;have s0:=HR3.out.f0;have s1:=HR3.out.f1;have s2:=HR3.out.f2;have s3:=HR3.out.f3;have s4:=HR3.out.f4;go_wp2_with fail;refine bodyPost_ret (v:=.tuple #[.agg #[.int .i64 0,.int .i64 0,.string ⟨#[]⟩,.slice none 0 0,.slice none 0 0],.int .i64 2]) (by simp [results,Tryz.results132,go_sem, *]) rfl ?_;exact wG HW2.out HZ.out (by omega)
  ·have hl1:c+1<=w1.heap.size:=by have:=B1.size;rw [Hz.out] at this;exact this
   have HW1:=aj (HB1.out.trans ((B1.below (by rw [Hz.out];omega)).mono (by omega)));have HR2:=aj (HR1.out.move B1.size (B1.block _ HR1.out.lt (by omega)));have HZ:=aj (zD hs (DR hd));have jQ:=aj (bG w1 (vC t A B C D));obtain ⟨jb,hjb,Lb⟩:=R1;have M6:=aj (Lb.keep jQ.out);have RF:=aj (HR2.out.gW jQ.out);have HWa:=aj (HW1.out.trans (jQ.out.mono (by omega)));have HK:=aj (fQ c s jb true _ M6.out hs hjb);clear B1 Lb hF hS hd HV HR1 HB1 HR2 HW1 jQ;unfold fB;go_wp2_with fail;refine HK.out.mono ?_;rintro e w2 ⟨rfl,B2,L2⟩;have hz1:(w1.alloc (vC t A B C D)).heap.size=w1.heap.size+1:=by simp
   have HR3:=aj (RF.out.move B2.size (B2.block _ RF.out.lt (by omega)));have HW2:=aj (HWa.out.trans ((B2.below (by omega)).mono (by omega)));have q2:=L2.q2;clear B2 L2 HK RF HWa M6 hz1;have r0:=HR3.out.q0;have r1:=HR3.out.q1;have r2:=HR3.out.q2;have r3:=HR3.out.q3;have r4:=HR3.out.q4;have s0:=HR3.out.f0;have s1:=HR3.out.f1;have s2:=HR3.out.f2;have s3:=HR3.out.f3;have s4:=HR3.out.f4;go_wp2_with fail;refine bodyPost_ret (v:=.tuple #[.agg #[.int .i64 0,.int .i64 0,.string ⟨#[]⟩,.slice none 0 0,.slice none 0 0],.int .i64 2]) (by simp [results,Tryz.results132,go_sem, *]) rfl ?_;exact wG HW2.out HZ.out (by omega)
end Go.Proofs.YtknakfpciccoaaaGreatDoor
