import Derived.Test.YtknakfpciccoaaaGreatDoorZC23
import Derived.Test.YtknakfpciccoaaaGreatDoorZC27
import Derived.Test.YtknakfpciccoaaaGreatDoorZC36
import Derived.Test.YtknakfpciccoaaaGreatDoorZC35
/- The stages of the laws: their texts, their trees, what they are read as. -/
set_option maxHeartbeats 8000000
set_option maxRecDepth 100000
namespace Go.Proofs.YtknakfpciccoaaaGreatDoor
open Go.RowKit
theorem XT {f:Nat} {t1 t2:T} {s1 s2:ByteArray} {n1 n2:Nat} (h1:o7 f t1 s1 n1) (h2:o7 f t2 s2 n2) {s':ByteArray} (hs:s'.data.toList=[123,34,97,34,58]++(s1.data.toList++([44,34,99,34,58]++(s2.data.toList++[125])))):o7 (f+1) (aO 6 0 ByteArray.empty [t1,t2] [⟨#[97]⟩,⟨#[99]⟩]) s' (n1+n2+12):=by
 have e:bL (f+1) (aO 6 0 ByteArray.empty [t1,t2] [⟨#[97]⟩,⟨#[99]⟩])=123::((([]++([]++(cO ⟨#[97]⟩++(58::bL f t1))))++([44]++(cO ⟨#[99]⟩++(58::bL f t2))))++[125]):=rfl;have q1:cO ⟨#[97]⟩=[34,97,34]:=by kernel_rfl
 have q2:cO ⟨#[99]⟩=[34,99,34]:=by kernel_rfl
 have vQ:∀ i,i<2->i=0\/i=1:=fun i hi=>by omega
 refine ⟨?_,⟨gH (by omega) (by omega) _ _ (by simp) (by simp),fun i hi=>?_,fun i hi=>?_⟩,.inr ⟨rfl,dP _ _ _ _,fun i hi=>?_,.inr ⟨rfl,rfl,by kernel_rfl,by kernel_rfl⟩⟩,?_,?_⟩
 ·rw [e,hs,q1,q2,h1.wr,h2.wr];simp
 ·rcases vQ i hi with rfl | rfl
  ·exact h1.fit
  ·exact h2.fit
 ·rcases vQ i hi with rfl | rfl
  ·show (1:Nat)<=_;omega
  ·show (1:Nat)<=_;omega
 ·rcases vQ i hi with rfl | rfl
  ·exact h1.good
  ·exact h2.good
 ·show aO 6 0 ByteArray.empty [bH f t1,bH f t2] [⟨#[97]⟩,⟨#[99]⟩]=_;rw [h1.can,h2.can]
 ·have z0:s'.size=s'.data.toList.length:=rfl;have z1:s1.size=s1.data.toList.length:=rfl;have y1:=h1.size;have z2:s2.size=s2.data.toList.length:=rfl;have y2:=h2.size;rw [z0,hs];simp only [List.length_cons,List.length_append,List.length_nil];omega
theorem aae {f:Nat} {t1 t2 t3:T} {s1 s2 s3:ByteArray} {n1 n2 n3:Nat} (h1:o7 f t1 s1 n1) (h2:o7 f t2 s2 n2) (h3:o7 f t3 s3 n3) {s':ByteArray} (hs:s'.data.toList=[123,34,95,105,100,34,58]++(s1.data.toList++([44,34,97,34,58]++(s2.data.toList++([44,34,99,34,58]++(s3.data.toList++[125])))))):o7 (f+1) (aO 6 0 ByteArray.empty [t1,t2,t3] [⟨#[95,105,100]⟩,⟨#[97]⟩,⟨#[99]⟩]) s' (n1+n2+n3+19):=by
 have e:bL (f+1) (aO 6 0 ByteArray.empty [t1,t2,t3] [⟨#[95,105,100]⟩,⟨#[97]⟩,⟨#[99]⟩])=123::(((([]++([]++(cO ⟨#[95,105,100]⟩++(58::bL f t1))))++([44]++(cO ⟨#[97]⟩++(58::bL f t2))))++([44]++(cO ⟨#[99]⟩++(58::bL f t3))))++[125]):=rfl;have q1:cO ⟨#[95,105,100]⟩=[34,95,105,100,34]:=by kernel_rfl
 have q2:cO ⟨#[97]⟩=[34,97,34]:=by kernel_rfl
 have q3:cO ⟨#[99]⟩=[34,99,34]:=by kernel_rfl
 have vQ:∀ i,i<3->i=0\/i=1\/i=2:=fun i hi=>by omega
 refine ⟨?_,⟨gH (by omega) (by omega) _ _ (by simp) (by simp),fun i hi=>?_,fun i hi=>?_⟩,.inr ⟨rfl,dP _ _ _ _,fun i hi=>?_,.inr ⟨rfl,rfl,by kernel_rfl,by kernel_rfl⟩⟩,?_,?_⟩
 ·rw [e,hs,q1,q2,q3,h1.wr,h2.wr,h3.wr];simp
 ·rcases vQ i hi with rfl | rfl | rfl
  ·exact h1.fit
  ·exact h2.fit
  ·exact h3.fit
 ·rcases vQ i hi with rfl | rfl | rfl
  ·show (3:Nat)<=_;omega
  ·show (1:Nat)<=_;omega
  ·show (1:Nat)<=_;omega
 ·rcases vQ i hi with rfl | rfl | rfl
  ·exact h1.good
  ·exact h2.good
  ·exact h3.good
 ·show aO 6 0 ByteArray.empty [bH f t1,bH f t2,bH f t3] [⟨#[95,105,100]⟩,⟨#[97]⟩,⟨#[99]⟩]=_;rw [h1.can,h2.can,h3.can]
 ·have z0:s'.size=s'.data.toList.length:=rfl;have z1:s1.size=s1.data.toList.length:=rfl;have y1:=h1.size;have z2:s2.size=s2.data.toList.length:=rfl;have y2:=h2.size;have z3:s3.size=s3.data.toList.length:=rfl;have y3:=h3.size;rw [z0,hs];simp only [List.length_cons,List.length_append,List.length_nil];omega
theorem adu {f:Nat} {t1 t2:T} {s1 s2:ByteArray} {n1 n2:Nat} (h1:o7 f t1 s1 n1) (h2:o7 f t2 s2 n2) {s':ByteArray} (hs:s'.data.toList=[123,34,98,121,34,58]++(s1.data.toList++([44,34,109,97,107,101,34,58]++(s2.data.toList++[125])))):o7 (f+1) (aO 6 0 ByteArray.empty [t1,t2] [⟨#[98,121]⟩,⟨#[109,97,107,101]⟩]) s' (n1+n2+16):=by
 have e:bL (f+1) (aO 6 0 ByteArray.empty [t1,t2] [⟨#[98,121]⟩,⟨#[109,97,107,101]⟩])=123::((([]++([]++(cO ⟨#[98,121]⟩++(58::bL f t1))))++([44]++(cO ⟨#[109,97,107,101]⟩++(58::bL f t2))))++[125]):=rfl;have q1:cO ⟨#[98,121]⟩=[34,98,121,34]:=by kernel_rfl
 have q2:cO ⟨#[109,97,107,101]⟩=[34,109,97,107,101,34]:=by kernel_rfl
 have vQ:∀ i,i<2->i=0\/i=1:=fun i hi=>by omega
 refine ⟨?_,⟨gH (by omega) (by omega) _ _ (by simp) (by simp),fun i hi=>?_,fun i hi=>?_⟩,.inr ⟨rfl,dP _ _ _ _,fun i hi=>?_,.inr ⟨rfl,rfl,by kernel_rfl,by kernel_rfl⟩⟩,?_,?_⟩
 ·rw [e,hs,q1,q2,h1.wr,h2.wr];simp
 ·rcases vQ i hi with rfl | rfl
  ·exact h1.fit
  ·exact h2.fit
 ·rcases vQ i hi with rfl | rfl
  ·show (2:Nat)<=_;omega
  ·show (4:Nat)<=_;omega
 ·rcases vQ i hi with rfl | rfl
  ·exact h1.good
  ·exact h2.good
 ·show aO 6 0 ByteArray.empty [bH f t1,bH f t2] [⟨#[98,121]⟩,⟨#[109,97,107,101]⟩]=_;rw [h1.can,h2.can]
 ·have z0:s'.size=s'.data.toList.length:=rfl;have z1:s1.size=s1.data.toList.length:=rfl;have y1:=h1.size;have z2:s2.size=s2.data.toList.length:=rfl;have y2:=h2.size;rw [z0,hs];simp only [List.length_cons,List.length_append,List.length_nil];omega
def II:ByteArray:=⟨#[36,109,97,116,99,104]⟩
def CS:ByteArray:=⟨#[36,103,114,111,117,112]⟩
def dC:ByteArray:=⟨#[36,99]⟩
theorem XU:lW II/\lW CS/\lW ji/\lW zW/\lW fD/\lW Cz/\lW CB/\lW oU/\lW tF:=⟨lW.mk' (by kernel_rfl),lW.mk' (by kernel_rfl),lW.mk' (by kernel_rfl),lW.mk' (by kernel_rfl),lW.mk' (by kernel_rfl),lW.mk' (by kernel_rfl),lW.mk' (by kernel_rfl),lW.mk' (by kernel_rfl),lW.mk' (by kernel_rfl)⟩
def IJ:List ByteArray:=[I7,dA,dC]++(List.range 6).map lD
def lS (s:ByteArray):ByteArray:=bP (34::(s.data.toList++[34]))
theorem aaf:((List.range 12).all fun f=>IJ.all fun s=>decide ((lS s).data.toList=bL (f+1) (fH s))&&NW (f+2) (fH s)&&(aP (f+1) (fH s) 1048576).isSome&&decide ((lS s).size<=10))=true:=by kernel_rfl
theorem qO {s:ByteArray} (h:s ∈ IJ) {f:Nat} (hf:f<12):o7 (f+1) (fH s) (lS s) 10:=by
 have h1:=List.all_eq_true.1 (List.all_eq_true.1 aaf f (List.mem_range.2 hf)) s h;simp only [Bool.and_eq_true,decide_eq_true_eq] at h1;obtain ⟨⟨⟨a,b⟩,c⟩,d⟩:=h1;refine ⟨a,mP _ _ b,?_,rfl,d⟩;rcases o9 (f+1) (fH s) 1048576 (by omega) with ⟨_,h,_⟩ | ⟨h,_⟩
 ·exact h
 ·rw [h] at c;cases c
theorem QO {k:Nat} (hk:k<6):lD k ∈ IJ:=List.mem_append_right _ (List.mem_map_of_mem (List.mem_range.2 hk))
theorem XV:I7 ∈ IJ:=by simp [IJ]
theorem afV:dA ∈ IJ:=by simp [IJ]
theorem abe:dC ∈ IJ:=by simp [IJ]
theorem FT (k:Nat):(lS (lD k)).data.toList=34::36::((rH k).data.toList++[34]):=by
 rw [lS,bK,lD,aL];rfl
noncomputable def LV (c:Int):Nat:=Classical.choose (pR c)
theorem FU (c:Int):LV c<36/\mQ c=vt (LV c):=Classical.choose_spec (pR c)
def rU:T:=aO 5 0 ByteArray.empty [nT 1,nT 2] []
theorem QS (f:Nat):o7 (f+2) rU ⟨#[91,49,44,50,93]⟩ 30 :=
 ((qI (n:=1) (by omega) (by omega) f).aci (qI (n:=2) (by omega) (by omega) f) (s':=⟨#[91,49,44,50,93]⟩) (by kernel_rfl)).le (by omega)
def xI (m:Int):ByteArray:=if m=0 then Cz else if m=1 then CB else if m=2 then oU else tF
noncomputable def fE (k d:Int):ByteArray :=
 if k=0 then ((⟨#[123,34,36,109,97,116,99,104,34,58]⟩:ByteArray)++sV d (d / 50))++⟨#[125]⟩
 else if k=1 then ((((⟨#[123,34,36,112,114,111,106,101,99,116,34,58,123,34,95,105,100,34,58,34,36,95,105,100,34,44,34,97,34,58,34,36]⟩:ByteArray)++rH (gV d))++⟨#[34,44,34,99,34,58,123,34,36,108,105,116,34,58]⟩)++mQ (d / 6))++⟨#[125,125,125]⟩
 else if k=2 then ((((⟨#[123,34,36,115,111,114,116,34,58,123]⟩:ByteArray)++aad (gV d))++⟨#[58]⟩)++(if d / 6 % 2=0 then ⟨#[49]⟩ else ⟨#[45,49]⟩))++⟨#[125,125]⟩
 else if k=3 then ((⟨#[123,34,36,115,107,105,112,34,58]⟩:ByteArray)++bP (Lib.itoa (d % 6)))++⟨#[125]⟩
 else if k=4 then ((⟨#[123,34,36,108,105,109,105,116,34,58]⟩:ByteArray)++bP (Lib.itoa (d % 20)))++⟨#[125]⟩
 else if k=5 then ((⟨#[123,34,36,112,114,111,106,101,99,116,34,58,123,34,97,34,58,123,34,36,105,102,34,58,91]⟩:ByteArray)++sV d (d / 50))++⟨#[44,34,36,97,34,44,123,34,36,108,105,116,34,58,91,49,44,50,93,125,93,125,44,34,99,34,58,34,36,99,34,125,125]⟩
 else ((((⟨#[123,34,36,103,114,111,117,112,34,58,123,34,98,121,34,58,34,36]⟩:ByteArray)++rH (gV d))++⟨#[34,44,34,109,97,107,101,34,58,123,34,97,34,58,123,34,36,108,105,115,116,34,58,34,36,95,105,100,34,125,44,34,99,34,58,123,34,36]⟩)++(if d / 6 % 4=0 then ⟨#[109,105,110]⟩ else if d / 6 % 4=1 then ⟨#[109,97,120]⟩ else if d / 6 % 4=2 then ⟨#[102,105,114,115,116]⟩ else ⟨#[108,97,115,116]⟩))++⟨#[34,58,34,36,99,34,125,125,125,125]⟩
noncomputable def LW (k d:Int):T :=
 if k=0 then o1 II (KS d (d / 50))
 else if k=1 then o1 mZ (aO 6 0 ByteArray.empty [fH I7,fH (lD (gV d)),o1 ji (tv (LV (d / 6)))] [⟨#[95,105,100]⟩,⟨#[97]⟩,⟨#[99]⟩])
 else if k=2 then o1 LM (o1 (rH (gV d)) (nT (if d / 6 % 2=0 then 1 else -1)))
 else if k=3 then o1 LP (nT (d % 6))
 else if k=4 then o1 CQ (nT (d % 20))
 else if k=5 then o1 mZ (aO 6 0 ByteArray.empty [o1 zW (aO 5 0 ByteArray.empty [KS d (d / 50),fH dA,o1 ji rU] []),fH dC] [⟨#[97]⟩,⟨#[99]⟩])
 else o1 CS (aO 6 0 ByteArray.empty [fH (lD (gV d)),aO 6 0 ByteArray.empty [o1 fD (fH I7),o1 (xI (d / 6 % 4)) (fH dC)] [⟨#[97]⟩,⟨#[99]⟩]] [⟨#[98,121]⟩,⟨#[109,97,107,101]⟩])
theorem aag (f:Nat):o7 (f+1) (nT (-1)) ⟨#[45,49]⟩ 10:=by
 refine ⟨?_,⟨⟨by show -9223372036854775808<=(3:Int);omega,by show (3:Int)<=9223372036854775807;omega,by show -9223372036854775808<=(-1:Int);omega,by show (-1:Int)<=9223372036854775807;omega,by show (0:Nat)<=_;omega,by show (0:Nat)<=_;omega,by show (0:Nat)<=_;omega⟩,fun i hi=>absurd hi (Nat.not_lt_zero i),fun i hi=>absurd hi (Nat.not_lt_zero i)⟩,Ia _ _,rfl,by decide⟩;rw [pO (by show (3:Int)≠5;decide) (by show (3:Int)≠6;decide)];kernel_rfl
theorem IK (k d:Int) (_h0:0<=d):o7 11 (LW k d) (fE k d) 300:=by
 have hp:=uh d;have hpl:=Z6 hp;have hz:=O4 hp;obtain ⟨m1,m2,m3,m4,m5,m6,m7,m8,m9⟩:=XU;obtain ⟨n1,n2,n3,n4,n5⟩:=yN;unfold LW fE;by_cases e0:k=0
 ·rw [if_pos e0,if_pos e0];have hf:=(sW d (d / 50)).rep 10 (by omega) (by omega);refine (hf.obj m1 ?_).le (by show 150+6+5<=300;omega);simp only [aL,II];simp
 rw [if_neg e0,if_neg e0];by_cases e1:k=1
 ·rw [if_pos e1,if_pos e1];obtain ⟨v1,v2⟩:=FU (d / 6);rw [v2];have r1:=qO XV (f:=8) (by omega);have r2:=qO (QO hp) (f:=8) (by omega);have r3:=(yG v1 (f:=8) (by omega) (by omega)).obj m3 (s':=bP (123::34::(ji.data.toList++(34::58::((vt (LV (d / 6))).data.toList++[125]))))) (bK _);have r4:=aae r1 r2 r3 (s':=bP ([123,34,95,105,100,34,58]++((lS I7).data.toList++([44,34,97,34,58]++((lS (lD (gV d))).data.toList++([44,34,99,34,58]++((bP (123::34::(ji.data.toList++(34::58::((vt (LV (d / 6))).data.toList++[125]))))).data.toList++[125]))))))) (bK _);refine (r4.obj n4 ?_).le (by show 10+10+(10+4+5)+19+8+5<=300;omega);rw [bK,FT,bK];have hq:(lS I7).data.toList=[34,36,95,105,100,34]:=by kernel_rfl
  rw [hq];simp only [aL,mZ,ji];simp
 rw [if_neg e1,if_neg e1];by_cases e2:k=2
 ·rw [if_pos e2,if_pos e2];by_cases q:d / 6 % 2=0
  ·rw [if_pos q,if_pos q];have r1:=qI (n:=1) (by omega) (by omega) 8;have e9:(bP (Lib.itoa 1)).data.toList=[49]:=by kernel_rfl
   have r2:=r1.obj hpl (s':=bP (123::34::((rH (gV d)).data.toList++(34::58::((bP (Lib.itoa 1)).data.toList++[125]))))) (bK _);refine (r2.obj n1 ?_).le (by show 10+(rH (gV d)).size+5+5+5<=300;omega);rw [bK,e9];simp only [aL,LM,aad];simp
  ·rw [if_neg q,if_neg q];have r1:=aag 8;have r2:=r1.obj hpl (s':=bP (123::34::((rH (gV d)).data.toList++(34::58::([45,49]++[125]))))) (by rw [bK]);refine (r2.obj n1 ?_).le (by show 10+(rH (gV d)).size+5+5+5<=300;omega);rw [bK];simp only [aL,LM,aad];simp
 rw [if_neg e2,if_neg e2];by_cases e3:k=3
 ·rw [if_pos e3,if_pos e3];exact (Z8 (n:=d % 6) (by omega) (by omega) 9 (by simp only [aL];simp)).le (by omega)
 rw [if_neg e3,if_neg e3];by_cases e4:k=4
 ·rw [if_pos e4,if_pos e4];exact (Z9 (n:=d % 20) (by omega) (by omega) 9 (by simp only [aL];simp)).le (by omega)
 rw [if_neg e4,if_neg e4];by_cases e5:k=5
 ·rw [if_pos e5,if_pos e5];have r1:=(sW d (d / 50)).rep 7 (by omega) (by omega);have r2:=qO afV (f:=6) (by omega);have r3:=(QS 4).obj m3 (s':=bP (123::34::(ji.data.toList++(34::58::((⟨#[91,49,44,50,93]⟩:ByteArray).data.toList++[125]))))) (bK _);have r4:=(((yM.one r1).snoc (by simp) r2 (u':=bP ((sV d (d / 50)).data.toList++(44::(lS dA).data.toList))) (bK _)).snoc (by simp) r3 (u':=bP ((bP ((sV d (d / 50)).data.toList++(44::(lS dA).data.toList))).data.toList++(44::(bP (123::34::(ji.data.toList++(34::58::((⟨#[91,49,44,50,93]⟩:ByteArray).data.toList++[125]))))).data.toList))) (bK _)).list (by simp) (s':=bP (91::((bP ((bP ((sV d (d / 50)).data.toList++(44::(lS dA).data.toList))).data.toList++(44::(bP (123::34::(ji.data.toList++(34::58::((⟨#[91,49,44,50,93]⟩:ByteArray).data.toList++[125]))))).data.toList))).data.toList++[93]))) (bK _);have r5:=r4.obj m4 (s':=bP (123::34::(zW.data.toList++(34::58::((bP (91::((bP ((bP ((sV d (d / 50)).data.toList++(44::(lS dA).data.toList))).data.toList++(44::(bP (123::34::(ji.data.toList++(34::58::((⟨#[91,49,44,50,93]⟩:ByteArray).data.toList++[125]))))).data.toList))).data.toList++[93]))).data.toList++[125]))))) (bK _);have r6:=qO abe (f:=8) (by omega)
  have r7:=XT r5 r6 (s':=bP ([123,34,97,34,58]++((bP (123::34::(zW.data.toList++(34::58::((bP (91::((bP ((bP ((sV d (d / 50)).data.toList++(44::(lS dA).data.toList))).data.toList++(44::(bP (123::34::(ji.data.toList++(34::58::((⟨#[91,49,44,50,93]⟩:ByteArray).data.toList++[125]))))).data.toList))).data.toList++[93]))).data.toList++[125]))))).data.toList++([44,34,99,34,58]++((lS dC).data.toList++[125]))))) (bK _);refine (r7.obj n4 ?_).le (by show 150+10+1+(30+4+5)+1+2+3+5+10+12+8+5<=300;omega);have hqa:(lS dA).data.toList=[34,36,97,34]:=by kernel_rfl
  have hqc:(lS dC).data.toList=[34,36,99,34]:=by kernel_rfl
  simp only [bK,hqa,hqc,aL,mZ,ji,zW];simp
 rw [if_neg e5,if_neg e5]
 have hlast:∀ (op:ByteArray) (nm:ByteArray),lW op->op.size<=10->op.data.toList=36::nm.data.toList->o7 11 (o1 CS (aO 6 0 ByteArray.empty [fH (lD (gV d)),aO 6 0 ByteArray.empty [o1 fD (fH I7),o1 op (fH dC)] [⟨#[97]⟩,⟨#[99]⟩]] [⟨#[98,121]⟩,⟨#[109,97,107,101]⟩])) ((((⟨#[123,34,36,103,114,111,117,112,34,58,123,34,98,121,34,58,34,36]⟩:ByteArray)++rH (gV d))++⟨#[34,44,34,109,97,107,101,34,58,123,34,97,34,58,123,34,36,108,105,115,116,34,58,34,36,95,105,100,34,125,44,34,99,34,58,123,34,36]⟩)++nm++⟨#[34,58,34,36,99,34,125,125,125,125]⟩) 300:=by
  intro op nm ho hoz hon;have r1:=(qO XV (f:=6) (by omega)).obj m5 (s':=bP (123::34::(fD.data.toList++(34::58::((lS I7).data.toList++[125]))))) (bK _);have r2:=(qO abe (f:=6) (by omega)).obj ho (s':=bP (123::34::(op.data.toList++(34::58::((lS dC).data.toList++[125]))))) (bK _);have r3:=XT r1 r2 (s':=bP ([123,34,97,34,58]++((bP (123::34::(fD.data.toList++(34::58::((lS I7).data.toList++[125]))))).data.toList++([44,34,99,34,58]++((bP (123::34::(op.data.toList++(34::58::((lS dC).data.toList++[125]))))).data.toList++[125]))))) (bK _);have r4:=qO (QO hp) (f:=8) (by omega);have r5:=adu r4 r3 (s':=bP ([123,34,98,121,34,58]++((lS (lD (gV d))).data.toList++([44,34,109,97,107,101,34,58]++((bP ([123,34,97,34,58]++((bP (123::34::(fD.data.toList++(34::58::((lS I7).data.toList++[125]))))).data.toList++([44,34,99,34,58]++((bP (123::34::(op.data.toList++(34::58::((lS dC).data.toList++[125]))))).data.toList++[125]))))).data.toList++[125]))))) (bK _);refine (r5.obj m2 ?_).le (by show 10+(10+5+5+(10+op.size+5)+12)+16+6+5<=300;omega);have hqa:(lS I7).data.toList=[34,36,95,105,100,34]:=by kernel_rfl
  have hqc:(lS dC).data.toList=[34,36,99,34]:=by kernel_rfl
  simp only [bK,hqa,hqc,FT,hon,aL,CS,fD];simp
 unfold xI;by_cases q0:d / 6 % 4=0
 ·rw [if_pos q0,if_pos q0];exact hlast Cz _ m6 (by decide) (by kernel_rfl)
 rw [if_neg q0,if_neg q0];by_cases q1:d / 6 % 4=1
 ·rw [if_pos q1,if_pos q1];exact hlast CB _ m7 (by decide) (by kernel_rfl)
 rw [if_neg q1,if_neg q1];by_cases q2:d / 6 % 4=2
 ·rw [if_pos q2,if_pos q2];exact hlast oU _ m8 (by decide) (by kernel_rfl)
 rw [if_neg q2,if_neg q2];exact hlast tF _ m9 (by decide) (by kernel_rfl)
def cE (d:T):Int⊕T:=.inr (aA [gJ] d)
theorem XW {Tb:World->Prop} (hA:bN Tb):fV Tb (fH dC) cE:=AB hA dC gJ [gJ] (by kernel_rfl) (by kernel_rfl) (by decide) (by decide) (by kernel_rfl) (by kernel_rfl)
theorem XY {Tb:World->Prop} (hA:bN Tb) (j:T):fV Tb (o1 ji j) (fun _=>.inr j):=KY hA.lies (o1 ji j) j ji _ rfl rfl rfl rfl fun v wB w ha hk _ _=>Zx Tb j v wB w ha hk
def Pb (a b c:T):T:=aO 5 0 ByteArray.empty [a,b,c] []
theorem afW {Tb:World->Prop} (hA:bN Tb) (tf j1 j2:T) (g1 g2:T->Int⊕T) (hok:bE 16 tf=true) (h1:fV Tb j1 g1) (h2:fV Tb j2 g2):fV Tb (o1 zW (Pb tf j1 j2)) (xE tf g1 g2) :=
 KY hA.lies (o1 zW (Pb tf j1 j2)) (Pb tf j1 j2) zW _ rfl rfl rfl rfl fun v wB w ha hk hb0 hT=>acA hA.lies (Pb tf j1 j2) _ (fun v wB w ha hk hb0 hT=>Ll hA.atoi hA.itoa hA.split hA.lies (Pb tf j1 j2) tf j1 j2 g1 g2 rfl rfl rfl rfl rfl hok h1 h2 v wB w ha hk hb0 hT) v wB w ha hk hb0 hT
def Mx (op:ByteArray):List (ByteArray×(T->Int⊕T)):=[(fD,idE),(op,cE)]
def adv (op:ByteArray):T:=aO 6 0 ByteArray.empty [o1 fD (fH I7),o1 op (fH dC)] [⟨#[97]⟩,⟨#[99]⟩]
theorem LX (m:Int):xI m=Cz\/xI m=CB\/xI m=oU\/xI m=tF:=by
 unfold xI;split
 ·exact .inl rfl
 ·split
  ·exact .inr (.inl rfl)
  ·split
   ·exact .inr (.inr (.inl rfl))
   ·exact .inr (.inr (.inr rfl))
theorem afX {Tb:World->Prop} (hA:bN Tb) (m:Int):IB Tb (o1 (xI m) (fH dC)) (xI m) cE/\jU (xI m)/\(xI m).size<=100:=by
 rcases LX m with h | h | h | h<;>rw [h]
 ·exact ⟨tL hA.lies (o1 Cz (fH dC)) (fH dC) cE rfl rfl rfl rfl (XW hA) (by unfold jU;decide),by unfold jU;simp,by decide⟩
 ·exact ⟨tL hA.lies (o1 CB (fH dC)) (fH dC) cE rfl rfl rfl rfl (XW hA) (by unfold jU;decide),by unfold jU;simp,by decide⟩
 ·exact ⟨tL hA.lies (o1 oU (fH dC)) (fH dC) cE rfl rfl rfl rfl (XW hA) (by unfold jU;decide),by unfold jU;simp,by decide⟩
 ·exact ⟨tL hA.lies (o1 tF (fH dC)) (fH dC) cE rfl rfl rfl rfl (XW hA) (by unfold jU;decide),by unfold jU;simp,by decide⟩
noncomputable def FV (k d:Int):pX :=
 if k=0 then WS (gP 16 (KS d (d / 50)))
 else if k=1 then DU [idE,fun x=>.inr (aA (rT (gV d)) x),fun _=>.inr (tv (LV (d / 6)))] [⟨#[95,105,100]⟩,⟨#[97]⟩,⟨#[99]⟩]
 else if k=2 then Te [(rT (gV d),if d / 6 % 2=0 then 1 else -1)]
 else if k=3 then Ct (d % 6)
 else if k=4 then SV (d % 20)
 else if k=5 then DU [xE (KS d (d / 50)) aE (fun _=>.inr rU),cE] [⟨#[97]⟩,⟨#[99]⟩]
 else Ab (fun x=>.inr (aA (rT (gV d)) x)) (Mx (xI (d / 6 % 4))) [⟨#[95,105,100]⟩,⟨#[97]⟩,⟨#[99]⟩]
theorem XZ {Tb:World->Prop} (hA:bN Tb) (k d:Int) (_h0:0<=d):sZ Tb (LW k d) (FV k d):=by
 have hp:=uh d;unfold LW FV;by_cases e0:k=0
 ·rw [if_pos e0,if_pos e0];exact Ik hA.atoi hA.itoa hA.lies (o1 II (KS d (d / 50))) _ rfl rfl rfl rfl fun v wB w ha hk hb0 hT=>Ii hA.split hA.lies _ ((sW d (d / 50)).ok 14) v wB w ha hk hb0 hT
 rw [if_neg e0,if_neg e0];by_cases e1:k=1
 ·rw [if_pos e1,if_pos e1];refine tH hA.valid hA.lies _ _ (by simp) (o1 mZ (aO 6 0 ByteArray.empty [fH I7,fH (lD (gV d)),o1 ji (tv (LV (d / 6)))] [⟨#[95,105,100]⟩,⟨#[97]⟩,⟨#[99]⟩])) (aO 6 0 ByteArray.empty [fH I7,fH (lD (gV d)),o1 ji (tv (LV (d / 6)))] [⟨#[95,105,100]⟩,⟨#[97]⟩,⟨#[99]⟩]) rfl rfl rfl rfl fun v wB w ha hk hb0 hT=>?_;refine FR hA.lies _ _ rfl rfl (by simp) (by simp) (fun i hi=>?_) v wB w ha hk hb0 hT;have hi':i<3:=hi
  match i,hi' with
  | 0,_=>exact ⟨by kernel_rfl,abd hA⟩
  | 1,_=>exact ⟨by kernel_rfl,XR hA hp⟩
  | 2,_=>exact ⟨by kernel_rfl,XY hA _⟩
 rw [if_neg e1,if_neg e1];by_cases e2:k=2
 ·rw [if_pos e2,if_pos e2];refine Lp hA.atoi hA.itoa hA.split hA.lies _ (o1 LM (o1 (rH (gV d)) (nT (if d / 6 % 2=0 then 1 else -1)))) (o1 (rH (gV d)) (nT (if d / 6 % 2=0 then 1 else -1))) rfl rfl rfl rfl rfl rfl (by simp) (by simp) fun i hi=>?_;obtain rfl:i=0:=by simp at hi;omega
  refine ⟨rfl,rfl,?_,CO hp,XD hp,by show (rH (gV d)).size<=_;have:=O4 hp;omega⟩;show (if d / 6 % 2=0 then (1:Int) else -1)=1\/(if d / 6 % 2=0 then (1:Int) else -1)=-1;split
  ·exact .inl rfl
  ·exact .inr rfl
 rw [if_neg e2,if_neg e2];by_cases e3:k=3
 ·rw [if_pos e3,if_pos e3];exact Lr (o1 LP (nT (d % 6))) (nT (d % 6)) rfl rfl rfl rfl rfl (by show 0<=d % 6;omega)
 rw [if_neg e3,if_neg e3];by_cases e4:k=4
 ·rw [if_pos e4,if_pos e4];exact Iq (o1 CQ (nT (d % 20))) (nT (d % 20)) rfl rfl rfl rfl rfl (by show 0<=d % 20;omega)
 rw [if_neg e4,if_neg e4];by_cases e5:k=5
 ·rw [if_pos e5,if_pos e5];refine tH hA.valid hA.lies _ _ (by simp) (o1 mZ (aO 6 0 ByteArray.empty [o1 zW (Pb (KS d (d / 50)) (fH dA) (o1 ji rU)),fH dC] [⟨#[97]⟩,⟨#[99]⟩])) (aO 6 0 ByteArray.empty [o1 zW (Pb (KS d (d / 50)) (fH dA) (o1 ji rU)),fH dC] [⟨#[97]⟩,⟨#[99]⟩]) rfl rfl rfl rfl fun v wB w ha hk hb0 hT=>?_;refine FR hA.lies _ _ rfl rfl (by simp) (by simp) (fun i hi=>?_) v wB w ha hk hb0 hT;have hi':i<2:=hi
  match i,hi' with
  | 0,_=>exact ⟨by kernel_rfl,afW hA _ _ _ _ _ ((sW d (d / 50)).ok 14) (aiO hA) (XY hA _)⟩
  | 1,_=>exact ⟨by kernel_rfl,XW hA⟩
 rw [if_neg e5,if_neg e5];obtain ⟨q1,q2,q3⟩:=afX hA (d / 6 % 4);generalize xI (d / 6 % 4)=op at q1 q2 q3;refine IG hA.valid hA.lies _ (Mx op) [⟨#[95,105,100]⟩,⟨#[97]⟩,⟨#[99]⟩] (o1 CS (aO 6 0 ByteArray.empty [fH (lD (gV d)),adv op] [⟨#[98,121]⟩,⟨#[109,97,107,101]⟩])) (aO 6 0 ByteArray.empty [fH (lD (gV d)),adv op] [⟨#[98,121]⟩,⟨#[109,97,107,101]⟩]) rfl rfl rfl rfl fun v wB w ha hk hb0 hT=>?_;refine O8 hA.lies _ (fH (lD (gV d))) (adv op) 0 1 _ (Mx op) rfl rfl (by rfl) (by rfl) rfl rfl (XR hA hp) rfl rfl (by simp [Mx]) (fun i hi=>?_) v wB w ha hk hb0 hT;have hi':i<2:=hi
 match i,hi' with
 | 0,_=>exact ⟨(by show (⟨#[97]⟩:ByteArray)≠IC;decide),by kernel_rfl,tL hA.lies (o1 fD (fH I7)) (fH I7) idE rfl rfl rfl rfl (abd hA) (by unfold jU;simp [Mx]),by unfold jU;simp [Mx],(by show ByteArray.size fD<=100;decide)⟩
 | 1,_=>exact ⟨(by show (⟨#[99]⟩:ByteArray)≠IC;decide),by kernel_rfl,q1,q2,q3⟩
theorem Pd {Tb:World->Prop} (hA:bN Tb) (v:Value) (n:Nat) (w:World) (hv:LJ w v n) (hT:Tb w) :
  Calls Tryz.prog 25 #[v] w fun e w'=>∃ p l,e=.returned (.tuple #[.pointer (some ⟨p,0,none⟩),.int .i64 (l.length:Nat)])/\Below w.heap.size w w'/\mY l/\l.length<=30/\DN w.heap.size w' p 2 (vQ (some l) (some l)):=by
 obtain ⟨A,cp,rfl,hn,hr⟩:=hv;have HR:=ak hr;have HA:=ak hA;have HN:=ak (Zf w);have HT:Hid (∀ w':World,Below w.heap.size w w'->Tb w'):=fun w' hb=>hA.lies w hT w w' hT hb;have HD:Hid (∀ (id c d:Int) (w:World),0<=id->id<30->-9223372036854775808<=c->c<=9223372036854775807->-9223372036854775808<=d->d<=9223372036854775807->Tb w->Calls Tryz.prog 61 #[.int .i64 id,.int .i64 c,.int .i64 d] w fun e w'=>Below w.heap.size w w'/\∃ i o,i<36/\(∀ j,o=some j->j<36)/\e=.returned (.string (vO id i o))):=fun id c d w h1 h2 h3 h4 h5 h6 h7=>Hw hA.itoa hA.lies id c d w h1 h2 h3 h4 h5 h6 h7;have HS0:=ak (DN.new w);have HB0:Hid (Below w.heap.size w ((w.alloc (.map #[] 0)).alloc (.cells #[.map (some w.heap.size)] 102))):=(aY _ _).alloc (by simp) _;clear hr hA hT;go_in;go_wp2_with fail;refine HN.out.mono ?_;rintro e w1 ⟨rfl,rfl⟩;generalize (w.alloc (.map #[] 0)).alloc (.cells #[.map (some w.heap.size)] 102)=w1 at HS0 HB0 ⊢;generalize w.heap.size+1=p at HS0 ⊢;have HC1:=ak (Fz HS0.out nX (by decide) (by omega) (by kernel_rfl) rfl);clear HN;go_wp2_with fail;refine HC1.out.mono ?_;rintro e w2 ⟨rfl,b2,s2⟩;have HB2:=ak (HB0.out.trans b2);have Ml:=ak (Fz s2 nY (by decide) (by omega) (by kernel_rfl) rfl);clear HC1 b2 s2 HS0 HB0;go_wp2_with fail;refine Ml.out.mono ?_;rintro e w3 ⟨rfl,b3,s3⟩;rw [Z0] at s3;have HB3:=ak (HB2.out.trans b3);have Et:=ak s3;clear Ml b3 s3 HB2;go_wp2_with fail
 go_loopg [7,8] 30 (fun g a i wr=>∃ (k q:Nat),g=30 - k/\k<=30/\Hid (q=2*k)/\a=.int .i64 k/\i=.int .i64 q/\Hid (Below w.heap.size w wr)/\Hid (∃ l:List T,l.length=k/\mY l/\DN w.heap.size wr p 2 (vQ (some l) (some l))))
 case atStart=>exact ⟨0,0,rfl,Nat.zero_le _,rfl,rfl,rfl,HB3,[],rfl,mY.nil,Et.out⟩
 case round =>
  clear Et HB3;obtain ⟨k,q,rfl,hk,HQ,rfl,rfl,HB,HL⟩:=hrel;have hq:=HQ.out;by_cases hlt:q+1<n/\k<30
  ·obtain ⟨h1,h2⟩:=hlt;obtain ⟨b,o,z,hAe,hbl,c1,z0,z1⟩:=HR.out q (by omega);obtain ⟨b',o',z',afZ,_,c2,z0',z1'⟩:=HR.out (q+1) (by omega);subst hAe;simp only [Option.some.injEq,Addr.mk.injEq,and_true] at afZ;obtain ⟨rfl,rfl⟩:=afZ
   have QD:Hid (∀ w5:World,Below wr.heap.size wr w5->(w5.cell? ⟨b,o+q,none⟩=some (.int .i64 z)/\w5.cell? ⟨b,o+(q+1),none⟩=some (.int .i64 z'))):=by
    intro w5 hh;have hbw:b<wr.heap.size:=Nat.lt_of_lt_of_le hbl HB.out.size;exact ⟨(hh.cell (p:=⟨b,_,none⟩) hbw).trans ((HB.out.cell (p:=⟨b,_,none⟩) hbl).trans c1),(hh.cell (p:=⟨b,_,none⟩) hbw).trans ((HB.out.cell (p:=⟨b,_,none⟩) hbl).trans c2)⟩
   have qy:=ak (QD.out wr.drew (au wr));have HDk:Hid (∀ w5:World,Below wr.heap.size wr w5->Calls Tryz.prog 61 #[.int .i64 (k:Nat),.int .i64 z,.int .i64 z'] w5 fun e w'=>Below w5.heap.size w5 w'/\∃ i o,i<36/\(∀ j,o=some j->j<36)/\e=.returned (.string (vO (k:Nat) i o))):=fun w5 hh=>HD.out k z z' w5 (by omega) (by omega) z0 z1 z0' z1' (HT.out _ (HB.out.trans (hh.mono HB.out.size)));have x1:(q:Int)+1<(n:Int):=by omega
   have x2:(k:Int)<30:=by omega
   have hw1:IntKind.i64.wrap ((q:Int)+1)=(q:Int)+1:=by rw [IntKind.wrap_i64];omega
   have y1:(q:Int)<(n:Int):=by omega
   have y2:(0:Int)<=(q:Int)+1:=by omega
   have y3:((q:Int)+1).toNat=q+1:=by omega
   have HX:=ak (And.intro h1 h2);clear c1 c2 z0 z1 z0' z1' h1 h2 hq hbl;go_wp2_with fail;go_region_held3 (fun wx=>wx.cell? ⟨b,o+q,none⟩=some (.int .i64 z)/\wx.cell? ⟨b,o+(q+1),none⟩=some (.int .i64 z')) (first | exact uV | exact qy.out) ((go_at_call 61;refine (HDk.out _ (au wr)).mono ?_;rintro e5 w5 ⟨hb5,di,dq,hdi,hdq,rfl⟩;have uV:=QD.out _ ((au wr).trans hb5)));have eF:=ak (HB.out.trans (((au wr).trans hb5).mono HB.out.size));have hkq:(k:Int)<30:=x2;obtain ⟨l,hll,hdo,hst⟩:=HL.out;have HDo:=ak hdo;have Hll:=ak hll;have hz:=Fv (id:=(k:Int)) (by omega) (by omega) hdi hdq;have KT:=ak (Fw (id:=(k:Int)) (by omega) (by omega) hdi hdq);have HIn:=ak (acd (id:=(k:Int)) (by omega) (by omega) hdi hdq);have HDi:=ak (And.intro hdi hdq);generalize vO (k:Int) di dq=sd at *;have zl:=ak (hst.keep ((au wr).trans hb5));have HFr:Hid (dw (jq (Qt (tJ sd))) (aO 5 0 ByteArray.empty l []) l.length=false):=by show _=_;rw [KT.out.2,<- hll];exact hdo.fresh di dq
   have HI1:=ak (FB HA.out zl.out nX sd l (by decide) (by omega) (QM _ _) HIn.out HFr.out (by omega) (HT.out _ eF.out));clear hb5 uV QD qy HDk hdo hst hll hdi hdq HL x1 y1 y2 y3 hw1 HB;go_wp2_with fail;refine HI1.out.mono ?_;rintro e6 w6 ⟨rfl,b6,s6⟩;rw [XE] at s6;have iN:=ak (eF.out.trans b6);have HI2:=ak (FB HA.out s6 nY sd l (by decide) (by omega) (abb _ _) HIn.out HFr.out (by have:=Hll.out;omega) (HT.out _ iN.out));clear b6 s6 HI1 zl eF;go_wp2_with fail;refine HI2.out.mono ?_;rintro e7 w7 ⟨rfl,b7,s7⟩;rw [XF] at s7;have oF:=ak (iN.out.trans b7);have Xo:=ak s7;clear b7 s7 HI2 iN;have hq2:(q:Int)+2<9223372036854775807:=by have:=HX.out;omega
   go_wp2_with fail;go_roundg (30 - (k+1))
   case rel =>
    refine ⟨k+1,q+2,rfl,by omega,(by show _=_;have:=HQ.out;omega),by go_num,by go_num,oF,l++[tJ sd],by rw [List.length_append,Hll.out];rfl,?_,Xo.out⟩;rw [KT.out.2,<- Hll.out];exact HDo.out.snoc HDi.out.1 HDi.out.2
   case measure=>omega
  ·obtain ⟨l,hll,hdo,hst⟩:=HL.out;have Hll:=ak hll;have HDo:=ak hdo;have vM:=ak hst;have Hlen:=ak hk;have DJ:=ak (Zy HA.out hst nX LK l (by decide) (by decide) (QM _ _) (by omega) OZ Iz (HT.out _ HB.out));rw [O1,hll] at DJ;clear hdo hst HL HD HR hll;have hw1:IntKind.i64.wrap ((q:Int)+1)=(q:Int)+1:=by rw [IntKind.wrap_i64];omega
   by_cases x1:q+1<n
   ·have x1':(q:Int)+1<(n:Int):=by omega
    obtain rfl:k=30:=by omega
    clear hlt hq x1;go_wp2_with fail;refine DJ.out.mono ?_;rintro e8 w8 ⟨b8,A8,c8,rfl,_⟩;have QE:=ak (HB.out.trans (b8.mono HB.out.size));have HS8:=ak (vM.out.keep b8);have Gp:=ak (FC HA.out HS8.out ⟨#[122]⟩ LK (by decide) (by decide) (CP _ _ (by decide) (by decide)) OZ Iz (HT.out _ QE.out));clear b8 DJ;go_wp2_with fail;refine Gp.out.mono ?_;rintro e9 w9 ⟨b9,rfl⟩;have Yv:=ak (QE.out.trans (b9.mono QE.out.size));have HS9:=ak (HS8.out.keep b9);clear b9 Gp;go_wp2_with fail;refine bodyPost_ret (v:=.tuple #[.pointer (some ⟨p,0,none⟩),.int .i64 ((30:Nat):Int)]) (by simp [results,Tryz.results25,go_sem, *]) rfl ?_;exact ⟨p,l,by rw [Hll.out],Yv.out,HDo.out,by rw [Hll.out];exact Hlen.out,HS9.out⟩
   ·have x1':¬ ((q:Int)+1<(n:Int)):=by omega
    clear hlt hq x1;go_wp2_with fail;refine DJ.out.mono ?_;rintro e8 w8 ⟨b8,A8,c8,rfl,_⟩;have QE:=ak (HB.out.trans (b8.mono HB.out.size));have HS8:=ak (vM.out.keep b8);have Gp:=ak (FC HA.out HS8.out ⟨#[122]⟩ LK (by decide) (by decide) (CP _ _ (by decide) (by decide)) OZ Iz (HT.out _ QE.out));clear b8 DJ;go_wp2_with fail;refine Gp.out.mono ?_;rintro e9 w9 ⟨b9,rfl⟩;have Yv:=ak (QE.out.trans (b9.mono QE.out.size));have HS9:=ak (HS8.out.keep b9);clear b9 Gp;go_wp2_with fail;refine bodyPost_ret (v:=.tuple #[.pointer (some ⟨p,0,none⟩),.int .i64 (k:Nat)]) (by simp [results,Tryz.results25,go_sem, *]) rfl ?_;exact ⟨p,l,by rw [Hll.out],Yv.out,HDo.out,by rw [Hll.out];exact Hlen.out,HS9.out⟩
theorem X0:∀ (f:Nat) (t:T),rG f t->rG (f+1) t
 | 0,_,h=>h.elim
 | f+1,_,h=>⟨h.1,fun i hi=>X0 f _ (h.2.1 i hi),h.2.2⟩
theorem QT:∀ (m:Nat) (t:T),dD m t->dD (m+1) t
 | 0,_,h=>.inl h
 | m+1,_,h=>h.elim .inl fun h=>.inr ⟨h.1,h.2.1,fun i hi=>QT m _ (h.2.2.1 i hi),h.2.2.2⟩
theorem ni {m:Nat} {t:T} (h:dD (m+1) t) {i:Nat} (hi:i<nL t):dD m (elt t i):=by
 rcases h with h | h
 ·have:=h.1;omega
 ·exact h.2.2.1 i hi
theorem xJ {m:Nat} {t:T} (h:bH (m+1) t=t):∀ x ∈ lH t,bH m x=x:=by
 have h1:lH (bH (m+1) t)=lH t:=congrArg lH h;rw [bH,rV] at h1;intro x hx;obtain ⟨i,hi,rfl⟩:=List.getElem_of_mem hx;have h2:((lH t).map (bH m))[i]?=(lH t)[i]?:=by rw [h1]
 rw [List.getElem?_map,List.getElem?_eq_getElem hi] at h2;simpa using h2
theorem X3:∀ (m:Nat) (t:T),bH m t=t->bH (m+1) t=t
 | 0,t,h=>by
  have h1:lH t=[]:=by rw [<- h];rfl
  have h2:jZ t=[]:=by rw [<- h];rfl
  rw [bH,h1,h2];exact h
 | m+1,t,h=>by
  have h1:(lH t).map (bH (m+1))=lH t:=by
   conv=>rhs;rw [<- List.map_id (lH t)]
   exact List.map_congr_left fun x hx=>X3 m x (xJ h x hx)
  have h2:(lH t).map (bH m)=lH t:=by
   conv=>rhs;rw [<- List.map_id (lH t)]
   exact List.map_congr_left fun x hx=>xJ h x hx
  rw [bH,h1];rw [bH,h2] at h;exact h
theorem adw {t:T} {i:Nat} (hi:i<nL t):elt t i ∈ lH t:=by
 unfold elt;rw [List.getD_eq_getElem?_getD,List.getElem?_eq_getElem hi];exact List.getElem_mem hi
theorem zB {g h:T->List UInt8} {t:T}:∀ n,(∀ i,i<n->g (elt t i)=h (elt t i))->dL g t n=dL h t n
 | 0,_=>rfl
 | n+1,e=>by rw [dL,dL,zB n (fun i hi=>e i (by omega)),e n (by omega)]
theorem zC {g h:T->List UInt8} {t:T}:∀ n,(∀ i,i<n->g (elt t i)=h (elt t i))->eZ g t n=eZ h t n
 | 0,_=>rfl
 | n+1,e=>by rw [eZ,eZ,zC n (fun i hi=>e i (by omega)),e n (by omega)]
theorem yP {t:T} (h:aW t):aj t≠5/\aj t≠6:=by
 obtain ⟨_,_,h | h | h | h⟩:=h<;>rw [h.1]<;>decide
theorem X4:∀ (m:Nat) (t:T),dD m t->bL (m+1) t=bL m t
 | 0,t,h=>by
  show (if aj t=5 then _ else if aj t=6 then _ else eD t)=eD t;rw [if_neg (yP h).1,if_neg (yP h).2]
 | m+1,t,h=>by
  have hk:nK t<=nL t:=by
   rcases h with h | ⟨_,_,_,h | h⟩
   ·have:=h.2.1;omega
   ·omega
   ·omega
  have he:∀ i,i<nL t->bL (m+1) (elt t i)=bL m (elt t i):=fun i hi=>X4 m _ (ni h hi);rw [bL,zB (nL t) he,zC (nK t) fun i hi=>he i (by omega)];rfl
structure Vf (t:T):Prop where
 fit:rG 12 t
 can:bH 11 t=t
 good:dD 11 t
def jE (t:T):Nat:=max 4 (bL 11 t).length
theorem abg (t:T):4<=jE t:=Nat.le_max_left _ _
theorem qP (t:T):(bL 11 t).length<=jE t:=Nat.le_max_right _ _
theorem Pe {t:T} {n:Nat} (h4:4<=n) (h:(bL 11 t).length<=n):jE t<=n:=Nat.max_le.2 ⟨h4,h⟩
theorem adx {m:Nat} {t:T} (h:dD (m+1) t) {i:Nat} (hi:i<nL t):(bL m (elt t i)).length<=(bL (m+1) t).length:=by
 rcases h with h | ⟨_,_,_,h | h⟩
 ·have:=h.1;omega
 ·rw [bL,if_pos h.1,GZ,List.length_cons,List.length_append];have:=xg (g:=bL m) (t:=t) (o:=false) (nL t) i hi;omega
 ·rw [bL,if_neg (by rw [h.1];decide),if_pos h.1,Nw,List.length_cons,List.length_append];have:=xg (g:=bL m) (t:=t) (o:=true) (nK t) i (by omega);omega
theorem Vf.sub {t:T} (h:Vf t) {i:Nat} (hi:i<nL t):Vf (elt t i)/\jE (elt t i)<=jE t:=by
 have hg:dD 10 (elt t i):=ni h.good hi;refine ⟨⟨X0 11 _ (h.fit.2.1 i hi),X3 10 _ (xJ h.can _ (adw hi)),QT 10 _ hg⟩,Pe (abg t) ?_⟩;rw [X4 10 _ hg];exact Nat.le_trans (adx h.good hi) (qP t)
theorem CU {m:Nat} {t:T} (h:dD (m+1) t) (k6:aj t=6):nK t=nL t:=by
 rcases h with h | ⟨_,_,_,h | h⟩
 ·exact absurd k6 (yP h).2
 ·have:=h.1;omega
 ·exact h.2.1
theorem CV:Vf q8/\jE q8=4:=by
 refine ⟨⟨?_,by kernel_rfl,.inl ⟨rfl,rfl,.inl ⟨rfl,rfl,by kernel_rfl⟩⟩⟩,by kernel_rfl⟩;exact mP 12 _ (by kernel_rfl)
theorem Vf.path:∀ (p:List ByteArray) {t:T},Vf t->Vf (aA p t)/\jE (aA p t)<=jE t
 | [],t,h=>⟨h,Nat.le_refl _⟩
 | x::p,t,h=>by
  unfold aA;rw [j6];cases hp:M4 x t with
  | none=>exact ⟨CV.1,by show jE q8<=_;rw [CV.2];exact abg t⟩
  | some k =>
   have hk:=M5 hp (CU h.good);obtain ⟨h1,h2⟩:=h.sub hk;obtain ⟨h3,h4⟩:=Vf.path p h1;exact ⟨h3,Nat.le_trans h4 h2⟩
theorem af3:((List.range 36).all fun i=>NW 12 (tv i)&&decide (jE (tv i)<=10))=true:=by kernel_rfl
theorem ady {i:Nat} (hi:i<36):Vf (tv i)/\jE (tv i)<=10:=by
 have h:=List.all_eq_true.1 af3 i (List.mem_range.2 hi);rw [Bool.and_eq_true,decide_eq_true_eq] at h;exact ⟨⟨mP 12 _ h.1,xw hi,Fu hi⟩,h.2⟩
theorem abh:Vf rU/\jE rU<=5:=by
 have h:=QS 9;refine ⟨⟨mP 12 _ (by kernel_rfl),by kernel_rfl,h.good⟩,?_⟩;show jE rU<=5;rw [show jE rU=5 by kernel_rfl];exact Nat.le_refl _
end Go.Proofs.YtknakfpciccoaaaGreatDoor
