import Derived.Test.YtknakfpciccoaabGreatDoorZL23
import Derived.Test.YtknakfpciccoaabGreatDoorZL27
import Derived.Test.YtknakfpciccoaabGreatDoorZL36
import Derived.Test.YtknakfpciccoaabGreatDoorZL25
import Derived.Test.YtknakfpciccoaabGreatDoorZL11
import Derived.Test.YtknakfpciccoaabGreatDoorZL26
/- The stages of the laws: their texts, their trees, what they are read as. -/
set_option maxHeartbeats 8000000
set_option maxRecDepth 100000
namespace Go.Proofs.YtknakfpciccoaabGreatDoor
open Go.RowKit
theorem XE {f:Nat} {t1 t2:T} {s1 s2:ByteArray} {n1 n2:Nat} (h1:nG f t1 s1 n1) (h2:nG f t2 s2 n2) {s':ByteArray} (hs:s'.data.toList=[123,34,97,34,58]++(s1.data.toList++([44,34,99,34,58]++(s2.data.toList++[125])))):nG (f+1) (aX 6 0 ByteArray.empty [t1,t2] [⟨#[97]⟩,⟨#[99]⟩]) s' (n1+n2+12):=by
 have e:dG (f+1) (aX 6 0 ByteArray.empty [t1,t2] [⟨#[97]⟩,⟨#[99]⟩])=123::((([]++([]++(dK ⟨#[97]⟩++(58::dG f t1))))++([44]++(dK ⟨#[99]⟩++(58::dG f t2))))++[125]):=rfl;have q1:dK ⟨#[97]⟩=[34,97,34]:=by kernel_rfl
 have q2:dK ⟨#[99]⟩=[34,99,34]:=by kernel_rfl
 have vP:∀ i,i<2->i=0\/i=1:=fun i hi=>by omega
 refine ⟨?_,⟨jq (by omega) (by omega) _ _ (by simp) (by simp),fun i hi=>?_,fun i hi=>?_⟩,.inr ⟨rfl,dV _ _ _ _,fun i hi=>?_,.inr ⟨rfl,rfl,by kernel_rfl,by kernel_rfl⟩⟩,?_,?_⟩
 ·rw [e,hs,q1,q2,h1.wr,h2.wr];simp
 ·rcases vP i hi with rfl | rfl
  ·exact h1.fit
  ·exact h2.fit
 ·rcases vP i hi with rfl | rfl
  ·show (1:Nat)<=_;omega
  ·show (1:Nat)<=_;omega
 ·rcases vP i hi with rfl | rfl
  ·exact h1.good
  ·exact h2.good
 ·show aX 6 0 ByteArray.empty [dS f t1,dS f t2] [⟨#[97]⟩,⟨#[99]⟩]=_;rw [h1.can,h2.can]
 ·have z0:s'.size=s'.data.toList.length:=rfl;have z1:s1.size=s1.data.toList.length:=rfl;have y1:=h1.size;have z2:s2.size=s2.data.toList.length:=rfl;have y2:=h2.size;rw [z0,hs];simp only [List.length_cons,List.length_append,List.length_nil];omega
theorem Z8 {f:Nat} {t1 t2 t3:T} {s1 s2 s3:ByteArray} {n1 n2 n3:Nat} (h1:nG f t1 s1 n1) (h2:nG f t2 s2 n2) (h3:nG f t3 s3 n3) {s':ByteArray} (hs:s'.data.toList=[123,34,95,105,100,34,58]++(s1.data.toList++([44,34,97,34,58]++(s2.data.toList++([44,34,99,34,58]++(s3.data.toList++[125])))))):nG (f+1) (aX 6 0 ByteArray.empty [t1,t2,t3] [⟨#[95,105,100]⟩,⟨#[97]⟩,⟨#[99]⟩]) s' (n1+n2+n3+19):=by
 have e:dG (f+1) (aX 6 0 ByteArray.empty [t1,t2,t3] [⟨#[95,105,100]⟩,⟨#[97]⟩,⟨#[99]⟩])=123::(((([]++([]++(dK ⟨#[95,105,100]⟩++(58::dG f t1))))++([44]++(dK ⟨#[97]⟩++(58::dG f t2))))++([44]++(dK ⟨#[99]⟩++(58::dG f t3))))++[125]):=rfl;have q1:dK ⟨#[95,105,100]⟩=[34,95,105,100,34]:=by kernel_rfl
 have q2:dK ⟨#[97]⟩=[34,97,34]:=by kernel_rfl
 have q3:dK ⟨#[99]⟩=[34,99,34]:=by kernel_rfl
 have vP:∀ i,i<3->i=0\/i=1\/i=2:=fun i hi=>by omega
 refine ⟨?_,⟨jq (by omega) (by omega) _ _ (by simp) (by simp),fun i hi=>?_,fun i hi=>?_⟩,.inr ⟨rfl,dV _ _ _ _,fun i hi=>?_,.inr ⟨rfl,rfl,by kernel_rfl,by kernel_rfl⟩⟩,?_,?_⟩
 ·rw [e,hs,q1,q2,q3,h1.wr,h2.wr,h3.wr];simp
 ·rcases vP i hi with rfl | rfl | rfl
  ·exact h1.fit
  ·exact h2.fit
  ·exact h3.fit
 ·rcases vP i hi with rfl | rfl | rfl
  ·show (3:Nat)<=_;omega
  ·show (1:Nat)<=_;omega
  ·show (1:Nat)<=_;omega
 ·rcases vP i hi with rfl | rfl | rfl
  ·exact h1.good
  ·exact h2.good
  ·exact h3.good
 ·show aX 6 0 ByteArray.empty [dS f t1,dS f t2,dS f t3] [⟨#[95,105,100]⟩,⟨#[97]⟩,⟨#[99]⟩]=_;rw [h1.can,h2.can,h3.can]
 ·have z0:s'.size=s'.data.toList.length:=rfl;have z1:s1.size=s1.data.toList.length:=rfl;have y1:=h1.size;have z2:s2.size=s2.data.toList.length:=rfl;have y2:=h2.size;have z3:s3.size=s3.data.toList.length:=rfl;have y3:=h3.size;rw [z0,hs];simp only [List.length_cons,List.length_append,List.length_nil];omega
theorem adA {f:Nat} {t1 t2:T} {s1 s2:ByteArray} {n1 n2:Nat} (h1:nG f t1 s1 n1) (h2:nG f t2 s2 n2) {s':ByteArray} (hs:s'.data.toList=[123,34,98,121,34,58]++(s1.data.toList++([44,34,109,97,107,101,34,58]++(s2.data.toList++[125])))):nG (f+1) (aX 6 0 ByteArray.empty [t1,t2] [⟨#[98,121]⟩,⟨#[109,97,107,101]⟩]) s' (n1+n2+16):=by
 have e:dG (f+1) (aX 6 0 ByteArray.empty [t1,t2] [⟨#[98,121]⟩,⟨#[109,97,107,101]⟩])=123::((([]++([]++(dK ⟨#[98,121]⟩++(58::dG f t1))))++([44]++(dK ⟨#[109,97,107,101]⟩++(58::dG f t2))))++[125]):=rfl;have q1:dK ⟨#[98,121]⟩=[34,98,121,34]:=by kernel_rfl
 have q2:dK ⟨#[109,97,107,101]⟩=[34,109,97,107,101,34]:=by kernel_rfl
 have vP:∀ i,i<2->i=0\/i=1:=fun i hi=>by omega
 refine ⟨?_,⟨jq (by omega) (by omega) _ _ (by simp) (by simp),fun i hi=>?_,fun i hi=>?_⟩,.inr ⟨rfl,dV _ _ _ _,fun i hi=>?_,.inr ⟨rfl,rfl,by kernel_rfl,by kernel_rfl⟩⟩,?_,?_⟩
 ·rw [e,hs,q1,q2,h1.wr,h2.wr];simp
 ·rcases vP i hi with rfl | rfl
  ·exact h1.fit
  ·exact h2.fit
 ·rcases vP i hi with rfl | rfl
  ·show (2:Nat)<=_;omega
  ·show (4:Nat)<=_;omega
 ·rcases vP i hi with rfl | rfl
  ·exact h1.good
  ·exact h2.good
 ·show aX 6 0 ByteArray.empty [dS f t1,dS f t2] [⟨#[98,121]⟩,⟨#[109,97,107,101]⟩]=_;rw [h1.can,h2.can]
 ·have z0:s'.size=s'.data.toList.length:=rfl;have z1:s1.size=s1.data.toList.length:=rfl;have y1:=h1.size;have z2:s2.size=s2.data.toList.length:=rfl;have y2:=h2.size;rw [z0,hs];simp only [List.length_cons,List.length_append,List.length_nil];omega
def o9:ByteArray:=⟨#[36,109,97,116,99,104]⟩
def Cj:ByteArray:=⟨#[36,103,114,111,117,112]⟩
def dC:ByteArray:=⟨#[36,99]⟩
theorem Ck:lG o9/\lG Cj/\lG ig/\lG sM/\lG fK/\lG BU/\lG BX/\lG o8/\lG sQ:=⟨lG.mk' (by kernel_rfl),lG.mk' (by kernel_rfl),lG.mk' (by kernel_rfl),lG.mk' (by kernel_rfl),lG.mk' (by kernel_rfl),lG.mk' (by kernel_rfl),lG.mk' (by kernel_rfl),lG.mk' (by kernel_rfl),lG.mk' (by kernel_rfl)⟩
def Il:List ByteArray:=[yD,dA,dC]++(List.range 6).map lI
def lW (s:ByteArray):ByteArray:=aY (34::(s.data.toList++[34]))
theorem Z9:((List.range 12).all fun f=>Il.all fun s=>decide ((lW s).data.toList=dG (f+1) (eB s))&&Nn (f+2) (eB s)&&(aP (f+1) (eB s) 1048576).isSome&&decide ((lW s).size<=10))=true:=by kernel_rfl
theorem qP {s:ByteArray} (h:s ∈ Il) {f:Nat} (hf:f<12):nG (f+1) (eB s) (lW s) 10:=by
 have h1:=List.all_eq_true.1 (List.all_eq_true.1 Z9 f (List.mem_range.2 hf)) s h;simp only [Bool.and_eq_true,decide_eq_true_eq] at h1;obtain ⟨⟨⟨a,b⟩,c⟩,d⟩:=h1;refine ⟨a,sF _ _ b,?_,rfl,d⟩;rcases mM (f+1) (eB s) 1048576 (by omega) with ⟨_,h,_⟩ | ⟨h,_⟩
 ·exact h
 ·rw [h] at c;cases c
theorem Qp {k:Nat} (hk:k<6):lI k ∈ Il:=List.mem_append_right _ (List.mem_map_of_mem (List.mem_range.2 hk))
theorem XF:yD ∈ Il:=by simp [Il]
theorem agp:dA ∈ Il:=by simp [Il]
theorem abl:dC ∈ Il:=by simp [Il]
theorem Fz (k:Nat):(lW (lI k)).data.toList=34::36::((rC k).data.toList++[34]):=by
 rw [lW,aN,lI,aO];rfl
noncomputable def Dr (c:Int):Nat:=Classical.choose (p8 c)
theorem FB (c:Int):Dr c<36/\mZ c=vt (Dr c):=Classical.choose_spec (p8 c)
def Lh:T:=aX 5 0 ByteArray.empty [nT 1,nT 2] []
theorem aac (f:Nat):nG (f+2) Lh ⟨#[91,49,44,50,93]⟩ 30 :=
 ((oZ (n:=1) (by omega) (by omega) f).acs (oZ (n:=2) (by omega) (by omega) f) (s':=⟨#[91,49,44,50,93]⟩) (by kernel_rfl)).le (by omega)
def IG (m:Int):ByteArray:=if m=0 then BU else if m=1 then BX else if m=2 then o8 else sQ
noncomputable def jU (k d:Int):ByteArray :=
 if k=0 then ((⟨#[123,34,36,109,97,116,99,104,34,58]⟩:ByteArray)++sI d (d / 50))++⟨#[125]⟩
 else if k=1 then ((((⟨#[123,34,36,112,114,111,106,101,99,116,34,58,123,34,95,105,100,34,58,34,36,95,105,100,34,44,34,97,34,58,34,36]⟩:ByteArray)++rC (gT d))++⟨#[34,44,34,99,34,58,123,34,36,108,105,116,34,58]⟩)++mZ (d / 6))++⟨#[125,125,125]⟩
 else if k=2 then ((((⟨#[123,34,36,115,111,114,116,34,58,123]⟩:ByteArray)++Z7 (gT d))++⟨#[58]⟩)++(if d / 6 % 2=0 then ⟨#[49]⟩ else ⟨#[45,49]⟩))++⟨#[125,125]⟩
 else if k=3 then ((⟨#[123,34,36,115,107,105,112,34,58]⟩:ByteArray)++aY (Lib.itoa (d % 6)))++⟨#[125]⟩
 else if k=4 then ((⟨#[123,34,36,108,105,109,105,116,34,58]⟩:ByteArray)++aY (Lib.itoa (d % 20)))++⟨#[125]⟩
 else if k=5 then ((⟨#[123,34,36,112,114,111,106,101,99,116,34,58,123,34,97,34,58,123,34,36,105,102,34,58,91]⟩:ByteArray)++sI d (d / 50))++⟨#[44,34,36,97,34,44,123,34,36,108,105,116,34,58,91,49,44,50,93,125,93,125,44,34,99,34,58,34,36,99,34,125,125]⟩
 else ((((⟨#[123,34,36,103,114,111,117,112,34,58,123,34,98,121,34,58,34,36]⟩:ByteArray)++rC (gT d))++⟨#[34,44,34,109,97,107,101,34,58,123,34,97,34,58,123,34,36,108,105,115,116,34,58,34,36,95,105,100,34,125,44,34,99,34,58,123,34,36]⟩)++(if d / 6 % 4=0 then ⟨#[109,105,110]⟩ else if d / 6 % 4=1 then ⟨#[109,97,120]⟩ else if d / 6 % 4=2 then ⟨#[102,105,114,115,116]⟩ else ⟨#[108,97,115,116]⟩))++⟨#[34,58,34,36,99,34,125,125,125,125]⟩
noncomputable def FC (k d:Int):T :=
 if k=0 then o1 o9 (BK d (d / 50))
 else if k=1 then o1 jT (aX 6 0 ByteArray.empty [eB yD,eB (lI (gT d)),o1 ig (tv (Dr (d / 6)))] [⟨#[95,105,100]⟩,⟨#[97]⟩,⟨#[99]⟩])
 else if k=2 then o1 Ld (o1 (rC (gT d)) (nT (if d / 6 % 2=0 then 1 else -1)))
 else if k=3 then o1 Ci (nT (d % 6))
 else if k=4 then o1 vK (nT (d % 20))
 else if k=5 then o1 jT (aX 6 0 ByteArray.empty [o1 sM (aX 5 0 ByteArray.empty [BK d (d / 50),eB dA,o1 ig Lh] []),eB dC] [⟨#[97]⟩,⟨#[99]⟩])
 else o1 Cj (aX 6 0 ByteArray.empty [eB (lI (gT d)),aX 6 0 ByteArray.empty [o1 fK (eB yD),o1 (IG (d / 6 % 4)) (eB dC)] [⟨#[97]⟩,⟨#[99]⟩]] [⟨#[98,121]⟩,⟨#[109,97,107,101]⟩])
theorem aad (f:Nat):nG (f+1) (nT (-1)) ⟨#[45,49]⟩ 10:=by
 refine ⟨?_,⟨⟨by show -9223372036854775808<=(3:Int);omega,by show (3:Int)<=9223372036854775807;omega,by show -9223372036854775808<=(-1:Int);omega,by show (-1:Int)<=9223372036854775807;omega,by show (0:Nat)<=_;omega,by show (0:Nat)<=_;omega,by show (0:Nat)<=_;omega⟩,fun i hi=>absurd hi (Nat.not_lt_zero i),fun i hi=>absurd hi (Nat.not_lt_zero i)⟩,GU _ _,rfl,by decide⟩;rw [pX (by show (3:Int)≠5;decide) (by show (3:Int)≠6;decide)];kernel_rfl
theorem aae (k d:Int) (_h0:0<=d):nG 11 (FC k d) (jU k d) 300:=by
 have hp:=tQ d;have hpl:=Z0 hp;have hz:=Ox hp;obtain ⟨m1,m2,m3,m4,m5,m6,m7,m8,m9⟩:=Ck;obtain ⟨n1,n2,n3,n4,n5⟩:=tZ;unfold FC jU;by_cases e0:k=0
 ·rw [if_pos e0,if_pos e0];have hf:=(sJ d (d / 50)).rep 10 (by omega) (by omega);refine (hf.obj m1 ?_).le (by show 150+6+5<=300;omega);simp only [aO,o9];simp
 rw [if_neg e0,if_neg e0];by_cases e1:k=1
 ·rw [if_pos e1,if_pos e1];obtain ⟨v1,v2⟩:=FB (d / 6);rw [v2];have r1:=qP XF (f:=8) (by omega);have r2:=qP (Qp hp) (f:=8) (by omega);have r3:=(yh v1 (f:=8) (by omega) (by omega)).obj m3 (s':=aY (123::34::(ig.data.toList++(34::58::((vt (Dr (d / 6))).data.toList++[125]))))) (aN _);have r4:=Z8 r1 r2 r3 (s':=aY ([123,34,95,105,100,34,58]++((lW yD).data.toList++([44,34,97,34,58]++((lW (lI (gT d))).data.toList++([44,34,99,34,58]++((aY (123::34::(ig.data.toList++(34::58::((vt (Dr (d / 6))).data.toList++[125]))))).data.toList++[125]))))))) (aN _);refine (r4.obj n4 ?_).le (by show 10+10+(10+4+5)+19+8+5<=300;omega);rw [aN,Fz,aN];have hq:(lW yD).data.toList=[34,36,95,105,100,34]:=by kernel_rfl
  rw [hq];simp only [aO,jT,ig];simp
 rw [if_neg e1,if_neg e1];by_cases e2:k=2
 ·rw [if_pos e2,if_pos e2];by_cases q:d / 6 % 2=0
  ·rw [if_pos q,if_pos q];have r1:=oZ (n:=1) (by omega) (by omega) 8;have e9:(aY (Lib.itoa 1)).data.toList=[49]:=by kernel_rfl
   have r2:=r1.obj hpl (s':=aY (123::34::((rC (gT d)).data.toList++(34::58::((aY (Lib.itoa 1)).data.toList++[125]))))) (aN _);refine (r2.obj n1 ?_).le (by show 10+(rC (gT d)).size+5+5+5<=300;omega);rw [aN,e9];simp only [aO,Ld,Z7];simp
  ·rw [if_neg q,if_neg q];have r1:=aad 8;have r2:=r1.obj hpl (s':=aY (123::34::((rC (gT d)).data.toList++(34::58::([45,49]++[125]))))) (by rw [aN]);refine (r2.obj n1 ?_).le (by show 10+(rC (gT d)).size+5+5+5<=300;omega);rw [aN];simp only [aO,Ld,Z7];simp
 rw [if_neg e2,if_neg e2];by_cases e3:k=3
 ·rw [if_pos e3,if_pos e3];exact (Qm (n:=d % 6) (by omega) (by omega) 9 (by simp only [aO];simp)).le (by omega)
 rw [if_neg e3,if_neg e3];by_cases e4:k=4
 ·rw [if_pos e4,if_pos e4];exact (Qn (n:=d % 20) (by omega) (by omega) 9 (by simp only [aO];simp)).le (by omega)
 rw [if_neg e4,if_neg e4];by_cases e5:k=5
 ·rw [if_pos e5,if_pos e5];have r1:=(sJ d (d / 50)).rep 7 (by omega) (by omega);have r2:=qP agp (f:=6) (by omega);have r3:=(aac 4).obj m3 (s':=aY (123::34::(ig.data.toList++(34::58::((⟨#[91,49,44,50,93]⟩:ByteArray).data.toList++[125]))))) (aN _);have r4:=(((Ch.one r1).snoc (by simp) r2 (u':=aY ((sI d (d / 50)).data.toList++(44::(lW dA).data.toList))) (aN _)).snoc (by simp) r3 (u':=aY ((aY ((sI d (d / 50)).data.toList++(44::(lW dA).data.toList))).data.toList++(44::(aY (123::34::(ig.data.toList++(34::58::((⟨#[91,49,44,50,93]⟩:ByteArray).data.toList++[125]))))).data.toList))) (aN _)).list (by simp) (s':=aY (91::((aY ((aY ((sI d (d / 50)).data.toList++(44::(lW dA).data.toList))).data.toList++(44::(aY (123::34::(ig.data.toList++(34::58::((⟨#[91,49,44,50,93]⟩:ByteArray).data.toList++[125]))))).data.toList))).data.toList++[93]))) (aN _);have r5:=r4.obj m4 (s':=aY (123::34::(sM.data.toList++(34::58::((aY (91::((aY ((aY ((sI d (d / 50)).data.toList++(44::(lW dA).data.toList))).data.toList++(44::(aY (123::34::(ig.data.toList++(34::58::((⟨#[91,49,44,50,93]⟩:ByteArray).data.toList++[125]))))).data.toList))).data.toList++[93]))).data.toList++[125]))))) (aN _);have r6:=qP abl (f:=8) (by omega)
  have r7:=XE r5 r6 (s':=aY ([123,34,97,34,58]++((aY (123::34::(sM.data.toList++(34::58::((aY (91::((aY ((aY ((sI d (d / 50)).data.toList++(44::(lW dA).data.toList))).data.toList++(44::(aY (123::34::(ig.data.toList++(34::58::((⟨#[91,49,44,50,93]⟩:ByteArray).data.toList++[125]))))).data.toList))).data.toList++[93]))).data.toList++[125]))))).data.toList++([44,34,99,34,58]++((lW dC).data.toList++[125]))))) (aN _);refine (r7.obj n4 ?_).le (by show 150+10+1+(30+4+5)+1+2+3+5+10+12+8+5<=300;omega);have hqa:(lW dA).data.toList=[34,36,97,34]:=by kernel_rfl
  have hqc:(lW dC).data.toList=[34,36,99,34]:=by kernel_rfl
  simp only [aN,hqa,hqc,aO,jT,ig,sM];simp
 rw [if_neg e5,if_neg e5]
 have hlast:∀ (op:ByteArray) (nm:ByteArray),lG op->op.size<=10->op.data.toList=36::nm.data.toList->nG 11 (o1 Cj (aX 6 0 ByteArray.empty [eB (lI (gT d)),aX 6 0 ByteArray.empty [o1 fK (eB yD),o1 op (eB dC)] [⟨#[97]⟩,⟨#[99]⟩]] [⟨#[98,121]⟩,⟨#[109,97,107,101]⟩])) ((((⟨#[123,34,36,103,114,111,117,112,34,58,123,34,98,121,34,58,34,36]⟩:ByteArray)++rC (gT d))++⟨#[34,44,34,109,97,107,101,34,58,123,34,97,34,58,123,34,36,108,105,115,116,34,58,34,36,95,105,100,34,125,44,34,99,34,58,123,34,36]⟩)++nm++⟨#[34,58,34,36,99,34,125,125,125,125]⟩) 300:=by
  intro op nm ho hoz hon;have r1:=(qP XF (f:=6) (by omega)).obj m5 (s':=aY (123::34::(fK.data.toList++(34::58::((lW yD).data.toList++[125]))))) (aN _);have r2:=(qP abl (f:=6) (by omega)).obj ho (s':=aY (123::34::(op.data.toList++(34::58::((lW dC).data.toList++[125]))))) (aN _);have r3:=XE r1 r2 (s':=aY ([123,34,97,34,58]++((aY (123::34::(fK.data.toList++(34::58::((lW yD).data.toList++[125]))))).data.toList++([44,34,99,34,58]++((aY (123::34::(op.data.toList++(34::58::((lW dC).data.toList++[125]))))).data.toList++[125]))))) (aN _);have r4:=qP (Qp hp) (f:=8) (by omega);have r5:=adA r4 r3 (s':=aY ([123,34,98,121,34,58]++((lW (lI (gT d))).data.toList++([44,34,109,97,107,101,34,58]++((aY ([123,34,97,34,58]++((aY (123::34::(fK.data.toList++(34::58::((lW yD).data.toList++[125]))))).data.toList++([44,34,99,34,58]++((aY (123::34::(op.data.toList++(34::58::((lW dC).data.toList++[125]))))).data.toList++[125]))))).data.toList++[125]))))) (aN _);refine (r5.obj m2 ?_).le (by show 10+(10+5+5+(10+op.size+5)+12)+16+6+5<=300;omega);have hqa:(lW yD).data.toList=[34,36,95,105,100,34]:=by kernel_rfl
  have hqc:(lW dC).data.toList=[34,36,99,34]:=by kernel_rfl
  simp only [aN,hqa,hqc,Fz,hon,aO,Cj,fK];simp
 unfold IG;by_cases q0:d / 6 % 4=0
 ·rw [if_pos q0,if_pos q0];exact hlast BU _ m6 (by decide) (by kernel_rfl)
 rw [if_neg q0,if_neg q0];by_cases q1:d / 6 % 4=1
 ·rw [if_pos q1,if_pos q1];exact hlast BX _ m7 (by decide) (by kernel_rfl)
 rw [if_neg q1,if_neg q1];by_cases q2:d / 6 % 4=2
 ·rw [if_pos q2,if_pos q2];exact hlast o8 _ m8 (by decide) (by kernel_rfl)
 rw [if_neg q2,if_neg q2];exact hlast sQ _ m9 (by decide) (by kernel_rfl)
def cE (d:T):Int⊕T:=.inr (d9 [stC] d)
theorem XG {Tb:World->Prop} (hA:bP Tb):dH Tb (eB dC) cE:=Af hA dC stC [stC] (by kernel_rfl) (by kernel_rfl) (by decide) (by decide) (by kernel_rfl) (by kernel_rfl)
theorem OE {Tb:World->Prop} (hA:bP Tb) (j:T):dH Tb (o1 ig j) (fun _=>.inr j):=ni hA.lies (o1 ig j) j ig _ rfl rfl rfl rfl fun v wB w ha hk _ _=>Zv Tb j v wB w ha hk
def Im (a b c:T):T:=aX 5 0 ByteArray.empty [a,b,c] []
theorem abm {Tb:World->Prop} (hA:bP Tb) (tf j1 j2:T) (g1 g2:T->Int⊕T) (hok:bH 16 tf=true) (h1:dH Tb j1 g1) (h2:dH Tb j2 g2):dH Tb (o1 sM (Im tf j1 j2)) (nO tf g1 g2) :=
 ni hA.lies (o1 sM (Im tf j1 j2)) (Im tf j1 j2) sM _ rfl rfl rfl rfl fun v wB w ha hk hb0 hT=>acG hA.lies (Im tf j1 j2) _ (fun v wB w ha hk hb0 hT=>KR hA.atoi hA.itoa hA.split hA.lies (Im tf j1 j2) tf j1 j2 g1 g2 rfl rfl rfl rfl rfl hok h1 h2 v wB w ha hk hb0 hT) v wB w ha hk hb0 hT
def XH (op:ByteArray):List (ByteArray×(T->Int⊕T)):=[(fK,Fv),(op,cE)]
def adB (op:ByteArray):T:=aX 6 0 ByteArray.empty [o1 fK (eB yD),o1 op (eB dC)] [⟨#[97]⟩,⟨#[99]⟩]
theorem Cm (m:Int):IG m=BU\/IG m=BX\/IG m=o8\/IG m=sQ:=by
 unfold IG;split
 ·exact .inl rfl
 ·split
  ·exact .inr (.inl rfl)
  ·split
   ·exact .inr (.inr (.inl rfl))
   ·exact .inr (.inr (.inr rfl))
theorem agq {Tb:World->Prop} (hA:bP Tb) (m:Int):Ih Tb (o1 (IG m) (eB dC)) (IG m) cE/\jS (IG m)/\(IG m).size<=100:=by
 rcases Cm m with h | h | h | h<;>rw [h]
 ·exact ⟨sS hA.lies (o1 BU (eB dC)) (eB dC) cE rfl rfl rfl rfl (XG hA) (by unfold jS;decide),by unfold jS;simp,by decide⟩
 ·exact ⟨sS hA.lies (o1 BX (eB dC)) (eB dC) cE rfl rfl rfl rfl (XG hA) (by unfold jS;decide),by unfold jS;simp,by decide⟩
 ·exact ⟨sS hA.lies (o1 o8 (eB dC)) (eB dC) cE rfl rfl rfl rfl (XG hA) (by unfold jS;decide),by unfold jS;simp,by decide⟩
 ·exact ⟨sS hA.lies (o1 sQ (eB dC)) (eB dC) cE rfl rfl rfl rfl (XG hA) (by unfold jS;decide),by unfold jS;simp,by decide⟩
noncomputable def FD (k d:Int):rD :=
 if k=0 then G7 (gy 16 (BK d (d / 50)))
 else if k=1 then G5 [Fv,fun x=>.inr (d9 (Dp (gT d)) x),fun _=>.inr (tv (Dr (d / 6)))] [⟨#[95,105,100]⟩,⟨#[97]⟩,⟨#[99]⟩]
 else if k=2 then Sw [(Dp (gT d),if d / 6 % 2=0 then 1 else -1)]
 else if k=3 then vI (d % 6)
 else if k=4 then Dh (d % 20)
 else if k=5 then G5 [nO (BK d (d / 50)) aE (fun _=>.inr Lh),cE] [⟨#[97]⟩,⟨#[99]⟩]
 else Ce (fun x=>.inr (d9 (Dp (gT d)) x)) (XH (IG (d / 6 % 4))) [⟨#[95,105,100]⟩,⟨#[97]⟩,⟨#[99]⟩]
theorem XI {Tb:World->Prop} (hA:bP Tb) (k d:Int) (_h0:0<=d):nA Tb (FC k d) (FD k d):=by
 have hp:=tQ d;unfold FC FD;by_cases e0:k=0
 ·rw [if_pos e0,if_pos e0];exact wX hA.atoi hA.itoa hA.lies (o1 o9 (BK d (d / 50))) _ rfl rfl rfl rfl fun v wB w ha hk hb0 hT=>wW hA.split hA.lies _ ((sJ d (d / 50)).ok 14) v wB w ha hk hb0 hT
 rw [if_neg e0,if_neg e0];by_cases e1:k=1
 ·rw [if_pos e1,if_pos e1];refine nE hA.valid hA.lies _ _ (by simp) (o1 jT (aX 6 0 ByteArray.empty [eB yD,eB (lI (gT d)),o1 ig (tv (Dr (d / 6)))] [⟨#[95,105,100]⟩,⟨#[97]⟩,⟨#[99]⟩])) (aX 6 0 ByteArray.empty [eB yD,eB (lI (gT d)),o1 ig (tv (Dr (d / 6)))] [⟨#[95,105,100]⟩,⟨#[97]⟩,⟨#[99]⟩]) rfl rfl rfl rfl fun v wB w ha hk hb0 hT=>?_;refine yB hA.lies _ _ rfl rfl (by simp) (by simp) (fun i hi=>?_) v wB w ha hk hb0 hT;have hi':i<3:=hi
  match i,hi' with
  | 0,_=>exact ⟨by kernel_rfl,Lg hA⟩
  | 1,_=>exact ⟨by kernel_rfl,XD hA hp⟩
  | 2,_=>exact ⟨by kernel_rfl,OE hA _⟩
 rw [if_neg e1,if_neg e1];by_cases e2:k=2
 ·rw [if_pos e2,if_pos e2];refine KS hA.atoi hA.itoa hA.split hA.lies _ (o1 Ld (o1 (rC (gT d)) (nT (if d / 6 % 2=0 then 1 else -1)))) (o1 (rC (gT d)) (nT (if d / 6 % 2=0 then 1 else -1))) rfl rfl rfl rfl rfl rfl (by simp) (by simp) fun i hi=>?_;obtain rfl:i=0:=by simp at hi;omega
  refine ⟨rfl,rfl,?_,Cg hp,Xk hp,by show (rC (gT d)).size<=_;have:=Ox hp;omega⟩;show (if d / 6 % 2=0 then (1:Int) else -1)=1\/(if d / 6 % 2=0 then (1:Int) else -1)=-1;split
  ·exact .inl rfl
  ·exact .inr rfl
 rw [if_neg e2,if_neg e2];by_cases e3:k=3
 ·rw [if_pos e3,if_pos e3];exact zf (o1 Ci (nT (d % 6))) (nT (d % 6)) rfl rfl rfl rfl rfl (by show 0<=d % 6;omega)
 rw [if_neg e3,if_neg e3];by_cases e4:k=4
 ·rw [if_pos e4,if_pos e4];exact wZ (o1 vK (nT (d % 20))) (nT (d % 20)) rfl rfl rfl rfl rfl (by show 0<=d % 20;omega)
 rw [if_neg e4,if_neg e4];by_cases e5:k=5
 ·rw [if_pos e5,if_pos e5];refine nE hA.valid hA.lies _ _ (by simp) (o1 jT (aX 6 0 ByteArray.empty [o1 sM (Im (BK d (d / 50)) (eB dA) (o1 ig Lh)),eB dC] [⟨#[97]⟩,⟨#[99]⟩])) (aX 6 0 ByteArray.empty [o1 sM (Im (BK d (d / 50)) (eB dA) (o1 ig Lh)),eB dC] [⟨#[97]⟩,⟨#[99]⟩]) rfl rfl rfl rfl fun v wB w ha hk hb0 hT=>?_;refine yB hA.lies _ _ rfl rfl (by simp) (by simp) (fun i hi=>?_) v wB w ha hk hb0 hT;have hi':i<2:=hi
  match i,hi' with
  | 0,_=>exact ⟨by kernel_rfl,abm hA _ _ _ _ _ ((sJ d (d / 50)).ok 14) (ai5 hA) (OE hA _)⟩
  | 1,_=>exact ⟨by kernel_rfl,XG hA⟩
 rw [if_neg e5,if_neg e5];obtain ⟨q1,q2,q3⟩:=agq hA (d / 6 % 4);generalize IG (d / 6 % 4)=op at q1 q2 q3;refine Ik hA.valid hA.lies _ (XH op) [⟨#[95,105,100]⟩,⟨#[97]⟩,⟨#[99]⟩] (o1 Cj (aX 6 0 ByteArray.empty [eB (lI (gT d)),adB op] [⟨#[98,121]⟩,⟨#[109,97,107,101]⟩])) (aX 6 0 ByteArray.empty [eB (lI (gT d)),adB op] [⟨#[98,121]⟩,⟨#[109,97,107,101]⟩]) rfl rfl rfl rfl fun v wB w ha hk hb0 hT=>?_;refine OC hA.lies _ (eB (lI (gT d))) (adB op) 0 1 _ (XH op) rfl rfl (by rfl) (by rfl) rfl rfl (XD hA hp) rfl rfl (by simp [XH]) (fun i hi=>?_) v wB w ha hk hb0 hT;have hi':i<2:=hi
 match i,hi' with
 | 0,_=>exact ⟨(by show (⟨#[97]⟩:ByteArray)≠Ii;decide),by kernel_rfl,sS hA.lies (o1 fK (eB yD)) (eB yD) Fv rfl rfl rfl rfl (Lg hA) (by unfold jS;simp [XH]),by unfold jS;simp [XH],(by show ByteArray.size fK<=100;decide)⟩
 | 1,_=>exact ⟨(by show (⟨#[99]⟩:ByteArray)≠Ii;decide),by kernel_rfl,q1,q2,q3⟩
theorem VR.docs {w0:World} {lo:Nat} {w:World} {v:Value} {l:List T} {xs:List Value} (h:VR w0 lo w v l xs) (hb:Below w0.heap.size w0 w) (hn:l.length<=1000000):cu w v l:=by
 have hx:xs.length=l.length*5:=h.row.1;rcases h.row.2 with ⟨rfl,h0⟩ | ⟨g,cap,cur,rfl,hb0,hg,hnc,hcm,rest⟩
 ·exact ⟨none,0,by rw [h0],hn,by omega,by omega,fun i hi=>by rw [aI] at hi;omega,h.ok⟩
 ·refine ⟨_,_,rfl,hn,hnc,by unfold maxLen at hcm;omega,fun i hi=>?_,h.ok⟩;rw [aI] at hi;have hc:∀ j,j<5->w.cell? ⟨g,i*5+j,none⟩=some (cx xs (i*5+j)):=fun j hj=>aW h.row (dR (by omega));refine ⟨g,0,cx xs (i*5),cx xs (i*5+1),cx xs (i*5+2),cx xs (i*5+3),cx xs (i*5+4),rfl,(Array.getElem?_eq_some_iff.1 hg).1,(by rw [Nat.zero_add];exact hc 0 (by omega)),(by rw [Nat.zero_add];exact hc 1 (by omega)),(by rw [Nat.zero_add];exact hc 2 (by omega)),(by rw [Nat.zero_add];exact hc 3 (by omega)),(by rw [Nat.zero_add];exact hc 4 (by omega)),?_⟩;rw [dD l hi];exact (h.at_ i hi).keep hb
def vL (kd:Int) (t:T):Bool:=!(ah t==kd)
theorem Li (kd:Int) (lv:Value) (hl:∃ A n c,lv=.slice A n c) (t:T) (f:Nat) (v:Value) (w:World) (ha:At w f v t) :
  Calls Tryz.prog 276 #[.agg #[.int .i64 kd,lv],v] w fun e w'=>e=.returned (.bool (vL kd t))/\Below w.heap.size w w':=by
 obtain ⟨A,n,c,rfl⟩:=hl;obtain ⟨g1,La,Ka,Lc,Kc,hg1,rfl,_,_,_⟩:=ha.open;have HB1:Hid (Below w.heap.size w ((w.alloc (.cells #[.int .i64 kd,.slice A n c] 268)).alloc (vC t La Lc Ka Kc))):=(aQ _ _).alloc (by simp) _;clear ha hg1;by_cases hk:ah t=kd
 ·have HE:Hid (vL kd t=false):=by show _=_;unfold vL;rw [hk];simp
  have hkb:(ah t==kd)=true:=by simpa using hk
  rw [HE.out];subst hk;go_in;go_wp2_with fail;go_ret;exact ⟨rfl,HB1.out⟩
 ·have HE:Hid (vL kd t=true):=by show _=_;unfold vL;simp [hk]
  have hkb:(ah t==kd)=false:=by simpa using hk
  have Hk:=aj hk;rw [HE.out];clear hk;go_in;go_wp2_with fail;go_ret;refine ⟨?_,HB1.out⟩;simp [go_sem, *];exact Hk.out
def OvP (w0:World) (kd:Int) (gs:List (T->Int⊕T)) (doc:T) (w:World) (e:Ending) (w':World):Prop :=
 Below w.heap.size w w'/\((∃ x,mI gs doc=.inl x/\x≠0/\e=.returned (.tuple #[.slice none 0 0,.int .i64 x]))\/(∃ l,mI gs doc=.inr l/\l.any (vL kd)=true/\e=.returned (.tuple #[.slice none 0 0,.int .i64 13]))\/∃ l v xs,mI gs doc=.inr l/\l.any (vL kd)=false/\l.length=gs.length/\e=.returned (.tuple #[v,.int .i64 0])/\VR w0 w.heap.size w' v l xs)
theorem Lj (P:T->Bool) (l:List T):∀ k,k<=l.length->cZ P (aX 5 0 ByteArray.empty l []) k=(l.take k).any P
 | 0,_=>rfl
 | k+1,h=>by
  rw [cZ,Lj P l k (by omega),dD l (by omega),List.take_add_one,List.getElem?_eq_getElem (by omega),List.any_append];simp
theorem XJ (P:T->Bool) (l:List T):cZ P (aX 5 0 ByteArray.empty l []) (nL (aX 5 0 ByteArray.empty l []))=l.any P:=by
 rw [aI,Lj P l _ (Nat.le_refl _),List.take_length]
theorem vM {Tb:World->Prop} (hL:aS Tb) (kd:Int) (lv:Value) (gs:List (T->Int⊕T)) (x:Value) (doc:T) (w0 w:World) (hb0:Below w0.heap.size w0 w) (hl:eY Tb w0 lv gs) (h:At w0 13 x doc) (hok:bM doc) (hT:Tb w) :
  Calls Tryz.prog 278 #[.agg #[.int .i64 kd,lv],x] w (OvP w0 kd gs doc w):=by
 obtain ⟨g1,La,Ka,Lc,Kc,hg1,hx,_,_,_⟩:=h.open;have hl2:=hl;obtain ⟨EA,ec,hlv,hn,_⟩:=hl2;obtain ⟨W2,hW2⟩:∃ W,(w.alloc (.cells #[.int .i64 kd,.slice EA gs.length ec] 268)).alloc (vC doc La Lc Ka Kc)=W:=⟨_,rfl⟩;have HB1:Hid (Below w.heap.size w W2):=by rw [<- hW2];exact (aQ _ _).alloc (by simp) _
 have HO:Hid (∀ w':World,Below W2.heap.size W2 w'->w'.cell? ⟨w.heap.size,0,none⟩=some (.int .i64 kd)/\w'.cell? ⟨w.heap.size,1,none⟩=some (.slice EA gs.length ec)):=fun w' hb=>by
  have hlt:w.heap.size<W2.heap.size:=by rw [<- hW2];simp;omega
  refine ⟨(hb.cell (p:=⟨w.heap.size,0,none⟩) hlt).trans ?_,(hb.cell (p:=⟨w.heap.size,1,none⟩) hlt).trans ?_⟩
  ·rw [<- hW2];simp [go_sem]
  ·rw [<- hW2];simp [go_sem]
 have HY:Hid (aH (w.heap.size+1) (.int .i64 (ah doc)) (.int .i64 (au doc)) (.string (ay doc)) (.slice La (nL doc) Lc) (.slice Ka (nK doc) Kc) W2):=by
  have:=aJ (w.alloc (.cells #[.int .i64 kd,.slice EA gs.length ec] 268)) (.int .i64 (ah doc)) (.int .i64 (au doc)) (.string (ay doc)) (.slice La (nL doc) Lc) (.slice Ka (nK doc) Kc);rw [hW2] at this;have h2:aH (w.heap.size+1) (.int .i64 (ah doc)) (.int .i64 (au doc)) (.string (ay doc)) (.slice La (nL doc) Lc) (.slice Ka (nK doc) Kc) W2:=by simpa using this
  exact h2
 have Hb0:=aj (hb0.trans (HB1.out.mono hb0.size));have HC:=aj (EX hL lv gs x doc w0 W2 Hb0.out hl h hok (hL w hT w W2 hT HB1.out));have HI:Hid (∀ (t:T) (v:Value) (w':World),At w' 13 v t->Calls Tryz.prog 276 #[.agg #[.int .i64 kd,.slice EA gs.length ec],v] w' fun e w2=>e=.returned (.bool (vL kd t))/\Below w'.heap.size w' w2):=fun t v w' ha=>Li kd _ ⟨EA,gs.length,ec,rfl⟩ t 13 v w' ha;subst hlv;subst hx;have Hn:=aj hn;clear h hok hT hL hg1 hb0 hl hn;obtain ⟨o0,o1⟩:=HO.out W2 (Below.refl _ _);have y0:=HY.out.q0;have y1:=HY.out.q1;have y2:=HY.out.q2;have y3:=HY.out.q3;have y4:=HY.out.q4;go_in;go_wp2_with fail;refine HC.out.mono ?_;rintro e w3 ⟨b3,⟨er,he,hne,rfl⟩ | ⟨l,v,xs,he,hlen,rfl,hv⟩⟩
 ·have HB3:=aj (HB1.out.trans (b3.mono HB1.out.size));have HE:=aj (And.intro he hne);have hnb:(er != 0)=true:=by simpa using hne
  clear b3 he hne HC;go_wp2_with fail;refine bodyPost_ret (v:=.tuple #[.slice none 0 0,.int .i64 er]) (by simp [results,Tryz.results278,go_sem, *]) rfl ?_;exact ⟨HB3.out,.inl ⟨er,HE.out.1,HE.out.2,rfl⟩⟩
 ·have HB3:=aj (HB1.out.trans (b3.mono HB1.out.size));have HV:=aj hv;have HE:=aj (And.intro he hlen);obtain ⟨A,c,rfl⟩:=gY hv.row;have hd:=hv.docs (Hb0.out.trans (b3.mono Hb0.out.size)) (by have:=Hn.out;omega);obtain ⟨o2,o3⟩:=HO.out w3 b3
  have HCf:Hid (Calls Tryz.prog 88 #[.slice A l.length c,.func (Fn.func 276) #[.agg #[.int .i64 kd,.slice EA gs.length ec]] #[]] w3 fun e w'=>e=.returned (.bool (l.any (vL kd)))/\Below w3.heap.size w3 w'):=by
   obtain ⟨La',Lc',hv',hn',_,_,hel,_⟩:=hd;simp only [Value.slice.injEq,true_and] at hv';obtain ⟨rfl,rfl⟩:=hv';have:=ow (vL kd) 276 (fun _ _=>rfl) (.agg #[.int .i64 kd,.slice EA gs.length ec]) 13 A c (aX 5 0 ByteArray.empty l []) w3 hel (by rw [aI];omega) (fun k hk wr v hb ha=>HI.out _ v wr ha);rw [XJ,aI] at this;exact this
  obtain ⟨bb,hbb⟩:∃ bb,l.any (vL kd)=bb:=⟨_,rfl⟩;rw [hbb] at HCf;have Hbb:=aj hbb;clear b3 he hlen hv hd HC hbb o0 o1;clear y0 y1 y2 y3 y4;go_wp2_with fail;refine HCf.out.mono ?_;rintro e w4 ⟨rfl,b4⟩;have bT:=aj (HB3.out.trans (b4.mono HB3.out.size));have QZ:Hid (VR w0 w.heap.size w4 (.slice A l.length c) l xs):=⟨yt (HV.out.keep b4).row HB1.out.size,HV.out.at_,HV.out.ok⟩;clear b4 HCf;cases bb with
  | true =>
   go_wp2_with fail;refine bodyPost_ret (v:=.tuple #[.slice none 0 0,.int .i64 13]) (by simp [results,Tryz.results278,go_sem, *]) rfl ?_;exact ⟨bT.out,.inr (.inl ⟨l,HE.out.1,Hbb.out,rfl⟩)⟩
  | false =>
   go_wp2_with fail;refine bodyPost_ret (v:=.tuple #[.slice A l.length c,.int .i64 0]) (by simp [results,Tryz.results278,go_sem, *]) rfl ?_;exact ⟨bT.out,.inr (.inr ⟨l,_,xs,HE.out.1,Hbb.out,HE.out.2,rfl,QZ.out⟩)⟩
end Go.Proofs.YtknakfpciccoaabGreatDoor
/- A pipeline's text is read; task, Run. -/
namespace Go.Proofs.YtknakfpciccoaabGreatDoor
open Go.RowKit Go.Maps Go.WideMaps
theorem XK {Tb:World->Prop} (hD:dn Tb) (hN:dO Tb) (hL:aS Tb) (p m n:Nat) (D:DataW Unit) (x s:ByteArray) (gs:List rD) (c:Nat) (w:World) (hs:s.size<=140737488355328) (hx:x.size<=140737488355328) (hst:jf w p m n D) (hT:Tb w) (h0:eJ s=0) (hp:qL Tb (tJ s) gs) (hc:tN D x=.lit (.int .i64 c)) :
  Calls Tryz.prog 39 #[.pointer (some ⟨p,0,none⟩),.string x,.string s,.func (Fn.func 40) #[] #[]] w fun e w'=>Below w.heap.size w w'/\∃ A cp,e=.returned (.tuple #[.pointer (some ⟨c,0,none⟩),.slice A gs.length cp,.int .i64 0])/\jQ Tb w' (.slice A gs.length cp) gs:=by
 have HP:=aj (Vv hD hN hL s w hs hT h0);have HK:=aj (mW h0);have sw:=aj hst;have HT:Hid (∀ w':World,Below w.heap.size w w'->Tb w'):=fun w' hb=>hL w hT w w' hT hb;have HF:Hid (∀ (v:Value) (w0 w1:World),At w0 13 v (tJ s)->Below w0.heap.size w0 w1->Tb w1->Calls Tryz.prog 40 #[v] w1 fun e w'=>Below w1.heap.size w1 w'/\∃ A c,e=.returned (.tuple #[.slice A gs.length c,.int .i64 0])/\gB w0 w' (aT w1 w') (fun x=>jQ Tb x (.slice A gs.length c) gs)):=fun v w0 w1 ha hb ht=>NR hL (tJ s) gs hp v w0 w1 ha HK.out hb ht;have Hc:=aj hc;clear hT hD hN hL h0 hst hp hc;go_in;go_wp2_with fail;refine HP.out.mono ?_;rintro e w1 ⟨b1,A,B,C,D',rfl,ha⟩;have fF:=aj (aQ w1 (vC (tJ s) A B C D'));have HB2:=aj (b1.trans (fF.out.mono b1.size));have HC:=aj (HF.out _ w1 _ ha fF.out (HT.out _ HB2.out));clear b1 ha HP;go_wp2_with fail;refine HC.out.mono ?_;rintro e w3 ⟨b3,A3,c3,rfl,agr⟩;have HB3:=aj (HB2.out.trans (b3.mono HB2.out.size));have HG:=aj (agr.at (fF.out.trans (b3.mono fF.out.size)));have D7:=aj (sw.out.keep HB3.out);have c0:=D7.out.cell;clear b3 agr HC fF HB2 sw HF HT;rcases D7.out.look x hx with ⟨hrun,hat⟩ | ⟨c',hrun,hat⟩
 ·rw [Hc.out] at hat;cases hat
 ·rw [Hc.out] at hat;obtain rfl:=oI hat;clear hat;go_wp2_with fail;refine bodyPost_ret (v:=.tuple #[.pointer (some ⟨c,0,none⟩),.slice A3 gs.length c3,.int .i64 0]) (by simp [results,Tryz.results39,go_sem, *]) rfl ?_;exact ⟨HB3.out,A3,c3,rfl,HG.out⟩
theorem XL {Tb:World->Prop} (hD:dn Tb) (hN:dO Tb) (hL:aS Tb) (p m n:Nat) (D:DataW Unit) (x s:ByteArray) (gs:List rD) (c:Nat) (w:World) (hs:s.size<=140737488355328) (hx:x.size<=140737488355328) (hst:jf w p m n D) (hT:Tb w) (h0:eJ s=0) (hp:qL Tb (tJ s) gs) (hc:tN D x=.lit (.int .i64 c)) :
  Calls Tryz.prog 22 #[.pointer (some ⟨p,0,none⟩),.string x,.string s] w fun e w'=>Below w.heap.size w w'/\∃ A cp,e=.returned (.tuple #[.pointer (some ⟨c,0,none⟩),.slice A gs.length cp,.int .i64 0])/\jQ Tb w' (.slice A gs.length cp) gs:=by
 have HC:=aj (XK hD hN hL p m n D x s gs c w hs hx hst hT h0 hp hc);clear hD hN hL hst hT hs hx h0 hp hc;go_in;go_wp2_with fail;refine HC.out.mono ?_;rintro e w1 ⟨b1,A,cp,rfl,h4⟩;have HB:=aj b1;have H1:=aj h4;clear b1 h4 HC;go_wp2_with fail;refine bodyPost_ret (v:=.tuple #[.pointer (some ⟨c,0,none⟩),.slice A gs.length cp,.int .i64 0]) (by simp [results,Tryz.results22,go_sem, *]) rfl ?_;exact ⟨HB.out,A,cp,rfl,H1.out⟩
def Io (gs:List rD) (l:List T) (w:World) (e:Ending) (w':World):Prop :=
 Below w.heap.size w w'/\((∃ (i k:Nat) (x:Int) (sv:Value),ny gs l 0=.inl (i,k,x)/\x≠0/\e=.returned (.tuple #[sv,.int .i64 i,.int .i64 k,.int .i64 x])/\w'.ownsRow w.heap.size 9 1 sv 0 []) \/
  ∃ r sv,ny gs l 0=.inr r/\e=.returned (.tuple #[sv,.int .i64 0,.int .i64 0,.int .i64 0])/\w'.ownsRow w.heap.size 9 1 sv r.length (r.map fun t=>.string (PN t))/\r.length<=1000000)
theorem aaf {Tb:World->Prop} (hA:bP Tb) (p m n:Nat) (D:DataW Unit) (x s:ByteArray) (gs:List rD) (c:Nat) (l:List T) (w:World) (hs:s.size<=140737488355328) (hx:x.size<=140737488355328) (hst:jf w p m n D) (hT:Tb w) (h0:eJ s=0) (hp:qL Tb (tJ s) gs) (hc:tN D x=.lit (.int .i64 c))
  (q0:∃ dv,w.cell? ⟨c,0,none⟩=some dv/\cu w dv l) (hcl:c<w.heap.size) :
  Calls Tryz.prog 10 #[.pointer (some ⟨p,0,none⟩),.string x,.string s] w (Io gs l w):=by
 have HC:=aj (XL hA.dec hA.int hA.lies p m n D x s gs c w hs hx hst hT h0 hp hc);obtain ⟨dv,q0,hd⟩:=q0;have Hd:=aj hd;obtain ⟨DA,dc,hdv,_⟩:=hd;subst hdv;have Hq:Hid (∀ w':World,Below w.heap.size w w'->w'.cell? ⟨c,0,none⟩=some (.slice DA l.length dc)):=fun w' hb=>(hb.cell (p:=⟨c,0,none⟩) hcl).trans q0;have HT:Hid (∀ w':World,Below w.heap.size w w'->Tb w'):=fun w' hb=>hA.lies w hT w w' hT hb;have HRn:Hid (∀ (pv dv:Value) (w:World),jQ Tb w pv gs->cu w dv l->Tb w->Calls Tryz.prog 23 #[pv,dv] w (Wv gs l w)):=fun pv dv w h1 h2 h3=>Ww hA.lies pv dv gs l w h1 h2 h3;have HPr:Hid (∀ (d:T) (La:Option Addr) (Lc:Nat) (w:World),bK w 13 La d->nL d<=1000000->Tb w->Calls Tryz.prog 24 #[.slice La (nL d) Lc] w fun e w'=>Below w.heap.size w w'/\∃ sv,e=.returned sv/\w'.ownsRow w.heap.size 9 1 sv (nL d) (Va d (nL d))):=fun d La Lc w h1 h2 h3=>wO hA.valid hA.fmt hA.lies d 13 La Lc w h1 h2 h3;clear hst hT hs hx hc hA h0 hp q0;go_in;go_wp2_with fail;refine HC.out.mono ?_;rintro e w1 ⟨b1,A,cp,rfl,h4⟩;have HB1:=aj b1;have q1:=Hq.out _ b1;have HM:=aj (HRn.out _ _ w1 h4 (Hd.out.keep b1) (HT.out _ b1));clear b1 h4 HC HRn;go_wp2_with fail;refine HM.out.mono ?_;rintro e w2 ⟨b2,⟨i,k,er,h1,h2,rfl⟩ | ⟨r,v,h1,rfl,h3⟩⟩
 ·have HB2:=aj (HB1.out.trans (b2.mono HB1.out.size));have fF:=aj (aQ w2 (.cells #[.int .i64 (i:Nat),.int .i64 (k:Nat),.int .i64 er] 57));have HB3:=aj (HB2.out.trans (fF.out.mono HB2.out.size));have HP:Hid (Calls Tryz.prog 24 #[.slice none 0 0] (w2.alloc (.cells #[.int .i64 (i:Nat),.int .i64 (k:Nat),.int .i64 er] 57)).drew fun e w'=>Below (w2.alloc (.cells #[.int .i64 (i:Nat),.int .i64 (k:Nat),.int .i64 er] 57)).drew.heap.size (w2.alloc (.cells #[.int .i64 (i:Nat),.int .i64 (k:Nat),.int .i64 er] 57)).drew w'/\∃ sv,e=.returned sv/\w'.ownsRow (w2.alloc (.cells #[.int .i64 (i:Nat),.int .i64 (k:Nat),.int .i64 er] 57)).drew.heap.size 9 1 sv 0 []):=HPr.out (aX 5 0 ByteArray.empty [] []) none 0 _ (fun i hi=>absurd hi (Nat.not_lt_zero i)) (Nat.zero_le _) (HT.out _ HB3.out.drew);have HF:=aj (And.intro h1 h2);have oQ:Hid (∀ wx:World,Below (w2.alloc (.cells #[.int .i64 (i:Nat),.int .i64 (k:Nat),.int .i64 er] 57)).heap.size (w2.alloc (.cells #[.int .i64 (i:Nat),.int .i64 (k:Nat),.int .i64 er] 57)) wx->(fun wx=>wx.cell? ⟨w2.heap.size,0,none⟩=some (.int .i64 (i:Nat))/\wx.cell? ⟨w2.heap.size,1,none⟩=some (.int .i64 (k:Nat))/\wx.cell? ⟨w2.heap.size,2,none⟩=some (.int .i64 er)) wx):=fun wx hb=>⟨(hb.cell (p:=⟨w2.heap.size,0,none⟩) (by simp)).trans (by simp [go_sem]),(hb.cell (p:=⟨w2.heap.size,1,none⟩) (by simp)).trans (by simp [go_sem]),(hb.cell (p:=⟨w2.heap.size,2,none⟩) (by simp)).trans (by simp [go_sem])⟩;have pF:=aj (oQ.out _ (ak _));clear b2 h1 h2 HM HPr
  go_wp2_with fail;go_region_held3 (fun wx=>wx.cell? ⟨w2.heap.size,0,none⟩=some (.int .i64 (i:Nat))/\wx.cell? ⟨w2.heap.size,1,none⟩=some (.int .i64 (k:Nat))/\wx.cell? ⟨w2.heap.size,2,none⟩=some (.int .i64 er)) (first | exact rV | exact pF.out) ((go_at_call 24;refine HP.out.mono ?_;rintro e5 w5 ⟨hb5,sv,rfl,ho5⟩;have rV:=oQ.out _ ((ak _).trans hb5)));have eU:=aj (HB3.out.trans (((ak _).trans hb5).mono HB3.out.size));have HO:=aj (Bw ho5 (HB3.out.drew.size));clear hb5 ho5 rV pF oQ HP;go_wp2_with fail;refine bodyPost_ret (v:=.tuple #[sv,.int .i64 (i:Nat),.int .i64 (k:Nat),.int .i64 er]) (by simp [results,Tryz.results10,go_sem, *]) rfl ?_;exact ⟨eU.out,.inl ⟨i,k,er,sv,HF.out.1,HF.out.2,rfl,HO.out⟩⟩
 ·obtain ⟨RA,rc,hrv,hn,hz1,hz2,hel,hz3⟩:=h3;subst hrv;clear hz1 hz2 hz3;have HB2:=aj (HB1.out.trans (b2.mono HB1.out.size));have fF:=aj (aQ w2 (.cells #[.int .i64 0,.int .i64 0,.int .i64 0] 57));have HB3:=aj (HB2.out.trans (fF.out.mono HB2.out.size));have HP:=aj (HPr.out (aX 5 0 ByteArray.empty r []) RA rc (w2.alloc (.cells #[.int .i64 0,.int .i64 0,.int .i64 0] 57)).drew (hel.keep fF.out.drew) (by rw [aI];exact hn) (HT.out _ HB3.out.drew));rw [aI,M5 _ _ _ _ _ _ (Nat.le_refl _),List.take_length] at HP;have HF:=aj (And.intro h1 hn);have oQ:Hid (∀ wx:World,Below (w2.alloc (.cells #[.int .i64 0,.int .i64 0,.int .i64 0] 57)).heap.size (w2.alloc (.cells #[.int .i64 0,.int .i64 0,.int .i64 0] 57)) wx->(fun wx=>wx.cell? ⟨w2.heap.size,0,none⟩=some (.int .i64 0)/\wx.cell? ⟨w2.heap.size,1,none⟩=some (.int .i64 0)/\wx.cell? ⟨w2.heap.size,2,none⟩=some (.int .i64 0)) wx):=fun wx hb=>⟨(hb.cell (p:=⟨w2.heap.size,0,none⟩) (by simp)).trans (by simp [go_sem]),(hb.cell (p:=⟨w2.heap.size,1,none⟩) (by simp)).trans (by simp [go_sem]),(hb.cell (p:=⟨w2.heap.size,2,none⟩) (by simp)).trans (by simp [go_sem])⟩;have pF:=aj (oQ.out _ (ak _));clear b2 h1 hn hel HM HPr;go_wp2_with fail
  go_region_held3 (fun wx=>wx.cell? ⟨w2.heap.size,0,none⟩=some (.int .i64 0)/\wx.cell? ⟨w2.heap.size,1,none⟩=some (.int .i64 0)/\wx.cell? ⟨w2.heap.size,2,none⟩=some (.int .i64 0)) (first | exact rV | exact pF.out) ((go_at_call 24;refine HP.out.mono ?_;rintro e5 w5 ⟨hb5,sv,rfl,ho5⟩;have rV:=oQ.out _ ((ak _).trans hb5)));have eU:=aj (HB3.out.trans (((ak _).trans hb5).mono HB3.out.size));have HO:=aj (Bw ho5 (HB3.out.drew.size));clear hb5 ho5 rV pF oQ HP;go_wp2_with fail;refine bodyPost_ret (v:=.tuple #[sv,.int .i64 0,.int .i64 0,.int .i64 0]) (by simp [results,Tryz.results10,go_sem, *]) rfl ?_;exact ⟨eU.out,.inr ⟨r,sv,HF.out.1,rfl,HO.out,HF.out.2⟩⟩
end Go.Proofs.YtknakfpciccoaabGreatDoor
/- Run, of a store as names and documents. -/
namespace Go.Proofs.YtknakfpciccoaabGreatDoor
open Go.RowKit Go.Maps Go.WideMaps
theorem aag {w:World} {lo:Nat} {e:TypeId} {s n c:Nat} {A:Option Addr} {xs:List Value} (h:w.ownsRow lo e s (.slice A n c) n xs):n<=c/\c<=9223372036854775807:=by
 rcases h.2 with ⟨h1,h2⟩ | ⟨g,cap,cur,h1,_,_,h2,h3,_⟩
 ·simp only [Value.slice.injEq] at h1;omega
 ·simp only [Value.slice.injEq] at h1;unfold maxLen at h3;omega
theorem adC {Tb:World->Prop} (hA:bP Tb) {B:Nat} {w:World} {p n:Nat} {S:ByteArray->Option (List T)} (h:NG B w p n S) (x s:ByteArray) (l:List T) (gs:List rD) (hx:x.size<=140737488355328) (hs:s.size<=140737488355328) (hS:S x=some l) (hl:l.length<=1000000) (he:eJ s=0) (hp:qL Tb (tJ s) gs) (hT:Tb w) :
  Calls Tryz.prog 10 #[.pointer (some ⟨p,0,none⟩),.string x,.string s] w (Io gs l w):=by
 obtain ⟨L,m,D,lf,vf,xf,h1,h2,h3,h4⟩:=h
 obtain ⟨c,hc,hlc⟩:∃ c:Nat,tN D x=.lit (.int .i64 c)/\lf c=l:=by
  rcases h4 x with ⟨h,_⟩ | ⟨c,hc,h⟩
  ·rw [hS] at h;cases h
  ·rw [hS] at h;exact ⟨c,hc,(Option.some.inj h).symm⟩
 have hco:=h1.col x c hc;have hto:=h1.VL hc;obtain ⟨La,Lc,hv,hel⟩:=hto.elems;have hrow:=hto.row;rw [hv,hlc] at hrow;have hcp:=aag hrow;have hcell:=hto.cell;rw [hv,hlc] at hcell;rw [hlc] at hel;have KM:=hco.doc;rw [hlc] at KM;exact aaf hA p m n D x s gs c l w hs hx h1.Tv hT he hp hc ⟨_,hcell,La,Lc,rfl,hl,hcp.1,hcp.2,hel,fun i hi=>(KM i hi).1⟩ hto.low
end Go.Proofs.YtknakfpciccoaabGreatDoor
