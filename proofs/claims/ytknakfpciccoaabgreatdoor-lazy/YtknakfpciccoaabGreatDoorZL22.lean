import Derived.Test.YtknakfpciccoaabGreatDoorZL21
/- value: one text for each number, in whatever world. -/
set_option maxHeartbeats 8000000
set_option maxRecDepth 100000
namespace Go.Proofs.YtknakfpciccoaabGreatDoor
open Go.RowKit
def aco (k P:Int):ByteArray :=
 if k=0\/k=1\/k=2 then aY (Lib.itoa (P / 8 % 9 - 4)) else if k=3 then (⟨#[34]⟩++⟨#[D9 (97+P / 8 % 3)]⟩)++⟨#[34]⟩ else if k=4 then (((⟨#[91]⟩++aY (Lib.itoa (P / 8 % 4)))++⟨#[44]⟩)++aY (Lib.itoa (P / 8 / 4 % 4)))++⟨#[93]⟩
 else if k=5 then (⟨#[123,34,98,34,58]⟩++aY (Lib.itoa (P / 8 % 4)))++⟨#[125]⟩ else if k=6 then (if P / 8 % 3=0 then vt 0 else if P / 8 % 3=1 then vt 2 else vt 1) else vt 15
def mZ (c:Int):ByteArray:=aco (bQ c % 8) (bQ c % 1099511627776)
theorem aa6 {P m:Int} (h:P / 8 % 3=m):aco 6 P=if m=0 then vt 0 else if m=1 then vt 2 else vt 1:=by subst h;rfl
def sG (c:Int) (w:World) (e:Ending) (w':World):Prop:=∃ s,(IsV s/\s=mZ c)/\e=.returned (.string s)/\Below w.heap.size w w'
theorem tT {Tb:World->Prop} (hI:bn Tb) (hL:aS Tb) (c:Int) (w:World) (h0:-9223372036854775808<=c) (h1:c<=9223372036854775807) (hT:Tb w) :
  Calls Tryz.prog 32 #[.int .i64 c] w (sG c w):=by
 have pE:=aj (eO c 1099511627776 w h0 h1 (by omega) (by omega));have oO:=aj (eO c 8 w h0 h1 (by omega) (by omega));have hb:=tC h0 h1;obtain ⟨P,hP⟩:∃ P,bQ c % 1099511627776=P:=⟨_,rfl⟩;obtain ⟨k,hk⟩:∃ k,bQ c % 8=k:=⟨_,rfl⟩;have p0:0<=P:=by omega
 have p1:P<=1099511627776:=by omega
 have k8:k=0\/k=1\/k=2\/k=3\/k=4\/k=5\/k=6\/k=7:=by omega
 have IC:Hid (mZ c=aco k P):=by show _=_;unfold mZ;rw [hP,hk]
 rw [hP] at pE;rw [hk] at oO;clear hP hk hb h0 h1;have HT:=aj hT;have HI:=aj hI;clear hT hI;rcases k8 with rfl | rfl | rfl | rfl | rfl | rfl | rfl | rfl
 ·go_in;go_wp2_with fail;refine pE.out.mono ?_;rintro e w ⟨rfl,rfl⟩;go_wp2_with fail;refine oO.out.mono ?_;rintro e w ⟨rfl,rfl⟩;have HC:=aj (HI.out (P / 8 % 9 - 4) w (by omega) (by omega) HT.out);go_wp2_with fail;refine HC.out.mono ?_;rintro e w1 ⟨rfl,b1⟩;have HB:=aj b1;clear b1;go_wp2_with fail;go_ret;exact ⟨_,⟨l9 (P / 8),IC.out.symm⟩,rfl,HB.out⟩
 ·go_in;go_wp2_with fail;refine pE.out.mono ?_;rintro e w ⟨rfl,rfl⟩;go_wp2_with fail;refine oO.out.mono ?_;rintro e w ⟨rfl,rfl⟩;have HC:=aj (HI.out (P / 8 % 9 - 4) w (by omega) (by omega) HT.out);go_wp2_with fail;refine HC.out.mono ?_;rintro e w1 ⟨rfl,b1⟩;have HB:=aj b1;clear b1;go_wp2_with fail;go_ret;exact ⟨_,⟨l9 (P / 8),IC.out.symm⟩,rfl,HB.out⟩
 ·go_in;go_wp2_with fail;refine pE.out.mono ?_;rintro e w ⟨rfl,rfl⟩;go_wp2_with fail;refine oO.out.mono ?_;rintro e w ⟨rfl,rfl⟩;have HC:=aj (HI.out (P / 8 % 9 - 4) w (by omega) (by omega) HT.out);go_wp2_with fail;refine HC.out.mono ?_;rintro e w1 ⟨rfl,b1⟩;have HB:=aj b1;clear b1;go_wp2_with fail;go_ret;exact ⟨_,⟨l9 (P / 8),IC.out.symm⟩,rfl,HB.out⟩
 ·have hcv:=aaR w (97+P / 8 % 3) (by omega);have e1:IntKind.u8.wrap (97+P / 8 % 3)=97+P / 8 % 3:=by rw [IntKind.wrap_u8];omega
  go_in;go_wp2_with fail;refine pE.out.mono ?_;rintro e w ⟨rfl,rfl⟩;go_wp2_with fail;refine oO.out.mono ?_;rintro e w ⟨rfl,rfl⟩;go_wp2_with fail;go_ret;exact ⟨_,⟨F8 (x:=P / 8 % 3) (by omega) (by omega),IC.out.symm⟩,rfl,aQ _ _⟩
 ·go_in;go_wp2_with fail;refine pE.out.mono ?_;rintro e w ⟨rfl,rfl⟩;go_wp2_with fail;refine oO.out.mono ?_;rintro e w ⟨rfl,rfl⟩;have HC:=aj (HI.out (P / 8 % 4) w (by omega) (by omega) HT.out);have HV:=aj (And.intro (AV (x:=P / 8 % 4) (y:=P / 8 / 4 % 4) (by omega) (by omega) (by omega) (by omega)) (show (((⟨#[91]⟩++aY (Lib.itoa (P / 8 % 4)))++⟨#[44]⟩)++aY (Lib.itoa (P / 8 / 4 % 4)))++⟨#[93]⟩=mZ c from IC.out.symm));have z1:=mG (n:=P / 8 % 4) (by omega) (by omega);have z2:=mG (n:=P / 8 / 4 % 4) (by omega) (by omega);have LH:=aj (fun w1 b1=>HI.out (P / 8 / 4 % 4) w1 (by omega) (by omega) (hL w HT.out w w1 HT.out b1));generalize aY (Lib.itoa (P / 8 % 4))=s1 at HC HV z1;generalize aY (Lib.itoa (P / 8 / 4 % 4))=s2 at LH HV z2;obtain ⟨a1,e1,y1,g1⟩:=aB ⟨#[91]⟩ s1 1 1 rfl z1 (by omega);obtain ⟨a2,e2,y2,g2⟩:=aB a1 ⟨#[44]⟩ 2 1 y1 rfl (by omega);obtain ⟨a3,e3,y3,g3⟩:=aB a2 s2 3 1 y2 z2 (by omega);obtain ⟨a4,e4,y4,g4⟩:=aB a3 ⟨#[93]⟩ 4 1 y3 rfl (by omega);rw [<- e1,<- e2,<- e3,<- e4] at HV;clear e1 e2 e3 e4 y1 y2 y3 y4 z1 z2;go_wp2_with fail;refine HC.out.mono ?_;rintro e w1 ⟨rfl,b1⟩;have HB:=aj b1;have Tt:=aj (LH.out w1 b1);clear b1;go_wp2_with fail;refine Tt.out.mono ?_;rintro e w2 ⟨rfl,b2⟩;have HB2:=aj (HB.out.trans (b2.mono HB.out.size));clear b2;go_wp2_with fail;go_ret;exact ⟨_,HV.out,rfl,HB2.out⟩
 ·go_in;go_wp2_with fail;refine pE.out.mono ?_;rintro e w ⟨rfl,rfl⟩;go_wp2_with fail;refine oO.out.mono ?_;rintro e w ⟨rfl,rfl⟩;have HC:=aj (HI.out (P / 8 % 4) w (by omega) (by omega) HT.out);have HV:=aj (And.intro (F7 (x:=P / 8 % 4) (by omega) (by omega)) (show (⟨#[123,34,98,34,58]⟩++aY (Lib.itoa (P / 8 % 4)))++⟨#[125]⟩=mZ c from IC.out.symm));have z1:=mG (n:=P / 8 % 4) (by omega) (by omega);generalize aY (Lib.itoa (P / 8 % 4))=s1 at HC HV z1;obtain ⟨a1,e1,y1,g1⟩:=aB ⟨#[123,34,98,34,58]⟩ s1 5 1 rfl z1 (by omega);obtain ⟨a2,e2,y2,g2⟩:=aB a1 ⟨#[125]⟩ 6 1 y1 rfl (by omega);rw [<- e1,<- e2] at HV;clear e1 e2 y1 y2 z1;go_wp2_with fail;refine HC.out.mono ?_;rintro e w1 ⟨rfl,b1⟩;have HB:=aj b1;clear b1;go_wp2_with fail;go_ret;exact ⟨_,HV.out,rfl,HB.out⟩
 ·obtain ⟨m,hm⟩:∃ m,P / 8 % 3=m:=⟨_,rfl⟩;obtain h | h | h:m=0\/m=1\/m=2:=by omega
  all_goals
   subst h;have HM:=aj (aa6 hm);go_in;go_wp2_with fail;refine pE.out.mono ?_;rintro e w ⟨rfl,rfl⟩;go_wp2_with fail;refine oO.out.mono ?_;rintro e w ⟨rfl,rfl⟩;go_wp2_with fail;go_ret
  ·exact ⟨_,⟨⟨0,by omega,rfl⟩,by rw [IC.out,HM.out];simp⟩,rfl,aQ _ _⟩
  ·exact ⟨_,⟨⟨2,by omega,rfl⟩,by rw [IC.out,HM.out];simp⟩,rfl,aQ _ _⟩
  ·exact ⟨_,⟨⟨1,by omega,rfl⟩,by rw [IC.out,HM.out];simp⟩,rfl,aQ _ _⟩
 ·go_in;go_wp2_with fail;refine pE.out.mono ?_;rintro e w ⟨rfl,rfl⟩;go_wp2_with fail;refine oO.out.mono ?_;rintro e w ⟨rfl,rfl⟩;go_wp2_with fail;go_ret;exact ⟨_,⟨⟨15,by omega,rfl⟩,IC.out.symm⟩,rfl,Below.refl _ _⟩
def acp:List ByteArray:=[⟨#[36,101,113]⟩,⟨#[36,110,101]⟩,⟨#[36,103,116]⟩,⟨#[36,103,116,101]⟩,⟨#[36,108,116]⟩,⟨#[36,108,116,101]⟩]
def opS (k:Nat):ByteArray:=(⟨#[34]⟩++acp.getD k ByteArray.empty)++⟨#[34]⟩
def Zj (k P:Int):ByteArray :=
 if k=6 then (((⟨#[34,36,105,110,34,58,91]⟩++mZ (P / 11))++⟨#[44]⟩)++mZ (P / 11 / 16))++⟨#[93]⟩
 else if k=7 then ⟨#[34,36,101,120,105,115,116,115,34,58]⟩++(if P / 11 % 2=0 then ⟨#[116,114,117,101]⟩ else ⟨#[102,97,108,115,101]⟩)
 else if k=8 then ⟨#[34,36,107,105,110,100,34,58]⟩++aY (Lib.itoa (1+P / 11 % 6))
 else if k=9 then (⟨#[34,36,97,110,121,34,58,123,34,36,103,116,34,58]⟩++aY (Lib.itoa (P / 11 % 4)))++⟨#[125]⟩
 else if k=10 then ⟨#[34,36,115,105,122,101,34,58]⟩++aY (Lib.itoa (P / 11 % 4))
 else (opS k.toNat++⟨#[58]⟩)++mZ (P / 11)
def wR (c:Int):ByteArray:=Zj (bQ c % 11) (bQ c % 1099511627776)
theorem mH (j:Nat) (hj:j<6) (w:World):Calls Tryz.prog 8 #[.string (acp.getD j ByteArray.empty)] w fun e w'=>∃ q,e=.returned (.string q)/\q=opS j/\q.size<=6/\w'=w:=by
 have hz:(acp.getD j ByteArray.empty).size<=4:=by
  match j,hj with
  | 0,_=>decide
  | 1,_=>decide
  | 2,_=>decide
  | 3,_=>decide
  | 4,_=>decide
  | 5,_=>decide
 refine (vD _ w (by omega)).mono ?_;rintro e w' ⟨rfl,rfl⟩;refine ⟨_,rfl,rfl,?_,rfl⟩;simp only [ByteArray.size_append];have:(⟨#[34]⟩:ByteArray).size=1:=rfl;omega
theorem VW {n:Int} (h0:0<=n) (h1:n<30):(aY (Lib.itoa n)).size<=2:=vB h0 h1
theorem VX {Tb:World->Prop} (hI:bn Tb) (hL:aS Tb) (c:Int) (w:World) (h0:-9223372036854775808<=c) (h1:c<=9223372036854775807) (hT:Tb w) (hk6:bQ c % 11<6) :
  Calls Tryz.prog 82 #[.int .i64 c] w fun e w'=>e=.returned (.string (wR c))/\Below w.heap.size w w':=by
 have pE:=aj (fun w=>eO c 1099511627776 w h0 h1 (by omega) (by omega));have oO:=aj (fun w=>eO c 11 w h0 h1 (by omega) (by omega));have HV:Hid (∀ (c:Int) (w:World),-9223372036854775808<=c->c<=9223372036854775807->Tb w->Calls Tryz.prog 32 #[.int .i64 c] w (sG c w)):=fun c w h0 h1 ht=>tT hI hL c w h0 h1 ht;have HT:Hid (∀ w':World,Below w.heap.size w w'->Tb w'):=fun w' hb=>hL w hT w w' hT hb;have hb:=tC h0 h1;obtain ⟨P,hP⟩:∃ P,bQ c % 1099511627776=P:=⟨_,rfl⟩;obtain ⟨k,hk⟩:∃ k,bQ c % 11=k:=⟨_,rfl⟩;have p0:0<=P:=by omega
 have p1:P<=1099511627776:=by omega
 have k11:k=0\/k=1\/k=2\/k=3\/k=4\/k=5:=by omega
 have IC:Hid (wR c=Zj k P):=by show _=_;unfold wR;rw [hP,hk]
 rw [hP] at pE;rw [hk] at oO;have HI:=aj hI;clear hP hk hb h0 h1 hI hL hk6;have zo:=aj (HV.out (P / 11) w (by omega) (by omega) hT);clear hT;rcases k11 with rfl | rfl | rfl | rfl | rfl | rfl
 iterate 6
  ·go_in;go_wp2_with fail;refine (pE.out w).mono ?_;rintro e w ⟨rfl,rfl⟩;go_wp2_with fail;refine zo.out.mono ?_;rintro e w1 ⟨sd,⟨⟨i,hi,hiv⟩,hsd⟩,rfl,b1⟩;have hz:sd.size<=10:=by rw [hiv];exact lY hi
   have Hsd:=aj hsd;have HB:=aj b1;clear hi hiv hsd b1 zo;go_wp2_with fail;refine (oO.out _).mono ?_;rintro e w2 ⟨rfl,rfl⟩;go_wp2_with fail;refine (oO.out _).mono ?_;rintro e w2 ⟨rfl,rfl⟩;go_wp2_with fail
   first
    | refine (mH 0 (by omega) _).mono ?_
    | refine (mH 1 (by omega) _).mono ?_
    | refine (mH 2 (by omega) _).mono ?_
    | refine (mH 3 (by omega) _).mono ?_
    | refine (mH 4 (by omega) _).mono ?_
    | refine (mH 5 (by omega) _).mono ?_
   rintro e w2 ⟨q,rfl,hq,hqz,rfl⟩;obtain ⟨a1,e1,z1,r1⟩:=aB q ⟨#[58]⟩ q.size 1 rfl rfl (by omega);obtain ⟨a2,e2,z2,r2⟩:=aB a1 sd a1.size sd.size rfl rfl (by omega);have HE:=aj (e2.trans (congrArg (·++sd) (e1.trans (congrArg (·++_) hq))));clear e1 e2 z1 z2 hq hqz hz;go_wp2_with fail;go_ret;exact ⟨by rw [IC.out];show Ending.returned (.string a2)=_;rw [HE.out,Hsd.out];rfl,HB.out.alloc HB.out.size _⟩
theorem R4 {Tb:World->Prop} (hI:bn Tb) (hL:aS Tb) (c:Int) (w:World) (h0:-9223372036854775808<=c) (h1:c<=9223372036854775807) (hT:Tb w) (hk6:6<=bQ c % 11) :
  Calls Tryz.prog 82 #[.int .i64 c] w fun e w'=>e=.returned (.string (wR c))/\Below w.heap.size w w':=by
 have pE:=aj (fun w=>eO c 1099511627776 w h0 h1 (by omega) (by omega));have oO:=aj (fun w=>eO c 11 w h0 h1 (by omega) (by omega));have HV:Hid (∀ (c:Int) (w:World),-9223372036854775808<=c->c<=9223372036854775807->Tb w->Calls Tryz.prog 32 #[.int .i64 c] w (sG c w)):=fun c w h0 h1 ht=>tT hI hL c w h0 h1 ht;have HT:Hid (∀ w':World,Below w.heap.size w w'->Tb w'):=fun w' hb=>hL w hT w w' hT hb;have hb:=tC h0 h1;obtain ⟨P,hP⟩:∃ P,bQ c % 1099511627776=P:=⟨_,rfl⟩;obtain ⟨k,hk⟩:∃ k,bQ c % 11=k:=⟨_,rfl⟩;have p0:0<=P:=by omega
 have p1:P<=1099511627776:=by omega
 have k11:k=6\/k=7\/k=8\/k=9\/k=10:=by omega
 have IC:Hid (wR c=Zj k P):=by show _=_;unfold wR;rw [hP,hk]
 rw [hP] at pE;rw [hk] at oO;have HI:=aj hI;clear hP hk hb h0 h1 hI hL hk6;have zo:=aj (HV.out (P / 11) w (by omega) (by omega) hT);clear hT;rcases k11 with rfl | rfl | rfl | rfl | rfl
 ·go_in;go_wp2_with fail;refine (pE.out w).mono ?_;rintro e w ⟨rfl,rfl⟩;go_wp2_with fail;refine zo.out.mono ?_;rintro e w1 ⟨sd,⟨⟨i,hi,hiv⟩,hsd⟩,rfl,b1⟩;have hz:sd.size<=10:=by rw [hiv];exact lY hi
  have Hsd:=aj hsd;have HB:=aj b1;clear hi hiv hsd b1 zo;have Cy:=aj (HV.out (P / 11 / 16) w1 (by omega) (by omega) (HT.out _ HB.out));obtain ⟨a1,e1,z1,r1⟩:=aB ⟨#[34,36,105,110,34,58,91]⟩ sd 7 sd.size rfl rfl (by omega);obtain ⟨a2,e2,z2,r2⟩:=aB a1 ⟨#[44]⟩ a1.size 1 rfl rfl (by omega);have HE:=aj (And.intro e1 e2);have hz2:a2.size<=18:=by omega
  clear e1 z1 e2 z2 hz;go_wp2_with fail;refine (oO.out _).mono ?_;rintro e w2 ⟨rfl,rfl⟩;go_wp2_with fail;refine Cy.out.mono ?_;rintro e w3 ⟨sv,⟨⟨i2,hi2,afI⟩,hsv⟩,rfl,b3⟩;have hz3:sv.size<=10:=by rw [afI];exact lY hi2
  obtain ⟨a3,e3,z3,r3⟩:=aB a2 sv a2.size sv.size rfl rfl (by omega);obtain ⟨a4,e4,z4,r4⟩:=aB a3 ⟨#[93]⟩ a3.size 1 rfl rfl (by omega);have HB3:=aj (HB.out.trans (b3.mono HB.out.size));have HF:Hid (a4=wR c):=by show _=_;rw [IC.out,e4,e3,HE.out.2,HE.out.1,Hsd.out,hsv];rfl
  clear b3 hi2 afI hsv hz3 e3 z3 e4 z4 hz2 Cy;go_wp2_with fail;go_ret;exact ⟨by rw [<- HF.out];rfl,HB3.out⟩
 ·obtain ⟨m,hm⟩:∃ m,P / 11 % 2=m:=⟨_,rfl⟩;have HM:Hid (Zj 7 P=⟨#[34,36,101,120,105,115,116,115,34,58]⟩++(if m=0 then ⟨#[116,114,117,101]⟩ else ⟨#[102,97,108,115,101]⟩)):=by show _=_;subst hm;rfl
  obtain h | h:m=0\/m=1:=by omega
  all_goals
   subst h;go_in;go_wp2_with fail;refine (pE.out w).mono ?_;rintro e w ⟨rfl,rfl⟩;go_wp2_with fail;refine zo.out.mono ?_;rintro e w1 ⟨sd,⟨⟨i,hi,hiv⟩,hsd⟩,rfl,b1⟩;have hz:sd.size<=10:=by rw [hiv];exact lY hi
   have Hsd:=aj hsd;have HB:=aj b1;clear hi hiv hsd b1 zo;go_wp2_with fail;refine (oO.out _).mono ?_;rintro e w2 ⟨rfl,rfl⟩;go_wp2_with fail;go_ret;exact ⟨by rw [IC.out,HM.out];rfl,HB.out.alloc HB.out.size _⟩
 ·go_in;go_wp2_with fail;refine (pE.out w).mono ?_;rintro e w ⟨rfl,rfl⟩;go_wp2_with fail;refine zo.out.mono ?_;rintro e w1 ⟨sd,⟨⟨i,hi,hiv⟩,hsd⟩,rfl,b1⟩;have hz:sd.size<=10:=by rw [hiv];exact lY hi
  have Hsd:=aj hsd;have HB:=aj b1;clear hi hiv hsd b1 zo;have HC:=aj (HI.out (1+P / 11 % 6) w1 (by omega) (by omega) (HT.out _ HB.out));have hiz:=VW (n:=1+P / 11 % 6) (by omega) (by omega);generalize hg:aY (Lib.itoa (1+P / 11 % 6))=si at HC hiz;have Hg:=aj hg;clear hg;obtain ⟨a1,e1,z1,r1⟩:=aB ⟨#[34,36,107,105,110,100,34,58]⟩ si 8 si.size rfl rfl (by omega);have HE:=aj e1;clear e1 z1 hiz hz;go_wp2_with fail;refine (oO.out _).mono ?_;rintro e w2 ⟨rfl,rfl⟩;go_wp2_with fail;refine HC.out.mono ?_;rintro e w3 ⟨rfl,b3⟩;have HB3:=aj (HB.out.trans (b3.mono HB.out.size));clear b3 HC;go_wp2_with fail;go_ret;exact ⟨by rw [IC.out];show Ending.returned (.string a1)=_;rw [HE.out,<- Hg.out];rfl,HB3.out⟩
 ·go_in;go_wp2_with fail;refine (pE.out w).mono ?_;rintro e w ⟨rfl,rfl⟩;go_wp2_with fail;refine zo.out.mono ?_;rintro e w1 ⟨sd,⟨⟨i,hi,hiv⟩,hsd⟩,rfl,b1⟩;have hz:sd.size<=10:=by rw [hiv];exact lY hi
  have Hsd:=aj hsd;have HB:=aj b1;clear hi hiv hsd b1 zo;have HC:=aj (HI.out (P / 11 % 4) w1 (by omega) (by omega) (HT.out _ HB.out));have hiz:=VW (n:=P / 11 % 4) (by omega) (by omega);generalize hg:aY (Lib.itoa (P / 11 % 4))=si at HC hiz;have Hg:=aj hg;clear hg;obtain ⟨a1,e1,z1,r1⟩:=aB ⟨#[34,36,97,110,121,34,58,123,34,36,103,116,34,58]⟩ si 14 si.size rfl rfl (by omega);obtain ⟨a2,e2,z2,r2⟩:=aB a1 ⟨#[125]⟩ a1.size 1 rfl rfl (by omega);have HE:=aj (e2.trans (congrArg (·++_) e1));clear e1 z1 e2 z2 hiz hz;go_wp2_with fail;refine (oO.out _).mono ?_;rintro e w2 ⟨rfl,rfl⟩;go_wp2_with fail;refine HC.out.mono ?_;rintro e w3 ⟨rfl,b3⟩;have HB3:=aj (HB.out.trans (b3.mono HB.out.size));clear b3 HC;go_wp2_with fail;go_ret;exact ⟨by rw [IC.out];show Ending.returned (.string a2)=_;rw [HE.out,<- Hg.out];rfl,HB3.out⟩
 ·go_in;go_wp2_with fail;refine (pE.out w).mono ?_;rintro e w ⟨rfl,rfl⟩;go_wp2_with fail;refine zo.out.mono ?_;rintro e w1 ⟨sd,⟨⟨i,hi,hiv⟩,hsd⟩,rfl,b1⟩;have hz:sd.size<=10:=by rw [hiv];exact lY hi
  have Hsd:=aj hsd;have HB:=aj b1;clear hi hiv hsd b1 zo;have HC:=aj (HI.out (P / 11 % 4) w1 (by omega) (by omega) (HT.out _ HB.out));have hiz:=VW (n:=P / 11 % 4) (by omega) (by omega);generalize hg:aY (Lib.itoa (P / 11 % 4))=si at HC hiz;have Hg:=aj hg;clear hg;obtain ⟨a1,e1,z1,r1⟩:=aB ⟨#[34,36,115,105,122,101,34,58]⟩ si 8 si.size rfl rfl (by omega);have HE:=aj e1;clear e1 z1 hiz hz;go_wp2_with fail;refine (oO.out _).mono ?_;rintro e w2 ⟨rfl,rfl⟩;go_wp2_with fail;refine HC.out.mono ?_;rintro e w3 ⟨rfl,b3⟩;have HB3:=aj (HB.out.trans (b3.mono HB.out.size));clear b3 HC;go_wp2_with fail;go_ret;exact ⟨by rw [IC.out];show Ending.returned (.string a1)=_;rw [HE.out,<- Hg.out];rfl,HB3.out⟩
theorem VY {Tb:World->Prop} (hI:bn Tb) (hL:aS Tb) (c:Int) (w:World) (h0:-9223372036854775808<=c) (h1:c<=9223372036854775807) (hT:Tb w) :
  Calls Tryz.prog 82 #[.int .i64 c] w fun e w'=>e=.returned (.string (wR c))/\Below w.heap.size w w':=by
 by_cases h:bQ c % 11<6
 ·exact VX hI hL c w h0 h1 hT h
 ·exact R4 hI hL c w h0 h1 hT (by omega)
structure nG (f:Nat) (t:T) (s:ByteArray) (n:Nat):Prop where
 wr:s.data.toList=dG f t
 fit:GL (f+1) t
 good:fJ f t
 can:dS f t=t
 size:s.size<=n
theorem nG.parse {t:T} {s:ByteArray} {n:Nat} (h:nG 12 t s n) (hn:n<=4000):eJ s=0/\tJ s=t:=by
 have e:=GR h.wr;have hz:=h.size;have h1:s.size=(dG 12 t).length:=by rw [<- h.wr];rfl
 have hp:=BH h.fit h.good (by omega);rw [h.can] at hp;rw [e];exact hp
theorem nG.le {f:Nat} {t:T} {s:ByteArray} {n m:Nat} (h:nG f t s n) (hm:n<=m):nG f t s m:=⟨h.wr,h.fit,h.good,h.can,Nat.le_trans h.size hm⟩
theorem jq {k:Int} (h0:0<=k) (h1:k<=6) (l:List T) (ks:List ByteArray) (hl:l.length<=100) (hk:ks.length<=100):zk (aX k 0 ByteArray.empty l ks) :=
 ⟨by rw [bE];omega,by rw [bE];omega,by rw [fu];omega,by rw [fu];omega,by rw [gD];show (0:Nat)<=_;omega,by rw [aI];omega,by rw [fE];omega⟩
structure lG (k:ByteArray):Prop where
 quo:dK k=34::(k.data.toList++[34])
 ok:zR k=true
 size:k.size<=100
theorem nG.obj {f:Nat} {t:T} {s:ByteArray} {n:Nat} (h:nG f t s n) {k:ByteArray} (hk:lG k) {s':ByteArray} (hs:s'.data.toList=123::34::(k.data.toList++(34::58::(s.data.toList++[125])))):nG (f+1) (aX 6 0 ByteArray.empty [t] [k]) s' (n+k.size+5):=by
 have e:dG (f+1) (aX 6 0 ByteArray.empty [t] [k])=123::(([]++([]++(dK k++(58::dG f t))))++[125]):=rfl;refine ⟨?_,⟨jq (by omega) (by omega) _ _ (by simp) (by simp),fun i hi=>?_,fun i hi=>?_⟩,.inr ⟨rfl,dV _ _ _ _,fun i hi=>?_,.inr ⟨rfl,rfl,?_,rfl⟩⟩,?_,?_⟩
 ·rw [e,hs,hk.quo,h.wr];simp
 ·obtain rfl:i=0:=by rw [aI] at hi;simpa using hi
  exact h.fit
 ·obtain rfl:i=0:=by rw [fE] at hi;simpa using hi
  have:=hk.size;show k.size<=_;omega
 ·obtain rfl:i=0:=by rw [aI] at hi;simpa using hi
  exact h.good
 ·show (true&&(zR k&&decide (k.size<=4000)))=true;have:=hk.size;rw [hk.ok,decide_eq_true (by omega)];rfl
 ·show aX 6 0 ByteArray.empty [dS f t] [k]=_;rw [h.can]
 ·have h1:s'.size=s'.data.toList.length:=rfl;have h2:s.size=s.data.toList.length:=rfl;have h3:k.size=k.data.toList.length:=rfl;have h4:=h.size;rw [h1,hs];simp only [List.length_cons,List.length_append,List.length_nil];omega
theorem nG.amb {f:Nat} {t:T} {s:ByteArray} {n:Nat} (h:nG f t s n) {s':ByteArray} (hs:s'.data.toList=91::(s.data.toList++[93])):nG (f+1) (aX 5 0 ByteArray.empty [t] []) s' (n+2):=by
 have e:dG (f+1) (aX 5 0 ByteArray.empty [t] [])=91::(([]++([]++dG f t))++[93]):=rfl;refine ⟨?_,⟨jq (by omega) (by omega) _ _ (by simp) (by simp),fun i hi=>?_,fun i hi=>?_⟩,.inr ⟨rfl,dV _ _ _ _,fun i hi=>?_,.inl ⟨rfl,rfl⟩⟩,?_,?_⟩
 ·rw [e,hs,h.wr];simp
 ·obtain rfl:i=0:=by rw [aI] at hi;simpa using hi
  exact h.fit
 ·rw [fE] at hi;exact absurd hi (Nat.not_lt_zero i)
 ·obtain rfl:i=0:=by rw [aI] at hi;simpa using hi
  exact h.good
 ·show aX 5 0 ByteArray.empty [dS f t] []=_;rw [h.can]
 ·have h1:s'.size=s'.data.toList.length:=rfl;have h2:s.size=s.data.toList.length:=rfl;have h4:=h.size;rw [h1,hs];simp only [List.length_cons,List.length_append,List.length_nil];omega
theorem nG.acs {f:Nat} {t u:T} {s r:ByteArray} {n m:Nat} (h:nG f t s n) (g:nG f u r m) {s':ByteArray} (hs:s'.data.toList=91::(s.data.toList++(44::(r.data.toList++[93])))):nG (f+1) (aX 5 0 ByteArray.empty [t,u] []) s' (n+m+3):=by
 have e:dG (f+1) (aX 5 0 ByteArray.empty [t,u] [])=91::((([]++([]++dG f t))++([44]++dG f u))++[93]):=rfl;have vP:∀ i,i<nL (aX 5 0 ByteArray.empty [t,u] [])->i=0\/i=1:=fun i hi=>by rw [aI] at hi;simp at hi;omega
 refine ⟨?_,⟨jq (by omega) (by omega) _ _ (by simp) (by simp),fun i hi=>?_,fun i hi=>?_⟩,.inr ⟨rfl,dV _ _ _ _,fun i hi=>?_,.inl ⟨rfl,rfl⟩⟩,?_,?_⟩
 ·rw [e,hs,h.wr,g.wr];simp
 ·rcases vP i hi with rfl | rfl
  ·exact h.fit
  ·exact g.fit
 ·rw [fE] at hi;exact absurd hi (Nat.not_lt_zero i)
 ·rcases vP i hi with rfl | rfl
  ·exact h.good
  ·exact g.good
 ·show aX 5 0 ByteArray.empty [dS f t,dS f u] []=_;rw [h.can,g.can]
 ·have h1:s'.size=s'.data.toList.length:=rfl;have h2:s.size=s.data.toList.length:=rfl;have h3:r.size=r.data.toList.length:=rfl;have h4:=h.size;have h5:=g.size;rw [h1,hs];simp only [List.length_cons,List.length_append,List.length_nil];omega
theorem Zk:((List.range 13).all fun f=>decide (f<1) || (List.range 36).all fun i=>decide (dG f (tv i)=(vt i).data.toList)&&Nn (f+1) (tv i)&&(aP f (tv i) 1048576).isSome)=true:=by kernel_rfl
theorem Zl:(List.range 12).map (fun f=>(List.range 36).map (fun i=>dS (f+1) (tv i)))=(List.range 12).map (fun _=>(List.range 36).map tv):=by kernel_rfl
theorem yh {i f:Nat} (hi:i<36) (h3:1<=f) (h12:f<=12):nG f (tv i) (vt i) 10:=by
 have h1:=List.all_eq_true.1 Zk f (List.mem_range.2 (by omega));rw [decide_eq_false (by omega),Bool.false_or] at h1;have h2:=List.all_eq_true.1 h1 i (List.mem_range.2 hi);simp only [Bool.and_eq_true,decide_eq_true_eq] at h2;obtain ⟨⟨a,b⟩,c⟩:=h2;refine ⟨a.symm,sF _ _ b,?_,?_,lY hi⟩
 ·rcases mM f (tv i) 1048576 (by omega) with ⟨_,h,_⟩ | ⟨h,_⟩
  ·exact h
  ·rw [h] at c;cases c
 ·obtain ⟨g,rfl⟩:∃ g,f=g+1:=⟨f - 1,by omega⟩;have h4:=congrArg (fun l=>l[g]?) Zl;simp only [List.getElem?_map,List.getElem?_range (show g<12 by omega),Option.map_some,Option.some.injEq] at h4;have h5:=congrArg (fun l=>l[i]?) h4;simpa [hi] using h5
theorem p8 (c:Int):IsV (mZ c):=by
 unfold mZ;have hk:bQ c % 8=0\/bQ c % 8=1\/bQ c % 8=2\/bQ c % 8=3\/bQ c % 8=4\/bQ c % 8=5\/bQ c % 8=6\/bQ c % 8=7:=by omega
 generalize bQ c % 1099511627776=P;rcases hk with h | h | h | h | h | h | h | h<;>rw [h]
 ·exact l9 (P / 8)
 ·exact l9 (P / 8)
 ·exact l9 (P / 8)
 ·exact F8 (x:=P / 8 % 3) (by omega) (by omega)
 ·exact AV (x:=P / 8 % 4) (y:=P / 8 / 4 % 4) (by omega) (by omega) (by omega) (by omega)
 ·exact F7 (x:=P / 8 % 4) (by omega) (by omega)
 ·rw [aa6 rfl];split
  ·exact ⟨0,by omega,rfl⟩
  ·split
   ·exact ⟨2,by omega,rfl⟩
   ·exact ⟨1,by omega,rfl⟩
 ·exact ⟨15,by omega,rfl⟩
theorem oZ {n:Int} (h0:0<=n) (h1:n<30) (f:Nat):nG (f+1) (nT n) (aY (Lib.itoa n)) 10:=by
 refine ⟨?_,⟨⟨by show -9223372036854775808<=(3:Int);omega,by show (3:Int)<=9223372036854775807;omega,by show -9223372036854775808<=n;omega,by show n<=9223372036854775807;omega,by show (0:Nat)<=_;omega,by show (0:Nat)<=_;omega,by show (0:Nat)<=_;omega⟩,fun i hi=>absurd hi (Nat.not_lt_zero i),fun i hi=>absurd hi (Nat.not_lt_zero i)⟩,GU n _,rfl,by have:=vB h0 h1;omega⟩;rw [pX (by show (3:Int)≠5;decide) (by show (3:Int)≠6;decide)];show (aY (Lib.itoa n)).data.toList=Lib.itoa n;simp [aY]
structure Kw (op:ByteArray) (j:T) (s:ByteArray):Prop where
 pln:lG op
 txt:∃ r:ByteArray,s.data.toList=34::(op.data.toList++(34::58::r.data.toList))/\∀ f,2<=f->f<=12->nG f j r 30
 ok:∀ m,jX (m+2) (aX 6 0 ByteArray.empty [j] [op])=true
 ev:∃ p:T->Bool->Bool,∀ m v th,wH (m+2) (op,j) v th=p v th
 aib:oU op=true
 small:op.size<=10
theorem lG.mk' {k:ByteArray} (h:(decide (dK k=34::(k.data.toList++[34]))&&zR k&&decide (k.size<=100))=true):lG k:=by
 simp only [Bool.and_eq_true,decide_eq_true_eq] at h;exact ⟨h.1.1,h.1.2,h.2⟩
theorem Kw.size {op:ByteArray} {j:T} {s:ByteArray} (h:Kw op j s):s.size<=44:=by
 obtain ⟨r,hr,hj⟩:=h.txt;have h1:=(hj 5 (by omega) (by omega)).size;have h2:s.size=s.data.toList.length:=rfl;have h3:r.size=r.data.toList.length:=rfl;have h4:op.size=op.data.toList.length:=rfl;have h5:=h.small;rw [h2,hr];simp only [List.length_cons,List.length_append];omega
theorem Kw.obj {op:ByteArray} {j:T} {s:ByteArray} (h:Kw op j s) {s':ByteArray} (hs:s'.data.toList=123::(s.data.toList++[125])) {f:Nat} (h5:3<=f) (h12:f<=12):nG f (aX 6 0 ByteArray.empty [j] [op]) s' 50:=by
 obtain ⟨r,hr,hj⟩:=h.txt;obtain ⟨g,rfl⟩:∃ g,f=g+1:=⟨f - 1,by omega⟩;refine ((hj g (by omega) (by omega)).obj h.pln (s':=s') ?_).le (by have:=h.small;omega);rw [hs,hr];simp
theorem VZ (op:ByteArray) (j:T) (h:jk op) (m:Nat):jX (m+1) (aX 6 0 ByteArray.empty [j] [op])=true:=by
 show (true&&(true&&nI (jX m) op j))=true;unfold nI;rw [if_pos h];rfl
theorem sH (op:ByteArray) (j:T) (m:Nat):jX (m+1) (aX 6 0 ByteArray.empty [j] [op])=nI (jX m) op j:=by
 show (true&&(true&&nI (jX m) op j))=_;simp
theorem tV {op:ByteArray} (h:op=wG\/op=Jt\/op=AY\/op=Eb\/op=uZ\/op=Ju) {i:Nat} (hi:i<36) {s:ByteArray} (hs:s.data.toList=34::(op.data.toList++(34::58::(vt i).data.toList))):Kw op (tv i) s:=by
 refine ⟨?_,⟨vt i,hs,fun f h3 h12=>(yh hi (by omega) h12).le (by omega)⟩,fun m=>VZ op _ h _,?_,?_,?_⟩
 ·rcases h with rfl | rfl | rfl | rfl | rfl | rfl<;>exact lG.mk' (by kernel_rfl)
 ·refine ⟨fun v th=>wH 2 (op,tv i) v th,fun m v th=>?_⟩;rcases h with rfl | rfl | rfl | rfl | rfl | rfl<;>rfl
 ·rcases h with rfl | rfl | rfl | rfl | rfl | rfl<;>kernel_rfl
 ·rcases h with rfl | rfl | rfl | rfl | rfl | rfl<;>decide
theorem R5 (b:Bool):∃ i,i<36/\ah (tv i)=2/\vt i=if b then ⟨#[116,114,117,101]⟩ else ⟨#[102,97,108,115,101]⟩:=by
 cases b
 ·exact ⟨1,by omega,by kernel_rfl,by kernel_rfl⟩
 ·exact ⟨2,by omega,by kernel_rfl,by kernel_rfl⟩
theorem Qa (c:Int):∃ op j,Kw op j (wR c):=by
 unfold wR;have hk:bQ c % 11=0\/bQ c % 11=1\/bQ c % 11=2\/bQ c % 11=3\/bQ c % 11=4\/bQ c % 11=5\/bQ c % 11=6\/bQ c % 11=7\/bQ c % 11=8\/bQ c % 11=9\/bQ c % 11=10:=by omega
 generalize bQ c % 1099511627776=P;obtain ⟨i,hi,hv⟩:=p8 (P / 11);obtain ⟨i2,hi2,hv2⟩:=p8 (P / 11 / 16);rcases hk with h | h | h | h | h | h | h | h | h | h | h<;>rw [h]
 ·exact ⟨wG,tv i,tV (.inl rfl) hi (by show ((opS 0++⟨#[58]⟩)++mZ (P / 11)).data.toList=_;rw [hv,aO,aO];rfl)⟩
 ·exact ⟨Jt,tv i,tV (.inr (.inl rfl)) hi (by show ((opS 1++⟨#[58]⟩)++mZ (P / 11)).data.toList=_;rw [hv,aO,aO];rfl)⟩
 ·exact ⟨AY,tv i,tV (.inr (.inr (.inl rfl))) hi (by show ((opS 2++⟨#[58]⟩)++mZ (P / 11)).data.toList=_;rw [hv,aO,aO];rfl)⟩
 ·exact ⟨Eb,tv i,tV (.inr (.inr (.inr (.inl rfl)))) hi (by show ((opS 3++⟨#[58]⟩)++mZ (P / 11)).data.toList=_;rw [hv,aO,aO];rfl)⟩
 ·exact ⟨uZ,tv i,tV (.inr (.inr (.inr (.inr (.inl rfl))))) hi (by show ((opS 4++⟨#[58]⟩)++mZ (P / 11)).data.toList=_;rw [hv,aO,aO];rfl)⟩
 ·exact ⟨Ju,tv i,tV (.inr (.inr (.inr (.inr (.inr rfl))))) hi (by show ((opS 5++⟨#[58]⟩)++mZ (P / 11)).data.toList=_;rw [hv,aO,aO];rfl)⟩
 ·refine ⟨CU,aX 5 0 ByteArray.empty [tv i,tv i2] [],lG.mk' (by kernel_rfl),⟨((⟨#[91]⟩++vt i)++⟨#[44]⟩)++vt i2++⟨#[93]⟩,?_,fun f h5 h12=>?_⟩,fun m=>?_,⟨fun v th=>wH 2 (CU,aX 5 0 ByteArray.empty [tv i,tv i2] []) v th,fun m v th=>rfl⟩,by kernel_rfl,by decide⟩
  ·show ((((⟨#[34,36,105,110,34,58,91]⟩++mZ (P / 11))++⟨#[44]⟩)++mZ (P / 11 / 16))++⟨#[93]⟩:ByteArray).data.toList=_;rw [hv,hv2];simp only [aO];rfl
  ·obtain ⟨g,rfl⟩:∃ g,f=g+1:=⟨f - 1,by omega⟩;refine ((yh hi (f:=g) (by omega) (by omega)).acs (yh hi2 (by omega) (by omega)) ?_).le (by omega);simp only [aO];simp
  ·rw [sH];kernel_rfl
 ·obtain ⟨k,hk,hkk,hkt⟩:=R5 (decide (P / 11 % 2=0));refine ⟨jd,tv k,lG.mk' (by kernel_rfl),⟨vt k,?_,fun f h5 h12=>(yh hk (by omega) h12).le (by omega)⟩,fun m=>?_,⟨fun v th=>wH 2 (jd,tv k) v th,fun m v th=>rfl⟩,by kernel_rfl,by decide⟩
  ·show (⟨#[34,36,101,120,105,115,116,115,34,58]⟩++(if P / 11 % 2=0 then ⟨#[116,114,117,101]⟩ else ⟨#[102,97,108,115,101]⟩):ByteArray).data.toList=_;rw [hkt,aO];simp only [decide_eq_true_eq];rfl
  ·rw [sH];show (ah (tv k)==2)=true;rw [hkk];rfl
 ·refine ⟨oP,nT (1+P / 11 % 6),lG.mk' (by kernel_rfl),⟨aY (Lib.itoa (1+P / 11 % 6)),?_,fun f h5 h12=>?_⟩,fun m=>?_,⟨fun v th=>wH 2 (oP,nT (1+P / 11 % 6)) v th,fun m v th=>rfl⟩,by kernel_rfl,by decide⟩
  ·show (⟨#[34,36,107,105,110,100,34,58]⟩++aY (Lib.itoa (1+P / 11 % 6)):ByteArray).data.toList=_;rw [aO];rfl
  ·obtain ⟨g,rfl⟩:∃ g,f=g+1:=⟨f - 1,by omega⟩;exact (oZ (by omega) (by omega) g).le (by omega)
  ·rw [sH];show ((true&&decide (1<=1+P / 11 % 6))&&decide (1+P / 11 % 6<=6))=true;rw [decide_eq_true (by omega),decide_eq_true (by omega)];rfl
 ·refine ⟨rX,aX 6 0 ByteArray.empty [nT (P / 11 % 4)] [AY],lG.mk' (by kernel_rfl),⟨(⟨#[123,34,36,103,116,34,58]⟩++aY (Lib.itoa (P / 11 % 4)))++⟨#[125]⟩,?_,fun f h5 h12=>?_⟩,fun m=>?_,⟨fun v th=>wH 2 (rX,aX 6 0 ByteArray.empty [nT (P / 11 % 4)] [AY]) v th,fun m v th=>rfl⟩,by kernel_rfl,by decide⟩
  ·show ((⟨#[34,36,97,110,121,34,58,123,34,36,103,116,34,58]⟩++aY (Lib.itoa (P / 11 % 4)))++⟨#[125]⟩:ByteArray).data.toList=_;simp only [aO];rfl
  ·obtain ⟨g,rfl⟩:∃ g,f=g+1+1:=⟨f - 2,by omega⟩;refine ((oZ (n:=P / 11 % 4) (by omega) (by omega) g).obj (k:=AY) (lG.mk' (by kernel_rfl)) ?_).le (by have:AY.size=3:=rfl;omega);simp only [aO];rfl
  ·rw [sH];show jX (m+1) (aX 6 0 ByteArray.empty [nT (P / 11 % 4)] [AY])=true;exact VZ _ _ (.inr (.inr (.inl rfl))) m
 ·refine ⟨jl,nT (P / 11 % 4),lG.mk' (by kernel_rfl),⟨aY (Lib.itoa (P / 11 % 4)),?_,fun f h5 h12=>?_⟩,fun m=>?_,⟨fun v th=>wH 2 (jl,nT (P / 11 % 4)) v th,fun m v th=>rfl⟩,by kernel_rfl,by decide⟩
  ·show (⟨#[34,36,115,105,122,101,34,58]⟩++aY (Lib.itoa (P / 11 % 4)):ByteArray).data.toList=_;rw [aO];rfl
  ·obtain ⟨g,rfl⟩:∃ g,f=g+1:=⟨f - 1,by omega⟩;exact (oZ (by omega) (by omega) g).le (by omega)
  ·rw [sH];show (true&&decide (0<=P / 11 % 4))=true;rw [decide_eq_true (by omega)];rfl
theorem GV (x:ByteArray) (j:T) (m:Nat) (doc:T):gy (m+1) (aX 6 0 ByteArray.empty [j] [x]) doc=zw (gy m) x j doc:=by
 show (true&&zw (gy m) x j doc)=_;rw [Bool.true_and]
theorem ET (x:ByteArray) (j:T) (m:Nat):bH (m+1) (aX 6 0 ByteArray.empty [j] [x])=xU (bH m) x j:=by
 show (true&&(true&&xU (bH m) x j))=_;rw [Bool.true_and,Bool.true_and]
theorem acu (g:T->T->Bool) (t u doc:T):zw g xQ (aX 5 0 ByteArray.empty [t,u] []) doc=(g t doc || g u doc):=by
 unfold zw;rw [if_neg (by decide),if_pos rfl];show ((false || g t doc) || g u doc)=_;rw [Bool.false_or]
theorem Zm (g:T->Bool) {x:ByteArray} (hx:x=uJ\/x=xQ\/x=yS) {t u:T} (h1:g t=true) (h2:g u=true):xU g x (aX 5 0 ByteArray.empty [t,u] [])=true:=by
 unfold xU;rw [if_pos hx];show (true&&((true&&g t)&&g u))=true;rw [h1,h2];rfl
structure R6 (x:ByteArray):Prop where
 pln:lG x
 plain:xR x
 ok:(!oU x&&iY x)=true
 small:x.size<=3
theorem V3 {k:Nat} (hk:k<6):R6 (rC k):=by
 match k,hk with
 | 0,_=>exact ⟨lG.mk' (by kernel_rfl),⟨by decide,by decide,by decide⟩,by kernel_rfl,by decide⟩
 | 1,_=>exact ⟨lG.mk' (by kernel_rfl),⟨by decide,by decide,by decide⟩,by kernel_rfl,by decide⟩
 | 2,_=>exact ⟨lG.mk' (by kernel_rfl),⟨by decide,by decide,by decide⟩,by kernel_rfl,by decide⟩
 | 3,_=>exact ⟨lG.mk' (by kernel_rfl),⟨by decide,by decide,by decide⟩,by kernel_rfl,by decide⟩
 | 4,_=>exact ⟨lG.mk' (by kernel_rfl),⟨by decide,by decide,by decide⟩,by kernel_rfl,by decide⟩
 | 5,_=>exact ⟨lG.mk' (by kernel_rfl),⟨by decide,by decide,by decide⟩,by kernel_rfl,by decide⟩
theorem EU {x:ByteArray} (h:xR x) (g:T->T->Bool) (j doc:T):zw g x j doc=Yr (bV x) (kF j) doc:=by
 unfold zw;rw [if_neg h.1,if_neg h.2.1,if_neg h.2.2]
theorem R8 {x:ByteArray} (h:R6 x) (g:T->Bool) {j:T} (hj:um j=true):xU g x j=true:=by
 unfold xU;rw [if_neg (by rintro (e | e | e);exact h.plain.1 e;exact h.plain.2.1 e;exact h.plain.2.2 e),h.ok,hj];rfl
structure Ns (t:T) (s:ByteArray):Prop where
 rep:∀ s':ByteArray,s'.data.toList=123::(s.data.toList++[125])->∀ f,4<=f->f<=12->nG f t s' 60
 ok:∀ m,bH (m+1) t=true
 ev:∃ p:T->Bool,∀ m doc,gy (m+1) t doc=p doc
 size:s.size<=60
theorem V4 {x:ByteArray} (hx:R6 x) {j:T} (hj:um j=true) {r:ByteArray} (hr:∀ f,3<=f->f<=12->nG f j r 50) {s:ByteArray} (hs:s.data.toList=34::(x.data.toList++(34::58::r.data.toList))):Ns (aX 6 0 ByteArray.empty [j] [x]) s:=by
 refine ⟨fun s' hs' f h7 h12=>?_,fun m=>?_,⟨fun doc=>Yr (bV x) (kF j) doc,fun m doc=>?_⟩,?_⟩
 ·obtain ⟨g,rfl⟩:∃ g,f=g+1:=⟨f - 1,by omega⟩;refine ((hr g (by omega) (by omega)).obj hx.pln ?_).le (by have:=hx.small;omega);rw [hs',hs];simp
 ·rw [ET];exact R8 hx _ hj
 ·rw [GV,EU hx.plain]
 ·have h1:=(hr 6 (by omega) (by omega)).size;have h2:s.size=s.data.toList.length:=rfl;have h3:r.size=r.data.toList.length:=rfl;have h4:x.size=x.data.toList.length:=rfl;have h5:=hx.small;rw [h2,hs];simp only [List.length_cons,List.length_append];omega
theorem V5:((List.range 36).all fun i=>um (tv i))=true:=by kernel_rfl
theorem Zn {i:Nat} (h:i<36):um (tv i)=true:=List.all_eq_true.1 V5 i (List.mem_range.2 h)
theorem Zo {x:ByteArray} (hx:R6 x) {i:Nat} (hi:i<36) {s:ByteArray} (hs:s.data.toList=34::(x.data.toList++(34::58::(vt i).data.toList))):∃ t,Ns t s :=
 ⟨_,V4 hx (Zn hi) (fun f h6 h12=>(yh hi (by omega) h12).le (by omega)) hs⟩
theorem R9 {op:ByteArray} (h:oU op=true) (j:T):yT (aX 6 0 ByteArray.empty [j] [op]):=⟨rfl,Nat.zero_lt_one,h⟩
theorem V6 {op:ByteArray} {j:T} {r:ByteArray} (h:Kw op j r):um (aX 6 0 ByteArray.empty [j] [op])=true:=by
 unfold um;rw [if_pos (R9 h.aib j)];exact h.ok 14
theorem V7 {op:ByteArray} (h:oU op=true) (j:T):kF (aX 6 0 ByteArray.empty [j] [op])=[(op,j)]:=by
 unfold kF;rw [if_pos (show ah (aX 6 0 ByteArray.empty [j] [op])=6/\0<nK (aX 6 0 ByteArray.empty [j] [op])/\oU (bR (aX 6 0 ByteArray.empty [j] [op]) 0)=true from ⟨rfl,Nat.zero_lt_one,h⟩)];rfl
theorem Zp {x:ByteArray} (hx:R6 x) {op:ByteArray} {j:T} {r:ByteArray} (h:Kw op j r) {s:ByteArray} (hs:s.data.toList=34::(x.data.toList++(34::58::123::(r.data.toList++[125])))):Ns (aX 6 0 ByteArray.empty [aX 6 0 ByteArray.empty [j] [op]] [x]) s :=
 V4 hx (V6 h) (r:=(⟨#[123]⟩++r)++⟨#[125]⟩) (fun f h6 h12=>h.obj (by simp only [aO];simp) h6 h12) (by rw [hs];simp only [aO];simp)
theorem Zq (m:Nat) (q:ByteArray×T) (v:T) (th:Bool):Jv m [q] v th=wH m q v th:=by
 unfold Jv;simp
structure Zr (t:T) (s:ByteArray):Prop where
 rep:∀ f,6<=f->f<=12->nG f t s 150
 ok:∀ m,bH (m+2) t=true
 ev:∃ p:T->Bool,∀ m doc,gy (m+2) t doc=p doc
theorem Zt {t:T} {s:ByteArray} (h:Ns t s) {s':ByteArray} (hs:s'.data.toList=123::(s.data.toList++[125])):Zr t s':=by
 obtain ⟨p,hp⟩:=h.ev;exact ⟨fun f h9 h12=>(h.rep s' hs f (by omega) h12).le (by omega),fun m=>h.ok _,p,fun m doc=>hp _ doc⟩
theorem acv {t u:T} {s r:ByteArray} (h:Ns t s) (g:Ns u r) {s':ByteArray} (hs:s'.data.toList=[123,34,36,111,114,34,58,91,123]++(s.data.toList++([125,44,123]++(r.data.toList++[125,93,125])))):Zr (aX 6 0 ByteArray.empty [aX 5 0 ByteArray.empty [t,u] []] [xQ]) s':=by
 obtain ⟨p,hp⟩:=h.ev;obtain ⟨q,hq⟩:=g.ev;refine ⟨fun f h9 h12=>?_,fun m=>?_,⟨fun doc=>p doc || q doc,fun m doc=>?_⟩⟩
 ·obtain ⟨k,rfl⟩:∃ k,f=k+1+1:=⟨f - 2,by omega⟩;have h1:=h.rep ((⟨#[123]⟩++s)++⟨#[125]⟩) (by simp only [aO];simp) k (by omega) (by omega);have h2:=g.rep ((⟨#[123]⟩++r)++⟨#[125]⟩) (by simp only [aO];simp) k (by omega) (by omega);have h3:=h1.acs h2 (s':=(⟨#[91,123]⟩++s)++(⟨#[125,44,123]⟩++(r++⟨#[125,93]⟩))) (by simp only [aO];simp);refine (h3.obj (k:=xQ) (lG.mk' (by kernel_rfl)) ?_).le (by have:xQ.size=3:=rfl;omega);rw [hs];simp only [aO];simp;rfl
 ·rw [ET];exact Zm _ (.inr (.inl rfl)) (h.ok m) (g.ok m)
 ·rw [GV,acu,hp,hq]
theorem Qb {c:Int} (h0:-9223372036854775808<=c) (h1:c<=9223372036854775807) (m:Nat) (hm:0<m):-9223372036854775808<=c.tdiv m/\c.tdiv m<=9223372036854775807:=by
 by_cases h:0<=c
 ·rw [Int.tdiv_eq_ediv_of_nonneg h];have h2:0<=c / (m:Int):=Int.ediv_nonneg h (by omega);have h3:c / (m:Int)<=c:=Int.ediv_le_self _ h;omega
 ·have e:c.tdiv m=-((-c).tdiv m):=by rw [Int.neg_tdiv];simp
  rw [e,Int.tdiv_eq_ediv_of_nonneg (by omega)];have h2:0<=(-c) / (m:Int):=Int.ediv_nonneg (by omega) (by omega);have h3:(-c) / (m:Int)<=-c:=Int.ediv_le_self _ (by omega);omega
end Go.Proofs.YtknakfpciccoaabGreatDoor
