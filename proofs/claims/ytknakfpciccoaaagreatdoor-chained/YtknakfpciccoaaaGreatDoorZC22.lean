import Derived.Test.YtknakfpciccoaaaGreatDoorZC21
/- value: one text for each number, in whatever world. -/
set_option maxHeartbeats 8000000
set_option maxRecDepth 100000
namespace Go.Proofs.YtknakfpciccoaaaGreatDoor
open Go.RowKit
def acf (k P:Int):ByteArray :=
 if k=0\/k=1\/k=2 then bP (Lib.itoa (P / 8 % 9 - 4)) else if k=3 then (⟨#[34]⟩++⟨#[Ev (97+P / 8 % 3)]⟩)++⟨#[34]⟩ else if k=4 then (((⟨#[91]⟩++bP (Lib.itoa (P / 8 % 4)))++⟨#[44]⟩)++bP (Lib.itoa (P / 8 / 4 % 4)))++⟨#[93]⟩
 else if k=5 then (⟨#[123,34,98,34,58]⟩++bP (Lib.itoa (P / 8 % 4)))++⟨#[125]⟩ else if k=6 then (if P / 8 % 3=0 then vt 0 else if P / 8 % 3=1 then vt 2 else vt 1) else vt 15
def mQ (c:Int):ByteArray:=acf (aT c % 8) (aT c % 1099511627776)
theorem aaY {P m:Int} (h:P / 8 % 3=m):acf 6 P=if m=0 then vt 0 else if m=1 then vt 2 else vt 1:=by subst h;rfl
def sS (c:Int) (w:World) (e:Ending) (w':World):Prop:=∃ s,(IsV s/\s=mQ c)/\e=.returned (.string s)/\Below w.heap.size w w'
theorem uj {Tb:World->Prop} (hI:bf Tb) (hL:aV Tb) (c:Int) (w:World) (h0:-9223372036854775808<=c) (h1:c<=9223372036854775807) (hT:Tb w) :
  Calls Tryz.prog 21 #[.int .i64 c] w (sS c w):=by
 have oZ:=ak (fA c 1099511627776 w h0 h1 (by omega) (by omega));have mq:=ak (fA c 8 w h0 h1 (by omega) (by omega));have hb:=tX h0 h1;obtain ⟨P,hP⟩:∃ P,aT c % 1099511627776=P:=⟨_,rfl⟩;obtain ⟨k,hk⟩:∃ k,aT c % 8=k:=⟨_,rfl⟩;have p0:0<=P:=by omega
 have p1:P<=1099511627776:=by omega
 have k8:k=0\/k=1\/k=2\/k=3\/k=4\/k=5\/k=6\/k=7:=by omega
 have I4:Hid (mQ c=acf k P):=by show _=_;unfold mQ;rw [hP,hk]
 rw [hP] at oZ;rw [hk] at mq;clear hP hk hb h0 h1;have HT:=ak hT;have HI:=ak hI;clear hT hI;rcases k8 with rfl | rfl | rfl | rfl | rfl | rfl | rfl | rfl
 ·go_in;go_wp2_with fail;refine oZ.out.mono ?_;rintro e w ⟨rfl,rfl⟩;go_wp2_with fail;refine mq.out.mono ?_;rintro e w ⟨rfl,rfl⟩;have HC:=ak (HI.out (P / 8 % 9 - 4) w (by omega) (by omega) HT.out);go_wp2_with fail;refine HC.out.mono ?_;rintro e w1 ⟨rfl,b1⟩;have HB:=ak b1;clear b1;go_wp2_with fail;go_ret;exact ⟨_,⟨lY (P / 8),I4.out.symm⟩,rfl,HB.out⟩
 ·go_in;go_wp2_with fail;refine oZ.out.mono ?_;rintro e w ⟨rfl,rfl⟩;go_wp2_with fail;refine mq.out.mono ?_;rintro e w ⟨rfl,rfl⟩;have HC:=ak (HI.out (P / 8 % 9 - 4) w (by omega) (by omega) HT.out);go_wp2_with fail;refine HC.out.mono ?_;rintro e w1 ⟨rfl,b1⟩;have HB:=ak b1;clear b1;go_wp2_with fail;go_ret;exact ⟨_,⟨lY (P / 8),I4.out.symm⟩,rfl,HB.out⟩
 ·go_in;go_wp2_with fail;refine oZ.out.mono ?_;rintro e w ⟨rfl,rfl⟩;go_wp2_with fail;refine mq.out.mono ?_;rintro e w ⟨rfl,rfl⟩;have HC:=ak (HI.out (P / 8 % 9 - 4) w (by omega) (by omega) HT.out);go_wp2_with fail;refine HC.out.mono ?_;rintro e w1 ⟨rfl,b1⟩;have HB:=ak b1;clear b1;go_wp2_with fail;go_ret;exact ⟨_,⟨lY (P / 8),I4.out.symm⟩,rfl,HB.out⟩
 ·have hcv:=aaI w (97+P / 8 % 3) (by omega);have e1:IntKind.u8.wrap (97+P / 8 % 3)=97+P / 8 % 3:=by rw [IntKind.wrap_u8];omega
  go_in;go_wp2_with fail;refine oZ.out.mono ?_;rintro e w ⟨rfl,rfl⟩;go_wp2_with fail;refine mq.out.mono ?_;rintro e w ⟨rfl,rfl⟩;go_wp2_with fail;go_ret;exact ⟨_,⟨Gt (x:=P / 8 % 3) (by omega) (by omega),I4.out.symm⟩,rfl,aY _ _⟩
 ·go_in;go_wp2_with fail;refine oZ.out.mono ?_;rintro e w ⟨rfl,rfl⟩;go_wp2_with fail;refine mq.out.mono ?_;rintro e w ⟨rfl,rfl⟩;have HC:=ak (HI.out (P / 8 % 4) w (by omega) (by omega) HT.out);have HV:=ak (And.intro (Bw (x:=P / 8 % 4) (y:=P / 8 / 4 % 4) (by omega) (by omega) (by omega) (by omega)) (show (((⟨#[91]⟩++bP (Lib.itoa (P / 8 % 4)))++⟨#[44]⟩)++bP (Lib.itoa (P / 8 / 4 % 4)))++⟨#[93]⟩=mQ c from I4.out.symm));have z1:=mo (n:=P / 8 % 4) (by omega) (by omega);have z2:=mo (n:=P / 8 / 4 % 4) (by omega) (by omega);have Ml:=ak (fun w1 b1=>HI.out (P / 8 / 4 % 4) w1 (by omega) (by omega) (hL w HT.out w w1 HT.out b1));generalize bP (Lib.itoa (P / 8 % 4))=s1 at HC HV z1;generalize bP (Lib.itoa (P / 8 / 4 % 4))=s2 at Ml HV z2;obtain ⟨a1,e1,y1,g1⟩:=aD ⟨#[91]⟩ s1 1 1 rfl z1 (by omega);obtain ⟨a2,e2,y2,g2⟩:=aD a1 ⟨#[44]⟩ 2 1 y1 rfl (by omega);obtain ⟨a3,e3,y3,g3⟩:=aD a2 s2 3 1 y2 z2 (by omega);obtain ⟨a4,e4,y4,g4⟩:=aD a3 ⟨#[93]⟩ 4 1 y3 rfl (by omega);rw [<- e1,<- e2,<- e3,<- e4] at HV;clear e1 e2 e3 e4 y1 y2 y3 y4 z1 z2;go_wp2_with fail;refine HC.out.mono ?_;rintro e w1 ⟨rfl,b1⟩;have HB:=ak b1;have TW:=ak (Ml.out w1 b1);clear b1;go_wp2_with fail;refine TW.out.mono ?_;rintro e w2 ⟨rfl,b2⟩;have HB2:=ak (HB.out.trans (b2.mono HB.out.size));clear b2;go_wp2_with fail;go_ret;exact ⟨_,HV.out,rfl,HB2.out⟩
 ·go_in;go_wp2_with fail;refine oZ.out.mono ?_;rintro e w ⟨rfl,rfl⟩;go_wp2_with fail;refine mq.out.mono ?_;rintro e w ⟨rfl,rfl⟩;have HC:=ak (HI.out (P / 8 % 4) w (by omega) (by omega) HT.out);have HV:=ak (And.intro (Gs (x:=P / 8 % 4) (by omega) (by omega)) (show (⟨#[123,34,98,34,58]⟩++bP (Lib.itoa (P / 8 % 4)))++⟨#[125]⟩=mQ c from I4.out.symm));have z1:=mo (n:=P / 8 % 4) (by omega) (by omega);generalize bP (Lib.itoa (P / 8 % 4))=s1 at HC HV z1;obtain ⟨a1,e1,y1,g1⟩:=aD ⟨#[123,34,98,34,58]⟩ s1 5 1 rfl z1 (by omega);obtain ⟨a2,e2,y2,g2⟩:=aD a1 ⟨#[125]⟩ 6 1 y1 rfl (by omega);rw [<- e1,<- e2] at HV;clear e1 e2 y1 y2 z1;go_wp2_with fail;refine HC.out.mono ?_;rintro e w1 ⟨rfl,b1⟩;have HB:=ak b1;clear b1;go_wp2_with fail;go_ret;exact ⟨_,HV.out,rfl,HB.out⟩
 ·obtain ⟨m,hm⟩:∃ m,P / 8 % 3=m:=⟨_,rfl⟩;obtain h | h | h:m=0\/m=1\/m=2:=by omega
  all_goals
   subst h;have HM:=ak (aaY hm);go_in;go_wp2_with fail;refine oZ.out.mono ?_;rintro e w ⟨rfl,rfl⟩;go_wp2_with fail;refine mq.out.mono ?_;rintro e w ⟨rfl,rfl⟩;go_wp2_with fail;go_ret
  ·exact ⟨_,⟨⟨0,by omega,rfl⟩,by rw [I4.out,HM.out];simp⟩,rfl,aY _ _⟩
  ·exact ⟨_,⟨⟨2,by omega,rfl⟩,by rw [I4.out,HM.out];simp⟩,rfl,aY _ _⟩
  ·exact ⟨_,⟨⟨1,by omega,rfl⟩,by rw [I4.out,HM.out];simp⟩,rfl,aY _ _⟩
 ·go_in;go_wp2_with fail;refine oZ.out.mono ?_;rintro e w ⟨rfl,rfl⟩;go_wp2_with fail;refine mq.out.mono ?_;rintro e w ⟨rfl,rfl⟩;go_wp2_with fail;go_ret;exact ⟨_,⟨⟨15,by omega,rfl⟩,I4.out.symm⟩,rfl,Below.refl _ _⟩
def acg:List ByteArray:=[⟨#[36,101,113]⟩,⟨#[36,110,101]⟩,⟨#[36,103,116]⟩,⟨#[36,103,116,101]⟩,⟨#[36,108,116]⟩,⟨#[36,108,116,101]⟩]
def opS (k:Nat):ByteArray:=(⟨#[34]⟩++acg.getD k ByteArray.empty)++⟨#[34]⟩
def Zm (k P:Int):ByteArray :=
 if k=6 then (((⟨#[34,36,105,110,34,58,91]⟩++mQ (P / 11))++⟨#[44]⟩)++mQ (P / 11 / 16))++⟨#[93]⟩
 else if k=7 then ⟨#[34,36,101,120,105,115,116,115,34,58]⟩++(if P / 11 % 2=0 then ⟨#[116,114,117,101]⟩ else ⟨#[102,97,108,115,101]⟩)
 else if k=8 then ⟨#[34,36,107,105,110,100,34,58]⟩++bP (Lib.itoa (1+P / 11 % 6))
 else if k=9 then (⟨#[34,36,97,110,121,34,58,123,34,36,103,116,34,58]⟩++bP (Lib.itoa (P / 11 % 4)))++⟨#[125]⟩
 else if k=10 then ⟨#[34,36,115,105,122,101,34,58]⟩++bP (Lib.itoa (P / 11 % 4))
 else (opS k.toNat++⟨#[58]⟩)++mQ (P / 11)
def xA (c:Int):ByteArray:=Zm (aT c % 11) (aT c % 1099511627776)
theorem mE (j:Nat) (hj:j<6) (w:World):Calls Tryz.prog 28 #[.string (acg.getD j ByteArray.empty)] w fun e w'=>∃ q,e=.returned (.string q)/\q=opS j/\q.size<=6/\w'=w:=by
 have hz:(acg.getD j ByteArray.empty).size<=4:=by
  match j,hj with
  | 0,_=>decide
  | 1,_=>decide
  | 2,_=>decide
  | 3,_=>decide
  | 4,_=>decide
  | 5,_=>decide
 refine (vP _ w (by omega)).mono ?_;rintro e w' ⟨rfl,rfl⟩;refine ⟨_,rfl,rfl,?_,rfl⟩;simp only [ByteArray.size_append];have:(⟨#[34]⟩:ByteArray).size=1:=rfl;omega
theorem Wv {n:Int} (h0:0<=n) (h1:n<30):(bP (Lib.itoa n)).size<=2:=yE h0 h1
theorem Ww {Tb:World->Prop} (hI:bf Tb) (hL:aV Tb) (c:Int) (w:World) (h0:-9223372036854775808<=c) (h1:c<=9223372036854775807) (hT:Tb w) (hk6:aT c % 11<6) :
  Calls Tryz.prog 30 #[.int .i64 c] w fun e w'=>e=.returned (.string (xA c))/\Below w.heap.size w w':=by
 have oZ:=ak (fun w=>fA c 1099511627776 w h0 h1 (by omega) (by omega));have mq:=ak (fun w=>fA c 11 w h0 h1 (by omega) (by omega));have HV:Hid (∀ (c:Int) (w:World),-9223372036854775808<=c->c<=9223372036854775807->Tb w->Calls Tryz.prog 21 #[.int .i64 c] w (sS c w)):=fun c w h0 h1 ht=>uj hI hL c w h0 h1 ht;have HT:Hid (∀ w':World,Below w.heap.size w w'->Tb w'):=fun w' hb=>hL w hT w w' hT hb;have hb:=tX h0 h1;obtain ⟨P,hP⟩:∃ P,aT c % 1099511627776=P:=⟨_,rfl⟩;obtain ⟨k,hk⟩:∃ k,aT c % 11=k:=⟨_,rfl⟩;have p0:0<=P:=by omega
 have p1:P<=1099511627776:=by omega
 have k11:k=0\/k=1\/k=2\/k=3\/k=4\/k=5:=by omega
 have I4:Hid (xA c=Zm k P):=by show _=_;unfold xA;rw [hP,hk]
 rw [hP] at oZ;rw [hk] at mq;have HI:=ak hI;clear hP hk hb h0 h1 hI hL hk6;have zL:=ak (HV.out (P / 11) w (by omega) (by omega) hT);clear hT;rcases k11 with rfl | rfl | rfl | rfl | rfl | rfl
 iterate 6
  ·go_in;go_wp2_with fail;refine (oZ.out w).mono ?_;rintro e w ⟨rfl,rfl⟩;go_wp2_with fail;refine zL.out.mono ?_;rintro e w1 ⟨sd,⟨⟨i,hi,hiv⟩,hsd⟩,rfl,b1⟩;have hz:sd.size<=10:=by rw [hiv];exact lV hi
   have Hsd:=ak hsd;have HB:=ak b1;clear hi hiv hsd b1 zL;go_wp2_with fail;refine (mq.out _).mono ?_;rintro e w2 ⟨rfl,rfl⟩;go_wp2_with fail;refine (mq.out _).mono ?_;rintro e w2 ⟨rfl,rfl⟩;go_wp2_with fail
   first
    | refine (mE 0 (by omega) _).mono ?_
    | refine (mE 1 (by omega) _).mono ?_
    | refine (mE 2 (by omega) _).mono ?_
    | refine (mE 3 (by omega) _).mono ?_
    | refine (mE 4 (by omega) _).mono ?_
    | refine (mE 5 (by omega) _).mono ?_
   rintro e w2 ⟨q,rfl,hq,hqz,rfl⟩;obtain ⟨a1,e1,z1,r1⟩:=aD q ⟨#[58]⟩ q.size 1 rfl rfl (by omega);obtain ⟨a2,e2,z2,r2⟩:=aD a1 sd a1.size sd.size rfl rfl (by omega);have HE:=ak (e2.trans (congrArg (·++sd) (e1.trans (congrArg (·++_) hq))));clear e1 e2 z1 z2 hq hqz hz;go_wp2_with fail;go_ret;exact ⟨by rw [I4.out];show Ending.returned (.string a2)=_;rw [HE.out,Hsd.out];rfl,HB.out.alloc HB.out.size _⟩
theorem SA {Tb:World->Prop} (hI:bf Tb) (hL:aV Tb) (c:Int) (w:World) (h0:-9223372036854775808<=c) (h1:c<=9223372036854775807) (hT:Tb w) (hk6:6<=aT c % 11) :
  Calls Tryz.prog 30 #[.int .i64 c] w fun e w'=>e=.returned (.string (xA c))/\Below w.heap.size w w':=by
 have oZ:=ak (fun w=>fA c 1099511627776 w h0 h1 (by omega) (by omega));have mq:=ak (fun w=>fA c 11 w h0 h1 (by omega) (by omega));have HV:Hid (∀ (c:Int) (w:World),-9223372036854775808<=c->c<=9223372036854775807->Tb w->Calls Tryz.prog 21 #[.int .i64 c] w (sS c w)):=fun c w h0 h1 ht=>uj hI hL c w h0 h1 ht;have HT:Hid (∀ w':World,Below w.heap.size w w'->Tb w'):=fun w' hb=>hL w hT w w' hT hb;have hb:=tX h0 h1;obtain ⟨P,hP⟩:∃ P,aT c % 1099511627776=P:=⟨_,rfl⟩;obtain ⟨k,hk⟩:∃ k,aT c % 11=k:=⟨_,rfl⟩;have p0:0<=P:=by omega
 have p1:P<=1099511627776:=by omega
 have k11:k=6\/k=7\/k=8\/k=9\/k=10:=by omega
 have I4:Hid (xA c=Zm k P):=by show _=_;unfold xA;rw [hP,hk]
 rw [hP] at oZ;rw [hk] at mq;have HI:=ak hI;clear hP hk hb h0 h1 hI hL hk6;have zL:=ak (HV.out (P / 11) w (by omega) (by omega) hT);clear hT;rcases k11 with rfl | rfl | rfl | rfl | rfl
 ·go_in;go_wp2_with fail;refine (oZ.out w).mono ?_;rintro e w ⟨rfl,rfl⟩;go_wp2_with fail;refine zL.out.mono ?_;rintro e w1 ⟨sd,⟨⟨i,hi,hiv⟩,hsd⟩,rfl,b1⟩;have hz:sd.size<=10:=by rw [hiv];exact lV hi
  have Hsd:=ak hsd;have HB:=ak b1;clear hi hiv hsd b1 zL;have Dn:=ak (HV.out (P / 11 / 16) w1 (by omega) (by omega) (HT.out _ HB.out));obtain ⟨a1,e1,z1,r1⟩:=aD ⟨#[34,36,105,110,34,58,91]⟩ sd 7 sd.size rfl rfl (by omega);obtain ⟨a2,e2,z2,r2⟩:=aD a1 ⟨#[44]⟩ a1.size 1 rfl rfl (by omega);have HE:=ak (And.intro e1 e2);have hz2:a2.size<=18:=by omega
  clear e1 z1 e2 z2 hz;go_wp2_with fail;refine (mq.out _).mono ?_;rintro e w2 ⟨rfl,rfl⟩;go_wp2_with fail;refine Dn.out.mono ?_;rintro e w3 ⟨sv,⟨⟨i2,hi2,afn⟩,hsv⟩,rfl,b3⟩;have hz3:sv.size<=10:=by rw [afn];exact lV hi2
  obtain ⟨a3,e3,z3,r3⟩:=aD a2 sv a2.size sv.size rfl rfl (by omega);obtain ⟨a4,e4,z4,r4⟩:=aD a3 ⟨#[93]⟩ a3.size 1 rfl rfl (by omega);have HB3:=ak (HB.out.trans (b3.mono HB.out.size));have HF:Hid (a4=xA c):=by show _=_;rw [I4.out,e4,e3,HE.out.2,HE.out.1,Hsd.out,hsv];rfl
  clear b3 hi2 afn hsv hz3 e3 z3 e4 z4 hz2 Dn;go_wp2_with fail;go_ret;exact ⟨by rw [<- HF.out];rfl,HB3.out⟩
 ·obtain ⟨m,hm⟩:∃ m,P / 11 % 2=m:=⟨_,rfl⟩;have HM:Hid (Zm 7 P=⟨#[34,36,101,120,105,115,116,115,34,58]⟩++(if m=0 then ⟨#[116,114,117,101]⟩ else ⟨#[102,97,108,115,101]⟩)):=by show _=_;subst hm;rfl
  obtain h | h:m=0\/m=1:=by omega
  all_goals
   subst h;go_in;go_wp2_with fail;refine (oZ.out w).mono ?_;rintro e w ⟨rfl,rfl⟩;go_wp2_with fail;refine zL.out.mono ?_;rintro e w1 ⟨sd,⟨⟨i,hi,hiv⟩,hsd⟩,rfl,b1⟩;have hz:sd.size<=10:=by rw [hiv];exact lV hi
   have Hsd:=ak hsd;have HB:=ak b1;clear hi hiv hsd b1 zL;go_wp2_with fail;refine (mq.out _).mono ?_;rintro e w2 ⟨rfl,rfl⟩;go_wp2_with fail;go_ret;exact ⟨by rw [I4.out,HM.out];rfl,HB.out.alloc HB.out.size _⟩
 ·go_in;go_wp2_with fail;refine (oZ.out w).mono ?_;rintro e w ⟨rfl,rfl⟩;go_wp2_with fail;refine zL.out.mono ?_;rintro e w1 ⟨sd,⟨⟨i,hi,hiv⟩,hsd⟩,rfl,b1⟩;have hz:sd.size<=10:=by rw [hiv];exact lV hi
  have Hsd:=ak hsd;have HB:=ak b1;clear hi hiv hsd b1 zL;have HC:=ak (HI.out (1+P / 11 % 6) w1 (by omega) (by omega) (HT.out _ HB.out));have hiz:=Wv (n:=1+P / 11 % 6) (by omega) (by omega);generalize hg:bP (Lib.itoa (1+P / 11 % 6))=si at HC hiz;have Hg:=ak hg;clear hg;obtain ⟨a1,e1,z1,r1⟩:=aD ⟨#[34,36,107,105,110,100,34,58]⟩ si 8 si.size rfl rfl (by omega);have HE:=ak e1;clear e1 z1 hiz hz;go_wp2_with fail;refine (mq.out _).mono ?_;rintro e w2 ⟨rfl,rfl⟩;go_wp2_with fail;refine HC.out.mono ?_;rintro e w3 ⟨rfl,b3⟩;have HB3:=ak (HB.out.trans (b3.mono HB.out.size));clear b3 HC;go_wp2_with fail;go_ret;exact ⟨by rw [I4.out];show Ending.returned (.string a1)=_;rw [HE.out,<- Hg.out];rfl,HB3.out⟩
 ·go_in;go_wp2_with fail;refine (oZ.out w).mono ?_;rintro e w ⟨rfl,rfl⟩;go_wp2_with fail;refine zL.out.mono ?_;rintro e w1 ⟨sd,⟨⟨i,hi,hiv⟩,hsd⟩,rfl,b1⟩;have hz:sd.size<=10:=by rw [hiv];exact lV hi
  have Hsd:=ak hsd;have HB:=ak b1;clear hi hiv hsd b1 zL;have HC:=ak (HI.out (P / 11 % 4) w1 (by omega) (by omega) (HT.out _ HB.out));have hiz:=Wv (n:=P / 11 % 4) (by omega) (by omega);generalize hg:bP (Lib.itoa (P / 11 % 4))=si at HC hiz;have Hg:=ak hg;clear hg;obtain ⟨a1,e1,z1,r1⟩:=aD ⟨#[34,36,97,110,121,34,58,123,34,36,103,116,34,58]⟩ si 14 si.size rfl rfl (by omega);obtain ⟨a2,e2,z2,r2⟩:=aD a1 ⟨#[125]⟩ a1.size 1 rfl rfl (by omega);have HE:=ak (e2.trans (congrArg (·++_) e1));clear e1 z1 e2 z2 hiz hz;go_wp2_with fail;refine (mq.out _).mono ?_;rintro e w2 ⟨rfl,rfl⟩;go_wp2_with fail;refine HC.out.mono ?_;rintro e w3 ⟨rfl,b3⟩;have HB3:=ak (HB.out.trans (b3.mono HB.out.size));clear b3 HC;go_wp2_with fail;go_ret;exact ⟨by rw [I4.out];show Ending.returned (.string a2)=_;rw [HE.out,<- Hg.out];rfl,HB3.out⟩
 ·go_in;go_wp2_with fail;refine (oZ.out w).mono ?_;rintro e w ⟨rfl,rfl⟩;go_wp2_with fail;refine zL.out.mono ?_;rintro e w1 ⟨sd,⟨⟨i,hi,hiv⟩,hsd⟩,rfl,b1⟩;have hz:sd.size<=10:=by rw [hiv];exact lV hi
  have Hsd:=ak hsd;have HB:=ak b1;clear hi hiv hsd b1 zL;have HC:=ak (HI.out (P / 11 % 4) w1 (by omega) (by omega) (HT.out _ HB.out));have hiz:=Wv (n:=P / 11 % 4) (by omega) (by omega);generalize hg:bP (Lib.itoa (P / 11 % 4))=si at HC hiz;have Hg:=ak hg;clear hg;obtain ⟨a1,e1,z1,r1⟩:=aD ⟨#[34,36,115,105,122,101,34,58]⟩ si 8 si.size rfl rfl (by omega);have HE:=ak e1;clear e1 z1 hiz hz;go_wp2_with fail;refine (mq.out _).mono ?_;rintro e w2 ⟨rfl,rfl⟩;go_wp2_with fail;refine HC.out.mono ?_;rintro e w3 ⟨rfl,b3⟩;have HB3:=ak (HB.out.trans (b3.mono HB.out.size));clear b3 HC;go_wp2_with fail;go_ret;exact ⟨by rw [I4.out];show Ending.returned (.string a1)=_;rw [HE.out,<- Hg.out];rfl,HB3.out⟩
theorem Wx {Tb:World->Prop} (hI:bf Tb) (hL:aV Tb) (c:Int) (w:World) (h0:-9223372036854775808<=c) (h1:c<=9223372036854775807) (hT:Tb w) :
  Calls Tryz.prog 30 #[.int .i64 c] w fun e w'=>e=.returned (.string (xA c))/\Below w.heap.size w w':=by
 by_cases h:aT c % 11<6
 ·exact Ww hI hL c w h0 h1 hT h
 ·exact SA hI hL c w h0 h1 hT (by omega)
structure o7 (f:Nat) (t:T) (s:ByteArray) (n:Nat):Prop where
 wr:s.data.toList=bL f t
 fit:rG (f+1) t
 good:dD f t
 can:bH f t=t
 size:s.size<=n
theorem o7.parse {t:T} {s:ByteArray} {n:Nat} (h:o7 12 t s n) (hn:n<=4000):eJ s=0/\tJ s=t:=by
 have e:=Qw h.wr;have hz:=h.size;have h1:s.size=(bL 12 t).length:=by rw [<- h.wr];rfl
 have hp:=vN h.fit h.good (by omega);rw [h.can] at hp;rw [e];exact hp
theorem o7.le {f:Nat} {t:T} {s:ByteArray} {n m:Nat} (h:o7 f t s n) (hm:n<=m):o7 f t s m:=⟨h.wr,h.fit,h.good,h.can,Nat.le_trans h.size hm⟩
theorem gH {k:Int} (h0:0<=k) (h1:k<=6) (l:List T) (ks:List ByteArray) (hl:l.length<=100) (hk:ks.length<=100):zI (aO k 0 ByteArray.empty l ks) :=
 ⟨by rw [bg];omega,by rw [bg];omega,by rw [eP];omega,by rw [eP];omega,by rw [gu];show (0:Nat)<=_;omega,by rw [aN];omega,by rw [eY];omega⟩
structure lW (k:ByteArray):Prop where
 quo:cO k=34::(k.data.toList++[34])
 ok:Ah k=true
 size:k.size<=100
theorem o7.obj {f:Nat} {t:T} {s:ByteArray} {n:Nat} (h:o7 f t s n) {k:ByteArray} (hk:lW k) {s':ByteArray} (hs:s'.data.toList=123::34::(k.data.toList++(34::58::(s.data.toList++[125])))):o7 (f+1) (aO 6 0 ByteArray.empty [t] [k]) s' (n+k.size+5):=by
 have e:bL (f+1) (aO 6 0 ByteArray.empty [t] [k])=123::(([]++([]++(cO k++(58::bL f t))))++[125]):=rfl;refine ⟨?_,⟨gH (by omega) (by omega) _ _ (by simp) (by simp),fun i hi=>?_,fun i hi=>?_⟩,.inr ⟨rfl,dP _ _ _ _,fun i hi=>?_,.inr ⟨rfl,rfl,?_,rfl⟩⟩,?_,?_⟩
 ·rw [e,hs,hk.quo,h.wr];simp
 ·obtain rfl:i=0:=by rw [aN] at hi;simpa using hi
  exact h.fit
 ·obtain rfl:i=0:=by rw [eY] at hi;simpa using hi
  have:=hk.size;show k.size<=_;omega
 ·obtain rfl:i=0:=by rw [aN] at hi;simpa using hi
  exact h.good
 ·show (true&&(Ah k&&decide (k.size<=4000)))=true;have:=hk.size;rw [hk.ok,decide_eq_true (by omega)];rfl
 ·show aO 6 0 ByteArray.empty [bH f t] [k]=_;rw [h.can]
 ·have h1:s'.size=s'.data.toList.length:=rfl;have h2:s.size=s.data.toList.length:=rfl;have h3:k.size=k.data.toList.length:=rfl;have h4:=h.size;rw [h1,hs];simp only [List.length_cons,List.length_append,List.length_nil];omega
theorem o7.alQ {f:Nat} {t:T} {s:ByteArray} {n:Nat} (h:o7 f t s n) {s':ByteArray} (hs:s'.data.toList=91::(s.data.toList++[93])):o7 (f+1) (aO 5 0 ByteArray.empty [t] []) s' (n+2):=by
 have e:bL (f+1) (aO 5 0 ByteArray.empty [t] [])=91::(([]++([]++bL f t))++[93]):=rfl;refine ⟨?_,⟨gH (by omega) (by omega) _ _ (by simp) (by simp),fun i hi=>?_,fun i hi=>?_⟩,.inr ⟨rfl,dP _ _ _ _,fun i hi=>?_,.inl ⟨rfl,rfl⟩⟩,?_,?_⟩
 ·rw [e,hs,h.wr];simp
 ·obtain rfl:i=0:=by rw [aN] at hi;simpa using hi
  exact h.fit
 ·rw [eY] at hi;exact absurd hi (Nat.not_lt_zero i)
 ·obtain rfl:i=0:=by rw [aN] at hi;simpa using hi
  exact h.good
 ·show aO 5 0 ByteArray.empty [bH f t] []=_;rw [h.can]
 ·have h1:s'.size=s'.data.toList.length:=rfl;have h2:s.size=s.data.toList.length:=rfl;have h4:=h.size;rw [h1,hs];simp only [List.length_cons,List.length_append,List.length_nil];omega
theorem o7.aci {f:Nat} {t u:T} {s r:ByteArray} {n m:Nat} (h:o7 f t s n) (g:o7 f u r m) {s':ByteArray} (hs:s'.data.toList=91::(s.data.toList++(44::(r.data.toList++[93])))):o7 (f+1) (aO 5 0 ByteArray.empty [t,u] []) s' (n+m+3):=by
 have e:bL (f+1) (aO 5 0 ByteArray.empty [t,u] [])=91::((([]++([]++bL f t))++([44]++bL f u))++[93]):=rfl;have vQ:∀ i,i<nL (aO 5 0 ByteArray.empty [t,u] [])->i=0\/i=1:=fun i hi=>by rw [aN] at hi;simp at hi;omega
 refine ⟨?_,⟨gH (by omega) (by omega) _ _ (by simp) (by simp),fun i hi=>?_,fun i hi=>?_⟩,.inr ⟨rfl,dP _ _ _ _,fun i hi=>?_,.inl ⟨rfl,rfl⟩⟩,?_,?_⟩
 ·rw [e,hs,h.wr,g.wr];simp
 ·rcases vQ i hi with rfl | rfl
  ·exact h.fit
  ·exact g.fit
 ·rw [eY] at hi;exact absurd hi (Nat.not_lt_zero i)
 ·rcases vQ i hi with rfl | rfl
  ·exact h.good
  ·exact g.good
 ·show aO 5 0 ByteArray.empty [bH f t,bH f u] []=_;rw [h.can,g.can]
 ·have h1:s'.size=s'.data.toList.length:=rfl;have h2:s.size=s.data.toList.length:=rfl;have h3:r.size=r.data.toList.length:=rfl;have h4:=h.size;have h5:=g.size;rw [h1,hs];simp only [List.length_cons,List.length_append,List.length_nil];omega
theorem Zn:((List.range 13).all fun f=>decide (f<1) || (List.range 36).all fun i=>decide (bL f (tv i)=(vt i).data.toList)&&NW (f+1) (tv i)&&(aP f (tv i) 1048576).isSome)=true:=by kernel_rfl
theorem Zo:(List.range 12).map (fun f=>(List.range 36).map (fun i=>bH (f+1) (tv i)))=(List.range 12).map (fun _=>(List.range 36).map tv):=by kernel_rfl
theorem yG {i f:Nat} (hi:i<36) (h3:1<=f) (h12:f<=12):o7 f (tv i) (vt i) 10:=by
 have h1:=List.all_eq_true.1 Zn f (List.mem_range.2 (by omega));rw [decide_eq_false (by omega),Bool.false_or] at h1;have h2:=List.all_eq_true.1 h1 i (List.mem_range.2 hi);simp only [Bool.and_eq_true,decide_eq_true_eq] at h2;obtain ⟨⟨a,b⟩,c⟩:=h2;refine ⟨a.symm,mP _ _ b,?_,?_,lV hi⟩
 ·rcases o9 f (tv i) 1048576 (by omega) with ⟨_,h,_⟩ | ⟨h,_⟩
  ·exact h
  ·rw [h] at c;cases c
 ·obtain ⟨g,rfl⟩:∃ g,f=g+1:=⟨f - 1,by omega⟩;have h4:=congrArg (fun l=>l[g]?) Zo;simp only [List.getElem?_map,List.getElem?_range (show g<12 by omega),Option.map_some,Option.some.injEq] at h4;have h5:=congrArg (fun l=>l[i]?) h4;simpa [hi] using h5
theorem pR (c:Int):IsV (mQ c):=by
 unfold mQ;have hk:aT c % 8=0\/aT c % 8=1\/aT c % 8=2\/aT c % 8=3\/aT c % 8=4\/aT c % 8=5\/aT c % 8=6\/aT c % 8=7:=by omega
 generalize aT c % 1099511627776=P;rcases hk with h | h | h | h | h | h | h | h<;>rw [h]
 ·exact lY (P / 8)
 ·exact lY (P / 8)
 ·exact lY (P / 8)
 ·exact Gt (x:=P / 8 % 3) (by omega) (by omega)
 ·exact Bw (x:=P / 8 % 4) (y:=P / 8 / 4 % 4) (by omega) (by omega) (by omega) (by omega)
 ·exact Gs (x:=P / 8 % 4) (by omega) (by omega)
 ·rw [aaY rfl];split
  ·exact ⟨0,by omega,rfl⟩
  ·split
   ·exact ⟨2,by omega,rfl⟩
   ·exact ⟨1,by omega,rfl⟩
 ·exact ⟨15,by omega,rfl⟩
theorem qI {n:Int} (h0:0<=n) (h1:n<30) (f:Nat):o7 (f+1) (nT n) (bP (Lib.itoa n)) 10:=by
 refine ⟨?_,⟨⟨by show -9223372036854775808<=(3:Int);omega,by show (3:Int)<=9223372036854775807;omega,by show -9223372036854775808<=n;omega,by show n<=9223372036854775807;omega,by show (0:Nat)<=_;omega,by show (0:Nat)<=_;omega,by show (0:Nat)<=_;omega⟩,fun i hi=>absurd hi (Nat.not_lt_zero i),fun i hi=>absurd hi (Nat.not_lt_zero i)⟩,Ia n _,rfl,by have:=yE h0 h1;omega⟩;rw [pO (by show (3:Int)≠5;decide) (by show (3:Int)≠6;decide)];show (bP (Lib.itoa n)).data.toList=Lib.itoa n;simp [bP]
structure KQ (op:ByteArray) (j:T) (s:ByteArray):Prop where
 pln:lW op
 txt:∃ r:ByteArray,s.data.toList=34::(op.data.toList++(34::58::r.data.toList))/\∀ f,2<=f->f<=12->o7 f j r 30
 ok:∀ m,jY (m+2) (aO 6 0 ByteArray.empty [j] [op])=true
 ev:∃ p:T->Bool->Bool,∀ m v th,xO (m+2) (op,j) v th=p v th
 ahX:qz op=true
 small:op.size<=10
theorem lW.mk' {k:ByteArray} (h:(decide (cO k=34::(k.data.toList++[34]))&&Ah k&&decide (k.size<=100))=true):lW k:=by
 simp only [Bool.and_eq_true,decide_eq_true_eq] at h;exact ⟨h.1.1,h.1.2,h.2⟩
theorem KQ.size {op:ByteArray} {j:T} {s:ByteArray} (h:KQ op j s):s.size<=44:=by
 obtain ⟨r,hr,hj⟩:=h.txt;have h1:=(hj 5 (by omega) (by omega)).size;have h2:s.size=s.data.toList.length:=rfl;have h3:r.size=r.data.toList.length:=rfl;have h4:op.size=op.data.toList.length:=rfl;have h5:=h.small;rw [h2,hr];simp only [List.length_cons,List.length_append];omega
theorem KQ.obj {op:ByteArray} {j:T} {s:ByteArray} (h:KQ op j s) {s':ByteArray} (hs:s'.data.toList=123::(s.data.toList++[125])) {f:Nat} (h5:3<=f) (h12:f<=12):o7 f (aO 6 0 ByteArray.empty [j] [op]) s' 50:=by
 obtain ⟨r,hr,hj⟩:=h.txt;obtain ⟨g,rfl⟩:∃ g,f=g+1:=⟨f - 1,by omega⟩;refine ((hj g (by omega) (by omega)).obj h.pln (s':=s') ?_).le (by have:=h.small;omega);rw [hs,hr];simp
theorem Wy (op:ByteArray) (j:T) (h:jo op) (m:Nat):jY (m+1) (aO 6 0 ByteArray.empty [j] [op])=true:=by
 show (true&&(true&&nA (jY m) op j))=true;unfold nA;rw [if_pos h];rfl
theorem sU (op:ByteArray) (j:T) (m:Nat):jY (m+1) (aO 6 0 ByteArray.empty [j] [op])=nA (jY m) op j:=by
 show (true&&(true&&nA (jY m) op j))=_;simp
theorem um {op:ByteArray} (h:op=wS\/op=JR\/op=BA\/op=Ey\/op=RI\/op=JU) {i:Nat} (hi:i<36) {s:ByteArray} (hs:s.data.toList=34::(op.data.toList++(34::58::(vt i).data.toList))):KQ op (tv i) s:=by
 refine ⟨?_,⟨vt i,hs,fun f h3 h12=>(yG hi (by omega) h12).le (by omega)⟩,fun m=>Wy op _ h _,?_,?_,?_⟩
 ·rcases h with rfl | rfl | rfl | rfl | rfl | rfl<;>exact lW.mk' (by kernel_rfl)
 ·refine ⟨fun v th=>xO 2 (op,tv i) v th,fun m v th=>?_⟩;rcases h with rfl | rfl | rfl | rfl | rfl | rfl<;>rfl
 ·rcases h with rfl | rfl | rfl | rfl | rfl | rfl<;>kernel_rfl
 ·rcases h with rfl | rfl | rfl | rfl | rfl | rfl<;>decide
theorem SB (b:Bool):∃ i,i<36/\aj (tv i)=2/\vt i=if b then ⟨#[116,114,117,101]⟩ else ⟨#[102,97,108,115,101]⟩:=by
 cases b
 ·exact ⟨1,by omega,by kernel_rfl,by kernel_rfl⟩
 ·exact ⟨2,by omega,by kernel_rfl,by kernel_rfl⟩
theorem Qy (c:Int):∃ op j,KQ op j (xA c):=by
 unfold xA;have hk:aT c % 11=0\/aT c % 11=1\/aT c % 11=2\/aT c % 11=3\/aT c % 11=4\/aT c % 11=5\/aT c % 11=6\/aT c % 11=7\/aT c % 11=8\/aT c % 11=9\/aT c % 11=10:=by omega
 generalize aT c % 1099511627776=P;obtain ⟨i,hi,hv⟩:=pR (P / 11);obtain ⟨i2,hi2,hv2⟩:=pR (P / 11 / 16);rcases hk with h | h | h | h | h | h | h | h | h | h | h<;>rw [h]
 ·exact ⟨wS,tv i,um (.inl rfl) hi (by show ((opS 0++⟨#[58]⟩)++mQ (P / 11)).data.toList=_;rw [hv,aL,aL];rfl)⟩
 ·exact ⟨JR,tv i,um (.inr (.inl rfl)) hi (by show ((opS 1++⟨#[58]⟩)++mQ (P / 11)).data.toList=_;rw [hv,aL,aL];rfl)⟩
 ·exact ⟨BA,tv i,um (.inr (.inr (.inl rfl))) hi (by show ((opS 2++⟨#[58]⟩)++mQ (P / 11)).data.toList=_;rw [hv,aL,aL];rfl)⟩
 ·exact ⟨Ey,tv i,um (.inr (.inr (.inr (.inl rfl)))) hi (by show ((opS 3++⟨#[58]⟩)++mQ (P / 11)).data.toList=_;rw [hv,aL,aL];rfl)⟩
 ·exact ⟨RI,tv i,um (.inr (.inr (.inr (.inr (.inl rfl))))) hi (by show ((opS 4++⟨#[58]⟩)++mQ (P / 11)).data.toList=_;rw [hv,aL,aL];rfl)⟩
 ·exact ⟨JU,tv i,um (.inr (.inr (.inr (.inr (.inr rfl))))) hi (by show ((opS 5++⟨#[58]⟩)++mQ (P / 11)).data.toList=_;rw [hv,aL,aL];rfl)⟩
 ·refine ⟨Dz,aO 5 0 ByteArray.empty [tv i,tv i2] [],lW.mk' (by kernel_rfl),⟨((⟨#[91]⟩++vt i)++⟨#[44]⟩)++vt i2++⟨#[93]⟩,?_,fun f h5 h12=>?_⟩,fun m=>?_,⟨fun v th=>xO 2 (Dz,aO 5 0 ByteArray.empty [tv i,tv i2] []) v th,fun m v th=>rfl⟩,by kernel_rfl,by decide⟩
  ·show ((((⟨#[34,36,105,110,34,58,91]⟩++mQ (P / 11))++⟨#[44]⟩)++mQ (P / 11 / 16))++⟨#[93]⟩:ByteArray).data.toList=_;rw [hv,hv2];simp only [aL];rfl
  ·obtain ⟨g,rfl⟩:∃ g,f=g+1:=⟨f - 1,by omega⟩;refine ((yG hi (f:=g) (by omega) (by omega)).aci (yG hi2 (by omega) (by omega)) ?_).le (by omega);simp only [aL];simp
  ·rw [sU];kernel_rfl
 ·obtain ⟨k,hk,hkk,hkt⟩:=SB (decide (P / 11 % 2=0));refine ⟨je,tv k,lW.mk' (by kernel_rfl),⟨vt k,?_,fun f h5 h12=>(yG hk (by omega) h12).le (by omega)⟩,fun m=>?_,⟨fun v th=>xO 2 (je,tv k) v th,fun m v th=>rfl⟩,by kernel_rfl,by decide⟩
  ·show (⟨#[34,36,101,120,105,115,116,115,34,58]⟩++(if P / 11 % 2=0 then ⟨#[116,114,117,101]⟩ else ⟨#[102,97,108,115,101]⟩):ByteArray).data.toList=_;rw [hkt,aL];simp only [decide_eq_true_eq];rfl
  ·rw [sU];show (aj (tv k)==2)=true;rw [hkk];rfl
 ·refine ⟨oL,nT (1+P / 11 % 6),lW.mk' (by kernel_rfl),⟨bP (Lib.itoa (1+P / 11 % 6)),?_,fun f h5 h12=>?_⟩,fun m=>?_,⟨fun v th=>xO 2 (oL,nT (1+P / 11 % 6)) v th,fun m v th=>rfl⟩,by kernel_rfl,by decide⟩
  ·show (⟨#[34,36,107,105,110,100,34,58]⟩++bP (Lib.itoa (1+P / 11 % 6)):ByteArray).data.toList=_;rw [aL];rfl
  ·obtain ⟨g,rfl⟩:∃ g,f=g+1:=⟨f - 1,by omega⟩;exact (qI (by omega) (by omega) g).le (by omega)
  ·rw [sU];show ((true&&decide (1<=1+P / 11 % 6))&&decide (1+P / 11 % 6<=6))=true;rw [decide_eq_true (by omega),decide_eq_true (by omega)];rfl
 ·refine ⟨sH,aO 6 0 ByteArray.empty [nT (P / 11 % 4)] [BA],lW.mk' (by kernel_rfl),⟨(⟨#[123,34,36,103,116,34,58]⟩++bP (Lib.itoa (P / 11 % 4)))++⟨#[125]⟩,?_,fun f h5 h12=>?_⟩,fun m=>?_,⟨fun v th=>xO 2 (sH,aO 6 0 ByteArray.empty [nT (P / 11 % 4)] [BA]) v th,fun m v th=>rfl⟩,by kernel_rfl,by decide⟩
  ·show ((⟨#[34,36,97,110,121,34,58,123,34,36,103,116,34,58]⟩++bP (Lib.itoa (P / 11 % 4)))++⟨#[125]⟩:ByteArray).data.toList=_;simp only [aL];rfl
  ·obtain ⟨g,rfl⟩:∃ g,f=g+1+1:=⟨f - 2,by omega⟩;refine ((qI (n:=P / 11 % 4) (by omega) (by omega) g).obj (k:=BA) (lW.mk' (by kernel_rfl)) ?_).le (by have:BA.size=3:=rfl;omega);simp only [aL];rfl
  ·rw [sU];show jY (m+1) (aO 6 0 ByteArray.empty [nT (P / 11 % 4)] [BA])=true;exact Wy _ _ (.inr (.inr (.inl rfl))) m
 ·refine ⟨oK,nT (P / 11 % 4),lW.mk' (by kernel_rfl),⟨bP (Lib.itoa (P / 11 % 4)),?_,fun f h5 h12=>?_⟩,fun m=>?_,⟨fun v th=>xO 2 (oK,nT (P / 11 % 4)) v th,fun m v th=>rfl⟩,by kernel_rfl,by decide⟩
  ·show (⟨#[34,36,115,105,122,101,34,58]⟩++bP (Lib.itoa (P / 11 % 4)):ByteArray).data.toList=_;rw [aL];rfl
  ·obtain ⟨g,rfl⟩:∃ g,f=g+1:=⟨f - 1,by omega⟩;exact (qI (by omega) (by omega) g).le (by omega)
  ·rw [sU];show (true&&decide (0<=P / 11 % 4))=true;rw [decide_eq_true (by omega)];rfl
theorem Qz (x:ByteArray) (j:T) (m:Nat) (doc:T):gP (m+1) (aO 6 0 ByteArray.empty [j] [x]) doc=Aq (gP m) x j doc:=by
 show (true&&Aq (gP m) x j doc)=_;rw [Bool.true_and]
theorem Fx (x:ByteArray) (j:T) (m:Nat):bE (m+1) (aO 6 0 ByteArray.empty [j] [x])=yu (bE m) x j:=by
 show (true&&(true&&yu (bE m) x j))=_;rw [Bool.true_and,Bool.true_and]
theorem acj (g:T->T->Bool) (t u doc:T):Aq g yh (aO 5 0 ByteArray.empty [t,u] []) doc=(g t doc || g u doc):=by
 unfold Aq;rw [if_neg (by decide),if_pos rfl];show ((false || g t doc) || g u doc)=_;rw [Bool.false_or]
theorem Zp (g:T->Bool) {x:ByteArray} (hx:x=uX\/x=yh\/x=zi) {t u:T} (h1:g t=true) (h2:g u=true):yu g x (aO 5 0 ByteArray.empty [t,u] [])=true:=by
 unfold yu;rw [if_pos hx];show (true&&((true&&g t)&&g u))=true;rw [h1,h2];rfl
structure Wz (x:ByteArray):Prop where
 pln:lW x
 plain:yj x
 ok:(!qz x&&iW x)=true
 small:x.size<=3
theorem aa0 {k:Nat} (hk:k<6):Wz (rH k):=by
 match k,hk with
 | 0,_=>exact ⟨lW.mk' (by kernel_rfl),⟨by decide,by decide,by decide⟩,by kernel_rfl,by decide⟩
 | 1,_=>exact ⟨lW.mk' (by kernel_rfl),⟨by decide,by decide,by decide⟩,by kernel_rfl,by decide⟩
 | 2,_=>exact ⟨lW.mk' (by kernel_rfl),⟨by decide,by decide,by decide⟩,by kernel_rfl,by decide⟩
 | 3,_=>exact ⟨lW.mk' (by kernel_rfl),⟨by decide,by decide,by decide⟩,by kernel_rfl,by decide⟩
 | 4,_=>exact ⟨lW.mk' (by kernel_rfl),⟨by decide,by decide,by decide⟩,by kernel_rfl,by decide⟩
 | 5,_=>exact ⟨lW.mk' (by kernel_rfl),⟨by decide,by decide,by decide⟩,by kernel_rfl,by decide⟩
theorem SC {x:ByteArray} (h:yj x) (g:T->T->Bool) (j doc:T):Aq g x j doc=YX (bW x) (l7 j) doc:=by
 unfold Aq;rw [if_neg h.1,if_neg h.2.1,if_neg h.2.2]
theorem SE {x:ByteArray} (h:Wz x) (g:T->Bool) {j:T} (hj:uL j=true):yu g x j=true:=by
 unfold yu;rw [if_neg (by rintro (e | e | e);exact h.plain.1 e;exact h.plain.2.1 e;exact h.plain.2.2 e),h.ok,hj];rfl
structure N7 (t:T) (s:ByteArray):Prop where
 rep:∀ s':ByteArray,s'.data.toList=123::(s.data.toList++[125])->∀ f,4<=f->f<=12->o7 f t s' 60
 ok:∀ m,bE (m+1) t=true
 ev:∃ p:T->Bool,∀ m doc,gP (m+1) t doc=p doc
 size:s.size<=60
theorem WA {x:ByteArray} (hx:Wz x) {j:T} (hj:uL j=true) {r:ByteArray} (hr:∀ f,3<=f->f<=12->o7 f j r 50) {s:ByteArray} (hs:s.data.toList=34::(x.data.toList++(34::58::r.data.toList))):N7 (aO 6 0 ByteArray.empty [j] [x]) s:=by
 refine ⟨fun s' hs' f h7 h12=>?_,fun m=>?_,⟨fun doc=>YX (bW x) (l7 j) doc,fun m doc=>?_⟩,?_⟩
 ·obtain ⟨g,rfl⟩:∃ g,f=g+1:=⟨f - 1,by omega⟩;refine ((hr g (by omega) (by omega)).obj hx.pln ?_).le (by have:=hx.small;omega);rw [hs',hs];simp
 ·rw [Fx];exact SE hx _ hj
 ·rw [Qz,SC hx.plain]
 ·have h1:=(hr 6 (by omega) (by omega)).size;have h2:s.size=s.data.toList.length:=rfl;have h3:r.size=r.data.toList.length:=rfl;have h4:x.size=x.data.toList.length:=rfl;have h5:=hx.small;rw [h2,hs];simp only [List.length_cons,List.length_append];omega
theorem WB:((List.range 36).all fun i=>uL (tv i))=true:=by kernel_rfl
theorem Zq {i:Nat} (h:i<36):uL (tv i)=true:=List.all_eq_true.1 WB i (List.mem_range.2 h)
theorem Zr {x:ByteArray} (hx:Wz x) {i:Nat} (hi:i<36) {s:ByteArray} (hs:s.data.toList=34::(x.data.toList++(34::58::(vt i).data.toList))):∃ t,N7 t s :=
 ⟨_,WA hx (Zq hi) (fun f h6 h12=>(yG hi (by omega) h12).le (by omega)) hs⟩
theorem SF {op:ByteArray} (h:qz op=true) (j:T):zk (aO 6 0 ByteArray.empty [j] [op]):=⟨rfl,Nat.zero_lt_one,h⟩
theorem WC {op:ByteArray} {j:T} {r:ByteArray} (h:KQ op j r):uL (aO 6 0 ByteArray.empty [j] [op])=true:=by
 unfold uL;rw [if_pos (SF h.ahX j)];exact h.ok 14
theorem Zt {x:ByteArray} (hx:Wz x) {op:ByteArray} {j:T} {r:ByteArray} (h:KQ op j r) {s:ByteArray} (hs:s.data.toList=34::(x.data.toList++(34::58::123::(r.data.toList++[125])))):N7 (aO 6 0 ByteArray.empty [aO 6 0 ByteArray.empty [j] [op]] [x]) s :=
 WA hx (WC h) (r:=(⟨#[123]⟩++r)++⟨#[125]⟩) (fun f h6 h12=>h.obj (by simp only [aL];simp) h6 h12) (by rw [hs];simp only [aL];simp)
structure Zu (t:T) (s:ByteArray):Prop where
 rep:∀ f,6<=f->f<=12->o7 f t s 150
 ok:∀ m,bE (m+2) t=true
 ev:∃ p:T->Bool,∀ m doc,gP (m+2) t doc=p doc
theorem Zv {t:T} {s:ByteArray} (h:N7 t s) {s':ByteArray} (hs:s'.data.toList=123::(s.data.toList++[125])):Zu t s':=by
 obtain ⟨p,hp⟩:=h.ev;exact ⟨fun f h9 h12=>(h.rep s' hs f (by omega) h12).le (by omega),fun m=>h.ok _,p,fun m doc=>hp _ doc⟩
theorem acn {t u:T} {s r:ByteArray} (h:N7 t s) (g:N7 u r) {s':ByteArray} (hs:s'.data.toList=[123,34,36,111,114,34,58,91,123]++(s.data.toList++([125,44,123]++(r.data.toList++[125,93,125])))):Zu (aO 6 0 ByteArray.empty [aO 5 0 ByteArray.empty [t,u] []] [yh]) s':=by
 obtain ⟨p,hp⟩:=h.ev;obtain ⟨q,hq⟩:=g.ev;refine ⟨fun f h9 h12=>?_,fun m=>?_,⟨fun doc=>p doc || q doc,fun m doc=>?_⟩⟩
 ·obtain ⟨k,rfl⟩:∃ k,f=k+1+1:=⟨f - 2,by omega⟩;have h1:=h.rep ((⟨#[123]⟩++s)++⟨#[125]⟩) (by simp only [aL];simp) k (by omega) (by omega);have h2:=g.rep ((⟨#[123]⟩++r)++⟨#[125]⟩) (by simp only [aL];simp) k (by omega) (by omega);have h3:=h1.aci h2 (s':=(⟨#[91,123]⟩++s)++(⟨#[125,44,123]⟩++(r++⟨#[125,93]⟩))) (by simp only [aL];simp);refine (h3.obj (k:=yh) (lW.mk' (by kernel_rfl)) ?_).le (by have:yh.size=3:=rfl;omega);rw [hs];simp only [aL];simp;rfl
 ·rw [Fx];exact Zp _ (.inr (.inl rfl)) (h.ok m) (g.ok m)
 ·rw [Qz,acj,hp,hq]
theorem QA {c:Int} (h0:-9223372036854775808<=c) (h1:c<=9223372036854775807) (m:Nat) (hm:0<m):-9223372036854775808<=c.tdiv m/\c.tdiv m<=9223372036854775807:=by
 by_cases h:0<=c
 ·rw [Int.tdiv_eq_ediv_of_nonneg h];have h2:0<=c / (m:Int):=Int.ediv_nonneg h (by omega);have h3:c / (m:Int)<=c:=Int.ediv_le_self _ h;omega
 ·have e:c.tdiv m=-((-c).tdiv m):=by rw [Int.neg_tdiv];simp
  rw [e,Int.tdiv_eq_ediv_of_nonneg (by omega)];have h2:0<=(-c) / (m:Int):=Int.ediv_nonneg (by omega) (by omega);have h3:(-c) / (m:Int)<=-c:=Int.ediv_le_self _ (by omega);omega
end Go.Proofs.YtknakfpciccoaaaGreatDoor
