import Derived.Test.YtknakfpciccoaaaGreatDoorZC39
import Derived.Deep.CutBlock
/- Chained: the walk. -/
set_option maxHeartbeats 16000000
set_option maxRecDepth 100000
namespace Go.Proofs.YtknakfpciccoaaaGreatDoor
open Go.RowKit
theorem Mf {Tb:World->Prop} (hA:bN Tb) (v1 v2 v3:Value) (n1 n2 n3:Nat) (w:World) (hv1:LJ w v1 n1) (hv2:LJ w v2 n2) (hv3:LJ w v3 n3) (hT:Tb w) :
  Calls Tryz.prog 10 #[v1,v2,v3] w fun e w'=>e=.returned (.bool true)/\Below w.heap.size w w':=by
 have HFi:=ak (Pd hA v1 n1 w hv1 hT);have HT:Hid (∀ w':World,Below w.heap.size w w'->Tb w'):=fun w' hb=>hA.lies w hT w w' hT hb;have HA:=ak hA;obtain ⟨A2,c2,rfl,hn2,hr2⟩:=hv2;obtain ⟨A3,c3,rfl,hn3,hr3⟩:=hv3;have HR2:=ak hr2;have HR3:=ak hr3;have vM:Hid (∀ (c:Int) (w':World),-9223372036854775808<=c->c<=9223372036854775807->Below w.heap.size w w'->Calls Tryz.prog 35 #[.int .i64 c] w' fun e w2=>Below w'.heap.size w' w2/\e=.returned (.string (fE (aT c % 7) (aT c % 1099511627776 / 7)))):=fun c w' h0 h1 h=>TN hA.itoa hA.lies c w' h0 h1 (HT.out _ h);clear hr2 hr3 hv1 hT hA;go_in;go_wp2_with fail;refine HFi.out.mono ?_;rintro e w1 ⟨p,l,rfl,b1,hdo,hl,hst⟩;have HB1:=ak b1;have zl:=ak hst;have HIn:=ak (X5 hdo hl);have Hl:=ak hl;clear b1 hdo hl hst HFi;go_upto_block 0 with fail;go_cut [9,11,12] (fun sp sa sh wx=>∃ (k:Nat) (ps:List (Int×Int)) (u:ByteArray),k<=3/\sp=.string u/\sa=.string u/\sh=.int .i64 k/\Hid (Below w1.heap.size w1 wx)/\Hid (lT ps u/\ps.length=k))
 case first =>
  go_wp2_with fail;go_loopg [9,11,12,13] 3 (fun g up ua ah i wr=>∃ (k:Nat) (ps:List (Int×Int)) (u:ByteArray),g=3 - k/\k<=3/\up=.string u/\ua=.string u/\ah=.int .i64 k/\i=.int .i64 k/\Hid (Below w1.heap.size w1 wr)/\Hid (lT ps u/\ps.length=k))
  case atStart=>exact ⟨0,[],ByteArray.empty,rfl,Nat.zero_le _,rfl,rfl,rfl,rfl,Below.refl _ _,lT.start,rfl⟩
  case round =>
   obtain ⟨k,ps,u,rfl,hk,rfl,rfl,rfl,rfl,HB,HP⟩:=hrel;by_cases hlt:k<n2/\k<3
   ·obtain ⟨h1,h2⟩:=hlt;obtain ⟨b,o,z,hAe,hbl,c1,z0,z1⟩:=HR2.out k h1;subst hAe
    have QD:Hid (∀ w5:World,Below wr.heap.size wr w5->w5.cell? ⟨b,o+k,none⟩=some (.int .i64 z)):=fun w5 hh =>
     ((HB1.out.trans (HB.out.mono HB1.out.size)).trans (hh.mono (HB1.out.trans (HB.out.mono HB1.out.size)).size)).cell (p:=⟨b,_,none⟩) hbl |>.trans c1
    have hsz:=(IK (aT z % 7) (aT z % 1099511627776 / 7) (by omega)).size;have huz:=HP.out.1.size;have mq:Hid (lT (ps++[(aT z % 7,aT z % 1099511627776 / 7)]) (jS u (fE (aT z % 7) (aT z % 1099511627776 / 7)))/\(ps++[(aT z % 7,aT z % 1099511627776 / 7)]).length=k+1):=⟨HP.out.1.snoc (by omega),by rw [List.length_append,HP.out.2];rfl⟩;have HSz:Hid (∀ w':World,Below wr.heap.size wr w'->_):=fun w' hh=>vM.out z w' z0 z1 ((HB1.out.trans (HB.out.mono HB1.out.size)).trans (hh.mono (HB1.out.trans (HB.out.mono HB1.out.size)).size));have HJo:=ak (fun w'=>vX u (fE (aT z % 7) (aT z % 1099511627776 / 7)) w' (by have:=HP.out.2;omega) (by omega));generalize ps++[(aT z % 7,aT z % 1099511627776 / 7)]=ps2 at mq;generalize fE (aT z % 7) (aT z % 1099511627776 / 7)=sk at HSz HJo mq hsz;generalize jS u sk=u2 at HJo mq;have x1:(k:Int)<(n2:Int):=by omega
    have x2:(k:Int)<3:=by omega
    have q1:=QD.out wr (Below.refl _ _);clear c1 z0 z1 h1 h2 hbl hsz huz HP;go_wp2_with fail;refine (HSz.out _ (Below.refl _ _)).mono ?_;rintro e w2 ⟨b2,rfl⟩;have Hb2:=ak b2;have q2:=QD.out w2 b2;clear b2 q1;go_wp2_with fail;refine (HJo.out _).mono ?_;rintro e w2' ⟨rfl,hw⟩;rw [hw];clear hw w2';go_wp2_with fail;refine (HSz.out _ Hb2.out).mono ?_;rintro e w4 ⟨b4,rfl⟩;have Hb4:=ak (HB.out.trans ((Hb2.out.trans (b4.mono Hb2.out.size)).mono HB.out.size));clear b4 q2;go_wp2_with fail;refine (HJo.out _).mono ?_;rintro e w2' ⟨rfl,hw⟩;rw [hw];clear hw w2';go_wp2_with fail;go_roundg (3 - (k+1))
    case rel=>exact ⟨k+1,ps2,u2,rfl,by omega,rfl,rfl,by go_num,by go_num,Hb4,mq⟩
    case measure=>omega
   ·have hx:(¬ (k:Int)<(n2:Int))\/((k:Int)<(n2:Int)/\¬ (k:Int)<3):=by omega
    clear hlt;rcases hx with x1 | ⟨x1,x2⟩
    all_goals
     go_wp2_with fail;go_meet;exact ⟨k,ps,u,hk,rfl,rfl,rfl,HB,HP⟩
 case rest =>
  obtain ⟨k,ps,u,hk,rfl,rfl,rfl,HB,HP⟩:=hcut;clear HR2;go_upto_block 2 with fail;go_cut [10,11] (fun sq sa wx=>∃ (qs:List (Int×Int)) (v ua:ByteArray),sq=.string v/\sa=.string ua/\Hid (Below w1.heap.size w1 wx)/\Hid (lT qs v/\lT (ps++qs) ua/\qs.length<=3))
  case first =>
   go_wp2_with fail;go_loopg [10,11,14] 3 (fun g uq ua i wr=>∃ (j:Nat) (qs:List (Int×Int)) (v a:ByteArray),g=3 - j/\j<=3/\uq=.string v/\ua=.string a/\i=.int .i64 j/\Hid (Below w1.heap.size w1 wr)/\Hid (lT qs v/\lT (ps++qs) a/\qs.length=j))
   case atStart=>exact ⟨0,[],ByteArray.empty,u,rfl,Nat.zero_le _,rfl,rfl,rfl,HB,lT.start,by rw [List.append_nil];exact HP.out.1,rfl⟩
   case round =>
    obtain ⟨j,qs,v,a,rfl,hj,rfl,rfl,rfl,vZ,HQ⟩:=hrel;by_cases hlt:j<n3/\j<3
    ·obtain ⟨h1,h2⟩:=hlt;obtain ⟨b,o,z,hAe,hbl,c1,z0,z1⟩:=HR3.out j h1;subst hAe
     have QD:Hid (∀ w5:World,Below wr.heap.size wr w5->w5.cell? ⟨b,o+j,none⟩=some (.int .i64 z)):=fun w5 hh =>
      ((HB1.out.trans (vZ.out.mono HB1.out.size)).trans (hh.mono (HB1.out.trans (vZ.out.mono HB1.out.size)).size)).cell (p:=⟨b,_,none⟩) hbl |>.trans c1
     have hsz:=(IK (aT z % 7) (aT z % 1099511627776 / 7) (by omega)).size;have hvz:=HQ.out.1.size;have haz:=HQ.out.2.1.size;have hlz:(ps++qs).length<=6:=by rw [List.length_append,HP.out.2,HQ.out.2.2];omega
     have zT:Hid (lT (qs++[(aT z % 7,aT z % 1099511627776 / 7)]) (jS v (fE (aT z % 7) (aT z % 1099511627776 / 7)))/\lT (ps++(qs++[(aT z % 7,aT z % 1099511627776 / 7)])) (jS a (fE (aT z % 7) (aT z % 1099511627776 / 7)))/\(qs++[(aT z % 7,aT z % 1099511627776 / 7)]).length=j+1):=⟨HQ.out.1.snoc (by omega),by rw [<- List.append_assoc];exact HQ.out.2.1.snoc (by omega),by rw [List.length_append,HQ.out.2.2];rfl⟩;have HSz:Hid (∀ w':World,Below wr.heap.size wr w'->_):=fun w' hh=>vM.out z w' z0 z1 ((HB1.out.trans (vZ.out.mono HB1.out.size)).trans (hh.mono (HB1.out.trans (vZ.out.mono HB1.out.size)).size));have HJv:=ak (fun w'=>vX v (fE (aT z % 7) (aT z % 1099511627776 / 7)) w' (by have:=HQ.out.2.2;omega) (by omega));have HJa:=ak (fun w'=>vX a (fE (aT z % 7) (aT z % 1099511627776 / 7)) w' (by omega) (by omega));generalize qs++[(aT z % 7,aT z % 1099511627776 / 7)]=qs2 at zT;generalize fE (aT z % 7) (aT z % 1099511627776 / 7)=sk at HSz HJv HJa zT hsz;generalize jS v sk=v2 at HJv zT;generalize jS a sk=a2 at HJa zT;have x1:(j:Int)<(n3:Int):=by omega
     have x2:(j:Int)<3:=by omega
     have q1:=QD.out wr (Below.refl _ _);clear c1 z0 z1 h1 h2 hbl hsz hvz haz hlz HQ HB HP;go_wp2_with fail;refine (HSz.out _ (Below.refl _ _)).mono ?_;rintro e w2 ⟨b2,rfl⟩;have Hb2:=ak b2;have q2:=QD.out w2 b2;clear b2 q1;go_wp2_with fail;refine (HJv.out _).mono ?_;rintro e w2' ⟨rfl,hw⟩;rw [hw];clear hw w2';go_wp2_with fail;refine (HSz.out _ Hb2.out).mono ?_;rintro e w4 ⟨b4,rfl⟩;have Hb4:=ak (vZ.out.trans ((Hb2.out.trans (b4.mono Hb2.out.size)).mono vZ.out.size));clear b4 q2;go_wp2_with fail;refine (HJa.out _).mono ?_;rintro e w2' ⟨rfl,hw⟩;rw [hw];clear hw w2';go_wp2_with fail;go_roundg (3 - (j+1))
     case rel=>exact ⟨j+1,qs2,v2,a2,rfl,by omega,rfl,rfl,by go_num,Hb4,zT⟩
     case measure=>omega
    ·have hx:(¬ (j:Int)<(n3:Int))\/((j:Int)<(n3:Int)/\¬ (j:Int)<3):=by omega
     have HQ3:Hid (lT qs v/\lT (ps++qs) a/\qs.length<=3):=⟨HQ.out.1,HQ.out.2.1,by have:=HQ.out.2.2;omega⟩;clear hlt HB HP HQ;rcases hx with x1 | ⟨x1,x2⟩
     all_goals
      go_wp2_with fail;go_meet;exact ⟨qs,v,a,rfl,rfl,vZ,HQ3⟩
  case rest =>
   obtain ⟨qs,v,a,rfl,rfl,UZ,HQ⟩:=hcut;clear HB HR3 vM;obtain ⟨f1,f2,f3,f4,f5,f6,f7,f8,hr1,hr2,hcase⟩:=aap (ps:=ps) (qs:=qs) (by rw [HP.out.2];exact hk) HQ.out.2.2 HIn.out;have huz:=HP.out.1.size;have hvz:=HQ.out.1.size;have haz:=HQ.out.2.1.size;have hlz:(ps++qs).length<=6:=by rw [List.length_append,HP.out.2];have:=HQ.out.2.2;omega
   have hqz:=HQ.out.2.2;have hpz:=HP.out.2;obtain ⟨s1,e1,z1,r1⟩:=aD ⟨#[91]⟩ u 1 u.size rfl rfl (by omega);obtain ⟨s2,e2,z2,r2⟩:=aD s1 ⟨#[93]⟩ s1.size 1 rfl rfl (by omega);obtain ⟨t1,e3,z3,r3⟩:=aD ⟨#[91]⟩ a 1 a.size rfl rfl (by omega);obtain ⟨t2,e4,z4,r4⟩:=aD t1 ⟨#[93]⟩ t1.size 1 rfl rfl (by omega);obtain ⟨y1,e5,z5,r5⟩:=aD ⟨#[91]⟩ v 1 v.size rfl rfl (by omega);obtain ⟨y2,e6,z6,r6⟩:=aD y1 ⟨#[93]⟩ y1.size 1 rfl rfl (by omega);have HT2:Hid (∀ w2:World,Below w1.heap.size w1 w2->Tb w2):=fun w2 hb=>HT.out _ (HB1.out.trans (hb.mono HB1.out.size));have HR1:Hid (∀ w2:World,Below w1.heap.size w1 w2->_):=fun w2 hb=>AO HA.out (zl.out.keep hb) nX (by decide) (QM _ _) (by have:=Hl.out;omega) HP.out.1 (by omega) hr1 (HT2.out _ hb) (s:=s2) (by rw [e2,e1]);have HR2:Hid (∀ w2:World,Below w1.heap.size w1 w2->_):=fun w2 hb=>AO HA.out (zl.out.keep hb) nX (by decide) (QM _ _) (by have:=Hl.out;omega) HQ.out.2.1 hlz hr2 (HT2.out _ hb) (s:=t2) (by rw [e4,e3]);have HR3:Hid (∀ w2:World,Below w1.heap.size w1 w2->_):=fun w2 hb=>AO HA.out (zl.out.keep hb) nY (by decide) (abb _ _) (by have:=Hl.out;omega) HQ.out.2.1 hlz hr2 (HT2.out _ hb) (s:=t2) (by rw [e4,e3]);have Hy:Hid (y2=(⟨#[91]⟩++v)++⟨#[93]⟩):=by show _=_;rw [e6,e5]
   have HQv:=ak HQ.out.1;clear e1 z1 e2 z2 e3 z3 e4 z4 e5 z5 e6 z6 huz hvz haz hlz hr1 hr2 HQ HP;rcases hcase with ⟨rfl,rfl,rfl,rfl,rfl⟩ | ⟨rfl,r,a3,hr,rfl,hq,ha3,hend⟩
   ·go_wp2_with fail;refine (HR1.out _ UZ.out).mono ?_;rintro e w2 ⟨b2,A1,c1,rfl,ht1⟩;have HB2:=ak (UZ.out.trans (b2.mono UZ.out.size));clear b2 ht1 HR1;go_wp2_with fail;refine (HR2.out _ HB2.out).mono ?_;rintro e w3 ⟨b3,A2,c2,rfl,ht2⟩;have HB3:=ak (HB2.out.trans (b3.mono HB2.out.size));have af9:=ak ht2;clear b3 ht2 HR2;go_wp2_with fail;refine (HR3.out _ HB3.out).mono ?_;rintro e w4 ⟨b4,A3',c3',rfl,ht3⟩;have bT:=ak (HB3.out.trans (b4.mono HB3.out.size));have Ub:=ak (oV _ _ _ w4 (af9.out.at.keep b4) ht3.at);clear b4 ht3 HR3 af9;go_wp2_with fail;refine Ub.out.mono ?_;rintro e w5 ⟨rfl,b5⟩;have eF:=ak (HB1.out.trans ((bT.out.trans (b5.mono bT.out.size)).mono HB1.out.size));clear b5 Ub;go_wp2_with fail;go_ret;exact ⟨rfl,eF.out⟩
   ·obtain ⟨hf5,abk⟩:IntKind.i64.wrap ((a3:Int)+(k:Int))=((a3+k:Nat):Int)/\((f7=15/\f5=a3+k)\/(f7=0/\f5=0/\a3=0)):=by
     rw [hpz] at hend;exact ⟨by rw [IntKind.wrap_i64];omega,hend⟩
    obtain ⟨rn,hrn⟩:∃ rn,r.length=rn:=⟨_,rfl⟩;have hX1:(r.map qY).length=rn:=by rw [List.length_map];exact hrn
    have Hr:=ak hr;have Hq:=ak hq;have Hqz:=ak hqz;have Hrn:=ak hrn;have HX:Hid (∀ i,(h:i<rn)->∃ d,d ∈ r/\r.take (i+1)=r.take i++[d]/\∀ h',(r.map qY)[i]'h'=qY d):=fun i hi=>⟨r[i]'(by rw [hrn];exact hi),List.getElem_mem _,by rw [List.take_add_one,List.getElem?_eq_getElem (by rw [hrn];exact hi)];rfl,fun h'=>List.getElem_map ..⟩;have hrl:rn<=30:=by rw [<- hrn];exact hr.len
    generalize r.map qY=X1 at HX HR1 hX1;rw [hX1] at HR1;obtain ⟨m2,hm2⟩:∃ m2,f8.length=m2:=⟨_,rfl⟩;rw [hm2] at HR2 HR3;have Hm2:=ak hm2;clear hend hpz hr hq hqz hrn hX1 hm2
    have hgo:(f7=15/\IntKind.i64.wrap ((a3:Int)+(k:Int))=(f5:Int))\/(f7=0/\f5=0/\a3=0):=by
     rcases abk with ⟨h1,h2⟩ | h
     ·exact .inl ⟨h1,by rw [h2];exact hf5⟩
     ·exact .inr h
    clear hf5 abk;rcases hgo with ⟨rfl,hf5⟩ | ⟨rfl,rfl,rfl⟩
    all_goals
     go_wp2_with fail;refine (HR1.out _ UZ.out).mono ?_;rintro e w2 ⟨b2,A1,c1,rfl,ht1⟩;have HB2:=ak (UZ.out.trans (b2.mono UZ.out.size));have Pj:=ak (ht1.keep (lo':=w1.heap.size) (hi':=w2.heap.size) (Below.refl _ _) UZ.out.size (Nat.le_refl _) (Nat.le_refl _));clear b2 ht1 HR1;go_wp2_with fail;refine (HR2.out _ HB2.out).mono ?_;rintro e w3 ⟨b3,A2,c2,rfl,ht2⟩;have HB3:=ak (HB2.out.trans (b3.mono HB2.out.size));have Pj:=ak (Pj.out.keep (lo':=w1.heap.size) (hi':=w3.heap.size) b3 (Nat.le_refl _) b3.size (Nat.le_refl _));have Pk:=ak (ht2.keep (lo':=w1.heap.size) (hi':=w3.heap.size) (Below.refl _ _) HB2.out.size (Nat.le_refl _) (Nat.le_refl _));clear b3 ht2 HR2;go_wp2_with fail;refine (HR3.out _ HB3.out).mono ?_;rintro e w4 ⟨b4,A3',c3',rfl,ht3⟩;have bT:=ak (HB3.out.trans (b4.mono HB3.out.size));have Hb4:=ak b4;have Ub:=ak (oV _ _ _ w4 (Pk.out.at.keep b4) ht3.at);clear b4 ht3 HR3;go_wp2_with fail;refine Ub.out.mono ?_;rintro e w5 ⟨rfl,b5⟩;have eF:=ak (bT.out.trans (b5.mono bT.out.size));have Hb5:=ak (Hb4.out.trans (b5.mono Hb4.out.size));have Pj:=ak (Pj.out.keep (lo':=w1.heap.size) (hi':=w5.heap.size) Hb5.out (Nat.le_refl _) Hb5.out.size (Nat.le_refl _));have Pk:=ak (Pk.out.keep (lo':=w1.heap.size) (hi':=w5.heap.size) Hb5.out (Nat.le_refl _) Hb5.out.size (Nat.le_refl _));have HSq:=ak ((zl.out.free w5.heap.size).keep eF.out);have wO:=ak (HB1.out.trans (eF.out.mono HB1.out.size));clear b5 Ub Hb4 Hb5 HB2 HB3 bT
     have HCr:=ak (Ld HSq.out (fun b hb=>⟨by have:=wO.out.size;omega,by omega⟩) nZ (by decide) (by omega) (by kernel_rfl) (CP _ _ (by decide) (by decide)));go_wp2_with fail;refine HCr.out.mono ?_;rintro e w6 ⟨rfl,k6,s6⟩;have iN:=ak (wO.out.trans (k6.low wO.out.size));have Pj:=ak (Pj.out.free k6 k6.size);have Pk:=ak (Pk.out.free k6 k6.size);have zZ:Hid (QC (zD w.heap.size w1.heap.size w5.heap.size) w6 p 3 (zF l [])):=s6;have Zd:=ak k6.size;clear k6 s6 HCr HSq;generalize w5.heap.size=hi at Pj Pk zZ Zd;go_upto_block 4 with fail;go_cut [] (fun wx=>Hid (Below w.heap.size w wx)/\Hid (QC (zD w.heap.size w1.heap.size hi) wx p 3 (zF l r))/\Hid (I8 w1.heap.size hi wx (.slice A2 m2 c2) f8))
     case first =>
      go_wp2_with fail;go_loopg [29] rn (fun g i wr=>∃ j:Nat,g=rn - j/\j<=rn/\i=.int .i64 j/\Hid (Below w.heap.size w wr)/\Hid (QC (zD w.heap.size w1.heap.size hi) wr p 3 (zF l (r.take j)))/\Hid (I8 w1.heap.size hi wr (.slice A1 rn c1) X1)/\Hid (I8 w1.heap.size hi wr (.slice A2 m2 c2) f8)/\Hid (hi<=wr.heap.size))
      case atStart=>exact ⟨0,rfl,Nat.zero_le _,rfl,iN,zZ,Pj,Pk,Zd⟩
      case round =>
       clear iN zZ Pj Pk Zd;obtain ⟨j,rfl,hj,rfl,vZ,HSr,Pj,Pk,Zd⟩:=hrel;by_cases hlt:j<rn
       ·obtain ⟨d,hd,htk,hget⟩:=HX.out j hlt;obtain ⟨i1,i2,i3⟩:=aiS Hr.out hd;obtain ⟨A,c,hAv,_,hcell⟩:=Pj.out;simp only [Value.slice.injEq] at hAv;obtain ⟨rfl,hln,rfl⟩:=hAv;obtain ⟨b,o,rfl,_,_,_,q⟩:=hcell j (by omega);rw [hget] at q;have HSn:Hid (QC (zD w.heap.size w1.heap.size hi) wr p 3 (zF l (r.take j))/\r.take (j+1)=r.take j++[tJ (qY d)]):=⟨HSr.out,by rw [i1];exact htk⟩;have aaq:=ak (Le HA.out HSr.out (fun b hb=>⟨by have:=vZ.out.size;omega,by have:=Zd.out;omega⟩) nZ (qY d) (r.take j) (by decide) (by omega) (QY _ _) i3 (by rw [List.length_take];omega) (HT.out _ vZ.out));generalize qY d=sd at q aaq HSn;have x1:(j:Int)<(rn:Int):=by omega
        clear hd htk hget i1 i2 i3 hcell hln HSr;go_wp2_with fail;refine aaq.out.mono ?_;rintro e w7 ⟨k7,⟨rfl,s7⟩ | ⟨er,her,rfl,_⟩⟩
        ·rw [TP,<- HSn.out.2] at s7;have oF:=ak (vZ.out.trans (k7.low vZ.out.size));have Xo:=ak s7;have Hs7:=ak (Nat.le_trans Zd.out k7.size);have Pj:=ak (Pj.out.free k7 Hs7.out);have Pk:=ak (Pk.out.free k7 Hs7.out);clear k7 s7 aaq HSn q;go_wp2_with fail;go_roundg (rn - (j+1))
         case rel=>exact ⟨j+1,rfl,by omega,by go_num,oF,Xo,Pj,Pk,Hs7⟩
         case measure=>omega
        ·have oF:=ak (vZ.out.trans (k7.low vZ.out.size));clear k7 aaq HSn q;rcases her with rfl | rfl
         all_goals
          go_wp2_with fail;go_ret;exact ⟨rfl,oF.out⟩
       ·obtain rfl:j=rn:=by omega
        have x1:¬ (j:Int)<(j:Int):=by omega
        rw [<- Hrn.out,List.take_length] at HSr;clear hlt;go_wp2_with fail;go_meet;exact ⟨vZ,HSr,Pk⟩
     case rest =>
      obtain ⟨oF,Xo,Pk⟩:=hcut;clear iN zZ Pj Zd HX;have HRz:=ak (AO HA.out Xo.out.st nZ (by decide) (QY _ _) (by have:=Hrn.out;omega) HQv.out (by have:=Hqz.out;omega) Hq.out (HT.out _ oF.out) Hy.out);rw [Hm2.out] at HRz;go_wp2_with fail;refine HRz.out.mono ?_;rintro e w8 ⟨b8,A8,c8,rfl,ht8⟩;have QE:=ak (oF.out.trans (b8.mono oF.out.size));have Ub:=ak (oV _ _ _ w8 ht8.at (Pk.out.at.keep b8));clear b8 ht8 HRz;go_wp2_with fail;refine Ub.out.mono ?_;rintro e w9 ⟨rfl,b9⟩;have Yv:=ak (QE.out.trans (b9.mono QE.out.size));clear b9 Ub;go_wp2_with fail;go_ret;exact ⟨rfl,Yv.out⟩
end Go.Proofs.YtknakfpciccoaaaGreatDoor
