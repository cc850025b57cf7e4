import Derived.Test.YtknakfpciccoaaaGreatDoorZC37
import Derived.Test.YtknakfpciccoaaaGreatDoorZC38
import Derived.Test.YtknakfpciccoaaaGreatDoorZC26
import Derived.Test.YtknakfpciccoaaaGreatDoorZC25
import Derived.Test.YtknakfpciccoaaaGreatDoorZC16
import Derived.Test.YtknakfpciccoaaaGreatDoorZC1
import Derived.BigQuiet
import Derived.WalkSmall
/- The walk of a law's stage. -/
set_option maxHeartbeats 8000000
set_option maxRecDepth 100000
namespace Go.Proofs.YtknakfpciccoaaaGreatDoor
open Go.RowKit
theorem TN {Tb:World->Prop} (hI:bf Tb) (hL:aV Tb) (c:Int) (w:World) (h0:-9223372036854775808<=c) (h1:c<=9223372036854775807) (hT:Tb w) :
  Calls Tryz.prog 35 #[.int .i64 c] w fun e w'=>Below w.heap.size w w'/\e=.returned (.string (fE (aT c % 7) (aT c % 1099511627776 / 7))):=by
 have oZ:=ak (fun w=>fA c 1099511627776 w h0 h1 (by omega) (by omega));have mq:=ak (fun w=>fA c 7 w h0 h1 (by omega) (by omega));have HT:Hid (∀ w':World,Below w.heap.size w w'->Tb w'):=fun w' hb=>hL w hT w w' hT hb;have hT0:=ak hT;have hb:=tX h0 h1;obtain ⟨P,hP⟩:∃ P,aT c % 1099511627776=P:=⟨_,rfl⟩;obtain ⟨k,hk⟩:∃ k,aT c % 7=k:=⟨_,rfl⟩;have p0:0<=P:=by omega
 have p1:P<=1099511627776:=by omega
 have k0:0<=k:=by omega
 have k1:k<7:=by omega
 rw [hP] at oZ ⊢;rw [hk] at mq ⊢;clear h0 h1 hb hP hk;have RQ:Hid (∀ w:World,Tb w->Calls Tryz.prog 26 #[.int .i64 (P / 7),.int .i64 (P / 7 / 50)] w fun e w'=>Below w.heap.size w w'/\e=.returned (.string (sV (P / 7) (P / 7 / 50)))):=fun w ht=>KU hI hL (P / 7) (P / 7 / 50) w (by omega) (by omega) (by omega) (by omega) ht;have hzf:(sV (P / 7) (P / 7 / 50)).size<=150:=((sW (P / 7) (P / 7 / 50)).rep 12 (by omega) (by omega)).size;have KT:=ak (fun w=>KP (P / 7) w (by omega) (by omega));have hpk:=uh (P / 7);have hzp:=O4 hpk;have SG:=ak (fun w=>vP (rH (gV (P / 7))) w (by omega));have HV:Hid (∀ w:World,Tb w->Calls Tryz.prog 21 #[.int .i64 (P / 7 / 6)] w (sS (P / 7 / 6) w)):=fun w ht=>uj hI hL (P / 7 / 6) w (by omega) (by omega) ht;have Vi:Hid (∀ (m:Int) (w:World),0<=m->m<30->Tb w->Calls Tryz.prog 54 #[.int .i64 m] w fun e w'=>e=.returned (.string (bP (Lib.itoa m)))/\Below w.heap.size w w'):=fun m w q1 q2 ht=>hI m w (by omega) (by omega) ht;clear hI hL hT;obtain h | h | h | h | h | h | h:k=0\/k=1\/k=2\/k=3\/k=4\/k=5\/k=6:=by omega
 ·subst h;obtain ⟨fs,hfs⟩:∃ fs,sV (P / 7) (P / 7 / 50)=fs:=⟨_,rfl⟩;obtain ⟨a1,e1,z1,r1⟩:=aD ⟨#[123,34,36,109,97,116,99,104,34,58]⟩ fs 10 fs.size rfl rfl (by rw [<- hfs];omega);obtain ⟨a2,e2,z2,r2⟩:=aD a1 ⟨#[125]⟩ a1.size 1 rfl rfl (by rw [z1,<- hfs];omega);have HE:Hid (a2=fE 0 (P / 7)):=by show _=_;rw [fE,if_pos rfl];rw [e2,e1,hfs]
  rw [hfs] at RQ;clear e1 z1 e2 z2 hfs hzf KT SG HV Vi hpk hzp k0 k1;go_in;go_wp2_with fail;refine (oZ.out w).mono ?_;rintro e w ⟨rfl,rfl⟩;go_wp2_with fail;refine (mq.out _).mono ?_;rintro e w ⟨rfl,rfl⟩;go_wp2_with fail;refine (RQ.out _ hT0.out).mono ?_;rintro e w1 ⟨b1,rfl⟩;have HB1:=ak b1;clear b1;go_wp2_with fail;go_ret;exact ⟨HB1.out,by rw [HE.out];rfl⟩
 ·subst h;obtain ⟨px,hpx⟩:∃ px,rH (gV (P / 7))=px:=⟨_,rfl⟩;obtain ⟨sv,hsv⟩:∃ sv,mQ (P / 7 / 6)=sv:=⟨_,rfl⟩;have hzv:sv.size<=10:=by obtain ⟨i,hi,hiv⟩:=pR (P / 7 / 6);rw [<- hsv,hiv];exact lV hi
  obtain ⟨a1,e1,z1,r1⟩:=aD ⟨#[123,34,36,112,114,111,106,101,99,116,34,58,123,34,95,105,100,34,58,34,36,95,105,100,34,44,34,97,34,58,34,36]⟩ px 32 px.size rfl rfl (by rw [<- hpx];omega);obtain ⟨a2,e2,z2,r2⟩:=aD a1 ⟨#[34,44,34,99,34,58,123,34,36,108,105,116,34,58]⟩ a1.size 14 rfl rfl (by rw [z1,<- hpx];omega);obtain ⟨a3,e3,z3,r3⟩:=aD a2 sv a2.size sv.size rfl rfl (by rw [z2,z1,<- hpx];omega);obtain ⟨a4,e4,z4,r4⟩:=aD a3 ⟨#[125,125,125]⟩ a3.size 3 rfl rfl (by rw [z3,z2,z1,<- hpx];omega);have HE:Hid (a4=fE 1 (P / 7)):=by show _=_;rw [fE,if_neg (by decide),if_pos rfl];rw [e4,e3,e2,e1,hpx,hsv]
  have HVs:Hid (∀ w:World,Tb w->Calls Tryz.prog 21 #[.int .i64 (P / 7 / 6)] w fun e w'=>e=.returned (.string sv)/\Below w.heap.size w w'):=fun w ht=>(HV.out w ht).mono fun e w' hh=>by obtain ⟨s,⟨_,hs⟩,he,hb⟩:=hh;rw [hsv] at hs;subst hs;exact ⟨he,hb⟩
  rw [hpx] at KT;clear e1 z1 e2 z2 e3 z3 e4 z4 hpx hsv hzv hzf RQ SG HV Vi hpk hzp k0 k1;go_in;go_wp2_with fail;refine (oZ.out w).mono ?_;rintro e w ⟨rfl,rfl⟩;go_wp2_with fail;refine (mq.out _).mono ?_;rintro e w ⟨rfl,rfl⟩;go_wp2_with fail;refine (KT.out _).mono ?_;rintro e w1 ⟨rfl,b1⟩;have HB1:=ak b1;clear b1;go_wp2_with fail;refine (HVs.out _ (HT.out _ HB1.out)).mono ?_;rintro e w3 ⟨rfl,b3⟩;have HB3:=ak (HB1.out.trans (b3.mono HB1.out.size));clear b3;go_wp2_with fail;go_ret;exact ⟨HB3.out,by rw [HE.out];rfl⟩
 ·subst h;obtain ⟨px,hpx⟩:∃ px,rH (gV (P / 7))=px:=⟨_,rfl⟩;rw [hpx] at KT SG hzp;obtain ⟨qp,hqp⟩:∃ qp,(⟨#[34]⟩++px)++⟨#[34]⟩=qp:=⟨_,rfl⟩;rw [hqp] at SG
  have hzq:qp.size<=12:=by
   rw [<- hqp,ByteArray.size_append,ByteArray.size_append];show 1+px.size+1<=_;omega
  have qw:Hid (Below w.heap.size w w.drew):=au w;have vZ:Hid (Below w.heap.size w (w.drew.alloc (.cells #[.string ⟨#[49]⟩,.string ⟨#[45,49]⟩] 9))):=qw.out.trans ((aY _ _).mono qw.out.size)
  have jX:Hid (∀ w4:World,Below (w.drew.alloc (.cells #[.string ⟨#[49]⟩,.string ⟨#[45,49]⟩] 9)).heap.size (w.drew.alloc (.cells #[.string ⟨#[49]⟩,.string ⟨#[45,49]⟩] 9)) w4->w4.cell? ⟨w.heap.size,0,none⟩=some (.string ⟨#[49]⟩)/\w4.cell? ⟨w.heap.size,1,none⟩=some (.string ⟨#[45,49]⟩)):=fun w4 hb=>by
   have hlt:w.heap.size<(w.drew.alloc (.cells #[.string ⟨#[49]⟩,.string ⟨#[45,49]⟩] 9)).heap.size:=by simp
   refine ⟨?_,?_⟩
   all_goals
    rw [hb.cell (p:=⟨w.heap.size,_,none⟩) hlt];simp [go_sem]
  obtain ⟨sg,hsg⟩:∃ sg:ByteArray,(if P / 7 / 6 % 2=0 then (⟨#[49]⟩:ByteArray) else ⟨#[45,49]⟩)=sg:=⟨_,rfl⟩
  have hsx:(P / 7 / 6 % 2=0/\sg=⟨#[49]⟩)\/(P / 7 / 6 % 2=1/\sg=⟨#[45,49]⟩):=by
   rw [<- hsg];rcases (by omega:P / 7 / 6 % 2=0\/P / 7 / 6 % 2=1) with q | q<;>rw [q]<;>simp
  have hzs:sg.size<=2:=by rcases hsx with ⟨_,h⟩ | ⟨_,h⟩<;>rw [h]<;>decide
  obtain ⟨a1,e1,z1,r1⟩:=aD ⟨#[123,34,36,115,111,114,116,34,58,123]⟩ qp 10 qp.size rfl rfl (by omega);obtain ⟨a2,e2,z2,r2⟩:=aD a1 ⟨#[58]⟩ a1.size 1 rfl rfl (by omega);obtain ⟨a3,e3,z3,r3⟩:=aD a2 sg a2.size sg.size rfl rfl (by omega);obtain ⟨a4,e4,z4,r4⟩:=aD a3 ⟨#[125,125]⟩ a3.size 2 rfl rfl (by omega)
  have HE:Hid (a4=fE 2 (P / 7)):=by
   show _=_;rw [fE,if_neg (by decide),if_neg (by decide),if_pos rfl];rw [hsg,e4,e3,e2,e1,aad,hpx,hqp]
  have hr1:IntKind.i64.wrap ((P / 7).tdiv 6)=P / 7 / 6:=by rw [Int.tdiv_eq_ediv_of_nonneg (by omega),IntKind.wrap_i64];omega
  have hr2:(P / 7 / 6).tmod 2=P / 7 / 6 % 2:=Int.tmod_eq_emod_of_nonneg (by omega);clear e1 z1 e2 z2 e3 z3 e4 z4 hpx hzf RQ HV Vi hpk hzp k0 k1 hqp hzq hsg hzs;obtain ⟨q,rfl⟩ | ⟨q,rfl⟩:=hsx
  all_goals
   rw [q] at hr2;clear q;go_in;go_wp2_with fail;refine (oZ.out w).mono ?_;rintro e w ⟨rfl,rfl⟩;go_wp2_with fail;refine (mq.out _).mono ?_;rintro e w ⟨rfl,rfl⟩;go_wp2_with fail;go_region_law (first | (go_simp;go_wp2_with (go_at_call 29;refine (KT.out _).mono ?_;rintro e4 w4 ⟨rfl,b4⟩;(first | (obtain ⟨x0,x1⟩:=jX.out w4 b4;have bT:=ak (vZ.out.trans (b4.mono vZ.out.size))) | (have bT:=ak (qw.out.trans (b4.mono qw.out.size))));have mV:=ak trivial;clear b4);clear mV) | (go_simp;go_wp2_with (go_at_call 28;refine (SG.out _).mono ?_;rintro e5 w5 ⟨rfl,hw5⟩;rw [hw5];clear hw5;have mV:=ak trivial);clear mV))
   all_goals
    go_wp2_with fail;go_ret
    first
     | exact ⟨bT.out,by rw [HE.out];rfl⟩
     | exact ⟨bT.out.trans ((aY _ _).mono bT.out.size),by rw [HE.out];rfl⟩
 ·subst h;obtain ⟨m,hm⟩:∃ m,P / 7 % 6=m:=⟨_,rfl⟩;have m0:0<=m:=by omega
  have m1:m<30:=by omega
  obtain ⟨is,his⟩:∃ x,bP (Lib.itoa m)=x:=⟨_,rfl⟩;have hzi:is.size<=2:=by rw [<- his];exact yE m0 m1
  have HI:=ak (fun w ht=>Vi.out m w m0 m1 ht);rw [his] at HI;obtain ⟨a1,e1,z1,r1⟩:=aD ⟨#[123,34,36,115,107,105,112,34,58]⟩ is 9 is.size rfl rfl (by omega);obtain ⟨a2,e2,z2,r2⟩:=aD a1 ⟨#[125]⟩ a1.size 1 rfl rfl (by omega);have HE:Hid (a2=fE 3 (P / 7)):=by show _=_;rw [fE,if_neg (by decide),if_neg (by decide),if_neg (by decide),if_pos rfl];rw [e2,e1,hm,his]
  clear e1 z1 e2 z2 his hzi hzf RQ KT SG HV Vi hpk hzp k0 k1;go_in;go_wp2_with fail;refine (oZ.out w).mono ?_;rintro e w ⟨rfl,rfl⟩;go_wp2_with fail;refine (mq.out _).mono ?_;rintro e w ⟨rfl,rfl⟩;go_wp2_with fail;refine (HI.out _ hT0.out).mono ?_;rintro e w1 ⟨rfl,b1⟩;have HB1:=ak b1;clear b1;go_wp2_with fail;go_ret;exact ⟨HB1.out,by rw [HE.out];rfl⟩
 ·subst h;obtain ⟨m,hm⟩:∃ m,P / 7 % 20=m:=⟨_,rfl⟩;have m0:0<=m:=by omega
  have m1:m<30:=by omega
  obtain ⟨is,his⟩:∃ x,bP (Lib.itoa m)=x:=⟨_,rfl⟩;have hzi:is.size<=2:=by rw [<- his];exact yE m0 m1
  have HI:=ak (fun w ht=>Vi.out m w m0 m1 ht);rw [his] at HI;obtain ⟨a1,e1,z1,r1⟩:=aD ⟨#[123,34,36,108,105,109,105,116,34,58]⟩ is 10 is.size rfl rfl (by omega);obtain ⟨a2,e2,z2,r2⟩:=aD a1 ⟨#[125]⟩ a1.size 1 rfl rfl (by omega);have HE:Hid (a2=fE 4 (P / 7)):=by show _=_;rw [fE,if_neg (by decide),if_neg (by decide),if_neg (by decide),if_neg (by decide),if_pos rfl];rw [e2,e1,hm,his]
  clear e1 z1 e2 z2 his hzi hzf RQ KT SG HV Vi hpk hzp k0 k1;go_in;go_wp2_with fail;refine (oZ.out w).mono ?_;rintro e w ⟨rfl,rfl⟩;go_wp2_with fail;refine (mq.out _).mono ?_;rintro e w ⟨rfl,rfl⟩;go_wp2_with fail;refine (HI.out _ hT0.out).mono ?_;rintro e w1 ⟨rfl,b1⟩;have HB1:=ak b1;clear b1;go_wp2_with fail;go_ret;exact ⟨HB1.out,by rw [HE.out];rfl⟩
 ·subst h;obtain ⟨fs,hfs⟩:∃ fs,sV (P / 7) (P / 7 / 50)=fs:=⟨_,rfl⟩;obtain ⟨a1,e1,z1,r1⟩:=aD ⟨#[123,34,36,112,114,111,106,101,99,116,34,58,123,34,97,34,58,123,34,36,105,102,34,58,91]⟩ fs 25 fs.size rfl rfl (by rw [<- hfs];omega);obtain ⟨a2,e2,z2,r2⟩:=aD a1 ⟨#[44,34,36,97,34,44,123,34,36,108,105,116,34,58,91,49,44,50,93,125,93,125,44,34,99,34,58,34,36,99,34,125,125]⟩ a1.size 33 rfl rfl (by rw [z1,<- hfs];omega);have HE:Hid (a2=fE 5 (P / 7)):=by show _=_;rw [fE,if_neg (by decide),if_neg (by decide),if_neg (by decide),if_neg (by decide),if_neg (by decide),if_pos rfl];rw [e2,e1,hfs]
  rw [hfs] at RQ;clear e1 z1 e2 z2 hfs hzf KT SG HV Vi hpk hzp k0 k1;go_in;go_wp2_with fail;refine (oZ.out w).mono ?_;rintro e w ⟨rfl,rfl⟩;go_wp2_with fail;refine (mq.out _).mono ?_;rintro e w ⟨rfl,rfl⟩;go_wp2_with fail;refine (RQ.out _ hT0.out).mono ?_;rintro e w1 ⟨b1,rfl⟩;have HB1:=ak b1;clear b1;go_wp2_with fail;go_ret;exact ⟨HB1.out,by rw [HE.out];rfl⟩
 ·subst h;obtain ⟨px,hpx⟩:∃ px,rH (gV (P / 7))=px:=⟨_,rfl⟩;rw [hpx] at KT SG hzp;have qw:Hid (Below w.heap.size w w.drew):=au w;have vZ:Hid (Below w.heap.size w (w.drew.alloc (.cells #[.string ⟨#[109,105,110]⟩,.string ⟨#[109,97,120]⟩,.string ⟨#[102,105,114,115,116]⟩,.string ⟨#[108,97,115,116]⟩] 9))):=qw.out.trans ((aY _ _).mono qw.out.size)
  have jX:Hid (∀ w4:World,Below (w.drew.alloc (.cells #[.string ⟨#[109,105,110]⟩,.string ⟨#[109,97,120]⟩,.string ⟨#[102,105,114,115,116]⟩,.string ⟨#[108,97,115,116]⟩] 9)).heap.size (w.drew.alloc (.cells #[.string ⟨#[109,105,110]⟩,.string ⟨#[109,97,120]⟩,.string ⟨#[102,105,114,115,116]⟩,.string ⟨#[108,97,115,116]⟩] 9)) w4->w4.cell? ⟨w.heap.size,0,none⟩=some (.string ⟨#[109,105,110]⟩)/\w4.cell? ⟨w.heap.size,1,none⟩=some (.string ⟨#[109,97,120]⟩)/\w4.cell? ⟨w.heap.size,2,none⟩=some (.string ⟨#[102,105,114,115,116]⟩)/\w4.cell? ⟨w.heap.size,3,none⟩=some (.string ⟨#[108,97,115,116]⟩)):=fun w4 hb=>by
   have hlt:w.heap.size<(w.drew.alloc (.cells #[.string ⟨#[109,105,110]⟩,.string ⟨#[109,97,120]⟩,.string ⟨#[102,105,114,115,116]⟩,.string ⟨#[108,97,115,116]⟩] 9)).heap.size:=by simp
   refine ⟨?_,?_,?_,?_⟩
   all_goals
    rw [hb.cell (p:=⟨w.heap.size,_,none⟩) hlt];simp [go_sem]
  obtain ⟨sg,hsg⟩:∃ sg:ByteArray,(if P / 7 / 6 % 4=0 then (⟨#[109,105,110]⟩:ByteArray) else if P / 7 / 6 % 4=1 then ⟨#[109,97,120]⟩ else if P / 7 / 6 % 4=2 then ⟨#[102,105,114,115,116]⟩ else ⟨#[108,97,115,116]⟩)=sg:=⟨_,rfl⟩
  have hsx:(P / 7 / 6 % 4=0/\sg=⟨#[109,105,110]⟩)\/(P / 7 / 6 % 4=1/\sg=⟨#[109,97,120]⟩)\/(P / 7 / 6 % 4=2/\sg=⟨#[102,105,114,115,116]⟩)\/(P / 7 / 6 % 4=3/\sg=⟨#[108,97,115,116]⟩):=by
   rw [<- hsg];rcases (by omega:P / 7 / 6 % 4=0\/P / 7 / 6 % 4=1\/P / 7 / 6 % 4=2\/P / 7 / 6 % 4=3) with q | q | q | q<;>rw [q]<;>simp
  have hzs:sg.size<=5:=by rcases hsx with ⟨_,h⟩ | ⟨_,h⟩ | ⟨_,h⟩ | ⟨_,h⟩<;>rw [h]<;>decide
  obtain ⟨a1,e1,z1,r1⟩:=aD ⟨#[123,34,36,103,114,111,117,112,34,58,123,34,98,121,34,58,34,36]⟩ px 18 px.size rfl rfl (by omega);obtain ⟨a2,e2,z2,r2⟩:=aD a1 ⟨#[34,44,34,109,97,107,101,34,58,123,34,97,34,58,123,34,36,108,105,115,116,34,58,34,36,95,105,100,34,125,44,34,99,34,58,123,34,36]⟩ a1.size 38 rfl rfl (by omega);obtain ⟨a3,e3,z3,r3⟩:=aD a2 sg a2.size sg.size rfl rfl (by omega);obtain ⟨a4,e4,z4,r4⟩:=aD a3 ⟨#[34,58,34,36,99,34,125,125,125,125]⟩ a3.size 10 rfl rfl (by omega)
  have HE:Hid (a4=fE 6 (P / 7)):=by
   show _=_;rw [fE,if_neg (by decide),if_neg (by decide),if_neg (by decide),if_neg (by decide),if_neg (by decide),if_neg (by decide)];rw [hsg,e4,e3,e2,e1,hpx]
  have hr1:IntKind.i64.wrap ((P / 7).tdiv 6)=P / 7 / 6:=by rw [Int.tdiv_eq_ediv_of_nonneg (by omega),IntKind.wrap_i64];omega
  have hr2:(P / 7 / 6).tmod 4=P / 7 / 6 % 4:=Int.tmod_eq_emod_of_nonneg (by omega);clear e1 z1 e2 z2 e3 z3 e4 z4 hpx hzf RQ HV Vi hpk hzp k0 k1 hsg hzs;obtain ⟨q,rfl⟩ | ⟨q,rfl⟩ | ⟨q,rfl⟩ | ⟨q,rfl⟩:=hsx
  all_goals
   rw [q] at hr2;clear q;go_in;go_wp2_with fail;refine (oZ.out w).mono ?_;rintro e w ⟨rfl,rfl⟩;go_wp2_with fail;refine (mq.out _).mono ?_;rintro e w ⟨rfl,rfl⟩;go_wp2_with fail;go_region_law (first | (go_simp;go_wp2_with (go_at_call 29;refine (KT.out _).mono ?_;rintro e4 w4 ⟨rfl,b4⟩;(first | (obtain ⟨x0,x1,x2,x3⟩:=jX.out w4 b4;have bT:=ak (vZ.out.trans (b4.mono vZ.out.size))) | (have bT:=ak (qw.out.trans (b4.mono qw.out.size))));have mV:=ak trivial;clear b4);clear mV))
   all_goals
    go_wp2_with fail;go_ret
    first
     | exact ⟨bT.out,by rw [HE.out];rfl⟩
     | exact ⟨bT.out.trans ((aY _ _).mono bT.out.size),by rw [HE.out];rfl⟩
theorem aam (k d:Int) {B:Nat} {l:List T} (h:jF B l) (hB:300<=B):(∃ i,FV k d l=.inl (i,15))\/∃ r,FV k d l=.inr r/\jF (B+150) r:=by
 have hp:=uh d;have hm:B<=B+150:=by omega
 unfold FV;by_cases e0:k=0
 ·rw [if_pos e0];exact .inr ⟨_,rfl,(h.sub List.filter_sublist).mono hm⟩
 rw [if_neg e0];by_cases e1:k=1
 ·rw [if_pos e1];exact (aaj h hB hp (FU (d / 6)).1).imp id fun ⟨r,q1,q2⟩=>⟨r,q1,q2.mono hm⟩
 rw [if_neg e1];by_cases e2:k=2
 ·rw [if_pos e2];exact .inr ⟨_,rfl,(h.perm (Pf _ _ _)).mono hm⟩
 rw [if_neg e2];by_cases e3:k=3
 ·rw [if_pos e3];exact .inr ⟨_,rfl,(h.sub (List.drop_sublist _ _)).mono hm⟩
 rw [if_neg e3];by_cases e4:k=4
 ·rw [if_pos e4];exact .inr ⟨_,rfl,(h.sub (List.take_sublist _ _)).mono hm⟩
 rw [if_neg e4];by_cases e5:k=5
 ·rw [if_pos e5];exact aak h hB _
 rw [if_neg e5];exact af7 h hp _
noncomputable def gK (p:Int×Int):pX:=FV p.1 p.2
noncomputable def tK (p:Int×Int):T:=LW p.1 p.2
theorem Pg:∀ (ps:List (Int×Int)) (B i:Nat) (l:List T),jF B l->300<=B->(∃ j m,iZ (ps.map gK) l i=.inl (j,m,15))\/∃ r,iZ (ps.map gK) l i=.inr r/\jF (B+150*ps.length) r
 | [],B,i,l,h,_=>.inr ⟨l,rfl,h⟩
 | p::ps,B,i,l,h,hB=>by
  rw [List.map_cons,iZ];rcases aam p.1 p.2 h hB with ⟨j,e⟩ | ⟨r,e,hr⟩
  ·rw [show gK p l=.inl (j,15) from e];exact .inl ⟨i,j,rfl⟩
  ·rw [show gK p l=.inr r from e];rcases Pg ps (B+150) (i+1) r hr (by omega) with q | ⟨r',q1,q2⟩
   ·exact .inl q
   ·exact .inr ⟨r',q1,q2.mono (by rw [List.length_cons];omega)⟩
theorem Me (H:List pX):∀ (G:List pX) (l:List T) (i:Nat),iZ (G++H) l i=match iZ G l i with
  | .inl e=>.inl e
  | .inr r=>iZ H r (i+G.length)
 | [],l,i=>rfl
 | g::G,l,i=>by
  rw [List.cons_append,iZ,iZ];cases hg:g l with
  | inl e=>rfl
  | inr r =>
   dsimp only;rw [Me H G r (i+1),show i+1+G.length=i+(g::G).length by rw [List.length_cons];omega]
theorem C9 (n:Nat):∀ (G:List pX) (l:List T) (i:Nat),iZ G l (i+n)=match iZ G l i with
  | .inl (j,k,x)=>.inl (j+n,k,x)
  | .inr r=>.inr r
 | [],l,i=>rfl
 | g::G,l,i=>by
  rw [iZ,iZ];cases hg:g l with
  | inl e=>rfl
  | inr r =>
   dsimp only;rw [show i+n+1=i+1+n by omega];exact C9 n G r (i+1)
def jS (a b:ByteArray):ByteArray:=if a.size=0 then b else (a++⟨#[44]⟩)++b
structure lT (ps:List (Int×Int)) (u:ByteArray):Prop where
 rep:yM 11 (ps.map tK) u (301*ps.length)
 ne:ps≠[]->u.size≠0
 nil:ps=[]->u=ByteArray.empty
 pos:∀ p ∈ ps,0<=p.2
theorem lT.start:lT [] ByteArray.empty:=⟨yM.nil 11,fun h=>absurd rfl h,fun _=>rfl,fun p h=>by cases h⟩
theorem lT.snoc {ps:List (Int×Int)} {u:ByteArray} (h:lT ps u) {k d:Int} (hd:0<=d):lT (ps++[(k,d)]) (jS u (fE k d)):=by
 have hr:=IK k d hd
 have hz:(fE k d).size≠0:=by
  have h1:=Kt (G7 11 _ hr.good);rw [<- hr.wr] at h1;have:(fE k d).data.toList.length=(fE k d).size:=by simp
  omega
 refine ⟨?_,fun _=>?_,fun e=>by simp at e,fun p hp=>?_⟩
 ·unfold jS;by_cases hp:ps=[]
  ·subst hp;rw [h.nil rfl,if_pos (show ByteArray.empty.size=0 from rfl)];have:=yM.one hr;exact ⟨this.wr,this.fit,this.good,this.can,Nat.le_trans this.size (by simp)⟩
  ·rw [if_neg (h.ne hp)];have:=h.rep.snoc (by simpa using hp) hr (u':=(u++⟨#[44]⟩)++fE k d) (by rw [aL,aL,List.append_assoc];rfl);rw [List.map_append];exact ⟨this.wr,this.fit,this.good,this.can,Nat.le_trans this.size (by simp only [List.length_append,List.length_cons,List.length_nil];omega)⟩
 ·unfold jS;split
  ·exact hz
  ·rw [ByteArray.size_append];omega
 ·rcases List.mem_append.1 hp with hp | hp
  ·exact h.pos p hp
  ·rw [List.mem_singleton.1 hp];exact hd
theorem lT.size {ps:List (Int×Int)} {u:ByteArray} (h:lT ps u):u.size<=301*ps.length:=h.rep.size
theorem lT.full {ps:List (Int×Int)} {u:ByteArray} (h:lT ps u) (hl:ps.length<=6):eJ ((⟨#[91]⟩++u)++⟨#[93]⟩)=0/\tJ ((⟨#[91]⟩++u)++⟨#[93]⟩)=aO 5 0 ByteArray.empty (ps.map tK) [] :=
 ((h.rep.list (by rw [List.length_map];omega) (s':=(⟨#[91]⟩++u)++⟨#[93]⟩) (by rw [aL,aL];rfl)).parse (by omega))
theorem lT.read {Tb:World->Prop} (hA:bN Tb) {ps:List (Int×Int)} {u:ByteArray} (h:lT ps u) (hl:ps.length<=6):vV Tb (aO 5 0 ByteArray.empty (ps.map tK) []) (ps.map gK):=by
 intro v wB w ha hk hb0 hT;refine SS hA.lies (aO 5 0 ByteArray.empty (ps.map tK) []) _ rfl (by rw [aN,List.length_map,List.length_map]) (by rw [List.length_map];omega) (fun j hj=>?_) v wB w ha hk hb0 hT;have hj':j<ps.length:=by simpa using hj
 have e:elt (aO 5 0 ByteArray.empty (ps.map tK) []) j=tK ps[j]:=by
  show (ps.map tK).getD j _=_;rw [List.getD_eq_getElem?_getD,List.getElem?_map,List.getElem?_eq_getElem hj'];rfl
 rw [e,List.getElem_map];exact XZ hA _ _ (h.pos _ (List.getElem_mem hj'))
end Go.Proofs.YtknakfpciccoaaaGreatDoor
/- A pipeline's text is read; task, Run. -/
namespace Go.Proofs.YtknakfpciccoaaaGreatDoor
open Go.RowKit Go.Maps Go.WideMaps
theorem X9 {Tb:World->Prop} (hD:cu Tb) (hN:dK Tb) (hL:aV Tb) (p m n:Nat) (D:DataW Unit) (x s:ByteArray) (gs:List pX) (c:Nat) (w:World) (hs:s.size<=140737488355328) (hx:x.size<=140737488355328) (hst:jg w p m n D) (hT:Tb w) (h0:eJ s=0) (hp:vV Tb (tJ s) gs) (hc:qZ D x=.lit (.int .i64 c)) :
  Calls Tryz.prog 113 #[.pointer (some ⟨p,0,none⟩),.string x,.string s,.func (Fn.func 114) #[] #[]] w fun e w'=>Below w.heap.size w w'/\∃ A cp,e=.returned (.tuple #[.pointer (some ⟨c,0,none⟩),.slice A gs.length cp,.int .i64 0])/\jR Tb w' (.slice A gs.length cp) gs:=by
 have HP:=ak (V3 hD hN hL s w hs hT h0);have HK:=ak (mM h0);have vM:=ak hst;have HT:Hid (∀ w':World,Below w.heap.size w w'->Tb w'):=fun w' hb=>hL w hT w w' hT hb;have HF:Hid (∀ (v:Value) (w0 w1:World),At w0 13 v (tJ s)->Below w0.heap.size w0 w1->Tb w1->Calls Tryz.prog 114 #[v] w1 fun e w'=>Below w1.heap.size w1 w'/\∃ A c,e=.returned (.tuple #[.slice A gs.length c,.int .i64 0])/\gW w0 w' (aS w1 w') (fun x=>jR Tb x (.slice A gs.length c) gs)):=fun v w0 w1 ha hb ht=>Oq hL (tJ s) gs hp v w0 w1 ha HK.out hb ht;have Hc:=ak hc;clear hT hD hN hL h0 hst hp hc;go_in;go_wp2_with fail;refine HP.out.mono ?_;rintro e w1 ⟨b1,A,B,C,D',rfl,ha⟩;have fT:=ak (aY w1 (vC (tJ s) A B C D'));have HB2:=ak (b1.trans (fT.out.mono b1.size));have HC:=ak (HF.out _ w1 _ ha fT.out (HT.out _ HB2.out));clear b1 ha HP;go_wp2_with fail;refine HC.out.mono ?_;rintro e w3 ⟨b3,A3,c3,rfl,af8⟩;have HB3:=ak (HB2.out.trans (b3.mono HB2.out.size));have HG:=ak (af8.at (fT.out.trans (b3.mono fT.out.size)));have Et:=ak (vM.out.keep HB3.out);have c0:=Et.out.cell;clear b3 af8 HC fT HB2 vM HF HT;rcases Et.out.look x hx with ⟨hrun,hat⟩ | ⟨c',hrun,hat⟩
 ·rw [Hc.out] at hat;cases hat
 ·rw [Hc.out] at hat;obtain rfl:=ou hat;clear hat;go_wp2_with fail;refine bodyPost_ret (v:=.tuple #[.pointer (some ⟨c,0,none⟩),.slice A3 gs.length c3,.int .i64 0]) (by simp [results,Tryz.results113,go_sem, *]) rfl ?_;exact ⟨HB3.out,A3,c3,rfl,HG.out⟩
theorem Ya {Tb:World->Prop} (hD:cu Tb) (hN:dK Tb) (hL:aV Tb) (p m n:Nat) (D:DataW Unit) (x s:ByteArray) (gs:List pX) (c:Nat) (w:World) (hs:s.size<=140737488355328) (hx:x.size<=140737488355328) (hst:jg w p m n D) (hT:Tb w) (h0:eJ s=0) (hp:vV Tb (tJ s) gs) (hc:qZ D x=.lit (.int .i64 c)) :
  Calls Tryz.prog 67 #[.pointer (some ⟨p,0,none⟩),.string x,.string s] w fun e w'=>Below w.heap.size w w'/\∃ A cp,e=.returned (.tuple #[.pointer (some ⟨c,0,none⟩),.slice A gs.length cp,.int .i64 0])/\jR Tb w' (.slice A gs.length cp) gs:=by
 have HC:=ak (X9 hD hN hL p m n D x s gs c w hs hx hst hT h0 hp hc);clear hD hN hL hst hT hs hx h0 hp hc;go_in;go_wp2_with fail;refine HC.out.mono ?_;rintro e w1 ⟨b1,A,cp,rfl,h4⟩;have HB:=ak b1;have H1:=ak h4;clear b1 h4 HC;go_wp2_with fail;refine bodyPost_ret (v:=.tuple #[.pointer (some ⟨c,0,none⟩),.slice A gs.length cp,.int .i64 0]) (by simp [results,Tryz.results67,go_sem, *]) rfl ?_;exact ⟨HB.out,A,cp,rfl,H1.out⟩
def QW (gs:List pX) (l:List T) (w:World) (e:Ending) (w':World):Prop :=
 Below w.heap.size w w'/\((∃ (i k:Nat) (x:Int) (sv:Value),iZ gs l 0=.inl (i,k,x)/\x≠0/\e=.returned (.tuple #[sv,.int .i64 i,.int .i64 k,.int .i64 x])/\w'.ownsRow w.heap.size 9 1 sv 0 []) \/
  ∃ r sv,iZ gs l 0=.inr r/\e=.returned (.tuple #[sv,.int .i64 0,.int .i64 0,.int .i64 0])/\w'.ownsRow w.heap.size 9 1 sv r.length (r.map fun t=>.string (qY t))/\r.length<=1000000)
theorem aan {Tb:World->Prop} (hA:bN Tb) (p m n:Nat) (D:DataW Unit) (x s:ByteArray) (gs:List pX) (c:Nat) (l:List T) (w:World) (hs:s.size<=140737488355328) (hx:x.size<=140737488355328) (hst:jg w p m n D) (hT:Tb w) (h0:eJ s=0) (hp:vV Tb (tJ s) gs) (hc:qZ D x=.lit (.int .i64 c))
  (q0:∃ dv,w.cell? ⟨c,0,none⟩=some dv/\cZ w dv l) (hcl:c<w.heap.size) :
  Calls Tryz.prog 36 #[.pointer (some ⟨p,0,none⟩),.string x,.string s] w (QW gs l w):=by
 have HC:=ak (Ya hA.dec hA.int hA.lies p m n D x s gs c w hs hx hst hT h0 hp hc);obtain ⟨dv,q0,hd⟩:=q0;have Hd:=ak hd;obtain ⟨DA,dc,hdv,_⟩:=hd;subst hdv;have Hq:Hid (∀ w':World,Below w.heap.size w w'->w'.cell? ⟨c,0,none⟩=some (.slice DA l.length dc)):=fun w' hb=>(hb.cell (p:=⟨c,0,none⟩) hcl).trans q0;have HT:Hid (∀ w':World,Below w.heap.size w w'->Tb w'):=fun w' hb=>hA.lies w hT w w' hT hb;have HRn:Hid (∀ (pv dv:Value) (w:World),jR Tb w pv gs->cZ w dv l->Tb w->Calls Tryz.prog 68 #[pv,dv] w (WV gs l w)):=fun pv dv w h1 h2 h3=>WW hA.lies pv dv gs l w h1 h2 h3;have HPr:Hid (∀ (d:T) (La:Option Addr) (Lc:Nat) (w:World),bJ w 13 La d->nL d<=1000000->Tb w->Calls Tryz.prog 64 #[.slice La (nL d) Lc] w fun e w'=>Below w.heap.size w w'/\∃ sv,e=.returned sv/\w'.ownsRow w.heap.size 9 1 sv (nL d) (VE d (nL d))):=fun d La Lc w h1 h2 h3=>wZ hA.valid hA.fmt hA.lies d 13 La Lc w h1 h2 h3;clear hst hT hs hx hc hA h0 hp q0;go_in;go_wp2_with fail;refine HC.out.mono ?_;rintro e w1 ⟨b1,A,cp,rfl,h4⟩;have HB1:=ak b1;have q1:=Hq.out _ b1;have HM:=ak (HRn.out _ _ w1 h4 (Hd.out.keep b1) (HT.out _ b1));clear b1 h4 HC HRn;go_wp2_with fail;refine HM.out.mono ?_;rintro e w2 ⟨b2,⟨i,k,er,h1,h2,rfl⟩ | ⟨r,v,h1,rfl,h3⟩⟩
 ·have HB2:=ak (HB1.out.trans (b2.mono HB1.out.size));have fT:=ak (aY w2 (.cells #[.int .i64 (i:Nat),.int .i64 (k:Nat),.int .i64 er] 108));have HB3:=ak (HB2.out.trans (fT.out.mono HB2.out.size));have HP:Hid (Calls Tryz.prog 64 #[.slice none 0 0] (w2.alloc (.cells #[.int .i64 (i:Nat),.int .i64 (k:Nat),.int .i64 er] 108)).drew fun e w'=>Below (w2.alloc (.cells #[.int .i64 (i:Nat),.int .i64 (k:Nat),.int .i64 er] 108)).drew.heap.size (w2.alloc (.cells #[.int .i64 (i:Nat),.int .i64 (k:Nat),.int .i64 er] 108)).drew w'/\∃ sv,e=.returned sv/\w'.ownsRow (w2.alloc (.cells #[.int .i64 (i:Nat),.int .i64 (k:Nat),.int .i64 er] 108)).drew.heap.size 9 1 sv 0 []):=HPr.out (aO 5 0 ByteArray.empty [] []) none 0 _ (fun i hi=>absurd hi (Nat.not_lt_zero i)) (Nat.zero_le _) (HT.out _ HB3.out.drew);have HF:=ak (And.intro h1 h2);have qW:Hid (∀ wx:World,Below (w2.alloc (.cells #[.int .i64 (i:Nat),.int .i64 (k:Nat),.int .i64 er] 108)).heap.size (w2.alloc (.cells #[.int .i64 (i:Nat),.int .i64 (k:Nat),.int .i64 er] 108)) wx->(fun wx=>wx.cell? ⟨w2.heap.size,0,none⟩=some (.int .i64 (i:Nat))/\wx.cell? ⟨w2.heap.size,1,none⟩=some (.int .i64 (k:Nat))/\wx.cell? ⟨w2.heap.size,2,none⟩=some (.int .i64 er)) wx):=fun wx hb=>⟨(hb.cell (p:=⟨w2.heap.size,0,none⟩) (by simp)).trans (by simp [go_sem]),(hb.cell (p:=⟨w2.heap.size,1,none⟩) (by simp)).trans (by simp [go_sem]),(hb.cell (p:=⟨w2.heap.size,2,none⟩) (by simp)).trans (by simp [go_sem])⟩;have qy:=ak (qW.out _ (au _));clear b2 h1 h2 HM HPr
  go_wp2_with fail;go_region_held3 (fun wx=>wx.cell? ⟨w2.heap.size,0,none⟩=some (.int .i64 (i:Nat))/\wx.cell? ⟨w2.heap.size,1,none⟩=some (.int .i64 (k:Nat))/\wx.cell? ⟨w2.heap.size,2,none⟩=some (.int .i64 er)) (first | exact uV | exact qy.out) ((go_at_call 64;refine HP.out.mono ?_;rintro e5 w5 ⟨hb5,sv,rfl,ho5⟩;have uV:=qW.out _ ((au _).trans hb5)));have eF:=ak (HB3.out.trans (((au _).trans hb5).mono HB3.out.size));have HO:=ak (Cb ho5 (HB3.out.drew.size));clear hb5 ho5 uV qy qW HP;go_wp2_with fail;refine bodyPost_ret (v:=.tuple #[sv,.int .i64 (i:Nat),.int .i64 (k:Nat),.int .i64 er]) (by simp [results,Tryz.results36,go_sem, *]) rfl ?_;exact ⟨eF.out,.inl ⟨i,k,er,sv,HF.out.1,HF.out.2,rfl,HO.out⟩⟩
 ·obtain ⟨RA,rc,hrv,hn,hz1,hz2,hel,hz3⟩:=h3;subst hrv;clear hz1 hz2 hz3;have HB2:=ak (HB1.out.trans (b2.mono HB1.out.size));have fT:=ak (aY w2 (.cells #[.int .i64 0,.int .i64 0,.int .i64 0] 108));have HB3:=ak (HB2.out.trans (fT.out.mono HB2.out.size));have HP:=ak (HPr.out (aO 5 0 ByteArray.empty r []) RA rc (w2.alloc (.cells #[.int .i64 0,.int .i64 0,.int .i64 0] 108)).drew (hel.keep fT.out.drew) (by rw [aN];exact hn) (HT.out _ HB3.out.drew));rw [aN,NG _ _ _ _ _ _ (Nat.le_refl _),List.take_length] at HP;have HF:=ak (And.intro h1 hn);have qW:Hid (∀ wx:World,Below (w2.alloc (.cells #[.int .i64 0,.int .i64 0,.int .i64 0] 108)).heap.size (w2.alloc (.cells #[.int .i64 0,.int .i64 0,.int .i64 0] 108)) wx->(fun wx=>wx.cell? ⟨w2.heap.size,0,none⟩=some (.int .i64 0)/\wx.cell? ⟨w2.heap.size,1,none⟩=some (.int .i64 0)/\wx.cell? ⟨w2.heap.size,2,none⟩=some (.int .i64 0)) wx):=fun wx hb=>⟨(hb.cell (p:=⟨w2.heap.size,0,none⟩) (by simp)).trans (by simp [go_sem]),(hb.cell (p:=⟨w2.heap.size,1,none⟩) (by simp)).trans (by simp [go_sem]),(hb.cell (p:=⟨w2.heap.size,2,none⟩) (by simp)).trans (by simp [go_sem])⟩;have qy:=ak (qW.out _ (au _));clear b2 h1 hn hel HM HPr;go_wp2_with fail
  go_region_held3 (fun wx=>wx.cell? ⟨w2.heap.size,0,none⟩=some (.int .i64 0)/\wx.cell? ⟨w2.heap.size,1,none⟩=some (.int .i64 0)/\wx.cell? ⟨w2.heap.size,2,none⟩=some (.int .i64 0)) (first | exact uV | exact qy.out) ((go_at_call 64;refine HP.out.mono ?_;rintro e5 w5 ⟨hb5,sv,rfl,ho5⟩;have uV:=qW.out _ ((au _).trans hb5)));have eF:=ak (HB3.out.trans (((au _).trans hb5).mono HB3.out.size));have HO:=ak (Cb ho5 (HB3.out.drew.size));clear hb5 ho5 uV qy qW HP;go_wp2_with fail;refine bodyPost_ret (v:=.tuple #[sv,.int .i64 0,.int .i64 0,.int .i64 0]) (by simp [results,Tryz.results36,go_sem, *]) rfl ?_;exact ⟨eF.out,.inr ⟨r,sv,HF.out.1,rfl,HO.out,HF.out.2⟩⟩
end Go.Proofs.YtknakfpciccoaaaGreatDoor
/- Run, of a store as names and documents. -/
namespace Go.Proofs.YtknakfpciccoaaaGreatDoor
open Go.RowKit Go.Maps Go.WideMaps
theorem aao {w:World} {lo:Nat} {e:TypeId} {s n c:Nat} {A:Option Addr} {xs:List Value} (h:w.ownsRow lo e s (.slice A n c) n xs):n<=c/\c<=9223372036854775807:=by
 rcases h.2 with ⟨h1,h2⟩ | ⟨g,cap,cur,h1,_,_,h2,h3,_⟩
 ·simp only [Value.slice.injEq] at h1;omega
 ·simp only [Value.slice.injEq] at h1;unfold maxLen at h3;omega
theorem adC {Tb:World->Prop} (hA:bN Tb) {B:Nat} {w:World} {p n:Nat} {S:ByteArray->Option (List T)} (h:DN B w p n S) (x s:ByteArray) (l:List T) (gs:List pX) (hx:x.size<=140737488355328) (hs:s.size<=140737488355328) (hS:S x=some l) (hl:l.length<=1000000) (he:eJ s=0) (hp:vV Tb (tJ s) gs) (hT:Tb w) :
  Calls Tryz.prog 36 #[.pointer (some ⟨p,0,none⟩),.string x,.string s] w (QW gs l w):=by
 obtain ⟨L,m,D,lf,vf,xf,h1,h2,h3,h4⟩:=h
 obtain ⟨c,hc,hlc⟩:∃ c:Nat,qZ D x=.lit (.int .i64 c)/\lf c=l:=by
  rcases h4 x with ⟨h,_⟩ | ⟨c,hc,h⟩
  ·rw [hS] at h;cases h
  ·rw [hS] at h;exact ⟨c,hc,(Option.some.inj h).symm⟩
 have hco:=h1.col x c hc;have hto:=h1.Wn hc;obtain ⟨La,Lc,hv,hel⟩:=hto.elems;have hrow:=hto.row;rw [hv,hlc] at hrow;have hcp:=aao hrow;have hcell:=hto.cell;rw [hv,hlc] at hcell;rw [hlc] at hel;have Lf:=hco.doc;rw [hlc] at Lf;exact aan hA p m n D x s gs c l w hs hx h1.Sy hT he hp hc ⟨_,hcell,La,Lc,rfl,hl,hcp.1,hcp.2,hel,fun i hi=>(Lf i hi).1⟩ hto.low
theorem vX (a b:ByteArray) (w:World) (ha:a.size<=10000) (hb:b.size<=10000):Calls Tryz.prog 34 #[.string a,.string b] w fun e w'=>e=.returned (.string (jS a b))/\w'=w:=by
 by_cases h0:a.size=0
 ·obtain rfl:a=ByteArray.empty:=by
   apply ByteArray.ext;exact Array.eq_empty_of_size_eq_zero h0
  have HJ:Hid (jS ByteArray.empty b=b):=if_pos h0;have hq:(ByteArray.empty.toList==[])=true:=bS (a:=ByteArray.empty) (b:=ByteArray.empty) rfl;clear h0;go_in;go_wp2_with fail;go_ret;exact ⟨by rw [HJ.out];rfl,rfl⟩
 ·have HJ:Hid (jS a b=(a++⟨#[44]⟩)++b):=if_neg h0;obtain ⟨x1,e1,z1,r1⟩:=aD a ⟨#[44]⟩ a.size 1 rfl rfl (by omega);obtain ⟨x2,e2,z2,r2⟩:=aD x1 b x1.size b.size rfl rfl (by omega);have HE:Hid (x2=jS a b):=by show _=_;rw [HJ.out,e2,e1]
  have hq:(a.toList==[])=false:=aF (b:=ByteArray.empty) (fun h=>h0 (by rw [h];rfl));clear h0 e1 z1 e2 z2 HJ;go_in;go_wp2_with fail;go_ret;exact ⟨by rw [HE.out];rfl,rfl⟩
def IL (w:World) (v:Value) (l:List ByteArray):Prop:=∃ A c,v=.slice A l.length c/\l.length<=1000000/\∀ i,(h:i<l.length)->∃ b o,A=some ⟨b,o,none⟩/\b<w.heap.size/\w.cell? ⟨b,o+i,none⟩=some (.string l[i])
theorem IL.keep {w w':World} {v:Value} {l:List ByteArray} (h:IL w v l) (hb:Below w.heap.size w w'):IL w' v l:=by
 obtain ⟨A,c,hv,hn,h⟩:=h;refine ⟨A,c,hv,hn,fun i hi=>?_⟩;obtain ⟨b,o,h0,hl,q⟩:=h i hi;exact ⟨b,o,h0,Nat.lt_of_lt_of_le hl hb.size,(hb.cell (p:=⟨b,_,none⟩) hl).trans q⟩
theorem IL.Ph {w:World} {lo:Nat} {A:Option Addr} {c:Nat} {l:List T} (h:w.ownsRow lo 9 1 (.slice A l.length c) l.length (l.map fun t=>.string (qY t))) (hn:l.length<=1000000):IL w (.slice A l.length c) (l.map qY):=by
 refine ⟨A,c,by rw [List.length_map],by rw [List.length_map];exact hn,fun i hi=>?_⟩;rw [List.length_map] at hi;rcases h.2 with ⟨h',h0⟩ | ⟨g',cap',cur,h',_⟩
 ·omega
 ·simp only [Value.slice.injEq,true_and] at h';obtain ⟨rfl,rfl⟩:=h';refine ⟨g',0,rfl,(h.lt g' rfl).2,?_⟩;rw [Nat.zero_add,h.cellAt i (by omega)];simp [hi]
theorem oV (l:List ByteArray) (va vb:Value) (w:World) (ha:IL w va l) (hb:IL w vb l) :
  Calls Tryz.prog 33 #[va,vb] w fun e w'=>e=.returned (.bool true)/\Below w.heap.size w w':=by
 obtain ⟨A,c,rfl,hn,Ha⟩:=ha;obtain ⟨B,d,rfl,_,Hb⟩:=hb;have HA:=ak Ha;have HB:=ak Hb;have Hlen:Hid (∀ k,k<l.length->∃ h:k<l.length,True):=fun k h=>⟨h,trivial⟩;obtain ⟨n,hl⟩:∃ n,l.length=n:=⟨_,rfl⟩;have Hl:=ak hl;rw [hl] at hn ⊢;clear Ha Hb hl;go_in;go_wp2_with fail;go_loopg [5] n (fun g i wr=>∃ k:Nat,g=n - k/\k<=n/\i=.int .i64 k/\Hid (Below w.heap.size w wr))
 case atStart=>exact ⟨0,rfl,Nat.zero_le _,rfl,Below.refl _ _⟩
 case round =>
  obtain ⟨k,rfl,hk,rfl,HW⟩:=hrel;by_cases hlt:k<n
  ·have hkl:k<l.length:=by rw [Hl.out];exact hlt
   obtain ⟨ba,oa,rfl,hba,p0⟩:=HA.out k hkl;obtain ⟨bb,ob,rfl,hbb,r0⟩:=HB.out k hkl;generalize l[k]=s at p0 r0;have n0:=(HW.out.cell (p:=⟨ba,_,none⟩) hba).trans p0;have m0:=(HW.out.cell (p:=⟨bb,_,none⟩) hbb).trans r0;have x3:(k:Int)<(n:Int):=by omega
   clear p0 r0;go_wp2_with fail;go_quiet (fail);go_wp2_with fail;go_roundg (n - (k+1))
   case rel=>exact ⟨k+1,rfl,by omega,by go_num,below_drewN HW.out _⟩
   case measure=>omega
  ·have x3:¬ (k:Int)<(n:Int):=by omega
   go_wp2_with fail;go_ret;exact ⟨rfl,HW.out⟩
def IQ (res:(Nat×Nat×Int)⊕List T) (a b:Nat) (x:Int) (L:List ByteArray):Prop :=
 (res=.inl (a,b,x)/\L=[])\/∃ r,res=.inr r/\a=0/\b=0/\x=0/\L=r.map qY
def I8 (lo hi:Nat) (w:World) (v:Value) (l:List ByteArray):Prop:=∃ A c,v=.slice A l.length c/\l.length<=1000000/\∀ i,(h:i<l.length)->∃ b o,A=some ⟨b,o,none⟩/\lo<=b/\b<hi/\hi<=w.heap.size/\w.cell? ⟨b,o+i,none⟩=some (.string l[i])
theorem I8.at {lo hi:Nat} {w:World} {v:Value} {l:List ByteArray} (h:I8 lo hi w v l):IL w v l:=by
 obtain ⟨A,c,hv,hn,h⟩:=h;refine ⟨A,c,hv,hn,fun i hi=>?_⟩;obtain ⟨b,o,h0,_,h2,h3,q⟩:=h i hi;exact ⟨b,o,h0,by omega,q⟩
theorem I8.q {lo hi lo' hi':Nat} {Q:Nat->Prop} {w w':World} {v:Value} {l:List ByteArray} (h:I8 lo hi w v l) (hk:ku Q w w') (hq:∀ b,lo<=b->b<hi->¬ Q b) (h1:lo'<=lo) (h2:hi<=hi') (h3:hi'<=w'.heap.size):I8 lo' hi' w' v l:=by
 obtain ⟨A,c,hv,hn,h⟩:=h;refine ⟨A,c,hv,hn,fun i hi=>?_⟩;obtain ⟨b,o,h0,q1,q2,q3,q⟩:=h i hi;exact ⟨b,o,h0,by omega,by omega,h3,(aC (hk.block b (by omega) (hq b q1 q2)) _).trans q⟩
theorem I8.keep {lo hi lo' hi':Nat} {w w':World} {v:Value} {l:List ByteArray} (h:I8 lo hi w v l) (hb:Below w.heap.size w w') (h1:lo'<=lo) (h2:hi<=hi') (h3:hi'<=w'.heap.size):I8 lo' hi' w' v l :=
 h.q (Q:=fun _=>False) (ku.of hb) (fun _ _ _ h=>h) h1 h2 h3
theorem I8.Ph {lo:Nat} {w:World} {A:Option Addr} {c:Nat} {l:List T} (h:w.ownsRow lo 9 1 (.slice A l.length c) l.length (l.map fun t=>.string (qY t))) (hn:l.length<=1000000):I8 lo w.heap.size w (.slice A l.length c) (l.map qY):=by
 obtain ⟨A',c',e,h1,h2⟩:=IL.Ph h hn;refine ⟨A',c',e,h1,fun i hi=>?_⟩;obtain ⟨b,o,h0,hb,q⟩:=h2 i hi;rw [List.length_map] at hi;simp only [Value.slice.injEq] at e;obtain ⟨rfl,_,_⟩:=e;rcases h.2 with ⟨_,h0'⟩ | ⟨g',cap',cur,h',hg,_⟩
 ·omega
 ·simp only [Value.slice.injEq] at h';have:=h'.1;rw [h0] at this;simp only [Option.some.injEq,Addr.mk.injEq] at this;exact ⟨b,o,h0,by omega,hb,Nat.le_refl _,q⟩
def zD (B lo hi:Nat) (b:Nat):Prop:=B<=b/\¬ (lo<=b/\b<hi)
theorem DN.free {B:Nat} {w:World} {p n:Nat} {S:ByteArray->Option (List T)} (h:DN B w p n S) (hi:Nat):QC (zD B w.heap.size hi) w p n S:=by
 obtain ⟨L,m,D,lf,vf,xf,h1,h2,h3⟩:=h;exact ⟨L,m,D,lf,vf,xf,h1,fun b hb=>⟨h2 b hb,fun h=>by have:=h1.low b hb;omega⟩,h3⟩
theorem QC.keep {Q:Nat->Prop} {w w':World} {p n:Nat} {S:ByteArray->Option (List T)} (h:QC Q w p n S) (hb:Below w.heap.size w w'):QC Q w' p n S:=by
 obtain ⟨L,m,D,lf,vf,xf,h1,h2⟩:=h;exact ⟨L,m,D,lf,vf,xf,h1.keep hb,h2⟩
theorem QC.st {B lo hi:Nat} {w:World} {p n:Nat} {S:ByteArray->Option (List T)} (h:QC (zD B lo hi) w p n S):DN B w p n S:=by
 obtain ⟨L,m,D,lf,vf,xf,h1,h2,h3⟩:=h;exact ⟨L,m,D,lf,vf,xf,h1,fun b hb=>(h2 b hb).1,h3⟩
theorem ku.low {B lo hi:Nat} {w w':World} (h:ku (zD B lo hi) w w') (hB:B<=w.heap.size):Below B w w':=⟨h.os,h.tape,h.output,h.size,fun b hb=>h.block b (by omega) (fun q=>by have:=q.1;omega)⟩
theorem I8.free {B lo hi:Nat} {w w':World} {v:Value} {l:List ByteArray} (h:I8 lo hi w v l) (hk:ku (zD B lo hi) w w') (h3:hi<=w'.heap.size):I8 lo hi w' v l :=
 h.q hk (fun _ h1 h2 q=>q.2 ⟨h1,h2⟩) (Nat.le_refl _) (Nat.le_refl _) h3
theorem AO {Tb:World->Prop} (hA:bN Tb) {B:Nat} {w:World} {p n:Nat} {S:ByteArray->Option (List T)} (h:DN B w p n S) (x:ByteArray) {l:List T} (hx:x.size<=140737488355328) (hS:S x=some l) (hl:l.length<=1000000) {ps:List (Int×Int)} {u:ByteArray} (ht:lT ps u) (hps:ps.length<=6) {a b:Nat} {er:Int} {L:List ByteArray} (hR:IQ (iZ (ps.map gK) l 0) a b er L) (hT:Tb w) {s:ByteArray} (hs:s=(⟨#[91]⟩++u)++⟨#[93]⟩) :
  Calls Tryz.prog 36 #[.pointer (some ⟨p,0,none⟩),.string x,.string s] w fun e w'=>Below w.heap.size w w'/\∃ A c,e=.returned (.tuple #[.slice A L.length c,.int .i64 a,.int .i64 b,.int .i64 er])/\I8 w.heap.size w'.heap.size w' (.slice A L.length c) L:=by
 obtain ⟨h1,h2⟩:=ht.full hps;have hz:=ht.size
 have hsz:s.size<=140737488355328:=by
  rw [hs,ByteArray.size_append,ByteArray.size_append];show 1+u.size+1<=_;omega
 rw [<- hs] at h1 h2;refine (adC hA h x s l (ps.map gK) hx hsz hS hl h1 (by rw [h2];exact ht.read hA hps) hT).mono ?_;rintro e w' ⟨hb,⟨i,k,y,sv,q1,_,rfl,q2⟩ | ⟨r,sv,q1,rfl,q2,q3⟩⟩
 ·rcases hR with ⟨e1,rfl⟩ | ⟨r,e1,_⟩
  ·rw [q1] at e1;simp only [Sum.inl.injEq,Prod.mk.injEq] at e1;obtain ⟨rfl,rfl,rfl⟩:=e1;obtain ⟨A,c,rfl⟩:=pV q2;exact ⟨hb,A,c,rfl,A,c,rfl,by simp,fun i hi=>absurd hi (Nat.not_lt_zero i)⟩
  ·rw [q1] at e1;cases e1
 ·rcases hR with ⟨e1,_⟩ | ⟨r',e1,rfl,rfl,rfl,rfl⟩
  ·rw [q1] at e1;cases e1
  ·rw [q1] at e1;simp only [Sum.inr.injEq] at e1;subst e1;obtain ⟨A,c,rfl⟩:=pV q2;exact ⟨hb,A,c,by rw [List.length_map];rfl,by rw [List.length_map];exact I8.Ph q2 q3⟩
theorem QX:∀ (G:List pX) (l:List T) (i:Nat) {j k:Nat} {x:Int},iZ G l i=.inl (j,k,x)->j<i+G.length
 | [],l,i,j,k,x,h=>by cases h
 | g::G,l,i,j,k,x,h=>by
  rw [iZ] at h;rw [List.length_cons];cases hg:g l with
  | inl e =>
   rw [hg] at h;simp only [Sum.inl.injEq,Prod.mk.injEq] at h;omega
  | inr r =>
   rw [hg] at h;have:=QX G r (i+1) h;omega
theorem aap {ps qs:List (Int×Int)} (h3:ps.length<=3) (h3':qs.length<=3) {l:List T} (h:jF 300 l):∃ (a1 b1:Nat) (e1:Int) (X1:List ByteArray) (a2 b2:Nat) (e2:Int) (X2:List ByteArray),
  IQ (iZ (ps.map gK) l 0) a1 b1 e1 X1/\IQ (iZ ((ps++qs).map gK) l 0) a2 b2 e2 X2 /\
  ((e1=15/\e2=15/\a2=a1/\b2=b1/\X1=[]) \/
   (e1=0/\∃ (r:List T) (a3:Nat),jF 750 r/\X1=r.map qY/\IQ (iZ (qs.map gK) r 0) a3 b2 e2 X2/\a3<=3/\((e2=15/\a2=a3+ps.length)\/(e2=0/\a2=0/\a3=0)))):=by
 have happ:=Me (qs.map gK) (ps.map gK) l 0;rw [<- List.map_append] at happ;rcases Pg ps 300 0 l h (Nat.le_refl _) with ⟨j,m,e⟩ | ⟨r,e,hr⟩
 ·rw [e] at happ;exact ⟨j,m,15,[],j,m,15,[],.inl ⟨e,rfl⟩,.inl ⟨happ,rfl⟩,.inl ⟨rfl,rfl,rfl,rfl,rfl⟩⟩
 ·rw [e] at happ;dsimp only at happ;rw [Nat.zero_add,List.length_map] at happ;have hsh:=C9 ps.length (qs.map gK) r 0;rw [Nat.zero_add] at hsh;rw [hsh] at happ;have hr':jF 750 r:=hr.mono (by omega);rcases Pg qs 750 0 r hr' (by omega) with ⟨j,m,e'⟩ | ⟨r2,e',_⟩
  ·rw [e'] at happ;have:=QX _ _ _ e';rw [List.length_map] at this;exact ⟨0,0,0,r.map qY,j+ps.length,m,15,[],.inr ⟨r,e,rfl,rfl,rfl,rfl⟩,.inl ⟨happ,rfl⟩,.inr ⟨rfl,r,j,hr',rfl,.inl ⟨e',rfl⟩,by omega,.inl ⟨rfl,rfl⟩⟩⟩
  ·rw [e'] at happ;exact ⟨0,0,0,r.map qY,0,0,0,r2.map qY,.inr ⟨r,e,rfl,rfl,rfl,rfl⟩,.inr ⟨r2,happ,rfl,rfl,rfl,rfl⟩,.inr ⟨rfl,r,0,hr',rfl,.inr ⟨r2,e',rfl,rfl,rfl,rfl⟩,by omega,.inr ⟨rfl,rfl,rfl⟩⟩⟩
theorem aiS {r:List T} (h:jF 750 r) {d:T} (hd:d ∈ r):tJ (qY d)=d/\(qY d).size<=4000/\∀ er,jQ (qY d)=some er->er=7:=by
 obtain ⟨h1,h2,h3⟩:=h.text (by omega) hd;refine ⟨h2,h3,fun er he=>?_⟩;unfold jQ at he;rw [if_neg (by rw [h1];simp),h2,(h.doc d hd).small] at he;split at he
 ·exact (Option.some.inj he).symm
 ·simp at he
abbrev nZ:ByteArray:=⟨#[122]⟩
def zF (l m:List T):ByteArray->Option (List T):=uO (vQ (some l) (some l)) nZ (some m)
theorem QY (l m:List T):zF l m nZ=some m:=fu _ _ _
theorem TP (l m k:List T):uO (zF l m) nZ (some k)=zF l k:=by
 funext z
 unfold zF;by_cases h:z=nZ
 ·subst h;rw [fu,fu]
 ·rw [bX _ _ h,bX _ _ h,bX _ _ h]
end Go.Proofs.YtknakfpciccoaaaGreatDoor
