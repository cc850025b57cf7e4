import Derived.Test.YtknakfpciccoaaaGreatDoorZC22
import Derived.Test.YtknakfpciccoaaaGreatDoorZC13
import Derived.Test.YtknakfpciccoaaaGreatDoorZC15
/- Entries and filters of the laws, one text for each number. -/
set_option maxHeartbeats 8000000
set_option maxRecDepth 100000
namespace Go.Proofs.YtknakfpciccoaaaGreatDoor
open Go.RowKit
def N8 (c:Int):ByteArray:=(⟨#[34]⟩++rH (gV (c.tdiv 4)))++⟨#[34]⟩
def yH (c:Int):ByteArray:=if aT c % 4=0 then (N8 c++⟨#[58]⟩)++mQ (aT c % 1099511627776 / 6) else ((N8 c++⟨#[58,123]⟩)++xA (aT c % 1099511627776 / 6))++⟨#[125]⟩
theorem xB (c:Int):∃ t,N7 t (yH c):=by
 have hx:=aa0 (uh (c.tdiv 4));unfold yH;by_cases h:aT c % 4=0
 ·rw [if_pos h];obtain ⟨i,hi,hiv⟩:=pR (aT c % 1099511627776 / 6);refine Zr hx hi ?_;rw [hiv,N8];simp only [aL];simp
 ·rw [if_neg h];obtain ⟨op,j,htr⟩:=Qy (aT c % 1099511627776 / 6);refine ⟨_,Zt hx htr ?_⟩;rw [N8];simp only [aL];simp
def sV (c d:Int):ByteArray:=if 0<aT (c.tdiv 24) % 3 then (⟨#[123]⟩++yH c)++⟨#[125]⟩ else (((⟨#[123,34,36,111,114,34,58,91,123]⟩++yH c)++⟨#[125,44,123]⟩)++yH d)++⟨#[125,93,125]⟩
theorem KR (c d:Int):∃ t,Zu t (sV c d):=by
 obtain ⟨t,ht⟩:=xB c;obtain ⟨u,hu⟩:=xB d;unfold sV;by_cases h:0<aT (c.tdiv 24) % 3
 ·rw [if_pos h];exact ⟨_,Zv ht (by simp only [aL];simp)⟩
 ·rw [if_neg h];exact ⟨_,acn ht hu (by simp only [aL];simp)⟩
noncomputable def KS (c d:Int):T:=Classical.choose (KR c d)
theorem sW (c d:Int):Zu (KS c d) (sV c d):=Classical.choose_spec (KR c d)
theorem Cm {Tb:World->Prop} (hI:bf Tb) (hL:aV Tb) (c:Int) (w:World) (h0:-9223372036854775808<=c) (h1:c<=9223372036854775807) (hT:Tb w) :
  Calls Tryz.prog 62 #[.int .i64 c] w fun e w'=>Below w.heap.size w w'/\e=.returned (.string (yH c)):=by
 have HEn:Hid (yH c=if aT c % 4=0 then (N8 c++⟨#[58]⟩)++mQ (aT c % 1099511627776 / 6) else ((N8 c++⟨#[58,123]⟩)++xA (aT c % 1099511627776 / 6))++⟨#[125]⟩):=rfl;have HQx:Hid (N8 c=(⟨#[34]⟩++rH (gV (c.tdiv 4)))++⟨#[34]⟩):=rfl;have oZ:=ak (fun w=>fA c 1099511627776 w h0 h1 (by omega) (by omega));have mq:=ak (fun w=>fA c 4 w h0 h1 (by omega) (by omega));have HT:Hid (∀ w':World,Below w.heap.size w w'->Tb w'):=fun w' hb=>hL w hT w w' hT hb;have hb:=tX h0 h1;obtain ⟨P,hP⟩:∃ P,aT c % 1099511627776=P:=⟨_,rfl⟩;obtain ⟨k,hk⟩:∃ k,aT c % 4=k:=⟨_,rfl⟩;have p0:0<=P:=by omega
 have p1:P<=1099511627776:=by omega
 rw [hP] at oZ HEn;rw [hk] at mq HEn;have HV:Hid (∀ w:World,Tb w->Calls Tryz.prog 21 #[.int .i64 (P / 6)] w (sS (P / 6) w)):=fun w ht=>uj hI hL (P / 6) w (by omega) (by omega) ht;have HTs:Hid (∀ w:World,Tb w->Calls Tryz.prog 30 #[.int .i64 (P / 6)] w fun e w'=>e=.returned (.string (xA (P / 6)))/\Below w.heap.size w w'):=fun w ht=>Wx hI hL (P / 6) w (by omega) (by omega) ht;have hqb:-9223372036854775808<=c.tdiv 4/\c.tdiv 4<=9223372036854775807:=QA h0 h1 4 (by omega);have hq:IntKind.i64.wrap (c.tdiv 4)=c.tdiv 4:=by rw [IntKind.wrap_i64];omega
 have KT:=ak (fun w=>KP (c.tdiv 4) w hqb.1 hqb.2);have HPx:=ak (aa0 (uh (c.tdiv 4)));obtain ⟨px,hpx⟩:∃ px,rH (gV (c.tdiv 4))=px:=⟨_,rfl⟩;rw [hpx] at KT HPx HQx;have hzx:=HPx.out.small;have SG:=ak (fun w=>vP px w (by omega));obtain ⟨qx,hqx⟩:∃ qx,(⟨#[34]⟩++px)++⟨#[34]⟩=qx:=⟨_,rfl⟩;rw [hqx] at SG HQx
 have hqz:qx.size<=5:=by
  rw [<- hqx];simp only [ByteArray.size_append];have:(⟨#[34]⟩:ByteArray).size=1:=rfl;omega
 rw [HQx.out] at HEn;clear HQx;generalize yH c=en at HEn ⊢;clear hqx hpx hP hk hb hqb hI hL hT h0 h1 hzx;by_cases hk0:k=0
 ·subst hk0;obtain ⟨a1,e1,z1,r1⟩:=aD qx ⟨#[58]⟩ qx.size 1 rfl rfl (by omega);have Yt:=ak e1;have hz1:a1.size<=6:=by omega
  clear e1 z1;go_in;go_wp2_with fail;refine (oZ.out w).mono ?_;rintro e w ⟨rfl,rfl⟩;go_wp2_with fail;refine (mq.out _).mono ?_;rintro e w ⟨rfl,rfl⟩;go_wp2_with fail;refine (KT.out _).mono ?_;rintro e w1 ⟨rfl,b1⟩;have HB1:=ak b1;clear b1;go_wp2_with fail;refine (SG.out _).mono ?_;rintro e w2 ⟨rfl,rfl⟩;go_wp2_with fail;refine (HV.out _ (HT.out _ HB1.out)).mono ?_;rintro e w3 ⟨sv,⟨⟨i,hi,hiv⟩,hval⟩,rfl,b3⟩;have hz:sv.size<=10:=by rw [hiv];exact lV hi
  obtain ⟨a2,e2,z2,r2⟩:=aD a1 sv a1.size sv.size rfl rfl (by omega);have HF:Hid (a2=en):=by show _=_;rw [e2,Yt.out,HEn.out,if_pos (by trivial),hval]
  have HB3:=ak (HB1.out.trans (b3.mono HB1.out.size));clear b3 hi hiv hz e2 z2 hval;go_wp2_with fail;go_ret;exact ⟨HB3.out,by rw [HF.out];rfl⟩
 ·obtain ⟨a1,e1,z1,r1⟩:=aD qx ⟨#[58,123]⟩ qx.size 2 rfl rfl (by omega);have Yt:=ak e1;have hz1:a1.size<=7:=by omega
  clear e1 z1;obtain ⟨op,j,htr⟩:=Qy (P / 6);have hz:=htr.size;clear htr;generalize xA (P / 6)=st at HTs hz HEn;obtain ⟨a2,e2,z2,r2⟩:=aD a1 st a1.size st.size rfl rfl (by omega);obtain ⟨a3,e3,z3,r3⟩:=aD a2 ⟨#[125]⟩ a2.size 1 rfl rfl (by omega);have HF:Hid (a3=en):=by show _=_;rw [e3,e2,Yt.out,HEn.out,if_neg hk0]
  clear e2 z2 e3 z3 hz hz1;go_in;go_wp2_with fail;refine (oZ.out w).mono ?_;rintro e w ⟨rfl,rfl⟩;go_wp2_with fail;refine (mq.out _).mono ?_;rintro e w ⟨rfl,rfl⟩;go_wp2_with fail;refine (KT.out _).mono ?_;rintro e w1 ⟨rfl,b1⟩;have HB1:=ak b1;clear b1;go_wp2_with fail;refine (SG.out _).mono ?_;rintro e w2 ⟨rfl,rfl⟩;go_wp2_with fail;refine (HTs.out _ (HT.out _ HB1.out)).mono ?_;rintro e w3 ⟨rfl,b3⟩;have HB3:=ak (HB1.out.trans (b3.mono HB1.out.size));clear b3;go_wp2_with fail;go_ret;exact ⟨HB3.out,by rw [HF.out];rfl⟩
theorem KU {Tb:World->Prop} (hI:bf Tb) (hL:aV Tb) (c d:Int) (w:World) (h0:-9223372036854775808<=c) (h1:c<=9223372036854775807) (d0:-9223372036854775808<=d) (d1:d<=9223372036854775807) (hT:Tb w) :
  Calls Tryz.prog 26 #[.int .i64 c,.int .i64 d] w fun e w'=>Below w.heap.size w w'/\e=.returned (.string (sV c d)):=by
 have HFn:Hid (sV c d=if 0<aT (c.tdiv 24) % 3 then (⟨#[123]⟩++yH c)++⟨#[125]⟩ else (((⟨#[123,34,36,111,114,34,58,91,123]⟩++yH c)++⟨#[125,44,123]⟩)++yH d)++⟨#[125,93,125]⟩):=rfl;obtain ⟨t1,ht1⟩:=xB c;obtain ⟨t2,ht2⟩:=xB d;have hzc:=ht1.size;have hzd:=ht2.size;clear ht1 ht2;have HT:Hid (∀ w':World,Below w.heap.size w w'->Tb w'):=fun w' hb=>hL w hT w w' hT hb;have hqb:-9223372036854775808<=c.tdiv 24/\c.tdiv 24<=9223372036854775807:=QA h0 h1 24 (by omega);have hq:IntKind.i64.wrap (c.tdiv 24)=c.tdiv 24:=by rw [IntKind.wrap_i64];omega
 have HP:=ak (fun w=>fA (c.tdiv 24) 3 w hqb.1 hqb.2 (by omega) (by omega));have HEc:=ak (fun w (ht:Tb w)=>Cm hI hL c w h0 h1 ht);have HEd:=ak (fun w (ht:Tb w)=>Cm hI hL d w d0 d1 ht);have HT0:=ak hT;obtain ⟨k,hk⟩:∃ k,aT (c.tdiv 24) % 3=k:=⟨_,rfl⟩;rw [hk] at HP HFn;generalize yH c=s at HEc HFn hzc;generalize yH d=s3 at HEd HFn hzd;generalize sV c d=fs at HFn ⊢;clear hk hqb hI hL hT h0 h1 d0 d1;by_cases hk0:0<k
 ·go_in;go_wp2_with fail;refine (HP.out w).mono ?_;rintro e w ⟨rfl,rfl⟩;go_wp2_with fail;refine (HEc.out _ HT0.out).mono ?_;rintro e w1 ⟨b1,rfl⟩;have HB:=ak b1;obtain ⟨a1,e1,z1,r1⟩:=aD ⟨#[123]⟩ s 1 s.size rfl rfl (by omega);obtain ⟨a2,e2,z2,r2⟩:=aD a1 ⟨#[125]⟩ a1.size 1 rfl rfl (by omega);have HF:Hid (a2=fs):=by show _=_;rw [e2,e1,HFn.out,if_pos hk0]
  clear b1 e1 z1 e2 z2;go_wp2_with fail;go_ret;exact ⟨HB.out,by rw [HF.out];rfl⟩
 ·go_in;go_wp2_with fail;refine (HP.out w).mono ?_;rintro e w ⟨rfl,rfl⟩;go_wp2_with fail;refine (HEc.out _ HT0.out).mono ?_;rintro e w1 ⟨b1,rfl⟩;have HB:=ak b1;obtain ⟨a1,e1,z1,r1⟩:=aD ⟨#[123,34,36,111,114,34,58,91,123]⟩ s 9 s.size rfl rfl (by omega);obtain ⟨a2,e2,z2,r2⟩:=aD a1 ⟨#[125,44,123]⟩ a1.size 3 rfl rfl (by omega);have HE2:Hid (a2=(⟨#[123,34,36,111,114,34,58,91,123]⟩++s)++⟨#[125,44,123]⟩):=by show _=_;rw [e2,e1]
  have hz2:a2.size<=72:=by omega
  clear b1 e1 z1 e2 z2;go_wp2_with fail;refine (HEd.out _ (HT.out _ HB.out)).mono ?_;rintro e w3 ⟨b3,rfl⟩;obtain ⟨a3,e3,z3,r3⟩:=aD a2 s3 a2.size s3.size rfl rfl (by omega);obtain ⟨a4,e4,z4,r4⟩:=aD a3 ⟨#[125,93,125]⟩ a3.size 3 rfl rfl (by omega);have HF:Hid (a4=fs):=by show _=_;rw [e4,e3,HE2.out,HFn.out,if_neg (by omega)]
  have HB3:=ak (HB.out.trans (b3.mono HB.out.size));clear b3 e3 z3 e4 z4 hz2;go_wp2_with fail;go_ret;exact ⟨HB3.out,by rw [HF.out];rfl⟩
def q8:T:=dh 1 0 ByteArray.empty
def aA (p:List ByteArray) (doc:T):T:=(j6 p doc).getD q8
theorem At.up1 {w:World}:∀ {f:Nat} {v:Value} {t:T},At w f v t->At w (f+1) v t:=by
 intro f
 induction f with
 | zero=>intro v t h;exact h.elim
 | succ f ih =>
  rintro v t ⟨La,Ka,Lc,Kc,rfl,hf,hl,hk⟩;refine ⟨La,Ka,Lc,Kc,rfl,hf,fun i hi=>?_,hk⟩;obtain ⟨b,o,c0,c1,c2,c3,c4,h0,hb,q0,q1,q2,q3,q4,ha⟩:=hl i hi;exact ⟨b,o,c0,c1,c2,c3,c4,h0,hb,q0,q1,q2,q3,q4,ih ha⟩
theorem At.up {w:World} {f:Nat} {v:Value} {t:T} (h:At w f v t):∀ {g:Nat},f<=g->At w g v t:=by
 intro g hg
 induction hg with
 | refl=>exact h
 | step _ ih=>exact ih.up1
def lN (w0:World) (g:T->Int⊕T) (doc:T) (w:World) (e:Ending) (w':World):Prop :=
 Below w.heap.size w w'/\((∃ x,g doc=.inl x/\x≠0/\e=.returned (.tuple #[.agg #[.int .i64 0,.int .i64 0,.string ⟨#[]⟩,.slice none 0 0,.slice none 0 0],.int .i64 x])) \/
  ∃ t A B C D,g doc=.inr t/\e=.returned (.tuple #[.agg #[.int .i64 (aj t),.int .i64 (av t),.string (ay t),.slice A (nL t) B,.slice C (nK t) D],.int .i64 0])/\At w0 13 (.agg #[.int .i64 (aj t),.int .i64 (av t),.string (ay t),.slice A (nL t) B,.slice C (nK t) D]) t/\bM t)
def dO (Tb:World->Prop) (w:World) (v:Value) (g:T->Int⊕T):Prop :=
 ∃ (ty:TypeId) (p:Value) (fid:FuncId),v=.iface ty p/\(∀ w':World,(method 481 ty p "Of").run Tryz.prog w'=.ok (fid,p) w')/\(∀ (a:Array Value) (w':World),(callFunc fid a).run Tryz.prog w'=.ok (.enter fid a) w') /\
  ∀ (w0 wr:World) (x:Value) (doc:T),Below w.heap.size w w0->Below w0.heap.size w0 wr->At w0 13 x doc->bM doc->Tb wr->Calls Tryz.prog fid #[p,x] wr (lN w0 g doc wr)
theorem dO.keep {Tb:World->Prop} {w w':World} {v:Value} {g:T->Int⊕T} (h:dO Tb w v g) (hb:Below w.heap.size w w'):dO Tb w' v g:=by
 obtain ⟨ty,p,fid,rfl,h1,h2,h3⟩:=h;exact ⟨ty,p,fid,rfl,h1,h2,fun w0 wr x doc hr=>h3 w0 wr x doc (hb.trans (hr.mono hb.size))⟩
theorem bU {w W:World} (h:Below w.heap.size w W) {b:Nat} (hb:w.heap.size<=b) (hl:b<=W.heap.size) (u0 u1 u2 u3 u4:Value):Below w.heap.size w (bV W b u0 u1 u2 u3 u4):=h.trans (((jd W b u0 u1 u2 u3 u4).below hl).mono hb)
theorem WE:bM q8:=wP (m:=0) (show aW q8 from ⟨rfl,rfl,.inl ⟨rfl,rfl,by kernel_rfl⟩⟩) (by decide)
theorem Zw (w:World):At w 13 (.agg #[.int .i64 1,.int .i64 0,.string ⟨#[]⟩,.slice none 0 0,.slice none 0 0]) q8:=by
 have h:At w 1 (.agg #[.int .i64 1,.int .i64 0,.string ⟨#[]⟩,.slice none 0 0,.slice none 0 0]) q8:=by
  refine ⟨none,none,0,0,rfl,⟨by decide,by decide,by decide,by decide,?_,?_,?_⟩,fun i hi=>absurd hi (Nat.not_lt_zero i),fun i hi=>absurd hi (Nat.not_lt_zero i)⟩
  ·show (0:Nat)<=_;omega
  ·show (0:Nat)<=_;omega
  ·show (0:Nat)<=_;omega
 exact h.up (by omega)
theorem vR {Tb:World->Prop} (hA:dn Tb) (hI:bf Tb) (hL:aV Tb) (pv:Value) (ps:List ByteArray) (x:Value) (doc:T) (w0 w:World) (hb0:Below w0.heap.size w0 w) (hp:bI w pv ps) (h:At w0 13 x doc) (hok:bM doc) (hT:Tb w) :
  Calls Tryz.prog 333 #[pv,x] w fun e w'=>Below w.heap.size w w'/\∃ r A B C D,aA ps doc=r/\e=.returned (.agg #[.int .i64 (aj r),.int .i64 (av r),.string (ay r),.slice A (nL r) B,.slice C (nK r) D])/\At w0 13 (.agg #[.int .i64 (aj r),.int .i64 (av r),.string (ay r),.slice A (nL r) B,.slice C (nK r) D]) r/\bM r:=by
 obtain ⟨g1,La,Ka,Lc,Kc,hg1,hx,_,_,_⟩:=h.open;have HB1:Hid (Below w.heap.size w ((w.alloc (vC doc La Lc Ka Kc)).alloc (.cells #[.int .i64 0,.int .i64 0,.string ⟨#[]⟩,.slice none 0 0,.slice none 0 0] 25))):=(aY _ _).alloc (by simp) _
 have HX:Hid (aJ (w.heap.size+1) (.int .i64 0) (.int .i64 0) (.string ⟨#[]⟩) (.slice none 0 0) (.slice none 0 0) ((w.alloc (vC doc La Lc Ka Kc)).alloc (.cells #[.int .i64 0,.int .i64 0,.string ⟨#[]⟩,.slice none 0 0,.slice none 0 0] 25))):=by
  show aJ _ _ _ _ _ _ _;have:=aR (w.alloc (vC doc La Lc Ka Kc)) (.int .i64 0) (.int .i64 0) (.string ⟨#[]⟩) (.slice none 0 0) (.slice none 0 0);simpa using this
 have HC:=ak (JO hA hI hL pv ps 13 x doc w0 _ (hb0.trans (HB1.out.mono hb0.size)) (hp.keep HB1.out) h hok (hL w hT _ _ hT HB1.out));subst hx;clear hp h hok hT hA hI hL hg1 hb0;go_in;go_wp2_with fail;refine HC.out.mono ?_;rintro e w3 ⟨b3,⟨r,g,A,B,C,D,hr,hg,rfl,ha,hk⟩ | ⟨hr,rfl⟩⟩
 ·have HR:Hid (aA ps doc=r):=by show _=_;unfold aA;rw [hr];rfl
  have fT:=ak (aY w3 (vC r A B C D));have HB3:=ak (HB1.out.trans (b3.mono HB1.out.size));have eO:=ak ((HX.out.stay b3).stay fT.out);have He:=ak (aR w3 (.int .i64 (aj r)) (.int .i64 (av r)) (.string (ay r)) (.slice A (nL r) B) (.slice C (nK r) D));have HO:=ak (eO.out.bV (.int .i64 (aj r)) (.int .i64 (av r)) (.string (ay r)) (.slice A (nL r) B) (.slice C (nK r) D));have fI:=ak (bU (HB3.out.trans (fT.out.mono HB3.out.size)) (b:=w.heap.size+1) (by omega) (by have:=eO.out.lt;omega) (.int .i64 (aj r)) (.int .i64 (av r)) (.string (ay r)) (.slice A (nL r) B) (.slice C (nK r) D));have oM:=ak (ha.up hg);have HK:=ak hk;unfold bV at HO fI;clear b3 ha hk hg hr HC;have y0:=He.out.q0;have y1:=He.out.q1;have y2:=He.out.q2;have y3:=He.out.q3;have y4:=He.out.q4;have r0:=eO.out.q0;have r1:=eO.out.q1;have r2:=eO.out.q2;have r3:=eO.out.q3;have r4:=eO.out.q4;have z0:=eO.out.f0;have z1:=eO.out.f1;have z2:=eO.out.f2;have z3:=eO.out.f3;have z4:=eO.out.f4;go_wp2_with fail;clear r0 r1 r2 r3 r4 z0 z1 z2 z3 z4;have dB:=ak HO.out;have r0:=dB.out.q0;have r1:=dB.out.q1;have r2:=dB.out.q2;have r3:=dB.out.q3;have r4:=dB.out.q4;refine bodyPost_ret (v:=.agg #[.int .i64 (aj r),.int .i64 (av r),.string (ay r),.slice A (nL r) B,.slice C (nK r) D]) (by simp [results,Tryz.results333,go_sem, *]) rfl ?_;exact ⟨fI.out,r,A,B,C,D,HR.out,rfl,oM.out,HK.out⟩
 ·have HR:Hid (aA ps doc=q8):=by show _=_;unfold aA;rw [hr];rfl
  have fT:=ak (aY w3 (.cells #[.int .i64 0,.int .i64 0,.string ⟨#[]⟩,.slice none 0 0,.slice none 0 0] 25));have HB3:=ak (HB1.out.trans (b3.mono HB1.out.size));have eO:=ak ((HX.out.stay b3).stay fT.out);have HO:=ak (eO.out.bV (.int .i64 1) (.int .i64 0) (.string ⟨#[]⟩) (.slice none 0 0) (.slice none 0 0));have fI:=ak (bU (HB3.out.trans (fT.out.mono HB3.out.size)) (b:=w.heap.size+1) (by omega) (by have:=eO.out.lt;omega) (.int .i64 1) (.int .i64 0) (.string ⟨#[]⟩) (.slice none 0 0) (.slice none 0 0));unfold bV at HO fI;clear b3 hr HC;have r0:=eO.out.q0;have r1:=eO.out.q1;have r2:=eO.out.q2;have r3:=eO.out.q3;have r4:=eO.out.q4;have z0:=eO.out.f0;have z1:=eO.out.f1;have z2:=eO.out.f2;have z3:=eO.out.f3;have z4:=eO.out.f4;go_wp2_with fail;clear r0 r1 r2 r3 r4 z0 z1 z2 z3 z4;have dB:=ak HO.out;have r0:=dB.out.q0;have r1:=dB.out.q1;have r2:=dB.out.q2;have r3:=dB.out.q3;have r4:=dB.out.q4;refine bodyPost_ret (v:=.agg #[.int .i64 1,.int .i64 0,.string ⟨#[]⟩,.slice none 0 0,.slice none 0 0]) (by simp [results,Tryz.results333,go_sem, *]) rfl ?_;exact ⟨fI.out,q8,none,0,none,0,HR.out,rfl,Zw _,WE⟩
theorem N9 (t doc:T) (A C La Ka:Option Addr) (B D Lc Kc:Nat) (w:World) :
  Calls Tryz.prog 379 #[.agg #[.int .i64 (aj t),.int .i64 (av t),.string (ay t),.slice A (nL t) B,.slice C (nK t) D],.agg #[.int .i64 (aj doc),.int .i64 (av doc),.string (ay doc),.slice La (nL doc) Lc,.slice Ka (nK doc) Kc]] w fun e w'=>Below w.heap.size w w'/\e=.returned (.tuple #[.agg #[.int .i64 (aj t),.int .i64 (av t),.string (ay t),.slice A (nL t) B,.slice C (nK t) D],.int .i64 0]):=by
 have HB1:Hid (Below w.heap.size w (((w.alloc (.cells #[.int .i64 (aj t),.int .i64 (av t),.string (ay t),.slice A (nL t) B,.slice C (nK t) D] 331)).alloc (.cells #[.int .i64 (aj doc),.int .i64 (av doc),.string (ay doc),.slice La (nL doc) Lc,.slice Ka (nK doc) Kc] 25)).alloc (.cells #[.int .i64 (aj t),.int .i64 (av t),.string (ay t),.slice A (nL t) B,.slice C (nK t) D] 25))):=(((Below.refl _ _).alloc (Nat.le_refl _) _).alloc (by simp) _).alloc (by simp;omega) _;go_in;go_wp2_with fail;refine bodyPost_ret (v:=.tuple #[.agg #[.int .i64 (aj t),.int .i64 (av t),.string (ay t),.slice A (nL t) B,.slice C (nK t) D],.int .i64 0]) (by simp [results,Tryz.results379,go_sem]) rfl ?_;exact ⟨HB1.out,rfl⟩
theorem SH {Tb:World->Prop} (hA:dn Tb) (hI:bf Tb) (hL:aV Tb) (pv:Value) (ps:List ByteArray) (x:Value) (doc:T) (w0 w:World) (hb0:Below w0.heap.size w0 w) (hp:bI w pv ps) (h:At w0 13 x doc) (hok:bM doc) (hT:Tb w) :
  Calls Tryz.prog 380 #[.agg #[pv],x] w (lN w0 (fun d=>.inr (aA ps d)) doc w):=by
 obtain ⟨g1,La,Ka,Lc,Kc,hg1,hx,_,_,_⟩:=h.open;have Hp:=ak hp;obtain ⟨PA,pc,hpv,_,_⟩:=hp;have HB1:Hid (Below w.heap.size w (((w.alloc (.cells #[pv] 334)).alloc (.cells #[.int .i64 (aj doc),.int .i64 (av doc),.string (ay doc),.slice La (nL doc) Lc,.slice Ka (nK doc) Kc] 25)).alloc (.cells #[.int .i64 0,.int .i64 0,.string ⟨#[]⟩,.slice none 0 0,.slice none 0 0] 25))):=(((Below.refl _ _).alloc (Nat.le_refl _) _).alloc (by simp) _).alloc (by simp;omega) _
 have HX:Hid (aJ (w.heap.size+2) (.int .i64 0) (.int .i64 0) (.string ⟨#[]⟩) (.slice none 0 0) (.slice none 0 0) (((w.alloc (.cells #[pv] 334)).alloc (.cells #[.int .i64 (aj doc),.int .i64 (av doc),.string (ay doc),.slice La (nL doc) Lc,.slice Ka (nK doc) Kc] 25)).alloc (.cells #[.int .i64 0,.int .i64 0,.string ⟨#[]⟩,.slice none 0 0,.slice none 0 0] 25))):=by
  show aJ _ _ _ _ _ _ _;have:=aR ((w.alloc (.cells #[pv] 334)).alloc (.cells #[.int .i64 (aj doc),.int .i64 (av doc),.string (ay doc),.slice La (nL doc) Lc,.slice Ka (nK doc) Kc] 25)) (.int .i64 0) (.int .i64 0) (.string ⟨#[]⟩) (.slice none 0 0) (.slice none 0 0);simpa using this
 have HC:=ak (vR hA hI hL pv ps x doc w0 _ (hb0.trans (HB1.out.mono hb0.size)) (Hp.out.keep HB1.out) h hok (hL w hT _ _ hT HB1.out));subst hx;subst hpv;clear h hok hT hA hI hL hg1 hb0 Hp;go_in;go_wp2_with fail;refine HC.out.mono ?_;rintro e w3 ⟨b3,r,A,B,C,D,hr,rfl,ha,hk⟩;have eO:=ak (HX.out.stay b3);have HB3:=ak (HB1.out.trans (b3.mono HB1.out.size));have HO:=ak (eO.out.bV (.int .i64 (aj r)) (.int .i64 (av r)) (.string (ay r)) (.slice A (nL r) B) (.slice C (nK r) D));have fI:=ak (bU HB3.out (b:=w.heap.size+2) (by omega) (by have:=eO.out.lt;omega) (.int .i64 (aj r)) (.int .i64 (av r)) (.string (ay r)) (.slice A (nL r) B) (.slice C (nK r) D));have oM:=ak ha;have HK:=ak (And.intro hk hr);unfold bV at HO fI;clear b3 ha hk hr HC;have r0:=eO.out.q0;have r1:=eO.out.q1;have r2:=eO.out.q2;have r3:=eO.out.q3;have r4:=eO.out.q4;have z0:=eO.out.f0;have z1:=eO.out.f1;have z2:=eO.out.f2;have z3:=eO.out.f3;have z4:=eO.out.f4;go_wp2_with fail;clear r0 r1 r2 r3 r4 z0 z1 z2 z3 z4;have dB:=ak HO.out;have r0:=dB.out.q0;have r1:=dB.out.q1;have r2:=dB.out.q2;have r3:=dB.out.q3;have r4:=dB.out.q4;refine bodyPost_ret (v:=.tuple #[.agg #[.int .i64 (aj r),.int .i64 (av r),.string (ay r),.slice A (nL r) B,.slice C (nK r) D],.int .i64 0]) (by simp [results,Tryz.results380,go_sem, *]) rfl ?_;exact ⟨fI.out,.inr ⟨r,A,B,C,D,by rw [<- HK.out.2],rfl,oM.out,HK.out.1⟩⟩
theorem KV (p:Value) (w:World):(method 481 331 p "Of").run Tryz.prog w=.ok (379,p) w:=by kernel_rfl
theorem Oa (p:Value) (w:World):(method 481 334 p "Of").run Tryz.prog w=.ok (380,p) w:=by kernel_rfl
theorem SI (Tb:World->Prop) {w:World} {t:T} {A C:Option Addr} {B D:Nat} (h:At w 13 (.agg #[.int .i64 (aj t),.int .i64 (av t),.string (ay t),.slice A (nL t) B,.slice C (nK t) D]) t) (hk:bM t):dO Tb w (.iface 331 (.agg #[.int .i64 (aj t),.int .i64 (av t),.string (ay t),.slice A (nL t) B,.slice C (nK t) D])) (fun _=>.inr t):=by
 refine ⟨_,_,_,rfl,KV _,fun _ _=>rfl,fun w0 wr x doc hb hb0 ha _ _=>?_⟩;obtain ⟨g1,La,Ka,Lc,Kc,hg1,rfl,_,_,_⟩:=ha.open;refine (N9 t doc A C La Ka B D Lc Kc wr).mono ?_;rintro e w' ⟨h1,rfl⟩;exact ⟨h1,.inr ⟨t,A,B,C,D,rfl,rfl,h.keep hb,hk⟩⟩
theorem WG {Tb:World->Prop} (hA:dn Tb) (hI:bf Tb) (hL:aV Tb) {w:World} {pv:Value} {ps:List ByteArray} (hp:bI w pv ps):dO Tb w (.iface 334 (.agg #[pv])) (fun d=>.inr (aA ps d)) :=
 ⟨_,_,_,rfl,Oa _,fun _ _=>rfl,fun w0 wr x doc hb hb0 ha hk hT=>SH hA hI hL pv ps x doc w0 wr hb0 ((hp.keep hb).keep hb0) ha hk hT⟩
def oP (Tb:World->Prop) (w:World) (v:Value) (gs:List (T->Int⊕T)):Prop :=
 ∃ A c,v=.slice A gs.length c/\gs.length<=1000000/\∀ i,(h:i<gs.length)->∃ b o u,A=some ⟨b,o,none⟩/\b<w.heap.size/\w.cell? ⟨b,o+i,none⟩=some u/\dO Tb w u gs[i]
theorem oP.keep {Tb:World->Prop} {w w':World} {v:Value} {gs:List (T->Int⊕T)} (h:oP Tb w v gs) (hb:Below w.heap.size w w'):oP Tb w' v gs:=by
 obtain ⟨A,c,hv,hn,h⟩:=h;refine ⟨A,c,hv,hn,fun i hi=>?_⟩;obtain ⟨b,o,u,h0,hl,q,hu⟩:=h i hi;exact ⟨b,o,u,h0,Nat.lt_of_lt_of_le hl hb.size,(hb.cell (p:=⟨b,_,none⟩) hl).trans q,hu.keep hb⟩
def zu (gs:List (T->Int⊕T)) (doc:T):Int⊕List T:=match gs with
 | []=>.inr []
 | g::r=>match g doc with
  | .inl x=>.inl x
  | .inr t=>match zu r doc with
   | .inl x=>.inl x
   | .inr l=>.inr (t::l)
theorem Ib (gs:List (T->Int⊕T)) (g:T->Int⊕T) (r:List (T->Int⊕T)) (doc:T) {l:List T} {x:Int} (h:zu gs doc=.inr l) (hg:g doc=.inl x):zu (gs++g::r) doc=.inl x:=by
 induction gs generalizing l with
 | nil=>simp only [List.nil_append,zu,hg]
 | cons a s ih =>
  rw [List.cons_append];unfold zu at h ⊢;cases ha:a doc with
  | inl y=>rw [ha] at h;cases h
  | inr t =>
   rw [ha] at h;cases hs:zu s doc with
   | inl y=>simp only [hs] at h;cases h
   | inr m=>simp only [ih hs]
theorem WH (gs:List (T->Int⊕T)) (g:T->Int⊕T) (doc:T) {l:List T} {t:T} (h:zu gs doc=.inr l) (hg:g doc=.inr t):zu (gs++[g]) doc=.inr (l++[t]):=by
 induction gs generalizing l with
 | nil =>
  simp only [zu,Sum.inr.injEq] at h;subst h;simp only [List.nil_append,zu,hg]
 | cons a s ih =>
  rw [List.cons_append];unfold zu at h ⊢;cases ha:a doc with
  | inl y=>rw [ha] at h;cases h
  | inr u =>
   rw [ha] at h;cases hs:zu s doc with
   | inl y=>simp only [hs] at h;cases h
   | inr m =>
    simp only [hs,Sum.inr.injEq] at h;subst h;simp only [ih hs,List.cons_append]
theorem mR {w w':World} {b:Nat} (h:b<w.heap.size) (e:w'.heap[b]?=w.heap[b]?):b<w'.heap.size:=by
 rw [Array.getElem?_eq_getElem h] at e;exact (Array.getElem?_eq_some_iff.1 e).1
def gW (wB w:World) (X:Nat->Prop) (P:World->Prop):Prop:=∃ Y:Nat->Prop,(∀ b,Y b->X b/\b<w.heap.size)/\∀ w':World,Below wB.heap.size wB w'->(∀ b,Y b->w'.heap[b]?=w.heap[b]?)->P w'
theorem gW.move {wB w w1:World} {X X1:Nat->Prop} {P:World->Prop} (h:gW wB w X P) (hb:∀ b,X b->w1.heap[b]?=w.heap[b]?/\X1 b):gW wB w1 X1 P:=by
 obtain ⟨Y,h1,h2⟩:=h;exact ⟨Y,fun b hy=>⟨(hb b (h1 b hy).1).2,mR (h1 b hy).2 (hb b (h1 b hy).1).1⟩,fun w' hw hy=>h2 w' hw fun b hb'=>(hy b hb').trans (hb b (h1 b hb').1).1⟩
theorem gW.mono {wB w:World} {X:Nat->Prop} {P Q:World->Prop} (h:gW wB w X P) (hPQ:∀ w':World,Below wB.heap.size wB w'->P w'->Q w'):gW wB w X Q:=by
 obtain ⟨Y,h1,h2⟩:=h;exact ⟨Y,h1,fun w' hw hy=>hPQ w' hw (h2 w' hw hy)⟩
theorem gW.and {wB w:World} {X:Nat->Prop} {P Q:World->Prop} (h:gW wB w X P) (h':gW wB w X Q):gW wB w X (fun x=>P x/\Q x):=by
 obtain ⟨Y,h1,h2⟩:=h;obtain ⟨Z,h3,h4⟩:=h';exact ⟨fun b=>Y b\/Z b,fun b hb=>hb.elim (h1 b) (h3 b),fun w' hw hy=>⟨h2 w' hw fun b hb=>hy b (.inl hb),h4 w' hw fun b hb=>hy b (.inr hb)⟩⟩
theorem gW.at {wB w:World} {X:Nat->Prop} {P:World->Prop} (h:gW wB w X P) (hb:Below wB.heap.size wB w):P w:=by
 obtain ⟨Y,h1,h2⟩:=h;exact h2 w hb fun _ _=>rfl
theorem gW.all {wB w:World} {X:Nat->Prop} {P:World->Prop} (h:∀ w':World,Below wB.heap.size wB w'->P w'):gW wB w X P:=⟨fun _=>False,fun _ hb=>hb.elim,fun w' hw _=>h w' hw⟩
theorem gW.later {wB w0 wa w1 w2:World} {P:World->Prop} (h:gW wB w1 (aS w0 w1) P) (hb:Below w1.heap.size w1 w2) (hs:wa.heap.size<=w0.heap.size):gW wB w2 (aS wa w2) P :=
 h.move fun b hx=>⟨hb.block b hx.2,Nat.le_trans hs hx.1,Nat.lt_of_lt_of_le hx.2 hb.size⟩
def iY (Tb:World->Prop) (wB:World) (g:T->Int⊕T) (w:World) (e:Ending) (w':World):Prop :=
 Below w.heap.size w w'/\∃ ty p,e=.returned (.iface ty p)/\gW wB w' (aS w w') (fun x=>dO Tb x (.iface ty p) g)
def fV (Tb:World->Prop) (t:T) (g:T->Int⊕T):Prop:=∀ (v:Value) (wB w:World),At wB 13 v t->bM t->Below wB.heap.size wB w->Tb w->Calls Tryz.prog 289 #[v] w (iY Tb wB g w)
theorem uo (w:World):Calls Tryz.prog 296 #[.bool true] w fun e w'=>w'=w/\e=.returned (.tuple #[]):=by
 have HC:=ak (vJ true 9 w);simp only [if_true] at HC;go_in;go_wp2_with fail;refine HC.out.mono ?_;rintro e w2 ⟨rfl,rfl⟩;go_wp2_with fail;refine bodyPost_end (v:=.tuple #[]) (by simp [results,Tryz.results296,go_sem]) rfl ?_;exact ⟨rfl,rfl⟩
theorem dW (w:World):Calls Tryz.prog 192 #[.bool true] w fun e w'=>w'=w/\e=.returned (.tuple #[]):=by
 have HC:=ak (vJ true 9 w);simp only [if_true] at HC;go_in;go_wp2_with fail;refine HC.out.mono ?_;rintro e w2 ⟨rfl,rfl⟩;go_wp2_with fail;refine bodyPost_end (v:=.tuple #[]) (by simp [results,Tryz.results192,go_sem]) rfl ?_;exact ⟨rfl,rfl⟩
theorem KW (t j:T) (hj:elt t 0=j) (v:Value) (w0 w:World) (h:At w0 13 v t) (hk:bM t) (k6:aj t=6) (k1:nK t=1) (hb0:Below w0.heap.size w0 w) :
  Calls Tryz.prog 258 #[v] w fun e w'=>Below w.heap.size w w'/\∃ A B C D,e=.returned (.tuple #[.string (bO t 0),.agg #[.int .i64 (aj j),.int .i64 (av j),.string (ay j),.slice A (nL j) B,.slice C (nK j) D],.bool true])/\At w0 13 (.agg #[.int .i64 (aj j),.int .i64 (av j),.string (ay j),.slice A (nL j) B,.slice C (nK j) D]) j:=by
 obtain ⟨g1,La,Ka,Lc,Kc,hg1,rfl,hfj,hel,hnm⟩:=h.open;have l1:nL t=1:=by have:=hk.names k6;omega
 have HB1:Hid (Below w.heap.size w ((w.alloc (.cells #[.int .i64 (aj t),.int .i64 (av t),.string (ay t),.slice La (nL t) Lc,.slice Ka (nK t) Kc] 25)).alloc (.cells #[.int .i64 0,.int .i64 0,.string ⟨#[]⟩,.slice none 0 0,.slice none 0 0] 25))):=((Below.refl _ _).alloc (Nat.le_refl _) _).alloc (by simp) _;obtain ⟨kb,ko,rfl,hkb,hks,hkc⟩:=hnm.out.keep (hb0.trans (HB1.out.drew.mono hb0.size)) 0 (by omega);obtain ⟨bb,oo,A,B,C,D,rfl,hbl,p0,p1,p2,p3,p4,Ha⟩:=hel.out.shape (hb0.trans (HB1.out.drew.mono hb0.size)) 0 (by omega);simp only [Nat.add_zero,Nat.zero_mul] at hkc p0 p1 p2 p3 p4;rw [hj] at p0 p1 p2 p3 p4 Ha;have oM:=ak (Ha.out.up (show g1<=13 by omega));rw [k6,k1,l1] at *;clear h hk hel hnm hfj Ha hb0 hg1 hks hkb hbl;go_in;go_wp2_with fail;go_region_law (fail)
 all_goals
  go_wp2_with fail;refine bodyPost_ret (v:=.tuple #[.string (bO t 0),.agg #[.int .i64 (aj j),.int .i64 (av j),.string (ay j),.slice A (nL j) B,.slice C (nK j) D],.bool true]) (by simp [results,Tryz.results258,go_sem, *]) rfl ?_;have hb:Below w.heap.size w (((w.alloc (.cells #[.int .i64 6,.int .i64 (av t),.string (ay t),.slice (some ⟨bb,oo,none⟩) 1 Lc,.slice (some ⟨kb,ko,none⟩) 1 Kc] 25)).alloc (.cells #[.int .i64 (aj j),.int .i64 (av j),.string (ay j),.slice A (nL j) B,.slice C (nK j) D] 25)).drew):=(((Below.refl _ _).alloc (Nat.le_refl _) _).alloc (by simp) _).drew;exact ⟨hb,A,B,C,D,rfl,oM.out⟩
theorem KX {Tb:World->Prop} (hA:dn Tb) (hI:bf Tb) (hSp:cK Tb) (hL:aV Tb) (t:T) (x:ByteArray) (v:Value) (wB w:World) (ha:At wB 13 v t) (hop:qz (ay t)=true) (hx:(ay t).extract 1 (ay t).size=x) (h1:1<=(ay t).size) (h2:(ay t).size<=1048576) (hp:iW x=true) (hT:Tb w):Calls Tryz.prog 295 #[v] w (iY Tb wB (fun d=>.inr (aA (bW x) d)) w):=by
 obtain ⟨g1,La,Ka,Lc,Kc,hg1,rfl,_,_,_⟩:=ha.open;have HB1:Hid (Below w.heap.size w (w.alloc (.cells #[.int .i64 (aj t),.int .i64 (av t),.string (ay t),.slice La (nL t) Lc,.slice Ka (nK t) Kc] 25))):=(Below.refl _ _).alloc (Nat.le_refl _) _;have hxs:x.size<=1048576:=by rw [<- hx,ByteArray.size_extract];omega
 have HP:=ak (oN hSp x _ hxs (hL w hT _ _ hT HB1.out));have HF:Hid (∀ (pv:Value) (w1 w':World),kY w1 (aS w w1) pv (bW x)->gW wB w1 (aS w w1) (fun y=>dO Tb y (.iface 334 (.agg #[pv])) (fun d=>.inr (aA (bW x) d)))):=fun pv w1 w' hs=>⟨aS w w1,fun b hb=>⟨hb,hb.2⟩,fun w2 hw hy=>WG hA hI hL ((hs.move (X':=fun b=>b<w2.heap.size) fun b hb=>⟨hy b hb,mR hb.2 (hy b hb)⟩).at fun b hb=>hb)⟩;have HC:=ak (iw (ay t));rw [hop] at HC;have h1i:(1:Int)<=((ay t).size:Int):=by omega
 clear ha hop hg1 hT hA hI hSp hL;go_in;go_wp2_with fail;refine (HC.out _).mono ?_;rintro e w2 ⟨rfl,rfl⟩;go_wp2_with fail;refine HP.out.mono ?_;rintro e w3 ⟨b3,⟨_,pv,rfl,hs⟩ | ⟨h,_⟩⟩
 ·have HB3:=ak (HB1.out.trans (b3.mono HB1.out.size));have vM:=ak (HF.out pv w3 w3 (hs.move fun b hb=>⟨rfl,by have:=hb.1;simp at this;omega,hb.2⟩));obtain ⟨PA,pc,hpv,hz1,hz2⟩:=hs;subst hpv;clear b3 HP HF hz1 hz2;go_wp2_with fail;refine (uo _).mono ?_;rintro e w4 ⟨rfl,rfl⟩;go_wp2_with fail;go_ret;exact ⟨HB3.out,_,_,rfl,vM.out⟩
 ·rw [hp] at h;cases h
theorem Ob {Tb:World->Prop} (hL:aV Tb) (t:T) (g:T->Int⊕T) (k4:aj t=4) (h:∀ (v:Value) (wB w:World),At wB 13 v t->bM t->Below wB.heap.size wB w->Tb w->Calls Tryz.prog 295 #[v] w (iY Tb wB g w)):fV Tb t g:=by
 intro v wB w ha hk hb0 hT;obtain ⟨g1,La,Ka,Lc,Kc,hg1,rfl,_,_,_⟩:=ha.open;have HB1:Hid (Below w.heap.size w (w.alloc (.cells #[.int .i64 (aj t),.int .i64 (av t),.string (ay t),.slice La (nL t) Lc,.slice Ka (nK t) Kc] 25))):=(Below.refl _ _).alloc (Nat.le_refl _) _;have HC:=ak (h _ wB _ ha hk (hb0.trans (HB1.out.mono hb0.size)) (hL w hT _ _ hT HB1.out));rw [k4] at HB1 HC ⊢;clear ha hk hg1 hb0 hT h hL k4;go_in;go_wp2_with fail;refine HC.out.mono ?_;rintro e w2 ⟨b2,ty,p,rfl,hs⟩;have HB2:=ak (HB1.out.trans (b2.mono HB1.out.size));have HS:=ak (hs.later (wa:=w) (Below.refl _ _) (by simp));clear b2 hs HC;go_wp2_with fail;go_ret;exact ⟨HB2.out,_,_,rfl,HS.out⟩
theorem KY {Tb:World->Prop} (hL:aV Tb) (t j:T) (x:ByteArray) (g:T->Int⊕T) (k6:aj t=6) (k1:nK t=1) (hj:elt t 0=j) (hx:bO t 0=x) (h:∀ (v:Value) (wB w:World),At wB 13 v j->bM j->Below wB.heap.size wB w->Tb w->Calls Tryz.prog 297 #[.string x,v] w (iY Tb wB g w)):fV Tb t g:=by
 intro v wB w ha hk hb0 hT;have l1:nL t=1:=by have:=hk.names k6;omega
 have hkj:bM j:=by rw [<- hj];exact hk.elt (by omega)
 have Ha:=ak ha;obtain ⟨g1,La,Ka,Lc,Kc,hg1,rfl,_,_,_⟩:=ha.open;have HB1:Hid (Below w.heap.size w (w.alloc (.cells #[.int .i64 (aj t),.int .i64 (av t),.string (ay t),.slice La (nL t) Lc,.slice Ka (nK t) Kc] 25))):=(Below.refl _ _).alloc (Nat.le_refl _) _;have HC:=ak (KW t j hj _ wB _ Ha.out hk k6 k1 (hb0.trans (HB1.out.mono hb0.size)));have HT:Hid (∀ w':World,Below w.heap.size w w'->Tb w'):=fun w' hb=>hL w hT w w' hT hb;have HO:Hid (∀ (v:Value) (w':World),At wB 13 v j->Below w.heap.size w w'->Calls Tryz.prog 297 #[.string x,v] w' (iY Tb wB g w')):=fun v w' h1 h2=>h v wB w' h1 hkj (hb0.trans (h2.mono hb0.size)) (HT.out _ h2);rw [hx] at HC;rw [k6] at HB1 HC ⊢;clear ha hk hg1 hb0 hT h hL k6 k1 l1 hkj Ha hj hx;go_in;go_wp2_with fail;refine HC.out.mono ?_;rintro e w2 ⟨b2,A,B,C,D,rfl,hat⟩;have fT:Hid (Below w2.heap.size w2 (w2.alloc (.cells #[.int .i64 (aj j),.int .i64 (av j),.string (ay j),.slice A (nL j) B,.slice C (nK j) D] 25))):=(Below.refl _ _).alloc (Nat.le_refl _) _;have HB2:=ak (HB1.out.trans (b2.mono HB1.out.size));have HB3:=ak (HB2.out.trans (fT.out.mono HB2.out.size));have HX:=ak (HO.out _ _ hat HB3.out);have HY:=ak (aR w2 (.int .i64 (aj j)) (.int .i64 (av j)) (.string (ay j)) (.slice A (nL j) B) (.slice C (nK j) D));clear b2 hat HC HO;have y0:=HY.out.q0;have y1:=HY.out.q1;have y2:=HY.out.q2;have y3:=HY.out.q3;have y4:=HY.out.q4;go_wp2_with fail;refine (uo _).mono ?_;rintro e w4 ⟨rfl,rfl⟩;go_wp2_with fail
 refine HX.out.mono ?_;rintro e w5 ⟨b5,ty,p,rfl,hs⟩;have eF:=ak (HB3.out.trans (b5.mono HB3.out.size));have HS:=ak (hs.later (wa:=w) (Below.refl _ _) HB3.out.size);clear b5 hs HX;go_wp2_with fail;go_ret;exact ⟨eF.out,_,_,rfl,HS.out⟩
def ji:ByteArray:=⟨#[36,108,105,116]⟩
theorem Zx (Tb:World->Prop) (j:T) (v:Value) (wB w:World) (ha:At wB 13 v j) (hk:bM j):Calls Tryz.prog 297 #[.string ji,v] w (iY Tb wB (fun _=>.inr j) w):=by
 have Ha:=ak ha;obtain ⟨g1,La,Ka,Lc,Kc,hg1,rfl,_,_,_⟩:=ha.open;have HB1:Hid (Below w.heap.size w (w.alloc (.cells #[.int .i64 (aj j),.int .i64 (av j),.string (ay j),.slice La (nL j) Lc,.slice Ka (nK j) Kc] 25))):=(Below.refl _ _).alloc (Nat.le_refl _) _;have HS:Hid (∀ (x:World) (X:Nat->Prop),gW wB x X (fun x=>dO Tb x (.iface 331 (.agg #[.int .i64 (aj j),.int .i64 (av j),.string (ay j),.slice La (nL j) Lc,.slice Ka (nK j) Kc])) (fun _=>.inr j))):=fun x X=>gW.all fun w' hb=>SI Tb (Ha.out.keep hb) hk;unfold ji;clear ha hk hg1 Ha;go_in;go_wp2_with fail;go_ret;exact ⟨HB1.out,_,_,rfl,HS.out _ _⟩
end Go.Proofs.YtknakfpciccoaaaGreatDoor
