import Derived.Test.YtknakfpciccoaaaGreatDoorZF30
import Derived.Test.YtknakfpciccoaaaGreatDoorZF29
import Derived.Test.YtknakfpciccoaaaGreatDoorZF17
/- The reference's one test. -/
set_option maxHeartbeats 8000000
set_option maxRecDepth 100000
namespace Go.Proofs.YtknakfpciccoaaaGreatDoor
open Go.RowKit
theorem dh {a b:ByteArray} (h:(a.toList==b.data.toList)=true):a=b:=by
 by_cases e:a=b
 ·exact e
 ·rw [au e] at h;cases h
theorem BX {a b:Int} (h:a=b):(a==b)=true:=by rw [h];exact beq_self_eq_true b
theorem BZ {a b:Int} (h:¬ a=b):(a==b)=false:=by simpa using h
theorem TI (c:Int):gq oQ c=decide (0<=c):=by rw [VL,Bool.eq_iff_iff];simp;omega
theorem TJ (c:Int):gq qz c=decide (c<=0):=by rw [VN,Bool.eq_iff_iff];simp;omega
theorem TK {g:T->Bool} {op:ByteArray} {x:T} (h:gX g op x=true) (h1:(op.toList==[36,101,113])=false) (h2:(op.toList==[36,110,101])=false) (h3:(op.toList==[36,103,116])=false) (h4:(op.toList==[36,103,116,101])=false) (h5:(op.toList==[36,108,116])=false) (h6:(op.toList==[36,108,116,101])=false) (h7:(op.toList==[36,101,120,105,115,116,115])=false) (h8:(op.toList==[36,115,105,122,101])=false) (h9:(op.toList==[36,107,105,110,100])=false) (h10:(op.toList==[36,110,111,116])=false) (h11:(op.toList==[36,105,110])=false) (h12:(op.toList==[36,110,105,110])=false):op=kY:=by
 have no:∀ {b:ByteArray},(op.toList==b.data.toList)=false->¬ op=b:=fun h e=>by rw [aT e] at h;cases h
 unfold gX at h;rw [if_neg (show ¬ gL op from fun hp=>by rcases hp with e | e | e | e | e | e;exact no (b:=qb) h1 e;exact no (b:=yM) h2 e;exact no (b:=yN) h3 e;exact no (b:=oQ) h4 e;exact no (b:=yO) h5 e;exact no (b:=qz) h6 e),if_neg (fun hp=>by rcases hp with e | e;exact no (b:=qc) h11 e;exact no (b:=mR) h12 e),if_neg (no (b:=eG) h7),if_neg (no (b:=jc) h8),if_neg (no (b:=jE) h9)] at h;by_cases e:op=kY
 ·exact e
 ·rw [if_neg (fun hp=>hp.elim (no (b:=mU) h10) e)] at h;cases h
theorem VO {m:Nat} {op:ByteArray} {x v:T} (h:gX (dR m) op x=true) (h1:(op.toList==[36,101,113])=false) (h2:(op.toList==[36,110,101])=false) (h3:(op.toList==[36,103,116])=false) (h4:(op.toList==[36,103,116,101])=false) (h5:(op.toList==[36,108,116])=false) (h6:(op.toList==[36,108,116,101])=false) (h7:(op.toList==[36,101,120,105,115,116,115])=false) (h8:(op.toList==[36,115,105,122,101])=false) (h9:(op.toList==[36,107,105,110,100])=false) (h10:(op.toList==[36,110,111,116])=false) (h11:(op.toList==[36,105,110])=false) (h12:(op.toList==[36,110,105,110])=false):lC (m+1) (op,x) v false=false:=by
 rw [TK h h1 h2 h3 h4 h5 h6 h7 h8 h9 h10 h11 h12,TH];rfl
theorem aaA (f:Nat) (ih:xM f) (m:Nat) (op:ByteArray) (xv:Value) (x:T) (g:Nat) (vv:Value) (v:T) (w:World) (hx:At w f xv x) (hv:At w g vv v) (hm:f<=m) (yG:dZ x) (zQ:dZ v) (BR:Gd x) (sW:f<=16) (lQ:g<=16) (hok:gX (dR m) op x=true) :
  Calls Tryz.prog 243 #[.string op,xv,vv,.bool false] w fun e w'=>e=.returned (.bool (lC (m+1) (op,x) v false))/\Below w.heap.size w w':=by
 have HX:=aj hx;have HV:=aj hv;obtain ⟨g1,La,Ka,Lc,Kc,hg,rfl,hfx,hl,hk⟩:=hx.open;obtain ⟨g2,Va,Vk,Vc,Wc,hg2,rfl,Gq,_,_⟩:=hv.open;have HB:Hid (Below w.heap.size w ((w.alloc (.cells #[.int .i64 (ah x),.int .i64 (aB x),.string (aF x),.slice La (nL x) Lc,.slice Ka (nK x) Kc] 25)).alloc (.cells #[.int .i64 (ah v),.int .i64 (aB v),.string (aF v),.slice Va (nL v) Vc,.slice Vk (nK v) Wc] 25))):=iY _ _ _;have HC:=aj (fun h=>ih m _ x g _ v false _ (HX.out.keep HB.out) (HV.out.keep HB.out) hm yG zQ BR (fun h=>by cases h) sW lQ h);have gT:=aj hok;clear hx hv hm yG zQ BR sW lQ hok hfx Gq hl hk hg hg2 ih;go_in;go_wp2_with fail
 ·go_ret;exact ⟨by rw [show op=qb from dh (show (op.toList==[36,101,113])=true by assumption),TD];rfl,HB.out⟩
 ·go_ret;exact ⟨by rw [show op=yM from dh (show (op.toList==[36,110,101])=true by assumption),Xf];rfl,HB.out⟩
 ·go_ret;exact ⟨by rw [show op=yN from dh (show (op.toList==[36,103,116])=true by assumption),lS _ _ _ (.inl rfl)];rfl,HB.out⟩
 ·go_ret;exact ⟨by rw [show op=oQ from dh (show (op.toList==[36,103,116,101])=true by assumption),lS _ _ _ (.inr (.inl rfl))];rfl,HB.out⟩
 ·go_ret;exact ⟨by rw [show op=yO from dh (show (op.toList==[36,108,116])=true by assumption),lS _ _ _ (.inr (.inr (.inl rfl)))];rfl,HB.out⟩
 ·go_ret;exact ⟨by rw [show op=qz from dh (show (op.toList==[36,108,116,101])=true by assumption),lS _ _ _ (.inr (.inr (.inr rfl)))];rfl,HB.out⟩
 ·go_ret;exact ⟨by rw [show op=eG from dh (show (op.toList==[36,101,120,105,115,116,115])=true by assumption),Xg];exact av (by cases (aB x==1)<;>rfl),HB.out⟩
 ·go_ret;exact ⟨by rw [show op=jc from dh (show (op.toList==[36,115,105,122,101])=true by assumption),FY];rfl,HB.out⟩
 ·go_ret;exact ⟨by rw [show op=jE from dh (show (op.toList==[36,107,105,110,100])=true by assumption),Oe];rfl,HB.out⟩
 ·have e:op=mU:=dh (show (op.toList==[36,110,111,116])=true by assumption);subst e;refine (HC.out gT.out).mono ?_;rintro e w2 ⟨rfl,b2⟩;have HB2:=aj (HB.out.trans (b2.mono HB.out.size));have HE:=aj (TG m x v false);generalize uw m (iO x) v false=r at HE;clear b2 HC;go_wp2_with fail;go_ret;exact ⟨by rw [HE.out];rfl,HB2.out⟩
 ·have HE:Hid (lC (m+1) (op,x) v false=false):=by show _=_;rw [show op=qc from dh (show (op.toList==[36,105,110])=true by assumption),Xh];rfl
  go_loopg [12,13] 0 (fun g s i wr=>g=0/\s=.bool false/\i=.int .i64 0/\wr=((w.alloc (.cells #[.int .i64 (ah x),.int .i64 (aB x),.string (aF x),.slice La (nL x) Lc,.slice Ka (nK x) Kc] 25)).alloc (.cells #[.int .i64 (ah v),.int .i64 (aB v),.string (aF v),.slice Va (nL v) Vc,.slice Vk (nK v) Wc] 25)))
  case atStart=>exact ⟨rfl,rfl,rfl,rfl⟩
  case round =>
   obtain ⟨_,rfl,rfl,rfl⟩:=hrel;go_wp2_with fail
   all_goals
    go_ret;exact ⟨by rw [HE.out];first | rfl | (simp_all),HB.out⟩
 ·exfalso
  simp_all
 ·have HE:Hid (lC (m+1) (op,x) v false=true):=by show _=_;rw [show op=mR from dh (show (op.toList==[36,110,105,110])=true by assumption),TF];rfl
  go_loopg [12,13] 0 (fun g s i wr=>g=0/\s=.bool false/\i=.int .i64 0/\wr=((w.alloc (.cells #[.int .i64 (ah x),.int .i64 (aB x),.string (aF x),.slice La (nL x) Lc,.slice Ka (nK x) Kc] 25)).alloc (.cells #[.int .i64 (ah v),.int .i64 (aB v),.string (aF v),.slice Va (nL v) Vc,.slice Vk (nK v) Wc] 25)))
  case atStart=>exact ⟨rfl,rfl,rfl,rfl⟩
  case round =>
   obtain ⟨_,rfl,rfl,rfl⟩:=hrel;go_wp2_with fail
   all_goals
    go_ret;exact ⟨by rw [HE.out];first | rfl | (simp_all),HB.out⟩
 ·have HE:Hid (lC (m+1) (op,x) v false=false):=VO gT.out (by assumption) (by assumption) (by assumption) (by assumption) (by assumption) (by assumption) (by assumption) (by assumption) (by assumption) (by assumption) (by assumption) (by assumption);go_loopg [12,14] 0 (fun g s i wr=>g=0/\s=.bool false/\i=.int .i64 0/\wr=((w.alloc (.cells #[.int .i64 (ah x),.int .i64 (aB x),.string (aF x),.slice La (nL x) Lc,.slice Ka (nK x) Kc] 25)).alloc (.cells #[.int .i64 (ah v),.int .i64 (aB v),.string (aF v),.slice Va (nL v) Vc,.slice Vk (nK v) Wc] 25)))
  case atStart=>exact ⟨rfl,rfl,rfl,rfl⟩
  case round =>
   obtain ⟨_,rfl,rfl,rfl⟩:=hrel;go_wp2_with fail
   all_goals
    go_ret;exact ⟨by rw [HE.out];first | rfl | (simp_all),HB.out⟩
theorem aaB (f:Nat) (ih:xM f) (m:Nat) (op:ByteArray) (xv:Value) (x:T) (g:Nat) (vv:Value) (v:T) (w:World) (hx:At w f xv x) (hv:At w g vv v) (hm:f<=m) (yG:dZ x) (zQ:dZ v) (BR:Gd x) (J5:Gd v) (sW:f<=16) (lQ:g<=16) (hok:gX (dR m) op x=true) (hi:¬ op=qc) (hn:¬ op=mR) (ha:¬ op=kY) :
  Calls Tryz.prog 243 #[.string op,xv,vv,.bool true] w fun e w'=>e=.returned (.bool (lC (m+1) (op,x) v true))/\Below w.heap.size w w':=by
 have HX:=aj hx;have HV:=aj hv;obtain ⟨g1,La,Ka,Lc,Kc,hg,rfl,hfx,hl,hk⟩:=hx.open;obtain ⟨g2,Va,Vk,Vc,Wc,hg2,rfl,Gq,hlv,_⟩:=hv.open;have HB:Hid (Below w.heap.size w ((w.alloc (.cells #[.int .i64 (ah x),.int .i64 (aB x),.string (aF x),.slice La (nL x) Lc,.slice Ka (nK x) Kc] 25)).alloc (.cells #[.int .i64 (ah v),.int .i64 (aB v),.string (aF v),.slice Va (nL v) Vc,.slice Vk (nK v) Wc] 25))):=iY _ _ _;have HC:Hid (∀ w2,Below w.heap.size w w2->dR m x=true->_):=fun w2 hb h=>ih m _ x g _ v true w2 (HX.out.keep hb) (HV.out.keep hb) hm yG zQ BR (fun _=>J5) sW lQ h;have HO:=aj (sJ (HV.out.keep HB.out) (HX.out.keep HB.out) lQ zQ yG J5 BR);have gT:=aj hok;have Hno:=aj ha;have n1:(op.toList==[36,105,110])=false:=au hi;have n2:(op.toList==[36,110,105,110])=false:=au hn;obtain ⟨cc,hcc⟩:∃ cc,bq 16 v x=cc:=⟨_,rfl⟩;have Za:=aj hcc;have hbd:=zo 16 v x;rw [hcc] at HO hbd;clear hx hv hm yG zQ BR J5 sW lQ hok hfx Gq hl hk hg hg2 ih hcc hlv hi hn ha;go_in;go_wp2_with fail;refine HO.out.mono ?_;rintro e w2 ⟨rfl,b2⟩;have HB2:Hid (Below (w.heap.size+2) ((w.alloc (.cells #[.int .i64 (ah x),.int .i64 (aB x),.string (aF x),.slice La (nL x) Lc,.slice Ka (nK x) Kc] 25)).alloc (.cells #[.int .i64 (ah v),.int .i64 (aB v),.string (aF v),.slice Va (nL v) Vc,.slice Vk (nK v) Wc] 25)) w2):=b2.mono (by simp);clear b2 HO;obtain ⟨⟨q0,q1,q2,q3,q4⟩,⟨y0,y1,y2,y3,y4⟩,hz,hbw⟩:=gV HB2.out;have dH:=aj hbw
 have pJ:=aj (HC.out w2 hbw);clear hbw HC;go_wp2_with fail
 ·go_ret;exact ⟨av (by rw [show op=qb from dh (show (op.toList==[36,101,113])=true by assumption),TD,Za.out];rfl),dH.out⟩
 ·go_ret;exact ⟨av (by rw [show op=yM from dh (show (op.toList==[36,110,101])=true by assumption),Xf,Za.out];rfl),dH.out⟩
 ·go_ret;exact ⟨av (by rw [show op=yN from dh (show (op.toList==[36,103,116])=true by assumption),lS _ _ _ (.inl rfl),Yi,Za.out,BX (a:=ah v) (b:=ah x) (by assumption)];rfl),dH.out⟩
 ·go_ret;exact ⟨av (by rw [show op=yN from dh (show (op.toList==[36,103,116])=true by assumption),lS _ _ _ (.inl rfl),BZ (a:=ah v) (b:=ah x) (by assumption)];rfl),dH.out⟩
 ·go_ret;exact ⟨av (by rw [show op=oQ from dh (show (op.toList==[36,103,116,101])=true by assumption),lS _ _ _ (.inr (.inl rfl)),TI,Za.out,BX (a:=ah v) (b:=ah x) (by assumption)];rfl),dH.out⟩
 ·go_ret;exact ⟨av (by rw [show op=oQ from dh (show (op.toList==[36,103,116,101])=true by assumption),lS _ _ _ (.inr (.inl rfl)),BZ (a:=ah v) (b:=ah x) (by assumption)];rfl),dH.out⟩
 ·go_ret;exact ⟨av (by rw [show op=yO from dh (show (op.toList==[36,108,116])=true by assumption),lS _ _ _ (.inr (.inr (.inl rfl))),Yj,Za.out,BX (a:=ah v) (b:=ah x) (by assumption)];rfl),dH.out⟩
 ·go_ret;exact ⟨av (by rw [show op=yO from dh (show (op.toList==[36,108,116])=true by assumption),lS _ _ _ (.inr (.inr (.inl rfl))),BZ (a:=ah v) (b:=ah x) (by assumption)];rfl),dH.out⟩
 ·go_ret;exact ⟨av (by rw [show op=qz from dh (show (op.toList==[36,108,116,101])=true by assumption),lS _ _ _ (.inr (.inr (.inr rfl))),TJ,Za.out,BX (a:=ah v) (b:=ah x) (by assumption)];rfl),dH.out⟩
 ·go_ret;exact ⟨av (by rw [show op=qz from dh (show (op.toList==[36,108,116,101])=true by assumption),lS _ _ _ (.inr (.inr (.inr rfl))),BZ (a:=ah v) (b:=ah x) (by assumption)];rfl),dH.out⟩
 ·go_ret;exact ⟨av (by rw [show op=eG from dh (show (op.toList==[36,101,120,105,115,116,115])=true by assumption),Xg];cases (aB x==1)<;>rfl),dH.out⟩
 ·go_ret;exact ⟨av (by rw [show op=jc from dh (show (op.toList==[36,115,105,122,101])=true by assumption),FY,BX (a:=ah v) (b:=5) (by assumption)];rfl),dH.out⟩
 ·go_ret;exact ⟨av (by rw [show op=jc from dh (show (op.toList==[36,115,105,122,101])=true by assumption),FY,BZ (a:=ah v) (b:=5) (by assumption)];rfl),dH.out⟩
 ·go_ret;exact ⟨av (by rw [show op=jE from dh (show (op.toList==[36,107,105,110,100])=true by assumption),Oe];rfl),dH.out⟩
 ·have e:op=mU:=dh (show (op.toList==[36,110,111,116])=true by assumption);subst e;refine (pJ.out gT.out).mono ?_;rintro e w3 ⟨rfl,b3⟩;have HB3:=aj (dH.out.trans (b3.mono dH.out.size));have HE:=aj (TG m x v true);generalize uw m (iO x) v true=r at HE;clear b3 pJ;go_wp2_with fail;go_ret;exact ⟨by rw [HE.out];rfl,HB3.out⟩
 ·exact absurd (TK gT.out (by assumption) (by assumption) (by assumption) (by assumption) (by assumption) (by assumption) (by assumption) (by assumption) (by assumption) (by assumption) n1 n2) Hno.out
theorem TL (f:Nat) (op:ByteArray) (xv:Value) (x:T) (g:Nat) (vv:Value) (v:T) (w:World) (hx:At w f xv x) (hv:At w g vv v) (yG:dZ x) (zQ:dZ v) (BR:Gd x) (J5:Gd v) (_hf16:f<=16) (lQ:g<=16) (hi:op=qc\/op=mR) :
  Calls Tryz.prog 243 #[.string op,xv,vv,.bool true] w fun e w'=>e=.returned (.bool (bg (uK v) x (nL x)==decide (op=qc)))/\Below w.heap.size w w':=by
 have HX:=aj hx;have HV:=aj hv;obtain ⟨g1,La,Ka,Lc,Kc,hg,rfl,hfx,hl,hk⟩:=hx.open;obtain ⟨g2,Va,Vk,Vc,Wc,hg2,rfl,Gq,hlv,_⟩:=hv.open;have HB:Hid (Below w.heap.size w ((w.alloc (.cells #[.int .i64 (ah x),.int .i64 (aB x),.string (aF x),.slice La (nL x) Lc,.slice Ka (nK x) Kc] 25)).alloc (.cells #[.int .i64 (ah v),.int .i64 (aB v),.string (aF v),.slice Va (nL v) Vc,.slice Vk (nK v) Wc] 25))):=iY _ _ _;have HO:=aj (sJ (HV.out.keep HB.out) (HX.out.keep HB.out) lQ zQ yG J5 BR);have HOr:Hid (∀ (k:Nat) (w':World) (xe:Value),k<nL x->Below w.heap.size w w'->At w' g1 xe (elt x k)->Calls Tryz.prog 134 #[.agg #[.int .i64 (ah v),.int .i64 (aB v),.string (aF v),.slice Va (nL v) Vc,.slice Vk (nK v) Wc],xe] w' fun e w2=>e=.returned (.int .i64 (bq 16 v (elt x k)))/\Below w'.heap.size w' w2):=fun k w' xe hk' hb ha=>sJ (HV.out.keep hb) ha lQ zQ (yG.elt hk') J5 (BR.elt hk')
 obtain ⟨l1,l2,l3,l4,l5,l6,l7,l8,l9,l10⟩:(op.toList==[36,101,113])=false/\(op.toList==[36,110,101])=false/\(op.toList==[36,103,116])=false/\(op.toList==[36,103,116,101])=false/\(op.toList==[36,108,116])=false/\(op.toList==[36,108,116,101])=false/\(op.toList==[36,101,120,105,115,116,115])=false/\(op.toList==[36,115,105,122,101])=false/\(op.toList==[36,107,105,110,100])=false/\(op.toList==[36,110,111,116])=false:=by
  rcases hi with rfl | rfl<;>exact ⟨au (b:=qb) (by decide),au (b:=yM) (by decide),au (b:=yN) (by decide),au (b:=oQ) (by decide),au (b:=yO) (by decide),au (b:=qz) (by decide),au (b:=eG) (by decide),au (b:=jc) (by decide),au (b:=jE) (by decide),au (b:=mU) (by decide)⟩
 have hw:((op.toList==[36,105,110])=true/\Hid (decide (op=qc)=true))\/((op.toList==[36,105,110])=false/\(op.toList==[36,110,105,110])=true/\Hid (decide (op=qc)=false)):=by
  rcases hi with rfl | rfl
  ·exact .inl ⟨aT rfl,decide_eq_true rfl⟩
  ·exact .inr ⟨au (b:=qc) (by decide),aT rfl,decide_eq_false (by decide)⟩
 have hsm:=yG.small.2;obtain ⟨n,hn⟩:∃ n,nL x=n:=⟨_,rfl⟩;have Hn:=aj hn;have HL:=aj hl.out;generalize bq 16 v x=cc at HO;clear hx hv yG zQ BR J5 _hf16 lQ hfx Gq hl hk hg hg2 hlv hi;rw [hn] at HOr hsm ⊢;rw [hn] at HO HB;clear hn;go_in;go_wp2_with fail;refine HO.out.mono ?_;rintro e w2 ⟨rfl,b2⟩;have HB2:Hid (Below (w.heap.size+2) ((w.alloc (.cells #[.int .i64 (ah x),.int .i64 (aB x),.string (aF x),.slice La n Lc,.slice Ka (nK x) Kc] 25)).alloc (.cells #[.int .i64 (ah v),.int .i64 (aB v),.string (aF v),.slice Va (nL v) Vc,.slice Vk (nK v) Wc] 25)) w2):=b2.mono (by simp);clear b2 HO;rcases hw with ⟨d1,HD⟩ | ⟨d1,d2,HD⟩
 all_goals
  go_wp2_with fail;go_loopg [12,13] n (fun gh s i wr=>∃ k:Nat,gh=n - k/\k<=n/\s=.bool (bg (uK v) x k)/\i=.int .i64 k/\Hid (Below (w.heap.size+2) ((w.alloc (.cells #[.int .i64 (ah x),.int .i64 (aB x),.string (aF x),.slice La n Lc,.slice Ka (nK x) Kc] 25)).alloc (.cells #[.int .i64 (ah v),.int .i64 (aB v),.string (aF v),.slice Va (nL v) Vc,.slice Vk (nK v) Wc] 25)) wr))
  case atStart=>exact ⟨0,rfl,Nat.zero_le _,rfl,rfl,HB2⟩
  case round =>
   obtain ⟨k,rfl,hk,rfl,rfl,nA⟩:=hrel;obtain ⟨⟨q0,q1,q2,q3,q4⟩,⟨y0,y1,y2,y3,y4⟩,hz,hbw⟩:=gV nA.out;have dH:=aj hbw;by_cases hlt:k<n
   ·obtain ⟨b,o,c0,c1,c2,c3,c4,rfl,hbl,p0,p1,p2,p3,p4,Ha⟩:=HL.out.keep hbw k (by rw [Hn.out];exact hlt);have x1:(k:Int)<(n:Int):=by omega
    have zC:Hid (bg (uK v) x (k+1)=(bg (uK v) x k || (bq 16 v (elt x k)==0))):=rfl;have HC:=aj (HOr.out k wr.drew _ hlt (hbw.trans ((ak wr).mono hbw.size)) (At.keep (ak wr) Ha.out));generalize bq 16 v (elt x k)=c at zC HC;cases hr:bg (uK v) x k with
    | true =>
     have Me:Hid (bg (uK v) x (k+1)=true):=by show _=_;rw [zC.out,hr];rfl
     clear zC HC hr Ha hbl hbw hlt;go_wp2_with fail;go_quiet (fail);go_wp2_with fail;go_roundg (n - (k+1))
     case rel=>exact ⟨k+1,rfl,by omega,by rw [Me.out],by go_num,aj (below_drewN nA.out _)⟩
     case measure=>omega
    | false =>
     have Me:Hid (bg (uK v) x (k+1)=(c==0)):=by show _=_;rw [zC.out,hr];rfl
     have iX:Hid (∀ wx:World,Below wr.heap.size wr wx->(wx.cell? ⟨w.heap.size,3,none⟩=some (.slice (some ⟨b,o,none⟩) n Lc)/\wx.cell? ⟨w.heap.size+1,0,none⟩=some (.int .i64 (ah v))/\wx.cell? ⟨w.heap.size+1,1,none⟩=some (.int .i64 (aB v))/\wx.cell? ⟨w.heap.size+1,2,none⟩=some (.string (aF v))/\wx.cell? ⟨w.heap.size+1,3,none⟩=some (.slice Va (nL v) Vc)/\wx.cell? ⟨w.heap.size+1,4,none⟩=some (.slice Vk (nK v) Wc)/\wx.cell? ⟨b,o+k*5,none⟩=some c0/\wx.cell? ⟨b,o+k*5+1,none⟩=some c1/\wx.cell? ⟨b,o+k*5+2,none⟩=some c2/\wx.cell? ⟨b,o+k*5+3,none⟩=some c3/\wx.cell? ⟨b,o+k*5+4,none⟩=some c4)):=fun wx hb=>⟨(hb.cell (p:=⟨w.heap.size,3,none⟩) (by show w.heap.size<_;omega)).trans q3,(hb.cell (p:=⟨w.heap.size+1,0,none⟩) hz).trans y0,(hb.cell (p:=⟨w.heap.size+1,1,none⟩) hz).trans y1,(hb.cell (p:=⟨w.heap.size+1,2,none⟩) hz).trans y2,(hb.cell (p:=⟨w.heap.size+1,3,none⟩) hz).trans y3,(hb.cell (p:=⟨w.heap.size+1,4,none⟩) hz).trans y4,(hb.cell (p:=⟨b,o+k*5,none⟩) hbl).trans p0,(hb.cell (p:=⟨b,o+k*5+1,none⟩) hbl).trans p1,(hb.cell (p:=⟨b,o+k*5+2,none⟩) hbl).trans p2,(hb.cell (p:=⟨b,o+k*5+3,none⟩) hbl).trans p3,(hb.cell (p:=⟨b,o+k*5+4,none⟩) hbl).trans p4⟩;have qH:=aj (iX.out _ (ak wr));clear zC hr Ha hbl hbw hlt p0 p1 p2 p3 p4 y0 y1 y2 y3 y4 q0 q1 q2;go_wp2_with fail
     go_region_held3 (fun wx=>wx.cell? ⟨w.heap.size,3,none⟩=some (.slice (some ⟨b,o,none⟩) n Lc)/\wx.cell? ⟨w.heap.size+1,0,none⟩=some (.int .i64 (ah v))/\wx.cell? ⟨w.heap.size+1,1,none⟩=some (.int .i64 (aB v))/\wx.cell? ⟨w.heap.size+1,2,none⟩=some (.string (aF v))/\wx.cell? ⟨w.heap.size+1,3,none⟩=some (.slice Va (nL v) Vc)/\wx.cell? ⟨w.heap.size+1,4,none⟩=some (.slice Vk (nK v) Wc)/\wx.cell? ⟨b,o+k*5,none⟩=some c0/\wx.cell? ⟨b,o+k*5+1,none⟩=some c1/\wx.cell? ⟨b,o+k*5+2,none⟩=some c2/\wx.cell? ⟨b,o+k*5+3,none⟩=some c3/\wx.cell? ⟨b,o+k*5+4,none⟩=some c4) (first | exact kD | exact qH.out) ((go_at_call 134;refine HC.out.mono ?_;rintro e5 w5 ⟨rfl,hb5⟩;have kD:=iX.out _ ((ak wr).trans hb5)));have jW:=aj (nA.out.trans (((ak wr).trans hb5).mono (by have:=nA.out.size;simp at this;omega)));clear hb5 kD qH iX HC;go_wp2_with fail;go_roundg (n - (k+1))
     case rel=>exact ⟨k+1,rfl,by omega,by rw [Me.out],by go_num,jW⟩
     case measure=>omega
   ·obtain rfl:k=n:=by omega
    have x1:¬ (k:Int)<(k:Int):=by omega
    clear hlt hbw y0 y1 y2 y3 y4 q0 q1 q2;go_wp2_with fail;go_ret;exact ⟨av (by rw [HD.out];cases bg (uK v) x k<;>rfl),dH.out⟩
theorem aaC (f:Nat) (ih:xM f) (m:Nat) (xv:Value) (x:T) (g:Nat) (vv:Value) (v:T) (w:World) (hx:At w f xv x) (hv:At w g vv v) (hm:f<=m) (yG:dZ x) (zQ:dZ v) (BR:Gd x) (J5:Gd v) (sW:f<=16) (lQ:g<=16) (hok:dR m x=true) :
  Calls Tryz.prog 243 #[.string kY,xv,vv,.bool true] w fun e w'=>e=.returned (.bool (lC (m+1) (kY,x) v true))/\Below w.heap.size w w':=by
 have HX:=aj hx;have HV:=aj hv;obtain ⟨g1,La,Ka,Lc,Kc,hg,rfl,hfx,hl,hk⟩:=hx.open;obtain ⟨g2,Va,Vk,Vc,Wc,hg2,rfl,Gq,hlv,_⟩:=hv.open;have HB:Hid (Below w.heap.size w ((w.alloc (.cells #[.int .i64 (ah x),.int .i64 (aB x),.string (aF x),.slice La (nL x) Lc,.slice Ka (nK x) Kc] 25)).alloc (.cells #[.int .i64 (ah v),.int .i64 (aB v),.string (aF v),.slice Va (nL v) Vc,.slice Vk (nK v) Wc] 25))):=iY _ _ _;have HO:=aj (sJ (HV.out.keep HB.out) (HX.out.keep HB.out) lQ zQ yG J5 BR);have Vp:Hid (∀ (k:Nat) (w':World) (ve:Value),k<nL v->Below w.heap.size w w'->At w' g2 ve (elt v k)->Calls Tryz.prog 213 #[.agg #[.int .i64 (ah x),.int .i64 (aB x),.string (aF x),.slice La (nL x) Lc,.slice Ka (nK x) Kc],ve,.bool true] w' fun e w2=>e=.returned (.bool (uw m (iO x) (elt v k) true))/\Below w'.heap.size w' w2):=fun k w' ve hk' hb ha=>ih m _ x g2 _ (elt v k) true w' (HX.out.keep hb) ha hm yG (zQ.elt hk') BR (fun _=>J5.elt hk') sW (by omega) hok;have HE:=aj (TH m x v true);have hsm:=zQ.small.2;obtain ⟨op,hop⟩:∃ op,op=kY:=⟨_,rfl⟩
 obtain ⟨l1,l2,l3,l4,l5,l6,l7,l8,l9,l10,l11,l12⟩:(op.toList==[36,101,113])=false/\(op.toList==[36,110,101])=false/\(op.toList==[36,103,116])=false/\(op.toList==[36,103,116,101])=false/\(op.toList==[36,108,116])=false/\(op.toList==[36,108,116,101])=false/\(op.toList==[36,101,120,105,115,116,115])=false/\(op.toList==[36,115,105,122,101])=false/\(op.toList==[36,107,105,110,100])=false/\(op.toList==[36,110,111,116])=false/\(op.toList==[36,105,110])=false/\(op.toList==[36,110,105,110])=false:=by
  subst hop;exact ⟨au (b:=qb) (by decide),au (b:=yM) (by decide),au (b:=yN) (by decide),au (b:=oQ) (by decide),au (b:=yO) (by decide),au (b:=qz) (by decide),au (b:=eG) (by decide),au (b:=jc) (by decide),au (b:=jE) (by decide),au (b:=mU) (by decide),au (b:=qc) (by decide),au (b:=mR) (by decide)⟩
 rw [<- hop] at HE ⊢;obtain ⟨n,hn⟩:∃ n,nL v=n:=⟨_,rfl⟩;have Hn:=aj hn;have HL:=aj hlv.out;generalize bq 16 v x=cc at HO;generalize lC (m+1) (op,x) v true=R at HE ⊢;clear hx hv yG zQ BR J5 sW lQ hfx Gq hl hk hg hg2 hlv hm hok ih hop;rw [hn] at Vp hsm HO HB HE;rw [hn];clear hn;go_in;go_wp2_with fail;refine HO.out.mono ?_;rintro e w2 ⟨rfl,b2⟩;have HB2:Hid (Below (w.heap.size+2) ((w.alloc (.cells #[.int .i64 (ah x),.int .i64 (aB x),.string (aF x),.slice La (nL x) Lc,.slice Ka (nK x) Kc] 25)).alloc (.cells #[.int .i64 (ah v),.int .i64 (aB v),.string (aF v),.slice Va n Vc,.slice Vk (nK v) Wc] 25)) w2):=b2.mono (by simp);clear b2 HO;go_wp2_with fail;go_loopg [12,14] n (fun gh s i wr=>∃ (k:Nat) (sb:Bool),gh=n - k/\k<=n/\s=.bool sb/\i=.int .i64 k/\Hid (sb=true->ah v=5)/\Hid (sb=bg (fun e=>uw m (iO x) e true) v k)/\Hid (Below (w.heap.size+2) ((w.alloc (.cells #[.int .i64 (ah x),.int .i64 (aB x),.string (aF x),.slice La (nL x) Lc,.slice Ka (nK x) Kc] 25)).alloc (.cells #[.int .i64 (ah v),.int .i64 (aB v),.string (aF v),.slice Va n Vc,.slice Vk (nK v) Wc] 25)) wr))
 case atStart=>exact ⟨0,false,rfl,Nat.zero_le _,rfl,rfl,fun h=>(by cases h),rfl,HB2⟩
 case round =>
  obtain ⟨k,sb,rfl,hk,rfl,rfl,XI,Hs,nA⟩:=hrel;obtain ⟨⟨q0,q1,q2,q3,q4⟩,⟨y0,y1,y2,y3,y4⟩,hz,hbw⟩:=gV nA.out;have dH:=aj hbw;cases k5:ah v==5 with
  | false =>
   have HR:Hid (R=false):=by show _=_;rw [HE.out,k5];rfl
   obtain rfl:sb=false:=by
    cases sb with
    | false=>rfl
    | true=>rw [XI.out rfl] at k5;cases k5
   clear hbw q0 q1 q2;by_cases hlt:k<n
   ·have x1:(k:Int)<(n:Int):=by omega
    go_wp2_with fail;go_ret;exact ⟨by rw [HR.out];rfl,dH.out⟩
   ·have x1:¬ (k:Int)<(n:Int):=by omega
    go_wp2_with fail;go_ret;exact ⟨by rw [HR.out];rfl,dH.out⟩
  | true =>
   have Hk5:=aj (show ah v=5 by simpa using k5);cases sb with
   | true =>
    have HR:Hid (R=true):=by show _=_;rw [HE.out,k5,wN _ _ hk Hs.out.symm];rfl
    clear hbw q0 q1 q2;by_cases hlt:k<n
    ·have x1:(k:Int)<(n:Int):=by omega
     go_wp2_with fail;go_ret;exact ⟨by rw [HR.out];rfl,dH.out⟩
    ·have x1:¬ (k:Int)<(n:Int):=by omega
     go_wp2_with fail;go_ret;exact ⟨by rw [HR.out];rfl,dH.out⟩
   | false =>
    by_cases hlt:k<n
    ·obtain ⟨b,o,c0,c1,c2,c3,c4,rfl,hbl,p0,p1,p2,p3,p4,Ha⟩:=HL.out.keep hbw k (by rw [Hn.out];exact hlt);have x1:(k:Int)<(n:Int):=by omega
     have zC:Hid (bg (fun e=>uw m (iO x) e true) v (k+1)=uw m (iO x) (elt v k) true):=by show (bg _ _ k || _)=_;rw [<- Hs.out];rfl
     have HC:=aj (Vp.out k wr.drew _ hlt (hbw.trans ((ak wr).mono hbw.size)) (At.keep (ak wr) Ha.out));generalize uw m (iO x) (elt v k) true=c at zC HC;have iX:Hid (∀ wx:World,Below wr.heap.size wr wx->(wx.cell? ⟨w.heap.size+1,3,none⟩=some (.slice (some ⟨b,o,none⟩) n Vc)/\wx.cell? ⟨w.heap.size,0,none⟩=some (.int .i64 (ah x))/\wx.cell? ⟨w.heap.size,1,none⟩=some (.int .i64 (aB x))/\wx.cell? ⟨w.heap.size,2,none⟩=some (.string (aF x))/\wx.cell? ⟨w.heap.size,3,none⟩=some (.slice La (nL x) Lc)/\wx.cell? ⟨w.heap.size,4,none⟩=some (.slice Ka (nK x) Kc)/\wx.cell? ⟨b,o+k*5,none⟩=some c0/\wx.cell? ⟨b,o+k*5+1,none⟩=some c1/\wx.cell? ⟨b,o+k*5+2,none⟩=some c2/\wx.cell? ⟨b,o+k*5+3,none⟩=some c3/\wx.cell? ⟨b,o+k*5+4,none⟩=some c4)):=fun wx hb=>⟨(hb.cell (p:=⟨w.heap.size+1,3,none⟩) hz).trans y3,(hb.cell (p:=⟨w.heap.size,0,none⟩) (by show w.heap.size<_;omega)).trans q0,(hb.cell (p:=⟨w.heap.size,1,none⟩) (by show w.heap.size<_;omega)).trans q1,(hb.cell (p:=⟨w.heap.size,2,none⟩) (by show w.heap.size<_;omega)).trans q2,(hb.cell (p:=⟨w.heap.size,3,none⟩) (by show w.heap.size<_;omega)).trans q3,(hb.cell (p:=⟨w.heap.size,4,none⟩) (by show w.heap.size<_;omega)).trans q4,(hb.cell (p:=⟨b,o+k*5,none⟩) hbl).trans p0,(hb.cell (p:=⟨b,o+k*5+1,none⟩) hbl).trans p1,(hb.cell (p:=⟨b,o+k*5+2,none⟩) hbl).trans p2,(hb.cell (p:=⟨b,o+k*5+3,none⟩) hbl).trans p3,(hb.cell (p:=⟨b,o+k*5+4,none⟩) hbl).trans p4⟩;have qH:=aj (iX.out _ (ak wr))
     clear Ha hbl hbw hlt p0 p1 p2 p3 p4 y1 y2 y4;go_wp2_with fail;go_region_held3 (fun wx=>wx.cell? ⟨w.heap.size+1,3,none⟩=some (.slice (some ⟨b,o,none⟩) n Vc)/\wx.cell? ⟨w.heap.size,0,none⟩=some (.int .i64 (ah x))/\wx.cell? ⟨w.heap.size,1,none⟩=some (.int .i64 (aB x))/\wx.cell? ⟨w.heap.size,2,none⟩=some (.string (aF x))/\wx.cell? ⟨w.heap.size,3,none⟩=some (.slice La (nL x) Lc)/\wx.cell? ⟨w.heap.size,4,none⟩=some (.slice Ka (nK x) Kc)/\wx.cell? ⟨b,o+k*5,none⟩=some c0/\wx.cell? ⟨b,o+k*5+1,none⟩=some c1/\wx.cell? ⟨b,o+k*5+2,none⟩=some c2/\wx.cell? ⟨b,o+k*5+3,none⟩=some c3/\wx.cell? ⟨b,o+k*5+4,none⟩=some c4) (first | exact kD | exact qH.out) ((go_at_call 213;refine HC.out.mono ?_;rintro e5 w5 ⟨rfl,hb5⟩;have kD:=iX.out _ ((ak wr).trans hb5)));have jW:=aj (nA.out.trans (((ak wr).trans hb5).mono (by have:=nA.out.size;simp at this;omega)));clear hb5 kD qH iX HC y0 y3 q0 q1 q2 q3 q4;go_wp2_with fail;go_roundg (n - (k+1))
     case rel=>exact ⟨k+1,c,rfl,by omega,rfl,by go_num,fun _=>Hk5.out,zC.out.symm,jW⟩
     case measure=>omega
    ·have HR:Hid (R=false):=by
      obtain rfl:k=n:=by omega
      show _=_;rw [HE.out,k5,<- Hs.out];rfl
     have x1:¬ (k:Int)<(n:Int):=by omega
     clear hlt hbw;go_wp2_with fail;go_ret;exact ⟨by rw [HR.out];rfl,dH.out⟩
theorem TM (f:Nat) (ih:xM f):Tt f:=by
 intro m op xv x g vv v there w hx hv hm yG zQ BR J5 sW lQ hok;cases there with
 | false=>exact aaA f ih m op xv x g vv v w hx hv hm yG zQ BR sW lQ hok
 | true =>
  have gv:=J5 rfl;by_cases hi:op=qc
  ·refine (TL f op xv x g vv v w hx hv yG zQ BR gv sW lQ (.inl hi)).mono ?_;rintro e w' ⟨rfl,hb⟩;exact ⟨by rw [decide_eq_true hi,hi,Xh];cases bg (uK v) x (nL x)<;>rfl,hb⟩
  by_cases hn:op=mR
  ·refine (TL f op xv x g vv v w hx hv yG zQ BR gv sW lQ (.inr hn)).mono ?_;rintro e w' ⟨rfl,hb⟩;exact ⟨by rw [decide_eq_false hi,hn,TF];cases bg (uK v) x (nL x)<;>rfl,hb⟩
  by_cases ha:op=kY
  ·subst ha;exact aaC f ih m xv x g vv v w hx hv hm yG zQ BR gv sW lQ hok
  ·exact aaB f ih m op xv x g vv v w hx hv hm yG zQ BR gv sW lQ hok hi hn ha
theorem EF:∀ f,xM f
 | 0=>fun _ _ _ _ _ _ _ _ h=>h.elim
 | f+1=>Md f (TM f (EF f))
def Mf (f:Nat):Prop:=∀ (m:Nat) (v:Value) (t:T) (w:World),At w f v t->f<=m->f<=16->dZ t->Calls Tryz.prog 172 #[v] w fun e w'=>e=.returned (.bool (aL m t))/\Below w.heap.size w w'
theorem PO (op:ByteArray):((op=jl\/op=oU\/op=jm)/\((op.toList==[36,97,110,100])=true\/((op.toList==[36,97,110,100])=false/\(op.toList==[36,111,114])=true)\/((op.toList==[36,97,110,100])=false/\(op.toList==[36,111,114])=false/\(op.toList==[36,110,111,114])=true)))\/(rH op/\(op.toList==[36,97,110,100])=false/\(op.toList==[36,111,114])=false/\(op.toList==[36,110,111,114])=false):=by
 by_cases h0:op=jl
 ·exact .inl ⟨.inl h0,.inl (aT h0)⟩
 by_cases h1:op=oU
 ·exact .inl ⟨.inr (.inl h1),.inr (.inl ⟨au h0,aT h1⟩)⟩
 by_cases h2:op=jm
 ·exact .inl ⟨.inr (.inr h2),.inr (.inr ⟨au h0,au h1,aT h2⟩)⟩
 exact .inr ⟨⟨h0,h1,h2⟩,au h0,au h1,au h2⟩
theorem EG {g:T->Bool} {x:ByteArray} {j:T} (h:x=jl\/x=oU\/x=jm):qL g x j=((ah j==5&&decide (0<nL j))&&gB g j (nL j)):=by unfold qL;rw [if_pos h]
theorem EH {g:T->Bool} {x:ByteArray} {j:T} (h:rH x):qL g x j=((!qI x&&fD x)&&vS j):=by
 unfold qL;rw [if_neg (fun h2=>h2.elim h.1 (fun h3=>h3.elim h.2.1 h.2.2))]
theorem C8 (f:Nat) (ih:Mf f):Mf (f+1):=by
 intro m v t w h hm h16 hok;obtain ⟨g,La,Ka,Lc,Kc,hg,rfl,hf,hl,hk⟩:=h.open;obtain rfl:f=g:=by omega
 obtain ⟨m,rfl⟩:∃ m',m=m'+1:=⟨m - 1,by omega⟩;have HB1:Hid (Below w.heap.size w (w.alloc (.cells #[.int .i64 (ah t),.int .i64 (aB t),.string (aF t),.slice La (nL t) Lc,.slice Ka (nK t) Kc] 25))):=(Below.refl _ _).alloc (Nat.le_refl _) _;have HX:Hid (aL (m+1) t=(ah t==6&&eO (fun i=>qL (aL m) (bf t i) (elt t i)) (nK t))):=rfl;cases k6:ah t==6 with
 | false =>
  have HE:Hid (aL (m+1) t=false):=by show _=_;rw [HX.out,k6];rfl
  have UK:(ah t != 6)=true:=by rw [bne,k6];rfl
  clear HX h hf hl hk hg hm hok ih k6;go_in;go_wp2_with fail;go_ret;exact ⟨by rw [HE.out];rfl,HB1.out⟩
 | true =>
  have e6:ah t=6:=by simpa using k6
  have hnl:=hok.names e6;have hsm:=hok.small.1;have UK:(ah t != 6)=false:=by rw [bne,k6];rfl
  have HE:Hid (aL (m+1) t=eO (fun i=>qL (aL m) (bf t i) (elt t i)) (nK t)):=by
   show _=_;rw [HX.out,k6];rfl
  have sN:=aj ih;have gT:=aj hok;have LV:=aj (And.intro hm h16)
  have HF:Hid (∀ k,k<nK t->qL (aL m) (bf t k) (elt t k)=false->aL (m+1) t=false):=fun k hk h1=>by
   rw [HE.out];exact nP (i:=k) h1 _ hk
  clear HX h hf hg hm h16 hok ih k6 e6;obtain ⟨n,hnn⟩:∃ n,nK t=n:=⟨_,rfl⟩;rw [hnn] at HE HF hnl hsm;have Hn:=aj hnn;have Hnl:=aj hnl;rw [hnn] at HB1 ⊢;clear hnn hnl;go_in;go_wp2_with fail;go_loopg [3,6] n (fun g i z wr=>∃ k:Nat,g=n - k/\k<=n/\i=.int .i64 k/\Hid (Below (w.heap.size+1) (w.alloc (.cells #[.int .i64 (ah t),.int .i64 (aB t),.string (aF t),.slice La (nL t) Lc,.slice Ka n Kc] 25)) wr)/\Hid (eO (fun i=>qL (aL m) (bf t i) (elt t i)) k=true))
  case atStart=>exact ⟨0,rfl,Nat.zero_le _,rfl,Below.refl _ _,rfl⟩
  case round =>
   obtain ⟨k,rfl,hkn,rfl,nA,HA⟩:=hrel
   rename World=>wo
   obtain ⟨q0,q1,q2,q3,q4,hz,hbw⟩:=aI nA.out;have dH:=aj hbw;by_cases hlt:k<n
   ·obtain ⟨b,o,c0,c1,c2,c3,c4,rfl,hbl,p0,p1,p2,p3,p4,Ha⟩:=hl.out.keep hbw k (by have:=Hnl.out;omega);obtain ⟨b2,o2,rfl,hb2,hs2,p5⟩:=hk.out.keep hbw k (by rw [Hn.out];exact hlt);obtain ⟨j,hj⟩:∃ j,elt t k=j:=⟨_,rfl⟩;obtain ⟨op,hop⟩:∃ op,bf t k=op:=⟨_,rfl⟩;have hkj:dZ j:=by rw [<- hj];exact gT.out.elt (by have:=Hnl.out;omega)
    have TN:op.size<=4000:=by rw [<- hop];exact gT.out.bf (by rw [Hn.out];exact hlt)
    rw [hj] at Ha;rw [hop] at p5;have VE:=aj Ha.out;obtain ⟨g2,JA,JC,JB,JD,hg2,hag,_,hlj,_⟩:=Ha.out.open;simp only [Value.agg.injEq,Array.mk.injEq,List.cons.injEq,and_true] at hag;obtain ⟨rfl,rfl,rfl,rfl,rfl⟩:=hag;have NV:Hid (Below wo.heap.size wo (wo.alloc (.cells #[.int .i64 (ah j),.int .i64 (aB j),.string (aF j),.slice JA (nL j) JB,.slice JC (nK j) JD] 25))):=(Below.refl _ _).alloc (Nat.le_refl _) _;have LW:Hid (∀ w2:World,Below wo.heap.size wo w2->Below (w.heap.size+1) (w.alloc (.cells #[.int .i64 (ah t),.int .i64 (aB t),.string (aF t),.slice (some ⟨b,o,none⟩) (nL t) Lc,.slice (some ⟨b2,o2,none⟩) n Kc] 25)) w2):=fun w2 hb=>nA.out.trans (hb.mono (by have:=nA.out.size;simp at this;omega));have sS:Hid (∀ w2:World,Below wo.heap.size wo w2->Below w.heap.size w w2):=fun w2 hb=>dH.out.trans (hb.mono dH.out.size);have x1:(k:Int)<(n:Int):=by omega
    have x2:(k:Int)<(nL t:Int):=by have:=Hnl.out;omega
    have HA2:Hid (qL (aL m) op j=true->eO (fun i=>qL (aL m) (bf t i) (elt t i)) (k+1)=true):=fun h=>by rw [eO,HA.out,hop,hj,h];rfl
    have ru:Hid (qL (aL m) op j=false->aL (m+1) t=false):=fun h=>HF.out k hlt (by rw [hop,hj];exact h);have TP:=aj hkj;have Hhs:=aj TN;have Hg2:=aj hg2;clear hj hop hkj hg2 hs2 hbl Ha hlt hbw hb2 TN;rcases PO op with ⟨hlo,hw⟩ | ⟨hpl,hw1,hw2,hw3⟩
    ·have HO:=aj (EG (g:=aL m) (j:=j) hlo);clear hlo;cases k5:ah j==5 with
     | false =>
      have vg:=aj (ru.out (by rw [HO.out,k5];rfl));have k5':(ah j != 5)=true:=by rw [bne,k5];rfl
      clear k5;rcases hw with d1 | ⟨d1,d2⟩ | ⟨d1,d2,d3⟩
      all_goals
       go_wp2_with fail;go_ret;exact ⟨by rw [vg.out];rfl,sS.out _ NV.out⟩
     | true =>
      have k5':(ah j != 5)=false:=by rw [bne,k5];rfl
      by_cases hn0:nL j=0
      ·have vg:=aj (ru.out (by rw [HO.out,hn0];simp));have hn':((nL j:Int)==0)=true:=by rw [hn0];rfl
       clear k5 hn0;rcases hw with d1 | ⟨d1,d2⟩ | ⟨d1,d2,d3⟩
       all_goals
        go_wp2_with fail;go_ret;exact ⟨by rw [vg.out];rfl,sS.out _ NV.out⟩
      ·have VP:Hid (qL (aL m) op j=gB (aL m) j (nL j)):=by show _=_;rw [HO.out,k5,decide_eq_true (by omega)];rfl
       have hn':((nL j:Int)==0)=false:=by simp;omega
       have hj2:=TP.out.small.2;clear k5 hn0 HO;rcases hw with d1 | ⟨d1,d2⟩ | ⟨d1,d2,d3⟩
       all_goals
        go_wp2_with fail;go_loopg [6] (nL j) (fun g z wr=>∃ i:Nat,g=nL j - i/\i<=nL j/\z=.int .i64 i/\Hid (gB (aL m) j i=true)/\Hid (Below (wo.heap.size+1) (wo.alloc (.cells #[.int .i64 (ah j),.int .i64 (aB j),.string (aF j),.slice JA (nL j) JB,.slice JC (nK j) JD] 25)) wr))
        case atStart=>exact ⟨0,rfl,Nat.zero_le _,rfl,rfl,Below.refl _ _⟩
        case round =>
         obtain ⟨i,rfl,hi,rfl,I7,sG⟩:=hrel;obtain ⟨r0,r1,r2,r3,r4,rz,hbi⟩:=aI sG.out;have Hbi:=aj hbi;by_cases hlt:i<nL j
         ·obtain ⟨ib,io,i0,i1,i2,i3,i4,rfl,hib,s0,s1,s2,s3,s4,Hi⟩:=hlj.out.keep hbi i hlt;have HC:=aj (sN.out m _ (elt j i) wr (Hi.out.up (g:=f) (by have:=Hg2.out;omega)) (by have:=LV.out;omega) (by have:=LV.out;omega) (TP.out.elt hlt));have y1:(i:Int)<(nL j:Int):=by omega
          have HN:Hid (aL m (elt j i)=false->aL (m+1) t=false):=fun h=>ru.out (by rw [VP.out];exact ES hlt h);have HY:Hid (aL m (elt j i)=true->gB (aL m) j (i+1)=true):=fun h=>by rw [gB,I7.out,h];rfl
          generalize aL m (elt j i)=r at HC HN HY;clear hbi Hi hib I7;go_wp2_with fail;refine HC.out.mono ?_;rintro e w5 ⟨rfl,b5⟩;have jW:=aj (sG.out.trans (b5.mono (by have:=sG.out.size;simp at this;omega)));have pX:=aj (sS.out _ (Hbi.out.trans (b5.mono Hbi.out.size)));clear b5 HC;cases r with
          | true =>
           have UJ:=aj (HY.out rfl);clear HN HY;go_wp2_with fail;go_roundg (nL j - (i+1))
           case rel=>exact ⟨i+1,rfl,by omega,by go_num,UJ,jW⟩
           case measure=>omega
          | false =>
           have Qy:=aj (HN.out rfl);clear HN HY;go_wp2_with fail;go_ret;exact ⟨by rw [Qy.out];rfl,pX.out⟩
         ·obtain rfl:i=nL j:=by omega
          have y1:¬ ((nL j:Nat):Int)<((nL j:Nat):Int):=by omega
          have oM:=aj (HA2.out (VP.out.trans I7.out));have rE:=aj (LW.out _ hbi);clear hlt hbi;go_wp2_with fail;go_roundg (n - (k+1))
          case rel=>exact ⟨k+1,rfl,by omega,by go_num,rE,oM⟩
          case measure=>omega
    ·have HO:=aj (EH (g:=aL m) (j:=j) hpl);have zJ:=aj (EA op _ (by have:=Hhs.out;omega):Calls Tryz.prog 208 #[.string op] (wo.alloc (.cells #[.int .i64 (ah j),.int .i64 (aB j),.string (aF j),.slice JA (nL j) JB,.slice JC (nK j) JD] 25)) _);have HDo:=aj (fun w=>BN op w);have Zb:Hid (∀ w2,Below wo.heap.size wo w2->_):=fun w2 hb=>BO _ _ j w2 (VE.out.keep hb);have ZU:Hid (∀ w2,Below wo.heap.size wo w2->_):=fun w2 hb=>yE f 16 _ j w2 (VE.out.keep hb) (by have:=LV.out;omega) TP.out;have X0:Hid (vS j=if decide (iQ j)=true then dR 16 j else true):=by show _=_;unfold vS;by_cases h:iQ j<;>simp [h]
     generalize qI op=dl at HO HDo;generalize decide (iQ j)=te at Zb X0;generalize dR 16 j=it at ZU X0;clear hpl;go_wp2_with fail;refine zJ.out.mono ?_;intro e w4 hpost
     have HP4:=aj (show Below (wo.heap.size+1) (wo.alloc (.cells #[.int .i64 (ah j),.int .i64 (aB j),.string (aF j),.slice JA (nL j) JB,.slice JC (nK j) JD] 25)) w4/\∃ (A:Option Addr) (ln cp:Nat),e=.returned (.tuple #[.slice A ln cp,.bool (fD op)]) from by
      obtain ⟨hb,⟨hp,sv,rfl,hrow⟩ | ⟨hp,rfl⟩⟩:=hpost
      ·obtain ⟨A,c,rfl⟩:=o8 hrow;exact ⟨by simpa using hb,A,_,c,by rw [hp]⟩
      ·exact ⟨by simpa using hb,none,0,0,by rw [hp]⟩)
     clear hpost zJ;obtain ⟨b4,A4,ln,cp,rfl⟩:=HP4.out;obtain ⟨r0,r1,r2,r3,r4,rz,hb4⟩:=aI b4;have bO:=aj b4;have Hb4:=aj hb4;have HDw:=aj (HDo.out w4);have HT4:=aj (Zb.out w4 hb4);generalize fD op=po at HO;clear HP4 hb4 b4 HDo Zb;go_wp2_with fail;refine HDw.out.mono ?_;rintro e w5 ⟨rfl,hw5⟩;subst w5;clear HDw;cases dl with
     | true =>
      have vg:=aj (ru.out (by rw [HO.out];rfl));go_wp2_with fail;go_ret;exact ⟨by rw [vg.out];rfl,sS.out _ Hb4.out⟩
     | false =>
      cases po with
      | false =>
       have vg:=aj (ru.out (by rw [HO.out];rfl));go_wp2_with fail;go_ret;exact ⟨by rw [vg.out];rfl,sS.out _ Hb4.out⟩
      | true =>
       go_wp2_with fail;refine HT4.out.mono ?_;rintro e w5 ⟨rfl,b5⟩;have jW:=aj (bO.out.trans (b5.mono (by have:=bO.out.size;simp at this;omega)));clear b5 HT4 r0 r1 r2 r3 r4 rz;obtain ⟨r0,r1,r2,r3,r4,rz,hb5⟩:=aI jW.out;have Hb5:=aj hb5;have mq:=aj (ZU.out w5 hb5);clear hb5 ZU;cases te with
       | false =>
        have oM:=aj (HA2.out (by rw [HO.out,X0.out];rfl));have rE:=aj (LW.out _ Hb5.out);clear ru HA2;go_wp2_with fail;go_roundg (n - (k+1))
        case rel=>exact ⟨k+1,rfl,by omega,by go_num,rE,oM⟩
        case measure=>omega
       | true =>
        go_wp2_with fail;refine mq.out.mono ?_;rintro e w6 ⟨rfl,b6⟩;have QA:=aj (Hb5.out.trans (b6.mono Hb5.out.size));clear b6 mq;cases it with
        | false =>
         have vg:=aj (ru.out (by rw [HO.out,X0.out];rfl));clear ru HA2;go_wp2_with fail;go_ret;exact ⟨by rw [vg.out];rfl,sS.out _ QA.out⟩
        | true =>
         have oM:=aj (HA2.out (by rw [HO.out,X0.out];rfl));have rE:=aj (LW.out _ QA.out);clear ru HA2;go_wp2_with fail;go_roundg (n - (k+1))
         case rel=>exact ⟨k+1,rfl,by omega,by go_num,rE,oM⟩
         case measure=>omega
   ·obtain rfl:k=n:=by omega
    have x1:¬ (k:Int)<(k:Int):=by omega
    clear hlt;go_wp2_with fail;go_ret;exact ⟨by rw [HE.out,HA.out];rfl,dH.out⟩
theorem wz:∀ f,Mf f
 | 0=>fun _ _ _ _ h _ _ _=>h.elim
 | f+1=>C8 f (wz f)
end Go.Proofs.YtknakfpciccoaaaGreatDoor
