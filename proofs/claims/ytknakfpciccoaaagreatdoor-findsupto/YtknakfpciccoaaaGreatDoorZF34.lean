import Derived.Test.YtknakfpciccoaaaGreatDoorZF33
import Derived.Laws.IdiomStrings
import Derived.Laws.Concat
import Derived.Test.YtknakfpciccoaaaGreatDoorZF14
/- The walks of mark, Plain and markName. -/
set_option maxHeartbeats 8000000
set_option maxRecDepth 100000
namespace Go.Proofs.YtknakfpciccoaaaGreatDoor
open Go.RowKit
def Mj (r:Nat):ByteArray:=⟨#[UInt8.ofNat (48+r % 10)]⟩
def PW:Nat->Nat->ByteArray->ByteArray
 | 0,_,out=>out
 | f+1,r,out=>if r=0/\out.size≠0 then out else PW f (r / 10) (Mj r++out)
def uF (n:Nat):ByteArray:=PW 11 n ByteArray.empty
def pq (n:Nat):ByteArray:=Zk++uF n
theorem Jt (w:World) (x:Nat) (v:Int) (hv:v=(48+x % 10:Nat)):(convert 63 9 (.slice (some ⟨w.heap.size,0,none⟩) 1 1)).run Tryz.prog (w.alloc (.cells #[.int .u8 v] 5))=.ok (.string (Mj x)) (w.alloc (.cells #[.int .u8 v] 5)):=by
 refine run_convert_bytes_back (P:=Tryz.prog) (w.alloc (.cells #[.int .u8 v] 5)) 63 9 5 ⟨w.heap.size,0,none⟩ 1 [UInt8.ofNat (48+x % 10)] Tryz.underlying63 Tryz.underlying5 Tryz.underlying9 (fun j hj=>?_);have hj0:j=0:=by simp at hj;omega
 subst hj0
 have hx:(UInt8.ofNat (48+x % 10)).toNat=48+x % 10:=by
  rw [UInt8.toNat_ofNat'];omega
 have e:((⟨w.heap.size,0,none⟩:Addr).add 0)=⟨w.heap.size,0,none⟩:=by simp [Addr.add]
 rw [e];simp [go_sem,hv];omega
theorem PX (n:Nat) (w:World) (hn:n<=1000000000) :
  Calls Tryz.prog 84 #[.int .i64 n] w fun e w'=>e=.returned (.string (uF n))/\(uF n).size<=11/\Below w.heap.size w w':=by
 go_in;go_wp2_with fail;go_loopg [3,4] 11 (fun g o r wr=>∃ (x:Nat) (out:ByteArray),o=.string out/\r=.int .i64 x/\x<10 ^ g/\x<=1000000000/\(out.size=0->1<=g)/\out.size+g<=11/\Hid (PW g x out=uF n)/\Hid (Below w.heap.size w wr))
 case atStart=>exact ⟨n,ByteArray.empty,rfl,rfl,by omega,hn,by omega,by simp,rfl,Below.refl _ _⟩
 case round =>
  obtain ⟨x,out,rfl,rfl,hx,hx2,ho,hf,HD,HB⟩:=hrel;by_cases hend:x=0/\out.size≠0
  ·obtain ⟨h0,h1⟩:=hend;subst h0;have hne:=rC h1
   have HR:Hid (out=uF n):=by
    have:=HD.out;cases gk with
    | zero=>exact this
    | succ f=>unfold PW at this;rw [if_pos ⟨rfl,h1⟩] at this;exact this
   go_wp2_with fail;go_ret;exact ⟨by rw [HR.out];rfl,by rw [<- HR.out];omega,HB.out⟩
  ·obtain ⟨f',rfl⟩:∃ f',gk=f'+1:=by
    cases gk with
    | zero =>
     have:x=0:=by simpa using hx
     exact absurd ⟨this,fun h=>by have:=ho h;omega⟩ hend
    | succ f=>exact ⟨f,rfl⟩
   have HD2:Hid (PW f' (x / 10) (Mj x++out)=uF n):=by
    have:=HD.out;unfold PW at this;rw [if_neg hend] at this;exact this
   have hsd:(Mj x++out).size=out.size+1:=by rw [ByteArray.size_append];show 1+out.size=_;omega
   have hx3:x / 10<10 ^ f':=by rw [Nat.pow_succ] at hx;omega
   have Xj:x≠0\/out.size=0:=by
    by_cases e:x=0
    ·right
     by_cases e2:out.size=0
     ·exact e2
     ·exact absurd ⟨e,e2⟩ hend
    ·exact .inl e
   clear hx hend;by_cases e:x=0
   ·have e0:out.size=0:=by omega
    have ee:=AX e0;subst ee;subst e;have hcv:=Jt wr 0 48 rfl;have hadd:=run_string_add_sum (P:=Tryz.prog) (w:=wr.alloc (.cells #[.int .u8 48] 5)) (Mj 0) ⟨#[]⟩ (by show 1+0<=_;omega);have HB2:=aj (HB.out.alloc HB.out.size (.cells #[.int .u8 48] 5));go_wp2_with fail;go_roundg f'
    case rel=>exact ⟨0,Mj 0++⟨#[]⟩,rfl,rfl,by simpa using hx3,by omega,by omega,by omega,HD2,HB2⟩
    case measure=>omega
   ·have ex:¬ ((x:Int)=0):=by omega
    have hcv:=Jt wr x (48+(x:Int) % 10) (by omega);have hadd:=run_string_add_sum (P:=Tryz.prog) (w:=wr.alloc (.cells #[.int .u8 (48+(x:Int) % 10)] 5)) (Mj x) out (by show 1+out.size<=_;omega);have HB2:=aj (HB.out.alloc HB.out.size (.cells #[.int .u8 (48+(x:Int) % 10)] 5));go_wp2_with fail;go_roundg f'
    case rel=>exact ⟨x / 10,Mj x++out,rfl,by go_num,hx3,by omega,by omega,by omega,HD2,HB2⟩
    case measure=>omega
theorem wB (n:Nat) (w:World) (hn:n<=1000000000) :
  Calls Tryz.prog 97 #[.int .i64 n] w fun e w'=>e=.returned (.string (pq n))/\Below w.heap.size w w':=by
 have HP:=aj (PX n w hn);go_in;go_wp2_with fail;refine HP.out.mono ?_;rintro e w1 ⟨rfl,hs,hb⟩;have hadd:=run_string_add_sum (P:=Tryz.prog) (w:=w1) ⟨#[111,119,110]⟩ (uF n) (by show 3+_<=_;omega);have HB:=aj hb;clear hb;go_wp2_with fail;go_ret;exact ⟨rfl,HB.out⟩
theorem Ju {w:World} {lo lo':Nat} {e e':TypeId} {size size' n n':Nat} {v v':Value} {xs ys:List Value} (h:w.ownsRow lo e size v n xs) (h':w.ownsRow lo' e' size' v' n' ys) (he:e≠e') {g:Nat} (hg:v.ownBlock=some g) (hg':v'.ownBlock=some g):False:=by
 rcases h.2 with ⟨rfl,_⟩ | ⟨a,cap,cur,rfl,_,hga,_⟩
 ·cases hg
 ·rcases h'.2 with ⟨rfl,_⟩ | ⟨b,cap',cur',rfl,_,hgb,_⟩
  ·cases hg'
  ·cases hg;cases hg';rw [hga] at hgb;simp only [Option.some.injEq,Obj.cells.injEq] at hgb;exact he hgb.2.1
theorem jZ {w:World} {lo:Nat} {e e':TypeId} {size n:Nat} {v:Value} {xs:List Value} {cs:Array Value} {c:Nat} (h:w.ownsRow lo e size v n xs) (hc:w.heap[c]?=some (.cells cs e' (0,0))) (he:e≠e'):some c≠v.ownBlock:=by
 intro hg;rcases h.2 with ⟨rfl,_⟩ | ⟨a,cap,cur,rfl,_,hga,_⟩
 ·cases hg
 ·cases hg;rw [hga] at hc;simp only [Option.some.injEq,Obj.cells.injEq] at hc;exact he hc.2.1
theorem aaH (w:World) (a b:Int) (ha:0<=a/\a<256) (hb:0<=b/\b<256):(convert 63 9 (.slice (some ⟨w.heap.size,0,none⟩) 2 2)).run Tryz.prog (w.alloc (.cells #[.int .u8 a,.int .u8 b] 5))=.ok (.string ⟨#[fZ a,fZ b]⟩) (w.alloc (.cells #[.int .u8 a,.int .u8 b] 5)):=by
 refine run_convert_bytes_back (P:=Tryz.prog) (w.alloc (.cells #[.int .u8 a,.int .u8 b] 5)) 63 9 5 ⟨w.heap.size,0,none⟩ 2 [fZ a,fZ b] Tryz.underlying63 Tryz.underlying5 Tryz.underlying9 (fun j hj=>?_);have hx:=gy ha.1 ha.2;have hy:=gy hb.1 hb.2
 match j,hj with
 | 0,_=>simp [go_sem,Addr.add,hx]
 | 1,_=>simp [go_sem,Addr.add,hy]
theorem aaI (w:World) (a b c:Int) (ha:0<=a/\a<256) (hb:0<=b/\b<256) (hc:0<=c/\c<256):(convert 63 9 (.slice (some ⟨w.heap.size,0,none⟩) 3 3)).run Tryz.prog (w.alloc (.cells #[.int .u8 a,.int .u8 b,.int .u8 c] 5))=.ok (.string ⟨#[fZ a,fZ b,fZ c]⟩) (w.alloc (.cells #[.int .u8 a,.int .u8 b,.int .u8 c] 5)):=by
 refine run_convert_bytes_back (P:=Tryz.prog) (w.alloc (.cells #[.int .u8 a,.int .u8 b,.int .u8 c] 5)) 63 9 5 ⟨w.heap.size,0,none⟩ 3 [fZ a,fZ b,fZ c] Tryz.underlying63 Tryz.underlying5 Tryz.underlying9 (fun j hj=>?_);have hx:=gy ha.1 ha.2;have hy:=gy hb.1 hb.2;have hz:=gy hc.1 hc.2
 match j,hj with
 | 0,_=>simp [go_sem,Addr.add,hx]
 | 1,_=>simp [go_sem,Addr.add,hy]
 | 2,_=>simp [go_sem,Addr.add,hz]
theorem aaJ (w:World) (a b c d:Int) (ha:0<=a/\a<256) (hb:0<=b/\b<256) (hc:0<=c/\c<256) (hd:0<=d/\d<256):(convert 63 9 (.slice (some ⟨w.heap.size,0,none⟩) 4 4)).run Tryz.prog (w.alloc (.cells #[.int .u8 a,.int .u8 b,.int .u8 c,.int .u8 d] 5))=.ok (.string ⟨#[fZ a,fZ b,fZ c,fZ d]⟩) (w.alloc (.cells #[.int .u8 a,.int .u8 b,.int .u8 c,.int .u8 d] 5)):=by
 refine run_convert_bytes_back (P:=Tryz.prog) (w.alloc (.cells #[.int .u8 a,.int .u8 b,.int .u8 c,.int .u8 d] 5)) 63 9 5 ⟨w.heap.size,0,none⟩ 4 [fZ a,fZ b,fZ c,fZ d] Tryz.underlying63 Tryz.underlying5 Tryz.underlying9 (fun j hj=>?_);have hx:=gy ha.1 ha.2;have hy:=gy hb.1 hb.2;have hz:=gy hc.1 hc.2;have hu:=gy hd.1 hd.2
 match j,hj with
 | 0,_=>simp [go_sem,Addr.add,hx]
 | 1,_=>simp [go_sem,Addr.add,hy]
 | 2,_=>simp [go_sem,Addr.add,hz]
 | 3,_=>simp [go_sem,Addr.add,hu]
theorem Ca {r:Int} {l:List Int} (h:Lib.encodeRuneZ r=l):bY (Lib.encodeRune r)=⟨(l.map fZ).toArray⟩:=by
 unfold bY Lib.encodeRune;rw [h];rfl
theorem rQ (c:Nat) (w:World) (hc:c<=1114111) (hc2:c<55296\/57343<c) :
  Calls Tryz.prog 263 #[.int .i64 (c:Int)] w fun e w'=>e=.returned (.string (bY (Lib.encodeRune (c:Int))))/\Below w.heap.size w w':=by
 by_cases h1:c<128
 ·have HX:=aj (Ca (Lib.encodeRuneZ_one (r:=(c:Int)) (by omega) (by omega)));have y1:decide ((c:Int)<128)=true:=decide_eq_true (by omega);have e1:IntKind.u8.wrap (c:Int)=(c:Int):=by rw [IntKind.wrap_u8];omega
  have hcv:=WL w (c:Int) (by omega);clear h1 hc2 hc;go_in;go_wp2_with fail;go_ret;exact ⟨by rw [HX.out];rfl,bG _ _⟩
 by_cases h2:c<2048
 ·have HX:=aj (Ca (Lib.encodeRuneZ_two (r:=(c:Int)) (by omega) (by omega)));have y1:decide ((c:Int)<128)=false:=decide_eq_false (by omega);have y2:decide ((c:Int)<2048)=true:=decide_eq_true (by omega);have f64:wrap64 ((c:Int) / 64)=(c:Int) / 64:=by rw [<- jD,IntKind.wrap_i64];omega
  have agA:wrap64 (192+(c:Int) / 64)=192+(c:Int) / 64:=by rw [<- jD,IntKind.wrap_i64];omega
  have agB:(192+(c:Int) / 64) % 256=192+(c:Int) / 64:=by omega
  have hcv:=aaH w (192+(c:Int) / 64) (128+(c:Int) % 64) (by omega) (by omega);clear h1 h2 hc2 hc;go_in;go_wp2_with fail;go_ret;exact ⟨by rw [HX.out];rfl,bG _ _⟩
 by_cases h3:c<65536
 ·have HX:=aj (Ca (Lib.encodeRuneZ_three (r:=(c:Int)) (by omega)));have y1:decide ((c:Int)<128)=false:=decide_eq_false (by omega);have y2:decide ((c:Int)<2048)=false:=decide_eq_false (by omega);have y3:decide ((c:Int)<65536)=true:=decide_eq_true (by omega);have f64:wrap64 ((c:Int) / 64)=(c:Int) / 64:=by rw [<- jD,IntKind.wrap_i64];omega
  have f4096:wrap64 ((c:Int) / 4096)=(c:Int) / 4096:=by rw [<- jD,IntKind.wrap_i64];omega
  have agC:wrap64 (224+(c:Int) / 4096)=224+(c:Int) / 4096:=by rw [<- jD,IntKind.wrap_i64];omega
  have agD:(224+(c:Int) / 4096) % 256=224+(c:Int) / 4096:=by omega
  have hcv:=aaI w (224+(c:Int) / 4096) (128+(c:Int) / 64 % 64) (128+(c:Int) % 64) (by omega) (by omega) (by omega);clear h1 h2 h3 hc2 hc;go_in;go_wp2_with fail;go_ret;exact ⟨by rw [HX.out];rfl,bG _ _⟩
 ·have HX:=aj (Ca (Lib.encodeRuneZ_four (r:=(c:Int)) (by omega) (by omega)));have y1:decide ((c:Int)<128)=false:=decide_eq_false (by omega);have y2:decide ((c:Int)<2048)=false:=decide_eq_false (by omega);have y3:decide ((c:Int)<65536)=false:=decide_eq_false (by omega);have f64:wrap64 ((c:Int) / 64)=(c:Int) / 64:=by rw [<- jD,IntKind.wrap_i64];omega
  have f4096:wrap64 ((c:Int) / 4096)=(c:Int) / 4096:=by rw [<- jD,IntKind.wrap_i64];omega
  have f262144:wrap64 ((c:Int) / 262144)=(c:Int) / 262144:=by rw [<- jD,IntKind.wrap_i64];omega
  have agE:wrap64 (240+(c:Int) / 262144)=240+(c:Int) / 262144:=by rw [<- jD,IntKind.wrap_i64];omega
  have agF:(240+(c:Int) / 262144) % 256=240+(c:Int) / 262144:=by omega
  have hcv:=aaJ w (240+(c:Int) / 262144) (128+(c:Int) / 4096 % 64) (128+(c:Int) / 64 % 64) (128+(c:Int) % 64) (by omega) (by omega) (by omega) (by omega);clear h1 h2 h3 hc2 hc;go_in;go_wp2_with fail;go_ret;exact ⟨by rw [HX.out];rfl,bG _ _⟩
def Cb (c:Nat) (s:ByteArray) (i:Nat) (b:Bool) (w:World) (e:Ending) (w':World):Prop :=
 aG c w w'/\((∃ n,lJ s i=some n/\e=.returned (.int .i64 (n:Int))/\RL c s (i+4) b w')\/(lJ s i=none/\e=.returned (.int .i64 (-1))/\RL c s i b w'))
theorem Ms {s:ByteArray} {i:Nat} (h:s.size<i+4):lJ s i=none:=by
 cases hx:lJ s i with
 | none=>rfl
 | some n=>have:=(eZ hx).2 (by omega);omega
theorem Jv (c:Nat) (s:ByteArray) (i:Nat) (b:Bool) (w:World) (h:RL c s i b w) (hs:s.size<=4000) (hi:i<=s.size+1) :
  Calls Tryz.prog 262 #[.pointer (some ⟨c,0,none⟩)] w (Cb c s i b w):=by
 have HL:=aj h;have q0:=h.q0;have q1:=h.q1;have e1:IntKind.i64.wrap ((i:Int)+4)=(i:Int)+4:=by rw [IntKind.wrap_i64];omega
 clear h;by_cases h4:i+4<=s.size
 ·have x1:decide ((s.size:Int)<(i:Int)+4)=false:=decide_eq_false (by omega);go_in;go_wp2_with fail;go_quiet (fail);have HB0:=aj (below_drewN (Below.refl w.heap.size w) nq);generalize w.drewN nq=w0 at HB0 ⊢;have iL:=aj (HL.out.keep HB0.out);clear q0 q1 e1 x1;go_wp2_with fail;go_loopg [3,4] 4 (fun g n j wr=>∃ k a:Nat,g=4 - k/\k<=4/\j=.int .i64 (k:Int)/\n=.int .i64 (a:Int)/\a<16 ^ k/\Hid (RL c s i b wr)/\Hid (aG c w wr)/\Hid (pQ s i k=some a))
  case atStart=>exact ⟨0,0,rfl,by omega,rfl,rfl,by omega,iL,aG.of HB0.out,rfl⟩
  case round =>
   clear iL HB0;obtain ⟨k,a,rfl,hk,rfl,rfl,ha,jR,QX,HX⟩:=hrel;by_cases hlt:k<4
   ·have Zn:a<4096:=Nat.lt_of_lt_of_le ha (Nat.pow_le_pow_right (show 0<16 by decide) (show k<=3 by omega));have x1:(k:Int)<4:=by omega
    obtain ⟨m,hm⟩:∃ m:Nat,m=i+k:=⟨_,rfl⟩;have hik:m<s.size:=by omega
    obtain ⟨z,hz,hzc⟩:=mM hik;have HZ:Hid (cB s (i+k)=z.toNat):=by show _=_;rw [<- hm];exact hzc
    have q0:=jR.out.q0;have q1:=jR.out.q1;have e1:IntKind.i64.wrap ((i:Int)+(k:Int))=(m:Int):=by rw [IntKind.wrap_i64];omega
    have x2:(m:Int)<(s.size:Int):=by omega
    clear hm;have lz:z.toNat<256:=z.toNat_lt;clear ha hzc;go_wp2_with fail;go_quiet (fail);have fI:=aj (below_drewN (Below.refl wr.heap.size wr) nq);generalize wr.drewN nq=w1 at fI ⊢;have aQ:=aj (jR.out.keep fI.out);have HB1:=aj (QX.out.trans (aG.of fI.out));clear q0 q1 e1 x2 jR QX fI hz;have CB:=aj (jY z.toNat w1);by_cases hD:iM z.toNat=true
    ·have hq:48<=z.toNat/\z.toNat<=57:=by unfold iM at hD;simp at hD;exact hD
     obtain ⟨q1,q2⟩:=hq;have q8:Hid (pQ s i (k+1)=some (16*a+(z.toNat - 48))):=sw HX.out (by rw [HZ.out];unfold og;rw [if_pos hD]);have hx2:=eZ q8.out;rw [hD] at CB;obtain ⟨C,hC⟩:∃ C:Int,(z.toNat:Int) - 48=C:=⟨_,rfl⟩;have hC1:0<=C:=by omega
     have hC2:C<=9:=by omega
     have u1:IntKind.u8.wrap ((z.toNat:Int) - 48)=C:=by rw [hC,IntKind.wrap_u8];omega
     have u2:IntKind.i64.wrap C=C:=by rw [IntKind.wrap_i64];omega
     have HC:=aj hC;clear HX hD hC;go_wp2_with fail;refine CB.out.mono ?_;rintro e w1' ⟨rfl,rfl⟩;go_wp2_with fail;go_roundg (4 - (k+1))
     case rel=>exact ⟨k+1,16*a+(z.toNat - 48),rfl,by omega,by go_num,congrArg (Value.int .i64) (by have:=HC.out;omega),hx2.1,aQ,HB1,q8⟩
     case measure=>omega
    ·have UN:iM z.toNat=false:=by simpa using hD
     rw [UN] at CB;by_cases hA:97<=z.toNat/\z.toNat<=102
     ·obtain ⟨q1,q2⟩:=hA;have q8:Hid (pQ s i (k+1)=some (16*a+(z.toNat - 87))):=sw HX.out (by rw [HZ.out];unfold og;rw [if_neg hD,if_pos ⟨q1,q2⟩]);have hx2:=eZ q8.out;obtain ⟨C,hC⟩:∃ C:Int,(z.toNat:Int) - 97=C:=⟨_,rfl⟩;have hC1:0<=C:=by omega
      have hC2:C<=9:=by omega
      have u1:IntKind.u8.wrap ((z.toNat:Int) - 97)=C:=by rw [hC,IntKind.wrap_u8];omega
      have u2:IntKind.i64.wrap C=C:=by rw [IntKind.wrap_i64];omega
      have y1:decide ((97:Int)<=(z.toNat:Int))=true:=decide_eq_true (by omega);have y2:decide ((z.toNat:Int)<=102)=true:=decide_eq_true (by omega);have HC:=aj hC;clear HX hD UN hC;go_wp2_with fail;refine CB.out.mono ?_;rintro e w1' ⟨rfl,rfl⟩;go_wp2_with fail;go_roundg (4 - (k+1))
      case rel=>exact ⟨k+1,16*a+(z.toNat - 87),rfl,by omega,by go_num,congrArg (Value.int .i64) (by have:=HC.out;omega),hx2.1,aQ,HB1,q8⟩
      case measure=>omega
     ·by_cases hB:65<=z.toNat/\z.toNat<=70
      ·obtain ⟨q1,q2⟩:=hB;have q8:Hid (pQ s i (k+1)=some (16*a+(z.toNat - 55))):=sw HX.out (by rw [HZ.out];unfold og;rw [if_neg hD,if_neg hA,if_pos ⟨q1,q2⟩]);have hx2:=eZ q8.out;obtain ⟨C,hC⟩:∃ C:Int,(z.toNat:Int) - 65=C:=⟨_,rfl⟩;have hC1:0<=C:=by omega
       have hC2:C<=9:=by omega
       have u1:IntKind.u8.wrap ((z.toNat:Int) - 65)=C:=by rw [hC,IntKind.wrap_u8];omega
       have u2:IntKind.i64.wrap C=C:=by rw [IntKind.wrap_i64];omega
       have y1:decide ((97:Int)<=(z.toNat:Int))=false:=decide_eq_false (by omega);have y3:decide ((65:Int)<=(z.toNat:Int))=true:=decide_eq_true (by omega);have y4:decide ((z.toNat:Int)<=70)=true:=decide_eq_true (by omega);have HC:=aj hC;clear HX hD UN hC hA;go_wp2_with fail;refine CB.out.mono ?_;rintro e w1' ⟨rfl,rfl⟩;go_wp2_with fail;go_roundg (4 - (k+1))
       case rel=>exact ⟨k+1,16*a+(z.toNat - 55),rfl,by omega,by go_num,congrArg (Value.int .i64) (by have:=HC.out;omega),hx2.1,aQ,HB1,q8⟩
       case measure=>omega
      ·have q8:Hid (lJ s i=none):=wU HX.out (by rw [HZ.out];unfold og;rw [if_neg hD,if_neg hA,if_neg hB]) hlt;clear HX hD UN;by_cases hA1:97<=z.toNat
       ·have y1:decide ((97:Int)<=(z.toNat:Int))=true:=decide_eq_true (by omega);have y2:decide ((z.toNat:Int)<=102)=false:=decide_eq_false (by omega);have y3:decide ((65:Int)<=(z.toNat:Int))=true:=decide_eq_true (by omega);have y4:decide ((z.toNat:Int)<=70)=false:=decide_eq_false (by omega);clear hA hB hA1;go_wp2_with fail;refine CB.out.mono ?_;rintro e w1' ⟨rfl,rfl⟩;go_wp2_with fail;go_ret;exact ⟨HB1.out,Or.inr ⟨q8.out,rfl,aQ.out⟩⟩
       ·have y1:decide ((97:Int)<=(z.toNat:Int))=false:=decide_eq_false (by omega);by_cases hB1:65<=z.toNat
        ·have y3:decide ((65:Int)<=(z.toNat:Int))=true:=decide_eq_true (by omega);have y4:decide ((z.toNat:Int)<=70)=false:=decide_eq_false (by omega);clear hA hB hA1 hB1;go_wp2_with fail;refine CB.out.mono ?_;rintro e w1' ⟨rfl,rfl⟩;go_wp2_with fail;go_ret;exact ⟨HB1.out,Or.inr ⟨q8.out,rfl,aQ.out⟩⟩
        ·have y3:decide ((65:Int)<=(z.toNat:Int))=false:=decide_eq_false (by omega);clear hA hB hA1 hB1;go_wp2_with fail;refine CB.out.mono ?_;rintro e w1' ⟨rfl,rfl⟩;go_wp2_with fail;go_ret;exact ⟨HB1.out,Or.inr ⟨q8.out,rfl,aQ.out⟩⟩
   ·have hk4:k=4:=by omega
    subst hk4;have q1:=jR.out.q1;have q2:=jR.out.f1;go_wp2_with fail;go_ret;exact ⟨QX.out.trans (aG.set wr c 1 _),Or.inl ⟨a,HX.out,rfl,jR.out.set (i+4)⟩⟩
 ·have x1:decide ((s.size:Int)<(i:Int)+4)=true:=decide_eq_true (by omega);have HX:=aj (Ms (s:=s) (i:=i) (by omega));clear h4;go_in;go_wp2_with fail;go_quiet (fail);have HB0:=aj (below_drewN (Below.refl w.heap.size w) nq);generalize w.drewN nq=w0 at HB0 ⊢;clear q0 q1 e1 x1;go_wp2_with fail;go_ret;exact ⟨aG.of HB0.out,Or.inr ⟨HX.out,rfl,HL.out.keep HB0.out⟩⟩
def gu (c:Nat) (s:ByteArray) (x:Option (Nat×Nat)) (w:World) (e:Ending) (w':World):Prop :=
 aG c w w'/\((∃ r j,x=some (r,j)/\e=.returned (.string (bY (Lib.encodeRune (r:Int))))/\RL c s j false w')\/(x=none/\(∃ y:ByteArray,y.size<=4/\e=.returned (.string y))/\RB c s w'))
theorem iD (a:Nat) (h:a<128):bY (Lib.encodeRune (a:Int))=⟨#[fZ (a:Int)]⟩:=Ca (Lib.encodeRuneZ_one (r:=(a:Int)) (by omega) (by omega))
theorem xS (w:World) (c:Nat) (u:Value) (a:Int) (ha:0<=a/\a<256):(convert 63 9 (.slice (some ⟨w.heap.size,0,none⟩) 1 1)).run Tryz.prog ((w.setCell ⟨c,1,none⟩ u).alloc (.cells #[.int .u8 a] 5))=.ok (.string ⟨#[fZ a]⟩) ((w.setCell ⟨c,1,none⟩ u).alloc (.cells #[.int .u8 a] 5)):=by
 have h:=WL (w.setCell ⟨c,1,none⟩ u) a ha;have e:(w.setCell ⟨c,1,none⟩ u).heap.size=w.heap.size:=by simp [World.setCell]
 rw [e] at h;exact h
theorem VW (s:ByteArray) (k:Nat):ku s k ⟨#[92,117]⟩=decide (cB s k=92/\cB s (k+1)=117):=by
 by_cases h:k+2<=s.size
 ·have hl:(s.extract k (k+2)).data.toList=[s.data.toList[k]'(by show k<s.size;omega),s.data.toList[k+1]'(by show k+1<s.size;omega)]:=by
   rw [kN,qX s k 1 (by omega),qX s k 0 (by omega),List.take_zero];rfl
  have h1:=Ao s k (by omega);have h2:=Ao s (k+1) (by omega);rw [qU (by omega:k<s.size),qU (by omega:k+1<s.size),<- h1,<- h2];unfold ku;have hsz:(⟨#[92,117]⟩:ByteArray).size=2:=rfl;rw [hsz,decide_eq_true h,Bool.true_and];apply decide_eq_decide.2;constructor
  ·intro e;have e2:(s.extract k (k+2)).data.toList=[92,117]:=by rw [e]
   rw [hl] at e2;simp only [List.cons.injEq,and_true] at e2;rw [e2.1,e2.2];exact ⟨rfl,rfl⟩
  ·intro e;apply EX;rw [hl];have a1:s.data.toList[k]'(by show k<s.size;omega)=92:=UInt8.toNat_inj.1 e.1;have a2:s.data.toList[k+1]'(by show k+1<s.size;omega)=117:=UInt8.toNat_inj.1 e.2;rw [a1,a2]
 ·have hp:ku s k ⟨#[92,117]⟩=false:=by unfold ku;rw [decide_eq_false (by show ¬ (k+2<=s.size);omega),Bool.false_and]
  rw [hp];symm;apply decide_eq_false;rintro ⟨e1,e2⟩;have:=aZ (s:=s) (i:=k+1) (by omega);omega
theorem VX (c:Nat) (s:ByteArray) (i:Nat) (w:World) (h:RL c s i false w) (hs:s.size<=4000) (ha:cB s i=34) :
  Calls Tryz.prog 242 #[.pointer (some ⟨c,0,none⟩)] w (gu c s (dw s i) w):=by
 have HL:=aj h;have HP:=aj (bL c s i false w h);have HX:Hid (dw s i=some (34,i+1)):=by show _=_;unfold dw;rw [if_pos (by omega),ha]
 have hpk:=oN ha (by omega);have hi:i<s.size:=aZ (by omega);have HE:=aj (iD 34 (by omega));rw [hpk] at HP;clear h hpk ha;go_in;go_wp2_with fail;refine HP.out.mono ?_;rintro e w1 ⟨rfl,b1⟩;have aQ:=aj (HL.out.keep b1);have HB1:=aj (aG.of (c:=c) b1);have q1:=aQ.out.q1;have q2:=aQ.out.f1;have hcv:=xS w1 c (.int .i64 ((i:Int)+1)) 34 (by omega);clear b1 HP;go_wp2_with fail;go_ret;exact ⟨(HB1.out.trans (aG.set w1 c 1 _)).trans (aG.of (bG _ _)),Or.inl ⟨34,i+1,HX.out,by rw [HE.out];rfl,(aQ.out.set (i+1)).keep (bG _ _)⟩⟩
theorem VY (c:Nat) (s:ByteArray) (i:Nat) (w:World) (h:RL c s i false w) (hs:s.size<=4000) (ha:cB s i=92) :
  Calls Tryz.prog 242 #[.pointer (some ⟨c,0,none⟩)] w (gu c s (dw s i) w):=by
 have HL:=aj h;have HP:=aj (bL c s i false w h);have HX:Hid (dw s i=some (92,i+1)):=by show _=_;unfold dw;rw [if_pos (by omega),ha]
 have hpk:=oN ha (by omega);have hi:i<s.size:=aZ (by omega);have HE:=aj (iD 92 (by omega));rw [hpk] at HP;clear h hpk ha;go_in;go_wp2_with fail;refine HP.out.mono ?_;rintro e w1 ⟨rfl,b1⟩;have aQ:=aj (HL.out.keep b1);have HB1:=aj (aG.of (c:=c) b1);have q1:=aQ.out.q1;have q2:=aQ.out.f1;have hcv:=xS w1 c (.int .i64 ((i:Int)+1)) 92 (by omega);clear b1 HP;go_wp2_with fail;go_ret;exact ⟨(HB1.out.trans (aG.set w1 c 1 _)).trans (aG.of (bG _ _)),Or.inl ⟨92,i+1,HX.out,by rw [HE.out];rfl,(aQ.out.set (i+1)).keep (bG _ _)⟩⟩
theorem VZ (c:Nat) (s:ByteArray) (i:Nat) (w:World) (h:RL c s i false w) (hs:s.size<=4000) (ha:cB s i=47) :
  Calls Tryz.prog 242 #[.pointer (some ⟨c,0,none⟩)] w (gu c s (dw s i) w):=by
 have HL:=aj h;have HP:=aj (bL c s i false w h);have HX:Hid (dw s i=some (47,i+1)):=by show _=_;unfold dw;rw [if_pos (by omega),ha]
 have hpk:=oN ha (by omega);have hi:i<s.size:=aZ (by omega);have HE:=aj (iD 47 (by omega));rw [hpk] at HP;clear h hpk ha;go_in;go_wp2_with fail;refine HP.out.mono ?_;rintro e w1 ⟨rfl,b1⟩;have aQ:=aj (HL.out.keep b1);have HB1:=aj (aG.of (c:=c) b1);have q1:=aQ.out.q1;have q2:=aQ.out.f1;have hcv:=xS w1 c (.int .i64 ((i:Int)+1)) 47 (by omega);clear b1 HP;go_wp2_with fail;go_ret;exact ⟨(HB1.out.trans (aG.set w1 c 1 _)).trans (aG.of (bG _ _)),Or.inl ⟨47,i+1,HX.out,by rw [HE.out];rfl,(aQ.out.set (i+1)).keep (bG _ _)⟩⟩
theorem V3 (c:Nat) (s:ByteArray) (i:Nat) (w:World) (h:RL c s i false w) (hs:s.size<=4000) (ha:cB s i=98) :
  Calls Tryz.prog 242 #[.pointer (some ⟨c,0,none⟩)] w (gu c s (dw s i) w):=by
 have HL:=aj h;have HP:=aj (bL c s i false w h);have HX:Hid (dw s i=some (8,i+1)):=by show _=_;unfold dw;rw [if_neg (by omega),if_pos ha]
 have hpk:=oN ha (by omega);have hi:i<s.size:=aZ (by omega);have HE:=aj (iD 8 (by omega));rw [hpk] at HP;clear h hpk ha;go_in;go_wp2_with fail;refine HP.out.mono ?_;rintro e w1 ⟨rfl,b1⟩;have aQ:=aj (HL.out.keep b1);have HB1:=aj (aG.of (c:=c) b1);have q1:=aQ.out.q1;have q2:=aQ.out.f1;clear b1 HP;go_wp2_with fail;go_ret;exact ⟨HB1.out.trans (aG.set w1 c 1 _),Or.inl ⟨8,i+1,HX.out,by rw [HE.out];rfl,aQ.out.set (i+1)⟩⟩
theorem TU (c:Nat) (s:ByteArray) (i:Nat) (w:World) (h:RL c s i false w) (hs:s.size<=4000) (ha:cB s i=102) :
  Calls Tryz.prog 242 #[.pointer (some ⟨c,0,none⟩)] w (gu c s (dw s i) w):=by
 have HL:=aj h;have HP:=aj (bL c s i false w h);have HX:Hid (dw s i=some (12,i+1)):=by show _=_;unfold dw;rw [if_neg (by omega),if_neg (by omega),if_pos ha]
 have hpk:=oN ha (by omega);have hi:i<s.size:=aZ (by omega);have HE:=aj (iD 12 (by omega));rw [hpk] at HP;clear h hpk ha;go_in;go_wp2_with fail;refine HP.out.mono ?_;rintro e w1 ⟨rfl,b1⟩;have aQ:=aj (HL.out.keep b1);have HB1:=aj (aG.of (c:=c) b1);have q1:=aQ.out.q1;have q2:=aQ.out.f1;clear b1 HP;go_wp2_with fail;go_ret;exact ⟨HB1.out.trans (aG.set w1 c 1 _),Or.inl ⟨12,i+1,HX.out,by rw [HE.out];rfl,aQ.out.set (i+1)⟩⟩
theorem TV (c:Nat) (s:ByteArray) (i:Nat) (w:World) (h:RL c s i false w) (hs:s.size<=4000) (ha:cB s i=110) :
  Calls Tryz.prog 242 #[.pointer (some ⟨c,0,none⟩)] w (gu c s (dw s i) w):=by
 have HL:=aj h;have HP:=aj (bL c s i false w h);have HX:Hid (dw s i=some (10,i+1)):=by show _=_;unfold dw;rw [if_neg (by omega),if_neg (by omega),if_neg (by omega),if_pos ha]
 have hpk:=oN ha (by omega);have hi:i<s.size:=aZ (by omega);have HE:=aj (iD 10 (by omega));rw [hpk] at HP;clear h hpk ha;go_in;go_wp2_with fail;refine HP.out.mono ?_;rintro e w1 ⟨rfl,b1⟩;have aQ:=aj (HL.out.keep b1);have HB1:=aj (aG.of (c:=c) b1);have q1:=aQ.out.q1;have q2:=aQ.out.f1;clear b1 HP;go_wp2_with fail;go_ret;exact ⟨HB1.out.trans (aG.set w1 c 1 _),Or.inl ⟨10,i+1,HX.out,by rw [HE.out];rfl,aQ.out.set (i+1)⟩⟩
theorem TW (c:Nat) (s:ByteArray) (i:Nat) (w:World) (h:RL c s i false w) (hs:s.size<=4000) (ha:cB s i=114) :
  Calls Tryz.prog 242 #[.pointer (some ⟨c,0,none⟩)] w (gu c s (dw s i) w):=by
 have HL:=aj h;have HP:=aj (bL c s i false w h);have HX:Hid (dw s i=some (13,i+1)):=by show _=_;unfold dw;rw [if_neg (by omega),if_neg (by omega),if_neg (by omega),if_neg (by omega),if_pos ha]
 have hpk:=oN ha (by omega);have hi:i<s.size:=aZ (by omega);have HE:=aj (iD 13 (by omega));rw [hpk] at HP;clear h hpk ha;go_in;go_wp2_with fail;refine HP.out.mono ?_;rintro e w1 ⟨rfl,b1⟩;have aQ:=aj (HL.out.keep b1);have HB1:=aj (aG.of (c:=c) b1);have q1:=aQ.out.q1;have q2:=aQ.out.f1;clear b1 HP;go_wp2_with fail;go_ret;exact ⟨HB1.out.trans (aG.set w1 c 1 _),Or.inl ⟨13,i+1,HX.out,by rw [HE.out];rfl,aQ.out.set (i+1)⟩⟩
theorem TY (c:Nat) (s:ByteArray) (i:Nat) (w:World) (h:RL c s i false w) (hs:s.size<=4000) (ha:cB s i=116) :
  Calls Tryz.prog 242 #[.pointer (some ⟨c,0,none⟩)] w (gu c s (dw s i) w):=by
 have HL:=aj h;have HP:=aj (bL c s i false w h);have HX:Hid (dw s i=some (9,i+1)):=by show _=_;unfold dw;rw [if_neg (by omega),if_neg (by omega),if_neg (by omega),if_neg (by omega),if_neg (by omega),if_pos ha]
 have hpk:=oN ha (by omega);have hi:i<s.size:=aZ (by omega);have HE:=aj (iD 9 (by omega));rw [hpk] at HP;clear h hpk ha;go_in;go_wp2_with fail;refine HP.out.mono ?_;rintro e w1 ⟨rfl,b1⟩;have aQ:=aj (HL.out.keep b1);have HB1:=aj (aG.of (c:=c) b1);have q1:=aQ.out.q1;have q2:=aQ.out.f1;clear b1 HP;go_wp2_with fail;go_ret;exact ⟨HB1.out.trans (aG.set w1 c 1 _),Or.inl ⟨9,i+1,HX.out,by rw [HE.out];rfl,aQ.out.set (i+1)⟩⟩
theorem V4 (c:Nat) (s:ByteArray) (i:Nat) (w:World) (h:RL c s i false w) (hs:s.size<=4000) (hi:i<=s.size) (hn:cB s i≠34/\cB s i≠92/\cB s i≠47/\cB s i≠98/\cB s i≠102/\cB s i≠110/\cB s i≠114/\cB s i≠116/\cB s i≠117) :
  Calls Tryz.prog 242 #[.pointer (some ⟨c,0,none⟩)] w (gu c s (dw s i) w):=by
 have HL:=aj h;have HP:=aj (bL c s i false w h);obtain ⟨n1,n2,n3,n4,n5,n6,n7,n8,n9⟩:=hn;have HX:Hid (dw s i=none):=by show _=_;unfold dw;rw [if_neg (by omega),if_neg n4,if_neg n5,if_neg n6,if_neg n7,if_neg n8,if_neg n9]
 have p1:=mP n1 (by omega);have p2:=mP n2 (by omega);have p3:=mP n3 (by omega);have p4:=mP n4 (by omega);have p5:=mP n5 (by omega);have p6:=mP n6 (by omega);have p7:=mP n7 (by omega);have p8:=mP n8 (by omega);have p9:=mP n9 (by omega);clear h n1 n2 n3 n4 n5 n6 n7 n8 n9;generalize pk s i=a at HP p1 p2 p3 p4 p5 p6 p7 p8 p9;have y1:((a:Int)==34)=false:=by rw [beq_eq_false_iff_ne];omega
 have y2:((a:Int)==92)=false:=by rw [beq_eq_false_iff_ne];omega
 have y3:((a:Int)==47)=false:=by rw [beq_eq_false_iff_ne];omega
 have y4:((a:Int)==98)=false:=by rw [beq_eq_false_iff_ne];omega
 have y5:((a:Int)==102)=false:=by rw [beq_eq_false_iff_ne];omega
 have y6:((a:Int)==110)=false:=by rw [beq_eq_false_iff_ne];omega
 have y7:((a:Int)==114)=false:=by rw [beq_eq_false_iff_ne];omega
 have y8:((a:Int)==116)=false:=by rw [beq_eq_false_iff_ne];omega
 have y9:((a:Int)==117)=false:=by rw [beq_eq_false_iff_ne];omega
 clear p1 p2 p3 p4 p5 p6 p7 p8 p9;go_in;go_wp2_with fail;refine HP.out.mono ?_;rintro e w1 ⟨rfl,b1⟩;have aQ:=aj (HL.out.keep b1);have HB1:=aj (aG.of (c:=c) b1);have HL2:=aj (aQ.out.set (i+1));have q1:=aQ.out.q1;have q2:=aQ.out.f1;have q3:=aQ.out.q2;have q4:=aQ.out.f2;clear b1 HP;go_wp2_with fail;go_ret;exact ⟨(HB1.out.trans (aG.set w1 c 1 _)).trans (aG.set _ c 2 _),Or.inr ⟨HX.out,⟨⟨#[]⟩,by show (0:Nat)<=4;omega,rfl⟩,i+1,by omega,HL2.out.mark true⟩⟩
theorem Yn (c:Nat) (s:ByteArray) (i:Nat) (w:World) (h:RL c s i false w) (hs:s.size<=4000) (ha:cB s i=117) :
  Calls Tryz.prog 242 #[.pointer (some ⟨c,0,none⟩)] w (gu c s (dw s i) w):=by
 have HL:=aj h;have HP:=aj (bL c s i false w h);have HX:Hid (dw s i=(lJ s (i+1)).bind fun a=>low s (i+5) a):=by show _=_;unfold dw;rw [if_neg (by omega),if_neg (by omega),if_neg (by omega),if_neg (by omega),if_neg (by omega),if_neg (by omega),if_pos ha]
 have hpk:=oN ha (by omega);have hi:i<s.size:=aZ (by omega);rw [hpk] at HP;clear h hpk ha;go_in;go_wp2_with fail;refine HP.out.mono ?_;rintro e w1 ⟨rfl,b1⟩;have aQ:=aj (HL.out.keep b1);have HB1:=aj (aG.of (c:=c) b1);have q1:=aQ.out.q1;have q2:=aQ.out.f1;have HL2:=aj (aQ.out.set (i+1));have HB2:=aj (HB1.out.trans (aG.set w1 c 1 (.int .i64 ((i+1:Nat):Int))));have HH:Hid (Calls Tryz.prog 262 #[.pointer (some ⟨c,0,none⟩)] (w1.setCell ⟨c,1,none⟩ (.int .i64 ((i:Int)+1))) (Cb c s (i+1) false (w1.setCell ⟨c,1,none⟩ (.int .i64 ((i+1:Nat):Int))))):=Jv c s (i+1) false _ HL2.out hs (by omega);clear b1 HP HL aQ HB1;go_wp2_with fail;refine HH.out.mono ?_;clear HL2;generalize w1.setCell ⟨c,1,none⟩ (.int .i64 ((i+1:Nat):Int))=w2 at HB2 ⊢;rintro e w3 ⟨B3,⟨a,hx,rfl,L3⟩ | ⟨hx,rfl,L3⟩⟩
 ·have HB3:=aj (HB2.out.trans B3);obtain ⟨m,hm⟩:∃ m:Nat,m=i+5:=⟨_,rfl⟩;have gF:Hid (RL c s m false w3):=by rw [hm];exact L3
  have ha:a<65536:=(eZ hx).1;have hi5:m<=s.size:=by have:=(eZ hx).2 (by omega);omega
  have HY:Hid (dw s i=low s m a):=by show _=_;rw [HX.out,hx,hm];rfl
  have p2:=gF.out.q2;have p3:=gF.out.f2;clear B3 L3 hx HH q1 q2 HX HB2 hm;by_cases hs1:a<55296\/57343<a
  ·have HZ:Hid (low s (m) a=some (a,m)):=by show _=_;unfold low;rw [if_pos hs1]
   have hm:max (a:Int) 0=(a:Int):=by omega
   have Zc:=aj (rQ a (w3.setCell ⟨c,2,none⟩ (.bool false)) (by omega) (by omega));have y0:decide ((a:Int)<0)=false:=decide_eq_false (by omega);by_cases hs2:a<55296
   ·have y1:decide ((a:Int)<55296)=true:=decide_eq_true (by omega);clear hs1 hs2;go_wp2_with fail;refine Zc.out.mono ?_;rintro e w4 ⟨rfl,b4⟩;have jM:=aj ((gF.out.mark false).keep b4);have bO:=aj ((HB3.out.trans (aG.set w3 c 2 (.bool false))).trans (aG.of b4));clear b4;go_wp2_with fail;go_ret;exact ⟨bO.out,Or.inl ⟨a,m,HY.out.trans HZ.out,rfl,jM.out⟩⟩
   ·have y1:decide ((a:Int)<55296)=false:=decide_eq_false (by omega);have y2:decide ((57344:Int)<=(a:Int))=true:=decide_eq_true (by omega);clear hs1 hs2;go_wp2_with fail;refine Zc.out.mono ?_;rintro e w4 ⟨rfl,b4⟩;have jM:=aj ((gF.out.mark false).keep b4);have bO:=aj ((HB3.out.trans (aG.set w3 c 2 (.bool false))).trans (aG.of b4));clear b4;go_wp2_with fail;go_ret;exact ⟨bO.out,Or.inl ⟨a,m,HY.out.trans HZ.out,rfl,jM.out⟩⟩
  ·have y1:decide ((a:Int)<55296)=false:=decide_eq_false (by omega);have y2:decide ((57344:Int)<=(a:Int))=false:=decide_eq_false (by omega);have p0:=gF.out.q0;have p1:=gF.out.q1;have p4:=gF.out.f1;by_cases hs2:56319<a
   ·have HZ:Hid (low s (m) a=none):=by show _=_;unfold low;rw [if_neg hs1,if_pos hs2]
    have y3:decide ((56320:Int)<=(a:Int))=true:=decide_eq_true (by omega);clear hs1 hs2;go_wp2_with fail;go_quiet (fail);have fI:=aj (below_drewN (Below.refl w3.heap.size w3) nq);generalize w3.drewN nq=w4 at fI ⊢;have jM:=aj (gF.out.keep fI.out);have bO:=aj (HB3.out.trans (aG.of fI.out));clear p0 p1 p2 p3 p4;have p2:=jM.out.q2;have p3:=jM.out.f2;go_wp2_with fail;go_ret;exact ⟨bO.out.trans (aG.set w4 c 2 _),Or.inr ⟨HY.out.trans HZ.out,⟨⟨#[]⟩,by show (0:Nat)<=4;omega,rfl⟩,m,by omega,jM.out.mark true⟩⟩
   ·have y3:decide ((56320:Int)<=(a:Int))=false:=decide_eq_false (by omega);have HZ0:Hid (low s (m) a=if cB s (m)=92/\cB s (m+1)=117 then (lJ s (m+2)).bind fun b=>if b<56320\/57343<b then none else some (65536+1024*(a - 55296)+(b - 56320),m+6) else none):=by show _=_;unfold low;rw [if_neg hs1,if_neg hs2]
    have hr1:55296<=a:=by omega
    have hr2:a<=56319:=by omega
    clear hs1 hs2;have w1e:IntKind.i64.wrap ((m:Int)+2)=(m:Int)+2:=by rw [IntKind.wrap_i64];omega
    by_cases hl:m+2<=s.size
    ·have y4:decide ((s.size:Int)<(m:Int)+2)=false:=decide_eq_false (by omega);have z1:(m:Int)<=(m:Int)+2:=by omega
     have z2:(m:Int)+2<=(s.size:Int):=by omega
     have hpt:=VW s (m);rw [Tn (by show m+2<=s.size;omega)] at hpt;by_cases Zd:cB s (m)=92/\cB s (m+1)=117
     ·have hq:s.extract (m) (m+2)=⟨#[92,117]⟩:=by
       rw [decide_eq_true Zd] at hpt;exact of_decide_eq_true hpt
      have HZ1:Hid (low s (m) a=(lJ s (m+2)).bind fun b=>if b<56320\/57343<b then none else some (65536+1024*(a - 55296)+(b - 56320),m+6)):=by show _=_;rw [HZ0.out,if_pos Zd]
      clear Zd hpt HZ0;go_wp2_with fail;go_quiet (fail);have fI:=aj (below_drewN (Below.refl w3.heap.size w3) nq);generalize w3.drewN nq=w4 at fI ⊢;have jM:=aj (gF.out.keep fI.out);have bO:=aj (HB3.out.trans (aG.of fI.out));clear p0 p1 p2 p3 p4 hq w1e y4 z1 z2;have p1:=jM.out.q1;have p4:=jM.out.f1;have JU:=aj (jM.out.set (m+2));have jW:=aj (bO.out.trans (aG.set w4 c 1 (.int .i64 ((m+2:Nat):Int))));have HH:Hid (Calls Tryz.prog 262 #[.pointer (some ⟨c,0,none⟩)] (w4.setCell ⟨c,1,none⟩ (.int .i64 ((m:Int)+2))) (Cb c s (m+2) false (w4.setCell ⟨c,1,none⟩ (.int .i64 ((m+2:Nat):Int))))):=Jv c s (m+2) false _ JU.out hs (by omega);go_wp2_with fail;refine HH.out.mono ?_;clear JU HH;generalize w4.setCell ⟨c,1,none⟩ (.int .i64 ((m+2:Nat):Int))=w5 at jW ⊢;rintro e w6 ⟨B6,⟨b,hx,rfl,L6⟩ | ⟨hx,rfl,L6⟩⟩
      ·have pX:=aj (jW.out.trans B6);have pW:=aj L6;have hb:b<65536:=(eZ hx).1;have hi6:m+2+4<=s.size:=(eZ hx).2 (by omega);have HZ2:Hid (low s (m) a=if b<56320\/57343<b then none else some (65536+1024*(a - 55296)+(b - 56320),m+6)):=by show _=_;rw [HZ1.out];show (lJ s (m+2)).bind _=_;rw [hx];rfl
       have r2:=pW.out.q2;have r3:=pW.out.f2;clear B6 L6 hx HZ1 p1 p4;by_cases hb1:b<56320\/57343<b
       ·have HZ:Hid (low s (m) a=none):=by show _=_;rw [HZ2.out,if_pos hb1]
        by_cases hb2:b<56320
        ·have y5:decide ((b:Int)<56320)=true:=decide_eq_true (by omega);clear hb1 hb2;go_wp2_with fail;go_ret;exact ⟨pX.out.trans (aG.set w6 c 2 _),Or.inr ⟨HY.out.trans HZ.out,⟨⟨#[]⟩,by show (0:Nat)<=4;omega,rfl⟩,_,by omega,pW.out.mark true⟩⟩
        ·have y5:decide ((b:Int)<56320)=false:=decide_eq_false (by omega);have y6:decide ((57344:Int)<=(b:Int))=true:=decide_eq_true (by omega);clear hb1 hb2;go_wp2_with fail;go_ret;exact ⟨pX.out.trans (aG.set w6 c 2 _),Or.inr ⟨HY.out.trans HZ.out,⟨⟨#[]⟩,by show (0:Nat)<=4;omega,rfl⟩,_,by omega,pW.out.mark true⟩⟩
       ·have HZ:Hid (low s (m) a=some (65536+1024*(a - 55296)+(b - 56320),m+6)):=by show _=_;rw [HZ2.out,if_neg hb1]
        have y5:decide ((b:Int)<56320)=false:=decide_eq_false (by omega);have y6:decide ((57344:Int)<=(b:Int))=false:=decide_eq_false (by omega);have hr3:56320<=b:=by omega
        have hr4:b<=57343:=by omega
        clear hb1
        have Zc:Hid (Calls Tryz.prog 263 #[.int .i64 (65536+1024*((a:Int) - 55296)+(b:Int) - 56320)] w6 fun e w'=>e=.returned (.string (bY (Lib.encodeRune ((65536+1024*(a - 55296)+(b - 56320):Nat):Int))))/\Below w6.heap.size w6 w'):=by
         have:=rQ (65536+1024*(a - 55296)+(b - 56320)) w6 (by omega) (by omega);have e1:((65536+1024*(a - 55296)+(b - 56320):Nat):Int)=65536+1024*((a:Int) - 55296)+(b:Int) - 56320:=by omega
         rw [e1] at this ⊢;exact this
        go_wp2_with fail;refine Zc.out.mono ?_;rintro e w7 ⟨rfl,b7⟩;have Fa:=aj (pW.out.keep b7);have rE:=aj (pX.out.trans (aG.of b7));clear b7;go_wp2_with fail;go_ret;exact ⟨rE.out,Or.inl ⟨_,m+6,HY.out.trans HZ.out,rfl,Fa.out⟩⟩
      ·have pX:=aj (jW.out.trans B6);have pW:=aj L6;have HZ:Hid (low s (m) a=none):=by show _=_;rw [HZ1.out];show (lJ s (m+2)).bind _=_;rw [hx];rfl
       have r2:=pW.out.q2;have r3:=pW.out.f2;clear B6 L6 hx HZ1 p1 p4;go_wp2_with fail;go_ret;exact ⟨pX.out.trans (aG.set w6 c 2 _),Or.inr ⟨HY.out.trans HZ.out,⟨⟨#[]⟩,by show (0:Nat)<=4;omega,rfl⟩,_,by omega,pW.out.mark true⟩⟩
     ·have hq:((s.extract m (m+2)).toList==([92,117]:List UInt8))=false:=by
       have h1:=N8 (s.extract m (m+2)) ⟨#[92,117]⟩;have h2:(⟨#[92,117]⟩:ByteArray).toList=[92,117]:=by rw [ByteArray.toList_eq]
       rw [h2] at h1;rw [h1];rw [decide_eq_false Zd] at hpt;exact hpt
      have HZ:Hid (low s (m) a=none):=by show _=_;rw [HZ0.out,if_neg Zd]
      clear Zd hpt HZ0;go_wp2_with fail;go_quiet (fail);have fI:=aj (below_drewN (Below.refl w3.heap.size w3) nq);generalize w3.drewN nq=w4 at fI ⊢;have jM:=aj (gF.out.keep fI.out);have bO:=aj (HB3.out.trans (aG.of fI.out));clear p0 p1 p2 p3 p4;have p2:=jM.out.q2;have p3:=jM.out.f2;go_wp2_with fail;go_ret;exact ⟨bO.out.trans (aG.set w4 c 2 _),Or.inr ⟨HY.out.trans HZ.out,⟨⟨#[]⟩,by show (0:Nat)<=4;omega,rfl⟩,m,by omega,jM.out.mark true⟩⟩
    ·have y4:decide ((s.size:Int)<(m:Int)+2)=true:=decide_eq_true (by omega)
     have HZ:Hid (low s (m) a=none):=by
      show _=_;rw [HZ0.out,if_neg];rintro ⟨_,h2⟩;have:=aZ (s:=s) (i:=m+1) (by omega);omega
     clear HZ0;go_wp2_with fail;go_quiet (fail);have fI:=aj (below_drewN (Below.refl w3.heap.size w3) nq);generalize w3.drewN nq=w4 at fI ⊢;have jM:=aj (gF.out.keep fI.out);have bO:=aj (HB3.out.trans (aG.of fI.out));clear p0 p1 p2 p3 p4;have p2:=jM.out.q2;have p3:=jM.out.f2;go_wp2_with fail;go_ret;exact ⟨bO.out.trans (aG.set w4 c 2 _),Or.inr ⟨HY.out.trans HZ.out,⟨⟨#[]⟩,by show (0:Nat)<=4;omega,rfl⟩,m,by omega,jM.out.mark true⟩⟩
 ·have HB3:=aj (HB2.out.trans B3);have gF:=aj L3;have HY:Hid (dw s i=none):=by show _=_;rw [HX.out,hx];rfl
  have p2:=gF.out.q2;have p3:=gF.out.f2;have Zc:=aj (rQ 0 (w3.setCell ⟨c,2,none⟩ (.bool true)) (by omega) (by omega));clear B3 L3 hx HH q1 q2 HX HB2;go_wp2_with fail;refine Zc.out.mono ?_;rintro e w4 ⟨rfl,b4⟩;have jM:=aj ((gF.out.mark true).keep b4);have bO:=aj ((HB3.out.trans (aG.set w3 c 2 (.bool true))).trans (aG.of b4));clear b4;go_wp2_with fail;go_ret;exact ⟨bO.out,Or.inr ⟨HY.out,⟨_,by have:=iD 0 (by omega);rw [show ((0:Nat):Int)=0 from rfl] at this;rw [this];show (1:Nat)<=4;omega,rfl⟩,i+1,by omega,jM.out⟩⟩
theorem Jw (c:Nat) (s:ByteArray) (i:Nat) (w:World) (h:RL c s i false w) (hs:s.size<=4000) (hi:i<=s.size) :
  Calls Tryz.prog 242 #[.pointer (some ⟨c,0,none⟩)] w (gu c s (dw s i) w):=by
 by_cases x9:cB s i=34
 ·exact VX c s i w h hs x9
 by_cases GH:cB s i=92
 ·exact VY c s i w h hs GH
 by_cases h47:cB s i=47
 ·exact VZ c s i w h hs h47
 by_cases Zp:cB s i=98
 ·exact V3 c s i w h hs Zp
 by_cases QT:cB s i=102
 ·exact TU c s i w h hs QT
 by_cases QU:cB s i=110
 ·exact TV c s i w h hs QU
 by_cases QV:cB s i=114
 ·exact TW c s i w h hs QV
 by_cases h116:cB s i=116
 ·exact TY c s i w h hs h116
 by_cases QW:cB s i=117
 ·exact Yn c s i w h hs QW
 ·exact V4 c s i w h hs hi ⟨x9,GH,h47,Zp,QT,QU,QV,h116,QW⟩
end Go.Proofs.YtknakfpciccoaaaGreatDoor
