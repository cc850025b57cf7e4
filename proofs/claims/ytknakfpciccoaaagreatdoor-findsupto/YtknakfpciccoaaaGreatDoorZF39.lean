import Derived.Test.YtknakfpciccoaaaGreatDoorZF38
import Derived.Test.YtknakfpciccoaaaGreatDoorZF17
import Derived.Deep.RegionHeldLaw
import Derived.Deep.RegionLaw
import Derived.Test.YtknakfpciccoaaaGreatDoorZF33
/- The walk of Plain, of numbers below zero. -/
set_option maxHeartbeats 4000000
set_option maxRecDepth 100000
namespace Go.Proofs.YtknakfpciccoaaaGreatDoor
open Go.RowKit
theorem Gf (n:Nat) (w:World) (h1:1<=n) (hn:n<=9223372036854775808) :
  Calls Tryz.prog 84 #[.int .i64 (-(n:Int))] w fun e w'=>e=.returned (.string ((⟨#[45]⟩:ByteArray)++iW 20 n ByteArray.empty))/\Below w.heap.size w w':=by
 go_in;go_wp2_with fail;go_loopg [3,4] 20 (fun g o r wr=>∃ (x:Nat) (out:ByteArray),o=.string out/\r=.int .i64 (-(x:Int))/\x<10 ^ g/\x<=9223372036854775808/\(out.size=0->1<=g)/\out.size+g<=20/\Hid (iW g x out=iW 20 n ByteArray.empty)/\Hid (Below w.heap.size w wr))
 case atStart=>exact ⟨n,ByteArray.empty,rfl,rfl,by omega,hn,by omega,by simp,rfl,Below.refl _ _⟩
 case round =>
  obtain ⟨x,out,rfl,rfl,hx,hx2,ho,hf,HD,HB⟩:=hrel;by_cases hend:x=0/\out.size≠0
  ·obtain ⟨h0,h1⟩:=hend;subst h0;have hne:=rC h1
   have HR:Hid (out=iW 20 n ByteArray.empty):=by
    have:=HD.out;cases gk with
    | zero=>exact this
    | succ f=>unfold iW at this;rw [if_pos ⟨rfl,h1⟩] at this;exact this
   go_wp2_with fail;go_ret;exact ⟨by rw [HR.out];rfl,HB.out⟩
  ·obtain ⟨f',rfl⟩:∃ f',gk=f'+1:=by
    cases gk with
    | zero =>
     have:x=0:=by simpa using hx
     exact absurd ⟨this,fun h=>by have:=ho h;omega⟩ hend
    | succ f=>exact ⟨f,rfl⟩
   have HD2:Hid (iW f' (x / 10) (pz x++out)=iW 20 n ByteArray.empty):=by
    have:=HD.out;unfold iW at this;rw [if_neg hend] at this;exact this
   have hsd:(pz x++out).size=out.size+1:=by rw [ByteArray.size_append];show 1+out.size=_;omega
   have hx3:x / 10<10 ^ f':=by rw [Nat.pow_succ] at hx;omega
   have Xj:x≠0\/out.size=0:=by
    by_cases e:x=0
    ·right
     by_cases e2:out.size=0
     ·exact e2
     ·exact absurd ⟨e,e2⟩ hend
    ·exact .inl e
   clear hx hend;by_cases e:x=0
   ·have e0:out.size=0:=by omega
    have ee:=AX e0;subst ee;subst e;have hcv:=pE wr 0 48 rfl;have hadd:=run_string_add_sum (P:=Tryz.prog) (w:=wr.alloc (.cells #[.int .u8 48] 5)) (pz 0) ⟨#[]⟩ (by show 1+0<=_;omega);have HB2:=aj (HB.out.alloc HB.out.size (.cells #[.int .u8 48] 5));go_wp2_with fail;go_roundg f'
    case rel=>exact ⟨0,pz 0++⟨#[]⟩,rfl,rfl,by simpa using hx3,by omega,by omega,by omega,HD2,HB2⟩
    case measure=>omega
   ·have ex:¬ ((x:Int)=0):=by omega
    by_cases hm:(x:Int) % 10=0
    ·have ht:(-(x:Int)).tmod 10=0:=by rw [Int.neg_tmod,Int.tmod_eq_emod_of_nonneg (by omega),hm];rfl
     have hd:(-(x:Int)).tdiv 10=-((x:Int) / 10):=by rw [Int.neg_tdiv,Int.tdiv_eq_ediv_of_nonneg (by omega)]
     have hcv:=pE wr x 48 (by omega);have hadd:=run_string_add_sum (P:=Tryz.prog) (w:=wr.alloc (.cells #[.int .u8 48] 5)) (pz x) out (by show 1+out.size<=_;omega);have HB2:=aj (HB.out.alloc HB.out.size (.cells #[.int .u8 48] 5));go_wp2_with fail;go_roundg f'
     case rel=>exact ⟨x / 10,pz x++out,rfl,by go_num,hx3,by omega,by omega,by omega,HD2,HB2⟩
     case measure=>omega
    ·have hm1:0<(x:Int) % 10:=by omega
     have ht:(-(x:Int)).tmod 10=-((x:Int) % 10):=by rw [Int.neg_tmod,Int.tmod_eq_emod_of_nonneg (by omega)]
     have hd:(-(x:Int)).tdiv 10=-((x:Int) / 10):=by rw [Int.neg_tdiv,Int.tdiv_eq_ediv_of_nonneg (by omega)]
     have hcv:=pE wr x (48+(x:Int) % 10) (by omega);have hadd:=run_string_add_sum (P:=Tryz.prog) (w:=wr.alloc (.cells #[.int .u8 (48+(x:Int) % 10)] 5)) (pz x) out (by show 1+out.size<=_;omega);have HB2:=aj (HB.out.alloc HB.out.size (.cells #[.int .u8 (48+(x:Int) % 10)] 5));go_wp2_with fail;go_roundg f'
     case rel=>exact ⟨x / 10,pz x++out,rfl,by go_num,hx3,by omega,by omega,by omega,HD2,HB2⟩
     case measure=>omega
theorem Yz:(Tryz.prog.info? 5).map (fun i=>(i.zero,i.size,i.bytes))=some (some (.int .u8 0),1,1):=by kernel_rfl
structure QI (w:World) (v:Value) (acc:List UInt8) (wr:World):Prop where
 own:wr.ownsRow w.heap.size 5 1 v acc.length (aA acc)
 below:Below w.heap.size w wr
theorem Qg {w w':World} {lo:Nat} {e:TypeId} {size n:Nat} {v:Value} {xs:List Value} (h:w.ownsRow lo e size v n xs) (hb:∀ b,lo<=b->b<w.heap.size->w'.heap[b]?=w.heap[b]?):w'.ownsRow lo e size v n xs:=by
 refine ⟨h.1,?_⟩;rcases h.2 with hn | ⟨g,cap,cur,rfl,hb0,hg,rest⟩
 ·exact .inl hn
 ·exact .inr ⟨g,cap,cur,rfl,hb0,(hb g hb0 (Array.getElem?_eq_some_iff.1 hg).1).trans hg,rest⟩
theorem QI.keep {w:World} {v:Value} {acc:List UInt8} {wr w1:World} (h:QI w v acc wr) (hB:Below wr.heap.size wr w1):QI w v acc w1 :=
 ⟨Qg h.own fun b _ h2=>hB.block b h2,h.below.trans (hB.mono h.below.size)⟩
theorem QI.grow {w:World} {v v':Value} {acc l:List UInt8} {wr w1:World} (h:QI w v acc wr) (hO:w1.ownsRow w.heap.size 5 1 v' (acc.length+l.length) (aA acc++aA l)) (hG:wr.grownBy w1 v.ownBlock):QI w v' (acc++l) w1:=by
 refine ⟨?_,⟨hG.os.trans h.below.os,hG.tape.trans h.below.tape,hG.output.trans h.below.output,Nat.le_trans h.below.size hG.size,fun k hk=>?_⟩⟩
 ·rw [List.length_append,kF];exact hO
 ·rw [hG.block k (Nat.lt_of_lt_of_le hk h.below.size) ?_,h.below.block k hk];intro e;rcases h.own.2 with ⟨rfl,_⟩ | ⟨g,cap,cur,rfl,hb0,_⟩
  ·cases e
  ·have:k=g:=by simpa [Value.ownBlock] using e
   omega
theorem Cm (w:World) (l:List UInt8) (j:Nat) (u:Value) (hj:(aA l)[j]?=some u):(w.alloc (.cells (aA l).toArray 5)).cell? ((⟨w.heap.size,0,none⟩:Addr).add j)=some u:=by
 have e0:(w.alloc (.cells (aA l).toArray 5)).heap[w.heap.size]?=some (.cells (aA l).toArray 5):=by show (w.heap.push _)[w.heap.size]?=_;simp
 have e1:((⟨w.heap.size,0,none⟩:Addr).add j)=⟨w.heap.size,j,none⟩:=by simp [Addr.add];intro h;exact h.symm
 rw [e1];unfold World.cell?;rw [e0];show (if _ then none else (aA l).toArray[j]?)=some u;rw [if_neg (by simp)];simpa using hj
theorem sM (w:World) (l:List UInt8):Src Tryz.prog 1 63 (.slice (some ⟨w.heap.size,0,none⟩) l.length l.length) l.length (aA l) (w.alloc (.cells (aA l).toArray 5)) :=
 Src.ofSlice _ Tryz.underlying63 ⟨w.heap.size,0,none⟩ l.length l.length (aA l) (by rw [dO];omega) (Cm w l) (fun u hu=>by obtain ⟨b,_,rfl⟩:=List.mem_map.1 hu;rfl)
theorem MG (w:World) (l:List UInt8):Src Tryz.prog 1 63 (.slice (some ⟨w.heap.size,0,none⟩) l.length l.length) l.length (aA l) (w.alloc (.cells (aA l).toArray 5)).drew :=
 Src.ofSlice _ Tryz.underlying63 ⟨w.heap.size,0,none⟩ l.length l.length (aA l) (by rw [dO];omega) (fun j u hj=>by simpa using Cm w l j u hj) (fun u hu=>by obtain ⟨b,_,rfl⟩:=List.mem_map.1 hu;rfl)
theorem uH (s:ByteArray) (w:World) (hs:s.size<=1048576) :
  Calls Tryz.prog 85 #[.string s] w fun e w'=>e=.returned (.string (bY (jV s)))/\Below w.heap.size w w':=by
 obtain ⟨iB,zK,Bv,zL,Bw⟩:=info_parts Yz;have HE:Hid (jV s=[34]++dM s s.size++[34]):=by show _=_;simp [jV]
 have HLen:Hid (∀ k,k<=s.size->([34]++dM s k).length<=6291457):=aj (fun k hk=>by have:=wW s k;simp only [List.length_append,List.length_cons,List.length_nil];omega)
 have H0:Hid (QI w (.slice (some ⟨w.heap.size,0,none⟩) 1 1) [34] (w.alloc (.cells #[.int .u8 34] 5))):=aj ⟨by
   refine ⟨by simp [aA],.inr ⟨w.heap.size,1,#[.int .u8 34],rfl,Nat.le_refl _,?_,?_⟩⟩
   ·show (w.heap.push _)[w.heap.size]?=_;simp
   ·refine ⟨by simp,by unfold maxLen;omega,by simp,?_⟩;simp [aA],bG _ _⟩
 go_in;go_wp2_with fail;go_loopg [3,4] (s.size) (fun g o i wr=>∃ k:Nat,g=s.size - k/\k<=s.size/\i=.int .i64 k/\Hid (QI w o ([34]++dM s k) wr))
 case atStart=>exact ⟨0,rfl,Nat.zero_le _,rfl,by rw [Az];exact H0⟩
 case round =>
  obtain ⟨k,rfl,hk,rfl,HW⟩:=hrel;have hlk:=HLen.out k hk;by_cases hlt:k<s.size
  ·obtain ⟨z,hz⟩:∃ z:UInt8,s[k]'hlt=z:=⟨_,rfl⟩;have HZ:=aj (ug (vk hlt hz));have x1:(k:Int)<(s.size:Int):=by omega
   have lz:z.toNat<256:=z.toNat_lt;by_cases hq2:z.toNat=34\/z.toNat=92
   ·have HC:=aj (QZ hq2);rcases hq2 with hq2 | hq2
    ·have y1:((z.toNat:Int)==34)=true:=by rw [beq_iff_eq];omega
     clear hq2;have HB1:=aj (bG wr (.cells #[.int .u8 92,.int .u8 (z.toNat:Int)] 5));have HI1:=aj (HW.out.keep HB1.out);have uL:Hid (Src Tryz.prog 1 63 (.slice (some ⟨wr.heap.size,0,none⟩) 2 2) 2 (aA [92,z]) (wr.alloc (.cells #[.int .u8 92,.int .u8 (z.toNat:Int)] 5))):=aj (sM wr [92,z]);go_wp2_with (at_builtin;refine ay _ rfl (.tmp 27) (.tmp 29) 63 63 rfl w.heap.size 5 iB _ 1 1 Tryz.underlying63 zK Bv zL Bw rfl u3 ([34]++dM s k).length (aA ([34]++dM s k)) rfl HI1.out.own (.slice (some ⟨wr.heap.size,0,none⟩) 2 2) 2 (aA [92,z]) rfl uL.out (by unfold maxLen;omega) (by omega) HI1.out.below.size ?_;intro v' w6 gU gQ bI);have H6:=aj (HI1.out.grow (l:=[92,z]) gU gQ);clear gU gQ bI HI1 uL HB1;go_wp2_with fail;go_roundg (s.size - (k+1))
     case rel=>exact ⟨k+1,rfl,by omega,by go_num,by rw [HZ.out,HC.out,<- List.append_assoc];exact H6⟩
     case measure=>omega
    ·have y0:((z.toNat:Int)==34)=false:=by rw [beq_eq_false_iff_ne];omega
     have y1:((z.toNat:Int)==92)=true:=by rw [beq_iff_eq];omega
     clear hq2;have HB1:=aj (bG wr (.cells #[.int .u8 92,.int .u8 (z.toNat:Int)] 5));have HI1:=aj (HW.out.keep HB1.out);have uL:Hid (Src Tryz.prog 1 63 (.slice (some ⟨wr.heap.size,0,none⟩) 2 2) 2 (aA [92,z]) (wr.alloc (.cells #[.int .u8 92,.int .u8 (z.toNat:Int)] 5))):=aj (sM wr [92,z]);go_wp2_with (at_builtin;refine ay _ rfl (.tmp 27) (.tmp 29) 63 63 rfl w.heap.size 5 iB _ 1 1 Tryz.underlying63 zK Bv zL Bw rfl u3 ([34]++dM s k).length (aA ([34]++dM s k)) rfl HI1.out.own (.slice (some ⟨wr.heap.size,0,none⟩) 2 2) 2 (aA [92,z]) rfl uL.out (by unfold maxLen;omega) (by omega) HI1.out.below.size ?_;intro v' w6 gU gQ bI);have H6:=aj (HI1.out.grow (l:=[92,z]) gU gQ);clear gU gQ bI HI1 uL HB1;go_wp2_with fail;go_roundg (s.size - (k+1))
     case rel=>exact ⟨k+1,rfl,by omega,by go_num,by rw [HZ.out,HC.out,<- List.append_assoc];exact H6⟩
     case measure=>omega
   ·have y34:((z.toNat:Int)==34)=false:=by rw [beq_eq_false_iff_ne];omega
    have y92:((z.toNat:Int)==92)=false:=by rw [beq_eq_false_iff_ne];omega
    by_cases hu:z.toNat<32
    ·have HC:=aj (Q0 hq2 hu);have y1:decide ((z.toNat:Int)<32)=true:=decide_eq_true (by omega);obtain ⟨p1,hp1⟩:∃ p1,p1=z.toNat / 16:=⟨_,rfl⟩;obtain ⟨p2,hp2⟩:∃ p2,p2=z.toNat % 16:=⟨_,rfl⟩;have n1:p1<16:=by omega
     have n2:p2<16:=by omega
     have f1:IntKind.u8.wrap ((z.toNat:Int) / 16)=(p1:Int):=by rw [IntKind.wrap_u8];omega
     have f2:((z.toNat:Int)).tmod 16=(p2:Int):=by rw [Int.tmod_eq_emod_of_nonneg (by omega)];omega
     have f3:(p1:Int)<16:=by omega
     have f4:(p2:Int)<16:=by omega
     rw [<- hp1,<- hp2,<- zA n1,<- zA n2] at HC;clear hq2 hp1 hp2;have HB1:=aj (bG wr (.cells #[.int .u8 92,.int .u8 117,.int .u8 48,.int .u8 48,.int .u8 (((⟨#[48,49,50,51,52,53,54,55,56,57,97,98,99,100,101,102]⟩:ByteArray)[p1]'n1).toNat:Int),.int .u8 (((⟨#[48,49,50,51,52,53,54,55,56,57,97,98,99,100,101,102]⟩:ByteArray)[p2]'n2).toNat:Int)] 5));have HI1:=aj ((HW.out.keep HB1.out).keep (ak _));have uL:Hid (Src Tryz.prog 1 63 (.slice (some ⟨wr.heap.size,0,none⟩) 6 6) 6 (aA [92,117,48,48,(⟨#[48,49,50,51,52,53,54,55,56,57,97,98,99,100,101,102]⟩:ByteArray)[p1]'n1,(⟨#[48,49,50,51,52,53,54,55,56,57,97,98,99,100,101,102]⟩:ByteArray)[p2]'n2]) (wr.alloc (.cells #[.int .u8 92,.int .u8 117,.int .u8 48,.int .u8 48,.int .u8 (((⟨#[48,49,50,51,52,53,54,55,56,57,97,98,99,100,101,102]⟩:ByteArray)[p1]'n1).toNat:Int),.int .u8 (((⟨#[48,49,50,51,52,53,54,55,56,57,97,98,99,100,101,102]⟩:ByteArray)[p2]'n2).toNat:Int)] 5)).drew):=aj (MG wr [92,117,48,48,(⟨#[48,49,50,51,52,53,54,55,56,57,97,98,99,100,101,102]⟩:ByteArray)[p1]'n1,(⟨#[48,49,50,51,52,53,54,55,56,57,97,98,99,100,101,102]⟩:ByteArray)[p2]'n2]);go_wp2_with fail
     go_region_law ((refine qB _ (by rfl) (.tmp 34) (.tmp 41) 63 63 (by rfl) w.heap.size 5 iB _ 1 1 Tryz.underlying63 zK Bv zL Bw rfl u3 ([34]++dM s k).length (aA ([34]++dM s k)) (by rfl) HI1.out.own (.slice (some ⟨wr.heap.size,0,none⟩) 6 6) 6 (aA [92,117,48,48,(⟨#[48,49,50,51,52,53,54,55,56,57,97,98,99,100,101,102]⟩:ByteArray)[p1]'n1,(⟨#[48,49,50,51,52,53,54,55,56,57,97,98,99,100,101,102]⟩:ByteArray)[p2]'n2]) (by rfl) uL.out (by unfold maxLen;omega) (by omega) HI1.out.below.size ?_);intro v' w6 gU gQ bI;have H6:=aj (HI1.out.grow (l:=[92,117,48,48,(⟨#[48,49,50,51,52,53,54,55,56,57,97,98,99,100,101,102]⟩:ByteArray)[p1]'n1,(⟨#[48,49,50,51,52,53,54,55,56,57,97,98,99,100,101,102]⟩:ByteArray)[p2]'n2]) gU gQ))
     all_goals
      clear gU gQ bI;go_wp2_with fail;go_roundg (s.size - (k+1))
      case rel=>exact ⟨k+1,rfl,by omega,by go_num,by rw [HZ.out,HC.out,<- List.append_assoc];exact H6⟩
      case measure=>omega
    ·have HC:=aj (Q5 hq2 hu);have y1:decide ((z.toNat:Int)<32)=false:=decide_eq_false (by omega);clear hq2;have HB1:=aj (bG wr (.cells #[.int .u8 (z.toNat:Int)] 5));have HI1:=aj (HW.out.keep HB1.out);have uL:Hid (Src Tryz.prog 1 63 (.slice (some ⟨wr.heap.size,0,none⟩) 1 1) 1 (aA [z]) (wr.alloc (.cells #[.int .u8 (z.toNat:Int)] 5))):=aj (sM wr [z]);go_wp2_with (at_builtin;refine ay _ rfl (.tmp 16) (.tmp 18) 63 63 rfl w.heap.size 5 iB _ 1 1 Tryz.underlying63 zK Bv zL Bw rfl u3 ([34]++dM s k).length (aA ([34]++dM s k)) rfl HI1.out.own (.slice (some ⟨wr.heap.size,0,none⟩) 1 1) 1 (aA [z]) rfl uL.out (by unfold maxLen;omega) (by omega) HI1.out.below.size ?_;intro v' w6 gU gQ bI);have H6:=aj (HI1.out.grow (l:=[z]) gU gQ);clear gU gQ bI HI1 uL HB1;go_wp2_with fail;go_roundg (s.size - (k+1))
     case rel=>exact ⟨k+1,rfl,by omega,by go_num,by rw [HZ.out,HC.out,<- List.append_assoc];exact H6⟩
     case measure=>omega
  ·obtain rfl:k=s.size:=by omega
   have HB1:=aj (bG wr (.cells #[.int .u8 34] 5));have HI1:=aj (HW.out.keep HB1.out);have uL:Hid (Src Tryz.prog 1 63 (.slice (some ⟨wr.heap.size,0,none⟩) 1 1) 1 (aA [34]) (wr.alloc (.cells #[.int .u8 34] 5))):=aj (sM wr [34]);go_wp2_with (at_builtin;refine ay _ rfl (.tmp 43) (.tmp 44) 63 63 rfl w.heap.size 5 iB _ 1 1 Tryz.underlying63 zK Bv zL Bw rfl u3 ([34]++dM s s.size).length (aA ([34]++dM s s.size)) rfl HI1.out.own (.slice (some ⟨wr.heap.size,0,none⟩) 1 1) 1 (aA [34]) rfl uL.out (by unfold maxLen;omega) (by omega) HI1.out.below.size ?_;intro v' w6 gU gQ bI);have H6:=aj (HI1.out.grow (l:=[34]) gU gQ);have hcv:=Bl (P:=Tryz.prog) Tryz.underlying63 Tryz.underlying5 Tryz.underlying9 H6.out.own;rw [<- HE.out] at hcv;clear gU gQ bI HI1 uL HB1;go_wp2_with fail;rw [hcv];go_wp2_with fail;go_ret;exact ⟨rfl,H6.out.below⟩
theorem jK (a b:ByteArray) (la lb:List UInt8) (ha:a=bY la) (hb:b=bY lb) (h:la.length+lb.length<=1000000000):∃ c:ByteArray,c=bY (la++lb)/\∀ w:World,(Op.stringOp .add a b).run Tryz.prog w=.ok (.string c) w:=by
 refine ⟨a++b,?_,fun w=>run_string_add_sum w a b (by rw [ha,hb,fA,fA];omega)⟩;apply Gb;rw [ha,hb];simp [bY]
theorem Qh (n:Int) (w:World) (h0:-9223372036854775808<=n) (h1:n<=9223372036854775807) :
  Calls Tryz.prog 84 #[.int .i64 n] w fun e w'=>e=.returned (.string (bY (Lib.itoa n)))/\Below w.heap.size w w':=by
 by_cases hn:n<0
 ·obtain ⟨k,rfl⟩:∃ k:Nat,n=-(k:Int):=⟨n.natAbs,by omega⟩;refine (Gf k w (by omega) (by omega)).mono ?_;rintro e w' ⟨rfl,hb⟩;refine ⟨?_,hb⟩;rw [Ck 20 k _ (by omega) (by omega) (.inr rfl),Lib.itoa,if_pos hn]
  congr 2
  apply Gb;simp [bY]
 ·obtain ⟨k,rfl⟩:∃ k:Nat,n=(k:Int):=⟨n.toNat,by omega⟩;refine (Gc k w (by omega)).mono ?_;rintro e w' ⟨rfl,hb⟩;refine ⟨?_,hb⟩;rw [Ck 20 k _ (by omega) (by omega) (.inr rfl),Lib.itoa,if_neg hn];simp
def MH (m:Nat):Prop:=∀ (f:Nat) (v:Value) (t:T) (w:World),At w f v t->fJ m t->(dD m t).length<=100000000 ->
  Calls Tryz.prog 45 #[v] w fun e w'=>e=.returned (.string (bY (dD m t)))/\Below w.heap.size w w'
theorem wI (t:T) (hg:bF t) (ht:Cu t) (w:World) (La Ka:Option Addr) (Lc Kc:Nat) :
  Calls Tryz.prog 45 #[.agg #[.int .i64 (ah t),.int .i64 (aB t),.string (aF t),.slice La (nL t) Lc,.slice Ka (nK t) Kc]] w fun e w'=>e=.returned (.string (bY (eU t)))/\Below w.heap.size w w':=by
 have HB1:Hid (Below w.heap.size w (w.alloc (.cells #[.int .i64 (ah t),.int .i64 (aB t),.string (aF t),.slice La (nL t) Lc,.slice Ka (nK t) Kc] 25))):=(Below.refl _ _).alloc (Nat.le_refl _) _;have U6:=aj ht;clear ht;obtain ⟨g1,g2,hg⟩:=hg;clear g1 g2;rcases hg with ⟨hk,g3⟩ | ⟨hk,hn,g3⟩ | ⟨hk,g3⟩ | ⟨hk,g3,hsz,g4⟩
 all_goals clear g3
 ·have e1:(ah t==1)=true:=by rw [hk];rfl
  have HW:Hid (eU t=[110,117,108,108]):=by show _=_;unfold eU;rw [if_pos hk]
  rw [HW.out];clear hk;go_in;go_wp2_with fail;go_ret;exact ⟨rfl,HB1.out⟩
 ·have e1:(ah t==1)=false:=by rw [hk];rfl
  have e2:(ah t==2)=true:=by rw [hk];rfl
  have HB2:Hid (Below w.heap.size w ((w.alloc (.cells #[.int .i64 (ah t),.int .i64 (aB t),.string (aF t),.slice La (nL t) Lc,.slice Ka (nK t) Kc] 25)).alloc (.cells #[.string ⟨#[102,97,108,115,101]⟩,.string ⟨#[116,114,117,101]⟩] 9))):=HB1.out.alloc HB1.out.size _;have HW:Hid (eU t=if aB t=1 then AJ else uj):=by show _=_;unfold eU;rw [if_neg (by omega),if_pos hk];rfl
  generalize hN:aB t=N at *;rcases hn with rfl | rfl
  ·have HW0:Hid (eU t=uj):=by show _=_;rw [HW.out];rfl
   rw [HW0.out];clear hk;go_in;go_wp2_with fail;go_ret;exact ⟨rfl,HB2.out⟩
  ·have HW0:Hid (eU t=AJ):=by show _=_;rw [HW.out];rfl
   rw [HW0.out];clear hk;go_in;go_wp2_with fail;go_ret;exact ⟨rfl,HB2.out⟩
 ·have e1:(ah t==1)=false:=by rw [hk];rfl
  have e2:(ah t==2)=false:=by rw [hk];rfl
  have e3:(ah t==3)=true:=by rw [hk];rfl
  have HW:Hid (eU t=Lib.itoa (aB t)):=by show _=_;unfold eU;rw [hk];rfl
  rw [HW.out];have HP:=aj (Qh (aB t) (w.alloc (.cells #[.int .i64 (ah t),.int .i64 (aB t),.string (aF t),.slice La (nL t) Lc,.slice Ka (nK t) Kc] 25)) U6.out.n0 U6.out.n1);generalize bY (Lib.itoa (aB t))=s at HP ⊢;clear hk;go_in;go_wp2_with fail;refine HP.out.mono ?_;rintro e w2 ⟨rfl,hb2⟩;have H2:=aj (HB1.out.trans (hb2.mono HB1.out.size));clear hb2 HP;go_wp2_with fail;go_ret;exact ⟨rfl,H2.out⟩
 ·have e1:(ah t==1)=false:=by rw [hk];rfl
  have e2:(ah t==2)=false:=by rw [hk];rfl
  have e3:(ah t==3)=false:=by rw [hk];rfl
  have e4:(ah t==4)=true:=by rw [hk];rfl
  have HW:Hid (eU t=jV (aF t)):=by show _=_;unfold eU;rw [hk];rfl
  rw [HW.out];have HP:=aj (uH (aF t) (w.alloc (.cells #[.int .i64 (ah t),.int .i64 (aB t),.string (aF t),.slice La (nL t) Lc,.slice Ka (nK t) Kc] 25)) (by omega));generalize bY (jV (aF t))=s at HP ⊢;clear hk hsz g4;go_in;go_wp2_with fail;refine HP.out.mono ?_;rintro e w2 ⟨rfl,hb2⟩;have H2:=aj (HB1.out.trans (hb2.mono HB1.out.size));clear hb2 HP;go_wp2_with fail;go_ret;exact ⟨rfl,H2.out⟩
theorem Gg (m:Nat) (ih:MH m) (f:Nat) (t:T) (w:World) (La Ka:Option Addr) (Lc Kc:Nat) (hl:bC w f La t) (hn:nL t<=1759218604442) (hg:∀ i,i<nL t->fJ m (elt t i)) (hk:ah t=5) (hlen:(cO (dD m) t (nL t)).length+2<=100000000) :
  Calls Tryz.prog 45 #[.agg #[.int .i64 (ah t),.int .i64 (aB t),.string (aF t),.slice La (nL t) Lc,.slice Ka (nK t) Kc]] w fun e w'=>e=.returned (.string (bY (91::(cO (dD m) t (nL t)++[93]))))/\Below w.heap.size w w':=by
 have e1:(ah t==1)=false:=by rw [hk];rfl
 have e2:(ah t==2)=false:=by rw [hk];rfl
 have e3:(ah t==3)=false:=by rw [hk];rfl
 have e4:(ah t==4)=false:=by rw [hk];rfl
 have e6:(ah t==6)=false:=by rw [hk];rfl
 have Hl:=aj hl;have Hg:=aj hg;have sN:=aj ih;have HM:Hid (∀ k,k<=nL t->(cO (dD m) t k).length+2<=100000000):=aj (fun k hk=>by have:=AA (dD m) t hk;omega);clear hl hg ih hk hlen;go_in;go_wp2_with fail;go_loopg [3,4] (nL t) (fun g o i wr=>∃ (k:Nat) (out:ByteArray),g=nL t - k/\k<=nL t/\o=.string out/\i=.int .i64 k/\Hid (out=bY (cO (dD m) t k))/\Hid (Below (w.heap.size+1) (w.alloc (.cells #[.int .i64 (ah t),.int .i64 (aB t),.string (aF t),.slice La (nL t) Lc,.slice Ka (nK t) Kc] 25)) wr))
 case atStart=>exact ⟨0,⟨#[]⟩,rfl,Nat.zero_le _,rfl,rfl,rfl,Below.refl _ _⟩
 case round =>
  obtain ⟨k,out,rfl,hk,rfl,rfl,HO,HB⟩:=hrel;obtain ⟨q0,q1,q2,q3,q4,hz,hbw⟩:=aI HB.out;have pR:=aj hbw;clear hbw;by_cases hlt:k<nL t
  ·obtain ⟨bb,o,A,B,C,D,rfl,hbl,p0,p1,p2,p3,p4,Ha⟩:=Hl.out.shape pR.out k hlt;have hm1:=HM.out (k+1) hlt;have HG:=aj (Hg.out k hlt);have HA:=aj (At.keep pR.out Ha.out);by_cases hk0:k=0
   ·have HJ:Hid (cO (dD m) t (k+1)=cO (dD m) t k++dD m (elt t k)):=by show cO (dD m) t k++_=_;rw [if_pos hk0];simp
    rw [HJ.out,List.length_append] at hm1;have HC:=aj (sN.out f _ (elt t k) wr HA.out HG.out (by omega));obtain ⟨c,y1,g1⟩:=jK out (bY (dD m (elt t k))) _ _ HO.out rfl (by omega);rw [<- HJ.out] at y1;have HY:=aj y1;clear y1 hm1;generalize bY (dD m (elt t k))=s at HC g1;subst hk0;simp only [Nat.zero_mul,Nat.add_zero] at p0 p1 p2 p3 p4;go_wp2_with fail;refine HC.out.mono ?_;rintro e w2 ⟨rfl,hb2⟩;have HB2:=aj (HB.out.trans (hb2.mono (by omega)));clear hb2 HC;go_wp2_with fail;go_roundg (nL t - (0+1))
    case rel=>exact ⟨0+1,c,rfl,by omega,rfl,by go_num,HY,HB2⟩
    case measure=>omega
   ·have HJ:Hid (cO (dD m) t (k+1)=cO (dD m) t k++[44]++dD m (elt t k)):=by show cO (dD m) t k++_=_;rw [if_neg hk0];simp
    rw [HJ.out] at hm1;simp only [List.length_append,List.length_cons,List.length_nil] at hm1;have HC:=aj (sN.out f _ (elt t k) wr HA.out HG.out (by omega));obtain ⟨c0,y0,g0⟩:=jK out ⟨#[44]⟩ _ [44] HO.out rfl (by simp only [List.length_cons,List.length_nil];omega);obtain ⟨c,y1,g1⟩:=jK c0 (bY (dD m (elt t k))) _ _ y0 rfl (by simp only [List.length_append,List.length_cons,List.length_nil];omega);rw [<- HJ.out] at y1;have HY:=aj y1;clear y0 y1 hm1;generalize bY (dD m (elt t k))=s at HC g1;have z0:0<k:=by omega
    have z1:(0:Int)<(k:Int):=by omega
    clear hk0;go_wp2_with fail;refine HC.out.mono ?_;rintro e w2 ⟨rfl,hb2⟩;have HB2:=aj (HB.out.trans (hb2.mono (by omega)));clear hb2 HC;go_wp2_with fail;go_roundg (nL t - (k+1))
    case rel=>exact ⟨k+1,c,rfl,by omega,rfl,by go_num,HY,HB2⟩
    case measure=>omega
  ·obtain rfl:k=nL t:=by omega
   have hm0:=HM.out (nL t) hk;obtain ⟨a1,y1,g1⟩:=jK ⟨#[91]⟩ out [91] (cO (dD m) t (nL t)) rfl HO.out (by simp only [List.length_cons,List.length_nil];omega);obtain ⟨a2,y2,g2⟩:=jK a1 ⟨#[93]⟩ _ [93] y1 rfl (by simp only [List.length_cons,List.length_nil,List.length_append];omega);have HE:Hid (a2=bY (91::(cO (dD m) t (nL t)++[93]))):=by show _=_;rw [y2];simp
   clear y1 y2 hlt;go_wp2_with fail;go_ret;exact ⟨by rw [<- HE.out];rfl,pR.out⟩
theorem Cn (m:Nat) (ih:MH m) (f:Nat) (t:T) (w:World) (La Ka:Option Addr) (Lc Kc:Nat) (hl:bC w f La t) (hkn:gI w Ka t) (hnk:nK t=nL t) (hsz:∀ i,i<nK t->(bf t i).size<=1048576) (hn:nL t<=1759218604442) (hg:∀ i,i<nL t->fJ m (elt t i)) (hk:ah t=6) (hlen:(bW (dD m) t (nL t)).length+2<=100000000) :
  Calls Tryz.prog 45 #[.agg #[.int .i64 (ah t),.int .i64 (aB t),.string (aF t),.slice La (nL t) Lc,.slice Ka (nK t) Kc]] w fun e w'=>e=.returned (.string (bY (123::(bW (dD m) t (nL t)++[125]))))/\Below w.heap.size w w':=by
 have e1:(ah t==1)=false:=by rw [hk];rfl
 have e2:(ah t==2)=false:=by rw [hk];rfl
 have e3:(ah t==3)=false:=by rw [hk];rfl
 have e4:(ah t==4)=false:=by rw [hk];rfl
 have e6:(ah t==6)=true:=by rw [hk];rfl
 have Hl:=aj hl;have Hg:=aj hg;have sN:=aj ih;have HK:=aj hkn;have UG:=aj hnk;have Zr:=aj hsz;have HM:Hid (∀ k,k<=nL t->(bW (dD m) t k).length+2<=100000000):=aj (fun k hk=>by have:=AB (dD m) t hk;omega);clear hl hg ih hk hlen hkn hnk hsz;go_in;go_wp2_with fail;go_loopg [3,4] (nL t) (fun g o i wr=>∃ (k:Nat) (out:ByteArray),g=nL t - k/\k<=nL t/\o=.string out/\i=.int .i64 k/\Hid (out=bY (bW (dD m) t k))/\Hid (Below (w.heap.size+1) (w.alloc (.cells #[.int .i64 (ah t),.int .i64 (aB t),.string (aF t),.slice La (nL t) Lc,.slice Ka (nK t) Kc] 25)) wr))
 case atStart=>exact ⟨0,⟨#[]⟩,rfl,Nat.zero_le _,rfl,rfl,rfl,Below.refl _ _⟩
 case round =>
  obtain ⟨k,out,rfl,hk,rfl,rfl,HO,HB⟩:=hrel;obtain ⟨q0,q1,q2,q3,q4,hz,hbw⟩:=aI HB.out;have pR:=aj hbw;clear hbw;by_cases hlt:k<nL t
  ·have Lg:k<nK t:=by have:=UG.out;omega
   obtain ⟨kb,ko,rfl,hkb,hks,hkc⟩:=HK.out.keep pR.out k Lg;have hm1:=HM.out (k+1) hlt;have HG:=aj (Hg.out k hlt);have hn2:nK t<=1759218604442:=by have:=UG.out;omega
   by_cases hk0:k=0
   ·have HJ:Hid (bW (dD m) t (k+1)=bW (dD m) t k++jV (bf t k)++[58]++dD m (elt t k)):=by show bW (dD m) t k++_=_;rw [if_pos hk0];simp
    rw [HJ.out] at hm1;simp only [List.length_append,List.length_cons,List.length_nil] at hm1;have hwl:(dD m (elt t k)).length<=100000000:=by omega
    have HQ:=aj (uH (bf t k) wr (Zr.out k Lg));obtain ⟨c1,y1,g1⟩:=jK out (bY (jV (bf t k))) _ _ HO.out rfl (by (try simp only [List.length_append,List.length_cons,List.length_nil]);omega);obtain ⟨c2,y2,g2⟩:=jK c1 ⟨#[58]⟩ _ [58] y1 rfl (by (try simp only [List.length_append,List.length_cons,List.length_nil]);omega);obtain ⟨c,y3,g3⟩:=jK c2 (bY (dD m (elt t k))) _ _ y2 rfl (by (try simp only [List.length_append,List.length_cons,List.length_nil]);omega);rw [<- HJ.out] at y3;have HY:=aj y3;clear y1 y2 y3 hm1;have Ui:=aj (fun (w':World) (v:Value) (ha:At w' f v (elt t k))=>sN.out f v (elt t k) w' ha HG.out hwl);clear hwl;generalize bY (dD m (elt t k))=s at Ui g3;generalize bY (jV (bf t k))=s0 at HQ g1;subst hk0;simp only [Nat.add_zero] at hkc;go_wp2_with fail;refine HQ.out.mono ?_;rintro e w2 ⟨rfl,hb2⟩;have HB2:=aj (HB.out.trans (hb2.mono (by omega)));clear hb2 HQ q0 q1 q2 q3 q4 hkc;obtain ⟨q0,q1,q2,q3,q4,hz2,hbw2⟩:=aI HB2.out;obtain ⟨bb,o,A,B,C,D,rfl,hbl,p0,p1,p2,p3,p4,Ha⟩:=Hl.out.shape hbw2 0 hlt;simp only [Nat.zero_mul,Nat.add_zero] at p0 p1 p2 p3 p4;have HA:=aj (At.keep hbw2 Ha.out);clear hbw2;go_wp2_with fail;refine (Ui.out _ _ HA.out).mono ?_;rintro e w3 ⟨rfl,hb3⟩;have HB3:=aj (HB2.out.trans (hb3.mono (by omega)));clear hb3;go_wp2_with fail;go_roundg (nL t - (0+1))
    case rel=>exact ⟨0+1,c,rfl,by omega,rfl,by go_num,HY,HB3⟩
    case measure=>omega
   ·have HJ:Hid (bW (dD m) t (k+1)=bW (dD m) t k++[44]++jV (bf t k)++[58]++dD m (elt t k)):=by show bW (dD m) t k++_=_;rw [if_neg hk0];simp
    rw [HJ.out] at hm1;simp only [List.length_append,List.length_cons,List.length_nil] at hm1;have hwl:(dD m (elt t k)).length<=100000000:=by omega
    have HQ:=aj (uH (bf t k) wr (Zr.out k Lg));obtain ⟨c0,y0,g0⟩:=jK out ⟨#[44]⟩ _ [44] HO.out rfl (by simp only [List.length_cons,List.length_nil];omega);obtain ⟨c1,y1,g1⟩:=jK c0 (bY (jV (bf t k))) _ _ y0 rfl (by (try simp only [List.length_append,List.length_cons,List.length_nil]);omega);obtain ⟨c2,y2,g2⟩:=jK c1 ⟨#[58]⟩ _ [58] y1 rfl (by (try simp only [List.length_append,List.length_cons,List.length_nil]);omega);obtain ⟨c,y3,g3⟩:=jK c2 (bY (dD m (elt t k))) _ _ y2 rfl (by (try simp only [List.length_append,List.length_cons,List.length_nil]);omega);rw [<- HJ.out] at y3;have HY:=aj y3;clear y1 y2 y3 hm1 y0;have Ui:=aj (fun (w':World) (v:Value) (ha:At w' f v (elt t k))=>sN.out f v (elt t k) w' ha HG.out hwl);clear hwl;generalize bY (dD m (elt t k))=s at Ui g3;generalize bY (jV (bf t k))=s0 at HQ g1;have z0:0<k:=by omega
    have z1:(0:Int)<(k:Int):=by omega
    clear hk0;go_wp2_with fail;refine HQ.out.mono ?_;rintro e w2 ⟨rfl,hb2⟩;have HB2:=aj (HB.out.trans (hb2.mono (by omega)));clear hb2 HQ q0 q1 q2 q3 q4 hkc;obtain ⟨q0,q1,q2,q3,q4,hz2,hbw2⟩:=aI HB2.out;obtain ⟨bb,o,A,B,C,D,rfl,hbl,p0,p1,p2,p3,p4,Ha⟩:=Hl.out.shape hbw2 k hlt
    skip
    have HA:=aj (At.keep hbw2 Ha.out);clear hbw2;go_wp2_with fail;refine (Ui.out _ _ HA.out).mono ?_;rintro e w3 ⟨rfl,hb3⟩;have HB3:=aj (HB2.out.trans (hb3.mono (by omega)));clear hb3;go_wp2_with fail;go_roundg (nL t - (k+1))
    case rel=>exact ⟨k+1,c,rfl,by omega,rfl,by go_num,HY,HB3⟩
    case measure=>omega
  ·obtain rfl:k=nL t:=by omega
   have hm0:=HM.out (nL t) hk;obtain ⟨a1,y1,g1⟩:=jK ⟨#[123]⟩ out [123] (bW (dD m) t (nL t)) rfl HO.out (by simp only [List.length_cons,List.length_nil];omega);obtain ⟨a2,y2,g2⟩:=jK a1 ⟨#[125]⟩ _ [125] y1 rfl (by simp only [List.length_cons,List.length_nil,List.length_append];omega);have HE:Hid (a2=bY (123::(bW (dD m) t (nL t)++[125]))):=by show _=_;rw [y2];simp
   clear y1 y2 hlt;go_wp2_with fail;go_ret;exact ⟨by rw [<- HE.out];rfl,pR.out⟩
theorem JJ {t:T}:∀ k,iZ t k=true->∀ i,i<k->(bf t i).size<=4000
 | 0,_,i,hi=>absurd hi (by omega)
 | k+1,h,i,hi=>by
  simp only [iZ,Bool.and_eq_true,decide_eq_true_eq] at h;by_cases e:i=k
  ·subst e;exact h.2.2
  ·exact JJ k h.1 i (by omega)
theorem rR:∀ m,MH m
 | 0=>by
  intro f v t w h hg hl;obtain ⟨g,La,Ka,Lc,Kc,rfl,rfl,hf,_,_⟩:=h.open;exact wI t hg hf w La Ka Lc Kc
 | m+1=>by
  intro f v t w h hg hl;obtain ⟨g,La,Ka,Lc,Kc,rfl,rfl,hf,hl',hk'⟩:=h.open;rcases hg with hg | ⟨_,_,he,hk⟩
  ·obtain ⟨k5,k6⟩:=qj hg;rw [GX k5 k6];exact wI t hg hf w La Ka Lc Kc
  rcases hk with ⟨hk,_⟩ | ⟨hk,hnk,hnf,_⟩
  ·have e:dD (m+1) t=91::(cO (dD m) t (nL t)++[93]):=by rw [dD,if_pos hk]
   rw [e] at hl ⊢;exact Gg m (rR m) g t w La Ka Lc Kc hl'.out hf.l1 he hk (by simp only [List.length_cons,List.length_append,List.length_nil] at hl;omega)
  ·have e:dD (m+1) t=123::(bW (dD m) t (nL t)++[125]):=by rw [dD,if_neg (by omega),if_pos hk,hnk]
   rw [e] at hl ⊢;simp only [List.length_cons,List.length_append,List.length_nil] at hl;exact Cn m (rR m) g t w La Ka Lc Kc hl'.out hk'.out hnk (fun i hi=>Nat.le_trans (JJ (nK t) hnf i hi) (by omega)) hf.l1 he hk (by omega)
def QB (t:T):Prop:=dZ t/\DN t=true/\iG t=true
theorem QB.gd {t:T} (h:QB t):Gd t:=⟨12,((kr _).1 h.2.1).1⟩
theorem rJ.wr {w:World} {f:Nat} {v:Value} {t:T} (h:At w f v t) (hv:DN t=true):Calls Tryz.prog 45 #[v] w fun e w'=>e=.returned (.string (vW t))/\Below w.heap.size w w':=by
 obtain ⟨g,hb⟩:=(kr t).1 hv;have hl:=KX 12 f v t h g;have e:vW t=bY (dD 12 t):=by unfold vW X4;rw [hv];rfl
 rw [e];exact rR 12 f v t w h g (by omega)
theorem Gh (d:T) (f:Nat) (La:Option Addr) (Lc:Nat) (w:World) (hl:bC w f La d) (hn:nL d<=1000000) (hv:∀ i,i<nL d->DN (elt d i)=true) :
  Calls Tryz.prog 136 #[.slice La (nL d) Lc] w fun e w'=>Below w.heap.size w w'/\∃ sv,e=.returned sv/\w'.ownsRow w.heap.size 9 1 sv (nL d) (J4 d (nL d)):=by
 obtain ⟨iS,Rk,Rl,Rm,Rn⟩:=info_parts Dz;have Hl:=aj hl;have Hv:=aj hv;clear hl hv;go_in;go_wp2_with fail;go_loopg [3,4] (nL d) (fun g o i wr=>∃ (k:Nat),g=nL d - k/\k<=nL d/\i=.int .i64 k/\Hid (wr.ownsRow w.heap.size 9 1 o k (J4 d k))/\Hid (Below w.heap.size w wr))
 case atStart=>exact ⟨0,rfl,Nat.zero_le _,rfl,World.ownsRow_nil _ _ _ _,Below.refl _ _⟩
 case round =>
  obtain ⟨k,rfl,hk,rfl,HR,HB⟩:=hrel;by_cases hlt:k<nL d
  ·obtain ⟨bb,oo,A,B,C,D,rfl,hbl,p0,p1,p2,p3,p4,Ha⟩:=Hl.out.shape HB.out k hlt;have HC:=aj (rJ.wr (Ha.out.keep HB.out) (Hv.out k hlt));go_wp2_with fail;refine HC.out.mono ?_;rintro e w2 ⟨rfl,b2⟩;have HB3:=aj (HB.out.trans (b2.mono HB.out.size));have bO:=aj (HB3.out.alloc HB3.out.size (.cells #[.string (vW (elt d k))] 9));have HR4:Hid ((w2.alloc (.cells #[.string (vW (elt d k))] 9)).ownsRow w.heap.size 9 1 u3 k (J4 d k)):=dQ (dQ HR.out fun b _ h2=>b2.block b h2) fun b _ h2=>((Below.refl w2.heap.size w2).alloc (Nat.le_refl _) (.cells #[.string (vW (elt d k))] 9)).block b h2;have qd:Hid (Src Tryz.prog 1 23 (.slice (some ⟨w2.heap.size,0,none⟩) 1 1) 1 [.string (vW (elt d k))] (w2.alloc (.cells #[.string (vW (elt d k))] 9))):=Src.ofSlice _ Tryz.underlying23 ⟨w2.heap.size,0,none⟩ 1 1 [.string (vW (elt d k))] (by simp) (World.news_of_block (heap_alloc_new w2 _)) (by simp [Value.oneCell']);have hlo:=bO.out.size;clear b2 HC p0 p1 p2 p3 p4;go_wp2_with (at_builtin;refine ay _ rfl (.tmp 11) (.tmp 17) 23 23 rfl w.heap.size 9 iS _ 1 16 Tryz.underlying23 Rk Rl Rm Rn rfl u3 k (J4 d k) rfl HR4.out (.slice (some ⟨w2.heap.size,0,none⟩) 1 1) 1 [.string (vW (elt d k))] rfl qd.out (by unfold maxLen;omega) (by omega) hlo ?_;intro v' w6 gU gQ bI);have Vu:Hid (w6.ownsRow w.heap.size 9 1 v' (k+1) (J4 d (k+1))):=gU;have pX:=aj (jo bO.out HR4.out (Nat.le_refl _) hlo gQ);clear gU gQ bI;go_wp2_with fail;go_roundg (nL d - (k+1))
   case rel=>exact ⟨k+1,rfl,by omega,by go_num,Vu,pX⟩
   case measure=>omega
  ·obtain rfl:k=nL d:=by omega
   go_wp2_with fail;go_ret;exact ⟨HB.out,_,rfl,HR.out⟩
theorem Wm {S:fH} {x s:ByteArray} {t:T} (h:t ∈ dI S x s):∃ r ∈ S,t ∈ r.2:=by
 unfold dI at h;split at h
 ·cases hl:iA S x with
  | none=>rw [hl] at h;simp at h
  | some l =>
   rw [hl] at h;exact ⟨(x,l),ow hl,(List.mem_filter.1 h).1⟩
 ·cases h
theorem zV {S:fH} (hm:∀ r ∈ S,r.2.length<=60) (x s:ByteArray):(dI S x s).length<=60:=by
 unfold dI;split
 ·cases hl:iA S x with
  | none=>simp
  | some l=>exact Nat.le_trans (List.length_filter_le _ _) (hm _ (ow hl))
 ·simp
theorem EP {Q:Nat->Prop} {w:World} {p:Nat} {S:fH} (h:wu Q w p S) (hn:S.length<=6) (hm:∀ r ∈ S,r.2.length<=60) (hd:∀ r ∈ S,∀ t ∈ r.2,QB t) (x s:ByteArray) :
  Calls Tryz.prog 92 #[.pointer (some ⟨p,0,none⟩),.string x,.string s] w fun e w'=>Below w.heap.size w w'/\∃ A c,e=.returned (.tuple #[.slice A (dI S x s).length c,.int .i64 (eB S x s)])/\w'.ownsRow w.heap.size 9 1 (.slice A (dI S x s).length c) (dI S x s).length ((dI S x s).map fun t=>.string (vW t)):=by
 obtain ⟨L,v,l,hI,xQ,rfl⟩:=h;have HS:=aj (Ci hI (by rw [List.length_map] at hn;exact hn) (fun r hr=>hm _ (List.mem_map_of_mem hr)) (fun r hr t ht=>⟨(hd _ (List.mem_map_of_mem hr) t ht).1,(hd _ (List.mem_map_of_mem hr) t ht).gd⟩) x s);have Qi:=aj (zV hm x s)
 have LV:Hid (∀ t ∈ dI (l.map gN) x s,DN t=true):=fun t ht=>by
  obtain ⟨r,hr,ht⟩:=Wm ht;exact (hd r hr t ht).2.1
 generalize l.map gN=S at HS Qi LV ⊢;clear hI xQ hn hm hd;go_in;go_wp2_with fail;refine HS.out.mono ?_;rintro e w1 ⟨ws,A,B,C,D,xi,xo,bs,rfl,hT⟩;have HB1:=aj (bs.trans (hT.low.mono bs.size));have hH:rJ w 13 (.slice A (dI S x s).length B) (dI S x s) xi w1:=⟨mY hT.hi.row bs.size,fun i hi=>(hT.hi.at_ i hi).at,HB1.out⟩;obtain ⟨La,Lc,e1,hel⟩:=hH.elems;simp only [Value.slice.injEq] at e1;obtain ⟨rfl,_,rfl⟩:=e1
 have HP:=aj (Gh (dU 5 0 ByteArray.empty (dI S x s) []) 13 A B w1 hel (by rw [cK];have:=Qi.out;omega) (fun i hi=>by
  rw [cK] at hi;have e:elt (dU 5 0 ByteArray.empty (dI S x s) []) i=(dI S x s)[i]:=by rw [pO,List.getD_eq_getElem?_getD,List.getElem?_eq_getElem hi];rfl
  rw [e];exact LV.out _ (List.getElem_mem hi)))
 have R5:Hid (J4 (dU 5 0 ByteArray.empty (dI S x s) []) (dI S x s).length=(dI S x s).map fun t=>.string (vW t)):=by show _=_;rw [K9 _ _ _ _ _ _ (Nat.le_refl _),List.take_length]
 rw [cK] at HP;clear hT bs hH hel HS;go_wp2_with fail;refine HP.out.mono ?_;rintro e w2 ⟨b2,sv,rfl,hO⟩;rw [R5.out] at hO;have HO:=aj (mY hO HB1.out.size);have HB2:=aj (HB1.out.trans (b2.mono HB1.out.size));obtain ⟨A3,c3,rfl⟩:=aJ hO;clear hO b2 HP;go_wp2_with fail;refine bodyPost_ret (v:=.tuple #[.slice A3 (dI S x s).length c3,.int .i64 (eB S x s)]) (by simp [results,Tryz.results92,go_sem, *]) rfl ?_;exact ⟨HB2.out,A3,c3,rfl,HO.out⟩
theorem zW {l:List RC} (h:l.Pairwise fun a b=>∀ g,a.dv.ownBlock=some g->b.dv.ownBlock≠some g) {i j:Nat} {a b:RC} (hi:l[i]?=some a) (hj:l[j]?=some b) (hij:i≠j) (g:Nat) (ha:a.dv.ownBlock=some g):b.dv.ownBlock≠some g:=by
 obtain ⟨h1,rfl⟩:=List.getElem?_eq_some_iff.1 hi;obtain ⟨h2,rfl⟩:=List.getElem?_eq_some_iff.1 hj;rw [List.pairwise_iff_getElem] at h;rcases Nat.lt_or_gt_of_ne hij with e | e
 ·exact h i j h1 h2 e g ha
 ·exact fun hb=>h j i h2 h1 e g hb ha
theorem CZ.set {L:Nat->Nat} {w w':World} {p:Nat} {v:Value} {l:List RC} (h:CZ L w p v l) {i:Nat} {r r':RC} (hi:l[i]?=some r) (hnm:r'.nm=r.nm) (N:Nat) (hN1:w.heap.size<=N) (hN2:N<=w'.heap.size) (hblk:∀ b,b<w.heap.size->some b≠v.ownBlock->some b≠r.dv.ownBlock->w'.heap[b]?=w.heap[b]?)
  (hrow:w'.ownsRow 0 159 2 v l.length ((l.flatMap tT).set (i*2+1) r'.dv)) (hdv:r'.dv.ownBlock=r.dv.ownBlock\/∀ b,r'.dv.ownBlock=some b->N<=b) (hrow':w'.ownsRow 0 25 5 r'.dv r'.docs.length r'.dx)
  (hat:∀ k,(hk:k<r'.docs.length)->nu (fun b=>(b<w.heap.size/\L b=1)\/(w.heap.size<=b/\b<N)) w' 13 (fv r'.dx k) r'.docs[k]) :
  ∃ L',(∀ b,L' b≠0->L b≠0\/w.heap.size<=b)/\CZ L' w' p v (l.set i r'):=by
 have hr:=h.col r (List.mem_of_getElem? hi);have hil:i<l.length:=(List.getElem?_eq_some_iff.1 hi).1;have hpl:=h.low p (by rw [h.lp];omega);have hLo:∀ b,b<w.heap.size->(if b<w.heap.size then L b else if b<N then 1 else if r'.dv.ownBlock=some b then 4 else 0)=L b:=fun b hb=>if_pos hb;have hp:w'.heap[p]?=w.heap[p]?:=hblk p hpl (fun e=>by have:=h.fP p e.symm;have:=h.lp;omega) (fun e=>by have:=hr.fP p e.symm;have:=h.lp;omega)
 have hnew:∀ b,r'.dv.ownBlock=some b->¬ r'.dv.ownBlock=r.dv.ownBlock->N<=b:=fun b e hne=>by
  rcases hdv with h1 | h1
  ·exact absurd h1 hne
  ·exact h1 b e
 refine ⟨fun b=>if b<w.heap.size then L b else if b<N then 1 else if r'.dv.ownBlock=some b then 4 else 0,fun b hb=>?_,(hLo p hpl).trans h.lp,(aC hp 0).trans h.cell,(World.frozen?_of_block (a:=⟨p,0,none⟩) hp).trans h.free,fun b hb=>?_,?_,fun b e=>?_,fun q hq=>?_,?_⟩
 ·by_cases e:b<w.heap.size
  ·exact .inl (by rw [<- hLo b e];exact hb)
  ·exact .inr (by omega)
 ·by_cases e:b<w.heap.size
  ·omega
  ·by_cases e2:b<N
   ·omega
   ·simp only [if_neg e,if_neg e2] at hb;split at hb
    ·rename_i e3;exact (hrow'.lt b e3).2
    ·exact absurd rfl hb
 ·rw [List.length_set,Tx l i r r' hi hnm];exact hrow
 ·have:=h.fP b e;rw [hLo b (h.low b (by omega))];exact this
 ·obtain ⟨j,hj⟩:=List.mem_iff_getElem?.1 hq;rw [List.getElem?_set] at hj;by_cases ej:i=j
  ·rw [if_pos ej,if_pos (by omega)] at hj;obtain rfl:r'=q:=by simpa using hj
   refine ⟨hrow',fun b e=>?_,fun k hk=>(hat k hk).move (Nat.le_refl _) fun b _ hp=>⟨?_,rfl⟩⟩
   ·by_cases e1:r'.dv.ownBlock=r.dv.ownBlock
    ·have:=hr.fP b (by rw [<- e1];exact e);rw [hLo b (h.low b (by omega))];exact this
    ·have:=hnew b e e1;show (if b<w.heap.size then L b else if b<N then 1 else if r'.dv.ownBlock=some b then 4 else 0)=4;rw [if_neg (by omega),if_neg (by omega),if_pos e]
   ·show (if b<w.heap.size then L b else if b<N then 1 else if r'.dv.ownBlock=some b then 4 else 0)=1;rcases hp with ⟨h1,h2⟩ | ⟨h1,h2⟩
    ·rw [if_pos h1];exact h2
    ·rw [if_neg (by omega),if_pos h2]
  ·rw [if_neg ej] at hj;refine (h.col q (List.mem_of_getElem? hj)).move (by omega) fun b hl=>?_;have hbl:b<w.heap.size:=h.low b (by omega);refine ⟨hLo b hbl,hblk b hbl (fun e=>by have:=h.fP b e.symm;omega) (fun e=>?_)⟩;rcases hl with h1 | ⟨_,h1⟩
   ·have:=hr.fP b e.symm;omega
   ·exact zW h.sep hi hj ej b e.symm h1
 ·rw [List.pairwise_iff_getElem];intro a c ha hc hac g h1 h2;rw [List.length_set] at ha hc;rw [List.getElem_set] at h1 h2;have ga:=List.getElem?_eq_getElem ha;have gc:=List.getElem?_eq_getElem hc;have old:∀ (k:Nat) (hk:k<l.length) (g:Nat),(l[k]).dv.ownBlock=some g->g<w.heap.size:=fun k hk g e=>h.low g (by rw [(h.col _ (List.getElem_mem hk)).fP g e];omega);by_cases ea:i=a
  ·rw [if_pos ea] at h1;rw [if_neg (by omega)] at h2;by_cases e1:r'.dv.ownBlock=r.dv.ownBlock
   ·exact zW h.sep hi gc (by omega) g (by rw [<- e1];exact h1) h2
   ·have:=hnew g h1 e1;have:=old c hc g h2;omega
  ·rw [if_neg ea] at h1;by_cases ec:i=c
   ·rw [if_pos ec] at h2;by_cases e1:r'.dv.ownBlock=r.dv.ownBlock
    ·exact zW h.sep ga hi (by omega) g h1 (by rw [<- e1];exact h2)
    ·have:=hnew g h2 e1;have:=old a ha g h1;omega
   ·rw [if_neg ec] at h2;exact zW h.sep ga gc (by omega) g h1 h2
end Go.Proofs.YtknakfpciccoaaaGreatDoor
