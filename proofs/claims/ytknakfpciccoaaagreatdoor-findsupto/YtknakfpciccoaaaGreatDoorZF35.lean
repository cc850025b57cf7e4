import Derived.Test.YtknakfpciccoaaaGreatDoorZF34
import Derived.Test.YtknakfpciccoaaaGreatDoorZF17
import Derived.Deep.RegionHeldLaw
/- The walks of the reference's parser: texts. -/
set_option maxHeartbeats 8000000
set_option maxRecDepth 100000
namespace Go.Proofs.YtknakfpciccoaaaGreatDoor
open Go.RowKit
theorem aaK:(Tryz.prog.info? 5).map (fun i=>(i.zero,i.size,i.bytes))=some (some (.int .u8 0),1,1):=by kernel_rfl
def T9 (c:Nat) (s:ByteArray) (i:Nat) (w:World) (e:Ending) (w':World):Prop :=
 aG c w w'/\((∃ x j,fF s i=some (x,j)/\e=.returned (.string x)/\RL c s j false w')\/(fF s i=none/\e=.returned (.string ⟨#[]⟩)/\RB c s w'))
structure PY (c:Nat) (w:World) (v:Value) (acc:List UInt8) (wr:World):Prop where
 own:wr.ownsRow w.heap.size 5 1 v acc.length (aA acc)
 but:aG c w wr
 lc:c<w.heap.size
theorem Ua {w w':World} {lo:Nat} {e:TypeId} {size n:Nat} {v:Value} {xs:List Value} (h:w.ownsRow lo e size v n xs) (hb:∀ b,lo<=b->b<w.heap.size->w'.heap[b]?=w.heap[b]?):w'.ownsRow lo e size v n xs:=by
 refine ⟨h.1,?_⟩;rcases h.2 with hn | ⟨g,cap,cur,rfl,hb0,hg,rest⟩
 ·exact .inl hn
 ·exact .inr ⟨g,cap,cur,rfl,hb0,(hb g hb0 (Array.getElem?_eq_some_iff.1 hg).1).trans hg,rest⟩
theorem PY.inner {c:Nat} {w:World} {v:Value} {acc:List UInt8} {wr w1:World} (h:PY c w v acc wr) (hB:aG c wr w1):PY c w v acc w1 :=
 ⟨Ua h.own fun b h1 h2=>hB.block b h2 (by have:=h.lc;omega),h.but.trans hB,h.lc⟩
theorem PY.keep {c:Nat} {w:World} {v:Value} {acc:List UInt8} {wr w1:World} (h:PY c w v acc wr) (hB:Below wr.heap.size wr w1):PY c w v acc w1:=h.inner (aG.of hB)
theorem PY.grow {c:Nat} {w:World} {v v':Value} {acc l:List UInt8} {wr w1:World} (h:PY c w v acc wr) (hO:w1.ownsRow w.heap.size 5 1 v' (acc.length+l.length) (aA acc++aA l)) (hG:wr.grownBy w1 v.ownBlock):PY c w v' (acc++l) w1:=by
 refine ⟨?_,⟨hG.os.trans h.but.os,hG.tape.trans h.but.tape,hG.output.trans h.but.output,Nat.le_trans h.but.size hG.size,fun k hk hc=>?_⟩,h.lc⟩
 ·rw [List.length_append,kF];exact hO
 ·rw [hG.block k (Nat.lt_of_lt_of_le hk h.but.size) ?_,h.but.block k hk hc];intro e;rcases h.own.2 with ⟨rfl,_⟩ | ⟨g,cap,cur,rfl,hb0,_⟩
  ·cases e
  ·have:k=g:=by simpa [Value.ownBlock] using e
   omega
theorem PY.rd {c:Nat} {w:World} {v:Value} {acc:List UInt8} {wr w1:World} (h:PY c w v acc wr) (hG:wr.grownBy w1 v.ownBlock) {s:ByteArray} {i:Nat} {b:Bool} (hL:RL c s i b wr):RL c s i b w1:=by
 refine hL.move hG.size (hG.block c hL.lt ?_);intro e;have:=h.lc;rcases h.own.2 with ⟨rfl,_⟩ | ⟨g,cap,cur,rfl,hb0,_⟩
 ·cases e
 ·have:c=g:=by simpa [Value.ownBlock] using e
  omega
theorem EL (c:Nat) (s:ByteArray) (i:Nat) (w:World) (h:RL c s i false w) (hs:s.size<=4000) (hi:i<=s.size) (hsk:sk s i=i) :
  Calls Tryz.prog 201 #[.pointer (some ⟨c,0,none⟩)] w (T9 c s i w):=by
 obtain ⟨iB,zK,Bv,zL,Bw⟩:=info_parts aaK;have HL:=aj h;have hlc:=h.lt;clear h;by_cases x9:cB s i=34
 ·have hlt:i<s.size:=aZ (by omega);have hp:ku s (sk s i) ⟨#[34]⟩=true:=by rw [hsk,su];exact decide_eq_true x9
  have HA:Hid (Calls Tryz.prog 206 #[.pointer (some ⟨c,0,none⟩),.string ⟨#[34]⟩] w fun e w'=>e=.returned (.tuple #[])/\aG c w w'/\RL c s (i+1) false w'):=by
   have:=Jk c s i ⟨#[34]⟩ w HL.out hs hi (by show (1:Nat)<=100;omega) hp;rw [hsk] at this;exact this
  have HX:=aj (M5 x9);clear x9 hp hsk;go_in;go_wp2_with fail;refine HA.out.mono ?_;rintro e w1 ⟨rfl,hB1,hL1⟩;have aQ:=aj hL1;have HI1:Hid (PY c w (.slice none 0 0) [] w1):=⟨World.ownsRow_nil w1 _ _ _,hB1,hlc⟩;clear hB1 hL1 HA;go_wp2_with fail;go_loopg [3] (s.size+1 - (i+1)) (fun g v wr=>(∃ (k n:Nat) (acc:List UInt8),g=s.size+1 - k/\k<=s.size/\s.size+1<=n+k/\acc.length<=4*k/\Hid (RL c s k false wr)/\Hid (PY c w v acc wr)/\Hid (kP s (s.size+1) (i+1)=(kP s n k).map fun p=>(acc++p.1,p.2)))\/(g=0/\Hid (RB c s wr)/\Hid (aG c w wr)/\Hid (fF s i=none)))
  case atStart=>exact Or.inl ⟨i+1,s.size+1,[],rfl,by omega,by omega,by simp,aQ,HI1,by show _=_;cases kP s (s.size+1) (i+1)<;>rfl⟩
  case round =>
   clear aQ HI1;rcases hrel with ⟨k,n,acc,rfl,hk,hn,hacc,jR,HI,HN⟩ | ⟨rfl,Yo,HB,HZ⟩
   ·obtain ⟨n,rfl⟩:∃ m,n=m+1:=⟨n - 1,by omega⟩;have q0:=jR.out.q0;have q1:=jR.out.q1;have q2:=jR.out.q2;have q3:=jR.out.f1;have q4:=jR.out.f2;by_cases hlt2:k<s.size
    ·obtain ⟨z,hz,hzc⟩:=mM hlt2;have V5:=aj hzc;have x1:decide ((s.size:Int)<=(k:Int))=false:=decide_eq_false (by omega);have x2:(k:Int)<(s.size:Int):=by omega
     have lz:z.toNat<256:=z.toNat_lt;clear hzc;by_cases h32:z.toNat<32
     ·have x3:decide ((z.toNat:Int)<32)=true:=decide_eq_true (by omega)
      have HZ:Hid (fF s i=none):=by
       show _=_;rw [HX.out,HN.out,oC (by rw [V5.out];omega) (Aj hlt2 (by rw [V5.out];omega) (by rw [V5.out];omega))];rfl
      go_wp2_with fail;go_quiet (fail);have fI:=aj (below_drewN (Below.refl wr.heap.size wr) nq);generalize wr.drewN nq=w2 at fI ⊢;have HL2:=aj (jR.out.keep fI.out);have HI2:=aj (HI.out.keep fI.out);clear q0 q1 q2 q3 q4;have q2:=HL2.out.q2;have q4:=HL2.out.f2;go_wp2_with fail;go_ret;exact ⟨HI2.out.but.trans (aG.set w2 c 2 _),Or.inr ⟨HZ.out,rfl,k,by omega,HL2.out.mark true⟩⟩
     ·have x3:decide ((z.toNat:Int)<32)=false:=decide_eq_false (by omega);by_cases PZ:z.toNat=34
      ·have HZ:Hid (fF s i=some (bY acc,k+1)):=by
        show _=_;rw [HX.out,HN.out,Ak (by rw [V5.out];exact PZ)];simp
       have y1:((z.toNat:Int)==34)=true:=by rw [beq_iff_eq];omega
       clear h32 PZ;go_wp2_with fail;go_quiet (fail);have fI:=aj (below_drewN (Below.refl wr.heap.size wr) nq);generalize wr.drewN nq=w2 at fI ⊢;have HL2:=aj (jR.out.keep fI.out);have HI2:=aj (HI.out.keep fI.out);clear q0 q1 q2 q3 q4;have q0:=HL2.out.q0;have q1:=HL2.out.q1;have q3:=HL2.out.f1;go_wp2_with fail;go_quiet (fail);have Cc:=aj (below_drewN (Below.refl w2.heap.size w2) nq);generalize w2.drewN nq=w3 at Cc ⊢;have gF:=aj (HL2.out.keep Cc.out);have HI3:=aj (HI2.out.keep Cc.out);clear q0 q1 q3;have q1:=gF.out.q1;have q3:=gF.out.f1;have HI4:=aj (HI3.out.inner (aG.set w3 c 1 (.int .i64 ((k:Int)+1))));have hcv:=Bl (P:=Tryz.prog) (src:=63) (dst:=9) Tryz.underlying63 Tryz.underlying5 Tryz.underlying9 HI4.out.own;go_wp2_with fail;go_ret;exact ⟨HI4.out.but,Or.inl ⟨_,k+1,HZ.out,rfl,gF.out.set (k+1)⟩⟩
      ·have y1:((z.toNat:Int)==34)=false:=by rw [beq_eq_false_iff_ne];omega
       by_cases V6:z.toNat=92
       ·have y2:((z.toNat:Int)==92)=true:=by rw [beq_iff_eq];omega
        have HY:Hid (kM s k=dw s (k+1)):=by show _=_;unfold kM;rw [if_pos (by rw [V5.out];exact V6)]
        have V7:Hid (cB s k≠34):=by show _≠_;rw [V5.out];exact PZ
        clear h32 PZ V6;go_wp2_with fail;go_quiet (fail);have fI:=aj (below_drewN (Below.refl wr.heap.size wr) nq);generalize wr.drewN nq=w2 at fI ⊢;have HL2:=aj (jR.out.keep fI.out);have HI2:=aj (HI.out.keep fI.out);clear q0 q1 q2 q3 q4;have q0:=HL2.out.q0;have q1:=HL2.out.q1;have q3:=HL2.out.f1;go_wp2_with fail;go_quiet (fail);have Cc:=aj (below_drewN (Below.refl w2.heap.size w2) nq);generalize w2.drewN nq=w3 at Cc ⊢;have gF:=aj (HL2.out.keep Cc.out);have HI3:=aj (HI2.out.keep Cc.out);clear q0 q1 q3;have q1:=gF.out.q1;have q3:=gF.out.f1;have jM:=aj (gF.out.set (k+1));have HI4:=aj (HI3.out.inner (aG.set w3 c 1 (.int .i64 ((k+1:Nat):Int))));have HEs:Hid (Calls Tryz.prog 242 #[.pointer (some ⟨c,0,none⟩)] (w3.setCell ⟨c,1,none⟩ (.int .i64 ((k:Int)+1))) (gu c s (dw s (k+1)) (w3.setCell ⟨c,1,none⟩ (.int .i64 ((k+1:Nat):Int))))):=Jw c s (k+1) _ jM.out hs (by omega);clear jR HI HL2 HI2 gF HI3;go_wp2_with fail;refine HEs.out.mono ?_;clear jM HEs q1 q3;generalize w3.setCell ⟨c,1,none⟩ (.int .i64 ((k+1:Nat):Int))=w4 at HI4 ⊢;rintro e w5 ⟨B5,⟨r,j,hx,rfl,L5⟩ | ⟨hx,⟨y,hy,rfl⟩,L5⟩⟩
        ·have JU:=aj L5;have mq:=aj (HI4.out.inner B5);have gG:=Ai (HY.out.trans hx);have HN5:=aj (HN.out.trans (Al (n:=n) acc V7.out (HY.out.trans hx)));have hl4:=Lib.runeCells_le (r:Int);rw [Lib.runeCells_length] at hl4;have hsz:=fA (Lib.encodeRune (r:Int));have UH:=aj hsz;have Nf:=aj (oV (P:=Tryz.prog) w5 Tryz.underlying9 (bY (Lib.encodeRune (r:Int))));rw [kQ] at Nf;clear B5 L5 hx HI4 HN hsz;go_wp2_with (refine ay _ rfl _ _ _ _ rfl w.heap.size 5 iB _ 1 1 Tryz.underlying63 zK Bv zL Bw rfl _ acc.length (aA acc) rfl mq.out.own _ _ _ rfl Nf.out (by rw [UH.out];unfold maxLen;omega) (by rw [UH.out];omega) mq.out.but.size ?_;intro v' w6 gU gQ bI);rw [UH.out] at gU;have zh:=aj (mq.out.grow gU gQ);have pW:=aj (mq.out.rd gQ JU.out);clear gU gQ bI mq JU Nf;go_wp2_with fail;go_roundg (s.size+1 - j)
         case rel=>exact Or.inl ⟨j,n,acc++Lib.encodeRune (r:Int),rfl,by omega,by omega,by rw [List.length_append];omega,pW,zh,HN5⟩
         case measure=>omega
        ·have mq:=aj (HI4.out.inner B5);have zS:=aj L5
         have HZ:Hid (fF s i=none):=by
          show _=_;rw [HX.out,HN.out,oC V7.out (HY.out.trans hx)];rfl
         have Nf:=aj (oV (P:=Tryz.prog) w5 Tryz.underlying9 y);clear B5 L5 hx HI4 HN;go_wp2_with (refine ay _ rfl _ _ _ _ rfl w.heap.size 5 iB _ 1 1 Tryz.underlying63 zK Bv zL Bw rfl _ acc.length (aA acc) rfl mq.out.own _ _ _ rfl Nf.out (by unfold maxLen;omega) (by omega) mq.out.but.size ?_;intro v' w6 gU gQ bI);have zh:=aj (mq.out.grow (l:=y.data.toList) gU gQ)
         have HR6:Hid (RB c s w6):=by
          obtain ⟨j,hj,hL⟩:=zS.out;exact ⟨j,hj,mq.out.rd gQ hL⟩
         have pX:=aj zh.out.but;clear gU gQ bI mq zS Nf;go_wp2_with fail;go_roundg 0
         case rel=>exact Or.inr ⟨rfl,HR6,pX,HZ⟩
         case measure=>omega
       ·have y2:((z.toNat:Int)==92)=false:=by rw [beq_eq_false_iff_ne];omega
        have V7:Hid (cB s k≠34):=by show _≠_;rw [V5.out];exact PZ
        have H92:Hid (cB s k≠92):=by show _≠_;rw [V5.out];exact V6
        have H32:Hid (32<=cB s k):=by show _<=_;rw [V5.out];omega
        clear h32 PZ V6;go_wp2_with fail;go_quiet (fail);have fI:=aj (below_drewN (Below.refl wr.heap.size wr) nq);generalize wr.drewN nq=w2 at fI ⊢;have HL2:=aj (jR.out.keep fI.out);have HI2:=aj (HI.out.keep fI.out);clear q0 q1 q2 q3 q4;have q0:=HL2.out.q0;have q1:=HL2.out.q1;go_wp2_with fail;go_quiet (fail);have Cc:=aj (below_drewN (Below.refl w2.heap.size w2) nq);generalize w2.drewN nq=w3 at Cc ⊢;have gF:=aj (HL2.out.keep Cc.out);have HI3:=aj (HI2.out.keep Cc.out);clear q0 q1 jR HI HL2 HI2;have q0:=gF.out.q0;have q1:=gF.out.q1;have x4:(k:Int)<=(s.size:Int):=by omega
        have UH:Hid ((s.extract k s.size).size=s.size - k):=Lib.ext_size s k;go_wp2_with fail;refine wp_region_held_drew (S:=fun wx=>wx.cell? ⟨c,0,none⟩=some (.string s)/\wx.cell? ⟨c,1,none⟩=some (.int .i64 (k:Int))) (by kernel_rfl) ⟨by simpa using q0,by simpa using q1⟩ (fun hHeld=>?_);refine wpAnyH_take (i:=0) (v:=.pointer (some ⟨c,0,none⟩)) rfl (by kernel_rfl) (by kernel_rfl) (by kernel_rfl) (fun _ _ _ h=>h) (Or.inl ⟨by rfl,(by intro wx hSw;obtain ⟨s0,s1⟩:=hSw;go_simp)⟩) hHeld ?_;refine wpAnyH_take (i:=1) (v:=.pointer (some ⟨c,0,none⟩)) rfl (by kernel_rfl) (by kernel_rfl) (by kernel_rfl) (fun _ _ _ h=>h) (Or.inl ⟨by rfl,(by intro wx hSw;obtain ⟨s0,s1⟩:=hSw;go_simp)⟩) hHeld ?_;refine wpAnyH_take (i:=2) (v:=.pointer (some ⟨c,0,none⟩)) rfl (by kernel_rfl) (by kernel_rfl) (by kernel_rfl) (fun _ _ _ h=>h) (Or.inl ⟨by rfl,(by intro wx hSw;obtain ⟨s0,s1⟩:=hSw;go_simp)⟩) hHeld ?_;refine wpAnyH_take (i:=3) (v:=.string s) rfl (by kernel_rfl) (by kernel_rfl) (by kernel_rfl) (fun _ _ _ h=>h) (Or.inl ⟨by rfl,(by intro wx hSw;obtain ⟨s0,s1⟩:=hSw;go_simp)⟩) hHeld ?_;refine wpAnyH_take (i:=4) (v:=.pointer (some ⟨c,0,none⟩)) rfl (by kernel_rfl) (by kernel_rfl) (by kernel_rfl) (fun _ _ _ h=>h) (Or.inl ⟨by rfl,(by intro wx hSw;obtain ⟨s0,s1⟩:=hSw;go_simp)⟩) hHeld ?_;refine wpAnyH_take (i:=5) (v:=.pointer (some ⟨c,0,none⟩)) rfl (by kernel_rfl) (by kernel_rfl) (by kernel_rfl) (fun _ _ _ h=>h) (Or.inl ⟨by rfl,(by intro wx hSw;obtain ⟨s0,s1⟩:=hSw;go_simp)⟩) hHeld ?_
        refine wpAnyH_take (i:=6) (v:=.pointer (some ⟨c,1,none⟩)) rfl (by kernel_rfl) (by kernel_rfl) (by kernel_rfl) (fun _ _ _ h=>h) (Or.inl ⟨by rfl,(by intro wx hSw;obtain ⟨s0,s1⟩:=hSw;go_simp)⟩) hHeld ?_;refine wpAnyH_take (i:=7) (v:=.int .i64 (k:Int)) rfl (by kernel_rfl) (by kernel_rfl) (by kernel_rfl) (fun _ _ _ h=>h) (Or.inl ⟨by rfl,(by intro wx hSw;obtain ⟨s0,s1⟩:=hSw;go_simp)⟩) hHeld ?_;refine wpAnyH_take (i:=8) (v:=.string (s.extract k s.size)) rfl (by kernel_rfl) (by kernel_rfl) (by kernel_rfl) (fun _ _ _ h=>h) (Or.inl ⟨by rfl,(by intro wx hSw;obtain ⟨s0,s1⟩:=hSw;go_simp)⟩) hHeld ?_;refine wpAnyH_ready (rs:=[9]) (by kernel_rfl) (by simp) (AllReadyH.cons rfl (fun KK WB=>?_) AllReadyH.nil);go_simp;go_wp2_with (go_at_call 166;refine (VT (s.extract k s.size) _ (by rw [UH.out];omega) (by rw [UH.out];omega)).mono ?_;rintro e w4 ⟨⟨x,rfl⟩,rfl⟩);refine WB.out _ _ ⟨by simpa using q0,by simpa using q1⟩ (fun hHeld=>?_);clear WB KK;refine wpAnyH_take (i:=10) (v:=.tuple #[.int .i64 (aW (s.extract k s.size):Int),.int .i64 x]) rfl (by kernel_rfl) (by kernel_rfl) (by kernel_rfl) (fun _ _ _ h=>h) (Or.inl ⟨by rfl,(by intro wx hSw;obtain ⟨s0,s1⟩:=hSw;go_simp)⟩) hHeld ?_;refine wpAnyH_take (i:=11) (v:=.int .i64 (aW (s.extract k s.size):Int)) rfl (by kernel_rfl) (by kernel_rfl) (by kernel_rfl) (fun _ _ _ h=>h) (Or.inl ⟨by rfl,(by intro wx hSw;obtain ⟨s0,s1⟩:=hSw;go_simp)⟩) hHeld ?_
        refine wpAnyH_take (i:=12) (v:=.int .i64 x) rfl (by kernel_rfl) (by kernel_rfl) (by kernel_rfl) (fun _ _ _ h=>h) (Or.inl ⟨by rfl,(by intro wx hSw;obtain ⟨s0,s1⟩:=hSw;go_simp)⟩) hHeld ?_;refine wpAnyH_take (i:=13) (v:=.int .i64 (aW (s.extract k s.size):Int)) rfl (by kernel_rfl) (by kernel_rfl) (by kernel_rfl) (fun _ _ _ h=>h) (Or.inl ⟨by rfl,(by intro wx hSw;obtain ⟨s0,s1⟩:=hSw;go_simp)⟩) hHeld ?_;refine wpAnyH_take (i:=14) (v:=.int .i64 x) rfl (by kernel_rfl) (by kernel_rfl) (by kernel_rfl) (fun _ _ _ h=>h) (Or.inl ⟨by rfl,(by intro wx hSw;obtain ⟨s0,s1⟩:=hSw;go_simp)⟩) hHeld ?_;refine wpAnyH_done (by kernel_rfl) ?_ _
        ·have Iq:=aj (ak w3);generalize w3.drew=w4 at Iq ⊢;have jM:=aj (gF.out.keep Iq.out);have HI4:=aj (HI3.out.keep Iq.out);clear q0 q1;have q2:=jM.out.q2;have q4:=jM.out.f2
         have hle:aW (s.extract k s.size)<=s.size - k:=by
          have:=VU (s.extract k s.size) (by rw [UH.out];omega);rw [UH.out] at this;exact this
         have HG0:=aj (fun h0:aW (nE s k)=0=>Aj hlt2 H92.out (Or.inr h0));have HG1:=aj (Dr hlt2 H92.out H32.out);rw [show nE s k=s.extract k s.size from rfl] at HG0 HG1;generalize aW (s.extract k s.size)=m at hle HG0 HG1 ⊢;obtain ⟨b,hb⟩:∃ b,((m:Int)==0)=b:=⟨_,rfl⟩;have JU:=aj (jM.out.mark b);have mq:=aj (HI4.out.inner (aG.set w4 c 2 (.bool b)));go_wp2_with fail;generalize w4.setCell ⟨c,2,none⟩ (.bool b)=w5 at JU mq ⊢;have q0:=JU.out.q0;have q1:=JU.out.q1;have e2:IntKind.i64.wrap ((k:Int)+(m:Int))=(k:Int)+(m:Int):=by rw [IntKind.wrap_i64];omega
         have e3:((k:Int)+(m:Int)).toNat=k+m:=by omega
         have x5:(k:Int)<=(k:Int)+(m:Int):=by omega
         have x6:(k:Int)+(m:Int)<=(s.size:Int):=by omega
         have Da:=aj (mq.out.keep (ak w5));have Yp:=aj (JU.out.keep (ak w5));have Nf:=aj (oV (P:=Tryz.prog) w5.drew Tryz.underlying9 (s.extract k (k+m)));have Hex:Hid ((s.extract k (k+m)).size=m):=by show _=_;rw [ByteArray.size_extract];omega
         have Hb:=aj hb;clear q2 q4 jM HI4 hb;refine wp_region_held_drew (S:=fun wx=>wx.cell? ⟨c,0,none⟩=some (.string s)/\wx.cell? ⟨c,1,none⟩=some (.int .i64 (k:Int))) (by kernel_rfl) ⟨Yp.out.q0,Yp.out.q1⟩ (fun hHeld=>?_);refine wpAnyH_take (i:=0) (v:=u3) rfl (by kernel_rfl) (by kernel_rfl) (by kernel_rfl) (fun _ _ _ h=>h) (Or.inl ⟨by rfl,(by intro wx hSw;obtain ⟨s0,s1⟩:=hSw;go_simp)⟩) hHeld ?_;refine wpAnyH_take (i:=1) (v:=.pointer (some ⟨c,0,none⟩)) rfl (by kernel_rfl) (by kernel_rfl) (by kernel_rfl) (fun _ _ _ h=>h) (Or.inl ⟨by rfl,(by intro wx hSw;obtain ⟨s0,s1⟩:=hSw;go_simp)⟩) hHeld ?_;refine wpAnyH_take (i:=2) (v:=.pointer (some ⟨c,0,none⟩)) rfl (by kernel_rfl) (by kernel_rfl) (by kernel_rfl) (fun _ _ _ h=>h) (Or.inl ⟨by rfl,(by intro wx hSw;obtain ⟨s0,s1⟩:=hSw;go_simp)⟩) hHeld ?_;refine wpAnyH_take (i:=3) (v:=.pointer (some ⟨c,0,none⟩)) rfl (by kernel_rfl) (by kernel_rfl) (by kernel_rfl) (fun _ _ _ h=>h) (Or.inl ⟨by rfl,(by intro wx hSw;obtain ⟨s0,s1⟩:=hSw;go_simp)⟩) hHeld ?_;refine wpAnyH_take (i:=4) (v:=.string s) rfl (by kernel_rfl) (by kernel_rfl) (by kernel_rfl) (fun _ _ _ h=>h) (Or.inl ⟨by rfl,(by intro wx hSw;obtain ⟨s0,s1⟩:=hSw;go_simp)⟩) hHeld ?_;refine wpAnyH_take (i:=5) (v:=.pointer (some ⟨c,0,none⟩)) rfl (by kernel_rfl) (by kernel_rfl) (by kernel_rfl) (fun _ _ _ h=>h) (Or.inl ⟨by rfl,(by intro wx hSw;obtain ⟨s0,s1⟩:=hSw;go_simp)⟩) hHeld ?_
         refine wpAnyH_take (i:=6) (v:=.pointer (some ⟨c,0,none⟩)) rfl (by kernel_rfl) (by kernel_rfl) (by kernel_rfl) (fun _ _ _ h=>h) (Or.inl ⟨by rfl,(by intro wx hSw;obtain ⟨s0,s1⟩:=hSw;go_simp)⟩) hHeld ?_;refine wpAnyH_take (i:=7) (v:=.pointer (some ⟨c,1,none⟩)) rfl (by kernel_rfl) (by kernel_rfl) (by kernel_rfl) (fun _ _ _ h=>h) (Or.inl ⟨by rfl,(by intro wx hSw;obtain ⟨s0,s1⟩:=hSw;go_simp)⟩) hHeld ?_;refine wpAnyH_take (i:=8) (v:=.int .i64 (k:Int)) rfl (by kernel_rfl) (by kernel_rfl) (by kernel_rfl) (fun _ _ _ h=>h) (Or.inl ⟨by rfl,(by intro wx hSw;obtain ⟨s0,s1⟩:=hSw;go_simp)⟩) hHeld ?_;refine wpAnyH_take (i:=9) (v:=.pointer (some ⟨c,0,none⟩)) rfl (by kernel_rfl) (by kernel_rfl) (by kernel_rfl) (fun _ _ _ h=>h) (Or.inl ⟨by rfl,(by intro wx hSw;obtain ⟨s0,s1⟩:=hSw;go_simp)⟩) hHeld ?_;refine wpAnyH_take (i:=10) (v:=.pointer (some ⟨c,0,none⟩)) rfl (by kernel_rfl) (by kernel_rfl) (by kernel_rfl) (fun _ _ _ h=>h) (Or.inl ⟨by rfl,(by intro wx hSw;obtain ⟨s0,s1⟩:=hSw;go_simp)⟩) hHeld ?_;refine wpAnyH_take (i:=11) (v:=.pointer (some ⟨c,1,none⟩)) rfl (by kernel_rfl) (by kernel_rfl) (by kernel_rfl) (fun _ _ _ h=>h) (Or.inl ⟨by rfl,(by intro wx hSw;obtain ⟨s0,s1⟩:=hSw;go_simp)⟩) hHeld ?_;refine wpAnyH_take (i:=12) (v:=.int .i64 (k:Int)) rfl (by kernel_rfl) (by kernel_rfl) (by kernel_rfl) (fun _ _ _ h=>h) (Or.inl ⟨by rfl,(by intro wx hSw;obtain ⟨s0,s1⟩:=hSw;go_simp)⟩) hHeld ?_
         refine wpAnyH_take (i:=13) (v:=.int .i64 (m:Int)) rfl (by kernel_rfl) (by kernel_rfl) (by kernel_rfl) (fun _ _ _ h=>h) (Or.inl ⟨by rfl,(by intro wx hSw;obtain ⟨s0,s1⟩:=hSw;go_simp)⟩) hHeld ?_;refine wpAnyH_take (i:=14) (v:=.int .i64 ((k:Int)+(m:Int))) rfl (by kernel_rfl) (by kernel_rfl) (by kernel_rfl) (fun _ _ _ h=>h) (Or.inl ⟨by rfl,(by intro wx hSw;obtain ⟨s0,s1⟩:=hSw;go_simp)⟩) hHeld ?_;refine wpAnyH_take (i:=15) (v:=.string (s.extract k (k+m))) rfl (by kernel_rfl) (by kernel_rfl) (by kernel_rfl) (fun _ _ _ h=>h) (Or.inl ⟨by rfl,(by intro wx hSw;obtain ⟨s0,s1⟩:=hSw;go_simp)⟩) hHeld ?_;refine wpAnyH_ready (rs:=[16]) (by kernel_rfl) (by simp) (AllReadyH.cons rfl (fun KK WB=>?_) AllReadyH.nil);rw [if_pos (by kernel_rfl)];refine ou _ (.tmp 98) (.tmp 113) 63 9 (by rfl) w.heap.size 5 iB _ 1 1 Tryz.underlying63 zK Bv zL Bw rfl u3 acc.length (aA acc) (by kernel_rfl) Da.out.own (.string (s.extract k (k+m))) (s.extract k (k+m)).size _ (by kernel_rfl) Nf.out (by rw [Hex.out];unfold maxLen;omega) (by rw [Hex.out];omega) Da.out.but.size ?_;intro v' w6 gU gQ bI;have zh:=aj (Da.out.grow (l:=(s.extract k (k+m)).data.toList) gU gQ);have pW:=aj (Da.out.rd gQ Yp.out);refine WB.out _ _ ⟨pW.out.q0,pW.out.q1⟩ (fun hHeld=>?_);clear WB KK gU gQ bI;refine wpAnyH_take (i:=17) (v:=v') rfl (by kernel_rfl) (by kernel_rfl) (by kernel_rfl) (fun _ _ _ h=>h) (Or.inl ⟨by rfl,(by intro wx hSw;obtain ⟨s0,s1⟩:=hSw;go_simp)⟩) hHeld ?_
         refine wpAnyH_done (by kernel_rfl) ?_ _;clear q0 q1;have q1:=pW.out.q1;have q3:=pW.out.f1;have Fa:=aj (pW.out.set (k+m));have HI7:=aj (zh.out.inner (aG.set w6 c 1 (.int .i64 ((k+m:Nat):Int))))
         have hlen:(acc++(s.extract k (k+m)).data.toList).length=acc.length+m:=by
          rw [List.length_append];show _+(s.extract k (k+m)).size=_;rw [Hex.out]
         cases b with
         | false =>
          have hm0:m≠0:=by have:=Hb.out;rw [beq_eq_false_iff_ne] at this;omega
          obtain ⟨r,hr1,hr2,hr3⟩:=HG1.out hm0
          have HN7:Hid (kP s (s.size+1) (i+1)=(kP s n (k+m)).map fun p=>((acc++(s.extract k (k+m)).data.toList)++p.1,p.2)):=by
           show _=_;rw [HN.out,Al (n:=n) acc V7.out hr1,hr2]
          clear hr1 hr2;go_wp2_with fail;go_roundg (s.size+1 - (k+m))
          case rel=>exact Or.inl ⟨k+m,n,_,rfl,by omega,by omega,by rw [hlen];omega,Fa,HI7,HN7⟩
          case measure=>omega
         | true =>
          have hm0:m=0:=by have:=Hb.out;rw [beq_iff_eq] at this;omega
          have HZ:Hid (fF s i=none):=by
           show _=_;rw [HX.out,HN.out,oC V7.out (HG0.out hm0)];rfl
          have rE:=aj HI7.out.but;clear hm0;go_wp2_with fail;go_roundg 0
          case rel=>exact Or.inr ⟨rfl,⟨k+m,by omega,Fa.out⟩,rE,HZ⟩
          case measure=>omega
    ·have x1:decide ((s.size:Int)<=(k:Int))=true:=decide_eq_true (by omega)
     have HZ:Hid (fF s i=none):=by
      show _=_;rw [HX.out,HN.out,oC (by rw [nZ (by omega)];omega) (GI (by omega))];rfl
     go_wp2_with fail;go_quiet (fail);have fI:=aj (below_drewN (Below.refl wr.heap.size wr) nq);generalize wr.drewN nq=w2 at fI ⊢;have HL2:=aj (jR.out.keep fI.out);have HI2:=aj (HI.out.keep fI.out);clear q0 q1 q2 q3 q4;have q2:=HL2.out.q2;have q4:=HL2.out.f2;go_wp2_with fail;go_ret;exact ⟨HI2.out.but.trans (aG.set w2 c 2 _),Or.inr ⟨HZ.out,rfl,k,by omega,HL2.out.mark true⟩⟩
   ·obtain ⟨j,hj,hL⟩:=Yo.out;have q2:=hL.q2;have Yq:=aj Yo.out;clear hL Yo;go_wp2_with fail;go_ret;exact ⟨HB.out,Or.inr ⟨HZ.out,rfl,Yq.out⟩⟩
 ·have hp:ku s (sk s i) ⟨#[34]⟩=false:=by rw [hsk,su];exact decide_eq_false x9
  have HA:=aj (Oa c s i ⟨#[34]⟩ w HL.out hs hi (by show (1:Nat)<=100;omega) hp);have HX:=aj (GU x9);clear x9 hp;go_in;go_wp2_with fail;refine HA.out.mono ?_;rintro e w1 ⟨rfl,hB1,hR1⟩;have HB1:=aj hB1;have HR1:=aj hR1;clear hB1 hR1 HA;go_wp2_with fail;go_loopg [3] 0 (fun g _v wr=>g=0/\Hid (RB c s wr)/\Hid (aG c w wr))
  case atStart=>exact ⟨rfl,HR1,HB1⟩
  case round =>
   clear HR1 HB1;obtain ⟨rfl,Yo,HB⟩:=hrel;obtain ⟨j,hj,hL⟩:=Yo.out;have q2:=hL.q2;have Yq:=aj Yo.out;clear hL Yo;go_wp2_with fail;go_ret;exact ⟨HB.out,Or.inr ⟨HX.out,rfl,Yq.out⟩⟩
def Ce (s:ByteArray) (n:Nat):Prop:=∀ (c i:Nat) (w:World),RL c s i false w->i<=s.size->s.size<i+n->Calls Tryz.prog 167 #[.pointer (some ⟨c,0,none⟩)] w (eP n c s (aS s n i) w)
def aaL (n c:Nat) (s:ByteArray) (x:Option (T×Nat)) (w:World) (e:Ending) (w':World):Prop :=
 aG c w w'/\∃ t es A B C D,e=.returned (.agg #[.int .i64 (ah t),.int .i64 (aB t),.string (aF t),.slice A (nL t) B,.slice C (nK t) D])/\fC w' n (.agg #[.int .i64 (ah t),.int .i64 (aB t),.string (aF t),.slice A (nL t) B,.slice C (nK t) D]) t es/\mD w.heap.size w' es/\((∃ j,x=some (t,j)/\RL c s j false w')\/(x=none/\RB c s w'))
theorem eP.uni {n c:Nat} {s:ByteArray} {x:Option (T×Nat)} {w:World} {e:Ending} {w':World} (h:eP n c s x w e w'):aaL n c s x w e w':=by
 obtain ⟨hB,⟨t,j,es,A,B,C,D,hx,he,hF,hS,hL⟩ | ⟨hx,⟨t,es,A,B,C,D,he,hF,hS⟩,hR⟩⟩:=h
 ·exact ⟨hB,t,es,A,B,C,D,he,hF,hS,Or.inl ⟨j,hx,hL⟩⟩
 ·exact ⟨hB,t,es,A,B,C,D,he,hF,hS,Or.inr ⟨hx,hR⟩⟩
theorem RB.same {c:Nat} {s:ByteArray} {w w':World} (h:RB c s w) (hb:w'.heap[c]?=w.heap[c]?) (hs:w.heap.size<=w'.heap.size):RB c s w':=by
 obtain ⟨j,hj,hL⟩:=h;exact ⟨j,hj,hL.same hb hs⟩
theorem RB.keep {c:Nat} {s:ByteArray} {w w':World} (h:RB c s w) (hb:Below w.heap.size w w'):RB c s w':=by
 obtain ⟨j,hj,hL⟩:=h;exact ⟨j,hj,hL.keep hb⟩
theorem uG (c:Nat) (s:ByteArray) (t:ByteArray) (w:World) (h:RB c s w) (hs:s.size<=4000) :
  Calls Tryz.prog 204 #[.pointer (some ⟨c,0,none⟩),.string t] w fun e w'=>e=.returned (.bool false)/\aG c w w'/\RB c s w':=by
 obtain ⟨j,hj,hL⟩:=h;refine (N7 c s j t w hL hs hj).mono ?_;rintro e w' ⟨rfl,hB,hL'⟩;exact ⟨rfl,hB,sk s j,LY hj,hL'⟩
theorem wC (c:Nat) (s:ByteArray) (i:Nat) (b:UInt8) (w:World) (h:RL c s i false w) (hs:s.size<=4000) (hi:i<=s.size) (hb:cB s (sk s i)=b.toNat) :
  Calls Tryz.prog 204 #[.pointer (some ⟨c,0,none⟩),.string ⟨#[b]⟩] w (nU c s true (sk s i+1) false w) :=
 N9 c s i ⟨#[b]⟩ w h hs hi (by show (1:Nat)<=100;omega) (by rw [su];exact decide_eq_true hb)
theorem Cg (c:Nat) (s:ByteArray) (i:Nat) (b:UInt8) (w:World) (h:RL c s i false w) (hs:s.size<=4000) (hi:i<=s.size) (hb:cB s (sk s i)≠b.toNat) :
  Calls Tryz.prog 204 #[.pointer (some ⟨c,0,none⟩),.string ⟨#[b]⟩] w (nU c s false (sk s i) false w) :=
 Tp c s i ⟨#[b]⟩ w h hs hi (by show (1:Nat)<=100;omega) (by rw [su];exact decide_eq_false hb)
theorem sK (c:Nat) (s:ByteArray) (i:Nat) (b:UInt8) (w:World) (h:RL c s i false w) (hs:s.size<=4000) (hi:i<=s.size) (hb:cB s (sk s i)=b.toNat) :
  Calls Tryz.prog 206 #[.pointer (some ⟨c,0,none⟩),.string ⟨#[b]⟩] w fun e w'=>e=.returned (.tuple #[])/\aG c w w'/\RL c s (sk s i+1) false w' :=
 Jk c s i ⟨#[b]⟩ w h hs hi (by show (1:Nat)<=100;omega) (by rw [su];exact decide_eq_true hb)
theorem wD (c:Nat) (s:ByteArray) (i:Nat) (b:UInt8) (w:World) (h:RL c s i false w) (hs:s.size<=4000) (hi:i<=s.size) (hb:cB s (sk s i)≠b.toNat) :
  Calls Tryz.prog 206 #[.pointer (some ⟨c,0,none⟩),.string ⟨#[b]⟩] w fun e w'=>e=.returned (.tuple #[])/\aG c w w'/\RB c s w' :=
 Oa c s i ⟨#[b]⟩ w h hs hi (by show (1:Nat)<=100;omega) (by rw [su];exact decide_eq_false hb)
theorem wE {n c k:Nat} {s:ByteArray} {w wr:World} {x:Option (T×Nat)} {L:List T} {K:List ByteArray} {A C:Option Addr} {B D:Nat} {xs:List Value} {sub:Nat->List jh} (hk:k<=100) (hL:L.length<=10000) (hK:K.length<=10000)
  (hJ:JI n (k:Int) c w w.heap.size (w.heap.size+1) (w.heap.size+2) L K (.slice A L.length B) (.slice C K.length D) xs sub wr)
  (hx:(∃ j,x=some (dU (k:Int) 0 ByteArray.empty L K,j)/\RL c s j false wr)\/(x=none/\RB c s wr)) :
  eP (n+1) c s x w (.returned (.agg #[.int .i64 (k:Int),.int .i64 0,.string ⟨#[]⟩,.slice A L.length B,.slice C K.length D])) (((((wr.setCell ⟨w.heap.size,0,none⟩ (.int .i64 (k:Int))).setCell ⟨w.heap.size,1,none⟩ (.int .i64 0)).setCell ⟨w.heap.size,2,none⟩ (.string ⟨#[]⟩)).setCell ⟨w.heap.size,3,none⟩ (.slice A L.length B)).setCell ⟨w.heap.size,4,none⟩ (.slice C K.length D)):=by
 have hF:=hJ.grow.flat (k:Int) (by omega) (by omega) (by omega) (by omega);have hp:=jC (rb:=w.heap.size) hJ.but hJ.lc hF hJ.grow.sep (Nat.le_refl _) (by omega) (.int .i64 (k:Int)) (.int .i64 0) (.string ⟨#[]⟩) (.slice A L.length B) (.slice C K.length D)
 have Oi:(.agg #[.int .i64 (k:Int),.int .i64 0,.string ⟨#[]⟩,.slice A L.length B,.slice C K.length D]:Value)=fB (dU (k:Int) 0 ByteArray.empty L K) A B C D:=by
  unfold fB;rw [dP,mF,nW,cK,lU];rfl
 rcases hx with ⟨j,hx,hR⟩ | ⟨hx,hR⟩
 ·refine ⟨hp.1,Or.inl ⟨_,j,_,A,B,C,D,hx,by rw [Oi],?_,hp.2.2.1,hR.same hp.2.2.2.1 (by rw [hp.2.2.2.2];exact Nat.le_refl _)⟩⟩;rw [<- Oi];exact hp.2.1
 ·refine ⟨hp.1,Or.inr ⟨hx,⟨_,_,A,B,C,D,by rw [Oi],?_,hp.2.2.1⟩,hR.same hp.2.2.2.1 (by rw [hp.2.2.2.2];exact Nat.le_refl _)⟩⟩;rw [<- Oi];exact hp.2.1
def F5 (n c k:Nat) (s:ByteArray) (o:Bool) (j:Nat) (w:World):Ending->World->Prop :=
 eP (n+1) c s ((fM (aS s n) s o j).map fun r=>(dU (k:Int) 0 ByteArray.empty r.1.2 r.1.1,r.2)) w
theorem P5 (n:Nat) (s:ByteArray) (ih:Ce s n) (c j:Nat) (w:World) (h:RL c s j false w) (hs:s.size<=4000) (hj:j<=s.size) (hn:s.size<j+n) :
  Calls Tryz.prog 205 #[.pointer (some ⟨c,0,none⟩)] w (F5 n c 5 s false j w):=by
 obtain ⟨iV,G8,G9,Hf,Ho⟩:=info_parts yg;have Kr:=eT s j;have Kt:=fu hj;have Nb:=aj (JI.start (f:=n) (k:=5) h.lt);have iL:=aj (h.keep (((Below.refl _ _).alloc (Nat.le_refl _) (.cells #[.int .i64 0,.int .i64 0,.string ⟨#[]⟩,.slice none 0 0,.slice none 0 0] 25)).alloc (by simp) (.cells #[.int .i64 5,.int .i64 0,.string ⟨#[]⟩,.slice none 0 0,.slice none 0 0] 25)));have HI:=aj ih;have hcl:=h.lt;obtain ⟨ed,hed⟩:∃ ed,decide (cB s (sk s j)=93)=ed:=⟨_,rfl⟩;obtain ⟨k0,hk0⟩:∃ k0,(if ed=true then sk s j+1 else sk s j)=k0:=⟨_,rfl⟩
 have HO:Hid (Calls Tryz.prog 204 #[.pointer (some ⟨c,0,none⟩),.string ⟨#[93]⟩] ((w.alloc (.cells #[.int .i64 0,.int .i64 0,.string ⟨#[]⟩,.slice none 0 0,.slice none 0 0] 25)).alloc (.cells #[.int .i64 5,.int .i64 0,.string ⟨#[]⟩,.slice none 0 0,.slice none 0 0] 25)) (nU c s ed k0 false ((w.alloc (.cells #[.int .i64 0,.int .i64 0,.string ⟨#[]⟩,.slice none 0 0,.slice none 0 0] 25)).alloc (.cells #[.int .i64 5,.int .i64 0,.string ⟨#[]⟩,.slice none 0 0,.slice none 0 0] 25)))):=by
  cases ed with
  | true =>
   subst hk0;exact wC c s j 93 _ iL.out hs hj (of_decide_eq_true hed)
  | false =>
   subst hk0;exact Cg c s j 93 _ iL.out hs hj (of_decide_eq_false hed)
 have HA:Hid (gH n s false j (!ed) k0 [] []):=by
  cases ed with
  | true=>subst hk0;exact nM (of_decide_eq_true hed)
  | false=>subst hk0;exact nJ (of_decide_eq_false hed)
 have hk1:j<=k0/\k0<=s.size:=by
  cases ed with
  | true=>subst hk0;have:=aZ (s:=s) (i:=sk s j) (by have:=of_decide_eq_true hed;omega);simp;omega
  | false=>subst hk0;simp;omega
 clear h ih hed hk0 Kr Kt;go_in;go_wp2_with fail;refine HO.out.mono ?_;rintro e w1 ⟨rfl,B1,L1⟩;have Rh:=aj (Nb.out.inner B1);have aQ:=aj L1;clear B1 L1 HO Nb iL;go_wp2_with fail;go_loopg [4] (ms s (!ed) k0) (fun g b wr=>∃ (ed:Bool) (k:Nat) (L:List T) (Lv Kv:Value) (xs:List Value) (sub:Nat->List jh),b=.bool ed/\L.length<=k/\k<=4001/\Hid (JI n 5 c w w.heap.size (w.heap.size+1) (w.heap.size+2) L [] Lv Kv xs sub wr)/\((g=ms s (!ed) k/\j<=k/\k<=s.size/\Hid (RL c s k false wr)/\Hid (gH n s false j (!ed) k L []))\/(g=0/\ed=false/\Hid (RB c s wr)/\Hid (fM (aS s n) s false j=none))))
 case atStart=>exact ⟨ed,k0,[],_,_,[],fun _=>[],rfl,by simp,by omega,Rh,Or.inl ⟨rfl,hk1.1,hk1.2,aQ,HA⟩⟩
 case round =>
  clear Rh aQ HA hk1;obtain ⟨ed,k,L,Lv,Kv,xs,sub,rfl,YS,hk4,HE,hst⟩:=hrel;rcases hst with ⟨rfl,hk1,hk2,jR,HA⟩ | ⟨rfl,rfl,HR,HZ⟩
  ·cases ed with
   | true =>
    obtain ⟨A,B,rfl⟩:=aJ HE.out.grow.oL;obtain ⟨C,D,rfl⟩:=aJ HE.out.grow.vB;have HX:Hid ((fM (aS s n) s false j).map (fun r=>(dU (5:Int) 0 ByteArray.empty r.1.2 r.1.1,r.2))=some (dU (5:Int) 0 ByteArray.empty L [],k)):=by show _=_;rw [HA.out.2 rfl];rfl
    have r0:=HE.out.res.q0;have r1:=HE.out.res.q1;have r2:=HE.out.res.q2;have r3:=HE.out.res.q3;have r4:=HE.out.res.q4;have s0:=HE.out.res.f0;have s1:=HE.out.res.f1;have s2:=HE.out.res.f2;have s3:=HE.out.res.f3;have s4:=HE.out.res.f4;have t0:=HE.out.box.q0;have t1:=HE.out.box.q1;have t2:=HE.out.box.q2;have t3:=HE.out.box.q3;have t4:=HE.out.box.q4;go_wp2_with fail;refine bodyPost_ret (v:=.agg #[.int .i64 5,.int .i64 0,.string ⟨#[]⟩,.slice A L.length B,.slice C 0 D]) (by simp [results,Tryz.results205,go_sem, *]) rfl ?_;exact wE (k:=5) (by omega) (by omega) (by simp) HE.out (Or.inl ⟨k,HX.out,jR.out⟩)
   | false =>
    obtain ⟨m,hm,hX⟩:=HA.out.1 rfl;have HX:=aj hX;obtain ⟨m,rfl⟩:∃ m',m=m'+1:=⟨m - 1,by omega⟩;have hkey:iI s false k=some (ByteArray.empty,k):=rfl;have q2:=jR.out.q2;have HC:=aj ((HI.out c k wr jR.out hk2 (by omega)).mono fun _ _ h=>eP.uni h);clear HA hX;go_wp2_with fail;refine HC.out.mono ?_;rintro e w2 ⟨B2,t,es,A,B,C,D,rfl,hF,hS,hcase⟩;have HE2:=aj (HE.out.inner B2);have Kw:=aj (HE2.out.keep ((Below.refl _ _).alloc (Nat.le_refl _) (vC t A B C D)));have UC:=aj (Kw.out.keep ((Below.refl _ _).alloc (Nat.le_refl _) (vC t A B C D)));have hba:Below w2.heap.size w2 (w2.alloc (vC t A B C D)):=bG _ _;have HF:=aj (hF.keep hS hba);have Ze:=aj (hS.keep hba.size);have HS:=aj ((HE.out.E9 B2 hS).keep hba.size);have c3:=Kw.out.box.q3
    have HK:Hid ((∃ j',aS s n k=some (t,j')/\RL c s j' false (w2.alloc (vC t A B C D)))\/(aS s n k=none/\RB c s (w2.alloc (vC t A B C D)))):=by
     rcases hcase with ⟨j',h1,h2⟩ | ⟨h1,h2⟩
     ·exact Or.inl ⟨j',h1,h2.keep hba⟩
     ·exact Or.inr ⟨h1,h2.keep hba⟩
    clear B2 hF hS hcase hba q2 HE jR HC;go_wp2_with (at_builtin;refine wpList_append_lies _ rfl (.tmp 21) (.tmp 23) 22 rfl (w.heap.size+2) 25 iV _ 5 80 Tryz.underlying22 G8 G9 Hf Ho rfl (by omega) Lv L.length xs rfl UC.out.grow.oL ⟨w2.heap.size+1,0,none⟩ 1 1 [.int .i64 (ah t),.int .i64 (aB t),.string (aF t),.slice A (nL t) B,.slice C (nK t) D] (by rfl) rfl (by have:=World.news_of_block (cs:=#[.int .i64 (ah t),.int .i64 (aB t),.string (aF t),.slice A (nL t) B,.slice C (nK t) D]) (t:=25) (fr:=(0,0)) (heap_alloc_new (w2.alloc (vC t A B C D)) (vC t A B C D));simpa using this) (by simp [Value.oneCell']) (by omega) (by unfold maxLen;omega) (by omega) UC.out.grow.low (w2.heap.size+2) (by simp) ?_;intro g6 cap6 w6 hown6 cu bI Cz;have DI:=aj (UC.out.mO cu UC.out.grow.oL);have hc6:=DI.out.q3;have YT:=DI.out.f3);have H6:=aj (Kw.out.M9 _ HF.out Ze.out HS.out hown6 cu (bI.imp id fun e=>by simp;omega));have Gp:=aj H6.out.1;generalize hv:w2.alloc (vC t A B C D)=v2 at HK H6;rcases HK.out with ⟨j',hz,hL2⟩ | ⟨hz,hR2⟩
    ·have pW:=aj (hL2.same H6.out.2.1 H6.out.2.2);have gG:=dV n k t j' hk2 hz;have Vd:=eT s j';have Oz:=fu gG.2;have Hz:=aj hz;clear hown6 cu bI Cz DI hc6 YT HF HS Ze Kw UC c3 H6 HK hL2 hz HE2 hv;by_cases Ng:cB s (sk s j')=93
     ·have ZA:=aZ (s:=s) (i:=sk s j') (by omega);have Fb:Hid (gH n s false j false (sk s j'+1) (L++[t]) []):=⟨(fun h=>by cases h),fun _=>HX.out.trans (uV [] L hkey Hz.out Ng)⟩;have HO:=aj (wC c s j' 93 _ pW.out hs gG.2 Ng);clear Ng;go_wp2_with fail;refine HO.out.mono ?_;rintro e w7 ⟨rfl,B7,L7⟩;have Ht:=aj (Gp.out.inner B7);have Fa:=aj L7;clear B7 L7 HO Gp pW;go_wp2_with fail;go_roundg (ms s false (sk s j'+1))
      case rel=>exact ⟨true,sk s j'+1,L++[t],_,_,_,_,rfl,by simp;omega,by omega,Ht,Or.inl ⟨rfl,by omega,by omega,Fa,Fb⟩⟩
      case measure=>unfold ms;simp;omega
     ·have HO:=aj (Cg c s j' 93 _ pW.out hs gG.2 Ng);have H93:=aj Ng;clear Ng;go_wp2_with fail;refine HO.out.mono ?_;rintro e w7 ⟨rfl,B7,L7⟩;have Ht:=aj (Gp.out.inner B7);have Fa:=aj L7;clear B7 L7 HO Gp pW;by_cases sj:cB s (sk s j')=44
      ·have Zz:=aZ (s:=s) (i:=sk s j') (by omega);have Fb:Hid (gH n s false j true (sk s j'+1) (L++[t]) []):=⟨fun _=>⟨m,by omega,HX.out.trans (uU [] L hkey Hz.out sj)⟩,fun h=>by cases h⟩;have HM:=aj (sK c s (sk s j') 44 _ Fa.out hs Oz (by rw [lW];exact sj));rw [lW] at HM;clear sj;go_wp2_with fail;refine HM.out.mono ?_;rintro e w8 ⟨rfl,B8,L8⟩;have Qu:=aj (Ht.out.inner B8);have HL8:=aj L8;clear B8 L8 HM Ht Fa;go_wp2_with fail;go_roundg (ms s true (sk s j'+1))
       case rel=>exact ⟨false,sk s j'+1,L++[t],_,_,_,_,rfl,by simp;omega,by omega,Qu,Or.inl ⟨rfl,by omega,by omega,HL8,Fb⟩⟩
       case measure=>unfold ms;simp;omega
      ·have HZ:Hid (fM (aS s n) s false j=none):=by
        show _=_;rw [HX.out,uW hkey Hz.out sj H93.out];rfl
       have HM:=aj (wD c s (sk s j') 44 _ Fa.out hs Oz (by rw [lW];exact sj));clear sj;go_wp2_with fail;refine HM.out.mono ?_;rintro e w8 ⟨rfl,B8,R8⟩;have Qu:=aj (Ht.out.inner B8);have HR8:=aj R8;clear B8 R8 HM Ht Fa;go_wp2_with fail;go_roundg 0
       case rel=>exact ⟨false,k+1,L++[t],_,_,_,_,rfl,by simp;omega,by omega,Qu,Or.inr ⟨rfl,rfl,HR8,HZ⟩⟩
       case measure=>unfold ms;simp;omega
    ·have HR6:=aj (hR2.same H6.out.2.1 H6.out.2.2)
     have HZ:Hid (fM (aS s n) s false j=none):=by
      show _=_;rw [HX.out,r9 hkey hz];rfl
     have HO:=aj (uG c s ⟨#[93]⟩ _ HR6.out hs);clear hown6 cu bI Cz DI hc6 YT HF HS Ze Kw UC c3 H6 HK hR2 hz HE2 hv HX;go_wp2_with fail;refine HO.out.mono ?_;rintro e w7 ⟨rfl,B7,R7⟩;have Ht:=aj (Gp.out.inner B7);have HM:=aj (BP c s ⟨#[44]⟩ _ R7 hs);clear B7 R7 HO Gp HR6;go_wp2_with fail;refine HM.out.mono ?_;rintro e w8 ⟨rfl,B8,R8⟩;have Qu:=aj (Ht.out.inner B8);have HR8:=aj R8;clear B8 R8 HM Ht;go_wp2_with fail;go_roundg 0
     case rel=>exact ⟨false,k+1,L++[t],_,_,_,_,rfl,by simp;omega,by omega,Qu,Or.inr ⟨rfl,rfl,HR8,HZ⟩⟩
     case measure=>unfold ms;simp;omega
  ·obtain ⟨A,B,rfl⟩:=aJ HE.out.grow.oL;obtain ⟨C,D,rfl⟩:=aJ HE.out.grow.vB;have HX:Hid ((fM (aS s n) s false j).map (fun r=>(dU (5:Int) 0 ByteArray.empty r.1.2 r.1.1,r.2))=none):=by show _=_;rw [HZ.out];rfl
   obtain ⟨jb,hjb,Ro⟩:=HR.out;have q2:=Ro.q2;have HR':=aj HR.out;clear Ro HR;have r0:=HE.out.res.q0;have r1:=HE.out.res.q1;have r2:=HE.out.res.q2;have r3:=HE.out.res.q3;have r4:=HE.out.res.q4;have s0:=HE.out.res.f0;have s1:=HE.out.res.f1;have s2:=HE.out.res.f2;have s3:=HE.out.res.f3;have s4:=HE.out.res.f4;have t0:=HE.out.box.q0;have t1:=HE.out.box.q1;have t2:=HE.out.box.q2;have t3:=HE.out.box.q3;have t4:=HE.out.box.q4;go_wp2_with fail;refine bodyPost_ret (v:=.agg #[.int .i64 5,.int .i64 0,.string ⟨#[]⟩,.slice A L.length B,.slice C 0 D]) (by simp [results,Tryz.results205,go_sem, *]) rfl ?_;exact wE (k:=5) (by omega) (by omega) (by simp) HE.out (Or.inr ⟨HX.out,HR'.out⟩)
end Go.Proofs.YtknakfpciccoaaaGreatDoor
