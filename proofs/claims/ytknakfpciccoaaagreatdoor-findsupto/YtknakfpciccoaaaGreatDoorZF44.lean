import Derived.Test.YtknakfpciccoaaaGreatDoorZF43
/- The walks of plays and Finds. -/
set_option maxHeartbeats 8000000
set_option maxRecDepth 100000
namespace Go.Proofs.YtknakfpciccoaaaGreatDoor
open Go.RowKit
def YK (w:World) (v:Value) (ops:List (Int×Bool×ByteArray×ByteArray)):Prop :=
 ∃ A c,v=.slice A ops.length c/\ops.length<=2000000/\∀ i,(h:i<ops.length)->∃ b o,A=some ⟨b,o,none⟩/\b<w.heap.size/\w.cell? ⟨b,o+i*4,none⟩=some (.int .i64 ops[i].1)/\w.cell? ⟨b,o+i*4+1,none⟩=some (.bool ops[i].2.1)/\w.cell? ⟨b,o+i*4+2,none⟩=some (.string ops[i].2.2.1)/\w.cell? ⟨b,o+i*4+3,none⟩=some (.string ops[i].2.2.2)/\ops[i].2.2.1.size<=140737488355328/\ops[i].2.2.2.size<=140737488355328
theorem Qo {Tb:World->Prop} (hA:dS Tb) (v:Value) (ops:List (Int×Bool×ByteArray×ByteArray)) (w:World) (hs:YK w v ops) (hT:∀ w',Below w.heap.size w w'->Tb w') :
  Calls Tryz.prog 20 #[v,.int .i64 5] w fun e w'=>e=.returned (.bool true)/\Below w.heap.size w w':=by
 obtain ⟨A,c,rfl,hn,Hs⟩:=hs;have HS:=aj Hs;have HL:=aj (Qn hA w hT);have HA:=aj hA;have HT:=aj hT;have HN:=aj (fun w=>NQ w);have HNr:=aj (fun w=>Tz w);obtain ⟨n,hl⟩:∃ n,ops.length=n:=⟨_,rfl⟩;have Hl:=aj hl;rw [hl] at hn ⊢;clear Hs hA hT hl;go_in;go_wp2_with fail;refine HL.out.mono ?_;rintro e w1 ⟨rfl,b1⟩;have HB1:=aj b1;have HP0:=aj (PI.start (a:=fun _=>0) b1);clear b1 HL;go_wp2_with fail;go_loopg [7] 2 (fun gh z wr=>∃ (k:Nat) (O a:Nat->Nat),gh=2 - k/\k<=2/\z=.int .i64 k/\Hid (PI O w wr w1.heap.size a k k))
 case atStart=>exact ⟨0,_,_,rfl,Nat.zero_le _,rfl,HP0⟩
 case round =>
  obtain ⟨k,O,a,rfl,hk,rfl,HP⟩:=hrel;by_cases hlt:k<2
  ·have hpl:w1.heap.size<wr.heap.size:=HP.out.pl
   have HPx:Hid (∃ O' a',PI O' w ((((wr.setCell ⟨w1.heap.size,k,none⟩ (.pointer (some ⟨wr.heap.size+1,0,none⟩))).alloc (.map #[] 0)).alloc (.cells #[.map (some wr.heap.size)] 102)).drew) w1.heap.size a' (k+1) k):=by
    have h:∃ O' a',PI O' w (((wr.alloc (.map #[] 0)).alloc (.cells #[.map (some wr.heap.size)] 102)).drew.setCell ⟨w1.heap.size,k,none⟩ (.pointer (some ⟨wr.heap.size+1,0,none⟩))) w1.heap.size a' (k+1) k:=(HP.out.keep (ak wr)).x hlt (Nat.le_refl _);rw [World.setCell_drew,World.setCell_alloc_past _ _ _ _ (by simp;omega),World.setCell_alloc_past _ _ _ _ hpl] at h;exact h
   have HNw:=aj (HN.out wr.drew);have hbb:Below wr.heap.size wr (((wr.alloc (.map #[] 0)).alloc (.cells #[.map (some wr.heap.size)] 102)).drew):=(iY _ _ _).drew;obtain ⟨u0,q0⟩:=(HP.out.keep hbb).cs k (by omega);have f0:=(HP.out.keep hbb).fr k;clear hbb;rcases (show k=0\/k=1 by omega) with rfl | rfl
   ·go_wp2_with fail;go_region_law (go_simp;go_wp2_with (go_at_call 49;refine HNw.out.mono ?_;rintro e w2 ⟨rfl,rfl⟩));obtain ⟨O1,a1,hP1⟩:=HPx.out;have Uw:=aj hP1;have r0:=hP1.cx 0 (by omega);clear hP1 HPx q0 f0;generalize (((wr.setCell ⟨w1.heap.size,0,none⟩ (.pointer (some ⟨wr.heap.size+1,0,none⟩))).alloc (.map #[] 0)).alloc (.cells #[.map (some wr.heap.size)] 102)).drew=X at Uw r0 ⊢;have hpX:w1.heap.size<X.heap.size:=Uw.out.pl
    have HPy:Hid (∃ O' a',PI O' w (((X.setCell ⟨w1.heap.size,2,none⟩ (.pointer (some ⟨X.heap.size,0,none⟩))).alloc (.cells #[.slice none 0 0] 130)).drew) w1.heap.size a' (1) (1)):=by
     have h:∃ O' a',PI O' w ((X.alloc (.cells #[.slice none 0 0] 130)).drew.setCell ⟨w1.heap.size,2,none⟩ (.pointer (some ⟨X.heap.size,0,none⟩))) w1.heap.size a' (1) (1):=(Uw.out.keep (ak X)).s (by omega) (by omega);rw [World.setCell_drew,World.setCell_alloc_past _ _ _ _ hpX] at h;exact h
    have HNz:=aj (HNr.out X.drew);have hbb:Below X.heap.size X ((X.alloc (.cells #[.slice none 0 0] 130)).drew):=(bJ X _).drew;obtain ⟨u1,q1⟩:=(Uw.out.keep hbb).cs 2 (by omega);have f1:=(Uw.out.keep hbb).fr 2;clear hbb;go_wp2_with fail;go_region_law (go_simp;go_wp2_with (go_at_call 50;refine HNz.out.mono ?_;rintro e w3 ⟨rfl,rfl⟩));obtain ⟨O2,a2,hP2⟩:=HPy.out;have HP2:=aj hP2;have r1:=hP2.cx 0 (by omega);clear hP2 HPy q1 f1;go_wp2_with fail;go_roundg (2 - (1))
    case rel=>exact ⟨1,_,_,rfl,by omega,by go_num,HP2⟩
    case measure=>omega
   ·go_wp2_with fail;go_region_law (go_simp;go_wp2_with (go_at_call 49;refine HNw.out.mono ?_;rintro e w2 ⟨rfl,rfl⟩));obtain ⟨O1,a1,hP1⟩:=HPx.out;have Uw:=aj hP1;have r0:=hP1.cx 1 (by omega);clear hP1 HPx q0 f0;generalize (((wr.setCell ⟨w1.heap.size,1,none⟩ (.pointer (some ⟨wr.heap.size+1,0,none⟩))).alloc (.map #[] 0)).alloc (.cells #[.map (some wr.heap.size)] 102)).drew=X at Uw r0 ⊢;have hpX:w1.heap.size<X.heap.size:=Uw.out.pl
    have HPy:Hid (∃ O' a',PI O' w (((X.setCell ⟨w1.heap.size,3,none⟩ (.pointer (some ⟨X.heap.size,0,none⟩))).alloc (.cells #[.slice none 0 0] 130)).drew) w1.heap.size a' (2) (2)):=by
     have h:∃ O' a',PI O' w ((X.alloc (.cells #[.slice none 0 0] 130)).drew.setCell ⟨w1.heap.size,3,none⟩ (.pointer (some ⟨X.heap.size,0,none⟩))) w1.heap.size a' (2) (2):=(Uw.out.keep (ak X)).s (by omega) (by omega);rw [World.setCell_drew,World.setCell_alloc_past _ _ _ _ hpX] at h;exact h
    have HNz:=aj (HNr.out X.drew);have hbb:Below X.heap.size X ((X.alloc (.cells #[.slice none 0 0] 130)).drew):=(bJ X _).drew;obtain ⟨u1,q1⟩:=(Uw.out.keep hbb).cs 3 (by omega);have f1:=(Uw.out.keep hbb).fr 3;clear hbb;go_wp2_with fail;go_region_law (go_simp;go_wp2_with (go_at_call 50;refine HNz.out.mono ?_;rintro e w3 ⟨rfl,rfl⟩));obtain ⟨O2,a2,hP2⟩:=HPy.out;have HP2:=aj hP2;have r1:=hP2.cx 1 (by omega);clear hP2 HPy q1 f1;go_wp2_with fail;go_roundg (2 - (2))
    case rel=>exact ⟨2,_,_,rfl,by omega,by go_num,HP2⟩
    case measure=>omega
  ·obtain rfl:k=2:=by omega
   have x1:¬ ((2:Nat):Int)<2:=by omega
   have HW0:=aj HP.out.woi
   rename World=>wA
   clear hlt HP;go_wp2_with fail;go_loopg [8] n (fun gh z wr=>∃ (i:Nat) (O':Nat->Nat) (lv:Value) (R:List (Value×Nat)) (S:Nat->fH),gh=n - i/\i<=n/\z=.int .i64 i/\Hid (pF O' w wr w1.heap.size a lv R S S)/\Hid ((∀ i,i<2->uM (S i))/\R.length % 4=0/\R.length<=4*i))
   case atStart=>exact ⟨0,_,_,_,_,rfl,Nat.zero_le _,rfl,HW0,⟨fun _ _=>uM.nil,rfl,Nat.le_refl _⟩⟩
   case round =>
    obtain ⟨i,O',lv,R,S,rfl,hi,rfl,HW,HO⟩:=hrel;by_cases hlt:i<n
    ·have hil:i<ops.length:=by rw [Hl.out];exact hlt
     obtain ⟨b,o,rfl,hbl,p0,p1,p2,p3,s1,s2⟩:=HS.out i hil;generalize ops[i]=op at p0 p1 p2 p3 s1 s2;obtain ⟨kd,ot,nm,tx⟩:=op;dsimp only at p0 p1 p2 p3 s1 s2;have g0:=(HW.out.low.cell (p:=⟨b,o+i*4,none⟩) hbl).trans p0;have g1:=(HW.out.low.cell (p:=⟨b,o+i*4+1,none⟩) hbl).trans p1;have g2:=(HW.out.low.cell (p:=⟨b,o+i*4+2,none⟩) hbl).trans p2;have g3:=(HW.out.low.cell (p:=⟨b,o+i*4+3,none⟩) hbl).trans p3;have y1:(i:Int)<(n:Int):=by omega
     clear p0 p1 p2 p3 hbl hil hlt;by_cases h5:5<kd
     ·have VP:=aj (show (∀ i,i<2->uM (S i))/\R.length % 4=0/\R.length<=4*(i+1) from ⟨HO.out.1,HO.out.2.1,by have:=HO.out.2.2;omega⟩);go_wp2_with fail;go_roundg (n - (i+1))
      case rel=>exact ⟨i+1,_,_,_,_,rfl,by omega,by go_num,HW,VP⟩
      case measure=>omega
     ·have zJ:=aj (Ut HA.out HW.out HO.out.1 HO.out.2.1 (by have:=HO.out.2.2;omega) HT.out kd ot nm tx (by omega) s1 s2);clear s1 s2;go_wp2_with fail;refine zJ.out.mono ?_;rintro e w2 ⟨rfl,O2,lv2,R2,S2,hW2,hok2,hr2,hl2⟩;have HW2:=aj hW2;have VP:=aj (show (∀ i,i<2->uM (S2 i))/\R2.length % 4=0/\R2.length<=4*(i+1) from ⟨hok2,hr2,by have:=HO.out.2.2;omega⟩);have jR:=aj (Qk hW2.ls (by have:=VP.out.2.2;omega));clear hW2 hok2 hr2 hl2 zJ g0 g1 g2 g3;go_wp2_with fail;refine jR.out.mono ?_;rintro e w3 ⟨rfl,b3⟩;have HW3:=aj (HW2.out.keep b3);clear b3 jR;go_wp2_with fail;go_roundg (n - (i+1))
      case rel=>exact ⟨i+1,_,_,_,_,rfl,by omega,by go_num,HW3,VP⟩
      case measure=>omega
    ·obtain rfl:i=n:=by omega
     have y1:¬ (i:Int)<(i:Int):=by omega
     clear hlt;go_wp2_with fail;go_ret;exact ⟨rfl,HW.out.low⟩
theorem Qp {Tb:World->Prop} (hA:dS Tb) (v:Value) (ops:List (Int×Bool×ByteArray×ByteArray)) (w:World) (hs:YK w v ops) (hT:∀ w',Below w.heap.size w w'->Tb w') :
  Calls Tryz.prog 5 #[v] w fun e w'=>e=.returned (.bool true)/\Below w.heap.size w w':=by
 have HP:=aj (Qo hA v ops w hs hT);obtain ⟨A,c,rfl,_,_⟩:=hs;clear hA hT;go_in;go_wp2_with fail;refine HP.out.mono ?_;rintro e w1 ⟨rfl,b1⟩;have HB:=aj b1;clear b1 HP;go_wp2_with fail;go_ret;exact ⟨rfl,HB.out⟩
end Go.Proofs.YtknakfpciccoaaaGreatDoor
