import Derived.Test.YtknakfpciccoaabGreatDoorZS3
import Derived.Test.YtknakfpciccoaabGreatDoorZS2
import Derived.Test.YtknakfpciccoaabGreatDoorZS9
import Derived.Test.YtknakfpciccoaabGreatDoorZS20
import Derived.Test.YtknakfpciccoaabGreatDoorZS30
import Derived.Test.YtknakfpciccoaabGreatDoorZS21
import Derived.Test.YtknakfpciccoaabGreatDoorZS10
import Derived.Test.YtknakfpciccoaabGreatDoorZS23
import Derived.Test.YtknakfpciccoaabGreatDoorZS26
import Derived.Laws.MakeOwn
import Derived.Deep.DeepCutAuto
import Derived.Test.YtknakfpciccoaabGreatDoorZS25
/- The walk of the program's Compare. -/
namespace Go.Proofs.YtknakfpciccoaabGreatDoor
open Go.RowKit
def ansN (ok:Bool) (n:Int):Int:=if ok then n else 0
def ansE (ok:Bool):Int:=if ok then 0 else 5
set_option maxHeartbeats 1000000 in
set_option maxRecDepth 100000 in
theorem tCompare_any {Tb:World→Prop} (hV:ValidSaid Tb) (hL:Lies Tb) (f g:Nat) (va vb:Value) (a b:T) (w:World) (h:At w f va a) (h':At w g vb b) (hT:Tb w) :
  Calls Tryz.prog 15 #[va,vb] w fun e w'=>e=.returned (.tuple #[.int .i64 (ansN (isV a&&isV b) (cmpT f a b)),.int .i64 (ansE (isV a&&isV b))])∧Below w.heap.size w w':=by
 have HA:=hid h
 have HA':=hid h'
 have HT:=hid hT
 obtain ⟨f1,La,Ka,Lc,Kc,hf1,rfl,hf,hl,hk⟩:=h.open
 obtain ⟨g1,Ma,Na,Mc,Nc,hg1,rfl,hf',hl',hk'⟩:=h'.open
 clear h h' hf hf' hf1 hg1 hl hk hl' hk' hT
 have HB1:Hid (Below w.heap.size w ((w.alloc (.cells #[.int .i64 (kindOf a),.int .i64 (nOf a),.string (sOf a),.slice La (nL a) Lc,.slice Ka (nK a) Kc] 36)).alloc (.cells #[.int .i64 (kindOf b),.int .i64 (nOf b),.string (sOf b),.slice Ma (nL b) Mc,.slice Na (nK b) Nc] 36))):=((Below.refl _ _).alloc (Nat.le_refl _) _).alloc (by simp) _
 go_enter Tryz.func15,Tryz.ntmps15
 go_wp2_with fail
 refine (isValue_any hV hL f _ a _ (HA.out.keep HB1.out) (hL w HT.out _ _ HT.out HB1.out)).mono ?_
 rintro e w2 ⟨rfl,b2⟩
 have HB2:Hid (Below (w.heap.size+2) ((w.alloc (.cells #[.int .i64 (kindOf a),.int .i64 (nOf a),.string (sOf a),.slice La (nL a) Lc,.slice Ka (nK a) Kc] 36)).alloc (.cells #[.int .i64 (kindOf b),.int .i64 (nOf b),.string (sOf b),.slice Ma (nL b) Mc,.slice Na (nK b) Nc] 36)) w2):=b2.mono (by simp)
 obtain ⟨⟨q0,q1,q2,q3,q4⟩,⟨r0,r1,r2,r3,r4⟩,hz,hbw⟩:=box2_facts HB2.out
 have Hbw:=hid hbw
 clear b2 hbw
 cases hi:isV a with
 | false =>
  have Hi:=hid hi
  clear hi
  go_wp2_with fail
  go_ret2
  exact ⟨by rw [Hi.out];rfl,Hbw.out⟩
 | true =>
  have Hi:=hid hi
  clear hi
  go_wp2_with fail
  refine (isValue_any hV hL g _ b _ (HA'.out.keep Hbw.out) (hL w HT.out _ _ HT.out Hbw.out)).mono ?_
  rintro e w3 ⟨rfl,b3⟩
  have HB3:Hid (Below (w.heap.size+2) ((w.alloc (.cells #[.int .i64 (kindOf a),.int .i64 (nOf a),.string (sOf a),.slice La (nL a) Lc,.slice Ka (nK a) Kc] 36)).alloc (.cells #[.int .i64 (kindOf b),.int .i64 (nOf b),.string (sOf b),.slice Ma (nL b) Mc,.slice Na (nK b) Nc] 36)) w3):=HB2.out.trans (b3.mono (by omega))
  clear q0 q1 q2 q3 q4 r0 r1 r2 r3 r4 hz b3 Hbw HB2
  obtain ⟨⟨q0,q1,q2,q3,q4⟩,⟨r0,r1,r2,r3,r4⟩,hz,hbw⟩:=box2_facts HB3.out
  have Hbw:=hid hbw
  clear hbw
  cases hj:isV b with
  | false =>
   have Hj:=hid hj
   clear hj
   go_wp2_with fail
   go_ret2
   exact ⟨by rw [Hi.out,Hj.out];rfl,Hbw.out⟩
  | true =>
   have Hj:=hid hj
   clear hj
   go_wp2_with fail
   refine (compare_any f g _ _ a b _ (HA.out.keep Hbw.out) (HA'.out.keep Hbw.out) (good_okK f 12 a ((isV_iff a).1 Hi.out).1) (good_okK f 12 b ((isV_iff b).1 Hj.out).1)).mono ?_
   rintro e w4 ⟨rfl,b4⟩
   have HB4:Hid (Below w.heap.size w w4):=Hbw.out.trans (b4.mono (by omega))
   clear b4
   go_wp2_with fail
   go_ret2
   exact ⟨by rw [Hi.out,Hj.out];rfl,HB4.out⟩
end Go.Proofs.YtknakfpciccoaabGreatDoor
/- The walk of the program's Decode, in one form. -/
namespace Go.Proofs.YtknakfpciccoaabGreatDoor
open Go.RowKit
end Go.Proofs.YtknakfpciccoaabGreatDoor
/- The walk of Texts: it returns true. -/
namespace Go.Proofs.YtknakfpciccoaabGreatDoor
open Go.RowKit
end Go.Proofs.YtknakfpciccoaabGreatDoor
/- document. -/
namespace Go.Proofs.YtknakfpciccoaabGreatDoor
open Go.RowKit
def docA (id:Int) (i:Nat):ByteArray:=((⟨#[123,34,95,105,100,34,58]⟩++baL (Lib.itoa id))++⟨#[44,34,97,34,58]⟩)++vt i
def docS (id:Int) (i:Nat) (o:Option Nat):ByteArray:=(match o with | none=>docA id i | some j=>(docA id i++⟨#[44,34,99,34,58]⟩)++vt j)++⟨#[125]⟩
theorem itoa30 {n:Int} (h0:0≤n) (h1:n<30):(baL (Lib.itoa n)).size≤2:=by
 obtain ⟨k,rfl⟩:∃ k:Nat,n=(k:Int):=⟨n.toNat,by omega⟩
 have h:((List.range 30).all fun k=>decide ((baL (Lib.itoa ((k:Nat):Int))).size≤2))=true:=by kernel_rfl
 exact of_decide_eq_true (List.all_eq_true.1 h k (List.mem_range.2 (by omega)))
set_option maxHeartbeats 4000000 in
set_option maxRecDepth 100000 in
theorem document_any {Tb:World→Prop} (hI:ItoaSaid Tb) (hL:Lies Tb) (id c d:Int) (w:World) (i0:0≤id) (i1:id<30) (c0:-9223372036854775808≤c) (c1:c≤9223372036854775807) (d0:-9223372036854775808≤d) (d1:d≤9223372036854775807) (hT:Tb w) :
  Calls Tryz.prog 20 #[.int .i64 id,.int .i64 c,.int .i64 d] w fun e w'=>Below w.heap.size w w'∧∃ i o,i<36∧(∀ j,o=some j→j<36)∧e=.returned (.string (docS id i o)):=by
 have HI:=hid (hI id w (by omega) (by omega) hT)
 have HT:Hid (∀ w':World,Below w.heap.size w w'→Tb w'):=fun w' hb=>hL w hT w w' hT hb
 have HV:Hid (∀ (c:Int) (w:World),-9223372036854775808≤c→c≤9223372036854775807→Tb w→Calls Tryz.prog 32 #[.int .i64 c] w (ValPostV w)):=fun c w h0 h1 ht=>value_any' hI hL c w h0 h1 ht
 have HP:Hid (∀ w,Calls Tryz.prog 11 #[.int .i64 d,.int .i64 3] w fun e w'=>e=.returned (.int .i64 (absZ d % 3))∧w'=w):=fun w=>pick_any d 3 w d0 d1 (by omega) (by omega)
 have HQ:Hid (-9223372036854775808≤d.tdiv 3∧d.tdiv 3≤9223372036854775807):=by
  show _∧_
  have h1:=Int.tdiv_mul_add_tmod d 3
  by_cases h:0≤d
  ·rw [Int.tdiv_eq_ediv_of_nonneg h];omega
  ·have:d.tdiv 3=-((-d).tdiv 3):=by rw [Int.neg_tdiv];simp
   rw [this,Int.tdiv_eq_ediv_of_nonneg (by omega)];omega
 have hq:IntKind.i64.wrap (d.tdiv 3)=d.tdiv 3:=by rw [IntKind.wrap_i64];have:=HQ.out;omega
 have Hz:=hid (itoa30 i0 i1)
 have Hc:=hid (And.intro c0 c1)
 clear hT hI hL
 obtain ⟨a1,e1,z1,r1⟩:=cat_run ⟨#[123,34,95,105,100,34,58]⟩ (baL (Lib.itoa id)) 7 (baL (Lib.itoa id)).size rfl rfl (by have:=Hz.out;omega)
 obtain ⟨a2,e2,z2,r2⟩:=cat_run a1 ⟨#[44,34,97,34,58]⟩ a1.size 5 rfl rfl (by have:=Hz.out;omega)
 have E2:=hid (And.intro e1 e2)
 have Z2:Hid (a2.size≤14):=by show _≤_;have:=Hz.out;omega
 clear e1 e2 z1 z2 Hz
 generalize hbi:baL (Lib.itoa id)=bi at HI r1 E2
 have Hbi:=hid hbi
 clear hbi
 go_enter Tryz.func20,Tryz.ntmps20
 go_wp2_with fail
 refine HI.out.mono ?_
 rintro e w1 ⟨rfl,b1⟩
 have HB1:=hid b1
 have HV1:=hid (HV.out c w1 Hc.out.1 Hc.out.2 (HT.out _ b1))
 clear b1 HI
 go_wp2_with fail
 refine HV1.out.mono ?_
 rintro e w2 ⟨sv,⟨i,hi,rfl⟩,rfl,b2⟩
 have HB2:=hid (HB1.out.trans (b2.mono HB1.out.size))
 have Hi:=hid hi
 obtain ⟨a3,e3,z3,r3⟩:=cat_run a2 (vt i) a2.size (vt i).size rfl rfl (by have:=Z2.out;have:=vt_le hi;omega)
 have E3:Hid (a3=docA id i):=by show _=_;rw [e3,E2.out.2,E2.out.1,← Hbi.out];rfl
 have Z3:Hid (a3.size≤24):=by show _≤_;have:=Z2.out;have:=vt_le hi;omega
 clear b2 hi HV1 e3 z3
 generalize vt i=si at *
 go_wp2_with fail
 refine (HP.out w2).mono ?_
 rintro e w3 ⟨rfl,rfl⟩
 by_cases hp:0<absZ d % 3
 ·have HV2:=hid (HV.out (d.tdiv 3) w3 HQ.out.1 HQ.out.2 (HT.out _ HB2.out))
  obtain ⟨a4,e4,z4,r4⟩:=cat_run a3 ⟨#[44,34,99,34,58]⟩ a3.size 5 rfl rfl (by have:=Z3.out;omega)
  have E4:=hid e4
  have Z4:Hid (a4.size≤29):=by show _≤_;have:=Z3.out;omega
  clear e4 z4
  go_wp2_with fail
  refine HV2.out.mono ?_
  rintro e w4 ⟨sv2,⟨j,hj,rfl⟩,rfl,b4⟩
  have HB4:=hid (HB2.out.trans (b4.mono HB2.out.size))
  have Hj:=hid hj
  obtain ⟨a5,e5,z5,r5⟩:=cat_run a4 (vt j) a4.size (vt j).size rfl rfl (by have:=Z4.out;have:=vt_le hj;omega)
  obtain ⟨a6,e6,z6,r6⟩:=cat_run a5 ⟨#[125]⟩ a5.size 1 rfl rfl (by have:=Z4.out;have:=vt_le hj;omega)
  have E6:Hid (a6=docS id i (some j)):=by show _=_;rw [e6,e5,E4.out,E3.out];rfl
  clear b4 hj HV2 e5 z5 e6 z6
  generalize vt j=sj at *
  go_wp2_with fail
  go_ret
  exact ⟨HB4.out,i,some j,Hi.out,fun j' hj'=>by cases hj';exact Hj.out,by rw [E6.out];rfl⟩
 ·obtain ⟨a6,e6,z6,r6⟩:=cat_run a3 ⟨#[125]⟩ a3.size 1 rfl rfl (by have:=Z3.out;omega)
  have E6:Hid (a6=docS id i none):=by show _=_;rw [e6,E3.out];rfl
  clear e6 z6
  go_wp2_with fail
  go_ret
  exact ⟨HB2.out,i,none,Hi.out,(fun j' hj'=>by cases hj'),by rw [E6.out];rfl⟩
end Go.Proofs.YtknakfpciccoaabGreatDoor
/- The documents that the statements make, as trees. -/
namespace Go.Proofs.YtknakfpciccoaabGreatDoor
open Go.RowKit
def docT (id:Int) (i:Nat) (o:Option Nat):T:=match o with
 | none=>mkT 6 0 ByteArray.empty [nT id,tv i] [⟨#[95,105,100]⟩,⟨#[97]⟩]
 | some j=>mkT 6 0 ByteArray.empty [nT id,tv i,tv j] [⟨#[95,105,100]⟩,⟨#[97]⟩,⟨#[99]⟩]
theorem vt_print11:((List.range 36).all fun i=>decide (wrT 11 (tv i)=(vt i).data.toList))=true:=by kernel_rfl
theorem vt_wr11 {i:Nat} (h:i<36):wrT 11 (tv i)=(vt i).data.toList:=of_decide_eq_true (List.all_eq_true.1 vt_print11 i (List.mem_range.2 h))
theorem nT_wr (n:Int):wrT 11 (nT n)=Lib.itoa n:=by
 rw [wrT_leaf (by show (3:Int)≠5;decide) (by show (3:Int)≠6;decide)]
 rfl
theorem ba_list {s:ByteArray} {l:List UInt8} (h:s.data.toList=l):s=baL l:=by
 apply (data_eq_iff _ _).1
 rw [h]
 simp [baL]
theorem app_list (a b:ByteArray):(a++b).data.toList=a.data.toList++b.data.toList:=by simp
theorem qId:quoL ⟨#[95,105,100]⟩=[34,95,105,100,34]:=by kernel_rfl
theorem qA:quoL ⟨#[97]⟩=[34,97,34]:=by kernel_rfl
theorem qC:quoL ⟨#[99]⟩=[34,99,34]:=by kernel_rfl
theorem docS_wr {id:Int} {i:Nat} {o:Option Nat} (hi:i<36) (ho:∀ j,o=some j→j<36):docS id i o=baL (wrT 12 (docT id i o)):=by
 apply ba_list
 cases o with
 | none =>
  have e:wrT 12 (docT id i none)=123::((([]++([]++(quoL ⟨#[95,105,100]⟩++(58::wrT 11 (nT id)))))++([44]++(quoL ⟨#[97]⟩++(58::wrT 11 (tv i)))))++[125]):=rfl
  rw [e,vt_wr11 hi,nT_wr,qId,qA]
  unfold docS docA
  simp only [app_list]
  simp [baL]
 | some j =>
  have e:wrT 12 (docT id i (some j))=123::(((([]++([]++(quoL ⟨#[95,105,100]⟩++(58::wrT 11 (nT id)))))++([44]++(quoL ⟨#[97]⟩++(58::wrT 11 (tv i)))))++([44]++(quoL ⟨#[99]⟩++(58::wrT 11 (tv j)))))++[125]):=rfl
  rw [e,vt_wr11 hi,vt_wr11 (ho j rfl),nT_wr,qId,qA,qC]
  unfold docS docA
  simp only [app_list]
  simp [baL]
def fitB:Nat→T→Bool
 | 0,_=>false
 | f+1,t=>(decide (-9223372036854775808≤kindOf t)&&decide (kindOf t≤9223372036854775807)&&decide (-9223372036854775808≤nOf t)&&decide (nOf t≤9223372036854775807)&&decide ((sOf t).size≤140737488355328)&&decide (nL t≤1759218604442)&&decide (nK t≤8796093022208))&&((List.range (nL t)).all fun i=>fitB f (elt t i))&&((List.range (nK t)).all fun i=>decide ((nam t i).size≤140737488355328))
theorem fitB_fit:∀ (f:Nat) (t:T),fitB f t=true→FitT f t
 | 0,_,h=>by cases h
 | f+1,t,h=>by
  unfold fitB at h
  simp only [Bool.and_eq_true,decide_eq_true_eq,List.all_eq_true,List.mem_range] at h
  obtain ⟨⟨⟨⟨⟨⟨⟨⟨h1,h2⟩,h3⟩,h4⟩,h5⟩,h6⟩,h7⟩,h8⟩,h9⟩:=h
  exact ⟨⟨h1,h2,h3,h4,h5,h6,h7⟩,fun i hi=>fitB_fit f _ (h8 i hi),h9⟩
theorem tv_fitB:((List.range 36).all fun i=>fitB 3 (tv i))=true:=by kernel_rfl
theorem tv_fit {i:Nat} (h:i<36):FitT 3 (tv i):=fitB_fit 3 _ (List.all_eq_true.1 tv_fitB i (List.mem_range.2 h))
theorem tv_good11B:((List.range 36).all fun i=>(chkT 11 (tv i) 1048576).isSome)=true:=by kernel_rfl
theorem tv_good11 {i:Nat} (h:i<36):Good 11 (tv i):=by
 have h1:=List.all_eq_true.1 tv_good11B i (List.mem_range.2 h)
 rcases chk_says 11 (tv i) 1048576 (by omega) with ⟨_,h2,_⟩ | ⟨h3,_⟩
 ·exact h2
 ·rw [h3] at h1;cases h1
theorem tv_can:(List.range 36).map (fun i=>canT 11 (tv i))=(List.range 36).map tv:=by kernel_rfl
theorem tv_can11 {i:Nat} (h:i<36):canT 11 (tv i)=tv i:=by
 have:=congrArg (fun l=>l[i]?) tv_can
 simpa [h] using this
theorem nT_good (n:Int) (m:Nat):Good m (nT n):=by
 have h:leafGood (nT n):=⟨rfl,rfl,.inr (.inr (.inl ⟨rfl,noText_mk 3 n [] []⟩))⟩
 cases m with
 | zero=>exact h
 | succ m=>exact .inl h
theorem nT_fit {n:Int} (h0:-9223372036854775808≤n) (h1:n≤9223372036854775807):FitT 3 (nT n) :=
 ⟨⟨by show -9223372036854775808≤(3:Int);omega,by show (3:Int)≤9223372036854775807;omega,h0,h1,by show (0:Nat)≤_;omega,by show (0:Nat)≤_;omega,by show (0:Nat)≤_;omega⟩,fun i hi=>absurd hi (Nat.not_lt_zero i),fun i hi=>absurd hi (Nat.not_lt_zero i)⟩
theorem docT_elt {id:Int} {i:Nat} {o:Option Nat} (ho:∀ j,o=some j→j<36) (hi:i<36) {k:Nat} (hk:k<nL (docT id i o)):elt (docT id i o) k=nT id∨∃ j,j<36∧elt (docT id i o) k=tv j:=by
 cases o with
 | none =>
  have hk':k<2:=hk
  match k,hk' with
  | 0,_=>exact .inl rfl
  | 1,_=>exact .inr ⟨i,hi,rfl⟩
 | some j =>
  have hk':k<3:=hk
  match k,hk' with
  | 0,_=>exact .inl rfl
  | 1,_=>exact .inr ⟨i,hi,rfl⟩
  | 2,_=>exact .inr ⟨j,ho j rfl,rfl⟩
theorem docT_good {id:Int} {i:Nat} {o:Option Nat} (hi:i<36) (ho:∀ j,o=some j→j<36):Good 12 (docT id i o):=by
 refine .inr ⟨by cases o<;>rfl,by cases o<;>exact noText_mk _ _ _ _,fun k hk=>?_,.inr ⟨by cases o<;>rfl,by cases o<;>rfl,by cases o<;>kernel_rfl,by cases o<;>kernel_rfl⟩⟩
 rcases docT_elt ho hi hk with e | ⟨j,hj,e⟩
 ·rw [e];exact nT_good id 11
 ·rw [e];exact tv_good11 hj
theorem docT_fit {id:Int} {i:Nat} {o:Option Nat} (h0:-9223372036854775808≤id) (h1:id≤9223372036854775807) (hi:i<36) (ho:∀ j,o=some j→j<36):FitT 4 (docT id i o):=by
 have hF:Fits (docT id i o):=by
  cases o with
  | none=>exact ⟨by show (-9223372036854775808:Int)≤6;omega,by show (6:Int)≤9223372036854775807;omega,by show (-9223372036854775808:Int)≤0;omega,by show (0:Int)≤9223372036854775807;omega,by show (0:Nat)≤_;omega,by show (2:Nat)≤_;omega,by show (2:Nat)≤_;omega⟩
  | some j=>exact ⟨by show (-9223372036854775808:Int)≤6;omega,by show (6:Int)≤9223372036854775807;omega,by show (-9223372036854775808:Int)≤0;omega,by show (0:Int)≤9223372036854775807;omega,by show (0:Nat)≤_;omega,by show (3:Nat)≤_;omega,by show (3:Nat)≤_;omega⟩
 refine ⟨hF,fun k hk=>?_,fun k hk=>?_⟩
 ·rcases docT_elt ho hi hk with e | ⟨j,hj,e⟩
  ·rw [e];exact nT_fit h0 h1
  ·rw [e];exact tv_fit hj
 ·cases o with
  | none =>
   have hk':k<2:=hk
   match k,hk' with
   | 0,_=>show (3:Nat)≤_;omega
   | 1,_=>show (1:Nat)≤_;omega
  | some j =>
   have hk':k<3:=hk
   match k,hk' with
   | 0,_=>show (3:Nat)≤_;omega
   | 1,_=>show (1:Nat)≤_;omega
   | 2,_=>show (1:Nat)≤_;omega
theorem docT_can {id:Int} {i:Nat} {o:Option Nat} (hi:i<36) (ho:∀ j,o=some j→j<36):canT 12 (docT id i o)=docT id i o:=by
 have hn:canT 11 (nT id)=nT id:=rfl
 cases o with
 | none =>
  show mkT 6 0 ByteArray.empty [canT 11 (nT id),canT 11 (tv i)] _=_
  rw [hn,tv_can11 hi];rfl
 | some j =>
  show mkT 6 0 ByteArray.empty [canT 11 (nT id),canT 11 (tv i),canT 11 (tv j)] _=_
  rw [hn,tv_can11 hi,tv_can11 (ho j rfl)];rfl
theorem docS_size {id:Int} {i:Nat} {o:Option Nat} (h0:0≤id) (h1:id<30) (hi:i<36) (ho:∀ j,o=some j→j<36):(docS id i o).size≤40:=by
 have h2:=itoa30 h0 h1
 have h3:=vt_le hi
 cases o with
 | none=>unfold docS docA;simp only [ByteArray.size_append];have:(⟨#[123,34,95,105,100,34,58]⟩:ByteArray).size=7:=rfl;have:(⟨#[44,34,97,34,58]⟩:ByteArray).size=5:=rfl;have:(⟨#[125]⟩:ByteArray).size=1:=rfl;omega
 | some j=>have h4:=vt_le (ho j rfl);unfold docS docA;simp only [ByteArray.size_append];have:(⟨#[123,34,95,105,100,34,58]⟩:ByteArray).size=7:=rfl;have:(⟨#[44,34,97,34,58]⟩:ByteArray).size=5:=rfl;have:(⟨#[44,34,99,34,58]⟩:ByteArray).size=5:=rfl;have:(⟨#[125]⟩:ByteArray).size=1:=rfl;omega
theorem doc_parse {id:Int} {i:Nat} {o:Option Nat} (h0:0≤id) (h1:id<30) (hi:i<36) (ho:∀ j,o=some j→j<36):eJ (docS id i o)=0∧tJ (docS id i o)=docT id i o:=by
 have hw:=docS_wr (id:=id) hi ho
 have hz:=docS_size h0 h1 hi ho
 rw [hw,baL_size] at hz
 have hp:=parse_tree (docT_fit (id:=id) (by omega) (by omega) hi ho) (docT_good hi ho) (by omega)
 rw [docT_can hi ho] at hp
 rw [hw]
 exact hp
end Go.Proofs.YtknakfpciccoaabGreatDoor
/- What the documents of the statements are: they may be inserted; their numbers. -/
namespace Go.Proofs.YtknakfpciccoaabGreatDoor
open Go.RowKit
theorem docT_isDoc (id:Int) (i:Nat) (o:Option Nat):isDoc (docT id i o)=true:=by cases o<;>kernel_rfl
theorem docT_id (id:Int) (i:Nat) (o:Option Nat):idT (docT id i o)=nT id:=by cases o<;>kernel_rfl
theorem tv_bytesB:((List.range 36).all fun i=>decide (bytesT 11 (tv i)≤100))=true:=by kernel_rfl
theorem tv_bytes {i:Nat} (h:i<36):bytesT 11 (tv i)≤100:=of_decide_eq_true (List.all_eq_true.1 tv_bytesB i (List.mem_range.2 h))
theorem nT_bytes (n:Int):bytesT 11 (nT n)=9:=by kernel_rfl
theorem docT_bytes {id:Int} {i:Nat} {o:Option Nat} (hi:i<36) (ho:∀ j,o=some j→j<36):bytesT 12 (docT id i o)≤300:=by
 have h1:=tv_bytes hi
 have h2:=nT_bytes id
 cases o with
 | none =>
  have e:bytesT 12 (docT id i none)=5+sumK (docT id i none) 2+(((0+bytesT 11 (nT id))+bytesT 11 (tv i))):=rfl
  have k:sumK (docT id i none) 2≤50:=by
   have:sumK (docT id i none) 2=sumK (docT 0 0 none) 2:=rfl
   rw [this];decide
  omega
 | some j =>
  have h3:=tv_bytes (ho j rfl)
  have e:bytesT 12 (docT id i (some j))=5+sumK (docT id i (some j)) 3+((((0+bytesT 11 (nT id))+bytesT 11 (tv i)))+bytesT 11 (tv j)):=rfl
  have k:sumK (docT id i (some j)) 3≤50:=by
   have:sumK (docT id i (some j)) 3=sumK (docT 0 0 (some 0)) 3:=rfl
   rw [this];decide
  omega
theorem docT_isV {id:Int} {i:Nat} {o:Option Nat} (hi:i<36) (ho:∀ j,o=some j→j<36):isV (docT id i o)=true:=(isV_iff _).2 ⟨docT_good hi ho,by have:=docT_bytes (id:=id) hi ho;omega⟩
theorem docT_small {id:Int} {i:Nat} {o:Option Nat} (hi:i<36) (ho:∀ j,o=some j→j<36):tooBig (docT id i o)=false:=by
 unfold tooBig
 rw [docT_isV hi ho]
 have h1:=encT_len 12 _ (docT_good (id:=id) hi ho)
 have h2:=docT_bytes (id:=id) hi ho
 have h3:(encS true (encT 12 (docT id i o))).size=(encT 12 (docT id i o)).length:=baL_size _
 rw [h3]
 simp
 omega
theorem doc_in {id:Int} {i:Nat} {o:Option Nat} (h0:0≤id) (h1:id<30) (hi:i<36) (ho:∀ j,o=some j→j<36):inErr (docS id i o)=none:=by
 obtain ⟨h2,h3⟩:=doc_parse h0 h1 hi ho
 unfold inErr
 rw [h2,h3,docT_isDoc,docT_small hi ho]
 simp
theorem nT_cmp (a b:Int):(cmpT 16 (nT a) (nT b)==0)=(a==b):=by
 have e:cmpT 16 (nT a) (nT b)=cmpI a b:=by
  have ka:kindOf (nT a)=3:=rfl
  have kb:kindOf (nT b)=3:=rfl
  rw [cmpT,ka,kb,if_neg (by simp),if_pos (.inr rfl)]
  rfl
 rw [e]
 by_cases h1:a<b
 ·rw [cmpI_lt h1,beq_eq_false_iff_ne.2 (by omega:a≠b)];rfl
 ·by_cases h2:b<a
  ·rw [cmpI_gt h2,beq_eq_false_iff_ne.2 (by omega:a≠b)];rfl
  ·obtain rfl:a=b:=by omega
   rw [cmpI_eq (Int.le_refl _) (Int.le_refl _)];simp
theorem doc_same (a b:Int) (i:Nat) (o:Option Nat):sameId (nT a) (docT b i o)=(b==a):=by
 unfold sameId
 rw [docT_id,nT_cmp]
end Go.Proofs.YtknakfpciccoaabGreatDoor
/- quoted, path. -/
namespace Go.Proofs.YtknakfpciccoaabGreatDoor
open Go.RowKit
set_option maxHeartbeats 4000000 in
set_option maxRecDepth 100000 in
theorem quoted_any (s:ByteArray) (w:World) (hs:s.size≤1000):Calls Tryz.prog 8 #[.string s] w fun e w'=>e=.returned (.string ((⟨#[34]⟩++s)++⟨#[34]⟩))∧w'=w:=by
 obtain ⟨a1,e1,z1,r1⟩:=cat_run ⟨#[34]⟩ s 1 s.size rfl rfl (by omega)
 obtain ⟨a2,e2,z2,r2⟩:=cat_run a1 ⟨#[34]⟩ a1.size 1 rfl rfl (by omega)
 have E:Hid (a2=(⟨#[34]⟩++s)++⟨#[34]⟩):=by show _=_;rw [e2,e1]
 clear e1 e2 z1 z2
 go_enter Tryz.func8,Tryz.ntmps8
 go_wp2_with fail
 go_ret
 exact ⟨by rw [← E.out];rfl,rfl⟩
def pthL:List ByteArray:=[⟨#[97]⟩,⟨#[99]⟩,⟨#[97,46,98]⟩,⟨#[97,46,49]⟩,⟨#[95,105,100]⟩,⟨#[99,46,48]⟩]
def pth (k:Nat):ByteArray:=pthL.getD k ByteArray.empty
def pthN (c:Int):Nat:=(absZ c % 6).toNat
theorem pthN_lt (c:Int):pthN c<6:=by unfold pthN;omega
set_option maxHeartbeats 4000000 in
set_option maxRecDepth 100000 in
theorem path_any (c:Int) (w:World) (h0:-9223372036854775808≤c) (h1:c≤9223372036854775807):Calls Tryz.prog 9 #[.int .i64 c] w fun e w'=>e=.returned (.string (pth (pthN c)))∧Below w.heap.size w w':=by
 have HP:Hid (∀ w,Calls Tryz.prog 11 #[.int .i64 c,.int .i64 6] w fun e w'=>e=.returned (.int .i64 (absZ c % 6))∧w'=w):=fun w=>pick_any c 6 w h0 h1 (by omega) (by omega)
 have HN:Hid (pthN c=(absZ c % 6).toNat):=rfl
 have hb:0≤absZ c % 6∧absZ c % 6<6:=by omega
 generalize pthN c=pn at *
 obtain ⟨m,hm⟩:∃ m,absZ c % 6=m:=⟨_,rfl⟩
 rw [hm] at HP HN hb
 clear hm h0 h1
 obtain h | h | h | h | h | h:m=0∨m=1∨m=2∨m=3∨m=4∨m=5:=by omega
 all_goals
  subst h
  have hn:=HN.out
  simp at hn
  subst hn
  clear HN hb
  go_enter Tryz.func9,Tryz.ntmps9
  go_wp2_with fail
  refine (HP.out _).mono ?_
  rintro e w2 ⟨rfl,rfl⟩
  go_wp2_with fail
  go_ret
  exact ⟨rfl,(Below.refl _ _).alloc (Nat.le_refl _) _⟩
end Go.Proofs.YtknakfpciccoaabGreatDoor
/- What groups gather: sums; what replaces what. -/
namespace Go.Proofs.YtknakfpciccoaabGreatDoor
open Go.RowKit
def fits64 (n:Int):Prop:=-9223372036854775808≤n∧n≤9223372036854775807
instance (n : Int) : Decidable (fits64 n) := by unfold fits64; infer_instance
end Go.Proofs.YtknakfpciccoaabGreatDoor
/- What an entry of a group makes of what was gathered and a document: all but lists. -/
namespace Go.Proofs.YtknakfpciccoaabGreatDoor
open Go.RowKit
end Go.Proofs.YtknakfpciccoaabGreatDoor
/- The walk of an entry's add: sums. -/
namespace Go.Proofs.YtknakfpciccoaabGreatDoor
open Go.RowKit
end Go.Proofs.YtknakfpciccoaabGreatDoor
/- The walk of an entry's add: what is replaced. -/
namespace Go.Proofs.YtknakfpciccoaabGreatDoor
open Go.RowKit
end Go.Proofs.YtknakfpciccoaabGreatDoor
/- The walk of an entry's add: lists. -/
namespace Go.Proofs.YtknakfpciccoaabGreatDoor
open Go.RowKit
end Go.Proofs.YtknakfpciccoaabGreatDoor
/- A group begins. -/
namespace Go.Proofs.YtknakfpciccoaabGreatDoor
open Go.RowKit
end Go.Proofs.YtknakfpciccoaabGreatDoor
/- Which group: the walk of what is looked for. -/
namespace Go.Proofs.YtknakfpciccoaabGreatDoor
open Go.RowKit
end Go.Proofs.YtknakfpciccoaabGreatDoor
/- The groups, as they lie: what each block is for. -/
namespace Go.Proofs.YtknakfpciccoaabGreatDoor
open Go.RowKit
end Go.Proofs.YtknakfpciccoaabGreatDoor
/- A new group is laid behind the others: the worlds. -/
namespace Go.Proofs.YtknakfpciccoaabGreatDoor
open Go.RowKit
end Go.Proofs.YtknakfpciccoaabGreatDoor
/- The walk of gathered: the group that a document belongs to. -/
namespace Go.Proofs.YtknakfpciccoaabGreatDoor
open Go.RowKit
end Go.Proofs.YtknakfpciccoaabGreatDoor
/- The walk of gathered: a group that there was none of. -/
namespace Go.Proofs.YtknakfpciccoaabGreatDoor
open Go.RowKit
end Go.Proofs.YtknakfpciccoaabGreatDoor
/- The groups, behind an entry's turn. -/
namespace Go.Proofs.YtknakfpciccoaabGreatDoor
open Go.RowKit
end Go.Proofs.YtknakfpciccoaabGreatDoor
/- The walk of an entry's add, on what a group has gathered. -/
namespace Go.Proofs.YtknakfpciccoaabGreatDoor
open Go.RowKit
end Go.Proofs.YtknakfpciccoaabGreatDoor
/- The walk of a group's take. -/
namespace Go.Proofs.YtknakfpciccoaabGreatDoor
open Go.RowKit
end Go.Proofs.YtknakfpciccoaabGreatDoor
/- The groups' rows, cell by cell. -/
namespace Go.Proofs.YtknakfpciccoaabGreatDoor
open Go.RowKit
end Go.Proofs.YtknakfpciccoaabGreatDoor
/- The walk of a group's take. -/
namespace Go.Proofs.YtknakfpciccoaabGreatDoor
open Go.RowKit
end Go.Proofs.YtknakfpciccoaabGreatDoor
/- The walk of each, over what lies where the work knows it. -/
namespace Go.Proofs.YtknakfpciccoaabGreatDoor
open Go.RowKit
end Go.Proofs.YtknakfpciccoaabGreatDoor
/- The groups as documents: they lie off the stage's own box. -/
namespace Go.Proofs.YtknakfpciccoaabGreatDoor
open Go.RowKit
end Go.Proofs.YtknakfpciccoaabGreatDoor
/- The groups are handed on, one behind the other. -/
namespace Go.Proofs.YtknakfpciccoaabGreatDoor
open Go.RowKit
end Go.Proofs.YtknakfpciccoaabGreatDoor
/- How groups grow; how they begin. -/
namespace Go.Proofs.YtknakfpciccoaabGreatDoor
open Go.RowKit
end Go.Proofs.YtknakfpciccoaabGreatDoor
/- The walk of a group's run: $group is a stage. -/
namespace Go.Proofs.YtknakfpciccoaabGreatDoor
open Go.RowKit
end Go.Proofs.YtknakfpciccoaabGreatDoor
/- Small values; the values that paths lead to in the statements' documents; lists of numbers. -/
namespace Go.Proofs.YtknakfpciccoaabGreatDoor
open Go.RowKit
structure Sm (b:T):Prop where
 good:Good 11 b
 bytes:bytesT 11 b≤100
 fit:FitT 4 b
 can:canT 11 b=b
 wr:(wrT 11 b).length≤200
def smB (b:T):Bool:=(chkT 11 b 100).isSome&&fitB 4 b&&decide ((wrT 11 b).length≤200)
theorem smB_sm {b:T} (h:smB b=true) (hc:canT 11 b=b):Sm b:=by
 unfold smB at h
 simp only [Bool.and_eq_true,decide_eq_true_eq] at h
 obtain ⟨⟨h1,h2⟩,h3⟩:=h
 rcases chk_says 11 b 100 (by omega) with ⟨_,h4,h5⟩ | ⟨h4,_⟩
 ·exact ⟨h4,by omega,fitB_fit 4 b h2,hc,h3⟩
 ·rw [h4] at h1;cases h1
def stB:ByteArray:=⟨#[98]⟩
def st0:ByteArray:=⟨#[48]⟩
def st1:ByteArray:=⟨#[49]⟩
def byL:List T:=(List.range 36).map tv++((List.range 36).map (fun i=>orNull [stB] (tv i))++((List.range 36).map (fun i=>orNull [st1] (tv i))++((List.range 36).map (fun i=>orNull [st0] (tv i))++[nullT])))
set_option maxRecDepth 100000 in
theorem byL_sm:byL.all smB=true:=by kernel_rfl
set_option maxRecDepth 100000 in
theorem byL_can:byL.map (canT 11)=byL:=by kernel_rfl
theorem byL_all {b:T} (h:b ∈ byL):Sm b:=by
 refine smB_sm (List.all_eq_true.1 byL_sm b h) ?_
 obtain ⟨i,hi,rfl⟩:=List.getElem_of_mem h
 have:=congrArg (fun l=>l[i]?) byL_can
 simp only [List.getElem?_map,List.getElem?_eq_getElem hi,Option.map_some,Option.some.injEq] at this
 exact this
theorem tv_by {i:Nat} (h:i<36):tv i ∈ byL:=by
 unfold byL
 rw [List.mem_append]
 exact .inl (List.mem_map_of_mem (List.mem_range.2 h))
theorem b_by {i:Nat} (h:i<36):orNull [stB] (tv i) ∈ byL:=by
 unfold byL
 rw [List.mem_append,List.mem_append]
 exact .inr (.inl (List.mem_map.2 ⟨i,List.mem_range.2 h,rfl⟩))
theorem one_by {i:Nat} (h:i<36):orNull [st1] (tv i) ∈ byL:=by
 unfold byL
 rw [List.mem_append,List.mem_append,List.mem_append]
 exact .inr (.inr (.inl (List.mem_map.2 ⟨i,List.mem_range.2 h,rfl⟩)))
theorem zero_by {i:Nat} (h:i<36):orNull [st0] (tv i) ∈ byL:=by
 unfold byL
 rw [List.mem_append,List.mem_append,List.mem_append,List.mem_append]
 exact .inr (.inr (.inr (.inl (List.mem_map.2 ⟨i,List.mem_range.2 h,rfl⟩))))
theorem null_by:nullT ∈ byL:=by
 unfold byL
 rw [List.mem_append,List.mem_append,List.mem_append,List.mem_append]
 exact .inr (.inr (.inr (.inr (List.mem_singleton.2 rfl))))
theorem nT_sm {n:Int} (h0:-9223372036854775808≤n) (h1:n≤9223372036854775807):Sm (nT n) :=
 ⟨nT_good n 11,by rw [nT_bytes];omega,⟨(nT_fit h0 h1).1,fun i hi=>absurd hi (Nat.not_lt_zero i),fun i hi=>absurd hi (Nat.not_lt_zero i)⟩,rfl,by rw [nT_wr];have:=Lib.itoa_length_le n h0 h1;omega⟩
def stI:ByteArray:=⟨#[95,105,100]⟩
def stA:ByteArray:=⟨#[97]⟩
def stC:ByteArray:=⟨#[99]⟩
theorem from_id (r:List ByteArray) (id:Int) (i:Nat) (o:Option Nat):fromP (stI::r) (docT id i o)=fromP r (nT id):=by cases o<;>kernel_rfl
theorem from_a (r:List ByteArray) (id:Int) (i:Nat) (o:Option Nat):fromP (stA::r) (docT id i o)=fromP r (tv i):=by cases o<;>kernel_rfl
theorem from_c (r:List ByteArray) (id:Int) (i j:Nat):fromP (stC::r) (docT id i (some j))=fromP r (tv j):=by kernel_rfl
theorem from_c0 (r:List ByteArray) (id:Int) (i:Nat):fromP (stC::r) (docT id i none)=none:=by kernel_rfl
def pthP (k:Nat):List ByteArray:=[[stA],[stC],[stA,stB],[stA,st1],[stI],[stC,st0]].getD k []
theorem pth_split:(List.range 6).map (fun k=>splitP (pth k))=(List.range 6).map pthP:=by kernel_rfl
theorem pth_splits {k:Nat} (h:k<6):splitP (pth k)=pthP k:=by
 have:=congrArg (fun l=>l[k]?) pth_split
 simpa [h] using this
theorem pth_okB:((List.range 6).all fun k=>pathOk (pth k))=true:=by kernel_rfl
theorem pth_ok {k:Nat} (h:k<6):pathOk (pth k)=true:=List.all_eq_true.1 pth_okB k (List.mem_range.2 h)
theorem orNull_id (id:Int) (i:Nat) (o:Option Nat):orNull [stI] (docT id i o)=nT id:=by
 unfold orNull
 rw [from_id]
 rfl
theorem by_sm {k:Nat} (hk:k<6) {id:Int} {i:Nat} {o:Option Nat} (h0:0≤id) (h1:id<30) (hi:i<36) (ho:∀ j,o=some j→j<36):Sm (orNull (pthP k) (docT id i o)):=by
 match k,hk with
 | 0,_ =>
  show Sm (orNull [stA] (docT id i o))
  unfold orNull
  rw [from_a]
  exact byL_all (tv_by hi)
 | 1,_ =>
  show Sm (orNull [stC] (docT id i o))
  unfold orNull
  cases o with
  | none=>rw [from_c0];exact byL_all null_by
  | some j=>rw [from_c];exact byL_all (tv_by (ho j rfl))
 | 2,_ =>
  show Sm (orNull [stA,stB] (docT id i o))
  unfold orNull
  rw [from_a]
  exact byL_all (b_by hi)
 | 3,_ =>
  show Sm (orNull [stA,st1] (docT id i o))
  unfold orNull
  rw [from_a]
  exact byL_all (one_by hi)
 | 4,_ =>
  show Sm (orNull [stI] (docT id i o))
  rw [orNull_id]
  exact nT_sm (by omega) (by omega)
 | 5,_ =>
  show Sm (orNull [stC,st0] (docT id i o))
  unfold orNull
  cases o with
  | none=>rw [from_c0];exact byL_all null_by
  | some j=>rw [from_c];exact byL_all (zero_by (ho j rfl))
end Go.Proofs.YtknakfpciccoaabGreatDoor
/- What the groups of Summed are. -/
namespace Go.Proofs.YtknakfpciccoaabGreatDoor
open Go.RowKit
theorem cmp_nT (a b:Int):cmpT 16 (nT a) (nT b)=cmpI a b:=by
 have ka:kindOf (nT a)=3:=rfl
 have kb:kindOf (nT b)=3:=rfl
 rw [cmpT,ka,kb,if_neg (by simp),if_pos (.inr rfl)]
 rfl
end Go.Proofs.YtknakfpciccoaabGreatDoor
/- filled: a store with documents out of raw numbers. -/
namespace Go.Proofs.YtknakfpciccoaabGreatDoor
open Go.RowKit
def RawAt (w:World) (v:Value) (n:Nat):Prop :=
 ∃ A c,v=.slice A n c∧n≤1000000000000000∧∀ i,i<n→∃ b o z,A=some ⟨b,o,none⟩∧b<w.heap.size∧w.cell? ⟨b,o+i,none⟩=some (.int .i64 z)∧-9223372036854775808≤z∧z≤9223372036854775807
def DocsOf (l:List T):Prop:=∀ k,(h:k<l.length)→∃ i o,i<36∧(∀ j,o=some j→j<36)∧l[k]=docT (k:Int) i o
theorem DocsOf.nil:DocsOf []:=fun k h=>absurd h (Nat.not_lt_zero k)
theorem DocsOf.snoc {l:List T} (h:DocsOf l) {i:Nat} {o:Option Nat} (hi:i<36) (ho:∀ j,o=some j→j<36):DocsOf (l++[docT (l.length:Int) i o]):=by
 intro k hk
 rw [List.length_append,List.length_cons,List.length_nil] at hk
 by_cases e:k<l.length
 ·obtain ⟨a,b,c,d,e1⟩:=h k e
  exact ⟨a,b,c,d,by rw [List.getElem_append_left e];exact e1⟩
 ·obtain rfl:k=l.length:=by omega
  exact ⟨i,o,hi,ho,by rw [List.getElem_append_right (by omega)];simp⟩
theorem anyL_none {p:T→Bool} {t:T}:∀ k,(∀ i,i<k→p (elt t i)=false)→anyL p t k=false
 | 0,_=>rfl
 | k+1,h=>by
  rw [anyL,anyL_none k (fun i hi=>h i (by omega)),h k (by omega)]
  rfl
theorem DocsOf.fresh {l:List T} (h:DocsOf l) (i:Nat) (o:Option Nat):anyL (sameId (idT (docT (l.length:Int) i o))) (mkT 5 0 ByteArray.empty l []) l.length=false:=by
 refine anyL_none _ fun k hk=>?_
 have e:elt (mkT 5 0 ByteArray.empty l []) k=l[k]:=by rw [elt_mk,List.getD_eq_getElem?_getD,List.getElem?_eq_getElem hk];rfl
 obtain ⟨a,b,_,_,e1⟩:=h k hk
 rw [e,e1,docT_id,doc_same]
 simp
 omega
abbrev nX:ByteArray:=⟨#[120]⟩
abbrev nY:ByteArray:=⟨#[121]⟩
def two (l m:Option (List T)):ByteArray→Option (List T):=setS (setS (fun _=>none) nX l) nY m
theorem two_x (l m:Option (List T)):two l m nX=l:=by unfold two;rw [setS_other _ _ (by decide),setS_same]
theorem two_y (l m:Option (List T)):two l m nY=m:=by unfold two;rw [setS_same]
theorem two_none (l m:Option (List T)) {z:ByteArray} (h1:z≠nX) (h2:z≠nY):two l m z=none:=by unfold two;rw [setS_other _ _ h2,setS_other _ _ h1]
theorem two_setx (l m k:Option (List T)):setS (two l m) nX k=two k m:=by
 funext z
 unfold two
 by_cases h1:z=nX
 ·subst h1;rw [setS_same,setS_other _ _ (by decide),setS_same]
 ·rw [setS_other _ _ h1]
  by_cases h2:z=nY
  ·subst h2;rw [setS_same,setS_same]
  ·rw [setS_other _ _ h2,setS_other _ _ h1,setS_other _ _ h2,setS_other _ _ h1]
theorem two_sety (l m k:Option (List T)):setS (two l m) nY k=two l k:=by
 funext z
 unfold two
 by_cases h2:z=nY
 ·subst h2;rw [setS_same,setS_same]
 ·rw [setS_other _ _ h2,setS_other _ _ h2,setS_other _ _ h2]
theorem one_two (l:Option (List T)):setS (setS (fun _=>none) nX l) nY (some [])=two l (some []):=rfl
abbrev allS:ByteArray:=⟨#[123,125]⟩
theorem allS_e:eJ allS=0:=by kernel_rfl
theorem allS_t:tJ allS=mkT 6 0 ByteArray.empty [] []:=by kernel_rfl
theorem allS_ok:okFil 16 (tJ allS)=true:=by rw [allS_t];kernel_rfl
theorem allS_ev (d:T):evF 16 (tJ allS) d=true:=by rw [allS_t];rfl
theorem all_filter (l:List T):l.filter (evF 16 (tJ allS))=l:=by
 rw [List.filter_eq_self]
 exact fun a _=>allS_ev a
end Go.Proofs.YtknakfpciccoaabGreatDoor
/- What sorts by the statements' paths: the documents' keys, as numbers. -/
namespace Go.Proofs.YtknakfpciccoaabGreatDoor
open Go.RowKit
theorem by_mem {k:Nat} (hk:k<6) (h4:k≠4) {id:Int} {i:Nat} {o:Option Nat} (hi:i<36) (ho:∀ j,o=some j→j<36):orNull (pthP k) (docT id i o) ∈ byL:=by
 match k,hk with
 | 0,_ =>
  show orNull [stA] (docT id i o) ∈ _
  unfold orNull
  rw [from_a]
  exact tv_by hi
 | 1,_ =>
  show orNull [stC] (docT id i o) ∈ _
  unfold orNull
  cases o with
  | none=>rw [from_c0];exact null_by
  | some j=>rw [from_c];exact tv_by (ho j rfl)
 | 2,_ =>
  show orNull [stA,stB] (docT id i o) ∈ _
  unfold orNull
  rw [from_a]
  exact b_by hi
 | 3,_ =>
  show orNull [stA,st1] (docT id i o) ∈ _
  unfold orNull
  rw [from_a]
  exact one_by hi
 | 4,_=>exact absurd rfl h4
 | 5,_ =>
  show orNull [stC,st0] (docT id i o) ∈ _
  unfold orNull
  cases o with
  | none=>rw [from_c0];exact null_by
  | some j=>rw [from_c];exact zero_by (ho j rfl)
def rkOf (b:T):Nat:=((List.range 36).find? fun j=>cmpT 16 b (tv j)==0).getD 36
set_option maxRecDepth 100000 in
theorem byL_tv:byL.map (fun b=>tv (rkOf b))=byL:=by kernel_rfl
set_option maxRecDepth 100000 in
theorem byL_rk:(byL.all fun b=>decide (rkOf b<36))=true:=by kernel_rfl
theorem by_tv {b:T} (h:b ∈ byL):b=tv (rkOf b)∧rkOf b<36:=by
 refine ⟨?_,of_decide_eq_true (List.all_eq_true.1 byL_rk b h)⟩
 obtain ⟨i,hi,rfl⟩:=List.getElem_of_mem h
 have:=congrArg (fun l=>l[i]?) byL_tv
 simp only [List.getElem?_map,List.getElem?_eq_getElem hi,Option.map_some,Option.some.injEq] at this
 exact this.symm
set_option maxRecDepth 100000 in
theorem tv_cmp16:((List.range 36).all fun i=>(List.range 36).all fun j=>decide (cmpT 16 (tv i) (tv j)=cmpI i j))=true:=by kernel_rfl
set_option maxRecDepth 100000 in
theorem tv_cmp12:((List.range 36).all fun i=>(List.range 36).all fun j=>decide (cmpT 12 (tv i) (tv j)=cmpI i j))=true:=by kernel_rfl
theorem tv_two {i j:Nat} (hi:i<36) (hj:j<36):cmpT 16 (tv i) (tv j)=cmpI i j∧cmpT 12 (tv i) (tv j)=cmpI i j :=
 ⟨of_decide_eq_true (List.all_eq_true.1 (List.all_eq_true.1 tv_cmp16 i (List.mem_range.2 hi)) j (List.mem_range.2 hj)),of_decide_eq_true (List.all_eq_true.1 (List.all_eq_true.1 tv_cmp12 i (List.mem_range.2 hi)) j (List.mem_range.2 hj))⟩
theorem cmp_nT12 (a b:Int):cmpT 12 (nT a) (nT b)=cmpI a b:=by
 have ka:kindOf (nT a)=3:=rfl
 have kb:kindOf (nT b)=3:=rfl
 rw [cmpT,ka,kb,if_neg (by simp),if_pos (.inr rfl)]
 rfl
def IsDoc (d:T):Prop:=∃ (id:Int) (i:Nat) (o:Option Nat),0≤id∧id<30∧i<36∧(∀ j,o=some j→j<36)∧d=docT id i o
def idD (d:T):Int:=nOf (elt d 0)
theorem idD_doc (id:Int) (i:Nat) (o:Option Nat):idD (docT id i o)=id:=by cases o<;>rfl
def keyR (k:Nat) (d:T):Int:=if k=4 then nOf (orNull (pthP k) d) else rkOf (orNull (pthP k) d)
theorem key_cmp {k:Nat} (hk:k<6) {x y:T} (hx:IsDoc x) (hy:IsDoc y):cmpT 16 (orNull (pthP k) x) (orNull (pthP k) y)=cmpI (keyR k x) (keyR k y)∧cmpT 12 (orNull (pthP k) x) (orNull (pthP k) y)=cmpI (keyR k x) (keyR k y):=by
 obtain ⟨id,i,o,h1,h2,h3,h4,rfl⟩:=hx
 obtain ⟨id',i',o',h1',h2',h3',h4',rfl⟩:=hy
 unfold keyR
 by_cases e:k=4
 ·subst e
  rw [if_pos rfl,if_pos rfl]
  have e1:orNull (pthP 4) (docT id i o)=nT id:=orNull_id id i o
  have e2:orNull (pthP 4) (docT id' i' o')=nT id':=orNull_id id' i' o'
  rw [e1,e2]
  exact ⟨cmp_nT id id',cmp_nT12 id id'⟩
 ·rw [if_neg e,if_neg e]
  obtain ⟨e1,l1⟩:=by_tv (by_mem hk e h3 h4 (id:=id))
  obtain ⟨e2,l2⟩:=by_tv (by_mem hk e h3' h4' (id:=id'))
  have:=tv_two l1 l2
  rw [← e1,← e2] at this
  exact this
theorem cmpI_sgn (a b:Int):(cmpI a b<0 ↔ a<b)∧(cmpI a b=0 ↔ a=b):=by
 unfold cmpI
 constructor
 ·split
  ·omega
  ·split<;>omega
 ·split
  ·omega
  ·split<;>omega
def ltD (k:Nat) (x y:T):Prop:=keyR k x<keyR k y∨(keyR k x=keyR k y∧idD x<idD y)
theorem ord_docs {k:Nat} (hk:k<6):OrdC (cmpO [(pthP k,1)]) IsDoc (fun x y=>idD x<idD y) (ltD k):=by
 have hc:∀ x y,IsDoc x→IsDoc y→cmpO [(pthP k,1)] x y=cmpI (keyR k x) (keyR k y):=fun x y hx hy=>by
  have h:=(key_cmp hk hx hy).1
  show (if cmpT 16 (orNull (pthP k) x) (orNull (pthP k) y)=0 then 0 else cmpT 16 (orNull (pthP k) x) (orNull (pthP k) y)*1)=_
  rw [h]
  split<;>omega
 refine ⟨fun x y hx hy hb=>?_,fun x y hx hy hb hn=>?_,fun x y z _ _ _ h1 h2=>?_⟩
 ·rw [hc x y hx hy,(cmpI_sgn _ _).1]
  unfold ltD
  omega
 ·unfold ltD at hn ⊢
  omega
 ·unfold ltD at h1 h2 ⊢
  omega
theorem docs_is {l:List T} (h:DocsOf l) (hl:l.length≤30):(∀ d ∈ l,IsDoc d)∧l.Pairwise (fun x y=>idD x<idD y):=by
 constructor
 ·intro d hd
  obtain ⟨k,hk,rfl⟩:=List.mem_iff_getElem.mp hd
  obtain ⟨i,o,h1,h2,h3⟩:=h k hk
  exact ⟨k,i,o,by omega,by omega,h1,h2,h3⟩
 ·refine List.pairwise_iff_getElem.mpr fun a b ha hb hab=>?_
  obtain ⟨i,o,_,_,h3⟩:=h a ha
  obtain ⟨i',o',_,_,h3'⟩:=h b hb
  rw [h3,h3',idD_doc,idD_doc]
  omega
theorem sorted_docs {k:Nat} (hk:k<6) {l:List T} (h:DocsOf l) (hl:l.length≤30):(sortL (cmpO [(pthP k,1)]) l.length l).length=l.length∧(∀ d ∈ sortL (cmpO [(pthP k,1)]) l.length l,IsDoc d)∧(sortL (cmpO [(pthP k,1)]) l.length l).Pairwise (ltD k):=by
 obtain ⟨h1,h2⟩:=docs_is h hl
 obtain ⟨p,o⟩:=sortL_srt (ord_docs hk) l.length l rfl (by omega) h1 h2
 exact ⟨p.length_eq,fun d hd=>h1 d (p.mem_iff.mp hd),o⟩
end Go.Proofs.YtknakfpciccoaabGreatDoor
/- value: one text for each number, in whatever world. -/
namespace Go.Proofs.YtknakfpciccoaabGreatDoor
open Go.RowKit
end Go.Proofs.YtknakfpciccoaabGreatDoor
/- test of the statements. -/
namespace Go.Proofs.YtknakfpciccoaabGreatDoor
open Go.RowKit
end Go.Proofs.YtknakfpciccoaabGreatDoor
/- test of the statements: the other kinds. -/
namespace Go.Proofs.YtknakfpciccoaabGreatDoor
open Go.RowKit
end Go.Proofs.YtknakfpciccoaabGreatDoor
/- Texts that are what is printed of a tree: how they are put together. -/
namespace Go.Proofs.YtknakfpciccoaabGreatDoor
open Go.RowKit
structure Rep (f:Nat) (t:T) (s:ByteArray) (n:Nat):Prop where
 wr:s.data.toList=wrT f t
 fit:FitT (f+1) t
 good:Good f t
 can:canT f t=t
 size:s.size≤n
theorem Rep.parse {t:T} {s:ByteArray} {n:Nat} (h:Rep 12 t s n) (hn:n≤4000):eJ s=0∧tJ s=t:=by
 have e:=ba_list h.wr
 have hz:=h.size
 have h1:s.size=(wrT 12 t).length:=by rw [← h.wr];rfl
 have hp:=parse_tree h.fit h.good (by omega)
 rw [h.can] at hp
 rw [e]
 exact hp
theorem Rep.le {f:Nat} {t:T} {s:ByteArray} {n m:Nat} (h:Rep f t s n) (hm:n≤m):Rep f t s m:=⟨h.wr,h.fit,h.good,h.can,Nat.le_trans h.size hm⟩
theorem fits_small {k:Int} (h0:0≤k) (h1:k≤6) (l:List T) (ks:List ByteArray) (hl:l.length≤100) (hk:ks.length≤100):Fits (mkT k 0 ByteArray.empty l ks) :=
 ⟨by rw [kindOf_mk];omega,by rw [kindOf_mk];omega,by rw [nOf_mk];omega,by rw [nOf_mk];omega,by rw [sOf_mk];show (0:Nat)≤_;omega,by rw [nL_mk];omega,by rw [nK_mk];omega⟩
structure Pln (k:ByteArray):Prop where
 quo:quoL k=34::(k.data.toList++[34])
 ok:okS k=true
 size:k.size≤100
theorem Rep.obj {f:Nat} {t:T} {s:ByteArray} {n:Nat} (h:Rep f t s n) {k:ByteArray} (hk:Pln k) {s':ByteArray} (hs:s'.data.toList=123::34::(k.data.toList++(34::58::(s.data.toList++[125])))):Rep (f+1) (mkT 6 0 ByteArray.empty [t] [k]) s' (n+k.size+5):=by
 have e:wrT (f+1) (mkT 6 0 ByteArray.empty [t] [k])=123::(([]++([]++(quoL k++(58::wrT f t))))++[125]):=rfl
 refine ⟨?_,⟨fits_small (by omega) (by omega) _ _ (by simp) (by simp),fun i hi=>?_,fun i hi=>?_⟩,.inr ⟨rfl,noText_mk _ _ _ _,fun i hi=>?_,.inr ⟨rfl,rfl,?_,rfl⟩⟩,?_,?_⟩
 ·rw [e,hs,hk.quo,h.wr]
  simp
 ·obtain rfl:i=0:=by rw [nL_mk] at hi;simpa using hi
  exact h.fit
 ·obtain rfl:i=0:=by rw [nK_mk] at hi;simpa using hi
  have:=hk.size
  show k.size≤_
  omega
 ·obtain rfl:i=0:=by rw [nL_mk] at hi;simpa using hi
  exact h.good
 ·show (true&&(okS k&&decide (k.size≤4000)))=true
  have:=hk.size
  rw [hk.ok,decide_eq_true (by omega)]
  rfl
 ·show mkT 6 0 ByteArray.empty [canT f t] [k]=_
  rw [h.can]
 ·have h1:s'.size=s'.data.toList.length:=rfl
  have h2:s.size=s.data.toList.length:=rfl
  have h3:k.size=k.data.toList.length:=rfl
  have h4:=h.size
  rw [h1,hs]
  simp only [List.length_cons,List.length_append,List.length_nil]
  omega
theorem nT_rep {n:Int} (h0:0≤n) (h1:n<30) (f:Nat):Rep (f+1) (nT n) (baL (Lib.itoa n)) 10:=by
 refine ⟨?_,⟨⟨by show -9223372036854775808≤(3:Int);omega,by show (3:Int)≤9223372036854775807;omega,by show -9223372036854775808≤n;omega,by show n≤9223372036854775807;omega,by show (0:Nat)≤_;omega,by show (0:Nat)≤_;omega,by show (0:Nat)≤_;omega⟩,fun i hi=>absurd hi (Nat.not_lt_zero i),fun i hi=>absurd hi (Nat.not_lt_zero i)⟩,nT_good n _,rfl,by have:=itoa30 h0 h1;omega⟩
 rw [wrT_leaf (by show (3:Int)≠5;decide) (by show (3:Int)≠6;decide)]
 show (baL (Lib.itoa n)).data.toList=Lib.itoa n
 simp [baL]
end Go.Proofs.YtknakfpciccoaabGreatDoor
/- The tests of the statements, as trees. -/
namespace Go.Proofs.YtknakfpciccoaabGreatDoor
open Go.RowKit
theorem Pln.mk' {k:ByteArray} (h:(decide (quoL k=34::(k.data.toList++[34]))&&okS k&&decide (k.size≤100))=true):Pln k:=by
 simp only [Bool.and_eq_true,decide_eq_true_eq] at h
 exact ⟨h.1.1,h.1.2,h.2⟩
end Go.Proofs.YtknakfpciccoaabGreatDoor
/- The filters of the statements, as trees: they are filters; what they say. -/
namespace Go.Proofs.YtknakfpciccoaabGreatDoor
open Go.RowKit
end Go.Proofs.YtknakfpciccoaabGreatDoor
