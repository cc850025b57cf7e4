import Derived.Test.YtknakfpciccoaabGreatDoorZS20
import Derived.Test.YtknakfpciccoaabGreatDoorZS21
import Derived.Deep.RegionLaw
import Derived.Test.YtknakfpciccoaabGreatDoorZS15
/- idOf, isDocument, IsTooBig. -/
namespace Go.Proofs.YtknakfpciccoaabGreatDoor
open Go.RowKit
def idS:ByteArray:=⟨#[95,105,100]⟩
def idP (t:T):Option Nat:=idxL idS (kOf t)
set_option maxHeartbeats 4000000 in
set_option maxRecDepth 100000 in
theorem idOf_any (f:Nat) (v:Value) (t:T) (k:Nat) (w:World) (h:At w f v t) (hk:idP t=some k) (hlt:k<nL t) :
  Calls Tryz.prog 61 #[v] w fun e w'=>Below w.heap.size w w'∧∃ g A B C D,f=g+1∧e=.returned (.agg #[.int .i64 (kindOf (elt t k)),.int .i64 (nOf (elt t k)),.string (sOf (elt t k)),.slice A (nL (elt t k)) B,.slice C (nK (elt t k)) D])∧At w' g (.agg #[.int .i64 (kindOf (elt t k)),.int .i64 (nOf (elt t k)),.string (sOf (elt t k)),.slice A (nL (elt t k)) B,.slice C (nK (elt t k)) D]) (elt t k):=by
 obtain ⟨g,La,Ka,Lc,Kc,rfl,rfl,hf,hl,hkk⟩:=h.open
 have HB1:Hid (Below w.heap.size w ((w.alloc (.cells #[.int .i64 (kindOf t),.int .i64 (nOf t),.string (sOf t),.slice La (nL t) Lc,.slice Ka (nK t) Kc] 36)).alloc (.cells #[.int .i64 0,.int .i64 0,.string ⟨#[]⟩,.slice none 0 0,.slice none 0 0] 36))):=((Below.refl _ _).alloc (Nat.le_refl _) _).alloc (by simp) _
 have HS:=hid ((names_strs (Kc:=Kc) hkk.out hf.m1).keep HB1.out.drew)
 obtain ⟨bb,oo,A,B,C,D,rfl,hbl,p0,p1,p2,p3,p4,Ha⟩:=hl.out.shape HB1.out.drew k hlt
 have HI:Hid (∀ w':World,StrsAt w' (.slice Ka (nK t) Kc) (kOf t)→Calls Tryz.prog 91 #[.slice Ka (nK t) Kc,.string ⟨#[95,105,100]⟩] w' fun e w2=>e=.returned (.int .i64 (k:Int))∧w2=w'):=fun w' hs=>(index_any _ _ idS w' hs).mono fun e w2 hh=>⟨by rw [hh.1];show Ending.returned (.int .i64 (idxI (idP t)))=_;rw [hk];rfl,hh.2⟩
 have hl1:=hf.l1
 clear h hf hl hkk hk
 go_enter Tryz.func61,Tryz.ntmps61
 go_wp2_with fail
 go_region_law (go_simp;go_wp2_with (go_at_call 91;refine (HI.out _ HS.out).mono ?_;rintro e w2 ⟨rfl,rfl⟩))
 all_goals
  go_wp2_with fail
  refine bodyPost_ret (v:=.agg #[.int .i64 (kindOf (elt t k)),.int .i64 (nOf (elt t k)),.string (sOf (elt t k)),.slice A (nL (elt t k)) B,.slice C (nK (elt t k)) D]) (by simp [results,Tryz.results61,go_sem, *]) rfl ?_
  have hb:Below w.heap.size w (((w.alloc (.cells #[.int .i64 (kindOf t),.int .i64 (nOf t),.string (sOf t),.slice (some ⟨bb,oo,none⟩) (nL t) Lc,.slice Ka (nK t) Kc] 36)).alloc (.cells #[.int .i64 (kindOf (elt t k)),.int .i64 (nOf (elt t k)),.string (sOf (elt t k)),.slice A (nL (elt t k)) B,.slice C (nK (elt t k)) D] 36)).drew):=(((Below.refl _ _).alloc (Nat.le_refl _) _).alloc (by simp) _).drew
  exact ⟨hb,g,A,B,C,D,rfl,rfl,Ha.out.keep hb⟩
theorem field0_run (a b c d e:Value) (w:World):(Instr.field 36 (.agg #[a,b,c,d,e]) 0).run Tryz.prog w=.ok a w:=by kernel_rfl
def isDoc (t:T):Bool:=kindOf t==6&&match idP t with
 | some k=>kindOf (elt t k)==3 || kindOf (elt t k)==4
 | none=>false
set_option maxHeartbeats 4000000 in
set_option maxRecDepth 100000 in
theorem isDoc_any (f:Nat) (v:Value) (t:T) (w:World) (h:At w f v t) (hok:okA t) :
  Calls Tryz.prog 58 #[v] w fun e w'=>e=.returned (.bool (isDoc t))∧Below w.heap.size w w':=by
 have HA:=hid h
 obtain ⟨g,La,Ka,Lc,Kc,rfl,rfl,hf,hl,hkk⟩:=h.open
 have HB1:Hid (Below w.heap.size w (w.alloc (.cells #[.int .i64 (kindOf t),.int .i64 (nOf t),.string (sOf t),.slice La (nL t) Lc,.slice Ka (nK t) Kc] 36))):=(Below.refl _ _).alloc (Nat.le_refl _) _
 have HS:=hid ((names_strs (Kc:=Kc) hkk.out hf.m1).keep HB1.out)
 have HI:=hid (contains_any _ _ ⟨#[95,105,100]⟩ _ HS.out)
 have HOk:=hid hok
 clear h hf hl hkk hok
 by_cases k6:kindOf t=6
 ·have e6:(kindOf t==6)=true:=by simpa using k6
  cases hi:idP t with
  | none =>
   have HR:Hid (isDoc t=false):=by show _=_;unfold isDoc;rw [hi];simp
   have e:(idxL ⟨#[95,105,100]⟩ (kOf t)).isSome=false:=by rw [show idxL ⟨#[95,105,100]⟩ (kOf t)=none from hi];rfl
   rw [e] at HI
   rw [k6] at HI HB1 ⊢
   clear e hi k6 e6 HOk HA HS
   go_enter Tryz.func58,Tryz.ntmps58
   go_wp2_with fail
   refine HI.out.mono ?_
   rintro e w2 ⟨rfl,rfl⟩
   go_wp2_with fail
   go_ret
   exact ⟨ret_bool (by rw [HR.out]),HB1.out⟩
  | some k =>
   have hkl:k<(kOf t).length:=idxL_lt hi
   have hlt:k<nL t:=by have:=HOk.out.names k6;unfold nK at this;omega
   have HR:Hid (isDoc t=(kindOf (elt t k)==3 || kindOf (elt t k)==4)):=by show _=_;unfold isDoc;rw [hi,e6];rfl
   have e:(idxL ⟨#[95,105,100]⟩ (kOf t)).isSome=true:=by rw [show idxL ⟨#[95,105,100]⟩ (kOf t)=some k from hi];rfl
   rw [e] at HI
   have HO:=hid (idOf_any _ _ t k _ (HA.out.keep HB1.out) hi hlt)
   rw [k6] at HI HB1 HO ⊢
   clear e hi k6 e6 HOk hkl hlt HA HS
   have HKo:Hid (kindOf (elt t k)=3∨kindOf (elt t k)≠3):=by by_cases h:kindOf (elt t k)=3<;>simp [Hid,h]
   go_enter Tryz.func58,Tryz.ntmps58
   go_wp2_with fail
   refine HI.out.mono ?_
   rintro e w2 ⟨rfl,rfl⟩
   go_wp2_with fail
   refine HO.out.mono ?_
   rintro e w2 ⟨b2,g',A,B,C,D,hg,rfl,ha⟩
   have HB2:=hid (HB1.out.trans (b2.mono HB1.out.size))
   clear b2 ha hg HO
   have hfd:=field0_run
   rcases HKo.out with h3 | h3
   ·have e3:(kindOf (elt t k)==3)=true:=by simpa using h3
    have HR2:Hid (isDoc t=true):=by show _=_;rw [HR.out,e3];rfl
    clear h3 HKo
    go_wp2_with fail
    go_ret
    exact ⟨ret_bool (by rw [HR2.out]),HB2.out⟩
   ·have e3:(kindOf (elt t k)==3)=false:=by simpa using h3
    have HR2:Hid (isDoc t=(kindOf (elt t k)==4)):=by show _=_;rw [HR.out,e3];rfl
    clear h3 HKo
    go_wp2_with fail
    go_ret
    exact ⟨ret_bool (by rw [HR2.out]),HB2.out⟩
 ·have e6:(kindOf t==6)=false:=by simpa using k6
  have HR:Hid (isDoc t=false):=by show _=_;unfold isDoc;rw [e6];rfl
  have n6:(kindOf t != 6)=true:=by simpa using k6
  clear k6 HOk e6
  go_enter Tryz.func58,Tryz.ntmps58
  go_wp2_with fail
  go_ret
  exact ⟨ret_bool (by rw [HR.out]),HB1.out⟩
def tooBig (t:T):Bool:=!isV t || decide (1000<(encS (isV t) (encT 12 t)).size)
set_option maxHeartbeats 4000000 in
set_option maxRecDepth 100000 in
theorem tooBig_any {Tb:World→Prop} (hV:ValidSaid Tb) (hL:Lies Tb) (f:Nat) (v:Value) (t:T) (w:World) (h:At w f v t) (hT:Tb w) :
  Calls Tryz.prog 59 #[v] w fun e w'=>e=.returned (.bool (tooBig t))∧Below w.heap.size w w':=by
 have HA:=hid h
 obtain ⟨g,La,Ka,Lc,Kc,rfl,rfl,hf,hl,hkk⟩:=h.open
 have HB1:Hid (Below w.heap.size w (w.alloc (.cells #[.int .i64 (kindOf t),.int .i64 (nOf t),.string (sOf t),.slice La (nL t) Lc,.slice Ka (nK t) Kc] 36))):=(Below.refl _ _).alloc (Nat.le_refl _) _
 have HE:=hid (tEncode_any hV hL _ _ t _ (HA.out.keep HB1.out) (hL w hT _ _ hT HB1.out))
 clear h hf hl hkk hT hL hV HA
 cases hv:isV t with
 | true =>
  rw [hv] at HE
  have HR:Hid (tooBig t=decide ((1000:Int)<((encS true (encT 12 t)).size:Int))):=by show _=_;unfold tooBig;rw [hv];simp;omega
  clear hv
  have e0:encF true=0:=rfl
  rw [e0] at HE
  clear e0
  generalize encS true (encT 12 t)=bs at HE HR
  go_enter Tryz.func59,Tryz.ntmps59
  go_wp2_with fail
  refine HE.out.mono ?_
  rintro e w2 ⟨rfl,b2⟩
  have HB2:=hid (HB1.out.trans (b2.mono HB1.out.size))
  clear b2 HE
  go_wp2_with fail
  go_ret
  exact ⟨ret_bool (by rw [HR.out]),HB2.out⟩
 | false =>
  rw [hv] at HE
  have HR:Hid (tooBig t=true):=by show _=_;unfold tooBig;rw [hv];simp
  clear hv
  have e0:encF false=5:=rfl
  rw [e0] at HE
  clear e0
  generalize encS false (encT 12 t)=bs at HE
  go_enter Tryz.func59,Tryz.ntmps59
  go_wp2_with fail
  refine HE.out.mono ?_
  rintro e w2 ⟨rfl,b2⟩
  have HB2:=hid (HB1.out.trans (b2.mono HB1.out.size))
  clear b2 HE
  go_wp2_with fail
  go_ret
  exact ⟨ret_bool (by rw [HR.out]),HB2.out⟩
end Go.Proofs.YtknakfpciccoaabGreatDoor
/- readDocument. -/
namespace Go.Proofs.YtknakfpciccoaabGreatDoor
open Go.RowKit
def DocPost (s : ByteArray) (w : World) (e : Ending) (w' : World) : Prop :=
  Below w.heap.size w w' ∧
  ((eJ s ≠ 0 ∧ e = .returned (.tuple #[zeroV, .int .i64 (eJ s)])) ∨ (eJ s = 0 ∧ isDoc (tJ s) = false ∧ e = .returned (.tuple #[zeroV, .int .i64 7])) ∨ (eJ s = 0 ∧ isDoc (tJ s) = true ∧ tooBig (tJ s) = true ∧ e = .returned (.tuple #[zeroV, .int .i64 15])) ∨
   (eJ s = 0 ∧ isDoc (tJ s) = true ∧ tooBig (tJ s) = false ∧ ∃ A B C D, e = .returned (.tuple #[.agg #[.int .i64 (kindOf (tJ s)), .int .i64 (nOf (tJ s)), .string (sOf (tJ s)), .slice A (nL (tJ s)) B, .slice C (nK (tJ s)) D], .int .i64 0]) ∧ AtP (newB w w') w' 13 (.agg #[.int .i64 (kindOf (tJ s)), .int .i64 (nOf (tJ s)), .string (sOf (tJ s)), .slice A (nL (tJ s)) B, .slice C (nK (tJ s)) D]) (tJ s)))
set_option maxHeartbeats 4000000 in
set_option maxRecDepth 100000 in
theorem readDoc_bad {Tb:World→Prop} (hD:DecSaid Tb) (hN:IntSaid Tb) (hL:Lies Tb) (s:ByteArray) (w:World) (hs:s.size≤140737488355328) (hT:Tb w) (h0:eJ s≠0) :
  Calls Tryz.prog 37 #[.string s] w (DocPost s w):=by
 have HB0:Hid (Below w.heap.size w (w.alloc (.cells #[.int .i64 0,.int .i64 0,.string ⟨#[]⟩,.slice none 0 0,.slice none 0 0] 36))):=(Below.refl _ _).alloc (Nat.le_refl _) _
 have HP:=hid (parse_u hD hN hL s (w.alloc (.cells #[.int .i64 0,.int .i64 0,.string ⟨#[]⟩,.slice none 0 0,.slice none 0 0] 36)) hs (hL w hT _ _ hT HB0.out))
 have H0:=hid h0
 have ez:(eJ s==0)=false:=by simpa using h0
 clear hT hD hN hL h0
 go_enter Tryz.func37,Tryz.ntmps37
 go_wp2_with fail
 refine HP.out.mono ?_
 rintro e w1 ⟨b1,es,A,B,C,D,rfl,hF,hS,h1,h2⟩
 have HBa:Hid (Below w1.heap.size w1 (w1.alloc (.cells #[.int .i64 (kindOf (tJ s)),.int .i64 (nOf (tJ s)),.string (sOf (tJ s)),.slice A (nL (tJ s)) B,.slice C (nK (tJ s)) D] 36))):=(Below.refl _ _).alloc (Nat.le_refl _) _
 have HB:=hid ((HB0.out.trans (b1.mono HB0.out.size)).trans (HBa.out.mono (HB0.out.trans (b1.mono HB0.out.size)).size))
 have HX:=hid (((box_new w (.int .i64 0) (.int .i64 0) (.string ⟨#[]⟩) (.slice none 0 0) (.slice none 0 0)).stay b1).stay HBa.out)
 have r0:=HX.out.q0
 have r1:=HX.out.q1
 have r2:=HX.out.q2
 have r3:=HX.out.q3
 have r4:=HX.out.q4
 have z0:=HX.out.f0
 have z1:=HX.out.f1
 have z2:=HX.out.f2
 have z3:=HX.out.f3
 have z4:=HX.out.f4
 clear b1 hF hS h1 h2 HP
 go_wp2_with fail
 refine bodyPost_ret (v:=.tuple #[zeroV,.int .i64 (eJ s)]) (by simp [results,Tryz.results37,go_sem,zeroV, *]) rfl ?_
 exact ⟨HB.out.trans ((put5_but (w1.alloc (.cells #[.int .i64 (kindOf (tJ s)),.int .i64 (nOf (tJ s)),.string (sOf (tJ s)),.slice A (nL (tJ s)) B,.slice C (nK (tJ s)) D] 36)) w.heap.size _ _ _ _ _).below HB.out.size),.inl ⟨H0.out,rfl⟩⟩
set_option maxHeartbeats 4000000 in
set_option maxRecDepth 100000 in
theorem readDoc_ok {Tb:World→Prop} (hV:ValidSaid Tb) (hD:DecSaid Tb) (hN:IntSaid Tb) (hL:Lies Tb) (s:ByteArray) (w:World) (hs:s.size≤140737488355328) (hT:Tb w) (h0:eJ s=0) :
  Calls Tryz.prog 37 #[.string s] w (DocPost s w):=by
 have HB0:Hid (Below w.heap.size w (w.alloc (.cells #[.int .i64 0,.int .i64 0,.string ⟨#[]⟩,.slice none 0 0,.slice none 0 0] 36))):=(Below.refl _ _).alloc (Nat.le_refl _) _
 have HP:=hid (parseP_ok hD hN hL s (w.alloc (.cells #[.int .i64 0,.int .i64 0,.string ⟨#[]⟩,.slice none 0 0,.slice none 0 0] 36)) hs (hL w hT _ _ hT HB0.out) h0)
 have H0:=hid h0
 have HK:=hid (parsed_okA h0)
 have HT:Hid (∀ w':World,Below w.heap.size w w'→Tb w'):=fun w' hb=>hL w hT w w' hT hb
 have HTB:Hid (∀ (v:Value) (w:World),At w 13 v (tJ s)→Tb w→Calls Tryz.prog 59 #[v] w fun e w'=>e=.returned (.bool (tooBig (tJ s)))∧Below w.heap.size w w'):=fun v w ha ht=>tooBig_any hV hL 13 v (tJ s) w ha ht
 have Hsz:Hid ((w.alloc (.cells #[.int .i64 0,.int .i64 0,.string ⟨#[]⟩,.slice none 0 0,.slice none 0 0] 36)).heap.size=w.heap.size+1):=by show _=_;simp
 clear hT hD hN hL h0 hV
 go_enter Tryz.func37,Tryz.ntmps37
 go_wp2_with fail
 refine HP.out.mono ?_
 rintro e w1 ⟨b1,A,B,C,D,rfl,ha⟩
 have HBa:Hid (Below w1.heap.size w1 (w1.alloc (.cells #[.int .i64 (kindOf (tJ s)),.int .i64 (nOf (tJ s)),.string (sOf (tJ s)),.slice A (nL (tJ s)) B,.slice C (nK (tJ s)) D] 36))):=(Below.refl _ _).alloc (Nat.le_refl _) _
 have HB:=hid ((HB0.out.trans (b1.mono HB0.out.size)).trans (HBa.out.mono (HB0.out.trans (b1.mono HB0.out.size)).size))
 have HX:=hid (((box_new w (.int .i64 0) (.int .i64 0) (.string ⟨#[]⟩) (.slice none 0 0) (.slice none 0 0)).stay b1).stay HBa.out)
 have HY:=hid (box_new w1 (.int .i64 (kindOf (tJ s))) (.int .i64 (nOf (tJ s))) (.string (sOf (tJ s))) (.slice A (nL (tJ s)) B) (.slice C (nK (tJ s)) D))
 have HAt:=hid (ha.move (q:=fun b=>w.heap.size+1≤b∧b<w1.heap.size) (w':=w1.alloc (.cells #[.int .i64 (kindOf (tJ s)),.int .i64 (nOf (tJ s)),.string (sOf (tJ s)),.slice A (nL (tJ s)) B,.slice C (nK (tJ s)) D] 36)) HBa.out.size (fun b hb hp=>⟨⟨by have:=hp.1;have:=Hsz.out;omega,hb⟩,HBa.out.block b hb⟩))
 have HI:=hid (isDoc_any 13 _ (tJ s) _ HAt.out.at HK.out)
 clear b1 ha HP
 cases hd:isDoc (tJ s) with
 | false =>
  rw [hd] at HI
  have Hd:=hid hd
  clear hd
  go_wp2_with fail
  refine HI.out.mono ?_
  rintro e w2 ⟨rfl,b2⟩
  have HB2:=hid (HB.out.trans (b2.mono HB.out.size))
  have HX2:=hid (HX.out.stay b2)
  have r0:=HX2.out.q0
  have r1:=HX2.out.q1
  have r2:=HX2.out.q2
  have r3:=HX2.out.q3
  have r4:=HX2.out.q4
  have z0:=HX2.out.f0
  have z1:=HX2.out.f1
  have z2:=HX2.out.f2
  have z3:=HX2.out.f3
  have z4:=HX2.out.f4
  clear b2 HI
  go_wp2_with fail
  refine bodyPost_ret (v:=.tuple #[zeroV,.int .i64 7]) (by simp [results,Tryz.results37,go_sem,zeroV, *]) rfl ?_
  exact ⟨HB2.out.trans ((put5_but w2 w.heap.size _ _ _ _ _).below HB2.out.size),.inr (.inl ⟨H0.out,Hd.out,rfl⟩)⟩
 | true =>
  rw [hd] at HI
  have Hd:=hid hd
  clear hd
  go_wp2_with fail
  refine HI.out.mono ?_
  rintro e w2 ⟨rfl,b2⟩
  have HB2:=hid (HB.out.trans (b2.mono HB.out.size))
  have HX2:=hid (HX.out.stay b2)
  have HY2:=hid (HY.out.stay b2)
  have HAt2:=hid (HAt.out.move (q:=fun b=>w.heap.size+1≤b∧b<w1.heap.size) b2.size (fun b hb hp=>⟨hp,b2.block b hb⟩))
  have HG:=hid (HTB.out _ w2 HAt2.out.at (HT.out _ HB2.out))
  have y0:=HY2.out.q0
  have y1:=HY2.out.q1
  have y2:=HY2.out.q2
  have y3:=HY2.out.q3
  have y4:=HY2.out.q4
  clear b2 HI
  cases hb:tooBig (tJ s) with
  | true =>
   rw [hb] at HG
   have Hb:=hid hb
   clear hb
   go_wp2_with fail
   refine HG.out.mono ?_
   rintro e w3 ⟨rfl,b3⟩
   have HB3:=hid (HB2.out.trans (b3.mono HB2.out.size))
   have HX3:=hid (HX2.out.stay b3)
   have r0:=HX3.out.q0
   have r1:=HX3.out.q1
   have r2:=HX3.out.q2
   have r3:=HX3.out.q3
   have r4:=HX3.out.q4
   have z0:=HX3.out.f0
   have z1:=HX3.out.f1
   have z2:=HX3.out.f2
   have z3:=HX3.out.f3
   have z4:=HX3.out.f4
   clear b3 HG y0 y1 y2 y3 y4
   go_wp2_with fail
   refine bodyPost_ret (v:=.tuple #[zeroV,.int .i64 15]) (by simp [results,Tryz.results37,go_sem,zeroV, *]) rfl ?_
   exact ⟨HB3.out.trans ((put5_but w3 w.heap.size _ _ _ _ _).below HB3.out.size),.inr (.inr (.inl ⟨H0.out,Hd.out,Hb.out,rfl⟩))⟩
  | false =>
   rw [hb] at HG
   have Hb:=hid hb
   clear hb
   go_wp2_with fail
   refine HG.out.mono ?_
   rintro e w3 ⟨rfl,b3⟩
   have HB3:=hid (HB2.out.trans (b3.mono HB2.out.size))
   have HX3:=hid (HX2.out.stay b3)
   have HY3:=hid (HY2.out.stay b3)
   have HAt3:=hid (HAt2.out.move (q:=fun b=>w.heap.size+1≤b∧b<w1.heap.size) b3.size (fun b hb hp=>⟨hp,b3.block b hb⟩))
   have HO:=hid (HX3.out.put5 (.int .i64 (kindOf (tJ s))) (.int .i64 (nOf (tJ s))) (.string (sOf (tJ s))) (.slice A (nL (tJ s)) B) (.slice C (nK (tJ s)) D))
   have HW1:Hid (w1.heap.size≤w3.heap.size):=by show _≤_;have:=HY3.out.lt;omega
   have v0:=HY3.out.q0
   have v1:=HY3.out.q1
   have v2:=HY3.out.q2
   have v3:=HY3.out.q3
   have v4:=HY3.out.q4
   have r0:=HX3.out.q0
   have r1:=HX3.out.q1
   have r2:=HX3.out.q2
   have r3:=HX3.out.q3
   have r4:=HX3.out.q4
   have z0:=HX3.out.f0
   have z1:=HX3.out.f1
   have z2:=HX3.out.f2
   have z3:=HX3.out.f3
   have z4:=HX3.out.f4
   unfold put5 at HO
   clear b3 HG y0 y1 y2 y3 y4
   go_wp2_with fail
   clear r0 r1 r2 r3 r4 z0 z1 z2 z3 z4
   have HO1:=hid HO.out
   have r0:=HO1.out.q0
   have r1:=HO1.out.q1
   have r2:=HO1.out.q2
   have r3:=HO1.out.q3
   have r4:=HO1.out.q4
   refine bodyPost_ret (v:=.tuple #[.agg #[.int .i64 (kindOf (tJ s)),.int .i64 (nOf (tJ s)),.string (sOf (tJ s)),.slice A (nL (tJ s)) B,.slice C (nK (tJ s)) D],.int .i64 0]) (by simp [results,Tryz.results37,go_sem, *]) rfl ?_
   refine ⟨HB3.out.trans ((put5_but w3 w.heap.size _ _ _ _ _).below HB3.out.size),.inr (.inr (.inr ⟨H0.out,Hd.out,Hb.out,A,B,C,D,rfl,?_⟩))⟩
   exact HAt3.out.move (w':=put5 w3 w.heap.size _ _ _ _ _) (by rw [put5_size];exact Nat.le_refl _) (fun b hb hp=>⟨⟨by omega,by simpa [World.setCell] using hb⟩,put5_other w3 (by omega) _ _ _ _ _⟩)
theorem readDoc_any {Tb:World→Prop} (hV:ValidSaid Tb) (hD:DecSaid Tb) (hN:IntSaid Tb) (hL:Lies Tb) (s:ByteArray) (w:World) (hs:s.size≤140737488355328) (hT:Tb w) :
  Calls Tryz.prog 37 #[.string s] w (DocPost s w):=by
 by_cases h0:eJ s=0
 ·exact readDoc_ok hV hD hN hL s w hs hT h0
 ·exact readDoc_bad hD hN hL s w hs hT h0
end Go.Proofs.YtknakfpciccoaabGreatDoor
/- hasID. -/
namespace Go.Proofs.YtknakfpciccoaabGreatDoor
open Go.RowKit
set_option maxHeartbeats 4000000 in
set_option maxRecDepth 100000 in
theorem hasID1_any (f gx:Nat) (v:Value) (t:T) (k p:Nat) (x:T) (A C:Option Addr) (B D:Nat) (w:World) (h:At w f v t) (hk:idP t=some k) (hlt:k<nL t) (hf:f≤16) (ht:okA t) (hx:At w gx (.agg #[.int .i64 (kindOf x),.int .i64 (nOf x),.string (sOf x),.slice A (nL x) B,.slice C (nK x) D]) x) (hox:okA x)
  (hb:BoxAt p (.int .i64 (kindOf x)) (.int .i64 (nOf x)) (.string (sOf x)) (.slice A (nL x) B) (.slice C (nK x) D) w) :
  Calls Tryz.prog 89 #[v,.pointer (some ⟨p,0,none⟩)] w fun e w'=>e=.returned (.bool (cmpT 16 (elt t k) x==0))∧Below w.heap.size w w':=by
 have HA:=hid h
 obtain ⟨g,La,Ka,Lc,Kc,rfl,rfl,hff,hl,hkk⟩:=h.open
 have HB1:Hid (Below w.heap.size w (w.alloc (.cells #[.int .i64 (kindOf t),.int .i64 (nOf t),.string (sOf t),.slice La (nL t) Lc,.slice Ka (nK t) Kc] 36))):=(Below.refl _ _).alloc (Nat.le_refl _) _
 have HD:=hid HB1.out.drew
 have HX:=hid (hb.stay HD.out)
 have HY:=hid ((box_new w (.int .i64 (kindOf t)) (.int .i64 (nOf t)) (.string (sOf t)) (.slice La (nL t) Lc) (.slice Ka (nK t) Kc)).stay (below_drew _))
 have HI:=hid (idOf_any _ _ t k _ (HA.out.keep HD.out) hk hlt)
 have HE:Hid (∀ (w':World) (g':Nat) (u:Value),Below w.heap.size w w'→g'+1=g+1→At w' g' u (elt t k)→Calls Tryz.prog 90 #[u,.agg #[.int .i64 (kindOf x),.int .i64 (nOf x),.string (sOf x),.slice A (nL x) B,.slice C (nK x) D]] w' fun e w2=>e=.returned (.bool (cmpT 16 (elt t k) x==0))∧Below w'.heap.size w' w2):=fun w' g' u hb' hg ha=>equal16 ha (hx.keep hb') (by omega) (ht.elt hlt) hox
 generalize cmpT 16 (elt t k) x=cc at HE ⊢
 have HSo:Hid (∀ wx,BoxAt p (.int .i64 (kindOf x)) (.int .i64 (nOf x)) (.string (sOf x)) (.slice A (nL x) B) (.slice C (nK x) D) wx→BoxAt w.heap.size (.int .i64 (kindOf t)) (.int .i64 (nOf t)) (.string (sOf t)) (.slice La (nL t) Lc) (.slice Ka (nK t) Kc) wx→(fun wx=>wx.cell? ⟨p,0,none⟩=some (.int .i64 (kindOf x))∧wx.cell? ⟨p,1,none⟩=some (.int .i64 (nOf x))∧wx.cell? ⟨p,2,none⟩=some (.string (sOf x))∧wx.cell? ⟨p,3,none⟩=some (.slice A (nL x) B)∧wx.cell? ⟨p,4,none⟩=some (.slice C (nK x) D)∧wx.cell? ⟨w.heap.size,0,none⟩=some (.int .i64 (kindOf t))∧wx.cell? ⟨w.heap.size,1,none⟩=some (.int .i64 (nOf t))∧wx.cell? ⟨w.heap.size,2,none⟩=some (.string (sOf t))∧wx.cell? ⟨w.heap.size,3,none⟩=some (.slice La (nL t) Lc)∧wx.cell? ⟨w.heap.size,4,none⟩=some (.slice Ka (nK t) Kc)) wx):=fun wx a b=>⟨a.q0,a.q1,a.q2,a.q3,a.q4,b.q0,b.q1,b.q2,b.q3,b.q4⟩
 have HSd:=hid (HSo.out _ HX.out HY.out)
 clear h hff hl hkk hk hlt hf ht hx hox hb HA
 go_enter Tryz.func89,Tryz.ntmps89
 go_wp2_with fail
 go_region_held3 (fun wx=>wx.cell? ⟨p,0,none⟩=some (.int .i64 (kindOf x))∧wx.cell? ⟨p,1,none⟩=some (.int .i64 (nOf x))∧wx.cell? ⟨p,2,none⟩=some (.string (sOf x))∧wx.cell? ⟨p,3,none⟩=some (.slice A (nL x) B)∧wx.cell? ⟨p,4,none⟩=some (.slice C (nK x) D)∧wx.cell? ⟨w.heap.size,0,none⟩=some (.int .i64 (kindOf t))∧wx.cell? ⟨w.heap.size,1,none⟩=some (.int .i64 (nOf t))∧wx.cell? ⟨w.heap.size,2,none⟩=some (.string (sOf t))∧wx.cell? ⟨w.heap.size,3,none⟩=some (.slice La (nL t) Lc)∧wx.cell? ⟨w.heap.size,4,none⟩=some (.slice Ka (nK t) Kc)) (first | exact hS4 | exact hS3 | exact HSd.out) (first | (go_at_call 61;refine HI.out.mono ?_;rintro e w3 ⟨b3,g',A2,B2,C2,D2,hg3,rfl,ha3⟩;have hS3:=HSo.out _ (HX.out.stay b3) (HY.out.stay b3)) | (go_at_call 90;refine (HE.out _ _ _ (HD.out.trans (b3.mono HD.out.size)) hg3.symm ha3).mono ?_;rintro e w4 ⟨rfl,b4⟩;have hS4:=HSo.out _ ((HX.out.stay b3).stay b4) ((HY.out.stay b3).stay b4)))
 have HBf:=hid ((HD.out.trans (b3.mono HD.out.size)).trans (b4.mono (HD.out.trans (b3.mono HD.out.size)).size))
 clear b3 b4 hS3 hS4 ha3 hg3
 go_wp2_with fail
 go_ret
 exact ⟨rfl,HBf.out⟩
def idT (t:T):T:=elt t ((idP t).getD 0)
def sameId (x t:T):Bool:=cmpT 16 (idT t) x==0
def Doc (t:T):Prop:=okA t∧∃ k,idP t=some k∧k<nL t
theorem isDoc_doc {t:T} (h:okA t) (hd:isDoc t=true):Doc t:=by
 unfold isDoc at hd
 simp only [Bool.and_eq_true,beq_iff_eq] at hd
 cases hi:idP t with
 | none=>rw [hi] at hd;simp at hd
 | some k=>exact ⟨h,k,hi,by have h1:=h.names hd.1;have h2:k<(kOf t).length:=idxL_lt hi;unfold nK at h1;omega⟩
set_option maxHeartbeats 4000000 in
set_option maxRecDepth 100000 in
theorem hasID_any (c f gx:Nat) (d x:T) (La:Option Addr) (Lc:Nat) (vx:Value) (w:World) (hc:w.cell? ⟨c,0,none⟩=some (.slice La (nL d) Lc)) (hcl:c<w.heap.size) (hl:ElemsAt w f La d) (hn:nL d≤1000000) (hf:f≤16) (hd:∀ i,i<nL d→Doc (elt d i)) (hx:At w gx vx x) (hox:okA x) :
  Calls Tryz.prog 60 #[.pointer (some ⟨c,0,none⟩),vx] w fun e w'=>e=.returned (.bool (anyL (sameId x) d (nL d)))∧Below w.heap.size w w':=by
 have hmf:∀ (fn:Fn) (first cap:Array Value) (w:World),(Instr.makeFunc fn first cap).run Tryz.prog w=.ok (.func fn first cap) w:=fun _ _ _ _=>rfl
 have HX0:=hid hx
 obtain ⟨g,A,C,B,D,rfl,rfl,hff,hl',hkk⟩:=hx.open
 have HB1:Hid (Below w.heap.size w (w.alloc (.cells #[.int .i64 (kindOf x),.int .i64 (nOf x),.string (sOf x),.slice A (nL x) B,.slice C (nK x) D] 36))):=(Below.refl _ _).alloc (Nat.le_refl _) _
 have HBx:=hid (box_new w (.int .i64 (kindOf x)) (.int .i64 (nOf x)) (.string (sOf x)) (.slice A (nL x) B) (.slice C (nK x) D))
 have q0:(w.alloc (.cells #[.int .i64 (kindOf x),.int .i64 (nOf x),.string (sOf x),.slice A (nL x) B,.slice C (nK x) D] 36)).cell? ⟨c,0,none⟩=some (.slice La (nL d) Lc):=(HB1.out.cell (p:=⟨c,0,none⟩) hcl).trans hc
 have HC:=hid (containsFuncC_any (sameId x) 89 (fun _ _=>rfl) (.pointer (some ⟨w.heap.size,0,none⟩)) f La Lc d (w.alloc (.cells #[.int .i64 (kindOf x),.int .i64 (nOf x),.string (sOf x),.slice A (nL x) B,.slice C (nK x) D] 36)) (hl.keep HB1.out) (by omega) (fun k hk wr v hb ha=>by
  obtain ⟨ho,i,hi,hil⟩:=hd k hk
  have e:sameId x (elt d k)=(cmpT 16 (elt (elt d k) i) x==0):=by unfold sameId idT;rw [hi];rfl
  rw [e]
  exact hasID1_any f _ v (elt d k) i w.heap.size x A C B D wr ha hi hil hf ho ((HX0.out.keep HB1.out).keep hb) hox (HBx.out.stay hb)))
 clear hx hff hl' hkk hl hd hox hc HX0 HBx
 go_enter Tryz.func60,Tryz.ntmps60
 go_wp2_with fail
 refine HC.out.mono ?_
 rintro e w2 ⟨rfl,b2⟩
 have HB2:=hid (HB1.out.trans (b2.mono HB1.out.size))
 clear b2 HC
 go_wp2_with fail
 go_ret
 exact ⟨rfl,HB2.out⟩
end Go.Proofs.YtknakfpciccoaabGreatDoor
/- A collection's row; insert. -/
namespace Go.Proofs.YtknakfpciccoaabGreatDoor
open Go.RowKit
structure Col (w:World) (c f:Nat) (l:List T) (v:Value) (xs:List Value):Prop where
 cell:w.cell? ⟨c,0,none⟩=some v
 free:w.frozen? ⟨c,0,none⟩=false
 low:c<w.heap.size
 row:w.ownsRow 0 36 5 v l.length xs
 apart:v.ownBlock≠some c
 at_:∀ i,(h:i<l.length)→At w f (fv xs i) l[i]
theorem Col.elems {w:World} {c f:Nat} {l:List T} {v:Value} {xs:List Value} (h:Col w c f l v xs):∃ La Lc,v=.slice La l.length Lc∧ElemsAt w f La (mkT 5 0 ByteArray.empty l []):=by
 have hx:xs.length=l.length*5:=h.row.1
 rcases h.row.2 with ⟨rfl,hn⟩ | ⟨g,cap,cur,rfl,hb0,hg,rest⟩
 ·refine ⟨none,0,by rw [hn],fun i hi=>?_⟩
  rw [nL_mk] at hi
  omega
 ·refine ⟨_,_,rfl,fun i hi=>?_⟩
  rw [nL_mk] at hi
  have hc:∀ j,j<5→w.cell? ⟨g,i*5+j,none⟩=some (cx xs (i*5+j)):=fun j hj=>row_cell h.row (cx_some (by omega))
  have e:elt (mkT 5 0 ByteArray.empty l []) i=l[i]:=by rw [elt_mk,List.getD_eq_getElem?_getD,List.getElem?_eq_getElem hi];rfl
  refine ⟨g,0,cx xs (i*5),cx xs (i*5+1),cx xs (i*5+2),cx xs (i*5+3),cx xs (i*5+4),rfl,(Array.getElem?_eq_some_iff.1 hg).1,(by rw [Nat.zero_add];exact hc 0 (by omega)),(by rw [Nat.zero_add];exact hc 1 (by omega)),(by rw [Nat.zero_add];exact hc 2 (by omega)),(by rw [Nat.zero_add];exact hc 3 (by omega)),(by rw [Nat.zero_add];exact hc 4 (by omega)),?_⟩
  rw [e]
  exact h.at_ i hi
theorem Col.keep {w w':World} {c f:Nat} {l:List T} {v:Value} {xs:List Value} (h:Col w c f l v xs) (hb:Below w.heap.size w w'):Col w' c f l v xs :=
 ⟨(hb.cell (p:=⟨c,0,none⟩) h.low).trans h.cell,(hb.frozen (p:=⟨c,0,none⟩) h.low).trans h.free,Nat.lt_of_lt_of_le h.low hb.size,rowH_move h.row fun b _ h2=>hb.block b h2,h.apart,fun i hi=>At.keep hb (h.at_ i hi)⟩
structure But2 (c:Nat) (g:Option Nat) (w w':World):Prop where
 os:w'.os=w.os
 tape:w'.tape=w.tape
 output:w'.output=w.output
 size:w.heap.size≤w'.heap.size
 block:∀ b,b<w.heap.size→b≠c→some b≠g→w'.heap[b]?=w.heap[b]?
theorem new_cell {w:World} {g n cap:Nat} {xs news:List Value} {base:Nat} {e:TypeId} (h:w.ownsRow base e 5 (.slice (some ⟨g,0,none⟩) (n+1) cap) (n+1) (xs++news)) (hx:xs.length=n*5) (j:Nat) {u:Value} (hj:j<5) (hu:news[j]?=some u):w.cell? ⟨g,n*5+j,none⟩=some u:=by
 rw [h.cellAt _ (by omega),List.getElem?_append_right (by omega),hx,Nat.add_sub_cancel_left]
 exact hu
def put5o (w:World) (g o:Nat) (u0 u1 u2 u3 u4:Value):World:=((((w.setCell ⟨g,o,none⟩ u0).setCell ⟨g,o+1,none⟩ u1).setCell ⟨g,o+2,none⟩ u2).setCell ⟨g,o+3,none⟩ u3).setCell ⟨g,o+4,none⟩ u4
theorem put5o_other (w:World) {g b':Nat} (h:b'≠g) (o:Nat) (u0 u1 u2 u3 u4:Value):(put5o w g o u0 u1 u2 u3 u4).heap[b']?=w.heap[b']?:=by
 have hset:∀ (w1:World) (o:Nat) (u:Value),(w1.setCell ⟨g,o,none⟩ u).heap[b']?=w1.heap[b']?:=fun w1 o u=>Below.heap_setCell _ _ _ _ (by simpa using h)
 unfold put5o
 rw [hset,hset,hset,hset,hset]
theorem put5o_rest (w:World) (g o:Nat) (u0 u1 u2 u3 u4:Value):(put5o w g o u0 u1 u2 u3 u4).heap.size=w.heap.size∧(put5o w g o u0 u1 u2 u3 u4).os=w.os∧(put5o w g o u0 u1 u2 u3 u4).tape=w.tape∧(put5o w g o u0 u1 u2 u3 u4).output=w.output:=by
 unfold put5o
 simp [World.setCell]
theorem setC_rest (w:World) (a:Addr) (u:Value):(w.setCell a u).heap.size=w.heap.size∧(w.setCell a u).os=w.os∧(w.setCell a u).tape=w.tape∧(w.setCell a u).output=w.output:=by
 simp [World.setCell]
theorem row_put5o {w:World} {base g n cap:Nat} {e:TypeId} {xs:List Value} {y0 y1 y2 y3 y4:Value} (h:w.ownsRow base e 5 (.slice (some ⟨g,0,none⟩) (n+1) cap) (n+1) (xs++[y0,y1,y2,y3,y4])) (hx:xs.length=n*5) (u0 u1 u2 u3 u4:Value) :
  (put5o w g (n*5) u0 u1 u2 u3 u4).ownsRow base e 5 (.slice (some ⟨g,0,none⟩) (n+1) cap) (n+1) (xs++[u0,u1,u2,u3,u4]):=by
 have h1:=(((((h.stored (n*5) u0).1.stored (n*5+1) u1).1.stored (n*5+2) u2).1.stored (n*5+3) u3).1.stored (n*5+4) u4).1
 have e:((((((xs++[y0,y1,y2,y3,y4]).set (n*5) u0).set (n*5+1) u1).set (n*5+2) u2).set (n*5+3) u3).set (n*5+4) u4)=xs++[u0,u1,u2,u3,u4]:=by
  rw [← hx]
  simp
 rw [e] at h1
 exact h1
structure InsF (w W4 w6:World) (c g n cap:Nat) (v:Value) (xs:List Value):Prop where
 lt:xs.length=n*5
 own:w6.ownsRow 0 36 5 (.slice (some ⟨g,0,none⟩) (n+1) cap) (n+1) (xs++[.int .i64 0,.int .i64 0,.string ⟨#[]⟩,.slice none 0 0,.slice none 0 0])
 grown:W4.grownBy w6 v.ownBlock
 low:Below w.heap.size w W4
 hat:v.ownBlock=some g∨w.heap.size≤g
 c6:w6.cell? ⟨c,0,none⟩=some v
 f6:w6.frozen? ⟨c,0,none⟩=false
 gc:g≠c
 apart:v.ownBlock≠some c
theorem InsF.block {w W4 w6:World} {c g n cap:Nat} {v:Value} {xs:List Value} (h:InsF w W4 w6 c g n cap v xs) (b:Nat) (hb:b<w.heap.size) (hv:some b≠v.ownBlock):w6.heap[b]?=w.heap[b]?∧b≠g :=
 ⟨(h.grown.block b (Nat.lt_of_lt_of_le hb h.low.size) hv).trans (h.low.block b hb),fun e=>by subst e;rcases h.hat with h1 | h1;exact hv h1.symm;omega⟩
theorem InsF.finA {w W4 w6:World} {c g n cap:Nat} {v:Value} {xs:List Value} (h:InsF w W4 w6 c g n cap v xs) (u0 u1 u2 u3 u4:Value) :
  But2 c v.ownBlock w ((put5o w6 g (n*5) u0 u1 u2 u3 u4).setCell ⟨c,0,none⟩ (.slice (some ⟨g,0,none⟩) (n+1) cap))∧((put5o w6 g (n*5) u0 u1 u2 u3 u4).setCell ⟨c,0,none⟩ (.slice (some ⟨g,0,none⟩) (n+1) cap)).cell? ⟨c,0,none⟩=some (.slice (some ⟨g,0,none⟩) (n+1) cap)∧((put5o w6 g (n*5) u0 u1 u2 u3 u4).setCell ⟨c,0,none⟩ (.slice (some ⟨g,0,none⟩) (n+1) cap)).frozen? ⟨c,0,none⟩=false∧(v.ownBlock=some g∨w.heap.size≤g)∧((put5o w6 g (n*5) u0 u1 u2 u3 u4).setCell ⟨c,0,none⟩ (.slice (some ⟨g,0,none⟩) (n+1) cap)).ownsRow 0 36 5 (.slice (some ⟨g,0,none⟩) (n+1) cap) (n+1) (xs++[u0,u1,u2,u3,u4]):=by
 obtain ⟨r1,r2,r3,r4⟩:=put5o_rest w6 g (n*5) u0 u1 u2 u3 u4
 have hcb:=put5o_other w6 (Ne.symm h.gc) (n*5) u0 u1 u2 u3 u4
 have hoth:∀ b,b≠g→(put5o w6 g (n*5) u0 u1 u2 u3 u4).heap[b]?=w6.heap[b]?:=fun b hb=>put5o_other w6 hb _ _ _ _ _ _
 have hrow:=row_put5o h.own h.lt u0 u1 u2 u3 u4
 generalize put5o w6 g (n*5) u0 u1 u2 u3 u4=w7 at r1 r2 r3 r4 hcb hrow hoth ⊢
 obtain ⟨t1,t2,t3,t4⟩:=setC_rest w7 ⟨c,0,none⟩ (.slice (some ⟨g,0,none⟩) (n+1) cap)
 have h3:=h.grown.size
 have h4:=h.low.size
 have k1:=World.cell?_setCell_same w7 ⟨c,0,none⟩ (.slice (some ⟨g,0,none⟩) (n+1) cap) ((cell_of hcb 0).trans h.c6)
 have k2:(w7.setCell ⟨c,0,none⟩ (.slice (some ⟨g,0,none⟩) (n+1) cap)).frozen? ⟨c,0,none⟩=false:=by
  rw [World.frozen?_setCell]
  exact (World.frozen?_of_block (a:=⟨c,0,none⟩) hcb).trans h.f6
 have k3:=ownsRow_setCell_other (a:=⟨c,0,none⟩) hrow (by simpa [Value.ownBlock] using h.gc) (.slice (some ⟨g,0,none⟩) (n+1) cap)
 have k4:∀ b,b≠c→(w7.setCell ⟨c,0,none⟩ (.slice (some ⟨g,0,none⟩) (n+1) cap)).heap[b]?=w7.heap[b]?:=fun b hb=>Below.heap_setCell _ _ _ _ (by simpa using hb)
 generalize w7.setCell ⟨c,0,none⟩ (.slice (some ⟨g,0,none⟩) (n+1) cap)=w8 at *
 refine ⟨⟨t2.trans (r2.trans (h.grown.os.trans h.low.os)),t3.trans (r3.trans (h.grown.tape.trans h.low.tape)),t4.trans (r4.trans (h.grown.output.trans h.low.output)),by omega,fun b hb h1 h2=>?_⟩,k1,k2,h.hat,k3⟩
 obtain ⟨h5,h6⟩:=h.block b hb h2
 exact (k4 b h1).trans ((hoth b h6).trans h5)
theorem InsF.finB {w W4 w6:World} {c g n cap:Nat} {v:Value} {xs:List Value} (h:InsF w W4 w6 c g n cap v xs) (u0 u1 u2 u3 u4:Value) :
  But2 c v.ownBlock w (put5o (w6.setCell ⟨c,0,none⟩ (.slice (some ⟨g,0,none⟩) (n+1) cap)) g (n*5) u0 u1 u2 u3 u4)∧(put5o (w6.setCell ⟨c,0,none⟩ (.slice (some ⟨g,0,none⟩) (n+1) cap)) g (n*5) u0 u1 u2 u3 u4).cell? ⟨c,0,none⟩=some (.slice (some ⟨g,0,none⟩) (n+1) cap)∧(put5o (w6.setCell ⟨c,0,none⟩ (.slice (some ⟨g,0,none⟩) (n+1) cap)) g (n*5) u0 u1 u2 u3 u4).frozen? ⟨c,0,none⟩=false∧(v.ownBlock=some g∨w.heap.size≤g)∧(put5o (w6.setCell ⟨c,0,none⟩ (.slice (some ⟨g,0,none⟩) (n+1) cap)) g (n*5) u0 u1 u2 u3 u4).ownsRow 0 36 5 (.slice (some ⟨g,0,none⟩) (n+1) cap) (n+1) (xs++[u0,u1,u2,u3,u4]):=by
 obtain ⟨t1,t2,t3,t4⟩:=setC_rest w6 ⟨c,0,none⟩ (.slice (some ⟨g,0,none⟩) (n+1) cap)
 have h3:=h.grown.size
 have h4:=h.low.size
 have k1:=World.cell?_setCell_same w6 ⟨c,0,none⟩ (.slice (some ⟨g,0,none⟩) (n+1) cap) h.c6
 have k2:(w6.setCell ⟨c,0,none⟩ (.slice (some ⟨g,0,none⟩) (n+1) cap)).frozen? ⟨c,0,none⟩=false:=by
  rw [World.frozen?_setCell]
  exact h.f6
 have k3:=ownsRow_setCell_other (a:=⟨c,0,none⟩) h.own (by simpa [Value.ownBlock] using h.gc) (.slice (some ⟨g,0,none⟩) (n+1) cap)
 have k4:∀ b,b≠c→(w6.setCell ⟨c,0,none⟩ (.slice (some ⟨g,0,none⟩) (n+1) cap)).heap[b]?=w6.heap[b]?:=fun b hb=>Below.heap_setCell _ _ _ _ (by simpa using hb)
 generalize w6.setCell ⟨c,0,none⟩ (.slice (some ⟨g,0,none⟩) (n+1) cap)=w7 at *
 obtain ⟨r1,r2,r3,r4⟩:=put5o_rest w7 g (n*5) u0 u1 u2 u3 u4
 have hcb:=put5o_other w7 (Ne.symm h.gc) (n*5) u0 u1 u2 u3 u4
 have hoth:∀ b,b≠g→(put5o w7 g (n*5) u0 u1 u2 u3 u4).heap[b]?=w7.heap[b]?:=fun b hb=>put5o_other w7 hb _ _ _ _ _ _
 have hrow:=row_put5o k3 h.lt u0 u1 u2 u3 u4
 generalize put5o w7 g (n*5) u0 u1 u2 u3 u4=w8 at *
 refine ⟨⟨r2.trans (t2.trans (h.grown.os.trans h.low.os)),r3.trans (t3.trans (h.grown.tape.trans h.low.tape)),r4.trans (t4.trans (h.grown.output.trans h.low.output)),by omega,fun b hb h1 h2=>?_⟩,(cell_of hcb 0).trans k1,(World.frozen?_of_block (a:=⟨c,0,none⟩) hcb).trans k2,h.hat,hrow⟩
 obtain ⟨h5,h6⟩:=h.block b hb h2
 exact (hoth b h6).trans ((k4 b h1).trans h5)
def InsPost (w:World) (c:Nat) (t:T) (l:List T) (v:Value) (xs cs:List Value) (e:Ending) (w':World):Prop :=
 (Below w.heap.size w w'∧anyL (sameId (idT t)) (mkT 5 0 ByteArray.empty l []) l.length=true∧e=.returned (.int .i64 11)) ∨
 (Below w.heap.size w w'∧anyL (sameId (idT t)) (mkT 5 0 ByteArray.empty l []) l.length=false∧60≤l.length∧e=.returned (.int .i64 12)) ∨
 (But2 c v.ownBlock w w'∧anyL (sameId (idT t)) (mkT 5 0 ByteArray.empty l []) l.length=false∧l.length<60∧e=.returned (.int .i64 0)∧∃ g cap,w'.cell? ⟨c,0,none⟩=some (.slice (some ⟨g,0,none⟩) (l.length+1) cap)∧w'.frozen? ⟨c,0,none⟩=false∧(v.ownBlock=some g∨w.heap.size≤g)∧w'.ownsRow 0 36 5 (.slice (some ⟨g,0,none⟩) (l.length+1) cap) (l.length+1) (xs++cs))
end Go.Proofs.YtknakfpciccoaabGreatDoor
/- The walk of emit: a document that is made. -/
namespace Go.Proofs.YtknakfpciccoaabGreatDoor
open Go.RowKit
structure Mk (w:World) (c:Nat) (v:Value) (n:Nat) (xs:List Value):Prop where
 cell:w.cell? ⟨c,0,none⟩=some v
 free:w.frozen? ⟨c,0,none⟩=false
 low:c<w.heap.size
 row:w.ownsRow 0 36 5 v n xs
 apart:v.ownBlock≠some c
theorem Mk.keep {w w':World} {c n:Nat} {v:Value} {xs:List Value} (h:Mk w c v n xs) (hb:Below w.heap.size w w'):Mk w' c v n xs :=
 ⟨(hb.cell (p:=⟨c,0,none⟩) h.low).trans h.cell,(World.frozen?_of_block (a:=⟨c,0,none⟩) (hb.block c h.low)).trans h.free,Nat.lt_of_lt_of_le h.low hb.size,rowH_move h.row fun b _ h2=>hb.block b h2,h.apart⟩
def EmPost (w:World) (c:Nat) (t:T) (v:Value) (n:Nat) (xs cs:List Value) (e:Ending) (w':World):Prop :=
 (Below w.heap.size w w'∧tooBig t=true∧e=.returned (.int .i64 15)) ∨
 (But2 c v.ownBlock w w'∧tooBig t=false∧e=.returned (.int .i64 0)∧(∀ o,o≠0→w'.cell? ⟨c,o,none⟩=w.cell? ⟨c,o,none⟩)∧∃ g cap,w'.cell? ⟨c,0,none⟩=some (.slice (some ⟨g,0,none⟩) (n+1) cap)∧w'.frozen? ⟨c,0,none⟩=false∧(v.ownBlock=some g∨w.heap.size≤g)∧w'.ownsRow 0 36 5 (.slice (some ⟨g,0,none⟩) (n+1) cap) (n+1) (xs++cs))
theorem InsF.offA {w W4 w6:World} {c g n cap:Nat} {v:Value} {xs:List Value} (h:InsF w W4 w6 c g n cap v xs) (hc:c<w.heap.size) (u0 u1 u2 u3 u4:Value) (o:Nat) (ho:o≠0) :
  ((put5o w6 g (n*5) u0 u1 u2 u3 u4).setCell ⟨c,0,none⟩ (.slice (some ⟨g,0,none⟩) (n+1) cap)).cell? ⟨c,o,none⟩=w.cell? ⟨c,o,none⟩:=by
 obtain ⟨h1,h2⟩:=h.block c hc (fun e=>h.apart e.symm)
 rw [World.cell?_setCell_other _ _ _ _ (by simp)]
 exact cell_of ((put5o_other w6 h2 (n*5) u0 u1 u2 u3 u4).trans h1) o
theorem InsF.offB {w W4 w6:World} {c g n cap:Nat} {v:Value} {xs:List Value} (h:InsF w W4 w6 c g n cap v xs) (hc:c<w.heap.size) (u0 u1 u2 u3 u4:Value) (o:Nat) (ho:o≠0) :
  (put5o (w6.setCell ⟨c,0,none⟩ (.slice (some ⟨g,0,none⟩) (n+1) cap)) g (n*5) u0 u1 u2 u3 u4).cell? ⟨c,o,none⟩=w.cell? ⟨c,o,none⟩:=by
 obtain ⟨h1,h2⟩:=h.block c hc (fun e=>h.apart e.symm)
 rw [cell_of (put5o_other _ h2 (n*5) u0 u1 u2 u3 u4) o,World.cell?_setCell_other _ _ _ _ (by simp)]
 exact cell_of h1 o
set_option maxHeartbeats 4000000 in
set_option maxRecDepth 100000 in
theorem emit_any {Tb:World→Prop} (hV:ValidSaid Tb) (hL:Lies Tb) (c f:Nat) (t:T) (v:Value) (n:Nat) (xs:List Value) (A C:Option Addr) (B D:Nat) (w:World) (h:Mk w c v n xs) (hn:n≤1000000) (ha:At w f (.agg #[.int .i64 (kindOf t),.int .i64 (nOf t),.string (sOf t),.slice A (nL t) B,.slice C (nK t) D]) t) (hT:Tb w) :
  Calls Tryz.prog 227 #[.pointer (some ⟨c,0,none⟩),.agg #[.int .i64 (kindOf t),.int .i64 (nOf t),.string (sOf t),.slice A (nL t) B,.slice C (nK t) D]] w (EmPost w c t v n xs [.int .i64 (kindOf t),.int .i64 (nOf t),.string (sOf t),.slice A (nL t) B,.slice C (nK t) D]):=by
 obtain ⟨iV,hiV,zV0,zV1,zV2⟩:=info_parts infoV
 have HB1:Hid (Below w.heap.size w (w.alloc (.cells #[.int .i64 (kindOf t),.int .i64 (nOf t),.string (sOf t),.slice A (nL t) B,.slice C (nK t) D] 36))):=(Below.refl _ _).alloc (Nat.le_refl _) _
 have HBx:=hid (box_new w (.int .i64 (kindOf t)) (.int .i64 (nOf t)) (.string (sOf t)) (.slice A (nL t) B) (.slice C (nK t) D))
 have HTb:=hid (tooBig_any hV hL f _ t _ (ha.keep HB1.out) (hL w hT _ _ hT HB1.out))
 have HM:=hid h
 have Hcl:=hid h.low
 clear h ha hT hV hL
 cases hb:tooBig t with
 | true =>
  rw [hb] at HTb
  have Hb:=hid hb
  clear hb
  go_enter Tryz.func227,Tryz.ntmps227
  go_wp2_with fail
  refine HTb.out.mono ?_
  rintro e w2 ⟨rfl,b2⟩
  have HB2:=hid (HB1.out.trans (b2.mono HB1.out.size))
  clear b2 HTb
  go_wp2_with fail
  go_ret
  exact .inl ⟨HB2.out,Hb.out,rfl⟩
 | false =>
  rw [hb] at HTb
  have Hb:=hid hb
  clear hb
  go_enter Tryz.func227,Tryz.ntmps227
  go_wp2_with fail
  refine HTb.out.mono ?_
  rintro e w2 ⟨rfl,b2⟩
  have HB2:=hid (HB1.out.trans (b2.mono HB1.out.size))
  have HX2:=hid (HBx.out.stay b2)
  have HM2:=hid (HM.out.keep HB2.out)
  obtain ⟨La,Lc,rfl⟩:=own_shape HM2.out.row
  clear b2 HTb HBx HB1 HM
  have HA3:Hid (Below w2.heap.size w2 (w2.alloc (.cells #[.int .i64 0,.int .i64 0,.string ⟨#[]⟩,.slice none 0 0,.slice none 0 0] 36))):=(Below.refl _ _).alloc (Nat.le_refl _) _
  have HM3:=hid (HM2.out.keep HA3.out)
  have HX3:=hid (HX2.out.stay HA3.out)
  have HM4:=hid (HM3.out.keep (below_drew _))
  have HX4:=hid (HX3.out.stay (below_drew _))
  have hc0:=HM2.out.cell
  have hc0a:=HM3.out.cell
  have hnn:(n:Int)<(n:Int)+1:=by omega
  have HXl:Hid (xs.length=n*5):=HM2.out.row.1
  have HGc:Hid (∀ g,((Value.slice La n Lc).ownBlock=some g∨g=w2.heap.size+1)→g≠c):=fun g hg e=>by
   subst e
   rcases hg with hg | hg
   ·exact HM2.out.apart hg
   ·have:=HM2.out.low;omega
  have r0:=HX2.out.q0
  have r1:=HX2.out.q1
  have r2:=HX2.out.q2
  have r3:=HX2.out.q3
  have r4:=HX2.out.q4
  have ra0:=HX3.out.q0
  have ra1:=HX3.out.q1
  have ra2:=HX3.out.q2
  have ra3:=HX3.out.q3
  have ra4:=HX3.out.q4
  go_wp2_with fail
  go_region_law (refine step_append_lies _ (by rfl) _ _ _ (by rfl) 0 36 iV _ 5 80 Tryz.underlying34 hiV zV0 zV1 zV2 rfl (by omega) (.slice La n Lc) n xs (by rfl) HM4.out.row ⟨w2.heap.size,0,none⟩ 1 1 [.int .i64 0,.int .i64 0,.string ⟨#[]⟩,.slice none 0 0,.slice none 0 0] (by rfl) (by rfl) (World.news_of_block (cs:=#[.int .i64 0,.int .i64 0,.string ⟨#[]⟩,.slice none 0 0,.slice none 0 0]) (t:=36) (fr:=(0,0)) (heap_alloc_new w2 _)) (by simp [Value.oneCell']) (by omega) (by unfold maxLen;omega) (by omega) (Nat.zero_le _) (w2.heap.size+1) (by simp) ?_;intro g cap w6 hown6 hgrow6 hat6 hlt6;have hgc:g≠c:=HGc.out g hat6;have hcg:c≠g:=fun e=>hgc e.symm;have HB6:=hid (hgrow6.block c HM4.out.low (fun e=>HM4.out.apart e.symm));have c6:=(cell_of HB6.out 0).trans HM4.out.cell;have f6:=(World.frozen?_of_block (a:=⟨c,0,none⟩) HB6.out).trans HM4.out.free;have y0:w6.cell? ⟨g,n*5,none⟩=some (.int .i64 0):=new_cell hown6 HXl.out 0 (by omega) rfl;have z0:w6.frozen? ⟨g,n*5,none⟩=false:=hown6.frozenAt _;have y1:w6.cell? ⟨g,n*5+1,none⟩=some (.int .i64 0):=new_cell hown6 HXl.out 1 (by omega) rfl;have z1:w6.frozen? ⟨g,n*5+1,none⟩=false:=hown6.frozenAt _;have y2:w6.cell? ⟨g,n*5+2,none⟩=some (.string ⟨#[]⟩):=new_cell hown6 HXl.out 2 (by omega) rfl;have z2:w6.frozen? ⟨g,n*5+2,none⟩=false:=hown6.frozenAt _;have y3:w6.cell? ⟨g,n*5+3,none⟩=some (.slice none 0 0):=new_cell hown6 HXl.out 3 (by omega) rfl;have z3:w6.frozen? ⟨g,n*5+3,none⟩=false:=hown6.frozenAt _;have y4:w6.cell? ⟨g,n*5+4,none⟩=some (.slice none 0 0):=new_cell hown6 HXl.out 4 (by omega) rfl;have z4:w6.frozen? ⟨g,n*5+4,none⟩=false:=hown6.frozenAt _)
  all_goals
   have HF:=hid (InsF.mk (w:=w) (lt:=HM2.out.row.1) hown6 hgrow6 ((HB2.out.trans (HA3.out.mono HB2.out.size)).drew) (hat6.imp id (fun e=>by have:=HB2.out.size;omega)) c6 f6 hgc HM2.out.apart)
   clear hown6 hgrow6 hat6 hlt6 y0 y1 y2 y3 y4 z0 z1 z2 z3 z4 c6 f6 hgc hcg HB6
   go_wp2_with fail
   go_ret
   have HFA:=hid (HF.out.finA (.int .i64 (kindOf t)) (.int .i64 (nOf t)) (.string (sOf t)) (.slice A (nL t) B) (.slice C (nK t) D))
   have HFB:=hid (HF.out.finB (.int .i64 (kindOf t)) (.int .i64 (nOf t)) (.string (sOf t)) (.slice A (nL t) B) (.slice C (nK t) D))
   have HOA:=hid (HF.out.offA Hcl.out (.int .i64 (kindOf t)) (.int .i64 (nOf t)) (.string (sOf t)) (.slice A (nL t) B) (.slice C (nK t) D))
   have HOB:=hid (HF.out.offB Hcl.out (.int .i64 (kindOf t)) (.int .i64 (nOf t)) (.string (sOf t)) (.slice A (nL t) B) (.slice C (nK t) D))
   unfold put5o at HFA HFB HOA HOB
   unfold EmPost
   refine .inr ⟨?_,Hb.out,rfl,?_,g,cap,?_⟩
   ·first | with_reducible exact HFA.out.1 | with_reducible exact HFB.out.1
   ·first | with_reducible exact HOA.out | with_reducible exact HOB.out
   ·first | with_reducible exact HFA.out.2 | with_reducible exact HFB.out.2
end Go.Proofs.YtknakfpciccoaabGreatDoor
