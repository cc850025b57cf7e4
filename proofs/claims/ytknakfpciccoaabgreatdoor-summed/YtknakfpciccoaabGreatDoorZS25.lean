import Derived.Test.YtknakfpciccoaabGreatDoorZS24
import Derived.Test.YtknakfpciccoaabGreatDoorZS18
import Derived.Test.YtknakfpciccoaabGreatDoorZS7
/- The walk of an entry's add: sums. -/
namespace Go.Proofs.YtknakfpciccoaabGreatDoor
open Go.RowKit
def accV (op : ByteArray) (s v : T) : Int⊕T :=
 if op=gSum then (match sumE s v with | .inl x=>.inl x | .inr n=>.inr (nT n)) else if kindOf s=0∨repE op s v=true then .inr v else .inr s
def accG (g : T→Int⊕T) (op : ByteArray) (s doc : T) : Int⊕T:=match g doc with
 | .inl x=>.inl x
 | .inr v=>accV op s v
def AdPost (w0 : World) (r : Int⊕T) (w : World) (e : Ending) (w' : World) : Prop :=
 Below w.heap.size w w'∧((∃ x,r=.inl x∧x≠0∧e=.returned (.tuple #[.agg #[.int .i64 0,.int .i64 0,.string ⟨#[]⟩,.slice none 0 0,.slice none 0 0],.int .i64 x]))∨∃ t A B C D,r=.inr t∧e=.returned (.tuple #[.agg #[.int .i64 (kindOf t),.int .i64 (nOf t),.string (sOf t),.slice A (nL t) B,.slice C (nK t) D],.int .i64 0])∧At w0 13 (.agg #[.int .i64 (kindOf t),.int .i64 (nOf t),.string (sOf t),.slice A (nL t) B,.slice C (nK t) D]) t∧(kindOf t≠0→okA t))
theorem num_at (w : World) {n : Int} (h : fits64 n) : At w 13 (.agg #[.int .i64 3,.int .i64 n,.string ⟨#[]⟩,.slice none 0 0,.slice none 0 0]) (nT n):=by
 have h1 : At w 1 (.agg #[.int .i64 3,.int .i64 n,.string ⟨#[]⟩,.slice none 0 0,.slice none 0 0]) (nT n):=by
  refine ⟨none,none,0,0,rfl,⟨by show -9223372036854775808≤(3 : Int); omega,by show (3 : Int)≤9223372036854775807; omega,h.1,h.2,?_,?_,?_⟩,fun i hi=>absurd hi (Nat.not_lt_zero i),fun i hi=>absurd hi (Nat.not_lt_zero i)⟩
  ·show (0 : Nat)≤_; omega
  ·show (0 : Nat)≤_; omega
  ·show (0 : Nat)≤_; omega
 exact h1.up (by omega)
theorem num_okA (n : Int) : okA (nT n):=good_okA (m:=0) (show leafGood (nT n) from ⟨rfl,rfl,.inr (.inr (.inl ⟨rfl,noText_mk 3 n [] []⟩))⟩) (by show leafBytes (nT n)≤_; unfold leafBytes; rw [if_neg (by show ¬ (3 : Int)=1; omega),if_neg (by show ¬ (3 : Int)=2; omega),if_pos (by rfl)]; omega)
structure AdB (op : ByteArray) (ty : TypeId) (p : Value) (s : T) (A C : Option Addr) (B D : Nat) (b : Nat) (w : World) : Prop where
 e0 : w.cell? ⟨b,0,none⟩=some (.string op)
 e1 : w.cell? ⟨b,1,none⟩=some (.iface ty p)
 s : BoxAt (b+1) (.int .i64 (kindOf s)) (.int .i64 (nOf s)) (.string (sOf s)) (.slice A (nL s) B) (.slice C (nK s) D) w
 r : BoxAt (b+3) (.int .i64 0) (.int .i64 0) (.string ⟨#[]⟩) (.slice none 0 0) (.slice none 0 0) w
theorem AdB.keep {op : ByteArray} {ty : TypeId} {p : Value} {s : T} {A C : Option Addr} {B D b : Nat} {w w' : World} (h : AdB op ty p s A C B D b w) (hb : Below w.heap.size w w') : AdB op ty p s A C B D b w' :=
 have hl : b<w.heap.size:=by have:=h.s.lt; omega
 ⟨(hb.cell (p:=⟨b,0,none⟩) hl).trans h.e0,(hb.cell (p:=⟨b,1,none⟩) hl).trans h.e1,h.s.stay hb,h.r.stay hb⟩
theorem AdB.new (op : ByteArray) (ty : TypeId) (p : Value) (s doc : T) (A C La Ka : Option Addr) (B D Lc Kc : Nat) (w : World) : AdB op ty p s A C B D w.heap.size ((((w.alloc (.cells #[.string op,.iface ty p] 239)).alloc (.cells #[.int .i64 (kindOf s),.int .i64 (nOf s),.string (sOf s),.slice A (nL s) B,.slice C (nK s) D] 36)).alloc (.cells #[.int .i64 (kindOf doc),.int .i64 (nOf doc),.string (sOf doc),.slice La (nL doc) Lc,.slice Ka (nK doc) Kc] 36)).alloc (.cells #[.int .i64 0,.int .i64 0,.string ⟨#[]⟩,.slice none 0 0,.slice none 0 0] 36))∧Below w.heap.size w ((((w.alloc (.cells #[.string op,.iface ty p] 239)).alloc (.cells #[.int .i64 (kindOf s),.int .i64 (nOf s),.string (sOf s),.slice A (nL s) B,.slice C (nK s) D] 36)).alloc (.cells #[.int .i64 (kindOf doc),.int .i64 (nOf doc),.string (sOf doc),.slice La (nL doc) Lc,.slice Ka (nK doc) Kc] 36)).alloc (.cells #[.int .i64 0,.int .i64 0,.string ⟨#[]⟩,.slice none 0 0,.slice none 0 0] 36)):=by
 refine ⟨⟨by simp [go_sem],by simp [go_sem],?_,?_⟩,((((Below.refl _ _).alloc (Nat.le_refl _) _).alloc (by simp) _).alloc (by simp; omega) _).alloc (by simp; omega) _⟩
 ·constructor <;> simp [go_sem]
 ·constructor <;> simp [go_sem]
set_option maxHeartbeats 8000000 in
set_option maxRecDepth 100000 in
theorem addSum_any {Tb : World→Prop} (op : ByteArray) (hop : op=gSum) (ty : TypeId) (p : Value) (fid : FuncId) (hm : ∀ w' : World,(method 419 ty p "Of").run Tryz.prog w'=.ok (fid,p) w') (hcall : ∀ (a : Array Value) (w' : World),(callFunc fid a).run Tryz.prog w'=.ok (.enter fid a) w') (g : T→Int⊕T) (w0 : World)
  (hbeh : ∀ (wr : World) (x : Value) (doc : T),Below w0.heap.size w0 wr→At w0 13 x doc→okA doc→Tb wr→Calls Tryz.prog fid #[p,x] wr (EvPost w0 g doc wr)) (s doc : T) (A C : Option Addr) (B D : Nat) (x : Value) (w : World) (hb0 : Below w0.heap.size w0 w) (hs : At w0 13 (.agg #[.int .i64 (kindOf s),.int .i64 (nOf s),.string (sOf s),.slice A (nL s) B,.slice C (nK s) D]) s) (hd : At w0 13 x doc) (hok : okA doc) (hT : ∀ w',Below w.heap.size w w'→Tb w') :
  Calls Tryz.prog 241 #[.agg #[.string op,.iface ty p],.agg #[.int .i64 (kindOf s),.int .i64 (nOf s),.string (sOf s),.slice A (nL s) B,.slice C (nK s) D],x] w (AdPost w0 (accG g op s doc) w):=by
 have Hs:=hid hs
 have h64 : fits64 (nOf s):=by obtain ⟨_,_,_,_,_,_,_,hf,_,_⟩:=hs.open; exact ⟨hf.n0,hf.n1⟩
 obtain ⟨g1,La,Ka,Lc,Kc,hg1,hx,_,_,_⟩:=hd.open
 have HN:=hid (AdB.new op ty p s doc A C La Ka B D Lc Kc w)
 have HC:=hid (hbeh _ x doc (hb0.trans (HN.out.2.mono hb0.size)) hd hok (hT _ HN.out.2))
 have hmw:=hm ((((w.alloc (.cells #[.string op,.iface ty p] 239)).alloc (.cells #[.int .i64 (kindOf s),.int .i64 (nOf s),.string (sOf s),.slice A (nL s) B,.slice C (nK s) D] 36)).alloc (.cells #[.int .i64 (kindOf doc),.int .i64 (nOf doc),.string (sOf doc),.slice La (nL doc) Lc,.slice Ka (nK doc) Kc] 36)).alloc (.cells #[.int .i64 0,.int .i64 0,.string ⟨#[]⟩,.slice none 0 0,.slice none 0 0] 36))
 subst hx
 clear hd hok hg1 hm hbeh
 have Hop:=hid hop
 have HH64:=hid h64
 subst hop
 clear h64 hs
 unfold gSum at *
 go_enter Tryz.func241,Tryz.ntmps241
 go_wp2_with fail
 refine HC.out.mono ?_
 rintro e w5 ⟨b5,⟨er,hg,hne,rfl⟩ | ⟨t,A2,B2,C2,D2,hg,rfl,ha,hk⟩⟩
 ·have ez : (er == 0)=false:=by simpa using hne
  have HF : Hid (accG g ⟨#[36,115,117,109]⟩ s doc=.inl er∧er≠0):=⟨by unfold accG; rw [hg],hne⟩
  have HA5:=hid (HN.out.1.keep b5)
  have HBz : Hid (Below w5.heap.size w5 (w5.alloc (.cells #[.int .i64 0,.int .i64 0,.string ⟨#[]⟩,.slice none 0 0,.slice none 0 0] 36))):=(Below.refl _ _).alloc (Nat.le_refl _) _
  have HB5:=hid (HN.out.2.trans (b5.mono HN.out.2.size))
  have HR:=hid (HA5.out.r.stay HBz.out)
  have HO:=hid (HR.out.put5 (.int .i64 0) (.int .i64 0) (.string ⟨#[]⟩) (.slice none 0 0) (.slice none 0 0))
  have HBf:=hid (below_res (HB5.out.trans (HBz.out.mono HB5.out.size)) (b:=w.heap.size+3) (by omega) (by have:=HR.out.lt; omega) (.int .i64 0) (.int .i64 0) (.string ⟨#[]⟩) (.slice none 0 0) (.slice none 0 0))
  unfold put5 at HO HBf
  clear b5 hg hne HC hmw HN
  have r0:=HR.out.q0
  have r1:=HR.out.q1
  have r2:=HR.out.q2
  have r3:=HR.out.q3
  have r4:=HR.out.q4
  have z0:=HR.out.f0
  have z1:=HR.out.f1
  have z2:=HR.out.f2
  have z3:=HR.out.f3
  have z4:=HR.out.f4
  go_wp2_with fail
  clear r0 r1 r2 r3 r4 z0 z1 z2 z3 z4
  have HO1:=hid HO.out
  have r0:=HO1.out.q0
  have r1:=HO1.out.q1
  have r2:=HO1.out.q2
  have r3:=HO1.out.q3
  have r4:=HO1.out.q4
  refine bodyPost_ret (v:=.tuple #[.agg #[.int .i64 0,.int .i64 0,.string ⟨#[]⟩,.slice none 0 0,.slice none 0 0],.int .i64 er]) (by simp [results,Tryz.results241,go_sem, *]) rfl ?_
  exact ⟨HBf.out,.inl ⟨er,HF.out.1,HF.out.2,rfl⟩⟩
 ·have HA5:=hid (HN.out.1.keep b5)
  have HBz : Hid (Below w5.heap.size w5 (w5.alloc (.cells #[.int .i64 (kindOf t),.int .i64 (nOf t),.string (sOf t),.slice A2 (nL t) B2,.slice C2 (nK t) D2] 36))):=(Below.refl _ _).alloc (Nat.le_refl _) _
  have HB5:=hid (HN.out.2.trans (b5.mono HN.out.2.size))
  have HA6:=hid (HA5.out.keep HBz.out)
  have t64 : fits64 (nOf t):=by obtain ⟨_,_,_,_,_,_,_,hf,_,_⟩:=ha.open; exact ⟨hf.n0,hf.n1⟩
  have HSm:=hid (sum_any s t A C A2 C2 B D B2 D2 (w5.alloc (.cells #[.int .i64 (kindOf t),.int .i64 (nOf t),.string (sOf t),.slice A2 (nL t) B2,.slice C2 (nK t) D2] 36)) HH64.out t64)
  have HG : Hid (accG g ⟨#[36,115,117,109]⟩ s doc=match sumE s t with | .inl x=>.inl x | .inr n=>.inr (nT n)):=by show _=_; unfold accG; rw [hg]; show accV _ s t=_; unfold accV; rw [if_pos (by rfl)]
  have HFit : Hid (∀ n,sumE s t=.inr n→fits64 n):=fun n hn=>by
   unfold sumE at hn
   split at hn
   ·split at hn
    ·simp only [Sum.inr.injEq] at hn; subst hn; assumption
    ·cases hn
   ·cases hn
  have e0:=HA6.out.e0
  have HS6:=hid HA6.out.s
  have y0:=HS6.out.q0
  have y1:=HS6.out.q1
  have y2:=HS6.out.q2
  have y3:=HS6.out.q3
  have y4:=HS6.out.q4
  clear b5 hg ha hk t64 HC hmw HN HA5
  go_wp2_with fail
  refine HSm.out.mono ?_
  rintro e w7 ⟨b7,⟨er,h1,hne,rfl⟩ | ⟨n,h1,rfl⟩⟩
  ·have HR:=hid (HA6.out.r.stay b7)
   have HB7:=hid ((HB5.out.trans (HBz.out.mono HB5.out.size)).trans (b7.mono (HB5.out.trans (HBz.out.mono HB5.out.size)).size))
   have HO:=hid (HR.out.put5 (.int .i64 0) (.int .i64 0) (.string ⟨#[]⟩) (.slice none 0 0) (.slice none 0 0))
   have HBf:=hid (below_res HB7.out (b:=w.heap.size+3) (by omega) (by have:=HR.out.lt; omega) (.int .i64 0) (.int .i64 0) (.string ⟨#[]⟩) (.slice none 0 0) (.slice none 0 0))
   have HF : Hid (accG g ⟨#[36,115,117,109]⟩ s doc=.inl er∧er≠0):=⟨by rw [HG.out,h1],hne⟩
   unfold put5 at HO HBf
   clear b7 h1 hne HSm e0 y0 y1 y2 y3 y4
   have r0:=HR.out.q0
   have r1:=HR.out.q1
   have r2:=HR.out.q2
   have r3:=HR.out.q3
   have r4:=HR.out.q4
   have z0:=HR.out.f0
   have z1:=HR.out.f1
   have z2:=HR.out.f2
   have z3:=HR.out.f3
   have z4:=HR.out.f4
   go_wp2_with fail
   clear r0 r1 r2 r3 r4 z0 z1 z2 z3 z4
   have HO1:=hid HO.out
   have r0:=HO1.out.q0
   have r1:=HO1.out.q1
   have r2:=HO1.out.q2
   have r3:=HO1.out.q3
   have r4:=HO1.out.q4
   refine bodyPost_ret (v:=.tuple #[.agg #[.int .i64 0,.int .i64 0,.string ⟨#[]⟩,.slice none 0 0,.slice none 0 0],.int .i64 er]) (by simp [results,Tryz.results241,go_sem, *]) rfl ?_
   exact ⟨HBf.out,.inl ⟨er,HF.out.1,HF.out.2,rfl⟩⟩
  ·have HR:=hid (HA6.out.r.stay b7)
   have HB7:=hid ((HB5.out.trans (HBz.out.mono HB5.out.size)).trans (b7.mono (HB5.out.trans (HBz.out.mono HB5.out.size)).size))
   have HO:=hid (HR.out.put5 (.int .i64 3) (.int .i64 n) (.string ⟨#[]⟩) (.slice none 0 0) (.slice none 0 0))
   have HBf:=hid (below_res HB7.out (b:=w.heap.size+3) (by omega) (by have:=HR.out.lt; omega) (.int .i64 3) (.int .i64 n) (.string ⟨#[]⟩) (.slice none 0 0) (.slice none 0 0))
   have HF : Hid (accG g ⟨#[36,115,117,109]⟩ s doc=.inr (nT n)∧fits64 n):=⟨by rw [HG.out,h1],HFit.out n h1⟩
   unfold put5 at HO HBf
   clear b7 h1 HSm e0 y0 y1 y2 y3 y4
   have r0:=HR.out.q0
   have r1:=HR.out.q1
   have r2:=HR.out.q2
   have r3:=HR.out.q3
   have r4:=HR.out.q4
   have z0:=HR.out.f0
   have z1:=HR.out.f1
   have z2:=HR.out.f2
   have z3:=HR.out.f3
   have z4:=HR.out.f4
   go_wp2_with fail
   clear r0 r1 r2 r3 r4 z0 z1 z2 z3 z4
   have HO1:=hid HO.out
   have r0:=HO1.out.q0
   have r1:=HO1.out.q1
   have r2:=HO1.out.q2
   have r3:=HO1.out.q3
   have r4:=HO1.out.q4
   refine bodyPost_ret (v:=.tuple #[.agg #[.int .i64 3,.int .i64 n,.string ⟨#[]⟩,.slice none 0 0,.slice none 0 0],.int .i64 0]) (by simp [results,Tryz.results241,go_sem, *]) rfl ?_
   exact ⟨HBf.out,.inr ⟨nT n,none,0,none,0,HF.out.1,rfl,num_at _ HF.out.2,fun _=>num_okA n⟩⟩
end Go.Proofs.YtknakfpciccoaabGreatDoor
/- The walk of an entry's add: what is replaced. -/
namespace Go.Proofs.YtknakfpciccoaabGreatDoor
open Go.RowKit
set_option maxHeartbeats 8000000 in
set_option maxRecDepth 100000 in
theorem addRep_any {Tb : World→Prop} (op : ByteArray) (hop : op=gMin∨op=gMax∨op=gFirst∨op=gLast) (ty : TypeId) (p : Value) (fid : FuncId) (hm : ∀ w' : World,(method 419 ty p "Of").run Tryz.prog w'=.ok (fid,p) w') (hcall : ∀ (a : Array Value) (w' : World),(callFunc fid a).run Tryz.prog w'=.ok (.enter fid a) w') (g : T→Int⊕T) (w0 : World)
  (hbeh : ∀ (wr : World) (x : Value) (doc : T),Below w0.heap.size w0 wr→At w0 13 x doc→okA doc→Tb wr→Calls Tryz.prog fid #[p,x] wr (EvPost w0 g doc wr)) (s doc : T) (A C : Option Addr) (B D : Nat) (x : Value) (w : World) (hb0 : Below w0.heap.size w0 w) (hs : At w0 13 (.agg #[.int .i64 (kindOf s),.int .i64 (nOf s),.string (sOf s),.slice A (nL s) B,.slice C (nK s) D]) s) (hks : kindOf s≠0→okA s) (hd : At w0 13 x doc) (hok : okA doc) (hT : ∀ w',Below w.heap.size w w'→Tb w') :
  Calls Tryz.prog 241 #[.agg #[.string op,.iface ty p],.agg #[.int .i64 (kindOf s),.int .i64 (nOf s),.string (sOf s),.slice A (nL s) B,.slice C (nK s) D],x] w (AdPost w0 (accG g op s doc) w):=by
 have Hs:=hid hs
 have HKs:=hid hks
 obtain ⟨g1,La,Ka,Lc,Kc,hg1,hx,_,_,_⟩:=hd.open
 have HN:=hid (AdB.new op ty p s doc A C La Ka B D Lc Kc w)
 have HC:=hid (hbeh _ x doc (hb0.trans (HN.out.2.mono hb0.size)) hd hok (hT _ HN.out.2))
 have hmw:=hm ((((w.alloc (.cells #[.string op,.iface ty p] 239)).alloc (.cells #[.int .i64 (kindOf s),.int .i64 (nOf s),.string (sOf s),.slice A (nL s) B,.slice C (nK s) D] 36)).alloc (.cells #[.int .i64 (kindOf doc),.int .i64 (nOf doc),.string (sOf doc),.slice La (nL doc) Lc,.slice Ka (nK doc) Kc] 36)).alloc (.cells #[.int .i64 0,.int .i64 0,.string ⟨#[]⟩,.slice none 0 0,.slice none 0 0] 36))
 subst hx
 clear hd hok hg1 hm hbeh
 have Hop:=hid hop
 have HB0:=hid hb0
 have n1 : (op.toList == [36,115,117,109])=false:=lit_no (b:=gSum) (by rcases hop with h | h | h | h <;> rw [h] <;> decide)
 have n2 : (op.toList == [36,108,105,115,116])=false:=lit_no (b:=gList) (by rcases hop with h | h | h | h <;> rw [h] <;> decide)
 have HV : Hid (∀ t,accV op s t=if kindOf s=0∨repE op s t=true then .inr t else .inr s):=fun t=>by unfold accV; rw [if_neg (by rcases Hop.out with h | h | h | h <;> rw [h] <;> decide)]
 clear hs hks hop hb0
 go_enter Tryz.func241,Tryz.ntmps241
 go_wp2_with fail
 refine HC.out.mono ?_
 rintro e w5 ⟨b5,⟨er,hg,hne,rfl⟩ | ⟨t,A2,B2,C2,D2,hg,rfl,ha,hk⟩⟩
 ·have ez : (er == 0)=false:=by simpa using hne
  have HF : Hid (accG g op s doc=.inl er∧er≠0):=⟨by unfold accG; rw [hg],hne⟩
  have HA5:=hid (HN.out.1.keep b5)
  have HBz : Hid (Below w5.heap.size w5 (w5.alloc (.cells #[.int .i64 0,.int .i64 0,.string ⟨#[]⟩,.slice none 0 0,.slice none 0 0] 36))):=(Below.refl _ _).alloc (Nat.le_refl _) _
  have HB5:=hid (HN.out.2.trans (b5.mono HN.out.2.size))
  have HR:=hid (HA5.out.r.stay HBz.out)
  have HO:=hid (HR.out.put5 (.int .i64 0) (.int .i64 0) (.string ⟨#[]⟩) (.slice none 0 0) (.slice none 0 0))
  have HBf:=hid (below_res (HB5.out.trans (HBz.out.mono HB5.out.size)) (b:=w.heap.size+3) (by omega) (by have:=HR.out.lt; omega) (.int .i64 0) (.int .i64 0) (.string ⟨#[]⟩) (.slice none 0 0) (.slice none 0 0))
  unfold put5 at HO HBf
  clear b5 hg hne HC hmw HN
  have r0:=HR.out.q0
  have r1:=HR.out.q1
  have r2:=HR.out.q2
  have r3:=HR.out.q3
  have r4:=HR.out.q4
  have z0:=HR.out.f0
  have z1:=HR.out.f1
  have z2:=HR.out.f2
  have z3:=HR.out.f3
  have z4:=HR.out.f4
  go_wp2_with fail
  clear r0 r1 r2 r3 r4 z0 z1 z2 z3 z4
  have HO1:=hid HO.out
  have r0:=HO1.out.q0
  have r1:=HO1.out.q1
  have r2:=HO1.out.q2
  have r3:=HO1.out.q3
  have r4:=HO1.out.q4
  refine bodyPost_ret (v:=.tuple #[.agg #[.int .i64 0,.int .i64 0,.string ⟨#[]⟩,.slice none 0 0,.slice none 0 0],.int .i64 er]) (by simp [results,Tryz.results241,go_sem, *]) rfl ?_
  exact ⟨HBf.out,.inl ⟨er,HF.out.1,HF.out.2,rfl⟩⟩
 ·have HA5:=hid (HN.out.1.keep b5)
  have HBz : Hid (Below w5.heap.size w5 (w5.alloc (.cells #[.int .i64 (kindOf t),.int .i64 (nOf t),.string (sOf t),.slice A2 (nL t) B2,.slice C2 (nK t) D2] 36))):=(Below.refl _ _).alloc (Nat.le_refl _) _
  have HB5:=hid (HN.out.2.trans (b5.mono HN.out.2.size))
  have HB6:=hid (HB5.out.trans (HBz.out.mono HB5.out.size))
  have HA6:=hid (HA5.out.keep HBz.out)
  have HY6:=hid (box_new w5 (.int .i64 (kindOf t)) (.int .i64 (nOf t)) (.string (sOf t)) (.slice A2 (nL t) B2) (.slice C2 (nK t) D2))
  have HG : Hid (accG g op s doc=if kindOf s=0∨repE op s t=true then .inr t else .inr s):=by show _=_; unfold accG; rw [hg]; exact HV.out t
  have HAt:=hid (And.intro ha hk)
  have e0:=HA6.out.e0
  have e1:=HA6.out.e1
  have HS6:=hid HA6.out.s
  have y0:=HS6.out.q0
  have y1:=HS6.out.q1
  have y2:=HS6.out.q2
  have y3:=HS6.out.q3
  have y4:=HS6.out.q4
  clear b5 hg ha hk HC hmw HN HA5
  by_cases h0 : kindOf s=0
  ·have ez : (kindOf s == 0)=true:=by simpa using h0
   have HF : Hid (accG g op s doc=.inr t):=by show _=_; rw [HG.out,if_pos (.inl h0)]
   have HR:=hid HA6.out.r
   have HO:=hid (HR.out.put5 (.int .i64 (kindOf t)) (.int .i64 (nOf t)) (.string (sOf t)) (.slice A2 (nL t) B2) (.slice C2 (nK t) D2))
   have HBf:=hid (below_res HB6.out (b:=w.heap.size+3) (by omega) (by have:=HR.out.lt; omega) (.int .i64 (kindOf t)) (.int .i64 (nOf t)) (.string (sOf t)) (.slice A2 (nL t) B2) (.slice C2 (nK t) D2))
   unfold put5 at HO HBf
   clear h0
   have r0:=HR.out.q0
   have r1:=HR.out.q1
   have r2:=HR.out.q2
   have r3:=HR.out.q3
   have r4:=HR.out.q4
   have z0:=HR.out.f0
   have z1:=HR.out.f1
   have z2:=HR.out.f2
   have z3:=HR.out.f3
   have z4:=HR.out.f4
   go_wp2_with fail
   clear r0 r1 r2 r3 r4 z0 z1 z2 z3 z4
   have HO1:=hid HO.out
   have r0:=HO1.out.q0
   have r1:=HO1.out.q1
   have r2:=HO1.out.q2
   have r3:=HO1.out.q3
   have r4:=HO1.out.q4
   refine bodyPost_ret (v:=.tuple #[.agg #[.int .i64 (kindOf t),.int .i64 (nOf t),.string (sOf t),.slice A2 (nL t) B2,.slice C2 (nK t) D2],.int .i64 0]) (by simp [results,Tryz.results241,go_sem, *]) rfl ?_
   exact ⟨HBf.out,.inr ⟨t,A2,B2,C2,D2,HF.out,rfl,HAt.out.1,fun _=>HAt.out.2⟩⟩
  ·have ez : (kindOf s == 0)=false:=by simpa using h0
   have HRp:=hid (replaces_any op Hop.out ty p s t A C A2 C2 B D B2 D2 (w5.alloc (.cells #[.int .i64 (kindOf t),.int .i64 (nOf t),.string (sOf t),.slice A2 (nL t) B2,.slice C2 (nK t) D2] 36)) (Hs.out.keep (HB0.out.trans (HB6.out.mono HB0.out.size))) (HKs.out h0) (HAt.out.1.keep (HB0.out.trans (HB6.out.mono HB0.out.size))) HAt.out.2)
   have HG2 : Hid (accG g op s doc=if repE op s t=true then .inr t else .inr s):=by show _=_; rw [HG.out]; simp [h0]
   have HK2:=hid (HKs.out h0)
   clear h0 HG
   cases hr : repE op s t with
   | true =>
    rw [hr] at HRp HG2
    have HF : Hid (accG g op s doc=.inr t):=HG2.out
    clear hr HG2
    go_wp2_with fail
    refine HRp.out.mono ?_
    rintro e w7 ⟨rfl,b7⟩
    have HR:=hid (HA6.out.r.stay b7)
    have HY7:=hid (HY6.out.stay b7)
    have HB7:=hid (HB6.out.trans (b7.mono HB6.out.size))
    have HO:=hid (HR.out.put5 (.int .i64 (kindOf t)) (.int .i64 (nOf t)) (.string (sOf t)) (.slice A2 (nL t) B2) (.slice C2 (nK t) D2))
    have HBf:=hid (below_res HB7.out (b:=w.heap.size+3) (by omega) (by have:=HR.out.lt; omega) (.int .i64 (kindOf t)) (.int .i64 (nOf t)) (.string (sOf t)) (.slice A2 (nL t) B2) (.slice C2 (nK t) D2))
    unfold put5 at HO HBf
    clear b7 HRp y0 y1 y2 y3 y4 e0 e1
    have u0:=HY7.out.q0
    have u1:=HY7.out.q1
    have u2:=HY7.out.q2
    have u3:=HY7.out.q3
    have u4:=HY7.out.q4
    have r0:=HR.out.q0
    have r1:=HR.out.q1
    have r2:=HR.out.q2
    have r3:=HR.out.q3
    have r4:=HR.out.q4
    have z0:=HR.out.f0
    have z1:=HR.out.f1
    have z2:=HR.out.f2
    have z3:=HR.out.f3
    have z4:=HR.out.f4
    go_wp2_with fail
    clear r0 r1 r2 r3 r4 z0 z1 z2 z3 z4
    have HO1:=hid HO.out
    have r0:=HO1.out.q0
    have r1:=HO1.out.q1
    have r2:=HO1.out.q2
    have r3:=HO1.out.q3
    have r4:=HO1.out.q4
    refine bodyPost_ret (v:=.tuple #[.agg #[.int .i64 (kindOf t),.int .i64 (nOf t),.string (sOf t),.slice A2 (nL t) B2,.slice C2 (nK t) D2],.int .i64 0]) (by simp [results,Tryz.results241,go_sem, *]) rfl ?_
    exact ⟨HBf.out,.inr ⟨t,A2,B2,C2,D2,HF.out,rfl,HAt.out.1,fun _=>HAt.out.2⟩⟩
   | false =>
    rw [hr] at HRp HG2
    have HF : Hid (accG g op s doc=.inr s):=HG2.out
    clear hr HG2
    go_wp2_with fail
    refine HRp.out.mono ?_
    rintro e w7 ⟨rfl,b7⟩
    have HR:=hid (HA6.out.r.stay b7)
    have HS7:=hid (HA6.out.s.stay b7)
    have HB7:=hid (HB6.out.trans (b7.mono HB6.out.size))
    have HO:=hid (HR.out.put5 (.int .i64 (kindOf s)) (.int .i64 (nOf s)) (.string (sOf s)) (.slice A (nL s) B) (.slice C (nK s) D))
    have HBf:=hid (below_res HB7.out (b:=w.heap.size+3) (by omega) (by have:=HR.out.lt; omega) (.int .i64 (kindOf s)) (.int .i64 (nOf s)) (.string (sOf s)) (.slice A (nL s) B) (.slice C (nK s) D))
    unfold put5 at HO HBf
    clear b7 HRp y0 y1 y2 y3 y4 e0 e1
    have u0:=HS7.out.q0
    have u1:=HS7.out.q1
    have u2:=HS7.out.q2
    have u3:=HS7.out.q3
    have u4:=HS7.out.q4
    have r0:=HR.out.q0
    have r1:=HR.out.q1
    have r2:=HR.out.q2
    have r3:=HR.out.q3
    have r4:=HR.out.q4
    have z0:=HR.out.f0
    have z1:=HR.out.f1
    have z2:=HR.out.f2
    have z3:=HR.out.f3
    have z4:=HR.out.f4
    go_wp2_with fail
    clear r0 r1 r2 r3 r4 z0 z1 z2 z3 z4
    have HO1:=hid HO.out
    have r0:=HO1.out.q0
    have r1:=HO1.out.q1
    have r2:=HO1.out.q2
    have r3:=HO1.out.q3
    have r4:=HO1.out.q4
    refine bodyPost_ret (v:=.tuple #[.agg #[.int .i64 (kindOf s),.int .i64 (nOf s),.string (sOf s),.slice A (nL s) B,.slice C (nK s) D],.int .i64 0]) (by simp [results,Tryz.results241,go_sem, *]) rfl ?_
    exact ⟨HBf.out,.inr ⟨s,A,B,C,D,HF.out,rfl,Hs.out,fun _=>HK2.out⟩⟩
end Go.Proofs.YtknakfpciccoaabGreatDoor
/- The walk of an entry's add: lists. -/
namespace Go.Proofs.YtknakfpciccoaabGreatDoor
open Go.RowKit
def AlPost (w0 : World) (lo : Nat) (g : T→Int⊕T) (s : T) (A : Option Addr) (B : Nat) (xs : List Value) (doc : T) (w : World) (e : Ending) (w' : World) : Prop :=
 (Below w.heap.size w w'∧∃ x,g doc=.inl x∧x≠0∧e=.returned (.tuple #[.agg #[.int .i64 0,.int .i64 0,.string ⟨#[]⟩,.slice none 0 0,.slice none 0 0],.int .i64 x])) ∨
 ∃ t A2 B2 C2 D2 A' B',g doc=.inr t∧e=.returned (.tuple #[.agg #[.int .i64 5,.int .i64 0,.string ⟨#[]⟩,.slice A' (nL s+1) B',.slice none 0 0],.int .i64 0])∧w.grownBy w' (Value.slice A (nL s) B).ownBlock∧w'.ownsRow lo 36 5 (.slice A' (nL s+1) B') (nL s+1) (xs ++ [.int .i64 (kindOf t),.int .i64 (nOf t),.string (sOf t),.slice A2 (nL t) B2,.slice C2 (nK t) D2])∧((Value.slice A' (nL s+1) B').ownBlock=(Value.slice A (nL s) B).ownBlock∨∃ b,(Value.slice A' (nL s+1) B').ownBlock=some b∧w.heap.size≤b)∧At w0 13 (.agg #[.int .i64 (kindOf t),.int .i64 (nOf t),.string (sOf t),.slice A2 (nL t) B2,.slice C2 (nK t) D2]) t∧okA t
theorem put5_row {W : World} {b lo : Nat} {v : Value} {n : Nat} {xs : List Value} (h : W.ownsRow lo 36 5 v n xs) (hb : v.ownBlock≠some b) (u0 u1 u2 u3 u4 : Value) : (put5 W b u0 u1 u2 u3 u4).ownsRow lo 36 5 v n xs :=
 own_move h fun k hk=>put5_other W (fun e=>hb (by rw [hk,e])) u0 u1 u2 u3 u4
theorem put5_grown {w W : World} {b : Nat} {ob : Option Nat} (h : w.grownBy W ob) (hb : w.heap.size≤b) (u0 u1 u2 u3 u4 : Value) : w.grownBy (put5 W b u0 u1 u2 u3 u4) ob :=
 ⟨(put5_but W b u0 u1 u2 u3 u4).os.trans h.os,(put5_but W b u0 u1 u2 u3 u4).tape.trans h.tape,(put5_but W b u0 u1 u2 u3 u4).output.trans h.output,by rw [put5_size]; exact h.size,fun k hk hne=>(put5_other W (by omega) u0 u1 u2 u3 u4).trans (h.block k hk hne)⟩
set_option maxHeartbeats 8000000 in
set_option maxRecDepth 100000 in
theorem addList_any {Tb : World→Prop} (op : ByteArray) (hop : op=gList) (ty : TypeId) (p : Value) (fid : FuncId) (hm : ∀ w' : World,(method 419 ty p "Of").run Tryz.prog w'=.ok (fid,p) w') (hcall : ∀ (a : Array Value) (w' : World),(callFunc fid a).run Tryz.prog w'=.ok (.enter fid a) w') (g : T→Int⊕T) (w0 : World)
  (hbeh : ∀ (wr : World) (x : Value) (doc : T),Below w0.heap.size w0 wr→At w0 13 x doc→okA doc→Tb wr→Calls Tryz.prog fid #[p,x] wr (EvPost w0 g doc wr)) (s doc : T) (A C : Option Addr) (B D : Nat) (x : Value) (w : World) (hb0 : Below w0.heap.size w0 w) (lo : Nat) (xs : List Value) (hrow : w.ownsRow lo 36 5 (.slice A (nL s) B) (nL s) xs) (hlo : lo≤w.heap.size) (hn : nL s≤1000000) (hd : At w0 13 x doc) (hok : okA doc) (hT : ∀ w',Below w.heap.size w w'→Tb w') :
  Calls Tryz.prog 241 #[.agg #[.string op,.iface ty p],.agg #[.int .i64 (kindOf s),.int .i64 (nOf s),.string (sOf s),.slice A (nL s) B,.slice C (nK s) D],x] w (AlPost w0 lo g s A B xs doc w):=by
 obtain ⟨iV,hiV,zV0,zV1,zV2⟩:=info_parts infoV
 have Hrow:=hid hrow
 have Hlo:=hid hlo
 obtain ⟨g1,La,Ka,Lc,Kc,hg1,hx,_,_,_⟩:=hd.open
 have HN:=hid (AdB.new op ty p s doc A C La Ka B D Lc Kc w)
 have HC:=hid (hbeh _ x doc (hb0.trans (HN.out.2.mono hb0.size)) hd hok (hT _ HN.out.2))
 have hmw:=hm ((((w.alloc (.cells #[.string op,.iface ty p] 239)).alloc (.cells #[.int .i64 (kindOf s),.int .i64 (nOf s),.string (sOf s),.slice A (nL s) B,.slice C (nK s) D] 36)).alloc (.cells #[.int .i64 (kindOf doc),.int .i64 (nOf doc),.string (sOf doc),.slice La (nL doc) Lc,.slice Ka (nK doc) Kc] 36)).alloc (.cells #[.int .i64 0,.int .i64 0,.string ⟨#[]⟩,.slice none 0 0,.slice none 0 0] 36))
 subst hx
 clear hd hok hg1 hm hbeh
 have n1 : (op.toList == [36,115,117,109])=false:=lit_no (b:=gSum) (by rw [hop]; decide)
 have n2 : (op.toList == [36,108,105,115,116])=true:=lit_is (b:=gList) hop
 clear hrow hlo hb0 hop
 go_enter Tryz.func241,Tryz.ntmps241
 go_wp2_with fail
 refine HC.out.mono ?_
 rintro e w5 ⟨b5,⟨er,hg,hne,rfl⟩ | ⟨t,A2,B2,C2,D2,hg,rfl,ha,hk⟩⟩
 ·have ez : (er == 0)=false:=by simpa using hne
  have HF : Hid (g doc=.inl er∧er≠0):=⟨hg,hne⟩
  have HA5:=hid (HN.out.1.keep b5)
  have HBz : Hid (Below w5.heap.size w5 (w5.alloc (.cells #[.int .i64 0,.int .i64 0,.string ⟨#[]⟩,.slice none 0 0,.slice none 0 0] 36))):=(Below.refl _ _).alloc (Nat.le_refl _) _
  have HB5:=hid (HN.out.2.trans (b5.mono HN.out.2.size))
  have HR:=hid (HA5.out.r.stay HBz.out)
  have HO:=hid (HR.out.put5 (.int .i64 0) (.int .i64 0) (.string ⟨#[]⟩) (.slice none 0 0) (.slice none 0 0))
  have HBf:=hid (below_res (HB5.out.trans (HBz.out.mono HB5.out.size)) (b:=w.heap.size+3) (by omega) (by have:=HR.out.lt; omega) (.int .i64 0) (.int .i64 0) (.string ⟨#[]⟩) (.slice none 0 0) (.slice none 0 0))
  unfold put5 at HO HBf
  clear b5 hg hne HC hmw HN
  have r0:=HR.out.q0
  have r1:=HR.out.q1
  have r2:=HR.out.q2
  have r3:=HR.out.q3
  have r4:=HR.out.q4
  have z0:=HR.out.f0
  have z1:=HR.out.f1
  have z2:=HR.out.f2
  have z3:=HR.out.f3
  have z4:=HR.out.f4
  go_wp2_with fail
  clear r0 r1 r2 r3 r4 z0 z1 z2 z3 z4
  have HO1:=hid HO.out
  have r0:=HO1.out.q0
  have r1:=HO1.out.q1
  have r2:=HO1.out.q2
  have r3:=HO1.out.q3
  have r4:=HO1.out.q4
  refine bodyPost_ret (v:=.tuple #[.agg #[.int .i64 0,.int .i64 0,.string ⟨#[]⟩,.slice none 0 0,.slice none 0 0],.int .i64 er]) (by simp [results,Tryz.results241,go_sem, *]) rfl ?_
  exact .inl ⟨HBf.out,er,HF.out.1,HF.out.2,rfl⟩
 ·have HA5:=hid (HN.out.1.keep b5)
  have HBz : Hid (Below w5.heap.size w5 ((w5.alloc (.cells #[.int .i64 (kindOf t),.int .i64 (nOf t),.string (sOf t),.slice A2 (nL t) B2,.slice C2 (nK t) D2] 36)).alloc (.cells #[.int .i64 (kindOf t),.int .i64 (nOf t),.string (sOf t),.slice A2 (nL t) B2,.slice C2 (nK t) D2] 36))):=((Below.refl _ _).alloc (Nat.le_refl _) _).alloc (by simp) _
  have HBy : Hid (Below w5.heap.size w5 (w5.alloc (.cells #[.int .i64 (kindOf t),.int .i64 (nOf t),.string (sOf t),.slice A2 (nL t) B2,.slice C2 (nK t) D2] 36))):=(Below.refl _ _).alloc (Nat.le_refl _) _
  have HB5:=hid (HN.out.2.trans (b5.mono HN.out.2.size))
  have HB6:=hid (HB5.out.trans (HBz.out.mono HB5.out.size))
  have HA6:=hid (HA5.out.keep HBy.out)
  have HA7:=hid (HA5.out.keep HBz.out)
  have HR6 : Hid (((w5.alloc (.cells #[.int .i64 (kindOf t),.int .i64 (nOf t),.string (sOf t),.slice A2 (nL t) B2,.slice C2 (nK t) D2] 36)).alloc (.cells #[.int .i64 (kindOf t),.int .i64 (nOf t),.string (sOf t),.slice A2 (nL t) B2,.slice C2 (nK t) D2] 36)).ownsRow lo 36 5 (.slice A (nL s) B) (nL s) xs):=rowH_move Hrow.out fun b _ h2=>HB6.out.block b h2
  have HSrc : Hid (Src Tryz.prog 5 34 (.slice (some ⟨w5.heap.size+1,0,none⟩) 1 1) 1 [.int .i64 (kindOf t),.int .i64 (nOf t),.string (sOf t),.slice A2 (nL t) B2,.slice C2 (nK t) D2] ((w5.alloc (.cells #[.int .i64 (kindOf t),.int .i64 (nOf t),.string (sOf t),.slice A2 (nL t) B2,.slice C2 (nK t) D2] 36)).alloc (.cells #[.int .i64 (kindOf t),.int .i64 (nOf t),.string (sOf t),.slice A2 (nL t) B2,.slice C2 (nK t) D2] 36))):=Src.ofSlice _ Tryz.underlying34 ⟨w5.heap.size+1,0,none⟩ 1 1 [.int .i64 (kindOf t),.int .i64 (nOf t),.string (sOf t),.slice A2 (nL t) B2,.slice C2 (nK t) D2] (by simp) (by have:=World.news_of_block (heap_alloc_new (w5.alloc (.cells #[.int .i64 (kindOf t),.int .i64 (nOf t),.string (sOf t),.slice A2 (nL t) B2,.slice C2 (nK t) D2] 36)) (.cells #[.int .i64 (kindOf t),.int .i64 (nOf t),.string (sOf t),.slice A2 (nL t) B2,.slice C2 (nK t) D2] 36)); simpa using this) (by simp [Value.oneCell'])
  have HAt:=hid (And.intro hg (And.intro ha hk))
  have hlo6 : lo≤((w5.alloc (.cells #[.int .i64 (kindOf t),.int .i64 (nOf t),.string (sOf t),.slice A2 (nL t) B2,.slice C2 (nK t) D2] 36)).alloc (.cells #[.int .i64 (kindOf t),.int .i64 (nOf t),.string (sOf t),.slice A2 (nL t) B2,.slice C2 (nK t) D2] 36)).heap.size:=Nat.le_trans Hlo.out HB6.out.size
  have e0:=HA6.out.e0
  have HS6:=hid HA6.out.s
  have y0:=HS6.out.q0
  have y1:=HS6.out.q1
  have y2:=HS6.out.q2
  have y3:=HS6.out.q3
  have y4:=HS6.out.q4
  clear b5 hg ha hk HC hmw HN HA5
  have HOb : Hid (∀ b,(Value.slice A (nL s) B).ownBlock=some b→b<w.heap.size):=fun b hb=>(Hrow.out.lt b hb).2
  have HRx : Hid (∀ w8 : World,((w5.alloc (.cells #[.int .i64 (kindOf t),.int .i64 (nOf t),.string (sOf t),.slice A2 (nL t) B2,.slice C2 (nK t) D2] 36)).alloc (.cells #[.int .i64 (kindOf t),.int .i64 (nOf t),.string (sOf t),.slice A2 (nL t) B2,.slice C2 (nK t) D2] 36)).grownBy w8 (Value.slice A (nL s) B).ownBlock→BoxAt (w.heap.size+3) (.int .i64 0) (.int .i64 0) (.string ⟨#[]⟩) (.slice none 0 0) (.slice none 0 0) w8):=fun w8 hG8=>HA7.out.r.move hG8.size (hG8.block _ HA7.out.r.lt (fun e=>by have:=HOb.out _ e.symm; omega))
  go_wp2_with (at_builtin; refine wpList_append_src _ rfl (.tmp 33) (.tmp 35) 34 34 rfl lo 36 iV _ 5 80 Tryz.underlying34 hiV zV0 zV1 zV2 rfl (.slice A (nL s) B) (nL s) xs rfl HR6.out (.slice (some ⟨w5.heap.size+1,0,none⟩) 1 1) 1 [.int .i64 (kindOf t),.int .i64 (nOf t),.string (sOf t),.slice A2 (nL t) B2,.slice C2 (nK t) D2] rfl HSrc.out (by unfold maxLen; omega) (by omega) hlo6 ?_; intro v' w8 hO8 hG8 hat8; obtain ⟨A',B',rfl⟩:=own_shape hO8; have HR8:=hid (HRx.out w8 hG8); have r0:=HR8.out.q0; have r1:=HR8.out.q1; have r2:=HR8.out.q2; have r3:=HR8.out.q3; have r4:=HR8.out.q4; have z0:=HR8.out.f0; have z1:=HR8.out.f1; have z2:=HR8.out.f2; have z3:=HR8.out.f3; have z4:=HR8.out.f4)
  have hobw:=HOb.out
  have HG8 : Hid (w.grownBy w8 (Value.slice A (nL s) B).ownBlock):=⟨hG8.os.trans HB6.out.os,hG8.tape.trans HB6.out.tape,hG8.output.trans HB6.out.output,Nat.le_trans HB6.out.size hG8.size,fun b hb hne=>(hG8.block b (Nat.lt_of_lt_of_le hb HB6.out.size) hne).trans (HB6.out.block b hb)⟩
  have HO:=hid (HR8.out.put5 (.int .i64 5) (.int .i64 0) (.string ⟨#[]⟩) (.slice A' (nL s+1) B') (.slice none 0 0))
  have HAp : Hid (((Value.slice A' (nL s+1) B').ownBlock=(Value.slice A (nL s) B).ownBlock∨∃ b,(Value.slice A' (nL s+1) B').ownBlock=some b∧w.heap.size≤b)∧(Value.slice A' (nL s+1) B').ownBlock≠some (w.heap.size+3)):=by
   have h7:=HA7.out.r.lt
   rcases hat8 with h | h
   ·exact ⟨.inl h,fun e=>by rw [h] at e; have:=hobw _ e; omega⟩
   ·exact ⟨.inr ⟨_,h,HB6.out.size⟩,fun e=>by rw [h] at e; simp only [Option.some.injEq] at e; omega⟩
  have HRf:=hid (put5_row hO8 HAp.out.2 (.int .i64 5) (.int .i64 0) (.string ⟨#[]⟩) (.slice A' (nL s+1) B') (.slice none 0 0))
  have HGf:=hid (put5_grown HG8.out (b:=w.heap.size+3) (by omega) (.int .i64 5) (.int .i64 0) (.string ⟨#[]⟩) (.slice A' (nL s+1) B') (.slice none 0 0))
  unfold put5 at HO HRf HGf
  clear hO8 hG8 hat8 hobw e0 y0 y1 y2 y3 y4 hlo6
  go_wp2_with fail
  clear r0 r1 r2 r3 r4 z0 z1 z2 z3 z4
  have HO1:=hid HO.out
  have r0:=HO1.out.q0
  have r1:=HO1.out.q1
  have r2:=HO1.out.q2
  have r3:=HO1.out.q3
  have r4:=HO1.out.q4
  refine bodyPost_ret (v:=.tuple #[.agg #[.int .i64 5,.int .i64 0,.string ⟨#[]⟩,.slice A' (nL s+1) B',.slice none 0 0],.int .i64 0]) (by simp [results,Tryz.results241,go_sem, *]) rfl ?_
  exact .inr ⟨t,A2,B2,C2,D2,A',B',HAt.out.1,rfl,HGf.out,HRf.out,HAp.out.1,HAt.out.2.1,HAt.out.2.2⟩
end Go.Proofs.YtknakfpciccoaabGreatDoor
/- isName, New. -/
namespace Go.Proofs.YtknakfpciccoaabGreatDoor
open Go.RowKit Go.Maps Go.WideMaps
def nmB (z : UInt8) : Bool:=decide (97≤z.toNat) && decide (z.toNat≤122)
def isNm (s : ByteArray) : Bool:=s.data.toList.all nmB && (decide ((1 : Int)≤(s.size : Int)) && decide ((s.size : Int)≤12))
theorem nm_bad {s : ByteArray} {k : Nat} {z : UInt8} (h : s.data.toList[k]?=some z) (hz : nmB z=false) : isNm s=false:=by
 have : s.data.toList.all nmB=false:=by
  rw [List.all_eq_false]
  exact ⟨z,List.mem_of_getElem? h,by rw [hz]; simp⟩
 unfold isNm
 rw [this]
 rfl
theorem nm_more {l : List UInt8} {k : Nat} {z : UInt8} (h : l[k]?=some z) (hz : nmB z=true) (ha : (l.take k).all nmB=true) : (l.take (k+1)).all nmB=true:=by
 rw [List.take_add_one,h,List.all_append,ha]
 simp [hz]
set_option maxHeartbeats 4000000 in
set_option maxRecDepth 100000 in
theorem isName_any (s : ByteArray) (w : World) (hs : s.size≤140737488355328) : Calls Tryz.prog 35 #[.string s] w fun e w'=>e=.returned (.bool (isNm s))∧w'=w:=by
 go_enter Tryz.func35,Tryz.ntmps35
 go_wp2_with fail
 go_loopg [6] (s.size) (fun g i wr=>∃ k : Nat,g=s.size - k∧k≤s.size∧i=.int .i64 k∧wr=w∧Hid ((s.data.toList.take k).all nmB=true))
 case atStart=>exact ⟨0,rfl,Nat.zero_le _,rfl,rfl,rfl⟩
 case round =>
  obtain ⟨k,rfl,hk,rfl,rfl,HN⟩:=hrel
  by_cases hlt : k<s.size
  ·obtain ⟨z,hz⟩ : ∃ z : UInt8,s[k]'hlt=z:=⟨_,rfl⟩
   have HZ : Hid (s.data.toList[k]?=some z):=by show _=_; rw [Array.getElem?_toList]; exact get_some hlt hz
   have x1 : (k : Int)<(s.size : Int):=by omega
   have lz : z.toNat<256:=z.toNat_lt
   by_cases h1 : z.toNat<97
   ·have y1 : (z.toNat : Int)<97:=by omega
    have HR : Hid (isNm s=false):=nm_bad HZ.out (by unfold nmB; rw [decide_eq_false (p:=97≤z.toNat) (by omega)]; rfl)
    clear h1
    go_wp2_with fail
    go_ret
    exact ⟨ret_bool (by rw [HR.out]),rfl⟩
   ·have y1 : ¬ (z.toNat : Int)<97:=by omega
    by_cases h2 : 122<z.toNat
    ·have y2 : (122 : Int)<(z.toNat : Int):=by omega
     have HR : Hid (isNm s=false):=nm_bad HZ.out (by unfold nmB; rw [decide_eq_false (p:=z.toNat≤122) (by omega)]; simp)
     clear h1 h2
     go_wp2_with fail
     go_ret
     exact ⟨ret_bool (by rw [HR.out]),rfl⟩
    ·have y2 : ¬ (122 : Int)<(z.toNat : Int):=by omega
     have HM:=hid (nm_more HZ.out (by unfold nmB; rw [decide_eq_true (p:=97≤z.toNat) (by omega),decide_eq_true (p:=z.toNat≤122) (by omega)]; rfl) HN.out)
     clear h1 h2
     go_wp2_with fail
     go_roundg (s.size - (k+1))
     case rel=>exact ⟨k+1,rfl,by omega,by go_num,rfl,HM⟩
     case measure=>omega
  ·obtain rfl : k=s.size:=by omega
   have HA : Hid (s.data.toList.all nmB=true):=by
    show _=_
    have:=HN.out
    rwa [List.take_of_length_le (by rw [Array.length_toList]; exact Nat.le_refl _)] at this
   by_cases h1 : 1≤s.size
   ·have y1 : (1 : Int)≤(s.size : Int):=by omega
    have HR : Hid (isNm s=decide ((s.size : Int)≤12)):=by show _=_; unfold isNm; rw [HA.out,decide_eq_true y1]; rfl
    go_wp2_with fail
    go_ret
    exact ⟨ret_bool (by rw [HR.out]),rfl⟩
   ·have y1 : ¬ (1 : Int)≤(s.size : Int):=by omega
    have HR : Hid (isNm s=false):=by show _=_; unfold isNm; rw [HA.out,decide_eq_false y1]; rfl
    go_wp2_with fail
    go_ret
    exact ⟨ret_bool (by rw [HR.out]),rfl⟩
set_option maxHeartbeats 4000000 in
set_option maxRecDepth 100000 in
theorem new_any (w : World) : Calls Tryz.prog 18 #[] w fun e w'=>e=.returned (.pointer (some ⟨w.heap.size+1,0,none⟩))∧w'=(w.alloc (.map #[] 0)).alloc (.cells #[.map (some w.heap.size)] 76):=by
 have hmk : ∀ (w : World),(Instr.makeMap 74 none).run Tryz.prog w=.ok (.map (some w.heap.size)) (w.alloc (.map #[] 0)):=fun w=>run_makeMap _ w
 go_enter Tryz.func18,Tryz.ntmps18
 go_wp2_with fail
 go_ret
 exact ⟨rfl,rfl⟩
end Go.Proofs.YtknakfpciccoaabGreatDoor
/- insert. -/
namespace Go.Proofs.YtknakfpciccoaabGreatDoor
open Go.RowKit
set_option maxHeartbeats 4000000 in
set_option maxRecDepth 100000 in
theorem insert_any (c f : Nat) (t : T) (l : List T) (v : Value) (xs : List Value) (A C : Option Addr) (B D : Nat) (w : World) (h : Col w c f l v xs) (hf : f≤16) (hn : l.length≤1000000) (hd : ∀ i,(h : i<l.length)→Doc l[i]) (ha : At w f (.agg #[.int .i64 (kindOf t),.int .i64 (nOf t),.string (sOf t),.slice A (nL t) B,.slice C (nK t) D]) t) (ht : Doc t) :
  Calls Tryz.prog 38 #[.pointer (some ⟨c,0,none⟩),.agg #[.int .i64 (kindOf t),.int .i64 (nOf t),.string (sOf t),.slice A (nL t) B,.slice C (nK t) D]] w (InsPost w c t l v xs [.int .i64 (kindOf t),.int .i64 (nOf t),.string (sOf t),.slice A (nL t) B,.slice C (nK t) D]):=by
 obtain ⟨iV,hiV,zV0,zV1,zV2⟩:=info_parts infoV
 obtain ⟨hot,k,hk,hkl⟩:=ht
 have HB1 : Hid (Below w.heap.size w (w.alloc (.cells #[.int .i64 (kindOf t),.int .i64 (nOf t),.string (sOf t),.slice A (nL t) B,.slice C (nK t) D] 36))):=(Below.refl _ _).alloc (Nat.le_refl _) _
 have HBx:=hid (box_new w (.int .i64 (kindOf t)) (.int .i64 (nOf t)) (.string (sOf t)) (.slice A (nL t) B) (.slice C (nK t) D))
 have HI:=hid (idOf_any _ _ t k _ (ha.keep HB1.out) hk hkl)
 have Hid1 : Hid (idT t=elt t k):=by show _=_; unfold idT; rw [hk]; rfl
 have HCol:=hid h
 have HH : Hid (∀ (w' : World) (gx : Nat) (vx : Value),Below w.heap.size w w'→At w' gx vx (elt t k)→Calls Tryz.prog 60 #[.pointer (some ⟨c,0,none⟩),vx] w' fun e w2=>e=.returned (.bool (anyL (sameId (idT t)) (mkT 5 0 ByteArray.empty l []) l.length))∧Below w'.heap.size w' w2):=fun w' gx vx hb hx=>by
  obtain ⟨La,Lc,rfl,hel⟩:=(h.keep hb).elems
  have hc:=(h.keep hb).cell
  have e:=Hid1.out
  rw [e]
  exact hasID_any c f gx (mkT 5 0 ByteArray.empty l []) (elt t k) La Lc vx w' hc (h.keep hb).low hel (by rw [nL_mk]; exact hn) hf (fun i hi=>by
   rw [nL_mk] at hi
   have e : elt (mkT 5 0 ByteArray.empty l []) i=l[i]:=by rw [elt_mk,List.getD_eq_getElem?_getD,List.getElem?_eq_getElem hi]; rfl
   rw [e]
   exact hd i hi) hx (hot.elt hkl)
 clear h ha hot hk hkl hd Hid1
 go_enter Tryz.func38,Tryz.ntmps38
 go_wp2_with fail
 refine HI.out.mono ?_
 rintro e w2 ⟨b2,g',A2,B2,C2,D2,hg2,rfl,ha2⟩
 have HB2:=hid (HB1.out.trans (b2.mono HB1.out.size))
 have HX2:=hid (HBx.out.stay b2)
 have HC:=hid (HH.out w2 g' _ HB2.out ha2)
 clear b2 ha2 hg2 HI HH
 cases hany : anyL (sameId (idT t)) (mkT 5 0 ByteArray.empty l []) l.length with
 | true =>
  rw [hany] at HC
  have Hany:=hid hany
  clear hany
  go_wp2_with fail
  refine HC.out.mono ?_
  rintro e w3 ⟨rfl,b3⟩
  have HB3:=hid (HB2.out.trans (b3.mono HB2.out.size))
  clear b3 HC
  go_wp2_with fail
  go_ret
  exact .inl ⟨HB3.out,Hany.out,rfl⟩
 | false =>
  rw [hany] at HC
  have Hany:=hid hany
  clear hany
  go_wp2_with fail
  refine HC.out.mono ?_
  rintro e w3 ⟨rfl,b3⟩
  have HB3:=hid (HB2.out.trans (b3.mono HB2.out.size))
  have HX3:=hid (HX2.out.stay b3)
  have HC3:=hid (HCol.out.keep HB3.out)
  obtain ⟨La,Lc,rfl⟩:=own_shape HC3.out.row
  have hc0:=HC3.out.cell
  clear b3 HC HX2 HBx HB1 HCol
  by_cases h60 : 60≤l.length
  ·have e60 : (60 : Int)≤(l.length : Int):=by omega
   go_wp2_with fail
   go_ret
   exact .inr (.inl ⟨HB3.out,Hany.out,h60,rfl⟩)
  ·have e60 : ¬ (60 : Int)≤(l.length : Int):=by omega
   have HA3 : Hid (Below w3.heap.size w3 (w3.alloc (.cells #[.int .i64 0,.int .i64 0,.string ⟨#[]⟩,.slice none 0 0,.slice none 0 0] 36))):=(Below.refl _ _).alloc (Nat.le_refl _) _
   have HC3a:=hid (HC3.out.keep HA3.out)
   have HX3a:=hid (HX3.out.stay HA3.out)
   have HC4:=hid (HC3a.out.keep (below_drew _))
   have HX4:=hid (HX3a.out.stay (below_drew _))
   have hc0a:=HC3a.out.cell
   have hnn : (l.length : Int)<(l.length : Int)+1:=by omega
   have HXl : Hid (xs.length=l.length * 5):=HC3.out.row.1
   have HGc : Hid (∀ g,((Value.slice La l.length Lc).ownBlock=some g∨g=w3.heap.size+1)→g≠c):=fun g hg e=>by
    subst e
    rcases hg with hg | hg
    ·exact HC3.out.apart hg
    ·have:=HC3.out.low; omega
   have r0:=HX3.out.q0
   have r1:=HX3.out.q1
   have r2:=HX3.out.q2
   have r3:=HX3.out.q3
   have r4:=HX3.out.q4
   have ra0:=HX3a.out.q0
   have ra1:=HX3a.out.q1
   have ra2:=HX3a.out.q2
   have ra3:=HX3a.out.q3
   have ra4:=HX3a.out.q4
   go_wp2_with fail
   go_region_law (refine step_append_lies _ (by rfl) _ _ _ (by rfl) 0 36 iV _ 5 80 Tryz.underlying34 hiV zV0 zV1 zV2 rfl (by omega) (.slice La l.length Lc) l.length xs (by rfl) HC4.out.row ⟨w3.heap.size,0,none⟩ 1 1 [.int .i64 0,.int .i64 0,.string ⟨#[]⟩,.slice none 0 0,.slice none 0 0] (by rfl) (by rfl) (World.news_of_block (cs:=#[.int .i64 0,.int .i64 0,.string ⟨#[]⟩,.slice none 0 0,.slice none 0 0]) (t:=36) (fr:=(0,0)) (heap_alloc_new w3 _)) (by simp [Value.oneCell']) (by omega) (by unfold maxLen; omega) (by omega) (Nat.zero_le _) (w3.heap.size+1) (by simp) ?_; intro g cap w6 hown6 hgrow6 hat6 hlt6; have hgc : g≠c:=HGc.out g hat6; have hcg : c≠g:=fun e=>hgc e.symm; have HB6:=hid (hgrow6.block c HC4.out.low (fun e=>HC4.out.apart e.symm)); have c6:=(cell_of HB6.out 0).trans HC4.out.cell; have f6:=(World.frozen?_of_block (a:=⟨c,0,none⟩) HB6.out).trans HC4.out.free; have y0 : w6.cell? ⟨g,l.length * 5,none⟩=some (.int .i64 0):=new_cell hown6 HXl.out 0 (by omega) rfl; have z0 : w6.frozen? ⟨g,l.length * 5,none⟩=false:=hown6.frozenAt _; have y1 : w6.cell? ⟨g,l.length * 5+1,none⟩=some (.int .i64 0):=new_cell hown6 HXl.out 1 (by omega) rfl; have z1 : w6.frozen? ⟨g,l.length * 5+1,none⟩=false:=hown6.frozenAt _; have y2 : w6.cell? ⟨g,l.length * 5+2,none⟩=some (.string ⟨#[]⟩):=new_cell hown6 HXl.out 2 (by omega) rfl; have z2 : w6.frozen? ⟨g,l.length * 5+2,none⟩=false:=hown6.frozenAt _; have y3 : w6.cell? ⟨g,l.length * 5+3,none⟩=some (.slice none 0 0):=new_cell hown6 HXl.out 3 (by omega) rfl; have z3 : w6.frozen? ⟨g,l.length * 5+3,none⟩=false:=hown6.frozenAt _; have y4 : w6.cell? ⟨g,l.length * 5+4,none⟩=some (.slice none 0 0):=new_cell hown6 HXl.out 4 (by omega) rfl; have z4 : w6.frozen? ⟨g,l.length * 5+4,none⟩=false:=hown6.frozenAt _)
   all_goals
    have HF:=hid (InsF.mk (w:=w) (lt:=HC3.out.row.1) hown6 hgrow6 ((HB3.out.trans (HA3.out.mono HB3.out.size)).drew) (hat6.imp id (fun e=>by have:=HB3.out.size; omega)) c6 f6 hgc HC3.out.apart)
    clear hown6 hgrow6 hat6 hlt6 y0 y1 y2 y3 y4 z0 z1 z2 z3 z4 c6 f6 hgc hcg HB6
    go_wp2_with fail
    go_ret
    have HFA:=hid (HF.out.finA (.int .i64 (kindOf t)) (.int .i64 (nOf t)) (.string (sOf t)) (.slice A (nL t) B) (.slice C (nK t) D))
    have HFB:=hid (HF.out.finB (.int .i64 (kindOf t)) (.int .i64 (nOf t)) (.string (sOf t)) (.slice A (nL t) B) (.slice C (nK t) D))
    unfold put5o at HFA HFB
    unfold InsPost
    refine .inr (.inr ⟨?_,Hany.out,by omega,rfl,g,cap,?_⟩)
    ·first | with_reducible exact HFA.out.1 | with_reducible exact HFB.out.1
    ·first | with_reducible exact HFA.out.2 | with_reducible exact HFB.out.2
end Go.Proofs.YtknakfpciccoaabGreatDoor
