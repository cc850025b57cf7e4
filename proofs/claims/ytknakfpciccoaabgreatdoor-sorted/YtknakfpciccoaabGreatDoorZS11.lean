import Derived.Test.YtknakfpciccoaabGreatDoorZS10
import Derived.Test.YtknakfpciccoaabGreatDoorZS7
import Derived.Deep.RegionHeld3
/- The walk of Path.From. -/
namespace Go.Proofs.YtknakfpciccoaabGreatDoor
open Go.RowKit
def fromP:List ByteArray→T→Option T
 | [],t=>some t
 | x::p,t=>(plc x t).bind fun k=>fromP p (elt t k)
theorem plc_lt {x:ByteArray} {t:T} {k:Nat} (h:plc x t=some k) (hok:kindOf t=6→nK t=nL t):k<nL t:=by
 unfold plc at h
 split at h
 ·have:=idxL_lt h
  have:=hok ‹_›
  show k<nL t
  unfold nK at this
  omega
 ·split at h
  ·exact elN_lt h
  ·cases h
def FromPost (w0:World) (ps:List ByteArray) (t:T) (f:Nat) (w:World) (e:Ending) (w':World):Prop :=
 Below w.heap.size w w'∧((∃ r g A B C D,fromP ps t=some r∧g≤f∧e=.returned (.tuple #[.agg #[.int .i64 (kindOf r),.int .i64 (nOf r),.string (sOf r),.slice A (nL r) B,.slice C (nK r) D],.bool true])∧At w0 g (.agg #[.int .i64 (kindOf r),.int .i64 (nOf r),.string (sOf r),.slice A (nL r) B,.slice C (nK r) D]) r∧okA r) ∨
  (fromP ps t=none∧e=.returned (.tuple #[.agg #[.int .i64 0,.int .i64 0,.string ⟨#[]⟩,.slice none 0 0,.slice none 0 0],.bool false])))
theorem BoxAt.put0 {b:Nat} {c0 c1 c2 c3 c4:Value} {w:World} (h:BoxAt b c0 c1 c2 c3 c4 w) (u:Value):BoxAt b u c1 c2 c3 c4 (w.setCell ⟨b,0,none⟩ u):=by
 refine ⟨?_,?_,?_,?_,?_,?_,?_,?_,?_,?_,by simp [World.setCell];exact h.lt⟩
 ·exact World.cell?_setCell_same _ _ _ h.q0
 ·rw [set_other (by omega)];exact h.q1
 ·rw [set_other (by omega)];exact h.q2
 ·rw [set_other (by omega)];exact h.q3
 ·rw [set_other (by omega)];exact h.q4
 ·rw [World.frozen?_setCell];exact h.f0
 ·rw [World.frozen?_setCell];exact h.f1
 ·rw [World.frozen?_setCell];exact h.f2
 ·rw [World.frozen?_setCell];exact h.f3
 ·rw [World.frozen?_setCell];exact h.f4
theorem BoxAt.put1c {b:Nat} {c0 c1 c2 c3 c4:Value} {w:World} (h:BoxAt b c0 c1 c2 c3 c4 w) (u:Value):BoxAt b c0 u c2 c3 c4 (w.setCell ⟨b,1,none⟩ u):=by
 refine ⟨?_,?_,?_,?_,?_,?_,?_,?_,?_,?_,by simp [World.setCell];exact h.lt⟩
 ·rw [set_other (by omega)];exact h.q0
 ·exact World.cell?_setCell_same _ _ _ h.q1
 ·rw [set_other (by omega)];exact h.q2
 ·rw [set_other (by omega)];exact h.q3
 ·rw [set_other (by omega)];exact h.q4
 ·rw [World.frozen?_setCell];exact h.f0
 ·rw [World.frozen?_setCell];exact h.f1
 ·rw [World.frozen?_setCell];exact h.f2
 ·rw [World.frozen?_setCell];exact h.f3
 ·rw [World.frozen?_setCell];exact h.f4
theorem BoxAt.put2 {b:Nat} {c0 c1 c2 c3 c4:Value} {w:World} (h:BoxAt b c0 c1 c2 c3 c4 w) (u:Value):BoxAt b c0 c1 u c3 c4 (w.setCell ⟨b,2,none⟩ u):=by
 refine ⟨?_,?_,?_,?_,?_,?_,?_,?_,?_,?_,by simp [World.setCell];exact h.lt⟩
 ·rw [set_other (by omega)];exact h.q0
 ·rw [set_other (by omega)];exact h.q1
 ·exact World.cell?_setCell_same _ _ _ h.q2
 ·rw [set_other (by omega)];exact h.q3
 ·rw [set_other (by omega)];exact h.q4
 ·rw [World.frozen?_setCell];exact h.f0
 ·rw [World.frozen?_setCell];exact h.f1
 ·rw [World.frozen?_setCell];exact h.f2
 ·rw [World.frozen?_setCell];exact h.f3
 ·rw [World.frozen?_setCell];exact h.f4
def put5 (w:World) (b:Nat) (u0 u1 u2 u3 u4:Value):World:=((((w.setCell ⟨b,0,none⟩ u0).setCell ⟨b,1,none⟩ u1).setCell ⟨b,2,none⟩ u2).setCell ⟨b,3,none⟩ u3).setCell ⟨b,4,none⟩ u4
theorem BoxAt.put5 {b:Nat} {c0 c1 c2 c3 c4:Value} {w:World} (h:BoxAt b c0 c1 c2 c3 c4 w) (u0 u1 u2 u3 u4:Value):BoxAt b u0 u1 u2 u3 u4 (put5 w b u0 u1 u2 u3 u4) :=
 ((((h.put0 u0).put1c u1).put2 u2).put3 u3).put4 u4
theorem put5_other (w:World) {b b':Nat} (h:b'≠b) (u0 u1 u2 u3 u4:Value):(put5 w b u0 u1 u2 u3 u4).heap[b']?=w.heap[b']?:=by
 have hset:∀ (w1:World) (o:Nat) (u:Value),(w1.setCell ⟨b,o,none⟩ u).heap[b']?=w1.heap[b']?:=fun w1 o u=>Below.heap_setCell _ _ _ _ (by simpa using h)
 unfold YtknakfpciccoaabGreatDoor.put5
 rw [hset,hset,hset,hset,hset]
theorem put5_size (w:World) (b:Nat) (u0 u1 u2 u3 u4:Value):(put5 w b u0 u1 u2 u3 u4).heap.size=w.heap.size:=by
 unfold YtknakfpciccoaabGreatDoor.put5
 simp [World.setCell]
theorem put5_but (w:World) (b:Nat) (u0 u1 u2 u3 u4:Value):But b w (put5 w b u0 u1 u2 u3 u4) :=
 ((((But.set w b 0 u0).trans (But.set _ b 1 u1)).trans (But.set _ b 2 u2)).trans (But.set _ b 3 u3)).trans (But.set _ b 4 u4)
structure FS (w:World) (c0 c1 c2 c3 c4:Value) (wr:World):Prop where
 low:Below w.heap.size w wr
 v:BoxAt w.heap.size c0 c1 c2 c3 c4 wr
 r:BoxAt (w.heap.size+1) (.int .i64 0) (.int .i64 0) (.string ⟨#[]⟩) (.slice none 0 0) (.slice none 0 0) wr
theorem FS.keep {w:World} {c0 c1 c2 c3 c4:Value} {wr w2:World} (h:FS w c0 c1 c2 c3 c4 wr) (hb:Below wr.heap.size wr w2):FS w c0 c1 c2 c3 c4 w2 :=
 ⟨h.low.trans (hb.mono h.low.size),h.v.move hb.size (hb.block _ h.v.lt),h.r.move hb.size (hb.block _ h.r.lt)⟩
theorem FS.put {w:World} {c0 c1 c2 c3 c4:Value} {wr:World} (h:FS w c0 c1 c2 c3 c4 wr) (u0 u1 u2 u3 u4:Value):FS w u0 u1 u2 u3 u4 (put5 wr w.heap.size u0 u1 u2 u3 u4) :=
 ⟨h.low.trans ((put5_but wr w.heap.size u0 u1 u2 u3 u4).below h.low.size),h.v.put5 u0 u1 u2 u3 u4,h.r.move (by rw [put5_size];exact Nat.le_refl _) (put5_other wr (by omega) _ _ _ _ _)⟩
theorem FS.res {w:World} {c0 c1 c2 c3 c4:Value} {wr:World} (h:FS w c0 c1 c2 c3 c4 wr) (u0 u1 u2 u3 u4:Value):BoxAt (w.heap.size+1) u0 u1 u2 u3 u4 (put5 wr (w.heap.size+1) u0 u1 u2 u3 u4)∧Below w.heap.size w (put5 wr (w.heap.size+1) u0 u1 u2 u3 u4) :=
 ⟨h.r.put5 u0 u1 u2 u3 u4,h.low.trans (((put5_but wr (w.heap.size+1) u0 u1 u2 u3 u4).below (by have:=h.r.lt;omega)).mono (by omega))⟩
theorem drop_cons {ps:List ByteArray} {k:Nat} (h:k<ps.length):ps.drop k=ps.getD k ByteArray.empty::ps.drop (k+1):=by
 rw [List.drop_eq_getElem_cons h]
 simp [List.getD_eq_getElem?_getD,h]
set_option maxHeartbeats 4000000 in
set_option maxRecDepth 100000 in
theorem from_any {Tb:World→Prop} (hA:AtoiSaid Tb) (hI:ItoaSaid Tb) (hL:Lies Tb) (p:Value) (ps:List ByteArray) (f:Nat) (v:Value) (t:T) (w0 w:World) (hb0:Below w0.heap.size w0 w) (hp:StrsAt w p ps) (h:At w0 f v t) (hok:okA t) (hT:Tb w) :
  Calls Tryz.prog 231 #[p,v] w (FromPost w0 ps t f w):=by
 have HB0:=hid hb0
 clear hb0
 obtain ⟨PA,pc,rfl,hpl,hps⟩:=hp
 have HA0:=hid h
 have HK0:=hid hok
 obtain ⟨g,La,Ka,Lc,Kc,hfg,rfl,hf,hl,hk⟩:=h.open
 have HPS:=hid hps
 have HT:=hid hT
 have HL:=hid hL
 have HPl:Hid (∀ (w':World),Below w.heap.size w w'→∀ x f v t,x.size≤140737488355328→At w' f v t→Calls Tryz.prog 233 #[.string x,v] w' fun e w2=>e=.returned (.int .i64 (idxI (plc x t)))∧Below w'.heap.size w' w2):=fun w' hb x f v t hx ha=>placeOf_any hA hI hL x f v t w' hx ha (hL w hT _ _ hT hb)
 clear h hok hf hl hk hfg hps hT hL hA hI
 go_enter Tryz.func231,Tryz.ntmps231
 go_wp2_with fail
 go_loopg [11] (ps.length) (fun g i wr=>∃ (k:Nat) (tk:T) (gk:Nat) (A B C D:_),g=ps.length - k∧k≤ps.length∧i=.int .i64 k∧gk≤f∧Hid (At w0 gk (.agg #[.int .i64 (kindOf tk),.int .i64 (nOf tk),.string (sOf tk),.slice A (nL tk) B,.slice C (nK tk) D]) tk)∧Hid (okA tk)∧Hid (fromP (ps.drop k) tk=fromP ps t)∧Hid (FS w (.int .i64 (kindOf tk)) (.int .i64 (nOf tk)) (.string (sOf tk)) (.slice A (nL tk) B) (.slice C (nK tk) D) wr))
 case atStart =>
  refine ⟨0,t,f,La,Lc,Ka,Kc,rfl,Nat.zero_le _,rfl,Nat.le_refl _,HA0,HK0,rfl,⟨((Below.refl _ _).alloc (Nat.le_refl _) _).alloc (by simp) _,?_,?_⟩⟩
  ·constructor<;>simp [go_sem]
  ·constructor<;>simp [go_sem]
 case round =>
  obtain ⟨k,tk,gk,A,B,C,D,rfl,hk,rfl,hgk,HA,HK,HE,HS⟩:=hrel
  by_cases hlt:k<ps.length
  ·obtain ⟨pb,po,rfl,hpb,hxs,hxc⟩:=HPS.out k hlt
   have HD:=hid (drop_cons hlt)
   generalize ps.getD k ByteArray.empty=x at hxs hxc HD
   have hxw:=(HS.out.low.cell (p:=⟨pb,po+k,none⟩) hpb).trans hxc
   have HC:=hid (HPl.out wr HS.out.low x gk _ tk hxs (HA.out.keep (HB0.out.trans (HS.out.low.mono HB0.out.size))))
   have q0:=HS.out.v.q0
   have q1:=HS.out.v.q1
   have q2:=HS.out.v.q2
   have q3:=HS.out.v.q3
   have q4:=HS.out.v.q4
   have HF:Hid (fromP ps t=(plc x tk).bind fun j=>fromP (ps.drop (k+1)) (elt tk j)):=by show _=_;rw [← HE.out,HD.out];rfl
   clear hxc
   cases hpl:plc x tk with
   | none =>
    rw [hpl] at HC HF
    have HN:Hid (fromP ps t=none):=HF.out
    clear hpl HF
    simp only [idxI] at HC
    go_wp2_with fail
    refine HC.out.mono ?_
    rintro e w2 ⟨rfl,b2⟩
    have HS2:=hid (HS.out.keep b2)
    clear b2 HC q0 q1 q2 q3 q4
    have HR2:=hid HS2.out.r
    have HO:=hid (HS2.out.res (.int .i64 0) (.int .i64 0) (.string ⟨#[]⟩) (.slice none 0 0) (.slice none 0 0))
    have r0:=HR2.out.q0
    have r1:=HR2.out.q1
    have r2:=HR2.out.q2
    have r3:=HR2.out.q3
    have r4:=HR2.out.q4
    have s0:=HR2.out.f0
    have s1:=HR2.out.f1
    have s2:=HR2.out.f2
    have s3:=HR2.out.f3
    have s4:=HR2.out.f4
    unfold put5 at HO
    go_wp2_with fail
    clear r0 r1 r2 r3 r4 s0 s1 s2 s3 s4
    have HO1:=hid HO.out.1
    have r0:=HO1.out.q0
    have r1:=HO1.out.q1
    have r2:=HO1.out.q2
    have r3:=HO1.out.q3
    have r4:=HO1.out.q4
    refine bodyPost_ret (v:=.tuple #[.agg #[.int .i64 0,.int .i64 0,.string ⟨#[]⟩,.slice none 0 0,.slice none 0 0],.bool false]) (by simp [results,Tryz.results231,go_sem, *]) rfl ?_
    exact ⟨HO.out.2,.inr ⟨HN.out,rfl⟩⟩
   | some j =>
    have hj:=plc_lt hpl HK.out.names
    rw [hpl] at HC HF
    have HF2:Hid (fromP ps t=fromP (ps.drop (k+1)) (elt tk j)):=HF.out
    clear hpl HF
    simp only [idxI] at HC
    obtain ⟨g',A',C',B',D',hg',hv',hfk,hel,_⟩:=HA.out.open
    have hnl:=hfk.l1
    simp only [Value.agg.injEq,Array.mk.injEq,List.cons.injEq,Value.slice.injEq,and_true,true_and] at hv'
    obtain ⟨⟨rfl,rfl⟩,rfl,rfl⟩:=hv'
    have HOK:Hid (okA (elt tk j)):=HK.out.elt hj
    have Hel:=hid hel.out
    go_wp2_with fail
    refine HC.out.mono ?_
    rintro e w2 ⟨rfl,b2⟩
    have HS2:=hid (HS.out.keep b2)
    clear b2 HC q0 q1 q2 q3 q4
    obtain ⟨bb,oo,A2,B2,C2,D2,rfl,hbl,p0,p1,p2,p3,p4,Ha⟩:=Hel.out.shape (HB0.out.trans (HS2.out.low.mono HB0.out.size)) j hj
    have HV2:=hid HS2.out.v
    have HP:=hid (HS2.out.put (.int .i64 (kindOf (elt tk j))) (.int .i64 (nOf (elt tk j))) (.string (sOf (elt tk j))) (.slice A2 (nL (elt tk j)) B2) (.slice C2 (nK (elt tk j)) D2))
    have r0:=HV2.out.q0
    have r1:=HV2.out.q1
    have r2:=HV2.out.q2
    have r3:=HV2.out.q3
    have r4:=HV2.out.q4
    have s0:=HV2.out.f0
    have s1:=HV2.out.f1
    have s2:=HV2.out.f2
    have s3:=HV2.out.f3
    have s4:=HV2.out.f4
    unfold put5 at HP
    go_wp2_with fail
    clear r0 r1 r2 r3 r4 s0 s1 s2 s3 s4
    go_roundg (ps.length - (k+1))
    case rel=>exact ⟨k+1,elt tk j,g',A2,B2,C2,D2,rfl,by omega,by go_num,by omega,Ha,HOK,HF2.out.symm,HP⟩
    case measure=>omega
  ·obtain rfl:k=ps.length:=by omega
   have HF:Hid (fromP ps t=some tk):=by show _=_;rw [← HE.out,List.drop_length];rfl
   have HR2:=hid HS.out.r
   have HV2:=hid HS.out.v
   have HO:=hid (HS.out.res (.int .i64 (kindOf tk)) (.int .i64 (nOf tk)) (.string (sOf tk)) (.slice A (nL tk) B) (.slice C (nK tk) D))
   have v0:=HV2.out.q0
   have v1:=HV2.out.q1
   have v2:=HV2.out.q2
   have v3:=HV2.out.q3
   have v4:=HV2.out.q4
   have r0:=HR2.out.q0
   have r1:=HR2.out.q1
   have r2:=HR2.out.q2
   have r3:=HR2.out.q3
   have r4:=HR2.out.q4
   have s0:=HR2.out.f0
   have s1:=HR2.out.f1
   have s2:=HR2.out.f2
   have s3:=HR2.out.f3
   have s4:=HR2.out.f4
   unfold put5 at HO
   go_wp2_with fail
   clear r0 r1 r2 r3 r4 s0 s1 s2 s3 s4
   have HO1:=hid HO.out.1
   have r0:=HO1.out.q0
   have r1:=HO1.out.q1
   have r2:=HO1.out.q2
   have r3:=HO1.out.q3
   have r4:=HO1.out.q4
   refine bodyPost_ret (v:=.tuple #[.agg #[.int .i64 (kindOf tk),.int .i64 (nOf tk),.string (sOf tk),.slice A (nL tk) B,.slice C (nK tk) D],.bool true]) (by simp [results,Tryz.results231,go_sem, *]) rfl ?_
   exact ⟨HO.out.2,.inl ⟨tk,gk,A,B,C,D,HF.out,hgk,rfl,HA.out,HK.out⟩⟩
end Go.Proofs.YtknakfpciccoaabGreatDoor
/- slices.IndexFunc and ContainsFunc of values, of a function that only looks. -/
namespace Go.Proofs.YtknakfpciccoaabGreatDoor
open Go.RowKit
set_option maxHeartbeats 4000000 in
set_option maxRecDepth 100000 in
theorem indexFuncC_any (P:T→Bool) (g:FuncId) (hg:∀ (a:Array Value) (w:World),(callFunc g a).run Tryz.prog w=.ok (.enter g a) w) (p:Value) (f:Nat) (La:Option Addr) (Lc:Nat) (t:T) (w:World) (hl:ElemsAt w f La t) (hn:nL t≤1759218604442)
  (hP:∀ k,k<nL t→∀ (wr:World) (v:Value),Below w.heap.size w wr→At wr f v (elt t k)→Calls Tryz.prog g #[v,p] wr fun e w'=>e=.returned (.bool (P (elt t k)))∧Below wr.heap.size wr w') :
  Calls Tryz.prog 119 #[.slice La (nL t) Lc,.func (Fn.func g) #[] #[p]] w fun e w'=>Below w.heap.size w w'∧∃ n:Int,e=.returned (.int .i64 n)∧((n=-1∧anyL P t (nL t)=false)∨∃ k:Nat,n=(k:Int)∧k<nL t∧P (elt t k)=true∧anyL P t k=false):=by
 have Hl:=hid hl
 have HP:=hid hP
 clear hl hP
 go_enter Tryz.func119,Tryz.ntmps119
 go_wp2_with fail
 go_loopg [8] (nL t) (fun g' i wr=>∃ k:Nat,g'=nL t - k∧k≤nL t∧i=.int .i64 k∧Hid (Below w.heap.size w wr)∧Hid (anyL P t k=false))
 case atStart=>exact ⟨0,rfl,Nat.zero_le _,rfl,Below.refl _ _,rfl⟩
 case round =>
  obtain ⟨k,rfl,hk,rfl,HB,HN⟩:=hrel
  by_cases hlt:k<nL t
  ·obtain ⟨bb,o,A,B,C,D,rfl,hbl,p0,p1,p2,p3,p4,Ha⟩:=Hl.out.shape HB.out k hlt
   have HC:=hid (HP.out k hlt wr _ HB.out (At.keep HB.out Ha.out))
   cases hp:P (elt t k) with
   | true =>
    rw [hp] at HC
    have Hp:=hid hp
    clear hp
    go_wp2_with fail
    refine HC.out.mono ?_
    rintro e w2 ⟨rfl,b2⟩
    have HB2:=hid (HB.out.trans (b2.mono HB.out.size))
    clear b2
    go_wp2_with fail
    go_ret
    exact ⟨HB2.out,_,rfl,.inr ⟨k,rfl,hlt,Hp.out,HN.out⟩⟩
   | false =>
    rw [hp] at HC
    have HN2:Hid (anyL P t (k+1)=false):=by show _=_;rw [anyL,HN.out,hp];rfl
    clear hp
    go_wp2_with fail
    refine HC.out.mono ?_
    rintro e w2 ⟨rfl,b2⟩
    have HB2:=hid (HB.out.trans (b2.mono HB.out.size))
    clear b2
    go_wp2_with fail
    go_roundg (nL t - (k+1))
    case rel=>exact ⟨k+1,rfl,by omega,by go_num,HB2,HN2⟩
    case measure=>omega
  ·obtain rfl:k=nL t:=by omega
   go_wp2_with fail
   go_ret
   exact ⟨HB.out,_,rfl,.inl ⟨rfl,HN.out⟩⟩
set_option maxHeartbeats 4000000 in
set_option maxRecDepth 100000 in
theorem containsFuncC_any (P:T→Bool) (g:FuncId) (hg:∀ (a:Array Value) (w:World),(callFunc g a).run Tryz.prog w=.ok (.enter g a) w) (p:Value) (f:Nat) (La:Option Addr) (Lc:Nat) (t:T) (w:World) (hl:ElemsAt w f La t) (hn:nL t≤1759218604442)
  (hP:∀ k,k<nL t→∀ (wr:World) (v:Value),Below w.heap.size w wr→At wr f v (elt t k)→Calls Tryz.prog g #[v,p] wr fun e w'=>e=.returned (.bool (P (elt t k)))∧Below wr.heap.size wr w') :
  Calls Tryz.prog 88 #[.slice La (nL t) Lc,.func (Fn.func g) #[] #[p]] w fun e w'=>e=.returned (.bool (anyL P t (nL t)))∧Below w.heap.size w w':=by
 have HC:=hid (indexFuncC_any P g hg p f La Lc t w hl hn hP)
 clear hl hP hn
 go_enter Tryz.func88,Tryz.ntmps88
 go_wp2_with fail
 refine HC.out.mono ?_
 rintro e w2 ⟨b2,n,rfl,⟨rfl,hn⟩ | ⟨k,rfl,hk,hp,_⟩⟩
 ·have HB:=hid b2
  have HN:=hid hn
  clear b2 hn
  go_wp2_with fail
  go_ret
  exact ⟨ret_bool HN.out.symm,HB.out⟩
 ·have HB:=hid b2
  have HN:=hid (anyL_at hk hp)
  clear b2 hp
  go_wp2_with fail
  go_ret
  exact ⟨ret_bool HN.out.symm,HB.out⟩
set_option maxHeartbeats 4000000 in
set_option maxRecDepth 100000 in
theorem indexFuncB_any (P:T→Bool) (g:FuncId) (hg:∀ (a:Array Value) (w:World),(callFunc g a).run Tryz.prog w=.ok (.enter g a) w) (p:Value) (f:Nat) (La:Option Addr) (Lc:Nat) (t:T) (w:World) (hl:ElemsAt w f La t) (hn:nL t≤1759218604442)
  (hP:∀ k,k<nL t→∀ (wr:World) (v:Value),Below w.heap.size w wr→At wr f v (elt t k)→Calls Tryz.prog g #[p,v] wr fun e w'=>e=.returned (.bool (P (elt t k)))∧Below wr.heap.size wr w') :
  Calls Tryz.prog 119 #[.slice La (nL t) Lc,.func (Fn.func g) #[p] #[]] w fun e w'=>Below w.heap.size w w'∧∃ n:Int,e=.returned (.int .i64 n)∧((n=-1∧anyL P t (nL t)=false)∨∃ k:Nat,n=(k:Int)∧k<nL t∧P (elt t k)=true∧anyL P t k=false):=by
 have Hl:=hid hl
 have HP:=hid hP
 clear hl hP
 go_enter Tryz.func119,Tryz.ntmps119
 go_wp2_with fail
 go_loopg [8] (nL t) (fun g' i wr=>∃ k:Nat,g'=nL t - k∧k≤nL t∧i=.int .i64 k∧Hid (Below w.heap.size w wr)∧Hid (anyL P t k=false))
 case atStart=>exact ⟨0,rfl,Nat.zero_le _,rfl,Below.refl _ _,rfl⟩
 case round =>
  obtain ⟨k,rfl,hk,rfl,HB,HN⟩:=hrel
  by_cases hlt:k<nL t
  ·obtain ⟨bb,o,A,B,C,D,rfl,hbl,p0,p1,p2,p3,p4,Ha⟩:=Hl.out.shape HB.out k hlt
   have HC:=hid (HP.out k hlt wr _ HB.out (At.keep HB.out Ha.out))
   cases hp:P (elt t k) with
   | true =>
    rw [hp] at HC
    have Hp:=hid hp
    clear hp
    go_wp2_with fail
    refine HC.out.mono ?_
    rintro e w2 ⟨rfl,b2⟩
    have HB2:=hid (HB.out.trans (b2.mono HB.out.size))
    clear b2
    go_wp2_with fail
    go_ret
    exact ⟨HB2.out,_,rfl,.inr ⟨k,rfl,hlt,Hp.out,HN.out⟩⟩
   | false =>
    rw [hp] at HC
    have HN2:Hid (anyL P t (k+1)=false):=by show _=_;rw [anyL,HN.out,hp];rfl
    clear hp
    go_wp2_with fail
    refine HC.out.mono ?_
    rintro e w2 ⟨rfl,b2⟩
    have HB2:=hid (HB.out.trans (b2.mono HB.out.size))
    clear b2
    go_wp2_with fail
    go_roundg (nL t - (k+1))
    case rel=>exact ⟨k+1,rfl,by omega,by go_num,HB2,HN2⟩
    case measure=>omega
  ·obtain rfl:k=nL t:=by omega
   go_wp2_with fail
   go_ret
   exact ⟨HB.out,_,rfl,.inl ⟨rfl,HN.out⟩⟩
set_option maxHeartbeats 4000000 in
set_option maxRecDepth 100000 in
theorem containsFuncB_any (P:T→Bool) (g:FuncId) (hg:∀ (a:Array Value) (w:World),(callFunc g a).run Tryz.prog w=.ok (.enter g a) w) (p:Value) (f:Nat) (La:Option Addr) (Lc:Nat) (t:T) (w:World) (hl:ElemsAt w f La t) (hn:nL t≤1759218604442)
  (hP:∀ k,k<nL t→∀ (wr:World) (v:Value),Below w.heap.size w wr→At wr f v (elt t k)→Calls Tryz.prog g #[p,v] wr fun e w'=>e=.returned (.bool (P (elt t k)))∧Below wr.heap.size wr w') :
  Calls Tryz.prog 88 #[.slice La (nL t) Lc,.func (Fn.func g) #[p] #[]] w fun e w'=>e=.returned (.bool (anyL P t (nL t)))∧Below w.heap.size w w':=by
 have HC:=hid (indexFuncB_any P g hg p f La Lc t w hl hn hP)
 clear hl hP hn
 go_enter Tryz.func88,Tryz.ntmps88
 go_wp2_with fail
 refine HC.out.mono ?_
 rintro e w2 ⟨b2,n,rfl,⟨rfl,hn⟩ | ⟨k,rfl,hk,hp,_⟩⟩
 ·have HB:=hid b2
  have HN:=hid hn
  clear b2 hn
  go_wp2_with fail
  go_ret
  exact ⟨ret_bool HN.out.symm,HB.out⟩
 ·have HB:=hid b2
  have HN:=hid (anyL_at hk hp)
  clear b2 hp
  go_wp2_with fail
  go_ret
  exact ⟨ret_bool HN.out.symm,HB.out⟩
end Go.Proofs.YtknakfpciccoaabGreatDoor
/- Tests of filters: what they say, how they lie in memory. -/
namespace Go.Proofs.YtknakfpciccoaabGreatDoor
open Go.RowKit
def opNe:ByteArray:=⟨#[36,110,101]⟩
def opNin:ByteArray:=⟨#[36,110,105,110]⟩
def opNot:ByteArray:=⟨#[36,110,111,116]⟩
def opExists:ByteArray:=⟨#[36,101,120,105,115,116,115]⟩
def opEq:ByteArray:=⟨#[36,101,113]⟩
def opIn:ByteArray:=⟨#[36,105,110]⟩
def opSize:ByteArray:=⟨#[36,115,105,122,101]⟩
def opKind:ByteArray:=⟨#[36,107,105,110,100]⟩
def opAny:ByteArray:=⟨#[36,97,110,121]⟩
def opGte:ByteArray:=⟨#[36,103,116,101]⟩
def opGt:ByteArray:=⟨#[36,103,116]⟩
def opLte:ByteArray:=⟨#[36,108,116,101]⟩
def opLt:ByteArray:=⟨#[36,108,116]⟩
theorem ordL_same {g g':T→T→Int} {a b:T}:∀ k,(∀ i,i<k→g (elt a i) (elt b i)=g' (elt a i) (elt b i))→ordL g a b k=ordL g' a b k
 | 0,_=>rfl
 | k+1,h=>by rw [ordL,ordL,ordL_same k (fun i hi=>h i (by omega)),h k (by omega)]
theorem cmpT_shal:∀ (f f':Nat) (a b:T),Shal f a→f≤f'→cmpT f' a b=cmpT f a b
 | 0,f',a,b,h,_=>h.elim
 | f+1,f',a,b,h,hf=>by
  obtain ⟨f',rfl⟩:∃ x,f'=x+1:=⟨f' - 1,by omega⟩
  have e:ordE (cmpT f') a b=ordE (cmpT f) a b:=by
   unfold ordE
   rw [ordL_same (min (nL a) (nL b)) (fun i hi=>cmpT_shal f f' _ _ (h i (by omega)) (by omega))]
  unfold cmpT
  rw [e]
def eqT (a b:T):Bool:=cmpT 16 a b==0
def inOrd (op:ByteArray) (c:Int):Bool:=if op=opGte then (c==0 || decide (0<c)) else if op=opGt then decide (0<c) else if op=opLte then (c==0 || decide (c<0)) else if op=opLt then decide (c<0) else false
def prs (j:T):List (ByteArray×T):=(List.range (nK j)).map fun i=>(nam j i,elt j i)
def evT:Nat→ByteArray×T→T→Bool→Bool
 | 0,_,_,_=>false
 | m+1,p,v,there =>
  if p.1=opNe then !(there&&eqT v p.2)
  else if p.1=opNin then !(there&&anyL (eqT v) p.2 (nL p.2))
  else if p.1=opNot then !((prs p.2).all fun q=>evT m q v there)
  else if p.1=opExists then there==(nOf p.2==1)
  else there&&(if p.1=opEq then eqT v p.2 else if p.1=opIn then anyL (eqT v) p.2 (nL p.2)
   else if p.1=opSize then (kindOf v==5&&((nL v:Int)==nOf p.2)) else if p.1=opKind then kindOf v==nOf p.2
   else if p.1=opAny then (kindOf v==5&&anyL (fun e=>(prs p.2).all fun q=>evT m q e true) v (nL v))
   else (kindOf v==kindOf p.2&&inOrd p.1 (cmpT 16 v p.2)))
def evA (m:Nat) (ps:List (ByteArray×T)) (v:T) (there:Bool):Bool:=ps.all fun q=>evT m q v there
def isInn (op:ByteArray):Prop:=op=opNot∨op=opAny
abbrev R7:=Value→Value→Value→Value→Value→Value→Value→ByteArray×T→Prop
def RowT (w:World) (R:R7) (v:Value) (ps:List (ByteArray×T)):Prop :=
 ∃ (A:Option Addr) (c:Nat),v=.slice A ps.length c∧ps.length≤1000000000∧∀ i,(h:i<ps.length)→∃ b o c0 c1 c2 c3 c4 c5 c6,A=some ⟨b,o,none⟩∧b<w.heap.size∧w.cell? ⟨b,o+i*7,none⟩=some c0∧w.cell? ⟨b,o+i*7+1,none⟩=some c1∧w.cell? ⟨b,o+i*7+2,none⟩=some c2∧w.cell? ⟨b,o+i*7+3,none⟩=some c3∧w.cell? ⟨b,o+i*7+4,none⟩=some c4∧w.cell? ⟨b,o+i*7+5,none⟩=some c5∧w.cell? ⟨b,o+i*7+6,none⟩=some c6∧R c0 c1 c2 c3 c4 c5 c6 ps[i]
theorem RowT.keep {w w':World} {R R':R7} {v:Value} {ps:List (ByteArray×T)} (h:RowT w R v ps) (hb:Below w.heap.size w w') (hR:∀ c0 c1 c2 c3 c4 c5 c6 p,R c0 c1 c2 c3 c4 c5 c6 p→R' c0 c1 c2 c3 c4 c5 c6 p):RowT w' R' v ps:=by
 obtain ⟨A,c,hv,hn,h⟩:=h
 refine ⟨A,c,hv,hn,fun i hi=>?_⟩
 obtain ⟨b,o,c0,c1,c2,c3,c4,c5,c6,h0,hl,q0,q1,q2,q3,q4,q5,q6,hr⟩:=h i hi
 exact ⟨b,o,c0,c1,c2,c3,c4,c5,c6,h0,Nat.lt_of_lt_of_le hl hb.size,(hb.cell (p:=⟨b,_,none⟩) hl).trans q0,(hb.cell (p:=⟨b,_,none⟩) hl).trans q1,(hb.cell (p:=⟨b,_,none⟩) hl).trans q2,(hb.cell (p:=⟨b,_,none⟩) hl).trans q3,(hb.cell (p:=⟨b,_,none⟩) hl).trans q4,(hb.cell (p:=⟨b,_,none⟩) hl).trans q5,(hb.cell (p:=⟨b,_,none⟩) hl).trans q6,hR _ _ _ _ _ _ _ _ hr⟩
def TestAt (w : World) : Nat → R7
  | 0 => fun _ _ _ _ _ _ _ _ => False
  | m + 1 => fun c0 c1 c2 c3 c4 c5 c6 p => c0 = .string p.1 ∧ p.1.size ≤ 140737488355328 ∧
      ((isInn p.1 ∧ c1 = .int .i64 0 ∧ c2 = .int .i64 0 ∧ c3 = .string ⟨#[]⟩ ∧ c4 = .slice none 0 0 ∧ c5 = .slice none 0 0 ∧ RowT w (TestAt w m) c6 (prs p.2)) ∨
       (¬ isInn p.1 ∧ c6 = .slice none 0 0 ∧ ∃ g A B C D, g ≤ 16 ∧ c1 = .int .i64 (kindOf p.2) ∧ c2 = .int .i64 (nOf p.2) ∧ c3 = .string (sOf p.2) ∧ c4 = .slice A (nL p.2) B ∧ c5 = .slice C (nK p.2) D ∧ At w g (.agg #[.int .i64 (kindOf p.2), .int .i64 (nOf p.2), .string (sOf p.2), .slice A (nL p.2) B, .slice C (nK p.2) D]) p.2 ∧ okA p.2))
theorem TestAt.keep {w w':World} (hb:Below w.heap.size w w'):∀ (m:Nat) (c0 c1 c2 c3 c4 c5 c6:Value) (p:ByteArray×T),TestAt w m c0 c1 c2 c3 c4 c5 c6 p→TestAt w' m c0 c1 c2 c3 c4 c5 c6 p
 | 0,_,_,_,_,_,_,_,_,h=>h
 | m+1,c0,c1,c2,c3,c4,c5,c6,p,h=>by
  obtain ⟨h0,h1,⟨hi,z1,z2,z3,z4,z5,hr⟩ | ⟨hi,z6,g,A,B,C,D,hg,z1,z2,z3,z4,z5,ha,hk⟩⟩:=h
  ·exact ⟨h0,h1,.inl ⟨hi,z1,z2,z3,z4,z5,hr.keep hb (TestAt.keep hb m)⟩⟩
  ·exact ⟨h0,h1,.inr ⟨hi,z6,g,A,B,C,D,hg,z1,z2,z3,z4,z5,ha.keep hb,hk⟩⟩
def TestsAt (w:World) (m:Nat) (v:Value) (ps:List (ByteArray×T)):Prop:=RowT w (TestAt w m) v ps
theorem TestsAt.keep {w w':World} {m:Nat} {v:Value} {ps:List (ByteArray×T)} (h:TestsAt w m v ps) (hb:Below w.heap.size w w'):TestsAt w' m v ps:=RowT.keep h hb (TestAt.keep hb m)
theorem equal16 {w:World} {f g:Nat} {va vb:Value} {a b:T} (h:At w f va a) (h':At w g vb b) (hf:f≤16) (ka:okA a) (kb:okA b) :
  Calls Tryz.prog 90 #[va,vb] w fun e w'=>e=.returned (.bool (eqT a b))∧Below w.heap.size w w':=by
 have:=equal_any f g va vb a b w h h' (ka.1 f) (kb.1 f)
 have e:eqT a b=(cmpT f a b==0):=by unfold eqT;rw [cmpT_shal f 16 a b h.shal hf]
 rw [e]
 exact this
end Go.Proofs.YtknakfpciccoaabGreatDoor
/- The walks of tests: isInOrder, hasAmongValues. -/
namespace Go.Proofs.YtknakfpciccoaabGreatDoor
open Go.RowKit
theorem ba_extC {a b:ByteArray} (h:a.data.toList=b.data.toList):a=b:=by
 apply ByteArray.ext
 exact Array.toList_inj.1 h
theorem lit_is {a b:ByteArray} (h:a=b):(a.toList==b.data.toList)=true:=by rw [h,ByteArray.toList_eq];exact beq_self_eq_true _
theorem lit_no {a b:ByteArray} (h:¬ a=b):(a.toList==b.data.toList)=false:=by
 rw [beq_eq_false_iff_ne]
 intro e
 apply h
 rw [ByteArray.toList_eq] at e
 exact ba_extC e
set_option maxHeartbeats 4000000 in
set_option maxRecDepth 100000 in
theorem isInOrder_any (op:ByteArray) (j:T) (A C:Option Addr) (B D:Nat) (n:Int) (w:World) :
  Calls Tryz.prog 270 #[.agg #[.string op,.int .i64 (kindOf j),.int .i64 (nOf j),.string (sOf j),.slice A (nL j) B,.slice C (nK j) D,.slice none 0 0],.int .i64 n] w fun e w'=>e=.returned (.bool (inOrd op n))∧Below w.heap.size w w':=by
 have HB:Hid (Below w.heap.size w (w.alloc (.cells #[.string op,.int .i64 (kindOf j),.int .i64 (nOf j),.string (sOf j),.slice A (nL j) B,.slice C (nK j) D,.slice none 0 0] 233))):=(Below.refl _ _).alloc (Nat.le_refl _) _
 by_cases gGte:op=opGte
 ·have eGte:(op.toList==[36,103,116,101])=true:=lit_is gGte
  have HR:Hid (inOrd op n=(n==0 || decide (0<n))):=by show _=_;unfold inOrd;rw [if_pos gGte]
  clear gGte
  by_cases h0:n=0
  ·subst h0
   go_enter Tryz.func270,Tryz.ntmps270
   go_wp2_with fail
   go_ret
   exact ⟨ret_bool (by rw [HR.out];rfl),HB.out⟩
  ·have e0:(n==0)=false:=by simpa using h0
   clear h0
   go_enter Tryz.func270,Tryz.ntmps270
   go_wp2_with fail
   go_ret
   exact ⟨ret_bool (by rw [HR.out,e0];rfl),HB.out⟩
 ·have eGte:(op.toList==[36,103,116,101])=false:=lit_no gGte
  by_cases gGt:op=opGt
  ·have eGt:(op.toList==[36,103,116])=true:=lit_is gGt
   have HR:Hid (inOrd op n=decide (0<n)):=by show _=_;unfold inOrd;rw [if_neg gGte,if_pos gGt]
   clear gGte gGt
   go_enter Tryz.func270,Tryz.ntmps270
   go_wp2_with fail
   go_ret
   exact ⟨ret_bool (by rw [HR.out]),HB.out⟩
  ·have eGt:(op.toList==[36,103,116])=false:=lit_no gGt
   by_cases gLte:op=opLte
   ·have eLte:(op.toList==[36,108,116,101])=true:=lit_is gLte
    have HR:Hid (inOrd op n=(n==0 || decide (n<0))):=by show _=_;unfold inOrd;rw [if_neg gGte,if_neg gGt,if_pos gLte]
    clear gGte gGt gLte
    by_cases h0:n=0
    ·subst h0
     go_enter Tryz.func270,Tryz.ntmps270
     go_wp2_with fail
     go_ret
     exact ⟨ret_bool (by rw [HR.out];rfl),HB.out⟩
    ·have e0:(n==0)=false:=by simpa using h0
     clear h0
     go_enter Tryz.func270,Tryz.ntmps270
     go_wp2_with fail
     go_ret
     exact ⟨ret_bool (by rw [HR.out,e0];rfl),HB.out⟩
   ·have eLte:(op.toList==[36,108,116,101])=false:=lit_no gLte
    by_cases gLt:op=opLt
    ·have eLt:(op.toList==[36,108,116])=true:=lit_is gLt
     have HR:Hid (inOrd op n=decide (n<0)):=by show _=_;unfold inOrd;rw [if_neg gGte,if_neg gGt,if_neg gLte,if_pos gLt]
     clear gGte gGt gLte gLt
     go_enter Tryz.func270,Tryz.ntmps270
     go_wp2_with fail
     go_ret
     exact ⟨ret_bool (by rw [HR.out]),HB.out⟩
    ·have eLt:(op.toList==[36,108,116])=false:=lit_no gLt
     have HR:Hid (inOrd op n=false):=by show _=_;unfold inOrd;rw [if_neg gGte,if_neg gGt,if_neg gLte,if_neg gLt]
     clear gGte gGt gLte gLt
     go_enter Tryz.func270,Tryz.ntmps270
     go_wp2_with fail
     go_ret
     exact ⟨ret_bool (by rw [HR.out]),HB.out⟩
set_option maxHeartbeats 4000000 in
set_option maxRecDepth 100000 in
theorem among1_any (b:Nat) (f g:Nat) (v:T) (one:Value) (x:T) (A C:Option Addr) (B D:Nat) (w:World) (h0:w.cell? ⟨b,0,none⟩=some (.int .i64 (kindOf v))) (h1:w.cell? ⟨b,1,none⟩=some (.int .i64 (nOf v))) (h2:w.cell? ⟨b,2,none⟩=some (.string (sOf v))) (h3:w.cell? ⟨b,3,none⟩=some (.slice A (nL v) B)) (h4:w.cell? ⟨b,4,none⟩=some (.slice C (nK v) D)) (hb:b<w.heap.size)
  (ha:At w f (.agg #[.int .i64 (kindOf v),.int .i64 (nOf v),.string (sOf v),.slice A (nL v) B,.slice C (nK v) D]) v) (hx:At w g one x) (hf:f≤16) (ka:okA v) (kx:okA x) :
  Calls Tryz.prog 268 #[one,.pointer (some ⟨b,0,none⟩)] w fun e w'=>e=.returned (.bool (eqT v x))∧Below w.heap.size w w':=by
 obtain ⟨g1,La,Ka,Lc,Kc,hg1,rfl,_,_,_⟩:=hx.open
 have HB:Hid (Below w.heap.size w (w.alloc (.cells #[.int .i64 (kindOf x),.int .i64 (nOf x),.string (sOf x),.slice La (nL x) Lc,.slice Ka (nK x) Kc] 36))):=(Below.refl _ _).alloc (Nat.le_refl _) _
 have q0:=(HB.out.cell (p:=⟨b,0,none⟩) hb).trans h0
 have q1:=(HB.out.cell (p:=⟨b,1,none⟩) hb).trans h1
 have q2:=(HB.out.cell (p:=⟨b,2,none⟩) hb).trans h2
 have q3:=(HB.out.cell (p:=⟨b,3,none⟩) hb).trans h3
 have q4:=(HB.out.cell (p:=⟨b,4,none⟩) hb).trans h4
 have HC:=hid (equal16 (ha.keep HB.out) (hx.keep HB.out) hf ka kx)
 clear h0 h1 h2 h3 h4 ha hx ka kx hg1
 go_enter Tryz.func268,Tryz.ntmps268
 go_wp2_with fail
 refine HC.out.mono ?_
 rintro e w2 ⟨rfl,b2⟩
 have HB2:=hid (HB.out.trans (b2.mono HB.out.size))
 clear b2
 go_wp2_with fail
 go_ret
 exact ⟨rfl,HB2.out⟩
set_option maxHeartbeats 4000000 in
set_option maxRecDepth 100000 in
theorem among_any (op:ByteArray) (j:T) (A C:Option Addr) (B D:Nat) (gj f:Nat) (x:Value) (v:T) (w:World) (hj:At w gj (.agg #[.int .i64 (kindOf j),.int .i64 (nOf j),.string (sOf j),.slice A (nL j) B,.slice C (nK j) D]) j) (hv:At w f x v) (hf:f≤16) (kj:okA j) (kv:okA v) :
  Calls Tryz.prog 266 #[.agg #[.string op,.int .i64 (kindOf j),.int .i64 (nOf j),.string (sOf j),.slice A (nL j) B,.slice C (nK j) D,.slice none 0 0],x] w fun e w'=>e=.returned (.bool (anyL (eqT v) j (nL j)))∧Below w.heap.size w w':=by
 obtain ⟨g1,La,Ka,Lc,Kc,hg1,rfl,_,_,_⟩:=hv.open
 obtain ⟨g2,A',C',B',D',hg2,he,hfj,hel,_⟩:=hj.open
 simp only [Value.agg.injEq,Array.mk.injEq,List.cons.injEq,Value.slice.injEq,and_true,true_and] at he
 obtain ⟨⟨rfl,rfl⟩,rfl,rfl⟩:=he
 have HB1:Hid (Below w.heap.size w (w.alloc (.cells #[.string op,.int .i64 (kindOf j),.int .i64 (nOf j),.string (sOf j),.slice A (nL j) B,.slice C (nK j) D,.slice none 0 0] 233))):=(Below.refl _ _).alloc (Nat.le_refl _) _
 have HB2:Hid (Below (w.heap.size+1) (w.alloc (.cells #[.string op,.int .i64 (kindOf j),.int .i64 (nOf j),.string (sOf j),.slice A (nL j) B,.slice C (nK j) D,.slice none 0 0] 233)) ((w.alloc (.cells #[.string op,.int .i64 (kindOf j),.int .i64 (nOf j),.string (sOf j),.slice A (nL j) B,.slice C (nK j) D,.slice none 0 0] 233)).alloc (.cells #[.int .i64 (kindOf v),.int .i64 (nOf v),.string (sOf v),.slice La (nL v) Lc,.slice Ka (nK v) Kc] 36))):=(Below.refl _ _).alloc (by simp) _
 have HB:=hid (HB1.out.trans (HB2.out.mono (by omega)))
 have HX:Hid (BoxAt (w.heap.size+1) (.int .i64 (kindOf v)) (.int .i64 (nOf v)) (.string (sOf v)) (.slice La (nL v) Lc) (.slice Ka (nK v) Kc) ((w.alloc (.cells #[.string op,.int .i64 (kindOf j),.int .i64 (nOf j),.string (sOf j),.slice A (nL j) B,.slice C (nK j) D,.slice none 0 0] 233)).alloc (.cells #[.int .i64 (kindOf v),.int .i64 (nOf v),.string (sOf v),.slice La (nL v) Lc,.slice Ka (nK v) Kc] 36))):=by
  constructor<;>simp [go_sem]
 have HC:=hid (containsFuncC_any (eqT v) 268 (fun _ _=>rfl) (.pointer (some ⟨w.heap.size+1,0,none⟩)) g2 A B j _ (hel.out.keep HB.out) hfj.l1 (fun k hk wr y hb ha=>by
   have hbx:=HX.out.move hb.size (hb.block _ HX.out.lt)
   have hbw:=HB.out.trans (hb.mono HB.out.size)
   exact among1_any (w.heap.size+1) f g2 v y (elt j k) La Ka Lc Kc wr hbx.q0 hbx.q1 hbx.q2 hbx.q3 hbx.q4 hbx.lt (hv.keep hbw) ha hf kv (kj.elt hk)))
 clear hv hj hel kj kv hfj hg1 hg2
 go_enter Tryz.func266,Tryz.ntmps266
 go_wp2_with fail
 refine HC.out.mono ?_
 rintro e w2 ⟨rfl,b2⟩
 have HB3:=hid (HB.out.trans (b2.mono HB.out.size))
 clear b2
 go_wp2_with fail
 go_ret
 exact ⟨rfl,HB3.out⟩
end Go.Proofs.YtknakfpciccoaabGreatDoor
/- The walk of a test's holdsOf, of tests that have a value. -/
namespace Go.Proofs.YtknakfpciccoaabGreatDoor
open Go.RowKit
def evO (m:Nat) (p:ByteArray×T) (v:T):Bool :=
 if p.1=opEq then eqT v p.2 else if p.1=opIn then anyL (eqT v) p.2 (nL p.2)
   else if p.1=opSize then (kindOf v==5&&((nL v:Int)==nOf p.2)) else if p.1=opKind then kindOf v==nOf p.2
   else if p.1=opAny then (kindOf v==5&&anyL (fun e=>(prs p.2).all fun q=>evT m q e true) v (nL v))
   else (kindOf v==kindOf p.2&&inOrd p.1 (cmpT 16 v p.2))
structure Box7 (b:Nat) (c0 c1 c2 c3 c4 c5 c6:Value) (w:World):Prop where
 q0:w.cell? ⟨b,0,none⟩=some c0
 q1:w.cell? ⟨b,1,none⟩=some c1
 q2:w.cell? ⟨b,2,none⟩=some c2
 q3:w.cell? ⟨b,3,none⟩=some c3
 q4:w.cell? ⟨b,4,none⟩=some c4
 q5:w.cell? ⟨b,5,none⟩=some c5
 q6:w.cell? ⟨b,6,none⟩=some c6
 lt:b<w.heap.size
theorem Box7.keep {b:Nat} {c0 c1 c2 c3 c4 c5 c6:Value} {w w':World} (h:Box7 b c0 c1 c2 c3 c4 c5 c6 w) (hb:Below w.heap.size w w'):Box7 b c0 c1 c2 c3 c4 c5 c6 w' :=
 ⟨(hb.cell (p:=⟨b,0,none⟩) h.lt).trans h.q0,(hb.cell (p:=⟨b,1,none⟩) h.lt).trans h.q1,(hb.cell (p:=⟨b,2,none⟩) h.lt).trans h.q2,(hb.cell (p:=⟨b,3,none⟩) h.lt).trans h.q3,(hb.cell (p:=⟨b,4,none⟩) h.lt).trans h.q4,(hb.cell (p:=⟨b,5,none⟩) h.lt).trans h.q5,(hb.cell (p:=⟨b,6,none⟩) h.lt).trans h.q6,Nat.lt_of_lt_of_le h.lt hb.size⟩
theorem BoxAt.stay {b:Nat} {c0 c1 c2 c3 c4:Value} {w w':World} (h:BoxAt b c0 c1 c2 c3 c4 w) (hb:Below w.heap.size w w'):BoxAt b c0 c1 c2 c3 c4 w':=h.move hb.size (hb.block _ h.lt)
theorem compare16 {w:World} {f g:Nat} {va vb:Value} {a b:T} (h:At w f va a) (h':At w g vb b) (hf:f≤16) (ka:okA a) (kb:okA b) :
  Calls Tryz.prog 30 #[va,vb] w fun e w'=>e=.returned (.int .i64 (cmpT 16 a b))∧Below w.heap.size w w':=by
 have:=compare_any f g va vb a b w h h' (ka.1 f) (kb.1 f)
 rw [← cmpT_shal f 16 a b h.shal hf] at this
 exact this
set_option maxHeartbeats 4000000 in
set_option maxRecDepth 100000 in
theorem holdsOf_leaf (m:Nat) (op:ByteArray) (j:T) (A C:Option Addr) (B D:Nat) (gj f:Nat) (x:Value) (v:T) (w:World) (hop:¬ isInn op) (hj:At w gj (.agg #[.int .i64 (kindOf j),.int .i64 (nOf j),.string (sOf j),.slice A (nL j) B,.slice C (nK j) D]) j) (hv:At w f x v) (hf:f≤16) (kj:okA j) (kv:okA v) :
  Calls Tryz.prog 267 #[.agg #[.string op,.int .i64 (kindOf j),.int .i64 (nOf j),.string (sOf j),.slice A (nL j) B,.slice C (nK j) D,.slice none 0 0],x] w fun e w'=>e=.returned (.bool (evO m (op,j) v))∧Below w.heap.size w w':=by
 obtain ⟨g1,La,Ka,Lc,Kc,hg1,rfl,hfv,_,_⟩:=hv.open
 have hnl:=hfv.l1
 have HB:Hid (Below w.heap.size w ((w.alloc (.cells #[.string op,.int .i64 (kindOf j),.int .i64 (nOf j),.string (sOf j),.slice A (nL j) B,.slice C (nK j) D,.slice none 0 0] 233)).alloc (.cells #[.int .i64 (kindOf v),.int .i64 (nOf v),.string (sOf v),.slice La (nL v) Lc,.slice Ka (nK v) Kc] 36))):=((Below.refl _ _).alloc (Nat.le_refl _) _).alloc (by simp) _
 have HJ:=hid (hj.keep HB.out)
 have HV:=hid (hv.keep HB.out)
 have HKj:=hid kj
 have HKv:=hid kv
 have gAny:¬ op=opAny:=fun h=>hop (.inr h)
 clear hj hv kj kv hfv hg1 hop
 by_cases gEq:op=opEq
 ·have eEq:(op.toList==[36,101,113])=true:=lit_is gEq
  have HR:Hid (evO m (op,j) v=eqT v j):=by show _=_;unfold evO;rw [if_pos gEq]
  have HC:=hid (equal16 HV.out HJ.out hf HKv.out HKj.out)
  clear gEq gAny
  go_enter Tryz.func267,Tryz.ntmps267
  go_wp2_with fail
  refine HC.out.mono ?_
  rintro e w2 ⟨rfl,b2⟩
  have HB3:=hid (HB.out.trans (b2.mono HB.out.size))
  clear b2
  go_wp2_with fail
  go_ret
  exact ⟨ret_bool (by rw [HR.out]),HB3.out⟩
 have eEq:(op.toList==[36,101,113])=false:=lit_no gEq
 by_cases gIn:op=opIn
 ·have eIn:(op.toList==[36,105,110])=true:=lit_is gIn
  have HR:Hid (evO m (op,j) v=anyL (eqT v) j (nL j)):=by show _=_;unfold evO;rw [if_neg gEq,if_pos gIn]
  have HC:=hid (among_any op j A C B D gj f _ v ((w.alloc (.cells #[.string op,.int .i64 (kindOf j),.int .i64 (nOf j),.string (sOf j),.slice A (nL j) B,.slice C (nK j) D,.slice none 0 0] 233)).alloc (.cells #[.int .i64 (kindOf v),.int .i64 (nOf v),.string (sOf v),.slice La (nL v) Lc,.slice Ka (nK v) Kc] 36)) HJ.out HV.out hf HKj.out HKv.out)
  clear gEq gAny gIn
  go_enter Tryz.func267,Tryz.ntmps267
  go_wp2_with fail
  refine HC.out.mono ?_
  rintro e w2 ⟨rfl,b2⟩
  have HB3:=hid (HB.out.trans (b2.mono HB.out.size))
  clear b2
  go_wp2_with fail
  go_ret
  exact ⟨ret_bool (by rw [HR.out]),HB3.out⟩
 have eIn:(op.toList==[36,105,110])=false:=lit_no gIn
 by_cases gSize:op=opSize
 ·have eSize:(op.toList==[36,115,105,122,101])=true:=lit_is gSize
  have HR:Hid (evO m (op,j) v=(kindOf v==5&&((nL v:Int)==nOf j))):=by show _=_;unfold evO;rw [if_neg gEq,if_neg gIn,if_pos gSize]
  clear gEq gAny gIn gSize
  cases h5:kindOf v==5 with
  | true =>
   have H5:=hid h5
   go_enter Tryz.func267,Tryz.ntmps267
   go_wp2_with fail
   go_ret
   exact ⟨ret_bool (by rw [HR.out,H5.out];rfl),HB.out⟩
  | false =>
   have H5:=hid h5
   go_enter Tryz.func267,Tryz.ntmps267
   go_wp2_with fail
   go_ret
   exact ⟨ret_bool (by rw [HR.out,H5.out];rfl),HB.out⟩
 have eSize:(op.toList==[36,115,105,122,101])=false:=lit_no gSize
 by_cases gKind:op=opKind
 ·have eKind:(op.toList==[36,107,105,110,100])=true:=lit_is gKind
  have HR:Hid (evO m (op,j) v=(kindOf v==nOf j)):=by show _=_;unfold evO;rw [if_neg gEq,if_neg gIn,if_neg gSize,if_pos gKind]
  clear gEq gAny gIn gSize gKind
  go_enter Tryz.func267,Tryz.ntmps267
  go_wp2_with fail
  go_ret
  exact ⟨ret_bool (by rw [HR.out]),HB.out⟩
 have eKind:(op.toList==[36,107,105,110,100])=false:=lit_no gKind
 have eAny:(op.toList==[36,97,110,121])=false:=lit_no gAny
 have HR:Hid (evO m (op,j) v=(kindOf v==kindOf j&&inOrd op (cmpT 16 v j))):=by show _=_;unfold evO;rw [if_neg gEq,if_neg gIn,if_neg gSize,if_neg gKind,if_neg gAny]
 clear gEq gAny gIn gSize gKind
 have H7:Hid (Box7 w.heap.size (.string op) (.int .i64 (kindOf j)) (.int .i64 (nOf j)) (.string (sOf j)) (.slice A (nL j) B) (.slice C (nK j) D) (.slice none 0 0) ((w.alloc (.cells #[.string op,.int .i64 (kindOf j),.int .i64 (nOf j),.string (sOf j),.slice A (nL j) B,.slice C (nK j) D,.slice none 0 0] 233)).alloc (.cells #[.int .i64 (kindOf v),.int .i64 (nOf v),.string (sOf v),.slice La (nL v) Lc,.slice Ka (nK v) Kc] 36))):=by
  constructor<;>simp [go_sem]
 have H5:Hid (BoxAt (w.heap.size+1) (.int .i64 (kindOf v)) (.int .i64 (nOf v)) (.string (sOf v)) (.slice La (nL v) Lc) (.slice Ka (nK v) Kc) ((w.alloc (.cells #[.string op,.int .i64 (kindOf j),.int .i64 (nOf j),.string (sOf j),.slice A (nL j) B,.slice C (nK j) D,.slice none 0 0] 233)).alloc (.cells #[.int .i64 (kindOf v),.int .i64 (nOf v),.string (sOf v),.slice La (nL v) Lc,.slice Ka (nK v) Kc] 36))):=by
  constructor<;>simp [go_sem]
 cases hkk:kindOf v==kindOf j with
 | false =>
  have Hkk:=hid hkk
  go_enter Tryz.func267,Tryz.ntmps267
  go_wp2_with fail
  go_quiet (fail)
  go_wp2_with fail
  go_ret
  exact ⟨ret_bool (by rw [HR.out,Hkk.out];rfl),below_drewN HB.out _⟩
 | true =>
  have Hkk:=hid hkk
  have HDr:=hid (below_drew ((w.alloc (.cells #[.string op,.int .i64 (kindOf j),.int .i64 (nOf j),.string (sOf j),.slice A (nL j) B,.slice C (nK j) D,.slice none 0 0] 233)).alloc (.cells #[.int .i64 (kindOf v),.int .i64 (nOf v),.string (sOf v),.slice La (nL v) Lc,.slice Ka (nK v) Kc] 36)))
  have HC:=hid (compare16 (HV.out.keep HDr.out) (HJ.out.keep HDr.out) hf HKv.out HKj.out)
  generalize cmpT 16 v j=cc at HC HR
  have HO:=hid (fun w'=>isInOrder_any op j A C B D cc w')
  have H7d:=hid (H7.out.keep HDr.out)
  have H5d:=hid (H5.out.stay HDr.out)
  have HBd:=hid (HB.out.drew)
  go_enter Tryz.func267,Tryz.ntmps267
  go_wp2_with fail
  have HSo:Hid (∀ wx,Box7 w.heap.size (.string op) (.int .i64 (kindOf j)) (.int .i64 (nOf j)) (.string (sOf j)) (.slice A (nL j) B) (.slice C (nK j) D) (.slice none 0 0) wx→BoxAt (w.heap.size+1) (.int .i64 (kindOf v)) (.int .i64 (nOf v)) (.string (sOf v)) (.slice La (nL v) Lc) (.slice Ka (nK v) Kc) wx→(fun wx=>wx.cell? ⟨w.heap.size,0,none⟩=some (.string op)∧wx.cell? ⟨w.heap.size,1,none⟩=some (.int .i64 (kindOf j))∧wx.cell? ⟨w.heap.size,2,none⟩=some (.int .i64 (nOf j))∧wx.cell? ⟨w.heap.size,3,none⟩=some (.string (sOf j))∧wx.cell? ⟨w.heap.size,4,none⟩=some (.slice A (nL j) B)∧wx.cell? ⟨w.heap.size,5,none⟩=some (.slice C (nK j) D)∧wx.cell? ⟨w.heap.size,6,none⟩=some (.slice none 0 0)∧wx.cell? ⟨w.heap.size+1,0,none⟩=some (.int .i64 (kindOf v))∧wx.cell? ⟨w.heap.size+1,1,none⟩=some (.int .i64 (nOf v))∧wx.cell? ⟨w.heap.size+1,2,none⟩=some (.string (sOf v))∧wx.cell? ⟨w.heap.size+1,3,none⟩=some (.slice La (nL v) Lc)∧wx.cell? ⟨w.heap.size+1,4,none⟩=some (.slice Ka (nK v) Kc)) wx):=fun wx a b=>⟨a.q0,a.q1,a.q2,a.q3,a.q4,a.q5,a.q6,b.q0,b.q1,b.q2,b.q3,b.q4⟩
  have HSd:=hid (HSo.out _ H7d.out H5d.out)
  go_region_held3 (fun wx=>wx.cell? ⟨w.heap.size,0,none⟩=some (.string op)∧wx.cell? ⟨w.heap.size,1,none⟩=some (.int .i64 (kindOf j))∧wx.cell? ⟨w.heap.size,2,none⟩=some (.int .i64 (nOf j))∧wx.cell? ⟨w.heap.size,3,none⟩=some (.string (sOf j))∧wx.cell? ⟨w.heap.size,4,none⟩=some (.slice A (nL j) B)∧wx.cell? ⟨w.heap.size,5,none⟩=some (.slice C (nK j) D)∧wx.cell? ⟨w.heap.size,6,none⟩=some (.slice none 0 0)∧wx.cell? ⟨w.heap.size+1,0,none⟩=some (.int .i64 (kindOf v))∧wx.cell? ⟨w.heap.size+1,1,none⟩=some (.int .i64 (nOf v))∧wx.cell? ⟨w.heap.size+1,2,none⟩=some (.string (sOf v))∧wx.cell? ⟨w.heap.size+1,3,none⟩=some (.slice La (nL v) Lc)∧wx.cell? ⟨w.heap.size+1,4,none⟩=some (.slice Ka (nK v) Kc)) (first | exact hS4 | exact hS3 | exact HSd.out) (first | (go_at_call 30;refine HC.out.mono ?_;rintro e w3 ⟨rfl,b3⟩;have H73:=hid (H7d.out.keep b3);have H53:=hid (H5d.out.stay b3);have hS3:=HSo.out _ H73.out H53.out) | (go_at_call 270;refine (HO.out _).mono ?_;rintro e w4 ⟨rfl,b4⟩;have hS4:=HSo.out _ (H73.out.keep b4) (H53.out.stay b4)))
  have HBf:=hid ((HBd.out.trans (b3.mono HBd.out.size)).trans (b4.mono (HBd.out.trans (b3.mono HBd.out.size)).size))
  clear b3 b4 hS3 hS4
  go_wp2_with fail
  go_ret
  exact ⟨ret_bool (by rw [HR.out,Hkk.out];rfl),HBf.out⟩
end Go.Proofs.YtknakfpciccoaabGreatDoor
