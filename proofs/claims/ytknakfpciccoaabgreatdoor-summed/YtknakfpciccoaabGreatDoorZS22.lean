import Derived.Test.YtknakfpciccoaabGreatDoorZS19
import Derived.Test.YtknakfpciccoaabGreatDoorZS21
import Derived.Test.YtknakfpciccoaabGreatDoorZS2
import Derived.Maps.OwnSet
import Derived.Test.YtknakfpciccoaabGreatDoorZS20
import Derived.Test.YtknakfpciccoaabGreatDoorZS1
import Derived.Deep.LoopGhost
import Derived.Laws.IdiomStrings
import Derived.BigQuiet
import Derived.Test.YtknakfpciccoaabGreatDoorZS3
import Derived.Laws.CopyOwn
/- The store's map of collections; read, search, Find. -/
namespace Go.Proofs.YtknakfpciccoaabGreatDoor
open Go.RowKit Go.Maps Go.WideMaps
def refR : Value→Option (DataW Unit×List MemPlace)
 | .pointer none=>some (.nil,[])
 | .pointer (some ⟨b,0,none⟩)=>some (.lit (.int .i64 b),[])
 | _=>none
theorem refR_inv {v : Value} {z : DataW Unit×List MemPlace} (h : refR v=some z) : (v=.pointer none∧z.1=.nil)∨∃ c : Nat,v=.pointer (some ⟨c,0,none⟩)∧z.1=.lit (.int .i64 c):=by
 unfold refR at h
 split at h
 ·cases h; exact .inl ⟨rfl,rfl⟩
 ·cases h; exact .inr ⟨_,rfl,rfl⟩
 ·cases h
def atK (D : DataW Unit) (x : ByteArray) : DataW Unit:=D.atKey (.string x.data.toList) .nil
theorem zeroC (w : World) : (zeroValue 51).run Tryz.prog w=.ok (.pointer none) w:=by kernel_rfl
structure StoAt (w : World) (p m n : Nat) (D : DataW Unit) : Prop where
 cell : w.cell? ⟨p,0,none⟩=some (.map (some m))
 low : p<w.heap.size
 own : w.ownsMap Tryz.prog 9 refR m n D
theorem StoAt.keep {w w' : World} {p m n : Nat} {D : DataW Unit} (h : StoAt w p m n D) (hb : Below w.heap.size w w') : StoAt w' p m n D:=by
 have hlt:=h.own.lt
 obtain ⟨es,clock,hm,F,hs,hD⟩:=h.own
 exact ⟨(hb.cell (p:=⟨p,0,none⟩) h.low).trans h.cell,Nat.lt_of_lt_of_le h.low hb.size,es,clock,(hb.block m hlt).trans hm,F,hs,hD⟩
theorem StoAt.look {w : World} {p m n : Nat} {D : DataW Unit} (h : StoAt w p m n D) (x : ByteArray) (hx : x.size≤140737488355328) :
  ((Instr.lookup 74 (.map (some m)) (.string x) false).run Tryz.prog w=.ok (.pointer none) w∧atK D x=.nil) ∨
  ∃ c : Nat,(Instr.lookup 74 (.map (some m)) (.string x) false).run Tryz.prog w=.ok (.pointer (some ⟨c,0,none⟩)) w∧atK D x=.lit (.int .i64 c):=by
 obtain ⟨v,ps,hrun,hv⟩:=h.own.lookup (z:=.pointer none) (zd:=.nil) (zp:=[]) law9 Tryz.underlying74 (zeroC w) rfl (keyOf_string_mk Tryz.underlying9 (s:=x) (by unfold maxLen; omega))
 rcases refR_inv hv with ⟨rfl,e⟩ | ⟨c,rfl,e⟩
 ·exact .inl ⟨hrun,e⟩
 ·exact .inr ⟨c,hrun,e⟩
theorem parsed_okA {s : ByteArray} (h : eJ s=0) : okA (tJ s):=by
 have h1:=(isV_iff _).1 (parsed_isV h)
 exact good_okA h1.1 (by have:=h1.2; omega)
theorem Flat.atP {p : Nat→Prop} {w : World} : ∀ {f : Nat} {v : Value} {t : T} {es : List Ent},(∀ b ∈ blks es,p b)→Flat w f v t es→AtP p w f v t:=by
 intro f
 induction f with
 | zero=>intro v t es _ h; exact h
 | succ f ih =>
  rintro v t es hp ⟨Lv,Kv,xs,sub,rfl,hf,hl,hk,hc,hn,rfl⟩
  have hx : ∀ b,b ∈ blk ⟨Lv,nL t,Kv,nK t⟩→p b:=fun b h=>hp b (by rw [blks_append,blks_one]; simp [h])
  obtain ⟨A,c,rfl⟩:=own_shape hl
  obtain ⟨C,d,rfl⟩:=own_shape hk
  refine ⟨A,C,c,d,rfl,hf,fun i hi=>?_,fun i hi=>?_⟩
  ·obtain ⟨g,cap,e,hg,_,_,hcell,_⟩:=own_cell hl (by omega)
   cases e
   refine ⟨g,0,_,_,_,_,_,rfl,⟨hg,hx g (by simp [blk,Value.ownBlock])⟩,?_,?_,?_,?_,?_,ih (fun b h=>hp b (by rw [blks_append]; exact List.mem_append_left _ (mem_catE hi h))) (hc i hi)⟩
   ·rw [Nat.zero_add]; exact hcell _ (by omega)
   ·rw [Nat.zero_add]; exact hcell _ (by omega)
   ·rw [Nat.zero_add]; exact hcell _ (by omega)
   ·rw [Nat.zero_add]; exact hcell _ (by omega)
   ·rw [Nat.zero_add]; exact hcell _ (by omega)
  ·obtain ⟨g,cap,e,hg,_,_,hcell,_⟩:=own_cell hk (by omega)
   cases e
   refine ⟨g,0,rfl,⟨hg,hx g (by simp [blk,Value.ownBlock])⟩,hn i hi,?_⟩
   rw [Nat.zero_add,hcell i (by omega)]
   have hi' : i<(kOf t).length:=hi
   simp [cx,namesV,nam,List.getD_eq_getElem?_getD,hi']
theorem parseP_ok {Tb : World→Prop} (hD : DecSaid Tb) (hN : IntSaid Tb) (hL : Lies Tb) (s : ByteArray) (w : World) (hs : s.size≤140737488355328) (hT : Tb w) (h0 : eJ s=0) :
  Calls Tryz.prog 14 #[.string s] w fun e w'=>Below w.heap.size w w'∧∃ A B C D,e=.returned (.tuple #[.agg #[.int .i64 (kindOf (tJ s)),.int .i64 (nOf (tJ s)),.string (sOf (tJ s)),.slice A (nL (tJ s)) B,.slice C (nK (tJ s)) D],.int .i64 0])∧AtP (newB w w') w' 13 (.agg #[.int .i64 (kindOf (tJ s)),.int .i64 (nOf (tJ s)),.string (sOf (tJ s)),.slice A (nL (tJ s)) B,.slice C (nK (tJ s)) D]) (tJ s):=by
 refine (parse_u hD hN hL s w hs hT).mono ?_
 rintro e w1 ⟨b1,es,A,B,C,D,rfl,hF,hS,h1,h2⟩
 exact ⟨b1,A,B,C,D,by rw [h0],Flat.atP hS.lies hF⟩
def FilS (w w' : World) (fv : Value) (t : T) : Prop:=∀ w2 : World,w'.heap.size≤w2.heap.size→(∀ b,w.heap.size≤b→b<w'.heap.size→w2.heap[b]?=w'.heap[b]?)→FilAt w2 16 fv t
theorem fil_stay {w w1 wA w3 : World} {fv : Value} {t : T} (hr : FilB ⟨w1,newB w w1⟩ w3 (newB wA w3) 16 fv t) (b1 : Below w.heap.size w w1) (bA : Below w1.heap.size w1 wA) (b3 : Below wA.heap.size wA w3) : FilS w w3 fv t:=by
 intro w2 hs hb
 have s1:=b1.size
 have sA:=bA.size
 have s3:=b3.size
 have h1 : FilB ⟨w1,newB w w1⟩ w2 (newB wA w3) 16 fv t:=FilB.move (w0:=⟨w1,newB w w1⟩) (fun b h=>⟨hb b (by have:=h.1; omega) h.2,h⟩) 16 _ _ hr
 refine FilB.at (w0:=⟨w1,newB w w1⟩) (fun b h=>Nat.lt_of_lt_of_le h.2 hs) (fun f v u ha=>?_) 16 _ _ h1
 have h2 : AtP (newB w w1) w1 f v u:=ha
 exact (h2.move (q:=fun _=>True) (by omega) fun b h p=>⟨trivial,(hb b p.1 (by omega)).trans ((b3.block b (by omega)).trans (bA.block b h))⟩).at
def ReadPost (w : World) (x s : ByteArray) (D : DataW Unit) (e : Ending) (w' : World) : Prop :=
  Below w.heap.size w w' ∧
  ((eJ s ≠ 0 ∧ e = .returned (.tuple #[.pointer none, .slice none 0 0, .int .i64 (eJ s)])) ∨
   (eJ s = 0 ∧ okFil 16 (tJ s) = false ∧ e = .returned (.tuple #[.pointer none, .slice none 0 0, .int .i64 8])) ∨
   (eJ s = 0 ∧ okFil 16 (tJ s) = true ∧ atK D x = .nil ∧ e = .returned (.tuple #[.pointer none, .slice none 0 0, .int .i64 10])) ∨
   (eJ s = 0 ∧ okFil 16 (tJ s) = true ∧ ∃ c : Nat, atK D x = .lit (.int .i64 c) ∧ ∃ fv, e = .returned (.tuple #[.pointer (some ⟨c, 0, none⟩), fv, .int .i64 0]) ∧ FilAt w' 16 fv (tJ s) ∧ FilS w w' fv (tJ s)))
set_option maxHeartbeats 4000000 in
set_option maxRecDepth 100000 in
theorem readF_bad {Tb : World→Prop} (hD : DecSaid Tb) (hN : IntSaid Tb) (hL : Lies Tb) (p : Nat) (D : DataW Unit) (x s : ByteArray) (w : World) (hs : s.size≤140737488355328) (hT : Tb w) (h0 : eJ s≠0) (fn : Value) :
  Calls Tryz.prog 54 #[.pointer (some ⟨p,0,none⟩),.string x,.string s,fn] w (ReadPost w x s D):=by
 have HP:=hid (parse_u hD hN hL s w hs hT)
 have H0:=hid h0
 have ez : (eJ s == 0)=false:=by simpa using h0
 clear hT hD hN hL h0
 go_enter Tryz.func54,Tryz.ntmps54
 go_wp2_with fail
 refine HP.out.mono ?_
 rintro e w1 ⟨b1,es,A,B,C,D',rfl,hF,hS,h1,h2⟩
 have HB:=hid (b1.alloc b1.size (.cells #[.int .i64 (kindOf (tJ s)),.int .i64 (nOf (tJ s)),.string (sOf (tJ s)),.slice A (nL (tJ s)) B,.slice C (nK (tJ s)) D'] 36))
 clear b1 hF hS h1 h2 HP
 go_wp2_with fail
 refine bodyPost_ret (v:=.tuple #[.pointer none,.slice none 0 0,.int .i64 (eJ s)]) (by simp [results,Tryz.results54,go_sem, *]) rfl ?_
 exact ⟨HB.out,.inl ⟨H0.out,rfl⟩⟩
theorem parse_ok {Tb : World→Prop} (hD : DecSaid Tb) (hN : IntSaid Tb) (hL : Lies Tb) (s : ByteArray) (w : World) (hs : s.size≤140737488355328) (hT : Tb w) (h0 : eJ s=0) :
  Calls Tryz.prog 14 #[.string s] w fun e w'=>Below w.heap.size w w'∧∃ A B C D',e=.returned (.tuple #[.agg #[.int .i64 (kindOf (tJ s)),.int .i64 (nOf (tJ s)),.string (sOf (tJ s)),.slice A (nL (tJ s)) B,.slice C (nK (tJ s)) D'],.int .i64 0])∧At w' 13 (.agg #[.int .i64 (kindOf (tJ s)),.int .i64 (nOf (tJ s)),.string (sOf (tJ s)),.slice A (nL (tJ s)) B,.slice C (nK (tJ s)) D']) (tJ s):=by
 refine (parse_u hD hN hL s w hs hT).mono ?_
 rintro e w1 ⟨b1,es,A,B,C,D',rfl,hF,hS,h1,h2⟩
 exact ⟨b1,A,B,C,D',by rw [h0],hF.at⟩
set_option maxHeartbeats 4000000 in
set_option maxRecDepth 100000 in
theorem readF_ok {Tb : World→Prop} (hD : DecSaid Tb) (hN : IntSaid Tb) (hSp : SplitSaid Tb) (hL : Lies Tb) (p m n : Nat) (D : DataW Unit) (x s : ByteArray) (w : World) (hs : s.size≤140737488355328) (hx : x.size≤140737488355328) (hst : StoAt w p m n D) (hT : Tb w) (h0 : eJ s=0) :
  Calls Tryz.prog 54 #[.pointer (some ⟨p,0,none⟩),.string x,.string s,.func (Fn.func 55) #[] #[]] w (ReadPost w x s D):=by
 have HP:=hid (parseP_ok hD hN hL s w hs hT h0)
 have H0:=hid h0
 have HK:=hid (parsed_okA h0)
 have HSt:=hid hst
 have HT : Hid (∀ w' : World,Below w.heap.size w w'→Tb w'):=fun w' hb=>hL w hT w w' hT hb
 have HF : Hid (∀ (v : Value) (w0 : Org) (w1 : World),At0 w0 13 v (tJ s)→Below w0.w.heap.size w0.w w1→Tb w1→Calls Tryz.prog 55 #[v] w1 (FilPost w0 (tJ s) w1)):=fun v w0 w1 ha hb ht=>fParse_any hSp hL w0 13 v (tJ s) w1 (by omega) ha HK.out hb ht
 clear hT hD hN hL h0 hst hSp
 go_enter Tryz.func54,Tryz.ntmps54
 go_wp2_with fail
 refine HP.out.mono ?_
 rintro e w1 ⟨b1,A,B,C,D',rfl,ha⟩
 have HBa : Hid (Below w1.heap.size w1 (w1.alloc (.cells #[.int .i64 (kindOf (tJ s)),.int .i64 (nOf (tJ s)),.string (sOf (tJ s)),.slice A (nL (tJ s)) B,.slice C (nK (tJ s)) D'] 36))):=(Below.refl _ _).alloc (Nat.le_refl _) _
 have HB2:=hid (b1.trans (HBa.out.mono b1.size))
 have HC:=hid (HF.out _ ⟨w1,newB w w1⟩ _ ha HBa.out (HT.out _ HB2.out))
 have Hb1:=hid b1
 clear b1 ha HP
 go_wp2_with fail
 refine HC.out.mono ?_
 rintro e w3 ⟨b3,⟨hok,fv,rfl,hr⟩ | ⟨hok,rfl⟩⟩
 ·have HB3:=hid (HB2.out.trans (b3.mono HB2.out.size))
  have HFs:=hid (fil_stay hr Hb1.out HBa.out b3)
  have HFl:=hid (HFs.out w3 (Nat.le_refl _) fun _ _ _=>rfl)
  have HO:=hid hok
  have HS3:=hid (HSt.out.keep HB3.out)
  have c0:=HS3.out.cell
  clear b3 hr hok HC HBa HB2 HSt HF HT
  rcases HS3.out.look x hx with ⟨hrun,hat⟩ | ⟨c,hrun,hat⟩
  ·have HAt:=hid hat
   clear hat
   go_wp2_with fail
   refine bodyPost_ret (v:=.tuple #[.pointer none,.slice none 0 0,.int .i64 10]) (by simp [results,Tryz.results54,go_sem, *]) rfl ?_
   exact ⟨HB3.out,.inr (.inr (.inl ⟨H0.out,HO.out,HAt.out,rfl⟩))⟩
  ·have HAt:=hid hat
   clear hat
   go_wp2_with fail
   refine bodyPost_ret (v:=.tuple #[.pointer (some ⟨c,0,none⟩),fv,.int .i64 0]) (by simp [results,Tryz.results54,go_sem, *]) rfl ?_
   exact ⟨HB3.out,.inr (.inr (.inr ⟨H0.out,HO.out,c,HAt.out,fv,rfl,HFl.out,HFs.out⟩))⟩
 ·have HB3:=hid (HB2.out.trans (b3.mono HB2.out.size))
  have HO:=hid hok
  clear b3 hok HC HBa HB2 HSt HF HT
  go_wp2_with fail
  refine bodyPost_ret (v:=.tuple #[.pointer none,.slice none 0 0,.int .i64 8]) (by simp [results,Tryz.results54,go_sem, *]) rfl ?_
  exact ⟨HB3.out,.inr (.inl ⟨H0.out,HO.out,rfl⟩)⟩
theorem readF_any {Tb : World→Prop} (hD : DecSaid Tb) (hN : IntSaid Tb) (hSp : SplitSaid Tb) (hL : Lies Tb) (p m n : Nat) (D : DataW Unit) (x s : ByteArray) (w : World) (hs : s.size≤140737488355328) (hx : x.size≤140737488355328) (hst : StoAt w p m n D) (hT : Tb w) :
  Calls Tryz.prog 54 #[.pointer (some ⟨p,0,none⟩),.string x,.string s,.func (Fn.func 55) #[] #[]] w (ReadPost w x s D):=by
 by_cases h0 : eJ s=0
 ·exact readF_ok hD hN hSp hL p m n D x s w hs hx hst hT h0
 ·exact readF_bad hD hN hL p D x s w hs hT h0 _
set_option maxHeartbeats 4000000 in
set_option maxRecDepth 100000 in
theorem search_any {Tb : World→Prop} (hD : DecSaid Tb) (hN : IntSaid Tb) (hSp : SplitSaid Tb) (hL : Lies Tb) (p m n : Nat) (D : DataW Unit) (x s : ByteArray) (w : World) (hs : s.size≤140737488355328) (hx : x.size≤140737488355328) (hst : StoAt w p m n D) (hT : Tb w) :
  Calls Tryz.prog 33 #[.pointer (some ⟨p,0,none⟩),.string x,.string s] w (ReadPost w x s D):=by
 have HC:=hid (readF_any hD hN hSp hL p m n D x s w hs hx hst hT)
 clear hD hN hSp hL hst hT hs hx
 go_enter Tryz.func33,Tryz.ntmps33
 go_wp2_with fail
 refine HC.out.mono ?_
 rintro e w1 ⟨b1,⟨h1,rfl⟩ | ⟨h1,h2,rfl⟩ | ⟨h1,h2,h3,rfl⟩ | ⟨h1,h2,c,h3,fv,rfl,h4⟩⟩
 ·have HB:=hid b1
  have H1:=hid h1
  clear b1 h1 HC
  go_wp2_with fail
  refine bodyPost_ret (v:=.tuple #[.pointer none,.slice none 0 0,.int .i64 (eJ s)]) (by simp [results,Tryz.results33,go_sem, *]) rfl ?_
  exact ⟨HB.out,.inl ⟨H1.out,rfl⟩⟩
 ·have HB:=hid b1
  have H1:=hid (And.intro h1 h2)
  clear b1 h1 h2 HC
  go_wp2_with fail
  refine bodyPost_ret (v:=.tuple #[.pointer none,.slice none 0 0,.int .i64 8]) (by simp [results,Tryz.results33,go_sem, *]) rfl ?_
  exact ⟨HB.out,.inr (.inl ⟨H1.out.1,H1.out.2,rfl⟩)⟩
 ·have HB:=hid b1
  have H1:=hid (And.intro h1 (And.intro h2 h3))
  clear b1 h1 h2 h3 HC
  go_wp2_with fail
  refine bodyPost_ret (v:=.tuple #[.pointer none,.slice none 0 0,.int .i64 10]) (by simp [results,Tryz.results33,go_sem, *]) rfl ?_
  exact ⟨HB.out,.inr (.inr (.inl ⟨H1.out.1,H1.out.2.1,H1.out.2.2,rfl⟩))⟩
 ·have HB:=hid b1
  have H1:=hid (And.intro h1 (And.intro h2 (And.intro h3 h4)))
  clear b1 h1 h2 h3 h4 HC
  go_wp2_with fail
  refine bodyPost_ret (v:=.tuple #[.pointer (some ⟨c,0,none⟩),fv,.int .i64 0]) (by simp [results,Tryz.results33,go_sem, *]) rfl ?_
  exact ⟨HB.out,.inr (.inr (.inr ⟨H1.out.1,H1.out.2.1,c,H1.out.2.2.1,fv,rfl,H1.out.2.2.2⟩))⟩
end Go.Proofs.YtknakfpciccoaabGreatDoor
/- The walk of Find. -/
namespace Go.Proofs.YtknakfpciccoaabGreatDoor
open Go.RowKit Go.Maps Go.WideMaps
theorem prL_mk (k n : Int) (s : ByteArray) (l : List T) (ks : List ByteArray) : ∀ j,j≤l.length→prL (mkT k n s l ks) j=(l.take j).map fun t=>.string (prT t)
 | 0,_=>rfl
 | j+1,h=>by
  have e : elt (mkT k n s l ks) j=l[j]:=by rw [elt_mk,List.getD_eq_getElem?_getD,List.getElem?_eq_getElem h]; rfl
  rw [prL,prL_mk k n s l ks j (by omega),e,List.take_add_one,List.getElem?_eq_getElem h]
  simp only [Option.toList_some,List.map_append,List.map_cons,List.map_nil]
def CollAt (w : World) (c f : Nat) (d : T) : Prop:=∃ La Lc,w.cell? ⟨c,0,none⟩=some (.slice La (nL d) Lc)∧c<w.heap.size∧ElemsAt w f La d
theorem CollAt.keep {w w' : World} {c f : Nat} {d : T} (h : CollAt w c f d) (hb : Below w.heap.size w w') : CollAt w' c f d:=by
 obtain ⟨La,Lc,h1,h2,h3⟩:=h
 exact ⟨La,Lc,(hb.cell (p:=⟨c,0,none⟩) h2).trans h1,Nat.lt_of_lt_of_le h2 hb.size,h3.keep hb⟩
def fndL (s : ByteArray) (d : T) : List T:=keepL (evF 16 (tJ s)) d (nL d)
def FindPost (w : World) (x s : ByteArray) (D : DataW Unit) (dof : Nat → T) (e : Ending) (w' : World) : Prop :=
  Below w.heap.size w w' ∧
  ((eJ s ≠ 0 ∧ e = .returned (.tuple #[.slice none 0 0, .int .i64 (eJ s)])) ∨
   (eJ s = 0 ∧ okFil 16 (tJ s) = false ∧ e = .returned (.tuple #[.slice none 0 0, .int .i64 8])) ∨
   (eJ s = 0 ∧ okFil 16 (tJ s) = true ∧ atK D x = .nil ∧ e = .returned (.tuple #[.slice none 0 0, .int .i64 10])) ∨
   (eJ s = 0 ∧ okFil 16 (tJ s) = true ∧ ∃ c : Nat, atK D x = .lit (.int .i64 c) ∧ ∃ sv, e = .returned (.tuple #[sv, .int .i64 0]) ∧ w'.ownsRow w.heap.size 9 1 sv (fndL s (dof c)).length ((fndL s (dof c)).map fun t => .string (prT t))))
structure StoreSaid (Tb : World→Prop) : Prop where
 dec : DecSaid Tb
 int : IntSaid Tb
 split : SplitSaid Tb
 atoi : AtoiSaid Tb
 itoa : ItoaSaid Tb
 valid : ValidSaid Tb
 fmt : FmtSaid Tb
 lies : Lies Tb
theorem row_base {w : World} {lo lo' : Nat} {e : TypeId} {s n : Nat} {v : Value} {xs : List Value} (h : w.ownsRow lo e s v n xs) (hl : lo'≤lo) : w.ownsRow lo' e s v n xs:=by
 refine ⟨h.1,?_⟩
 rcases h.2 with hn | ⟨g,cap,cur,rfl,hb0,rest⟩
 ·exact .inl hn
 ·exact .inr ⟨g,cap,cur,rfl,Nat.le_trans hl hb0,rest⟩
set_option maxHeartbeats 4000000 in
set_option maxRecDepth 100000 in
theorem find_any {Tb : World→Prop} (hA : StoreSaid Tb) (p m n f : Nat) (D : DataW Unit) (dof : Nat→T) (x s : ByteArray) (w : World) (hs : s.size≤140737488355328) (hx : x.size≤140737488355328) (hst : StoAt w p m n D)
  (hc : ∀ c : Nat,atK D x=.lit (.int .i64 c)→CollAt w c f (dof c)∧nL (dof c)≤1000000∧∀ i,i<nL (dof c)→okA (elt (dof c) i)) (hf : f≤16) (hT : Tb w) :
  Calls Tryz.prog 17 #[.pointer (some ⟨p,0,none⟩),.string x,.string s] w (FindPost w x s D dof):=by
 have HC:=hid (search_any hA.dec hA.int hA.split hA.lies p m n D x s w hs hx hst hT)
 have Hc:=hid hc
 have HT : Hid (∀ w' : World,Below w.heap.size w w'→Tb w'):=fun w' hb=>hA.lies w hT w w' hT hb
 have HAm : Hid (∀ (fv' : Value) (t d : T) (La : Option Addr) (Lc : Nat) (w : World),FilAt w 16 fv' t→ElemsAt w f La d→nL d≤1000000→(∀ i,i<nL d→okA (elt d i))→Tb w→Calls Tryz.prog 34 #[fv',.slice La (nL d) Lc] w fun e w'=>∃ hv xs,e=.returned hv∧Held w f hv (keepL (evF 16 t) d (nL d)) xs w'):=fun fv' t d La Lc w h1 h2 h3 h4 h5=>among_docs hA.lies 16 (fil_any hA.atoi hA.itoa hA.lies 16) fv' t d f La Lc w h1 h2 h3 hf h4 h5
 have HPr : Hid (∀ (d : T) (La : Option Addr) (Lc : Nat) (w : World),ElemsAt w f La d→nL d≤1000000→Tb w→Calls Tryz.prog 24 #[.slice La (nL d) Lc] w fun e w'=>Below w.heap.size w w'∧∃ sv,e=.returned sv∧w'.ownsRow w.heap.size 9 1 sv (nL d) (prL d (nL d))):=fun d La Lc w h1 h2 h3=>printed_docs hA.valid hA.fmt hA.lies d f La Lc w h1 h2 h3
 clear hst hT hs hx hc hA hf
 go_enter Tryz.func17,Tryz.ntmps17
 go_wp2_with fail
 refine HC.out.mono ?_
 rintro e w1 ⟨b1,⟨h1,rfl⟩ | ⟨h1,h2,rfl⟩ | ⟨h1,h2,h3,rfl⟩ | ⟨h1,h2,c,h3,fv,rfl,h4,_⟩⟩
 ·have HB:=hid b1
  have H1:=hid h1
  have ez : (eJ s == 0)=false:=by simpa using h1
  clear b1 h1 HC
  go_wp2_with fail
  refine bodyPost_ret (v:=.tuple #[.slice none 0 0,.int .i64 (eJ s)]) (by simp [results,Tryz.results17,go_sem, *]) rfl ?_
  exact ⟨HB.out,.inl ⟨H1.out,rfl⟩⟩
 ·have HB:=hid b1
  have H1:=hid (And.intro h1 h2)
  clear b1 h1 h2 HC
  go_wp2_with fail
  refine bodyPost_ret (v:=.tuple #[.slice none 0 0,.int .i64 8]) (by simp [results,Tryz.results17,go_sem, *]) rfl ?_
  exact ⟨HB.out,.inr (.inl ⟨H1.out.1,H1.out.2,rfl⟩)⟩
 ·have HB:=hid b1
  have H1:=hid (And.intro h1 (And.intro h2 h3))
  clear b1 h1 h2 h3 HC
  go_wp2_with fail
  refine bodyPost_ret (v:=.tuple #[.slice none 0 0,.int .i64 10]) (by simp [results,Tryz.results17,go_sem, *]) rfl ?_
  exact ⟨HB.out,.inr (.inr (.inl ⟨H1.out.1,H1.out.2.1,H1.out.2.2,rfl⟩))⟩
 ·obtain ⟨hco,hn,hok⟩:=Hc.out c h3
  obtain ⟨La,Lc,q0,hcl,hel⟩:=hco.keep b1
  have HB:=hid b1
  have H1:=hid (And.intro h1 (And.intro h2 h3))
  have HM:=hid (HAm.out fv (tJ s) (dof c) La Lc w1 h4 hel hn hok (HT.out _ b1))
  have Hn:=hid hn
  clear b1 h1 h2 h3 h4 HC hco hel hok HAm hcl hn
  go_wp2_with fail
  refine HM.out.mono ?_
  rintro e w2 ⟨hv,xs,rfl,hh⟩
  obtain ⟨La2,Lc2,rfl,hel2⟩:=hh.elems
  have HB2:=hid (HB.out.trans (hh.low.mono HB.out.size))
  have HR:=hid (HPr.out _ La2 Lc2 w2 hel2 (by rw [nL_mk]; exact Nat.le_trans (keepL_le _ _ _) Hn.out) (HT.out _ HB2.out))
  rw [nL_mk] at HR
  have HPl : Hid (prL (mkT 5 0 ByteArray.empty (keepL (evF 16 (tJ s)) (dof c) (nL (dof c))) []) (keepL (evF 16 (tJ s)) (dof c) (nL (dof c))).length=(fndL s (dof c)).map fun t=>.string (prT t)):=by
   show _=_
   rw [prL_mk _ _ _ _ _ _ (Nat.le_refl _),List.take_length]
   rfl
  rw [HPl.out] at HR
  clear hh hel2 HM HPr
  go_wp2_with fail
  refine HR.out.mono ?_
  rintro e w3 ⟨b3,sv,rfl,ho⟩
  have HB3:=hid (HB2.out.trans (b3.mono HB2.out.size))
  have HO:=hid (row_base ho HB2.out.size)
  clear b3 ho HR
  go_wp2_with fail
  refine bodyPost_ret (v:=.tuple #[sv,.int .i64 0]) (by simp [results,Tryz.results17,go_sem, *]) rfl ?_
  exact ⟨HB3.out,.inr (.inr (.inr ⟨H1.out.1,H1.out.2.1,c,H1.out.2.2,sv,rfl,HO.out⟩))⟩
end Go.Proofs.YtknakfpciccoaabGreatDoor
/- The walk of appendNumber. -/
namespace Go.Proofs.YtknakfpciccoaabGreatDoor
open Go.RowKit
set_option maxHeartbeats 4000000 in
set_option maxRecDepth 100000 in
theorem appNum_any (w0 : World) (r : Value) (acc : List UInt8) (n : Int) (m : Nat) (w : World) (hr : w.ownsRow w0.heap.size 5 1 r acc.length (bytesV acc)) (hb : w0.heap.size≤w.heap.size) (_hn0 : 0≤n) (_hn1 : n<18446744073709551616) (hm : m≤8) (hl : acc.length≤1000000000) :
  Calls Tryz.prog 145 #[r,.int .u64 n,.int .i64 m] w fun e w'=>∃ r',e=.returned r'∧QG w0 r w r' (acc ++ beL n m) w':=by
 obtain ⟨iB,hiB,zB0,zB1,zB2⟩:=info_parts infoBE
 have HR:=hid (QG.refl hr)
 clear hr
 go_enter Tryz.func145,Tryz.ntmps145
 go_wp2_with fail
 go_loopg [0,7] m (fun g o i wr=>∃ (j : Nat) (a : List UInt8),g=j∧j≤m∧i=.int .i64 ((j : Int) - 1)∧a.length≤1000000008 - j∧Hid (a ++ beL n j=acc ++ beL n m)∧Hid (QG w0 r w o a wr))
 case atStart=>exact ⟨m,acc,rfl,Nat.le_refl _,by go_num,by omega,rfl,HR⟩
 case round =>
  obtain ⟨_,a,rfl,hj,rfl,hla,HE,HQ⟩:=hrel
  cases gk with
  | zero =>
   have e1 : ((0 : Nat) : Int) - 1=-1:=by omega
   rw [e1]
   have HA : Hid (a=acc ++ beL n m):=by have:=HE.out; show _=_; simpa [beL] using this
   go_wp2_with fail
   go_ret
   exact ⟨_,rfl,HQ.out.acc HA.out⟩
  | succ i =>
   have e1 : ((i+1 : Nat) : Int) - 1=(i : Int):=by omega
   rw [e1]
   obtain ⟨q,hq⟩ : ∃ q : Nat,q=8 * i:=⟨_,rfl⟩
   have f1 : IntKind.i64.wrap (8 * (i : Int))=(q : Int):=by rw [IntKind.wrap_i64]; omega
   have f2 : q≤56:=by omega
   have f3 : ((byAt n i).toNat : Int)=n / 2 ^ q % 256:=by rw [byAt_toNat,hq,Int.pow_mul]; rfl
   have f4 : IntKind.u8.wrap (n / 2 ^ q)=((byAt n i).toNat : Int):=by rw [IntKind.wrap_u8]; omega
   have Hq:=hid hq
   clear hq f3
   have hbw : w0.heap.size≤wr.heap.size:=Nat.le_trans hb HQ.out.grown.size
   have HB1 : Hid (Below wr.heap.size wr (wr.alloc (.cells #[.int .u8 ((byAt n i).toNat : Int)] 5))):=(Below.refl _ _).alloc (Nat.le_refl _) _
   have HI1:=hid (HQ.out.keep HB1.out)
   have HSb : Hid (Src Tryz.prog 1 98 (.slice (some ⟨wr.heap.size,0,none⟩) 1 1) 1 (bytesV [byAt n i]) (wr.alloc (.cells #[.int .u8 ((byAt n i).toNat : Int)] 5))):=hid (srcE_built wr [byAt n i])
   go_wp2_with (at_builtin; refine wpList_append_src _ rfl (.tmp 14) (.tmp 20) 98 98 rfl w0.heap.size 5 iB _ 1 1 Tryz.underlying98 hiB zB0 zB1 zB2 rfl u0 a.length (bytesV a) rfl HI1.out.row (.slice (some ⟨wr.heap.size,0,none⟩) 1 1) 1 (bytesV [byAt n i]) rfl HSb.out (by unfold maxLen; omega) (by omega) (Nat.le_trans hbw HB1.out.size) ?_; intro v' w6 hO6 hG6 hat6)
   have H6:=hid (HI1.out.grow (l:=[byAt n i]) hO6 hG6 hat6)
   clear hO6 hG6 hat6 HI1 HSb HB1
   have HE2 : Hid ((a ++ [byAt n i]) ++ beL n i=acc ++ beL n m):=by have:=HE.out; show _=_; rw [← this]; simp [beL]
   go_wp2_with fail
   go_roundg i
   case rel=>exact ⟨i,a ++ [byAt n i],rfl,by omega,by go_num,by simp only [List.length_append,List.length_cons,List.length_nil]; omega,HE2,H6⟩
   case measure=>omega
end Go.Proofs.YtknakfpciccoaabGreatDoor
/- The walk of appendValue, of leaves. -/
namespace Go.Proofs.YtknakfpciccoaabGreatDoor
open Go.RowKit
theorem QG.from {w0 w w1 : World} {o : Obj} {r r1 : Value} {a a1 : List UInt8} (hr : w.ownsRow w0.heap.size 5 1 r a.length (bytesV a)) (h : QG w0 r (w.alloc o) r1 a1 w1) : QG w0 r w r1 a1 w1 :=
 ((QG.refl hr).keep ((Below.refl _ _).alloc (Nat.le_refl _) o)).trans h
theorem QG.here {w0 w : World} {o : Obj} {r : Value} {a : List UInt8} (hr : w.ownsRow w0.heap.size 5 1 r a.length (bytesV a)) : QG w0 r (w.alloc o) r a (w.alloc o) :=
 QG.refl ((QG.refl hr).keep ((Below.refl _ _).alloc (Nat.le_refl _) o)).row
theorem wrapB (n : Int) : IntKind.u8.wrap n=((byAt n 0).toNat : Int):=by rw [IntKind.wrap_u8,byAt_toNat]; simp
theorem wrapU_nonneg (n : Int) : 0≤n % 18446744073709551616∧n % 18446744073709551616<18446744073709551616:=⟨Int.emod_nonneg _ (by omega),Int.emod_lt_of_pos _ (by omega)⟩
def AvSaid (w0 : World) (m : Nat) : Prop:=∀ (f : Nat) (v : Value) (t : T) (acc : List UInt8) (r : Value) (w : World),At w0 f v t→Good m t→Below w0.heap.size w0 w→w.ownsRow w0.heap.size 5 1 r acc.length (bytesV acc)→acc.length+(encT m t).length≤100000000 →
  Calls Tryz.prog 118 #[r,v] w fun e w'=>∃ r',e=.returned r'∧QG w0 r w r' (acc ++ encT m t) w'
set_option maxHeartbeats 4000000 in
set_option maxRecDepth 100000 in
theorem appVal_leaf (w0 : World) (t : T) (hg : leafGood t) (ht : Fits t) (acc : List UInt8) (r : Value) (w : World) (La Ka : Option Addr) (Lc Kc : Nat) (hb : w0.heap.size≤w.heap.size) (hr : w.ownsRow w0.heap.size 5 1 r acc.length (bytesV acc)) (hl : acc.length+(leafE t).length≤100000000) :
  Calls Tryz.prog 118 #[r,.agg #[.int .i64 (kindOf t),.int .i64 (nOf t),.string (sOf t),.slice La (nL t) Lc,.slice Ka (nK t) Kc]] w fun e w'=>∃ r',e=.returned r'∧QG w0 r w r' (acc ++ leafE t) w':=by
 obtain ⟨iB,hiB,zB0,zB1,zB2⟩:=info_parts infoBE
 have HR:=hid hr
 have HFt:=hid ht
 have hl1 : acc.length≤100000000:=by omega
 have Hl:=hid hl
 clear hr ht hl
 have fk : IntKind.u8.wrap (kindOf t)=((kindB t).toNat : Int):=wrapB _
 have H0 : Hid (QG w0 r (w.alloc (.cells #[.int .i64 (kindOf t),.int .i64 (nOf t),.string (sOf t),.slice La (nL t) Lc,.slice Ka (nK t) Kc] 36)) r acc (w.alloc (.cells #[.int .i64 (kindOf t),.int .i64 (nOf t),.string (sOf t),.slice La (nL t) Lc,.slice Ka (nK t) Kc] 36))):=QG.here HR.out
 have HB1 : Hid (Below (w.heap.size+1) (w.alloc (.cells #[.int .i64 (kindOf t),.int .i64 (nOf t),.string (sOf t),.slice La (nL t) Lc,.slice Ka (nK t) Kc] 36)) ((w.alloc (.cells #[.int .i64 (kindOf t),.int .i64 (nOf t),.string (sOf t),.slice La (nL t) Lc,.slice Ka (nK t) Kc] 36)).alloc (.cells #[.int .u8 ((kindB t).toNat : Int)] 5))):=(Below.refl _ _).alloc (by simp) _
 have HI1:=hid (H0.out.keep (HB1.out.mono (by simp)))
 have HSb : Hid (Src Tryz.prog 1 98 (.slice (some ⟨w.heap.size+1,0,none⟩) 1 1) 1 (bytesV [kindB t]) ((w.alloc (.cells #[.int .i64 (kindOf t),.int .i64 (nOf t),.string (sOf t),.slice La (nL t) Lc,.slice Ka (nK t) Kc] 36)).alloc (.cells #[.int .u8 ((kindB t).toNat : Int)] 5))):=by
  have:=srcE_built (w.alloc (.cells #[.int .i64 (kindOf t),.int .i64 (nOf t),.string (sOf t),.slice La (nL t) Lc,.slice Ka (nK t) Kc] 36)) [kindB t]
  apply hid
  simpa [bytesV] using this
 have hbz : w0.heap.size≤((w.alloc (.cells #[.int .i64 (kindOf t),.int .i64 (nOf t),.string (sOf t),.slice La (nL t) Lc,.slice Ka (nK t) Kc] 36)).alloc (.cells #[.int .u8 ((kindB t).toNat : Int)] 5)).heap.size:=by simp; omega
 obtain ⟨g1,g2,hg⟩:=hg
 clear g1 g2
 rcases hg with ⟨hk,g3⟩ | ⟨hk,hn,g3⟩ | ⟨hk,g3⟩ | ⟨hk,g3,hsz,g4⟩
 all_goals clear g3
 ·skip
  have e2 : (kindOf t == 2)=false:=by rw [hk]; rfl
  have e3 : (kindOf t == 3)=false:=by rw [hk]; rfl
  have e4 : (kindOf t == 4)=false:=by rw [hk]; rfl
  have e5 : (kindOf t == 5)=false:=by rw [hk]; rfl
  have e6 : (kindOf t == 6)=false:=by rw [hk]; rfl
  have HW : Hid (leafE t=[kindB t]):=by show _=_; unfold leafE; rw [if_neg (by omega),if_neg (by omega),if_neg (by omega)]
  clear hk
  go_enter Tryz.func118,Tryz.ntmps118
  go_wp2_with (at_builtin; refine wpList_append_src _ rfl (.tmp 5) (.tmp 9) 98 98 rfl w0.heap.size 5 iB _ 1 1 Tryz.underlying98 hiB zB0 zB1 zB2 rfl r acc.length (bytesV acc) rfl HI1.out.row (.slice (some ⟨w.heap.size+1,0,none⟩) 1 1) 1 (bytesV [kindB t]) rfl HSb.out (by unfold maxLen; omega) (by omega) hbz ?_; intro r1 w1 hO1 hG1 hat1; have HQ1:=hid (HI1.out.grow (l:=[kindB t]) hO1 hG1 hat1); clear hO1 hG1 hat1 HI1 HSb HB1 H0 hbz; obtain ⟨q0,q1,q2,q3,q4,hz⟩:=QG.box HR.out HQ1.out; have hb1 : w0.heap.size≤w1.heap.size:=by omega)
  go_ret
  exact ⟨_,rfl,by rw [HW.out]; exact HQ1.out.from HR.out⟩
 ·skip
  have e2 : (kindOf t == 2)=true:=by rw [hk]; rfl
  have HW : Hid (leafE t=[kindB t] ++ [byAt (nOf t) 0]):=by show _=_; unfold leafE; rw [if_pos hk]; rfl
  have fn : IntKind.u8.wrap (nOf t)=((byAt (nOf t) 0).toNat : Int):=wrapB _
  have HSc:=hid (fun w : World=>srcE_built w [byAt (nOf t) 0])
  generalize hc : byAt (nOf t) 0=c at fn HSc
  have Hc:=hid hc
  clear hk hn hc
  go_enter Tryz.func118,Tryz.ntmps118
  go_wp2_with (first | (at_builtin; refine wpList_append_src _ rfl (.tmp 5) (.tmp 9) 98 98 rfl w0.heap.size 5 iB _ 1 1 Tryz.underlying98 hiB zB0 zB1 zB2 rfl r acc.length (bytesV acc) rfl HI1.out.row (.slice (some ⟨w.heap.size+1,0,none⟩) 1 1) 1 (bytesV [kindB t]) rfl HSb.out (by unfold maxLen; omega) (by omega) hbz ?_; intro r1 w1 hO1 hG1 hat1; have HQ1:=hid (HI1.out.grow (l:=[kindB t]) hO1 hG1 hat1); clear hO1 hG1 hat1 HI1 HSb HB1 H0 hbz; obtain ⟨q0,q1,q2,q3,q4,hz⟩:=QG.box HR.out HQ1.out; have hb1 : w0.heap.size≤w1.heap.size:=by omega) | (at_builtin; refine wpList_append_src _ rfl (.tmp 15) (.tmp 19) 98 98 rfl w0.heap.size 5 iB _ 1 1 Tryz.underlying98 hiB zB0 zB1 zB2 rfl r1 (acc ++ [kindB t]).length (bytesV (acc ++ [kindB t])) rfl (HQ1.out.keep ((Below.refl _ _).alloc (Nat.le_refl _) (.cells #[.int .u8 (c.toNat : Int)] 5))).row (.slice (some ⟨w1.heap.size,0,none⟩) 1 1) 1 (bytesV [c]) rfl (HSc.out w1) (by simp only [List.length_append,List.length_cons,List.length_nil]; unfold maxLen; omega) (by simp only [List.length_append,List.length_cons,List.length_nil]; omega) (by simp; omega) ?_; intro r2 w2 hO2 hG2 hat2; have HQ2:=hid ((HQ1.out.keep ((Below.refl _ _).alloc (Nat.le_refl _) (.cells #[.int .u8 (c.toNat : Int)] 5))).grow (l:=[c]) hO2 hG2 hat2); clear hO2 hG2 hat2))
  go_ret
  exact ⟨_,rfl,by rw [HW.out,Hc.out,← List.append_assoc]; exact HQ2.out.from HR.out⟩
 ·skip
  have e2 : (kindOf t == 2)=false:=by rw [hk]; rfl
  have e3 : (kindOf t == 3)=true:=by rw [hk]; rfl
  have HW : Hid (leafE t=[kindB t] ++ beL (nOf t) 8):=by show _=_; unfold leafE; rw [if_neg (by omega),if_pos hk]; rfl
  obtain ⟨N,hN⟩ : ∃ N : Int,N=nOf t % 18446744073709551616:=⟨_,rfl⟩
  have fn : IntKind.u64.wrap (nOf t)=N:=by rw [hN,IntKind.wrap_u64]
  have HN : Hid (beL N 8=beL (nOf t) 8):=by show _=_; rw [hN]; exact beL_wrap _ 8 (by omega)
  have HN2:=hid (hN ▸ wrapU_nonneg (nOf t))
  clear hk hN
  go_enter Tryz.func118,Tryz.ntmps118
  go_wp2_with (at_builtin; refine wpList_append_src _ rfl (.tmp 5) (.tmp 9) 98 98 rfl w0.heap.size 5 iB _ 1 1 Tryz.underlying98 hiB zB0 zB1 zB2 rfl r acc.length (bytesV acc) rfl HI1.out.row (.slice (some ⟨w.heap.size+1,0,none⟩) 1 1) 1 (bytesV [kindB t]) rfl HSb.out (by unfold maxLen; omega) (by omega) hbz ?_; intro r1 w1 hO1 hG1 hat1; have HQ1:=hid (HI1.out.grow (l:=[kindB t]) hO1 hG1 hat1); clear hO1 hG1 hat1 HI1 HSb HB1 H0 hbz; obtain ⟨q0,q1,q2,q3,q4,hz⟩:=QG.box HR.out HQ1.out; have hb1 : w0.heap.size≤w1.heap.size:=by omega)
  rw [show (Value.int .i64 8)=.int .i64 ((8 : Nat) : Int) from rfl]
  refine (appNum_any w0 r1 (acc ++ [kindB t]) N 8 w1 HQ1.out.row hb1 HN2.out.1 HN2.out.2 (by omega) (by simp only [List.length_append,List.length_cons,List.length_nil]; omega)).mono ?_
  rintro e w2 ⟨r2,rfl,hq2⟩
  have HQ2:=hid (HQ1.out.trans hq2)
  clear hq2
  go_wp2_with fail
  go_ret
  exact ⟨_,rfl,by rw [HW.out,← HN.out,← List.append_assoc]; exact HQ2.out.from HR.out⟩
 ·skip
  have e2 : (kindOf t == 2)=false:=by rw [hk]; rfl
  have e3 : (kindOf t == 3)=false:=by rw [hk]; rfl
  have e4 : (kindOf t == 4)=true:=by rw [hk]; rfl
  have HW : Hid (leafE t=[kindB t] ++ beL (sOf t).size 4 ++ (sOf t).data.toList):=by show _=_; unfold leafE; rw [if_neg (by omega),if_neg (by omega),if_pos hk]; simp
  generalize sOf t=s at *
  clear hk
  go_enter Tryz.func118,Tryz.ntmps118
  go_wp2_with (at_builtin; refine wpList_append_src _ rfl (.tmp 5) (.tmp 9) 98 98 rfl w0.heap.size 5 iB _ 1 1 Tryz.underlying98 hiB zB0 zB1 zB2 rfl r acc.length (bytesV acc) rfl HI1.out.row (.slice (some ⟨w.heap.size+1,0,none⟩) 1 1) 1 (bytesV [kindB t]) rfl HSb.out (by unfold maxLen; omega) (by omega) hbz ?_; intro r1 w1 hO1 hG1 hat1; have HQ1:=hid (HI1.out.grow (l:=[kindB t]) hO1 hG1 hat1); clear hO1 hG1 hat1 HI1 HSb HB1 H0 hbz; obtain ⟨q0,q1,q2,q3,q4,hz⟩:=QG.box HR.out HQ1.out; have hb1 : w0.heap.size≤w1.heap.size:=by omega)
  have fz : IntKind.u64.wrap (s.size : Int)=(s.size : Int):=by rw [IntKind.wrap_u64]; omega
  have HQd:=hid (HQ1.out.keep (below_drew w1))
  have hbd : w0.heap.size≤w1.drew.heap.size:=by simpa using hb1
  have hl2 : (acc ++ [kindB t]).length≤100000001:=by simp only [List.length_append,List.length_cons,List.length_nil]; omega
  have HC:=hid (appNum_any w0 r1 (acc ++ [kindB t]) (s.size : Int) 4 w1.drew HQd.out.row hbd (by omega) (by omega) (by omega) (by omega))
  have hl3 : ((acc ++ [kindB t]) ++ beL (s.size : Int) 4).length≤100000005:=by rw [List.length_append,beL_len]; omega
  generalize hA : (acc ++ [kindB t]) ++ beL (s.size : Int) 4=acc2 at HC hl3
  have HA:=hid hA
  clear hA hl2 g4
  go_region_law (first | (refine step_append_src _ (by rfl) (.tmp 35) (.tmp 37) 98 9 (by rfl) w0.heap.size 5 iB _ 1 1 Tryz.underlying98 hiB zB0 zB1 zB2 rfl r2 acc2.length (bytesV acc2) (by rfl) HQ2.out.row (.string s) s.size (bytesV s.data.toList) (by rfl) (src_bytes _ Tryz.underlying9 s) (by unfold maxLen; omega) (by omega) hb2 ?_; intro r3 w3 hO3 hG3 hat3) | (go_simp; go_wp2_with (go_at_call 145; refine HC.out.mono ?_; rintro e w2 ⟨r2,rfl,hq2⟩; have HQ2:=hid (HQd.out.trans hq2); obtain ⟨p0,p1,p2,p3,p4,hz2⟩:=QG.box HR.out HQ2.out; have hb2 : w0.heap.size≤w2.heap.size:=by omega)))
  all_goals
   have HQ3:=hid (HQ2.out.grow (l:=s.data.toList) hO3 hG3 hat3)
   clear hO3 hG3 hat3 hq2 HQ2
   go_wp2_with fail
   go_ret
   exact ⟨_,rfl,by rw [HW.out,← List.append_assoc,← List.append_assoc,HA.out]; exact HQ3.out.from HR.out⟩
end Go.Proofs.YtknakfpciccoaabGreatDoor
/- The walk of appendEntries: laws, and the loop. -/
namespace Go.Proofs.YtknakfpciccoaabGreatDoor
open Go.RowKit
theorem step_copy_row {P : Program} {ops : Array Oper} {o : Oper} {a : Act} {w : World} {K : Act→World→Prop} {Q : Exit→Act→World→Prop} {E : Prop} (hgd : o.guard=none) (d s : Operand) (dT sT : TypeId)
  (ho : o.op=.call { callee:=.builtin .copy,args:=#[d,s],argTypes:=#[dT,sT] }) (elem : TypeId) (hu : P.underlying dT=some (.slice elem)) (hsz : (P.info? elem).map (·.size)=some 1)
  (g off dLen dCap : Nat) (ad : Addr) (sLen sCap : Nat) (hd : a.eval d=.slice (some ⟨g,off,none⟩) dLen dCap) (hs : a.eval s=.slice (some ad) sLen sCap)
  (cur : Array Value) (t : TypeId) (hg : w.heap[g]?=some (.cells cur t (0,0))) (cs : List Value) (hn : cs.length=Nat.min sLen dLen)
  (hsrc : ∀ j v,cs[j]?=some v→w.cell? (ad.add j)=some v) (hfit : off+cs.length≤cur.size) (h1 : ∀ v ∈ cs,v.oneCell'=true) (w' : World) (hw' : w'=w.setRow g (cur.toList.take off ++ (cs ++ cur.toList.drop (off+cs.length))).toArray)
  (h : K (a.put o.dst (goInt cs.length)) w') :
  if Region.wanted o (yielded ops a.tmps)=true then Oper.wp P o a w K Q else E:=by
 subst hw'
 have hw : Region.wanted o (yielded ops a.tmps)=true:=by simp [Region.wanted,hgd]
 rw [if_pos hw]
 have hrun:=run_copy_row (P:=P) w dT sT o.type elem g off dLen dCap ad sLen sCap cur t cs hu hsz hg hn hsrc hfit h1
 unfold Oper.wp
 simp [execOp,ho,resolve,invoke,builtin,hd,hs,hrun,Result.andThen]
 exact h
theorem take_splice {α : Type} (xs rest cs : List α) (off : Nat) (h : off+cs.length≤xs.length) : ((xs ++ rest).take off ++ (cs ++ (xs ++ rest).drop (off+cs.length))).take xs.length=xs.take off ++ (cs ++ xs.drop (off+cs.length)):=by
 have e1 : (xs ++ rest).take off=xs.take off:=List.take_append_of_le_length (by omega)
 have e2 : (xs ++ rest).drop (off+cs.length)=xs.drop (off+cs.length) ++ rest:=List.drop_append_of_le_length h
 rw [e1,e2]
 have e : xs.take off ++ (cs ++ (xs.drop (off+cs.length) ++ rest))=(xs.take off ++ (cs ++ xs.drop (off+cs.length))) ++ rest:=by simp
 rw [e]
 have hl : (xs.take off ++ (cs ++ xs.drop (off+cs.length))).length=xs.length:=by simp; omega
 rw [← hl]
 exact List.take_left
theorem QG.copy {w0 w w1 : World} {r : Value} {g cap n : Nat} {all cs out : List UInt8} {off : Nat} (hn : n=all.length) (h : QG w0 r w (.slice (some ⟨g,0,none⟩) n cap) all w1) (hfit : off+cs.length≤all.length) (ho : out=all.take off ++ (cs ++ all.drop (off+cs.length))) :
  ∃ cur,w1.heap[g]?=some (.cells cur 5 (0,0))∧off+(bytesV cs).length≤cur.size∧n≤cap∧QG w0 r w (.slice (some ⟨g,0,none⟩) n cap) out (w1.setRow g (cur.toList.take off ++ (bytesV cs ++ cur.toList.drop (off+(bytesV cs).length))).toArray):=by
 subst ho
 have hl : (all.take off ++ (cs ++ all.drop (off+cs.length))).length=all.length:=by simp; omega
 obtain ⟨hx,⟨h1,_⟩ | ⟨g',cap',cur,he,hb0,hg,hnc,hcm,hcs,ht⟩⟩:=h.row
 ·cases h1
 simp only [Value.slice.injEq,Option.some.injEq,Addr.mk.injEq] at he
 obtain ⟨⟨rfl,_⟩,_,rfl⟩:=he
 rw [Nat.mul_one] at ht hcs
 have hc : cur.toList=bytesV all ++ cur.toList.drop all.length:=by conv=>lhs; rw [← List.take_append_drop all.length cur.toList,ht]
 have hbl:=bytesV_length cs
 have hba:=bytesV_length all
 refine ⟨cur,hg,by omega,by omega,⟨?_,⟨h.grown.os,h.grown.tape,h.grown.output,by simpa using h.grown.size,fun k hk hne=>?_⟩,h.own⟩⟩
 ·rw [hl]
  refine ⟨by rw [bytesV_length,hl,Nat.mul_one],.inr ⟨g,cap,_,by rw [hn],hb0,setRow_heap w1 g cur _ _ _ hg,hnc,hcm,?_,?_⟩⟩
  ·simp only [List.size_toArray,List.length_append,List.length_take,List.length_drop,Array.length_toList]
   omega
  ·rw [Nat.mul_one]
   show List.take all.length (_ : Array Value).toList=_
   have:=take_splice (bytesV all) (cur.toList.drop all.length) (bytesV cs) off (by omega)
   rw [← hc,hba] at this
   simp only [bytesV_append]
   refine (by simpa using this : _=_).trans ?_
   simp [bytesV,List.map_take,List.map_drop]
 ·rw [setRow_other w1 g k _ (fun e=>?_),h.grown.block k hk hne]
  subst e
  rcases h.own with h1 | ⟨b,h1,h2⟩
  ·exact hne h1
  ·simp only [Value.ownBlock,Option.some.injEq] at h1
   omega
theorem rowE_shape {w : World} {lo : Nat} {e : TypeId} {size n : Nat} {v : Value} {xs : List Value} (h : w.ownsRow lo e size v n xs) (h0 : 0<n) : ∃ g cap,v=.slice (some ⟨g,0,none⟩) n cap∧n≤cap∧cap≤maxLen:=by
 rcases h.2 with ⟨rfl,rfl⟩ | ⟨g,cap,cur,rfl,hlo,hg,hnc,hm,_⟩
 ·omega
 ·exact ⟨g,cap,rfl,hnc,hm⟩
theorem rowE_shape0 {w : World} {lo : Nat} {e : TypeId} {size n : Nat} {v : Value} {xs : List Value} (h : w.ownsRow lo e size v n xs) : ∃ A cap,v=.slice A n cap:=by
 rcases h.2 with ⟨rfl,rfl⟩ | ⟨g,cap,cur,rfl,hlo,hg,hnc,hm,_⟩
 ·exact ⟨none,0,rfl⟩
 ·exact ⟨_,cap,rfl⟩
theorem QG.beside {w0 w w1 w2 : World} {r r1 r2 : Value} {a1 a2 : List UInt8} (h : QG w0 r w r1 a1 w1) (k : QG w0 (.slice none 0 0) w1 r2 a2 w2) : QG w0 r w r1 a1 w2 :=
 h.keep ⟨k.grown.os,k.grown.tape,k.grown.output,k.grown.size,fun b hb=>k.grown.block b hb (by simp [Value.ownBlock])⟩
end Go.Proofs.YtknakfpciccoaabGreatDoor
