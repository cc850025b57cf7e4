import Derived.Test.YtknakfpciccoaabGreatDoorZS25
import Derived.Lib.SliceRun
/- Create. -/
namespace Go.Proofs.YtknakfpciccoaabGreatDoor
open Go.RowKit Go.Maps Go.WideMaps
def keyN (x : ByteArray) : Lit:=.string x.data.toList
def CreOk (w : World) (p m n : Nat) (D : DataW Unit) (x : ByteArray) (w' : World) : Prop :=
 ∃ c : Nat,w.heap.size≤c∧c<w'.heap.size∧StoAt w' p m (n+1) (D.put (keyN x) (.lit (.int .i64 c)))∧w'.cell? ⟨c,0,none⟩=some (.slice none 0 0)∧w'.frozen? ⟨c,0,none⟩=false∧But2 m none w w'
theorem cre_fin {w W w' : World} {p m n : Nat} {D : DataW Unit} {x : ByteArray} {c : Nat} (hst : StoAt w p m n D) (hpm : p≠m) (hB : Below w.heap.size w W) (hc : w.heap.size≤c) (hcl : c<W.heap.size) (c0 : W.cell? ⟨c,0,none⟩=some (.slice none 0 0)) (f0 : W.frozen? ⟨c,0,none⟩=false)
  (hown : w'.ownsMap Tryz.prog 9 refR m (n+1) (D.put (keyN x) (.lit (.int .i64 c)))) (hG : W.grownBy w' (some m)) : CreOk w p m n D x w':=by
 have hml:=hst.own.lt
 have hs:=hG.size
 have hs2:=hB.size
 have hp:=hst.low
 have hpb : w'.heap[p]?=w.heap[p]?:=(hG.block p (by omega) (by simpa using hpm)).trans (hB.block p hp)
 have hcb : w'.heap[c]?=W.heap[c]?:=hG.block c hcl (by simp; omega)
 exact ⟨c,hc,by omega,⟨(cell_of hpb 0).trans hst.cell,by omega,hown⟩,(cell_of hcb 0).trans c0,(World.frozen?_of_block (a:=⟨c,0,none⟩) hcb).trans f0,hG.os.trans hB.os,hG.tape.trans hB.tape,hG.output.trans hB.output,by omega,fun b hb h1 _=>(hG.block b (by omega) (by simpa using h1)).trans (hB.block b hb)⟩
def CrePost (w : World) (p m n : Nat) (D : DataW Unit) (x : ByteArray) (e : Ending) (w' : World) : Prop :=
 (isNm x=false∧e=.returned (.int .i64 10)∧w'=w)∨(isNm x=true∧(∃ c : Nat,atK D x=.lit (.int .i64 c))∧e=.returned (.int .i64 11)∧w'=w)∨(isNm x=true∧atK D x=.nil∧6≤Maps.size D∧e=.returned (.int .i64 12)∧w'=w) ∨
 (isNm x=true∧atK D x=.nil∧Maps.size D<6∧e=.returned (.int .i64 0)∧CreOk w p m n D x w')
set_option maxHeartbeats 4000000 in
set_option maxRecDepth 100000 in
theorem create_any (p m n : Nat) (D : DataW Unit) (x : ByteArray) (w : World) (hx : x.size≤140737488355328) (hn : n≤1000000) (hst : StoAt w p m n D) (hpm : p≠m) :
  Calls Tryz.prog 19 #[.pointer (some ⟨p,0,none⟩),.string x] w (CrePost w p m n D x):=by
 have HI:=hid (isName_any x w hx)
 have HSt:=hid hst
 have Hpm:=hid hpm
 cases hnm : isNm x with
 | false =>
  rw [hnm] at HI
  have Hn:=hid hnm
  clear hnm hst hpm
  go_enter Tryz.func19,Tryz.ntmps19
  go_wp2_with fail
  refine HI.out.mono ?_
  rintro e w2 ⟨rfl,rfl⟩
  go_wp2_with fail
  go_ret
  exact .inl ⟨Hn.out,rfl,rfl⟩
 | true =>
  rw [hnm] at HI
  have Hn:=hid hnm
  have c0:=hst.cell
  have hlen : ∀ ty,(Builtin.len_ #[74] ty #[.map (some m)]).run Tryz.prog w=.ok (.int .i64 (Maps.size D)) w:=fun ty=>hst.own.len Tryz.underlying74 ty
  clear hnm hpm
  rcases hst.look x hx with ⟨hrun,hat⟩ | ⟨c,hrun,hat⟩
  ·have HAt:=hid hat
   clear hat hst
   by_cases h6 : 6≤Maps.size D
   ·have y6 : (6 : Int)≤(Maps.size D : Int):=by omega
    have H6:=hid h6
    clear h6
    go_enter Tryz.func19,Tryz.ntmps19
    go_wp2_with fail
    refine HI.out.mono ?_
    rintro e w2 ⟨rfl,rfl⟩
    go_wp2_with fail
    go_ret
    exact .inr (.inr (.inl ⟨Hn.out,HAt.out,H6.out,rfl,rfl⟩))
   ·have y6 : ¬ (6 : Int)≤(Maps.size D : Int):=by omega
    have H6:=hid (Nat.lt_of_not_le h6)
    clear h6
    go_enter Tryz.func19,Tryz.ntmps19
    go_wp2_with fail
    refine HI.out.mono ?_
    rintro e w2 ⟨rfl,rfl⟩
    go_wp2_with fail
    have HAl : Hid (Below w2.heap.size w2 (w2.alloc (.cells #[.slice none 0 0] 61))):=(Below.refl _ _).alloc (Nat.le_refl _) _
    have HSd:=hid (HSt.out.keep (below_drew _))
    have HSa:=hid ((HSt.out.keep HAl.out).keep (below_drew _))
    have c0a:=(HSt.out.keep HAl.out).cell
    have HBd:=hid (below_drew w2)
    have HBa:=hid HAl.out.drew
    have hkey : keyOf Tryz.prog 9 (.string x)=some (keyN x):=keyOf_string_mk Tryz.underlying9 (by unfold maxLen; omega)
    have Hkey:=hid hkey
    clear hkey hrun hlen HI
    go_region_law (go_simp; go_wp2_with (go_at_call 36; refine (clone_any x _ hx).mono ?_; rintro e w3 ⟨rfl,b3⟩; have HS3 : Hid (StoAt w3 p m n D):=(by first | exact HSd.out.keep b3 | exact HSa.out.keep b3); have HB3 : Hid (Below w2.heap.size w2 w3):=(by first | exact HBd.out.trans (b3.mono HBd.out.size) | exact HBa.out.trans (b3.mono HBa.out.size)); have c3:=HS3.out.cell; have c3a:=(HS3.out.keep ((Below.refl w3.heap.size w3).alloc (Nat.le_refl _) (.cells #[.slice none 0 0] 61))).cell; obtain ⟨w6,hrun6,hown6,hG6⟩:=HS3.out.own.update law9 Tryz.underlying74 (by unfold maxLen; omega) (val:=.pointer (some ⟨w2.heap.size,0,none⟩)) (d:=.lit (.int .i64 (w2.heap.size : Nat))) (ps:=[]) Hkey.out rfl; obtain ⟨w7,hrun7,hown7,hG7⟩:=(HS3.out.own.alloc (.cells #[.slice none 0 0] 61)).update law9 Tryz.underlying74 (by unfold maxLen; omega) (val:=.pointer (some ⟨w3.heap.size,0,none⟩)) (d:=.lit (.int .i64 (w3.heap.size : Nat))) (ps:=[]) Hkey.out rfl))
    all_goals
     have HF : Hid (CreOk w2 p m n D x w7):=cre_fin HSt.out Hpm.out (HB3.out.alloc HB3.out.size (.cells #[.slice none 0 0] 61)) HB3.out.size (by simp) (by simp [go_sem]) (by simp [go_sem]) hown7 hG7
     have HG : Hid (w2.heap.size<w3.heap.size→w3.cell? ⟨w2.heap.size,0,none⟩=some (.slice none 0 0)→w3.frozen? ⟨w2.heap.size,0,none⟩=false→CreOk w2 p m n D x w6):=fun k1 k2 k3=>cre_fin HSt.out Hpm.out HB3.out (Nat.le_refl _) k1 k2 k3 hown6 hG6
     have HJ:=hid b3
     clear hown6 hG6 hrun6 hown7 hG7 hrun7 b3 c3 c3a HS3 HB3
     go_wp2_with fail
     go_ret
     first
      | exact .inr (.inr (.inr ⟨Hn.out,HAt.out,H6.out,rfl,HF.out⟩))
      | exact .inr (.inr (.inr ⟨Hn.out,HAt.out,H6.out,rfl,HG.out (Nat.lt_of_lt_of_le (by simp) HJ.out.size) ((HJ.out.cell (p:=⟨w2.heap.size,0,none⟩) (by simp)).trans (by simp [go_sem])) ((HJ.out.frozen (p:=⟨w2.heap.size,0,none⟩) (by simp)).trans (by simp [go_sem]))⟩))
  ·have HAt:=hid hat
   clear hat hst
   go_enter Tryz.func19,Tryz.ntmps19
   go_wp2_with fail
   refine HI.out.mono ?_
   rintro e w2 ⟨rfl,rfl⟩
   go_wp2_with fail
   go_ret
   exact .inr (.inl ⟨Hn.out,⟨c,HAt.out⟩,rfl,rfl⟩)
end Go.Proofs.YtknakfpciccoaabGreatDoor
/- Insert. -/
namespace Go.Proofs.YtknakfpciccoaabGreatDoor
open Go.RowKit Go.Maps Go.WideMaps
def inErr (s : ByteArray) : Option Int:=if eJ s≠0 then some (eJ s) else if isDoc (tJ s)=false then some 7 else if tooBig (tJ s)=true then some 15 else none
def InPost (w : World) (x s : ByteArray) (Dm : DataW Unit) (lf : Nat→List T) (vf : Nat→Value) (xf : Nat→List Value) (e : Ending) (w' : World) : Prop :=
 (Below w.heap.size w w'∧∃ er,inErr s=some er∧e=.returned (.int .i64 er)) ∨
 (Below w.heap.size w w'∧inErr s=none∧atK Dm x=.nil∧e=.returned (.int .i64 10)) ∨
 (inErr s=none∧∃ c : Nat,atK Dm x=.lit (.int .i64 c)∧∃ w1 A B C D,Below w.heap.size w w1∧AtP (newB w w1) w1 13 (.agg #[.int .i64 (kindOf (tJ s)),.int .i64 (nOf (tJ s)),.string (sOf (tJ s)),.slice A (nL (tJ s)) B,.slice C (nK (tJ s)) D]) (tJ s)∧InsPost w1 c (tJ s) (lf c) (vf c) (xf c) [.int .i64 (kindOf (tJ s)),.int .i64 (nOf (tJ s)),.string (sOf (tJ s)),.slice A (nL (tJ s)) B,.slice C (nK (tJ s)) D] e w')
theorem InsPost.shape {w : World} {c : Nat} {t : T} {l : List T} {v : Value} {xs cs : List Value} {e : Ending} {w' : World} (h : InsPost w c t l v xs cs e w') : ∃ er : Int,e=.returned (.int .i64 er):=by
 rcases h with ⟨_,_,rfl⟩ | ⟨_,_,_,rfl⟩ | ⟨_,_,_,rfl,_⟩ <;> exact ⟨_,rfl⟩
set_option maxHeartbeats 4000000 in
set_option maxRecDepth 100000 in
theorem insertS_any {Tb : World→Prop} (hA : StoreSaid Tb) (p m n : Nat) (Dm : DataW Unit) (lf : Nat→List T) (vf : Nat→Value) (xf : Nat→List Value) (x s : ByteArray) (w : World) (hs : s.size≤140737488355328) (hx : x.size≤140737488355328) (hst : StoAt w p m n Dm)
  (hc : ∀ c : Nat,atK Dm x=.lit (.int .i64 c)→Col w c 13 (lf c) (vf c) (xf c)∧(lf c).length≤1000000∧∀ i,(h : i<(lf c).length)→Doc (lf c)[i]) (hT : Tb w) :
  Calls Tryz.prog 21 #[.pointer (some ⟨p,0,none⟩),.string x,.string s] w (InPost w x s Dm lf vf xf):=by
 have HD:=hid (readDoc_any hA.valid hA.dec hA.int hA.lies s w hs hT)
 have Hc:=hid hc
 have HSt:=hid hst
 clear hT hc hst hA
 go_enter Tryz.func21,Tryz.ntmps21
 go_wp2_with fail
 refine HD.out.mono ?_
 rintro e w1 ⟨b1,⟨h1,rfl⟩ | ⟨h1,h2,rfl⟩ | ⟨h1,h2,h3,rfl⟩ | ⟨h1,h2,h3,A,B,C,D,rfl,ha⟩⟩
 ·have ez : (eJ s == 0)=false:=by simpa using h1
  have HE : Hid (inErr s=some (eJ s)):=by show _=_; unfold inErr; rw [if_pos h1]
  have HB:=hid (b1.alloc b1.size (.cells #[.int .i64 0,.int .i64 0,.string ⟨#[]⟩,.slice none 0 0,.slice none 0 0] 36))
  unfold zeroV
  clear h1 b1 HD
  go_wp2_with fail
  go_ret
  exact .inl ⟨HB.out,_,HE.out,rfl⟩
 ·have HE : Hid (inErr s=some 7):=by show _=_; unfold inErr; rw [if_neg (by simpa using h1),if_pos h2]
  have HB:=hid (b1.alloc b1.size (.cells #[.int .i64 0,.int .i64 0,.string ⟨#[]⟩,.slice none 0 0,.slice none 0 0] 36))
  unfold zeroV
  clear h1 h2 b1 HD
  go_wp2_with fail
  go_ret
  exact .inl ⟨HB.out,_,HE.out,rfl⟩
 ·have HE : Hid (inErr s=some 15):=by show _=_; unfold inErr; rw [if_neg (by simpa using h1),if_neg (by rw [h2]; simp),if_pos h3]
  have HB:=hid (b1.alloc b1.size (.cells #[.int .i64 0,.int .i64 0,.string ⟨#[]⟩,.slice none 0 0,.slice none 0 0] 36))
  unfold zeroV
  clear h1 h2 h3 b1 HD
  go_wp2_with fail
  go_ret
  exact .inl ⟨HB.out,_,HE.out,rfl⟩
 ·have HE : Hid (inErr s=none):=by show _=_; unfold inErr; rw [if_neg (by simpa using h1),if_neg (by rw [h2]; simp),if_neg (by rw [h3]; simp)]
  have HDoc:=hid (isDoc_doc (parsed_okA h1) h2)
  have HAl : Hid (Below w1.heap.size w1 (w1.alloc (.cells #[.int .i64 (kindOf (tJ s)),.int .i64 (nOf (tJ s)),.string (sOf (tJ s)),.slice A (nL (tJ s)) B,.slice C (nK (tJ s)) D] 36))):=(Below.refl _ _).alloc (Nat.le_refl _) _
  have HB:=hid (b1.trans (HAl.out.mono b1.size))
  have HAt : Hid (AtP (newB w (w1.alloc (.cells #[.int .i64 (kindOf (tJ s)),.int .i64 (nOf (tJ s)),.string (sOf (tJ s)),.slice A (nL (tJ s)) B,.slice C (nK (tJ s)) D] 36))) (w1.alloc (.cells #[.int .i64 (kindOf (tJ s)),.int .i64 (nOf (tJ s)),.string (sOf (tJ s)),.slice A (nL (tJ s)) B,.slice C (nK (tJ s)) D] 36)) 13 (.agg #[.int .i64 (kindOf (tJ s)),.int .i64 (nOf (tJ s)),.string (sOf (tJ s)),.slice A (nL (tJ s)) B,.slice C (nK (tJ s)) D]) (tJ s)):=ha.move HAl.out.size (fun b hb hp=>⟨⟨hp.1,Nat.lt_of_lt_of_le hb HAl.out.size⟩,HAl.out.block b hb⟩)
  have HS2:=hid (HSt.out.keep HB.out)
  have c0:=HS2.out.cell
  clear h1 h2 h3 b1 HD ha
  rcases HS2.out.look x hx with ⟨hrun,hat⟩ | ⟨c,hrun,hat⟩
  ·have HN:=hid hat
   clear hat
   go_wp2_with fail
   go_ret
   exact .inr (.inl ⟨HB.out,HE.out,HN.out,rfl⟩)
  ·obtain ⟨hcol,hn,hd⟩:=Hc.out c hat
   have HN:=hid hat
   have HIn:=hid (insert_any c 13 (tJ s) (lf c) (vf c) (xf c) A C B D _ (hcol.keep HB.out) (by omega) hn hd HAt.out.at HDoc.out)
   clear hat hcol hn hd Hc
   go_wp2_with fail
   refine HIn.out.mono ?_
   intro e w2 hi
   obtain ⟨er,rfl⟩:=hi.shape
   have HI2:=hid hi
   clear hi HIn hrun
   go_wp2_with fail
   go_ret
   exact .inr (.inr ⟨HE.out,c,HN.out,_,A,B,C,D,HB.out,HAt.out,HI2.out⟩)
end Go.Proofs.YtknakfpciccoaabGreatDoor
/- The store as a whole: what each block is for. -/
namespace Go.Proofs.YtknakfpciccoaabGreatDoor
open Go.RowKit Go.Maps Go.WideMaps
theorem StoAt.move {w w' : World} {p m n : Nat} {D : DataW Unit} (h : StoAt w p m n D) (hs : w.heap.size≤w'.heap.size) (hp : w'.heap[p]?=w.heap[p]?) (hm : w'.heap[m]?=w.heap[m]?) : StoAt w' p m n D:=by
 obtain ⟨es,clock,h1,F,h2,h3⟩:=h.own
 exact ⟨(cell_of hp 0).trans h.cell,Nat.lt_of_lt_of_le h.low hs,es,clock,hm.trans h1,F,h2,h3⟩
structure ColI (L : Nat→Nat) (w : World) (c : Nat) (l : List T) (v : Value) (xs : List Value) : Prop where
 lab : L c=4
 cell : w.cell? ⟨c,0,none⟩=some v
 free : w.frozen? ⟨c,0,none⟩=false
 row : w.ownsRow 0 36 5 v l.length xs
 rowl : ∀ b,v.ownBlock=some b→L b=5+c
 at_ : ∀ i,(h : i<l.length)→AtP (fun b=>L b=1) w 13 (fv xs i) l[i]
 doc : ∀ i,(h : i<l.length)→Doc l[i]
theorem ColI.move {L L' : Nat→Nat} {w w' : World} {c : Nat} {l : List T} {v : Value} {xs : List Value} (h : ColI L w c l v xs) (hs : w.heap.size≤w'.heap.size) (hl : ∀ b,L b=4∧b=c∨L b=5+c∨L b=1→L' b=L b∧w'.heap[b]?=w.heap[b]?) : ColI L' w' c l v xs:=by
 obtain ⟨c1,c2⟩:=hl c (.inl ⟨h.lab,rfl⟩)
 refine ⟨c1.trans h.lab,(cell_of c2 0).trans h.cell,(World.frozen?_of_block (a:=⟨c,0,none⟩) c2).trans h.free,own_move h.row fun b e=>(hl b (.inr (.inl (h.rowl b e)))).2,fun b e=>(hl b (.inr (.inl (h.rowl b e)))).1.trans (h.rowl b e),fun i hi=>(h.at_ i hi).move hs fun b _ hp=>?_,h.doc⟩
 obtain ⟨k1,k2⟩:=hl b (.inr (.inr hp))
 exact ⟨k1.trans hp,k2⟩
structure StI (L : Nat→Nat) (w : World) (p m n : Nat) (D : DataW Unit) (lf : Nat→List T) (vf : Nat→Value) (xf : Nat→List Value) : Prop where
 sto : StoAt w p m n D
 lp : L p=2
 lm : L m=3
 low : ∀ b,L b≠0→b<w.heap.size
 col : ∀ x c,atK D x=.lit (.int .i64 (c : Nat))→ColI L w c (lf c) (vf c) (xf c)
theorem StI.keep {L : Nat→Nat} {w w' : World} {p m n : Nat} {D : DataW Unit} {lf : Nat→List T} {vf : Nat→Value} {xf : Nat→List Value} (h : StI L w p m n D lf vf xf) (hb : Below w.heap.size w w') : StI L w' p m n D lf vf xf :=
 ⟨h.sto.keep hb,h.lp,h.lm,fun b hl=>Nat.lt_of_lt_of_le (h.low b hl) hb.size,fun x c hx=>(h.col x c hx).move hb.size fun b hl=>⟨rfl,hb.block b (h.low b (by omega))⟩⟩
theorem StI.toCol {L : Nat→Nat} {w : World} {p m n : Nat} {D : DataW Unit} {lf : Nat→List T} {vf : Nat→Value} {xf : Nat→List Value} (h : StI L w p m n D lf vf xf) {x : ByteArray} {c : Nat} (hx : atK D x=.lit (.int .i64 (c : Nat))) : Col w c 13 (lf c) (vf c) (xf c):=by
 have hc:=h.col x c hx
 refine ⟨hc.cell,hc.free,h.low c (by rw [hc.lab]; omega),hc.row,fun e=>?_,fun i hi=>(hc.at_ i hi).at⟩
 have h1:=hc.rowl c e
 have h2:=hc.lab
 omega
theorem StI.coll {L : Nat→Nat} {w : World} {p m n : Nat} {D : DataW Unit} {lf : Nat→List T} {vf : Nat→Value} {xf : Nat→List Value} (h : StI L w p m n D lf vf xf) {x : ByteArray} {c : Nat} (hx : atK D x=.lit (.int .i64 (c : Nat))) : CollAt w c 13 (mkT 5 0 ByteArray.empty (lf c) []):=by
 have hc:=h.toCol hx
 obtain ⟨La,Lc,hv,he⟩:=hc.elems
 exact ⟨La,Lc,by rw [nL_mk,hc.cell,hv],hc.low,he⟩
theorem fv_left {xs ys : List Value} {i n : Nat} (hx : xs.length=n * 5) (hi : i<n) : fv (xs ++ ys) i=fv xs i:=by
 unfold fv
 rw [cx_left (by omega),cx_left (by omega),cx_left (by omega),cx_left (by omega),cx_left (by omega)]
theorem fv_right {xs : List Value} {c0 c1 c2 c3 c4 : Value} {n : Nat} (hx : xs.length=n * 5) : fv (xs ++ [c0,c1,c2,c3,c4]) n=.agg #[c0,c1,c2,c3,c4]:=by
 unfold fv
 rw [← hx,show xs.length=xs.length+0 from rfl,cx_right,Nat.add_assoc,cx_right,Nat.add_assoc,cx_right,Nat.add_assoc,cx_right,Nat.add_assoc,cx_right]
 rfl
def upd {α : Type} (f : Nat→α) (c : Nat) (a : α) (b : Nat) : α:=if b=c then a else f b
theorem upd_same {α : Type} (f : Nat→α) (c : Nat) (a : α) : upd f c a c=a:=by simp [upd]
theorem upd_other {α : Type} (f : Nat→α) {c b : Nat} (a : α) (h : b≠c) : upd f c a b=f b:=by simp [upd,h]
theorem StI.ins {L : Nat→Nat} {w w1 w' : World} {p m n : Nat} {D : DataW Unit} {lf : Nat→List T} {vf : Nat→Value} {xf : Nat→List Value} (h : StI L w p m n D lf vf xf) {x : ByteArray} {c : Nat} (hx : atK D x=.lit (.int .i64 (c : Nat))) (hb : Below w.heap.size w w1) {t : T} {c0 c1 c2 c3 c4 : Value} (ha : AtP (newB w w1) w1 13 (.agg #[c0,c1,c2,c3,c4]) t) (hd : Doc t)
  (hB : But2 c (vf c).ownBlock w1 w') {g cap : Nat} (q0 : w'.cell? ⟨c,0,none⟩=some (.slice (some ⟨g,0,none⟩) ((lf c).length+1) cap)) (f0 : w'.frozen? ⟨c,0,none⟩=false) (hg : (vf c).ownBlock=some g∨w1.heap.size≤g) (hO : w'.ownsRow 0 36 5 (.slice (some ⟨g,0,none⟩) ((lf c).length+1) cap) ((lf c).length+1) (xf c ++ [c0,c1,c2,c3,c4])) :
  ∃ L',(∀ b,L' b≠0→L b≠0∨w.heap.size≤b)∧StI L' w' p m n D (upd lf c (lf c ++ [t])) (upd vf c (.slice (some ⟨g,0,none⟩) ((lf c).length+1) cap)) (upd xf c (xf c ++ [c0,c1,c2,c3,c4])):=by
 have hc:=h.col x c hx
 have hgl : g<w'.heap.size:=(hO.lt g rfl).2
 have hcl : c<w.heap.size:=h.low c (by rw [hc.lab]; omega)
 have s1:=hb.size
 have s2:=hB.size
 have hgw : (vf c).ownBlock=some g→g<w.heap.size∧L g=5+c:=fun e=>⟨h.low g (by rw [hc.rowl g e]; omega),hc.rowl g e⟩
 have old : ∀ b,L b≠0→L b≠5+c→b≠c→w'.heap[b]?=w.heap[b]?:=fun b h0 h1 h2=>(hB.block b (by have:=h.low b h0; omega) h2 (fun e=>h1 (hc.rowl b e.symm))).trans (hb.block b (h.low b h0))
 refine ⟨fun b=>if b<w.heap.size then L b else if b<w1.heap.size then 1 else if b=g then 5+c else 0,?_,?_,?_,?_,?_,?_⟩
 ·intro b hb0
  by_cases e : b<w.heap.size
  ·simp only [if_pos e] at hb0
   exact .inl hb0
  ·exact .inr (by omega)
 ·exact h.sto.move (by omega) (old p (by rw [h.lp]; omega) (by rw [h.lp]; omega) (fun e=>by have:=h.lp; have:=hc.lab; subst e; omega)) (old m (by rw [h.lm]; omega) (by rw [h.lm]; omega) (fun e=>by have:=h.lm; have:=hc.lab; subst e; omega))
 ·show (if p<w.heap.size then L p else _)=2
  rw [if_pos (h.low p (by rw [h.lp]; omega))]; exact h.lp
 ·show (if m<w.heap.size then L m else _)=3
  rw [if_pos (h.low m (by rw [h.lm]; omega))]; exact h.lm
 ·intro b hb0
  split at hb0
  ·omega
  ·split at hb0
   ·omega
   ·split at hb0
    ·omega
    ·exact absurd rfl hb0
 ·intro y c' hy
  by_cases e : c'=c
  ·subst e
   rw [upd_same,upd_same,upd_same]
   refine ⟨by rw [if_pos hcl]; exact hc.lab,q0,f0,by rw [List.length_append]; exact hO,fun b e=>?_,fun i hi=>?_,fun i hi=>?_⟩
   ·have eg : b=g:=by simpa [Value.ownBlock] using e.symm
    subst eg
    show (if b<w.heap.size then L b else _)=_
    rcases hg with h1 | h1
    ·rw [if_pos (hgw h1).1]; exact (hgw h1).2
    ·rw [if_neg (by omega),if_neg (by omega),if_pos rfl]
   ·have hxl : (xf c').length=(lf c').length * 5:=hc.row.1
    rw [List.length_append,List.length_cons,List.length_nil] at hi
    by_cases e : i<(lf c').length
    ·rw [fv_left hxl e,List.getElem_append_left e]
     refine (hc.at_ i e).move (by omega) fun b hbl hp=>⟨?_,old b (by omega) (by omega) (fun e2=>by have:=hc.lab; subst e2; omega)⟩
     show (if b<w.heap.size then L b else _)=1
     rw [if_pos hbl]; exact hp
    ·obtain rfl : i=(lf c').length:=by omega
     rw [fv_right hxl,List.getElem_append_right (by omega)]
     simp only [Nat.sub_self,List.getElem_cons_zero]
     refine ha.move s2 fun b hbl hp=>⟨?_,hB.block b hbl (fun e2=>by have:=hp.1; omega) (fun e2=>by have:=h.low b (by rw [hc.rowl b e2.symm]; omega); have:=hp.1; omega)⟩
     show (if b<w.heap.size then L b else _)=1
     rw [if_neg (by have:=hp.1; omega),if_pos hbl]
   ·rw [List.length_append,List.length_cons,List.length_nil] at hi
    by_cases e : i<(lf c').length
    ·rw [List.getElem_append_left e]; exact hc.doc i e
    ·obtain rfl : i=(lf c').length:=by omega
     rw [List.getElem_append_right (by omega)]
     simp only [Nat.sub_self,List.getElem_cons_zero]
     exact hd
  ·rw [upd_other _ _ e,upd_other _ _ e,upd_other _ _ e]
   refine (h.col y c' hy).move (by omega) fun b hl=>⟨?_,old b (by omega) (by omega) (fun e2=>by have:=hc.lab; subst e2; omega)⟩
   show (if b<w.heap.size then L b else _)=L b
   rw [if_pos (h.low b (by omega))]
end Go.Proofs.YtknakfpciccoaabGreatDoor
/- The store's state behind New and Create. -/
namespace Go.Proofs.YtknakfpciccoaabGreatDoor
open Go.RowKit Go.Maps Go.WideMaps
theorem keyN_key (x : ByteArray) : WideAt.IsKeyLit (keyN x):=by simp [keyN,WideAt.IsKeyLit]
theorem keyN_ne {x y : ByteArray} (h : y≠x) : keyN y≠keyN x:=by
 intro e
 simp only [keyN,Lit.string.injEq] at e
 exact h ((data_eq_iff _ _).1 e)
theorem atK_put_same {D : DataW Unit} (hD : IsMap D) (x : ByteArray) (d : DataW Unit) : atK (D.put (keyN x) d) x=d:=atKey_put_same hD (keyN_key x) d .nil
theorem atK_put_other {D : DataW Unit} {x y : ByteArray} (h : y≠x) (d : DataW Unit) : atK (D.put (keyN x) d) y=atK D y:=atKey_put_other (keyN_ne h) d .nil
theorem lit_inj {a b : Nat} (h : (DataW.lit (.int .i64 (a : Int)) : DataW Unit)=.lit (.int .i64 (b : Int))) : a=b:=by
 simp only [DataW.lit.injEq,Lit.int.injEq] at h
 omega
theorem StI.cre {L : Nat→Nat} {w w' : World} {p m n : Nat} {D : DataW Unit} {lf : Nat→List T} {vf : Nat→Value} {xf : Nat→List Value} (h : StI L w p m n D lf vf xf) {x : ByteArray} (hc : CreOk w p m n D x w') :
  ∃ L' c,w.heap.size≤c∧(∀ b,L' b≠0→L b≠0∨w.heap.size≤b)∧StI L' w' p m (n+1) (D.put (keyN x) (.lit (.int .i64 (c : Nat)))) (upd lf c []) (upd vf c (.slice none 0 0)) (upd xf c []):=by
 obtain ⟨c,hcw,hcl,hst,q0,f0,hB⟩:=hc
 have s1:=hB.size
 have old : ∀ b,L b≠0→L b≠3→w'.heap[b]?=w.heap[b]?:=fun b h0 h1=>hB.block b (h.low b h0) (fun e=>by have:=h.lm; subst e; omega) (by simp)
 refine ⟨fun b=>if b<w.heap.size then L b else if b=c then 4 else 0,c,hcw,?_,hst,?_,?_,?_,?_⟩
 ·intro b hb0
  by_cases e : b<w.heap.size
  ·simp only [if_pos e] at hb0
   exact .inl hb0
  ·exact .inr (by omega)
 ·show (if p<w.heap.size then L p else _)=2
  rw [if_pos (h.low p (by rw [h.lp]; omega))]; exact h.lp
 ·show (if m<w.heap.size then L m else _)=3
  rw [if_pos (h.low m (by rw [h.lm]; omega))]; exact h.lm
 ·intro b hb0
  split at hb0
  ·omega
  ·split at hb0
   ·omega
   ·exact absurd rfl hb0
 ·intro y c' hy
  by_cases e : y=x
  ·subst e
   rw [atK_put_same h.sto.own.isMap] at hy
   obtain rfl:=lit_inj hy
   rw [upd_same,upd_same,upd_same]
   refine ⟨by rw [if_neg (by omega),if_pos rfl],q0,f0,World.ownsRow_nil _ _ _ _,fun b e=>by simp [Value.ownBlock] at e,fun i hi=>absurd hi (Nat.not_lt_zero i),fun i hi=>absurd hi (Nat.not_lt_zero i)⟩
  ·rw [atK_put_other e] at hy
   have hco:=h.col y c' hy
   have hne : c'≠c:=fun e2=>by have:=h.low c' (by rw [hco.lab]; omega); omega
   rw [upd_other _ _ hne,upd_other _ _ hne,upd_other _ _ hne]
   refine hco.move s1 fun b hl=>⟨?_,old b (by omega) (by omega)⟩
   show (if b<w.heap.size then L b else _)=L b
   rw [if_pos (h.low b (by omega))]
theorem StI.new (w : World) (lf : Nat→List T) (vf : Nat→Value) (xf : Nat→List Value) : ∃ L,(∀ b,L b≠0→w.heap.size≤b)∧StI L ((w.alloc (.map #[] 0)).alloc (.cells #[.map (some w.heap.size)] 76)) (w.heap.size+1) w.heap.size 0 (.map []) lf vf xf:=by
 refine ⟨fun b=>if b=w.heap.size+1 then 2 else if b=w.heap.size then 3 else 0,fun b hb=>?_,⟨by simp [go_sem],by simp,(World.ownsMap_made w _ _ _).alloc _⟩,by simp,by simp,fun b hb=>?_,fun x c hx=>?_⟩
 ·by_cases e : w.heap.size≤b
  ·exact e
  ·simp only [if_neg (show ¬ b=w.heap.size+1 by omega),if_neg (show ¬ b=w.heap.size by omega)] at hb
   exact absurd rfl hb
 ·split at hb
  ·subst b; simp
  ·split at hb
   ·subst b; simp; omega
   ·exact absurd rfl hb
 ·have e : atK (.map []) x=.nil:=rfl
  rw [e] at hx
  cases hx
end Go.Proofs.YtknakfpciccoaabGreatDoor
/- The store as names and documents: what each call does to it. -/
namespace Go.Proofs.YtknakfpciccoaabGreatDoor
open Go.RowKit Go.Maps Go.WideMaps
theorem But2.below {B c : Nat} {g : Option Nat} {w w' : World} (h : But2 c g w w') (hw : B≤w.heap.size) (hc : B≤c) (hg : ∀ b,g=some b→B≤b) : Below B w w' :=
 ⟨h.os,h.tape,h.output,h.size,fun b hb=>h.block b (by omega) (by omega) (fun e=>by have:=hg b e.symm; omega)⟩
def StP (B : Nat) (w : World) (p n : Nat) (S : ByteArray→Option (List T)) : Prop :=
 ∃ L m D lf vf xf,StI L w p m n D lf vf xf∧(∀ b,L b≠0→B≤b)∧(∀ x y (c : Nat),atK D x=.lit (.int .i64 c)→atK D y=.lit (.int .i64 c)→x=y)∧∀ x,(S x=none∧atK D x=.nil)∨∃ c : Nat,atK D x=.lit (.int .i64 c)∧S x=some (lf c)
def setS (S : ByteArray→Option (List T)) (x : ByteArray) (l : Option (List T)) : ByteArray→Option (List T):=fun y=>if y=x then l else S y
theorem setS_same (S : ByteArray→Option (List T)) (x : ByteArray) (l : Option (List T)) : setS S x l x=l:=by simp [setS]
theorem setS_other (S : ByteArray→Option (List T)) {x y : ByteArray} (l : Option (List T)) (h : y≠x) : setS S x l y=S y:=by simp [setS,h]
theorem StP.keep {B : Nat} {w w' : World} {p n : Nat} {S : ByteArray→Option (List T)} (h : StP B w p n S) (hb : Below w.heap.size w w') : StP B w' p n S:=by
 obtain ⟨L,m,D,lf,vf,xf,h1,h2⟩:=h
 exact ⟨L,m,D,lf,vf,xf,h1.keep hb,h2⟩
theorem StP.new (w : World) : StP w.heap.size ((w.alloc (.map #[] 0)).alloc (.cells #[.map (some w.heap.size)] 76)) (w.heap.size+1) 0 (fun _=>none):=by
 obtain ⟨L,h1,h2⟩:=StI.new w (fun _=>[]) (fun _=>.slice none 0 0) (fun _=>[])
 refine ⟨L,_,_,_,_,_,h2,h1,fun x y c hx=>?_,fun x=>.inl ⟨rfl,rfl⟩⟩
 have e : atK (.map []) x=.nil:=rfl
 rw [e] at hx
 cases hx
theorem create_st {B : Nat} {w : World} {p n : Nat} {S : ByteArray→Option (List T)} (h : StP B w p n S) (x : ByteArray) (hx : x.size≤140737488355328) (hn : n≤5) (hnm : isNm x=true) (hS : S x=none) :
  Calls Tryz.prog 19 #[.pointer (some ⟨p,0,none⟩),.string x] w fun e w'=>e=.returned (.int .i64 0)∧Below B w w'∧StP B w' p (n+1) (setS S x (some [])):=by
 obtain ⟨L,m,D,lf,vf,xf,h1,h2,h3,h4⟩:=h
 have hpm : p≠m:=fun e=>by have:=h1.lp; have:=h1.lm; subst e; omega
 have hnil : atK D x=.nil:=by
  rcases h4 x with ⟨_,h⟩ | ⟨c,_,h⟩
  ·exact h
  ·rw [hS] at h; cases h
 refine (create_any p m n D x w hx (by omega) h1.sto hpm).mono ?_
 rintro e w' (⟨h5,_⟩ | ⟨_,⟨c,h5⟩,_⟩ | ⟨_,_,h5,_⟩ | ⟨_,_,_,rfl,hok⟩)
 ·rw [hnm] at h5; cases h5
 ·rw [hnil] at h5; cases h5
 ·have:=h1.sto.own.size_le; omega
 ·obtain ⟨L',c,hc,hl,hst⟩:=h1.cre hok
  obtain ⟨c',_,_,_,_,_,hB⟩:=hok
  have hmB : B≤m:=h2 m (by rw [h1.lm]; omega)
  have hml:=h1.low m (by rw [h1.lm]; omega)
  refine ⟨rfl,hB.below (by omega) hmB (fun b e=>by cases e),L',m,_,_,_,_,hst,fun b hb=>?_,fun y z c1 hy hz=>?_,fun y=>?_⟩
  ·rcases hl b hb with h | h
   ·exact h2 b h
   ·omega
  ·by_cases ey : y=x
   ·by_cases ez : z=x
    ·rw [ey,ez]
    ·subst ey
     rw [atK_put_same h1.sto.own.isMap] at hy
     rw [atK_put_other ez] at hz
     obtain rfl:=lit_inj hy
     have:=h1.low _ (by rw [(h1.col z _ hz).lab]; omega)
     omega
   ·rw [atK_put_other ey] at hy
    by_cases ez : z=x
    ·subst ez
     rw [atK_put_same h1.sto.own.isMap] at hz
     obtain rfl:=lit_inj hz
     have:=h1.low _ (by rw [(h1.col y _ hy).lab]; omega)
     omega
    ·rw [atK_put_other ez] at hz
     exact h3 y z c1 hy hz
  ·by_cases ey : y=x
   ·subst ey
    exact .inr ⟨c,atK_put_same h1.sto.own.isMap _ _,by rw [setS_same,upd_same]⟩
   ·rw [setS_other _ _ ey,atK_put_other ey]
    rcases h4 y with h | ⟨c1,hy,hs⟩
    ·exact .inl h
    ·refine .inr ⟨c1,hy,?_⟩
     have:=h1.low _ (by rw [(h1.col y _ hy).lab]; omega)
     rw [upd_other _ _ (by omega)]
     exact hs
theorem insert_st {Tb : World→Prop} (hA : StoreSaid Tb) {B : Nat} {w : World} {p n : Nat} {S : ByteArray→Option (List T)} (h : StP B w p n S) (x s : ByteArray) (l : List T) (hx : x.size≤140737488355328) (hs : s.size≤140737488355328) (hS : S x=some l) (hin : inErr s=none) (hno : anyL (sameId (idT (tJ s))) (mkT 5 0 ByteArray.empty l []) l.length=false) (hl : l.length<60) (hT : Tb w) :
  Calls Tryz.prog 21 #[.pointer (some ⟨p,0,none⟩),.string x,.string s] w fun e w'=>e=.returned (.int .i64 0)∧Below B w w'∧StP B w' p n (setS S x (some (l ++ [tJ s]))):=by
 obtain ⟨L,m,D,lf,vf,xf,h1,h2,h3,h4⟩:=h
 obtain ⟨c,hc,hlc⟩ : ∃ c : Nat,atK D x=.lit (.int .i64 c)∧lf c=l:=by
  rcases h4 x with ⟨h,_⟩ | ⟨c,hc,h⟩
  ·rw [hS] at h; cases h
  ·rw [hS] at h; exact ⟨c,hc,(Option.some.inj h).symm⟩
 have hco:=h1.col x c hc
 refine (insertS_any hA p m n D lf vf xf x s w hs hx h1.sto (fun c1 hc1=>?_) hT).mono ?_
 ·rw [hc] at hc1
  obtain rfl:=lit_inj hc1
  exact ⟨h1.toCol hc,by rw [hlc]; omega,hco.doc⟩
 ·rintro e w' (⟨_,er,h5,_⟩ | ⟨_,_,h5,_⟩ | ⟨_,c1,hc1,w1,A,Bc,C,Dc,hb,hat,hI⟩)
  ·rw [hin] at h5; cases h5
  ·rw [hc] at h5; cases h5
  ·rw [hc] at hc1
   obtain rfl:=lit_inj hc1
   rcases hI with ⟨_,h5,_⟩ | ⟨_,_,h5,_⟩ | ⟨hB,_,_,rfl,g,cap,q0,f0,hg,hO⟩
   ·rw [hlc,hno] at h5; cases h5
   ·rw [hlc] at h5; omega
   ·have hdoc : Doc (tJ s):=by
     unfold inErr at hin
     split at hin
     ·cases hin
     ·rename_i e1
      split at hin
      ·cases hin
      ·rename_i e2
       exact isDoc_doc (parsed_okA (by simpa using e1)) (by simpa using e2)
    obtain ⟨L',hl',hst⟩:=h1.ins hc hb hat hdoc hB q0 f0 hg hO
    have hcB : B≤c:=h2 c (by rw [hco.lab]; omega)
    have hcl:=h1.low c (by rw [hco.lab]; omega)
    have hbs:=hb.size
    refine ⟨rfl,(hb.mono (by omega)).trans (hB.below (by omega) hcB (fun b e=>h2 b (by rw [hco.rowl b e]; omega))),L',m,D,_,_,_,hst,fun b hb0=>?_,h3,fun y=>?_⟩
    ·rcases hl' b hb0 with h | h
     ·exact h2 b h
     ·omega
    ·by_cases ey : y=x
     ·subst ey
      exact .inr ⟨c,hc,by rw [setS_same,upd_same,hlc]⟩
     ·rw [setS_other _ _ ey]
      rcases h4 y with h | ⟨c1,hy,hs1⟩
      ·exact .inl h
      ·refine .inr ⟨c1,hy,?_⟩
       rw [upd_other _ _ (show c1≠c from fun e=>ey (h3 y x c (by rw [← e]; exact hy) hc))]
       exact hs1
theorem keep_filter (p : T→Bool) (k n : Int) (s : ByteArray) (l : List T) (ks : List ByteArray) : ∀ j,j≤l.length→keepL p (mkT k n s l ks) j=(l.take j).filter p
 | 0,_=>rfl
 | j+1,h=>by
  have e : elt (mkT k n s l ks) j=l[j]:=by rw [elt_mk,List.getD_eq_getElem?_getD,List.getElem?_eq_getElem h]; rfl
  rw [keepL,keep_filter p k n s l ks j (by omega),e,List.take_add_one,List.getElem?_eq_getElem h,List.filter_append]
  simp only [Option.toList_some,List.filter_cons,List.filter_nil]
theorem row_slice {w : World} {lo : Nat} {e : TypeId} {s n : Nat} {v : Value} {xs : List Value} (h : w.ownsRow lo e s v n xs) : ∃ A c,v=.slice A n c:=by
 rcases h.2 with ⟨rfl,rfl⟩ | ⟨g,cap,cur,rfl,_⟩
 ·exact ⟨_,_,rfl⟩
 ·exact ⟨_,_,rfl⟩
theorem find_st {Tb : World→Prop} (hA : StoreSaid Tb) {B : Nat} {w : World} {p n : Nat} {S : ByteArray→Option (List T)} (h : StP B w p n S) (x s : ByteArray) (l : List T) (hx : x.size≤140737488355328) (hs : s.size≤140737488355328) (hS : S x=some l) (hl : l.length≤1000000) (he : eJ s=0) (hk : okFil 16 (tJ s)=true) (hT : Tb w) :
  Calls Tryz.prog 17 #[.pointer (some ⟨p,0,none⟩),.string x,.string s] w fun e w'=>Below w.heap.size w w'∧∃ A c,e=.returned (.tuple #[.slice A (l.filter (evF 16 (tJ s))).length c,.int .i64 0])∧w'.ownsRow w.heap.size 9 1 (.slice A (l.filter (evF 16 (tJ s))).length c) (l.filter (evF 16 (tJ s))).length ((l.filter (evF 16 (tJ s))).map fun t=>.string (prT t)):=by
 obtain ⟨L,m,D,lf,vf,xf,h1,h2,h3,h4⟩:=h
 obtain ⟨c,hc,hlc⟩ : ∃ c : Nat,atK D x=.lit (.int .i64 c)∧lf c=l:=by
  rcases h4 x with ⟨h,_⟩ | ⟨c,hc,h⟩
  ·rw [hS] at h; cases h
  ·rw [hS] at h; exact ⟨c,hc,(Option.some.inj h).symm⟩
 have hco:=h1.col x c hc
 refine (find_any hA p m n 13 D (fun c=>mkT 5 0 ByteArray.empty (lf c) []) x s w hs hx h1.sto (fun c1 hc1=>?_) (by omega) hT).mono ?_
 ·rw [hc] at hc1
  obtain rfl:=lit_inj hc1
  refine ⟨h1.coll hc,by rw [nL_mk,hlc]; exact hl,fun i hi=>?_⟩
  have hi' : i<(lf c).length:=hi
  have e : elt (mkT 5 0 ByteArray.empty (lf c) []) i=(lf c)[i]:=by rw [elt_mk,List.getD_eq_getElem?_getD,List.getElem?_eq_getElem hi']; rfl
  rw [e]
  exact (hco.doc i hi').1
 ·rintro e w' ⟨hb,⟨h5,_⟩ | ⟨_,h5,_⟩ | ⟨_,_,h5,_⟩ | ⟨_,_,c1,hc1,sv,rfl,hO⟩⟩
  ·exact absurd he h5
  ·rw [hk] at h5; cases h5
  ·rw [hc] at h5; cases h5
  ·rw [hc] at hc1
   obtain rfl:=lit_inj hc1
   have e : fndL s (mkT 5 0 ByteArray.empty (lf c) [])=l.filter (evF 16 (tJ s)):=by
    unfold fndL
    rw [nL_mk,keep_filter _ _ _ _ _ _ _ (Nat.le_refl _),List.take_length,hlc]
   rw [e] at hO
   obtain ⟨A,cp,rfl⟩:=row_slice hO
   exact ⟨hb,A,cp,rfl,hO⟩
theorem find_none {Tb : World→Prop} (hA : StoreSaid Tb) {B : Nat} {w : World} {p n : Nat} {S : ByteArray→Option (List T)} (h : StP B w p n S) (x s : ByteArray) (hx : x.size≤140737488355328) (hs : s.size≤140737488355328) (hS : S x=none) (he : eJ s=0) (hk : okFil 16 (tJ s)=true) (hT : Tb w) :
  Calls Tryz.prog 17 #[.pointer (some ⟨p,0,none⟩),.string x,.string s] w fun e w'=>Below w.heap.size w w'∧e=.returned (.tuple #[.slice none 0 0,.int .i64 10]):=by
 obtain ⟨L,m,D,lf,vf,xf,h1,h2,h3,h4⟩:=h
 have hnil : atK D x=.nil:=by
  rcases h4 x with ⟨_,h⟩ | ⟨c,_,h⟩
  ·exact h
  ·rw [hS] at h; cases h
 refine (find_any hA p m n 13 D (fun c=>mkT 5 0 ByteArray.empty (lf c) []) x s w hs hx h1.sto (fun c1 hc1=>by rw [hnil] at hc1; cases hc1) (by omega) hT).mono ?_
 rintro e w' ⟨hb,⟨h5,_⟩ | ⟨_,h5,_⟩ | ⟨_,_,_,rfl⟩ | ⟨_,_,c1,hc1,_⟩⟩
 ·exact absurd he h5
 ·rw [hk] at h5; cases h5
 ·exact ⟨hb,rfl⟩
 ·rw [hnil] at hc1; cases hc1
end Go.Proofs.YtknakfpciccoaabGreatDoor
/- Rows of values that are written over in place; clear. -/
namespace Go.Proofs.YtknakfpciccoaabGreatDoor
open Go.RowKit
theorem cx_set (xs : List Value) (a b : Nat) (u : Value) : cx (xs.set a u) b=if a=b∧a<xs.length then u else cx xs b:=by
 unfold cx
 rw [List.getElem?_set]
 by_cases h : a=b
 ·subst h
  by_cases h2 : a<xs.length
  ·simp [h2]
  ·simp [h2]
 ·simp [h]
def setV (xs : List Value) (i : Nat) (u0 u1 u2 u3 u4 : Value) : List Value:=((((xs.set (i * 5) u0).set (i * 5+1) u1).set (i * 5+2) u2).set (i * 5+3) u3).set (i * 5+4) u4
theorem fv_setV_same {xs : List Value} {i : Nat} (h : i * 5+5≤xs.length) (u0 u1 u2 u3 u4 : Value) : fv (setV xs i u0 u1 u2 u3 u4) i=.agg #[u0,u1,u2,u3,u4]:=by
 have n (ys : List Value) (a b : Nat) (u : Value) (hab : a≠b) : cx (ys.set a u) b=cx ys b:=by rw [cx_set,if_neg (fun e=>hab e.1)]
 have y (ys : List Value) (a : Nat) (u : Value) (ha : a<ys.length) : cx (ys.set a u) a=u:=by rw [cx_set,if_pos ⟨rfl,ha⟩]
 have e0 : cx (setV xs i u0 u1 u2 u3 u4) (i * 5)=u0:=by unfold setV; rw [n _ _ _ _ (by omega),n _ _ _ _ (by omega),n _ _ _ _ (by omega),n _ _ _ _ (by omega),y _ _ _ (by omega)]
 have e1 : cx (setV xs i u0 u1 u2 u3 u4) (i * 5+1)=u1:=by unfold setV; rw [n _ _ _ _ (by omega),n _ _ _ _ (by omega),n _ _ _ _ (by omega),y _ _ _ (by simp only [List.length_set]; omega)]
 have e2 : cx (setV xs i u0 u1 u2 u3 u4) (i * 5+2)=u2:=by unfold setV; rw [n _ _ _ _ (by omega),n _ _ _ _ (by omega),y _ _ _ (by simp only [List.length_set]; omega)]
 have e3 : cx (setV xs i u0 u1 u2 u3 u4) (i * 5+3)=u3:=by unfold setV; rw [n _ _ _ _ (by omega),y _ _ _ (by simp only [List.length_set]; omega)]
 have e4 : cx (setV xs i u0 u1 u2 u3 u4) (i * 5+4)=u4:=by unfold setV; rw [y _ _ _ (by simp only [List.length_set]; omega)]
 unfold fv
 rw [e0,e1,e2,e3,e4]
theorem cx_setV_other {xs : List Value} {i j : Nat} (h : j<i * 5∨i * 5+5≤j) (u0 u1 u2 u3 u4 : Value) : cx (setV xs i u0 u1 u2 u3 u4) j=cx xs j:=by
 unfold setV
 simp only [cx_set,List.length_set]
 rw [if_neg (by omega),if_neg (by omega),if_neg (by omega),if_neg (by omega),if_neg (by omega)]
theorem fv_setV_other {xs : List Value} {i k : Nat} (h : k≠i) (u0 u1 u2 u3 u4 : Value) : fv (setV xs i u0 u1 u2 u3 u4) k=fv xs k:=by
 unfold fv
 have a (j : Nat) (hj : j<i * 5∨i * 5+5≤j) : cx (setV xs i u0 u1 u2 u3 u4) j=cx xs j:=cx_setV_other hj u0 u1 u2 u3 u4
 rw [a _ (by omega),a _ (by omega),a _ (by omega),a _ (by omega),a _ (by omega)]
theorem grown_trans {w w1 w2 : World} {g : Option Nat} (h : w.grownBy w1 g) (k : w1.grownBy w2 g) : w.grownBy w2 g :=
 ⟨k.os.trans h.os,k.tape.trans h.tape,k.output.trans h.output,Nat.le_trans h.size k.size,fun b hb hne=>(k.block b (Nat.lt_of_lt_of_le hb h.size) hne).trans (h.block b hb hne)⟩
theorem row_setV {w : World} {base g n cap : Nat} {e : TypeId} {xs : List Value} (h : w.ownsRow base e 5 (.slice (some ⟨g,0,none⟩) n cap) n xs) (i : Nat) (u0 u1 u2 u3 u4 : Value) :
  (put5o w g (i * 5) u0 u1 u2 u3 u4).ownsRow base e 5 (.slice (some ⟨g,0,none⟩) n cap) n (setV xs i u0 u1 u2 u3 u4)∧w.grownBy (put5o w g (i * 5) u0 u1 u2 u3 u4) (some g):=by
 have h0:=h.stored (i * 5) u0
 have h1:=h0.1.stored (i * 5+1) u1
 have h2:=h1.1.stored (i * 5+2) u2
 have h3:=h2.1.stored (i * 5+3) u3
 have h4:=h3.1.stored (i * 5+4) u4
 exact ⟨h4.1,grown_trans (grown_trans (grown_trans (grown_trans h0.2 h1.2) h2.2) h3.2) h4.2⟩
end Go.Proofs.YtknakfpciccoaabGreatDoor
