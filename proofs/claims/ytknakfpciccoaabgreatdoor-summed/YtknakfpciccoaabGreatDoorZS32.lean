import Derived.Test.YtknakfpciccoaabGreatDoorZS31
import Derived.Test.YtknakfpciccoaabGreatDoorZS30
import Derived.Test.YtknakfpciccoaabGreatDoorZS26
import Derived.Test.YtknakfpciccoaabGreatDoorZS20
import Derived.Test.YtknakfpciccoaabGreatDoorZS3
import Derived.Test.YtknakfpciccoaabGreatDoorZS2
import Derived.Test.YtknakfpciccoaabGreatDoorZS9
import Derived.Test.YtknakfpciccoaabGreatDoorZS21
import Derived.Test.YtknakfpciccoaabGreatDoorZS23
import Derived.Test.YtknakfpciccoaabGreatDoorZS10
/- $group is a stage. -/
namespace Go.Proofs.YtknakfpciccoaabGreatDoor
open Go.RowKit
set_option maxHeartbeats 8000000 in
set_option maxRecDepth 100000 in
theorem grun_any {Tb : World→Prop} (hV : ValidSaid Tb) (hL : Lies Tb) (NA : Option Addr) (nc : Nat) (bv ev : Value) (es : List (ByteArray×(T→Int⊕T))) (ops : List ByteArray) (hops : ops=es.map Prod.fst) (ks : List ByteArray) (gb : T→Int⊕T) (dv : Value) (l : List T) (w : World) (hk : StrsAt w (.slice NA (ops.length+1) nc) ks) (hby : ExprOk Tb w bv gb) (hes : EntsOk Tb w ev es) (hd : DocsAt w dv l) (hT : Tb w) :
  Calls Tryz.prog 238 #[.agg #[.slice none 0 0,.slice NA (ops.length+1) nc,bv,ev,.slice none 0 0],dv] w (StPost (grpS gb es ks) l w):=by
 have hmf : ∀ (fn : Fn) (first cap : Array Value) (w : World),(Instr.makeFunc fn first cap).run Tryz.prog w=.ok (.func fn first cap) w:=fun _ _ _ _=>rfl
 have HB1 : Hid (Below w.heap.size w (w.alloc (.cells #[.slice none 0 0,.slice NA (ops.length+1) nc,bv,ev,.slice none 0 0] 178))):=(Below.refl _ _).alloc (Nat.le_refl _) _
 have hdl : l.length≤1000000:=by obtain ⟨_,_,_,h,_⟩:=hd; exact h
 have hlen : ops.length=es.length:=by rw [hops,List.length_map]
 have hen : ops.length≤100000:=by obtain ⟨_,_,_,h,_⟩:=hes; omega
 have HC:=hid (each_any (takE gb es) (fun k st w'=>(∃ L gv xs rb ys,GrI w w.heap.size NA nc bv ev ops L gv xs rb ys st w')∧st.length≤k∧∀ i,(h : i<st.length)→∀ j,(∃ hj : j<es.length,es[j].1=gList)→nL (st[i].2.getD j zeroT)≤k) 239 (fun _ _=>rfl) (.pointer (some ⟨w.heap.size,0,none⟩)) w.heap.size dv l [] w _ HB1.out hd ⟨⟨_,_,_,_,_,GrI.start w NA nc bv ev ops⟩,Nat.le_refl _,fun i hi=>absurd hi (Nat.not_lt_zero i)⟩
  (fun k s wx wy h hb=>by
   obtain ⟨⟨L,gv,xs,rb,ys,hG⟩,h2⟩:=h
   exact ⟨⟨L,gv,xs,rb,ys,hG.keep hb⟩,h2⟩)
  (fun k s wx h=>by
   obtain ⟨⟨L,gv,xs,rb,ys,hG⟩,h2⟩:=h
   exact ⟨_,hG.c0⟩)
  (fun k s d v wr hkl h hb ha hok=>by
   obtain ⟨⟨L,gv,xs,rb,ys,hG⟩,h2,h3⟩:=h
   refine (gtake_any hL w w.heap.size NA nc bv ev es ops hops L gv xs rb ys s d v wr ks gb hG hb hk hby hes (by omega) (fun i hi j hj=>?_) ha hok hT).mono ?_
   ·have:=h3 i hi j (by
     obtain ⟨hj1,hj2⟩:=hj
     subst hops
     rw [List.getElem_map] at hj2
     exact ⟨by rw [List.length_map] at hj1; exact hj1,hj2⟩)
    omega
   ·rintro e w' ⟨k1,k2 | ⟨st',k2,k3,k4⟩⟩
    ·exact ⟨k1,.inl k2⟩
    ·exact ⟨k1,.inr ⟨st',k2,k3,k4,by have:=takE_len k2; omega,takE_nL k2 h3⟩⟩))
 have HSec : Hid (∀ (w2 : World) (st : List (T×List T)) (L : Nat→Lab) (gv : Value) (xs : List Value) (rb : Nat→Nat) (ys : Nat→List Value),GrI w w.heap.size NA nc bv ev ops L gv xs rb ys st w2→Below w.heap.size w w2→st.length≤1000000→_):=fun w2 st L gv xs rb ys hG hb hn=>gsecond_any hV hL w w2 w.heap.size NA nc bv ev ops L gv xs rb ys st ks hG hb hk hen hn hT
 have Hk:=hid hk
 have Hen:=hid hen
 obtain ⟨DA,dc,hdv,_⟩:=hd
 obtain ⟨EA,ec,hev,_,_⟩:=hes
 obtain ⟨ty,p,fid,hbv,_,_,_⟩:=hby
 subst hdv
 subst hev
 subst hbv
 have Hdl:=hid hdl
 clear hT hV hL hdl hk hen hlen hops
 go_enter Tryz.func238,Tryz.ntmps238
 go_wp2_with fail
 refine HC.out.mono ?_
 rintro e w2 ⟨b2,⟨k,x,h1,h2,rfl⟩ | ⟨st,v,h1,h2,h3,rfl⟩⟩
 ·have HB:=hid (HB1.out.trans b2)
  have HF : Hid (grpS gb es ks l=.inl (k,x)∧x≠0):=⟨by unfold grpS; rw [h1],h2⟩
  have ez : (x == 0)=false:=by simpa using h2
  clear b2 h1 h2 HC HSec
  go_wp2_with fail
  refine bodyPost_ret (v:=.tuple #[.slice none 0 0,.int .i64 (k : Nat),.int .i64 x]) (by simp [results,Tryz.results238,go_sem, *]) rfl ?_
  exact ⟨HB.out,.inl ⟨k,x,HF.out.1,HF.out.2,rfl⟩⟩
 ·obtain ⟨⟨L,gv,xs,rb,ys,hG⟩,hl1,_⟩:=h2
  have HB:=hid (HB1.out.trans b2)
  obtain ⟨GA,gc,hgv,_⟩:=hG.elems HB.out Hk.out Hen.out
  subst hgv
  have HS2:=hid (HSec.out w2 st L _ xs rb ys hG HB.out (by have:=Hdl.out; omega))
  have c42:=hG.c4
  have Hg : Hid (∀ r,eachE emE (st.map (grpT ks)) 0 []=r→grpS gb es ks l=r):=fun r hr=>by unfold grpS; rw [h1]; exact hr
  clear b2 h1 h3 hG hl1 HC HSec Hk Hen Hdl
  go_wp2_with fail
  refine HS2.out.mono ?_
  rintro e w3 ⟨b3,⟨k,x,h1,h2,rfl⟩ | ⟨r,v2,h1,rfl,h3⟩⟩
  ·have HB3:=hid (HB.out.trans b3)
   have HF:=hid (And.intro (Hg.out _ h1) h2)
   clear b3 h1 h2 HS2
   go_wp2_with fail
   refine bodyPost_ret (v:=.tuple #[.slice none 0 0,.int .i64 (k : Nat),.int .i64 x]) (by simp [results,Tryz.results238,go_sem, *]) rfl ?_
   exact ⟨HB3.out,.inl ⟨k,x,HF.out.1,HF.out.2,rfl⟩⟩
  ·have HB3:=hid (HB.out.trans b3)
   have HF:=hid (And.intro (Hg.out _ h1) h3)
   clear b3 h1 h3 HS2
   go_wp2_with fail
   refine bodyPost_ret (v:=.tuple #[v2,.int .i64 0,.int .i64 0]) (by simp [results,Tryz.results238,go_sem, *]) rfl ?_
   exact ⟨HB3.out,.inr ⟨r,v2,HF.out.1,rfl,HF.out.2⟩⟩
theorem meth_group (p : Value) (w : World) : (method 419 178 p "sheaf/pipe.run").run Tryz.prog w=.ok (238,p) w:=by kernel_rfl
set_option maxHeartbeats 4000000 in
set_option maxRecDepth 100000 in
theorem group_ok {Tb : World→Prop} (hV : ValidSaid Tb) (hL : Lies Tb) {w : World} {NA : Option Addr} {nc : Nat} {bv ev : Value} {es : List (ByteArray×(T→Int⊕T))} {ops : List ByteArray} (hops : ops=es.map Prod.fst) {ks : List ByteArray} {gb : T→Int⊕T} (hk : StrsAt w (.slice NA (ops.length+1) nc) ks) (hby : ExprOk Tb w bv gb) (hes : EntsOk Tb w ev es) : StageOk Tb w (.iface 178 (.agg #[.slice none 0 0,.slice NA (ops.length+1) nc,bv,ev,.slice none 0 0])) (grpS gb es ks) :=
 ⟨_,_,_,rfl,meth_group _,fun _ _=>rfl,fun wr dv l hb hd hT=>grun_any hV hL NA nc bv ev es ops hops ks gb dv l wr (hk.keep hb) (hby.keep hb) (hes.keep hb) hd hT⟩
end Go.Proofs.YtknakfpciccoaabGreatDoor
/- Stages are read: $group. -/
namespace Go.Proofs.YtknakfpciccoaabGreatDoor
open Go.RowKit
def opGroup : ByteArray:=⟨#[36,103,114,111,117,112]⟩
set_option maxHeartbeats 8000000 in
set_option maxRecDepth 100000 in
theorem pstage_group {Tb : World→Prop} (hV : ValidSaid Tb) (hL : Lies Tb) (gb : T→Int⊕T) (es : List (ByteArray×(T→Int⊕T))) (ks : List ByteArray) (t j : T) (k6 : kindOf t=6) (k1 : nK t=1) (hj : elt t 0=j) (hx : nam t 0=opGroup) (h : ∀ (v : Value) (wB w : World),At wB 13 v j→okA j→Below wB.heap.size wB w→Tb w→Calls Tryz.prog 125 #[v] w (GpPost Tb wB gb es ks w)) : PsSaid Tb t (grpS gb es ks):=by
 intro v wB w ha hk hb0 hT
 have l1 : nL t=1:=by have:=hk.names k6; omega
 have hkj : okA j:=by rw [← hj]; exact hk.elt (by omega)
 have Ha:=hid ha
 obtain ⟨g1,La,Ka,Lc,Kc,hg1,rfl,_,_,_⟩:=ha.open
 have HB1 : Hid (Below w.heap.size w (w.alloc (.cells #[.int .i64 (kindOf t),.int .i64 (nOf t),.string (sOf t),.slice La (nL t) Lc,.slice Ka (nK t) Kc] 36))):=(Below.refl _ _).alloc (Nat.le_refl _) _
 have HC:=hid (ppOp_any t j opGroup hj hx _ wB _ Ha.out hk k6 k1 (hb0.trans (HB1.out.mono hb0.size)))
 have HE : Hid (∀ (v : Value) (w' : World),At wB 13 v j→Below w.heap.size w w'→Calls Tryz.prog 125 #[v] w' (GpPost Tb wB gb es ks w')):=fun v w' h1 h2=>h v wB w' h1 hkj (hb0.trans (h2.mono hb0.size)) (hL w hT w w' hT h2)
 clear ha hk hg1 hb0 hT h k6 k1 l1 hkj Ha hj hx
 unfold opGroup at *
 go_enter Tryz.func94,Tryz.ntmps94
 go_wp2_with fail
 refine HC.out.mono ?_
 rintro e w2 ⟨b2,A,B,C,D,rfl,hat⟩
 have HBa : Hid (Below w2.heap.size w2 (w2.alloc (.cells #[.int .i64 (kindOf j),.int .i64 (nOf j),.string (sOf j),.slice A (nL j) B,.slice C (nK j) D] 36))):=(Below.refl _ _).alloc (Nat.le_refl _) _
 have HB2:=hid (HB1.out.trans (b2.mono HB1.out.size))
 have HB3:=hid (HB2.out.trans (HBa.out.mono HB2.out.size))
 have HP:=hid (HE.out _ _ hat HB3.out)
 have HY:=hid (box_new w2 (.int .i64 (kindOf j)) (.int .i64 (nOf j)) (.string (sOf j)) (.slice A (nL j) B) (.slice C (nK j) D))
 clear b2 hat HC HE
 have y0:=HY.out.q0
 have y1:=HY.out.q1
 have y2:=HY.out.q2
 have y3:=HY.out.q3
 have y4:=HY.out.q4
 go_wp2_with fail
 refine HP.out.mono ?_
 rintro e w5 ⟨b5,NA,nc,ty,p,EA,ec,rfl,hs⟩
 have HB5:=hid (HB3.out.trans (b5.mono HB3.out.size))
 have HS:=hid ((hs.later (wa:=w) (Below.refl _ _) HB3.out.size).mono (Q:=fun x=>StageOk Tb x (.iface 178 (.agg #[.slice none 0 0,.slice NA (es.length+1) nc,.iface ty p,.slice EA es.length ec,.slice none 0 0])) (grpS gb es ks)) fun w' hw hh=>by
  obtain ⟨h1,h2,h3⟩:=hh
  have:=group_ok hV hL (ops:=es.map Prod.fst) rfl (by rw [List.length_map]; exact h1) h2 h3
  rw [List.length_map] at this
  exact this)
 clear b5 hs HP y0 y1 y2 y3 y4
 go_wp2_with fail
 go_ret
 exact ⟨HB5.out,_,_,rfl,HS.out⟩
end Go.Proofs.YtknakfpciccoaabGreatDoor
/- A tree whose numbers fit lies in some world. -/
namespace Go.Proofs.YtknakfpciccoaabGreatDoor
open Go.RowKit
def FitT : Nat→T→Prop
 | 0,_=>False
 | f+1,t=>Fits t∧(∀ i,i<nL t→FitT f (elt t i))∧∀ i,i<nK t→(nam t i).size≤140737488355328
theorem lies_list {f : Nat} {t : T} (ih : ∀ i,i<nL t→∀ w : World,∃ w' v,Below w.heap.size w w'∧At w' f v (elt t i)) : ∀ k,k≤nL t→∀ w : World,∃ (w' : World) (xs : List Value),Below w.heap.size w w'∧xs.length=k * 5∧∀ i,i<k→At w' f (fv xs i) (elt t i)
 | 0,_,w=>⟨w,[],Below.refl _ _,rfl,fun i hi=>absurd hi (Nat.not_lt_zero i)⟩
 | k+1,hk,w=>by
  obtain ⟨w1,xs,b1,hx,h1⟩:=lies_list ih k (by omega) w
  obtain ⟨w2,v,b2,ha⟩:=ih k (by omega) w1
  obtain ⟨g,La,Ka,Lc,Kc,rfl,rfl,_⟩:=ha.open
  refine ⟨w2,xs ++ [.int .i64 (kindOf (elt t k)),.int .i64 (nOf (elt t k)),.string (sOf (elt t k)),.slice La (nL (elt t k)) Lc,.slice Ka (nK (elt t k)) Kc],b1.trans (b2.mono b1.size),by rw [List.length_append,hx]; simp; omega,fun i hi=>?_⟩
  by_cases e : i<k
  ·rw [fv_left hx e]
   exact At.keep b2 (h1 i e)
  ·obtain rfl : i=k:=by omega
   rw [fv_right hx]
   exact ha
theorem lies_some : ∀ (f : Nat) (t : T),FitT f t→∀ w : World,∃ w' v,Below w.heap.size w w'∧At w' f v t
 | 0,_,h,_=>h.elim
 | f+1,t,⟨hf,he,hn⟩,w=>by
  obtain ⟨w1,xs,b1,hx,h1⟩:=lies_list (fun i hi=>lies_some f (elt t i) (he i hi)) (nL t) (Nat.le_refl _) w
  have bA : Below w1.heap.size w1 (w1.alloc (.cells xs.toArray 36)):=(Below.refl _ _).alloc (Nat.le_refl _) _
  have bB : Below (w1.heap.size+1) (w1.alloc (.cells xs.toArray 36)) ((w1.alloc (.cells xs.toArray 36)).alloc (.cells (namesV (kOf t)).toArray 9)):=(Below.refl _ _).alloc (by simp) _
  have r1 : (w1.alloc (.cells xs.toArray 36)).ownsRow 0 36 5 (.slice (some ⟨w1.heap.size,0,none⟩) (nL t) (nL t)) (nL t) xs:=by
   have:=World.ownsRow_lit (base:=0) (e:=36) (size:=5) w1 xs.toArray (nL t) (Nat.zero_le _) (by have:=hf.l1; unfold maxLen; omega) (by simpa using hx)
   simpa using this
  have r2 : ((w1.alloc (.cells xs.toArray 36)).alloc (.cells (namesV (kOf t)).toArray 9)).ownsRow 0 9 1 (.slice (some ⟨w1.heap.size+1,0,none⟩) (nK t) (nK t)) (nK t) (namesV (kOf t)):=by
   have:=World.ownsRow_lit (base:=0) (e:=9) (size:=1) (w1.alloc (.cells xs.toArray 36)) (namesV (kOf t)).toArray (nK t) (Nat.zero_le _) (by have:=hf.m1; unfold maxLen; omega) (by simp [namesV,nK])
   simpa using this
  have hC : Below w1.heap.size w1 ((w1.alloc (.cells xs.toArray 36)).alloc (.cells (namesV (kOf t)).toArray 9)):=bA.trans (bB.mono (by omega))
  generalize ((w1.alloc (.cells xs.toArray 36)).alloc (.cells (namesV (kOf t)).toArray 9))=w3 at bB r2 hC
  refine ⟨w3,_,b1.trans (hC.mono b1.size),some ⟨w1.heap.size,0,none⟩,some ⟨w1.heap.size+1,0,none⟩,nL t,nK t,rfl,hf,fun i hi=>?_,fun i hi=>?_⟩
  ·have hc : ∀ j,j<5→w3.cell? ⟨w1.heap.size,i * 5+j,none⟩=some (cx xs (i * 5+j)):=fun j hj=>(bB.cell (p:=⟨w1.heap.size,i * 5+j,none⟩) (by simp)).trans (row_cell r1 (cx_some (by omega)))
   have hlt : w1.heap.size<w3.heap.size:=by have:=bB.size; simp at this; omega
   refine ⟨w1.heap.size,0,cx xs (i * 5),cx xs (i * 5+1),cx xs (i * 5+2),cx xs (i * 5+3),cx xs (i * 5+4),rfl,hlt,(by rw [Nat.zero_add]; exact hc 0 (by omega)),(by rw [Nat.zero_add]; exact hc 1 (by omega)),(by rw [Nat.zero_add]; exact hc 2 (by omega)),(by rw [Nat.zero_add]; exact hc 3 (by omega)),(by rw [Nat.zero_add]; exact hc 4 (by omega)),?_⟩
   exact At.keep hC (h1 i hi)
  ·have hi' : i<(kOf t).length:=hi
   refine ⟨w1.heap.size+1,0,rfl,(r2.lt _ rfl).2,hn i hi,?_⟩
   rw [Nat.zero_add]
   refine row_cell r2 ?_
   simp [namesV,nam,List.getD_eq_getElem?_getD,hi']
theorem parse_tree {f : Nat} {t : T} (hf : FitT f t) (hg : Good 12 t) (hl : (wrT 12 t).length≤4000) : eJ (baL (wrT 12 t))=0∧tJ (baL (wrT 12 t))=canT 12 t:=by
 obtain ⟨w,v,_,ha⟩:=lies_some f t hf default
 exact (parse_wr ha hg).2 hl
end Go.Proofs.YtknakfpciccoaabGreatDoor
/- Bytes and values, pure: what was read is written as it was. -/
namespace Go.Proofs.YtknakfpciccoaabGreatDoor
open Go.RowKit
end Go.Proofs.YtknakfpciccoaabGreatDoor
/- The walk of the program's Compare. -/
namespace Go.Proofs.YtknakfpciccoaabGreatDoor
open Go.RowKit
end Go.Proofs.YtknakfpciccoaabGreatDoor
/- The walk of the program's Decode, in one form. -/
namespace Go.Proofs.YtknakfpciccoaabGreatDoor
open Go.RowKit
end Go.Proofs.YtknakfpciccoaabGreatDoor
/- The walk of Texts: it returns true. -/
namespace Go.Proofs.YtknakfpciccoaabGreatDoor
open Go.RowKit
end Go.Proofs.YtknakfpciccoaabGreatDoor
/- document. -/
namespace Go.Proofs.YtknakfpciccoaabGreatDoor
open Go.RowKit
def docA (id : Int) (i : Nat) : ByteArray:=((⟨#[123,34,95,105,100,34,58]⟩ ++ baL (Lib.itoa id)) ++ ⟨#[44,34,97,34,58]⟩) ++ vt i
def docS (id : Int) (i : Nat) (o : Option Nat) : ByteArray:=(match o with | none=>docA id i | some j=>(docA id i ++ ⟨#[44,34,99,34,58]⟩) ++ vt j) ++ ⟨#[125]⟩
theorem itoa30 {n : Int} (h0 : 0≤n) (h1 : n<30) : (baL (Lib.itoa n)).size≤2:=by
 obtain ⟨k,rfl⟩ : ∃ k : Nat,n=(k : Int):=⟨n.toNat,by omega⟩
 have h : ((List.range 30).all fun k=>decide ((baL (Lib.itoa ((k : Nat) : Int))).size≤2))=true:=by kernel_rfl
 exact of_decide_eq_true (List.all_eq_true.1 h k (List.mem_range.2 (by omega)))
set_option maxHeartbeats 4000000 in
set_option maxRecDepth 100000 in
theorem document_any {Tb : World→Prop} (hI : ItoaSaid Tb) (hL : Lies Tb) (id c d : Int) (w : World) (i0 : 0≤id) (i1 : id<30) (c0 : -9223372036854775808≤c) (c1 : c≤9223372036854775807) (d0 : -9223372036854775808≤d) (d1 : d≤9223372036854775807) (hT : Tb w) :
  Calls Tryz.prog 20 #[.int .i64 id,.int .i64 c,.int .i64 d] w fun e w'=>Below w.heap.size w w'∧∃ i o,i<36∧(∀ j,o=some j→j<36)∧e=.returned (.string (docS id i o)):=by
 have HI:=hid (hI id w (by omega) (by omega) hT)
 have HT : Hid (∀ w' : World,Below w.heap.size w w'→Tb w'):=fun w' hb=>hL w hT w w' hT hb
 have HV : Hid (∀ (c : Int) (w : World),-9223372036854775808≤c→c≤9223372036854775807→Tb w→Calls Tryz.prog 32 #[.int .i64 c] w (ValPostV w)):=fun c w h0 h1 ht=>value_any' hI hL c w h0 h1 ht
 have HP : Hid (∀ w,Calls Tryz.prog 11 #[.int .i64 d,.int .i64 3] w fun e w'=>e=.returned (.int .i64 (absZ d % 3))∧w'=w):=fun w=>pick_any d 3 w d0 d1 (by omega) (by omega)
 have HQ : Hid (-9223372036854775808≤d.tdiv 3∧d.tdiv 3≤9223372036854775807):=by
  show _∧_
  have h1:=Int.tdiv_mul_add_tmod d 3
  by_cases h : 0≤d
  ·rw [Int.tdiv_eq_ediv_of_nonneg h]; omega
  ·have : d.tdiv 3=-((-d).tdiv 3):=by rw [Int.neg_tdiv]; simp
   rw [this,Int.tdiv_eq_ediv_of_nonneg (by omega)]; omega
 have hq : IntKind.i64.wrap (d.tdiv 3)=d.tdiv 3:=by rw [IntKind.wrap_i64]; have:=HQ.out; omega
 have Hz:=hid (itoa30 i0 i1)
 have Hc:=hid (And.intro c0 c1)
 clear hT hI hL
 obtain ⟨a1,e1,z1,r1⟩:=cat_run ⟨#[123,34,95,105,100,34,58]⟩ (baL (Lib.itoa id)) 7 (baL (Lib.itoa id)).size rfl rfl (by have:=Hz.out; omega)
 obtain ⟨a2,e2,z2,r2⟩:=cat_run a1 ⟨#[44,34,97,34,58]⟩ a1.size 5 rfl rfl (by have:=Hz.out; omega)
 have E2:=hid (And.intro e1 e2)
 have Z2 : Hid (a2.size≤14):=by show _≤_; have:=Hz.out; omega
 clear e1 e2 z1 z2 Hz
 generalize hbi : baL (Lib.itoa id)=bi at HI r1 E2
 have Hbi:=hid hbi
 clear hbi
 go_enter Tryz.func20,Tryz.ntmps20
 go_wp2_with fail
 refine HI.out.mono ?_
 rintro e w1 ⟨rfl,b1⟩
 have HB1:=hid b1
 have HV1:=hid (HV.out c w1 Hc.out.1 Hc.out.2 (HT.out _ b1))
 clear b1 HI
 go_wp2_with fail
 refine HV1.out.mono ?_
 rintro e w2 ⟨sv,⟨i,hi,rfl⟩,rfl,b2⟩
 have HB2:=hid (HB1.out.trans (b2.mono HB1.out.size))
 have Hi:=hid hi
 obtain ⟨a3,e3,z3,r3⟩:=cat_run a2 (vt i) a2.size (vt i).size rfl rfl (by have:=Z2.out; have:=vt_le hi; omega)
 have E3 : Hid (a3=docA id i):=by show _=_; rw [e3,E2.out.2,E2.out.1,← Hbi.out]; rfl
 have Z3 : Hid (a3.size≤24):=by show _≤_; have:=Z2.out; have:=vt_le hi; omega
 clear b2 hi HV1 e3 z3
 generalize vt i=si at *
 go_wp2_with fail
 refine (HP.out w2).mono ?_
 rintro e w3 ⟨rfl,rfl⟩
 by_cases hp : 0<absZ d % 3
 ·have HV2:=hid (HV.out (d.tdiv 3) w3 HQ.out.1 HQ.out.2 (HT.out _ HB2.out))
  obtain ⟨a4,e4,z4,r4⟩:=cat_run a3 ⟨#[44,34,99,34,58]⟩ a3.size 5 rfl rfl (by have:=Z3.out; omega)
  have E4:=hid e4
  have Z4 : Hid (a4.size≤29):=by show _≤_; have:=Z3.out; omega
  clear e4 z4
  go_wp2_with fail
  refine HV2.out.mono ?_
  rintro e w4 ⟨sv2,⟨j,hj,rfl⟩,rfl,b4⟩
  have HB4:=hid (HB2.out.trans (b4.mono HB2.out.size))
  have Hj:=hid hj
  obtain ⟨a5,e5,z5,r5⟩:=cat_run a4 (vt j) a4.size (vt j).size rfl rfl (by have:=Z4.out; have:=vt_le hj; omega)
  obtain ⟨a6,e6,z6,r6⟩:=cat_run a5 ⟨#[125]⟩ a5.size 1 rfl rfl (by have:=Z4.out; have:=vt_le hj; omega)
  have E6 : Hid (a6=docS id i (some j)):=by show _=_; rw [e6,e5,E4.out,E3.out]; rfl
  clear b4 hj HV2 e5 z5 e6 z6
  generalize vt j=sj at *
  go_wp2_with fail
  go_ret
  exact ⟨HB4.out,i,some j,Hi.out,fun j' hj'=>by cases hj'; exact Hj.out,by rw [E6.out]; rfl⟩
 ·obtain ⟨a6,e6,z6,r6⟩:=cat_run a3 ⟨#[125]⟩ a3.size 1 rfl rfl (by have:=Z3.out; omega)
  have E6 : Hid (a6=docS id i none):=by show _=_; rw [e6,E3.out]; rfl
  clear e6 z6
  go_wp2_with fail
  go_ret
  exact ⟨HB2.out,i,none,Hi.out,(fun j' hj'=>by cases hj'),by rw [E6.out]; rfl⟩
end Go.Proofs.YtknakfpciccoaabGreatDoor
/- The documents that the statements make, as trees. -/
namespace Go.Proofs.YtknakfpciccoaabGreatDoor
open Go.RowKit
def docT (id : Int) (i : Nat) (o : Option Nat) : T:=match o with
 | none=>mkT 6 0 ByteArray.empty [nT id,tv i] [⟨#[95,105,100]⟩,⟨#[97]⟩]
 | some j=>mkT 6 0 ByteArray.empty [nT id,tv i,tv j] [⟨#[95,105,100]⟩,⟨#[97]⟩,⟨#[99]⟩]
theorem vt_print11 : ((List.range 36).all fun i=>decide (wrT 11 (tv i)=(vt i).data.toList))=true:=by kernel_rfl
theorem vt_wr11 {i : Nat} (h : i<36) : wrT 11 (tv i)=(vt i).data.toList:=of_decide_eq_true (List.all_eq_true.1 vt_print11 i (List.mem_range.2 h))
theorem nT_wr (n : Int) : wrT 11 (nT n)=Lib.itoa n:=by
 rw [wrT_leaf (by show (3 : Int)≠5; decide) (by show (3 : Int)≠6; decide)]
 rfl
theorem ba_list {s : ByteArray} {l : List UInt8} (h : s.data.toList=l) : s=baL l:=by
 apply (data_eq_iff _ _).1
 rw [h]
 simp [baL]
theorem app_list (a b : ByteArray) : (a ++ b).data.toList=a.data.toList ++ b.data.toList:=by simp
theorem qId : quoL ⟨#[95,105,100]⟩=[34,95,105,100,34]:=by kernel_rfl
theorem qA : quoL ⟨#[97]⟩=[34,97,34]:=by kernel_rfl
theorem qC : quoL ⟨#[99]⟩=[34,99,34]:=by kernel_rfl
theorem docS_wr {id : Int} {i : Nat} {o : Option Nat} (hi : i<36) (ho : ∀ j,o=some j→j<36) : docS id i o=baL (wrT 12 (docT id i o)):=by
 apply ba_list
 cases o with
 | none =>
  have e : wrT 12 (docT id i none)=123 :: ((([] ++ ([] ++ (quoL ⟨#[95,105,100]⟩ ++ (58 :: wrT 11 (nT id))))) ++ ([44] ++ (quoL ⟨#[97]⟩ ++ (58 :: wrT 11 (tv i))))) ++ [125]):=rfl
  rw [e,vt_wr11 hi,nT_wr,qId,qA]
  unfold docS docA
  simp only [app_list]
  simp [baL]
 | some j =>
  have e : wrT 12 (docT id i (some j))=123 :: (((([] ++ ([] ++ (quoL ⟨#[95,105,100]⟩ ++ (58 :: wrT 11 (nT id))))) ++ ([44] ++ (quoL ⟨#[97]⟩ ++ (58 :: wrT 11 (tv i))))) ++ ([44] ++ (quoL ⟨#[99]⟩ ++ (58 :: wrT 11 (tv j))))) ++ [125]):=rfl
  rw [e,vt_wr11 hi,vt_wr11 (ho j rfl),nT_wr,qId,qA,qC]
  unfold docS docA
  simp only [app_list]
  simp [baL]
def fitB : Nat→T→Bool
 | 0,_=>false
 | f+1,t=>(decide (-9223372036854775808≤kindOf t) && decide (kindOf t≤9223372036854775807) && decide (-9223372036854775808≤nOf t) && decide (nOf t≤9223372036854775807) && decide ((sOf t).size≤140737488355328) && decide (nL t≤1759218604442) && decide (nK t≤8796093022208)) && ((List.range (nL t)).all fun i=>fitB f (elt t i)) && ((List.range (nK t)).all fun i=>decide ((nam t i).size≤140737488355328))
theorem fitB_fit : ∀ (f : Nat) (t : T),fitB f t=true→FitT f t
 | 0,_,h=>by cases h
 | f+1,t,h=>by
  unfold fitB at h
  simp only [Bool.and_eq_true,decide_eq_true_eq,List.all_eq_true,List.mem_range] at h
  obtain ⟨⟨⟨⟨⟨⟨⟨⟨h1,h2⟩,h3⟩,h4⟩,h5⟩,h6⟩,h7⟩,h8⟩,h9⟩:=h
  exact ⟨⟨h1,h2,h3,h4,h5,h6,h7⟩,fun i hi=>fitB_fit f _ (h8 i hi),h9⟩
theorem tv_fitB : ((List.range 36).all fun i=>fitB 3 (tv i))=true:=by kernel_rfl
theorem tv_fit {i : Nat} (h : i<36) : FitT 3 (tv i):=fitB_fit 3 _ (List.all_eq_true.1 tv_fitB i (List.mem_range.2 h))
theorem tv_good11B : ((List.range 36).all fun i=>(chkT 11 (tv i) 1048576).isSome)=true:=by kernel_rfl
theorem tv_good11 {i : Nat} (h : i<36) : Good 11 (tv i):=by
 have h1:=List.all_eq_true.1 tv_good11B i (List.mem_range.2 h)
 rcases chk_says 11 (tv i) 1048576 (by omega) with ⟨_,h2,_⟩ | ⟨h3,_⟩
 ·exact h2
 ·rw [h3] at h1; cases h1
theorem tv_can : (List.range 36).map (fun i=>canT 11 (tv i))=(List.range 36).map tv:=by kernel_rfl
theorem tv_can11 {i : Nat} (h : i<36) : canT 11 (tv i)=tv i:=by
 have:=congrArg (fun l=>l[i]?) tv_can
 simpa [h] using this
theorem nT_good (n : Int) (m : Nat) : Good m (nT n):=by
 have h : leafGood (nT n):=⟨rfl,rfl,.inr (.inr (.inl ⟨rfl,noText_mk 3 n [] []⟩))⟩
 cases m with
 | zero=>exact h
 | succ m=>exact .inl h
theorem nT_fit {n : Int} (h0 : -9223372036854775808≤n) (h1 : n≤9223372036854775807) : FitT 3 (nT n) :=
 ⟨⟨by show -9223372036854775808≤(3 : Int); omega,by show (3 : Int)≤9223372036854775807; omega,h0,h1,by show (0 : Nat)≤_; omega,by show (0 : Nat)≤_; omega,by show (0 : Nat)≤_; omega⟩,fun i hi=>absurd hi (Nat.not_lt_zero i),fun i hi=>absurd hi (Nat.not_lt_zero i)⟩
theorem docT_elt {id : Int} {i : Nat} {o : Option Nat} (ho : ∀ j,o=some j→j<36) (hi : i<36) {k : Nat} (hk : k<nL (docT id i o)) : elt (docT id i o) k=nT id∨∃ j,j<36∧elt (docT id i o) k=tv j:=by
 cases o with
 | none =>
  have hk' : k<2:=hk
  match k,hk' with
  | 0,_=>exact .inl rfl
  | 1,_=>exact .inr ⟨i,hi,rfl⟩
 | some j =>
  have hk' : k<3:=hk
  match k,hk' with
  | 0,_=>exact .inl rfl
  | 1,_=>exact .inr ⟨i,hi,rfl⟩
  | 2,_=>exact .inr ⟨j,ho j rfl,rfl⟩
theorem docT_good {id : Int} {i : Nat} {o : Option Nat} (hi : i<36) (ho : ∀ j,o=some j→j<36) : Good 12 (docT id i o):=by
 refine .inr ⟨by cases o <;> rfl,by cases o <;> exact noText_mk _ _ _ _,fun k hk=>?_,.inr ⟨by cases o <;> rfl,by cases o <;> rfl,by cases o <;> kernel_rfl,by cases o <;> kernel_rfl⟩⟩
 rcases docT_elt ho hi hk with e | ⟨j,hj,e⟩
 ·rw [e]; exact nT_good id 11
 ·rw [e]; exact tv_good11 hj
theorem docT_fit {id : Int} {i : Nat} {o : Option Nat} (h0 : -9223372036854775808≤id) (h1 : id≤9223372036854775807) (hi : i<36) (ho : ∀ j,o=some j→j<36) : FitT 4 (docT id i o):=by
 have hF : Fits (docT id i o):=by
  cases o with
  | none=>exact ⟨by show (-9223372036854775808 : Int)≤6; omega,by show (6 : Int)≤9223372036854775807; omega,by show (-9223372036854775808 : Int)≤0; omega,by show (0 : Int)≤9223372036854775807; omega,by show (0 : Nat)≤_; omega,by show (2 : Nat)≤_; omega,by show (2 : Nat)≤_; omega⟩
  | some j=>exact ⟨by show (-9223372036854775808 : Int)≤6; omega,by show (6 : Int)≤9223372036854775807; omega,by show (-9223372036854775808 : Int)≤0; omega,by show (0 : Int)≤9223372036854775807; omega,by show (0 : Nat)≤_; omega,by show (3 : Nat)≤_; omega,by show (3 : Nat)≤_; omega⟩
 refine ⟨hF,fun k hk=>?_,fun k hk=>?_⟩
 ·rcases docT_elt ho hi hk with e | ⟨j,hj,e⟩
  ·rw [e]; exact nT_fit h0 h1
  ·rw [e]; exact tv_fit hj
 ·cases o with
  | none =>
   have hk' : k<2:=hk
   match k,hk' with
   | 0,_=>show (3 : Nat)≤_; omega
   | 1,_=>show (1 : Nat)≤_; omega
  | some j =>
   have hk' : k<3:=hk
   match k,hk' with
   | 0,_=>show (3 : Nat)≤_; omega
   | 1,_=>show (1 : Nat)≤_; omega
   | 2,_=>show (1 : Nat)≤_; omega
theorem docT_can {id : Int} {i : Nat} {o : Option Nat} (hi : i<36) (ho : ∀ j,o=some j→j<36) : canT 12 (docT id i o)=docT id i o:=by
 have hn : canT 11 (nT id)=nT id:=rfl
 cases o with
 | none =>
  show mkT 6 0 ByteArray.empty [canT 11 (nT id),canT 11 (tv i)] _=_
  rw [hn,tv_can11 hi]; rfl
 | some j =>
  show mkT 6 0 ByteArray.empty [canT 11 (nT id),canT 11 (tv i),canT 11 (tv j)] _=_
  rw [hn,tv_can11 hi,tv_can11 (ho j rfl)]; rfl
theorem docS_size {id : Int} {i : Nat} {o : Option Nat} (h0 : 0≤id) (h1 : id<30) (hi : i<36) (ho : ∀ j,o=some j→j<36) : (docS id i o).size≤40:=by
 have h2:=itoa30 h0 h1
 have h3:=vt_le hi
 cases o with
 | none=>unfold docS docA; simp only [ByteArray.size_append]; have : (⟨#[123,34,95,105,100,34,58]⟩ : ByteArray).size=7:=rfl; have : (⟨#[44,34,97,34,58]⟩ : ByteArray).size=5:=rfl; have : (⟨#[125]⟩ : ByteArray).size=1:=rfl; omega
 | some j=>have h4:=vt_le (ho j rfl); unfold docS docA; simp only [ByteArray.size_append]; have : (⟨#[123,34,95,105,100,34,58]⟩ : ByteArray).size=7:=rfl; have : (⟨#[44,34,97,34,58]⟩ : ByteArray).size=5:=rfl; have : (⟨#[44,34,99,34,58]⟩ : ByteArray).size=5:=rfl; have : (⟨#[125]⟩ : ByteArray).size=1:=rfl; omega
theorem doc_parse {id : Int} {i : Nat} {o : Option Nat} (h0 : 0≤id) (h1 : id<30) (hi : i<36) (ho : ∀ j,o=some j→j<36) : eJ (docS id i o)=0∧tJ (docS id i o)=docT id i o:=by
 have hw:=docS_wr (id:=id) hi ho
 have hz:=docS_size h0 h1 hi ho
 rw [hw,baL_size] at hz
 have hp:=parse_tree (docT_fit (id:=id) (by omega) (by omega) hi ho) (docT_good hi ho) (by omega)
 rw [docT_can hi ho] at hp
 rw [hw]
 exact hp
end Go.Proofs.YtknakfpciccoaabGreatDoor
/- What the documents of the statements are: they may be inserted; their numbers. -/
namespace Go.Proofs.YtknakfpciccoaabGreatDoor
open Go.RowKit
theorem docT_isDoc (id : Int) (i : Nat) (o : Option Nat) : isDoc (docT id i o)=true:=by cases o <;> kernel_rfl
theorem docT_id (id : Int) (i : Nat) (o : Option Nat) : idT (docT id i o)=nT id:=by cases o <;> kernel_rfl
theorem tv_bytesB : ((List.range 36).all fun i=>decide (bytesT 11 (tv i)≤100))=true:=by kernel_rfl
theorem tv_bytes {i : Nat} (h : i<36) : bytesT 11 (tv i)≤100:=of_decide_eq_true (List.all_eq_true.1 tv_bytesB i (List.mem_range.2 h))
theorem nT_bytes (n : Int) : bytesT 11 (nT n)=9:=by kernel_rfl
theorem docT_bytes {id : Int} {i : Nat} {o : Option Nat} (hi : i<36) (ho : ∀ j,o=some j→j<36) : bytesT 12 (docT id i o)≤300:=by
 have h1:=tv_bytes hi
 have h2:=nT_bytes id
 cases o with
 | none =>
  have e : bytesT 12 (docT id i none)=5+sumK (docT id i none) 2+(((0+bytesT 11 (nT id))+bytesT 11 (tv i))):=rfl
  have k : sumK (docT id i none) 2≤50:=by
   have : sumK (docT id i none) 2=sumK (docT 0 0 none) 2:=rfl
   rw [this]; decide
  omega
 | some j =>
  have h3:=tv_bytes (ho j rfl)
  have e : bytesT 12 (docT id i (some j))=5+sumK (docT id i (some j)) 3+((((0+bytesT 11 (nT id))+bytesT 11 (tv i)))+bytesT 11 (tv j)):=rfl
  have k : sumK (docT id i (some j)) 3≤50:=by
   have : sumK (docT id i (some j)) 3=sumK (docT 0 0 (some 0)) 3:=rfl
   rw [this]; decide
  omega
theorem docT_isV {id : Int} {i : Nat} {o : Option Nat} (hi : i<36) (ho : ∀ j,o=some j→j<36) : isV (docT id i o)=true:=(isV_iff _).2 ⟨docT_good hi ho,by have:=docT_bytes (id:=id) hi ho; omega⟩
theorem docT_small {id : Int} {i : Nat} {o : Option Nat} (hi : i<36) (ho : ∀ j,o=some j→j<36) : tooBig (docT id i o)=false:=by
 unfold tooBig
 rw [docT_isV hi ho]
 have h1:=encT_len 12 _ (docT_good (id:=id) hi ho)
 have h2:=docT_bytes (id:=id) hi ho
 have h3 : (encS true (encT 12 (docT id i o))).size=(encT 12 (docT id i o)).length:=baL_size _
 rw [h3]
 simp
 omega
theorem doc_in {id : Int} {i : Nat} {o : Option Nat} (h0 : 0≤id) (h1 : id<30) (hi : i<36) (ho : ∀ j,o=some j→j<36) : inErr (docS id i o)=none:=by
 obtain ⟨h2,h3⟩:=doc_parse h0 h1 hi ho
 unfold inErr
 rw [h2,h3,docT_isDoc,docT_small hi ho]
 simp
theorem nT_cmp (a b : Int) : (cmpT 16 (nT a) (nT b) == 0)=(a == b):=by
 have e : cmpT 16 (nT a) (nT b)=cmpI a b:=by
  have ka : kindOf (nT a)=3:=rfl
  have kb : kindOf (nT b)=3:=rfl
  rw [cmpT,ka,kb,if_neg (by simp),if_pos (.inr rfl)]
  rfl
 rw [e]
 by_cases h1 : a<b
 ·rw [cmpI_lt h1,beq_eq_false_iff_ne.2 (by omega : a≠b)]; rfl
 ·by_cases h2 : b<a
  ·rw [cmpI_gt h2,beq_eq_false_iff_ne.2 (by omega : a≠b)]; rfl
  ·obtain rfl : a=b:=by omega
   rw [cmpI_eq (Int.le_refl _) (Int.le_refl _)]; simp
theorem doc_same (a b : Int) (i : Nat) (o : Option Nat) : sameId (nT a) (docT b i o)=(b == a):=by
 unfold sameId
 rw [docT_id,nT_cmp]
end Go.Proofs.YtknakfpciccoaabGreatDoor
/- quoted, path. -/
namespace Go.Proofs.YtknakfpciccoaabGreatDoor
open Go.RowKit
def pthL : List ByteArray:=[⟨#[97]⟩,⟨#[99]⟩,⟨#[97,46,98]⟩,⟨#[97,46,49]⟩,⟨#[95,105,100]⟩,⟨#[99,46,48]⟩]
def pth (k : Nat) : ByteArray:=pthL.getD k ByteArray.empty
def pthN (c : Int) : Nat:=(absZ c % 6).toNat
theorem pthN_lt (c : Int) : pthN c<6:=by unfold pthN; omega
set_option maxHeartbeats 4000000 in
set_option maxRecDepth 100000 in
theorem path_any (c : Int) (w : World) (h0 : -9223372036854775808≤c) (h1 : c≤9223372036854775807) : Calls Tryz.prog 9 #[.int .i64 c] w fun e w'=>e=.returned (.string (pth (pthN c)))∧Below w.heap.size w w':=by
 have HP : Hid (∀ w,Calls Tryz.prog 11 #[.int .i64 c,.int .i64 6] w fun e w'=>e=.returned (.int .i64 (absZ c % 6))∧w'=w):=fun w=>pick_any c 6 w h0 h1 (by omega) (by omega)
 have HN : Hid (pthN c=(absZ c % 6).toNat):=rfl
 have hb : 0≤absZ c % 6∧absZ c % 6<6:=by omega
 generalize pthN c=pn at *
 obtain ⟨m,hm⟩ : ∃ m,absZ c % 6=m:=⟨_,rfl⟩
 rw [hm] at HP HN hb
 clear hm h0 h1
 obtain h | h | h | h | h | h : m=0∨m=1∨m=2∨m=3∨m=4∨m=5:=by omega
 all_goals
  subst h
  have hn:=HN.out
  simp at hn
  subst hn
  clear HN hb
  go_enter Tryz.func9,Tryz.ntmps9
  go_wp2_with fail
  refine (HP.out _).mono ?_
  rintro e w2 ⟨rfl,rfl⟩
  go_wp2_with fail
  go_ret
  exact ⟨rfl,(Below.refl _ _).alloc (Nat.le_refl _) _⟩
end Go.Proofs.YtknakfpciccoaabGreatDoor
/- Small values; the values that paths lead to in the statements' documents; lists of numbers. -/
namespace Go.Proofs.YtknakfpciccoaabGreatDoor
open Go.RowKit
structure Sm (b : T) : Prop where
 good : Good 11 b
 bytes : bytesT 11 b≤100
 fit : FitT 4 b
 can : canT 11 b=b
 wr : (wrT 11 b).length≤200
def smB (b : T) : Bool:=(chkT 11 b 100).isSome && fitB 4 b && decide ((wrT 11 b).length≤200)
theorem smB_sm {b : T} (h : smB b=true) (hc : canT 11 b=b) : Sm b:=by
 unfold smB at h
 simp only [Bool.and_eq_true,decide_eq_true_eq] at h
 obtain ⟨⟨h1,h2⟩,h3⟩:=h
 rcases chk_says 11 b 100 (by omega) with ⟨_,h4,h5⟩ | ⟨h4,_⟩
 ·exact ⟨h4,by omega,fitB_fit 4 b h2,hc,h3⟩
 ·rw [h4] at h1; cases h1
def stB : ByteArray:=⟨#[98]⟩
def st0 : ByteArray:=⟨#[48]⟩
def st1 : ByteArray:=⟨#[49]⟩
def byL : List T:=(List.range 36).map tv ++ ((List.range 36).map (fun i=>orNull [stB] (tv i)) ++ ((List.range 36).map (fun i=>orNull [st1] (tv i)) ++ ((List.range 36).map (fun i=>orNull [st0] (tv i)) ++ [nullT])))
set_option maxRecDepth 100000 in
theorem byL_sm : byL.all smB=true:=by kernel_rfl
set_option maxRecDepth 100000 in
theorem byL_can : byL.map (canT 11)=byL:=by kernel_rfl
theorem byL_all {b : T} (h : b ∈ byL) : Sm b:=by
 refine smB_sm (List.all_eq_true.1 byL_sm b h) ?_
 obtain ⟨i,hi,rfl⟩:=List.getElem_of_mem h
 have:=congrArg (fun l=>l[i]?) byL_can
 simp only [List.getElem?_map,List.getElem?_eq_getElem hi,Option.map_some,Option.some.injEq] at this
 exact this
theorem tv_by {i : Nat} (h : i<36) : tv i ∈ byL:=by
 unfold byL
 rw [List.mem_append]
 exact .inl (List.mem_map_of_mem (List.mem_range.2 h))
theorem b_by {i : Nat} (h : i<36) : orNull [stB] (tv i) ∈ byL:=by
 unfold byL
 rw [List.mem_append,List.mem_append]
 exact .inr (.inl (List.mem_map.2 ⟨i,List.mem_range.2 h,rfl⟩))
theorem one_by {i : Nat} (h : i<36) : orNull [st1] (tv i) ∈ byL:=by
 unfold byL
 rw [List.mem_append,List.mem_append,List.mem_append]
 exact .inr (.inr (.inl (List.mem_map.2 ⟨i,List.mem_range.2 h,rfl⟩)))
theorem zero_by {i : Nat} (h : i<36) : orNull [st0] (tv i) ∈ byL:=by
 unfold byL
 rw [List.mem_append,List.mem_append,List.mem_append,List.mem_append]
 exact .inr (.inr (.inr (.inl (List.mem_map.2 ⟨i,List.mem_range.2 h,rfl⟩))))
theorem null_by : nullT ∈ byL:=by
 unfold byL
 rw [List.mem_append,List.mem_append,List.mem_append,List.mem_append]
 exact .inr (.inr (.inr (.inr (List.mem_singleton.2 rfl))))
theorem nT_sm {n : Int} (h0 : -9223372036854775808≤n) (h1 : n≤9223372036854775807) : Sm (nT n) :=
 ⟨nT_good n 11,by rw [nT_bytes]; omega,⟨(nT_fit h0 h1).1,fun i hi=>absurd hi (Nat.not_lt_zero i),fun i hi=>absurd hi (Nat.not_lt_zero i)⟩,rfl,by rw [nT_wr]; have:=Lib.itoa_length_le n h0 h1; omega⟩
def stI : ByteArray:=⟨#[95,105,100]⟩
def stA : ByteArray:=⟨#[97]⟩
def stC : ByteArray:=⟨#[99]⟩
theorem from_id (r : List ByteArray) (id : Int) (i : Nat) (o : Option Nat) : fromP (stI :: r) (docT id i o)=fromP r (nT id):=by cases o <;> kernel_rfl
theorem from_a (r : List ByteArray) (id : Int) (i : Nat) (o : Option Nat) : fromP (stA :: r) (docT id i o)=fromP r (tv i):=by cases o <;> kernel_rfl
theorem from_c (r : List ByteArray) (id : Int) (i j : Nat) : fromP (stC :: r) (docT id i (some j))=fromP r (tv j):=by kernel_rfl
theorem from_c0 (r : List ByteArray) (id : Int) (i : Nat) : fromP (stC :: r) (docT id i none)=none:=by kernel_rfl
def pthP (k : Nat) : List ByteArray:=[[stA],[stC],[stA,stB],[stA,st1],[stI],[stC,st0]].getD k []
theorem pth_split : (List.range 6).map (fun k=>splitP (pth k))=(List.range 6).map pthP:=by kernel_rfl
theorem pth_splits {k : Nat} (h : k<6) : splitP (pth k)=pthP k:=by
 have:=congrArg (fun l=>l[k]?) pth_split
 simpa [h] using this
theorem pth_okB : ((List.range 6).all fun k=>pathOk (pth k))=true:=by kernel_rfl
theorem pth_ok {k : Nat} (h : k<6) : pathOk (pth k)=true:=List.all_eq_true.1 pth_okB k (List.mem_range.2 h)
theorem orNull_id (id : Int) (i : Nat) (o : Option Nat) : orNull [stI] (docT id i o)=nT id:=by
 unfold orNull
 rw [from_id]
 rfl
theorem by_sm {k : Nat} (hk : k<6) {id : Int} {i : Nat} {o : Option Nat} (h0 : 0≤id) (h1 : id<30) (hi : i<36) (ho : ∀ j,o=some j→j<36) : Sm (orNull (pthP k) (docT id i o)):=by
 match k,hk with
 | 0,_ =>
  show Sm (orNull [stA] (docT id i o))
  unfold orNull
  rw [from_a]
  exact byL_all (tv_by hi)
 | 1,_ =>
  show Sm (orNull [stC] (docT id i o))
  unfold orNull
  cases o with
  | none=>rw [from_c0]; exact byL_all null_by
  | some j=>rw [from_c]; exact byL_all (tv_by (ho j rfl))
 | 2,_ =>
  show Sm (orNull [stA,stB] (docT id i o))
  unfold orNull
  rw [from_a]
  exact byL_all (b_by hi)
 | 3,_ =>
  show Sm (orNull [stA,st1] (docT id i o))
  unfold orNull
  rw [from_a]
  exact byL_all (one_by hi)
 | 4,_ =>
  show Sm (orNull [stI] (docT id i o))
  rw [orNull_id]
  exact nT_sm (by omega) (by omega)
 | 5,_ =>
  show Sm (orNull [stC,st0] (docT id i o))
  unfold orNull
  cases o with
  | none=>rw [from_c0]; exact byL_all null_by
  | some j=>rw [from_c]; exact byL_all (zero_by (ho j rfl))
def numsT (is : List Int) : T:=mkT 5 0 ByteArray.empty (is.map nT) []
theorem nums_elt (is : List Int) {k : Nat} (h : k<is.length) : elt (numsT is) k=nT is[k]:=by
 unfold numsT
 rw [elt_mk,List.getD_eq_getElem?_getD,List.getElem?_map,List.getElem?_eq_getElem h]
 rfl
theorem nums_nL (is : List Int) : nL (numsT is)=is.length:=by unfold numsT; rw [nL_mk,List.length_map]
def in64 (n : Int) : Prop:=-9223372036854775808≤n∧n≤9223372036854775807
theorem nums_good (is : List Int) (m : Nat) : Good (m+1) (numsT is) :=
 .inr ⟨rfl,noText_mk _ _ _ _,fun i hi=>by rw [nums_nL] at hi; rw [nums_elt is hi]; exact nT_good _ m,.inl ⟨rfl,rfl⟩⟩
theorem nums_sum (is : List Int) : ∀ k,k≤is.length→sumL (bytesT 10) (numsT is) k=9 * k
 | 0,_=>rfl
 | k+1,h=>by
  have e : bytesT 10 (nT is[k])=9:=by kernel_rfl
  rw [sumL,nums_sum is k (by omega),nums_elt is (by omega),e]
  omega
theorem nums_bytes (is : List Int) : bytesT 11 (numsT is)=5+9 * is.length:=by
 have e : bytesT 11 (numsT is)=5+sumL (bytesT 10) (numsT is) (nL (numsT is)):=rfl
 rw [e,nums_nL,nums_sum is _ (Nat.le_refl _)]
theorem fits_small5 (is : List Int) (hn : is.length≤100) : Fits (numsT is) :=
 ⟨by show (-9223372036854775808 : Int)≤5; omega,by show (5 : Int)≤9223372036854775807; omega,by show (-9223372036854775808 : Int)≤0; omega,by show (0 : Int)≤9223372036854775807; omega,by show (0 : Nat)≤_; omega,by rw [nums_nL]; omega,by show (0 : Nat)≤_; omega⟩
theorem nums_fit {is : List Int} (hn : is.length≤100) (h : ∀ x ∈ is,in64 x) : FitT 4 (numsT is):=by
 refine ⟨fits_small5 is hn,fun i hi=>?_,fun i hi=>absurd hi (Nat.not_lt_zero i)⟩
 rw [nums_nL] at hi
 rw [nums_elt is hi]
 have:=h is[i] (List.getElem_mem hi)
 exact nT_fit this.1 this.2
theorem nums_can (is : List Int) : canT 11 (numsT is)=numsT is:=by
 show mkT 5 0 ByteArray.empty ((is.map nT).map (canT 10)) []=_
 rw [List.map_map]
 rfl
theorem nums_join {is : List Int} (h : ∀ x ∈ is,in64 x) : ∀ k,k≤is.length→(joinL (wrT 10) (numsT is) k).length≤22 * k
 | 0,_=>Nat.le_refl _
 | k+1,hk=>by
  have h1:=nums_join h k (by omega)
  have h2:=h is[k] (List.getElem_mem (by omega))
  have h3:=Lib.itoa_length_le is[k] h2.1 h2.2
  have e : wrT 10 (nT is[k])=Lib.itoa is[k]:=by
   rw [wrT_leaf (by show (3 : Int)≠5; decide) (by show (3 : Int)≠6; decide)]
   rfl
  rw [joinL,nums_elt is (by omega),e,List.length_append,List.length_append]
  by_cases e0 : k=0
  ·rw [if_pos e0]
   simp only [List.length_nil]
   omega
  ·rw [if_neg e0]
   simp only [List.length_cons,List.length_nil]
   omega
theorem nums_wr {is : List Int} (h : ∀ x ∈ is,in64 x) : (wrT 11 (numsT is)).length≤2+22 * is.length:=by
 have e : wrT 11 (numsT is)=91 :: (joinL (wrT 10) (numsT is) (nL (numsT is)) ++ [93]):=rfl
 have:=nums_join h is.length (Nat.le_refl _)
 rw [e,nums_nL,List.length_cons,List.length_append]
 simp only [List.length_cons,List.length_nil]
 omega
end Go.Proofs.YtknakfpciccoaabGreatDoor
