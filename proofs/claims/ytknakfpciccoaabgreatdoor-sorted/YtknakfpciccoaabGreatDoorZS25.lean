import Derived.Test.YtknakfpciccoaabGreatDoorZS22
import Derived.Test.YtknakfpciccoaabGreatDoorZS17
import Derived.Test.YtknakfpciccoaabGreatDoorZS7
/- isName, New. -/
namespace Go.Proofs.YtknakfpciccoaabGreatDoor
open Go.RowKit Go.Maps Go.WideMaps
def nmB (z:UInt8):Bool:=decide (97≤z.toNat)&&decide (z.toNat≤122)
def isNm (s:ByteArray):Bool:=s.data.toList.all nmB&&(decide ((1:Int)≤(s.size:Int))&&decide ((s.size:Int)≤12))
theorem nm_bad {s:ByteArray} {k:Nat} {z:UInt8} (h:s.data.toList[k]?=some z) (hz:nmB z=false):isNm s=false:=by
 have:s.data.toList.all nmB=false:=by
  rw [List.all_eq_false]
  exact ⟨z,List.mem_of_getElem? h,by rw [hz];simp⟩
 unfold isNm
 rw [this]
 rfl
theorem nm_more {l:List UInt8} {k:Nat} {z:UInt8} (h:l[k]?=some z) (hz:nmB z=true) (ha:(l.take k).all nmB=true):(l.take (k+1)).all nmB=true:=by
 rw [List.take_add_one,h,List.all_append,ha]
 simp [hz]
set_option maxHeartbeats 4000000 in
set_option maxRecDepth 100000 in
theorem isName_any (s:ByteArray) (w:World) (hs:s.size≤140737488355328):Calls Tryz.prog 35 #[.string s] w fun e w'=>e=.returned (.bool (isNm s))∧w'=w:=by
 go_enter Tryz.func35,Tryz.ntmps35
 go_wp2_with fail
 go_loopg [6] (s.size) (fun g i wr=>∃ k:Nat,g=s.size - k∧k≤s.size∧i=.int .i64 k∧wr=w∧Hid ((s.data.toList.take k).all nmB=true))
 case atStart=>exact ⟨0,rfl,Nat.zero_le _,rfl,rfl,rfl⟩
 case round =>
  obtain ⟨k,rfl,hk,rfl,rfl,HN⟩:=hrel
  by_cases hlt:k<s.size
  ·obtain ⟨z,hz⟩:∃ z:UInt8,s[k]'hlt=z:=⟨_,rfl⟩
   have HZ:Hid (s.data.toList[k]?=some z):=by show _=_;rw [Array.getElem?_toList];exact get_some hlt hz
   have x1:(k:Int)<(s.size:Int):=by omega
   have lz:z.toNat<256:=z.toNat_lt
   by_cases h1:z.toNat<97
   ·have y1:(z.toNat:Int)<97:=by omega
    have HR:Hid (isNm s=false):=nm_bad HZ.out (by unfold nmB;rw [decide_eq_false (p:=97≤z.toNat) (by omega)];rfl)
    clear h1
    go_wp2_with fail
    go_ret
    exact ⟨ret_bool (by rw [HR.out]),rfl⟩
   ·have y1:¬ (z.toNat:Int)<97:=by omega
    by_cases h2:122<z.toNat
    ·have y2:(122:Int)<(z.toNat:Int):=by omega
     have HR:Hid (isNm s=false):=nm_bad HZ.out (by unfold nmB;rw [decide_eq_false (p:=z.toNat≤122) (by omega)];simp)
     clear h1 h2
     go_wp2_with fail
     go_ret
     exact ⟨ret_bool (by rw [HR.out]),rfl⟩
    ·have y2:¬ (122:Int)<(z.toNat:Int):=by omega
     have HM:=hid (nm_more HZ.out (by unfold nmB;rw [decide_eq_true (p:=97≤z.toNat) (by omega),decide_eq_true (p:=z.toNat≤122) (by omega)];rfl) HN.out)
     clear h1 h2
     go_wp2_with fail
     go_roundg (s.size - (k+1))
     case rel=>exact ⟨k+1,rfl,by omega,by go_num,rfl,HM⟩
     case measure=>omega
  ·obtain rfl:k=s.size:=by omega
   have HA:Hid (s.data.toList.all nmB=true):=by
    show _=_
    have:=HN.out
    rwa [List.take_of_length_le (by rw [Array.length_toList];exact Nat.le_refl _)] at this
   by_cases h1:1≤s.size
   ·have y1:(1:Int)≤(s.size:Int):=by omega
    have HR:Hid (isNm s=decide ((s.size:Int)≤12)):=by show _=_;unfold isNm;rw [HA.out,decide_eq_true y1];rfl
    go_wp2_with fail
    go_ret
    exact ⟨ret_bool (by rw [HR.out]),rfl⟩
   ·have y1:¬ (1:Int)≤(s.size:Int):=by omega
    have HR:Hid (isNm s=false):=by show _=_;unfold isNm;rw [HA.out,decide_eq_false y1];rfl
    go_wp2_with fail
    go_ret
    exact ⟨ret_bool (by rw [HR.out]),rfl⟩
set_option maxHeartbeats 4000000 in
set_option maxRecDepth 100000 in
theorem new_any (w:World):Calls Tryz.prog 18 #[] w fun e w'=>e=.returned (.pointer (some ⟨w.heap.size+1,0,none⟩))∧w'=(w.alloc (.map #[] 0)).alloc (.cells #[.map (some w.heap.size)] 76):=by
 have hmk:∀ (w:World),(Instr.makeMap 74 none).run Tryz.prog w=.ok (.map (some w.heap.size)) (w.alloc (.map #[] 0)):=fun w=>run_makeMap _ w
 go_enter Tryz.func18,Tryz.ntmps18
 go_wp2_with fail
 go_ret
 exact ⟨rfl,rfl⟩
end Go.Proofs.YtknakfpciccoaabGreatDoor
/- insert. -/
namespace Go.Proofs.YtknakfpciccoaabGreatDoor
open Go.RowKit
set_option maxHeartbeats 4000000 in
set_option maxRecDepth 100000 in
theorem insert_any (c f:Nat) (t:T) (l:List T) (v:Value) (xs:List Value) (A C:Option Addr) (B D:Nat) (w:World) (h:Col w c f l v xs) (hf:f≤16) (hn:l.length≤1000000) (hd:∀ i,(h:i<l.length)→Doc l[i]) (ha:At w f (.agg #[.int .i64 (kindOf t),.int .i64 (nOf t),.string (sOf t),.slice A (nL t) B,.slice C (nK t) D]) t) (ht:Doc t) :
  Calls Tryz.prog 38 #[.pointer (some ⟨c,0,none⟩),.agg #[.int .i64 (kindOf t),.int .i64 (nOf t),.string (sOf t),.slice A (nL t) B,.slice C (nK t) D]] w (InsPost w c t l v xs [.int .i64 (kindOf t),.int .i64 (nOf t),.string (sOf t),.slice A (nL t) B,.slice C (nK t) D]):=by
 obtain ⟨iV,hiV,zV0,zV1,zV2⟩:=info_parts infoV
 obtain ⟨hot,k,hk,hkl⟩:=ht
 have HB1:Hid (Below w.heap.size w (w.alloc (.cells #[.int .i64 (kindOf t),.int .i64 (nOf t),.string (sOf t),.slice A (nL t) B,.slice C (nK t) D] 36))):=(Below.refl _ _).alloc (Nat.le_refl _) _
 have HBx:=hid (box_new w (.int .i64 (kindOf t)) (.int .i64 (nOf t)) (.string (sOf t)) (.slice A (nL t) B) (.slice C (nK t) D))
 have HI:=hid (idOf_any _ _ t k _ (ha.keep HB1.out) hk hkl)
 have Hid1:Hid (idT t=elt t k):=by show _=_;unfold idT;rw [hk];rfl
 have HCol:=hid h
 have HH:Hid (∀ (w':World) (gx:Nat) (vx:Value),Below w.heap.size w w'→At w' gx vx (elt t k)→Calls Tryz.prog 60 #[.pointer (some ⟨c,0,none⟩),vx] w' fun e w2=>e=.returned (.bool (anyL (sameId (idT t)) (mkT 5 0 ByteArray.empty l []) l.length))∧Below w'.heap.size w' w2):=fun w' gx vx hb hx=>by
  obtain ⟨La,Lc,rfl,hel⟩:=(h.keep hb).elems
  have hc:=(h.keep hb).cell
  have e:=Hid1.out
  rw [e]
  exact hasID_any c f gx (mkT 5 0 ByteArray.empty l []) (elt t k) La Lc vx w' hc (h.keep hb).low hel (by rw [nL_mk];exact hn) hf (fun i hi=>by
   rw [nL_mk] at hi
   have e:elt (mkT 5 0 ByteArray.empty l []) i=l[i]:=by rw [elt_mk,List.getD_eq_getElem?_getD,List.getElem?_eq_getElem hi];rfl
   rw [e]
   exact hd i hi) hx (hot.elt hkl)
 clear h ha hot hk hkl hd Hid1
 go_enter Tryz.func38,Tryz.ntmps38
 go_wp2_with fail
 refine HI.out.mono ?_
 rintro e w2 ⟨b2,g',A2,B2,C2,D2,hg2,rfl,ha2⟩
 have HB2:=hid (HB1.out.trans (b2.mono HB1.out.size))
 have HX2:=hid (HBx.out.stay b2)
 have HC:=hid (HH.out w2 g' _ HB2.out ha2)
 clear b2 ha2 hg2 HI HH
 cases hany:anyL (sameId (idT t)) (mkT 5 0 ByteArray.empty l []) l.length with
 | true =>
  rw [hany] at HC
  have Hany:=hid hany
  clear hany
  go_wp2_with fail
  refine HC.out.mono ?_
  rintro e w3 ⟨rfl,b3⟩
  have HB3:=hid (HB2.out.trans (b3.mono HB2.out.size))
  clear b3 HC
  go_wp2_with fail
  go_ret
  exact .inl ⟨HB3.out,Hany.out,rfl⟩
 | false =>
  rw [hany] at HC
  have Hany:=hid hany
  clear hany
  go_wp2_with fail
  refine HC.out.mono ?_
  rintro e w3 ⟨rfl,b3⟩
  have HB3:=hid (HB2.out.trans (b3.mono HB2.out.size))
  have HX3:=hid (HX2.out.stay b3)
  have HC3:=hid (HCol.out.keep HB3.out)
  obtain ⟨La,Lc,rfl⟩:=own_shape HC3.out.row
  have hc0:=HC3.out.cell
  clear b3 HC HX2 HBx HB1 HCol
  by_cases h60:60≤l.length
  ·have e60:(60:Int)≤(l.length:Int):=by omega
   go_wp2_with fail
   go_ret
   exact .inr (.inl ⟨HB3.out,Hany.out,h60,rfl⟩)
  ·have e60:¬ (60:Int)≤(l.length:Int):=by omega
   have HA3:Hid (Below w3.heap.size w3 (w3.alloc (.cells #[.int .i64 0,.int .i64 0,.string ⟨#[]⟩,.slice none 0 0,.slice none 0 0] 36))):=(Below.refl _ _).alloc (Nat.le_refl _) _
   have HC3a:=hid (HC3.out.keep HA3.out)
   have HX3a:=hid (HX3.out.stay HA3.out)
   have HC4:=hid (HC3a.out.keep (below_drew _))
   have HX4:=hid (HX3a.out.stay (below_drew _))
   have hc0a:=HC3a.out.cell
   have hnn:(l.length:Int)<(l.length:Int)+1:=by omega
   have HXl:Hid (xs.length=l.length*5):=HC3.out.row.1
   have HGc:Hid (∀ g,((Value.slice La l.length Lc).ownBlock=some g∨g=w3.heap.size+1)→g≠c):=fun g hg e=>by
    subst e
    rcases hg with hg | hg
    ·exact HC3.out.apart hg
    ·have:=HC3.out.low;omega
   have r0:=HX3.out.q0
   have r1:=HX3.out.q1
   have r2:=HX3.out.q2
   have r3:=HX3.out.q3
   have r4:=HX3.out.q4
   have ra0:=HX3a.out.q0
   have ra1:=HX3a.out.q1
   have ra2:=HX3a.out.q2
   have ra3:=HX3a.out.q3
   have ra4:=HX3a.out.q4
   go_wp2_with fail
   go_region_law (refine step_append_lies _ (by rfl) _ _ _ (by rfl) 0 36 iV _ 5 80 Tryz.underlying34 hiV zV0 zV1 zV2 rfl (by omega) (.slice La l.length Lc) l.length xs (by rfl) HC4.out.row ⟨w3.heap.size,0,none⟩ 1 1 [.int .i64 0,.int .i64 0,.string ⟨#[]⟩,.slice none 0 0,.slice none 0 0] (by rfl) (by rfl) (World.news_of_block (cs:=#[.int .i64 0,.int .i64 0,.string ⟨#[]⟩,.slice none 0 0,.slice none 0 0]) (t:=36) (fr:=(0,0)) (heap_alloc_new w3 _)) (by simp [Value.oneCell']) (by omega) (by unfold maxLen;omega) (by omega) (Nat.zero_le _) (w3.heap.size+1) (by simp) ?_;intro g cap w6 hown6 hgrow6 hat6 hlt6;have hgc:g≠c:=HGc.out g hat6;have hcg:c≠g:=fun e=>hgc e.symm;have HB6:=hid (hgrow6.block c HC4.out.low (fun e=>HC4.out.apart e.symm));have c6:=(cell_of HB6.out 0).trans HC4.out.cell;have f6:=(World.frozen?_of_block (a:=⟨c,0,none⟩) HB6.out).trans HC4.out.free;have y0:w6.cell? ⟨g,l.length*5,none⟩=some (.int .i64 0):=new_cell hown6 HXl.out 0 (by omega) rfl;have z0:w6.frozen? ⟨g,l.length*5,none⟩=false:=hown6.frozenAt _;have y1:w6.cell? ⟨g,l.length*5+1,none⟩=some (.int .i64 0):=new_cell hown6 HXl.out 1 (by omega) rfl;have z1:w6.frozen? ⟨g,l.length*5+1,none⟩=false:=hown6.frozenAt _;have y2:w6.cell? ⟨g,l.length*5+2,none⟩=some (.string ⟨#[]⟩):=new_cell hown6 HXl.out 2 (by omega) rfl;have z2:w6.frozen? ⟨g,l.length*5+2,none⟩=false:=hown6.frozenAt _;have y3:w6.cell? ⟨g,l.length*5+3,none⟩=some (.slice none 0 0):=new_cell hown6 HXl.out 3 (by omega) rfl;have z3:w6.frozen? ⟨g,l.length*5+3,none⟩=false:=hown6.frozenAt _;have y4:w6.cell? ⟨g,l.length*5+4,none⟩=some (.slice none 0 0):=new_cell hown6 HXl.out 4 (by omega) rfl;have z4:w6.frozen? ⟨g,l.length*5+4,none⟩=false:=hown6.frozenAt _)
   all_goals
    have HF:=hid (InsF.mk (w:=w) (lt:=HC3.out.row.1) hown6 hgrow6 ((HB3.out.trans (HA3.out.mono HB3.out.size)).drew) (hat6.imp id (fun e=>by have:=HB3.out.size;omega)) c6 f6 hgc HC3.out.apart)
    clear hown6 hgrow6 hat6 hlt6 y0 y1 y2 y3 y4 z0 z1 z2 z3 z4 c6 f6 hgc hcg HB6
    go_wp2_with fail
    go_ret
    have HFA:=hid (HF.out.finA (.int .i64 (kindOf t)) (.int .i64 (nOf t)) (.string (sOf t)) (.slice A (nL t) B) (.slice C (nK t) D))
    have HFB:=hid (HF.out.finB (.int .i64 (kindOf t)) (.int .i64 (nOf t)) (.string (sOf t)) (.slice A (nL t) B) (.slice C (nK t) D))
    unfold put5o at HFA HFB
    unfold InsPost
    refine .inr (.inr ⟨?_,Hany.out,by omega,rfl,g,cap,?_⟩)
    ·first | with_reducible exact HFA.out.1 | with_reducible exact HFB.out.1
    ·first | with_reducible exact HFA.out.2 | with_reducible exact HFB.out.2
end Go.Proofs.YtknakfpciccoaabGreatDoor
/- Create. -/
namespace Go.Proofs.YtknakfpciccoaabGreatDoor
open Go.RowKit Go.Maps Go.WideMaps
def keyN (x:ByteArray):Lit:=.string x.data.toList
def CreOk (w:World) (p m n:Nat) (D:DataW Unit) (x:ByteArray) (w':World):Prop :=
 ∃ c:Nat,w.heap.size≤c∧c<w'.heap.size∧StoAt w' p m (n+1) (D.put (keyN x) (.lit (.int .i64 c)))∧w'.cell? ⟨c,0,none⟩=some (.slice none 0 0)∧w'.frozen? ⟨c,0,none⟩=false∧But2 m none w w'
theorem cre_fin {w W w':World} {p m n:Nat} {D:DataW Unit} {x:ByteArray} {c:Nat} (hst:StoAt w p m n D) (hpm:p≠m) (hB:Below w.heap.size w W) (hc:w.heap.size≤c) (hcl:c<W.heap.size) (c0:W.cell? ⟨c,0,none⟩=some (.slice none 0 0)) (f0:W.frozen? ⟨c,0,none⟩=false)
  (hown:w'.ownsMap Tryz.prog 9 refR m (n+1) (D.put (keyN x) (.lit (.int .i64 c)))) (hG:W.grownBy w' (some m)):CreOk w p m n D x w':=by
 have hml:=hst.own.lt
 have hs:=hG.size
 have hs2:=hB.size
 have hp:=hst.low
 have hpb:w'.heap[p]?=w.heap[p]?:=(hG.block p (by omega) (by simpa using hpm)).trans (hB.block p hp)
 have hcb:w'.heap[c]?=W.heap[c]?:=hG.block c hcl (by simp;omega)
 exact ⟨c,hc,by omega,⟨(cell_of hpb 0).trans hst.cell,by omega,hown⟩,(cell_of hcb 0).trans c0,(World.frozen?_of_block (a:=⟨c,0,none⟩) hcb).trans f0,hG.os.trans hB.os,hG.tape.trans hB.tape,hG.output.trans hB.output,by omega,fun b hb h1 _=>(hG.block b (by omega) (by simpa using h1)).trans (hB.block b hb)⟩
def CrePost (w:World) (p m n:Nat) (D:DataW Unit) (x:ByteArray) (e:Ending) (w':World):Prop :=
 (isNm x=false∧e=.returned (.int .i64 10)∧w'=w)∨(isNm x=true∧(∃ c:Nat,atK D x=.lit (.int .i64 c))∧e=.returned (.int .i64 11)∧w'=w)∨(isNm x=true∧atK D x=.nil∧6≤Maps.size D∧e=.returned (.int .i64 12)∧w'=w) ∨
 (isNm x=true∧atK D x=.nil∧Maps.size D<6∧e=.returned (.int .i64 0)∧CreOk w p m n D x w')
set_option maxHeartbeats 4000000 in
set_option maxRecDepth 100000 in
theorem create_any (p m n:Nat) (D:DataW Unit) (x:ByteArray) (w:World) (hx:x.size≤140737488355328) (hn:n≤1000000) (hst:StoAt w p m n D) (hpm:p≠m) :
  Calls Tryz.prog 19 #[.pointer (some ⟨p,0,none⟩),.string x] w (CrePost w p m n D x):=by
 have HI:=hid (isName_any x w hx)
 have HSt:=hid hst
 have Hpm:=hid hpm
 cases hnm:isNm x with
 | false =>
  rw [hnm] at HI
  have Hn:=hid hnm
  clear hnm hst hpm
  go_enter Tryz.func19,Tryz.ntmps19
  go_wp2_with fail
  refine HI.out.mono ?_
  rintro e w2 ⟨rfl,rfl⟩
  go_wp2_with fail
  go_ret
  exact .inl ⟨Hn.out,rfl,rfl⟩
 | true =>
  rw [hnm] at HI
  have Hn:=hid hnm
  have c0:=hst.cell
  have hlen:∀ ty,(Builtin.len_ #[74] ty #[.map (some m)]).run Tryz.prog w=.ok (.int .i64 (Maps.size D)) w:=fun ty=>hst.own.len Tryz.underlying74 ty
  clear hnm hpm
  rcases hst.look x hx with ⟨hrun,hat⟩ | ⟨c,hrun,hat⟩
  ·have HAt:=hid hat
   clear hat hst
   by_cases h6:6≤Maps.size D
   ·have y6:(6:Int)≤(Maps.size D:Int):=by omega
    have H6:=hid h6
    clear h6
    go_enter Tryz.func19,Tryz.ntmps19
    go_wp2_with fail
    refine HI.out.mono ?_
    rintro e w2 ⟨rfl,rfl⟩
    go_wp2_with fail
    go_ret
    exact .inr (.inr (.inl ⟨Hn.out,HAt.out,H6.out,rfl,rfl⟩))
   ·have y6:¬ (6:Int)≤(Maps.size D:Int):=by omega
    have H6:=hid (Nat.lt_of_not_le h6)
    clear h6
    go_enter Tryz.func19,Tryz.ntmps19
    go_wp2_with fail
    refine HI.out.mono ?_
    rintro e w2 ⟨rfl,rfl⟩
    go_wp2_with fail
    have HAl:Hid (Below w2.heap.size w2 (w2.alloc (.cells #[.slice none 0 0] 61))):=(Below.refl _ _).alloc (Nat.le_refl _) _
    have HSd:=hid (HSt.out.keep (below_drew _))
    have HSa:=hid ((HSt.out.keep HAl.out).keep (below_drew _))
    have c0a:=(HSt.out.keep HAl.out).cell
    have HBd:=hid (below_drew w2)
    have HBa:=hid HAl.out.drew
    have hkey:keyOf Tryz.prog 9 (.string x)=some (keyN x):=keyOf_string_mk Tryz.underlying9 (by unfold maxLen;omega)
    have Hkey:=hid hkey
    clear hkey hrun hlen HI
    go_region_law (go_simp;go_wp2_with (go_at_call 36;refine (clone_any x _ hx).mono ?_;rintro e w3 ⟨rfl,b3⟩;have HS3:Hid (StoAt w3 p m n D):=(by first | exact HSd.out.keep b3 | exact HSa.out.keep b3);have HB3:Hid (Below w2.heap.size w2 w3):=(by first | exact HBd.out.trans (b3.mono HBd.out.size) | exact HBa.out.trans (b3.mono HBa.out.size));have c3:=HS3.out.cell;have c3a:=(HS3.out.keep ((Below.refl w3.heap.size w3).alloc (Nat.le_refl _) (.cells #[.slice none 0 0] 61))).cell;obtain ⟨w6,hrun6,hown6,hG6⟩:=HS3.out.own.update law9 Tryz.underlying74 (by unfold maxLen;omega) (val:=.pointer (some ⟨w2.heap.size,0,none⟩)) (d:=.lit (.int .i64 (w2.heap.size:Nat))) (ps:=[]) Hkey.out rfl;obtain ⟨w7,hrun7,hown7,hG7⟩:=(HS3.out.own.alloc (.cells #[.slice none 0 0] 61)).update law9 Tryz.underlying74 (by unfold maxLen;omega) (val:=.pointer (some ⟨w3.heap.size,0,none⟩)) (d:=.lit (.int .i64 (w3.heap.size:Nat))) (ps:=[]) Hkey.out rfl))
    all_goals
     have HF:Hid (CreOk w2 p m n D x w7):=cre_fin HSt.out Hpm.out (HB3.out.alloc HB3.out.size (.cells #[.slice none 0 0] 61)) HB3.out.size (by simp) (by simp [go_sem]) (by simp [go_sem]) hown7 hG7
     have HG:Hid (w2.heap.size<w3.heap.size→w3.cell? ⟨w2.heap.size,0,none⟩=some (.slice none 0 0)→w3.frozen? ⟨w2.heap.size,0,none⟩=false→CreOk w2 p m n D x w6):=fun k1 k2 k3=>cre_fin HSt.out Hpm.out HB3.out (Nat.le_refl _) k1 k2 k3 hown6 hG6
     have HJ:=hid b3
     clear hown6 hG6 hrun6 hown7 hG7 hrun7 b3 c3 c3a HS3 HB3
     go_wp2_with fail
     go_ret
     first
      | exact .inr (.inr (.inr ⟨Hn.out,HAt.out,H6.out,rfl,HF.out⟩))
      | exact .inr (.inr (.inr ⟨Hn.out,HAt.out,H6.out,rfl,HG.out (Nat.lt_of_lt_of_le (by simp) HJ.out.size) ((HJ.out.cell (p:=⟨w2.heap.size,0,none⟩) (by simp)).trans (by simp [go_sem])) ((HJ.out.frozen (p:=⟨w2.heap.size,0,none⟩) (by simp)).trans (by simp [go_sem]))⟩))
  ·have HAt:=hid hat
   clear hat hst
   go_enter Tryz.func19,Tryz.ntmps19
   go_wp2_with fail
   refine HI.out.mono ?_
   rintro e w2 ⟨rfl,rfl⟩
   go_wp2_with fail
   go_ret
   exact .inr (.inl ⟨Hn.out,⟨c,HAt.out⟩,rfl,rfl⟩)
end Go.Proofs.YtknakfpciccoaabGreatDoor
/- Insert. -/
namespace Go.Proofs.YtknakfpciccoaabGreatDoor
open Go.RowKit Go.Maps Go.WideMaps
def inErr (s:ByteArray):Option Int:=if eJ s≠0 then some (eJ s) else if isDoc (tJ s)=false then some 7 else if tooBig (tJ s)=true then some 15 else none
def InPost (w:World) (x s:ByteArray) (Dm:DataW Unit) (lf:Nat→List T) (vf:Nat→Value) (xf:Nat→List Value) (e:Ending) (w':World):Prop :=
 (Below w.heap.size w w'∧∃ er,inErr s=some er∧e=.returned (.int .i64 er)) ∨
 (Below w.heap.size w w'∧inErr s=none∧atK Dm x=.nil∧e=.returned (.int .i64 10)) ∨
 (inErr s=none∧∃ c:Nat,atK Dm x=.lit (.int .i64 c)∧∃ w1 A B C D,Below w.heap.size w w1∧AtP (newB w w1) w1 13 (.agg #[.int .i64 (kindOf (tJ s)),.int .i64 (nOf (tJ s)),.string (sOf (tJ s)),.slice A (nL (tJ s)) B,.slice C (nK (tJ s)) D]) (tJ s)∧InsPost w1 c (tJ s) (lf c) (vf c) (xf c) [.int .i64 (kindOf (tJ s)),.int .i64 (nOf (tJ s)),.string (sOf (tJ s)),.slice A (nL (tJ s)) B,.slice C (nK (tJ s)) D] e w')
theorem InsPost.shape {w:World} {c:Nat} {t:T} {l:List T} {v:Value} {xs cs:List Value} {e:Ending} {w':World} (h:InsPost w c t l v xs cs e w'):∃ er:Int,e=.returned (.int .i64 er):=by
 rcases h with ⟨_,_,rfl⟩ | ⟨_,_,_,rfl⟩ | ⟨_,_,_,rfl,_⟩<;>exact ⟨_,rfl⟩
set_option maxHeartbeats 4000000 in
set_option maxRecDepth 100000 in
theorem insertS_any {Tb:World→Prop} (hA:StoreSaid Tb) (p m n:Nat) (Dm:DataW Unit) (lf:Nat→List T) (vf:Nat→Value) (xf:Nat→List Value) (x s:ByteArray) (w:World) (hs:s.size≤140737488355328) (hx:x.size≤140737488355328) (hst:StoAt w p m n Dm)
  (hc:∀ c:Nat,atK Dm x=.lit (.int .i64 c)→Col w c 13 (lf c) (vf c) (xf c)∧(lf c).length≤1000000∧∀ i,(h:i<(lf c).length)→Doc (lf c)[i]) (hT:Tb w) :
  Calls Tryz.prog 21 #[.pointer (some ⟨p,0,none⟩),.string x,.string s] w (InPost w x s Dm lf vf xf):=by
 have HD:=hid (readDoc_any hA.valid hA.dec hA.int hA.lies s w hs hT)
 have Hc:=hid hc
 have HSt:=hid hst
 clear hT hc hst hA
 go_enter Tryz.func21,Tryz.ntmps21
 go_wp2_with fail
 refine HD.out.mono ?_
 rintro e w1 ⟨b1,⟨h1,rfl⟩ | ⟨h1,h2,rfl⟩ | ⟨h1,h2,h3,rfl⟩ | ⟨h1,h2,h3,A,B,C,D,rfl,ha⟩⟩
 ·have ez:(eJ s==0)=false:=by simpa using h1
  have HE:Hid (inErr s=some (eJ s)):=by show _=_;unfold inErr;rw [if_pos h1]
  have HB:=hid (b1.alloc b1.size (.cells #[.int .i64 0,.int .i64 0,.string ⟨#[]⟩,.slice none 0 0,.slice none 0 0] 36))
  unfold zeroV
  clear h1 b1 HD
  go_wp2_with fail
  go_ret
  exact .inl ⟨HB.out,_,HE.out,rfl⟩
 ·have HE:Hid (inErr s=some 7):=by show _=_;unfold inErr;rw [if_neg (by simpa using h1),if_pos h2]
  have HB:=hid (b1.alloc b1.size (.cells #[.int .i64 0,.int .i64 0,.string ⟨#[]⟩,.slice none 0 0,.slice none 0 0] 36))
  unfold zeroV
  clear h1 h2 b1 HD
  go_wp2_with fail
  go_ret
  exact .inl ⟨HB.out,_,HE.out,rfl⟩
 ·have HE:Hid (inErr s=some 15):=by show _=_;unfold inErr;rw [if_neg (by simpa using h1),if_neg (by rw [h2];simp),if_pos h3]
  have HB:=hid (b1.alloc b1.size (.cells #[.int .i64 0,.int .i64 0,.string ⟨#[]⟩,.slice none 0 0,.slice none 0 0] 36))
  unfold zeroV
  clear h1 h2 h3 b1 HD
  go_wp2_with fail
  go_ret
  exact .inl ⟨HB.out,_,HE.out,rfl⟩
 ·have HE:Hid (inErr s=none):=by show _=_;unfold inErr;rw [if_neg (by simpa using h1),if_neg (by rw [h2];simp),if_neg (by rw [h3];simp)]
  have HDoc:=hid (isDoc_doc (parsed_okA h1) h2)
  have HAl:Hid (Below w1.heap.size w1 (w1.alloc (.cells #[.int .i64 (kindOf (tJ s)),.int .i64 (nOf (tJ s)),.string (sOf (tJ s)),.slice A (nL (tJ s)) B,.slice C (nK (tJ s)) D] 36))):=(Below.refl _ _).alloc (Nat.le_refl _) _
  have HB:=hid (b1.trans (HAl.out.mono b1.size))
  have HAt:Hid (AtP (newB w (w1.alloc (.cells #[.int .i64 (kindOf (tJ s)),.int .i64 (nOf (tJ s)),.string (sOf (tJ s)),.slice A (nL (tJ s)) B,.slice C (nK (tJ s)) D] 36))) (w1.alloc (.cells #[.int .i64 (kindOf (tJ s)),.int .i64 (nOf (tJ s)),.string (sOf (tJ s)),.slice A (nL (tJ s)) B,.slice C (nK (tJ s)) D] 36)) 13 (.agg #[.int .i64 (kindOf (tJ s)),.int .i64 (nOf (tJ s)),.string (sOf (tJ s)),.slice A (nL (tJ s)) B,.slice C (nK (tJ s)) D]) (tJ s)):=ha.move HAl.out.size (fun b hb hp=>⟨⟨hp.1,Nat.lt_of_lt_of_le hb HAl.out.size⟩,HAl.out.block b hb⟩)
  have HS2:=hid (HSt.out.keep HB.out)
  have c0:=HS2.out.cell
  clear h1 h2 h3 b1 HD ha
  rcases HS2.out.look x hx with ⟨hrun,hat⟩ | ⟨c,hrun,hat⟩
  ·have HN:=hid hat
   clear hat
   go_wp2_with fail
   go_ret
   exact .inr (.inl ⟨HB.out,HE.out,HN.out,rfl⟩)
  ·obtain ⟨hcol,hn,hd⟩:=Hc.out c hat
   have HN:=hid hat
   have HIn:=hid (insert_any c 13 (tJ s) (lf c) (vf c) (xf c) A C B D _ (hcol.keep HB.out) (by omega) hn hd HAt.out.at HDoc.out)
   clear hat hcol hn hd Hc
   go_wp2_with fail
   refine HIn.out.mono ?_
   intro e w2 hi
   obtain ⟨er,rfl⟩:=hi.shape
   have HI2:=hid hi
   clear hi HIn hrun
   go_wp2_with fail
   go_ret
   exact .inr (.inr ⟨HE.out,c,HN.out,_,A,B,C,D,HB.out,HAt.out,HI2.out⟩)
end Go.Proofs.YtknakfpciccoaabGreatDoor
/- The store as a whole: what each block is for. -/
namespace Go.Proofs.YtknakfpciccoaabGreatDoor
open Go.RowKit Go.Maps Go.WideMaps
theorem StoAt.move {w w':World} {p m n:Nat} {D:DataW Unit} (h:StoAt w p m n D) (hs:w.heap.size≤w'.heap.size) (hp:w'.heap[p]?=w.heap[p]?) (hm:w'.heap[m]?=w.heap[m]?):StoAt w' p m n D:=by
 obtain ⟨es,clock,h1,F,h2,h3⟩:=h.own
 exact ⟨(cell_of hp 0).trans h.cell,Nat.lt_of_lt_of_le h.low hs,es,clock,hm.trans h1,F,h2,h3⟩
structure ColI (L:Nat→Nat) (w:World) (c:Nat) (l:List T) (v:Value) (xs:List Value):Prop where
 lab:L c=4
 cell:w.cell? ⟨c,0,none⟩=some v
 free:w.frozen? ⟨c,0,none⟩=false
 row:w.ownsRow 0 36 5 v l.length xs
 rowl:∀ b,v.ownBlock=some b→L b=5+c
 at_:∀ i,(h:i<l.length)→AtP (fun b=>L b=1) w 13 (fv xs i) l[i]
 doc:∀ i,(h:i<l.length)→Doc l[i]
theorem ColI.move {L L':Nat→Nat} {w w':World} {c:Nat} {l:List T} {v:Value} {xs:List Value} (h:ColI L w c l v xs) (hs:w.heap.size≤w'.heap.size) (hl:∀ b,L b=4∧b=c∨L b=5+c∨L b=1→L' b=L b∧w'.heap[b]?=w.heap[b]?):ColI L' w' c l v xs:=by
 obtain ⟨c1,c2⟩:=hl c (.inl ⟨h.lab,rfl⟩)
 refine ⟨c1.trans h.lab,(cell_of c2 0).trans h.cell,(World.frozen?_of_block (a:=⟨c,0,none⟩) c2).trans h.free,own_move h.row fun b e=>(hl b (.inr (.inl (h.rowl b e)))).2,fun b e=>(hl b (.inr (.inl (h.rowl b e)))).1.trans (h.rowl b e),fun i hi=>(h.at_ i hi).move hs fun b _ hp=>?_,h.doc⟩
 obtain ⟨k1,k2⟩:=hl b (.inr (.inr hp))
 exact ⟨k1.trans hp,k2⟩
structure StI (L:Nat→Nat) (w:World) (p m n:Nat) (D:DataW Unit) (lf:Nat→List T) (vf:Nat→Value) (xf:Nat→List Value):Prop where
 sto:StoAt w p m n D
 lp:L p=2
 lm:L m=3
 low:∀ b,L b≠0→b<w.heap.size
 col:∀ x c,atK D x=.lit (.int .i64 (c:Nat))→ColI L w c (lf c) (vf c) (xf c)
theorem StI.keep {L:Nat→Nat} {w w':World} {p m n:Nat} {D:DataW Unit} {lf:Nat→List T} {vf:Nat→Value} {xf:Nat→List Value} (h:StI L w p m n D lf vf xf) (hb:Below w.heap.size w w'):StI L w' p m n D lf vf xf :=
 ⟨h.sto.keep hb,h.lp,h.lm,fun b hl=>Nat.lt_of_lt_of_le (h.low b hl) hb.size,fun x c hx=>(h.col x c hx).move hb.size fun b hl=>⟨rfl,hb.block b (h.low b (by omega))⟩⟩
theorem StI.toCol {L:Nat→Nat} {w:World} {p m n:Nat} {D:DataW Unit} {lf:Nat→List T} {vf:Nat→Value} {xf:Nat→List Value} (h:StI L w p m n D lf vf xf) {x:ByteArray} {c:Nat} (hx:atK D x=.lit (.int .i64 (c:Nat))):Col w c 13 (lf c) (vf c) (xf c):=by
 have hc:=h.col x c hx
 refine ⟨hc.cell,hc.free,h.low c (by rw [hc.lab];omega),hc.row,fun e=>?_,fun i hi=>(hc.at_ i hi).at⟩
 have h1:=hc.rowl c e
 have h2:=hc.lab
 omega
theorem StI.coll {L:Nat→Nat} {w:World} {p m n:Nat} {D:DataW Unit} {lf:Nat→List T} {vf:Nat→Value} {xf:Nat→List Value} (h:StI L w p m n D lf vf xf) {x:ByteArray} {c:Nat} (hx:atK D x=.lit (.int .i64 (c:Nat))):CollAt w c 13 (mkT 5 0 ByteArray.empty (lf c) []):=by
 have hc:=h.toCol hx
 obtain ⟨La,Lc,hv,he⟩:=hc.elems
 exact ⟨La,Lc,by rw [nL_mk,hc.cell,hv],hc.low,he⟩
theorem fv_left {xs ys:List Value} {i n:Nat} (hx:xs.length=n*5) (hi:i<n):fv (xs++ys) i=fv xs i:=by
 unfold fv
 rw [cx_left (by omega),cx_left (by omega),cx_left (by omega),cx_left (by omega),cx_left (by omega)]
theorem fv_right {xs:List Value} {c0 c1 c2 c3 c4:Value} {n:Nat} (hx:xs.length=n*5):fv (xs++[c0,c1,c2,c3,c4]) n=.agg #[c0,c1,c2,c3,c4]:=by
 unfold fv
 rw [← hx,show xs.length=xs.length+0 from rfl,cx_right,Nat.add_assoc,cx_right,Nat.add_assoc,cx_right,Nat.add_assoc,cx_right,Nat.add_assoc,cx_right]
 rfl
def upd {α:Type} (f:Nat→α) (c:Nat) (a:α) (b:Nat):α:=if b=c then a else f b
theorem upd_same {α:Type} (f:Nat→α) (c:Nat) (a:α):upd f c a c=a:=by simp [upd]
theorem upd_other {α:Type} (f:Nat→α) {c b:Nat} (a:α) (h:b≠c):upd f c a b=f b:=by simp [upd,h]
theorem StI.ins {L:Nat→Nat} {w w1 w':World} {p m n:Nat} {D:DataW Unit} {lf:Nat→List T} {vf:Nat→Value} {xf:Nat→List Value} (h:StI L w p m n D lf vf xf) {x:ByteArray} {c:Nat} (hx:atK D x=.lit (.int .i64 (c:Nat))) (hb:Below w.heap.size w w1) {t:T} {c0 c1 c2 c3 c4:Value} (ha:AtP (newB w w1) w1 13 (.agg #[c0,c1,c2,c3,c4]) t) (hd:Doc t)
  (hB:But2 c (vf c).ownBlock w1 w') {g cap:Nat} (q0:w'.cell? ⟨c,0,none⟩=some (.slice (some ⟨g,0,none⟩) ((lf c).length+1) cap)) (f0:w'.frozen? ⟨c,0,none⟩=false) (hg:(vf c).ownBlock=some g∨w1.heap.size≤g) (hO:w'.ownsRow 0 36 5 (.slice (some ⟨g,0,none⟩) ((lf c).length+1) cap) ((lf c).length+1) (xf c++[c0,c1,c2,c3,c4])) :
  ∃ L',(∀ b,L' b≠0→L b≠0∨w.heap.size≤b)∧StI L' w' p m n D (upd lf c (lf c++[t])) (upd vf c (.slice (some ⟨g,0,none⟩) ((lf c).length+1) cap)) (upd xf c (xf c++[c0,c1,c2,c3,c4])):=by
 have hc:=h.col x c hx
 have hgl:g<w'.heap.size:=(hO.lt g rfl).2
 have hcl:c<w.heap.size:=h.low c (by rw [hc.lab];omega)
 have s1:=hb.size
 have s2:=hB.size
 have hgw:(vf c).ownBlock=some g→g<w.heap.size∧L g=5+c:=fun e=>⟨h.low g (by rw [hc.rowl g e];omega),hc.rowl g e⟩
 have old:∀ b,L b≠0→L b≠5+c→b≠c→w'.heap[b]?=w.heap[b]?:=fun b h0 h1 h2=>(hB.block b (by have:=h.low b h0;omega) h2 (fun e=>h1 (hc.rowl b e.symm))).trans (hb.block b (h.low b h0))
 refine ⟨fun b=>if b<w.heap.size then L b else if b<w1.heap.size then 1 else if b=g then 5+c else 0,?_,?_,?_,?_,?_,?_⟩
 ·intro b hb0
  by_cases e:b<w.heap.size
  ·simp only [if_pos e] at hb0
   exact .inl hb0
  ·exact .inr (by omega)
 ·exact h.sto.move (by omega) (old p (by rw [h.lp];omega) (by rw [h.lp];omega) (fun e=>by have:=h.lp;have:=hc.lab;subst e;omega)) (old m (by rw [h.lm];omega) (by rw [h.lm];omega) (fun e=>by have:=h.lm;have:=hc.lab;subst e;omega))
 ·show (if p<w.heap.size then L p else _)=2
  rw [if_pos (h.low p (by rw [h.lp];omega))];exact h.lp
 ·show (if m<w.heap.size then L m else _)=3
  rw [if_pos (h.low m (by rw [h.lm];omega))];exact h.lm
 ·intro b hb0
  split at hb0
  ·omega
  ·split at hb0
   ·omega
   ·split at hb0
    ·omega
    ·exact absurd rfl hb0
 ·intro y c' hy
  by_cases e:c'=c
  ·subst e
   rw [upd_same,upd_same,upd_same]
   refine ⟨by rw [if_pos hcl];exact hc.lab,q0,f0,by rw [List.length_append];exact hO,fun b e=>?_,fun i hi=>?_,fun i hi=>?_⟩
   ·have eg:b=g:=by simpa [Value.ownBlock] using e.symm
    subst eg
    show (if b<w.heap.size then L b else _)=_
    rcases hg with h1 | h1
    ·rw [if_pos (hgw h1).1];exact (hgw h1).2
    ·rw [if_neg (by omega),if_neg (by omega),if_pos rfl]
   ·have hxl:(xf c').length=(lf c').length*5:=hc.row.1
    rw [List.length_append,List.length_cons,List.length_nil] at hi
    by_cases e:i<(lf c').length
    ·rw [fv_left hxl e,List.getElem_append_left e]
     refine (hc.at_ i e).move (by omega) fun b hbl hp=>⟨?_,old b (by omega) (by omega) (fun e2=>by have:=hc.lab;subst e2;omega)⟩
     show (if b<w.heap.size then L b else _)=1
     rw [if_pos hbl];exact hp
    ·obtain rfl:i=(lf c').length:=by omega
     rw [fv_right hxl,List.getElem_append_right (by omega)]
     simp only [Nat.sub_self,List.getElem_cons_zero]
     refine ha.move s2 fun b hbl hp=>⟨?_,hB.block b hbl (fun e2=>by have:=hp.1;omega) (fun e2=>by have:=h.low b (by rw [hc.rowl b e2.symm];omega);have:=hp.1;omega)⟩
     show (if b<w.heap.size then L b else _)=1
     rw [if_neg (by have:=hp.1;omega),if_pos hbl]
   ·rw [List.length_append,List.length_cons,List.length_nil] at hi
    by_cases e:i<(lf c').length
    ·rw [List.getElem_append_left e];exact hc.doc i e
    ·obtain rfl:i=(lf c').length:=by omega
     rw [List.getElem_append_right (by omega)]
     simp only [Nat.sub_self,List.getElem_cons_zero]
     exact hd
  ·rw [upd_other _ _ e,upd_other _ _ e,upd_other _ _ e]
   refine (h.col y c' hy).move (by omega) fun b hl=>⟨?_,old b (by omega) (by omega) (fun e2=>by have:=hc.lab;subst e2;omega)⟩
   show (if b<w.heap.size then L b else _)=L b
   rw [if_pos (h.low b (by omega))]
end Go.Proofs.YtknakfpciccoaabGreatDoor
/- The store's state behind New and Create. -/
namespace Go.Proofs.YtknakfpciccoaabGreatDoor
open Go.RowKit Go.Maps Go.WideMaps
theorem keyN_key (x:ByteArray):WideAt.IsKeyLit (keyN x):=by simp [keyN,WideAt.IsKeyLit]
theorem keyN_ne {x y:ByteArray} (h:y≠x):keyN y≠keyN x:=by
 intro e
 simp only [keyN,Lit.string.injEq] at e
 exact h ((data_eq_iff _ _).1 e)
theorem atK_put_same {D:DataW Unit} (hD:IsMap D) (x:ByteArray) (d:DataW Unit):atK (D.put (keyN x) d) x=d:=atKey_put_same hD (keyN_key x) d .nil
theorem atK_put_other {D:DataW Unit} {x y:ByteArray} (h:y≠x) (d:DataW Unit):atK (D.put (keyN x) d) y=atK D y:=atKey_put_other (keyN_ne h) d .nil
theorem lit_inj {a b:Nat} (h:(DataW.lit (.int .i64 (a:Int)):DataW Unit)=.lit (.int .i64 (b:Int))):a=b:=by
 simp only [DataW.lit.injEq,Lit.int.injEq] at h
 omega
theorem StI.cre {L:Nat→Nat} {w w':World} {p m n:Nat} {D:DataW Unit} {lf:Nat→List T} {vf:Nat→Value} {xf:Nat→List Value} (h:StI L w p m n D lf vf xf) {x:ByteArray} (hc:CreOk w p m n D x w') :
  ∃ L' c,w.heap.size≤c∧(∀ b,L' b≠0→L b≠0∨w.heap.size≤b)∧StI L' w' p m (n+1) (D.put (keyN x) (.lit (.int .i64 (c:Nat)))) (upd lf c []) (upd vf c (.slice none 0 0)) (upd xf c []):=by
 obtain ⟨c,hcw,hcl,hst,q0,f0,hB⟩:=hc
 have s1:=hB.size
 have old:∀ b,L b≠0→L b≠3→w'.heap[b]?=w.heap[b]?:=fun b h0 h1=>hB.block b (h.low b h0) (fun e=>by have:=h.lm;subst e;omega) (by simp)
 refine ⟨fun b=>if b<w.heap.size then L b else if b=c then 4 else 0,c,hcw,?_,hst,?_,?_,?_,?_⟩
 ·intro b hb0
  by_cases e:b<w.heap.size
  ·simp only [if_pos e] at hb0
   exact .inl hb0
  ·exact .inr (by omega)
 ·show (if p<w.heap.size then L p else _)=2
  rw [if_pos (h.low p (by rw [h.lp];omega))];exact h.lp
 ·show (if m<w.heap.size then L m else _)=3
  rw [if_pos (h.low m (by rw [h.lm];omega))];exact h.lm
 ·intro b hb0
  split at hb0
  ·omega
  ·split at hb0
   ·omega
   ·exact absurd rfl hb0
 ·intro y c' hy
  by_cases e:y=x
  ·subst e
   rw [atK_put_same h.sto.own.isMap] at hy
   obtain rfl:=lit_inj hy
   rw [upd_same,upd_same,upd_same]
   refine ⟨by rw [if_neg (by omega),if_pos rfl],q0,f0,World.ownsRow_nil _ _ _ _,fun b e=>by simp [Value.ownBlock] at e,fun i hi=>absurd hi (Nat.not_lt_zero i),fun i hi=>absurd hi (Nat.not_lt_zero i)⟩
  ·rw [atK_put_other e] at hy
   have hco:=h.col y c' hy
   have hne:c'≠c:=fun e2=>by have:=h.low c' (by rw [hco.lab];omega);omega
   rw [upd_other _ _ hne,upd_other _ _ hne,upd_other _ _ hne]
   refine hco.move s1 fun b hl=>⟨?_,old b (by omega) (by omega)⟩
   show (if b<w.heap.size then L b else _)=L b
   rw [if_pos (h.low b (by omega))]
theorem StI.new (w:World) (lf:Nat→List T) (vf:Nat→Value) (xf:Nat→List Value):∃ L,(∀ b,L b≠0→w.heap.size≤b)∧StI L ((w.alloc (.map #[] 0)).alloc (.cells #[.map (some w.heap.size)] 76)) (w.heap.size+1) w.heap.size 0 (.map []) lf vf xf:=by
 refine ⟨fun b=>if b=w.heap.size+1 then 2 else if b=w.heap.size then 3 else 0,fun b hb=>?_,⟨by simp [go_sem],by simp,(World.ownsMap_made w _ _ _).alloc _⟩,by simp,by simp,fun b hb=>?_,fun x c hx=>?_⟩
 ·by_cases e:w.heap.size≤b
  ·exact e
  ·simp only [if_neg (show ¬ b=w.heap.size+1 by omega),if_neg (show ¬ b=w.heap.size by omega)] at hb
   exact absurd rfl hb
 ·split at hb
  ·subst b;simp
  ·split at hb
   ·subst b;simp;omega
   ·exact absurd rfl hb
 ·have e:atK (.map []) x=.nil:=rfl
  rw [e] at hx
  cases hx
end Go.Proofs.YtknakfpciccoaabGreatDoor
/- The store as names and documents: what each call does to it. -/
namespace Go.Proofs.YtknakfpciccoaabGreatDoor
open Go.RowKit Go.Maps Go.WideMaps
theorem But2.below {B c:Nat} {g:Option Nat} {w w':World} (h:But2 c g w w') (hw:B≤w.heap.size) (hc:B≤c) (hg:∀ b,g=some b→B≤b):Below B w w' :=
 ⟨h.os,h.tape,h.output,h.size,fun b hb=>h.block b (by omega) (by omega) (fun e=>by have:=hg b e.symm;omega)⟩
def StP (B:Nat) (w:World) (p n:Nat) (S:ByteArray→Option (List T)):Prop :=
 ∃ L m D lf vf xf,StI L w p m n D lf vf xf∧(∀ b,L b≠0→B≤b)∧(∀ x y (c:Nat),atK D x=.lit (.int .i64 c)→atK D y=.lit (.int .i64 c)→x=y)∧∀ x,(S x=none∧atK D x=.nil)∨∃ c:Nat,atK D x=.lit (.int .i64 c)∧S x=some (lf c)
def setS (S:ByteArray→Option (List T)) (x:ByteArray) (l:Option (List T)):ByteArray→Option (List T):=fun y=>if y=x then l else S y
theorem setS_same (S:ByteArray→Option (List T)) (x:ByteArray) (l:Option (List T)):setS S x l x=l:=by simp [setS]
theorem setS_other (S:ByteArray→Option (List T)) {x y:ByteArray} (l:Option (List T)) (h:y≠x):setS S x l y=S y:=by simp [setS,h]
theorem StP.keep {B:Nat} {w w':World} {p n:Nat} {S:ByteArray→Option (List T)} (h:StP B w p n S) (hb:Below w.heap.size w w'):StP B w' p n S:=by
 obtain ⟨L,m,D,lf,vf,xf,h1,h2⟩:=h
 exact ⟨L,m,D,lf,vf,xf,h1.keep hb,h2⟩
theorem StP.new (w:World):StP w.heap.size ((w.alloc (.map #[] 0)).alloc (.cells #[.map (some w.heap.size)] 76)) (w.heap.size+1) 0 (fun _=>none):=by
 obtain ⟨L,h1,h2⟩:=StI.new w (fun _=>[]) (fun _=>.slice none 0 0) (fun _=>[])
 refine ⟨L,_,_,_,_,_,h2,h1,fun x y c hx=>?_,fun x=>.inl ⟨rfl,rfl⟩⟩
 have e:atK (.map []) x=.nil:=rfl
 rw [e] at hx
 cases hx
theorem create_st {B:Nat} {w:World} {p n:Nat} {S:ByteArray→Option (List T)} (h:StP B w p n S) (x:ByteArray) (hx:x.size≤140737488355328) (hn:n≤5) (hnm:isNm x=true) (hS:S x=none) :
  Calls Tryz.prog 19 #[.pointer (some ⟨p,0,none⟩),.string x] w fun e w'=>e=.returned (.int .i64 0)∧Below B w w'∧StP B w' p (n+1) (setS S x (some [])):=by
 obtain ⟨L,m,D,lf,vf,xf,h1,h2,h3,h4⟩:=h
 have hpm:p≠m:=fun e=>by have:=h1.lp;have:=h1.lm;subst e;omega
 have hnil:atK D x=.nil:=by
  rcases h4 x with ⟨_,h⟩ | ⟨c,_,h⟩
  ·exact h
  ·rw [hS] at h;cases h
 refine (create_any p m n D x w hx (by omega) h1.sto hpm).mono ?_
 rintro e w' (⟨h5,_⟩ | ⟨_,⟨c,h5⟩,_⟩ | ⟨_,_,h5,_⟩ | ⟨_,_,_,rfl,hok⟩)
 ·rw [hnm] at h5;cases h5
 ·rw [hnil] at h5;cases h5
 ·have:=h1.sto.own.size_le;omega
 ·obtain ⟨L',c,hc,hl,hst⟩:=h1.cre hok
  obtain ⟨c',_,_,_,_,_,hB⟩:=hok
  have hmB:B≤m:=h2 m (by rw [h1.lm];omega)
  have hml:=h1.low m (by rw [h1.lm];omega)
  refine ⟨rfl,hB.below (by omega) hmB (fun b e=>by cases e),L',m,_,_,_,_,hst,fun b hb=>?_,fun y z c1 hy hz=>?_,fun y=>?_⟩
  ·rcases hl b hb with h | h
   ·exact h2 b h
   ·omega
  ·by_cases ey:y=x
   ·by_cases ez:z=x
    ·rw [ey,ez]
    ·subst ey
     rw [atK_put_same h1.sto.own.isMap] at hy
     rw [atK_put_other ez] at hz
     obtain rfl:=lit_inj hy
     have:=h1.low _ (by rw [(h1.col z _ hz).lab];omega)
     omega
   ·rw [atK_put_other ey] at hy
    by_cases ez:z=x
    ·subst ez
     rw [atK_put_same h1.sto.own.isMap] at hz
     obtain rfl:=lit_inj hz
     have:=h1.low _ (by rw [(h1.col y _ hy).lab];omega)
     omega
    ·rw [atK_put_other ez] at hz
     exact h3 y z c1 hy hz
  ·by_cases ey:y=x
   ·subst ey
    exact .inr ⟨c,atK_put_same h1.sto.own.isMap _ _,by rw [setS_same,upd_same]⟩
   ·rw [setS_other _ _ ey,atK_put_other ey]
    rcases h4 y with h | ⟨c1,hy,hs⟩
    ·exact .inl h
    ·refine .inr ⟨c1,hy,?_⟩
     have:=h1.low _ (by rw [(h1.col y _ hy).lab];omega)
     rw [upd_other _ _ (by omega)]
     exact hs
theorem insert_st {Tb:World→Prop} (hA:StoreSaid Tb) {B:Nat} {w:World} {p n:Nat} {S:ByteArray→Option (List T)} (h:StP B w p n S) (x s:ByteArray) (l:List T) (hx:x.size≤140737488355328) (hs:s.size≤140737488355328) (hS:S x=some l) (hin:inErr s=none) (hno:anyL (sameId (idT (tJ s))) (mkT 5 0 ByteArray.empty l []) l.length=false) (hl:l.length<60) (hT:Tb w) :
  Calls Tryz.prog 21 #[.pointer (some ⟨p,0,none⟩),.string x,.string s] w fun e w'=>e=.returned (.int .i64 0)∧Below B w w'∧StP B w' p n (setS S x (some (l++[tJ s]))):=by
 obtain ⟨L,m,D,lf,vf,xf,h1,h2,h3,h4⟩:=h
 obtain ⟨c,hc,hlc⟩:∃ c:Nat,atK D x=.lit (.int .i64 c)∧lf c=l:=by
  rcases h4 x with ⟨h,_⟩ | ⟨c,hc,h⟩
  ·rw [hS] at h;cases h
  ·rw [hS] at h;exact ⟨c,hc,(Option.some.inj h).symm⟩
 have hco:=h1.col x c hc
 refine (insertS_any hA p m n D lf vf xf x s w hs hx h1.sto (fun c1 hc1=>?_) hT).mono ?_
 ·rw [hc] at hc1
  obtain rfl:=lit_inj hc1
  exact ⟨h1.toCol hc,by rw [hlc];omega,hco.doc⟩
 ·rintro e w' (⟨_,er,h5,_⟩ | ⟨_,_,h5,_⟩ | ⟨_,c1,hc1,w1,A,Bc,C,Dc,hb,hat,hI⟩)
  ·rw [hin] at h5;cases h5
  ·rw [hc] at h5;cases h5
  ·rw [hc] at hc1
   obtain rfl:=lit_inj hc1
   rcases hI with ⟨_,h5,_⟩ | ⟨_,_,h5,_⟩ | ⟨hB,_,_,rfl,g,cap,q0,f0,hg,hO⟩
   ·rw [hlc,hno] at h5;cases h5
   ·rw [hlc] at h5;omega
   ·have hdoc:Doc (tJ s):=by
     unfold inErr at hin
     split at hin
     ·cases hin
     ·rename_i e1
      split at hin
      ·cases hin
      ·rename_i e2
       exact isDoc_doc (parsed_okA (by simpa using e1)) (by simpa using e2)
    obtain ⟨L',hl',hst⟩:=h1.ins hc hb hat hdoc hB q0 f0 hg hO
    have hcB:B≤c:=h2 c (by rw [hco.lab];omega)
    have hcl:=h1.low c (by rw [hco.lab];omega)
    have hbs:=hb.size
    refine ⟨rfl,(hb.mono (by omega)).trans (hB.below (by omega) hcB (fun b e=>h2 b (by rw [hco.rowl b e];omega))),L',m,D,_,_,_,hst,fun b hb0=>?_,h3,fun y=>?_⟩
    ·rcases hl' b hb0 with h | h
     ·exact h2 b h
     ·omega
    ·by_cases ey:y=x
     ·subst ey
      exact .inr ⟨c,hc,by rw [setS_same,upd_same,hlc]⟩
     ·rw [setS_other _ _ ey]
      rcases h4 y with h | ⟨c1,hy,hs1⟩
      ·exact .inl h
      ·refine .inr ⟨c1,hy,?_⟩
       rw [upd_other _ _ (show c1≠c from fun e=>ey (h3 y x c (by rw [← e];exact hy) hc))]
       exact hs1
theorem keep_filter (p:T→Bool) (k n:Int) (s:ByteArray) (l:List T) (ks:List ByteArray):∀ j,j≤l.length→keepL p (mkT k n s l ks) j=(l.take j).filter p
 | 0,_=>rfl
 | j+1,h=>by
  have e:elt (mkT k n s l ks) j=l[j]:=by rw [elt_mk,List.getD_eq_getElem?_getD,List.getElem?_eq_getElem h];rfl
  rw [keepL,keep_filter p k n s l ks j (by omega),e,List.take_add_one,List.getElem?_eq_getElem h,List.filter_append]
  simp only [Option.toList_some,List.filter_cons,List.filter_nil]
theorem row_slice {w:World} {lo:Nat} {e:TypeId} {s n:Nat} {v:Value} {xs:List Value} (h:w.ownsRow lo e s v n xs):∃ A c,v=.slice A n c:=by
 rcases h.2 with ⟨rfl,rfl⟩ | ⟨g,cap,cur,rfl,_⟩
 ·exact ⟨_,_,rfl⟩
 ·exact ⟨_,_,rfl⟩
theorem find_st {Tb:World→Prop} (hA:StoreSaid Tb) {B:Nat} {w:World} {p n:Nat} {S:ByteArray→Option (List T)} (h:StP B w p n S) (x s:ByteArray) (l:List T) (hx:x.size≤140737488355328) (hs:s.size≤140737488355328) (hS:S x=some l) (hl:l.length≤1000000) (he:eJ s=0) (hk:okFil 16 (tJ s)=true) (hT:Tb w) :
  Calls Tryz.prog 17 #[.pointer (some ⟨p,0,none⟩),.string x,.string s] w fun e w'=>Below w.heap.size w w'∧∃ A c,e=.returned (.tuple #[.slice A (l.filter (evF 16 (tJ s))).length c,.int .i64 0])∧w'.ownsRow w.heap.size 9 1 (.slice A (l.filter (evF 16 (tJ s))).length c) (l.filter (evF 16 (tJ s))).length ((l.filter (evF 16 (tJ s))).map fun t=>.string (prT t)):=by
 obtain ⟨L,m,D,lf,vf,xf,h1,h2,h3,h4⟩:=h
 obtain ⟨c,hc,hlc⟩:∃ c:Nat,atK D x=.lit (.int .i64 c)∧lf c=l:=by
  rcases h4 x with ⟨h,_⟩ | ⟨c,hc,h⟩
  ·rw [hS] at h;cases h
  ·rw [hS] at h;exact ⟨c,hc,(Option.some.inj h).symm⟩
 have hco:=h1.col x c hc
 refine (find_any hA p m n 13 D (fun c=>mkT 5 0 ByteArray.empty (lf c) []) x s w hs hx h1.sto (fun c1 hc1=>?_) (by omega) hT).mono ?_
 ·rw [hc] at hc1
  obtain rfl:=lit_inj hc1
  refine ⟨h1.coll hc,by rw [nL_mk,hlc];exact hl,fun i hi=>?_⟩
  have hi':i<(lf c).length:=hi
  have e:elt (mkT 5 0 ByteArray.empty (lf c) []) i=(lf c)[i]:=by rw [elt_mk,List.getD_eq_getElem?_getD,List.getElem?_eq_getElem hi'];rfl
  rw [e]
  exact (hco.doc i hi').1
 ·rintro e w' ⟨hb,⟨h5,_⟩ | ⟨_,h5,_⟩ | ⟨_,_,h5,_⟩ | ⟨_,_,c1,hc1,sv,rfl,hO⟩⟩
  ·exact absurd he h5
  ·rw [hk] at h5;cases h5
  ·rw [hc] at h5;cases h5
  ·rw [hc] at hc1
   obtain rfl:=lit_inj hc1
   have e:fndL s (mkT 5 0 ByteArray.empty (lf c) [])=l.filter (evF 16 (tJ s)):=by
    unfold fndL
    rw [nL_mk,keep_filter _ _ _ _ _ _ _ (Nat.le_refl _),List.take_length,hlc]
   rw [e] at hO
   obtain ⟨A,cp,rfl⟩:=row_slice hO
   exact ⟨hb,A,cp,rfl,hO⟩
theorem find_none {Tb:World→Prop} (hA:StoreSaid Tb) {B:Nat} {w:World} {p n:Nat} {S:ByteArray→Option (List T)} (h:StP B w p n S) (x s:ByteArray) (hx:x.size≤140737488355328) (hs:s.size≤140737488355328) (hS:S x=none) (he:eJ s=0) (hk:okFil 16 (tJ s)=true) (hT:Tb w) :
  Calls Tryz.prog 17 #[.pointer (some ⟨p,0,none⟩),.string x,.string s] w fun e w'=>Below w.heap.size w w'∧e=.returned (.tuple #[.slice none 0 0,.int .i64 10]):=by
 obtain ⟨L,m,D,lf,vf,xf,h1,h2,h3,h4⟩:=h
 have hnil:atK D x=.nil:=by
  rcases h4 x with ⟨_,h⟩ | ⟨c,_,h⟩
  ·exact h
  ·rw [hS] at h;cases h
 refine (find_any hA p m n 13 D (fun c=>mkT 5 0 ByteArray.empty (lf c) []) x s w hs hx h1.sto (fun c1 hc1=>by rw [hnil] at hc1;cases hc1) (by omega) hT).mono ?_
 rintro e w' ⟨hb,⟨h5,_⟩ | ⟨_,h5,_⟩ | ⟨_,_,_,rfl⟩ | ⟨_,_,c1,hc1,_⟩⟩
 ·exact absurd he h5
 ·rw [hk] at h5;cases h5
 ·exact ⟨hb,rfl⟩
 ·rw [hnil] at hc1;cases hc1
end Go.Proofs.YtknakfpciccoaabGreatDoor
