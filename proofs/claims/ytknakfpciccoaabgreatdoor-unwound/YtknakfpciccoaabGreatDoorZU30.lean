import Derived.Test.YtknakfpciccoaabGreatDoorZU29
import Derived.Test.YtknakfpciccoaabGreatDoorZU24
import Derived.Laws.MakeOwn
import Derived.Deep.DeepCutAuto
/- A group begins. -/
namespace Go.Proofs.YtknakfpciccoaabGreatDoor
open Go.RowKit
def zeroR:Array Value:=#[.int .i64 0,.int .i64 0,.string ⟨#[]⟩,.slice none 0 0,.slice none 0 0]
def madeZ (n:Nat):Array Value:=madeCells zeroR (n*5)
theorem madeZ_size (n:Nat):(madeZ n).size=n*5:=size_madeCells _ _
theorem makeZ (n:Nat) (h:n≤1000000) (w:World):(Instr.makeSlice 34 (.int .i64 (n:Int)) (.int .i64 (n:Int))).run Tryz.prog w=.ok (.slice (some ⟨w.heap.size,0,none⟩) n n) (w.alloc (.cells (madeZ n) 36)):=by
 obtain ⟨i,hi,hz,hb,hs⟩:∃ i,Tryz.prog.info? 36=some i∧i.zero=some (.agg zeroR)∧i.bytes=80∧i.size=5:=by
  have h1:(Tryz.prog.info? 36).map (fun i=>(i.zero,i.bytes,i.size))=some (some (.agg zeroR),80,5):=by kernel_rfl
  cases hi:Tryz.prog.info? 36 with
  | none=>rw [hi] at h1;cases h1
  | some i =>
   rw [hi] at h1
   simp only [Option.map_some,Option.some.injEq,Prod.mk.injEq] at h1
   exact ⟨i,rfl,h1.1,h1.2.1,h1.2.2⟩
 have:=run_make (P:=Tryz.prog) w 34 36 i (.agg zeroR) Tryz.underlying34 hi hz .i64 .i64 (n:Int) (n:Int) (by omega) (by omega) (by rw [hb];omega) (by omega)
 rw [hs,show ((n:Int)).toNat=n by omega] at this
 exact this
theorem madeZ_cell (m:Nat) {k r:Nat} (hk:k<m) (hr:r<5):cx (madeZ m).toList (k*5+r)=zeroR[r]!:=by
 unfold cx madeZ
 rw [Array.getElem?_toList]
 have hz:zeroR.size=5:=rfl
 have hlt:k*5+r<m*5:=by omega
 simp only [madeCells]
 simp [hlt,hz]
 rw [Nat.mod_eq_of_lt hr]
theorem madeZ_fv (m:Nat) {k:Nat} (hk:k<m):fv (madeZ m).toList k=.agg #[.int .i64 0,.int .i64 0,.string ⟨#[]⟩,.slice none 0 0,.slice none 0 0]:=by
 unfold fv
 have e:=fun r hr=>madeZ_cell m (k:=k) (r:=r) hk hr
 rw [show k*5=k*5+0 from rfl,e 0 (by omega),e 1 (by omega),e 2 (by omega),e 3 (by omega),e 4 (by omega)]
 rfl
theorem row_first {W:World} {lo g n cap:Nat} {xs:List Value} (h:W.ownsRow lo 36 5 (.slice (some ⟨g,0,none⟩) n cap) n xs) (hn:1≤n) (u0 u1 u2 u3 u4:Value) :
  ∃ ys,(put5 W g u0 u1 u2 u3 u4).ownsRow lo 36 5 (.slice (some ⟨g,0,none⟩) n cap) n ys∧fv ys 0=.agg #[u0,u1,u2,u3,u4]∧∀ k,1≤k→fv ys k=fv xs k:=by
 have hx:xs.length=n*5:=h.1
 have h1:=(row_setV h 0 u0 u1 u2 u3 u4).1
 refine ⟨setV xs 0 u0 u1 u2 u3 u4,h1,fv_setV_same (by omega) u0 u1 u2 u3 u4,fun k hk=>fv_setV_other (by omega) u0 u1 u2 u3 u4⟩
structure StB (w:World) (m:Nat) (NA:Option Addr) (nc:Nat) (t:T) (A C:Option Addr) (B D:Nat) (wx:World) (rb bx:Nat):Prop where
 low:Below w.heap.size w wx
 by_:BoxAt w.heap.size (.int .i64 (kindOf t)) (.int .i64 (nOf t)) (.string (sOf t)) (.slice A (nL t) B) (.slice C (nK t) D) wx
 res:BoxAt (w.heap.size+1) (.int .i64 0) (.int .i64 0) (.string ⟨#[]⟩) (.slice none 0 0) (.slice none 0 0) wx
 new:BoxAt bx (.int .i64 6) (.int .i64 0) (.string ⟨#[]⟩) (.slice (some ⟨rb,0,none⟩) m m) (.slice NA m nc) wx
 row:wx.ownsRow w.heap.size 36 5 (.slice (some ⟨rb,0,none⟩) m m) m (madeZ m).toList
 rlo:w.heap.size+2≤rb
 apart:rb≠bx
theorem StB.drew {w:World} {m:Nat} {NA:Option Addr} {nc:Nat} {t:T} {A C:Option Addr} {B D:Nat} {wx:World} {rb bx:Nat} (h:StB w m NA nc t A C B D wx rb bx):StB w m NA nc t A C B D wx.drew rb bx :=
 ⟨h.low.drew,h.by_.stay (below_drew _),h.res.stay (below_drew _),h.new.stay (below_drew _),h.row.drew,h.rlo,h.apart⟩
theorem stbA (w:World) (m:Nat) (NA:Option Addr) (nc:Nat) (t:T) (A C:Option Addr) (B D:Nat) (hm:m≤1000000):StB w m NA nc t A C B D ((((w.alloc (.cells #[.int .i64 (kindOf t),.int .i64 (nOf t),.string (sOf t),.slice A (nL t) B,.slice C (nK t) D] 36)).alloc (.cells #[.int .i64 0,.int .i64 0,.string ⟨#[]⟩,.slice none 0 0,.slice none 0 0] 36)).alloc (.cells (madeZ m) 36)).alloc (.cells #[.int .i64 6,.int .i64 0,.string ⟨#[]⟩,.slice (some ⟨w.heap.size+1+1,0,none⟩) m m,.slice NA m nc] 36)) (w.heap.size+1+1) (w.heap.size+1+1+1):=by
 refine ⟨((((Below.refl _ _).alloc (Nat.le_refl _) _).alloc (by simp) _).alloc (by simp;omega) _).alloc (by simp;omega) _,?_,?_,?_,?_,by omega,by omega⟩
 ·constructor<;>simp [go_sem]
 ·constructor<;>simp [go_sem]
 ·constructor<;>simp [go_sem]
 ·have h:=World.ownsRow_lit (base:=w.heap.size) (e:=36) (size:=5) ((w.alloc (.cells #[.int .i64 (kindOf t),.int .i64 (nOf t),.string (sOf t),.slice A (nL t) B,.slice C (nK t) D] 36)).alloc (.cells #[.int .i64 0,.int .i64 0,.string ⟨#[]⟩,.slice none 0 0,.slice none 0 0] 36)) (madeZ m) m (by simp;omega) (by unfold maxLen;omega) (madeZ_size m)
  have h2:=h.alloc (.cells #[.int .i64 6,.int .i64 0,.string ⟨#[]⟩,.slice (some ⟨w.heap.size+1+1,0,none⟩) m m,.slice NA m nc] 36)
  simpa using h2
theorem stbB (w:World) (m:Nat) (NA:Option Addr) (nc:Nat) (t:T) (A C:Option Addr) (B D:Nat) (hm:m≤1000000):StB w m NA nc t A C B D ((((w.alloc (.cells #[.int .i64 (kindOf t),.int .i64 (nOf t),.string (sOf t),.slice A (nL t) B,.slice C (nK t) D] 36)).alloc (.cells #[.int .i64 0,.int .i64 0,.string ⟨#[]⟩,.slice none 0 0,.slice none 0 0] 36)).alloc (.cells #[.int .i64 6,.int .i64 0,.string ⟨#[]⟩,.slice (some ⟨w.heap.size+1+1+1,0,none⟩) m m,.slice NA m nc] 36)).alloc (.cells (madeZ m) 36)) (w.heap.size+1+1+1) (w.heap.size+1+1):=by
 refine ⟨((((Below.refl _ _).alloc (Nat.le_refl _) _).alloc (by simp) _).alloc (by simp;omega) _).alloc (by simp;omega) _,?_,?_,?_,?_,by omega,by omega⟩
 ·constructor<;>simp [go_sem]
 ·constructor<;>simp [go_sem]
 ·constructor<;>simp [go_sem]
 ·have h:=World.ownsRow_lit (base:=w.heap.size) (e:=36) (size:=5) (((w.alloc (.cells #[.int .i64 (kindOf t),.int .i64 (nOf t),.string (sOf t),.slice A (nL t) B,.slice C (nK t) D] 36)).alloc (.cells #[.int .i64 0,.int .i64 0,.string ⟨#[]⟩,.slice none 0 0,.slice none 0 0] 36)).alloc (.cells #[.int .i64 6,.int .i64 0,.string ⟨#[]⟩,.slice (some ⟨w.heap.size+1+1+1,0,none⟩) m m,.slice NA m nc] 36)) (madeZ m) m (by simp;omega) (by unfold maxLen;omega) (madeZ_size m)
  simpa using h
theorem elem_cellsZ {w:World} {base g n cap:Nat} {e:TypeId} {ys:List Value} (h:w.ownsRow base e 5 (.slice (some ⟨g,0,none⟩) n cap) n ys) (hj:1≤n):w.cell? ⟨g,0,none⟩=some (cx ys 0)∧w.cell? ⟨g,1,none⟩=some (cx ys 1)∧w.cell? ⟨g,2,none⟩=some (cx ys 2)∧w.cell? ⟨g,3,none⟩=some (cx ys 3)∧w.cell? ⟨g,4,none⟩=some (cx ys 4):=by
 have hx:ys.length=n*5:=h.1
 exact ⟨row_cell h (cx_some (by omega)),row_cell h (cx_some (by omega)),row_cell h (cx_some (by omega)),row_cell h (cx_some (by omega)),row_cell h (cx_some (by omega))⟩
set_option maxHeartbeats 8000000 in
set_option maxRecDepth 100000 in
theorem start_any (c m:Nat) (NA:Option Addr) (nc:Nat) (t:T) (A C:Option Addr) (B D:Nat) (w:World) (hm:1≤m) (hm2:m≤1000000) (hc:c<w.heap.size) (h1:w.cell? ⟨c,1,none⟩=some (.slice NA m nc)) :
  Calls Tryz.prog 243 #[.pointer (some ⟨c,0,none⟩),.agg #[.int .i64 (kindOf t),.int .i64 (nOf t),.string (sOf t),.slice A (nL t) B,.slice C (nK t) D]] w fun e w'=>Below w.heap.size w w'∧∃ rb ys,w.heap.size≤rb∧e=.returned (.agg #[.int .i64 6,.int .i64 0,.string ⟨#[]⟩,.slice (some ⟨rb,0,none⟩) m m,.slice NA m nc])∧w'.ownsRow w.heap.size 36 5 (.slice (some ⟨rb,0,none⟩) m m) m ys∧fv ys 0=.agg #[.int .i64 (kindOf t),.int .i64 (nOf t),.string (sOf t),.slice A (nL t) B,.slice C (nK t) D]∧∀ k,1≤k→k<m→fv ys k=.agg #[.int .i64 0,.int .i64 0,.string ⟨#[]⟩,.slice none 0 0,.slice none 0 0]:=by
 have hmk:=makeZ m hm2
 have HB2:Hid (Below w.heap.size w ((w.alloc (.cells #[.int .i64 (kindOf t),.int .i64 (nOf t),.string (sOf t),.slice A (nL t) B,.slice C (nK t) D] 36)).alloc (.cells #[.int .i64 0,.int .i64 0,.string ⟨#[]⟩,.slice none 0 0,.slice none 0 0] 36))):=((Below.refl _ _).alloc (Nat.le_refl _) _).alloc (by simp) _
 have c1a:((w.alloc (.cells #[.int .i64 (kindOf t),.int .i64 (nOf t),.string (sOf t),.slice A (nL t) B,.slice C (nK t) D] 36)).alloc (.cells #[.int .i64 0,.int .i64 0,.string ⟨#[]⟩,.slice none 0 0,.slice none 0 0] 36)).cell? ⟨c,1,none⟩=some (.slice NA m nc):=(HB2.out.cell (p:=⟨c,1,none⟩) hc).trans h1
 have c1b:(((w.alloc (.cells #[.int .i64 (kindOf t),.int .i64 (nOf t),.string (sOf t),.slice A (nL t) B,.slice C (nK t) D] 36)).alloc (.cells #[.int .i64 0,.int .i64 0,.string ⟨#[]⟩,.slice none 0 0,.slice none 0 0] 36)).alloc (.cells #[.int .i64 0,.int .i64 0,.string ⟨#[]⟩,.slice none 0 0,.slice none 0 0] 36)).cell? ⟨c,1,none⟩=some (.slice NA m nc):=((HB2.out.alloc HB2.out.size (.cells #[.int .i64 0,.int .i64 0,.string ⟨#[]⟩,.slice none 0 0,.slice none 0 0] 36)).cell (p:=⟨c,1,none⟩) hc).trans h1
 have c1c:(((w.alloc (.cells #[.int .i64 (kindOf t),.int .i64 (nOf t),.string (sOf t),.slice A (nL t) B,.slice C (nK t) D] 36)).alloc (.cells #[.int .i64 0,.int .i64 0,.string ⟨#[]⟩,.slice none 0 0,.slice none 0 0] 36)).alloc (.cells (madeZ m) 36)).cell? ⟨c,1,none⟩=some (.slice NA m nc):=((HB2.out.alloc HB2.out.size (.cells (madeZ m) 36)).cell (p:=⟨c,1,none⟩) hc).trans h1
 have c1f:((((w.alloc (.cells #[.int .i64 (kindOf t),.int .i64 (nOf t),.string (sOf t),.slice A (nL t) B,.slice C (nK t) D] 36)).alloc (.cells #[.int .i64 0,.int .i64 0,.string ⟨#[]⟩,.slice none 0 0,.slice none 0 0] 36)).alloc (.cells (madeZ m) 36)).alloc (.cells #[.int .i64 0,.int .i64 0,.string ⟨#[]⟩,.slice none 0 0,.slice none 0 0] 36)).cell? ⟨c,1,none⟩=some (.slice NA m nc):=(((HB2.out.alloc HB2.out.size (.cells (madeZ m) 36)).alloc (by simp;omega) (.cells #[.int .i64 0,.int .i64 0,.string ⟨#[]⟩,.slice none 0 0,.slice none 0 0] 36)).cell (p:=⟨c,1,none⟩) hc).trans h1
 have c1g:((((w.alloc (.cells #[.int .i64 (kindOf t),.int .i64 (nOf t),.string (sOf t),.slice A (nL t) B,.slice C (nK t) D] 36)).alloc (.cells #[.int .i64 0,.int .i64 0,.string ⟨#[]⟩,.slice none 0 0,.slice none 0 0] 36)).alloc (.cells #[.int .i64 0,.int .i64 0,.string ⟨#[]⟩,.slice none 0 0,.slice none 0 0] 36)).alloc (.cells (madeZ m) 36)).cell? ⟨c,1,none⟩=some (.slice NA m nc):=(((HB2.out.alloc HB2.out.size (.cells #[.int .i64 0,.int .i64 0,.string ⟨#[]⟩,.slice none 0 0,.slice none 0 0] 36)).alloc (by simp;omega) (.cells (madeZ m) 36)).cell (p:=⟨c,1,none⟩) hc).trans h1
 have m1:(0:Int)<(m:Int):=by omega
 have HA:=hid (stbA w m NA nc t A C B D hm2)
 have HBb:=hid (stbB w m NA nc t A C B D hm2)
 go_enter Tryz.func243,Tryz.ntmps243
 go_upto_region 1 with fail
 go_cut [5] (fun s5 wx=>∃ rb bx,s5=.pointer (some ⟨bx,0,none⟩)∧Hid (StB w m NA nc t A C B D wx rb bx))
 case first =>
  go_region_law (fail)
  all_goals (go_wp2_with fail;go_meet;first | exact ⟨_,_,rfl,HA.out.drew⟩ | exact ⟨_,_,rfl,HBb.out.drew⟩)
 case rest =>
  obtain ⟨rb,bx,rfl,HS⟩:=hcut
  clear HA HBb c1a c1b c1c c1f c1g hmk HB2 h1
  have hap:=HS.out.apart
  have hrl:=HS.out.rlo
  have HN1:Hid (BoxAt bx (.int .i64 6) (.int .i64 0) (.string ⟨#[]⟩) (.slice (some ⟨rb,0,none⟩) m m) (.slice NA m nc) (put5 wc rb (.int .i64 (kindOf t)) (.int .i64 (nOf t)) (.string (sOf t)) (.slice A (nL t) B) (.slice C (nK t) D))):=HS.out.new.move (by rw [put5_size];exact Nat.le_refl _) (put5_other wc (by omega) _ _ _ _ _)
  have HR1:Hid (BoxAt (w.heap.size+1) (.int .i64 0) (.int .i64 0) (.string ⟨#[]⟩) (.slice none 0 0) (.slice none 0 0) (put5 wc rb (.int .i64 (kindOf t)) (.int .i64 (nOf t)) (.string (sOf t)) (.slice A (nL t) B) (.slice C (nK t) D))):=HS.out.res.move (by rw [put5_size];exact Nat.le_refl _) (put5_other wc (by omega) _ _ _ _ _)
  have HO:=hid (HR1.out.put5 (.int .i64 6) (.int .i64 0) (.string ⟨#[]⟩) (.slice (some ⟨rb,0,none⟩) m m) (.slice NA m nc))
  have HRow:Hid (∃ ys,(put5 (put5 wc rb (.int .i64 (kindOf t)) (.int .i64 (nOf t)) (.string (sOf t)) (.slice A (nL t) B) (.slice C (nK t) D)) (w.heap.size+1) (.int .i64 6) (.int .i64 0) (.string ⟨#[]⟩) (.slice (some ⟨rb,0,none⟩) m m) (.slice NA m nc)).ownsRow w.heap.size 36 5 (.slice (some ⟨rb,0,none⟩) m m) m ys∧fv ys 0=.agg #[.int .i64 (kindOf t),.int .i64 (nOf t),.string (sOf t),.slice A (nL t) B,.slice C (nK t) D]∧∀ k,1≤k→k<m→fv ys k=.agg #[.int .i64 0,.int .i64 0,.string ⟨#[]⟩,.slice none 0 0,.slice none 0 0]):=by
   obtain ⟨ys,h1,h2,h3⟩:=row_first HS.out.row hm (.int .i64 (kindOf t)) (.int .i64 (nOf t)) (.string (sOf t)) (.slice A (nL t) B) (.slice C (nK t) D)
   exact ⟨ys,put5_row h1 (by simp [Value.ownBlock];omega) _ _ _ _ _,h2,fun k hk hkm=>by rw [h3 k hk];exact madeZ_fv m hkm⟩
  have HBf:=hid (below_res (below_res HS.out.low (b:=rb) (by omega) (by have:=(HS.out.row.lt rb rfl).2;omega) (.int .i64 (kindOf t)) (.int .i64 (nOf t)) (.string (sOf t)) (.slice A (nL t) B) (.slice C (nK t) D)) (b:=w.heap.size+1) (by omega) (by have:=HR1.out.lt;omega) (.int .i64 6) (.int .i64 0) (.string ⟨#[]⟩) (.slice (some ⟨rb,0,none⟩) m m) (.slice NA m nc))
  have HY:=hid HS.out.by_
  have HNw:=hid HS.out.new
  obtain ⟨g0,g1,g2,g3,g4⟩:=elem_cellsZ HS.out.row hm
  have f0:=HS.out.row.frozenAt 0
  have f1:=HS.out.row.frozenAt 1
  have f2:=HS.out.row.frozenAt 2
  have f3:=HS.out.row.frozenAt 3
  have f4:=HS.out.row.frozenAt 4
  have y0:=HY.out.q0
  have y1:=HY.out.q1
  have y2:=HY.out.q2
  have y3:=HY.out.q3
  have y4:=HY.out.q4
  have x0:=HNw.out.q0
  have x1:=HNw.out.q1
  have x2:=HNw.out.q2
  have x3:=HNw.out.q3
  have x4:=HNw.out.q4
  unfold put5 at HN1 HR1 HO HRow HBf
  have n0:=HN1.out.q0
  have n1:=HN1.out.q1
  have n2:=HN1.out.q2
  have n3:=HN1.out.q3
  have n4:=HN1.out.q4
  have r0:=HR1.out.q0
  have r1:=HR1.out.q1
  have r2:=HR1.out.q2
  have r3:=HR1.out.q3
  have r4:=HR1.out.q4
  have z0:=HR1.out.f0
  have z1:=HR1.out.f1
  have z2:=HR1.out.f2
  have z3:=HR1.out.f3
  have z4:=HR1.out.f4
  go_wp2_with fail
  clear r0 r1 r2 r3 r4 z0 z1 z2 z3 z4
  have HO1:=hid HO.out
  have r0:=HO1.out.q0
  have r1:=HO1.out.q1
  have r2:=HO1.out.q2
  have r3:=HO1.out.q3
  have r4:=HO1.out.q4
  obtain ⟨ys,k1,k2,k3⟩:=HRow.out
  have HK:=hid (And.intro k1 (And.intro k2 k3))
  clear k1 k2 k3
  refine bodyPost_ret (v:=.agg #[.int .i64 6,.int .i64 0,.string ⟨#[]⟩,.slice (some ⟨rb,0,none⟩) m m,.slice NA m nc]) (by simp [results,Tryz.results243,go_sem, *]) rfl ?_
  exact ⟨HBf.out,rb,ys,by omega,rfl,HK.out.1,HK.out.2.1,HK.out.2.2⟩
end Go.Proofs.YtknakfpciccoaabGreatDoor
/- Which group: the walk of what is looked for. -/
namespace Go.Proofs.YtknakfpciccoaabGreatDoor
open Go.RowKit
set_option maxHeartbeats 8000000 in
set_option maxRecDepth 100000 in
theorem gath1_any (f gx:Nat) (v:Value) (o:T) (p:Nat) (x:T) (A C:Option Addr) (B D:Nat) (w:World) (h:At w f v o) (hlt:0<nL o) (hf:f≤16) (ho:okA (elt o 0)) (hx:At w gx (.agg #[.int .i64 (kindOf x),.int .i64 (nOf x),.string (sOf x),.slice A (nL x) B,.slice C (nK x) D]) x) (hox:okA x)
  (hb:BoxAt p (.int .i64 (kindOf x)) (.int .i64 (nOf x)) (.string (sOf x)) (.slice A (nL x) B) (.slice C (nK x) D) w) :
  Calls Tryz.prog 242 #[v,.pointer (some ⟨p,0,none⟩)] w fun e w'=>e=.returned (.bool (eqT (elt o 0) x))∧Below w.heap.size w w':=by
 have HA:=hid h
 obtain ⟨g,La,Ka,Lc,Kc,rfl,rfl,hff,hl,hkk⟩:=h.open
 have hnl:=hff.l1
 have HB1:Hid (Below w.heap.size w (w.alloc (.cells #[.int .i64 (kindOf o),.int .i64 (nOf o),.string (sOf o),.slice La (nL o) Lc,.slice Ka (nK o) Kc] 36))):=(Below.refl _ _).alloc (Nat.le_refl _) _
 have HD:=hid HB1.out.drew
 have HX:=hid (hb.stay HD.out)
 have HY:=hid ((box_new w (.int .i64 (kindOf o)) (.int .i64 (nOf o)) (.string (sOf o)) (.slice La (nL o) Lc) (.slice Ka (nK o) Kc)).stay (below_drew _))
 obtain ⟨eb,eo,A2,B2,C2,D2,rfl,hebl,e0,e1,e2,e3,e4,Ha⟩:=hl.out.shape HD.out 0 hlt
 rw [Nat.zero_mul,Nat.add_zero] at e0 e1 e2 e3 e4
 have HE:Hid (∀ (w':World),Below w.heap.size w w'→Calls Tryz.prog 90 #[.agg #[.int .i64 (kindOf (elt o 0)),.int .i64 (nOf (elt o 0)),.string (sOf (elt o 0)),.slice A2 (nL (elt o 0)) B2,.slice C2 (nK (elt o 0)) D2],.agg #[.int .i64 (kindOf x),.int .i64 (nOf x),.string (sOf x),.slice A (nL x) B,.slice C (nK x) D]] w' fun e w2=>e=.returned (.bool (eqT (elt o 0) x))∧Below w'.heap.size w' w2):=fun w' hb'=>equal16 (Ha.out.keep hb') (hx.keep hb') (by omega) ho hox
 generalize eqT (elt o 0) x=cc at HE ⊢
 have HEw:Hid (∀ w':World,Below (w.alloc (.cells #[.int .i64 (kindOf o),.int .i64 (nOf o),.string (sOf o),.slice (some ⟨eb,eo,none⟩) (nL o) Lc,.slice Ka (nK o) Kc] 36)).drew.heap.size (w.alloc (.cells #[.int .i64 (kindOf o),.int .i64 (nOf o),.string (sOf o),.slice (some ⟨eb,eo,none⟩) (nL o) Lc,.slice Ka (nK o) Kc] 36)).drew w'→(fun wx=>wx.cell? ⟨p,0,none⟩=some (.int .i64 (kindOf x))∧wx.cell? ⟨p,1,none⟩=some (.int .i64 (nOf x))∧wx.cell? ⟨p,2,none⟩=some (.string (sOf x))∧wx.cell? ⟨p,3,none⟩=some (.slice A (nL x) B)∧wx.cell? ⟨p,4,none⟩=some (.slice C (nK x) D)∧wx.cell? ⟨w.heap.size,3,none⟩=some (.slice (some ⟨eb,eo,none⟩) (nL o) Lc)∧wx.cell? ⟨eb,eo,none⟩=some (.int .i64 (kindOf (elt o 0)))∧wx.cell? ⟨eb,eo+1,none⟩=some (.int .i64 (nOf (elt o 0)))∧wx.cell? ⟨eb,eo+2,none⟩=some (.string (sOf (elt o 0)))∧wx.cell? ⟨eb,eo+3,none⟩=some (.slice A2 (nL (elt o 0)) B2)∧wx.cell? ⟨eb,eo+4,none⟩=some (.slice C2 (nK (elt o 0)) D2)) w'):=fun w' hb'=>by
  have a:=HX.out.stay hb'
  have b:=HY.out.stay hb'
  have hl':eb<(w.alloc (.cells #[.int .i64 (kindOf o),.int .i64 (nOf o),.string (sOf o),.slice (some ⟨eb,eo,none⟩) (nL o) Lc,.slice Ka (nK o) Kc] 36)).drew.heap.size:=Nat.lt_of_lt_of_le hebl HD.out.size
  exact ⟨a.q0,a.q1,a.q2,a.q3,a.q4,b.q3,(hb'.cell (p:=⟨eb,_,none⟩) hl').trans e0,(hb'.cell (p:=⟨eb,_,none⟩) hl').trans e1,(hb'.cell (p:=⟨eb,_,none⟩) hl').trans e2,(hb'.cell (p:=⟨eb,_,none⟩) hl').trans e3,(hb'.cell (p:=⟨eb,_,none⟩) hl').trans e4⟩
 have HSd:=hid (HEw.out _ (Below.refl _ _))
 have i0:(0:Int)<(nL o:Int):=by omega
 clear h hff hl hkk hf ho hx hox hb HA e0 e1 e2 e3 e4 Ha
 go_enter Tryz.func242,Tryz.ntmps242
 go_wp2_with fail
 go_region_held3 (fun wx=>wx.cell? ⟨p,0,none⟩=some (.int .i64 (kindOf x))∧wx.cell? ⟨p,1,none⟩=some (.int .i64 (nOf x))∧wx.cell? ⟨p,2,none⟩=some (.string (sOf x))∧wx.cell? ⟨p,3,none⟩=some (.slice A (nL x) B)∧wx.cell? ⟨p,4,none⟩=some (.slice C (nK x) D)∧wx.cell? ⟨w.heap.size,3,none⟩=some (.slice (some ⟨eb,eo,none⟩) (nL o) Lc)∧wx.cell? ⟨eb,eo,none⟩=some (.int .i64 (kindOf (elt o 0)))∧wx.cell? ⟨eb,eo+1,none⟩=some (.int .i64 (nOf (elt o 0)))∧wx.cell? ⟨eb,eo+2,none⟩=some (.string (sOf (elt o 0)))∧wx.cell? ⟨eb,eo+3,none⟩=some (.slice A2 (nL (elt o 0)) B2)∧wx.cell? ⟨eb,eo+4,none⟩=some (.slice C2 (nK (elt o 0)) D2)) (first | exact hS4 | exact HSd.out) ((go_at_call 90;refine (HE.out _ HD.out).mono ?_;rintro e4 w4 ⟨rfl,b4⟩;have hS4:=HEw.out _ b4))
 have HBf:=hid (HD.out.trans (b4.mono HD.out.size))
 clear b4 hS4
 go_wp2_with fail
 go_ret
 exact ⟨rfl,HBf.out⟩
end Go.Proofs.YtknakfpciccoaabGreatDoor
/- The groups, as they lie: what each block is for. -/
namespace Go.Proofs.YtknakfpciccoaabGreatDoor
open Go.RowKit
inductive Lab where
 | no
 | box
 | grp
 | row (i:Nat)
 | lst (i j:Nat)
def AccAt (w0:World) (L:Nat→Lab) (w:World) (i j:Nat) (op:ByteArray) (v:Value) (a:T):Prop :=
 (op≠gList∧At w0 13 v a∧(kindOf a≠0→okA a)) ∨
 (op=gList∧∃ A B zs,v=.agg #[.int .i64 (kindOf a),.int .i64 (nOf a),.string (sOf a),.slice A (nL a) B,.slice none 0 0]∧(a=zeroT∨a=mkT 5 0 ByteArray.empty (lOf a) [])∧w.ownsRow w0.heap.size 36 5 (.slice A (nL a) B) (nL a) zs∧nL a≤1000000∧(∀ b,(Value.slice A (nL a) B).ownBlock=some b→L b=.lst i j)∧∀ k,k<nL a→At w0 13 (fv zs k) (elt a k)∧okA (elt a k))
theorem AccAt.move {w0:World} {L L':Nat→Lab} {w w':World} {i j:Nat} {op:ByteArray} {v:Value} {a:T} (h:AccAt w0 L w i j op v a) (hb:∀ b,L b=.lst i j→L' b=.lst i j∧w'.heap[b]?=w.heap[b]?):AccAt w0 L' w' i j op v a:=by
 rcases h with h | ⟨h1,A,B,zs,h2,h3,h4,h5,h6,h7⟩
 ·exact .inl h
 ·exact .inr ⟨h1,A,B,zs,h2,h3,own_move h4 fun b hb'=>(hb b (h6 b hb')).2,h5,fun b hb'=>(hb b (h6 b hb')).1,h7⟩
theorem AccAt.at {w0:World} {L:Nat→Lab} {w:World} {i j:Nat} {op:ByteArray} {v:Value} {a:T} (h:AccAt w0 L w i j op v a) (hb:Below w0.heap.size w0 w):At w 14 v a:=by
 rcases h with ⟨_,h,_⟩ | ⟨_,A,B,zs,rfl,h3,h4,h5,_,h7⟩
 ·exact (h.keep hb).up (by omega)
 ·have hk:nK a=0:=by
   rcases h3 with h3 | h3
   ·rw [h3];rfl
   ·rw [h3];rfl
  have hz:zs.length=nL a*5:=h4.1
  have hfit:-9223372036854775808≤kindOf a∧kindOf a≤9223372036854775807∧nOf a=0∧sOf a=ByteArray.empty:=by
   rcases h3 with h3 | h3
   ·rw [h3];exact ⟨by show -9223372036854775808≤(0:Int);omega,by show (0:Int)≤_;omega,rfl,rfl⟩
   ·rw [h3];exact ⟨by show -9223372036854775808≤(5:Int);omega,by show (5:Int)≤_;omega,rfl,rfl⟩
  refine ⟨A,none,B,0,by rw [hk],⟨hfit.1,hfit.2.1,by rw [hfit.2.2.1];omega,by rw [hfit.2.2.1];omega,by rw [hfit.2.2.2];show (0:Nat)≤_;omega,by omega,by omega⟩,fun k hk'=>?_,fun k hk'=>by omega⟩
  rcases h4.2 with ⟨_,h0⟩ | ⟨g,cap,cur,h',hb0,hg,rest⟩
  ·omega
  ·simp only [Value.slice.injEq,true_and] at h'
   obtain ⟨rfl,rfl⟩:=h'
   have hc:∀ r,r<5→w.cell? ⟨g,k*5+r,none⟩=some (cx zs (k*5+r)):=fun r hr=>row_cell h4 (cx_some (by omega))
   refine ⟨g,0,cx zs (k*5),cx zs (k*5+1),cx zs (k*5+2),cx zs (k*5+3),cx zs (k*5+4),rfl,(Array.getElem?_eq_some_iff.1 hg).1,(by rw [Nat.zero_add];exact hc 0 (by omega)),(by rw [Nat.zero_add];exact hc 1 (by omega)),(by rw [Nat.zero_add];exact hc 2 (by omega)),(by rw [Nat.zero_add];exact hc 3 (by omega)),(by rw [Nat.zero_add];exact hc 4 (by omega)),?_⟩
   exact (h7 k hk').1.keep hb
structure GrI (w0:World) (c:Nat) (NA:Option Addr) (nc:Nat) (bv ev:Value) (ops:List ByteArray) (L:Nat→Lab) (gv:Value) (xs:List Value) (rb:Nat→Nat) (ys:Nat→List Value) (st:List (T×List T)) (w:World):Prop where
 lc:L c=.box
 low:∀ b,L b≠.no→w0.heap.size≤b∧b<w.heap.size
 c0:w.cell? ⟨c,0,none⟩=some (.slice none 0 0)
 c1:w.cell? ⟨c,1,none⟩=some (.slice NA (ops.length+1) nc)
 c2:w.cell? ⟨c,2,none⟩=some bv
 c3:w.cell? ⟨c,3,none⟩=some ev
 c4:w.cell? ⟨c,4,none⟩=some gv
 f0:w.frozen? ⟨c,0,none⟩=false
 f4:w.frozen? ⟨c,4,none⟩=false
 grow:w.ownsRow w0.heap.size 36 5 gv st.length xs
 gl:∀ b,gv.ownBlock=some b→L b=.grp
 el:∀ i,i<st.length→fv xs i=.agg #[.int .i64 6,.int .i64 0,.string ⟨#[]⟩,.slice (some ⟨rb i,0,none⟩) (ops.length+1) (ops.length+1),.slice NA (ops.length+1) nc]
 rl:∀ i,i<st.length→L (rb i)=.row i
 row:∀ i,i<st.length→w.ownsRow w0.heap.size 36 5 (.slice (some ⟨rb i,0,none⟩) (ops.length+1) (ops.length+1)) (ops.length+1) (ys i)
 by_:∀ i,(h:i<st.length)→At w0 13 (fv (ys i) 0) st[i].1∧okA st[i].1
 len:∀ i,(h:i<st.length)→st[i].2.length=ops.length
 acc:∀ i,(h:i<st.length)→∀ j,(hj:j<ops.length)→AccAt w0 L w i j ops[j] (fv (ys i) (j+1)) (st[i].2.getD j zeroT)
theorem GrI.move {w0:World} {c:Nat} {NA:Option Addr} {nc:Nat} {bv ev:Value} {ops:List ByteArray} {L L':Nat→Lab} {gv:Value} {xs:List Value} {rb:Nat→Nat} {ys:Nat→List Value} {st:List (T×List T)} {w w':World} (h:GrI w0 c NA nc bv ev ops L gv xs rb ys st w) (hl:∀ b,L b≠.no→L' b=L b∧w'.heap[b]?=w.heap[b]?) (hn:∀ b,L' b≠.no→w0.heap.size≤b∧b<w'.heap.size):GrI w0 c NA nc bv ev ops L' gv xs rb ys st w':=by
 obtain ⟨k1,k2⟩:=hl c (by rw [h.lc];intro e;cases e)
 refine ⟨k1.trans h.lc,hn,(cell_of k2 0).trans h.c0,(cell_of k2 1).trans h.c1,(cell_of k2 2).trans h.c2,(cell_of k2 3).trans h.c3,(cell_of k2 4).trans h.c4,(World.frozen?_of_block (a:=⟨c,0,none⟩) k2).trans h.f0,(World.frozen?_of_block (a:=⟨c,4,none⟩) k2).trans h.f4,own_move h.grow fun b e=>(hl b (by rw [h.gl b e];intro e;cases e)).2,fun b e=>(hl b (by rw [h.gl b e];intro e;cases e)).1.trans (h.gl b e),h.el,fun i hi=>(hl _ (by rw [h.rl i hi];intro e;cases e)).1.trans (h.rl i hi),fun i hi=>own_move (h.row i hi) fun b e=>?_,h.by_,h.len,fun i hi j hj=>(h.acc i hi j hj).move fun b e=>?_⟩
 ·obtain rfl:rb i=b:=by simpa [Value.ownBlock] using e
  exact (hl _ (by rw [h.rl i hi];intro e;cases e)).2
 ·have:=hl b (by rw [e];intro e;cases e)
  exact ⟨this.1.trans e,this.2⟩
theorem GrI.keep {w0:World} {c:Nat} {NA:Option Addr} {nc:Nat} {bv ev:Value} {ops:List ByteArray} {L:Nat→Lab} {gv:Value} {xs:List Value} {rb:Nat→Nat} {ys:Nat→List Value} {st:List (T×List T)} {w w':World} (h:GrI w0 c NA nc bv ev ops L gv xs rb ys st w) (hb:Below w.heap.size w w'):GrI w0 c NA nc bv ev ops L gv xs rb ys st w' :=
 h.move (fun b hl=>⟨rfl,hb.block b (h.low b hl).2⟩) (fun b hl=>⟨(h.low b hl).1,Nat.lt_of_lt_of_le (h.low b hl).2 hb.size⟩)
def grpT (ks:List ByteArray) (s:T×List T):T:=mkT 6 0 ByteArray.empty (s.1::s.2) ks
theorem GrI.grp {w0:World} {c:Nat} {NA:Option Addr} {nc:Nat} {bv ev:Value} {ops:List ByteArray} {L:Nat→Lab} {gv:Value} {xs:List Value} {rb:Nat→Nat} {ys:Nat→List Value} {st:List (T×List T)} {w:World} (h:GrI w0 c NA nc bv ev ops L gv xs rb ys st w) (hb:Below w0.heap.size w0 w) {ks:List ByteArray} (hk:StrsAt w0 (.slice NA (ops.length+1) nc) ks) (ho:ops.length≤100000) {i:Nat} (hi:i<st.length):At w 15 (fv xs i) (grpT ks st[i]):=by
 obtain ⟨C,D,e1,hkn,hks⟩:=hk
 simp only [Value.slice.injEq] at e1
 obtain ⟨rfl,e2,rfl⟩:=e1
 have hlen:=h.len i hi
 rw [h.el i hi]
 have hr:=h.row i hi
 have hy:(ys i).length=(ops.length+1)*5:=hr.1
 refine ⟨some ⟨rb i,0,none⟩,NA,ops.length+1,nc,?_,?_,fun j hj=>?_,fun j hj=>?_⟩
 ·unfold grpT
  rw [kindOf_mk,nOf_mk,sOf_mk,nL_mk,nK_mk,List.length_cons,hlen,← e2]
  rfl
 ·unfold grpT
  exact ⟨by rw [kindOf_mk];omega,by rw [kindOf_mk];omega,by rw [nOf_mk];omega,by rw [nOf_mk];omega,by rw [sOf_mk];show (0:Nat)≤_;omega,by rw [nL_mk,List.length_cons,hlen];omega,by rw [nK_mk];exact hkn⟩
 ·unfold grpT at hj
  rw [nL_mk,List.length_cons,hlen] at hj
  have hc:∀ r,r<5→w.cell? ⟨rb i,j*5+r,none⟩=some (cx (ys i) (j*5+r)):=fun r hr'=>row_cell hr (cx_some (by omega))
  refine ⟨rb i,0,cx (ys i) (j*5),cx (ys i) (j*5+1),cx (ys i) (j*5+2),cx (ys i) (j*5+3),cx (ys i) (j*5+4),rfl,(hr.lt _ rfl).2,(by rw [Nat.zero_add];exact hc 0 (by omega)),(by rw [Nat.zero_add];exact hc 1 (by omega)),(by rw [Nat.zero_add];exact hc 2 (by omega)),(by rw [Nat.zero_add];exact hc 3 (by omega)),(by rw [Nat.zero_add];exact hc 4 (by omega)),?_⟩
  show At w 14 (fv (ys i) j) (elt (grpT ks st[i]) j)
  cases j with
  | zero=>exact ((h.by_ i hi).1.keep hb).up (by omega)
  | succ j =>
   have e3:elt (grpT ks st[i]) (j+1)=st[i].2.getD j zeroT:=by
    unfold grpT
    rw [elt_mk,List.getD_cons_succ,List.getD_eq_getElem?_getD,List.getD_eq_getElem?_getD,List.getElem?_eq_getElem (by omega)]
    rfl
   rw [e3]
   exact (h.acc i hi j (by omega)).at hb
 ·unfold grpT at hj
  rw [nK_mk] at hj
  obtain ⟨b,o,h0,hbl,hsz,hc⟩:=hks j hj
  unfold grpT
  refine ⟨b,o,h0,Nat.lt_of_lt_of_le hbl hb.size,?_,?_⟩
  ·rw [nam_mk];exact hsz
  ·rw [nam_mk,hb.cell (p:=⟨b,_,none⟩) hbl];exact hc
theorem GrI.elems {w0:World} {c:Nat} {NA:Option Addr} {nc:Nat} {bv ev:Value} {ops:List ByteArray} {L:Nat→Lab} {gv:Value} {xs:List Value} {rb:Nat→Nat} {ys:Nat→List Value} {st:List (T×List T)} {w:World} (h:GrI w0 c NA nc bv ev ops L gv xs rb ys st w) (hb:Below w0.heap.size w0 w) {ks:List ByteArray} (hk:StrsAt w0 (.slice NA (ops.length+1) nc) ks) (ho:ops.length≤100000) :
  ∃ GA gc,gv=.slice GA st.length gc∧ElemsAt w 15 GA (mkT 5 0 ByteArray.empty (st.map (grpT ks)) []):=by
 have hx:xs.length=st.length*5:=h.grow.1
 have hg:=h.grow
 rcases h.grow.2 with ⟨rfl,h0⟩ | ⟨g,cap,cur,rfl,hb0,hgb,rest⟩
 ·exact ⟨none,0,by rw [h0],fun i hi=>by rw [nL_mk,List.length_map] at hi;omega⟩
 ·refine ⟨_,_,rfl,fun i hi=>?_⟩
  rw [nL_mk,List.length_map] at hi
  have hc:∀ r,r<5→w.cell? ⟨g,i*5+r,none⟩=some (cx xs (i*5+r)):=fun r hr'=>row_cell hg (cx_some (by omega))
  refine ⟨g,0,cx xs (i*5),cx xs (i*5+1),cx xs (i*5+2),cx xs (i*5+3),cx xs (i*5+4),rfl,(Array.getElem?_eq_some_iff.1 hgb).1,(by rw [Nat.zero_add];exact hc 0 (by omega)),(by rw [Nat.zero_add];exact hc 1 (by omega)),(by rw [Nat.zero_add];exact hc 2 (by omega)),(by rw [Nat.zero_add];exact hc 3 (by omega)),(by rw [Nat.zero_add];exact hc 4 (by omega)),?_⟩
  rw [elt_docs _ (by rw [List.length_map];exact hi),List.getElem_map]
  exact h.grp hb hk ho hi
end Go.Proofs.YtknakfpciccoaabGreatDoor
/- A new group is laid behind the others: the worlds. -/
namespace Go.Proofs.YtknakfpciccoaabGreatDoor
open Go.RowKit
structure GFin (lo c g n cap:Nat) (xs cs:List Value) (w6 wF:World):Prop where
 os:wF.os=w6.os
 tape:wF.tape=w6.tape
 output:wF.output=w6.output
 size:wF.heap.size=w6.heap.size
 fr:∀ b,b≠c→b≠g→wF.heap[b]?=w6.heap[b]?
 row:wF.ownsRow lo 36 5 (.slice (some ⟨g,0,none⟩) (n+1) cap) (n+1) (xs++cs)
 c4:wF.cell? ⟨c,4,none⟩=some (.slice (some ⟨g,0,none⟩) (n+1) cap)
 off:∀ o,o≠4→wF.cell? ⟨c,o,none⟩=w6.cell? ⟨c,o,none⟩
 fz:∀ o,wF.frozen? ⟨c,o,none⟩=w6.frozen? ⟨c,o,none⟩
theorem gfinA {lo c g n cap:Nat} {xs:List Value} {y0 y1 y2 y3 y4:Value} {w6:World} (h:w6.ownsRow lo 36 5 (.slice (some ⟨g,0,none⟩) (n+1) cap) (n+1) (xs++[y0,y1,y2,y3,y4])) (hx:xs.length=n*5) (hgc:g≠c) {gv:Value} (hc:w6.cell? ⟨c,4,none⟩=some gv) (u0 u1 u2 u3 u4:Value) :
  GFin lo c g n cap xs [u0,u1,u2,u3,u4] w6 ((put5o w6 g (n*5) u0 u1 u2 u3 u4).setCell ⟨c,4,none⟩ (.slice (some ⟨g,0,none⟩) (n+1) cap)):=by
 obtain ⟨r1,r2,r3,r4⟩:=put5o_rest w6 g (n*5) u0 u1 u2 u3 u4
 have hoth:∀ b,b≠g→(put5o w6 g (n*5) u0 u1 u2 u3 u4).heap[b]?=w6.heap[b]?:=fun b hb=>put5o_other w6 hb _ _ _ _ _ _
 have hrow:=row_put5o h hx u0 u1 u2 u3 u4
 generalize put5o w6 g (n*5) u0 u1 u2 u3 u4=w7 at r1 r2 r3 r4 hoth hrow ⊢
 have hcb:=hoth c (Ne.symm hgc)
 obtain ⟨t1,t2,t3,t4⟩:=setC_rest w7 ⟨c,4,none⟩ (.slice (some ⟨g,0,none⟩) (n+1) cap)
 refine ⟨t2.trans r2,t3.trans r3,t4.trans r4,t1.trans r1,fun b h1 h2=>(Below.heap_setCell _ _ _ _ (by simpa using h1)).trans (hoth b h2),ownsRow_setCell_other (a:=⟨c,4,none⟩) hrow (by simpa [Value.ownBlock] using hgc) _,World.cell?_setCell_same w7 ⟨c,4,none⟩ _ ((cell_of hcb 4).trans hc),fun o ho=>?_,fun o=>?_⟩
 ·rw [World.cell?_setCell_other _ _ _ _ (by simp)]
  exact cell_of hcb o
 ·rw [World.frozen?_setCell]
  exact World.frozen?_of_block (a:=⟨c,o,none⟩) hcb
theorem gfinB {lo c g n cap:Nat} {xs:List Value} {y0 y1 y2 y3 y4:Value} {w6:World} (h:w6.ownsRow lo 36 5 (.slice (some ⟨g,0,none⟩) (n+1) cap) (n+1) (xs++[y0,y1,y2,y3,y4])) (hx:xs.length=n*5) (hgc:g≠c) {gv:Value} (hc:w6.cell? ⟨c,4,none⟩=some gv) (u0 u1 u2 u3 u4:Value) :
  GFin lo c g n cap xs [u0,u1,u2,u3,u4] w6 (put5o (w6.setCell ⟨c,4,none⟩ (.slice (some ⟨g,0,none⟩) (n+1) cap)) g (n*5) u0 u1 u2 u3 u4):=by
 obtain ⟨t1,t2,t3,t4⟩:=setC_rest w6 ⟨c,4,none⟩ (.slice (some ⟨g,0,none⟩) (n+1) cap)
 have k3:=ownsRow_setCell_other (a:=⟨c,4,none⟩) h (by simpa [Value.ownBlock] using hgc) (.slice (some ⟨g,0,none⟩) (n+1) cap)
 have k1:=World.cell?_setCell_same w6 ⟨c,4,none⟩ (.slice (some ⟨g,0,none⟩) (n+1) cap) hc
 have k4:∀ b,b≠c→(w6.setCell ⟨c,4,none⟩ (.slice (some ⟨g,0,none⟩) (n+1) cap)).heap[b]?=w6.heap[b]?:=fun b hb=>Below.heap_setCell _ _ _ _ (by simpa using hb)
 have k5:∀ o,o≠4→(w6.setCell ⟨c,4,none⟩ (.slice (some ⟨g,0,none⟩) (n+1) cap)).cell? ⟨c,o,none⟩=w6.cell? ⟨c,o,none⟩:=fun o ho=>World.cell?_setCell_other _ _ _ _ (by simp)
 have k6:∀ o,(w6.setCell ⟨c,4,none⟩ (.slice (some ⟨g,0,none⟩) (n+1) cap)).frozen? ⟨c,o,none⟩=w6.frozen? ⟨c,o,none⟩:=fun o=>World.frozen?_setCell _ _ _ _
 generalize w6.setCell ⟨c,4,none⟩ (.slice (some ⟨g,0,none⟩) (n+1) cap)=w7 at *
 obtain ⟨r1,r2,r3,r4⟩:=put5o_rest w7 g (n*5) u0 u1 u2 u3 u4
 have hoth:∀ b,b≠g→(put5o w7 g (n*5) u0 u1 u2 u3 u4).heap[b]?=w7.heap[b]?:=fun b hb=>put5o_other w7 hb _ _ _ _ _ _
 have hrow:=row_put5o k3 hx u0 u1 u2 u3 u4
 generalize put5o w7 g (n*5) u0 u1 u2 u3 u4=w8 at *
 have hcb:=hoth c (Ne.symm hgc)
 exact ⟨r2.trans t2,r3.trans t3,r4.trans t4,r1.trans t1,fun b h1 h2=>(hoth b h2).trans (k4 b h1),hrow,(cell_of hcb 4).trans k1,fun o ho=>(cell_of hcb o).trans (k5 o ho),fun o=>(World.frozen?_of_block (a:=⟨c,o,none⟩) hcb).trans (k6 o)⟩
theorem GrI.snoc {w0:World} {c:Nat} {NA:Option Addr} {nc:Nat} {bv ev:Value} {ops:List ByteArray} {L:Nat→Lab} {gv:Value} {xs:List Value} {rb:Nat→Nat} {ys:Nat→List Value} {st:List (T×List T)} {w2 W4 w6 wF:World} (h:GrI w0 c NA nc bv ev ops L gv xs rb ys st w2) (hb:Below w2.heap.size w2 W4) (hG:W4.grownBy w6 gv.ownBlock) {g cap:Nat} (hg:gv.ownBlock=some g∨W4.heap.size≤g) (hgl:g<w6.heap.size) {r:Nat} {zs:List Value} (hr0:w2.heap.size≤r) (hr:W4.ownsRow w2.heap.size 36 5 (.slice (some ⟨r,0,none⟩) (ops.length+1) (ops.length+1)) (ops.length+1) zs) {b:T} (hz0:At w0 13 (fv zs 0) b) (hbk:okA b) (hzk:∀ k,1≤k→k<ops.length+1→fv zs k=.agg #[.int .i64 0,.int .i64 0,.string ⟨#[]⟩,.slice none 0 0,.slice none 0 0])
  (hF:GFin w0.heap.size c g st.length cap xs [.int .i64 6,.int .i64 0,.string ⟨#[]⟩,.slice (some ⟨r,0,none⟩) (ops.length+1) (ops.length+1),.slice NA (ops.length+1) nc] w6 wF) :
  Below w0.heap.size w2 wF∧∃ L' xs',(∀ b,b<w2.heap.size→L b=.no→L' b=.no∧wF.heap[b]?=w2.heap[b]?)∧GrI w0 c NA nc bv ev ops L' (.slice (some ⟨g,0,none⟩) (st.length+1) cap) xs' (fun i=>if i=st.length then r else rb i) (fun i=>if i=st.length then zs else ys i) (st++[(b,List.replicate ops.length zeroT)]) wF:=by
 have s1:=hb.size
 have s2:=hG.size
 have s3:=hF.size
 have hcl:=h.low c (by rw [h.lc];intro e;cases e)
 have hrl:=(hr.lt r rfl).2
 have hgo:∀ b,gv.ownBlock=some b→w0.heap.size≤b∧b<w2.heap.size:=fun b e=>h.low b (by rw [h.gl b e];intro e;cases e)
 have hxl:xs.length=st.length*5:=h.grow.1
 have old:∀ b,b<w2.heap.size→b≠c→gv.ownBlock≠some b→wF.heap[b]?=w2.heap[b]?:=fun b h1 h2 h3=>(hF.fr b h2 (fun e=>by subst e;rcases hg with hg | hg;exact h3 hg;omega)).trans ((hG.block b (by omega) (fun e=>h3 e.symm)).trans (hb.block b h1))
 have hcell:∀ o,w6.cell? ⟨c,o,none⟩=w2.cell? ⟨c,o,none⟩:=fun o=>(cell_of (hG.block c (by omega) (fun e=>by have:=h.gl c e.symm;rw [h.lc] at this;cases this)) o).trans (hb.cell (p:=⟨c,o,none⟩) hcl.2)
 have hfz:∀ o,w6.frozen? ⟨c,o,none⟩=w2.frozen? ⟨c,o,none⟩:=fun o=>(World.frozen?_of_block (a:=⟨c,o,none⟩) (hG.block c (by omega) (fun e=>by have:=h.gl c e.symm;rw [h.lc] at this;cases this))).trans (World.frozen?_of_block (a:=⟨c,o,none⟩) (hb.block c hcl.2))
 have hrg:r≠g:=fun e=>by
  subst e
  rcases hg with hg | hg
  ·have:=(hgo r hg).2;omega
  ·omega
 have hw0:w0.heap.size≤g:=by
  rcases hg with hg | hg
  ·exact (hgo g hg).1
  ·omega
 refine ⟨⟨hF.os.trans (hG.os.trans hb.os),hF.tape.trans (hG.tape.trans hb.tape),hF.output.trans (hG.output.trans hb.output),by omega,fun b hb'=>old b (by omega) (by omega) (fun e=>by have:=(hgo b e).1;omega)⟩,fun b=>if b<w2.heap.size then L b else if b=g then .grp else if b=r then .row st.length else .no,_,fun b h1 h2=>⟨by simp only [if_pos h1];exact h2,old b h1 (fun e=>by rw [e,h.lc] at h2;cases h2) (fun e=>by rw [h.gl _ e] at h2;cases h2)⟩,?_,?_,(hF.off 0 (by omega)).trans ((hcell 0).trans h.c0),(hF.off 1 (by omega)).trans ((hcell 1).trans h.c1),(hF.off 2 (by omega)).trans ((hcell 2).trans h.c2),(hF.off 3 (by omega)).trans ((hcell 3).trans h.c3),hF.c4,(hF.fz 0).trans ((hfz 0).trans h.f0),(hF.fz 4).trans ((hfz 4).trans h.f4),by rw [List.length_append];exact hF.row,?_,?_,?_,?_,?_,?_,?_⟩
 ·simp only [if_pos hcl.2];exact h.lc
 ·intro b hb'
  by_cases e1:b<w2.heap.size
  ·simp only [if_pos e1] at hb'
   have:=h.low b hb'
   omega
  ·by_cases e2:b=g
   ·omega
   ·by_cases e3:b=r
    ·omega
    ·simp only [if_neg e1,if_neg e2,if_neg e3] at hb'
     exact absurd rfl hb'
 ·intro b e
  obtain rfl:g=b:=by simpa [Value.ownBlock] using e
  by_cases e1:g<w2.heap.size
  ·simp only [if_pos e1]
   rcases hg with hg | hg
   ·exact h.gl g hg
   ·omega
  ·simp only [if_neg e1,if_true]
 ·intro i hi
  rw [List.length_append,List.length_cons,List.length_nil] at hi
  by_cases e:i<st.length
  ·rw [fv_first hxl e,if_neg (by omega)];exact h.el i e
  ·obtain rfl:i=st.length:=by omega
   rw [fv_last hxl,if_pos rfl]
 ·intro i hi
  rw [List.length_append,List.length_cons,List.length_nil] at hi
  by_cases e:i<st.length
  ·have h1:=h.rl i e
   have h2:=h.low (rb i) (by rw [h1];intro e;cases e)
   simp only [if_neg (show ¬ i=st.length by omega),if_pos h2.2]
   exact h1
  ·obtain rfl:i=st.length:=by omega
   simp only [if_true,if_neg (show ¬ r<w2.heap.size by omega),if_neg hrg]
 ·intro i hi
  rw [List.length_append,List.length_cons,List.length_nil] at hi
  by_cases e:i<st.length
  ·have h1:=h.rl i e
   have h2:=h.low (rb i) (by rw [h1];intro e;cases e)
   simp only [if_neg (show ¬ i=st.length by omega)]
   refine own_move (h.row i e) fun b' e'=>?_
   obtain rfl:rb i=b':=by simpa [Value.ownBlock] using e'
   exact old _ h2.2 (fun e=>by rw [e,h.lc] at h1;cases h1) (fun e=>by rw [h.gl _ e] at h1;cases h1)
  ·obtain rfl:i=st.length:=by omega
   simp only [if_true]
   refine row_base2 (own_move hr fun b' e'=>?_) (by omega)
   obtain rfl:r=b':=by simpa [Value.ownBlock] using e'
   exact (hF.fr r (by omega) hrg).trans (hG.block r hrl (fun e=>by have:=(hgo r e.symm).2;omega))
 ·intro i hi
  rw [List.length_append,List.length_cons,List.length_nil] at hi
  by_cases e:i<st.length
  ·simp only [if_neg (show ¬ i=st.length by omega),List.getElem_append_left e]
   exact h.by_ i e
  ·obtain rfl:i=st.length:=by omega
   simp only [if_true,List.getElem_append_right (Nat.le_refl _),Nat.sub_self,List.getElem_cons_zero]
   exact ⟨hz0,hbk⟩
 ·intro i hi
  rw [List.length_append,List.length_cons,List.length_nil] at hi
  by_cases e:i<st.length
  ·rw [List.getElem_append_left e];exact h.len i e
  ·obtain rfl:i=st.length:=by omega
   simp only [List.getElem_append_right (Nat.le_refl _),Nat.sub_self,List.getElem_cons_zero,List.length_replicate]
 ·intro i hi j hj
  rw [List.length_append,List.length_cons,List.length_nil] at hi
  by_cases e:i<st.length
  ·simp only [if_neg (show ¬ i=st.length by omega),List.getElem_append_left e]
   refine (h.acc i e j hj).move fun b' e'=>?_
   have h2:=h.low b' (by rw [e'];intro e;cases e)
   simp only [if_pos h2.2]
   exact ⟨e',old _ h2.2 (fun e=>by rw [e,h.lc] at e';cases e') (fun e=>by rw [h.gl _ e] at e';cases e')⟩
  ·obtain rfl:i=st.length:=by omega
   simp only [if_true,List.getElem_append_right (Nat.le_refl _),Nat.sub_self,List.getElem_cons_zero]
   rw [hzk (j+1) (by omega) (by omega)]
   have ez:(List.replicate ops.length zeroT).getD j zeroT=zeroT:=by
    rw [List.getD_eq_getElem?_getD]
    simp [hj]
   rw [ez]
   by_cases eg:ops[j]=gList
   ·exact .inr ⟨eg,none,0,[],rfl,.inl rfl,World.ownsRow_nil _ _ _ _,by show (0:Nat)≤_;omega,fun b e=>by simp [Value.ownBlock] at e,fun k hk=>absurd hk (Nat.not_lt_zero k)⟩
   ·exact .inl ⟨eg,(zero_at w0).up (by omega),fun hk=>absurd rfl hk⟩
end Go.Proofs.YtknakfpciccoaabGreatDoor
