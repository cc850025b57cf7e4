import Derived.Test.YtknakfpciccoaabGreatDoorZL7
/- A list that a parser makes: what holds in memory while it grows. -/
set_option maxHeartbeats 4000000
set_option maxRecDepth 100000
namespace Go.Proofs.YtknakfpciccoaabGreatDoor
open Go.RowKit
structure JI (f:Nat) (k:Int) (c:Nat) (w:World) (rb bx lo:Nat) (L:List T) (K:List ByteArray) (Lv Kv:Value) (xs:List Value) (sub:Nat->List kV) (wr:World):Prop where
 grow:qo lo f wr Lv Kv L K xs sub
 res:aH rb (.int .i64 0) (.int .i64 0) (.string ⟨#[]⟩) (.slice none 0 0) (.slice none 0 0) wr
 box:aH bx (.int .i64 k) (.int .i64 0) (.string ⟨#[]⟩) Lv Kv wr
 but:bI c w wr
 lc:c<w.heap.size
 l1:w.heap.size<=rb
 l2:w.heap.size<=bx
 l3:rb<lo
 l4:bx<lo
 l5:rb≠bx
section
variable {f : Nat} {k : Int} {c : Nat} {w : World} {rb bx lo : Nat} {L : List T} {K : List ByteArray} {Lv Kv : Value} {xs : List Value} {sub : Nat -> List kV} {wr : World}
theorem JI.inner (h:JI f k c w rb bx lo L K Lv Kv xs sub wr) {w1:World} (hB:bI c wr w1):JI f k c w rb bx lo L K Lv Kv xs sub w1:=by
 have h0:=h.lc;have h1:=h.l1;have h2:=h.l2;have h3:=h.l3;have h4:=h.l4;exact ⟨h.grow.move hB.size (fun b hb hh=>hB.block b hh (by omega)),h.res.move hB.size (hB.block _ h.res.lt (by omega)),h.box.move hB.size (hB.block _ h.box.lt (by omega)),h.but.trans hB,h0,h1,h2,h3,h4,h.l5⟩
theorem JI.keep (h:JI f k c w rb bx lo L K Lv Kv xs sub wr) {w1:World} (hB:Below wr.heap.size wr w1):JI f k c w rb bx lo L K Lv Kv xs sub w1:=h.inner (bI.of hB)
theorem JI.aht (h:JI f k c w rb bx lo L K Lv Kv xs sub wr) {w2:World} {QI:Value} {nm:ByteArray} (hk:nm.size<=140737488355328)
  (hO:w2.ownsRow lo eS 1 QI (K.length+1) (gG K++[.string nm])) (hG:wr.grownBy w2 Kv.ownBlock) (hN:Av wr Kv QI):JI f k c w rb bx lo L (K++[nm]) Lv QI xs sub (w2.setCell ⟨bx,4,none⟩ QI)/\(w2.setCell ⟨bx,4,none⟩ QI).heap[c]?=wr.heap[c]?/\wr.heap.size<=(w2.setCell ⟨bx,4,none⟩ QI).heap.size:=by
 have h0:=h.lc;have h1:=h.l1;have h2:=h.l2;have h3:=h.l3;have h4:=h.l4;have h5:=h.l5
 have hne:∀ b,b<lo->some b≠Kv.ownBlock:=fun b hb e=>by
  have:=(h.grow.Ja.lt b e.symm).1;omega
 have hblk:∀ b,b<wr.heap.size->b<lo->w2.heap[b]?=wr.heap[b]?:=fun b hb hh=>hG.block b hb (hne b hh);have hset:∀ b,b≠bx->(w2.setCell ⟨bx,4,none⟩ QI).heap[b]?=w2.heap[b]?:=fun b hb=>Below.heap_setCell _ _ _ _ (by simpa using hb);have hsz:(w2.setCell ⟨bx,4,none⟩ QI).heap.size=w2.heap.size:=by simp [World.setCell]
 have hs2:=hG.size;have hb:=h.but;have hbs:=hb.size;refine ⟨⟨(h.grow.ahq nm hk hO hG hN).set _ _ _ (by omega),h.res.move (by omega) ((hset _ (by omega)).trans (hblk _ h.res.lt (by omega))),(h.box.move hs2 (hblk _ h.box.lt (by omega))).aeQ QI,?_,h0,h1,h2,h3,h4,h5⟩,(hset _ (by omega)).trans (hblk _ (by omega) (by omega)),by omega⟩;refine ⟨hG.os.trans hb.os,hG.tape.trans hb.tape,hG.output.trans hb.output,by omega,fun i hi hc=>?_⟩;exact (hset i (by omega)).trans ((hblk i (by omega) (by omega)).trans (hb.block i hi hc))
theorem JI.abH (h:JI f k c w rb bx lo L K Lv Kv xs sub wr) {w2:World} {QJ:Value} {x:T} {es:List kV} {c0 c1 c2 c3 c4:Value} (hF:iy wr f (.agg #[c0,c1,c2,c3,c4]) x es)
  (hS:qm lo wr (kW sub L.length++es++[⟨Lv,L.length,Kv,K.length⟩])) (hO:w2.ownsRow lo eV 5 QJ (L.length+1) (xs++[c0,c1,c2,c3,c4])) (hG:wr.grownBy w2 Lv.ownBlock) (hN:Av wr Lv QJ) :
  JI f k c w rb bx lo (L++[x]) K QJ Kv (xs++[c0,c1,c2,c3,c4]) (Jb sub L.length es) (w2.setCell ⟨bx,3,none⟩ QJ)/\(w2.setCell ⟨bx,3,none⟩ QJ).heap[c]?=wr.heap[c]?/\wr.heap.size<=(w2.setCell ⟨bx,3,none⟩ QJ).heap.size:=by
 have h0:=h.lc;have h1:=h.l1;have h2:=h.l2;have h3:=h.l3;have h4:=h.l4;have h5:=h.l5
 have hne:∀ b,b<lo->some b≠Lv.ownBlock:=fun b hb e=>by
  have:=(h.grow.zm.lt b e.symm).1;omega
 have hblk:∀ b,b<wr.heap.size->b<lo->w2.heap[b]?=wr.heap[b]?:=fun b hb hh=>hG.block b hb (hne b hh);have hset:∀ b,b≠bx->(w2.setCell ⟨bx,3,none⟩ QJ).heap[b]?=w2.heap[b]?:=fun b hb=>Below.heap_setCell _ _ _ _ (by simpa using hb);have hsz:(w2.setCell ⟨bx,3,none⟩ QJ).heap.size=w2.heap.size:=by simp [World.setCell]
 have hs2:=hG.size;have hb:=h.but;have hbs:=hb.size;refine ⟨⟨(h.grow.ahr hF hS hO hG hN).set _ _ _ (by omega),h.res.move (by omega) ((hset _ (by omega)).trans (hblk _ h.res.lt (by omega))),(h.box.move hs2 (hblk _ h.box.lt (by omega))).aeP QJ,?_,h0,h1,h2,h3,h4,h5⟩,(hset _ (by omega)).trans (hblk _ (by omega) (by omega)),by omega⟩;refine ⟨hG.os.trans hb.os,hG.tape.trans hb.tape,hG.output.trans hb.output,by omega,fun i hi hc=>?_⟩;exact (hset i (by omega)).trans ((hblk i (by omega) (by omega)).trans (hb.block i hi hc))
theorem JI.Um (h:JI f k c w rb bx lo L K Lv Kv xs sub wr) {w1:World} {es:List kV} (hB:bI c wr w1) (hS:qm wr.heap.size w1 es):qm lo w1 (kW sub L.length++es++[⟨Lv,L.length,Kv,K.length⟩]) :=
 h.grow.sep.child hB.size hS h.grow.low
theorem JI.aaJ (h:JI f k c w rb bx lo L K Lv Kv xs sub wr) {w6:World} {x:T} {es:List kV} {c0 c1 c2 c3 c4:Value} {lo' g cap:Nat} (o:Obj) (hF:iy wr f (.agg #[c0,c1,c2,c3,c4]) x es) (hS':qm lo' wr es)
  (hS:qm lo wr (kW sub L.length++es++[⟨Lv,L.length,Kv,K.length⟩])) (hO:w6.ownsRow lo eV 5 (.slice (some ⟨g,0,none⟩) (L.length+1) cap) (L.length+1) (xs++[c0,c1,c2,c3,c4])) (hG:(wr.alloc o).grownBy w6 Lv.ownBlock) (hat:Lv.ownBlock=some g\/g=wr.heap.size+1) :
  JI f k c w rb bx lo (L++[x]) K (.slice (some ⟨g,0,none⟩) (L.length+1) cap) Kv (xs++[c0,c1,c2,c3,c4]) (Jb sub L.length es) (w6.setCell ⟨bx,3,none⟩ (.slice (some ⟨g,0,none⟩) (L.length+1) cap))/\(w6.setCell ⟨bx,3,none⟩ (.slice (some ⟨g,0,none⟩) (L.length+1) cap)).heap[c]?=wr.heap[c]?/\wr.heap.size<=(w6.setCell ⟨bx,3,none⟩ (.slice (some ⟨g,0,none⟩) (L.length+1) cap)).heap.size:=by
 have hb:Below wr.heap.size wr (wr.alloc o):=aQ _ _;have h0:=h.lc;have hbs:=h.but.size;have:=(h.keep hb).abH (hF.keep hS' hb) (hS.keep hb.size) hO hG (Ji o hat);exact ⟨this.1,this.2.1.trans (hb.block _ (by omega)),Nat.le_trans hb.size this.2.2⟩
theorem JI.aeR (h:JI f k c w rb bx lo L K Lv Kv xs sub wr) {w6:World} {nm:ByteArray} {g cap:Nat} (o:Obj) (hk:nm.size<=140737488355328)
  (hO:w6.ownsRow lo eS 1 (.slice (some ⟨g,0,none⟩) (K.length+1) cap) (K.length+1) (gG K++[.string nm])) (hG:(wr.alloc o).grownBy w6 Kv.ownBlock) (hat:Kv.ownBlock=some g\/g=wr.heap.size+1) :
  JI f k c w rb bx lo L (K++[nm]) Lv (.slice (some ⟨g,0,none⟩) (K.length+1) cap) xs sub (w6.setCell ⟨bx,4,none⟩ (.slice (some ⟨g,0,none⟩) (K.length+1) cap))/\(w6.setCell ⟨bx,4,none⟩ (.slice (some ⟨g,0,none⟩) (K.length+1) cap)).heap[c]?=wr.heap[c]?/\wr.heap.size<=(w6.setCell ⟨bx,4,none⟩ (.slice (some ⟨g,0,none⟩) (K.length+1) cap)).heap.size:=by
 have hb:Below wr.heap.size wr (wr.alloc o):=aQ _ _;have h0:=h.lc;have hbs:=h.but.size;have:=(h.keep hb).aht hk hO hG (Ji o hat);exact ⟨this.1,this.2.1.trans (hb.block _ (by omega)),Nat.le_trans hb.size this.2.2⟩
theorem JI.wz {e:TypeId} {size n:Nat} {v:Value} {ys:List Value} (h:JI f k c w rb bx lo L K Lv Kv xs sub wr) {w2:World} (hG:wr.grownBy w2 v.ownBlock) (hO:wr.ownsRow lo e size v n ys):aH bx (.int .i64 k) (.int .i64 0) (.string ⟨#[]⟩) Lv Kv w2:=by
 have h4:=h.l4;refine h.box.move hG.size (hG.block _ h.box.lt fun e=>?_);have:=(hO.lt _ e.symm).1;omega
theorem JI.start {f:Nat} {k:Int} {c:Nat} {w:World} (hc:c<w.heap.size):JI f k c w w.heap.size (w.heap.size+1) (w.heap.size+2) [] [] (.slice none 0 0) (.slice none 0 0) [] (fun _=>[]) ((w.alloc (.cells #[.int .i64 0,.int .i64 0,.string ⟨#[]⟩,.slice none 0 0,.slice none 0 0] 36)).alloc (.cells #[.int .i64 k,.int .i64 0,.string ⟨#[]⟩,.slice none 0 0,.slice none 0 0] 36)):=by
 refine ⟨qo.start _ _ _ (by simp),(aJ w _ _ _ _ _).move (by simp) (Below.heap_alloc _ _ _ (by simp)),?_,bI.of ((aQ _ _).alloc (by simp) _),hc,by omega,by omega,by omega,by omega,by omega⟩;have:=aJ (w.alloc (.cells #[.int .i64 0,.int .i64 0,.string ⟨#[]⟩,.slice none 0 0,.slice none 0 0] 36)) (.int .i64 k) (.int .i64 0) (.string ⟨#[]⟩) (.slice none 0 0) (.slice none 0 0);simpa using this
theorem wC {c:Nat} {w wr:World} {f lo rb:Nat} {v:Value} {t:T} {es:List kV} (hB:bI c w wr) (hc:c<w.heap.size) (hF:iy wr f v t es) (hS:qm lo wr es) (h1:w.heap.size<=rb) (hlo:rb<lo) (u0 u1 u2 u3 u4:Value) :
  bI c w (((((wr.setCell ⟨rb,0,none⟩ u0).setCell ⟨rb,1,none⟩ u1).setCell ⟨rb,2,none⟩ u2).setCell ⟨rb,3,none⟩ u3).setCell ⟨rb,4,none⟩ u4) /\
  iy (((((wr.setCell ⟨rb,0,none⟩ u0).setCell ⟨rb,1,none⟩ u1).setCell ⟨rb,2,none⟩ u2).setCell ⟨rb,3,none⟩ u3).setCell ⟨rb,4,none⟩ u4) f v t es /\
  qm w.heap.size (((((wr.setCell ⟨rb,0,none⟩ u0).setCell ⟨rb,1,none⟩ u1).setCell ⟨rb,2,none⟩ u2).setCell ⟨rb,3,none⟩ u3).setCell ⟨rb,4,none⟩ u4) es /\
  (((((wr.setCell ⟨rb,0,none⟩ u0).setCell ⟨rb,1,none⟩ u1).setCell ⟨rb,2,none⟩ u2).setCell ⟨rb,3,none⟩ u3).setCell ⟨rb,4,none⟩ u4).heap[c]?=wr.heap[c]? /\
  (((((wr.setCell ⟨rb,0,none⟩ u0).setCell ⟨rb,1,none⟩ u1).setCell ⟨rb,2,none⟩ u2).setCell ⟨rb,3,none⟩ u3).setCell ⟨rb,4,none⟩ u4).heap.size=wr.heap.size:=by
 have hset:∀ (w1:World) (o:Nat) (u:Value) (b:Nat),b≠rb->(w1.setCell ⟨rb,o,none⟩ u).heap[b]?=w1.heap[b]?:=fun w1 o u b hb=>Below.heap_setCell _ _ _ _ (by simpa using hb);refine ⟨((((hB.AO h1 _ _).AO h1 _ _).AO h1 _ _).AO h1 _ _).AO h1 _ _,hF.move fun b hb=>?_,?_,?_,by simp [World.setCell]⟩
 ·have h1:=hS.lies b hb;rw [hset _ _ _ _ (by omega),hset _ _ _ _ (by omega),hset _ _ _ _ (by omega),hset _ _ _ _ (by omega),hset _ _ _ _ (by omega)]
 ·exact (hS.lower (by omega)).keep (by simp [World.setCell])
 ·rw [hset _ _ _ _ (by omega),hset _ _ _ _ (by omega),hset _ _ _ _ (by omega),hset _ _ _ _ (by omega),hset _ _ _ _ (by omega)]
theorem PL.same {c:Nat} {s:ByteArray} {i:Nat} {w w':World} (h:PL c s i w) (hb:w'.heap[c]?=w.heap[c]?) (hs:w.heap.size<=w'.heap.size):PL c s i w':=h.move hs hb
end
def rU (n c:Nat) (s:ByteArray) (x:Option (T×Nat)) (after:Nat->Nat) (w:World) (e:Ending) (w':World):Prop :=
 bI c w w'/\((∃ t j es A B C D,x=some (t,j)/\e=.returned (iU t A B C D)/\iy w' n (iU t A B C D) t es/\qm w.heap.size w' es/\PL c s (after j) w')\/(x=none/\e=gP 2))
def uH (Tb:World->Prop) (s:ByteArray) (n:Nat):Prop:=∀ (c i:Nat) (w:World),eG Tb c->PL c s i w->Tb w->i<=s.size->s.size<i+n->Calls Tryz.prog 44 #[.pointer (some ⟨c,0,none⟩)] w (rU n c s (dh s n i) (sk s) w)
theorem Un {Tb:World->Prop} {s:ByteArray} {n:Nat} (hv:uH Tb s n) {c i:Nat} {w:World} {t:T} {j:Nat} (hz:dh s n i=some (t,j)) (hS:eG Tb c) (hL:PL c s i w) (hT:Tb w) (hi:i<=s.size) (hn:s.size<i+n) :
  Calls Tryz.prog 44 #[.pointer (some ⟨c,0,none⟩)] w fun e w'=>∃ es A B C D,e=.returned (.agg #[.int .i64 (ah t),.int .i64 (au t),.string (ay t),.slice A (nL t) B,.slice C (nK t) D])/\bI c w w'/\iy w' n (.agg #[.int .i64 (ah t),.int .i64 (au t),.string (ay t),.slice A (nL t) B,.slice C (nK t) D]) t es/\qm w.heap.size w' es/\PL c s (sk s j) w':=by
 refine (hv c i w hS hL hT hi hn).mono ?_;rintro e w' ⟨hB,⟨t',j',es,A,B,C,D,hz',rfl,hF,hSp,hL'⟩ | ⟨hz',_⟩⟩
 ·rw [hz] at hz';cases hz';exact ⟨es,A,B,C,D,rfl,hB,hF,hSp,hL'⟩
 ·rw [hz] at hz';cases hz'
theorem Uo {Tb:World->Prop} {s:ByteArray} {n:Nat} (hv:uH Tb s n) {c i:Nat} {w:World} (hz:dh s n i=none) (hS:eG Tb c) (hL:PL c s i w) (hT:Tb w) (hi:i<=s.size) (hn:s.size<i+n) :
  Calls Tryz.prog 44 #[.pointer (some ⟨c,0,none⟩)] w fun e w'=>e=gP 2/\bI c w w':=by
 refine (hv c i w hS hL hT hi hn).mono ?_;rintro e w' ⟨hB,⟨t',j',es,A,B,C,D,hz',rfl,hF,hSp,hL'⟩ | ⟨hz',rfl⟩⟩
 ·rw [hz] at hz';cases hz'
 ·exact ⟨rfl,hB⟩
theorem abI {Tb:World->Prop} (hD:dn Tb) {c:Nat} (hS:eG Tb c) {s:ByteArray} {i:Nat} {w:World} {x:ByteArray} {j:Nat} (hz:jK s i=some (x,j)) (h:PL c s i w) (hT:Tb w) (hs:s.size<=4000) (hi:i<=s.size) :
  Calls Tryz.prog 108 #[.pointer (some ⟨c,0,none⟩)] w fun e w'=>e=.returned (.string x)/\bI c w w'/\PL c s j w':=by
 refine (F4 hD c hS s i w h hT hs hi).mono ?_;rintro e w' ⟨hB,⟨x',j',hz',rfl,hL'⟩ | ⟨hz',_⟩⟩
 ·rw [hz] at hz';cases hz';exact ⟨rfl,hB,hL'⟩
 ·rw [hz] at hz';cases hz'
theorem abJ {Tb:World->Prop} (hD:dn Tb) {c:Nat} (hS:eG Tb c) {s:ByteArray} {i:Nat} {w:World} (hz:jK s i=none) (h:PL c s i w) (hT:Tb w) (hs:s.size<=4000) (hi:i<=s.size) :
  Calls Tryz.prog 108 #[.pointer (some ⟨c,0,none⟩)] w fun e w'=>e=gP 2/\bI c w w':=by
 refine (F4 hD c hS s i w h hT hs hi).mono ?_;rintro e w' ⟨hB,⟨x',j',hz',rfl,hL'⟩ | ⟨hz',rfl⟩⟩
 ·rw [hz] at hz';cases hz'
 ·exact ⟨rfl,hB⟩
def oN (n:Nat) (s:ByteArray) (o:Bool) (j:Nat) (more:Bool) (k:Nat) (L:List T) (K:List ByteArray):Prop :=
 (more=true->∃ m,s.size+1<=m+k/\jL (dh s n) s o j=(yL (dh s n) s o m k).map (L6 K L))/\(more=false->jL (dh s n) s o j=some ((K,L),k))
theorem yP {n:Nat} {s:ByteArray} {o:Bool} {j:Nat} (h:cB s (sk s j)≠cl o):oN n s o j true (sk s j) [] []:=by
 refine ⟨fun _=>⟨s.size+1,by omega,?_⟩,fun h=>by cases h⟩;unfold jL;rw [if_neg h];exact TV _
theorem yQ {n:Nat} {s:ByteArray} {o:Bool} {j:Nat} (h:cB s (sk s j)=cl o):oN n s o j false (sk s j+1) [] []:=by
 refine ⟨(fun h=>by cases h),fun _=>?_⟩;unfold jL;rw [if_pos h]
def ms (s:ByteArray) (more:Bool) (k:Nat):Nat:=if more=true then s.size+1 - k else 0
def aaK (n c:Nat) (k:Int) (s:ByteArray) (o:Bool) (j:Nat) (w:World):Ending->World->Prop :=
 rU (n+1) c s ((jL (dh s n) s o j).map fun r=>(aX k 0 ByteArray.empty r.1.2 r.1.1,r.2)) id w
theorem Uq {Tb:World->Prop} (n:Nat) (s:ByteArray) (ih:uH Tb s n) (c:Nat) (hS:eG Tb c) (i:Nat) (w:World) (h:PL c s i w) (hT:Tb w) (hs:s.size<=4000) (hb:cB s i=91) (hn:s.size<i+n+1) :
  Calls Tryz.prog 109 #[.pointer (some ⟨c,0,none⟩)] w (aaK n c 5 s false (i+1) w):=by
 obtain ⟨iV,DW,DX,DY,DZ⟩:=info_parts uG;have hlt:i<s.size:=eH (by omega);have abK:=jy s (i+1);have abL:=lX (s:=s) (i:=i+1) (by omega);have HJ0:=aj (JI.start (f:=n) (k:=5) h.lt);have nH:=aj (h.keep (((Below.refl _ _).alloc (Nat.le_refl _) (.cells #[.int .i64 0,.int .i64 0,.string ⟨#[]⟩,.slice none 0 0,.slice none 0 0] 36)).alloc (by simp) (.cells #[.int .i64 5,.int .i64 0,.string ⟨#[]⟩,.slice none 0 0,.slice none 0 0] 36)));have HO:=aj (DT c s i 91 93 _ nH.out hs (by omega) (by omega) (by omega));have HT:=aj hT;have HS:=aj hS;have HI:=aj ih;have hcl:=h.lt;clear h hT hS ih hb;go_in;go_wp2_with fail;refine HO.out.mono ?_;rintro e w1 ⟨B1,hcase⟩;have HJ1:=aj (HJ0.out.inner B1)
 obtain ⟨more,k0,he,Cx,HA,hk0⟩:∃ (more:Bool) (k0:Nat),e=.returned (.bool more)/\Hid (PL c s k0 w1)/\Hid (oN n s false (i+1) more k0 [] [])/\(i<k0/\k0<=s.size):=by
  rcases hcase with ⟨hc,he,hL⟩ | ⟨hc,he,hL⟩
  ·exact ⟨false,_,he,hL,yQ (by show _=93;omega),by omega,by have:=eH (s:=s) (i:=sk s (i+1)) (by omega);omega⟩
  ·exact ⟨true,_,he,hL,yP (by show _≠93;omega),by omega,by omega⟩
 subst he;clear hcase B1 HO HJ0 nH abK abL;go_wp2_with fail;go_loopg [4] (ms s more k0) (fun g b wr=>∃ (more:Bool) (k:Nat) (L:List T) (K:List ByteArray) (Lv Kv:Value) (xs:List Value) (sub:Nat->List kV),g=ms s more k/\b=.bool more/\i<k/\k<=s.size/\L.length<=k/\K=[]/\Hid (JI n 5 c w w.heap.size (w.heap.size+1) (w.heap.size+2) L K Lv Kv xs sub wr)/\Hid (PL c s k wr)/\Hid (oN n s false (i+1) more k L K))
 case atStart=>exact ⟨more,k0,[],[],_,_,[],fun _=>[],rfl,rfl,hk0.1,hk0.2,by simp,rfl,HJ1,Cx,HA⟩
 case round =>
  clear HJ1 Cx HA hk0;obtain ⟨more,k,L,K,Lv,Kv,xs,sub,rfl,rfl,hk1,hk2,hlL,rfl,HE,Cx,HA⟩:=hrel;cases more with
  | false =>
   obtain ⟨A,B,rfl⟩:=fC HE.out.grow.zm;obtain ⟨C,D,rfl⟩:=fC HE.out.grow.Ja;have r0:=HE.out.res.q0;have r1:=HE.out.res.q1;have r2:=HE.out.res.q2;have r3:=HE.out.res.q3;have r4:=HE.out.res.q4;have s0:=HE.out.res.f0;have s1:=HE.out.res.f1;have s2:=HE.out.res.f2;have s3:=HE.out.res.f3;have s4:=HE.out.res.f4;have t0:=HE.out.box.q0;have t1:=HE.out.box.q1;have t2:=HE.out.box.q2;have t3:=HE.out.box.q3;have t4:=HE.out.box.q4;go_wp2_with fail;refine bodyPost_ret (v:=iU (aX 5 0 ByteArray.empty L []) A B C D) (by simp [results,Tryz.results109,go_sem,iU,bE,fu,gD,aI,fE, *];rfl) rfl ?_;have hE:=HE.out;have hF:=hE.grow.flat 5 (by omega) (by omega) (by omega) (by simp);have hp:=wC (rb:=w.heap.size) hE.but hcl hF hE.grow.sep (Nat.le_refl _) (by omega) (.int .i64 5) (.int .i64 0) (.string ⟨#[]⟩) (.slice A L.length B) (.slice C 0 D);refine ⟨hp.1,Or.inl ⟨aX 5 0 ByteArray.empty L [],k,_,A,B,C,D,?_,rfl,?_,hp.2.2.1,Cx.out.same hp.2.2.2.1 (by rw [hp.2.2.2.2];exact Nat.le_refl _)⟩⟩
   ·rw [HA.out.2 rfl];rfl
   ·unfold iU;rw [bE,fu,gD,aI,fE];exact hp.2.1
  | true =>
   obtain ⟨m,hm,hX⟩:=HA.out.1 rfl;have HX:=aj hX;obtain ⟨m,rfl⟩:∃ m',m=m'+1:=⟨m - 1,by omega⟩;have hkey:oM s false k=some (ByteArray.empty,k):=rfl;have lJ:=aj (HE.out.keep (ak wr));have tq:=aj (Cx.out.keep (ak wr));have HT3:=aj (bI.stays HS.out HT.out lJ.out.but (Nat.le_of_lt hcl));have hc3:=HE.out.box.q3;clear HA hX HE Cx;go_wp2_with fail;cases hz:dh s n k with
   | none =>
    have HZ:Hid ((jL (dh s n) s false (i+1)).map (fun r=>(aX 5 0 ByteArray.empty r.1.2 r.1.1,r.2))=none):=by
     show _=_;rw [HX.out,DK hkey hz];rfl
    have HC:=aj (Uo HI.out hz HS.out tq.out HT3.out hk2 (by omega));refine wp_region_held_drew (S:=fun wx=>wx.cell? ⟨w.heap.size+1,3,none⟩=some Lv) (by kernel_rfl) lJ.out.box.q3 (fun hHeld=>?_);refine wpAnyH_take (i:=0) (v:=.pointer (some ⟨w.heap.size+1,3,none⟩)) rfl (by kernel_rfl) (by kernel_rfl) (by kernel_rfl) (fun _ _ _ h=>h) (Or.inl ⟨by rfl,(by intro wx hSw;go_simp)⟩) hHeld ?_;refine wpAnyH_take (i:=1) (v:=Lv) rfl (by kernel_rfl) (by kernel_rfl) (by kernel_rfl) (fun _ _ _ h=>h) (Or.inl ⟨by rfl,(by intro wx hSw;go_simp)⟩) hHeld ?_;refine wpAnyH_take (i:=2) (v:=.pointer (some ⟨c,0,none⟩)) rfl (by kernel_rfl) (by kernel_rfl) (by kernel_rfl) (fun _ _ _ h=>h) (Or.inl ⟨by rfl,(by intro wx hSw;go_simp)⟩) hHeld ?_;refine wpAnyH_ready (rs:=[3]) (by kernel_rfl) (by simp) (AllReadyH.cons rfl (fun KK hKK=>?_) AllReadyH.nil);go_simp;go_wp2_with (go_at_call 44;refine HC.out.mono ?_;rintro e w5 ⟨rfl,hb5⟩);exact ⟨rfl,lJ.out.but.trans hb5,Or.inr ⟨HZ.out,rfl⟩⟩
   | some p =>
    obtain ⟨t,j⟩:=p;have kC:=iZ n k t j hk2 hz;have ahu:=jy s j;have abM:=lX kC.2;have HC:=aj (Un HI.out hz HS.out tq.out HT3.out hk2 (by omega));go_region_law (first | (refine step_append_lies _ (by rfl) _ _ _ (by rfl) (w.heap.size+2) 36 iV _ 5 80 Tryz.underlying34 DW DX DY DZ rfl (by omega) Lv L.length xs (by rfl) (CO.out.keep (aQ _ _)).grow.zm ⟨w5.heap.size,0,none⟩ 1 1 [.int .i64 (ah t),.int .i64 (au t),.string (ay t),.slice A (nL t) B,.slice C (nK t) D] (by rfl) (by rfl) (World.news_of_block (cs:=#[.int .i64 (ah t),.int .i64 (au t),.string (ay t),.slice A (nL t) B,.slice C (nK t) D]) (t:=36) (fr:=(0,0)) (heap_alloc_new w5 _)) (by simp [Value.oneCell']) (by omega) (by unfold maxLen;omega) (by omega) (CO.out.keep (aQ _ _)).grow.low (w5.heap.size+1) (by simp) ?_;intro g cap w6 hown6 eX dW uY;have QT:=aj ((CO.out.keep ((Below.refl _ _).alloc (Nat.le_refl _) (vC t A B C D))).wz eX (CO.out.keep ((Below.refl _ _).alloc (Nat.le_refl _) (vC t A B C D))).grow.zm);have hc6:=QT.out.q3;have hf6:=QT.out.f3) | (go_simp;go_wp2_with (go_at_call 44;refine HC.out.mono ?_;rintro e w5 ⟨es,A,B,C,D,rfl,hb5,hF5,hS5,hL5⟩;have CO:=aj (lJ.out.inner hb5);have HL5:=aj hL5;have HF5:=aj hF5;have Iw:=aj (lJ.out.Um hb5 hS5);have Ur:=aj hS5;have rV:=CO.out.box.q3;have abN:=(CO.out.keep ((Below.refl _ _).alloc (Nat.le_refl _) (vC t A B C D))).box.q3;clear hF5 hS5 hL5 hb5)))
    all_goals
     have H6:=aj (CO.out.aaJ _ HF5.out Ur.out Iw.out hown6 eX dW);have Jj:=aj H6.out.1;have zn:=aj (HL5.out.same H6.out.2.1 H6.out.2.2);clear hown6 eX dW uY QT hc6 hf6 HF5 Iw Ur CO rV abN H6 HL5 HC;go_wp2_with fail;refine (AA c s (sk s j) 93 _ zn.out hs abM (by omega)).mono ?_;rintro e w7 ⟨QU,⟨Iu,rfl,hL7⟩ | ⟨h93,rfl,hL7⟩ | ⟨Iu,h93,rfl⟩⟩
     ·have ahw:=eH (s:=s) (i:=sk s j) (by omega);have HE7:=aj (Jj.out.inner QU);have Jk:=aj hL7;have AP:Hid (oN n s false (i+1) true (sk s j+1) (L++[t]) []):=⟨fun _=>⟨m,by omega,HX.out.trans (I5 [] L hkey hz Iu)⟩,fun h=>by cases h⟩;clear QU hL7 Jj zn HX Iu;go_wp2_with fail;go_roundg (ms s true (sk s j+1))
      case rel=>exact ⟨true,sk s j+1,L++[t],[],_,_,_,_,rfl,rfl,by omega,by omega,by simp;omega,rfl,HE7,Jk,AP⟩
      case measure=>unfold ms;simp;omega
     ·have ahx:=eH (s:=s) (i:=sk s j) (by omega);have HE7:=aj (Jj.out.inner QU);have Jk:=aj hL7;have AP:Hid (oN n s false (i+1) false (sk s j+1) (L++[t]) []):=⟨(fun h=>by cases h),fun _=>HX.out.trans (I6 [] L hkey hz (by show cB s (sk s j)=93;omega))⟩;clear QU hL7 Jj zn HX h93;go_wp2_with fail;go_roundg (ms s false (sk s j+1))
      case rel=>exact ⟨false,sk s j+1,L++[t],[],_,_,_,_,rfl,rfl,by omega,by omega,by simp;omega,rfl,HE7,Jk,AP⟩
      case measure=>unfold ms;simp;omega
     ·have pq:=aj (Jj.out.but.trans QU)
      have HZ:Hid ((jL (dh s n) s false (i+1)).map (fun r=>(aX 5 0 ByteArray.empty r.1.2 r.1.1,r.2))=none):=by
       show _=_;rw [HX.out,I7 hkey hz Iu (by show cB s (sk s j)≠93;omega)];rfl
      clear QU Iu h93 HX;go_wp2_with fail;exact ⟨rfl,pq.out,Or.inr ⟨HZ.out,rfl⟩⟩
theorem Us {s:ByteArray} {k:Nat} (h:jK s (sk s k)=none):oM s true k=none:=by unfold oM;rw [if_pos rfl,h];rfl
theorem Ut {s:ByteArray} {k:Nat} {x:ByteArray} {j:Nat} (h:jK s (sk s k)=some (x,j)) (h2:cB s (sk s j)≠58):oM s true k=none:=by
 unfold oM;rw [if_pos rfl,h];simp only [Option.bind_some];rw [if_neg h2]
theorem Uu {s:ByteArray} {k:Nat} {x:ByteArray} {j:Nat} (h:jK s (sk s k)=some (x,j)) (h2:cB s (sk s j)=58):oM s true k=some (x,sk s j+1):=by
 unfold oM;rw [if_pos rfl,h];simp only [Option.bind_some];rw [if_pos h2]
theorem Mj {Tb:World->Prop} (hD:dn Tb) (n:Nat) (s:ByteArray) (ih:uH Tb s n) (c:Nat) (hS:eG Tb c) (i:Nat) (w:World) (h:PL c s i w) (hT:Tb w) (hs:s.size<=4000) (hb:cB s i=123) (hn:s.size<i+n+1) :
  Calls Tryz.prog 110 #[.pointer (some ⟨c,0,none⟩)] w (aaK n c 6 s true (i+1) w):=by
 obtain ⟨iS,YS,YT,zS1,Yo⟩:=info_parts aaI;obtain ⟨iV,DW,DX,DY,DZ⟩:=info_parts uG;have hlt:i<s.size:=eH (by omega);have abK:=jy s (i+1);have abL:=lX (s:=s) (i:=i+1) (by omega);have HJ0:=aj (JI.start (f:=n) (k:=6) h.lt);have nH:=aj (h.keep (((Below.refl _ _).alloc (Nat.le_refl _) (.cells #[.int .i64 0,.int .i64 0,.string ⟨#[]⟩,.slice none 0 0,.slice none 0 0] 36)).alloc (by simp) (.cells #[.int .i64 6,.int .i64 0,.string ⟨#[]⟩,.slice none 0 0,.slice none 0 0] 36)));have HO:=aj (DT c s i 123 125 _ nH.out hs (by omega) (by omega) (by omega));have HT:=aj hT;have HS:=aj hS;have HI:=aj ih;have HD:=aj hD;have hcl:=h.lt;clear h hT hS ih hb hD;go_in;go_wp2_with fail;refine HO.out.mono ?_;rintro e w1 ⟨B1,hcase⟩;have HJ1:=aj (HJ0.out.inner B1)
 obtain ⟨more,k0,he,Cx,HA,hk0⟩:∃ (more:Bool) (k0:Nat),e=.returned (.bool more)/\Hid (PL c s k0 w1)/\Hid (oN n s true (i+1) more k0 [] [])/\(i<k0/\k0<=s.size):=by
  rcases hcase with ⟨hc,he,hL⟩ | ⟨hc,he,hL⟩
  ·exact ⟨false,_,he,hL,yQ (by show _=125;omega),by omega,by have:=eH (s:=s) (i:=sk s (i+1)) (by omega);omega⟩
  ·exact ⟨true,_,he,hL,yP (by show _≠125;omega),by omega,by omega⟩
 subst he;clear hcase B1 HO HJ0 nH abK abL;go_wp2_with fail;go_loopg [4] (ms s more k0) (fun g b wr=>∃ (more:Bool) (k:Nat) (L:List T) (K:List ByteArray) (Lv Kv:Value) (xs:List Value) (sub:Nat->List kV),g=ms s more k/\b=.bool more/\i<k/\k<=s.size/\L.length<=k/\K.length<=k/\Hid (JI n 6 c w w.heap.size (w.heap.size+1) (w.heap.size+2) L K Lv Kv xs sub wr)/\Hid (PL c s k wr)/\Hid (oN n s true (i+1) more k L K))
 case atStart=>exact ⟨more,k0,[],[],_,_,[],fun _=>[],rfl,rfl,hk0.1,hk0.2,by simp,by simp,HJ1,Cx,HA⟩
 case round =>
  clear HJ1 Cx HA hk0;obtain ⟨more,k,L,K,Lv,Kv,xs,sub,rfl,rfl,hk1,hk2,hlL,hlK,HE,Cx,HA⟩:=hrel;cases more with
  | false =>
   obtain ⟨A,B,rfl⟩:=fC HE.out.grow.zm;obtain ⟨C,D,rfl⟩:=fC HE.out.grow.Ja;have r0:=HE.out.res.q0;have r1:=HE.out.res.q1;have r2:=HE.out.res.q2;have r3:=HE.out.res.q3;have r4:=HE.out.res.q4;have s0:=HE.out.res.f0;have s1:=HE.out.res.f1;have s2:=HE.out.res.f2;have s3:=HE.out.res.f3;have s4:=HE.out.res.f4;have t0:=HE.out.box.q0;have t1:=HE.out.box.q1;have t2:=HE.out.box.q2;have t3:=HE.out.box.q3;have t4:=HE.out.box.q4;go_wp2_with fail;refine bodyPost_ret (v:=iU (aX 6 0 ByteArray.empty L K) A B C D) (by simp [results,Tryz.results110,go_sem,iU,bE,fu,gD,aI,fE, *];rfl) rfl ?_;have hE:=HE.out;have hF:=hE.grow.flat 6 (by omega) (by omega) (by omega) (by omega);have hp:=wC (rb:=w.heap.size) hE.but hcl hF hE.grow.sep (Nat.le_refl _) (by omega) (.int .i64 6) (.int .i64 0) (.string ⟨#[]⟩) (.slice A L.length B) (.slice C K.length D);refine ⟨hp.1,Or.inl ⟨aX 6 0 ByteArray.empty L K,k,_,A,B,C,D,?_,rfl,?_,hp.2.2.1,Cx.out.same hp.2.2.2.1 (by rw [hp.2.2.2.2];exact Nat.le_refl _)⟩⟩
   ·rw [HA.out.2 rfl];rfl
   ·unfold iU;rw [bE,fu,gD,aI,fE];exact hp.2.1
  | true =>
   obtain ⟨m,hm,hX⟩:=HA.out.1 rfl;have HX:=aj hX;obtain ⟨m,rfl⟩:∃ m',m=m'+1:=⟨m - 1,by omega⟩;have hge:=jy s k;have hle:=lX hk2;clear HA hX;go_wp2_with fail;refine (rR c s k wr Cx.out hs hk2).mono ?_;rintro e wa ⟨rfl,hBa,hLa⟩;have HEa:=aj (HE.out.inner hBa);have HLa:=aj hLa;have lJ:=aj (HEa.out.keep (ak wa));have tq:=aj (HLa.out.keep (ak wa));have HT3:=aj (bI.stays HS.out HT.out lJ.out.but (Nat.le_of_lt hcl));have hc3:=HEa.out.box.q4;clear hBa hLa HE Cx HEa HLa;go_wp2_with fail;cases hz2:jK s (sk s k) with
   | none =>
    have HZ:Hid ((jL (dh s n) s true (i+1)).map (fun r=>(aX 6 0 ByteArray.empty r.1.2 r.1.1,r.2))=none):=by
     show _=_;rw [HX.out,DJ (Us hz2)];rfl
    have HC:=aj (abJ HD.out HS.out hz2 tq.out HT3.out hs hle);refine wp_region_held_drew (S:=fun wx=>wx.cell? ⟨w.heap.size+1,4,none⟩=some Kv) (by kernel_rfl) lJ.out.box.q4 (fun hHeld=>?_);refine wpAnyH_take (i:=0) (v:=.pointer (some ⟨w.heap.size+1,4,none⟩)) rfl (by kernel_rfl) (by kernel_rfl) (by kernel_rfl) (fun _ _ _ h=>h) (Or.inl ⟨by rfl,(by intro wx hSw;go_simp)⟩) hHeld ?_;refine wpAnyH_take (i:=1) (v:=Kv) rfl (by kernel_rfl) (by kernel_rfl) (by kernel_rfl) (fun _ _ _ h=>h) (Or.inl ⟨by rfl,(by intro wx hSw;go_simp)⟩) hHeld ?_;refine wpAnyH_take (i:=2) (v:=.pointer (some ⟨c,0,none⟩)) rfl (by kernel_rfl) (by kernel_rfl) (by kernel_rfl) (fun _ _ _ h=>h) (Or.inl ⟨by rfl,(by intro wx hSw;go_simp)⟩) hHeld ?_;refine wpAnyH_ready (rs:=[3]) (by kernel_rfl) (by simp) (AllReadyH.cons rfl (fun KK hKK=>?_) AllReadyH.nil);go_simp;go_wp2_with (go_at_call 108;refine HC.out.mono ?_;rintro e w5 ⟨rfl,hb5⟩);exact ⟨rfl,lJ.out.but.trans hb5,Or.inr ⟨HZ.out,rfl⟩⟩
   | some p =>
    obtain ⟨nm,j⟩:=p;have kC:=vW hz2;have hj1:=jy s j;have hj2:=lX kC.2.1;have HC:=aj (abI HD.out HS.out hz2 tq.out HT3.out hs hle);go_region_law (first | (refine step_append_lies _ (by rfl) _ _ _ (by rfl) (w.heap.size+2) 9 iS _ 1 16 Tryz.underlying28 YS YT zS1 Yo rfl (by omega) Kv K.length (gG K) (by rfl) (QV.out.keep (aQ _ _)).grow.Ja ⟨w4.heap.size,0,none⟩ 1 1 [.string nm] (by rfl) (by rfl) (World.news_of_block (cs:=#[.string nm]) (t:=9) (fr:=(0,0)) (heap_alloc_new w4 _)) (by simp [Value.oneCell']) (by omega) (by unfold maxLen;omega) (by omega) (QV.out.keep (aQ _ _)).grow.low (w4.heap.size+1) (by simp) ?_;intro g4 cap4 w7 oq iW AQ Ml;have AP:=aj ((QV.out.keep ((Below.refl _ _).alloc (Nat.le_refl _) (.cells #[.string nm] 9))).wz iW (QV.out.keep ((Below.refl _ _).alloc (Nat.le_refl _) (.cells #[.string nm] 9))).grow.Ja);have hc7:=AP.out.q4;have hf7:=AP.out.f4) | (go_simp;go_wp2_with (go_at_call 108;refine HC.out.mono ?_;rintro e w4 ⟨rfl,hb4,hl4⟩;have QV:=aj (lJ.out.inner hb4);have rH:=aj hl4;have hc4:=QV.out.box.q4;have abQ:=(QV.out.keep ((Below.refl _ _).alloc (Nat.le_refl _) (.cells #[.string nm] 9))).box.q4;clear hb4 hl4)))
    all_goals
     have H8:=aj (QV.out.aeR _ (by omega) oq iW AQ);have HE8:=aj H8.out.1;have HL8:=aj (rH.out.same H8.out.2.1 H8.out.2.2);clear oq iW AQ Ml AP hc7 hf7 QV hc4 abQ lJ hc3 H8 rH tq HT3 HC;go_wp2_with fail;refine (rR c s j _ HL8.out hs kC.2.1).mono ?_;rintro e wb ⟨rfl,hBb,hLb⟩;have HEb:=aj (HE8.out.inner hBb);have HLb:=aj hLb;clear hBb hLb HE8 HL8;by_cases h58:cB s (sk s j)=58
     ·have hkey:=Uu hz2 h58;have alv:=eH (s:=s) (i:=sk s j) (by omega);have Mq:=aj hkey;have HCe:=aj (kD c s (sk s j) 58 wb HLb.out hs (by omega) (by omega));clear hkey h58;go_wp2_with fail;refine HCe.out.mono ?_;rintro e wc ⟨rfl,hBc,hLc⟩;have HEc:=aj (HEb.out.inner hBc);have HE9:=aj (HEc.out.keep (ak wc));have HL9:=aj (PL.keep hLc (ak wc));have HT9:=aj (bI.stays HS.out HT.out HE9.out.but (Nat.le_of_lt hcl));have hc9:=HEc.out.box.q3;clear hBc hLc HEb HLb HEc HCe;go_wp2_with fail;cases hz:dh s n (sk s j+1) with
      | none =>
       have HZ:Hid ((jL (dh s n) s true (i+1)).map (fun r=>(aX 6 0 ByteArray.empty r.1.2 r.1.1,r.2))=none):=by
        show _=_;rw [HX.out,DK Mq.out hz];rfl
       have HC:=aj (Uo HI.out hz HS.out HL9.out HT9.out (by omega) (by omega));refine wp_region_held_drew (S:=fun wx=>wx.cell? ⟨w.heap.size+1,3,none⟩=some Lv) (by kernel_rfl) HE9.out.box.q3 (fun hHeld=>?_);refine wpAnyH_take (i:=0) (v:=.pointer (some ⟨w.heap.size+1,3,none⟩)) rfl (by kernel_rfl) (by kernel_rfl) (by kernel_rfl) (fun _ _ _ h=>h) (Or.inl ⟨by rfl,(by intro wx hSw;go_simp)⟩) hHeld ?_;refine wpAnyH_take (i:=1) (v:=Lv) rfl (by kernel_rfl) (by kernel_rfl) (by kernel_rfl) (fun _ _ _ h=>h) (Or.inl ⟨by rfl,(by intro wx hSw;go_simp)⟩) hHeld ?_;refine wpAnyH_take (i:=2) (v:=.pointer (some ⟨c,0,none⟩)) rfl (by kernel_rfl) (by kernel_rfl) (by kernel_rfl) (fun _ _ _ h=>h) (Or.inl ⟨by rfl,(by intro wx hSw;go_simp)⟩) hHeld ?_;refine wpAnyH_ready (rs:=[3]) (by kernel_rfl) (by simp) (AllReadyH.cons rfl (fun KK hKK=>?_) AllReadyH.nil);go_simp;go_wp2_with (go_at_call 44;refine HC.out.mono ?_;rintro e w5 ⟨rfl,hb5⟩);exact ⟨rfl,HE9.out.but.trans hb5,Or.inr ⟨HZ.out,rfl⟩⟩
      | some p =>
       obtain ⟨t,j'⟩:=p;have aeZ:=iZ n (sk s j+1) t j' (by omega) hz;have ahu:=jy s j';have abM:=lX aeZ.2;have HC:=aj (Un HI.out hz HS.out HL9.out HT9.out (by omega) (by omega));go_region_law (first | (refine step_append_lies _ (by rfl) _ _ _ (by rfl) (w.heap.size+2) 36 iV _ 5 80 Tryz.underlying34 DW DX DY DZ rfl (by omega) Lv L.length xs (by rfl) (CO.out.keep (aQ _ _)).grow.zm ⟨w5.heap.size,0,none⟩ 1 1 [.int .i64 (ah t),.int .i64 (au t),.string (ay t),.slice A (nL t) B,.slice C (nK t) D] (by rfl) (by rfl) (World.news_of_block (cs:=#[.int .i64 (ah t),.int .i64 (au t),.string (ay t),.slice A (nL t) B,.slice C (nK t) D]) (t:=36) (fr:=(0,0)) (heap_alloc_new w5 _)) (by simp [Value.oneCell']) (by omega) (by unfold maxLen;omega) (by omega) (CO.out.keep (aQ _ _)).grow.low (w5.heap.size+1) (by simp) ?_;intro g cap w6 hown6 eX dW uY;have QT:=aj ((CO.out.keep ((Below.refl _ _).alloc (Nat.le_refl _) (vC t A B C D))).wz eX (CO.out.keep ((Below.refl _ _).alloc (Nat.le_refl _) (vC t A B C D))).grow.zm);have hc6:=QT.out.q3;have hf6:=QT.out.f3) | (go_simp;go_wp2_with (go_at_call 44;refine HC.out.mono ?_;rintro e w5 ⟨es,A,B,C,D,rfl,hb5,hF5,hS5,hL5⟩;have CO:=aj (HE9.out.inner hb5);have HL5:=aj hL5;have HF5:=aj hF5;have Iw:=aj (HE9.out.Um hb5 hS5);have Ur:=aj hS5;have rV:=CO.out.box.q3;have abN:=(CO.out.keep ((Below.refl _ _).alloc (Nat.le_refl _) (vC t A B C D))).box.q3;clear hF5 hS5 hL5 hb5)))
       all_goals
        have H6:=aj (CO.out.aaJ _ HF5.out Ur.out Iw.out hown6 eX dW);have Jj:=aj H6.out.1;have zn:=aj (HL5.out.same H6.out.2.1 H6.out.2.2);clear hown6 eX dW uY QT hc6 hf6 HF5 Iw Ur CO rV abN H6 HL5 HC;go_wp2_with fail;refine (AA c s (sk s j') 125 _ zn.out hs abM (by omega)).mono ?_;rintro e w7 ⟨QU,⟨Iu,rfl,hL7⟩ | ⟨h93,rfl,hL7⟩ | ⟨Iu,h93,rfl⟩⟩
        ·have ahw:=eH (s:=s) (i:=sk s j') (by omega);have HE7:=aj (Jj.out.inner QU);have Jk:=aj hL7;have AP:Hid (oN n s true (i+1) true (sk s j'+1) (L++[t]) (K++[nm])):=⟨fun _=>⟨m,by omega,HX.out.trans (I5 K L Mq.out hz Iu)⟩,fun h=>by cases h⟩;clear QU hL7 Jj zn HX Iu;go_wp2_with fail;go_roundg (ms s true (sk s j'+1))
         case rel=>exact ⟨true,sk s j'+1,L++[t],K++[nm],_,_,_,_,rfl,rfl,by omega,by omega,by simp;omega,by simp;omega,HE7,Jk,AP⟩
         case measure=>unfold ms;simp;omega
        ·have ahx:=eH (s:=s) (i:=sk s j') (by omega);have HE7:=aj (Jj.out.inner QU);have Jk:=aj hL7;have AP:Hid (oN n s true (i+1) false (sk s j'+1) (L++[t]) (K++[nm])):=⟨(fun h=>by cases h),fun _=>HX.out.trans (I6 K L Mq.out hz (by show cB s (sk s j')=125;omega))⟩;clear QU hL7 Jj zn HX h93;go_wp2_with fail;go_roundg (ms s false (sk s j'+1))
         case rel=>exact ⟨false,sk s j'+1,L++[t],K++[nm],_,_,_,_,rfl,rfl,by omega,by omega,by simp;omega,by simp;omega,HE7,Jk,AP⟩
         case measure=>unfold ms;simp;omega
        ·have pq:=aj (Jj.out.but.trans QU)
         have HZ:Hid ((jL (dh s n) s true (i+1)).map (fun r=>(aX 6 0 ByteArray.empty r.1.2 r.1.1,r.2))=none):=by
          show _=_;rw [HX.out,I7 Mq.out hz Iu (by show cB s (sk s j')≠125;omega)];rfl
         clear QU Iu h93 HX;go_wp2_with fail;exact ⟨rfl,pq.out,Or.inr ⟨HZ.out,rfl⟩⟩
     ·have HZ:Hid ((jL (dh s n) s true (i+1)).map (fun r=>(aX 6 0 ByteArray.empty r.1.2 r.1.1,r.2))=none):=by
       show _=_;rw [HX.out,DJ (Ut hz2 h58)];rfl
      have HCe:=aj (pR c s (sk s j) 58 wb HLb.out hs hj2 (by omega));clear h58;go_wp2_with fail;refine HCe.out.mono ?_;rintro e wc ⟨rfl,hBc⟩;have HBc:=aj (HEb.out.but.trans hBc);clear hBc;go_wp2_with fail;exact ⟨rfl,HBc.out,Or.inr ⟨HZ.out,rfl⟩⟩
theorem aaM {s:ByteArray} {i:Nat} (h:cB s i<256):pk s i=cB s i:=by
 unfold pk;rw [if_pos (eH h)]
theorem aH.Jl {b:Nat} {c0 c1 c2 c3 c4:Value} {w w':World} (h:aH b c0 c1 c2 c3 c4 w) (hb:Below w.heap.size w w'):aH b c0 c1 c2 c3 c4 w':=h.move hb.size (hb.block _ h.lt)
theorem Ph {n c lo:Nat} {s:ByteArray} {w w4:World} {x:Option (T×Nat)} {f:Nat->Nat} {t:T} {j:Nat} {es:List kV} {A C:Option Addr} {B D:Nat} (hx:x=some (t,j)) (hB:bI c w w4) (hc:c<w.heap.size) (hz:w.heap.size<lo) (hF:iy w4 n (.agg #[.int .i64 (ah t),.int .i64 (au t),.string (ay t),.slice A (nL t) B,.slice C (nK t) D]) t es) (hS:qm lo w4 es) (hL:PL c s (f j) w4) :
  rU n c s x f w (.returned (.agg #[.int .i64 (ah t),.int .i64 (au t),.string (ay t),.slice A (nL t) B,.slice C (nK t) D])) (((((w4.setCell ⟨w.heap.size,0,none⟩ (.int .i64 (ah t))).setCell ⟨w.heap.size,1,none⟩ (.int .i64 (au t))).setCell ⟨w.heap.size,2,none⟩ (.string (ay t))).setCell ⟨w.heap.size,3,none⟩ (.slice A (nL t) B)).setCell ⟨w.heap.size,4,none⟩ (.slice C (nK t) D)):=by
 have hp:=wC (rb:=w.heap.size) hB hc hF hS (Nat.le_refl _) hz (.int .i64 (ah t)) (.int .i64 (au t)) (.string (ay t)) (.slice A (nL t) B) (.slice C (nK t) D);exact ⟨hp.1,Or.inl ⟨t,j,es,A,B,C,D,hx,rfl,hp.2.1,hp.2.2.1,hL.same hp.2.2.2.1 (by rw [hp.2.2.2.2];exact Nat.le_refl _)⟩⟩
theorem D5 {n c:Nat} {s:ByteArray} {w wr:World} {x:Option (T×Nat)} {j:Nat} (k m:Int) (y:ByteArray) (hk0:0<=k) (hk1:k<=100) (hm:-9223372036854775808<=m/\m<=9223372036854775807) (hy:y.size<=140737488355328) (hx:x=some (cK k m y,j)) (hB:bI c w wr) (hc:c<w.heap.size) (hL:PL c s j wr) :
  rU (n+1) c s x id w (.returned (.agg #[.int .i64 k,.int .i64 m,.string y,.slice none 0 0,.slice none 0 0])) (((((wr.setCell ⟨w.heap.size,0,none⟩ (.int .i64 k)).setCell ⟨w.heap.size,1,none⟩ (.int .i64 m)).setCell ⟨w.heap.size,2,none⟩ (.string y)).setCell ⟨w.heap.size,3,none⟩ (.slice none 0 0)).setCell ⟨w.heap.size,4,none⟩ (.slice none 0 0)):=by
 have hp:=wC (rb:=w.heap.size) hB hc (DL wr n k m y hk0 hk1 hm.1 hm.2 hy) (Jc (w.heap.size+1) wr) (Nat.le_refl _) (by omega) (.int .i64 k) (.int .i64 m) (.string y) (.slice none 0 0) (.slice none 0 0);exact ⟨hp.1,Or.inl ⟨cK k m y,j,_,none,0,none,0,hx,rfl,hp.2.1,hp.2.2.1,hL.same hp.2.2.2.1 (by rw [hp.2.2.2.2];exact Nat.le_refl _)⟩⟩
def rW (s:ByteArray) (j:Nat):Option (T×Nat) :=
 if zV s j vX=true then some (cK 1 0 ByteArray.empty,j+4)
 else if zV s j vY=true then some (cK 2 1 ByteArray.empty,j+4)
 else if zV s j ql=true then some (cK 2 0 ByteArray.empty,j+5)
 else none
theorem Uv (n c:Nat) (s:ByteArray) (j:Nat) (w:World) (h:PL c s j w) (hs:s.size<=4000) (hj:j<=s.size) :
  Calls Tryz.prog 113 #[.pointer (some ⟨c,0,none⟩)] w (rU (n+1) c s (rW s j) id w):=by
 have HB0:=aj (aQ w (.cells #[.int .i64 0,.int .i64 0,.string ⟨#[]⟩,.slice none 0 0,.slice none 0 0] 36));have gZ:Hid (aH w.heap.size (.int .i64 0) (.int .i64 0) (.string ⟨#[]⟩) (.slice none 0 0) (.slice none 0 0) (w.alloc (.cells #[.int .i64 0,.int .i64 0,.string ⟨#[]⟩,.slice none 0 0,.slice none 0 0] 36))):=aJ w _ _ _ _ _;have hlc:=h.lt;have nH:=aj (h.keep HB0.out);clear h;cases hp1:zV s j vX with
 | true =>
  have HA:=aj (AJ c s j vX _ nH.out hs hp1);have HX:Hid (rW s j=some (cK 1 0 ByteArray.empty,j+4)):=by show _=_;unfold rW;rw [if_pos hp1]
  clear hp1;go_in;go_wp2_with fail;refine HA.out.mono ?_;rintro e w1 ⟨rfl,B1,L1⟩;have fO:=aj L1;have HR1:=aj (gZ.out.move B1.size (B1.block _ gZ.out.lt (by omega)));have HW1:=aj ((bI.of (c:=c) HB0.out).trans B1);clear B1 L1 HA gZ HB0 nH;have r0:=HR1.out.q0;have r1:=HR1.out.q1;have r2:=HR1.out.q2;have r3:=HR1.out.q3;have r4:=HR1.out.q4;have s0:=HR1.out.f0;have s1:=HR1.out.f1;have s2:=HR1.out.f2;have s3:=HR1.out.f3;have s4:=HR1.out.f4;go_wp2_with fail;refine bodyPost_ret (v:=.agg #[.int .i64 1,.int .i64 0,.string ⟨#[]⟩,.slice none 0 0,.slice none 0 0]) (by simp [results,Tryz.results113,go_sem, *]) rfl ?_;exact D5 1 0 ByteArray.empty (by omega) (by omega) (by omega) (by simp) HX.out HW1.out hlc fO.out
 | false =>
  have HA:=aj (F3 c s j vX _ nH.out hj hp1);have HX0:Hid (rW s j=if zV s j vY=true then some (cK 2 1 ByteArray.empty,j+4) else if zV s j ql=true then some (cK 2 0 ByteArray.empty,j+5) else none):=by show _=_;unfold rW;rw [if_neg (by rw [hp1];simp)]
  clear hp1;go_in;go_wp2_with fail;refine HA.out.mono ?_;rintro e w1 ⟨rfl,B1,L1⟩;have fO:=aj L1;have HR1:=aj (gZ.out.move B1.size (B1.block _ gZ.out.lt (by omega)));have HW1:=aj ((bI.of (c:=c) HB0.out).trans B1);clear B1 L1 HA gZ HB0 nH;cases hp2:zV s j vY with
  | true =>
   have HA2:=aj (AJ c s j vY _ fO.out hs hp2);have HX:Hid (rW s j=some (cK 2 1 ByteArray.empty,j+4)):=by show _=_;rw [HX0.out,if_pos hp2]
   clear hp2;go_wp2_with fail;refine HA2.out.mono ?_;rintro e w2 ⟨rfl,B2,L2⟩;have HL2:=aj L2;have HR2:=aj (HR1.out.move B2.size (B2.block _ HR1.out.lt (by omega)));have HW2:=aj (HW1.out.trans B2);clear B2 L2 HA2 HR1 HW1 fO;have r0:=HR2.out.q0;have r1:=HR2.out.q1;have r2:=HR2.out.q2;have r3:=HR2.out.q3;have r4:=HR2.out.q4;have s0:=HR2.out.f0;have s1:=HR2.out.f1;have s2:=HR2.out.f2;have s3:=HR2.out.f3;have s4:=HR2.out.f4;go_wp2_with fail;refine bodyPost_ret (v:=.agg #[.int .i64 2,.int .i64 1,.string ⟨#[]⟩,.slice none 0 0,.slice none 0 0]) (by simp [results,Tryz.results113,go_sem, *]) rfl ?_;exact D5 2 1 ByteArray.empty (by omega) (by omega) (by omega) (by simp) HX.out HW2.out hlc HL2.out
  | false =>
   have HA2:=aj (F3 c s j vY _ fO.out hj hp2);have Mf:Hid (rW s j=if zV s j ql=true then some (cK 2 0 ByteArray.empty,j+5) else none):=by show _=_;rw [HX0.out,if_neg (by rw [hp2];simp)]
   clear hp2;go_wp2_with fail;refine HA2.out.mono ?_;rintro e w2 ⟨rfl,B2,L2⟩;have HL2:=aj L2;have HR2:=aj (HR1.out.move B2.size (B2.block _ HR1.out.lt (by omega)));have HW2:=aj (HW1.out.trans B2);clear B2 L2 HA2 HR1 HW1 fO;cases hp3:zV s j ql with
   | true =>
    have tu:=aj (AJ c s j ql _ HL2.out hs hp3);have HX:Hid (rW s j=some (cK 2 0 ByteArray.empty,j+5)):=by show _=_;rw [Mf.out,if_pos hp3]
    clear hp3;go_wp2_with fail;refine tu.out.mono ?_;rintro e w3 ⟨rfl,B3,L3⟩;have tq:=aj L3;have HR3:=aj (HR2.out.move B3.size (B3.block _ HR2.out.lt (by omega)));have HW3:=aj (HW2.out.trans B3);clear B3 L3 tu HR2 HW2 HL2;have r0:=HR3.out.q0;have r1:=HR3.out.q1;have r2:=HR3.out.q2;have r3:=HR3.out.q3;have r4:=HR3.out.q4;have s0:=HR3.out.f0;have s1:=HR3.out.f1;have s2:=HR3.out.f2;have s3:=HR3.out.f3;have s4:=HR3.out.f4;go_wp2_with fail;refine bodyPost_ret (v:=.agg #[.int .i64 2,.int .i64 0,.string ⟨#[]⟩,.slice none 0 0,.slice none 0 0]) (by simp [results,Tryz.results113,go_sem, *]) rfl ?_;exact D5 2 0 ByteArray.empty (by omega) (by omega) (by omega) (by simp) HX.out HW3.out hlc tq.out
   | false =>
    have tu:=aj (F3 c s j ql _ HL2.out hj hp3);have HX:Hid (rW s j=none):=by show _=_;rw [Mf.out,if_neg (by rw [hp3];simp)]
    clear hp3;go_wp2_with fail;refine tu.out.mono ?_;rintro e w3 ⟨rfl,B3,L3⟩;have HW3:=aj (HW2.out.trans B3);clear B3 L3 tu HR2 HW2 HL2;go_wp2_with fail;exact ⟨rfl,HW3.out,Or.inr ⟨HX.out,rfl⟩⟩
end Go.Proofs.YtknakfpciccoaabGreatDoor
