import Derived.Test.YtknakfpciccoaabGreatDoorZS7
/- A list that a parser makes: what holds in memory while it grows. -/
namespace Go.Proofs.YtknakfpciccoaabGreatDoor
open Go.RowKit
structure JI (f:Nat) (k:Int) (c:Nat) (w:World) (rb bx lo:Nat) (L:List T) (K:List ByteArray) (Lv Kv:Value) (xs:List Value) (sub:Nat→List Ent) (wr:World):Prop where
 grow:Grow lo f wr Lv Kv L K xs sub
 res:BoxAt rb (.int .i64 0) (.int .i64 0) (.string ⟨#[]⟩) (.slice none 0 0) (.slice none 0 0) wr
 box:BoxAt bx (.int .i64 k) (.int .i64 0) (.string ⟨#[]⟩) Lv Kv wr
 but:But c w wr
 lc:c<w.heap.size
 l1:w.heap.size≤rb
 l2:w.heap.size≤bx
 l3:rb<lo
 l4:bx<lo
 l5:rb≠bx
section
variable {f : Nat} {k : Int} {c : Nat} {w : World} {rb bx lo : Nat} {L : List T} {K : List ByteArray} {Lv Kv : Value} {xs : List Value} {sub : Nat → List Ent} {wr : World}
theorem JI.inner (h:JI f k c w rb bx lo L K Lv Kv xs sub wr) {w1:World} (hB:But c wr w1):JI f k c w rb bx lo L K Lv Kv xs sub w1:=by
 have h0:=h.lc
 have h1:=h.l1
 have h2:=h.l2
 have h3:=h.l3
 have h4:=h.l4
 exact ⟨h.grow.move hB.size (fun b hb hh=>hB.block b hh (by omega)),h.res.move hB.size (hB.block _ h.res.lt (by omega)),h.box.move hB.size (hB.block _ h.box.lt (by omega)),h.but.trans hB,h0,h1,h2,h3,h4,h.l5⟩
theorem JI.keep (h:JI f k c w rb bx lo L K Lv Kv xs sub wr) {w1:World} (hB:Below wr.heap.size wr w1):JI f k c w rb bx lo L K Lv Kv xs sub w1:=h.inner (But.of hB)
theorem JI.putK (h:JI f k c w rb bx lo L K Lv Kv xs sub wr) {w2:World} {Kv':Value} {nm:ByteArray} (hk:nm.size≤140737488355328)
  (hO:w2.ownsRow lo eS 1 Kv' (K.length+1) (namesV K++[.string nm])) (hG:wr.grownBy w2 Kv.ownBlock) (hN:NewOr wr Kv Kv'):JI f k c w rb bx lo L (K++[nm]) Lv Kv' xs sub (w2.setCell ⟨bx,4,none⟩ Kv')∧(w2.setCell ⟨bx,4,none⟩ Kv').heap[c]?=wr.heap[c]?∧wr.heap.size≤(w2.setCell ⟨bx,4,none⟩ Kv').heap.size:=by
 have h0:=h.lc
 have h1:=h.l1
 have h2:=h.l2
 have h3:=h.l3
 have h4:=h.l4
 have h5:=h.l5
 have hne:∀ b,b<lo→some b≠Kv.ownBlock:=fun b hb e=>by
  have:=(h.grow.ownK.lt b e.symm).1
  omega
 have hblk:∀ b,b<wr.heap.size→b<lo→w2.heap[b]?=wr.heap[b]?:=fun b hb hh=>hG.block b hb (hne b hh)
 have hset:∀ b,b≠bx→(w2.setCell ⟨bx,4,none⟩ Kv').heap[b]?=w2.heap[b]?:=fun b hb=>Below.heap_setCell _ _ _ _ (by simpa using hb)
 have hsz:(w2.setCell ⟨bx,4,none⟩ Kv').heap.size=w2.heap.size:=by simp [World.setCell]
 have hs2:=hG.size
 have hb:=h.but
 have hbs:=hb.size
 refine ⟨⟨(h.grow.addK nm hk hO hG hN).set _ _ _ (by omega),h.res.move (by omega) ((hset _ (by omega)).trans (hblk _ h.res.lt (by omega))),(h.box.move hs2 (hblk _ h.box.lt (by omega))).put4 Kv',?_,h0,h1,h2,h3,h4,h5⟩,(hset _ (by omega)).trans (hblk _ (by omega) (by omega)),by omega⟩
 refine ⟨hG.os.trans hb.os,hG.tape.trans hb.tape,hG.output.trans hb.output,by omega,fun i hi hc=>?_⟩
 exact (hset i (by omega)).trans ((hblk i (by omega) (by omega)).trans (hb.block i hi hc))
theorem JI.putL (h:JI f k c w rb bx lo L K Lv Kv xs sub wr) {w2:World} {Lv':Value} {x:T} {es:List Ent} {c0 c1 c2 c3 c4:Value} (hF:Flat wr f (.agg #[c0,c1,c2,c3,c4]) x es)
  (hS:Sep lo wr (catE sub L.length++es++[⟨Lv,L.length,Kv,K.length⟩])) (hO:w2.ownsRow lo eV 5 Lv' (L.length+1) (xs++[c0,c1,c2,c3,c4])) (hG:wr.grownBy w2 Lv.ownBlock) (hN:NewOr wr Lv Lv') :
  JI f k c w rb bx lo (L++[x]) K Lv' Kv (xs++[c0,c1,c2,c3,c4]) (updE sub L.length es) (w2.setCell ⟨bx,3,none⟩ Lv')∧(w2.setCell ⟨bx,3,none⟩ Lv').heap[c]?=wr.heap[c]?∧wr.heap.size≤(w2.setCell ⟨bx,3,none⟩ Lv').heap.size:=by
 have h0:=h.lc
 have h1:=h.l1
 have h2:=h.l2
 have h3:=h.l3
 have h4:=h.l4
 have h5:=h.l5
 have hne:∀ b,b<lo→some b≠Lv.ownBlock:=fun b hb e=>by
  have:=(h.grow.ownL.lt b e.symm).1
  omega
 have hblk:∀ b,b<wr.heap.size→b<lo→w2.heap[b]?=wr.heap[b]?:=fun b hb hh=>hG.block b hb (hne b hh)
 have hset:∀ b,b≠bx→(w2.setCell ⟨bx,3,none⟩ Lv').heap[b]?=w2.heap[b]?:=fun b hb=>Below.heap_setCell _ _ _ _ (by simpa using hb)
 have hsz:(w2.setCell ⟨bx,3,none⟩ Lv').heap.size=w2.heap.size:=by simp [World.setCell]
 have hs2:=hG.size
 have hb:=h.but
 have hbs:=hb.size
 refine ⟨⟨(h.grow.addL hF hS hO hG hN).set _ _ _ (by omega),h.res.move (by omega) ((hset _ (by omega)).trans (hblk _ h.res.lt (by omega))),(h.box.move hs2 (hblk _ h.box.lt (by omega))).put3 Lv',?_,h0,h1,h2,h3,h4,h5⟩,(hset _ (by omega)).trans (hblk _ (by omega) (by omega)),by omega⟩
 refine ⟨hG.os.trans hb.os,hG.tape.trans hb.tape,hG.output.trans hb.output,by omega,fun i hi hc=>?_⟩
 exact (hset i (by omega)).trans ((hblk i (by omega) (by omega)).trans (hb.block i hi hc))
theorem JI.sepKid (h:JI f k c w rb bx lo L K Lv Kv xs sub wr) {w1:World} {es:List Ent} (hB:But c wr w1) (hS:Sep wr.heap.size w1 es):Sep lo w1 (catE sub L.length++es++[⟨Lv,L.length,Kv,K.length⟩]) :=
 h.grow.sep.child hB.size hS h.grow.low
theorem JI.stepL (h:JI f k c w rb bx lo L K Lv Kv xs sub wr) {w6:World} {x:T} {es:List Ent} {c0 c1 c2 c3 c4:Value} {lo' g cap:Nat} (o:Obj) (hF:Flat wr f (.agg #[c0,c1,c2,c3,c4]) x es) (hS':Sep lo' wr es)
  (hS:Sep lo wr (catE sub L.length++es++[⟨Lv,L.length,Kv,K.length⟩])) (hO:w6.ownsRow lo eV 5 (.slice (some ⟨g,0,none⟩) (L.length+1) cap) (L.length+1) (xs++[c0,c1,c2,c3,c4])) (hG:(wr.alloc o).grownBy w6 Lv.ownBlock) (hat:Lv.ownBlock=some g∨g=wr.heap.size+1) :
  JI f k c w rb bx lo (L++[x]) K (.slice (some ⟨g,0,none⟩) (L.length+1) cap) Kv (xs++[c0,c1,c2,c3,c4]) (updE sub L.length es) (w6.setCell ⟨bx,3,none⟩ (.slice (some ⟨g,0,none⟩) (L.length+1) cap))∧(w6.setCell ⟨bx,3,none⟩ (.slice (some ⟨g,0,none⟩) (L.length+1) cap)).heap[c]?=wr.heap[c]?∧wr.heap.size≤(w6.setCell ⟨bx,3,none⟩ (.slice (some ⟨g,0,none⟩) (L.length+1) cap)).heap.size:=by
 have hb:Below wr.heap.size wr (wr.alloc o):=(Below.refl _ _).alloc (Nat.le_refl _) _
 have h0:=h.lc
 have hbs:=h.but.size
 have:=(h.keep hb).putL (hF.keep hS' hb) (hS.keep hb.size) hO hG (newOr_of o hat)
 exact ⟨this.1,this.2.1.trans (hb.block _ (by omega)),Nat.le_trans hb.size this.2.2⟩
theorem JI.stepK (h:JI f k c w rb bx lo L K Lv Kv xs sub wr) {w6:World} {nm:ByteArray} {g cap:Nat} (o:Obj) (hk:nm.size≤140737488355328)
  (hO:w6.ownsRow lo eS 1 (.slice (some ⟨g,0,none⟩) (K.length+1) cap) (K.length+1) (namesV K++[.string nm])) (hG:(wr.alloc o).grownBy w6 Kv.ownBlock) (hat:Kv.ownBlock=some g∨g=wr.heap.size+1) :
  JI f k c w rb bx lo L (K++[nm]) Lv (.slice (some ⟨g,0,none⟩) (K.length+1) cap) xs sub (w6.setCell ⟨bx,4,none⟩ (.slice (some ⟨g,0,none⟩) (K.length+1) cap))∧(w6.setCell ⟨bx,4,none⟩ (.slice (some ⟨g,0,none⟩) (K.length+1) cap)).heap[c]?=wr.heap[c]?∧wr.heap.size≤(w6.setCell ⟨bx,4,none⟩ (.slice (some ⟨g,0,none⟩) (K.length+1) cap)).heap.size:=by
 have hb:Below wr.heap.size wr (wr.alloc o):=(Below.refl _ _).alloc (Nat.le_refl _) _
 have h0:=h.lc
 have hbs:=h.but.size
 have:=(h.keep hb).putK hk hO hG (newOr_of o hat)
 exact ⟨this.1,this.2.1.trans (hb.block _ (by omega)),Nat.le_trans hb.size this.2.2⟩
theorem JI.boxGrown {e:TypeId} {size n:Nat} {v:Value} {ys:List Value} (h:JI f k c w rb bx lo L K Lv Kv xs sub wr) {w2:World} (hG:wr.grownBy w2 v.ownBlock) (hO:wr.ownsRow lo e size v n ys):BoxAt bx (.int .i64 k) (.int .i64 0) (.string ⟨#[]⟩) Lv Kv w2:=by
 have h4:=h.l4
 refine h.box.move hG.size (hG.block _ h.box.lt fun e=>?_)
 have:=(hO.lt _ e.symm).1
 omega
theorem JI.start {f:Nat} {k:Int} {c:Nat} {w:World} (hc:c<w.heap.size):JI f k c w w.heap.size (w.heap.size+1) (w.heap.size+2) [] [] (.slice none 0 0) (.slice none 0 0) [] (fun _=>[]) ((w.alloc (.cells #[.int .i64 0,.int .i64 0,.string ⟨#[]⟩,.slice none 0 0,.slice none 0 0] 36)).alloc (.cells #[.int .i64 k,.int .i64 0,.string ⟨#[]⟩,.slice none 0 0,.slice none 0 0] 36)):=by
 refine ⟨Grow.start _ _ _ (by simp),(box_new w _ _ _ _ _).move (by simp) (Below.heap_alloc _ _ _ (by simp)),?_,But.of (((Below.refl _ _).alloc (Nat.le_refl _) _).alloc (by simp) _),hc,by omega,by omega,by omega,by omega,by omega⟩
 have:=box_new (w.alloc (.cells #[.int .i64 0,.int .i64 0,.string ⟨#[]⟩,.slice none 0 0,.slice none 0 0] 36)) (.int .i64 k) (.int .i64 0) (.string ⟨#[]⟩) (.slice none 0 0) (.slice none 0 0)
 simpa using this
theorem put_five {c:Nat} {w wr:World} {f lo rb:Nat} {v:Value} {t:T} {es:List Ent} (hB:But c w wr) (hc:c<w.heap.size) (hF:Flat wr f v t es) (hS:Sep lo wr es) (h1:w.heap.size≤rb) (hlo:rb<lo) (u0 u1 u2 u3 u4:Value) :
  But c w (((((wr.setCell ⟨rb,0,none⟩ u0).setCell ⟨rb,1,none⟩ u1).setCell ⟨rb,2,none⟩ u2).setCell ⟨rb,3,none⟩ u3).setCell ⟨rb,4,none⟩ u4) ∧
  Flat (((((wr.setCell ⟨rb,0,none⟩ u0).setCell ⟨rb,1,none⟩ u1).setCell ⟨rb,2,none⟩ u2).setCell ⟨rb,3,none⟩ u3).setCell ⟨rb,4,none⟩ u4) f v t es ∧
  Sep w.heap.size (((((wr.setCell ⟨rb,0,none⟩ u0).setCell ⟨rb,1,none⟩ u1).setCell ⟨rb,2,none⟩ u2).setCell ⟨rb,3,none⟩ u3).setCell ⟨rb,4,none⟩ u4) es ∧
  (((((wr.setCell ⟨rb,0,none⟩ u0).setCell ⟨rb,1,none⟩ u1).setCell ⟨rb,2,none⟩ u2).setCell ⟨rb,3,none⟩ u3).setCell ⟨rb,4,none⟩ u4).heap[c]?=wr.heap[c]? ∧
  (((((wr.setCell ⟨rb,0,none⟩ u0).setCell ⟨rb,1,none⟩ u1).setCell ⟨rb,2,none⟩ u2).setCell ⟨rb,3,none⟩ u3).setCell ⟨rb,4,none⟩ u4).heap.size=wr.heap.size:=by
 have hset:∀ (w1:World) (o:Nat) (u:Value) (b:Nat),b≠rb→(w1.setCell ⟨rb,o,none⟩ u).heap[b]?=w1.heap[b]?:=fun w1 o u b hb=>Below.heap_setCell _ _ _ _ (by simpa using hb)
 refine ⟨((((hB.setNew h1 _ _).setNew h1 _ _).setNew h1 _ _).setNew h1 _ _).setNew h1 _ _,hF.move fun b hb=>?_,?_,?_,by simp [World.setCell]⟩
 ·have h1:=hS.lies b hb
  rw [hset _ _ _ _ (by omega),hset _ _ _ _ (by omega),hset _ _ _ _ (by omega),hset _ _ _ _ (by omega),hset _ _ _ _ (by omega)]
 ·exact (hS.lower (by omega)).keep (by simp [World.setCell])
 ·rw [hset _ _ _ _ (by omega),hset _ _ _ _ (by omega),hset _ _ _ _ (by omega),hset _ _ _ _ (by omega),hset _ _ _ _ (by omega)]
theorem PL.same {c:Nat} {s:ByteArray} {i:Nat} {w w':World} (h:PL c s i w) (hb:w'.heap[c]?=w.heap[c]?) (hs:w.heap.size≤w'.heap.size):PL c s i w':=h.move hs hb
end
def VPost (n c:Nat) (s:ByteArray) (x:Option (T×Nat)) (after:Nat→Nat) (w:World) (e:Ending) (w':World):Prop :=
 But c w w'∧((∃ t j es A B C D,x=some (t,j)∧e=.returned (five t A B C D)∧Flat w' n (five t A B C D) t es∧Sep w.heap.size w' es∧PL c s (after j) w')∨(x=none∧e=refusedT 2))
def VSaid (Tb:World→Prop) (s:ByteArray) (n:Nat):Prop:=∀ (c i:Nat) (w:World),Stays Tb c→PL c s i w→Tb w→i≤s.size→s.size<i+n→Calls Tryz.prog 44 #[.pointer (some ⟨c,0,none⟩)] w (VPost n c s (valN s n i) (sk s) w)
theorem v_some {Tb:World→Prop} {s:ByteArray} {n:Nat} (hv:VSaid Tb s n) {c i:Nat} {w:World} {t:T} {j:Nat} (hz:valN s n i=some (t,j)) (hS:Stays Tb c) (hL:PL c s i w) (hT:Tb w) (hi:i≤s.size) (hn:s.size<i+n) :
  Calls Tryz.prog 44 #[.pointer (some ⟨c,0,none⟩)] w fun e w'=>∃ es A B C D,e=.returned (.agg #[.int .i64 (kindOf t),.int .i64 (nOf t),.string (sOf t),.slice A (nL t) B,.slice C (nK t) D])∧But c w w'∧Flat w' n (.agg #[.int .i64 (kindOf t),.int .i64 (nOf t),.string (sOf t),.slice A (nL t) B,.slice C (nK t) D]) t es∧Sep w.heap.size w' es∧PL c s (sk s j) w':=by
 refine (hv c i w hS hL hT hi hn).mono ?_
 rintro e w' ⟨hB,⟨t',j',es,A,B,C,D,hz',rfl,hF,hSp,hL'⟩ | ⟨hz',_⟩⟩
 ·rw [hz] at hz'
  cases hz'
  exact ⟨es,A,B,C,D,rfl,hB,hF,hSp,hL'⟩
 ·rw [hz] at hz'
  cases hz'
theorem v_none {Tb:World→Prop} {s:ByteArray} {n:Nat} (hv:VSaid Tb s n) {c i:Nat} {w:World} (hz:valN s n i=none) (hS:Stays Tb c) (hL:PL c s i w) (hT:Tb w) (hi:i≤s.size) (hn:s.size<i+n) :
  Calls Tryz.prog 44 #[.pointer (some ⟨c,0,none⟩)] w fun e w'=>e=refusedT 2∧But c w w':=by
 refine (hv c i w hS hL hT hi hn).mono ?_
 rintro e w' ⟨hB,⟨t',j',es,A,B,C,D,hz',rfl,hF,hSp,hL'⟩ | ⟨hz',rfl⟩⟩
 ·rw [hz] at hz'
  cases hz'
 ·exact ⟨rfl,hB⟩
theorem s_some {Tb:World→Prop} (hD:DecSaid Tb) {c:Nat} (hS:Stays Tb c) {s:ByteArray} {i:Nat} {w:World} {x:ByteArray} {j:Nat} (hz:txtS s i=some (x,j)) (h:PL c s i w) (hT:Tb w) (hs:s.size≤4000) (hi:i≤s.size) :
  Calls Tryz.prog 108 #[.pointer (some ⟨c,0,none⟩)] w fun e w'=>e=.returned (.string x)∧But c w w'∧PL c s j w':=by
 refine (str_any hD c hS s i w h hT hs hi).mono ?_
 rintro e w' ⟨hB,⟨x',j',hz',rfl,hL'⟩ | ⟨hz',_⟩⟩
 ·rw [hz] at hz'
  cases hz'
  exact ⟨rfl,hB,hL'⟩
 ·rw [hz] at hz'
  cases hz'
theorem s_none {Tb:World→Prop} (hD:DecSaid Tb) {c:Nat} (hS:Stays Tb c) {s:ByteArray} {i:Nat} {w:World} (hz:txtS s i=none) (h:PL c s i w) (hT:Tb w) (hs:s.size≤4000) (hi:i≤s.size) :
  Calls Tryz.prog 108 #[.pointer (some ⟨c,0,none⟩)] w fun e w'=>e=refusedT 2∧But c w w':=by
 refine (str_any hD c hS s i w h hT hs hi).mono ?_
 rintro e w' ⟨hB,⟨x',j',hz',rfl,hL'⟩ | ⟨hz',rfl⟩⟩
 ·rw [hz] at hz'
  cases hz'
 ·exact ⟨rfl,hB⟩
end Go.Proofs.YtknakfpciccoaabGreatDoor
/- The walk of the program's parser: lists. -/
namespace Go.Proofs.YtknakfpciccoaabGreatDoor
open Go.RowKit
def AtItem (n:Nat) (s:ByteArray) (o:Bool) (j:Nat) (more:Bool) (k:Nat) (L:List T) (K:List ByteArray):Prop :=
 (more=true→∃ m,s.size+1≤m+k∧boxS (valN s n) s o j=(itm (valN s n) s o m k).map (onto K L))∧(more=false→boxS (valN s n) s o j=some ((K,L),k))
theorem atItem_open {n:Nat} {s:ByteArray} {o:Bool} {j:Nat} (h:cB s (sk s j)≠cl o):AtItem n s o j true (sk s j) [] []:=by
 refine ⟨fun _=>⟨s.size+1,by omega,?_⟩,fun h=>by cases h⟩
 unfold boxS
 rw [if_neg h]
 exact onto_nil _
theorem atItem_shut {n:Nat} {s:ByteArray} {o:Bool} {j:Nat} (h:cB s (sk s j)=cl o):AtItem n s o j false (sk s j+1) [] []:=by
 refine ⟨(fun h=>by cases h),fun _=>?_⟩
 unfold boxS
 rw [if_pos h]
def ms (s:ByteArray) (more:Bool) (k:Nat):Nat:=if more=true then s.size+1 - k else 0
def LPost (n c:Nat) (k:Int) (s:ByteArray) (o:Bool) (j:Nat) (w:World):Ending→World→Prop :=
 VPost (n+1) c s ((boxS (valN s n) s o j).map fun r=>(mkT k 0 ByteArray.empty r.1.2 r.1.1,r.2)) id w
set_option maxHeartbeats 4000000 in
set_option maxRecDepth 100000 in
theorem list_any {Tb:World→Prop} (n:Nat) (s:ByteArray) (ih:VSaid Tb s n) (c:Nat) (hS:Stays Tb c) (i:Nat) (w:World) (h:PL c s i w) (hT:Tb w) (hs:s.size≤4000) (hb:cB s i=91) (hn:s.size<i+n+1) :
  Calls Tryz.prog 109 #[.pointer (some ⟨c,0,none⟩)] w (LPost n c 5 s false (i+1) w):=by
 obtain ⟨iV,hiV,zV0,zV1,zV2⟩:=info_parts infoV
 have hlt:i<s.size:=cB_in (by omega)
 have hsk1:=sk_ge s (i+1)
 have hsk2:=sk_le (s:=s) (i:=i+1) (by omega)
 have HJ0:=hid (JI.start (f:=n) (k:=5) h.lt)
 have HL0:=hid (h.keep (((Below.refl _ _).alloc (Nat.le_refl _) (.cells #[.int .i64 0,.int .i64 0,.string ⟨#[]⟩,.slice none 0 0,.slice none 0 0] 36)).alloc (by simp) (.cells #[.int .i64 5,.int .i64 0,.string ⟨#[]⟩,.slice none 0 0,.slice none 0 0] 36)))
 have HO:=hid (opens_any c s i 91 93 _ HL0.out hs (by omega) (by omega) (by omega))
 have HT:=hid hT
 have HS:=hid hS
 have HI:=hid ih
 have hcl:=h.lt
 clear h hT hS ih hb
 go_enter Tryz.func109,Tryz.ntmps109
 go_wp2_with fail
 refine HO.out.mono ?_
 rintro e w1 ⟨B1,hcase⟩
 have HJ1:=hid (HJ0.out.inner B1)
 obtain ⟨more,k0,he,HLk,HA,hk0⟩:∃ (more:Bool) (k0:Nat),e=.returned (.bool more)∧Hid (PL c s k0 w1)∧Hid (AtItem n s false (i+1) more k0 [] [])∧(i<k0∧k0≤s.size):=by
  rcases hcase with ⟨hc,he,hL⟩ | ⟨hc,he,hL⟩
  ·exact ⟨false,_,he,hL,atItem_shut (by show _=93;omega),by omega,by have:=cB_in (s:=s) (i:=sk s (i+1)) (by omega);omega⟩
  ·exact ⟨true,_,he,hL,atItem_open (by show _≠93;omega),by omega,by omega⟩
 subst he
 clear hcase B1 HO HJ0 HL0 hsk1 hsk2
 go_wp2_with fail
 go_loopg [4] (ms s more k0) (fun g b wr=>∃ (more:Bool) (k:Nat) (L:List T) (K:List ByteArray) (Lv Kv:Value) (xs:List Value) (sub:Nat→List Ent),g=ms s more k∧b=.bool more∧i<k∧k≤s.size∧L.length≤k∧K=[]∧Hid (JI n 5 c w w.heap.size (w.heap.size+1) (w.heap.size+2) L K Lv Kv xs sub wr)∧Hid (PL c s k wr)∧Hid (AtItem n s false (i+1) more k L K))
 case atStart=>exact ⟨more,k0,[],[],_,_,[],fun _=>[],rfl,rfl,hk0.1,hk0.2,by simp,rfl,HJ1,HLk,HA⟩
 case round =>
  clear HJ1 HLk HA hk0
  obtain ⟨more,k,L,K,Lv,Kv,xs,sub,rfl,rfl,hk1,hk2,hlL,rfl,HE,HLk,HA⟩:=hrel
  cases more with
  | false =>
   obtain ⟨A,B,rfl⟩:=own_shape HE.out.grow.ownL
   obtain ⟨C,D,rfl⟩:=own_shape HE.out.grow.ownK
   have r0:=HE.out.res.q0
   have r1:=HE.out.res.q1
   have r2:=HE.out.res.q2
   have r3:=HE.out.res.q3
   have r4:=HE.out.res.q4
   have s0:=HE.out.res.f0
   have s1:=HE.out.res.f1
   have s2:=HE.out.res.f2
   have s3:=HE.out.res.f3
   have s4:=HE.out.res.f4
   have t0:=HE.out.box.q0
   have t1:=HE.out.box.q1
   have t2:=HE.out.box.q2
   have t3:=HE.out.box.q3
   have t4:=HE.out.box.q4
   go_wp2_with fail
   refine bodyPost_ret (v:=five (mkT 5 0 ByteArray.empty L []) A B C D) (by simp [results,Tryz.results109,go_sem,five,kindOf_mk,nOf_mk,sOf_mk,nL_mk,nK_mk, *];rfl) rfl ?_
   have hE:=HE.out
   have hF:=hE.grow.flat 5 (by omega) (by omega) (by omega) (by simp)
   have hp:=put_five (rb:=w.heap.size) hE.but hcl hF hE.grow.sep (Nat.le_refl _) (by omega) (.int .i64 5) (.int .i64 0) (.string ⟨#[]⟩) (.slice A L.length B) (.slice C 0 D)
   refine ⟨hp.1,Or.inl ⟨mkT 5 0 ByteArray.empty L [],k,_,A,B,C,D,?_,rfl,?_,hp.2.2.1,HLk.out.same hp.2.2.2.1 (by rw [hp.2.2.2.2];exact Nat.le_refl _)⟩⟩
   ·rw [HA.out.2 rfl]
    rfl
   ·unfold five
    rw [kindOf_mk,nOf_mk,sOf_mk,nL_mk,nK_mk]
    exact hp.2.1
  | true =>
   obtain ⟨m,hm,hX⟩:=HA.out.1 rfl
   have HX:=hid hX
   obtain ⟨m,rfl⟩:∃ m',m=m'+1:=⟨m - 1,by omega⟩
   have hkey:keyS s false k=some (ByteArray.empty,k):=rfl
   have HE3:=hid (HE.out.keep (below_drew wr))
   have HL3:=hid (HLk.out.keep (below_drew wr))
   have HT3:=hid (But.stays HS.out HT.out HE3.out.but (Nat.le_of_lt hcl))
   have hc3:=HE.out.box.q3
   clear HA hX HE HLk
   go_wp2_with fail
   cases hz:valN s n k with
   | none =>
    have HZ:Hid ((boxS (valN s n) s false (i+1)).map (fun r=>(mkT 5 0 ByteArray.empty r.1.2 r.1.1,r.2))=none):=by
     show _=_
     rw [HX.out,itm_noval hkey hz]
     rfl
    have HC:=hid (v_none HI.out hz HS.out HL3.out HT3.out hk2 (by omega))
    refine wp_region_held_drew (S:=fun wx=>wx.cell? ⟨w.heap.size+1,3,none⟩=some Lv) (by kernel_rfl) HE3.out.box.q3 (fun hHeld=>?_)
    refine wpAnyH_take (i:=0) (v:=.pointer (some ⟨w.heap.size+1,3,none⟩)) rfl (by kernel_rfl) (by kernel_rfl) (by kernel_rfl) (fun _ _ _ h=>h) (Or.inl ⟨by rfl,(by intro wx hSw;go_simp)⟩) hHeld ?_
    refine wpAnyH_take (i:=1) (v:=Lv) rfl (by kernel_rfl) (by kernel_rfl) (by kernel_rfl) (fun _ _ _ h=>h) (Or.inl ⟨by rfl,(by intro wx hSw;go_simp)⟩) hHeld ?_
    refine wpAnyH_take (i:=2) (v:=.pointer (some ⟨c,0,none⟩)) rfl (by kernel_rfl) (by kernel_rfl) (by kernel_rfl) (fun _ _ _ h=>h) (Or.inl ⟨by rfl,(by intro wx hSw;go_simp)⟩) hHeld ?_
    refine wpAnyH_ready (rs:=[3]) (by kernel_rfl) (by simp) (AllReadyH.cons rfl (fun KK hKK=>?_) AllReadyH.nil)
    go_simp
    go_wp2_with (go_at_call 44;refine HC.out.mono ?_;rintro e w5 ⟨rfl,hb5⟩)
    exact ⟨rfl,HE3.out.but.trans hb5,Or.inr ⟨HZ.out,rfl⟩⟩
   | some p =>
    obtain ⟨t,j⟩:=p
    have hadv:=valN_adv n k t j hk2 hz
    have hsj1:=sk_ge s j
    have hsj2:=sk_le hadv.2
    have HC:=hid (v_some HI.out hz HS.out HL3.out HT3.out hk2 (by omega))
    go_region_law (first | (refine step_append_lies _ (by rfl) _ _ _ (by rfl) (w.heap.size+2) 36 iV _ 5 80 Tryz.underlying34 hiV zV0 zV1 zV2 rfl (by omega) Lv L.length xs (by rfl) (HE5.out.keep ((Below.refl _ _).alloc (Nat.le_refl _) _)).grow.ownL ⟨w5.heap.size,0,none⟩ 1 1 [.int .i64 (kindOf t),.int .i64 (nOf t),.string (sOf t),.slice A (nL t) B,.slice C (nK t) D] (by rfl) (by rfl) (World.news_of_block (cs:=#[.int .i64 (kindOf t),.int .i64 (nOf t),.string (sOf t),.slice A (nL t) B,.slice C (nK t) D]) (t:=36) (fr:=(0,0)) (heap_alloc_new w5 _)) (by simp [Value.oneCell']) (by omega) (by unfold maxLen;omega) (by omega) (HE5.out.keep ((Below.refl _ _).alloc (Nat.le_refl _) _)).grow.low (w5.heap.size+1) (by simp) ?_;intro g cap w6 hown6 hgrow6 hat6 hlt6;have HX6:=hid ((HE5.out.keep ((Below.refl _ _).alloc (Nat.le_refl _) (.cells #[.int .i64 (kindOf t),.int .i64 (nOf t),.string (sOf t),.slice A (nL t) B,.slice C (nK t) D] 36))).boxGrown hgrow6 (HE5.out.keep ((Below.refl _ _).alloc (Nat.le_refl _) (.cells #[.int .i64 (kindOf t),.int .i64 (nOf t),.string (sOf t),.slice A (nL t) B,.slice C (nK t) D] 36))).grow.ownL);have hc6:=HX6.out.q3;have hf6:=HX6.out.f3) | (go_simp;go_wp2_with (go_at_call 44;refine HC.out.mono ?_;rintro e w5 ⟨es,A,B,C,D,rfl,hb5,hF5,hS5,hL5⟩;have HE5:=hid (HE3.out.inner hb5);have HL5:=hid hL5;have HF5:=hid hF5;have HS5:=hid (HE3.out.sepKid hb5 hS5);have HS5':=hid hS5;have hc5:=HE5.out.box.q3;have hc5a:=(HE5.out.keep ((Below.refl _ _).alloc (Nat.le_refl _) (.cells #[.int .i64 (kindOf t),.int .i64 (nOf t),.string (sOf t),.slice A (nL t) B,.slice C (nK t) D] 36))).box.q3;clear hF5 hS5 hL5 hb5)))
    all_goals
     have H6:=hid (HE5.out.stepL _ HF5.out HS5'.out HS5.out hown6 hgrow6 hat6)
     have HE6:=hid H6.out.1
     have HL6:=hid (HL5.out.same H6.out.2.1 H6.out.2.2)
     clear hown6 hgrow6 hat6 hlt6 HX6 hc6 hf6 HF5 HS5 HS5' HE5 hc5 hc5a H6 HL5 HC
     go_wp2_with fail
     refine (goesOn_any c s (sk s j) 93 _ HL6.out hs hsj2 (by omega)).mono ?_
     rintro e w7 ⟨hB7,⟨h44,rfl,hL7⟩ | ⟨h93,rfl,hL7⟩ | ⟨h44,h93,rfl⟩⟩
     ·have h44l:=cB_in (s:=s) (i:=sk s j) (by omega)
      have HE7:=hid (HE6.out.inner hB7)
      have HL7:=hid hL7
      have HX7:Hid (AtItem n s false (i+1) true (sk s j+1) (L++[t]) []):=⟨fun _=>⟨m,by omega,HX.out.trans (itm_more [] L hkey hz h44)⟩,fun h=>by cases h⟩
      clear hB7 hL7 HE6 HL6 HX h44
      go_wp2_with fail
      go_roundg (ms s true (sk s j+1))
      case rel=>exact ⟨true,sk s j+1,L++[t],[],_,_,_,_,rfl,rfl,by omega,by omega,by simp;omega,rfl,HE7,HL7,HX7⟩
      case measure=>unfold ms;simp;omega
     ·have h93l:=cB_in (s:=s) (i:=sk s j) (by omega)
      have HE7:=hid (HE6.out.inner hB7)
      have HL7:=hid hL7
      have HX7:Hid (AtItem n s false (i+1) false (sk s j+1) (L++[t]) []):=⟨(fun h=>by cases h),fun _=>HX.out.trans (itm_done [] L hkey hz (by show cB s (sk s j)=93;omega))⟩
      clear hB7 hL7 HE6 HL6 HX h93
      go_wp2_with fail
      go_roundg (ms s false (sk s j+1))
      case rel=>exact ⟨false,sk s j+1,L++[t],[],_,_,_,_,rfl,rfl,by omega,by omega,by simp;omega,rfl,HE7,HL7,HX7⟩
      case measure=>unfold ms;simp;omega
     ·have HB7:=hid (HE6.out.but.trans hB7)
      have HZ:Hid ((boxS (valN s n) s false (i+1)).map (fun r=>(mkT 5 0 ByteArray.empty r.1.2 r.1.1,r.2))=none):=by
       show _=_
       rw [HX.out,itm_torn hkey hz h44 (by show cB s (sk s j)≠93;omega)]
       rfl
      clear hB7 h44 h93 HX
      go_wp2_with fail
      exact ⟨rfl,HB7.out,Or.inr ⟨HZ.out,rfl⟩⟩
end Go.Proofs.YtknakfpciccoaabGreatDoor
/- The walk of the program's parser: objects. -/
namespace Go.Proofs.YtknakfpciccoaabGreatDoor
open Go.RowKit
theorem key_none {s:ByteArray} {k:Nat} (h:txtS s (sk s k)=none):keyS s true k=none:=by unfold keyS;rw [if_pos rfl,h];rfl
theorem key_torn {s:ByteArray} {k:Nat} {x:ByteArray} {j:Nat} (h:txtS s (sk s k)=some (x,j)) (h2:cB s (sk s j)≠58):keyS s true k=none:=by
 unfold keyS
 rw [if_pos rfl,h]
 simp only [Option.bind_some]
 rw [if_neg h2]
theorem key_some {s:ByteArray} {k:Nat} {x:ByteArray} {j:Nat} (h:txtS s (sk s k)=some (x,j)) (h2:cB s (sk s j)=58):keyS s true k=some (x,sk s j+1):=by
 unfold keyS
 rw [if_pos rfl,h]
 simp only [Option.bind_some]
 rw [if_pos h2]
set_option maxHeartbeats 4000000 in
set_option maxRecDepth 100000 in
theorem object_any {Tb:World→Prop} (hD:DecSaid Tb) (n:Nat) (s:ByteArray) (ih:VSaid Tb s n) (c:Nat) (hS:Stays Tb c) (i:Nat) (w:World) (h:PL c s i w) (hT:Tb w) (hs:s.size≤4000) (hb:cB s i=123) (hn:s.size<i+n+1) :
  Calls Tryz.prog 110 #[.pointer (some ⟨c,0,none⟩)] w (LPost n c 6 s true (i+1) w):=by
 obtain ⟨iS,hiS,zS0,zS1,zS2⟩:=info_parts infoS
 obtain ⟨iV,hiV,zV0,zV1,zV2⟩:=info_parts infoV
 have hlt:i<s.size:=cB_in (by omega)
 have hsk1:=sk_ge s (i+1)
 have hsk2:=sk_le (s:=s) (i:=i+1) (by omega)
 have HJ0:=hid (JI.start (f:=n) (k:=6) h.lt)
 have HL0:=hid (h.keep (((Below.refl _ _).alloc (Nat.le_refl _) (.cells #[.int .i64 0,.int .i64 0,.string ⟨#[]⟩,.slice none 0 0,.slice none 0 0] 36)).alloc (by simp) (.cells #[.int .i64 6,.int .i64 0,.string ⟨#[]⟩,.slice none 0 0,.slice none 0 0] 36)))
 have HO:=hid (opens_any c s i 123 125 _ HL0.out hs (by omega) (by omega) (by omega))
 have HT:=hid hT
 have HS:=hid hS
 have HI:=hid ih
 have HD:=hid hD
 have hcl:=h.lt
 clear h hT hS ih hb hD
 go_enter Tryz.func110,Tryz.ntmps110
 go_wp2_with fail
 refine HO.out.mono ?_
 rintro e w1 ⟨B1,hcase⟩
 have HJ1:=hid (HJ0.out.inner B1)
 obtain ⟨more,k0,he,HLk,HA,hk0⟩:∃ (more:Bool) (k0:Nat),e=.returned (.bool more)∧Hid (PL c s k0 w1)∧Hid (AtItem n s true (i+1) more k0 [] [])∧(i<k0∧k0≤s.size):=by
  rcases hcase with ⟨hc,he,hL⟩ | ⟨hc,he,hL⟩
  ·exact ⟨false,_,he,hL,atItem_shut (by show _=125;omega),by omega,by have:=cB_in (s:=s) (i:=sk s (i+1)) (by omega);omega⟩
  ·exact ⟨true,_,he,hL,atItem_open (by show _≠125;omega),by omega,by omega⟩
 subst he
 clear hcase B1 HO HJ0 HL0 hsk1 hsk2
 go_wp2_with fail
 go_loopg [4] (ms s more k0) (fun g b wr=>∃ (more:Bool) (k:Nat) (L:List T) (K:List ByteArray) (Lv Kv:Value) (xs:List Value) (sub:Nat→List Ent),g=ms s more k∧b=.bool more∧i<k∧k≤s.size∧L.length≤k∧K.length≤k∧Hid (JI n 6 c w w.heap.size (w.heap.size+1) (w.heap.size+2) L K Lv Kv xs sub wr)∧Hid (PL c s k wr)∧Hid (AtItem n s true (i+1) more k L K))
 case atStart=>exact ⟨more,k0,[],[],_,_,[],fun _=>[],rfl,rfl,hk0.1,hk0.2,by simp,by simp,HJ1,HLk,HA⟩
 case round =>
  clear HJ1 HLk HA hk0
  obtain ⟨more,k,L,K,Lv,Kv,xs,sub,rfl,rfl,hk1,hk2,hlL,hlK,HE,HLk,HA⟩:=hrel
  cases more with
  | false =>
   obtain ⟨A,B,rfl⟩:=own_shape HE.out.grow.ownL
   obtain ⟨C,D,rfl⟩:=own_shape HE.out.grow.ownK
   have r0:=HE.out.res.q0
   have r1:=HE.out.res.q1
   have r2:=HE.out.res.q2
   have r3:=HE.out.res.q3
   have r4:=HE.out.res.q4
   have s0:=HE.out.res.f0
   have s1:=HE.out.res.f1
   have s2:=HE.out.res.f2
   have s3:=HE.out.res.f3
   have s4:=HE.out.res.f4
   have t0:=HE.out.box.q0
   have t1:=HE.out.box.q1
   have t2:=HE.out.box.q2
   have t3:=HE.out.box.q3
   have t4:=HE.out.box.q4
   go_wp2_with fail
   refine bodyPost_ret (v:=five (mkT 6 0 ByteArray.empty L K) A B C D) (by simp [results,Tryz.results110,go_sem,five,kindOf_mk,nOf_mk,sOf_mk,nL_mk,nK_mk, *];rfl) rfl ?_
   have hE:=HE.out
   have hF:=hE.grow.flat 6 (by omega) (by omega) (by omega) (by omega)
   have hp:=put_five (rb:=w.heap.size) hE.but hcl hF hE.grow.sep (Nat.le_refl _) (by omega) (.int .i64 6) (.int .i64 0) (.string ⟨#[]⟩) (.slice A L.length B) (.slice C K.length D)
   refine ⟨hp.1,Or.inl ⟨mkT 6 0 ByteArray.empty L K,k,_,A,B,C,D,?_,rfl,?_,hp.2.2.1,HLk.out.same hp.2.2.2.1 (by rw [hp.2.2.2.2];exact Nat.le_refl _)⟩⟩
   ·rw [HA.out.2 rfl]
    rfl
   ·unfold five
    rw [kindOf_mk,nOf_mk,sOf_mk,nL_mk,nK_mk]
    exact hp.2.1
  | true =>
   obtain ⟨m,hm,hX⟩:=HA.out.1 rfl
   have HX:=hid hX
   obtain ⟨m,rfl⟩:∃ m',m=m'+1:=⟨m - 1,by omega⟩
   have hge:=sk_ge s k
   have hle:=sk_le hk2
   clear HA hX
   go_wp2_with fail
   refine (skip_any c s k wr HLk.out hs hk2).mono ?_
   rintro e wa ⟨rfl,hBa,hLa⟩
   have HEa:=hid (HE.out.inner hBa)
   have HLa:=hid hLa
   have HE3:=hid (HEa.out.keep (below_drew wa))
   have HL3:=hid (HLa.out.keep (below_drew wa))
   have HT3:=hid (But.stays HS.out HT.out HE3.out.but (Nat.le_of_lt hcl))
   have hc3:=HEa.out.box.q4
   clear hBa hLa HE HLk HEa HLa
   go_wp2_with fail
   cases hz2:txtS s (sk s k) with
   | none =>
    have HZ:Hid ((boxS (valN s n) s true (i+1)).map (fun r=>(mkT 6 0 ByteArray.empty r.1.2 r.1.1,r.2))=none):=by
     show _=_
     rw [HX.out,itm_nokey (key_none hz2)]
     rfl
    have HC:=hid (s_none HD.out HS.out hz2 HL3.out HT3.out hs hle)
    refine wp_region_held_drew (S:=fun wx=>wx.cell? ⟨w.heap.size+1,4,none⟩=some Kv) (by kernel_rfl) HE3.out.box.q4 (fun hHeld=>?_)
    refine wpAnyH_take (i:=0) (v:=.pointer (some ⟨w.heap.size+1,4,none⟩)) rfl (by kernel_rfl) (by kernel_rfl) (by kernel_rfl) (fun _ _ _ h=>h) (Or.inl ⟨by rfl,(by intro wx hSw;go_simp)⟩) hHeld ?_
    refine wpAnyH_take (i:=1) (v:=Kv) rfl (by kernel_rfl) (by kernel_rfl) (by kernel_rfl) (fun _ _ _ h=>h) (Or.inl ⟨by rfl,(by intro wx hSw;go_simp)⟩) hHeld ?_
    refine wpAnyH_take (i:=2) (v:=.pointer (some ⟨c,0,none⟩)) rfl (by kernel_rfl) (by kernel_rfl) (by kernel_rfl) (fun _ _ _ h=>h) (Or.inl ⟨by rfl,(by intro wx hSw;go_simp)⟩) hHeld ?_
    refine wpAnyH_ready (rs:=[3]) (by kernel_rfl) (by simp) (AllReadyH.cons rfl (fun KK hKK=>?_) AllReadyH.nil)
    go_simp
    go_wp2_with (go_at_call 108;refine HC.out.mono ?_;rintro e w5 ⟨rfl,hb5⟩)
    exact ⟨rfl,HE3.out.but.trans hb5,Or.inr ⟨HZ.out,rfl⟩⟩
   | some p =>
    obtain ⟨nm,j⟩:=p
    have hadv:=txtS_adv hz2
    have hj1:=sk_ge s j
    have hj2:=sk_le hadv.2.1
    have HC:=hid (s_some HD.out HS.out hz2 HL3.out HT3.out hs hle)
    go_region_law (first | (refine step_append_lies _ (by rfl) _ _ _ (by rfl) (w.heap.size+2) 9 iS _ 1 16 Tryz.underlying28 hiS zS0 zS1 zS2 rfl (by omega) Kv K.length (namesV K) (by rfl) (HE4.out.keep ((Below.refl _ _).alloc (Nat.le_refl _) _)).grow.ownK ⟨w4.heap.size,0,none⟩ 1 1 [.string nm] (by rfl) (by rfl) (World.news_of_block (cs:=#[.string nm]) (t:=9) (fr:=(0,0)) (heap_alloc_new w4 _)) (by simp [Value.oneCell']) (by omega) (by unfold maxLen;omega) (by omega) (HE4.out.keep ((Below.refl _ _).alloc (Nat.le_refl _) _)).grow.low (w4.heap.size+1) (by simp) ?_;intro g4 cap4 w7 hown7 hgrow7 hat7 hlt7;have HX7:=hid ((HE4.out.keep ((Below.refl _ _).alloc (Nat.le_refl _) (.cells #[.string nm] 9))).boxGrown hgrow7 (HE4.out.keep ((Below.refl _ _).alloc (Nat.le_refl _) (.cells #[.string nm] 9))).grow.ownK);have hc7:=HX7.out.q4;have hf7:=HX7.out.f4) | (go_simp;go_wp2_with (go_at_call 108;refine HC.out.mono ?_;rintro e w4 ⟨rfl,hb4,hl4⟩;have HE4:=hid (HE3.out.inner hb4);have HL4:=hid hl4;have hc4:=HE4.out.box.q4;have hc4a:=(HE4.out.keep ((Below.refl _ _).alloc (Nat.le_refl _) (.cells #[.string nm] 9))).box.q4;clear hb4 hl4)))
    all_goals
     have H8:=hid (HE4.out.stepK _ (by omega) hown7 hgrow7 hat7)
     have HE8:=hid H8.out.1
     have HL8:=hid (HL4.out.same H8.out.2.1 H8.out.2.2)
     clear hown7 hgrow7 hat7 hlt7 HX7 hc7 hf7 HE4 hc4 hc4a HE3 hc3 H8 HL4 HL3 HT3 HC
     go_wp2_with fail
     refine (skip_any c s j _ HL8.out hs hadv.2.1).mono ?_
     rintro e wb ⟨rfl,hBb,hLb⟩
     have HEb:=hid (HE8.out.inner hBb)
     have HLb:=hid hLb
     clear hBb hLb HE8 HL8
     by_cases h58:cB s (sk s j)=58
     ·have hkey:=key_some hz2 h58
      have h58l:=cB_in (s:=s) (i:=sk s j) (by omega)
      have Hkey:=hid hkey
      have HCe:=hid (expect_yes c s (sk s j) 58 wb HLb.out hs (by omega) (by omega))
      clear hkey h58
      go_wp2_with fail
      refine HCe.out.mono ?_
      rintro e wc ⟨rfl,hBc,hLc⟩
      have HEc:=hid (HEb.out.inner hBc)
      have HE9:=hid (HEc.out.keep (below_drew wc))
      have HL9:=hid (PL.keep hLc (below_drew wc))
      have HT9:=hid (But.stays HS.out HT.out HE9.out.but (Nat.le_of_lt hcl))
      have hc9:=HEc.out.box.q3
      clear hBc hLc HEb HLb HEc HCe
      go_wp2_with fail
      cases hz:valN s n (sk s j+1) with
      | none =>
       have HZ:Hid ((boxS (valN s n) s true (i+1)).map (fun r=>(mkT 6 0 ByteArray.empty r.1.2 r.1.1,r.2))=none):=by
        show _=_
        rw [HX.out,itm_noval Hkey.out hz]
        rfl
       have HC:=hid (v_none HI.out hz HS.out HL9.out HT9.out (by omega) (by omega))
       refine wp_region_held_drew (S:=fun wx=>wx.cell? ⟨w.heap.size+1,3,none⟩=some Lv) (by kernel_rfl) HE9.out.box.q3 (fun hHeld=>?_)
       refine wpAnyH_take (i:=0) (v:=.pointer (some ⟨w.heap.size+1,3,none⟩)) rfl (by kernel_rfl) (by kernel_rfl) (by kernel_rfl) (fun _ _ _ h=>h) (Or.inl ⟨by rfl,(by intro wx hSw;go_simp)⟩) hHeld ?_
       refine wpAnyH_take (i:=1) (v:=Lv) rfl (by kernel_rfl) (by kernel_rfl) (by kernel_rfl) (fun _ _ _ h=>h) (Or.inl ⟨by rfl,(by intro wx hSw;go_simp)⟩) hHeld ?_
       refine wpAnyH_take (i:=2) (v:=.pointer (some ⟨c,0,none⟩)) rfl (by kernel_rfl) (by kernel_rfl) (by kernel_rfl) (fun _ _ _ h=>h) (Or.inl ⟨by rfl,(by intro wx hSw;go_simp)⟩) hHeld ?_
       refine wpAnyH_ready (rs:=[3]) (by kernel_rfl) (by simp) (AllReadyH.cons rfl (fun KK hKK=>?_) AllReadyH.nil)
       go_simp
       go_wp2_with (go_at_call 44;refine HC.out.mono ?_;rintro e w5 ⟨rfl,hb5⟩)
       exact ⟨rfl,HE9.out.but.trans hb5,Or.inr ⟨HZ.out,rfl⟩⟩
      | some p =>
       obtain ⟨t,j'⟩:=p
       have hadv2:=valN_adv n (sk s j+1) t j' (by omega) hz
       have hsj1:=sk_ge s j'
       have hsj2:=sk_le hadv2.2
       have HC:=hid (v_some HI.out hz HS.out HL9.out HT9.out (by omega) (by omega))
       go_region_law (first | (refine step_append_lies _ (by rfl) _ _ _ (by rfl) (w.heap.size+2) 36 iV _ 5 80 Tryz.underlying34 hiV zV0 zV1 zV2 rfl (by omega) Lv L.length xs (by rfl) (HE5.out.keep ((Below.refl _ _).alloc (Nat.le_refl _) _)).grow.ownL ⟨w5.heap.size,0,none⟩ 1 1 [.int .i64 (kindOf t),.int .i64 (nOf t),.string (sOf t),.slice A (nL t) B,.slice C (nK t) D] (by rfl) (by rfl) (World.news_of_block (cs:=#[.int .i64 (kindOf t),.int .i64 (nOf t),.string (sOf t),.slice A (nL t) B,.slice C (nK t) D]) (t:=36) (fr:=(0,0)) (heap_alloc_new w5 _)) (by simp [Value.oneCell']) (by omega) (by unfold maxLen;omega) (by omega) (HE5.out.keep ((Below.refl _ _).alloc (Nat.le_refl _) _)).grow.low (w5.heap.size+1) (by simp) ?_;intro g cap w6 hown6 hgrow6 hat6 hlt6;have HX6:=hid ((HE5.out.keep ((Below.refl _ _).alloc (Nat.le_refl _) (.cells #[.int .i64 (kindOf t),.int .i64 (nOf t),.string (sOf t),.slice A (nL t) B,.slice C (nK t) D] 36))).boxGrown hgrow6 (HE5.out.keep ((Below.refl _ _).alloc (Nat.le_refl _) (.cells #[.int .i64 (kindOf t),.int .i64 (nOf t),.string (sOf t),.slice A (nL t) B,.slice C (nK t) D] 36))).grow.ownL);have hc6:=HX6.out.q3;have hf6:=HX6.out.f3) | (go_simp;go_wp2_with (go_at_call 44;refine HC.out.mono ?_;rintro e w5 ⟨es,A,B,C,D,rfl,hb5,hF5,hS5,hL5⟩;have HE5:=hid (HE9.out.inner hb5);have HL5:=hid hL5;have HF5:=hid hF5;have HS5:=hid (HE9.out.sepKid hb5 hS5);have HS5':=hid hS5;have hc5:=HE5.out.box.q3;have hc5a:=(HE5.out.keep ((Below.refl _ _).alloc (Nat.le_refl _) (.cells #[.int .i64 (kindOf t),.int .i64 (nOf t),.string (sOf t),.slice A (nL t) B,.slice C (nK t) D] 36))).box.q3;clear hF5 hS5 hL5 hb5)))
       all_goals
        have H6:=hid (HE5.out.stepL _ HF5.out HS5'.out HS5.out hown6 hgrow6 hat6)
        have HE6:=hid H6.out.1
        have HL6:=hid (HL5.out.same H6.out.2.1 H6.out.2.2)
        clear hown6 hgrow6 hat6 hlt6 HX6 hc6 hf6 HF5 HS5 HS5' HE5 hc5 hc5a H6 HL5 HC
        go_wp2_with fail
        refine (goesOn_any c s (sk s j') 125 _ HL6.out hs hsj2 (by omega)).mono ?_
        rintro e w7 ⟨hB7,⟨h44,rfl,hL7⟩ | ⟨h93,rfl,hL7⟩ | ⟨h44,h93,rfl⟩⟩
        ·have h44l:=cB_in (s:=s) (i:=sk s j') (by omega)
         have HE7:=hid (HE6.out.inner hB7)
         have HL7:=hid hL7
         have HX7:Hid (AtItem n s true (i+1) true (sk s j'+1) (L++[t]) (K++[nm])):=⟨fun _=>⟨m,by omega,HX.out.trans (itm_more K L Hkey.out hz h44)⟩,fun h=>by cases h⟩
         clear hB7 hL7 HE6 HL6 HX h44
         go_wp2_with fail
         go_roundg (ms s true (sk s j'+1))
         case rel=>exact ⟨true,sk s j'+1,L++[t],K++[nm],_,_,_,_,rfl,rfl,by omega,by omega,by simp;omega,by simp;omega,HE7,HL7,HX7⟩
         case measure=>unfold ms;simp;omega
        ·have h93l:=cB_in (s:=s) (i:=sk s j') (by omega)
         have HE7:=hid (HE6.out.inner hB7)
         have HL7:=hid hL7
         have HX7:Hid (AtItem n s true (i+1) false (sk s j'+1) (L++[t]) (K++[nm])):=⟨(fun h=>by cases h),fun _=>HX.out.trans (itm_done K L Hkey.out hz (by show cB s (sk s j')=125;omega))⟩
         clear hB7 hL7 HE6 HL6 HX h93
         go_wp2_with fail
         go_roundg (ms s false (sk s j'+1))
         case rel=>exact ⟨false,sk s j'+1,L++[t],K++[nm],_,_,_,_,rfl,rfl,by omega,by omega,by simp;omega,by simp;omega,HE7,HL7,HX7⟩
         case measure=>unfold ms;simp;omega
        ·have HB7:=hid (HE6.out.but.trans hB7)
         have HZ:Hid ((boxS (valN s n) s true (i+1)).map (fun r=>(mkT 6 0 ByteArray.empty r.1.2 r.1.1,r.2))=none):=by
          show _=_
          rw [HX.out,itm_torn Hkey.out hz h44 (by show cB s (sk s j')≠125;omega)]
          rfl
         clear hB7 h44 h93 HX
         go_wp2_with fail
         exact ⟨rfl,HB7.out,Or.inr ⟨HZ.out,rfl⟩⟩
     ·have HZ:Hid ((boxS (valN s n) s true (i+1)).map (fun r=>(mkT 6 0 ByteArray.empty r.1.2 r.1.1,r.2))=none):=by
       show _=_
       rw [HX.out,itm_nokey (key_torn hz2 h58)]
       rfl
      have HCe:=hid (expect_no c s (sk s j) 58 wb HLb.out hs hj2 (by omega))
      clear h58
      go_wp2_with fail
      refine HCe.out.mono ?_
      rintro e wc ⟨rfl,hBc⟩
      have HBc:=hid (HEb.out.but.trans hBc)
      clear hBc
      go_wp2_with fail
      exact ⟨rfl,HBc.out,Or.inr ⟨HZ.out,rfl⟩⟩
end Go.Proofs.YtknakfpciccoaabGreatDoor
