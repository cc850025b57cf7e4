import Derived.Test.YtknakfpciccoaaaGreatDoorZC7
/- A list that a parser makes: what holds in memory while it grows. -/
set_option maxHeartbeats 4000000
set_option maxRecDepth 100000
namespace Go.Proofs.YtknakfpciccoaaaGreatDoor
open Go.RowKit
structure JI (f:Nat) (k:Int) (c:Nat) (w:World) (rb bx lo:Nat) (L:List T) (K:List ByteArray) (Lv Kv:Value) (xs:List Value) (sub:Nat->List kS) (wr:World):Prop where
 grow:qm lo f wr Lv Kv L K xs sub
 res:aJ rb (.int .i64 0) (.int .i64 0) (.string ⟨#[]⟩) (.slice none 0 0) (.slice none 0 0) wr
 box:aJ bx (.int .i64 k) (.int .i64 0) (.string ⟨#[]⟩) Lv Kv wr
 but:bq c w wr
 lc:c<w.heap.size
 l1:w.heap.size<=rb
 l2:w.heap.size<=bx
 l3:rb<lo
 l4:bx<lo
 l5:rb≠bx
section
variable {f : Nat} {k : Int} {c : Nat} {w : World} {rb bx lo : Nat} {L : List T} {K : List ByteArray} {Lv Kv : Value} {xs : List Value} {sub : Nat -> List kS} {wr : World}
theorem JI.inner (h:JI f k c w rb bx lo L K Lv Kv xs sub wr) {w1:World} (hB:bq c wr w1):JI f k c w rb bx lo L K Lv Kv xs sub w1:=by
 have h0:=h.lc;have h1:=h.l1;have h2:=h.l2;have h3:=h.l3;have h4:=h.l4;exact ⟨h.grow.move hB.size (fun b hb hh=>hB.block b hh (by omega)),h.res.move hB.size (hB.block _ h.res.lt (by omega)),h.box.move hB.size (hB.block _ h.box.lt (by omega)),h.but.trans hB,h0,h1,h2,h3,h4,h.l5⟩
theorem JI.keep (h:JI f k c w rb bx lo L K Lv Kv xs sub wr) {w1:World} (hB:Below wr.heap.size wr w1):JI f k c w rb bx lo L K Lv Kv xs sub w1:=h.inner (bq.of hB)
theorem JI.ahe (h:JI f k c w rb bx lo L K Lv Kv xs sub wr) {w2:World} {Rf:Value} {nm:ByteArray} (hk:nm.size<=140737488355328)
  (hO:w2.ownsRow lo eS 1 Rf (K.length+1) (gB K++[.string nm])) (hG:wr.grownBy w2 Kv.ownBlock) (hN:Bg wr Kv Rf):JI f k c w rb bx lo L (K++[nm]) Lv Rf xs sub (w2.setCell ⟨bx,4,none⟩ Rf)/\(w2.setCell ⟨bx,4,none⟩ Rf).heap[c]?=wr.heap[c]?/\wr.heap.size<=(w2.setCell ⟨bx,4,none⟩ Rf).heap.size:=by
 have h0:=h.lc;have h1:=h.l1;have h2:=h.l2;have h3:=h.l3;have h4:=h.l4;have h5:=h.l5
 have hne:∀ b,b<lo->some b≠Kv.ownBlock:=fun b hb e=>by
  have:=(h.grow.Jq.lt b e.symm).1;omega
 have hblk:∀ b,b<wr.heap.size->b<lo->w2.heap[b]?=wr.heap[b]?:=fun b hb hh=>hG.block b hb (hne b hh);have hset:∀ b,b≠bx->(w2.setCell ⟨bx,4,none⟩ Rf).heap[b]?=w2.heap[b]?:=fun b hb=>Below.heap_setCell _ _ _ _ (by simpa using hb);have hsz:(w2.setCell ⟨bx,4,none⟩ Rf).heap.size=w2.heap.size:=by simp [World.setCell]
 have hs2:=hG.size;have hb:=h.but;have hbs:=hb.size;refine ⟨⟨(h.grow.ahb nm hk hO hG hN).set _ _ _ (by omega),h.res.move (by omega) ((hset _ (by omega)).trans (hblk _ h.res.lt (by omega))),(h.box.move hs2 (hblk _ h.box.lt (by omega))).aew Rf,?_,h0,h1,h2,h3,h4,h5⟩,(hset _ (by omega)).trans (hblk _ (by omega) (by omega)),by omega⟩;refine ⟨hG.os.trans hb.os,hG.tape.trans hb.tape,hG.output.trans hb.output,by omega,fun i hi hc=>?_⟩;exact (hset i (by omega)).trans ((hblk i (by omega) (by omega)).trans (hb.block i hi hc))
theorem JI.abB (h:JI f k c w rb bx lo L K Lv Kv xs sub wr) {w2:World} {Rh:Value} {x:T} {es:List kS} {c0 c1 c2 c3 c4:Value} (hF:gZ wr f (.agg #[c0,c1,c2,c3,c4]) x es)
  (hS:ql lo wr (kT sub L.length++es++[⟨Lv,L.length,Kv,K.length⟩])) (hO:w2.ownsRow lo eV 5 Rh (L.length+1) (xs++[c0,c1,c2,c3,c4])) (hG:wr.grownBy w2 Lv.ownBlock) (hN:Bg wr Lv Rh) :
  JI f k c w rb bx lo (L++[x]) K Rh Kv (xs++[c0,c1,c2,c3,c4]) (Jr sub L.length es) (w2.setCell ⟨bx,3,none⟩ Rh)/\(w2.setCell ⟨bx,3,none⟩ Rh).heap[c]?=wr.heap[c]?/\wr.heap.size<=(w2.setCell ⟨bx,3,none⟩ Rh).heap.size:=by
 have h0:=h.lc;have h1:=h.l1;have h2:=h.l2;have h3:=h.l3;have h4:=h.l4;have h5:=h.l5
 have hne:∀ b,b<lo->some b≠Lv.ownBlock:=fun b hb e=>by
  have:=(h.grow.zK.lt b e.symm).1;omega
 have hblk:∀ b,b<wr.heap.size->b<lo->w2.heap[b]?=wr.heap[b]?:=fun b hb hh=>hG.block b hb (hne b hh);have hset:∀ b,b≠bx->(w2.setCell ⟨bx,3,none⟩ Rh).heap[b]?=w2.heap[b]?:=fun b hb=>Below.heap_setCell _ _ _ _ (by simpa using hb);have hsz:(w2.setCell ⟨bx,3,none⟩ Rh).heap.size=w2.heap.size:=by simp [World.setCell]
 have hs2:=hG.size;have hb:=h.but;have hbs:=hb.size;refine ⟨⟨(h.grow.ahc hF hS hO hG hN).set _ _ _ (by omega),h.res.move (by omega) ((hset _ (by omega)).trans (hblk _ h.res.lt (by omega))),(h.box.move hs2 (hblk _ h.box.lt (by omega))).aev Rh,?_,h0,h1,h2,h3,h4,h5⟩,(hset _ (by omega)).trans (hblk _ (by omega) (by omega)),by omega⟩;refine ⟨hG.os.trans hb.os,hG.tape.trans hb.tape,hG.output.trans hb.output,by omega,fun i hi hc=>?_⟩;exact (hset i (by omega)).trans ((hblk i (by omega) (by omega)).trans (hb.block i hi hc))
theorem JI.UM (h:JI f k c w rb bx lo L K Lv Kv xs sub wr) {w1:World} {es:List kS} (hB:bq c wr w1) (hS:ql wr.heap.size w1 es):ql lo w1 (kT sub L.length++es++[⟨Lv,L.length,Kv,K.length⟩]) :=
 h.grow.sep.child hB.size hS h.grow.low
theorem JI.aaA (h:JI f k c w rb bx lo L K Lv Kv xs sub wr) {w6:World} {x:T} {es:List kS} {c0 c1 c2 c3 c4:Value} {lo' g cap:Nat} (o:Obj) (hF:gZ wr f (.agg #[c0,c1,c2,c3,c4]) x es) (hS':ql lo' wr es)
  (hS:ql lo wr (kT sub L.length++es++[⟨Lv,L.length,Kv,K.length⟩])) (hO:w6.ownsRow lo eV 5 (.slice (some ⟨g,0,none⟩) (L.length+1) cap) (L.length+1) (xs++[c0,c1,c2,c3,c4])) (hG:(wr.alloc o).grownBy w6 Lv.ownBlock) (hat:Lv.ownBlock=some g\/g=wr.heap.size+1) :
  JI f k c w rb bx lo (L++[x]) K (.slice (some ⟨g,0,none⟩) (L.length+1) cap) Kv (xs++[c0,c1,c2,c3,c4]) (Jr sub L.length es) (w6.setCell ⟨bx,3,none⟩ (.slice (some ⟨g,0,none⟩) (L.length+1) cap))/\(w6.setCell ⟨bx,3,none⟩ (.slice (some ⟨g,0,none⟩) (L.length+1) cap)).heap[c]?=wr.heap[c]?/\wr.heap.size<=(w6.setCell ⟨bx,3,none⟩ (.slice (some ⟨g,0,none⟩) (L.length+1) cap)).heap.size:=by
 have hb:Below wr.heap.size wr (wr.alloc o):=aY _ _;have h0:=h.lc;have hbs:=h.but.size;have:=(h.keep hb).abB (hF.keep hS' hb) (hS.keep hb.size) hO hG (Jz o hat);exact ⟨this.1,this.2.1.trans (hb.block _ (by omega)),Nat.le_trans hb.size this.2.2⟩
theorem JI.aex (h:JI f k c w rb bx lo L K Lv Kv xs sub wr) {w6:World} {nm:ByteArray} {g cap:Nat} (o:Obj) (hk:nm.size<=140737488355328)
  (hO:w6.ownsRow lo eS 1 (.slice (some ⟨g,0,none⟩) (K.length+1) cap) (K.length+1) (gB K++[.string nm])) (hG:(wr.alloc o).grownBy w6 Kv.ownBlock) (hat:Kv.ownBlock=some g\/g=wr.heap.size+1) :
  JI f k c w rb bx lo L (K++[nm]) Lv (.slice (some ⟨g,0,none⟩) (K.length+1) cap) xs sub (w6.setCell ⟨bx,4,none⟩ (.slice (some ⟨g,0,none⟩) (K.length+1) cap))/\(w6.setCell ⟨bx,4,none⟩ (.slice (some ⟨g,0,none⟩) (K.length+1) cap)).heap[c]?=wr.heap[c]?/\wr.heap.size<=(w6.setCell ⟨bx,4,none⟩ (.slice (some ⟨g,0,none⟩) (K.length+1) cap)).heap.size:=by
 have hb:Below wr.heap.size wr (wr.alloc o):=aY _ _;have h0:=h.lc;have hbs:=h.but.size;have:=(h.keep hb).ahe hk hO hG (Jz o hat);exact ⟨this.1,this.2.1.trans (hb.block _ (by omega)),Nat.le_trans hb.size this.2.2⟩
theorem JI.wM {e:TypeId} {size n:Nat} {v:Value} {ys:List Value} (h:JI f k c w rb bx lo L K Lv Kv xs sub wr) {w2:World} (hG:wr.grownBy w2 v.ownBlock) (hO:wr.ownsRow lo e size v n ys):aJ bx (.int .i64 k) (.int .i64 0) (.string ⟨#[]⟩) Lv Kv w2:=by
 have h4:=h.l4;refine h.box.move hG.size (hG.block _ h.box.lt fun e=>?_);have:=(hO.lt _ e.symm).1;omega
theorem JI.start {f:Nat} {k:Int} {c:Nat} {w:World} (hc:c<w.heap.size):JI f k c w w.heap.size (w.heap.size+1) (w.heap.size+2) [] [] (.slice none 0 0) (.slice none 0 0) [] (fun _=>[]) ((w.alloc (.cells #[.int .i64 0,.int .i64 0,.string ⟨#[]⟩,.slice none 0 0,.slice none 0 0] 25)).alloc (.cells #[.int .i64 k,.int .i64 0,.string ⟨#[]⟩,.slice none 0 0,.slice none 0 0] 25)):=by
 refine ⟨qm.start _ _ _ (by simp),(aR w _ _ _ _ _).move (by simp) (Below.heap_alloc _ _ _ (by simp)),?_,bq.of ((aY _ _).alloc (by simp) _),hc,by omega,by omega,by omega,by omega,by omega⟩;have:=aR (w.alloc (.cells #[.int .i64 0,.int .i64 0,.string ⟨#[]⟩,.slice none 0 0,.slice none 0 0] 25)) (.int .i64 k) (.int .i64 0) (.string ⟨#[]⟩) (.slice none 0 0) (.slice none 0 0);simpa using this
theorem wN {c:Nat} {w wr:World} {f lo rb:Nat} {v:Value} {t:T} {es:List kS} (hB:bq c w wr) (hc:c<w.heap.size) (hF:gZ wr f v t es) (hS:ql lo wr es) (h1:w.heap.size<=rb) (hlo:rb<lo) (u0 u1 u2 u3 u4:Value) :
  bq c w (((((wr.setCell ⟨rb,0,none⟩ u0).setCell ⟨rb,1,none⟩ u1).setCell ⟨rb,2,none⟩ u2).setCell ⟨rb,3,none⟩ u3).setCell ⟨rb,4,none⟩ u4) /\
  gZ (((((wr.setCell ⟨rb,0,none⟩ u0).setCell ⟨rb,1,none⟩ u1).setCell ⟨rb,2,none⟩ u2).setCell ⟨rb,3,none⟩ u3).setCell ⟨rb,4,none⟩ u4) f v t es /\
  ql w.heap.size (((((wr.setCell ⟨rb,0,none⟩ u0).setCell ⟨rb,1,none⟩ u1).setCell ⟨rb,2,none⟩ u2).setCell ⟨rb,3,none⟩ u3).setCell ⟨rb,4,none⟩ u4) es /\
  (((((wr.setCell ⟨rb,0,none⟩ u0).setCell ⟨rb,1,none⟩ u1).setCell ⟨rb,2,none⟩ u2).setCell ⟨rb,3,none⟩ u3).setCell ⟨rb,4,none⟩ u4).heap[c]?=wr.heap[c]? /\
  (((((wr.setCell ⟨rb,0,none⟩ u0).setCell ⟨rb,1,none⟩ u1).setCell ⟨rb,2,none⟩ u2).setCell ⟨rb,3,none⟩ u3).setCell ⟨rb,4,none⟩ u4).heap.size=wr.heap.size:=by
 have hset:∀ (w1:World) (o:Nat) (u:Value) (b:Nat),b≠rb->(w1.setCell ⟨rb,o,none⟩ u).heap[b]?=w1.heap[b]?:=fun w1 o u b hb=>Below.heap_setCell _ _ _ _ (by simpa using hb);refine ⟨((((hB.Bt h1 _ _).Bt h1 _ _).Bt h1 _ _).Bt h1 _ _).Bt h1 _ _,hF.move fun b hb=>?_,?_,?_,by simp [World.setCell]⟩
 ·have h1:=hS.lies b hb;rw [hset _ _ _ _ (by omega),hset _ _ _ _ (by omega),hset _ _ _ _ (by omega),hset _ _ _ _ (by omega),hset _ _ _ _ (by omega)]
 ·exact (hS.lower (by omega)).keep (by simp [World.setCell])
 ·rw [hset _ _ _ _ (by omega),hset _ _ _ _ (by omega),hset _ _ _ _ (by omega),hset _ _ _ _ (by omega),hset _ _ _ _ (by omega)]
theorem PL.same {c:Nat} {s:ByteArray} {i:Nat} {w w':World} (h:PL c s i w) (hb:w'.heap[c]?=w.heap[c]?) (hs:w.heap.size<=w'.heap.size):PL c s i w':=h.move hs hb
end
def sF (n c:Nat) (s:ByteArray) (x:Option (T×Nat)) (after:Nat->Nat) (w:World) (e:Ending) (w':World):Prop :=
 bq c w w'/\((∃ t j es A B C D,x=some (t,j)/\e=.returned (iR t A B C D)/\gZ w' n (iR t A B C D) t es/\ql w.heap.size w' es/\PL c s (after j) w')\/(x=none/\e=gN 2))
def uU (Tb:World->Prop) (s:ByteArray) (n:Nat):Prop:=∀ (c i:Nat) (w:World),dZ Tb c->PL c s i w->Tb w->i<=s.size->s.size<i+n->Calls Tryz.prog 100 #[.pointer (some ⟨c,0,none⟩)] w (sF n c s (bZ s n i) (sk s) w)
theorem UN {Tb:World->Prop} {s:ByteArray} {n:Nat} (hv:uU Tb s n) {c i:Nat} {w:World} {t:T} {j:Nat} (hz:bZ s n i=some (t,j)) (hS:dZ Tb c) (hL:PL c s i w) (hT:Tb w) (hi:i<=s.size) (hn:s.size<i+n) :
  Calls Tryz.prog 100 #[.pointer (some ⟨c,0,none⟩)] w fun e w'=>∃ es A B C D,e=.returned (.agg #[.int .i64 (aj t),.int .i64 (av t),.string (ay t),.slice A (nL t) B,.slice C (nK t) D])/\bq c w w'/\gZ w' n (.agg #[.int .i64 (aj t),.int .i64 (av t),.string (ay t),.slice A (nL t) B,.slice C (nK t) D]) t es/\ql w.heap.size w' es/\PL c s (sk s j) w':=by
 refine (hv c i w hS hL hT hi hn).mono ?_;rintro e w' ⟨hB,⟨t',j',es,A,B,C,D,hz',rfl,hF,hSp,hL'⟩ | ⟨hz',_⟩⟩
 ·rw [hz] at hz';cases hz';exact ⟨es,A,B,C,D,rfl,hB,hF,hSp,hL'⟩
 ·rw [hz] at hz';cases hz'
theorem UO {Tb:World->Prop} {s:ByteArray} {n:Nat} (hv:uU Tb s n) {c i:Nat} {w:World} (hz:bZ s n i=none) (hS:dZ Tb c) (hL:PL c s i w) (hT:Tb w) (hi:i<=s.size) (hn:s.size<i+n) :
  Calls Tryz.prog 100 #[.pointer (some ⟨c,0,none⟩)] w fun e w'=>e=gN 2/\bq c w w':=by
 refine (hv c i w hS hL hT hi hn).mono ?_;rintro e w' ⟨hB,⟨t',j',es,A,B,C,D,hz',rfl,hF,hSp,hL'⟩ | ⟨hz',rfl⟩⟩
 ·rw [hz] at hz';cases hz'
 ·exact ⟨rfl,hB⟩
theorem abC {Tb:World->Prop} (hD:cu Tb) {c:Nat} (hS:dZ Tb c) {s:ByteArray} {i:Nat} {w:World} {x:ByteArray} {j:Nat} (hz:jL s i=some (x,j)) (h:PL c s i w) (hT:Tb w) (hs:s.size<=4000) (hi:i<=s.size) :
  Calls Tryz.prog 181 #[.pointer (some ⟨c,0,none⟩)] w fun e w'=>e=.returned (.string x)/\bq c w w'/\PL c s j w':=by
 refine (Gn hD c hS s i w h hT hs hi).mono ?_;rintro e w' ⟨hB,⟨x',j',hz',rfl,hL'⟩ | ⟨hz',_⟩⟩
 ·rw [hz] at hz';cases hz';exact ⟨rfl,hB,hL'⟩
 ·rw [hz] at hz';cases hz'
theorem abD {Tb:World->Prop} (hD:cu Tb) {c:Nat} (hS:dZ Tb c) {s:ByteArray} {i:Nat} {w:World} (hz:jL s i=none) (h:PL c s i w) (hT:Tb w) (hs:s.size<=4000) (hi:i<=s.size) :
  Calls Tryz.prog 181 #[.pointer (some ⟨c,0,none⟩)] w fun e w'=>e=gN 2/\bq c w w':=by
 refine (Gn hD c hS s i w h hT hs hi).mono ?_;rintro e w' ⟨hB,⟨x',j',hz',rfl,hL'⟩ | ⟨hz',rfl⟩⟩
 ·rw [hz] at hz';cases hz'
 ·exact ⟨rfl,hB⟩
def oJ (n:Nat) (s:ByteArray) (o:Bool) (j:Nat) (more:Bool) (k:Nat) (L:List T) (K:List ByteArray):Prop :=
 (more=true->∃ m,s.size+1<=m+k/\jM (bZ s n) s o j=(yX (bZ s n) s o m k).map (MI K L))/\(more=false->jM (bZ s n) s o j=some ((K,L),k))
theorem ze {n:Nat} {s:ByteArray} {o:Bool} {j:Nat} (h:cB s (sk s j)≠cl o):oJ n s o j true (sk s j) [] []:=by
 refine ⟨fun _=>⟨s.size+1,by omega,?_⟩,fun h=>by cases h⟩;unfold jM;rw [if_neg h];exact Uu _
theorem zf {n:Nat} {s:ByteArray} {o:Bool} {j:Nat} (h:cB s (sk s j)=cl o):oJ n s o j false (sk s j+1) [] []:=by
 refine ⟨(fun h=>by cases h),fun _=>?_⟩;unfold jM;rw [if_pos h]
def ms (s:ByteArray) (more:Bool) (k:Nat):Nat:=if more=true then s.size+1 - k else 0
def aaB (n c:Nat) (k:Int) (s:ByteArray) (o:Bool) (j:Nat) (w:World):Ending->World->Prop :=
 sF (n+1) c s ((jM (bZ s n) s o j).map fun r=>(aO k 0 ByteArray.empty r.1.2 r.1.1,r.2)) id w
theorem UQ {Tb:World->Prop} (n:Nat) (s:ByteArray) (ih:uU Tb s n) (c:Nat) (hS:dZ Tb c) (i:Nat) (w:World) (h:PL c s i w) (hT:Tb w) (hs:s.size<=4000) (hb:cB s i=91) (hn:s.size<i+n+1) :
  Calls Tryz.prog 182 #[.pointer (some ⟨c,0,none⟩)] w (aaB n c 5 s false (i+1) w):=by
 obtain ⟨iV,Em,En,Eo,Ep⟩:=info_parts uT;have hlt:i<s.size:=d9 (by omega);have abE:=jy s (i+1);have abF:=lU (s:=s) (i:=i+1) (by omega);have HJ0:=ak (JI.start (f:=n) (k:=5) h.lt);have ny:=ak (h.keep (((Below.refl _ _).alloc (Nat.le_refl _) (.cells #[.int .i64 0,.int .i64 0,.string ⟨#[]⟩,.slice none 0 0,.slice none 0 0] 25)).alloc (by simp) (.cells #[.int .i64 5,.int .i64 0,.string ⟨#[]⟩,.slice none 0 0,.slice none 0 0] 25)));have HO:=ak (Ei c s i 91 93 _ ny.out hs (by omega) (by omega) (by omega));have HT:=ak hT;have HS:=ak hS;have HI:=ak ih;have hcl:=h.lt;clear h hT hS ih hb;go_in;go_wp2_with fail;refine HO.out.mono ?_;rintro e w1 ⟨B1,hcase⟩;have HJ1:=ak (HJ0.out.inner B1)
 obtain ⟨more,k0,he,Dj,HA,hk0⟩:∃ (more:Bool) (k0:Nat),e=.returned (.bool more)/\Hid (PL c s k0 w1)/\Hid (oJ n s false (i+1) more k0 [] [])/\(i<k0/\k0<=s.size):=by
  rcases hcase with ⟨hc,he,hL⟩ | ⟨hc,he,hL⟩
  ·exact ⟨false,_,he,hL,zf (by show _=93;omega),by omega,by have:=d9 (s:=s) (i:=sk s (i+1)) (by omega);omega⟩
  ·exact ⟨true,_,he,hL,ze (by show _≠93;omega),by omega,by omega⟩
 subst he;clear hcase B1 HO HJ0 ny abE abF;go_wp2_with fail;go_loopg [4] (ms s more k0) (fun g b wr=>∃ (more:Bool) (k:Nat) (L:List T) (K:List ByteArray) (Lv Kv:Value) (xs:List Value) (sub:Nat->List kS),g=ms s more k/\b=.bool more/\i<k/\k<=s.size/\L.length<=k/\K=[]/\Hid (JI n 5 c w w.heap.size (w.heap.size+1) (w.heap.size+2) L K Lv Kv xs sub wr)/\Hid (PL c s k wr)/\Hid (oJ n s false (i+1) more k L K))
 case atStart=>exact ⟨more,k0,[],[],_,_,[],fun _=>[],rfl,rfl,hk0.1,hk0.2,by simp,rfl,HJ1,Dj,HA⟩
 case round =>
  clear HJ1 Dj HA hk0;obtain ⟨more,k,L,K,Lv,Kv,xs,sub,rfl,rfl,hk1,hk2,hlL,rfl,HE,Dj,HA⟩:=hrel;cases more with
  | false =>
   obtain ⟨A,B,rfl⟩:=fq HE.out.grow.zK;obtain ⟨C,D,rfl⟩:=fq HE.out.grow.Jq;have r0:=HE.out.res.q0;have r1:=HE.out.res.q1;have r2:=HE.out.res.q2;have r3:=HE.out.res.q3;have r4:=HE.out.res.q4;have s0:=HE.out.res.f0;have s1:=HE.out.res.f1;have s2:=HE.out.res.f2;have s3:=HE.out.res.f3;have s4:=HE.out.res.f4;have t0:=HE.out.box.q0;have t1:=HE.out.box.q1;have t2:=HE.out.box.q2;have t3:=HE.out.box.q3;have t4:=HE.out.box.q4;go_wp2_with fail;refine bodyPost_ret (v:=iR (aO 5 0 ByteArray.empty L []) A B C D) (by simp [results,Tryz.results182,go_sem,iR,bg,eP,gu,aN,eY, *];rfl) rfl ?_;have hE:=HE.out;have hF:=hE.grow.flat 5 (by omega) (by omega) (by omega) (by simp);have hp:=wN (rb:=w.heap.size) hE.but hcl hF hE.grow.sep (Nat.le_refl _) (by omega) (.int .i64 5) (.int .i64 0) (.string ⟨#[]⟩) (.slice A L.length B) (.slice C 0 D);refine ⟨hp.1,Or.inl ⟨aO 5 0 ByteArray.empty L [],k,_,A,B,C,D,?_,rfl,?_,hp.2.2.1,Dj.out.same hp.2.2.2.1 (by rw [hp.2.2.2.2];exact Nat.le_refl _)⟩⟩
   ·rw [HA.out.2 rfl];rfl
   ·unfold iR;rw [bg,eP,gu,aN,eY];exact hp.2.1
  | true =>
   obtain ⟨m,hm,hX⟩:=HA.out.1 rfl;have HX:=ak hX;obtain ⟨m,rfl⟩:∃ m',m=m'+1:=⟨m - 1,by omega⟩;have hkey:oI s false k=some (ByteArray.empty,k):=rfl;have lF:=ak (HE.out.keep (au wr));have tT:=ak (Dj.out.keep (au wr));have HT3:=ak (bq.stays HS.out HT.out lF.out.but (Nat.le_of_lt hcl));have hc3:=HE.out.box.q3;clear HA hX HE Dj;go_wp2_with fail;cases hz:bZ s n k with
   | none =>
    have HZ:Hid ((jM (bZ s n) s false (i+1)).map (fun r=>(aO 5 0 ByteArray.empty r.1.2 r.1.1,r.2))=none):=by
     show _=_;rw [HX.out,Ed hkey hz];rfl
    have HC:=ak (UO HI.out hz HS.out tT.out HT3.out hk2 (by omega));refine wp_region_held_drew (S:=fun wx=>wx.cell? ⟨w.heap.size+1,3,none⟩=some Lv) (by kernel_rfl) lF.out.box.q3 (fun hHeld=>?_);refine wpAnyH_take (i:=0) (v:=.pointer (some ⟨w.heap.size+1,3,none⟩)) rfl (by kernel_rfl) (by kernel_rfl) (by kernel_rfl) (fun _ _ _ h=>h) (Or.inl ⟨by rfl,(by intro wx hSw;go_simp)⟩) hHeld ?_;refine wpAnyH_take (i:=1) (v:=Lv) rfl (by kernel_rfl) (by kernel_rfl) (by kernel_rfl) (fun _ _ _ h=>h) (Or.inl ⟨by rfl,(by intro wx hSw;go_simp)⟩) hHeld ?_;refine wpAnyH_take (i:=2) (v:=.pointer (some ⟨c,0,none⟩)) rfl (by kernel_rfl) (by kernel_rfl) (by kernel_rfl) (fun _ _ _ h=>h) (Or.inl ⟨by rfl,(by intro wx hSw;go_simp)⟩) hHeld ?_;refine wpAnyH_ready (rs:=[3]) (by kernel_rfl) (by simp) (AllReadyH.cons rfl (fun KK hKK=>?_) AllReadyH.nil);go_simp;go_wp2_with (go_at_call 100;refine HC.out.mono ?_;rintro e w5 ⟨rfl,hb5⟩);exact ⟨rfl,lF.out.but.trans hb5,Or.inr ⟨HZ.out,rfl⟩⟩
   | some p =>
    obtain ⟨t,j⟩:=p;have kG:=jc n k t j hk2 hz;have ahf:=jy s j;have abG:=lU kG.2;have HC:=ak (UN HI.out hz HS.out tT.out HT3.out hk2 (by omega));go_region_law (first | (refine step_append_lies _ (by rfl) _ _ _ (by rfl) (w.heap.size+2) 25 iV _ 5 80 Tryz.underlying22 Em En Eo Ep rfl (by omega) Lv L.length xs (by rfl) (Dv.out.keep (aY _ _)).grow.zK ⟨w5.heap.size,0,none⟩ 1 1 [.int .i64 (aj t),.int .i64 (av t),.string (ay t),.slice A (nL t) B,.slice C (nK t) D] (by rfl) (by rfl) (World.news_of_block (cs:=#[.int .i64 (aj t),.int .i64 (av t),.string (ay t),.slice A (nL t) B,.slice C (nK t) D]) (t:=25) (fr:=(0,0)) (heap_alloc_new w5 _)) (by simp [Value.oneCell']) (by omega) (by unfold maxLen;omega) (by omega) (Dv.out.keep (aY _ _)).grow.low (w5.heap.size+1) (by simp) ?_;intro g cap w6 hown6 eG dV vH;have YR:=ak ((Dv.out.keep ((Below.refl _ _).alloc (Nat.le_refl _) (vC t A B C D))).wM eG (Dv.out.keep ((Below.refl _ _).alloc (Nat.le_refl _) (vC t A B C D))).grow.zK);have hc6:=YR.out.q3;have hf6:=YR.out.f3) | (go_simp;go_wp2_with (go_at_call 100;refine HC.out.mono ?_;rintro e w5 ⟨es,A,B,C,D,rfl,hb5,hF5,hS5,hL5⟩;have Dv:=ak (lF.out.inner hb5);have HL5:=ak hL5;have HF5:=ak hF5;have IW:=ak (lF.out.UM hb5 hS5);have UR:=ak hS5;have uV:=Dv.out.box.q3;have abH:=(Dv.out.keep ((Below.refl _ _).alloc (Nat.le_refl _) (vC t A B C D))).box.q3;clear hF5 hS5 hL5 hb5)))
    all_goals
     have H6:=ak (Dv.out.aaA _ HF5.out UR.out IW.out hown6 eG dV);have JE:=ak H6.out.1;have Dl:=ak (HL5.out.same H6.out.2.1 H6.out.2.2);clear hown6 eG dV vH YR hc6 hf6 HF5 IW UR Dv uV abH H6 HL5 HC;go_wp2_with fail;refine (Bn c s (sk s j) 93 _ Dl.out hs abG (by omega)).mono ?_;rintro e w7 ⟨Ro,⟨IV,rfl,hL7⟩ | ⟨h93,rfl,hL7⟩ | ⟨IV,h93,rfl⟩⟩
     ·have ahh:=d9 (s:=s) (i:=sk s j) (by omega);have HE7:=ak (JE.out.inner Ro);have JF:=ak hL7;have JG:Hid (oJ n s false (i+1) true (sk s j+1) (L++[t]) []):=⟨fun _=>⟨m,by omega,HX.out.trans (Jk [] L hkey hz IV)⟩,fun h=>by cases h⟩;clear Ro hL7 JE Dl HX IV;go_wp2_with fail;go_roundg (ms s true (sk s j+1))
      case rel=>exact ⟨true,sk s j+1,L++[t],[],_,_,_,_,rfl,rfl,by omega,by omega,by simp;omega,rfl,HE7,JF,JG⟩
      case measure=>unfold ms;simp;omega
     ·have ahi:=d9 (s:=s) (i:=sk s j) (by omega);have HE7:=ak (JE.out.inner Ro);have JF:=ak hL7;have JG:Hid (oJ n s false (i+1) false (sk s j+1) (L++[t]) []):=⟨(fun h=>by cases h),fun _=>HX.out.trans (Jl [] L hkey hz (by show cB s (sk s j)=93;omega))⟩;clear Ro hL7 JE Dl HX h93;go_wp2_with fail;go_roundg (ms s false (sk s j+1))
      case rel=>exact ⟨false,sk s j+1,L++[t],[],_,_,_,_,rfl,rfl,by omega,by omega,by simp;omega,rfl,HE7,JF,JG⟩
      case measure=>unfold ms;simp;omega
     ·have oF:=ak (JE.out.but.trans Ro)
      have HZ:Hid ((jM (bZ s n) s false (i+1)).map (fun r=>(aO 5 0 ByteArray.empty r.1.2 r.1.1,r.2))=none):=by
       show _=_;rw [HX.out,Jm hkey hz IV (by show cB s (sk s j)≠93;omega)];rfl
      clear Ro IV h93 HX;go_wp2_with fail;exact ⟨rfl,oF.out,Or.inr ⟨HZ.out,rfl⟩⟩
theorem UU {s:ByteArray} {k:Nat} (h:jL s (sk s k)=none):oI s true k=none:=by unfold oI;rw [if_pos rfl,h];rfl
theorem UW {s:ByteArray} {k:Nat} {x:ByteArray} {j:Nat} (h:jL s (sk s k)=some (x,j)) (h2:cB s (sk s j)≠58):oI s true k=none:=by
 unfold oI;rw [if_pos rfl,h];simp only [Option.bind_some];rw [if_neg h2]
theorem UY {s:ByteArray} {k:Nat} {x:ByteArray} {j:Nat} (h:jL s (sk s k)=some (x,j)) (h2:cB s (sk s j)=58):oI s true k=some (x,sk s j+1):=by
 unfold oI;rw [if_pos rfl,h];simp only [Option.bind_some];rw [if_pos h2]
theorem MS {Tb:World->Prop} (hD:cu Tb) (n:Nat) (s:ByteArray) (ih:uU Tb s n) (c:Nat) (hS:dZ Tb c) (i:Nat) (w:World) (h:PL c s i w) (hT:Tb w) (hs:s.size<=4000) (hb:cB s i=123) (hn:s.size<i+n+1) :
  Calls Tryz.prog 183 #[.pointer (some ⟨c,0,none⟩)] w (aaB n c 6 s true (i+1) w):=by
 obtain ⟨iS,YS,YT,zS1,Yo⟩:=info_parts aaz;obtain ⟨iV,Em,En,Eo,Ep⟩:=info_parts uT;have hlt:i<s.size:=d9 (by omega);have abE:=jy s (i+1);have abF:=lU (s:=s) (i:=i+1) (by omega);have HJ0:=ak (JI.start (f:=n) (k:=6) h.lt);have ny:=ak (h.keep (((Below.refl _ _).alloc (Nat.le_refl _) (.cells #[.int .i64 0,.int .i64 0,.string ⟨#[]⟩,.slice none 0 0,.slice none 0 0] 25)).alloc (by simp) (.cells #[.int .i64 6,.int .i64 0,.string ⟨#[]⟩,.slice none 0 0,.slice none 0 0] 25)));have HO:=ak (Ei c s i 123 125 _ ny.out hs (by omega) (by omega) (by omega));have HT:=ak hT;have HS:=ak hS;have HI:=ak ih;have HD:=ak hD;have hcl:=h.lt;clear h hT hS ih hb hD;go_in;go_wp2_with fail;refine HO.out.mono ?_;rintro e w1 ⟨B1,hcase⟩;have HJ1:=ak (HJ0.out.inner B1)
 obtain ⟨more,k0,he,Dj,HA,hk0⟩:∃ (more:Bool) (k0:Nat),e=.returned (.bool more)/\Hid (PL c s k0 w1)/\Hid (oJ n s true (i+1) more k0 [] [])/\(i<k0/\k0<=s.size):=by
  rcases hcase with ⟨hc,he,hL⟩ | ⟨hc,he,hL⟩
  ·exact ⟨false,_,he,hL,zf (by show _=125;omega),by omega,by have:=d9 (s:=s) (i:=sk s (i+1)) (by omega);omega⟩
  ·exact ⟨true,_,he,hL,ze (by show _≠125;omega),by omega,by omega⟩
 subst he;clear hcase B1 HO HJ0 ny abE abF;go_wp2_with fail;go_loopg [4] (ms s more k0) (fun g b wr=>∃ (more:Bool) (k:Nat) (L:List T) (K:List ByteArray) (Lv Kv:Value) (xs:List Value) (sub:Nat->List kS),g=ms s more k/\b=.bool more/\i<k/\k<=s.size/\L.length<=k/\K.length<=k/\Hid (JI n 6 c w w.heap.size (w.heap.size+1) (w.heap.size+2) L K Lv Kv xs sub wr)/\Hid (PL c s k wr)/\Hid (oJ n s true (i+1) more k L K))
 case atStart=>exact ⟨more,k0,[],[],_,_,[],fun _=>[],rfl,rfl,hk0.1,hk0.2,by simp,by simp,HJ1,Dj,HA⟩
 case round =>
  clear HJ1 Dj HA hk0;obtain ⟨more,k,L,K,Lv,Kv,xs,sub,rfl,rfl,hk1,hk2,hlL,hlK,HE,Dj,HA⟩:=hrel;cases more with
  | false =>
   obtain ⟨A,B,rfl⟩:=fq HE.out.grow.zK;obtain ⟨C,D,rfl⟩:=fq HE.out.grow.Jq;have r0:=HE.out.res.q0;have r1:=HE.out.res.q1;have r2:=HE.out.res.q2;have r3:=HE.out.res.q3;have r4:=HE.out.res.q4;have s0:=HE.out.res.f0;have s1:=HE.out.res.f1;have s2:=HE.out.res.f2;have s3:=HE.out.res.f3;have s4:=HE.out.res.f4;have t0:=HE.out.box.q0;have t1:=HE.out.box.q1;have t2:=HE.out.box.q2;have t3:=HE.out.box.q3;have t4:=HE.out.box.q4;go_wp2_with fail;refine bodyPost_ret (v:=iR (aO 6 0 ByteArray.empty L K) A B C D) (by simp [results,Tryz.results183,go_sem,iR,bg,eP,gu,aN,eY, *];rfl) rfl ?_;have hE:=HE.out;have hF:=hE.grow.flat 6 (by omega) (by omega) (by omega) (by omega);have hp:=wN (rb:=w.heap.size) hE.but hcl hF hE.grow.sep (Nat.le_refl _) (by omega) (.int .i64 6) (.int .i64 0) (.string ⟨#[]⟩) (.slice A L.length B) (.slice C K.length D);refine ⟨hp.1,Or.inl ⟨aO 6 0 ByteArray.empty L K,k,_,A,B,C,D,?_,rfl,?_,hp.2.2.1,Dj.out.same hp.2.2.2.1 (by rw [hp.2.2.2.2];exact Nat.le_refl _)⟩⟩
   ·rw [HA.out.2 rfl];rfl
   ·unfold iR;rw [bg,eP,gu,aN,eY];exact hp.2.1
  | true =>
   obtain ⟨m,hm,hX⟩:=HA.out.1 rfl;have HX:=ak hX;obtain ⟨m,rfl⟩:∃ m',m=m'+1:=⟨m - 1,by omega⟩;have hge:=jy s k;have hle:=lU hk2;clear HA hX;go_wp2_with fail;refine (su c s k wr Dj.out hs hk2).mono ?_;rintro e wa ⟨rfl,hBa,hLa⟩;have HEa:=ak (HE.out.inner hBa);have HLa:=ak hLa;have lF:=ak (HEa.out.keep (au wa));have tT:=ak (HLa.out.keep (au wa));have HT3:=ak (bq.stays HS.out HT.out lF.out.but (Nat.le_of_lt hcl));have hc3:=HEa.out.box.q4;clear hBa hLa HE Dj HEa HLa;go_wp2_with fail;cases hz2:jL s (sk s k) with
   | none =>
    have HZ:Hid ((jM (bZ s n) s true (i+1)).map (fun r=>(aO 6 0 ByteArray.empty r.1.2 r.1.1,r.2))=none):=by
     show _=_;rw [HX.out,Ec (UU hz2)];rfl
    have HC:=ak (abD HD.out HS.out hz2 tT.out HT3.out hs hle);refine wp_region_held_drew (S:=fun wx=>wx.cell? ⟨w.heap.size+1,4,none⟩=some Kv) (by kernel_rfl) lF.out.box.q4 (fun hHeld=>?_);refine wpAnyH_take (i:=0) (v:=.pointer (some ⟨w.heap.size+1,4,none⟩)) rfl (by kernel_rfl) (by kernel_rfl) (by kernel_rfl) (fun _ _ _ h=>h) (Or.inl ⟨by rfl,(by intro wx hSw;go_simp)⟩) hHeld ?_;refine wpAnyH_take (i:=1) (v:=Kv) rfl (by kernel_rfl) (by kernel_rfl) (by kernel_rfl) (fun _ _ _ h=>h) (Or.inl ⟨by rfl,(by intro wx hSw;go_simp)⟩) hHeld ?_;refine wpAnyH_take (i:=2) (v:=.pointer (some ⟨c,0,none⟩)) rfl (by kernel_rfl) (by kernel_rfl) (by kernel_rfl) (fun _ _ _ h=>h) (Or.inl ⟨by rfl,(by intro wx hSw;go_simp)⟩) hHeld ?_;refine wpAnyH_ready (rs:=[3]) (by kernel_rfl) (by simp) (AllReadyH.cons rfl (fun KK hKK=>?_) AllReadyH.nil);go_simp;go_wp2_with (go_at_call 181;refine HC.out.mono ?_;rintro e w5 ⟨rfl,hb5⟩);exact ⟨rfl,lF.out.but.trans hb5,Or.inr ⟨HZ.out,rfl⟩⟩
   | some p =>
    obtain ⟨nm,j⟩:=p;have kG:=wD hz2;have hj1:=jy s j;have hj2:=lU kG.2.1;have HC:=ak (abC HD.out HS.out hz2 tT.out HT3.out hs hle);go_region_law (first | (refine step_append_lies _ (by rfl) _ _ _ (by rfl) (w.heap.size+2) 9 iS _ 1 16 Tryz.underlying23 YS YT zS1 Yo rfl (by omega) Kv K.length (gB K) (by rfl) (Rp.out.keep (aY _ _)).grow.Jq ⟨w4.heap.size,0,none⟩ 1 1 [.string nm] (by rfl) (by rfl) (World.news_of_block (cs:=#[.string nm]) (t:=9) (fr:=(0,0)) (heap_alloc_new w4 _)) (by simp [Value.oneCell']) (by omega) (by unfold maxLen;omega) (by omega) (Rp.out.keep (aY _ _)).grow.low (w4.heap.size+1) (by simp) ?_;intro g4 cap4 w7 nS iU Bu MU;have JG:=ak ((Rp.out.keep ((Below.refl _ _).alloc (Nat.le_refl _) (.cells #[.string nm] 9))).wM iU (Rp.out.keep ((Below.refl _ _).alloc (Nat.le_refl _) (.cells #[.string nm] 9))).grow.Jq);have hc7:=JG.out.q4;have hf7:=JG.out.f4) | (go_simp;go_wp2_with (go_at_call 181;refine HC.out.mono ?_;rintro e w4 ⟨rfl,hb4,hl4⟩;have Rp:=ak (lF.out.inner hb4);have uI:=ak hl4;have hc4:=Rp.out.box.q4;have abK:=(Rp.out.keep ((Below.refl _ _).alloc (Nat.le_refl _) (.cells #[.string nm] 9))).box.q4;clear hb4 hl4)))
    all_goals
     have H8:=ak (Rp.out.aex _ (by omega) nS iU Bu);have HE8:=ak H8.out.1;have HL8:=ak (uI.out.same H8.out.2.1 H8.out.2.2);clear nS iU Bu MU JG hc7 hf7 Rp hc4 abK lF hc3 H8 uI tT HT3 HC;go_wp2_with fail;refine (su c s j _ HL8.out hs kG.2.1).mono ?_;rintro e wb ⟨rfl,hBb,hLb⟩;have HEb:=ak (HE8.out.inner hBb);have HLb:=ak hLb;clear hBb hLb HE8 HL8;by_cases h58:cB s (sk s j)=58
     ·have hkey:=UY hz2 h58;have ala:=d9 (s:=s) (i:=sk s j) (by omega);have MV:=ak hkey;have HCe:=ak (kH c s (sk s j) 58 wb HLb.out hs (by omega) (by omega));clear hkey h58;go_wp2_with fail;refine HCe.out.mono ?_;rintro e wc ⟨rfl,hBc,hLc⟩;have HEc:=ak (HEb.out.inner hBc);have HE9:=ak (HEc.out.keep (au wc));have HL9:=ak (PL.keep hLc (au wc));have HT9:=ak (bq.stays HS.out HT.out HE9.out.but (Nat.le_of_lt hcl));have hc9:=HEc.out.box.q3;clear hBc hLc HEb HLb HEc HCe;go_wp2_with fail;cases hz:bZ s n (sk s j+1) with
      | none =>
       have HZ:Hid ((jM (bZ s n) s true (i+1)).map (fun r=>(aO 6 0 ByteArray.empty r.1.2 r.1.1,r.2))=none):=by
        show _=_;rw [HX.out,Ed MV.out hz];rfl
       have HC:=ak (UO HI.out hz HS.out HL9.out HT9.out (by omega) (by omega));refine wp_region_held_drew (S:=fun wx=>wx.cell? ⟨w.heap.size+1,3,none⟩=some Lv) (by kernel_rfl) HE9.out.box.q3 (fun hHeld=>?_);refine wpAnyH_take (i:=0) (v:=.pointer (some ⟨w.heap.size+1,3,none⟩)) rfl (by kernel_rfl) (by kernel_rfl) (by kernel_rfl) (fun _ _ _ h=>h) (Or.inl ⟨by rfl,(by intro wx hSw;go_simp)⟩) hHeld ?_;refine wpAnyH_take (i:=1) (v:=Lv) rfl (by kernel_rfl) (by kernel_rfl) (by kernel_rfl) (fun _ _ _ h=>h) (Or.inl ⟨by rfl,(by intro wx hSw;go_simp)⟩) hHeld ?_;refine wpAnyH_take (i:=2) (v:=.pointer (some ⟨c,0,none⟩)) rfl (by kernel_rfl) (by kernel_rfl) (by kernel_rfl) (fun _ _ _ h=>h) (Or.inl ⟨by rfl,(by intro wx hSw;go_simp)⟩) hHeld ?_;refine wpAnyH_ready (rs:=[3]) (by kernel_rfl) (by simp) (AllReadyH.cons rfl (fun KK hKK=>?_) AllReadyH.nil);go_simp;go_wp2_with (go_at_call 100;refine HC.out.mono ?_;rintro e w5 ⟨rfl,hb5⟩);exact ⟨rfl,HE9.out.but.trans hb5,Or.inr ⟨HZ.out,rfl⟩⟩
      | some p =>
       obtain ⟨t,j'⟩:=p;have aeF:=jc n (sk s j+1) t j' (by omega) hz;have ahf:=jy s j';have abG:=lU aeF.2;have HC:=ak (UN HI.out hz HS.out HL9.out HT9.out (by omega) (by omega));go_region_law (first | (refine step_append_lies _ (by rfl) _ _ _ (by rfl) (w.heap.size+2) 25 iV _ 5 80 Tryz.underlying22 Em En Eo Ep rfl (by omega) Lv L.length xs (by rfl) (Dv.out.keep (aY _ _)).grow.zK ⟨w5.heap.size,0,none⟩ 1 1 [.int .i64 (aj t),.int .i64 (av t),.string (ay t),.slice A (nL t) B,.slice C (nK t) D] (by rfl) (by rfl) (World.news_of_block (cs:=#[.int .i64 (aj t),.int .i64 (av t),.string (ay t),.slice A (nL t) B,.slice C (nK t) D]) (t:=25) (fr:=(0,0)) (heap_alloc_new w5 _)) (by simp [Value.oneCell']) (by omega) (by unfold maxLen;omega) (by omega) (Dv.out.keep (aY _ _)).grow.low (w5.heap.size+1) (by simp) ?_;intro g cap w6 hown6 eG dV vH;have YR:=ak ((Dv.out.keep ((Below.refl _ _).alloc (Nat.le_refl _) (vC t A B C D))).wM eG (Dv.out.keep ((Below.refl _ _).alloc (Nat.le_refl _) (vC t A B C D))).grow.zK);have hc6:=YR.out.q3;have hf6:=YR.out.f3) | (go_simp;go_wp2_with (go_at_call 100;refine HC.out.mono ?_;rintro e w5 ⟨es,A,B,C,D,rfl,hb5,hF5,hS5,hL5⟩;have Dv:=ak (HE9.out.inner hb5);have HL5:=ak hL5;have HF5:=ak hF5;have IW:=ak (HE9.out.UM hb5 hS5);have UR:=ak hS5;have uV:=Dv.out.box.q3;have abH:=(Dv.out.keep ((Below.refl _ _).alloc (Nat.le_refl _) (vC t A B C D))).box.q3;clear hF5 hS5 hL5 hb5)))
       all_goals
        have H6:=ak (Dv.out.aaA _ HF5.out UR.out IW.out hown6 eG dV);have JE:=ak H6.out.1;have Dl:=ak (HL5.out.same H6.out.2.1 H6.out.2.2);clear hown6 eG dV vH YR hc6 hf6 HF5 IW UR Dv uV abH H6 HL5 HC;go_wp2_with fail;refine (Bn c s (sk s j') 125 _ Dl.out hs abG (by omega)).mono ?_;rintro e w7 ⟨Ro,⟨IV,rfl,hL7⟩ | ⟨h93,rfl,hL7⟩ | ⟨IV,h93,rfl⟩⟩
        ·have ahh:=d9 (s:=s) (i:=sk s j') (by omega);have HE7:=ak (JE.out.inner Ro);have JF:=ak hL7;have JG:Hid (oJ n s true (i+1) true (sk s j'+1) (L++[t]) (K++[nm])):=⟨fun _=>⟨m,by omega,HX.out.trans (Jk K L MV.out hz IV)⟩,fun h=>by cases h⟩;clear Ro hL7 JE Dl HX IV;go_wp2_with fail;go_roundg (ms s true (sk s j'+1))
         case rel=>exact ⟨true,sk s j'+1,L++[t],K++[nm],_,_,_,_,rfl,rfl,by omega,by omega,by simp;omega,by simp;omega,HE7,JF,JG⟩
         case measure=>unfold ms;simp;omega
        ·have ahi:=d9 (s:=s) (i:=sk s j') (by omega);have HE7:=ak (JE.out.inner Ro);have JF:=ak hL7;have JG:Hid (oJ n s true (i+1) false (sk s j'+1) (L++[t]) (K++[nm])):=⟨(fun h=>by cases h),fun _=>HX.out.trans (Jl K L MV.out hz (by show cB s (sk s j')=125;omega))⟩;clear Ro hL7 JE Dl HX h93;go_wp2_with fail;go_roundg (ms s false (sk s j'+1))
         case rel=>exact ⟨false,sk s j'+1,L++[t],K++[nm],_,_,_,_,rfl,rfl,by omega,by omega,by simp;omega,by simp;omega,HE7,JF,JG⟩
         case measure=>unfold ms;simp;omega
        ·have oF:=ak (JE.out.but.trans Ro)
         have HZ:Hid ((jM (bZ s n) s true (i+1)).map (fun r=>(aO 6 0 ByteArray.empty r.1.2 r.1.1,r.2))=none):=by
          show _=_;rw [HX.out,Jm MV.out hz IV (by show cB s (sk s j')≠125;omega)];rfl
         clear Ro IV h93 HX;go_wp2_with fail;exact ⟨rfl,oF.out,Or.inr ⟨HZ.out,rfl⟩⟩
     ·have HZ:Hid ((jM (bZ s n) s true (i+1)).map (fun r=>(aO 6 0 ByteArray.empty r.1.2 r.1.1,r.2))=none):=by
       show _=_;rw [HX.out,Ec (UW hz2 h58)];rfl
      have HCe:=ak (pI c s (sk s j) 58 wb HLb.out hs hj2 (by omega));clear h58;go_wp2_with fail;refine HCe.out.mono ?_;rintro e wc ⟨rfl,hBc⟩;have UZ:=ak (HEb.out.but.trans hBc);clear hBc;go_wp2_with fail;exact ⟨rfl,UZ.out,Or.inr ⟨HZ.out,rfl⟩⟩
theorem aaD {s:ByteArray} {i:Nat} (h:cB s i<256):pk s i=cB s i:=by
 unfold pk;rw [if_pos (d9 h)]
theorem aJ.JH {b:Nat} {c0 c1 c2 c3 c4:Value} {w w':World} (h:aJ b c0 c1 c2 c3 c4 w) (hb:Below w.heap.size w w'):aJ b c0 c1 c2 c3 c4 w':=h.move hb.size (hb.block _ h.lt)
theorem PW {n c lo:Nat} {s:ByteArray} {w w4:World} {x:Option (T×Nat)} {f:Nat->Nat} {t:T} {j:Nat} {es:List kS} {A C:Option Addr} {B D:Nat} (hx:x=some (t,j)) (hB:bq c w w4) (hc:c<w.heap.size) (hz:w.heap.size<lo) (hF:gZ w4 n (.agg #[.int .i64 (aj t),.int .i64 (av t),.string (ay t),.slice A (nL t) B,.slice C (nK t) D]) t es) (hS:ql lo w4 es) (hL:PL c s (f j) w4) :
  sF n c s x f w (.returned (.agg #[.int .i64 (aj t),.int .i64 (av t),.string (ay t),.slice A (nL t) B,.slice C (nK t) D])) (((((w4.setCell ⟨w.heap.size,0,none⟩ (.int .i64 (aj t))).setCell ⟨w.heap.size,1,none⟩ (.int .i64 (av t))).setCell ⟨w.heap.size,2,none⟩ (.string (ay t))).setCell ⟨w.heap.size,3,none⟩ (.slice A (nL t) B)).setCell ⟨w.heap.size,4,none⟩ (.slice C (nK t) D)):=by
 have hp:=wN (rb:=w.heap.size) hB hc hF hS (Nat.le_refl _) hz (.int .i64 (aj t)) (.int .i64 (av t)) (.string (ay t)) (.slice A (nL t) B) (.slice C (nK t) D);exact ⟨hp.1,Or.inl ⟨t,j,es,A,B,C,D,hx,rfl,hp.2.1,hp.2.2.1,hL.same hp.2.2.2.1 (by rw [hp.2.2.2.2];exact Nat.le_refl _)⟩⟩
theorem Er {n c:Nat} {s:ByteArray} {w wr:World} {x:Option (T×Nat)} {j:Nat} (k m:Int) (y:ByteArray) (hk0:0<=k) (hk1:k<=100) (hm:-9223372036854775808<=m/\m<=9223372036854775807) (hy:y.size<=140737488355328) (hx:x=some (dh k m y,j)) (hB:bq c w wr) (hc:c<w.heap.size) (hL:PL c s j wr) :
  sF (n+1) c s x id w (.returned (.agg #[.int .i64 k,.int .i64 m,.string y,.slice none 0 0,.slice none 0 0])) (((((wr.setCell ⟨w.heap.size,0,none⟩ (.int .i64 k)).setCell ⟨w.heap.size,1,none⟩ (.int .i64 m)).setCell ⟨w.heap.size,2,none⟩ (.string y)).setCell ⟨w.heap.size,3,none⟩ (.slice none 0 0)).setCell ⟨w.heap.size,4,none⟩ (.slice none 0 0)):=by
 have hp:=wN (rb:=w.heap.size) hB hc (Ee wr n k m y hk0 hk1 hm.1 hm.2 hy) (Js (w.heap.size+1) wr) (Nat.le_refl _) (by omega) (.int .i64 k) (.int .i64 m) (.string y) (.slice none 0 0) (.slice none 0 0);exact ⟨hp.1,Or.inl ⟨dh k m y,j,_,none,0,none,0,hx,rfl,hp.2.1,hp.2.2.1,hL.same hp.2.2.2.1 (by rw [hp.2.2.2.2];exact Nat.le_refl _)⟩⟩
def sG (s:ByteArray) (j:Nat):Option (T×Nat) :=
 if Al s j wE=true then some (dh 1 0 ByteArray.empty,j+4)
 else if Al s j wG=true then some (dh 2 1 ByteArray.empty,j+4)
 else if Al s j qj=true then some (dh 2 0 ByteArray.empty,j+5)
 else none
theorem U0 (n c:Nat) (s:ByteArray) (j:Nat) (w:World) (h:PL c s j w) (hs:s.size<=4000) (hj:j<=s.size) :
  Calls Tryz.prog 186 #[.pointer (some ⟨c,0,none⟩)] w (sF (n+1) c s (sG s j) id w):=by
 have HB0:=ak (aY w (.cells #[.int .i64 0,.int .i64 0,.string ⟨#[]⟩,.slice none 0 0,.slice none 0 0] 25));have gU:Hid (aJ w.heap.size (.int .i64 0) (.int .i64 0) (.string ⟨#[]⟩) (.slice none 0 0) (.slice none 0 0) (w.alloc (.cells #[.int .i64 0,.int .i64 0,.string ⟨#[]⟩,.slice none 0 0,.slice none 0 0] 25))):=aR w _ _ _ _ _;have hlc:=h.lt;have ny:=ak (h.keep HB0.out);clear h;cases hp1:Al s j wE with
 | true =>
  have HA:=ak (Bp c s j wE _ ny.out hs hp1);have HX:Hid (sG s j=some (dh 1 0 ByteArray.empty,j+4)):=by show _=_;unfold sG;rw [if_pos hp1]
  clear hp1;go_in;go_wp2_with fail;refine HA.out.mono ?_;rintro e w1 ⟨rfl,B1,L1⟩;have fK:=ak L1;have HR1:=ak (gU.out.move B1.size (B1.block _ gU.out.lt (by omega)));have HW1:=ak ((bq.of (c:=c) HB0.out).trans B1);clear B1 L1 HA gU HB0 ny;have r0:=HR1.out.q0;have r1:=HR1.out.q1;have r2:=HR1.out.q2;have r3:=HR1.out.q3;have r4:=HR1.out.q4;have s0:=HR1.out.f0;have s1:=HR1.out.f1;have s2:=HR1.out.f2;have s3:=HR1.out.f3;have s4:=HR1.out.f4;go_wp2_with fail;refine bodyPost_ret (v:=.agg #[.int .i64 1,.int .i64 0,.string ⟨#[]⟩,.slice none 0 0,.slice none 0 0]) (by simp [results,Tryz.results186,go_sem, *]) rfl ?_;exact Er 1 0 ByteArray.empty (by omega) (by omega) (by omega) (by simp) HX.out HW1.out hlc fK.out
 | false =>
  have HA:=ak (Gm c s j wE _ ny.out hj hp1);have HX0:Hid (sG s j=if Al s j wG=true then some (dh 2 1 ByteArray.empty,j+4) else if Al s j qj=true then some (dh 2 0 ByteArray.empty,j+5) else none):=by show _=_;unfold sG;rw [if_neg (by rw [hp1];simp)]
  clear hp1;go_in;go_wp2_with fail;refine HA.out.mono ?_;rintro e w1 ⟨rfl,B1,L1⟩;have fK:=ak L1;have HR1:=ak (gU.out.move B1.size (B1.block _ gU.out.lt (by omega)));have HW1:=ak ((bq.of (c:=c) HB0.out).trans B1);clear B1 L1 HA gU HB0 ny;cases hp2:Al s j wG with
  | true =>
   have HA2:=ak (Bp c s j wG _ fK.out hs hp2);have HX:Hid (sG s j=some (dh 2 1 ByteArray.empty,j+4)):=by show _=_;rw [HX0.out,if_pos hp2]
   clear hp2;go_wp2_with fail;refine HA2.out.mono ?_;rintro e w2 ⟨rfl,B2,L2⟩;have HL2:=ak L2;have HR2:=ak (HR1.out.move B2.size (B2.block _ HR1.out.lt (by omega)));have HW2:=ak (HW1.out.trans B2);clear B2 L2 HA2 HR1 HW1 fK;have r0:=HR2.out.q0;have r1:=HR2.out.q1;have r2:=HR2.out.q2;have r3:=HR2.out.q3;have r4:=HR2.out.q4;have s0:=HR2.out.f0;have s1:=HR2.out.f1;have s2:=HR2.out.f2;have s3:=HR2.out.f3;have s4:=HR2.out.f4;go_wp2_with fail;refine bodyPost_ret (v:=.agg #[.int .i64 2,.int .i64 1,.string ⟨#[]⟩,.slice none 0 0,.slice none 0 0]) (by simp [results,Tryz.results186,go_sem, *]) rfl ?_;exact Er 2 1 ByteArray.empty (by omega) (by omega) (by omega) (by simp) HX.out HW2.out hlc HL2.out
  | false =>
   have HA2:=ak (Gm c s j wG _ fK.out hj hp2);have MO:Hid (sG s j=if Al s j qj=true then some (dh 2 0 ByteArray.empty,j+5) else none):=by show _=_;rw [HX0.out,if_neg (by rw [hp2];simp)]
   clear hp2;go_wp2_with fail;refine HA2.out.mono ?_;rintro e w2 ⟨rfl,B2,L2⟩;have HL2:=ak L2;have HR2:=ak (HR1.out.move B2.size (B2.block _ HR1.out.lt (by omega)));have HW2:=ak (HW1.out.trans B2);clear B2 L2 HA2 HR1 HW1 fK;cases hp3:Al s j qj with
   | true =>
    have tV:=ak (Bp c s j qj _ HL2.out hs hp3);have HX:Hid (sG s j=some (dh 2 0 ByteArray.empty,j+5)):=by show _=_;rw [MO.out,if_pos hp3]
    clear hp3;go_wp2_with fail;refine tV.out.mono ?_;rintro e w3 ⟨rfl,B3,L3⟩;have tT:=ak L3;have HR3:=ak (HR2.out.move B3.size (B3.block _ HR2.out.lt (by omega)));have HW3:=ak (HW2.out.trans B3);clear B3 L3 tV HR2 HW2 HL2;have r0:=HR3.out.q0;have r1:=HR3.out.q1;have r2:=HR3.out.q2;have r3:=HR3.out.q3;have r4:=HR3.out.q4;have s0:=HR3.out.f0;have s1:=HR3.out.f1;have s2:=HR3.out.f2;have s3:=HR3.out.f3;have s4:=HR3.out.f4;go_wp2_with fail;refine bodyPost_ret (v:=.agg #[.int .i64 2,.int .i64 0,.string ⟨#[]⟩,.slice none 0 0,.slice none 0 0]) (by simp [results,Tryz.results186,go_sem, *]) rfl ?_;exact Er 2 0 ByteArray.empty (by omega) (by omega) (by omega) (by simp) HX.out HW3.out hlc tT.out
   | false =>
    have tV:=ak (Gm c s j qj _ HL2.out hj hp3);have HX:Hid (sG s j=none):=by show _=_;rw [MO.out,if_neg (by rw [hp3];simp)]
    clear hp3;go_wp2_with fail;refine tV.out.mono ?_;rintro e w3 ⟨rfl,B3,L3⟩;have HW3:=ak (HW2.out.trans B3);clear B3 L3 tV HR2 HW2 HL2;go_wp2_with fail;exact ⟨rfl,HW3.out,Or.inr ⟨HX.out,rfl⟩⟩
end Go.Proofs.YtknakfpciccoaaaGreatDoor
