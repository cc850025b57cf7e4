import Derived.Test.YtknakfpciccoaabGreatDoorZU25
import Derived.Deep.DeepCutAuto
import Derived.Test.YtknakfpciccoaabGreatDoorZU13
import Derived.Test.YtknakfpciccoaabGreatDoorZU17
/- The walk of $unwind, for a path of one step: what it takes. -/
namespace Go.Proofs.YtknakfpciccoaabGreatDoor
open Go.RowKit
def MkP (P:Nat→Prop) (c:Nat) (fx:Nat→Option Value) (l:List T) (w:World):Prop :=
 ∃ v xs,∃ R:Nat→Prop,Mk w c v l.length xs∧(∀ b,P b→R b)∧(∀ b,R b→b<w.heap.size∧b≠c∧v.ownBlock≠some b)∧(∀ i,(h:i<l.length)→AtP R w 13 (fv xs i) l[i]∧okA l[i])∧∀ o,o≠0→w.cell? ⟨c,o,none⟩=fx o
theorem MkP.keep {P:Nat→Prop} {c:Nat} {fx:Nat→Option Value} {l:List T} {w w':World} (h:MkP P c fx l w) (hb:Below w.heap.size w w'):MkP P c fx l w':=by
 obtain ⟨v,xs,R,h1,h2,h3,h4,h5⟩:=h
 exact ⟨v,xs,R,h1.keep hb,h2,fun b hr=>⟨Nat.lt_of_lt_of_le (h3 b hr).1 hb.size,(h3 b hr).2⟩,fun i hi=>⟨(h4 i hi).1.move hb.size fun b hbl hr=>⟨hr,hb.block b hbl⟩,(h4 i hi).2⟩,fun o ho=>(hb.cell (p:=⟨c,o,none⟩) h1.low).trans (h5 o ho)⟩
theorem MkP.weak {P:Nat→Prop} {w0:World} {c:Nat} {fx:Nat→Option Value} {l:List T} {w:World} (h:MkP P c fx l w) (hP:∀ b,b<w0.heap.size→P b):MkI w0 c fx l w:=by
 obtain ⟨v,xs,R,h1,h2,h3,h4,h5⟩:=h
 exact ⟨v,xs,R,h1,fun b hb=>h2 b (hP b hb),h3,h4,h5⟩
theorem MkI.more {w0:World} {c d:Nat} {fx:Nat→Option Value} {l:List T} {w w':World} (h:MkI w0 c fx l w) (hb:Below w.heap.size w w') (hd:w.heap.size≤d) (hd2:d<w'.heap.size):MkP (fun b=>b<w0.heap.size∨b=d) c fx l w':=by
 have hk:=h.keep hb
 obtain ⟨v0,xs0,R0,g1,g2,g3,g4,g5⟩:=h
 have hcl:=g1.low
 have hob:∀ b,v0.ownBlock=some b→b<w.heap.size:=fun b e=>(g1.row.lt b e).2
 refine ⟨v0,xs0,fun b=>R0 b∨b=d,g1.keep hb,fun b hp=>?_,fun b hr=>?_,fun i hi=>⟨(g4 i hi).1.move hb.size fun b hbl hr=>⟨.inl hr,hb.block b hbl⟩,(g4 i hi).2⟩,fun o ho=>(hb.cell (p:=⟨c,o,none⟩) hcl).trans (g5 o ho)⟩
 ·rcases hp with hp | hp
  ·exact .inl (g2 b hp)
  ·exact .inr hp
 ·rcases hr with hr | rfl
  ·have:=g3 b hr
   exact ⟨Nat.lt_of_lt_of_le this.1 hb.size,this.2⟩
  ·exact ⟨hd2,by omega,fun e=>by have:=hob b e;omega⟩
theorem emit_mkP {Tb:World→Prop} (hV:ValidSaid Tb) (hL:Lies Tb) (P:Nat→Prop) (w1 w2:World) (c f:Nat) (fx:Nat→Option Value) (l:List T) (t:T) (A C:Option Addr) (B D:Nat) (h:MkP P c fx l w1) (hb:Below w1.heap.size w1 w2) (hn:l.length≤1000000) (ha:AtP (fun b=>P b∨w1.heap.size≤b) w2 f (.agg #[.int .i64 (kindOf t),.int .i64 (nOf t),.string (sOf t),.slice A (nL t) B,.slice C (nK t) D]) t) (hT:Tb w2) :
  Calls Tryz.prog 227 #[.pointer (some ⟨c,0,none⟩),.agg #[.int .i64 (kindOf t),.int .i64 (nOf t),.string (sOf t),.slice A (nL t) B,.slice C (nK t) D]] w2 fun e w'=>(w2.heap.size≤w'.heap.size∧w'.os=w2.os∧w'.tape=w2.tape∧w'.output=w2.output∧∀ b,P b→w'.heap[b]?=w2.heap[b]?)∧(∀ o,o≠0→w'.cell? ⟨c,o,none⟩=fx o)∧∃ er:Int,e=.returned (.int .i64 er)∧((tooBig t=true∧er=15)∨(tooBig t=false∧er=0∧MkP P c fx (l++[t]) w')):=by
 obtain ⟨v,xs,R,h1,h2,h3,h4,h5⟩:=h
 have hob:∀ b,v.ownBlock=some b→¬ P b∧b<w1.heap.size:=fun b e=>⟨fun hh=>(h3 b (h2 b hh)).2.2 e,(h1.row.lt b e).2⟩
 have hPl:∀ b,P b→b<w1.heap.size∧b≠c:=fun b hb=>⟨(h3 b (h2 b hb)).1,(h3 b (h2 b hb)).2.1⟩
 have hcl:c<w1.heap.size:=h1.low
 have s1:=hb.size
 refine (emit_any hV hL c f t v l.length xs A C B D w2 (h1.keep hb) hn ha.at hT).mono ?_
 rintro e w' (⟨b2,hbig,rfl⟩ | ⟨hB,hbig,rfl,hoff,g,cap,q0,f0,hg,hO⟩)
 ·exact ⟨⟨b2.size,b2.os,b2.tape,b2.output,fun b hb'=>b2.block b (by have:=(hPl b hb').1;omega)⟩,fun o ho=>by rw [b2.cell (p:=⟨c,o,none⟩) (by show c<_;omega),hb.cell (p:=⟨c,o,none⟩) h1.low];exact h5 o ho,15,rfl,.inl ⟨hbig,rfl⟩⟩
 ·obtain ⟨hgood,hok⟩:=small_good hbig
  have s2:=hB.size
  have hgl:g<w'.heap.size:=(hO.lt g rfl).2
  have hx:xs.length=l.length*5:=h1.row.1
  have hgc:g≠c:=by
   rcases hg with hg | hg
   ·exact fun e=>h1.apart (by rw [hg,e])
   ·omega
  have old:∀ b,b<w2.heap.size→b≠c→v.ownBlock≠some b→w'.heap[b]?=w2.heap[b]?:=fun b h1 h2 h3=>hB.block b h1 h2 (fun e=>h3 e.symm)
  refine ⟨⟨hB.size,hB.os,hB.tape,hB.output,fun b hb'=>old b (by have:=(hPl b hb').1;omega) (hPl b hb').2 (fun e=>(hob b e).1 hb')⟩,(fun o ho=>by rw [hoff o ho,hb.cell (p:=⟨c,o,none⟩) h1.low];exact h5 o ho),0,rfl,.inr ⟨hbig,rfl,_,xs++[.int .i64 (kindOf t),.int .i64 (nOf t),.string (sOf t),.slice A (nL t) B,.slice C (nK t) D],(fun b=>P b∨R b∨(w1.heap.size≤b∧b<w2.heap.size)),⟨q0,f0,by omega,?_,?_⟩,fun b hb'=>.inl hb',?_,?_,?_⟩⟩
  ·rw [List.length_append];exact hO
  ·simpa [Value.ownBlock] using hgc
  ·intro b hr
   have hne:∀ (h:b<w2.heap.size),(b<w1.heap.size→v.ownBlock≠some b)→b≠g:=fun h hv e=>by
    subst e
    rcases hg with hg | hg
    ·exact hv (hob b hg).2 hg
    ·omega
   rcases hr with hr | hr | hr
   ·have hq:=hPl b hr
    exact ⟨by omega,hq.2,by simpa [Value.ownBlock] using (hne (by omega) (fun _=>(h3 b (h2 b hr)).2.2)).symm⟩
   ·have:=h3 b hr
    exact ⟨by omega,this.2.1,by simpa [Value.ownBlock] using (hne (by omega) (fun _=>this.2.2)).symm⟩
   ·exact ⟨by omega,by omega,by simpa [Value.ownBlock] using (hne hr.2 (fun h=>by omega)).symm⟩
  ·intro i hi
   rw [List.length_append,List.length_cons,List.length_nil] at hi
   by_cases e:i<l.length
   ·rw [fv_first hx e,List.getElem_append_left e]
    refine ⟨(h4 i e).1.move (by omega) fun b hbl hr=>⟨.inr (.inl hr),(old b (by omega) (h3 b hr).2.1 (h3 b hr).2.2).trans (hb.block b hbl)⟩,(h4 i e).2⟩
   ·obtain rfl:i=l.length:=by omega
    rw [fv_last hx,List.getElem_append_right (by omega)]
    simp only [Nat.sub_self,List.getElem_cons_zero]
    refine ⟨(ha.fit hgood).move s2 fun b hbl hq=>?_,hok⟩
    rcases hq with hq | hq
    ·exact ⟨.inl hq,old b hbl (hPl b hq).2 (fun e=>(hob b e).1 hq)⟩
    ·exact ⟨.inr (.inr ⟨hq,hbl⟩),old b hbl (by omega) (fun e=>by have:=(hob b e).2;omega)⟩
  ·intro o ho
   rw [hoff o ho,hb.cell (p:=⟨c,o,none⟩) h1.low]
   exact h5 o ho
theorem MkP.imp {P Q:Nat→Prop} {c:Nat} {fx:Nat→Option Value} {l:List T} {w:World} (h:MkP P c fx l w) (hP:∀ b,Q b→P b):MkP Q c fx l w:=by
 obtain ⟨v,xs,R,h1,h2,h3,h4,h5⟩:=h
 exact ⟨v,xs,R,h1,fun b hb=>h2 b (hP b hb),h3,h4,h5⟩
theorem MkP.more {P:Nat→Prop} {c d:Nat} {fx:Nat→Option Value} {l:List T} {w w':World} (h:MkP P c fx l w) (hb:Below w.heap.size w w') (hd:w.heap.size≤d) (hd2:d<w'.heap.size):MkP (fun b=>P b∨b=d) c fx l w':=by
 obtain ⟨v0,xs0,R0,g1,g2,g3,g4,g5⟩:=h
 have hcl:=g1.low
 have hob:∀ b,v0.ownBlock=some b→b<w.heap.size:=fun b e=>(g1.row.lt b e).2
 refine ⟨v0,xs0,fun b=>R0 b∨b=d,g1.keep hb,fun b hp=>hp.elim (fun h=>.inl (g2 b h)) .inr,fun b hr=>?_,fun i hi=>⟨(g4 i hi).1.move hb.size fun b hbl hr=>⟨.inl hr,hb.block b hbl⟩,(g4 i hi).2⟩,fun o ho=>(hb.cell (p:=⟨c,o,none⟩) hcl).trans (g5 o ho)⟩
 rcases hr with hr | rfl
 ·have:=g3 b hr
  exact ⟨Nat.lt_of_lt_of_le this.1 hb.size,this.2⟩
 ·exact ⟨hd2,by omega,fun e=>by have:=hob b e;omega⟩
theorem putT_five (t o:T) (k:Nat) (RA Ka:Option Addr) (Rc Kc:Nat):Value.agg #[.int .i64 (kindOf (putT t k o)),.int .i64 (nOf (putT t k o)),.string (sOf (putT t k o)),.slice RA (nL (putT t k o)) Rc,.slice Ka (nK (putT t k o)) Kc]=.agg #[.int .i64 (kindOf t),.int .i64 (nOf t),.string (sOf t),.slice RA (nL t) Rc,.slice Ka (nK t) Kc]:=by
 have hnl:nL (putT t k o)=nL t:=by unfold putT;rw [nL_mk,List.length_set];rfl
 have hnk:nK (putT t k o)=nK t:=by unfold putT;rw [nK_mk];rfl
 rw [hnl,hnk]
 unfold putT
 rw [kindOf_mk,nOf_mk,sOf_mk]
def unwL (t:T) (k:Nat):List T→List T→Int⊕List T
 | [],made=>.inr made
 | e::es,made=>if tooBig (putT t k e) then .inl 15 else if 200<made.length+1 then .inl 12 else unwL t k es (made++[putT t k e])
def unwE (y:ByteArray) (made:List T) (d:T):Int⊕List T:=match plc y d with
 | none=>.inl 13
 | some k=>if kindOf (elt d k)=5 then unwL d k (lOf (elt d k)) made else .inl 13
def FrPost (w0:World) (y:ByteArray) (doc:T) (w:World) (e:Ending) (w':World):Prop :=
 Below w.heap.size w w'∧∃ vk vn vs VA vl VB VC vm VD bb,e=.returned (.tuple #[.agg #[.int .i64 vk,.int .i64 vn,.string vs,.slice VA vl VB,.slice VC vm VD],.bool bb])∧((plc y doc=none∧vk=0)∨∃ k t A B C D,plc y doc=some k∧elt doc k=t∧Value.agg #[.int .i64 vk,.int .i64 vn,.string vs,.slice VA vl VB,.slice VC vm VD]=.agg #[.int .i64 (kindOf t),.int .i64 (nOf t),.string (sOf t),.slice A (nL t) B,.slice C (nK t) D]∧At w0 13 (.agg #[.int .i64 (kindOf t),.int .i64 (nOf t),.string (sOf t),.slice A (nL t) B,.slice C (nK t) D]) t∧okA t)
theorem FrPost.flat {w0:World} {y:ByteArray} {doc:T} {w:World} {e:Ending} {w':World} (h:FrPost w0 y doc w e w'):Below w.heap.size w w'∧∃ vk vn vs VA vl VB VC vm VD bb,e=.returned (.tuple #[.agg #[.int .i64 vk,.int .i64 vn,.string vs,.slice VA vl VB,.slice VC vm VD],.bool bb])∧((plc y doc=none∧vk=0)∨∃ k t A B C D,plc y doc=some k∧elt doc k=t∧Value.agg #[.int .i64 vk,.int .i64 vn,.string vs,.slice VA vl VB,.slice VC vm VD]=.agg #[.int .i64 (kindOf t),.int .i64 (nOf t),.string (sOf t),.slice A (nL t) B,.slice C (nK t) D]∧At w0 13 (.agg #[.int .i64 (kindOf t),.int .i64 (nOf t),.string (sOf t),.slice A (nL t) B,.slice C (nK t) D]) t∧okA t):=h
theorem from_flat {Tb:World→Prop} (hA:AtoiSaid Tb) (hI:ItoaSaid Tb) (hL:Lies Tb) (pv:Value) (y:ByteArray) (x:Value) (doc:T) (w0 w:World) (hb0:Below w0.heap.size w0 w) (hp:StrsAt w pv [y]) (h:At w0 13 x doc) (hok:okA doc) (hT:Tb w) :
  Calls Tryz.prog 231 #[pv,x] w (FrPost w0 y doc w):=by
 refine (from_any hA hI hL pv [y] 13 x doc w0 w hb0 hp h hok hT).mono ?_
 rintro e w3 ⟨b3,⟨r,g,A,B,C,D,hr,hg,rfl,ha,hk⟩ | ⟨hr,rfl⟩⟩
 ·refine ⟨b3,_,_,_,_,_,_,_,_,_,_,rfl,.inr ?_⟩
  unfold fromP at hr
  cases hc:plc y doc with
  | none=>rw [hc] at hr;cases hr
  | some k =>
   rw [hc] at hr
   have:elt doc k=r:=by simpa [fromP] using hr
   exact ⟨k,r,A,B,C,D,rfl,this,rfl,ha.up hg,hk⟩
 ·refine ⟨b3,_,_,_,_,_,_,_,_,_,_,rfl,.inl ⟨?_,rfl⟩⟩
  unfold fromP at hr
  cases hc:plc y doc with
  | none=>rfl
  | some k=>rw [hc] at hr;simp [fromP] at hr
theorem unw_none {y:ByteArray} {made:List T} {d:T} (h:plc y d=none):unwE y made d=.inl 13:=by unfold unwE;rw [h]
theorem unw_no {y:ByteArray} {made:List T} {d t:T} {k:Nat} (h:plc y d=some k) (he:elt d k=t) (hk:¬ kindOf t=5):unwE y made d=.inl 13:=by unfold unwE;rw [h];dsimp only;rw [he,if_neg hk]
theorem unw_yes {y:ByteArray} {made:List T} {d t:T} {k:Nat} (h:plc y d=some k) (he:elt d k=t) (hk:kindOf t=5):unwE y made d=unwL d k (lOf t) made:=by unfold unwE;rw [h];dsimp only;rw [he,if_pos hk]
set_option maxHeartbeats 8000000 in
set_option maxRecDepth 100000 in
theorem utake_any {Tb:World→Prop} (hV:ValidSaid Tb) (hA:AtoiSaid Tb) (hI':ItoaSaid Tb) (hL:Lies Tb) (w0:World) (c:Nat) (PA:Option Addr) (pc:Nat) (y:ByteArray) (made:List T) (doc:T) (x:Value) (w:World) (hb0:Below w0.heap.size w0 w) (hp:StrsAt w0 (.slice PA 1 pc) [y])
  (hI:MkI w0 c (fun o=>if o=1 then some (.slice PA 1 pc) else none) made w) (hm:made.length≤200) (h:At w0 13 x doc) (hok:okA doc) (hsm:nL doc≤2000000) (hT:∀ w',Below w0.heap.size w w'→Tb w') :
  Calls Tryz.prog 230 #[.pointer (some ⟨c,0,none⟩),x] w (WkPost (unwE y) made (MkI w0 c (fun o=>if o=1 then some (.slice PA 1 pc) else none)) doc w0 w):=by
 obtain ⟨g1,La,Ka,Lc,Kc,hg1,hx,_,_,_⟩:=h.open
 have hc:=hI.lo
 obtain ⟨pb,po,hPA,hpbl,hysz,hpcell⟩:∃ pb po,PA=some ⟨pb,po,none⟩∧pb<w0.heap.size∧y.size≤140737488355328∧w0.cell? ⟨pb,po,none⟩=some (.string y):=by
  obtain ⟨A',c',hv,_,hh⟩:=hp
  simp only [Value.slice.injEq] at hv
  obtain ⟨b,o,h1,h2,h3,h4⟩:=hh 0 (by simp)
  exact ⟨b,o,by rw [hv.1];exact h1,h2,h3,h4⟩
 have HBx:Hid (Below w.heap.size w (w.alloc (.cells #[.int .i64 (kindOf doc),.int .i64 (nOf doc),.string (sOf doc),.slice La (nL doc) Lc,.slice Ka (nK doc) Kc] 36))):=(Below.refl _ _).alloc (Nat.le_refl _) _
 have HX:=hid (box_new w (.int .i64 (kindOf doc)) (.int .i64 (nOf doc)) (.string (sOf doc)) (.slice La (nL doc) Lc) (.slice Ka (nK doc) Kc))
 have HIw:=hid hI
 have HI1:=hid (hI.keep HBx.out)
 have HB0:=hid hb0
 have HT:Hid (∀ w',Below w0.heap.size w w'→Tb w'):=hT
 have Hm:=hid hm
 have Hp:=hid hp
 have Hpc:=hid (And.intro hpbl (And.intro hysz hpcell))
 have HD:=hid (And.intro h hok)
 have Hlw:Hid (∀ wx,MkI w0 c (fun o=>if o=1 then some (.slice PA 1 pc) else none) made wx→wx.cell? ⟨c,1,none⟩=some (.slice PA 1 pc)):=fun wx hh=>by
  obtain ⟨_,_,_,_,_,_,_,h5⟩:=hh
  have:=h5 1 (by omega)
  simpa using this
 have HC:Hid (∀ wx:World,Below w.heap.size w wx→Calls Tryz.prog 231 #[.slice PA 1 pc,.agg #[.int .i64 (kindOf doc),.int .i64 (nOf doc),.string (sOf doc),.slice La (nL doc) Lc,.slice Ka (nK doc) Kc]] wx (FrPost w0 y doc wx)):=fun wx hq=>by
  have hb':=hb0.trans (hq.mono hb0.size)
  have:=from_flat hA hI' hL (.slice PA 1 pc) y x doc w0 wx hb' (hp.keep hb') h hok (hT wx (hq.mono hb0.size))
  rw [hx] at this
  exact this
 have HPut:Hid (∀ (wx:World) (k:Nat) (o:T) (A C:Option Addr) (B D:Nat),Below w0.heap.size w0 wx→plc y doc=some k→At w0 13 (.agg #[.int .i64 (kindOf o),.int .i64 (nOf o),.string (sOf o),.slice A (nL o) B,.slice C (nK o) D]) o→Tb wx→Calls Tryz.prog 232 #[.slice PA 1 pc,.agg #[.int .i64 (kindOf doc),.int .i64 (nOf doc),.string (sOf doc),.slice La (nL doc) Lc,.slice Ka (nK doc) Kc],.agg #[.int .i64 (kindOf o),.int .i64 (nOf o),.string (sOf o),.slice A (nL o) B,.slice C (nK o) D]] wx fun e w'=>Below wx.heap.size wx w'∧∃ RA Rc,e=.returned (.agg #[.int .i64 (kindOf doc),.int .i64 (nOf doc),.string (sOf doc),.slice RA (nL doc) Rc,.slice Ka (nK doc) Kc])∧AtP (fun b=>b<w0.heap.size∨wx.heap.size≤b) w' 15 (.agg #[.int .i64 (kindOf doc),.int .i64 (nOf doc),.string (sOf doc),.slice RA (nL doc) Rc,.slice Ka (nK doc) Kc]) (putT doc k o)):=fun wx k o A C B D hb hk ho ht=>by
  rw [hPA]
  have h':=h
  rw [hx] at h'
  exact put_one hA hI' hL pb po pc y doc o k La Ka A C Lc Kc B D w0 wx hb ((hb.cell (p:=⟨pb,po,none⟩) hpbl).trans hpcell) (Nat.lt_of_lt_of_le hpbl hb.size) hysz h' ho hok hk hsm ht
 have HEm:Hid (∀ (P:Nat→Prop) (w1 w2:World) (f:Nat) (l:List T) (t:T) (A C:Option Addr) (B D:Nat),MkP P c (fun o=>if o=1 then some (.slice PA 1 pc) else none) l w1→Below w1.heap.size w1 w2→l.length≤1000000→AtP (fun b=>P b∨w1.heap.size≤b) w2 f (.agg #[.int .i64 (kindOf t),.int .i64 (nOf t),.string (sOf t),.slice A (nL t) B,.slice C (nK t) D]) t→Tb w2→_):=fun P w1 w2 f l t A C B D h1 h2 h3 h4 h5=>emit_mkP hV hL P w1 w2 c f (fun o=>if o=1 then some (.slice PA 1 pc) else none) l t A C B D h1 h2 h3 h4 h5
 subst hx
 clear hI hb0 hT h hok hV hL hA hI' hm hg1 hp hpcell hpbl hPA hysz
 go_enter Tryz.func230,Tryz.ntmps230
 go_upto_region 1 with fail
 go_cut [5,6] (fun s5 s6 wx=>∃ (bx:Nat) (vk vn:Int) (vs:ByteArray) (VA:Option Addr) (vl VB:Nat) (VC:Option Addr) (vm VD:Nat) (bb:Bool),s5=.pointer (some ⟨bx,0,none⟩)∧s6=.bool bb∧Hid (Below w.heap.size w wx∧BoxAt bx (.int .i64 vk) (.int .i64 vn) (.string vs) (.slice VA vl VB) (.slice VC vm VD) wx∧BoxAt w.heap.size (.int .i64 (kindOf doc)) (.int .i64 (nOf doc)) (.string (sOf doc)) (.slice La (nL doc) Lc) (.slice Ka (nK doc) Kc) wx∧w.heap.size<wx.heap.size)∧Hid ((plc y doc=none∧vk=0)∨∃ k t A B C D,plc y doc=some k∧elt doc k=t∧Value.agg #[.int .i64 vk,.int .i64 vn,.string vs,.slice VA vl VB,.slice VC vm VD]=.agg #[.int .i64 (kindOf t),.int .i64 (nOf t),.string (sOf t),.slice A (nL t) B,.slice C (nK t) D]∧At w0 13 (.agg #[.int .i64 (kindOf t),.int .i64 (nOf t),.string (sOf t),.slice A (nL t) B,.slice C (nK t) D]) t∧okA t))
 case first =>
  clear HD Hp HPut HEm HB0 HIw Hm HT Hpc
  have c2a:=Hlw.out _ HI1.out
  have HBz:=hid (HBx.out.alloc HBx.out.size (.cells #[.int .i64 0,.int .i64 0,.string ⟨#[]⟩,.slice none 0 0,.slice none 0 0] 36))
  have HI1z:=hid (HI1.out.keep ((Below.refl _ _).alloc (Nat.le_refl _) (.cells #[.int .i64 0,.int .i64 0,.string ⟨#[]⟩,.slice none 0 0,.slice none 0 0] 36)))
  have c2b:=Hlw.out _ HI1z.out
  have HXz:=hid (HX.out.stay ((Below.refl _ _).alloc (Nat.le_refl _) (.cells #[.int .i64 0,.int .i64 0,.string ⟨#[]⟩,.slice none 0 0,.slice none 0 0] 36)))
  have HQ0:=hid HBx.out.drew
  have HQ1:=hid HBz.out.drew
  have r0:=HX.out.q0
  have r1:=HX.out.q1
  have r2:=HX.out.q2
  have r3:=HX.out.q3
  have r4:=HX.out.q4
  have s0:=HXz.out.q0
  have s1:=HXz.out.q1
  have s2:=HXz.out.q2
  have s3:=HXz.out.q3
  have s4:=HXz.out.q4
  have HZ:Hid (BoxAt (w.heap.size+1) (.int .i64 0) (.int .i64 0) (.string ⟨#[]⟩) (.slice none 0 0) (.slice none 0 0) ((w.alloc (.cells #[.int .i64 (kindOf doc),.int .i64 (nOf doc),.string (sOf doc),.slice La (nL doc) Lc,.slice Ka (nK doc) Kc] 36)).alloc (.cells #[.int .i64 0,.int .i64 0,.string ⟨#[]⟩,.slice none 0 0,.slice none 0 0] 36))):=by
   constructor<;>simp [go_sem]
  go_region_law (first | (go_simp;with_reducible refine Calls.mono (HC.out _ HQ0.out) ?_;rintro e w2 he;obtain ⟨b2,vk,vn,vs,VA,vl,VB,VC,vm,VD,bb,rfl,hc⟩:=FrPost.flat he;have HB2:=hid (HQ0.out.trans (b2.mono HQ0.out.size));have HX2:=hid (HX.out.stay ((below_drew _).trans (b2.mono (below_drew _).size)));have HCC:=hid hc;have HFin:=hid (And.intro (HB2.out.alloc HB2.out.size (.cells #[.int .i64 vk,.int .i64 vn,.string vs,.slice VA vl VB,.slice VC vm VD] 36)) (And.intro (box_new w2 (.int .i64 vk) (.int .i64 vn) (.string vs) (.slice VA vl VB) (.slice VC vm VD)) (And.intro (HX2.out.stay ((Below.refl _ _).alloc (Nat.le_refl _) (.cells #[.int .i64 vk,.int .i64 vn,.string vs,.slice VA vl VB,.slice VC vm VD] 36))) (Nat.lt_of_lt_of_le HX2.out.lt ((Below.refl w2.heap.size w2).alloc (Nat.le_refl _) (.cells #[.int .i64 vk,.int .i64 vn,.string vs,.slice VA vl VB,.slice VC vm VD] 36)).size))));clear b2 hc he;dsimp only) | (go_simp;with_reducible refine Calls.mono (HC.out _ HQ1.out) ?_;rintro e w2 he;obtain ⟨b2,vk,vn,vs,VA,vl,VB,VC,vm,VD,bb,rfl,hc⟩:=FrPost.flat he;have HB2:=hid (HQ1.out.trans (b2.mono HQ1.out.size));have HX2:=hid (HXz.out.stay ((below_drew _).trans (b2.mono (below_drew _).size)));have HZ2:=hid (HZ.out.stay ((below_drew _).trans (b2.mono (below_drew _).size)));have HCC:=hid hc;have n0:=HZ2.out.q0;have n1:=HZ2.out.q1;have n2:=HZ2.out.q2;have n3:=HZ2.out.q3;have n4:=HZ2.out.q4;have m0:=HZ2.out.f0;have m1:=HZ2.out.f1;have m2:=HZ2.out.f2;have m3:=HZ2.out.f3;have m4:=HZ2.out.f4;have HFin:=hid (And.intro (below_res HB2.out (b:=w.heap.size+1) (by omega) (by have:=HZ2.out.lt;omega) (.int .i64 vk) (.int .i64 vn) (.string vs) (.slice VA vl VB) (.slice VC vm VD)) (And.intro (HZ2.out.put5 (.int .i64 vk) (.int .i64 vn) (.string vs) (.slice VA vl VB) (.slice VC vm VD)) (And.intro (HX2.out.move (w':=put5 w2 (w.heap.size+1) (.int .i64 vk) (.int .i64 vn) (.string vs) (.slice VA vl VB) (.slice VC vm VD)) (by rw [put5_size];exact Nat.le_refl _) (put5_other w2 (by omega) (.int .i64 vk) (.int .i64 vn) (.string vs) (.slice VA vl VB) (.slice VC vm VD))) (show w.heap.size<(put5 w2 (w.heap.size+1) (.int .i64 vk) (.int .i64 vn) (.string vs) (.slice VA vl VB) (.slice VC vm VD)).heap.size by rw [put5_size];exact HX2.out.lt))));clear b2 hc he;dsimp only))
  all_goals
   go_wp2_with fail
   go_meet
   unfold put5 at HFin
   exact ⟨_,_,_,_,_,_,_,_,_,_,_,rfl,rfl,HFin,HCC⟩
 case rest =>
  obtain ⟨bx,vk,vn,vs,VA,vl,VB,VC,vm,VD,bb,rfl,rfl,HF,HG⟩:=hcut
  have Hw0:=hid HB0.out.size
  have HY:=hid HF.out.2.1
  have y0:=HY.out.q0
  have y1:=HY.out.q1
  have y2:=HY.out.q2
  have y3:=HY.out.q3
  have y4:=HY.out.q4
  rcases HG.out with ⟨h1,rfl⟩ | ⟨k,t,A,B,C,D,h1,he,h3,h4,h5⟩
  ·have Hret:Hid (WkPost (unwE y) made (MkI w0 c (fun o=>if o=1 then some (.slice PA 1 pc) else none)) doc w0 w (.returned (.int .i64 13)) wc):=⟨HF.out.1.mono Hw0.out,.inl ⟨13,unw_none h1,by decide,rfl⟩⟩
   clear h1 HG HC HIw HI1 HX HBx HD HB0 Hm HPut HEm Hlw Hp Hpc HT
   go_wp2_with fail
   go_ret
   exact Hret.out
  ·simp only [Value.agg.injEq,Array.mk.injEq,List.cons.injEq,and_true,Value.int.injEq,true_and,Value.string.injEq,Value.slice.injEq] at h3
   obtain ⟨rfl,rfl,rfl,⟨rfl,rfl,rfl⟩,rfl,rfl,rfl⟩:=h3
   by_cases k5:kindOf t=5
   ·have HU0:=hid (unw_yes (made:=made) h1 he k5)
    have Hpl:=hid h1
    have Hok5:=hid h5
    obtain ⟨g2,La2,Ka2,Lc2,Kc2,hg2,hx2,_,hel,_⟩:=h4.open
    simp only [Value.agg.injEq,Array.mk.injEq,List.cons.injEq,Value.slice.injEq,and_true,true_and] at hx2
    obtain ⟨⟨rfl,rfl⟩,rfl,rfl⟩:=hx2
    have Hel:=hid hel.out
    have Hg2:=hid hg2
    have hnl:nL t≤1048576:=h5.small.2
    have HM0:=hid (HIw.out.more HF.out.1 (Nat.le_refl _) HF.out.2.2.2)
    have HDb:=hid HF.out.2.2.1
    have HBw:=hid (HF.out.1.mono Hw0.out)
    rw [k5] at y0
    clear h1 he h4 h5 hel hg2 HG HC HI1 HX HBx HD HF HY HIw Hlw k5
    go_wp2_with fail
    go_loopg [25] (nL t) (fun g i wr=>∃ j:Nat,g=nL t - j∧j≤nL t∧i=.int .i64 j∧Hid (∃ l,MkP (fun b=>b<w0.heap.size∨b=w.heap.size) c (fun o=>if o=1 then some (.slice PA 1 pc) else none) l wr∧l.length≤200∧unwL doc k (lOf t) made=unwL doc k ((lOf t).drop j) l)∧Hid (Below w0.heap.size w wr)∧Hid (BoxAt w.heap.size (.int .i64 (kindOf doc)) (.int .i64 (nOf doc)) (.string (sOf doc)) (.slice La (nL doc) Lc) (.slice Ka (nK doc) Kc) wr))
    case atStart=>exact ⟨0,rfl,Nat.zero_le _,rfl,⟨made,HM0.out,Hm.out,by rw [List.drop_zero]⟩,HBw,HDb⟩
    case round =>
     clear HM0 HDb HBw y0 y1 y2 y3 y4
     obtain ⟨j,rfl,hj,rfl,HR,HBr,HDr⟩:=hrel
     have Hb0r:=hid (HB0.out.trans HBr.out)
     by_cases hlt:j<nL t
     ·obtain ⟨l,hM,hl,hU⟩:=HR.out
      obtain ⟨bb,oo,EA,EB,EC,ED,rfl,hbl,p0,p1,p2,p3,p4,Ha⟩:=Hel.out.shape Hb0r.out j hlt
      obtain ⟨o,ho⟩:∃ o,elt t j=o:=⟨_,rfl⟩
      rw [ho] at p0 p1 p2 p3 p4 Ha
      have Hdr:Hid ((lOf t).drop j=o::(lOf t).drop (j+1)):=by
       show _=_
       have hj':j<(lOf t).length:=hlt
       rw [List.drop_eq_getElem_cons hj',← ho]
       unfold elt
       rw [List.getD_eq_getElem?_getD,List.getElem?_eq_getElem hj']
       rfl
      have HU:=hid hU
      have hl':=hl
      have HBe:Hid (Below wr.heap.size wr (wr.alloc (.cells #[.int .i64 (kindOf o),.int .i64 (nOf o),.string (sOf o),.slice EA (nL o) EB,.slice EC (nK o) ED] 36))):=(Below.refl _ _).alloc (Nat.le_refl _) _
      have HM1:=hid (hM.more HBe.out (d:=wr.heap.size) (Nat.le_refl _) (by simp))
      have HOb:=hid (box_new wr (.int .i64 (kindOf o)) (.int .i64 (nOf o)) (.string (sOf o)) (.slice EA (nL o) EB) (.slice EC (nK o) ED))
      have HSo:Hid (∀ wx:World,wx.cell? ⟨c,1,none⟩=some (.slice PA 1 pc)→BoxAt w.heap.size (.int .i64 (kindOf doc)) (.int .i64 (nOf doc)) (.string (sOf doc)) (.slice La (nL doc) Lc) (.slice Ka (nK doc) Kc) wx→BoxAt wr.heap.size (.int .i64 (kindOf o)) (.int .i64 (nOf o)) (.string (sOf o)) (.slice EA (nL o) EB) (.slice EC (nK o) ED) wx→(wx.cell? ⟨c,1,none⟩=some (.slice PA 1 pc)∧wx.cell? ⟨w.heap.size,0,none⟩=some (.int .i64 (kindOf doc))∧wx.cell? ⟨w.heap.size,1,none⟩=some (.int .i64 (nOf doc))∧wx.cell? ⟨w.heap.size,2,none⟩=some (.string (sOf doc))∧wx.cell? ⟨w.heap.size,3,none⟩=some (.slice La (nL doc) Lc)∧wx.cell? ⟨w.heap.size,4,none⟩=some (.slice Ka (nK doc) Kc)∧wx.cell? ⟨wr.heap.size,0,none⟩=some (.int .i64 (kindOf o))∧wx.cell? ⟨wr.heap.size,1,none⟩=some (.int .i64 (nOf o))∧wx.cell? ⟨wr.heap.size,2,none⟩=some (.string (sOf o))∧wx.cell? ⟨wr.heap.size,3,none⟩=some (.slice EA (nL o) EB)∧wx.cell? ⟨wr.heap.size,4,none⟩=some (.slice EC (nK o) ED))):=fun wx h1 h2 h3=>⟨h1,h2.q0,h2.q1,h2.q2,h2.q3,h2.q4,h3.q0,h3.q1,h3.q2,h3.q3,h3.q4⟩
      have Hc1:Hid (∀ wx:World,Below (wr.alloc (.cells #[.int .i64 (kindOf o),.int .i64 (nOf o),.string (sOf o),.slice EA (nL o) EB,.slice EC (nK o) ED] 36)).heap.size (wr.alloc (.cells #[.int .i64 (kindOf o),.int .i64 (nOf o),.string (sOf o),.slice EA (nL o) EB,.slice EC (nK o) ED] 36)) wx→(wx.cell? ⟨c,1,none⟩=some (.slice PA 1 pc)∧wx.cell? ⟨w.heap.size,0,none⟩=some (.int .i64 (kindOf doc))∧wx.cell? ⟨w.heap.size,1,none⟩=some (.int .i64 (nOf doc))∧wx.cell? ⟨w.heap.size,2,none⟩=some (.string (sOf doc))∧wx.cell? ⟨w.heap.size,3,none⟩=some (.slice La (nL doc) Lc)∧wx.cell? ⟨w.heap.size,4,none⟩=some (.slice Ka (nK doc) Kc)∧wx.cell? ⟨wr.heap.size,0,none⟩=some (.int .i64 (kindOf o))∧wx.cell? ⟨wr.heap.size,1,none⟩=some (.int .i64 (nOf o))∧wx.cell? ⟨wr.heap.size,2,none⟩=some (.string (sOf o))∧wx.cell? ⟨wr.heap.size,3,none⟩=some (.slice EA (nL o) EB)∧wx.cell? ⟨wr.heap.size,4,none⟩=some (.slice EC (nK o) ED))):=fun wx hb=>HSo.out wx (by
       have:=(HM1.out.keep hb)
       obtain ⟨_,_,_,_,_,_,_,h5⟩:=this
       have:=h5 1 (by omega)
       simpa using this) ((HDr.out.stay HBe.out).stay hb) (HOb.out.stay hb)
      have HSd:=hid (Hc1.out _ (below_drew _))
      have Hbe0:=hid (Hb0r.out.trans (HBe.out.drew.mono Hb0r.out.size))
      have HPc:=hid (HPut.out (wr.alloc (.cells #[.int .i64 (kindOf o),.int .i64 (nOf o),.string (sOf o),.slice EA (nL o) EB,.slice EC (nK o) ED] 36)).drew k o EA EC EB ED Hbe0.out Hpl.out (Ha.out.up (show g2≤13 by have:=Hg2.out;omega)) (HT.out _ (HBr.out.trans (HBe.out.drew.mono Hb0r.out.size))))
      have HEc:Hid (∀ (w5:World) (RA:Option Addr) (Rc:Nat),Below (wr.alloc (.cells #[.int .i64 (kindOf o),.int .i64 (nOf o),.string (sOf o),.slice EA (nL o) EB,.slice EC (nK o) ED] 36)).drew.heap.size (wr.alloc (.cells #[.int .i64 (kindOf o),.int .i64 (nOf o),.string (sOf o),.slice EA (nL o) EB,.slice EC (nK o) ED] 36)).drew w5→AtP (fun b=>b<w0.heap.size∨(wr.alloc (.cells #[.int .i64 (kindOf o),.int .i64 (nOf o),.string (sOf o),.slice EA (nL o) EB,.slice EC (nK o) ED] 36)).drew.heap.size≤b) w5 15 (.agg #[.int .i64 (kindOf doc),.int .i64 (nOf doc),.string (sOf doc),.slice RA (nL doc) Rc,.slice Ka (nK doc) Kc]) (putT doc k o)→Calls Tryz.prog 227 #[.pointer (some ⟨c,0,none⟩),(.agg #[.int .i64 (kindOf doc),.int .i64 (nOf doc),.string (sOf doc),.slice RA (nL doc) Rc,.slice Ka (nK doc) Kc])] w5 fun e w'=>(w'.cell? ⟨c,1,none⟩=some (.slice PA 1 pc)∧w'.cell? ⟨w.heap.size,0,none⟩=some (.int .i64 (kindOf doc))∧w'.cell? ⟨w.heap.size,1,none⟩=some (.int .i64 (nOf doc))∧w'.cell? ⟨w.heap.size,2,none⟩=some (.string (sOf doc))∧w'.cell? ⟨w.heap.size,3,none⟩=some (.slice La (nL doc) Lc)∧w'.cell? ⟨w.heap.size,4,none⟩=some (.slice Ka (nK doc) Kc)∧w'.cell? ⟨wr.heap.size,0,none⟩=some (.int .i64 (kindOf o))∧w'.cell? ⟨wr.heap.size,1,none⟩=some (.int .i64 (nOf o))∧w'.cell? ⟨wr.heap.size,2,none⟩=some (.string (sOf o))∧w'.cell? ⟨wr.heap.size,3,none⟩=some (.slice EA (nL o) EB)∧w'.cell? ⟨wr.heap.size,4,none⟩=some (.slice EC (nK o) ED))∧∃ er:Int,e=.returned (.int .i64 er)∧Hid (Below w0.heap.size w5 w'∧BoxAt w.heap.size (.int .i64 (kindOf doc)) (.int .i64 (nOf doc)) (.string (sOf doc)) (.slice La (nL doc) Lc) (.slice Ka (nK doc) Kc) w'∧((tooBig (putT doc k o)=true∧er=15)∨(tooBig (putT doc k o)=false∧er=0∧MkP (fun b=>b<w0.heap.size∨b=w.heap.size) c (fun o=>if o=1 then some (.slice PA 1 pc) else none) (l++[putT doc k o]) w')))):=fun w5 RA Rc hb hat=>by
       have hb':Below (wr.alloc (.cells #[.int .i64 (kindOf o),.int .i64 (nOf o),.string (sOf o),.slice EA (nL o) EB,.slice EC (nK o) ED] 36)).heap.size (wr.alloc (.cells #[.int .i64 (kindOf o),.int .i64 (nOf o),.string (sOf o),.slice EA (nL o) EB,.slice EC (nK o) ED] 36)) w5:=(below_drew _).trans hb
       have hem:=HEm.out (fun b=>(b<w0.heap.size∨b=w.heap.size)∨b=wr.heap.size) (wr.alloc (.cells #[.int .i64 (kindOf o),.int .i64 (nOf o),.string (sOf o),.slice EA (nL o) EB,.slice EC (nK o) ED] 36)) w5 15 l (putT doc k o) RA Ka Rc Kc HM1.out hb' (by omega) (by
        rw [putT_five]
        exact AtP.move (Nat.le_refl _) (fun b hb hp=>⟨hp.elim (fun h=>.inl (.inl (.inl h))) (fun h=>.inr h),rfl⟩) hat) (HT.out _ ((HBr.out.trans (HBe.out.mono Hb0r.out.size)).trans (hb'.mono (Nat.le_trans Hb0r.out.size HBe.out.size))))
       rw [putT_five] at hem
       refine hem.mono ?_
       rintro e w' ⟨⟨s1,s2,s3,s4,s5⟩,hfx,er,rfl,hh⟩
       have hd5:=(HDr.out.stay HBe.out).stay hb'
       have hd6:=hd5.of_block (s5 w.heap.size (.inl (.inr rfl)))
       have ho6:=(HOb.out.stay hb').of_block (s5 wr.heap.size (.inr rfl))
       refine ⟨HSo.out w' (by have:=hfx 1 (by omega);simpa using this) hd6 ho6,er,rfl,⟨s2,s3,s4,s1,fun b hb=>s5 b (.inl (.inl hb))⟩,hd6,?_⟩
       rcases hh with hh | ⟨h1,h2,h3⟩
       ·exact .inl hh
       ·exact .inr ⟨h1,h2,h3.imp fun b hb=>.inl hb⟩
      clear hM hl hU HDr Ha HR HOb HM1 ho
      go_wp2_with fail
      go_region_held3 (fun wx=>(wx.cell? ⟨c,1,none⟩=some (.slice PA 1 pc)∧wx.cell? ⟨w.heap.size,0,none⟩=some (.int .i64 (kindOf doc))∧wx.cell? ⟨w.heap.size,1,none⟩=some (.int .i64 (nOf doc))∧wx.cell? ⟨w.heap.size,2,none⟩=some (.string (sOf doc))∧wx.cell? ⟨w.heap.size,3,none⟩=some (.slice La (nL doc) Lc)∧wx.cell? ⟨w.heap.size,4,none⟩=some (.slice Ka (nK doc) Kc)∧wx.cell? ⟨wr.heap.size,0,none⟩=some (.int .i64 (kindOf o))∧wx.cell? ⟨wr.heap.size,1,none⟩=some (.int .i64 (nOf o))∧wx.cell? ⟨wr.heap.size,2,none⟩=some (.string (sOf o))∧wx.cell? ⟨wr.heap.size,3,none⟩=some (.slice EA (nL o) EB)∧wx.cell? ⟨wr.heap.size,4,none⟩=some (.slice EC (nK o) ED))) (first | exact hc9 | exact hc5 | exact HSd.out) (first | (go_at_call 232;refine HPc.out.mono ?_;rintro e5 w5 ⟨hb5,RA,Rc,rfl,hat5⟩;have hc5:=Hc1.out _ ((below_drew _).trans hb5)) | (go_at_call 227;refine (HEc.out w5 RA Rc hb5 hat5).mono ?_;rintro e9 w9 ⟨hc9,er9,rfl,h9⟩))
      have HB9:=hid (((HBr.out.trans (HBe.out.mono Hb0r.out.size)).trans (((below_drew _).trans hb5).mono (Nat.le_trans Hb0r.out.size HBe.out.size))).trans h9.out.1)
      have HD9:=hid h9.out.2.1
      have h10:=h9.out.2.2
      clear hc5 hc9 hat5 hb5 h9 HSd Hc1 HSo HPc HEc Hbe0 p0 p1 p2 p3 p4
      rcases h10 with ⟨hbig,rfl⟩ | ⟨hbig,rfl,hM9⟩
      ·have Hret:Hid (WkPost (unwE y) made (MkI w0 c (fun o=>if o=1 then some (.slice PA 1 pc) else none)) doc w0 w (.returned (.int .i64 15)) w9):=⟨HB9.out,.inl ⟨15,by rw [HU0.out,HU.out,Hdr.out,unwL,hbig];rfl,by decide,rfl⟩⟩
       clear hbig
       go_wp2_with fail
       go_ret
       exact Hret.out
      ·have HM9:=hid hM9
       obtain ⟨mv,hmv,MA,mc,hms⟩:∃ mv,w9.cell? ⟨c,0,none⟩=some mv∧∃ MA mc,mv=.slice MA (l.length+1) mc:=by
        obtain ⟨v,xs,R,g1,_⟩:=hM9
        obtain ⟨MA,mc,hv⟩:=own_shape g1.row
        exact ⟨v,g1.cell,MA,mc,by rw [hv,List.length_append];rfl⟩
       subst hms
       clear hM9
       by_cases hfull:200<l.length+1
       ·have hfi:(200:Int)<((l.length+1:Nat):Int):=by omega
        have Hret:Hid (WkPost (unwE y) made (MkI w0 c (fun o=>if o=1 then some (.slice PA 1 pc) else none)) doc w0 w (.returned (.int .i64 12)) w9):=⟨HB9.out,.inl ⟨12,by rw [HU0.out,HU.out,Hdr.out,unwL,hbig,if_neg (by decide),if_pos hfull],by decide,rfl⟩⟩
        clear hbig hfull hl' HM9
        generalize l.length+1=ll at hmv hfi
        go_wp2_with fail
        go_ret
        exact Hret.out
       ·have hfi:¬ (200:Int)<((l.length+1:Nat):Int):=by omega
        have HN:Hid (∃ l',MkP (fun b=>b<w0.heap.size∨b=w.heap.size) c (fun o=>if o=1 then some (.slice PA 1 pc) else none) l' w9∧l'.length≤200∧unwL doc k (lOf t) made=unwL doc k ((lOf t).drop (j+1)) l'):=⟨l++[putT doc k o],HM9.out,by rw [List.length_append];simp;omega,by rw [HU.out,Hdr.out,unwL,hbig,if_neg (by decide),if_neg hfull]⟩
        clear hbig hfull hl' HM9
        generalize l.length+1=ll at hmv hfi
        go_wp2_with fail
        go_roundg (nL t - (j+1))
        case rel=>exact ⟨j+1,rfl,by omega,by go_num,HN,HB9,HD9⟩
        case measure=>omega
     ·obtain rfl:j=nL t:=by omega
      obtain ⟨l,hM,hl,hU⟩:=HR.out
      have Hret:Hid (WkPost (unwE y) made (MkI w0 c (fun o=>if o=1 then some (.slice PA 1 pc) else none)) doc w0 w (.returned (.int .i64 0)) wr):=⟨HBr.out,.inr ⟨l,by
       rw [HU0.out,hU,List.drop_of_length_le (by exact Nat.le_refl _)]
       rfl,rfl,hM.weak fun b hb=>.inl hb⟩⟩
      clear hM hl hU
      go_wp2_with fail
      go_ret
      exact Hret.out
   ·have e5:(kindOf t==5)=false:=by simpa using k5
    have Hret:Hid (WkPost (unwE y) made (MkI w0 c (fun o=>if o=1 then some (.slice PA 1 pc) else none)) doc w0 w (.returned (.int .i64 13)) wc):=⟨HF.out.1.mono Hw0.out,.inl ⟨13,unw_no h1 he k5,by decide,rfl⟩⟩
    clear h1 he h4 h5 HG HC HIw HI1 HX HBx HD HB0 Hm HPut HEm Hlw Hp Hpc HT k5
    go_wp2_with fail
    go_ret
    exact Hret.out
end Go.Proofs.YtknakfpciccoaabGreatDoor
/- Expressions are read: what a reader's answer says, wherever what is older is kept; OnlyEntry; the leaves. -/
namespace Go.Proofs.YtknakfpciccoaabGreatDoor
open Go.RowKit
theorem get_lt {w w':World} {b:Nat} (h:b<w.heap.size) (e:w'.heap[b]?=w.heap[b]?):b<w'.heap.size:=by
 rw [Array.getElem?_eq_getElem h] at e
 exact (Array.getElem?_eq_some_iff.1 e).1
def Sat (wB w:World) (X:Nat→Prop) (P:World→Prop):Prop:=∃ Y:Nat→Prop,(∀ b,Y b→X b∧b<w.heap.size)∧∀ w':World,Below wB.heap.size wB w'→(∀ b,Y b→w'.heap[b]?=w.heap[b]?)→P w'
theorem Sat.move {wB w w1:World} {X X1:Nat→Prop} {P:World→Prop} (h:Sat wB w X P) (hb:∀ b,X b→w1.heap[b]?=w.heap[b]?∧X1 b):Sat wB w1 X1 P:=by
 obtain ⟨Y,h1,h2⟩:=h
 exact ⟨Y,fun b hy=>⟨(hb b (h1 b hy).1).2,get_lt (h1 b hy).2 (hb b (h1 b hy).1).1⟩,fun w' hw hy=>h2 w' hw fun b hb'=>(hy b hb').trans (hb b (h1 b hb').1).1⟩
theorem Sat.mono {wB w:World} {X:Nat→Prop} {P Q:World→Prop} (h:Sat wB w X P) (hPQ:∀ w':World,Below wB.heap.size wB w'→P w'→Q w'):Sat wB w X Q:=by
 obtain ⟨Y,h1,h2⟩:=h
 exact ⟨Y,h1,fun w' hw hy=>hPQ w' hw (h2 w' hw hy)⟩
theorem Sat.and {wB w:World} {X:Nat→Prop} {P Q:World→Prop} (h:Sat wB w X P) (h':Sat wB w X Q):Sat wB w X (fun x=>P x∧Q x):=by
 obtain ⟨Y,h1,h2⟩:=h
 obtain ⟨Z,h3,h4⟩:=h'
 exact ⟨fun b=>Y b∨Z b,fun b hb=>hb.elim (h1 b) (h3 b),fun w' hw hy=>⟨h2 w' hw fun b hb=>hy b (.inl hb),h4 w' hw fun b hb=>hy b (.inr hb)⟩⟩
theorem Sat.at {wB w:World} {X:Nat→Prop} {P:World→Prop} (h:Sat wB w X P) (hb:Below wB.heap.size wB w):P w:=by
 obtain ⟨Y,h1,h2⟩:=h
 exact h2 w hb fun _ _=>rfl
theorem Sat.all {wB w:World} {X:Nat→Prop} {P:World→Prop} (h:∀ w':World,Below wB.heap.size wB w'→P w'):Sat wB w X P:=⟨fun _=>False,fun _ hb=>hb.elim,fun w' hw _=>h w' hw⟩
theorem Sat.later {wB w0 wa w1 w2:World} {P:World→Prop} (h:Sat wB w1 (newB w0 w1) P) (hb:Below w1.heap.size w1 w2) (hs:wa.heap.size≤w0.heap.size):Sat wB w2 (newB wa w2) P :=
 h.move fun b hx=>⟨hb.block b hx.2,Nat.le_trans hs hx.1,Nat.lt_of_lt_of_le hx.2 hb.size⟩
def XpPost (Tb:World→Prop) (wB:World) (g:T→Int⊕T) (w:World) (e:Ending) (w':World):Prop :=
 Below w.heap.size w w'∧∃ ty p,e=.returned (.iface ty p)∧Sat wB w' (newB w w') (fun x=>ExprOk Tb x (.iface ty p) g)
def PxSaid (Tb:World→Prop) (t:T) (g:T→Int⊕T):Prop:=∀ (v:Value) (wB w:World),At wB 13 v t→okA t→Below wB.heap.size wB w→Tb w→Calls Tryz.prog 177 #[v] w (XpPost Tb wB g w)
set_option maxHeartbeats 4000000 in
set_option maxRecDepth 100000 in
theorem needE_any (w:World):Calls Tryz.prog 187 #[.bool true] w fun e w'=>w'=w∧e=.returned (.tuple #[]):=by
 have HC:=hid (unless_any true 9 w)
 simp only [if_true] at HC
 go_enter Tryz.func187,Tryz.ntmps187
 go_wp2_with fail
 refine HC.out.mono ?_
 rintro e w2 ⟨rfl,rfl⟩
 go_wp2_with fail
 refine bodyPost_end (v:=.tuple #[]) (by simp [results,Tryz.results187,go_sem]) rfl ?_
 exact ⟨rfl,rfl⟩
set_option maxHeartbeats 4000000 in
set_option maxRecDepth 100000 in
theorem needP_any (w:World):Calls Tryz.prog 93 #[.bool true] w fun e w'=>w'=w∧e=.returned (.tuple #[]):=by
 have HC:=hid (unless_any true 9 w)
 simp only [if_true] at HC
 go_enter Tryz.func93,Tryz.ntmps93
 go_wp2_with fail
 refine HC.out.mono ?_
 rintro e w2 ⟨rfl,rfl⟩
 go_wp2_with fail
 refine bodyPost_end (v:=.tuple #[]) (by simp [results,Tryz.results93,go_sem]) rfl ?_
 exact ⟨rfl,rfl⟩
set_option maxHeartbeats 4000000 in
set_option maxRecDepth 100000 in
theorem only_any (t j:T) (hj:elt t 0=j) (v:Value) (w0 w:World) (h:At w0 13 v t) (hk:okA t) (k6:kindOf t=6) (k1:nK t=1) (hb0:Below w0.heap.size w0 w) :
  Calls Tryz.prog 147 #[v] w fun e w'=>Below w.heap.size w w'∧∃ A B C D,e=.returned (.tuple #[.string (nam t 0),.agg #[.int .i64 (kindOf j),.int .i64 (nOf j),.string (sOf j),.slice A (nL j) B,.slice C (nK j) D],.bool true])∧At w0 13 (.agg #[.int .i64 (kindOf j),.int .i64 (nOf j),.string (sOf j),.slice A (nL j) B,.slice C (nK j) D]) j:=by
 obtain ⟨g1,La,Ka,Lc,Kc,hg1,rfl,hfj,hel,hnm⟩:=h.open
 have l1:nL t=1:=by have:=hk.names k6;omega
 have HB1:Hid (Below w.heap.size w ((w.alloc (.cells #[.int .i64 (kindOf t),.int .i64 (nOf t),.string (sOf t),.slice La (nL t) Lc,.slice Ka (nK t) Kc] 36)).alloc (.cells #[.int .i64 0,.int .i64 0,.string ⟨#[]⟩,.slice none 0 0,.slice none 0 0] 36))):=((Below.refl _ _).alloc (Nat.le_refl _) _).alloc (by simp) _
 obtain ⟨kb,ko,rfl,hkb,hks,hkc⟩:=hnm.out.keep (hb0.trans (HB1.out.drew.mono hb0.size)) 0 (by omega)
 obtain ⟨bb,oo,A,B,C,D,rfl,hbl,p0,p1,p2,p3,p4,Ha⟩:=hel.out.shape (hb0.trans (HB1.out.drew.mono hb0.size)) 0 (by omega)
 simp only [Nat.add_zero,Nat.zero_mul] at hkc p0 p1 p2 p3 p4
 rw [hj] at p0 p1 p2 p3 p4 Ha
 have HAt:=hid (Ha.out.up (show g1≤13 by omega))
 rw [k6,k1,l1] at *
 clear h hk hel hnm hfj Ha hb0 hg1 hks hkb hbl
 go_enter Tryz.func147,Tryz.ntmps147
 go_wp2_with fail
 go_region_law (fail)
 all_goals
  go_wp2_with fail
  refine bodyPost_ret (v:=.tuple #[.string (nam t 0),.agg #[.int .i64 (kindOf j),.int .i64 (nOf j),.string (sOf j),.slice A (nL j) B,.slice C (nK j) D],.bool true]) (by simp [results,Tryz.results147,go_sem, *]) rfl ?_
  have hb:Below w.heap.size w (((w.alloc (.cells #[.int .i64 6,.int .i64 (nOf t),.string (sOf t),.slice (some ⟨bb,oo,none⟩) 1 Lc,.slice (some ⟨kb,ko,none⟩) 1 Kc] 36)).alloc (.cells #[.int .i64 (kindOf j),.int .i64 (nOf j),.string (sOf j),.slice A (nL j) B,.slice C (nK j) D] 36)).drew):=(((Below.refl _ _).alloc (Nat.le_refl _) _).alloc (by simp) _).drew
  exact ⟨hb,A,B,C,D,rfl,HAt.out⟩
end Go.Proofs.YtknakfpciccoaabGreatDoor
/- Expressions are read: texts, values themselves; expr.Parse. -/
namespace Go.Proofs.YtknakfpciccoaabGreatDoor
open Go.RowKit
set_option maxHeartbeats 4000000 in
set_option maxRecDepth 100000 in
theorem ptext_found {Tb:World→Prop} (hA:AtoiSaid Tb) (hI:ItoaSaid Tb) (hSp:SplitSaid Tb) (hL:Lies Tb) (t:T) (x:ByteArray) (v:Value) (wB w:World) (ha:At wB 13 v t) (hop:isOp (sOf t)=true) (hx:(sOf t).extract 1 (sOf t).size=x) (h1:1≤(sOf t).size) (h2:(sOf t).size≤1048576) (hp:pathOk x=true) (hT:Tb w):Calls Tryz.prog 186 #[v] w (XpPost Tb wB (fun d=>.inr (orNull (splitP x) d)) w):=by
 obtain ⟨g1,La,Ka,Lc,Kc,hg1,rfl,_,_,_⟩:=ha.open
 have HB1:Hid (Below w.heap.size w (w.alloc (.cells #[.int .i64 (kindOf t),.int .i64 (nOf t),.string (sOf t),.slice La (nL t) Lc,.slice Ka (nK t) Kc] 36))):=(Below.refl _ _).alloc (Nat.le_refl _) _
 have hxs:x.size≤1048576:=by rw [← hx,ByteArray.size_extract];omega
 have HP:=hid (pathParse_any hSp x _ hxs (hL w hT _ _ hT HB1.out))
 have HF:Hid (∀ (pv:Value) (w1 w':World),StrsB w1 (newB w w1) pv (splitP x)→Sat wB w1 (newB w w1) (fun y=>ExprOk Tb y (.iface 266 (.agg #[pv])) (fun d=>.inr (orNull (splitP x) d)))):=fun pv w1 w' hs=>⟨newB w w1,fun b hb=>⟨hb,hb.2⟩,fun w2 hw hy=>found_ok hA hI hL ((hs.move (X':=fun b=>b<w2.heap.size) fun b hb=>⟨hy b hb,get_lt hb.2 (hy b hb)⟩).at fun b hb=>hb)⟩
 have HC:=hid (isOperator_any (sOf t))
 rw [hop] at HC
 have h1i:(1:Int)≤((sOf t).size:Int):=by omega
 clear ha hop hg1 hT hA hI hSp hL
 go_enter Tryz.func186,Tryz.ntmps186
 go_wp2_with fail
 refine (HC.out _).mono ?_
 rintro e w2 ⟨rfl,rfl⟩
 go_wp2_with fail
 refine HP.out.mono ?_
 rintro e w3 ⟨b3,⟨_,pv,rfl,hs⟩ | ⟨h,_⟩⟩
 ·have HB3:=hid (HB1.out.trans (b3.mono HB1.out.size))
  have HSt:=hid (HF.out pv w3 w3 (hs.move fun b hb=>⟨rfl,by have:=hb.1;simp at this;omega,hb.2⟩))
  obtain ⟨PA,pc,hpv,hz1,hz2⟩:=hs
  subst hpv
  clear b3 HP HF hz1 hz2
  go_wp2_with fail
  refine (needE_any _).mono ?_
  rintro e w4 ⟨rfl,rfl⟩
  go_wp2_with fail
  go_ret
  exact ⟨HB3.out,_,_,rfl,HSt.out⟩
 ·rw [hp] at h;cases h
set_option maxHeartbeats 4000000 in
set_option maxRecDepth 100000 in
theorem pexpr_text {Tb:World→Prop} (hL:Lies Tb) (t:T) (g:T→Int⊕T) (k4:kindOf t=4) (h:∀ (v:Value) (wB w:World),At wB 13 v t→okA t→Below wB.heap.size wB w→Tb w→Calls Tryz.prog 186 #[v] w (XpPost Tb wB g w)):PxSaid Tb t g:=by
 intro v wB w ha hk hb0 hT
 obtain ⟨g1,La,Ka,Lc,Kc,hg1,rfl,_,_,_⟩:=ha.open
 have HB1:Hid (Below w.heap.size w (w.alloc (.cells #[.int .i64 (kindOf t),.int .i64 (nOf t),.string (sOf t),.slice La (nL t) Lc,.slice Ka (nK t) Kc] 36))):=(Below.refl _ _).alloc (Nat.le_refl _) _
 have HC:=hid (h _ wB _ ha hk (hb0.trans (HB1.out.mono hb0.size)) (hL w hT _ _ hT HB1.out))
 rw [k4] at HB1 HC ⊢
 clear ha hk hg1 hb0 hT h hL k4
 go_enter Tryz.func177,Tryz.ntmps177
 go_wp2_with fail
 refine HC.out.mono ?_
 rintro e w2 ⟨b2,ty,p,rfl,hs⟩
 have HB2:=hid (HB1.out.trans (b2.mono HB1.out.size))
 have HS:=hid (hs.later (wa:=w) (Below.refl _ _) (by simp))
 clear b2 hs HC
 go_wp2_with fail
 go_ret
 exact ⟨HB2.out,_,_,rfl,HS.out⟩
end Go.Proofs.YtknakfpciccoaabGreatDoor
