import Derived.Test.YtknakfpciccoaabGreatDoorZS22
import Derived.Test.YtknakfpciccoaabGreatDoorZS12
/- making.each: a work for each document. -/
namespace Go.Proofs.YtknakfpciccoaabGreatDoor
open Go.RowKit
def eachE {σ:Type} (st:σ→T→Int⊕σ):List T→Nat→σ→(Nat×Int)⊕σ
 | [],_,s=>.inr s
 | d::r,k,s=>match st s d with
  | .inl x=>.inl (k,x)
  | .inr s'=>eachE st r (k+1) s'
theorem eachE_err {σ:Type} (st:σ→T→Int⊕σ):∀ (l:List T) (d:T) (r:List T) (k:Nat) (s s':σ) (x:Int),eachE st l k s=.inr s'→st s' d=.inl x→eachE st (l++d::r) k s=.inl (k+l.length,x)
 | [],d,r,k,s,s',x,h,hx=>by
  simp only [eachE,Sum.inr.injEq] at h
  subst h
  simp [eachE,hx]
 | a::l,d,r,k,s,s',x,h,hx=>by
  simp only [eachE,List.cons_append] at h ⊢
  cases ha:st s a with
  | inl y=>rw [ha] at h;cases h
  | inr u =>
   rw [ha] at h
   have:=eachE_err st l d r (k+1) u s' x h hx
   simp only [this,List.length_cons]
   congr 2
   omega
theorem eachE_snoc {σ:Type} (st:σ→T→Int⊕σ):∀ (l:List T) (d:T) (k:Nat) (s s' s2:σ),eachE st l k s=.inr s'→st s' d=.inr s2→eachE st (l++[d]) k s=.inr s2
 | [],d,k,s,s',s2,h,hx=>by
  simp only [eachE,Sum.inr.injEq] at h
  subst h
  simp [eachE,hx]
 | a::l,d,k,s,s',s2,h,hx=>by
  simp only [eachE,List.cons_append] at h ⊢
  cases ha:st s a with
  | inl y=>rw [ha] at h;cases h
  | inr u =>
   rw [ha] at h
   exact eachE_snoc st l d (k+1) u s' s2 h hx
def DocsAt (w:World) (v:Value) (l:List T):Prop:=∃ La Lc,v=.slice La l.length Lc∧l.length≤1000000∧l.length≤Lc∧Lc≤9223372036854775807∧ElemsAt w 13 La (mkT 5 0 ByteArray.empty l [])∧∀ i,(h:i<l.length)→okA l[i]
theorem DocsAt.keep {w w':World} {v:Value} {l:List T} (h:DocsAt w v l) (hb:Below w.heap.size w w'):DocsAt w' v l:=by
 obtain ⟨La,Lc,h1,h2,h3,h4,h5,h6⟩:=h
 exact ⟨La,Lc,h1,h2,h3,h4,h5.keep hb,h6⟩
theorem elt_docs (l:List T) {k:Nat} (h:k<l.length):elt (mkT 5 0 ByteArray.empty l []) k=l[k]:=by rw [elt_mk,List.getD_eq_getElem?_getD,List.getElem?_eq_getElem h];rfl
def EaPost {σ:Type} (st:σ→T→Int⊕σ) (s:σ) (I:σ→World→Prop) (c:Nat) (l:List T) (w0 w:World) (e:Ending) (w':World):Prop :=
 Below w0.heap.size w w'∧((∃ (k:Nat) (x:Int),eachE st l 0 s=.inl (k,x)∧x≠0∧e=.returned (.tuple #[.slice none 0 0,.int .i64 k,.int .i64 x]))∨∃ s' v,eachE st l 0 s=.inr s'∧I s' w'∧w'.cell? ⟨c,0,none⟩=some v∧e=.returned (.tuple #[v,.int .i64 0,.int .i64 0]))
def WkPost {σ:Type} (st:σ→T→Int⊕σ) (s:σ) (I:σ→World→Prop) (d:T) (w0 w:World) (e:Ending) (w':World):Prop :=
 Below w0.heap.size w w'∧((∃ x,st s d=.inl x∧x≠0∧e=.returned (.int .i64 x))∨∃ s',st s d=.inr s'∧e=.returned (.int .i64 0)∧I s' w')
set_option maxHeartbeats 4000000 in
set_option maxRecDepth 100000 in
theorem each_any {σ:Type} (st:σ→T→Int⊕σ) (I:Nat→σ→World→Prop) (gid:FuncId) (hgid:∀ (a:Array Value) (w:World),(callFunc gid a).run Tryz.prog w=.ok (.enter gid a) w) (pv:Value) (c:Nat) (dv:Value) (l:List T) (s:σ) (w0 w:World) (hb0:Below w0.heap.size w0 w) (hd:DocsAt w0 dv l) (hI:I 0 s w)
  (hIk:∀ k s w w',I k s w→Below w.heap.size w w'→I k s w') (hIc:∀ k s w,I k s w→∃ v,w.cell? ⟨c,0,none⟩=some v)
  (hst:∀ k s d v wr,k<l.length→I k s wr→Below w0.heap.size w0 wr→At w0 13 v d→okA d→Calls Tryz.prog gid #[pv,v] wr (WkPost st s (I (k+1)) d w0 wr)) :
  Calls Tryz.prog 225 #[.pointer (some ⟨c,0,none⟩),dv,.func (Fn.func gid) #[pv] #[]] w (EaPost st s (I l.length) c l w0 w):=by
 obtain ⟨La,Lc,rfl,hn,_,_,hel,hok⟩:=hd
 have Hel:=hid hel
 have HOk:=hid hok
 have HB0:=hid hb0
 have HI:=hid hI
 have HIk:=hid hIk
 have HIc:=hid hIc
 have HSt:=hid hst
 clear hel hok hb0 hI hIk hIc hst
 obtain ⟨n,hln⟩:∃ n,l.length=n:=⟨_,rfl⟩
 have Hln:=hid hln
 rw [hln] at hn ⊢
 clear hln
 go_enter Tryz.func225,Tryz.ntmps225
 go_wp2_with fail
 go_loopg [14] n (fun g i wr=>∃ (k:Nat) (s':σ),g=n - k∧k≤n∧i=.int .i64 k∧Hid (Below w0.heap.size w wr)∧Hid (I k s' wr)∧Hid (eachE st (l.take k) 0 s=.inr s'))
 case atStart=>exact ⟨0,s,rfl,Nat.zero_le _,rfl,Below.refl _ _,HI,rfl⟩
 case round =>
  obtain ⟨k,s',rfl,hk,rfl,HB,HS,HE⟩:=hrel
  have Hbw0:=hid (HB0.out.trans HB.out)
  by_cases hlt:k<n
  ·have hkl:k<l.length:=by rw [Hln.out];exact hlt
   obtain ⟨bb,oo,A,B,C,D,rfl,hbl,p0,p1,p2,p3,p4,Ha⟩:=Hel.out.shape Hbw0.out k (by rw [nL_mk];exact hkl)
   rw [elt_docs l hkl] at p0 p1 p2 p3 p4 Ha
   have HG:Hid (l.take (k+1)=l.take k++[l[k]]):=by show _=_;rw [List.take_add_one,List.getElem?_eq_getElem hkl];rfl
   have HG2:Hid (l=l.take k++l[k]::l.drop (k+1)):=by show _=_;rw [← List.drop_eq_getElem_cons hkl,List.take_append_drop]
   have HGl:Hid ((l.take k).length=k):=by show _=_;rw [List.length_take];omega
   have HK:=hid (HOk.out k hkl)
   generalize l[k]=d at p0 p1 p2 p3 p4 Ha HG HG2 HK
   have HBi:Hid (Below wr.heap.size wr (wr.alloc (.cells #[.int .i64 (kindOf d),.int .i64 (nOf d),.string (sOf d),.slice A (nL d) B,.slice C (nK d) D] 36))):=(Below.refl _ _).alloc (Nat.le_refl _) _
   have HB2:=hid (Hbw0.out.trans (HBi.out.mono Hbw0.out.size))
   have HC:=hid (HSt.out k s' d _ _ hkl (HIk.out _ _ _ _ HS.out HBi.out) HB2.out Ha.out HK.out)
   go_wp2_with fail
   refine HC.out.mono ?_
   rintro e w2 ⟨b2,⟨x,hx,hne,rfl⟩ | ⟨s2,hx,rfl,hI2⟩⟩
   ·have ez:(x==0)=false:=by simpa using hne
    have HF:Hid (eachE st l 0 s=.inl (k,x)∧x≠0):=⟨by have:=eachE_err st _ _ (l.drop (k+1)) 0 s s' x HE.out hx;rw [← HG2.out,HGl.out,Nat.zero_add] at this;exact this,hne⟩
    have HBf:=hid ((HB.out.trans (HBi.out.mono Hbw0.out.size)).trans b2)
    clear b2 hx hne HC
    go_wp2_with fail
    refine bodyPost_ret (v:=.tuple #[.slice none 0 0,.int .i64 (k:Nat),.int .i64 x]) (by simp [results,Tryz.results225,go_sem, *]) rfl ?_
    exact ⟨HBf.out,.inl ⟨k,x,HF.out.1,HF.out.2,rfl⟩⟩
   ·have HE2:Hid (eachE st (l.take (k+1)) 0 s=.inr s2):=by show _=_;rw [HG.out];exact eachE_snoc st _ _ 0 s s' s2 HE.out hx
    have HBf:=hid ((HB.out.trans (HBi.out.mono Hbw0.out.size)).trans b2)
    have HI2:=hid hI2
    clear b2 hx HC hI2
    go_wp2_with fail
    go_roundg (n - (k+1))
    case rel=>exact ⟨k+1,s2,rfl,by omega,by go_num,HBf,HI2,HE2⟩
    case measure=>omega
  ·obtain rfl:k=n:=by omega
   have HF:Hid (eachE st l 0 s=.inr s'):=by
    have h1:=HE.out
    rw [← Hln.out,List.take_length] at h1
    exact h1
   obtain ⟨v,hv⟩:=HIc.out _ s' wr HS.out
   go_wp2_with fail
   refine bodyPost_ret (v:=.tuple #[v,.int .i64 0,.int .i64 0]) (by simp [results,Tryz.results225,go_sem, *]) rfl ?_
   exact ⟨HB.out,.inr ⟨s',v,HF.out,HS.out,hv,rfl⟩⟩
end Go.Proofs.YtknakfpciccoaabGreatDoor
/- What a stage makes: its documents lie where they are no longer written. -/
namespace Go.Proofs.YtknakfpciccoaabGreatDoor
open Go.RowKit
theorem AtP.fit {p:Nat→Prop} {w:World}:∀ {m f:Nat} {v:Value} {t:T},AtP p w f v t→Good m t→AtP p w (m+1) v t:=by
 intro m
 induction m with
 | zero =>
  intro f v t h hg
  have hl:leafGood t:=hg
  cases f with
  | zero=>exact h.elim
  | succ f =>
   obtain ⟨La,Ka,Lc,Kc,rfl,hf,_,_⟩:=h
   exact ⟨La,Ka,Lc,Kc,rfl,hf,fun i hi=>by rw [hl.1] at hi;omega,fun i hi=>by rw [hl.2.1] at hi;omega⟩
 | succ m ih =>
  intro f v t h hg
  cases f with
  | zero=>exact h.elim
  | succ f =>
   obtain ⟨La,Ka,Lc,Kc,rfl,hf,he,hk⟩:=h
   refine ⟨La,Ka,Lc,Kc,rfl,hf,fun i hi=>?_,hk⟩
   obtain ⟨b,o,c0,c1,c2,c3,c4,h0,hb,q0,q1,q2,q3,q4,ha⟩:=he i hi
   refine ⟨b,o,c0,c1,c2,c3,c4,h0,hb,q0,q1,q2,q3,q4,ih ha ?_⟩
   rcases hg with hl | ⟨_,_,hge,_⟩
   ·have:=hl.1;omega
   ·exact hge i hi
theorem small_good {t:T} (h:tooBig t=false):Good 12 t∧okA t:=by
 unfold tooBig at h
 rw [Bool.or_eq_false_iff] at h
 have h1:isV t=true:=by simpa using h.1
 have h2:=(isV_iff t).1 h1
 exact ⟨h2.1,good_okA h2.1 (by have:=h2.2;omega)⟩
def MkI (w0:World) (c:Nat) (fx:Nat→Option Value) (l:List T) (w:World):Prop :=
 ∃ v xs,∃ R:Nat→Prop,Mk w c v l.length xs∧(∀ b,b<w0.heap.size→R b)∧(∀ b,R b→b<w.heap.size∧b≠c∧v.ownBlock≠some b)∧(∀ i,(h:i<l.length)→AtP R w 13 (fv xs i) l[i]∧okA l[i])∧∀ o,o≠0→w.cell? ⟨c,o,none⟩=fx o
theorem MkI.keep {w0:World} {c:Nat} {fx:Nat→Option Value} {l:List T} {w w':World} (h:MkI w0 c fx l w) (hb:Below w.heap.size w w'):MkI w0 c fx l w':=by
 obtain ⟨v,xs,R,h1,h2,h3,h4,h5⟩:=h
 exact ⟨v,xs,R,h1.keep hb,h2,fun b hr=>⟨Nat.lt_of_lt_of_le (h3 b hr).1 hb.size,(h3 b hr).2⟩,fun i hi=>⟨(h4 i hi).1.move hb.size fun b hbl hr=>⟨hr,hb.block b hbl⟩,(h4 i hi).2⟩,fun o ho=>(hb.cell (p:=⟨c,o,none⟩) h1.low).trans (h5 o ho)⟩
theorem MkI.cell {w0:World} {c:Nat} {fx:Nat→Option Value} {l:List T} {w:World} (h:MkI w0 c fx l w):∃ v,w.cell? ⟨c,0,none⟩=some v:=by
 obtain ⟨v,xs,R,h1,_⟩:=h
 exact ⟨v,h1.cell⟩
theorem MkI.lo {w0:World} {c:Nat} {fx:Nat→Option Value} {l:List T} {w:World} (h:MkI w0 c fx l w):w0.heap.size≤c∧c<w.heap.size:=by
 obtain ⟨v,xs,R,h1,h2,h3,_⟩:=h
 refine ⟨Nat.le_of_not_lt fun h=>?_,h1.low⟩
 exact (h3 c (h2 c h)).2.1 rfl
theorem emit_mk {Tb:World→Prop} (hV:ValidSaid Tb) (hL:Lies Tb) (w0 w1 w2:World) (c f:Nat) (fx:Nat→Option Value) (l:List T) (t:T) (A C:Option Addr) (B D:Nat) (h:MkI w0 c fx l w1) (hb:Below w1.heap.size w1 w2) (hn:l.length≤1000000) (ha:AtP (fun b=>b<w0.heap.size∨w1.heap.size≤b) w2 f (.agg #[.int .i64 (kindOf t),.int .i64 (nOf t),.string (sOf t),.slice A (nL t) B,.slice C (nK t) D]) t) (hT:Tb w2) :
  Calls Tryz.prog 227 #[.pointer (some ⟨c,0,none⟩),.agg #[.int .i64 (kindOf t),.int .i64 (nOf t),.string (sOf t),.slice A (nL t) B,.slice C (nK t) D]] w2 fun e w'=>Below w0.heap.size w2 w'∧(∀ o,o≠0→w'.cell? ⟨c,o,none⟩=fx o)∧∃ er:Int,e=.returned (.int .i64 er)∧((tooBig t=true∧er=15)∨(tooBig t=false∧er=0∧MkI w0 c fx (l++[t]) w')):=by
 have hlo:=h.lo
 obtain ⟨v,xs,R,h1,h2,h3,h4,h5⟩:=h
 have hob:∀ b,v.ownBlock=some b→w0.heap.size≤b∧b<w1.heap.size:=fun b e=>⟨Nat.le_of_not_lt fun hh=>(h3 b (h2 b hh)).2.2 e,(h1.row.lt b e).2⟩
 have s1:=hb.size
 refine (emit_any hV hL c f t v l.length xs A C B D w2 (h1.keep hb) hn ha.at hT).mono ?_
 rintro e w' (⟨b2,hbig,rfl⟩ | ⟨hB,hbig,rfl,hoff,g,cap,q0,f0,hg,hO⟩)
 ·exact ⟨b2.mono (by omega),fun o ho=>by rw [b2.cell (p:=⟨c,o,none⟩) (by show c<_;omega),hb.cell (p:=⟨c,o,none⟩) h1.low];exact h5 o ho,15,rfl,.inl ⟨hbig,rfl⟩⟩
 ·obtain ⟨hgood,hok⟩:=small_good hbig
  have s2:=hB.size
  have hgl:g<w'.heap.size:=(hO.lt g rfl).2
  have hx:xs.length=l.length*5:=h1.row.1
  have hgc:g≠c:=by
   rcases hg with hg | hg
   ·exact fun e=>h1.apart (by rw [hg,e])
   ·omega
  have old:∀ b,b<w2.heap.size→b≠c→v.ownBlock≠some b→w'.heap[b]?=w2.heap[b]?:=fun b h1 h2 h3=>hB.block b h1 h2 (fun e=>h3 e.symm)
  refine ⟨⟨hB.os,hB.tape,hB.output,hB.size,fun b hb'=>old b (by omega) (by omega) (fun e=>by have:=(hob b e).1;omega)⟩,(fun o ho=>by rw [hoff o ho,hb.cell (p:=⟨c,o,none⟩) h1.low];exact h5 o ho),0,rfl,.inr ⟨hbig,rfl,_,xs++[.int .i64 (kindOf t),.int .i64 (nOf t),.string (sOf t),.slice A (nL t) B,.slice C (nK t) D],(fun b=>b<w0.heap.size∨R b∨(w1.heap.size≤b∧b<w2.heap.size)),⟨q0,f0,by omega,?_,?_⟩,fun b hb'=>.inl hb',?_,?_,?_⟩⟩
  ·rw [List.length_append];exact hO
  ·simpa [Value.ownBlock] using hgc
  ·intro b hr
   have hne:∀ (h:b<w2.heap.size),(b<w1.heap.size→v.ownBlock≠some b)→b≠g:=fun h hv e=>by
    subst e
    rcases hg with hg | hg
    ·exact hv (hob b hg).2 hg
    ·omega
   rcases hr with hr | hr | hr
   ·exact ⟨by omega,by omega,by simpa [Value.ownBlock] using (hne (by omega) (fun _=>(h3 b (h2 b hr)).2.2)).symm⟩
   ·have:=h3 b hr
    exact ⟨by omega,this.2.1,by simpa [Value.ownBlock] using (hne (by omega) (fun _=>this.2.2)).symm⟩
   ·exact ⟨by omega,by omega,by simpa [Value.ownBlock] using (hne hr.2 (fun h=>by omega)).symm⟩
  ·intro i hi
   rw [List.length_append,List.length_cons,List.length_nil] at hi
   by_cases e:i<l.length
   ·rw [fv_first hx e,List.getElem_append_left e]
    refine ⟨(h4 i e).1.move (by omega) fun b hbl hr=>⟨.inr (.inl hr),(old b (by omega) (h3 b hr).2.1 (h3 b hr).2.2).trans (hb.block b hbl)⟩,(h4 i e).2⟩
   ·obtain rfl:i=l.length:=by omega
    rw [fv_last hx,List.getElem_append_right (by omega)]
    simp only [Nat.sub_self,List.getElem_cons_zero]
    refine ⟨(ha.fit hgood).move s2 fun b hbl hq=>?_,hok⟩
    rcases hq with hq | hq
    ·exact ⟨.inl hq,old b hbl (by omega) (fun e=>by have:=(hob b e).1;omega)⟩
    ·exact ⟨.inr (.inr ⟨hq,hbl⟩),old b hbl (by omega) (fun e=>by have:=(hob b e).2;omega)⟩
  ·intro o ho
   rw [hoff o ho,hb.cell (p:=⟨c,o,none⟩) h1.low]
   exact h5 o ho
theorem MkI.docs {w0:World} {c:Nat} {fx:Nat→Option Value} {l:List T} {w:World} (h:MkI w0 c fx l w) (hn:l.length≤1000000) {v:Value} (hv:w.cell? ⟨c,0,none⟩=some v):DocsAt w v l:=by
 obtain ⟨v',xs,R,h1,h2,h3,h4,h5⟩:=h
 obtain rfl:v'=v:=Option.some.inj (h1.cell.symm.trans hv)
 have hx:xs.length=l.length*5:=h1.row.1
 rcases h1.row.2 with ⟨rfl,h0⟩ | ⟨g,cap,cur,rfl,hb0,hg,hnc,hcm,rest⟩
 ·exact ⟨none,0,by rw [h0],hn,by omega,by omega,fun i hi=>by rw [nL_mk] at hi;omega,fun i hi=>(h4 i hi).2⟩
 ·refine ⟨_,_,rfl,hn,hnc,by unfold maxLen at hcm;omega,fun i hi=>?_,fun i hi=>(h4 i hi).2⟩
  rw [nL_mk] at hi
  have hc:∀ j,j<5→w.cell? ⟨g,i*5+j,none⟩=some (cx xs (i*5+j)):=fun j hj=>row_cell h1.row (cx_some (by omega))
  refine ⟨g,0,cx xs (i*5),cx xs (i*5+1),cx xs (i*5+2),cx xs (i*5+3),cx xs (i*5+4),rfl,(Array.getElem?_eq_some_iff.1 hg).1,(by rw [Nat.zero_add];exact hc 0 (by omega)),(by rw [Nat.zero_add];exact hc 1 (by omega)),(by rw [Nat.zero_add];exact hc 2 (by omega)),(by rw [Nat.zero_add];exact hc 3 (by omega)),(by rw [Nat.zero_add];exact hc 4 (by omega)),?_⟩
  rw [elt_docs l hi]
  exact (h4 i hi).1.at
end Go.Proofs.YtknakfpciccoaabGreatDoor
/- The walk of $project. -/
namespace Go.Proofs.YtknakfpciccoaabGreatDoor
open Go.RowKit
theorem At.toP {p:Nat→Prop} {w0 w:World} (hp:∀ b,b<w0.heap.size→p b) (hb:Below w0.heap.size w0 w):∀ {f:Nat} {v:Value} {t:T},At w0 f v t→AtP p w f v t:=by
 intro f
 induction f with
 | zero=>intro v t h;exact h.elim
 | succ f ih =>
  rintro v t ⟨La,Ka,Lc,Kc,rfl,hf,hl,hk⟩
  refine ⟨La,Ka,Lc,Kc,rfl,hf,fun i hi=>?_,fun i hi=>?_⟩
  ·obtain ⟨b,o,c0,c1,c2,c3,c4,h0,hbl,q0,q1,q2,q3,q4,ha⟩:=hl i hi
   exact ⟨b,o,c0,c1,c2,c3,c4,h0,⟨Nat.lt_of_lt_of_le hbl hb.size,hp b hbl⟩,(hb.cell (p:=⟨b,_,none⟩) hbl).trans q0,(hb.cell (p:=⟨b,_,none⟩) hbl).trans q1,(hb.cell (p:=⟨b,_,none⟩) hbl).trans q2,(hb.cell (p:=⟨b,_,none⟩) hbl).trans q3,(hb.cell (p:=⟨b,_,none⟩) hbl).trans q4,ih ha⟩
  ·obtain ⟨b,o,h0,hbl,h2,h3⟩:=hk i hi
   exact ⟨b,o,h0,⟨Nat.lt_of_lt_of_le hbl hb.size,hp b hbl⟩,h2,(hb.cell (p:=⟨b,_,none⟩) hbl).trans h3⟩
theorem obj_at {w0 w:World} {lo:Nat} {v nv:Value} {l:List T} {xs:List Value} {ks:List ByteArray} (h:VR w0 lo w v l xs) (hb:Below w0.heap.size w0 w) (hk:StrsAt w0 nv ks) (hl:l.length≤1000000) :
  ∃ A B C D,v=.slice A l.length B∧nv=.slice C ks.length D∧AtP (fun b=>b<w0.heap.size∨lo≤b) w 14 (.agg #[.int .i64 6,.int .i64 0,.string ⟨#[]⟩,.slice A l.length B,.slice C ks.length D]) (mkT 6 0 ByteArray.empty l ks):=by
 obtain ⟨C,D,rfl,hkn,hks⟩:=hk
 have hx:xs.length=l.length*5:=h.row.1
 obtain ⟨A,B,hv⟩:=own_shape h.row
 refine ⟨A,B,C,D,hv,rfl,A,C,B,D,by rw [kindOf_mk,nOf_mk,sOf_mk,nL_mk,nK_mk];rfl,?_,fun i hi=>?_,fun i hi=>?_⟩
 ·exact ⟨by rw [kindOf_mk];omega,by rw [kindOf_mk];omega,by rw [nOf_mk];omega,by rw [nOf_mk];omega,by rw [sOf_mk];show (0:Nat)≤_;omega,by rw [nL_mk];omega,by rw [nK_mk];exact hkn⟩
 ·rw [nL_mk] at hi
  rcases h.row.2 with ⟨h',h0⟩ | ⟨g,cap,cur,h',hb0,hg,rest⟩
  ·omega
  ·rw [hv] at h'
   simp only [Value.slice.injEq,true_and] at h'
   obtain ⟨rfl,rfl⟩:=h'
   have hc:∀ j,j<5→w.cell? ⟨g,i*5+j,none⟩=some (cx xs (i*5+j)):=fun j hj=>by
    have hr:=h.row
    rw [hv] at hr
    exact row_cell hr (cx_some (by omega))
   refine ⟨g,0,cx xs (i*5),cx xs (i*5+1),cx xs (i*5+2),cx xs (i*5+3),cx xs (i*5+4),rfl,⟨(Array.getElem?_eq_some_iff.1 hg).1,.inr hb0⟩,(by rw [Nat.zero_add];exact hc 0 (by omega)),(by rw [Nat.zero_add];exact hc 1 (by omega)),(by rw [Nat.zero_add];exact hc 2 (by omega)),(by rw [Nat.zero_add];exact hc 3 (by omega)),(by rw [Nat.zero_add];exact hc 4 (by omega)),?_⟩
   rw [elt_mk,List.getD_eq_getElem?_getD,List.getElem?_eq_getElem hi]
   exact At.toP (fun b hb'=>.inl hb') hb (h.at_ i hi)
 ·rw [nK_mk] at hi
  obtain ⟨b,o,h0,hbl,hsz,hc⟩:=hks i hi
  refine ⟨b,o,h0,⟨Nat.lt_of_lt_of_le hbl hb.size,.inl hbl⟩,?_,?_⟩
  ·rw [nam_mk];exact hsz
  ·rw [nam_mk,hb.cell (p:=⟨b,_,none⟩) hbl];exact hc
def prjE (gs:List (T→Int⊕T)) (ks:List ByteArray) (made:List T) (d:T):Int⊕List T:=match evL gs d with
 | .inl x=>.inl x
 | .inr l=>if tooBig (mkT 6 0 ByteArray.empty l ks) then .inl 15 else .inr (made++[mkT 6 0 ByteArray.empty l ks])
theorem exprs_one {Tb:World→Prop} (hL:Lies Tb) (lv:Value) (gs:List (T→Int⊕T)) (x:Value) (doc:T) (w0 w:World) (hb0:Below w0.heap.size w0 w) (hl:ListOk Tb w0 lv gs) (h:At w0 13 x doc) (hok:okA doc) (hT:Tb w) :
  Calls Tryz.prog 223 #[lv,x] w fun e w'=>Below w.heap.size w w'∧∃ A m B er,e=.returned (.tuple #[.slice A m B,.int .i64 er])∧((evL gs doc=.inl er∧er≠0)∨(er=0∧∃ l xs,evL gs doc=.inr l∧l.length=gs.length∧VR w0 w.heap.size w' (.slice A m B) l xs)):=by
 refine (exprs_any hL lv gs x doc w0 w hb0 hl h hok hT).mono ?_
 rintro e w' ⟨hb,⟨er,h1,h2,rfl⟩ | ⟨l,v,xs,h1,h2,rfl,h3⟩⟩
 ·exact ⟨hb,none,0,0,er,rfl,.inl ⟨h1,h2⟩⟩
 ·obtain ⟨A,B,rfl⟩:=own_shape h3.row
  exact ⟨hb,A,l.length,B,0,rfl,.inr ⟨rfl,l,xs,h1,h2,h3⟩⟩
set_option maxHeartbeats 8000000 in
set_option maxRecDepth 100000 in
theorem ptake_any {Tb:World→Prop} (hV:ValidSaid Tb) (hL:Lies Tb) (w0:World) (c:Nat) (nv lv:Value) (ks:List ByteArray) (gs:List (T→Int⊕T)) (made:List T) (doc:T) (x:Value) (w:World) (hb0:Below w0.heap.size w0 w) (hl:ListOk Tb w0 lv gs) (hk:StrsAt w0 nv ks) (hkl:ks.length≤1000000)
  (hI:MkI w0 c (fun o=>if o=1 then some nv else if o=2 then some lv else none) made w) (hm:made.length≤1000000) (h:At w0 13 x doc) (hok:okA doc) (hT:∀ w',Below w0.heap.size w w'→Tb w') :
  Calls Tryz.prog 226 #[.pointer (some ⟨c,0,none⟩),x] w (WkPost (prjE gs ks) made (MkI w0 c (fun o=>if o=1 then some nv else if o=2 then some lv else none)) doc w0 w):=by
 obtain ⟨g1,La,Ka,Lc,Kc,hg1,hx,_,_,_⟩:=h.open
 have hc:=hI.lo
 have HB1:Hid (Below w.heap.size w (w.alloc (.cells #[.int .i64 (kindOf doc),.int .i64 (nOf doc),.string (sOf doc),.slice La (nL doc) Lc,.slice Ka (nK doc) Kc] 36))):=(Below.refl _ _).alloc (Nat.le_refl _) _
 have HX:=hid (box_new w (.int .i64 (kindOf doc)) (.int .i64 (nOf doc)) (.string (sOf doc)) (.slice La (nL doc) Lc) (.slice Ka (nK doc) Kc))
 have HIw:=hid hI
 have HI1:=hid (hI.keep HB1.out)
 have HB0:=hid hb0
 have HT:Hid (∀ w',Below w0.heap.size w w'→Tb w'):=hT
 have HKs:=hid (And.intro hk hkl)
 have Hm:=hid hm
 have HLo:=hid hl
 obtain ⟨EA,ec,hlv,hgn,_⟩:=hl
 obtain ⟨NA,nc,hnv,hnn,_⟩:=hk
 have Hgn:=hid hgn
 have Hlw:Hid (∀ wx,MkI w0 c (fun o=>if o=1 then some nv else if o=2 then some lv else none) made wx→wx.cell? ⟨c,2,none⟩=some lv∧wx.cell? ⟨c,1,none⟩=some nv):=fun wx hh=>by
  obtain ⟨_,_,_,_,_,_,_,h5⟩:=hh
  exact ⟨by have:=h5 2 (by omega);simpa using this,by have:=h5 1 (by omega);simpa using this⟩
 have HSw:Hid (∀ w5:World,Below (w.alloc (.cells #[.int .i64 (kindOf doc),.int .i64 (nOf doc),.string (sOf doc),.slice La (nL doc) Lc,.slice Ka (nK doc) Kc] 36)).heap.size (w.alloc (.cells #[.int .i64 (kindOf doc),.int .i64 (nOf doc),.string (sOf doc),.slice La (nL doc) Lc,.slice Ka (nK doc) Kc] 36)) w5→(w5.cell? ⟨c,2,none⟩=some lv∧w5.cell? ⟨c,1,none⟩=some nv∧w5.cell? ⟨w.heap.size,0,none⟩=some (.int .i64 (kindOf doc))∧w5.cell? ⟨w.heap.size,1,none⟩=some (.int .i64 (nOf doc))∧w5.cell? ⟨w.heap.size,2,none⟩=some (.string (sOf doc))∧w5.cell? ⟨w.heap.size,3,none⟩=some (.slice La (nL doc) Lc)∧w5.cell? ⟨w.heap.size,4,none⟩=some (.slice Ka (nK doc) Kc))):=fun w5 hh=>by
  have h1:=Hlw.out w5 (HI1.out.keep hh)
  have h2:=HX.out.stay hh
  exact ⟨h1.1,h1.2,h2.q0,h2.q1,h2.q2,h2.q3,h2.q4⟩
 have HSd:=hid (HSw.out _ (below_drew _))
 have HEx:Hid (∀ w5:World,Below w.heap.size w w5→Calls Tryz.prog 223 #[lv,x] w5 fun e w'=>Below w5.heap.size w5 w'∧∃ A m B er,e=.returned (.tuple #[.slice A m B,.int .i64 er])∧((evL gs doc=.inl er∧er≠0)∨(er=0∧∃ l xs,evL gs doc=.inr l∧l.length=gs.length∧VR w0 w5.heap.size w' (.slice A m B) l xs))):=fun w5 hh=>exprs_one hL lv gs x doc w0 w5 (hb0.trans (hh.mono hb0.size)) HLo.out h hok (hT w5 (hh.mono hb0.size))
 have HEm:Hid (∀ (w1 w2:World) (f:Nat) (t:T) (A C:Option Addr) (B D:Nat),MkI w0 c (fun o=>if o=1 then some nv else if o=2 then some lv else none) made w1→Below w1.heap.size w1 w2→AtP (fun b=>b<w0.heap.size∨w1.heap.size≤b) w2 f (.agg #[.int .i64 (kindOf t),.int .i64 (nOf t),.string (sOf t),.slice A (nL t) B,.slice C (nK t) D]) t→Tb w2→Calls Tryz.prog 227 #[.pointer (some ⟨c,0,none⟩),.agg #[.int .i64 (kindOf t),.int .i64 (nOf t),.string (sOf t),.slice A (nL t) B,.slice C (nK t) D]] w2 fun e w'=>Below w0.heap.size w2 w'∧(∀ o,o≠0→w'.cell? ⟨c,o,none⟩=(fun o=>if o=1 then some nv else if o=2 then some lv else none) o)∧∃ er:Int,e=.returned (.int .i64 er)∧((tooBig t=true∧er=15)∨(tooBig t=false∧er=0∧MkI w0 c (fun o=>if o=1 then some nv else if o=2 then some lv else none) (made++[t]) w'))):=fun w1 w2 f t A C B D h1 h2 h3 h4=>emit_mk hV hL w0 w1 w2 c f _ made t A C B D h1 h2 Hm.out h3 h4
 have c2:=(Hlw.out _ HI1.out).1
 have c1:=(Hlw.out _ HI1.out).2
 subst hx
 subst hnv
 subst hlv
 clear hI hb0 hT h hok hV hL hm hkl hg1 hgn hnn
 go_enter Tryz.func226,Tryz.ntmps226
 go_wp2_with fail
 go_region_held3 (fun wx=>wx.cell? ⟨c,2,none⟩=some (.slice EA gs.length ec)∧wx.cell? ⟨c,1,none⟩=some (.slice NA ks.length nc)∧wx.cell? ⟨w.heap.size,0,none⟩=some (.int .i64 (kindOf doc))∧wx.cell? ⟨w.heap.size,1,none⟩=some (.int .i64 (nOf doc))∧wx.cell? ⟨w.heap.size,2,none⟩=some (.string (sOf doc))∧wx.cell? ⟨w.heap.size,3,none⟩=some (.slice La (nL doc) Lc)∧wx.cell? ⟨w.heap.size,4,none⟩=some (.slice Ka (nK doc) Kc)) (first | exact hc5 | exact HSd.out) ((go_at_call 223;refine (HEx.out _ (HB1.out.trans ((below_drew _).mono HB1.out.size))).mono ?_;rintro e5 w5 ⟨hb5,A5,m5,B5,er5,rfl,h5⟩;have hc5:=HSw.out _ ((below_drew _).trans hb5)))
 have HI5:=hid (HI1.out.keep ((below_drew _).trans hb5))
 have HB5:=hid (HB1.out.trans (((below_drew _).trans hb5).mono HB1.out.size))
 have HX5:=hid (HX.out.stay ((below_drew _).trans hb5))
 rcases h5 with ⟨h5,hne⟩ | ⟨rfl,l,xs,h5,h6,h7⟩
 ·have ez:(er5==0)=false:=by simpa using hne
  have HF:Hid (prjE gs ks made doc=.inl er5∧er5≠0):=⟨by unfold prjE;rw [h5],hne⟩
  have HB0s:=hid HB0.out.size
  clear hc5 hb5 h5 hne HSw HSd HEx HEm c1 c2
  go_wp2_with fail
  go_ret
  exact ⟨HB5.out.mono HB0s.out,.inl ⟨er5,HF.out.1,HF.out.2,rfl⟩⟩
 ·have hl6:l.length≤1000000:=by have:=Hgn.out;omega
  have hbw:Below w0.heap.size w0 w5:=HB0.out.trans (HB5.out.mono HB0.out.size)
  obtain ⟨A,B,C,D,e1,e2,hat⟩:=obj_at h7 hbw HKs.out.1 hl6
  simp only [Value.slice.injEq] at e1 e2
  obtain ⟨rfl,rfl,rfl⟩:=e1
  obtain ⟨rfl,_,rfl⟩:=e2
  have hsz:w.heap.size≤(w.alloc (.cells #[.int .i64 (kindOf doc),.int .i64 (nOf doc),.string (sOf doc),.slice La (nL doc) Lc,.slice Ka (nK doc) Kc] 36)).drew.heap.size:=by show w.heap.size≤(w.alloc _).heap.size;simp
  have hat2:AtP (fun b=>b<w0.heap.size∨w.heap.size≤b) w5.drew 14 (.agg #[.int .i64 6,.int .i64 0,.string ⟨#[]⟩,.slice A5 l.length B5,.slice NA ks.length nc]) (mkT 6 0 ByteArray.empty l ks):=AtP.move (Nat.le_refl _) (fun b hb hp=>⟨Or.imp id (fun hh=>Nat.le_trans hsz hh) hp,rfl⟩) hat
  have HC:Hid (Calls Tryz.prog 227 #[.pointer (some ⟨c,0,none⟩),.agg #[.int .i64 6,.int .i64 0,.string ⟨#[]⟩,.slice A5 l.length B5,.slice NA ks.length nc]] w5.drew fun e w'=>Below w0.heap.size w5.drew w'∧w'.cell? ⟨c,1,none⟩=some (.slice NA ks.length nc)∧∃ er:Int,e=.returned (.int .i64 er)∧Hid (Below w0.heap.size w5 w'∧((tooBig (mkT 6 0 ByteArray.empty l ks)=true∧er=15)∨(tooBig (mkT 6 0 ByteArray.empty l ks)=false∧er=0∧MkI w0 c (fun o=>if o=1 then some (.slice NA ks.length nc) else if o=2 then some (.slice EA gs.length ec) else none) (made++[mkT 6 0 ByteArray.empty l ks]) w')))):=by
   have h8:=HEm.out w w5.drew 14 (mkT 6 0 ByteArray.empty l ks) A5 NA B5 nc HIw.out (HB5.out.trans ((below_drew w5).mono HB5.out.size)) (by simp only [kindOf_mk,nOf_mk,sOf_mk,nL_mk,nK_mk];exact hat2) (HT.out _ ((HB5.out.mono HB0.out.size).trans ((below_drew w5).mono hbw.size)))
   simp only [kindOf_mk,nOf_mk,sOf_mk,nL_mk,nK_mk] at h8
   refine h8.mono ?_
   rintro e w' ⟨b1,b2,er,rfl,b3⟩
   exact ⟨b1,by have:=b2 1 (by omega);simpa using this,er,rfl,((below_drew w5).mono hbw.size).trans b1,b3⟩
  have HR:Hid (prjE gs ks made doc=if tooBig (mkT 6 0 ByteArray.empty l ks) then .inl 15 else .inr (made++[mkT 6 0 ByteArray.empty l ks])):=by show _=_;unfold prjE;rw [h5]
  have HBw:=hid (HB5.out.mono HB0.out.size)
  have c15:=(Hlw.out _ HI5.out).2
  have HS5:Hid (w5.drew.cell? ⟨c,1,none⟩=some (.slice NA ks.length nc)):=c15
  clear hc5 hb5 h5 h6 h7 hat hat2 hbw hl6 hsz HSw HSd HEx HEm c1 c2 HI1 HI5 HIw HX HX5 HLo HKs Hgn Hlw
  go_wp2_with fail
  go_region_held3 (fun wx=>wx.cell? ⟨c,1,none⟩=some (.slice NA ks.length nc)) (first | exact hc9 | exact HS5.out) ((go_at_call 227;refine HC.out.mono ?_;rintro e9 w9 ⟨_,hc9,er9,rfl,h9⟩))
  clear hc9
  go_wp2_with fail
  go_ret
  refine ⟨HBw.out.trans h9.out.1,?_⟩
  rcases h9.out.2 with ⟨h10,rfl⟩ | ⟨h10,rfl,h11⟩
  ·exact .inl ⟨15,by rw [HR.out,h10];rfl,by omega,rfl⟩
  ·exact .inr ⟨_,by rw [HR.out,h10];rfl,rfl,h11⟩
end Go.Proofs.YtknakfpciccoaabGreatDoor
/- Stages of a pipeline: what they do; $project, $match. -/
namespace Go.Proofs.YtknakfpciccoaabGreatDoor
open Go.RowKit
def StPost (g:List T→(Nat×Int)⊕List T) (l:List T) (w:World) (e:Ending) (w':World):Prop :=
 Below w.heap.size w w'∧((∃ (k:Nat) (x:Int),g l=.inl (k,x)∧x≠0∧e=.returned (.tuple #[.slice none 0 0,.int .i64 k,.int .i64 x]))∨∃ r v,g l=.inr r∧e=.returned (.tuple #[v,.int .i64 0,.int .i64 0])∧DocsAt w' v r)
def StageOk (Tb:World→Prop) (w:World) (v:Value) (g:List T→(Nat×Int)⊕List T):Prop :=
 ∃ (ty:TypeId) (p:Value) (fid:FuncId),v=.iface ty p∧(∀ w':World,(method 419 ty p "sheaf/pipe.run").run Tryz.prog w'=.ok (fid,p) w')∧(∀ (a:Array Value) (w':World),(callFunc fid a).run Tryz.prog w'=.ok (.enter fid a) w') ∧
  ∀ (wr:World) (dv:Value) (l:List T),Below w.heap.size w wr→DocsAt wr dv l→Tb wr→Calls Tryz.prog fid #[p,dv] wr (StPost g l wr)
theorem MkI.start (w:World) (ty:TypeId) (cs:List Value):MkI w w.heap.size (fun o=>if o=0 then none else (.slice none 0 0::cs)[o]?) [] (w.alloc (.cells (.slice none 0 0::cs).toArray ty)):=by
 refine ⟨.slice none 0 0,[],fun b=>b<w.heap.size,⟨?_,?_,by simp,World.ownsRow_nil _ _ _ _,by simp [Value.ownBlock]⟩,fun b hb=>hb,fun b hb=>⟨by simp;omega,by omega,by simp [Value.ownBlock]⟩,fun i hi=>absurd hi (Nat.not_lt_zero i),fun o ho=>?_⟩
 ·rw [cell_of_row _ w.heap.size 0 _ _ (0,0) (heap_alloc_new w _)];rfl
 ·exact frozen_of_row _ w.heap.size 0 _ _ (heap_alloc_new w _)
 ·rw [cell_of_row _ w.heap.size o _ _ (0,0) (heap_alloc_new w _)]
  show _=if o=0 then none else (Value.slice none 0 0::cs)[o]?
  rw [if_neg ho]
  simp
def prjS (gs:List (T→Int⊕T)) (ks:List ByteArray) (l:List T):(Nat×Int)⊕List T:=eachE (prjE gs ks) l 0 []
theorem prjE_len (gs:List (T→Int⊕T)) (ks:List ByteArray) (s:List T) (d:T) (s':List T) (h:prjE gs ks s d=.inr s'):s'.length=s.length+1:=by
 unfold prjE at h
 cases hl:evL gs d with
 | inl x=>rw [hl] at h;cases h
 | inr l =>
  rw [hl] at h
  dsimp only at h
  split at h
  ·cases h
  ·simp only [Sum.inr.injEq] at h
   rw [← h]
   simp
set_option maxHeartbeats 8000000 in
set_option maxRecDepth 100000 in
theorem prun_any {Tb:World→Prop} (hV:ValidSaid Tb) (hL:Lies Tb) (nv lv:Value) (ks:List ByteArray) (gs:List (T→Int⊕T)) (dv:Value) (l:List T) (w:World) (hl:ListOk Tb w lv gs) (hk:StrsAt w nv ks) (hkl:ks.length≤1000000) (hd:DocsAt w dv l) (hT:Tb w) :
  Calls Tryz.prog 224 #[.agg #[.slice none 0 0,nv,lv],dv] w (StPost (prjS gs ks) l w):=by
 have hmf:∀ (fn:Fn) (first cap:Array Value) (w:World),(Instr.makeFunc fn first cap).run Tryz.prog w=.ok (.func fn first cap) w:=fun _ _ _ _=>rfl
 have HB1:Hid (Below w.heap.size w (w.alloc (.cells #[.slice none 0 0,nv,lv] 168))):=(Below.refl _ _).alloc (Nat.le_refl _) _
 have hfx:(fun o=>if o=0 then none else ([.slice none 0 0,nv,lv]:List Value)[o]?)=(fun o=>if o=1 then some nv else if o=2 then some lv else none):=by
  funext o
  match o with
  | 0=>rfl
  | 1=>rfl
  | 2=>rfl
  | o+3=>simp
 have hst:=MkI.start w 168 [nv,lv]
 rw [hfx] at hst
 have hdl:l.length≤1000000:=by obtain ⟨_,_,_,h,_⟩:=hd;exact h
 have HC:=hid (each_any (prjE gs ks) (fun k made w'=>MkI w w.heap.size (fun o=>if o=1 then some nv else if o=2 then some lv else none) made w'∧made.length≤k) 226 (fun _ _=>rfl) (.pointer (some ⟨w.heap.size,0,none⟩)) w.heap.size dv l [] w _ HB1.out hd ⟨hst,Nat.le_refl _⟩
  (fun k s wx wy h hb=>⟨h.1.keep hb,h.2⟩) (fun k s wx h=>h.1.cell) (fun k s d v wr hkl' h hb ha hok=>by
   refine (ptake_any hV hL w w.heap.size nv lv ks gs s d v wr hb hl hk hkl h.1 (by omega) ha hok (fun w' hb'=>hL w hT w w' hT (hb.trans hb'))).mono ?_
   rintro e w' ⟨h1,h2 | ⟨s',h2,h3,h4⟩⟩
   ·exact ⟨h1,.inl h2⟩
   ·exact ⟨h1,.inr ⟨s',h2,h3,h4,by have:=prjE_len gs ks s d s' h2;have:=h.2;omega⟩⟩))
 obtain ⟨DA,dc,hdv,_⟩:=hd
 obtain ⟨NA,nc,hnv,_,_⟩:=hk
 obtain ⟨EA,ec,hlv,_,_⟩:=hl
 subst hdv
 subst hnv
 subst hlv
 have Hdl:=hid hdl
 clear hst hfx hT hV hL hdl
 go_enter Tryz.func224,Tryz.ntmps224
 go_wp2_with fail
 refine HC.out.mono ?_
 rintro e w2 ⟨b2,⟨k,x,h1,h2,rfl⟩ | ⟨s',v,h1,h2,h3,rfl⟩⟩
 ·have HB:=hid (HB1.out.trans b2)
  have HF:=hid (And.intro h1 h2)
  clear b2 h1 h2 HC
  go_wp2_with fail
  refine bodyPost_ret (v:=.tuple #[.slice none 0 0,.int .i64 (k:Nat),.int .i64 x]) (by simp [results,Tryz.results224,go_sem, *]) rfl ?_
  exact ⟨HB.out,.inl ⟨k,x,HF.out.1,HF.out.2,rfl⟩⟩
 ·have HB:=hid (HB1.out.trans b2)
  have HF:=hid (And.intro h1 (h2.1.docs (by have:=h2.2;have:=Hdl.out;omega) h3))
  clear b2 h1 h2 h3 HC
  go_wp2_with fail
  refine bodyPost_ret (v:=.tuple #[v,.int .i64 0,.int .i64 0]) (by simp [results,Tryz.results224,go_sem, *]) rfl ?_
  exact ⟨HB.out,.inr ⟨s',v,HF.out.1,rfl,HF.out.2⟩⟩
theorem meth_project (p:Value) (w:World):(method 419 168 p "sheaf/pipe.run").run Tryz.prog w=.ok (224,p) w:=by kernel_rfl
set_option maxHeartbeats 4000000 in
set_option maxRecDepth 100000 in
theorem project_ok {Tb:World→Prop} (hV:ValidSaid Tb) (hL:Lies Tb) {w:World} {nv lv:Value} {ks:List ByteArray} {gs:List (T→Int⊕T)} (hl:ListOk Tb w lv gs) (hk:StrsAt w nv ks) (hkl:ks.length≤1000000):StageOk Tb w (.iface 168 (.agg #[.slice none 0 0,nv,lv])) (prjS gs ks) :=
 ⟨_,_,_,rfl,meth_project _,fun _ _=>rfl,fun wr dv l hb hd hT=>prun_any hV hL nv lv ks gs dv l wr (hl.keep hb) (hk.keep hb) hkl hd hT⟩
end Go.Proofs.YtknakfpciccoaabGreatDoor
/- The walk of an ordering's compare. -/
namespace Go.Proofs.YtknakfpciccoaabGreatDoor
open Go.RowKit
def OrdAt (w:World) (v:Value) (os:List (List ByteArray×Int)):Prop :=
 ∃ A c,v=.slice A os.length c∧os.length≤100000∧∀ i,(h:i<os.length)→∃ b o pv,A=some ⟨b,o,none⟩∧b<w.heap.size∧w.cell? ⟨b,o+i*2,none⟩=some pv∧w.cell? ⟨b,o+i*2+1,none⟩=some (.int .i64 os[i].2)∧StrsAt w pv os[i].1∧(os[i].2=1∨os[i].2=-1)
theorem OrdAt.keep {w w':World} {v:Value} {os:List (List ByteArray×Int)} (h:OrdAt w v os) (hb:Below w.heap.size w w'):OrdAt w' v os:=by
 obtain ⟨A,c,hv,hn,h⟩:=h
 refine ⟨A,c,hv,hn,fun i hi=>?_⟩
 obtain ⟨b,o,pv,h0,hl,q0,q1,hs,hd⟩:=h i hi
 exact ⟨b,o,pv,h0,Nat.lt_of_lt_of_le hl hb.size,(hb.cell (p:=⟨b,_,none⟩) hl).trans q0,(hb.cell (p:=⟨b,_,none⟩) hl).trans q1,hs.keep hb,hd⟩
def cmpO:List (List ByteArray×Int)→T→T→Int
 | [],_,_=>0
 | k::r,a,b=>if cmpT 16 (orNull k.1 a) (orNull k.1 b)=0 then cmpO r a b else cmpT 16 (orNull k.1 a) (orNull k.1 b)*k.2
set_option maxHeartbeats 8000000 in
set_option maxRecDepth 100000 in
theorem ocmp_any {Tb:World→Prop} (hA:AtoiSaid Tb) (hI:ItoaSaid Tb) (hL:Lies Tb) (ov:Value) (os:List (List ByteArray×Int)) (a b:T) (x y:Value) (w0 w:World) (hb0:Below w0.heap.size w0 w) (ho:OrdAt w0 ov os) (hx:At w0 13 x a) (hy:At w0 13 y b) (ka:okA a) (kb:okA b) (hT:Tb w) :
  Calls Tryz.prog 246 #[ov,x,y] w fun e w'=>e=.returned (.int .i64 (cmpO os a b))∧Below w.heap.size w w':=by
 obtain ⟨g1,La,Ka,Lc,Kc,hg1,hxe,_,_,_⟩:=hx.open
 obtain ⟨g2,Ma,Na,Mc,Nc,hg2,hye,_,_,_⟩:=hy.open
 obtain ⟨OA,oc,hov,hn,hos⟩:=ho
 have HT:Hid (∀ w':World,Below w.heap.size w w'→Tb w'):=fun w' hb=>hL w hT w w' hT hb
 have HOs:=hid hos
 have HB0:=hid hb0
 have HB1:Hid (Below w.heap.size w ((w.alloc (.cells #[.int .i64 (kindOf a),.int .i64 (nOf a),.string (sOf a),.slice La (nL a) Lc,.slice Ka (nK a) Kc] 36)).alloc (.cells #[.int .i64 (kindOf b),.int .i64 (nOf b),.string (sOf b),.slice Ma (nL b) Mc,.slice Na (nK b) Nc] 36))):=((Below.refl _ _).alloc (Nat.le_refl _) _).alloc (by simp) _
 have HXa:Hid (BoxAt w.heap.size (.int .i64 (kindOf a)) (.int .i64 (nOf a)) (.string (sOf a)) (.slice La (nL a) Lc) (.slice Ka (nK a) Kc) ((w.alloc (.cells #[.int .i64 (kindOf a),.int .i64 (nOf a),.string (sOf a),.slice La (nL a) Lc,.slice Ka (nK a) Kc] 36)).alloc (.cells #[.int .i64 (kindOf b),.int .i64 (nOf b),.string (sOf b),.slice Ma (nL b) Mc,.slice Na (nK b) Nc] 36))):=by
  show BoxAt _ _ _ _ _ _ _
  constructor<;>simp [go_sem]
 have HXb:Hid (BoxAt (w.heap.size+1) (.int .i64 (kindOf b)) (.int .i64 (nOf b)) (.string (sOf b)) (.slice Ma (nL b) Mc) (.slice Na (nK b) Nc) ((w.alloc (.cells #[.int .i64 (kindOf a),.int .i64 (nOf a),.string (sOf a),.slice La (nL a) Lc,.slice Ka (nK a) Kc] 36)).alloc (.cells #[.int .i64 (kindOf b),.int .i64 (nOf b),.string (sOf b),.slice Ma (nL b) Mc,.slice Na (nK b) Nc] 36))):=by
  show BoxAt _ _ _ _ _ _ _
  constructor<;>simp [go_sem]
 have HOa:Hid (∀ (pv:Value) (ps:List ByteArray) (w':World),Below w.heap.size w w'→StrsAt w' pv ps→Calls Tryz.prog 228 #[pv,.agg #[.int .i64 (kindOf a),.int .i64 (nOf a),.string (sOf a),.slice La (nL a) Lc,.slice Ka (nK a) Kc]] w' fun e w2=>Below w'.heap.size w' w2∧∃ r A B C D,orNull ps a=r∧e=.returned (.agg #[.int .i64 (kindOf r),.int .i64 (nOf r),.string (sOf r),.slice A (nL r) B,.slice C (nK r) D])∧At w0 13 (.agg #[.int .i64 (kindOf r),.int .i64 (nOf r),.string (sOf r),.slice A (nL r) B,.slice C (nK r) D]) r∧okA r):=fun pv ps w' h1 h2=>by
  have:=orNull_any hA hI hL pv ps x a w0 w' (hb0.trans (h1.mono hb0.size)) h2 hx ka (HT.out _ h1)
  rw [hxe] at this
  exact this
 have HOb:Hid (∀ (pv:Value) (ps:List ByteArray) (w':World),Below w.heap.size w w'→StrsAt w' pv ps→Calls Tryz.prog 228 #[pv,.agg #[.int .i64 (kindOf b),.int .i64 (nOf b),.string (sOf b),.slice Ma (nL b) Mc,.slice Na (nK b) Nc]] w' fun e w2=>Below w'.heap.size w' w2∧∃ r A B C D,orNull ps b=r∧e=.returned (.agg #[.int .i64 (kindOf r),.int .i64 (nOf r),.string (sOf r),.slice A (nL r) B,.slice C (nK r) D])∧At w0 13 (.agg #[.int .i64 (kindOf r),.int .i64 (nOf r),.string (sOf r),.slice A (nL r) B,.slice C (nK r) D]) r∧okA r):=fun pv ps w' h1 h2=>by
  have:=orNull_any hA hI hL pv ps y b w0 w' (hb0.trans (h1.mono hb0.size)) h2 hy kb (HT.out _ h1)
  rw [hye] at this
  exact this
 subst hxe
 subst hye
 subst hov
 clear hx hy ka kb hT hA hI hL hb0 hos hg1 hg2
 obtain ⟨n,hln⟩:∃ n,os.length=n:=⟨_,rfl⟩
 have Hln:=hid hln
 rw [hln] at hn ⊢
 clear hln
 go_enter Tryz.func246,Tryz.ntmps246
 go_wp2_with fail
 go_loopg [12] n (fun g i wr=>∃ k:Nat,g=n - k∧k≤n∧i=.int .i64 k∧Hid (Below w.heap.size w wr)∧Hid (BoxAt w.heap.size (.int .i64 (kindOf a)) (.int .i64 (nOf a)) (.string (sOf a)) (.slice La (nL a) Lc) (.slice Ka (nK a) Kc) wr)∧Hid (BoxAt (w.heap.size+1) (.int .i64 (kindOf b)) (.int .i64 (nOf b)) (.string (sOf b)) (.slice Ma (nL b) Mc) (.slice Na (nK b) Nc) wr)∧Hid (cmpO os a b=cmpO (os.drop k) a b))
 case atStart=>exact ⟨0,rfl,Nat.zero_le _,rfl,HB1,HXa,HXb,rfl⟩
 case round =>
  clear HB1 HXa HXb
  obtain ⟨k,rfl,hk,rfl,HB,HXa,HXb,HE⟩:=hrel
  by_cases hlt:k<n
  ·have hkl:k<os.length:=by rw [Hln.out];exact hlt
   have Hb0r:=hid (HB0.out.trans (HB.out.mono HB0.out.size))
   obtain ⟨bb,oo,pv,rfl,hbl,q0,q1,hs,hd⟩:=HOs.out k hkl
   have HE2:Hid (cmpO os a b=cmpO (os[k]::os.drop (k+1)) a b):=by show _=_;rw [← List.drop_eq_getElem_cons hkl];exact HE.out
   obtain ⟨⟨kp,kd⟩,hkk⟩:∃ kk,os[k]=kk:=⟨_,rfl⟩
   rw [hkk] at HE2 q1 hs hd
   have Hs:=hid hs
   obtain ⟨KA,kc,hpv,_,_⟩:=hs
   subst hpv
   have q0':=(Hb0r.out.cell (p:=⟨bb,_,none⟩) hbl).trans q0
   have q1':=(Hb0r.out.cell (p:=⟨bb,_,none⟩) hbl).trans q1
   have HBk:Hid (Below wr.heap.size wr (wr.alloc (.cells #[.slice KA kp.length kc,.int .i64 kd] 221))):=(Below.refl _ _).alloc (Nat.le_refl _) _
   have HBw:=hid (HB.out.trans (HBk.out.mono HB.out.size))
   have HSo:Hid (∀ wx:World,Below (wr.alloc (.cells #[.slice KA kp.length kc,.int .i64 kd] 221)).heap.size (wr.alloc (.cells #[.slice KA kp.length kc,.int .i64 kd] 221)) wx→(wx.cell? ⟨w.heap.size,0,none⟩=some (.int .i64 (kindOf a))∧wx.cell? ⟨w.heap.size,1,none⟩=some (.int .i64 (nOf a))∧wx.cell? ⟨w.heap.size,2,none⟩=some (.string (sOf a))∧wx.cell? ⟨w.heap.size,3,none⟩=some (.slice La (nL a) Lc)∧wx.cell? ⟨w.heap.size,4,none⟩=some (.slice Ka (nK a) Kc)∧wx.cell? ⟨w.heap.size+1,0,none⟩=some (.int .i64 (kindOf b))∧wx.cell? ⟨w.heap.size+1,1,none⟩=some (.int .i64 (nOf b))∧wx.cell? ⟨w.heap.size+1,2,none⟩=some (.string (sOf b))∧wx.cell? ⟨w.heap.size+1,3,none⟩=some (.slice Ma (nL b) Mc)∧wx.cell? ⟨w.heap.size+1,4,none⟩=some (.slice Na (nK b) Nc)∧wx.cell? ⟨wr.heap.size,0,none⟩=some (.slice KA kp.length kc))):=fun wx hb=>by
    have h1:=(HXa.out.stay HBk.out).stay hb
    have h2:=(HXb.out.stay HBk.out).stay hb
    have h3:wx.cell? ⟨wr.heap.size,0,none⟩=some (.slice KA kp.length kc):=(hb.cell (p:=⟨wr.heap.size,0,none⟩) (by simp)).trans (by simp [go_sem])
    exact ⟨h1.q0,h1.q1,h1.q2,h1.q3,h1.q4,h2.q0,h2.q1,h2.q2,h2.q3,h2.q4,h3⟩
   have HSd:=hid (HSo.out _ (below_drew _))
   have Hbe:Hid (∀ w7:World,Below (wr.alloc (.cells #[.slice KA kp.length kc,.int .i64 kd] 221)).drew.heap.size (wr.alloc (.cells #[.slice KA kp.length kc,.int .i64 kd] 221)).drew w7→Below w0.heap.size w0 w7):=fun w7 hb=>HB0.out.trans ((HBw.out.drew.trans (hb.mono HBw.out.drew.size)).mono HB0.out.size)
   have Hbd:=hid HBw.out.drew
   have HO1:=hid (HOa.out (.slice KA kp.length kc) kp _ Hbd.out ((Hs.out.keep Hb0r.out).keep (HBk.out.drew)))
   have HO2:Hid (∀ w5:World,Below (wr.alloc (.cells #[.slice KA kp.length kc,.int .i64 kd] 221)).drew.heap.size (wr.alloc (.cells #[.slice KA kp.length kc,.int .i64 kd] 221)).drew w5→_):=fun w5 hb=>HOb.out (.slice KA kp.length kc) kp w5 (Hbd.out.trans (hb.mono Hbd.out.size)) (((Hs.out.keep Hb0r.out).keep HBk.out.drew).keep hb)
   have hdz:=hd
   clear q0 q1 hkk hd
   go_wp2_with fail
   go_region_held3 (fun wx=>(wx.cell? ⟨w.heap.size,0,none⟩=some (.int .i64 (kindOf a))∧wx.cell? ⟨w.heap.size,1,none⟩=some (.int .i64 (nOf a))∧wx.cell? ⟨w.heap.size,2,none⟩=some (.string (sOf a))∧wx.cell? ⟨w.heap.size,3,none⟩=some (.slice La (nL a) Lc)∧wx.cell? ⟨w.heap.size,4,none⟩=some (.slice Ka (nK a) Kc)∧wx.cell? ⟨w.heap.size+1,0,none⟩=some (.int .i64 (kindOf b))∧wx.cell? ⟨w.heap.size+1,1,none⟩=some (.int .i64 (nOf b))∧wx.cell? ⟨w.heap.size+1,2,none⟩=some (.string (sOf b))∧wx.cell? ⟨w.heap.size+1,3,none⟩=some (.slice Ma (nL b) Mc)∧wx.cell? ⟨w.heap.size+1,4,none⟩=some (.slice Na (nK b) Nc)∧wx.cell? ⟨wr.heap.size,0,none⟩=some (.slice KA kp.length kc))) (first | exact hc9 | exact hc7 | exact hc5 | exact HSd.out) (first | (go_at_call 228;(with_reducible refine Calls.mono HO1.out ?_);rintro e5 w5 ⟨hb5,r1,RA,RB,RC,RD,hr1,rfl,hat1,hok1⟩;have hc5:=HSo.out _ ((below_drew _).trans hb5)) | (go_at_call 228;(with_reducible refine Calls.mono (HO2.out w5 hb5) ?_);rintro e7 w7 ⟨hb7,r2,TA,TB,TC,TD,hr2,rfl,hat2,hok2⟩;have hc7:=HSo.out _ (((below_drew _).trans hb5).trans (hb7.mono ((below_drew _).trans hb5).size)))| (go_at_call 30;refine (compare16 (hat1.keep (Hbe.out w7 (hb5.trans (hb7.mono hb5.size)))) (hat2.keep (Hbe.out w7 (hb5.trans (hb7.mono hb5.size)))) (by omega) hok1 hok2).mono ?_;rintro e9 w9 ⟨rfl,hb9⟩;have hc9:=HSo.out _ ((((below_drew _).trans hb5).trans (hb7.mono ((below_drew _).trans hb5).size)).trans (hb9.mono (((below_drew _).trans hb5).trans (hb7.mono ((below_drew _).trans hb5).size)).size))))
   have HB9:=hid (((below_drew (wr.alloc (.cells #[.slice KA kp.length kc,.int .i64 kd] 221))).trans hb5).trans (hb7.mono ((below_drew _).trans hb5).size) |>.trans (hb9.mono (((below_drew _).trans hb5).trans (hb7.mono ((below_drew _).trans hb5).size)).size))
   have HX9a:=hid ((HXa.out.stay HBk.out).stay HB9.out)
   have HX9b:=hid ((HXb.out.stay HBk.out).stay HB9.out)
   have HBf:=hid (HBw.out.trans (HB9.out.mono HBw.out.size))
   have k1:w9.cell? ⟨wr.heap.size,1,none⟩=some (.int .i64 kd):=(HB9.out.cell (p:=⟨wr.heap.size,1,none⟩) (by simp)).trans (by simp [go_sem])
   have hbd:=cmpT_bd 16 r1 r2
   have HCm:Hid (cmpO os a b=if cmpT 16 r1 r2=0 then cmpO (os.drop (k+1)) a b else cmpT 16 r1 r2*kd):=by show _=_;rw [HE2.out,cmpO];dsimp only;rw [hr1,hr2]
   generalize cmpT 16 r1 r2=cc at HCm hbd ⊢
   clear hc5 hc7 hc9 hb5 hb7 hb9 hat1 hat2 hok1 hok2 hr1 hr2 HSo HSd HO1 HO2 Hbe q0' q1'
   by_cases hz:cc=0
   ·subst hz
    have HE3:=hid (HCm.out.trans (if_pos rfl))
    clear HCm hbd
    go_wp2_with fail
    go_roundg (n - (k+1))
    case rel=>exact ⟨k+1,rfl,by omega,by go_num,HBf,HX9a,HX9b,HE3⟩
    case measure=>omega
   ·have ez:(cc==0)=false:=by simpa using hz
    obtain ⟨pr,hpr⟩:∃ pr:Int,cc*kd=pr:=⟨_,rfl⟩
    have hw:IntKind.i64.wrap (cc*kd)=pr:=by
     rw [IntKind.wrap_i64,← hpr]
     rcases hdz with h | h
     ·rw [show kd=1 from h];omega
     ·rw [show kd=-1 from h];omega
    have HR:Hid (cmpO os a b=pr):=by show _=_;rw [HCm.out,if_neg hz,hpr]
    clear hz hpr hdz HCm hbd
    go_wp2_with fail
    go_ret
    exact ⟨ret_int (by rw [HR.out]),HBf.out⟩
  ·obtain rfl:k=n:=by omega
   have HR:Hid (cmpO os a b=0):=by show _=_;rw [HE.out,← Hln.out,List.drop_length];rfl
   go_wp2_with fail
   go_ret
   exact ⟨ret_int (by rw [HR.out]),HB.out⟩
end Go.Proofs.YtknakfpciccoaabGreatDoor
