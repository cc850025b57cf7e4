import Derived.Test.YtknakfpciccoaaaGreatDoorZF24
import Derived.Lib.SliceRun
import Derived.Test.YtknakfpciccoaaaGreatDoorZF15
/- Rows of values that are written over in place; clear. -/
set_option maxHeartbeats 8000000
set_option maxRecDepth 100000
namespace Go.Proofs.YtknakfpciccoaaaGreatDoor
open Go.RowKit
theorem LH (xs:List Value) (a b:Nat) (u:Value):cx (xs.set a u) b=if a=b/\a<xs.length then u else cx xs b:=by
 unfold cx;rw [List.getElem?_set];by_cases h:a=b
 ·subst h;by_cases h2:a<xs.length
  ·simp [h2]
  ·simp [h2]
 ·simp [h]
def qw (xs:List Value) (i:Nat) (u0 u1 u2 u3 u4:Value):List Value:=((((xs.set (i*5) u0).set (i*5+1) u1).set (i*5+2) u2).set (i*5+3) u3).set (i*5+4) u4
theorem FN {xs:List Value} {i:Nat} (h:i*5+5<=xs.length) (u0 u1 u2 u3 u4:Value):fv (qw xs i u0 u1 u2 u3 u4) i=.agg #[u0,u1,u2,u3,u4]:=by
 have n (ys:List Value) (a b:Nat) (u:Value) (hab:a≠b):cx (ys.set a u) b=cx ys b:=by rw [LH,if_neg (fun e=>hab e.1)]
 have y (ys:List Value) (a:Nat) (u:Value) (ha:a<ys.length):cx (ys.set a u) a=u:=by rw [LH,if_pos ⟨rfl,ha⟩]
 have e0:cx (qw xs i u0 u1 u2 u3 u4) (i*5)=u0:=by unfold qw;rw [n _ _ _ _ (by omega),n _ _ _ _ (by omega),n _ _ _ _ (by omega),n _ _ _ _ (by omega),y _ _ _ (by omega)]
 have e1:cx (qw xs i u0 u1 u2 u3 u4) (i*5+1)=u1:=by unfold qw;rw [n _ _ _ _ (by omega),n _ _ _ _ (by omega),n _ _ _ _ (by omega),y _ _ _ (by simp only [List.length_set];omega)]
 have e2:cx (qw xs i u0 u1 u2 u3 u4) (i*5+2)=u2:=by unfold qw;rw [n _ _ _ _ (by omega),n _ _ _ _ (by omega),y _ _ _ (by simp only [List.length_set];omega)]
 have e3:cx (qw xs i u0 u1 u2 u3 u4) (i*5+3)=u3:=by unfold qw;rw [n _ _ _ _ (by omega),y _ _ _ (by simp only [List.length_set];omega)]
 have e4:cx (qw xs i u0 u1 u2 u3 u4) (i*5+4)=u4:=by unfold qw;rw [y _ _ _ (by simp only [List.length_set];omega)]
 unfold fv;rw [e0,e1,e2,e3,e4]
theorem CX {xs:List Value} {i j:Nat} (h:j<i*5\/i*5+5<=j) (u0 u1 u2 u3 u4:Value):cx (qw xs i u0 u1 u2 u3 u4) j=cx xs j:=by
 unfold qw;simp only [LH,List.length_set];rw [if_neg (by omega),if_neg (by omega),if_neg (by omega),if_neg (by omega),if_neg (by omega)]
theorem tO {xs:List Value} {i k:Nat} (h:k≠i) (u0 u1 u2 u3 u4:Value):fv (qw xs i u0 u1 u2 u3 u4) k=fv xs k:=by
 unfold fv;have a (j:Nat) (hj:j<i*5\/i*5+5<=j):cx (qw xs i u0 u1 u2 u3 u4) j=cx xs j:=CX hj u0 u1 u2 u3 u4;rw [a _ (by omega),a _ (by omega),a _ (by omega),a _ (by omega),a _ (by omega)]
theorem dF {w w1 w2:World} {g:Option Nat} (h:w.grownBy w1 g) (k:w1.grownBy w2 g):w.grownBy w2 g :=
 ⟨k.os.trans h.os,k.tape.trans h.tape,k.output.trans h.output,Nat.le_trans h.size k.size,fun b hb hne=>(k.block b (Nat.lt_of_lt_of_le hb h.size) hne).trans (h.block b hb hne)⟩
theorem Jb (w:World) (g:Option Nat):w.grownBy w g:=⟨rfl,rfl,rfl,Nat.le_refl _,fun _ _ _=>rfl⟩
theorem dG {w w1:World} (g:Option Nat) (h:Below w.heap.size w w1):w.grownBy w1 g:=⟨h.os,h.tape,h.output,h.size,fun b hb _=>h.block b hb⟩
theorem SX {w:World} {base g n cap:Nat} {e:TypeId} {xs:List Value} (h:w.ownsRow base e 5 (.slice (some ⟨g,0,none⟩) n cap) n xs) (i:Nat) (u0 u1 u2 u3 u4:Value) :
  (eu w g (i*5) u0 u1 u2 u3 u4).ownsRow base e 5 (.slice (some ⟨g,0,none⟩) n cap) n (qw xs i u0 u1 u2 u3 u4)/\w.grownBy (eu w g (i*5) u0 u1 u2 u3 u4) (some g):=by
 have h0:=h.stored (i*5) u0;have h1:=h0.1.stored (i*5+1) u1;have h2:=h1.1.stored (i*5+2) u2;have h3:=h2.1.stored (i*5+3) u3;have h4:=h3.1.stored (i*5+4) u4;exact ⟨h4.1,dF (dF (dF (dF h0.2 h1.2) h2.2) h3.2) h4.2⟩
theorem vZ {base g n cap:Nat} {e:TypeId}:∀ (vs:List Value) (o:Nat) (w:World) (xs:List Value),w.ownsRow base e 5 (.slice (some ⟨g,0,none⟩) n cap) n xs ->
  ∃ ys,(w.setCells g o vs).ownsRow base e 5 (.slice (some ⟨g,0,none⟩) n cap) n ys/\ys.take o=xs.take o/\w.grownBy (w.setCells g o vs) (some g)
 | [],o,w,xs,h=>⟨xs,h,rfl,Jb _ _⟩
 | v::r,o,w,xs,h=>by
  have h0:=h.stored o v;obtain ⟨ys,h1,h2,h3⟩:=vZ r (o+1) (w.setCell ⟨g,o,none⟩ v) (xs.set o v) h0.1;refine ⟨ys,h1,?_,dF h0.2 h3⟩;have h4:=congrArg (List.take o) h2;rw [List.take_take,List.take_take,Nat.min_eq_left (by omega)] at h4;rw [h4,List.take_set_of_le (by omega)]
theorem SY {w:World} {base g n cap s:Nat} {e:TypeId} {xs:List Value} (h:w.ownsRow base e s (.slice (some ⟨g,0,none⟩) n cap) n xs) {i:Nat} (hi:i<=n):w.ownsRow base e s (.slice (some ⟨g,0,none⟩) i cap) i (xs.take (i*s)):=by
 have hm:i*s<=n*s:=Nat.mul_le_mul_right s hi;refine ⟨by rw [List.length_take,h.1];omega,?_⟩;rcases h.2 with ⟨h',_⟩ | ⟨g',cap',cur,h',hb,hg,hnc,hcm,hcs,htake⟩
 ·simp at h'
 ·simp only [Value.slice.injEq,Option.some.injEq,Addr.mk.injEq,and_true,true_and] at h';obtain ⟨rfl,rfl⟩:=h';exact .inr ⟨g,cap,cur,rfl,hb,hg,by omega,hcm,hcs,by rw [<- htake,List.take_take,Nat.min_eq_left hm]⟩
theorem wh {xs:List Value} {j m:Nat} (h:j<m):cx (xs.take m) j=cx xs j:=by
 unfold cx;rw [List.getElem?_take,if_pos h]
theorem FP {xs:List Value} {k i:Nat} (h:k<i):fv (xs.take (i*5)) k=fv xs k:=by
 unfold fv;rw [wh (by omega),wh (by omega),wh (by omega),wh (by omega),wh (by omega)]
theorem S9 {xs ys:List Value} {i:Nat} (h:ys.take (i*5)=xs.take (i*5)) {k:Nat} (hk:k<i):fv ys k=fv xs k:=by
 rw [<- FP (xs:=ys) hk,h,FP hk]
theorem Pq {w:World} {base g n cap:Nat} {xs:List Value} (h:w.ownsRow base 25 5 (.slice (some ⟨g,0,none⟩) n cap) n xs) (i m c:Nat) (hm:0<m) (hi:i+m<=n) :
  ∃ vs,∀ ty:TypeId,(Builtin.clear_ #[22] ty #[.slice (some ⟨g,i*5,none⟩) m c]).run Tryz.prog w=.ok (.tuple #[]) (w.setCells g (i*5) vs):=by
 have hv:∀ w,(zeroValue 25).run Tryz.prog w=.ok (.agg #[.int .i64 0,.int .i64 0,.string ⟨#[]⟩,.slice none 0 0,.slice none 0 0]) w:=fun w=>by kernel_rfl
 generalize hz:(Value.agg #[.int .i64 0,.int .i64 0,.string ⟨#[]⟩,.slice none 0 0,.slice none 0 0]).cells=zc at *;have hzs:zc.size=5:=by rw [<- hz];rfl
 have hz1:∀ j,j<5->(zc[j]!).oneCell'=true:=by
  intro j hj;rw [<- hz]
  match j,hj with
  | 0,_=>rfl
  | 1,_=>rfl
  | 2,_=>rfl
  | 3,_=>rfl
  | 4,_=>rfl
 have hl:(Builtin.zeroCells zc m).toList.length=m*5:=by rw [Array.length_toList,size_zeroCells,hzs]
 have h1:∀ v ∈ (Builtin.zeroCells zc m).toList,v.oneCell'=true:=by
  intro v hv;simp only [Builtin.zeroCells,Array.toList_map,List.mem_map] at hv;obtain ⟨a,_,rfl⟩:=hv;rw [hzs];exact hz1 _ (Nat.mod_lt _ (by omega))
 have hx:xs.length=n*5:=h.1;have hst:=run_storeCells_cells (P:=Tryz.prog) g (i*5) (Builtin.zeroCells zc m).toList 0 w (fun j hj=>by rw [hl] at hj;rw [h.cellAt _ (by omega),List.getElem?_eq_getElem (by omega)];rfl) (fun j hj=>h.frozenAt _) h1;simp only [Nat.add_zero] at hst;refine ⟨(Builtin.zeroCells zc m).toList,fun ty=>?_⟩;obtain ⟨m',rfl⟩:∃ m',m=m'+1:=⟨m - 1,by omega⟩;simp [Builtin.clear_,run_underlying Tryz.underlying22,hv,hz,hst]
def Ct (p:T->Bool) (l:List T) (j:Nat):List T:=(l.take j).filter fun t=>!(p t)
theorem Ta {p:T->Bool} {l:List T} {j:Nat} (h:j<l.length) (hp:p l[j]=false):Ct p l (j+1)=Ct p l j++[l[j]]:=by
 unfold Ct;rw [List.take_add_one,List.getElem?_eq_getElem h,List.filter_append];simp [hp]
theorem NS {p:T->Bool} {l:List T} {j:Nat} (h:j<l.length) (hp:p l[j]=true):Ct p l (j+1)=Ct p l j:=by
 unfold Ct;rw [List.take_add_one,List.getElem?_eq_getElem h,List.filter_append];simp [hp]
theorem NT (p:T->Bool) (l:List T):Ct p l l.length=l.filter fun t=>!(p t):=by unfold Ct;rw [List.take_length]
theorem Jc {p:T->Bool} {l:List T}:∀ j,j<=l.length->(∀ k,(h:k<l.length)->k<j->p l[k]=false)->Ct p l j=l.take j
 | 0,_,_=>by simp [Ct]
 | j+1,h,ha=>by rw [Ta (by omega) (ha j (by omega) (by omega)),Jc j (by omega) (fun k hk hj=>ha k hk (by omega)),List.take_add_one,List.getElem?_eq_getElem (by omega)];rfl
structure yZ (p:T->Bool) (Y:Nat->Prop) (f g n cap:Nat) (l:List T) (xs:List Value) (w wr:World) (i j:Nat) (ys:List Value):Prop where
 row:wr.ownsRow 0 25 5 (.slice (some ⟨g,0,none⟩) n cap) n ys
 grown:w.grownBy wr (some g)
 len:(Ct p l j).length=i
 lt:i<j
 at_:∀ k,(h:k<(Ct p l j).length)->nu Y wr f (fv ys k) (Ct p l j)[k]
 high:∀ k,j<=k->fv ys k=fv xs k
theorem ni {Y:Nat->Prop} {w wr:World} {f g:Nat} {v:Value} {t:T} (h:nu Y w f v t) (hY:∀ b,Y b->b≠g) (hG:w.grownBy wr (some g)):nu Y wr f v t :=
 h.move hG.size fun b hb hp=>⟨hp,hG.block b hb (by simpa using hY b hp)⟩
theorem uE {w:World} {base g n cap:Nat} {e:TypeId} {ys:List Value} (h:w.ownsRow base e 5 (.slice (some ⟨g,0,none⟩) n cap) n ys) {j:Nat} (hj:j<n):w.cell? ⟨g,j*5,none⟩=some (cx ys (j*5))/\w.cell? ⟨g,j*5+1,none⟩=some (cx ys (j*5+1))/\w.cell? ⟨g,j*5+2,none⟩=some (cx ys (j*5+2))/\w.cell? ⟨g,j*5+3,none⟩=some (cx ys (j*5+3))/\w.cell? ⟨g,j*5+4,none⟩=some (cx ys (j*5+4)):=by
 have hx:ys.length=n*5:=h.1;exact ⟨jH h (mg (by omega)),jH h (mg (by omega)),jH h (mg (by omega)),jH h (mg (by omega)),jH h (mg (by omega))⟩
theorem yZ.aas {p:T->Bool} {Y:Nat->Prop} {f g n cap:Nat} {l:List T} {xs:List Value} {w wr w3:World} {i j:Nat} {ys:List Value} (h:yZ p Y f g n cap l xs w wr i j ys) (hY:∀ b,Y b->b≠g) (hn:l.length=n) (hj:j<n) (hb:Below wr.heap.size wr w3) {c0 c1 c2 c3 c4:Value} (ha:nu Y w3 f (.agg #[c0,c1,c2,c3,c4]) (l[j]'(by omega))) (hp:p (l[j]'(by omega))=false) :
  yZ p Y f g n cap l xs w (eu w3 g (i*5) c0 c1 c2 c3 c4) (i+1) (j+1) (qw ys i c0 c1 c2 c3 c4):=by
 have hgl:g<wr.heap.size:=(h.row.lt g rfl).2;have r3:w3.ownsRow 0 25 5 (.slice (some ⟨g,0,none⟩) n cap) n ys:=dQ h.row fun b _ h2=>hb.block b h2;obtain ⟨r4,g4⟩:=SX r3 i c0 c1 c2 c3 c4;have hx:ys.length=n*5:=h.row.1;have hij:=h.lt;have hlen:=h.len;have gw:wr.grownBy (eu w3 g (i*5) c0 c1 c2 c3 c4) (some g):=dF (dG _ hb) g4;have e:=Ta (p:=p) (l:=l) (j:=j) (by omega) hp;refine ⟨r4,dF h.grown gw,by rw [e,List.length_append,hlen];rfl,by omega,fun k hk=>?_,fun k hk=>?_⟩
 ·have hk':k<i+1:=by rw [e,List.length_append,hlen] at hk;exact hk
  by_cases e1:k<i
  ·rw [tO (by omega)];have e2:(Ct p l (j+1))[k]=(Ct p l j)[k]'(by omega):=by simp only [e];rw [List.getElem_append_left (by omega)]
   rw [e2];exact ni (h.at_ k (by omega)) hY gw
  ·obtain rfl:k=i:=by omega
   rw [FN (by omega)];have e2:(Ct p l (j+1))[k]=l[j]'(by omega):=by simp only [e];rw [List.getElem_append_right (by omega)];simp [hlen]
   rw [e2];exact ni ha hY g4
 ·rw [tO (by omega)];exact h.high k (by omega)
theorem yZ.skip {p:T->Bool} {Y:Nat->Prop} {f g n cap:Nat} {l:List T} {xs:List Value} {w wr w3:World} {i j:Nat} {ys:List Value} (h:yZ p Y f g n cap l xs w wr i j ys) (hY:∀ b,Y b->b≠g) (hn:l.length=n) (hj:j<n) (hb:Below wr.heap.size wr w3) (hp:p (l[j]'(by omega))=true) :
  yZ p Y f g n cap l xs w w3 i (j+1) ys:=by
 have r3:w3.ownsRow 0 25 5 (.slice (some ⟨g,0,none⟩) n cap) n ys:=dQ h.row fun b _ h2=>hb.block b h2;have e:=NS (p:=p) (l:=l) (j:=j) (by omega) hp;refine ⟨r3,dF h.grown (dG _ hb),by rw [e];exact h.len,by have:=h.lt;omega,fun k hk=>?_,fun k hk=>h.high k (by omega)⟩;have e2:(Ct p l (j+1))[k]=(Ct p l j)[k]'(by rw [<- e];exact hk):=by simp only [e]
 rw [e2];exact ni (h.at_ k (by rw [<- e];exact hk)) hY (dG _ hb)
theorem yZ.done {p:T->Bool} {Y:Nat->Prop} {f g n cap:Nat} {l:List T} {xs:List Value} {w wr:World} {i:Nat} {ys:List Value} (h:yZ p Y f g n cap l xs w wr i n ys) (hY:∀ b,Y b->b≠g) (hn:l.length=n) (vs:List Value) :
  w.grownBy (wr.setCells g (i*5) vs) (some g)/\∃ zs,(wr.setCells g (i*5) vs).ownsRow 0 25 5 (.slice (some ⟨g,0,none⟩) (l.filter fun t=>!(p t)).length cap) (l.filter fun t=>!(p t)).length zs/\∀ k,(hk:k<(l.filter fun t=>!(p t)).length)->nu Y (wr.setCells g (i*5) vs) f (fv zs k) (l.filter fun t=>!(p t))[k]:=by
 obtain ⟨zs,h1,h2,h3⟩:=vZ vs (i*5) wr ys h.row;have hlen:=h.len;have hij:=h.lt;subst hn;have e:=NT p l;refine ⟨dF h.grown h3,zs.take (i*5),?_,fun k hk=>?_⟩
 ·rw [<- e,hlen];exact SY h1 (by omega)
 ·have hk':k<(Ct p l l.length).length:=by rw [e];exact hk
  rw [FP (by omega),S9 h2 (by omega)];have e2:(l.filter fun t=>!(p t))[k]=(Ct p l l.length)[k]:=by simp only [e]
  rw [e2];exact ni (h.at_ k hk') hY h3
theorem rO (l:List T) {k:Nat} (h:k<l.length):elt (dU 5 0 ByteArray.empty l []) k=l[k]:=by rw [pO,List.getD_eq_getElem?_getD,List.getElem?_eq_getElem h];rfl
theorem BG {p:T->Bool} {t:T}:∀ {k j:Nat},bg p t k=false->j<k->p (elt t j)=false
 | 0,_,_,h=>absurd h (Nat.not_lt_zero _)
 | k+1,j,h,hj=>by
  rw [bg,Bool.or_eq_false_iff] at h;by_cases e:j<k
  ·exact BG h.1 e
  ·obtain rfl:j=k:=by omega
   exact h.2
def VB (p:T->Bool) (Y:Nat->Prop) (f g cap:Nat) (l:List T) (w:World) (e:Ending) (w':World):Prop :=
 e=.returned (.slice (some ⟨g,0,none⟩) (l.filter fun t=>!(p t)).length cap)/\w.grownBy w' (some g)/\∃ ys,w'.ownsRow 0 25 5 (.slice (some ⟨g,0,none⟩) (l.filter fun t=>!(p t)).length cap) (l.filter fun t=>!(p t)).length ys/\∀ i,(h:i<(l.filter fun t=>!(p t)).length)->nu Y w' f (fv ys i) (l.filter fun t=>!(p t))[i]
theorem BH (p:T->Bool) (gid:FuncId) (Pt:∀ (a:Array Value) (w:World),(callFunc gid a).run Tryz.prog w=.ok (.enter gid a) w) (pv:Value) (f:Nat) (Y:Nat->Prop) (g n cap:Nat) (l:List T) (xs:List Value) (w:World)
  (hr:w.ownsRow 0 25 5 (.slice (some ⟨g,0,none⟩) n cap) n xs) (hn:l.length=n) (hn2:n<=1000000) (hY:∀ b,Y b->b≠g) (hat:∀ i,(h:i<l.length)->nu Y w f (fv xs i) l[i])
  (hP:∀ k,(h:k<l.length)->∀ (wr:World) (v:Value),w.grownBy wr (some g)->At wr f v l[k]->Calls Tryz.prog gid #[pv,v] wr fun e w'=>e=.returned (.bool (p l[k]))/\Below wr.heap.size wr w') :
  Calls Tryz.prog 112 #[.slice (some ⟨g,0,none⟩) n cap,.func (Fn.func gid) #[pv] #[]] w (VB p Y f g cap l w):=by
 have hel:bC w f (some ⟨g,0,none⟩) (dU 5 0 ByteArray.empty l []):=by
  intro k hk;rw [cK] at hk;obtain ⟨q0,q1,q2,q3,q4⟩:=uE hr (j:=k) (by omega);refine ⟨g,0,_,_,_,_,_,rfl,(hr.lt g rfl).2,(by rw [Nat.zero_add];exact q0),(by rw [Nat.zero_add];exact q1),(by rw [Nat.zero_add];exact q2),(by rw [Nat.zero_add];exact q3),(by rw [Nat.zero_add];exact q4),?_⟩;rw [rO l hk];exact (hat k hk).at
 have Xe:=aj (mQ p gid Pt pv f (some ⟨g,0,none⟩) cap (dU 5 0 ByteArray.empty l []) w hel (by rw [cK];omega) (fun k hk wr v hb ha=>by
  rw [cK] at hk;rw [rO l hk] at ha ⊢;exact hP k hk wr v (dG _ hb) ha))
 rw [cK,hn] at Xe
 have hcap:n<=cap:=by
  rcases hr.2 with ⟨h',_⟩ | ⟨g',cap',cur,h',_,_,hnc,_⟩
  ·simp at h'
  ·simp only [Value.slice.injEq,Option.some.injEq,Addr.mk.injEq,and_true,true_and] at h';omega
 have aeM:cap<=9223372036854775807:=by
  rcases hr.2 with ⟨h',_⟩ | ⟨g',cap',cur,h',_,_,_,hcm,_⟩
  ·simp at h'
  ·simp only [Value.slice.injEq,Option.some.injEq,Addr.mk.injEq,and_true,true_and] at h';unfold maxLen at hcm;omega
 have HR:=aj hr;have Hn:=aj hn;have HY:=aj hY;have xu:=aj hat;have HP:=aj hP;clear hr hn hY hat hP hel;go_in;go_wp2_with fail;refine Xe.out.mono ?_;rintro e w1 ⟨b1,m,rfl,⟨rfl,hno⟩ | ⟨k0,rfl,hk0,hp0,hbef⟩⟩
 ·have HF:Hid ((l.filter fun t=>!(p t))=l):=by
   show _=_;rw [List.filter_eq_self];intro a ha;obtain ⟨k,hk,rfl⟩:=List.getElem_of_mem ha;have:=BG hno (by rw [<- Hn.out];exact hk);rw [rO l hk] at this;simp [this]
  have HB:=aj b1;clear b1 hno Xe;go_wp2_with fail;go_ret;refine ⟨by rw [HF.out,Hn.out];rfl,dG _ HB.out,xs,?_,?_⟩
  ·rw [HF.out,Hn.out];exact dQ HR.out fun b _ h2=>HB.out.block b h2
  ·simp only [HF.out];exact fun i hi=>ni (xu.out i hi) HY.out (dG _ HB.out)
 ·have Ya:k0<l.length:=by rw [Hn.out];exact hk0
  rw [rO l Ya] at hp0;have hkp:Ct p l k0=l.take k0:=Jc k0 (by omega) (fun k hk hj=>by have:=BG hbef hj;rwa [rO l hk] at this)
  have HI0:Hid (yZ p Y f g n cap l xs w w1 k0 (k0+1) xs):=by
   have e:=NS (p:=p) Ya hp0;refine ⟨dQ HR.out fun b _ h2=>b1.block b h2,dG _ b1,by rw [e,hkp,List.length_take];omega,by omega,fun k hk=>?_,fun _ _=>rfl⟩;have hk':k<k0:=by rw [e,hkp,List.length_take] at hk;omega
   have e2:(Ct p l (k0+1))[k]=l[k]'(by omega):=by simp only [e,hkp];rw [List.getElem_take]
   rw [e2];exact ni (xu.out k (by omega)) HY.out (dG _ b1)
  clear b1 hp0 hbef Xe hkp Ya HR;go_wp2_with fail;go_loopg [5,6] (n - (k0+1)) (fun gg s5 s6 wr=>∃ (i j:Nat) (ys:List Value),gg=n - j/\j<=n/\s5=.int .i64 i/\s6=.int .i64 j/\Hid (yZ p Y f g n cap l xs w wr i j ys))
  case atStart=>exact ⟨k0,k0+1,xs,rfl,by omega,rfl,by go_num,HI0⟩
  case round =>
   clear HI0;obtain ⟨i,j,ys,rfl,hj,rfl,rfl,HI⟩:=hrel;have hij:=HI.out.lt;by_cases hlt:j<n
   ·have hjl:j<l.length:=by rw [Hn.out];exact hlt
    have HaP:Hid (nu Y wr f (fv ys j) (l[j]'hjl)):=by
     show nu Y wr f (fv ys j) (l[j]'hjl);rw [HI.out.high j (Nat.le_refl _)];exact ni (xu.out j hjl) HY.out HI.out.grown
    have HPj:=aj (HP.out j hjl);have HKe:Hid (∀ (w3:World),Below wr.heap.size wr w3->∀ c0 c1 c2 c3 c4,nu Y w3 f (.agg #[c0,c1,c2,c3,c4]) (l[j]'hjl)->p (l[j]'hjl)=false->yZ p Y f g n cap l xs w (eu w3 g (i*5) c0 c1 c2 c3 c4) (i+1) (j+1) (qw ys i c0 c1 c2 c3 c4)):=fun w3 hb c0 c1 c2 c3 c4 ha hp=>HI.out.aas HY.out Hn.out hlt hb ha hp;have HSk:Hid (∀ (w3:World),Below wr.heap.size wr w3->p (l[j]'hjl)=true->yZ p Y f g n cap l xs w w3 i (j+1) ys):=fun w3 hb hp=>HI.out.skip HY.out Hn.out hlt hb hp;generalize l[j]'hjl=t at HaP HPj HKe HSk;obtain ⟨p0,p1,p2,p3,p4⟩:=uE HI.out.row hlt;obtain ⟨f1,La,Ka,Lc,Kc,hf1,hv,_,_,_⟩:=HaP.out.at.open;have HAe:=aj HaP.out;rw [hv] at HAe;unfold fv at hv;simp only [Value.agg.injEq,Array.mk.injEq,List.cons.injEq,and_true] at hv;obtain ⟨v0,v1,v2,v3,v4⟩:=hv;rw [v0] at p0;rw [v1] at p1;rw [v2] at p2;rw [v3] at p3;rw [v4] at p4;have jQ:=aj (bG wr (vC t La Lc Ka Kc));have sS:=aj (bD wr (.int .i64 (ah t)) (.int .i64 (aB t)) (.string (aF t)) (.slice La (nL t) Lc) (.slice Ka (nK t) Kc));have HC:=aj (HPj.out _ _ (dF HI.out.grown (dG _ jQ.out)) (At.keep jQ.out HAe.out.at));have y1:(j:Int)<(n:Int):=by omega
    have y2:(i:Int)<(n:Int):=by omega
    have y3:IntKind.i64.wrap ((j:Int)+1)=(j:Int)+1:=by rw [IntKind.wrap_i64];omega
    have y4:IntKind.i64.wrap ((i:Int)+1)=(i:Int)+1:=by rw [IntKind.wrap_i64];omega
    clear v0 v1 v2 v3 v4 hf1 HPj HaP;cases hp:p t with
    | false =>
     rw [hp] at HC;have Hp:=aj hp;clear hp;go_wp2_with fail;refine HC.out.mono ?_;rintro e w3 ⟨rfl,b3⟩;have HB3:=aj (jQ.out.trans (b3.mono jQ.out.size));have pI:=aj (sS.out.stay b3);have HR3:Hid (w3.ownsRow 0 25 5 (.slice (some ⟨g,0,none⟩) n cap) n ys):=dQ HI.out.row fun b _ h2=>HB3.out.block b h2;have HI4:=aj (HKe.out w3 HB3.out _ _ _ _ _ (HAe.out.move (q:=Y) HB3.out.size fun b hb hy=>⟨hy,HB3.out.block b hb⟩) Hp.out);obtain ⟨q0,q1,q2,q3,q4⟩:=uE HR3.out (j:=i) (by omega);have z0:=HR3.out.frozenAt (i*5);have z1:=HR3.out.frozenAt (i*5+1);have z2:=HR3.out.frozenAt (i*5+2);have z3:=HR3.out.frozenAt (i*5+3);have z4:=HR3.out.frozenAt (i*5+4);unfold eu at HI4;have r0:=pI.out.q0;have r1:=pI.out.q1;have r2:=pI.out.q2;have r3:=pI.out.q3;have r4:=pI.out.q4;clear b3 HC jQ sS pI HR3 HB3 HAe HKe HSk HI p0 p1 p2 p3 p4;generalize qw ys i (.int .i64 (ah t)) (.int .i64 (aB t)) (.string (aF t)) (.slice La (nL t) Lc) (.slice Ka (nK t) Kc)=ys' at HI4;generalize cx ys (i*5)=g0 at q0;generalize cx ys (i*5+1)=g1 at q1;generalize cx ys (i*5+2)=g2 at q2;generalize cx ys (i*5+3)=g3 at q3;generalize cx ys (i*5+4)=g4 at q4;go_wp2_with fail;go_roundg (n - (j+1))
     case rel=>exact ⟨i+1,j+1,ys',rfl,by omega,by go_num,by go_num,(by with_reducible exact HI4)⟩
     case measure=>omega
    | true =>
     rw [hp] at HC;have Hp:=aj hp;clear hp;go_wp2_with fail;refine HC.out.mono ?_;rintro e w3 ⟨rfl,b3⟩;have HI4:=aj (HSk.out w3 (jQ.out.trans (b3.mono jQ.out.size)) Hp.out);clear b3 HC jQ sS HAe HKe HSk HI p0 p1 p2 p3 p4;go_wp2_with fail;go_roundg (n - (j+1))
     case rel=>exact ⟨i,j+1,ys,rfl,by omega,rfl,by go_num,HI4⟩
     case measure=>omega
   ·obtain rfl:j=n:=by omega
    obtain ⟨vs,hcl⟩:=Pq HI.out.row i (j - i) (cap - i) (by omega) (by omega);have HD:=aj (HI.out.done HY.out Hn.out vs);have Hlen:Hid ((l.filter fun t=>!(p t)).length=i):=by show _=_;rw [<- NT,Hn.out];exact HI.out.len
    have y1:(i:Int)<=(j:Int):=by omega
    go_wp2_with fail;go_ret;exact ⟨by rw [Hlen.out];rfl,HD.out⟩
def aau (p:T->Bool) (Y:Nat->Prop) (f:Nat) (v:Value) (l:List T) (w:World) (e:Ending) (w':World):Prop :=
 ∃ v',e=.returned v'/\v'.ownBlock=v.ownBlock/\w.grownBy w' v.ownBlock/\∃ ys,w'.ownsRow 0 25 5 v' (l.filter fun t=>!(p t)).length ys/\∀ i,(h:i<(l.filter fun t=>!(p t)).length)->nu Y w' f (fv ys i) (l.filter fun t=>!(p t))[i]
theorem CY (p:T->Bool) (gid:FuncId) (Pt:∀ (a:Array Value) (w:World),(callFunc gid a).run Tryz.prog w=.ok (.enter gid a) w) (pv:Value) (f:Nat) (Y:Nat->Prop) (w:World) :
  Calls Tryz.prog 112 #[.slice none 0 0,.func (Fn.func gid) #[pv] #[]] w (aau p Y f (.slice none 0 0) [] w):=by
 have Xe:=aj (mQ p gid Pt pv f none 0 (dU 5 0 ByteArray.empty [] []) w (fun k hk=>absurd hk (Nat.not_lt_zero k)) (by rw [cK];simp) (fun k hk=>absurd hk (Nat.not_lt_zero k)));have e0:nL (dU 5 0 ByteArray.empty [] [])=0:=rfl;rw [e0] at Xe;clear e0;go_in;go_wp2_with fail;refine Xe.out.mono ?_;rintro e w1 ⟨b1,m,rfl,⟨rfl,hno⟩ | ⟨k0,rfl,hk0,_⟩⟩
 ·have HB:=aj b1;clear b1 hno Xe;go_wp2_with fail;go_ret;exact ⟨_,rfl,rfl,dG _ HB.out,[],World.ownsRow_nil _ _ _ _,fun i hi=>absurd hi (Nat.not_lt_zero i)⟩
 ·exact absurd hk0 (Nat.not_lt_zero k0)
theorem LJ (p:T->Bool) (gid:FuncId) (Pt:∀ (a:Array Value) (w:World),(callFunc gid a).run Tryz.prog w=.ok (.enter gid a) w) (pv:Value) (f:Nat) (Y:Nat->Prop) (v:Value) (l:List T) (xs:List Value) (w:World)
  (hr:w.ownsRow 0 25 5 v l.length xs) (hn2:l.length<=1000000) (hY:∀ b,Y b->v.ownBlock≠some b) (hat:∀ i,(h:i<l.length)->nu Y w f (fv xs i) l[i])
  (hP:∀ k,(h:k<l.length)->∀ (wr:World) (x:Value),w.grownBy wr v.ownBlock->At wr f x l[k]->Calls Tryz.prog gid #[pv,x] wr fun e w'=>e=.returned (.bool (p l[k]))/\Below wr.heap.size wr w') :
  Calls Tryz.prog 112 #[v,.func (Fn.func gid) #[pv] #[]] w (aau p Y f v l w):=by
 rcases hr.2 with ⟨rfl,h0⟩ | ⟨g,cap,cur,rfl,_⟩
 ·obtain rfl:l=[]:=List.eq_nil_of_length_eq_zero h0;exact CY p gid Pt pv f Y w
 ·refine (BH p gid Pt pv f Y g l.length cap l xs w hr rfl hn2 (fun b hb e=>hY b hb (by rw [e];rfl)) hat hP).mono ?_;rintro e w' ⟨rfl,hG,ys,hO,hA⟩;exact ⟨_,rfl,rfl,hG,ys,hO,hA⟩
def zO (p:T->Bool) (Y:Nat->Prop) (f c:Nat) (v:Value) (l:List T) (w:World) (e:Ending) (w':World):Prop :=
 e=.returned (.int .i64 ((l.length:Int) - ((l.filter fun t=>!(p t)).length:Int)))/\sU c v.ownBlock w w'/\∃ v' ys,w'.cell? ⟨c,0,none⟩=some v'/\w'.frozen? ⟨c,0,none⟩=false/\v'.ownBlock=v.ownBlock/\w'.ownsRow 0 25 5 v' (l.filter fun t=>!(p t)).length ys/\∀ i,(h:i<(l.filter fun t=>!(p t)).length)->nu Y w' f (fv ys i) (l.filter fun t=>!(p t))[i]
theorem VD {Y:Nat->Prop} {f c k:Nat} {v v':Value} {w w2 w3:World} {ys:List Value} {r:List T} (h3:w3=w2.setCell ⟨c,0,none⟩ v') (hG:w.grownBy w2 v.ownBlock) (BI:v'.ownBlock=v.ownBlock) (hO:w2.ownsRow 0 25 5 v' k ys) (hA:∀ i,(h:i<r.length)->nu Y w2 f (fv ys i) r[i])
  (hc:w.cell? ⟨c,0,none⟩=some v) (hf:w.frozen? ⟨c,0,none⟩=false) (hcl:c<w.heap.size) (hap:v.ownBlock≠some c) (hY:∀ b,Y b->b≠c) :
  sU c v.ownBlock w w3/\w3.cell? ⟨c,0,none⟩=some v'/\w3.frozen? ⟨c,0,none⟩=false/\w3.ownsRow 0 25 5 v' k ys/\∀ i,(h:i<r.length)->nu Y w3 f (fv ys i) r[i]:=by
 have hcb:w2.heap[c]?=w.heap[c]?:=hG.block c hcl (fun e=>hap e.symm);obtain ⟨t1,t2,t3,t4⟩:=fE w2 ⟨c,0,none⟩ v';have k1:=World.cell?_setCell_same w2 ⟨c,0,none⟩ v' ((aC hcb 0).trans hc)
 have k2:(w2.setCell ⟨c,0,none⟩ v').frozen? ⟨c,0,none⟩=false:=by
  rw [World.frozen?_setCell];exact (World.frozen?_of_block (a:=⟨c,0,none⟩) hcb).trans hf
 have k3:=ownsRow_setCell_other (a:=⟨c,0,none⟩) hO (by rw [BI];exact hap) v';have k4:∀ b,b≠c->(w2.setCell ⟨c,0,none⟩ v').heap[b]?=w2.heap[b]?:=fun b hb=>Below.heap_setCell _ _ _ _ (by simpa using hb);rw [<- h3] at t1 t2 t3 t4 k1 k2 k3 k4;have s2:=hG.size;exact ⟨⟨t2.trans hG.os,t3.trans hG.tape,t4.trans hG.output,by omega,fun b hb h1 h2=>(k4 b h1).trans (hG.block b hb h2)⟩,k1,k2,k3,fun i hi=>(hA i hi).move (by omega) fun b _ hy=>⟨hy,k4 b (hY b hy)⟩⟩
theorem LK (p:T->Bool) (pv:Value) (f c:Nat) (Y:Nat->Prop) (v:Value) (l:List T) (xs:List Value) (w:World)
  (hc:w.cell? ⟨c,0,none⟩=some v) (hf:w.frozen? ⟨c,0,none⟩=false) (hcl:c<w.heap.size) (hap:v.ownBlock≠some c) (hr:w.ownsRow 0 25 5 v l.length xs) (hn2:l.length<=1000000) (hY:∀ b,Y b->v.ownBlock≠some b/\b≠c) (hat:∀ i,(h:i<l.length)->nu Y w f (fv xs i) l[i])
  (hP:∀ k,(h:k<l.length)->∀ (wr:World) (x:Value),w.grownBy wr v.ownBlock->At wr f x l[k]->Calls Tryz.prog 111 #[pv,x] wr fun e w'=>e=.returned (.bool (p l[k]))/\Below wr.heap.size wr w') :
  Calls Tryz.prog 66 #[.pointer (some ⟨c,0,none⟩),pv] w (zO p Y f c v l w):=by
 have Zm:∀ (fn:Fn) (first cap:Array Value) (w:World),(Instr.makeFunc fn first cap).run Tryz.prog w=.ok (.func fn first cap) w:=fun _ _ _ _=>rfl;have HD:=aj (LJ p 111 (fun _ _=>rfl) pv f Y v l xs w hr hn2 (fun b hb=>(hY b hb).1) hat hP);have HFin:Hid (∀ (v':Value) (ys:List Value) (w2 w3:World),w3=w2.setCell ⟨c,0,none⟩ v'->w.grownBy w2 v.ownBlock->v'.ownBlock=v.ownBlock->w2.ownsRow 0 25 5 v' (l.filter fun t=>!(p t)).length ys->(∀ i,(h:i<(l.filter fun t=>!(p t)).length)->nu Y w2 f (fv ys i) (l.filter fun t=>!(p t))[i])->sU c v.ownBlock w w3/\w3.cell? ⟨c,0,none⟩=some v'/\w3.frozen? ⟨c,0,none⟩=false/\w3.ownsRow 0 25 5 v' (l.filter fun t=>!(p t)).length ys/\∀ i,(h:i<(l.filter fun t=>!(p t)).length)->nu Y w3 f (fv ys i) (l.filter fun t=>!(p t))[i]):=fun v' ys w2 w3 h3 hG BI hO hA=>VD h3 hG BI hO hA hc hf hcl hap (fun b hb=>(hY b hb).2);have pJ:Hid (∀ w2:World,w.grownBy w2 v.ownBlock->w2.cell? ⟨c,0,none⟩=some v/\w2.frozen? ⟨c,0,none⟩=false):=fun w2 hG=>⟨(aC (hG.block c hcl (fun e=>hap e.symm)) 0).trans hc,(World.frozen?_of_block (a:=⟨c,0,none⟩) (hG.block c hcl (fun e=>hap e.symm))).trans hf⟩;obtain ⟨A,cp,hv⟩:=o8 hr;have Hlen:=aj (List.length_filter_le (fun t=>!(p t)) l);have hn3:=hn2;clear hr hat hP hY hap hcl hf;subst hv;go_in;go_wp2_with fail;refine HD.out.mono ?_;rintro e w2 ⟨v',rfl,BI,hG,ys,hO,hA⟩;obtain ⟨A',cp',rfl⟩:=o8 hO;obtain ⟨q0,f0⟩:=pJ.out w2 hG;have HF:=aj (HFin.out _ ys w2 _ rfl hG BI hO hA);have Hob:=aj BI
 have q1:=HF.out.2.1;obtain ⟨m,hm⟩:∃ m,(l.filter fun t=>!(p t)).length=m:=⟨_,rfl⟩;obtain ⟨k,hk⟩:∃ k,l.length=k:=⟨_,rfl⟩;have Hmk:=aj (And.intro hm hk);have hle:=Hlen.out;rw [hm,hk] at hle;rw [hk] at hn3 hc;rw [hk] at q0;rw [hm] at q1;have hw:IntKind.i64.wrap ((k:Int) - (m:Int))=(k:Int) - (m:Int):=by rw [IntKind.wrap_i64];omega
 clear BI hG hO hA HD HFin pJ hle;rw [hk,hm];go_wp2_with fail;go_ret;obtain ⟨h1,h2⟩:=Hmk.out;subst h1;subst h2;refine ⟨rfl,HF.out.1,_,ys,HF.out.2.1,HF.out.2.2.1,Hob.out,HF.out.2.2.2.1,HF.out.2.2.2.2⟩
end Go.Proofs.YtknakfpciccoaaaGreatDoor
/- Delete, Drop, and the store behind them. -/
namespace Go.Proofs.YtknakfpciccoaaaGreatDoor
open Go.RowKit Go.Maps Go.WideMaps
theorem Tc {B:Nat} {w w':World} {g:Option Nat} (h:w.grownBy w' g) (hB:B<=w.heap.size) (hg:∀ b,g=some b->B<=b):Below B w w' :=
 ⟨h.os,h.tape,h.output,h.size,fun b hb=>h.block b (by omega) (fun e=>by have:=hg b e.symm;omega)⟩
def Yb (w:World) (x s:ByteArray) (Dm:DataW Unit) (L:Nat->Nat) (lf:Nat->List T) (vf:Nat->Value) (e:Ending) (w':World):Prop :=
 (Below w.heap.size w w'/\eJ s≠0/\e=.returned (.tuple #[.int .i64 0,.int .i64 (eJ s)])) \/
 (Below w.heap.size w w'/\eJ s=0/\aL 16 (tJ s)=false/\e=.returned (.tuple #[.int .i64 0,.int .i64 8])) \/
 (Below w.heap.size w w'/\eJ s=0/\aL 16 (tJ s)=true/\qC Dm x=.nil/\e=.returned (.tuple #[.int .i64 0,.int .i64 10])) \/
 (eJ s=0/\aL 16 (tJ s)=true/\∃ c:Nat,qC Dm x=.lit (.int .i64 c)/\∃ w1 n,Below w.heap.size w w1/\e=.returned (.tuple #[.int .i64 n,.int .i64 0])/\zO (dN 16 (tJ s)) (fun b=>L b=1) 13 c (vf c) (lf c) w1 (.returned (.int .i64 n)) w')
theorem Jd {Tb:World->Prop} (hA:dS Tb) (L:Nat->Nat) (B p m n:Nat) (Dm:DataW Unit) (lf:Nat->List T) (vf:Nat->Value) (xf:Nat->List Value) (x s:ByteArray) (w:World) (hs:s.size<=140737488355328) (hx:x.size<=140737488355328) (hst:uD L w p m n Dm lf vf xf) (hB:∀ b,L b≠0->B<=b) (hn:∀ c:Nat,(lf c).length<=1000000) (hT:∀ w',Below B w w'->Tb w') :
  Calls Tryz.prog 31 #[.pointer (some ⟨p,0,none⟩),.string x,.string s] w (Yb w x s Dm L lf vf):=by
 have HC:=aj (Bt hA.dec hA.int hA.split hA.lies p m n Dm x s w hs hx hst.CW (hT w (Below.refl _ _)))
 have HRm:Hid (∀ (c:Nat) (Ny:Value) (w1:World),qC Dm x=.lit (.int .i64 (c:Nat))->Below w.heap.size w w1->X5 w w1 Ny (tJ s)->Calls Tryz.prog 66 #[.pointer (some ⟨c,0,none⟩),Ny] w1 (zO (dN 16 (tJ s)) (fun b=>L b=1) 13 c (vf c) (lf c) w1)):=by
  intro c Ny w1 hc b1 hfs;have hco:=(hst.keep b1).col x c hc;have BI:∀ b,(vf c).ownBlock=some b->b<w.heap.size/\B<=b/\L b=5+c:=fun b e=>⟨hst.low b (by rw [hco.fP b e];omega),hB b (by rw [hco.fP b e];omega),hco.fP b e⟩;have hBw:B<=w.heap.size:=Nat.le_trans (hB p (by rw [hst.lp];omega)) (Nat.le_of_lt hst.CW.low);have s1:=b1.size;refine LK (dN 16 (tJ s)) Ny 13 c (fun b=>L b=1) (vf c) (lf c) (xf c) w1 hco.cell hco.free ((hst.keep b1).low c (by rw [hco.lab];omega)) (fun e=>by have:=(BI c e).2.2;have:=hco.lab;omega) hco.row (hn c) (fun b hb=>⟨fun e=>by have:=(BI b e).2.2;omega,fun e=>by have:=hco.lab;subst e;omega⟩) hco.at_ ?_;intro k hk wr v hG ha;have hbl:Below B w1 wr:=Tc hG (by omega) (fun b e=>(BI b e).2.1);exact Fx hA.atoi hA.itoa hA.lies 16 Ny (tJ s) 13 v _ wr (hfs wr hG.size (fun b h1 h2=>hG.block b h2 (fun e=>by have:=(BI b e.symm).1;omega))) ha (by omega) (hco.doc k hk).1 (hT wr ((b1.mono hBw).trans hbl))
 clear hst hT hs hx hA hB hn;go_in;go_wp2_with fail;refine HC.out.mono ?_;rintro e w1 ⟨b1,⟨h1,rfl⟩ | ⟨h1,h2,rfl⟩ | ⟨h1,h2,h3,rfl⟩ | ⟨h1,h2,c,h3,fv,rfl,h4,h5⟩⟩
 ·have HB:=aj b1;have H1:=aj h1;have ez:(eJ s==0)=false:=by simpa using h1
  clear b1 h1 HC;go_wp2_with fail;refine bodyPost_ret (v:=.tuple #[.int .i64 0,.int .i64 (eJ s)]) (by simp [results,Tryz.results31,go_sem, *]) rfl ?_;exact .inl ⟨HB.out,H1.out,rfl⟩
 ·have HB:=aj b1;have H1:=aj (And.intro h1 h2);clear b1 h1 h2 HC;go_wp2_with fail;refine bodyPost_ret (v:=.tuple #[.int .i64 0,.int .i64 8]) (by simp [results,Tryz.results31,go_sem, *]) rfl ?_;exact .inr (.inl ⟨HB.out,H1.out.1,H1.out.2,rfl⟩)
 ·have HB:=aj b1;have H1:=aj (And.intro h1 (And.intro h2 h3));clear b1 h1 h2 h3 HC;go_wp2_with fail;refine bodyPost_ret (v:=.tuple #[.int .i64 0,.int .i64 10]) (by simp [results,Tryz.results31,go_sem, *]) rfl ?_;exact .inr (.inr (.inl ⟨HB.out,H1.out.1,H1.out.2.1,H1.out.2.2,rfl⟩))
 ·have HB:=aj b1;have H1:=aj (And.intro h1 (And.intro h2 h3));have HR:=aj (HRm.out c fv w1 h3 b1 h5);clear b1 h1 h2 h3 h4 h5 HC HRm;go_wp2_with fail;refine HR.out.mono ?_;intro e w2 hr;obtain ⟨nn,hnn⟩:∃ nn:Int,((lf c).length:Int) - (((lf c).filter fun t=>!(dN 16 (tJ s) t)).length:Int)=nn:=⟨_,rfl⟩;have he:=hr.1;rw [hnn] at he;subst he;have HR2:=aj hr;clear hr HR hnn;go_wp2_with fail;refine bodyPost_ret (v:=.tuple #[.int .i64 nn,.int .i64 0]) (by simp [results,Tryz.results31,go_sem, *]) rfl ?_;exact .inr (.inr (.inr ⟨H1.out.1,H1.out.2.1,c,H1.out.2.2,w1,nn,HB.out,rfl,HR2.out⟩))
theorem uD.rem {L:Nat->Nat} {w w1 w':World} {p m n:Nat} {D:DataW Unit} {lf:Nat->List T} {vf:Nat->Value} {xf:Nat->List Value} (h:uD L w p m n D lf vf xf) {x:ByteArray} {c:Nat} (hx:qC D x=.lit (.int .i64 (c:Nat))) (hb:Below w.heap.size w w1) {q:T->Bool} {e:Ending} (hr:zO q (fun b=>L b=1) 13 c (vf c) (lf c) w1 e w') :
  ∃ v' ys,uD L w' p m n D (upd lf c ((lf c).filter fun t=>!(q t))) (upd vf c v') (upd xf c ys)/\sU c (vf c).ownBlock w1 w':=by
 obtain ⟨_,hB,v',ys,q0,f0,BI,hO,hat⟩:=hr;have hc:=h.col x c hx;have s1:=hb.size;have s2:=hB.size;have old:∀ b,L b≠0->L b≠5+c->b≠c->w'.heap[b]?=w.heap[b]?:=fun b h0 h1 h2=>(hB.block b (by have:=h.low b h0;omega) h2 (fun e=>h1 (hc.fP b e.symm))).trans (hb.block b (h.low b h0));refine ⟨v',ys,⟨?_,h.lp,h.lm,fun b hl=>by have:=h.low b hl;omega,fun y c' hy=>?_⟩,hB⟩
 ·exact h.CW.move (by omega) (old p (by rw [h.lp];omega) (by rw [h.lp];omega) (fun e=>by have:=h.lp;have:=hc.lab;subst e;omega)) (old m (by rw [h.lm];omega) (by rw [h.lm];omega) (fun e=>by have:=h.lm;have:=hc.lab;subst e;omega))
 ·by_cases ec:c'=c
  ·subst ec;rw [bX,bX,bX];refine ⟨hc.lab,q0,f0,hO,fun b e=>hc.fP b (by rw [<- BI];exact e),hat,fun i hi=>?_⟩;have hm:=List.getElem_mem hi;obtain ⟨hm1,_⟩:=List.mem_filter.1 hm;obtain ⟨k,hk,e⟩:=List.getElem_of_mem hm1;rw [<- e];exact hc.doc k hk
  ·rw [bB _ _ ec,bB _ _ ec,bB _ _ ec];refine (h.col y c' hy).move (by omega) fun b hl=>⟨rfl,old b (by omega) (by omega) (fun e2=>by have:=hc.lab;subst e2;omega)⟩
end Go.Proofs.YtknakfpciccoaaaGreatDoor
/- Drop, and the store behind it. -/
namespace Go.Proofs.YtknakfpciccoaaaGreatDoor
open Go.RowKit Go.Maps Go.WideMaps
theorem mo (D:DataW Unit) (x:ByteArray):qC (D.del (o7 x)) x=.nil:=atKey_del_same .nil
theorem kI (D:DataW Unit) {x y:ByteArray} (h:y≠x):qC (D.del (o7 x)) y=qC D y:=atKey_del_other (zN h) .nil
def Yc (w:World) (p m n:Nat) (D:DataW Unit) (x:ByteArray) (e:Ending) (w':World):Prop :=
 (qC D x=.nil/\e=.returned (.int .i64 10)/\w'=w)\/((∃ c:Nat,qC D x=.lit (.int .i64 c))/\e=.returned (.int .i64 0)/\gY w' p m n (D.del (o7 x))/\sU m none w w')
theorem Td {w w':World} {p m n:Nat} {D:DataW Unit} {x:ByteArray} (h:gY w p m n D) (hpm:p≠m) (ho:w'.ownsMap Tryz.prog 9 SG m n (D.del (o7 x))) (ht:w.mapTurned w' m):gY w' p m n (D.del (o7 x))/\sU m none w w':=by
 obtain ⟨es,clock,es',clock',hb,rfl⟩:=ht
 have hoth:∀ b,b≠m->(ChangeMaps.setBlock w m (.map es' clock')).heap[b]?=w.heap[b]?:=fun b hb=>by
  show (w.heap.setIfInBounds m _)[b]?=_;rw [Array.getElem?_setIfInBounds_ne (Ne.symm hb)]
 have hsz:(ChangeMaps.setBlock w m (.map es' clock')).heap.size=w.heap.size:=by
  show (w.heap.setIfInBounds m _).size=_;rw [Array.size_setIfInBounds]
 exact ⟨⟨(aC (hoth p hpm) 0).trans h.cell,by rw [hsz];exact h.low,ho⟩,⟨rfl,rfl,rfl,by rw [hsz];exact Nat.le_refl _,fun b _ h1 _=>hoth b h1⟩⟩
theorem Te (p m n:Nat) (D:DataW Unit) (x:ByteArray) (w:World) (hx:x.size<=140737488355328) (hst:gY w p m n D) (hpm:p≠m) :
  Calls Tryz.prog 32 #[.pointer (some ⟨p,0,none⟩),.string x] w (Yc w p m n D x):=by
 have c0:=hst.cell;rcases hst.look x hx with ⟨hrun,hat⟩ | ⟨c,hrun,hat⟩
 ·have xu:=aj hat;clear hat hst hpm;go_in;go_wp2_with fail;go_ret;exact .inl ⟨xu.out,rfl,rfl⟩
 ·have xu:=aj hat;obtain ⟨w',hdel,ho,ht⟩:=hst.own.drop Kl Tryz.underlying100 (keyOf_string_mk Tryz.underlying9 (s:=x) (by unfold maxLen;omega)) 0;have HF:=aj (Td hst hpm ho ht);clear hat hst hpm ho ht;go_in;go_wp2_with fail;go_ret;exact .inr ⟨⟨c,xu.out⟩,rfl,HF.out⟩
theorem uD.drop {L:Nat->Nat} {w w':World} {p m n:Nat} {D:DataW Unit} {lf:Nat->List T} {vf:Nat->Value} {xf:Nat->List Value} (h:uD L w p m n D lf vf xf) {x:ByteArray} (hs:gY w' p m n (D.del (o7 x))) (hB:sU m none w w'):uD L w' p m n (D.del (o7 x)) lf vf xf:=by
 refine ⟨hs,h.lp,h.lm,fun b hl=>Nat.lt_of_lt_of_le (h.low b hl) hB.size,fun y c hy=>?_⟩;by_cases e:y=x
 ·subst e;rw [mo] at hy;cases hy
 ·rw [kI D e] at hy;refine (h.col y c hy).move hB.size fun b hl=>⟨rfl,hB.block b (h.low b (by omega)) (fun e=>by have:=h.lm;subst e;omega) (by simp)⟩
end Go.Proofs.YtknakfpciccoaaaGreatDoor
