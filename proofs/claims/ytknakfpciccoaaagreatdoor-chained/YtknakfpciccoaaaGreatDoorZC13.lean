import Derived.Test.YtknakfpciccoaaaGreatDoorZC12
import Derived.Test.YtknakfpciccoaaaGreatDoorZC7
import Derived.Test.YtknakfpciccoaaaGreatDoorZC4
/- The walk of Filter.Among. -/
set_option maxHeartbeats 4000000
set_option maxRecDepth 100000
namespace Go.Proofs.YtknakfpciccoaaaGreatDoor
open Go.RowKit
def jf (p:T->Bool) (t:T):Nat->List T
 | 0=>[]
 | k+1=>jf p t k++(if p (elt t k)=true then [elt t k] else [])
theorem BI (p:T->Bool) (t:T):∀ k,(jf p t k).length<=k
 | 0=>by simp [jf]
 | k+1=>by
  have:=BI p t k;rw [jf,List.length_append];split<;>simp<;>omega
structure uJ (w0:World) (f:Nat) (hv:Value) (l:List T) (xs:List Value) (wr:World):Prop where
 row:wr.ownsRow w0.heap.size 25 5 hv l.length xs
 at_:∀ i,(h:i<l.length)->At w0 f (fv xs i) l[i]
 low:Below w0.heap.size w0 wr
theorem iO {w w':World} {lo:Nat} {e:TypeId} {size n:Nat} {v:Value} {xs:List Value} (h:w.ownsRow lo e size v n xs) (hb:∀ b,lo<=b->b<w.heap.size->w'.heap[b]?=w.heap[b]?):w'.ownsRow lo e size v n xs:=by
 refine ⟨h.1,?_⟩;rcases h.2 with hn | ⟨g,cap,cur,rfl,hb0,hg,rest⟩
 ·exact .inl hn
 ·exact .inr ⟨g,cap,cur,rfl,hb0,(hb g hb0 (Array.getElem?_eq_some_iff.1 hg).1).trans hg,rest⟩
theorem uJ.keep {w0:World} {f:Nat} {hv:Value} {l:List T} {xs:List Value} {wr w1:World} (h:uJ w0 f hv l xs wr) (hb:Below wr.heap.size wr w1):uJ w0 f hv l xs w1 :=
 ⟨iO h.row fun b _ h2=>hb.block b h2,h.at_,h.low.trans (hb.mono h.low.size)⟩
theorem uJ.nil (w0:World) (f:Nat) (wr:World) (h:Below w0.heap.size w0 wr):uJ w0 f (.slice none 0 0) [] [] wr:=⟨World.ownsRow_nil _ _ _ _,fun i h=>absurd h (Nat.not_lt_zero i),h⟩
theorem gF {xs ys:List Value} {j:Nat} (h:j<xs.length):cx (xs++ys) j=cx xs j:=by unfold cx;rw [List.getElem?_append_left h]
theorem fB {xs ys:List Value} {j:Nat}:cx (xs++ys) (xs.length+j)=cx ys j:=by unfold cx;rw [List.getElem?_append_right (by omega)];congr 2;omega
theorem uJ.grow {w0:World} {f:Nat} {hv v':Value} {l:List T} {xs:List Value} {wr w2:World} {c0 c1 c2 c3 c4:Value} {x:T} (h:uJ w0 f hv l xs wr) (ha:At w0 f (.agg #[c0,c1,c2,c3,c4]) x) (hO:w2.ownsRow w0.heap.size 25 5 v' (l.length+1) (xs++[c0,c1,c2,c3,c4])) (hG:wr.grownBy w2 hv.ownBlock):uJ w0 f v' (l++[x]) (xs++[c0,c1,c2,c3,c4]) w2:=by
 have hx:xs.length=l.length*5:=h.row.1;refine ⟨by rw [List.length_append];exact hO,fun i hi=>?_,⟨hG.os.trans h.low.os,hG.tape.trans h.low.tape,hG.output.trans h.low.output,Nat.le_trans h.low.size hG.size,fun k hk=>?_⟩⟩
 ·rw [List.length_append,List.length_cons,List.length_nil] at hi;by_cases e:i<l.length
  ·have:=h.at_ i e;rw [List.getElem_append_left e];unfold fv at this ⊢;rw [gF (by omega),gF (by omega),gF (by omega),gF (by omega),gF (by omega)];exact this
  ·obtain rfl:i=l.length:=by omega
   rw [List.getElem_append_right (by omega)];simp only [Nat.sub_self,List.getElem_cons_zero];unfold fv;rw [<- hx,show xs.length=xs.length+0 from rfl,fB,Nat.add_assoc,fB,Nat.add_assoc,fB,Nat.add_assoc,fB,Nat.add_assoc,fB];exact ha
 ·rw [hG.block k (Nat.lt_of_lt_of_le hk h.low.size) ?_,h.low.block k hk];intro e;rcases h.row.2 with ⟨rfl,_⟩ | ⟨g,cap,cur,rfl,hb0,_⟩
  ·cases e
  ·have:k=g:=by simpa [Value.ownBlock] using e
   omega
theorem BJ {Tb:World->Prop} (hL:aV Tb) (m:Nat) (hfil:nW Tb m) (JZ:Value) (t d:T) (f:Nat) (La:Option Addr) (Lc:Nat) (w:World) (hfl:eu w m JZ t) (hl:bJ w f La d) (hn:nL d<=1000000) (hf:f<=16) (hk:∀ i,i<nL d->bM (elt d i)) (hT:Tb w) :
  Calls Tryz.prog 65 #[JZ,.slice La (nL d) Lc] w fun e w'=>∃ hv xs,e=.returned hv/\uJ w f hv (jf (gP m t) d (nL d)) xs w':=by
 obtain ⟨iV,Em,En,Eo,Ep⟩:=info_parts uT;have RQ:=ak hfl;have Hl:=ak hl;have HK:=ak hk;have ahA:=ak hfil;have HT:Hid (∀ w':World,Below w.heap.size w w'->Tb w'):=fun w' hb=>hL w hT w w' hT hb;clear hfl hl hk hfil hT hL;go_in;go_wp2_with fail;go_loopg [5,10] (nL d) (fun g o i wr=>∃ (k:Nat) (xs:List Value),g=nL d - k/\k<=nL d/\i=.int .i64 k/\Hid (uJ w f o (jf (gP m t) d k) xs wr))
 case atStart=>exact ⟨0,[],rfl,Nat.zero_le _,rfl,uJ.nil w f w (Below.refl _ _)⟩
 case round =>
  obtain ⟨k,xs,rfl,hk,rfl,HH⟩:=hrel;by_cases hlt:k<nL d
  ·obtain ⟨bb,oo,A,B,C,D,rfl,hbl,p0,p1,p2,p3,p4,Ha⟩:=Hl.out.shape HH.out.low k hlt;have vY:=ak (aY wr (vC (elt d k) A B C D));have HB2:=ak (HH.out.low.trans (vY.out.mono HH.out.low.size));have HC:=ak (ahA.out JZ t f _ (elt d k) _ (eu.keep HB2.out m _ _ RQ.out) (Ha.out.keep HB2.out) hf (HK.out k hlt) (HT.out _ HB2.out));have hkl:=BI (gP m t) d k;cases hp:gP m t (elt d k) with
   | true =>
    rw [hp] at HC;have HE:Hid (jf (gP m t) d (k+1)=jf (gP m t) d k++[elt d k]):=by show _=_;rw [jf,if_pos hp]
    clear hp;go_wp2_with fail;refine HC.out.mono ?_;rintro e w2 ⟨rfl,b2⟩
    have kr:Hid (aJ wr.heap.size (.int .i64 (aj (elt d k))) (.int .i64 (av (elt d k))) (.string (ay (elt d k))) (.slice A (nL (elt d k)) B) (.slice C (nK (elt d k)) D) w2):=by
     refine aJ.stay (w:=wr.alloc (vC (elt d k) A B C D)) ?_ b2;constructor<;>simp [go_sem]
    have HH2:=ak ((HH.out.keep vY.out).keep b2);have HH3:=ak (HH2.out.keep ((Below.refl w2.heap.size w2).alloc (Nat.le_refl _) (vC (elt d k) A B C D)));have sK:Hid (Src Tryz.prog 5 22 (.slice (some ⟨w2.heap.size,0,none⟩) 1 1) 1 [.int .i64 (aj (elt d k)),.int .i64 (av (elt d k)),.string (ay (elt d k)),.slice A (nL (elt d k)) B,.slice C (nK (elt d k)) D] (w2.alloc (vC (elt d k) A B C D))):=Src.ofSlice _ Tryz.underlying22 ⟨w2.heap.size,0,none⟩ 1 1 [.int .i64 (aj (elt d k)),.int .i64 (av (elt d k)),.string (ay (elt d k)),.slice A (nL (elt d k)) B,.slice C (nK (elt d k)) D] (by simp) (World.news_of_block (heap_alloc_new w2 _)) (by simp [Value.oneCell']);have q0:=kr.out.q0;have q1:=kr.out.q1;have q2:=kr.out.q2;have q3:=kr.out.q3;have q4:=kr.out.q4;have hlo:=HH3.out.low.size;clear b2 HC;go_wp2_with (at_builtin;refine aG _ rfl (.tmp 17) (.tmp 19) 22 22 rfl w.heap.size 25 iV _ 5 80 Tryz.underlying22 Em En Eo Ep rfl u5 (jf (gP m t) d k).length xs rfl HH3.out.row (.slice (some ⟨w2.heap.size,0,none⟩) 1 1) 1 [.int .i64 (aj (elt d k)),.int .i64 (av (elt d k)),.string (ay (elt d k)),.slice A (nL (elt d k)) B,.slice C (nK (elt d k)) D] rfl sK.out (by unfold maxLen;omega) (by omega) hlo ?_;intro v' w6 qX nu dV);have H6:=ak (HH3.out.grow Ha.out qX nu);clear qX nu dV q0 q1 q2 q3 q4;go_wp2_with fail;go_roundg (nL d - (k+1))
    case rel=>exact ⟨k+1,_,rfl,by omega,by go_num,by rw [HE.out];exact H6⟩
    case measure=>omega
   | false =>
    rw [hp] at HC;have HE:Hid (jf (gP m t) d (k+1)=jf (gP m t) d k):=by show _=_;rw [jf,hp];simp
    clear hp;go_wp2_with fail;refine HC.out.mono ?_;rintro e w2 ⟨rfl,b2⟩;have HH2:=ak ((HH.out.keep vY.out).keep b2);clear b2 HC;go_wp2_with fail;go_roundg (nL d - (k+1))
    case rel=>exact ⟨k+1,_,rfl,by omega,by go_num,by rw [HE.out];exact HH2⟩
    case measure=>omega
  ·obtain rfl:k=nL d:=by omega
   go_wp2_with fail;go_ret;exact ⟨_,_,rfl,HH.out⟩
theorem vJ (ok:Bool) (n:Int) (w:World):Calls Tryz.prog 228 #[.bool ok,.int .i64 n] w fun e w'=>w'=w/\e=(if ok then .returned (.tuple #[]) else kL n):=by
 cases ok with
 | true =>
  go_in;go_wp2_with fail;refine bodyPost_end (v:=.tuple #[]) (by simp [results,Tryz.results228,go_sem]) rfl ?_;exact ⟨rfl,rfl⟩
 | false =>
  go_in;go_wp2_with fail;exact ⟨rfl,rfl,rfl⟩
theorem fO (ok:Bool) (w:World):Calls Tryz.prog 189 #[.bool ok] w fun e w'=>w'=w/\e=(if ok then .returned (.tuple #[]) else kL 8):=by
 have HC:=ak (vJ ok 8 w);cases ok with
 | true =>
  simp only [if_true] at HC ⊢;go_in;go_wp2_with fail;refine HC.out.mono ?_;rintro e w2 ⟨rfl,rfl⟩;go_wp2_with fail;refine bodyPost_end (v:=.tuple #[]) (by simp [results,Tryz.results189,go_sem]) rfl ?_;exact ⟨rfl,rfl⟩
 | false =>
  simp only [Bool.false_eq_true,if_false] at HC ⊢;go_in;go_wp2_with fail;refine HC.out.mono ?_;rintro e w2 ⟨rfl,rfl⟩;exact ⟨rfl,rfl,rfl⟩
def u7 {α:Type} (E:World->(Nat->Prop)->List Value->α->Prop):Prop:=∀ (w w':World) (X X':Nat->Prop) (cs:List Value) (x:α),E w X cs x->(∀ b,X b->w'.heap[b]?=w.heap[b]?/\X' b)->E w' X' cs x
def Vk (s:Nat) (xs:List Value) (i:Nat):List Value:=(xs.drop (i*s)).take s
def Y1 (base:Nat) (hv:Value) (w:World) (b:Nat):Prop:=base<=b/\b<w.heap.size/\some b≠hv.ownBlock
structure sM {α:Type} (E:World->(Nat->Prop)->List Value->α->Prop) (s:Nat) (e:TypeId) (base:Nat) (hv:Value) (l:List α) (xs:List Value) (wr:World):Prop where
 row:wr.ownsRow base e s hv l.length xs
 el:∀ i,(h:i<l.length)->E wr (Y1 base hv wr) (Vk s xs i) l[i]
theorem sM.nil {α:Type} (E:World->(Nat->Prop)->List Value->α->Prop) (s:Nat) (e:TypeId) (base:Nat) (wr:World):sM E s e base (.slice none 0 0) [] [] wr:=⟨World.ownsRow_nil _ _ _ _,fun i h=>absurd h (Nat.not_lt_zero i)⟩
theorem sM.keep {α:Type} {E:World->(Nat->Prop)->List Value->α->Prop} (hE:u7 E) {s:Nat} {e:TypeId} {base:Nat} {hv:Value} {l:List α} {xs:List Value} {wr w1:World} (h:sM E s e base hv l xs wr) (hb:Below wr.heap.size wr w1):sM E s e base hv l xs w1 :=
 ⟨iO h.row fun b _ h2=>hb.block b h2,fun i hi=>hE _ _ _ _ _ _ (h.el i hi) fun b hX=>⟨hb.block b hX.2.1,hX.1,Nat.lt_of_lt_of_le hX.2.1 hb.size,hX.2.2⟩⟩
theorem Vl {s:Nat} {xs ys:List Value} {i n:Nat} (hx:xs.length=n*s) (hi:i<n):Vk s (xs++ys) i=Vk s xs i:=by
 have h1:(i+1)*s<=n*s:=Nat.mul_le_mul_right s hi;rw [Nat.add_mul,Nat.one_mul] at h1;unfold Vk;rw [List.drop_append_of_le_length (by omega),List.take_append_of_le_length (by rw [List.length_drop];omega)]
theorem RS {s:Nat} {xs ys:List Value} {n:Nat} (hx:xs.length=n*s) (hy:ys.length=s):Vk s (xs++ys) n=ys:=by
 unfold Vk;rw [<- hx,List.drop_left,<- hy,List.take_length]
theorem GJ {w:World} {lo:Nat} {e:TypeId} {size n:Nat} {v:Value} {xs:List Value} (h:w.ownsRow lo e size v n xs) {b:Nat} (hb:v.ownBlock=some b):lo<=b/\b<w.heap.size:=by
 rcases h.2 with ⟨rfl,_⟩ | ⟨g,cap,cur,rfl,hb0,hg,rest⟩
 ·cases hb
 ·have:b=g:=by simpa [Value.ownBlock] using hb.symm
  subst this;exact ⟨hb0,(Array.getElem?_eq_some_iff.1 hg).1⟩
theorem sM.grow {α:Type} {E:World->(Nat->Prop)->List Value->α->Prop} (hE:u7 E) {s:Nat} {e:TypeId} {base:Nat} {hv v':Value} {l:List α} {xs cs:List Value} {wr w2 w3:World} {x:α} {X:Nat->Prop} (h:sM E s e base hv l xs wr) (hb:Below wr.heap.size wr w2) (hc:cs.length=s) (hx:E w2 X cs x) (hX:∀ b,X b->wr.heap.size<=b/\b<w2.heap.size) (hlo:base<=wr.heap.size)
  (hO:w3.ownsRow base e s v' (l.length+1) (xs++cs)) (hG:w2.grownBy w3 hv.ownBlock) (hat:v'.ownBlock=hv.ownBlock\/v'.ownBlock=some w2.heap.size):sM E s e base v' (l++[x]) (xs++cs) w3:=by
 have hxl:xs.length=l.length*s:=h.row.1
 have own:∀ b,b<w2.heap.size->some b≠hv.ownBlock->some b≠v'.ownBlock:=fun b h1 h2=>by
  rcases hat with ha | ha
  ·rw [ha];exact h2
  ·rw [ha];intro e;simp only [Option.some.injEq] at e;omega
 refine ⟨by rw [List.length_append];exact hO,fun i hi=>?_⟩;rw [List.length_append,List.length_cons,List.length_nil] at hi;by_cases ei:i<l.length
 ·rw [List.getElem_append_left ei,Vl hxl ei];refine hE _ _ _ _ _ _ (h.el i ei) fun b hX=>?_;have h2:b<w2.heap.size:=Nat.lt_of_lt_of_le hX.2.1 hb.size;exact ⟨(hG.block b h2 hX.2.2).trans (hb.block b hX.2.1),hX.1,Nat.lt_of_lt_of_le h2 hG.size,own b h2 hX.2.2⟩
 ·obtain rfl:i=l.length:=by omega
  rw [List.getElem_append_right (by omega),RS hxl hc];simp only [Nat.sub_self,List.getElem_cons_zero];refine hE _ _ _ _ _ _ hx fun b hb'=>?_;have h1:=hX b hb';have h3:some b≠hv.ownBlock:=fun e=>by have:=(GJ h.row e.symm).2;omega
  exact ⟨hG.block b h1.2 h3,by omega,Nat.lt_of_lt_of_le h1.2 hG.size,own b h1.2 h3⟩
structure lG where
 w:World
 y:Nat->Prop
def yt (o:lG) (f:Nat) (v:Value) (t:T):Prop:=qc o.y o.w f v t
def M9 (o:lG) (f:Nat) (La:Option Addr) (t:T):Prop:=∀ i,i<nL t->∃ b oo c0 c1 c2 c3 c4,La=some ⟨b,oo,none⟩/\(b<o.w.heap.size/\o.y b)/\o.w.cell? ⟨b,oo+i*5,none⟩=some c0/\o.w.cell? ⟨b,oo+i*5+1,none⟩=some c1/\o.w.cell? ⟨b,oo+i*5+2,none⟩=some c2/\o.w.cell? ⟨b,oo+i*5+3,none⟩=some c3/\o.w.cell? ⟨b,oo+i*5+4,none⟩=some c4/\qc o.y o.w f (.agg #[c0,c1,c2,c3,c4]) (elt t i)
theorem yt.open {o:lG} {f:Nat} {v:Value} {t:T} (h:yt o f v t):∃ (g:Nat) (La Ka:Option Addr) (Lc Kc:Nat),f=g+1 /\
   v=.agg #[.int .i64 (aj t),.int .i64 (av t),.string (ay t),.slice La (nL t) Lc,.slice Ka (nK t) Kc]/\zI t/\Hid (M9 o g La t)/\Hid (jl o.w Ka t):=by
 cases f with
 | zero=>exact h.elim
 | succ f =>
  obtain ⟨La,Ka,Lc,Kc,rfl,hf,hl,hk⟩:=h;refine ⟨f,La,Ka,Lc,Kc,rfl,rfl,hf,hl,fun i hi=>?_⟩;obtain ⟨b,oo,h0,⟨h1,_⟩,h2,h3⟩:=hk i hi;exact ⟨b,oo,h0,h1,h2,h3⟩
theorem M9.shape {o:lG} {w':World} (h:Below o.w.heap.size o.w w') {f:Nat} {La:Option Addr} {t:T} (hl:M9 o f La t) (i:Nat) (hi:i<nL t) :
  ∃ b oo A B C D,La=some ⟨b,oo,none⟩/\b<o.w.heap.size/\w'.cell? ⟨b,oo+i*5,none⟩=some (.int .i64 (aj (elt t i)))/\w'.cell? ⟨b,oo+i*5+1,none⟩=some (.int .i64 (av (elt t i)))/\w'.cell? ⟨b,oo+i*5+2,none⟩=some (.string (ay (elt t i)))/\w'.cell? ⟨b,oo+i*5+3,none⟩=some (.slice A (nL (elt t i)) B)/\w'.cell? ⟨b,oo+i*5+4,none⟩=some (.slice C (nK (elt t i)) D) /\
   Hid (yt o f (.agg #[.int .i64 (aj (elt t i)),.int .i64 (av (elt t i)),.string (ay (elt t i)),.slice A (nL (elt t i)) B,.slice C (nK (elt t i)) D]) (elt t i)):=by
 obtain ⟨b,oo,c0,c1,c2,c3,c4,h0,⟨hb,_⟩,q0,q1,q2,q3,q4,ha⟩:=hl i hi;obtain ⟨g,A,C,B,D,_,hv,_⟩:=(show yt o f _ _ from ha).open;simp only [Value.agg.injEq,Array.mk.injEq,List.cons.injEq,and_true] at hv;obtain ⟨rfl,rfl,rfl,rfl,rfl⟩:=hv;exact ⟨b,oo,A,B,C,D,h0,hb,(h.cell (p:=⟨b,_,none⟩) hb).trans q0,(h.cell (p:=⟨b,_,none⟩) hb).trans q1,(h.cell (p:=⟨b,_,none⟩) hb).trans q2,(h.cell (p:=⟨b,_,none⟩) hb).trans q3,(h.cell (p:=⟨b,_,none⟩) hb).trans q4,ha⟩
def uK (w:World) (X:Nat->Prop) (R:R7) (v:Value) (ps:List (ByteArray×T)):Prop :=
 ∃ (A:Option Addr) (c:Nat),v=.slice A ps.length c/\ps.length<=1000000000/\∀ i,(h:i<ps.length)->∃ b o c0 c1 c2 c3 c4 c5 c6,A=some ⟨b,o,none⟩/\X b/\w.cell? ⟨b,o+i*7,none⟩=some c0/\w.cell? ⟨b,o+i*7+1,none⟩=some c1/\w.cell? ⟨b,o+i*7+2,none⟩=some c2/\w.cell? ⟨b,o+i*7+3,none⟩=some c3/\w.cell? ⟨b,o+i*7+4,none⟩=some c4/\w.cell? ⟨b,o+i*7+5,none⟩=some c5/\w.cell? ⟨b,o+i*7+6,none⟩=some c6/\R c0 c1 c2 c3 c4 c5 c6 ps[i]
def fP (w0 : lG) (w : World) (X : Nat -> Prop) : Nat -> R7
  | 0 => fun _ _ _ _ _ _ _ _ => False
  | m + 1 => fun c0 c1 c2 c3 c4 c5 c6 p => c0 = .string p.1 /\ p.1.size <= 140737488355328 /\
      ((kg p.1 /\ c1 = .int .i64 0 /\ c2 = .int .i64 0 /\ c3 = .string ⟨#[]⟩ /\ c4 = .slice none 0 0 /\ c5 = .slice none 0 0 /\ uK w X (fP w0 w X m) c6 (lZ p.2)) \/
       (¬ kg p.1 /\ c6 = .slice none 0 0 /\ ∃ g A B C D, g <= 16 /\ c1 = .int .i64 (aj p.2) /\ c2 = .int .i64 (av p.2) /\ c3 = .string (ay p.2) /\ c4 = .slice A (nL p.2) B /\ c5 = .slice C (nK p.2) D /\ yt w0 g (.agg #[.int .i64 (aj p.2), .int .i64 (av p.2), .string (ay p.2), .slice A (nL p.2) B, .slice C (nK p.2) D]) p.2 /\ bM p.2))
theorem uK.move {w w':World} {X X':Nat->Prop} {R R':R7} {v:Value} {ps:List (ByteArray×T)} (h:uK w X R v ps) (hb:∀ b,X b->w'.heap[b]?=w.heap[b]?/\X' b) (hR:∀ c0 c1 c2 c3 c4 c5 c6 p,R c0 c1 c2 c3 c4 c5 c6 p->R' c0 c1 c2 c3 c4 c5 c6 p):uK w' X' R' v ps:=by
 obtain ⟨A,c,hv,hn,h⟩:=h;refine ⟨A,c,hv,hn,fun i hi=>?_⟩;obtain ⟨b,o,c0,c1,c2,c3,c4,c5,c6,h0,hl,q0,q1,q2,q3,q4,q5,q6,hr⟩:=h i hi;obtain ⟨h1,h2⟩:=hb b hl;exact ⟨b,o,c0,c1,c2,c3,c4,c5,c6,h0,h2,(aC h1 _).trans q0,(aC h1 _).trans q1,(aC h1 _).trans q2,(aC h1 _).trans q3,(aC h1 _).trans q4,(aC h1 _).trans q5,(aC h1 _).trans q6,hR _ _ _ _ _ _ _ _ hr⟩
theorem fP.move {w0:lG} {w w':World} {X X':Nat->Prop} (hb:∀ b,X b->w'.heap[b]?=w.heap[b]?/\X' b):∀ (m:Nat) (c0 c1 c2 c3 c4 c5 c6:Value) (p:ByteArray×T),fP w0 w X m c0 c1 c2 c3 c4 c5 c6 p->fP w0 w' X' m c0 c1 c2 c3 c4 c5 c6 p
 | 0,_,_,_,_,_,_,_,_,h=>h
 | m+1,c0,c1,c2,c3,c4,c5,c6,p,h=>by
  obtain ⟨h0,h1,⟨hi,z1,z2,z3,z4,z5,hr⟩ | h2⟩:=h
  ·exact ⟨h0,h1,.inl ⟨hi,z1,z2,z3,z4,z5,hr.move hb (fP.move hb m)⟩⟩
  ·exact ⟨h0,h1,.inr h2⟩
theorem uK.at {w:World} {X:Nat->Prop} {R R':R7} {v:Value} {ps:List (ByteArray×T)} (h:uK w X R v ps) (hX:∀ b,X b->b<w.heap.size) (hR:∀ c0 c1 c2 c3 c4 c5 c6 p,R c0 c1 c2 c3 c4 c5 c6 p->R' c0 c1 c2 c3 c4 c5 c6 p):M6 w R' v ps:=by
 obtain ⟨A,c,hv,hn,h⟩:=h;refine ⟨A,c,hv,hn,fun i hi=>?_⟩;obtain ⟨b,o,c0,c1,c2,c3,c4,c5,c6,h0,hl,q0,q1,q2,q3,q4,q5,q6,hr⟩:=h i hi;exact ⟨b,o,c0,c1,c2,c3,c4,c5,c6,h0,hX b hl,q0,q1,q2,q3,q4,q5,q6,hR _ _ _ _ _ _ _ _ hr⟩
theorem fP.at {w0:lG} {w:World} {X:Nat->Prop} (hX:∀ b,X b->b<w.heap.size) (hb:∀ f v t,yt w0 f v t->At w f v t):∀ (m:Nat) (c0 c1 c2 c3 c4 c5 c6:Value) (p:ByteArray×T),fP w0 w X m c0 c1 c2 c3 c4 c5 c6 p->lK w m c0 c1 c2 c3 c4 c5 c6 p
 | 0,_,_,_,_,_,_,_,_,h=>h
 | m+1,c0,c1,c2,c3,c4,c5,c6,p,h=>by
  obtain ⟨h0,h1,⟨hi,z1,z2,z3,z4,z5,hr⟩ | ⟨hi,z6,g,A,B,C,D,hg,z1,z2,z3,z4,z5,ha,hk⟩⟩:=h
  ·exact ⟨h0,h1,.inl ⟨hi,z1,z2,z3,z4,z5,hr.at hX (fP.at hX hb m)⟩⟩
  ·exact ⟨h0,h1,.inr ⟨hi,z6,g,A,B,C,D,hg,z1,z2,z3,z4,z5,hb _ _ _ ha,hk⟩⟩
def Vm (w0:lG) (m:Nat) (w:World) (X:Nat->Prop) (cs:List Value) (p:ByteArray×T):Prop:=∃ c0 c1 c2 c3 c4 c5 c6,cs=[c0,c1,c2,c3,c4,c5,c6]/\fP w0 w X m c0 c1 c2 c3 c4 c5 c6 p
theorem og (w0:lG) (m:Nat):u7 (Vm w0 m):=fun _ _ _ _ _ _ h hb=>by
 obtain ⟨c0,c1,c2,c3,c4,c5,c6,hc,h⟩:=h;exact ⟨c0,c1,c2,c3,c4,c5,c6,hc,fP.move hb m _ _ _ _ _ _ _ _ h⟩
def jo (op:ByteArray):Prop:=op=wS\/op=JR\/op=BA\/op=Ey\/op=RI\/op=JU
instance (op : ByteArray) : Decidable (jo op) := by unfold jo; infer_instance
instance (op : ByteArray) : Decidable (kg op) := by unfold kg; infer_instance
def nA (g:T->Bool) (op:ByteArray) (j:T):Bool :=
 if jo op then true
 else if op=Dz\/op=zh then aj j==5
 else if op=je then aj j==2
 else if op=oK then (aj j==3&&decide (0<=av j))
 else if op=oL then ((aj j==3&&decide (1<=av j))&&decide (av j<=6))
 else if op=wR\/op=sH then g j
 else false
def jY:Nat->T->Bool
 | 0,_=>false
 | m+1,j=>(aj j==6&&decide (0<nK j))&&sJ (fun i=>nA (jY m) (bO j i) (elt j i)) (nK j)
def aS (w w':World) (b:Nat):Prop:=w.heap.size<=b/\b<w'.heap.size
def abT (w0:lG) (m:Nat) (j:T) (w:World) (e:Ending) (w':World):Prop :=
 Below w.heap.size w w'/\((jY m j=true/\∃ tv,e=.returned tv/\uK w' (aS w w') (fP w0 w' (aS w w') m) tv (lZ j))\/(jY m j=false/\e=kL 8))
def BK (w0:lG) (f:Nat):Prop:=∀ (m:Nat) (v:Value) (j:T) (w:World),f<=m->yt w0 f v j->f<=16->bM j->Below w0.w.heap.size w0.w w->Calls Tryz.prog 257 #[v] w (abT w0 m j w)
def GK (w0:lG) (m:Nat) (op:ByteArray) (j:T) (w:World) (e:Ending) (w':World):Prop :=
 Below w.heap.size w w'/\((nA (jY m) op j=true/\∃ c0 c1 c2 c3 c4 c5 c6,e=.returned (.agg #[c0,c1,c2,c3,c4,c5,c6])/\fP w0 w' (aS w w') (m+1) c0 c1 c2 c3 c4 c5 c6 (op,j))\/(nA (jY m) op j=false/\e=kL 8))
def PtT (w0:lG) (m:Nat) (op:ByteArray) (j:T) (La Ka:Option Addr) (Lc Kc:Nat) (w:World):Prop:=Calls Tryz.prog 276 #[.string op,.agg #[.int .i64 (aj j),.int .i64 (av j),.string (ay j),.slice La (nL j) Lc,.slice Ka (nK j) Kc]] w (GK w0 m op j w)
theorem GL (w:World) (a b:Obj):Below w.heap.size w ((w.alloc a).alloc b):=(aY _ _).alloc (by simp) _
theorem RU {op:ByteArray} (hp:jo op):((op.toList==[36,101,113])=true)\/((op.toList==[36,101,113])=false/\(op.toList==[36,110,101])=true)\/((op.toList==[36,101,113])=false/\(op.toList==[36,110,101])=false/\(op.toList==[36,103,116])=true)\/((op.toList==[36,101,113])=false/\(op.toList==[36,110,101])=false/\(op.toList==[36,103,116])=false/\(op.toList==[36,103,116,101])=true)\/((op.toList==[36,101,113])=false/\(op.toList==[36,110,101])=false/\(op.toList==[36,103,116])=false/\(op.toList==[36,103,116,101])=false/\(op.toList==[36,108,116])=true)\/((op.toList==[36,101,113])=false/\(op.toList==[36,110,101])=false/\(op.toList==[36,103,116])=false/\(op.toList==[36,103,116,101])=false/\(op.toList==[36,108,116])=false/\(op.toList==[36,108,116,101])=true):=by
 by_cases h0:op=wS
 ·exact .inl (bS h0)
 refine .inr ?_;by_cases h1:op=JR
 ·exact .inl ⟨aF h0,bS h1⟩
 refine .inr ?_;by_cases h2:op=BA
 ·exact .inl ⟨aF h0,aF h1,bS h2⟩
 refine .inr ?_;by_cases h3:op=Ey
 ·exact .inl ⟨aF h0,aF h1,aF h2,bS h3⟩
 refine .inr ?_;by_cases h4:op=RI
 ·exact .inl ⟨aF h0,aF h1,aF h2,aF h3,bS h4⟩
 refine .inr ?_;exact ⟨aF h0,aF h1,aF h2,aF h3,aF h4,bS (((((hp.resolve_left h0).resolve_left h1).resolve_left h2).resolve_left h3).resolve_left h4)⟩
theorem BL {op:ByteArray} (hp:¬ jo op):(op.toList==[36,101,113])=false/\(op.toList==[36,110,101])=false/\(op.toList==[36,103,116])=false/\(op.toList==[36,103,116,101])=false/\(op.toList==[36,108,116])=false/\(op.toList==[36,108,116,101])=false :=
 ⟨aF fun h=>hp (.inl h),aF fun h=>hp (.inr (.inl h)),aF fun h=>hp (.inr (.inr (.inl h))),aF fun h=>hp (.inr (.inr (.inr (.inl h)))),aF fun h=>hp (.inr (.inr (.inr (.inr (.inl h))))),aF fun h=>hp (.inr (.inr (.inr (.inr (.inr h)))))⟩
theorem abU {g:T->Bool} {op:ByteArray} {j:T} (hp:¬ jo op) (hi:¬ kg op) (h:nA g op j=true):((op.toList==[36,105,110])=true/\(aj j==5)=true)\/((op.toList==[36,105,110])=false/\(op.toList==[36,110,105,110])=true/\(aj j==5)=true)\/((op.toList==[36,105,110])=false/\(op.toList==[36,110,105,110])=false/\(op.toList==[36,101,120,105,115,116,115])=true/\(aj j==2)=true)\/((op.toList==[36,105,110])=false/\(op.toList==[36,110,105,110])=false/\(op.toList==[36,101,120,105,115,116,115])=false/\(op.toList==[36,115,105,122,101])=true/\(aj j==3)=true/\0<=av j)\/((op.toList==[36,105,110])=false/\(op.toList==[36,110,105,110])=false/\(op.toList==[36,101,120,105,115,116,115])=false/\(op.toList==[36,115,105,122,101])=false/\(op.toList==[36,107,105,110,100])=true/\(aj j==3)=true/\1<=av j/\av j<=6):=by
 unfold nA at h;rw [if_neg hp] at h;by_cases h0:op=Dz
 ·rw [if_pos (.inl h0)] at h;exact .inl ⟨bS h0,h⟩
 refine .inr ?_;by_cases h1:op=zh
 ·rw [if_pos (.inr h1)] at h;exact .inl ⟨aF h0,bS h1,h⟩
 rw [if_neg (fun h=>h.elim h0 h1)] at h;refine .inr ?_;by_cases h2:op=je
 ·rw [if_pos h2] at h;exact .inl ⟨aF h0,aF h1,bS h2,h⟩
 rw [if_neg h2] at h;refine .inr ?_;by_cases h3:op=oK
 ·rw [if_pos h3,Bool.and_eq_true,decide_eq_true_eq] at h;exact .inl ⟨aF h0,aF h1,aF h2,bS h3,h.1,h.2⟩
 rw [if_neg h3] at h;refine .inr ?_;by_cases h4:op=oL
 ·rw [if_pos h4,Bool.and_eq_true,Bool.and_eq_true,decide_eq_true_eq,decide_eq_true_eq] at h;exact ⟨aF h0,aF h1,aF h2,aF h3,bS h4,h.1.1,h.1.2,h.2⟩
 rw [if_neg h4] at h;rw [if_neg (show ¬ (op=wR\/op=sH) from hi)] at h;cases h
theorem abV {g:T->Bool} {op:ByteArray} {j:T} (hp:¬ jo op) (hi:¬ kg op) (h:nA g op j=false):((op.toList==[36,105,110])=true/\(aj j==5)=false)\/((op.toList==[36,105,110])=false/\(op.toList==[36,110,105,110])=true/\(aj j==5)=false)\/((op.toList==[36,105,110])=false/\(op.toList==[36,110,105,110])=false/\(op.toList==[36,101,120,105,115,116,115])=true/\(aj j==2)=false)\/((op.toList==[36,105,110])=false/\(op.toList==[36,110,105,110])=false/\(op.toList==[36,101,120,105,115,116,115])=false/\(op.toList==[36,115,105,122,101])=true/\((aj j==3)=false\/((aj j==3)=true/\¬ 0<=av j)))\/((op.toList==[36,105,110])=false/\(op.toList==[36,110,105,110])=false/\(op.toList==[36,101,120,105,115,116,115])=false/\(op.toList==[36,115,105,122,101])=false/\(op.toList==[36,107,105,110,100])=true/\((aj j==3)=false\/((aj j==3)=true/\¬ 1<=av j)\/((aj j==3)=true/\1<=av j/\¬ av j<=6)))\/((op.toList==[36,105,110])=false/\(op.toList==[36,110,105,110])=false/\(op.toList==[36,101,120,105,115,116,115])=false/\(op.toList==[36,115,105,122,101])=false/\(op.toList==[36,107,105,110,100])=false/\(op.toList==[36,110,111,116])=false/\(op.toList==[36,97,110,121])=false):=by
 unfold nA at h;rw [if_neg hp] at h;by_cases h0:op=Dz
 ·rw [if_pos (.inl h0)] at h;exact .inl ⟨bS h0,h⟩
 refine .inr ?_;by_cases h1:op=zh
 ·rw [if_pos (.inr h1)] at h;exact .inl ⟨aF h0,bS h1,h⟩
 rw [if_neg (fun h=>h.elim h0 h1)] at h;refine .inr ?_;by_cases h2:op=je
 ·rw [if_pos h2] at h;exact .inl ⟨aF h0,aF h1,bS h2,h⟩
 rw [if_neg h2] at h;refine .inr ?_;by_cases h3:op=oK
 ·rw [if_pos h3] at h;refine .inl ⟨aF h0,aF h1,aF h2,bS h3,?_⟩;cases k:aj j==3 with
  | false=>exact .inl rfl
  | true=>rw [k,Bool.true_and,decide_eq_false_iff_not] at h;exact .inr ⟨rfl,h⟩
 rw [if_neg h3] at h;refine .inr ?_;by_cases h4:op=oL
 ·rw [if_pos h4] at h;refine .inl ⟨aF h0,aF h1,aF h2,aF h3,bS h4,?_⟩;cases k:aj j==3 with
  | false=>exact .inl rfl
  | true =>
   rw [k,Bool.true_and] at h;by_cases k1:1<=av j
   ·rw [decide_eq_true k1,Bool.true_and,decide_eq_false_iff_not] at h;exact .inr (.inr ⟨rfl,k1,h⟩)
   ·exact .inr (.inl ⟨rfl,k1⟩)
 rw [if_neg h4] at h;refine .inr ?_;exact ⟨aF h0,aF h1,aF h2,aF h3,aF h4,aF fun h=>hi (.inl h),aF fun h=>hi (.inr h)⟩
theorem Qe {op:ByteArray} (hi:kg op):¬ jo op/\(op.toList==[36,105,110])=false/\(op.toList==[36,110,105,110])=false/\(op.toList==[36,101,120,105,115,116,115])=false/\(op.toList==[36,115,105,122,101])=false/\(op.toList==[36,107,105,110,100])=false/\((op.toList==[36,110,111,116])=true\/((op.toList==[36,110,111,116])=false/\(op.toList==[36,97,110,121])=true)):=by
 have q:¬ jo op/\¬ op=Dz/\¬ op=zh/\¬ op=je/\¬ op=oK/\¬ op=oL:=by rcases hi with g | g<;>rw [g]<;>decide
 obtain ⟨q,q1,q2,q3,q4,q5⟩:=q;refine ⟨q,aF q1,aF q2,aF q3,aF q4,aF q5,?_⟩;by_cases h:op=wR
 ·exact .inl (bS h)
 ·exact .inr ⟨aF h,bS (hi.resolve_left h)⟩
theorem abW {g:T->Bool} {op:ByteArray} {j:T} (hi:kg op):nA g op j=g j:=by
 unfold nA;rw [if_neg (Qe hi).1,if_neg,if_neg,if_neg,if_neg,if_pos (show op=wR\/op=sH from hi)]
 all_goals rcases hi with g | g<;>rw [g]<;>decide
theorem Nb (w0:lG) (m:Nat) (op:ByteArray) (j:T) (La Ka:Option Addr) (Lc Kc:Nat) (f:Nat) (w:World) (hop:op.size<=140737488355328) (ha:yt w0 f (.agg #[.int .i64 (aj j),.int .i64 (av j),.string (ay j),.slice La (nL j) Lc,.slice Ka (nK j) Kc]) j) (hf:f<=16) (kj:bM j) (hi:¬ kg op):PtT w0 m op j La Ka Lc Kc w:=by
 unfold PtT;cases hR:nA (jY m) op j with
 | true =>
  have H:Hid (∀ a b,GK w0 m op j w (.returned (.agg #[.string op,.int .i64 (aj j),.int .i64 (av j),.string (ay j),.slice La (nL j) Lc,.slice Ka (nK j) Kc,.slice none 0 0])) ((w.alloc a).alloc b)):=fun a b=>⟨GL _ _ _,.inl ⟨hR,_,_,_,_,_,_,_,rfl,rfl,hop,.inr ⟨hi,rfl,f,La,Lc,Ka,Kc,hf,rfl,rfl,rfl,rfl,rfl,ha,kj⟩⟩⟩;by_cases hp:jo op
  ·have hw:=RU hp;clear ha kj hR hi hp;rcases hw with e | ⟨e,e1⟩ | ⟨e,e1,e2⟩ | ⟨e,e1,e2,e3⟩ | ⟨e,e1,e2,e3,e4⟩ | ⟨e,e1,e2,e3,e4,e5⟩
   all_goals
    go_in;go_wp2_with fail;refine bodyPost_ret (v:=.agg #[.string op,.int .i64 (aj j),.int .i64 (av j),.string (ay j),.slice La (nL j) Lc,.slice Ka (nK j) Kc,.slice none 0 0]) (by simp [results,Tryz.results276,go_sem]) rfl ?_;exact H.out _ _
  ·obtain ⟨e,e1,e2,e3,e4,e5⟩:=BL hp;have hw:=abU hp hi hR;clear ha kj hR hi hp;rcases hw with ⟨a,k⟩ | ⟨a,b,k⟩ | ⟨a,b,c,k⟩ | ⟨a,b,c,d,k,k1⟩ | ⟨a,b,c,d,e6,k,k1,k2⟩
   all_goals
    go_in;go_wp2_with fail;refine (fO true _).mono ?_;rintro e w2 ⟨rfl,he⟩;simp only [if_true] at he;subst he;go_wp2_with fail;refine bodyPost_ret (v:=.agg #[.string op,.int .i64 (aj j),.int .i64 (av j),.string (ay j),.slice La (nL j) Lc,.slice Ka (nK j) Kc,.slice none 0 0]) (by simp [results,Tryz.results276,go_sem]) rfl ?_;exact H.out _ _
 | false =>
  have H:Hid (∀ a b,GK w0 m op j w (kL 8) ((w.alloc a).alloc b)):=fun a b=>⟨GL _ _ _,.inr ⟨hR,rfl⟩⟩;have hp:¬ jo op:=fun hp=>by unfold nA at hR;rw [if_pos hp] at hR;cases hR
  obtain ⟨e,e1,e2,e3,e4,e5⟩:=BL hp;have hw:=abV hp hi hR;clear ha kj hR hi hp;rcases hw with ⟨a,k⟩ | ⟨a,b,k⟩ | ⟨a,b,c,k⟩ | ⟨a,b,c,d,k | ⟨k,k1⟩⟩ | ⟨a,b,c,d,e6,k | ⟨k,k1⟩ | ⟨k,k1,k2⟩⟩ | ⟨a,b,c,d,e6,e7,e8⟩
  all_goals
   go_in;go_wp2_with fail;refine (fO false _).mono ?_;rintro e w2 ⟨rfl,he⟩;simp only [Bool.false_eq_true,if_false] at he;subst he;exact ⟨rfl,H.out _ _⟩
def DI (w:World) (b:Nat) (u0 u1 u2 u3 u4 u5 u6:Value):World:=((((((w.setCell ⟨b,0,none⟩ u0).setCell ⟨b,1,none⟩ u1).setCell ⟨b,2,none⟩ u2).setCell ⟨b,3,none⟩ u3).setCell ⟨b,4,none⟩ u4).setCell ⟨b,5,none⟩ u5).setCell ⟨b,6,none⟩ u6
theorem Nf {w:World} {b:Nat} (h:uR w b 7) (u0 u1 u2 u3 u4 u5 u6:Value):RJ b u0 u1 u2 u3 u4 u5 u6 (DI w b u0 u1 u2 u3 u4 u5 u6):=by
 have h0:=h;have h1:=h0.set b 0 u0;have h2:=h1.set b 1 u1;have h3:=h2.set b 2 u2;have h4:=h3.set b 3 u3;have h5:=h4.set b 4 u4;have h6:=h5.set b 5 u5;have h7:=h6.set b 6 u6;unfold DI;refine ⟨?_,?_,?_,?_,?_,?_,?_,h7.1⟩
 ·rw [aH (by omega),aH (by omega),aH (by omega),aH (by omega),aH (by omega),aH (by omega),mI h0 (by omega)]
 ·rw [aH (by omega),aH (by omega),aH (by omega),aH (by omega),aH (by omega),mI h1 (by omega)]
 ·rw [aH (by omega),aH (by omega),aH (by omega),aH (by omega),mI h2 (by omega)]
 ·rw [aH (by omega),aH (by omega),aH (by omega),mI h3 (by omega)]
 ·rw [aH (by omega),aH (by omega),mI h4 (by omega)]
 ·rw [aH (by omega),mI h5 (by omega)]
 ·rw [mI h6 (by omega)]
theorem J2 (w:World) (b:Nat) (u0 u1 u2 u3 u4 u5 u6:Value):bq b w (DI w b u0 u1 u2 u3 u4 u5 u6) :=
 ((((((bq.set w b 0 u0).trans (bq.set _ b 1 u1)).trans (bq.set _ b 2 u2)).trans (bq.set _ b 3 u3)).trans (bq.set _ b 4 u4)).trans (bq.set _ b 5 u5)).trans (bq.set _ b 6 u6)
theorem RV (w:World) (b:Nat) (u0 u1 u2 u3 u4 u5 u6:Value):(DI w b u0 u1 u2 u3 u4 u5 u6).heap.size=w.heap.size:=by
 unfold DI;simp [World.setCell]
theorem qB {w:World} {b n:Nat} (h:uR w b n) (i:Nat) (hi:i<n):(∃ y,w.cell? ⟨b,i,none⟩=some y)/\w.frozen? ⟨b,i,none⟩=false:=⟨Option.isSome_iff_exists.1 (h.2 i hi).1,(h.2 i hi).2⟩
theorem RX (w0:lG) (m:Nat) (op:ByteArray) (j:T) (La Ka:Option Addr) (Lc Kc:Nat) (f:Nat) (ih:BK w0 f) (w:World) (hop:op.size<=140737488355328) (ha:yt w0 f (.agg #[.int .i64 (aj j),.int .i64 (av j),.string (ay j),.slice La (nL j) Lc,.slice Ka (nK j) Kc]) j) (hm:f<=m) (hf:f<=16) (kj:bM j) (hb0:Below w0.w.heap.size w0.w w) (gi:kg op):PtT w0 m op j La Ka Lc Kc w:=by
 unfold PtT;have HB:Hid (Below w.heap.size w ((w.alloc (vC j La Lc Ka Kc)).alloc (.cells #[.string ⟨#[]⟩,.int .i64 0,.int .i64 0,.string ⟨#[]⟩,.slice none 0 0,.slice none 0 0,.slice none 0 0] 293))):=GL _ _ _
 have HRw:Hid (uR ((w.alloc (vC j La Lc Ka Kc)).alloc (.cells #[.string ⟨#[]⟩,.int .i64 0,.int .i64 0,.string ⟨#[]⟩,.slice none 0 0,.slice none 0 0,.slice none 0 0] 293)) (w.heap.size+1) 7):=by
  refine ⟨by simp,fun o ho=>?_⟩;obtain rfl | rfl | rfl | rfl | rfl | rfl | rfl:o=0\/o=1\/o=2\/o=3\/o=4\/o=5\/o=6:=by omega
  all_goals simp [go_sem]
 have HR:Hid (nA (jY m) op j=jY m j):=abW gi;have HI:Hid (kg op):=gi;have HC:=ak (ih m _ j ((w.alloc (vC j La Lc Ka Kc)).alloc (.cells #[.string ⟨#[]⟩,.int .i64 0,.int .i64 0,.string ⟨#[]⟩,.slice none 0 0,.slice none 0 0,.slice none 0 0] 293)) hm ha hf kj (hb0.trans (HB.out.mono hb0.size)));obtain ⟨hp,f1,f2,f3,f4,f5,hw⟩:=Qe gi;obtain ⟨e1,e2,e3,e4,e5,e6⟩:=BL hp;clear hp gi;clear ha kj ih hb0;rcases hw with g0 | ⟨g0,g1⟩
 all_goals
  go_in;go_wp2_with fail;refine HC.out.mono ?_;rintro e w3 ⟨b3,⟨hk,tv,rfl,hrow⟩ | ⟨hk,rfl⟩⟩
  ·obtain ⟨A,c,rfl,hn,hr⟩:=hrow;have jX:Hid (uK w3 (aS ((w.alloc (vC j La Lc Ka Kc)).alloc (.cells #[.string ⟨#[]⟩,.int .i64 0,.int .i64 0,.string ⟨#[]⟩,.slice none 0 0,.slice none 0 0,.slice none 0 0] 293)) w3) (fP w0 w3 (aS ((w.alloc (vC j La Lc Ka Kc)).alloc (.cells #[.string ⟨#[]⟩,.int .i64 0,.int .i64 0,.string ⟨#[]⟩,.slice none 0 0,.slice none 0 0,.slice none 0 0] 293)) w3) m) (.slice A (lZ j).length c) (lZ j)):=⟨A,c,rfl,hn,hr⟩;have HB3:=ak (HB.out.trans (b3.mono HB.out.size));have J3:=ak (HRw.out.move b3.size (b3.block _ HRw.out.1));have HK:=ak (HR.out.trans hk);have hsz:=b3.size;have HP:=ak (Nf J3.out (.string op) (.int .i64 0) (.int .i64 0) (.string ⟨#[]⟩) (.slice none 0 0) (.slice none 0 0) (.slice A (lZ j).length c));have HBp:=ak (HB3.out.trans ((J2 w3 (w.heap.size+1) (.string op) (.int .i64 0) (.int .i64 0) (.string ⟨#[]⟩) (.slice none 0 0) (.slice none 0 0) (.slice A (lZ j).length c)).below (by simp at hsz;omega) |>.mono (by omega)))
   have HT:Hid (fP w0 (DI w3 (w.heap.size+1) (.string op) (.int .i64 0) (.int .i64 0) (.string ⟨#[]⟩) (.slice none 0 0) (.slice none 0 0) (.slice A (lZ j).length c)) (aS w (DI w3 (w.heap.size+1) (.string op) (.int .i64 0) (.int .i64 0) (.string ⟨#[]⟩) (.slice none 0 0) (.slice none 0 0) (.slice A (lZ j).length c))) (m+1) (.string op) (.int .i64 0) (.int .i64 0) (.string ⟨#[]⟩) (.slice none 0 0) (.slice none 0 0) (.slice A (lZ j).length c) (op,j)):=by
    have mv:∀ b,aS ((w.alloc (vC j La Lc Ka Kc)).alloc (.cells #[.string ⟨#[]⟩,.int .i64 0,.int .i64 0,.string ⟨#[]⟩,.slice none 0 0,.slice none 0 0,.slice none 0 0] 293)) w3 b->(DI w3 (w.heap.size+1) (.string op) (.int .i64 0) (.int .i64 0) (.string ⟨#[]⟩) (.slice none 0 0) (.slice none 0 0) (.slice A (lZ j).length c)).heap[b]?=w3.heap[b]?/\aS w (DI w3 (w.heap.size+1) (.string op) (.int .i64 0) (.int .i64 0) (.string ⟨#[]⟩) (.slice none 0 0) (.slice none 0 0) (.slice A (lZ j).length c)) b:=fun b hb=>by
     have h1:w.heap.size+1+1<=b:=by simpa using hb.1
     exact ⟨(J2 w3 _ _ _ _ _ _ _ _).block b hb.2 (by omega),by omega,by rw [RV];exact hb.2⟩
    exact ⟨rfl,hop,.inl ⟨HI.out,rfl,rfl,rfl,rfl,rfl,jX.out.move mv (fP.move mv m)⟩⟩
   obtain ⟨⟨y0,z0⟩,s0⟩:=qB J3.out 0 (by omega);obtain ⟨⟨y1,z1⟩,s1⟩:=qB J3.out 1 (by omega);obtain ⟨⟨y2,z2⟩,s2⟩:=qB J3.out 2 (by omega);obtain ⟨⟨y3,z3⟩,s3⟩:=qB J3.out 3 (by omega);obtain ⟨⟨y4,z4⟩,s4⟩:=qB J3.out 4 (by omega);obtain ⟨⟨y5,z5⟩,s5⟩:=qB J3.out 5 (by omega);obtain ⟨⟨y6,z6⟩,s6⟩:=qB J3.out 6 (by omega);unfold DI at HP HBp HT;clear b3 hk hr hsz HC;go_wp2_with fail;clear z0 s0 z1 s1 z2 s2 z3 s3 z4 s4 z5 s5 z6 s6;obtain ⟨x0,x1,x2,x3,x4,x5,x6,x7⟩:=HP.out;refine bodyPost_ret (v:=.agg #[.string op,.int .i64 0,.int .i64 0,.string ⟨#[]⟩,.slice none 0 0,.slice none 0 0,.slice A (lZ j).length c]) (by simp [results,Tryz.results276,go_sem, *]) rfl ?_;exact ⟨HBp.out,.inl ⟨HK.out,_,_,_,_,_,_,_,rfl,HT.out⟩⟩
  ·exact ⟨rfl,HB.out.trans (b3.mono HB.out.size),.inr ⟨HR.out.trans hk,rfl⟩⟩
end Go.Proofs.YtknakfpciccoaaaGreatDoor
