import Derived.Test.YtknakfpciccoaabGreatDoorZL12
import Derived.Test.YtknakfpciccoaabGreatDoorZL7
import Derived.Test.YtknakfpciccoaabGreatDoorZL4
/- The walk of Filter.Among. -/
set_option maxHeartbeats 4000000
set_option maxRecDepth 100000
namespace Go.Proofs.YtknakfpciccoaabGreatDoor
open Go.RowKit
def je (p:T->Bool) (t:T):Nat->List T
 | 0=>[]
 | k+1=>je p t k++(if p (elt t k)=true then [elt t k] else [])
theorem Bb (p:T->Bool) (t:T):∀ k,(je p t k).length<=k
 | 0=>by simp [je]
 | k+1=>by
  have:=Bb p t k;rw [je,List.length_append];split<;>simp<;>omega
structure uh (w0:World) (f:Nat) (hv:Value) (l:List T) (xs:List Value) (wr:World):Prop where
 row:wr.ownsRow w0.heap.size 36 5 hv l.length xs
 at_:∀ i,(h:i<l.length)->At w0 f (fv xs i) l[i]
 low:Below w0.heap.size w0 wr
theorem iO {w w':World} {lo:Nat} {e:TypeId} {size n:Nat} {v:Value} {xs:List Value} (h:w.ownsRow lo e size v n xs) (hb:∀ b,lo<=b->b<w.heap.size->w'.heap[b]?=w.heap[b]?):w'.ownsRow lo e size v n xs:=by
 refine ⟨h.1,?_⟩;rcases h.2 with hn | ⟨g,cap,cur,rfl,hb0,hg,rest⟩
 ·exact .inl hn
 ·exact .inr ⟨g,cap,cur,rfl,hb0,(hb g hb0 (Array.getElem?_eq_some_iff.1 hg).1).trans hg,rest⟩
theorem uh.keep {w0:World} {f:Nat} {hv:Value} {l:List T} {xs:List Value} {wr w1:World} (h:uh w0 f hv l xs wr) (hb:Below wr.heap.size wr w1):uh w0 f hv l xs w1 :=
 ⟨iO h.row fun b _ h2=>hb.block b h2,h.at_,h.low.trans (hb.mono h.low.size)⟩
theorem uh.nil (w0:World) (f:Nat) (wr:World) (h:Below w0.heap.size w0 wr):uh w0 f (.slice none 0 0) [] [] wr:=⟨World.ownsRow_nil _ _ _ _,fun i h=>absurd h (Nat.not_lt_zero i),h⟩
theorem gI {xs ys:List Value} {j:Nat} (h:j<xs.length):cx (xs++ys) j=cx xs j:=by unfold cx;rw [List.getElem?_append_left h]
theorem fG {xs ys:List Value} {j:Nat}:cx (xs++ys) (xs.length+j)=cx ys j:=by unfold cx;rw [List.getElem?_append_right (by omega)];congr 2;omega
theorem uh.grow {w0:World} {f:Nat} {hv v':Value} {l:List T} {xs:List Value} {wr w2:World} {c0 c1 c2 c3 c4:Value} {x:T} (h:uh w0 f hv l xs wr) (ha:At w0 f (.agg #[c0,c1,c2,c3,c4]) x) (hO:w2.ownsRow w0.heap.size 36 5 v' (l.length+1) (xs++[c0,c1,c2,c3,c4])) (hG:wr.grownBy w2 hv.ownBlock):uh w0 f v' (l++[x]) (xs++[c0,c1,c2,c3,c4]) w2:=by
 have hx:xs.length=l.length*5:=h.row.1;refine ⟨by rw [List.length_append];exact hO,fun i hi=>?_,⟨hG.os.trans h.low.os,hG.tape.trans h.low.tape,hG.output.trans h.low.output,Nat.le_trans h.low.size hG.size,fun k hk=>?_⟩⟩
 ·rw [List.length_append,List.length_cons,List.length_nil] at hi;by_cases e:i<l.length
  ·have:=h.at_ i e;rw [List.getElem_append_left e];unfold fv at this ⊢;rw [gI (by omega),gI (by omega),gI (by omega),gI (by omega),gI (by omega)];exact this
  ·obtain rfl:i=l.length:=by omega
   rw [List.getElem_append_right (by omega)];simp only [Nat.sub_self,List.getElem_cons_zero];unfold fv;rw [<- hx,show xs.length=xs.length+0 from rfl,fG,Nat.add_assoc,fG,Nat.add_assoc,fG,Nat.add_assoc,fG,Nat.add_assoc,fG];exact ha
 ·rw [hG.block k (Nat.lt_of_lt_of_le hk h.low.size) ?_,h.low.block k hk];intro e;rcases h.row.2 with ⟨rfl,_⟩ | ⟨g,cap,cur,rfl,hb0,_⟩
  ·cases e
  ·have:k=g:=by simpa [Value.ownBlock] using e
   omega
theorem Bd {Tb:World->Prop} (hL:aS Tb) (m:Nat) (hfil:oC Tb m) (JF:Value) (t d:T) (f:Nat) (La:Option Addr) (Lc:Nat) (w:World) (hfl:eP w m JF t) (hl:bK w f La d) (hn:nL d<=1000000) (hf:f<=16) (hk:∀ i,i<nL d->bM (elt d i)) (hT:Tb w) :
  Calls Tryz.prog 34 #[JF,.slice La (nL d) Lc] w fun e w'=>∃ hv xs,e=.returned hv/\uh w f hv (je (gy m t) d (nL d)) xs w':=by
 obtain ⟨iV,DW,DX,DY,DZ⟩:=info_parts uG;have Rn:=aj hfl;have Hl:=aj hl;have HK:=aj hk;have ahP:=aj hfil;have HT:Hid (∀ w':World,Below w.heap.size w w'->Tb w'):=fun w' hb=>hL w hT w w' hT hb;clear hfl hl hk hfil hT hL;go_in;go_wp2_with fail;go_loopg [5,10] (nL d) (fun g o i wr=>∃ (k:Nat) (xs:List Value),g=nL d - k/\k<=nL d/\i=.int .i64 k/\Hid (uh w f o (je (gy m t) d k) xs wr))
 case atStart=>exact ⟨0,[],rfl,Nat.zero_le _,rfl,uh.nil w f w (Below.refl _ _)⟩
 case round =>
  obtain ⟨k,xs,rfl,hk,rfl,HH⟩:=hrel;by_cases hlt:k<nL d
  ·obtain ⟨bb,oo,A,B,C,D,rfl,hbl,p0,p1,p2,p3,p4,Ha⟩:=Hl.out.shape HH.out.low k hlt;have vO:=aj (aQ wr (vC (elt d k) A B C D));have HB2:=aj (HH.out.low.trans (vO.out.mono HH.out.low.size));have HC:=aj (ahP.out JF t f _ (elt d k) _ (eP.keep HB2.out m _ _ Rn.out) (Ha.out.keep HB2.out) hf (HK.out k hlt) (HT.out _ HB2.out));have hkl:=Bb (gy m t) d k;cases hp:gy m t (elt d k) with
   | true =>
    rw [hp] at HC;have HE:Hid (je (gy m t) d (k+1)=je (gy m t) d k++[elt d k]):=by show _=_;rw [je,if_pos hp]
    clear hp;go_wp2_with fail;refine HC.out.mono ?_;rintro e w2 ⟨rfl,b2⟩
    have j5:Hid (aH wr.heap.size (.int .i64 (ah (elt d k))) (.int .i64 (au (elt d k))) (.string (ay (elt d k))) (.slice A (nL (elt d k)) B) (.slice C (nK (elt d k)) D) w2):=by
     refine aH.stay (w:=wr.alloc (vC (elt d k) A B C D)) ?_ b2;constructor<;>simp [go_sem]
    have HH2:=aj ((HH.out.keep vO.out).keep b2);have HH3:=aj (HH2.out.keep ((Below.refl w2.heap.size w2).alloc (Nat.le_refl _) (vC (elt d k) A B C D)));have qy:Hid (Src Tryz.prog 5 34 (.slice (some ⟨w2.heap.size,0,none⟩) 1 1) 1 [.int .i64 (ah (elt d k)),.int .i64 (au (elt d k)),.string (ay (elt d k)),.slice A (nL (elt d k)) B,.slice C (nK (elt d k)) D] (w2.alloc (vC (elt d k) A B C D))):=Src.ofSlice _ Tryz.underlying34 ⟨w2.heap.size,0,none⟩ 1 1 [.int .i64 (ah (elt d k)),.int .i64 (au (elt d k)),.string (ay (elt d k)),.slice A (nL (elt d k)) B,.slice C (nK (elt d k)) D] (by simp) (World.news_of_block (heap_alloc_new w2 _)) (by simp [Value.oneCell']);have q0:=j5.out.q0;have q1:=j5.out.q1;have q2:=j5.out.q2;have q3:=j5.out.q3;have q4:=j5.out.q4;have hlo:=HH3.out.low.size;clear b2 HC;go_wp2_with (at_builtin;refine aD _ rfl (.tmp 17) (.tmp 19) 34 34 rfl w.heap.size 36 iV _ 5 80 Tryz.underlying34 DW DX DY DZ rfl u5 (je (gy m t) d k).length xs rfl HH3.out.row (.slice (some ⟨w2.heap.size,0,none⟩) 1 1) 1 [.int .i64 (ah (elt d k)),.int .i64 (au (elt d k)),.string (ay (elt d k)),.slice A (nL (elt d k)) B,.slice C (nK (elt d k)) D] rfl qy.out (by unfold maxLen;omega) (by omega) hlo ?_;intro v' w6 pV lZ dW);have H6:=aj (HH3.out.grow Ha.out pV lZ);clear pV lZ dW q0 q1 q2 q3 q4;go_wp2_with fail;go_roundg (nL d - (k+1))
    case rel=>exact ⟨k+1,_,rfl,by omega,by go_num,by rw [HE.out];exact H6⟩
    case measure=>omega
   | false =>
    rw [hp] at HC;have HE:Hid (je (gy m t) d (k+1)=je (gy m t) d k):=by show _=_;rw [je,hp];simp
    clear hp;go_wp2_with fail;refine HC.out.mono ?_;rintro e w2 ⟨rfl,b2⟩;have HH2:=aj ((HH.out.keep vO.out).keep b2);clear b2 HC;go_wp2_with fail;go_roundg (nL d - (k+1))
    case rel=>exact ⟨k+1,_,rfl,by omega,by go_num,by rw [HE.out];exact HH2⟩
    case measure=>omega
  ·obtain rfl:k=nL d:=by omega
   go_wp2_with fail;go_ret;exact ⟨_,_,rfl,HH.out⟩
theorem vg (ok:Bool) (n:Int) (w:World):Calls Tryz.prog 120 #[.bool ok,.int .i64 n] w fun e w'=>w'=w/\e=(if ok then .returned (.tuple #[]) else kK n):=by
 cases ok with
 | true =>
  go_in;go_wp2_with fail;refine bodyPost_end (v:=.tuple #[]) (by simp [results,Tryz.results120,go_sem]) rfl ?_;exact ⟨rfl,rfl⟩
 | false =>
  go_in;go_wp2_with fail;exact ⟨rfl,rfl,rfl⟩
theorem fQ (ok:Bool) (w:World):Calls Tryz.prog 116 #[.bool ok] w fun e w'=>w'=w/\e=(if ok then .returned (.tuple #[]) else kK 8):=by
 have HC:=aj (vg ok 8 w);cases ok with
 | true =>
  simp only [if_true] at HC ⊢;go_in;go_wp2_with fail;refine HC.out.mono ?_;rintro e w2 ⟨rfl,rfl⟩;go_wp2_with fail;refine bodyPost_end (v:=.tuple #[]) (by simp [results,Tryz.results116,go_sem]) rfl ?_;exact ⟨rfl,rfl⟩
 | false =>
  simp only [Bool.false_eq_true,if_false] at HC ⊢;go_in;go_wp2_with fail;refine HC.out.mono ?_;rintro e w2 ⟨rfl,rfl⟩;exact ⟨rfl,rfl,rfl⟩
def uM {α:Type} (E:World->(Nat->Prop)->List Value->α->Prop):Prop:=∀ (w w':World) (X X':Nat->Prop) (cs:List Value) (x:α),E w X cs x->(∀ b,X b->w'.heap[b]?=w.heap[b]?/\X' b)->E w' X' cs x
def UO (s:Nat) (xs:List Value) (i:Nat):List Value:=(xs.drop (i*s)).take s
def Y0 (base:Nat) (hv:Value) (w:World) (b:Nat):Prop:=base<=b/\b<w.heap.size/\some b≠hv.ownBlock
structure ru {α:Type} (E:World->(Nat->Prop)->List Value->α->Prop) (s:Nat) (e:TypeId) (base:Nat) (hv:Value) (l:List α) (xs:List Value) (wr:World):Prop where
 row:wr.ownsRow base e s hv l.length xs
 el:∀ i,(h:i<l.length)->E wr (Y0 base hv wr) (UO s xs i) l[i]
theorem ru.nil {α:Type} (E:World->(Nat->Prop)->List Value->α->Prop) (s:Nat) (e:TypeId) (base:Nat) (wr:World):ru E s e base (.slice none 0 0) [] [] wr:=⟨World.ownsRow_nil _ _ _ _,fun i h=>absurd h (Nat.not_lt_zero i)⟩
theorem ru.keep {α:Type} {E:World->(Nat->Prop)->List Value->α->Prop} (hE:uM E) {s:Nat} {e:TypeId} {base:Nat} {hv:Value} {l:List α} {xs:List Value} {wr w1:World} (h:ru E s e base hv l xs wr) (hb:Below wr.heap.size wr w1):ru E s e base hv l xs w1 :=
 ⟨iO h.row fun b _ h2=>hb.block b h2,fun i hi=>hE _ _ _ _ _ _ (h.el i hi) fun b hX=>⟨hb.block b hX.2.1,hX.1,Nat.lt_of_lt_of_le hX.2.1 hb.size,hX.2.2⟩⟩
theorem UQ {s:Nat} {xs ys:List Value} {i n:Nat} (hx:xs.length=n*s) (hi:i<n):UO s (xs++ys) i=UO s xs i:=by
 have h1:(i+1)*s<=n*s:=Nat.mul_le_mul_right s hi;rw [Nat.add_mul,Nat.one_mul] at h1;unfold UO;rw [List.drop_append_of_le_length (by omega),List.take_append_of_le_length (by rw [List.length_drop];omega)]
theorem Ro {s:Nat} {xs ys:List Value} {n:Nat} (hx:xs.length=n*s) (hy:ys.length=s):UO s (xs++ys) n=ys:=by
 unfold UO;rw [<- hx,List.drop_left,<- hy,List.take_length]
theorem Gl {w:World} {lo:Nat} {e:TypeId} {size n:Nat} {v:Value} {xs:List Value} (h:w.ownsRow lo e size v n xs) {b:Nat} (hb:v.ownBlock=some b):lo<=b/\b<w.heap.size:=by
 rcases h.2 with ⟨rfl,_⟩ | ⟨g,cap,cur,rfl,hb0,hg,rest⟩
 ·cases hb
 ·have:b=g:=by simpa [Value.ownBlock] using hb.symm
  subst this;exact ⟨hb0,(Array.getElem?_eq_some_iff.1 hg).1⟩
theorem ru.grow {α:Type} {E:World->(Nat->Prop)->List Value->α->Prop} (hE:uM E) {s:Nat} {e:TypeId} {base:Nat} {hv v':Value} {l:List α} {xs cs:List Value} {wr w2 w3:World} {x:α} {X:Nat->Prop} (h:ru E s e base hv l xs wr) (hb:Below wr.heap.size wr w2) (hc:cs.length=s) (hx:E w2 X cs x) (hX:∀ b,X b->wr.heap.size<=b/\b<w2.heap.size) (hlo:base<=wr.heap.size)
  (hO:w3.ownsRow base e s v' (l.length+1) (xs++cs)) (hG:w2.grownBy w3 hv.ownBlock) (hat:v'.ownBlock=hv.ownBlock\/v'.ownBlock=some w2.heap.size):ru E s e base v' (l++[x]) (xs++cs) w3:=by
 have hxl:xs.length=l.length*s:=h.row.1
 have own:∀ b,b<w2.heap.size->some b≠hv.ownBlock->some b≠v'.ownBlock:=fun b h1 h2=>by
  rcases hat with ha | ha
  ·rw [ha];exact h2
  ·rw [ha];intro e;simp only [Option.some.injEq] at e;omega
 refine ⟨by rw [List.length_append];exact hO,fun i hi=>?_⟩;rw [List.length_append,List.length_cons,List.length_nil] at hi;by_cases ei:i<l.length
 ·rw [List.getElem_append_left ei,UQ hxl ei];refine hE _ _ _ _ _ _ (h.el i ei) fun b hX=>?_;have h2:b<w2.heap.size:=Nat.lt_of_lt_of_le hX.2.1 hb.size;exact ⟨(hG.block b h2 hX.2.2).trans (hb.block b hX.2.1),hX.1,Nat.lt_of_lt_of_le h2 hG.size,own b h2 hX.2.2⟩
 ·obtain rfl:i=l.length:=by omega
  rw [List.getElem_append_right (by omega),Ro hxl hc];simp only [Nat.sub_self,List.getElem_cons_zero];refine hE _ _ _ _ _ _ hx fun b hb'=>?_;have h1:=hX b hb';have h3:some b≠hv.ownBlock:=fun e=>by have:=(Gl h.row e.symm).2;omega
  exact ⟨hG.block b h1.2 h3,by omega,Nat.lt_of_lt_of_le h1.2 hG.size,own b h1.2 h3⟩
structure lN where
 w:World
 y:Nat->Prop
def xS (o:lN) (f:Nat) (v:Value) (t:T):Prop:=qg o.y o.w f v t
def MF (o:lN) (f:Nat) (La:Option Addr) (t:T):Prop:=∀ i,i<nL t->∃ b oo c0 c1 c2 c3 c4,La=some ⟨b,oo,none⟩/\(b<o.w.heap.size/\o.y b)/\o.w.cell? ⟨b,oo+i*5,none⟩=some c0/\o.w.cell? ⟨b,oo+i*5+1,none⟩=some c1/\o.w.cell? ⟨b,oo+i*5+2,none⟩=some c2/\o.w.cell? ⟨b,oo+i*5+3,none⟩=some c3/\o.w.cell? ⟨b,oo+i*5+4,none⟩=some c4/\qg o.y o.w f (.agg #[c0,c1,c2,c3,c4]) (elt t i)
theorem xS.open {o:lN} {f:Nat} {v:Value} {t:T} (h:xS o f v t):∃ (g:Nat) (La Ka:Option Addr) (Lc Kc:Nat),f=g+1 /\
   v=.agg #[.int .i64 (ah t),.int .i64 (au t),.string (ay t),.slice La (nL t) Lc,.slice Ka (nK t) Kc]/\zk t/\Hid (MF o g La t)/\Hid (ji o.w Ka t):=by
 cases f with
 | zero=>exact h.elim
 | succ f =>
  obtain ⟨La,Ka,Lc,Kc,rfl,hf,hl,hk⟩:=h;refine ⟨f,La,Ka,Lc,Kc,rfl,rfl,hf,hl,fun i hi=>?_⟩;obtain ⟨b,oo,h0,⟨h1,_⟩,h2,h3⟩:=hk i hi;exact ⟨b,oo,h0,h1,h2,h3⟩
theorem MF.shape {o:lN} {w':World} (h:Below o.w.heap.size o.w w') {f:Nat} {La:Option Addr} {t:T} (hl:MF o f La t) (i:Nat) (hi:i<nL t) :
  ∃ b oo A B C D,La=some ⟨b,oo,none⟩/\b<o.w.heap.size/\w'.cell? ⟨b,oo+i*5,none⟩=some (.int .i64 (ah (elt t i)))/\w'.cell? ⟨b,oo+i*5+1,none⟩=some (.int .i64 (au (elt t i)))/\w'.cell? ⟨b,oo+i*5+2,none⟩=some (.string (ay (elt t i)))/\w'.cell? ⟨b,oo+i*5+3,none⟩=some (.slice A (nL (elt t i)) B)/\w'.cell? ⟨b,oo+i*5+4,none⟩=some (.slice C (nK (elt t i)) D) /\
   Hid (xS o f (.agg #[.int .i64 (ah (elt t i)),.int .i64 (au (elt t i)),.string (ay (elt t i)),.slice A (nL (elt t i)) B,.slice C (nK (elt t i)) D]) (elt t i)):=by
 obtain ⟨b,oo,c0,c1,c2,c3,c4,h0,⟨hb,_⟩,q0,q1,q2,q3,q4,ha⟩:=hl i hi;obtain ⟨g,A,C,B,D,_,hv,_⟩:=(show xS o f _ _ from ha).open;simp only [Value.agg.injEq,Array.mk.injEq,List.cons.injEq,and_true] at hv;obtain ⟨rfl,rfl,rfl,rfl,rfl⟩:=hv;exact ⟨b,oo,A,B,C,D,h0,hb,(h.cell (p:=⟨b,_,none⟩) hb).trans q0,(h.cell (p:=⟨b,_,none⟩) hb).trans q1,(h.cell (p:=⟨b,_,none⟩) hb).trans q2,(h.cell (p:=⟨b,_,none⟩) hb).trans q3,(h.cell (p:=⟨b,_,none⟩) hb).trans q4,ha⟩
def uj (w:World) (X:Nat->Prop) (R:R7) (v:Value) (ps:List (ByteArray×T)):Prop :=
 ∃ (A:Option Addr) (c:Nat),v=.slice A ps.length c/\ps.length<=1000000000/\∀ i,(h:i<ps.length)->∃ b o c0 c1 c2 c3 c4 c5 c6,A=some ⟨b,o,none⟩/\X b/\w.cell? ⟨b,o+i*7,none⟩=some c0/\w.cell? ⟨b,o+i*7+1,none⟩=some c1/\w.cell? ⟨b,o+i*7+2,none⟩=some c2/\w.cell? ⟨b,o+i*7+3,none⟩=some c3/\w.cell? ⟨b,o+i*7+4,none⟩=some c4/\w.cell? ⟨b,o+i*7+5,none⟩=some c5/\w.cell? ⟨b,o+i*7+6,none⟩=some c6/\R c0 c1 c2 c3 c4 c5 c6 ps[i]
def fU (w0 : lN) (w : World) (X : Nat -> Prop) : Nat -> R7
  | 0 => fun _ _ _ _ _ _ _ _ => False
  | m + 1 => fun c0 c1 c2 c3 c4 c5 c6 p => c0 = .string p.1 /\ p.1.size <= 140737488355328 /\
      ((jZ p.1 /\ c1 = .int .i64 0 /\ c2 = .int .i64 0 /\ c3 = .string ⟨#[]⟩ /\ c4 = .slice none 0 0 /\ c5 = .slice none 0 0 /\ uj w X (fU w0 w X m) c6 (mg p.2)) \/
       (¬ jZ p.1 /\ c6 = .slice none 0 0 /\ ∃ g A B C D, g <= 16 /\ c1 = .int .i64 (ah p.2) /\ c2 = .int .i64 (au p.2) /\ c3 = .string (ay p.2) /\ c4 = .slice A (nL p.2) B /\ c5 = .slice C (nK p.2) D /\ xS w0 g (.agg #[.int .i64 (ah p.2), .int .i64 (au p.2), .string (ay p.2), .slice A (nL p.2) B, .slice C (nK p.2) D]) p.2 /\ bM p.2))
theorem uj.move {w w':World} {X X':Nat->Prop} {R R':R7} {v:Value} {ps:List (ByteArray×T)} (h:uj w X R v ps) (hb:∀ b,X b->w'.heap[b]?=w.heap[b]?/\X' b) (hR:∀ c0 c1 c2 c3 c4 c5 c6 p,R c0 c1 c2 c3 c4 c5 c6 p->R' c0 c1 c2 c3 c4 c5 c6 p):uj w' X' R' v ps:=by
 obtain ⟨A,c,hv,hn,h⟩:=h;refine ⟨A,c,hv,hn,fun i hi=>?_⟩;obtain ⟨b,o,c0,c1,c2,c3,c4,c5,c6,h0,hl,q0,q1,q2,q3,q4,q5,q6,hr⟩:=h i hi;obtain ⟨h1,h2⟩:=hb b hl;exact ⟨b,o,c0,c1,c2,c3,c4,c5,c6,h0,h2,(aC h1 _).trans q0,(aC h1 _).trans q1,(aC h1 _).trans q2,(aC h1 _).trans q3,(aC h1 _).trans q4,(aC h1 _).trans q5,(aC h1 _).trans q6,hR _ _ _ _ _ _ _ _ hr⟩
theorem fU.move {w0:lN} {w w':World} {X X':Nat->Prop} (hb:∀ b,X b->w'.heap[b]?=w.heap[b]?/\X' b):∀ (m:Nat) (c0 c1 c2 c3 c4 c5 c6:Value) (p:ByteArray×T),fU w0 w X m c0 c1 c2 c3 c4 c5 c6 p->fU w0 w' X' m c0 c1 c2 c3 c4 c5 c6 p
 | 0,_,_,_,_,_,_,_,_,h=>h
 | m+1,c0,c1,c2,c3,c4,c5,c6,p,h=>by
  obtain ⟨h0,h1,⟨hi,z1,z2,z3,z4,z5,hr⟩ | h2⟩:=h
  ·exact ⟨h0,h1,.inl ⟨hi,z1,z2,z3,z4,z5,hr.move hb (fU.move hb m)⟩⟩
  ·exact ⟨h0,h1,.inr h2⟩
theorem uj.at {w:World} {X:Nat->Prop} {R R':R7} {v:Value} {ps:List (ByteArray×T)} (h:uj w X R v ps) (hX:∀ b,X b->b<w.heap.size) (hR:∀ c0 c1 c2 c3 c4 c5 c6 p,R c0 c1 c2 c3 c4 c5 c6 p->R' c0 c1 c2 c3 c4 c5 c6 p):Mw w R' v ps:=by
 obtain ⟨A,c,hv,hn,h⟩:=h;refine ⟨A,c,hv,hn,fun i hi=>?_⟩;obtain ⟨b,o,c0,c1,c2,c3,c4,c5,c6,h0,hl,q0,q1,q2,q3,q4,q5,q6,hr⟩:=h i hi;exact ⟨b,o,c0,c1,c2,c3,c4,c5,c6,h0,hX b hl,q0,q1,q2,q3,q4,q5,q6,hR _ _ _ _ _ _ _ _ hr⟩
theorem fU.at {w0:lN} {w:World} {X:Nat->Prop} (hX:∀ b,X b->b<w.heap.size) (hb:∀ f v t,xS w0 f v t->At w f v t):∀ (m:Nat) (c0 c1 c2 c3 c4 c5 c6:Value) (p:ByteArray×T),fU w0 w X m c0 c1 c2 c3 c4 c5 c6 p->lT w m c0 c1 c2 c3 c4 c5 c6 p
 | 0,_,_,_,_,_,_,_,_,h=>h
 | m+1,c0,c1,c2,c3,c4,c5,c6,p,h=>by
  obtain ⟨h0,h1,⟨hi,z1,z2,z3,z4,z5,hr⟩ | ⟨hi,z6,g,A,B,C,D,hg,z1,z2,z3,z4,z5,ha,hk⟩⟩:=h
  ·exact ⟨h0,h1,.inl ⟨hi,z1,z2,z3,z4,z5,hr.at hX (fU.at hX hb m)⟩⟩
  ·exact ⟨h0,h1,.inr ⟨hi,z6,g,A,B,C,D,hg,z1,z2,z3,z4,z5,hb _ _ _ ha,hk⟩⟩
def UR (w0:lN) (m:Nat) (w:World) (X:Nat->Prop) (cs:List Value) (p:ByteArray×T):Prop:=∃ c0 c1 c2 c3 c4 c5 c6,cs=[c0,c1,c2,c3,c4,c5,c6]/\fU w0 w X m c0 c1 c2 c3 c4 c5 c6 p
theorem oD (w0:lN) (m:Nat):uM (UR w0 m):=fun _ _ _ _ _ _ h hb=>by
 obtain ⟨c0,c1,c2,c3,c4,c5,c6,hc,h⟩:=h;exact ⟨c0,c1,c2,c3,c4,c5,c6,hc,fU.move hb m _ _ _ _ _ _ _ _ h⟩
def jk (op:ByteArray):Prop:=op=wG\/op=Jt\/op=AY\/op=Eb\/op=uZ\/op=Ju
instance (op : ByteArray) : Decidable (jk op) := by unfold jk; infer_instance
instance (op : ByteArray) : Decidable (jZ op) := by unfold jZ; infer_instance
def nI (g:T->Bool) (op:ByteArray) (j:T):Bool :=
 if jk op then true
 else if op=CU\/op=yR then ah j==5
 else if op=jd then ah j==2
 else if op=jl then (ah j==3&&decide (0<=au j))
 else if op=oP then ((ah j==3&&decide (1<=au j))&&decide (au j<=6))
 else if op=wE\/op=rX then g j
 else false
def jX:Nat->T->Bool
 | 0,_=>false
 | m+1,j=>(ah j==6&&decide (0<nK j))&&rY (fun i=>nI (jX m) (bR j i) (elt j i)) (nK j)
def aT (w w':World) (b:Nat):Prop:=w.heap.size<=b/\b<w'.heap.size
def ab0 (w0:lN) (m:Nat) (j:T) (w:World) (e:Ending) (w':World):Prop :=
 Below w.heap.size w w'/\((jX m j=true/\∃ tv,e=.returned tv/\uj w' (aT w w') (fU w0 w' (aT w w') m) tv (mg j))\/(jX m j=false/\e=kK 8))
def Bf (w0:lN) (f:Nat):Prop:=∀ (m:Nat) (v:Value) (j:T) (w:World),f<=m->xS w0 f v j->f<=16->bM j->Below w0.w.heap.size w0.w w->Calls Tryz.prog 160 #[v] w (ab0 w0 m j w)
def Gm (w0:lN) (m:Nat) (op:ByteArray) (j:T) (w:World) (e:Ending) (w':World):Prop :=
 Below w.heap.size w w'/\((nI (jX m) op j=true/\∃ c0 c1 c2 c3 c4 c5 c6,e=.returned (.agg #[c0,c1,c2,c3,c4,c5,c6])/\fU w0 w' (aT w w') (m+1) c0 c1 c2 c3 c4 c5 c6 (op,j))\/(nI (jX m) op j=false/\e=kK 8))
def PtT (w0:lN) (m:Nat) (op:ByteArray) (j:T) (La Ka:Option Addr) (Lc Kc:Nat) (w:World):Prop:=Calls Tryz.prog 174 #[.string op,.agg #[.int .i64 (ah j),.int .i64 (au j),.string (ay j),.slice La (nL j) Lc,.slice Ka (nK j) Kc]] w (Gm w0 m op j w)
theorem Gn (w:World) (a b:Obj):Below w.heap.size w ((w.alloc a).alloc b):=(aQ _ _).alloc (by simp) _
theorem Rp {op:ByteArray} (hp:jk op):((op.toList==[36,101,113])=true)\/((op.toList==[36,101,113])=false/\(op.toList==[36,110,101])=true)\/((op.toList==[36,101,113])=false/\(op.toList==[36,110,101])=false/\(op.toList==[36,103,116])=true)\/((op.toList==[36,101,113])=false/\(op.toList==[36,110,101])=false/\(op.toList==[36,103,116])=false/\(op.toList==[36,103,116,101])=true)\/((op.toList==[36,101,113])=false/\(op.toList==[36,110,101])=false/\(op.toList==[36,103,116])=false/\(op.toList==[36,103,116,101])=false/\(op.toList==[36,108,116])=true)\/((op.toList==[36,101,113])=false/\(op.toList==[36,110,101])=false/\(op.toList==[36,103,116])=false/\(op.toList==[36,103,116,101])=false/\(op.toList==[36,108,116])=false/\(op.toList==[36,108,116,101])=true):=by
 by_cases h0:op=wG
 ·exact .inl (bX h0)
 refine .inr ?_;by_cases h1:op=Jt
 ·exact .inl ⟨aF h0,bX h1⟩
 refine .inr ?_;by_cases h2:op=AY
 ·exact .inl ⟨aF h0,aF h1,bX h2⟩
 refine .inr ?_;by_cases h3:op=Eb
 ·exact .inl ⟨aF h0,aF h1,aF h2,bX h3⟩
 refine .inr ?_;by_cases h4:op=uZ
 ·exact .inl ⟨aF h0,aF h1,aF h2,aF h3,bX h4⟩
 refine .inr ?_;exact ⟨aF h0,aF h1,aF h2,aF h3,aF h4,bX (((((hp.resolve_left h0).resolve_left h1).resolve_left h2).resolve_left h3).resolve_left h4)⟩
theorem Bg {op:ByteArray} (hp:¬ jk op):(op.toList==[36,101,113])=false/\(op.toList==[36,110,101])=false/\(op.toList==[36,103,116])=false/\(op.toList==[36,103,116,101])=false/\(op.toList==[36,108,116])=false/\(op.toList==[36,108,116,101])=false :=
 ⟨aF fun h=>hp (.inl h),aF fun h=>hp (.inr (.inl h)),aF fun h=>hp (.inr (.inr (.inl h))),aF fun h=>hp (.inr (.inr (.inr (.inl h)))),aF fun h=>hp (.inr (.inr (.inr (.inr (.inl h))))),aF fun h=>hp (.inr (.inr (.inr (.inr (.inr h)))))⟩
theorem ab1 {g:T->Bool} {op:ByteArray} {j:T} (hp:¬ jk op) (hi:¬ jZ op) (h:nI g op j=true):((op.toList==[36,105,110])=true/\(ah j==5)=true)\/((op.toList==[36,105,110])=false/\(op.toList==[36,110,105,110])=true/\(ah j==5)=true)\/((op.toList==[36,105,110])=false/\(op.toList==[36,110,105,110])=false/\(op.toList==[36,101,120,105,115,116,115])=true/\(ah j==2)=true)\/((op.toList==[36,105,110])=false/\(op.toList==[36,110,105,110])=false/\(op.toList==[36,101,120,105,115,116,115])=false/\(op.toList==[36,115,105,122,101])=true/\(ah j==3)=true/\0<=au j)\/((op.toList==[36,105,110])=false/\(op.toList==[36,110,105,110])=false/\(op.toList==[36,101,120,105,115,116,115])=false/\(op.toList==[36,115,105,122,101])=false/\(op.toList==[36,107,105,110,100])=true/\(ah j==3)=true/\1<=au j/\au j<=6):=by
 unfold nI at h;rw [if_neg hp] at h;by_cases h0:op=CU
 ·rw [if_pos (.inl h0)] at h;exact .inl ⟨bX h0,h⟩
 refine .inr ?_;by_cases h1:op=yR
 ·rw [if_pos (.inr h1)] at h;exact .inl ⟨aF h0,bX h1,h⟩
 rw [if_neg (fun h=>h.elim h0 h1)] at h;refine .inr ?_;by_cases h2:op=jd
 ·rw [if_pos h2] at h;exact .inl ⟨aF h0,aF h1,bX h2,h⟩
 rw [if_neg h2] at h;refine .inr ?_;by_cases h3:op=jl
 ·rw [if_pos h3,Bool.and_eq_true,decide_eq_true_eq] at h;exact .inl ⟨aF h0,aF h1,aF h2,bX h3,h.1,h.2⟩
 rw [if_neg h3] at h;refine .inr ?_;by_cases h4:op=oP
 ·rw [if_pos h4,Bool.and_eq_true,Bool.and_eq_true,decide_eq_true_eq,decide_eq_true_eq] at h;exact ⟨aF h0,aF h1,aF h2,aF h3,bX h4,h.1.1,h.1.2,h.2⟩
 rw [if_neg h4] at h;rw [if_neg (show ¬ (op=wE\/op=rX) from hi)] at h;cases h
theorem ab2 {g:T->Bool} {op:ByteArray} {j:T} (hp:¬ jk op) (hi:¬ jZ op) (h:nI g op j=false):((op.toList==[36,105,110])=true/\(ah j==5)=false)\/((op.toList==[36,105,110])=false/\(op.toList==[36,110,105,110])=true/\(ah j==5)=false)\/((op.toList==[36,105,110])=false/\(op.toList==[36,110,105,110])=false/\(op.toList==[36,101,120,105,115,116,115])=true/\(ah j==2)=false)\/((op.toList==[36,105,110])=false/\(op.toList==[36,110,105,110])=false/\(op.toList==[36,101,120,105,115,116,115])=false/\(op.toList==[36,115,105,122,101])=true/\((ah j==3)=false\/((ah j==3)=true/\¬ 0<=au j)))\/((op.toList==[36,105,110])=false/\(op.toList==[36,110,105,110])=false/\(op.toList==[36,101,120,105,115,116,115])=false/\(op.toList==[36,115,105,122,101])=false/\(op.toList==[36,107,105,110,100])=true/\((ah j==3)=false\/((ah j==3)=true/\¬ 1<=au j)\/((ah j==3)=true/\1<=au j/\¬ au j<=6)))\/((op.toList==[36,105,110])=false/\(op.toList==[36,110,105,110])=false/\(op.toList==[36,101,120,105,115,116,115])=false/\(op.toList==[36,115,105,122,101])=false/\(op.toList==[36,107,105,110,100])=false/\(op.toList==[36,110,111,116])=false/\(op.toList==[36,97,110,121])=false):=by
 unfold nI at h;rw [if_neg hp] at h;by_cases h0:op=CU
 ·rw [if_pos (.inl h0)] at h;exact .inl ⟨bX h0,h⟩
 refine .inr ?_;by_cases h1:op=yR
 ·rw [if_pos (.inr h1)] at h;exact .inl ⟨aF h0,bX h1,h⟩
 rw [if_neg (fun h=>h.elim h0 h1)] at h;refine .inr ?_;by_cases h2:op=jd
 ·rw [if_pos h2] at h;exact .inl ⟨aF h0,aF h1,bX h2,h⟩
 rw [if_neg h2] at h;refine .inr ?_;by_cases h3:op=jl
 ·rw [if_pos h3] at h;refine .inl ⟨aF h0,aF h1,aF h2,bX h3,?_⟩;cases k:ah j==3 with
  | false=>exact .inl rfl
  | true=>rw [k,Bool.true_and,decide_eq_false_iff_not] at h;exact .inr ⟨rfl,h⟩
 rw [if_neg h3] at h;refine .inr ?_;by_cases h4:op=oP
 ·rw [if_pos h4] at h;refine .inl ⟨aF h0,aF h1,aF h2,aF h3,bX h4,?_⟩;cases k:ah j==3 with
  | false=>exact .inl rfl
  | true =>
   rw [k,Bool.true_and] at h;by_cases k1:1<=au j
   ·rw [decide_eq_true k1,Bool.true_and,decide_eq_false_iff_not] at h;exact .inr (.inr ⟨rfl,k1,h⟩)
   ·exact .inr (.inl ⟨rfl,k1⟩)
 rw [if_neg h4] at h;refine .inr ?_;exact ⟨aF h0,aF h1,aF h2,aF h3,aF h4,aF fun h=>hi (.inl h),aF fun h=>hi (.inr h)⟩
theorem Py {op:ByteArray} (hi:jZ op):¬ jk op/\(op.toList==[36,105,110])=false/\(op.toList==[36,110,105,110])=false/\(op.toList==[36,101,120,105,115,116,115])=false/\(op.toList==[36,115,105,122,101])=false/\(op.toList==[36,107,105,110,100])=false/\((op.toList==[36,110,111,116])=true\/((op.toList==[36,110,111,116])=false/\(op.toList==[36,97,110,121])=true)):=by
 have q:¬ jk op/\¬ op=CU/\¬ op=yR/\¬ op=jd/\¬ op=jl/\¬ op=oP:=by rcases hi with g | g<;>rw [g]<;>decide
 obtain ⟨q,q1,q2,q3,q4,q5⟩:=q;refine ⟨q,aF q1,aF q2,aF q3,aF q4,aF q5,?_⟩;by_cases h:op=wE
 ·exact .inl (bX h)
 ·exact .inr ⟨aF h,bX (hi.resolve_left h)⟩
theorem ab3 {g:T->Bool} {op:ByteArray} {j:T} (hi:jZ op):nI g op j=g j:=by
 unfold nI;rw [if_neg (Py hi).1,if_neg,if_neg,if_neg,if_neg,if_pos (show op=wE\/op=rX from hi)]
 all_goals rcases hi with g | g<;>rw [g]<;>decide
theorem MG (w0:lN) (m:Nat) (op:ByteArray) (j:T) (La Ka:Option Addr) (Lc Kc:Nat) (f:Nat) (w:World) (hop:op.size<=140737488355328) (ha:xS w0 f (.agg #[.int .i64 (ah j),.int .i64 (au j),.string (ay j),.slice La (nL j) Lc,.slice Ka (nK j) Kc]) j) (hf:f<=16) (kj:bM j) (hi:¬ jZ op):PtT w0 m op j La Ka Lc Kc w:=by
 unfold PtT;cases hR:nI (jX m) op j with
 | true =>
  have H:Hid (∀ a b,Gm w0 m op j w (.returned (.agg #[.string op,.int .i64 (ah j),.int .i64 (au j),.string (ay j),.slice La (nL j) Lc,.slice Ka (nK j) Kc,.slice none 0 0])) ((w.alloc a).alloc b)):=fun a b=>⟨Gn _ _ _,.inl ⟨hR,_,_,_,_,_,_,_,rfl,rfl,hop,.inr ⟨hi,rfl,f,La,Lc,Ka,Kc,hf,rfl,rfl,rfl,rfl,rfl,ha,kj⟩⟩⟩;by_cases hp:jk op
  ·have hw:=Rp hp;clear ha kj hR hi hp;rcases hw with e | ⟨e,e1⟩ | ⟨e,e1,e2⟩ | ⟨e,e1,e2,e3⟩ | ⟨e,e1,e2,e3,e4⟩ | ⟨e,e1,e2,e3,e4,e5⟩
   all_goals
    go_in;go_wp2_with fail;refine bodyPost_ret (v:=.agg #[.string op,.int .i64 (ah j),.int .i64 (au j),.string (ay j),.slice La (nL j) Lc,.slice Ka (nK j) Kc,.slice none 0 0]) (by simp [results,Tryz.results174,go_sem]) rfl ?_;exact H.out _ _
  ·obtain ⟨e,e1,e2,e3,e4,e5⟩:=Bg hp;have hw:=ab1 hp hi hR;clear ha kj hR hi hp;rcases hw with ⟨a,k⟩ | ⟨a,b,k⟩ | ⟨a,b,c,k⟩ | ⟨a,b,c,d,k,k1⟩ | ⟨a,b,c,d,e6,k,k1,k2⟩
   all_goals
    go_in;go_wp2_with fail;refine (fQ true _).mono ?_;rintro e w2 ⟨rfl,he⟩;simp only [if_true] at he;subst he;go_wp2_with fail;refine bodyPost_ret (v:=.agg #[.string op,.int .i64 (ah j),.int .i64 (au j),.string (ay j),.slice La (nL j) Lc,.slice Ka (nK j) Kc,.slice none 0 0]) (by simp [results,Tryz.results174,go_sem]) rfl ?_;exact H.out _ _
 | false =>
  have H:Hid (∀ a b,Gm w0 m op j w (kK 8) ((w.alloc a).alloc b)):=fun a b=>⟨Gn _ _ _,.inr ⟨hR,rfl⟩⟩;have hp:¬ jk op:=fun hp=>by unfold nI at hR;rw [if_pos hp] at hR;cases hR
  obtain ⟨e,e1,e2,e3,e4,e5⟩:=Bg hp;have hw:=ab2 hp hi hR;clear ha kj hR hi hp;rcases hw with ⟨a,k⟩ | ⟨a,b,k⟩ | ⟨a,b,c,k⟩ | ⟨a,b,c,d,k | ⟨k,k1⟩⟩ | ⟨a,b,c,d,e6,k | ⟨k,k1⟩ | ⟨k,k1,k2⟩⟩ | ⟨a,b,c,d,e6,e7,e8⟩
  all_goals
   go_in;go_wp2_with fail;refine (fQ false _).mono ?_;rintro e w2 ⟨rfl,he⟩;simp only [Bool.false_eq_true,if_false] at he;subst he;exact ⟨rfl,H.out _ _⟩
def CX (w:World) (b:Nat) (u0 u1 u2 u3 u4 u5 u6:Value):World:=((((((w.setCell ⟨b,0,none⟩ u0).setCell ⟨b,1,none⟩ u1).setCell ⟨b,2,none⟩ u2).setCell ⟨b,3,none⟩ u3).setCell ⟨b,4,none⟩ u4).setCell ⟨b,5,none⟩ u5).setCell ⟨b,6,none⟩ u6
theorem MH {w:World} {b:Nat} (h:uE w b 7) (u0 u1 u2 u3 u4 u5 u6:Value):Ri b u0 u1 u2 u3 u4 u5 u6 (CX w b u0 u1 u2 u3 u4 u5 u6):=by
 have h0:=h;have h1:=h0.set b 0 u0;have h2:=h1.set b 1 u1;have h3:=h2.set b 2 u2;have h4:=h3.set b 3 u3;have h5:=h4.set b 4 u4;have h6:=h5.set b 5 u5;have h7:=h6.set b 6 u6;unfold CX;refine ⟨?_,?_,?_,?_,?_,?_,?_,h7.1⟩
 ·rw [aG (by omega),aG (by omega),aG (by omega),aG (by omega),aG (by omega),aG (by omega),mQ h0 (by omega)]
 ·rw [aG (by omega),aG (by omega),aG (by omega),aG (by omega),aG (by omega),mQ h1 (by omega)]
 ·rw [aG (by omega),aG (by omega),aG (by omega),aG (by omega),mQ h2 (by omega)]
 ·rw [aG (by omega),aG (by omega),aG (by omega),mQ h3 (by omega)]
 ·rw [aG (by omega),aG (by omega),mQ h4 (by omega)]
 ·rw [aG (by omega),mQ h5 (by omega)]
 ·rw [mQ h6 (by omega)]
theorem JG (w:World) (b:Nat) (u0 u1 u2 u3 u4 u5 u6:Value):bI b w (CX w b u0 u1 u2 u3 u4 u5 u6) :=
 ((((((bI.set w b 0 u0).trans (bI.set _ b 1 u1)).trans (bI.set _ b 2 u2)).trans (bI.set _ b 3 u3)).trans (bI.set _ b 4 u4)).trans (bI.set _ b 5 u5)).trans (bI.set _ b 6 u6)
theorem Rq (w:World) (b:Nat) (u0 u1 u2 u3 u4 u5 u6:Value):(CX w b u0 u1 u2 u3 u4 u5 u6).heap.size=w.heap.size:=by
 unfold CX;simp [World.setCell]
theorem qz {w:World} {b n:Nat} (h:uE w b n) (i:Nat) (hi:i<n):(∃ y,w.cell? ⟨b,i,none⟩=some y)/\w.frozen? ⟨b,i,none⟩=false:=⟨Option.isSome_iff_exists.1 (h.2 i hi).1,(h.2 i hi).2⟩
theorem Rs (w0:lN) (m:Nat) (op:ByteArray) (j:T) (La Ka:Option Addr) (Lc Kc:Nat) (f:Nat) (ih:Bf w0 f) (w:World) (hop:op.size<=140737488355328) (ha:xS w0 f (.agg #[.int .i64 (ah j),.int .i64 (au j),.string (ay j),.slice La (nL j) Lc,.slice Ka (nK j) Kc]) j) (hm:f<=m) (hf:f<=16) (kj:bM j) (hb0:Below w0.w.heap.size w0.w w) (gi:jZ op):PtT w0 m op j La Ka Lc Kc w:=by
 unfold PtT;have HB:Hid (Below w.heap.size w ((w.alloc (vC j La Lc Ka Kc)).alloc (.cells #[.string ⟨#[]⟩,.int .i64 0,.int .i64 0,.string ⟨#[]⟩,.slice none 0 0,.slice none 0 0,.slice none 0 0] 233))):=Gn _ _ _
 have HRw:Hid (uE ((w.alloc (vC j La Lc Ka Kc)).alloc (.cells #[.string ⟨#[]⟩,.int .i64 0,.int .i64 0,.string ⟨#[]⟩,.slice none 0 0,.slice none 0 0,.slice none 0 0] 233)) (w.heap.size+1) 7):=by
  refine ⟨by simp,fun o ho=>?_⟩;obtain rfl | rfl | rfl | rfl | rfl | rfl | rfl:o=0\/o=1\/o=2\/o=3\/o=4\/o=5\/o=6:=by omega
  all_goals simp [go_sem]
 have HR:Hid (nI (jX m) op j=jX m j):=ab3 gi;have HI:Hid (jZ op):=gi;have HC:=aj (ih m _ j ((w.alloc (vC j La Lc Ka Kc)).alloc (.cells #[.string ⟨#[]⟩,.int .i64 0,.int .i64 0,.string ⟨#[]⟩,.slice none 0 0,.slice none 0 0,.slice none 0 0] 233)) hm ha hf kj (hb0.trans (HB.out.mono hb0.size)));obtain ⟨hp,f1,f2,f3,f4,f5,hw⟩:=Py gi;obtain ⟨e1,e2,e3,e4,e5,e6⟩:=Bg hp;clear hp gi;clear ha kj ih hb0;rcases hw with g0 | ⟨g0,g1⟩
 all_goals
  go_in;go_wp2_with fail;refine HC.out.mono ?_;rintro e w3 ⟨b3,⟨hk,tv,rfl,hrow⟩ | ⟨hk,rfl⟩⟩
  ·obtain ⟨A,c,rfl,hn,hr⟩:=hrow;have jW:Hid (uj w3 (aT ((w.alloc (vC j La Lc Ka Kc)).alloc (.cells #[.string ⟨#[]⟩,.int .i64 0,.int .i64 0,.string ⟨#[]⟩,.slice none 0 0,.slice none 0 0,.slice none 0 0] 233)) w3) (fU w0 w3 (aT ((w.alloc (vC j La Lc Ka Kc)).alloc (.cells #[.string ⟨#[]⟩,.int .i64 0,.int .i64 0,.string ⟨#[]⟩,.slice none 0 0,.slice none 0 0,.slice none 0 0] 233)) w3) m) (.slice A (mg j).length c) (mg j)):=⟨A,c,rfl,hn,hr⟩;have HB3:=aj (HB.out.trans (b3.mono HB.out.size));have JH:=aj (HRw.out.move b3.size (b3.block _ HRw.out.1));have HK:=aj (HR.out.trans hk);have hsz:=b3.size;have HP:=aj (MH JH.out (.string op) (.int .i64 0) (.int .i64 0) (.string ⟨#[]⟩) (.slice none 0 0) (.slice none 0 0) (.slice A (mg j).length c));have HBp:=aj (HB3.out.trans ((JG w3 (w.heap.size+1) (.string op) (.int .i64 0) (.int .i64 0) (.string ⟨#[]⟩) (.slice none 0 0) (.slice none 0 0) (.slice A (mg j).length c)).below (by simp at hsz;omega) |>.mono (by omega)))
   have HT:Hid (fU w0 (CX w3 (w.heap.size+1) (.string op) (.int .i64 0) (.int .i64 0) (.string ⟨#[]⟩) (.slice none 0 0) (.slice none 0 0) (.slice A (mg j).length c)) (aT w (CX w3 (w.heap.size+1) (.string op) (.int .i64 0) (.int .i64 0) (.string ⟨#[]⟩) (.slice none 0 0) (.slice none 0 0) (.slice A (mg j).length c))) (m+1) (.string op) (.int .i64 0) (.int .i64 0) (.string ⟨#[]⟩) (.slice none 0 0) (.slice none 0 0) (.slice A (mg j).length c) (op,j)):=by
    have mv:∀ b,aT ((w.alloc (vC j La Lc Ka Kc)).alloc (.cells #[.string ⟨#[]⟩,.int .i64 0,.int .i64 0,.string ⟨#[]⟩,.slice none 0 0,.slice none 0 0,.slice none 0 0] 233)) w3 b->(CX w3 (w.heap.size+1) (.string op) (.int .i64 0) (.int .i64 0) (.string ⟨#[]⟩) (.slice none 0 0) (.slice none 0 0) (.slice A (mg j).length c)).heap[b]?=w3.heap[b]?/\aT w (CX w3 (w.heap.size+1) (.string op) (.int .i64 0) (.int .i64 0) (.string ⟨#[]⟩) (.slice none 0 0) (.slice none 0 0) (.slice A (mg j).length c)) b:=fun b hb=>by
     have h1:w.heap.size+1+1<=b:=by simpa using hb.1
     exact ⟨(JG w3 _ _ _ _ _ _ _ _).block b hb.2 (by omega),by omega,by rw [Rq];exact hb.2⟩
    exact ⟨rfl,hop,.inl ⟨HI.out,rfl,rfl,rfl,rfl,rfl,jW.out.move mv (fU.move mv m)⟩⟩
   obtain ⟨⟨y0,z0⟩,s0⟩:=qz JH.out 0 (by omega);obtain ⟨⟨y1,z1⟩,s1⟩:=qz JH.out 1 (by omega);obtain ⟨⟨y2,z2⟩,s2⟩:=qz JH.out 2 (by omega);obtain ⟨⟨y3,z3⟩,s3⟩:=qz JH.out 3 (by omega);obtain ⟨⟨y4,z4⟩,s4⟩:=qz JH.out 4 (by omega);obtain ⟨⟨y5,z5⟩,s5⟩:=qz JH.out 5 (by omega);obtain ⟨⟨y6,z6⟩,s6⟩:=qz JH.out 6 (by omega);unfold CX at HP HBp HT;clear b3 hk hr hsz HC;go_wp2_with fail;clear z0 s0 z1 s1 z2 s2 z3 s3 z4 s4 z5 s5 z6 s6;obtain ⟨x0,x1,x2,x3,x4,x5,x6,x7⟩:=HP.out;refine bodyPost_ret (v:=.agg #[.string op,.int .i64 0,.int .i64 0,.string ⟨#[]⟩,.slice none 0 0,.slice none 0 0,.slice A (mg j).length c]) (by simp [results,Tryz.results174,go_sem, *]) rfl ?_;exact ⟨HBp.out,.inl ⟨HK.out,_,_,_,_,_,_,_,rfl,HT.out⟩⟩
  ·exact ⟨rfl,HB.out.trans (b3.mono HB.out.size),.inr ⟨HR.out.trans hk,rfl⟩⟩
end Go.Proofs.YtknakfpciccoaabGreatDoor
