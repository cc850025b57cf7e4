import Derived.Test.YtknakfpciccoaabGreatDoorZL21
import Derived.Lib.SliceRun
import Derived.Test.YtknakfpciccoaabGreatDoorZL24
import Derived.Test.YtknakfpciccoaabGreatDoorZL12
import Derived.Deep.DeepCutAuto
/- The store as names and documents: what each call does to it. -/
set_option maxHeartbeats 8000000
set_option maxRecDepth 100000
namespace Go.Proofs.YtknakfpciccoaabGreatDoor
open Go.RowKit Go.Maps Go.WideMaps
theorem Kl.below {B c:Nat} {g:Option Nat} {w w':World} (h:Kl c g w w') (hw:B<=w.heap.size) (hc:B<=c) (hg:∀ b,g=some b->B<=b):Below B w w' :=
 ⟨h.os,h.tape,h.output,h.size,fun b hb=>h.block b (by omega) (by omega) (fun e=>by have:=hg b e.symm;omega)⟩
def NG (B:Nat) (w:World) (p n:Nat) (S:ByteArray->Option (List T)):Prop :=
 ∃ L m D lf vf xf,Ko L w p m n D lf vf xf/\(∀ b,L b≠0->B<=b)/\(∀ x y (c:Nat),tN D x=.lit (.int .i64 c)->tN D y=.lit (.int .i64 c)->x=y)/\∀ x,(S x=none/\tN D x=.nil)\/∃ c:Nat,tN D x=.lit (.int .i64 c)/\S x=some (lf c)
def zG (S:ByteArray->Option (List T)) (x:ByteArray) (l:Option (List T)):ByteArray->Option (List T):=fun y=>if y=x then l else S y
theorem gX (S:ByteArray->Option (List T)) (x:ByteArray) (l:Option (List T)):zG S x l x=l:=by simp [zG]
theorem dU (S:ByteArray->Option (List T)) {x y:ByteArray} (l:Option (List T)) (h:y≠x):zG S x l y=S y:=by simp [zG,h]
theorem NG.keep {B:Nat} {w w':World} {p n:Nat} {S:ByteArray->Option (List T)} (h:NG B w p n S) (hb:Below w.heap.size w w'):NG B w' p n S:=by
 obtain ⟨L,m,D,lf,vf,xf,h1,h2⟩:=h;exact ⟨L,m,D,lf,vf,xf,h1.keep hb,h2⟩
theorem NG.new (w:World):NG w.heap.size ((w.alloc (.map #[] 0)).alloc (.cells #[.map (some w.heap.size)] 76)) (w.heap.size+1) 0 (fun _=>none):=by
 obtain ⟨L,h1,h2⟩:=Ko.new w (fun _=>[]) (fun _=>.slice none 0 0) (fun _=>[]);refine ⟨L,_,_,_,_,_,h2,h1,fun x y c hx=>?_,fun x=>.inl ⟨rfl,rfl⟩⟩;have e:tN (.map []) x=.nil:=rfl;rw [e] at hx;cases hx
theorem EY {B:Nat} {w:World} {p n:Nat} {S:ByteArray->Option (List T)} (h:NG B w p n S) (x:ByteArray) (hx:x.size<=140737488355328) (hn:n<=5) (hnm:vv x=true) (hS:S x=none) :
  Calls Tryz.prog 19 #[.pointer (some ⟨p,0,none⟩),.string x] w fun e w'=>e=.returned (.int .i64 0)/\Below B w w'/\NG B w' p (n+1) (zG S x (some [])):=by
 obtain ⟨L,m,D,lf,vf,xf,h1,h2,h3,h4⟩:=h;have hpm:p≠m:=fun e=>by have:=h1.lp;have:=h1.lm;subst e;omega
 have hnil:tN D x=.nil:=by
  rcases h4 x with ⟨_,h⟩ | ⟨c,_,h⟩
  ·exact h
  ·rw [hS] at h;cases h
 refine (Nj p m n D x w hx (by omega) h1.Tv hpm).mono ?_;rintro e w' (⟨h5,_⟩ | ⟨_,⟨c,h5⟩,_⟩ | ⟨_,_,h5,_⟩ | ⟨_,_,_,rfl,hok⟩)
 ·rw [hnm] at h5;cases h5
 ·rw [hnil] at h5;cases h5
 ·have:=h1.Tv.own.size_le;omega
 ·obtain ⟨L',c,hc,hl,hst⟩:=h1.cre hok;obtain ⟨c',_,_,_,_,_,hB⟩:=hok;have hmB:B<=m:=h2 m (by rw [h1.lm];omega);have hml:=h1.low m (by rw [h1.lm];omega);refine ⟨rfl,hB.below (by omega) hmB (fun b e=>by cases e),L',m,_,_,_,_,hst,fun b hb=>?_,fun y z c1 hy hz=>?_,fun y=>?_⟩
  ·rcases hl b hb with h | h
   ·exact h2 b h
   ·omega
  ·by_cases ey:y=x
   ·by_cases ez:z=x
    ·rw [ey,ez]
    ·subst ey;rw [mo h1.Tv.own.isMap] at hy;rw [jg ez] at hz;obtain rfl:=oI hy;have:=h1.low _ (by rw [(h1.col z _ hz).lab];omega);omega
   ·rw [jg ey] at hy;by_cases ez:z=x
    ·subst ez;rw [mo h1.Tv.own.isMap] at hz;obtain rfl:=oI hz;have:=h1.low _ (by rw [(h1.col y _ hy).lab];omega);omega
    ·rw [jg ez] at hz;exact h3 y z c1 hy hz
  ·by_cases ey:y=x
   ·subst ey;exact .inr ⟨c,mo h1.Tv.own.isMap _ _,by rw [gX,lF]⟩
   ·rw [dU _ _ ey,jg ey];rcases h4 y with h | ⟨c1,hy,hs⟩
    ·exact .inl h
    ·refine .inr ⟨c1,hy,?_⟩;have:=h1.low _ (by rw [(h1.col y _ hy).lab];omega);rw [jB _ _ (by omega)];exact hs
theorem EZ {Tb:World->Prop} (hA:bP Tb) {B:Nat} {w:World} {p n:Nat} {S:ByteArray->Option (List T)} (h:NG B w p n S) (x s:ByteArray) (l:List T) (hx:x.size<=140737488355328) (hs:s.size<=140737488355328) (hS:S x=some l) (hin:mY s=none) (hno:cZ (jP (RV (tJ s))) (aX 5 0 ByteArray.empty l []) l.length=false) (hl:l.length<60) (hT:Tb w) :
  Calls Tryz.prog 21 #[.pointer (some ⟨p,0,none⟩),.string x,.string s] w fun e w'=>e=.returned (.int .i64 0)/\Below B w w'/\NG B w' p n (zG S x (some (l++[tJ s]))):=by
 obtain ⟨L,m,D,lf,vf,xf,h1,h2,h3,h4⟩:=h
 obtain ⟨c,hc,hlc⟩:∃ c:Nat,tN D x=.lit (.int .i64 c)/\lf c=l:=by
  rcases h4 x with ⟨h,_⟩ | ⟨c,hc,h⟩
  ·rw [hS] at h;cases h
  ·rw [hS] at h;exact ⟨c,hc,(Option.some.inj h).symm⟩
 have hco:=h1.col x c hc;refine (Kn hA p m n D lf vf xf x s w hs hx h1.Tv (fun c1 hc1=>?_) hT).mono ?_
 ·rw [hc] at hc1;obtain rfl:=oI hc1;exact ⟨h1.VL hc,by rw [hlc];omega,hco.doc⟩
 ·rintro e w' (⟨_,er,h5,_⟩ | ⟨_,_,h5,_⟩ | ⟨_,c1,hc1,w1,A,Bc,C,Dc,hb,hat,hI⟩)
  ·rw [hin] at h5;cases h5
  ·rw [hc] at h5;cases h5
  ·rw [hc] at hc1;obtain rfl:=oI hc1;rcases hI with ⟨_,h5,_⟩ | ⟨_,_,h5,_⟩ | ⟨hB,_,_,rfl,g,cap,q0,f0,hg,hO⟩
   ·rw [hlc,hno] at h5;cases h5
   ·rw [hlc] at h5;omega
   ·have KM:Doc (tJ s):=by
     unfold mY at hin;split at hin
     ·cases hin
     ·rename_i e1;split at hin
      ·cases hin
      ·rename_i e2;exact EN (mW (by simpa using e1)) (by simpa using e2)
    obtain ⟨L',hl',hst⟩:=h1.ins hc hb hat KM hB q0 f0 hg hO;have hcB:B<=c:=h2 c (by rw [hco.lab];omega);have hcl:=h1.low c (by rw [hco.lab];omega);have hbs:=hb.size;refine ⟨rfl,(hb.mono (by omega)).trans (hB.below (by omega) hcB (fun b e=>h2 b (by rw [hco.GK b e];omega))),L',m,D,_,_,_,hst,fun b hb0=>?_,h3,fun y=>?_⟩
    ·rcases hl' b hb0 with h | h
     ·exact h2 b h
     ·omega
    ·by_cases ey:y=x
     ·subst ey;exact .inr ⟨c,hc,by rw [gX,lF,hlc]⟩
     ·rw [dU _ _ ey];rcases h4 y with h | ⟨c1,hy,hs1⟩
      ·exact .inl h
      ·refine .inr ⟨c1,hy,?_⟩;rw [jB _ _ (show c1≠c from fun e=>ey (h3 y x c (by rw [<- e];exact hy) hc))];exact hs1
theorem yZ (p:T->Bool) (k n:Int) (s:ByteArray) (l:List T) (ks:List ByteArray):∀ j,j<=l.length->je p (aX k n s l ks) j=(l.take j).filter p
 | 0,_=>rfl
 | j+1,h=>by
  have e:elt (aX k n s l ks) j=l[j]:=by rw [iR,List.getD_eq_getElem?_getD,List.getElem?_eq_getElem h];rfl
  rw [je,yZ p k n s l ks j (by omega),e,List.take_add_one,List.getElem?_eq_getElem h,List.filter_append];simp only [Option.toList_some,List.filter_cons,List.filter_nil]
theorem gY {w:World} {lo:Nat} {e:TypeId} {s n:Nat} {v:Value} {xs:List Value} (h:w.ownsRow lo e s v n xs):∃ A c,v=.slice A n c:=by
 rcases h.2 with ⟨rfl,rfl⟩ | ⟨g,cap,cur,rfl,_⟩
 ·exact ⟨_,_,rfl⟩
 ·exact ⟨_,_,rfl⟩
theorem Zw {Tb:World->Prop} (hA:bP Tb) {B:Nat} {w:World} {p n:Nat} {S:ByteArray->Option (List T)} (h:NG B w p n S) (x s:ByteArray) (l:List T) (hx:x.size<=140737488355328) (hs:s.size<=140737488355328) (hS:S x=some l) (hl:l.length<=1000000) (he:eJ s=0) (hk:bH 16 (tJ s)=true) (hT:Tb w) :
  Calls Tryz.prog 17 #[.pointer (some ⟨p,0,none⟩),.string x,.string s] w fun e w'=>Below w.heap.size w w'/\∃ A c,e=.returned (.tuple #[.slice A (l.filter (gy 16 (tJ s))).length c,.int .i64 0])/\w'.ownsRow w.heap.size 9 1 (.slice A (l.filter (gy 16 (tJ s))).length c) (l.filter (gy 16 (tJ s))).length ((l.filter (gy 16 (tJ s))).map fun t=>.string (PN t)):=by
 obtain ⟨L,m,D,lf,vf,xf,h1,h2,h3,h4⟩:=h
 obtain ⟨c,hc,hlc⟩:∃ c:Nat,tN D x=.lit (.int .i64 c)/\lf c=l:=by
  rcases h4 x with ⟨h,_⟩ | ⟨c,hc,h⟩
  ·rw [hS] at h;cases h
  ·rw [hS] at h;exact ⟨c,hc,(Option.some.inj h).symm⟩
 have hco:=h1.col x c hc;refine (J9 hA p m n 13 D (fun c=>aX 5 0 ByteArray.empty (lf c) []) x s w hs hx h1.Tv (fun c1 hc1=>?_) (by omega) hT).mono ?_
 ·rw [hc] at hc1;obtain rfl:=oI hc1;refine ⟨h1.coll hc,by rw [aI,hlc];exact hl,fun i hi=>?_⟩;have hi':i<(lf c).length:=hi;have e:elt (aX 5 0 ByteArray.empty (lf c) []) i=(lf c)[i]:=by rw [iR,List.getD_eq_getElem?_getD,List.getElem?_eq_getElem hi'];rfl
  rw [e];exact (hco.doc i hi').1
 ·rintro e w' ⟨hb,⟨h5,_⟩ | ⟨_,h5,_⟩ | ⟨_,_,h5,_⟩ | ⟨_,_,c1,hc1,sv,rfl,hO⟩⟩
  ·exact absurd he h5
  ·rw [hk] at h5;cases h5
  ·rw [hc] at h5;cases h5
  ·rw [hc] at hc1;obtain rfl:=oI hc1
   have e:Vx s (aX 5 0 ByteArray.empty (lf c) [])=l.filter (gy 16 (tJ s)):=by
    unfold Vx;rw [aI,yZ _ _ _ _ _ _ _ (Nat.le_refl _),List.take_length,hlc]
   rw [e] at hO;obtain ⟨A,cp,rfl⟩:=gY hO;exact ⟨hb,A,cp,rfl,hO⟩
theorem E5 {Tb:World->Prop} (hA:bP Tb) {B:Nat} {w:World} {p n:Nat} {S:ByteArray->Option (List T)} (h:NG B w p n S) (x s:ByteArray) (hx:x.size<=140737488355328) (hs:s.size<=140737488355328) (hS:S x=none) (he:eJ s=0) (hk:bH 16 (tJ s)=true) (hT:Tb w) :
  Calls Tryz.prog 17 #[.pointer (some ⟨p,0,none⟩),.string x,.string s] w fun e w'=>Below w.heap.size w w'/\e=.returned (.tuple #[.slice none 0 0,.int .i64 10]):=by
 obtain ⟨L,m,D,lf,vf,xf,h1,h2,h3,h4⟩:=h
 have hnil:tN D x=.nil:=by
  rcases h4 x with ⟨_,h⟩ | ⟨c,_,h⟩
  ·exact h
  ·rw [hS] at h;cases h
 refine (J9 hA p m n 13 D (fun c=>aX 5 0 ByteArray.empty (lf c) []) x s w hs hx h1.Tv (fun c1 hc1=>by rw [hnil] at hc1;cases hc1) (by omega) hT).mono ?_;rintro e w' ⟨hb,⟨h5,_⟩ | ⟨_,h5,_⟩ | ⟨_,_,_,rfl⟩ | ⟨_,_,c1,hc1,_⟩⟩
 ·exact absurd he h5
 ·rw [hk] at h5;cases h5
 ·exact ⟨hb,rfl⟩
 ·rw [hnil] at hc1;cases hc1
theorem NH (xs:List Value) (a b:Nat) (u:Value):cx (xs.set a u) b=if a=b/\a<xs.length then u else cx xs b:=by
 unfold cx;rw [List.getElem?_set];by_cases h:a=b
 ·subst h;by_cases h2:a<xs.length
  ·simp [h2]
  ·simp [h2]
 ·simp [h]
def nN (xs:List Value) (i:Nat) (u0 u1 u2 u3 u4:Value):List Value:=((((xs.set (i*5) u0).set (i*5+1) u1).set (i*5+2) u2).set (i*5+3) u3).set (i*5+4) u4
theorem Wo (xs:List Value) (i:Nat) (u0 u1 u2 u3 u4:Value):(nN xs i u0 u1 u2 u3 u4).length=xs.length:=by simp [nN]
theorem mq {xs:List Value} {i:Nat} (h:i*5+5<=xs.length) (u0 u1 u2 u3 u4:Value):fv (nN xs i u0 u1 u2 u3 u4) i=.agg #[u0,u1,u2,u3,u4]:=by
 have n (ys:List Value) (a b:Nat) (u:Value) (hab:a≠b):cx (ys.set a u) b=cx ys b:=by rw [NH,if_neg (fun e=>hab e.1)]
 have y (ys:List Value) (a:Nat) (u:Value) (ha:a<ys.length):cx (ys.set a u) a=u:=by rw [NH,if_pos ⟨rfl,ha⟩]
 have e0:cx (nN xs i u0 u1 u2 u3 u4) (i*5)=u0:=by unfold nN;rw [n _ _ _ _ (by omega),n _ _ _ _ (by omega),n _ _ _ _ (by omega),n _ _ _ _ (by omega),y _ _ _ (by omega)]
 have e1:cx (nN xs i u0 u1 u2 u3 u4) (i*5+1)=u1:=by unfold nN;rw [n _ _ _ _ (by omega),n _ _ _ _ (by omega),n _ _ _ _ (by omega),y _ _ _ (by simp only [List.length_set];omega)]
 have e2:cx (nN xs i u0 u1 u2 u3 u4) (i*5+2)=u2:=by unfold nN;rw [n _ _ _ _ (by omega),n _ _ _ _ (by omega),y _ _ _ (by simp only [List.length_set];omega)]
 have e3:cx (nN xs i u0 u1 u2 u3 u4) (i*5+3)=u3:=by unfold nN;rw [n _ _ _ _ (by omega),y _ _ _ (by simp only [List.length_set];omega)]
 have e4:cx (nN xs i u0 u1 u2 u3 u4) (i*5+4)=u4:=by unfold nN;rw [y _ _ _ (by simp only [List.length_set];omega)]
 unfold fv;rw [e0,e1,e2,e3,e4]
theorem Db {xs:List Value} {i j:Nat} (h:j<i*5\/i*5+5<=j) (u0 u1 u2 u3 u4:Value):cx (nN xs i u0 u1 u2 u3 u4) j=cx xs j:=by
 unfold nN;simp only [NH,List.length_set];rw [if_neg (by omega),if_neg (by omega),if_neg (by omega),if_neg (by omega),if_neg (by omega)]
theorem jh {xs:List Value} {i k:Nat} (h:k≠i) (u0 u1 u2 u3 u4:Value):fv (nN xs i u0 u1 u2 u3 u4) k=fv xs k:=by
 unfold fv;have a (j:Nat) (hj:j<i*5\/i*5+5<=j):cx (nN xs i u0 u1 u2 u3 u4) j=cx xs j:=Db hj u0 u1 u2 u3 u4;rw [a _ (by omega),a _ (by omega),a _ (by omega),a _ (by omega),a _ (by omega)]
theorem lH {w w1 w2:World} {g:Option Nat} (h:w.grownBy w1 g) (k:w1.grownBy w2 g):w.grownBy w2 g :=
 ⟨k.os.trans h.os,k.tape.trans h.tape,k.output.trans h.output,Nat.le_trans h.size k.size,fun b hb hne=>(k.block b (Nat.lt_of_lt_of_le hb h.size) hne).trans (h.block b hb hne)⟩
theorem wT {w:World} {base g n cap:Nat} {e:TypeId} {xs:List Value} (h:w.ownsRow base e 5 (.slice (some ⟨g,0,none⟩) n cap) n xs) (i:Nat) (u0 u1 u2 u3 u4:Value) :
  (bN w g (i*5) u0 u1 u2 u3 u4).ownsRow base e 5 (.slice (some ⟨g,0,none⟩) n cap) n (nN xs i u0 u1 u2 u3 u4)/\w.grownBy (bN w g (i*5) u0 u1 u2 u3 u4) (some g):=by
 have h0:=h.stored (i*5) u0;have h1:=h0.1.stored (i*5+1) u1;have h2:=h1.1.stored (i*5+2) u2;have h3:=h2.1.stored (i*5+3) u3;have h4:=h3.1.stored (i*5+4) u4;exact ⟨h4.1,lH (lH (lH (lH h0.2 h1.2) h2.2) h3.2) h4.2⟩
theorem qg.fit {p:Nat->Prop} {w:World}:∀ {m f:Nat} {v:Value} {t:T},qg p w f v t->fJ m t->qg p w (m+1) v t:=by
 intro m
 induction m with
 | zero =>
  intro f v t h hg;have hl:bg t:=hg;cases f with
  | zero=>exact h.elim
  | succ f =>
   obtain ⟨La,Ka,Lc,Kc,rfl,hf,_,_⟩:=h;exact ⟨La,Ka,Lc,Kc,rfl,hf,fun i hi=>by rw [hl.1] at hi;omega,fun i hi=>by rw [hl.2.1] at hi;omega⟩
 | succ m ih =>
  intro f v t h hg;cases f with
  | zero=>exact h.elim
  | succ f =>
   obtain ⟨La,Ka,Lc,Kc,rfl,hf,he,hk⟩:=h;refine ⟨La,Ka,Lc,Kc,rfl,hf,fun i hi=>?_,hk⟩;obtain ⟨b,o,c0,c1,c2,c3,c4,h0,hb,q0,q1,q2,q3,q4,ha⟩:=he i hi;refine ⟨b,o,c0,c1,c2,c3,c4,h0,hb,q0,q1,q2,q3,q4,ih ha ?_⟩;rcases hg with hl | ⟨_,_,hge,_⟩
   ·have:=hl.1;omega
   ·exact hge i hi
theorem qI {t:T} (h:bZ t=false):fJ 12 t/\bM t:=by
 unfold bZ at h;rw [Bool.or_eq_false_iff] at h;have h1:IL t=true:=by simpa using h.1
 have h2:=(sV t).1 h1;exact ⟨h2.1,wD h2.1 (by have:=h2.2;omega)⟩
def Df (w0:World) (c:Nat) (fx:Nat->Option Value) (l:List T) (w:World):Prop :=
 ∃ v xs,∃ R:Nat->Prop,Mk w c v l.length xs/\(∀ b,b<w0.heap.size->R b)/\(∀ b,R b->b<w.heap.size/\b≠c/\v.ownBlock≠some b)/\(∀ i,(h:i<l.length)->qg R w 13 (fv xs i) l[i]/\bM l[i])/\∀ o,o≠0->w.cell? ⟨c,o,none⟩=fx o
theorem Df.keep {w0:World} {c:Nat} {fx:Nat->Option Value} {l:List T} {w w':World} (h:Df w0 c fx l w) (hb:Below w.heap.size w w'):Df w0 c fx l w':=by
 obtain ⟨v,xs,R,h1,h2,h3,h4,h5⟩:=h;exact ⟨v,xs,R,h1.keep hb,h2,fun b hr=>⟨Nat.lt_of_lt_of_le (h3 b hr).1 hb.size,(h3 b hr).2⟩,fun i hi=>⟨(h4 i hi).1.move hb.size fun b hbl hr=>⟨hr,hb.block b hbl⟩,(h4 i hi).2⟩,fun o ho=>(hb.cell (p:=⟨c,o,none⟩) h1.low).trans (h5 o ho)⟩
theorem Df.cell {w0:World} {c:Nat} {fx:Nat->Option Value} {l:List T} {w:World} (h:Df w0 c fx l w):∃ v,w.cell? ⟨c,0,none⟩=some v:=by
 obtain ⟨v,xs,R,h1,_⟩:=h;exact ⟨v,h1.cell⟩
theorem Df.lo {w0:World} {c:Nat} {fx:Nat->Option Value} {l:List T} {w:World} (h:Df w0 c fx l w):w0.heap.size<=c/\c<w.heap.size:=by
 obtain ⟨v,xs,R,h1,h2,h3,_⟩:=h;refine ⟨Nat.le_of_not_lt fun h=>?_,h1.low⟩;exact (h3 c (h2 c h)).2.1 rfl
theorem Zx {Tb:World->Prop} (hV:bJ Tb) (hL:aS Tb) (w0 w1 w2:World) (c f:Nat) (fx:Nat->Option Value) (l:List T) (t:T) (A C:Option Addr) (B D:Nat) (h:Df w0 c fx l w1) (hb:Below w1.heap.size w1 w2) (hn:l.length<=1000000) (ha:qg (fun b=>b<w0.heap.size\/w1.heap.size<=b) w2 f (.agg #[.int .i64 (ah t),.int .i64 (au t),.string (ay t),.slice A (nL t) B,.slice C (nK t) D]) t) (hT:Tb w2) :
  Calls Tryz.prog 227 #[.pointer (some ⟨c,0,none⟩),.agg #[.int .i64 (ah t),.int .i64 (au t),.string (ay t),.slice A (nL t) B,.slice C (nK t) D]] w2 fun e w'=>Below w0.heap.size w2 w'/\(∀ o,o≠0->w'.cell? ⟨c,o,none⟩=fx o)/\∃ er:Int,e=.returned (.int .i64 er)/\((bZ t=true/\er=15)\/(bZ t=false/\er=0/\Df w0 c fx (l++[t]) w')):=by
 have hlo:=h.lo;obtain ⟨v,xs,R,h1,h2,h3,h4,h5⟩:=h;have hob:∀ b,v.ownBlock=some b->w0.heap.size<=b/\b<w1.heap.size:=fun b e=>⟨Nat.le_of_not_lt fun hh=>(h3 b (h2 b hh)).2.2 e,(h1.row.lt b e).2⟩;have s1:=hb.size;refine (KJ hV hL c f t v l.length xs A C B D w2 (h1.keep hb) hn ha.at hT).mono ?_;rintro e w' (⟨b2,hbig,rfl⟩ | ⟨hB,hbig,rfl,hoff,g,cap,q0,f0,hg,hO⟩)
 ·exact ⟨b2.mono (by omega),fun o ho=>by rw [b2.cell (p:=⟨c,o,none⟩) (by show c<_;omega),hb.cell (p:=⟨c,o,none⟩) h1.low];exact h5 o ho,15,rfl,.inl ⟨hbig,rfl⟩⟩
 ·obtain ⟨hgood,hok⟩:=qI hbig;have s2:=hB.size;have hgl:g<w'.heap.size:=(hO.lt g rfl).2;have hx:xs.length=l.length*5:=h1.row.1
  have hgc:g≠c:=by
   rcases hg with hg | hg
   ·exact fun e=>h1.apart (by rw [hg,e])
   ·omega
  have old:∀ b,b<w2.heap.size->b≠c->v.ownBlock≠some b->w'.heap[b]?=w2.heap[b]?:=fun b h1 h2 h3=>hB.block b h1 h2 (fun e=>h3 e.symm);refine ⟨⟨hB.os,hB.tape,hB.output,hB.size,fun b hb'=>old b (by omega) (by omega) (fun e=>by have:=(hob b e).1;omega)⟩,(fun o ho=>by rw [hoff o ho,hb.cell (p:=⟨c,o,none⟩) h1.low];exact h5 o ho),0,rfl,.inr ⟨hbig,rfl,_,xs++[.int .i64 (ah t),.int .i64 (au t),.string (ay t),.slice A (nL t) B,.slice C (nK t) D],(fun b=>b<w0.heap.size\/R b\/(w1.heap.size<=b/\b<w2.heap.size)),⟨q0,f0,by omega,?_,?_⟩,fun b hb'=>.inl hb',?_,?_,?_⟩⟩
  ·rw [List.length_append];exact hO
  ·simpa [Value.ownBlock] using hgc
  ·intro b hr
   have hne:∀ (h:b<w2.heap.size),(b<w1.heap.size->v.ownBlock≠some b)->b≠g:=fun h hv e=>by
    subst e;rcases hg with hg | hg
    ·exact hv (hob b hg).2 hg
    ·omega
   rcases hr with hr | hr | hr
   ·exact ⟨by omega,by omega,by simpa [Value.ownBlock] using (hne (by omega) (fun _=>(h3 b (h2 b hr)).2.2)).symm⟩
   ·have:=h3 b hr;exact ⟨by omega,this.2.1,by simpa [Value.ownBlock] using (hne (by omega) (fun _=>this.2.2)).symm⟩
   ·exact ⟨by omega,by omega,by simpa [Value.ownBlock] using (hne hr.2 (fun h=>by omega)).symm⟩
  ·intro i hi;rw [List.length_append,List.length_cons,List.length_nil] at hi;by_cases e:i<l.length
   ·rw [p9 hx e,List.getElem_append_left e];refine ⟨(h4 i e).1.move (by omega) fun b hbl hr=>⟨.inr (.inl hr),(old b (by omega) (h3 b hr).2.1 (h3 b hr).2.2).trans (hb.block b hbl)⟩,(h4 i e).2⟩
   ·obtain rfl:i=l.length:=by omega
    rw [tX hx,List.getElem_append_right (by omega)];simp only [Nat.sub_self,List.getElem_cons_zero];refine ⟨(ha.fit hgood).move s2 fun b hbl hq=>?_,hok⟩;rcases hq with hq | hq
    ·exact ⟨.inl hq,old b hbl (by omega) (fun e=>by have:=(hob b e).1;omega)⟩
    ·exact ⟨.inr (.inr ⟨hq,hbl⟩),old b hbl (by omega) (fun e=>by have:=(hob b e).2;omega)⟩
  ·intro o ho;rw [hoff o ho,hb.cell (p:=⟨c,o,none⟩) h1.low];exact h5 o ho
theorem Df.docs {w0:World} {c:Nat} {fx:Nat->Option Value} {l:List T} {w:World} (h:Df w0 c fx l w) (hn:l.length<=1000000) {v:Value} (hv:w.cell? ⟨c,0,none⟩=some v):cu w v l:=by
 obtain ⟨v',xs,R,h1,h2,h3,h4,h5⟩:=h;obtain rfl:v'=v:=Option.some.inj (h1.cell.symm.trans hv);have hx:xs.length=l.length*5:=h1.row.1;rcases h1.row.2 with ⟨rfl,h0⟩ | ⟨g,cap,cur,rfl,hb0,hg,hnc,hcm,rest⟩
 ·exact ⟨none,0,by rw [h0],hn,by omega,by omega,fun i hi=>by rw [aI] at hi;omega,fun i hi=>(h4 i hi).2⟩
 ·refine ⟨_,_,rfl,hn,hnc,by unfold maxLen at hcm;omega,fun i hi=>?_,fun i hi=>(h4 i hi).2⟩;rw [aI] at hi;have hc:∀ j,j<5->w.cell? ⟨g,i*5+j,none⟩=some (cx xs (i*5+j)):=fun j hj=>aW h1.row (dR (by omega));refine ⟨g,0,cx xs (i*5),cx xs (i*5+1),cx xs (i*5+2),cx xs (i*5+3),cx xs (i*5+4),rfl,(Array.getElem?_eq_some_iff.1 hg).1,(by rw [Nat.zero_add];exact hc 0 (by omega)),(by rw [Nat.zero_add];exact hc 1 (by omega)),(by rw [Nat.zero_add];exact hc 2 (by omega)),(by rw [Nat.zero_add];exact hc 3 (by omega)),(by rw [Nat.zero_add];exact hc 4 (by omega)),?_⟩;rw [dD l hi];exact (h4 i hi).1.at
theorem At.toP {p:Nat->Prop} {w0 w:World} (hp:∀ b,b<w0.heap.size->p b) (hb:Below w0.heap.size w0 w):∀ {f:Nat} {v:Value} {t:T},At w0 f v t->qg p w f v t:=by
 intro f
 induction f with
 | zero=>intro v t h;exact h.elim
 | succ f ih =>
  rintro v t ⟨La,Ka,Lc,Kc,rfl,hf,hl,hk⟩;refine ⟨La,Ka,Lc,Kc,rfl,hf,fun i hi=>?_,fun i hi=>?_⟩
  ·obtain ⟨b,o,c0,c1,c2,c3,c4,h0,hbl,q0,q1,q2,q3,q4,ha⟩:=hl i hi;exact ⟨b,o,c0,c1,c2,c3,c4,h0,⟨Nat.lt_of_lt_of_le hbl hb.size,hp b hbl⟩,(hb.cell (p:=⟨b,_,none⟩) hbl).trans q0,(hb.cell (p:=⟨b,_,none⟩) hbl).trans q1,(hb.cell (p:=⟨b,_,none⟩) hbl).trans q2,(hb.cell (p:=⟨b,_,none⟩) hbl).trans q3,(hb.cell (p:=⟨b,_,none⟩) hbl).trans q4,ih ha⟩
  ·obtain ⟨b,o,h0,hbl,h2,h3⟩:=hk i hi;exact ⟨b,o,h0,⟨Nat.lt_of_lt_of_le hbl hb.size,hp b hbl⟩,h2,(hb.cell (p:=⟨b,_,none⟩) hbl).trans h3⟩
theorem acA {w0 w:World} {lo:Nat} {v nv:Value} {l:List T} {xs:List Value} {ks:List ByteArray} (h:VR w0 lo w v l xs) (hb:Below w0.heap.size w0 w) (hk:bO w0 nv ks) (hl:l.length<=1000000) :
  ∃ A B C D,v=.slice A l.length B/\nv=.slice C ks.length D/\qg (fun b=>b<w0.heap.size\/lo<=b) w 14 (.agg #[.int .i64 6,.int .i64 0,.string ⟨#[]⟩,.slice A l.length B,.slice C ks.length D]) (aX 6 0 ByteArray.empty l ks):=by
 obtain ⟨C,D,rfl,hkn,hks⟩:=hk;have hx:xs.length=l.length*5:=h.row.1;obtain ⟨A,B,hv⟩:=fC h.row;refine ⟨A,B,C,D,hv,rfl,A,C,B,D,by rw [bE,fu,gD,aI,fE];rfl,?_,fun i hi=>?_,fun i hi=>?_⟩
 ·exact ⟨by rw [bE];omega,by rw [bE];omega,by rw [fu];omega,by rw [fu];omega,by rw [gD];show (0:Nat)<=_;omega,by rw [aI];omega,by rw [fE];exact hkn⟩
 ·rw [aI] at hi;rcases h.row.2 with ⟨h',h0⟩ | ⟨g,cap,cur,h',hb0,hg,rest⟩
  ·omega
  ·rw [hv] at h';simp only [Value.slice.injEq,true_and] at h';obtain ⟨rfl,rfl⟩:=h'
   have hc:∀ j,j<5->w.cell? ⟨g,i*5+j,none⟩=some (cx xs (i*5+j)):=fun j hj=>by
    have hr:=h.row;rw [hv] at hr;exact aW hr (dR (by omega))
   refine ⟨g,0,cx xs (i*5),cx xs (i*5+1),cx xs (i*5+2),cx xs (i*5+3),cx xs (i*5+4),rfl,⟨(Array.getElem?_eq_some_iff.1 hg).1,.inr hb0⟩,(by rw [Nat.zero_add];exact hc 0 (by omega)),(by rw [Nat.zero_add];exact hc 1 (by omega)),(by rw [Nat.zero_add];exact hc 2 (by omega)),(by rw [Nat.zero_add];exact hc 3 (by omega)),(by rw [Nat.zero_add];exact hc 4 (by omega)),?_⟩;rw [iR,List.getD_eq_getElem?_getD,List.getElem?_eq_getElem hi];exact At.toP (fun b hb'=>.inl hb') hb (h.at_ i hi)
 ·rw [fE] at hi;obtain ⟨b,o,h0,hbl,hsz,hc⟩:=hks i hi;refine ⟨b,o,h0,⟨Nat.lt_of_lt_of_le hbl hb.size,.inl hbl⟩,?_,?_⟩
  ·rw [uV];exact hsz
  ·rw [uV,hb.cell (p:=⟨b,_,none⟩) hbl];exact hc
def uq (gs:List (T->Int⊕T)) (ks:List ByteArray) (made:List T) (d:T):Int⊕List T:=match mI gs d with
 | .inl x=>.inl x
 | .inr l=>if bZ (aX 6 0 ByteArray.empty l ks) then .inl 15 else .inr (made++[aX 6 0 ByteArray.empty l ks])
theorem Sd {Tb:World->Prop} (hL:aS Tb) (lv:Value) (gs:List (T->Int⊕T)) (x:Value) (doc:T) (w0 w:World) (hb0:Below w0.heap.size w0 w) (hl:eY Tb w0 lv gs) (h:At w0 13 x doc) (hok:bM doc) (hT:Tb w) :
  Calls Tryz.prog 223 #[lv,x] w fun e w'=>Below w.heap.size w w'/\∃ A m B er,e=.returned (.tuple #[.slice A m B,.int .i64 er])/\((mI gs doc=.inl er/\er≠0)\/(er=0/\∃ l xs,mI gs doc=.inr l/\l.length=gs.length/\VR w0 w.heap.size w' (.slice A m B) l xs)):=by
 refine (EX hL lv gs x doc w0 w hb0 hl h hok hT).mono ?_;rintro e w' ⟨hb,⟨er,h1,h2,rfl⟩ | ⟨l,v,xs,h1,h2,rfl,h3⟩⟩
 ·exact ⟨hb,none,0,0,er,rfl,.inl ⟨h1,h2⟩⟩
 ·obtain ⟨A,B,rfl⟩:=fC h3.row;exact ⟨hb,A,l.length,B,0,rfl,.inr ⟨rfl,l,xs,h1,h2,h3⟩⟩
theorem Sg {Tb:World->Prop} (hV:bJ Tb) (hL:aS Tb) (w0:World) (c:Nat) (nv lv:Value) (ks:List ByteArray) (gs:List (T->Int⊕T)) (made:List T) (doc:T) (x:Value) (w:World) (hb0:Below w0.heap.size w0 w) (hl:eY Tb w0 lv gs) (hk:bO w0 nv ks) (hkl:ks.length<=1000000)
  (hI:Df w0 c (fun o=>if o=1 then some nv else if o=2 then some lv else none) made w) (hm:made.length<=1000000) (h:At w0 13 x doc) (hok:bM doc) (hT:∀ w',Below w0.heap.size w w'->Tb w') :
  Calls Tryz.prog 226 #[.pointer (some ⟨c,0,none⟩),x] w (GZ (uq gs ks) made (Df w0 c (fun o=>if o=1 then some nv else if o=2 then some lv else none)) doc w0 w):=by
 obtain ⟨g1,La,Ka,Lc,Kc,hg1,hx,_,_,_⟩:=h.open;have hc:=hI.lo;have HB1:=aj (aQ w (vC doc La Lc Ka Kc));have HX:=aj (aJ w (.int .i64 (ah doc)) (.int .i64 (au doc)) (.string (ay doc)) (.slice La (nL doc) Lc) (.slice Ka (nK doc) Kc));have HIw:=aj hI;have HI1:=aj (hI.keep HB1.out);have HB0:=aj hb0;have HT:Hid (∀ w',Below w0.heap.size w w'->Tb w'):=hT;have HKs:=aj (And.intro hk hkl);have Hm:=aj hm;have HLo:=aj hl;obtain ⟨EA,ec,hlv,hgn,_⟩:=hl;obtain ⟨NA,nc,hnv,hnn,_⟩:=hk;have Hgn:=aj hgn
 have Hlw:Hid (∀ wx,Df w0 c (fun o=>if o=1 then some nv else if o=2 then some lv else none) made wx->wx.cell? ⟨c,2,none⟩=some lv/\wx.cell? ⟨c,1,none⟩=some nv):=fun wx hh=>by
  obtain ⟨_,_,_,_,_,_,_,h5⟩:=hh;exact ⟨by have:=h5 2 (by omega);simpa using this,by have:=h5 1 (by omega);simpa using this⟩
 have HSw:Hid (∀ w5:World,Below (w.alloc (vC doc La Lc Ka Kc)).heap.size (w.alloc (vC doc La Lc Ka Kc)) w5->(w5.cell? ⟨c,2,none⟩=some lv/\w5.cell? ⟨c,1,none⟩=some nv/\w5.cell? ⟨w.heap.size,0,none⟩=some (.int .i64 (ah doc))/\w5.cell? ⟨w.heap.size,1,none⟩=some (.int .i64 (au doc))/\w5.cell? ⟨w.heap.size,2,none⟩=some (.string (ay doc))/\w5.cell? ⟨w.heap.size,3,none⟩=some (.slice La (nL doc) Lc)/\w5.cell? ⟨w.heap.size,4,none⟩=some (.slice Ka (nK doc) Kc))):=fun w5 hh=>by
  have h1:=Hlw.out w5 (HI1.out.keep hh);have h2:=HX.out.stay hh;exact ⟨h1.1,h1.2,h2.q0,h2.q1,h2.q2,h2.q3,h2.q4⟩
 have pF:=aj (HSw.out _ (ak _));have HEx:Hid (∀ w5:World,Below w.heap.size w w5->Calls Tryz.prog 223 #[lv,x] w5 fun e w'=>Below w5.heap.size w5 w'/\∃ A m B er,e=.returned (.tuple #[.slice A m B,.int .i64 er])/\((mI gs doc=.inl er/\er≠0)\/(er=0/\∃ l xs,mI gs doc=.inr l/\l.length=gs.length/\VR w0 w5.heap.size w' (.slice A m B) l xs))):=fun w5 hh=>Sd hL lv gs x doc w0 w5 (hb0.trans (hh.mono hb0.size)) HLo.out h hok (hT w5 (hh.mono hb0.size));have HEm:Hid (∀ (w1 w2:World) (f:Nat) (t:T) (A C:Option Addr) (B D:Nat),Df w0 c (fun o=>if o=1 then some nv else if o=2 then some lv else none) made w1->Below w1.heap.size w1 w2->qg (fun b=>b<w0.heap.size\/w1.heap.size<=b) w2 f (.agg #[.int .i64 (ah t),.int .i64 (au t),.string (ay t),.slice A (nL t) B,.slice C (nK t) D]) t->Tb w2->Calls Tryz.prog 227 #[.pointer (some ⟨c,0,none⟩),.agg #[.int .i64 (ah t),.int .i64 (au t),.string (ay t),.slice A (nL t) B,.slice C (nK t) D]] w2 fun e w'=>Below w0.heap.size w2 w'/\(∀ o,o≠0->w'.cell? ⟨c,o,none⟩=(fun o=>if o=1 then some nv else if o=2 then some lv else none) o)/\∃ er:Int,e=.returned (.int .i64 er)/\((bZ t=true/\er=15)\/(bZ t=false/\er=0/\Df w0 c (fun o=>if o=1 then some nv else if o=2 then some lv else none) (made++[t]) w'))):=fun w1 w2 f t A C B D h1 h2 h3 h4=>Zx hV hL w0 w1 w2 c f _ made t A C B D h1 h2 Hm.out h3 h4;have c2:=(Hlw.out _ HI1.out).1;have c1:=(Hlw.out _ HI1.out).2;subst hx;subst hnv;subst hlv
 clear hI hb0 hT h hok hV hL hm hkl hg1 hgn hnn;go_in;go_wp2_with fail;go_region_held3 (fun wx=>wx.cell? ⟨c,2,none⟩=some (.slice EA gs.length ec)/\wx.cell? ⟨c,1,none⟩=some (.slice NA ks.length nc)/\wx.cell? ⟨w.heap.size,0,none⟩=some (.int .i64 (ah doc))/\wx.cell? ⟨w.heap.size,1,none⟩=some (.int .i64 (au doc))/\wx.cell? ⟨w.heap.size,2,none⟩=some (.string (ay doc))/\wx.cell? ⟨w.heap.size,3,none⟩=some (.slice La (nL doc) Lc)/\wx.cell? ⟨w.heap.size,4,none⟩=some (.slice Ka (nK doc) Kc)) (first | exact rV | exact pF.out) ((go_at_call 223;refine (HEx.out _ (HB1.out.trans ((ak _).mono HB1.out.size))).mono ?_;rintro e5 w5 ⟨hb5,A5,m5,B5,er5,rfl,h5⟩;have rV:=HSw.out _ ((ak _).trans hb5)));have HI5:=aj (HI1.out.keep ((ak _).trans hb5));have eU:=aj (HB1.out.trans (((ak _).trans hb5).mono HB1.out.size));have bf:=aj (HX.out.stay ((ak _).trans hb5));rcases h5 with ⟨h5,hne⟩ | ⟨rfl,l,xs,h5,h6,h7⟩
 ·have ez:(er5==0)=false:=by simpa using hne
  have HF:Hid (uq gs ks made doc=.inl er5/\er5≠0):=⟨by unfold uq;rw [h5],hne⟩;have ain:=aj HB0.out.size;clear rV hb5 h5 hne HSw pF HEx HEm c1 c2;go_wp2_with fail;go_ret;exact ⟨eU.out.mono ain.out,.inl ⟨er5,HF.out.1,HF.out.2,rfl⟩⟩
 ·have hl6:l.length<=1000000:=by have:=Hgn.out;omega
  have hbw:Below w0.heap.size w0 w5:=HB0.out.trans (eU.out.mono HB0.out.size);obtain ⟨A,B,C,D,e1,e2,hat⟩:=acA h7 hbw HKs.out.1 hl6;simp only [Value.slice.injEq] at e1 e2;obtain ⟨rfl,rfl,rfl⟩:=e1;obtain ⟨rfl,_,rfl⟩:=e2;have hsz:w.heap.size<=(w.alloc (vC doc La Lc Ka Kc)).drew.heap.size:=by show w.heap.size<=(w.alloc _).heap.size;simp
  have Kg:qg (fun b=>b<w0.heap.size\/w.heap.size<=b) w5.drew 14 (.agg #[.int .i64 6,.int .i64 0,.string ⟨#[]⟩,.slice A5 l.length B5,.slice NA ks.length nc]) (aX 6 0 ByteArray.empty l ks):=qg.move (Nat.le_refl _) (fun b hb hp=>⟨Or.imp id (fun hh=>Nat.le_trans hsz hh) hp,rfl⟩) hat
  have HC:Hid (Calls Tryz.prog 227 #[.pointer (some ⟨c,0,none⟩),.agg #[.int .i64 6,.int .i64 0,.string ⟨#[]⟩,.slice A5 l.length B5,.slice NA ks.length nc]] w5.drew fun e w'=>Below w0.heap.size w5.drew w'/\w'.cell? ⟨c,1,none⟩=some (.slice NA ks.length nc)/\∃ er:Int,e=.returned (.int .i64 er)/\Hid (Below w0.heap.size w5 w'/\((bZ (aX 6 0 ByteArray.empty l ks)=true/\er=15)\/(bZ (aX 6 0 ByteArray.empty l ks)=false/\er=0/\Df w0 c (fun o=>if o=1 then some (.slice NA ks.length nc) else if o=2 then some (.slice EA gs.length ec) else none) (made++[aX 6 0 ByteArray.empty l ks]) w')))):=by
   have h8:=HEm.out w w5.drew 14 (aX 6 0 ByteArray.empty l ks) A5 NA B5 nc HIw.out (eU.out.trans ((ak w5).mono eU.out.size)) (by simp only [bE,fu,gD,aI,fE];exact Kg) (HT.out _ ((eU.out.mono HB0.out.size).trans ((ak w5).mono hbw.size)));simp only [bE,fu,gD,aI,fE] at h8;refine h8.mono ?_;rintro e w' ⟨b1,b2,er,rfl,b3⟩;exact ⟨b1,by have:=b2 1 (by omega);simpa using this,er,rfl,((ak w5).mono hbw.size).trans b1,b3⟩
  have HR:Hid (uq gs ks made doc=if bZ (aX 6 0 ByteArray.empty l ks) then .inl 15 else .inr (made++[aX 6 0 ByteArray.empty l ks])):=by show _=_;unfold uq;rw [h5]
  have xL:=aj (eU.out.mono HB0.out.size);have c15:=(Hlw.out _ HI5.out).2;have Iw:Hid (w5.drew.cell? ⟨c,1,none⟩=some (.slice NA ks.length nc)):=c15;clear rV hb5 h5 h6 h7 hat Kg hbw hl6 hsz HSw pF HEx HEm c1 c2 HI1 HI5 HIw HX bf HLo HKs Hgn Hlw;go_wp2_with fail;go_region_held3 (fun wx=>wx.cell? ⟨c,1,none⟩=some (.slice NA ks.length nc)) (first | exact hc9 | exact Iw.out) ((go_at_call 227;refine HC.out.mono ?_;rintro e9 w9 ⟨_,hc9,er9,rfl,h9⟩));clear hc9;go_wp2_with fail;go_ret;refine ⟨xL.out.trans h9.out.1,?_⟩;rcases h9.out.2 with ⟨h10,rfl⟩ | ⟨h10,rfl,h11⟩
  ·exact .inl ⟨15,by rw [HR.out,h10];rfl,by omega,rfl⟩
  ·exact .inr ⟨_,by rw [HR.out,h10];rfl,rfl,h11⟩
theorem NI {w w':World} {base g n cap:Nat} {e:TypeId} {s:Nat} {xs:List Value} (h:w.ownsRow base e s (.slice (some ⟨g,0,none⟩) n cap) n xs) (hg:w'.heap[g]?=w.heap[g]?):w'.ownsRow base e s (.slice (some ⟨g,0,none⟩) n cap) n xs:=by
 refine ⟨h.1,?_⟩;rcases h.2 with ⟨h1,_⟩ | ⟨g',cap',cur,h1,h2,h3,h4⟩
 ·cases h1
 ·cases h1;exact .inr ⟨g,cap,cur,rfl,h2,hg.trans h3,h4⟩
theorem Wp {w:World} {base g n cap:Nat} {e:TypeId} {s:Nat} {xs:List Value} (h:w.ownsRow base e s (.slice (some ⟨g,0,none⟩) n cap) n xs) (j:Nat):w.frozen? ⟨g,j,none⟩=false:=by
 rcases h.2 with ⟨h1,_⟩ | ⟨g',cap',cur,h1,h2,h3,h4⟩
 ·cases h1
 ·cases h1;exact frozen_of_row _ g j _ _ h3
theorem NJ {w:World} {lo g n cap:Nat} {xs:List Value} (h:w.ownsRow lo 36 5 (.slice (some ⟨g,0,none⟩) n cap) n xs) {k:Nat} (hk:k<n) {u0 u1 u2 u3 u4:Value} (hf:fv xs k=.agg #[u0,u1,u2,u3,u4]) :
  w.cell? ⟨g,k*5,none⟩=some u0/\w.cell? ⟨g,k*5+1,none⟩=some u1/\w.cell? ⟨g,k*5+2,none⟩=some u2/\w.cell? ⟨g,k*5+3,none⟩=some u3/\w.cell? ⟨g,k*5+4,none⟩=some u4:=by
 have hx:xs.length=n*5:=h.1;unfold fv at hf;simp only [Value.agg.injEq,Array.mk.injEq,List.cons.injEq,and_true] at hf;have hc:∀ r,r<5->w.cell? ⟨g,k*5+r,none⟩=some (cx xs (k*5+r)):=fun r hr'=>aW h (dR (by omega));refine ⟨?_,?_,?_,?_,?_⟩
 ·rw [<- hf.1];exact hc 0 (by omega)
 ·rw [<- hf.2.1];exact hc 1 (by omega)
 ·rw [<- hf.2.2.1];exact hc 2 (by omega)
 ·rw [<- hf.2.2.2.1];exact hc 3 (by omega)
 ·rw [<- hf.2.2.2.2];exact hc 4 (by omega)
theorem Zy {w W:World} (h:Below w.heap.size w W) {b:Nat} (hb:w.heap.size<=b) (o:Nat) (u:Value):Below w.heap.size w (W.setCell ⟨b,o,none⟩ u):=by
 obtain ⟨t1,t2,t3,t4⟩:=gW W ⟨b,o,none⟩ u;exact ⟨t2.trans h.os,t3.trans h.tape,t4.trans h.output,by rw [t1];exact h.size,fun k hk=>(Below.heap_setCell _ _ _ _ (by simp;omega)).trans (h.block k hk)⟩
theorem qb (W:World) (a:Addr) (u:Value):(W.setCell a u).heap.size=W.heap.size:=(gW W a u).1
def qJ (g:List T->(Nat×Int)⊕List T) (l:List T) (w:World) (e:Ending) (w':World):Prop :=
 Below w.heap.size w w'/\((∃ (k:Nat) (x:Int),g l=.inl (k,x)/\x≠0/\e=.returned (.tuple #[.slice none 0 0,.int .i64 k,.int .i64 x]))\/∃ r v,g l=.inr r/\e=.returned (.tuple #[v,.int .i64 0,.int .i64 0])/\cu w' v r)
def gK (Tb:World->Prop) (w:World) (v:Value) (g:List T->(Nat×Int)⊕List T):Prop :=
 ∃ (ty:TypeId) (p:Value) (fid:FuncId),v=.iface ty p/\(∀ w':World,(method 419 ty p "sheaf/pipe.run").run Tryz.prog w'=.ok (fid,p) w')/\(∀ (a:Array Value) (w':World),(callFunc fid a).run Tryz.prog w'=.ok (.enter fid a) w') /\
  ∀ (wr:World) (dv:Value) (l:List T),Below w.heap.size w wr->cu wr dv l->Tb wr->Calls Tryz.prog fid #[p,dv] wr (qJ g l wr)
theorem Df.start (w:World) (ty:TypeId) (cs:List Value):Df w w.heap.size (fun o=>if o=0 then none else (.slice none 0 0::cs)[o]?) [] (w.alloc (.cells (.slice none 0 0::cs).toArray ty)):=by
 refine ⟨.slice none 0 0,[],fun b=>b<w.heap.size,⟨?_,?_,by simp,World.ownsRow_nil _ _ _ _,by simp [Value.ownBlock]⟩,fun b hb=>hb,fun b hb=>⟨by simp;omega,by omega,by simp [Value.ownBlock]⟩,fun i hi=>absurd hi (Nat.not_lt_zero i),fun o ho=>?_⟩
 ·rw [cell_of_row _ w.heap.size 0 _ _ (0,0) (heap_alloc_new w _)];rfl
 ·exact frozen_of_row _ w.heap.size 0 _ _ (heap_alloc_new w _)
 ·rw [cell_of_row _ w.heap.size o _ _ (0,0) (heap_alloc_new w _)];show _=if o=0 then none else (Value.slice none 0 0::cs)[o]?;rw [if_neg ho];simp
def G5 (gs:List (T->Int⊕T)) (ks:List ByteArray) (l:List T):(Nat×Int)⊕List T:=dz (uq gs ks) l 0 []
theorem Wq (gs:List (T->Int⊕T)) (ks:List ByteArray) (s:List T) (d:T) (s':List T) (h:uq gs ks s d=.inr s'):s'.length=s.length+1:=by
 unfold uq at h;cases hl:mI gs d with
 | inl x=>rw [hl] at h;cases h
 | inr l =>
  rw [hl] at h;dsimp only at h;split at h
  ·cases h
  ·simp only [Sum.inr.injEq] at h;rw [<- h];simp
theorem Ws {Tb:World->Prop} (hV:bJ Tb) (hL:aS Tb) (nv lv:Value) (ks:List ByteArray) (gs:List (T->Int⊕T)) (dv:Value) (l:List T) (w:World) (hl:eY Tb w lv gs) (hk:bO w nv ks) (hkl:ks.length<=1000000) (hd:cu w dv l) (hT:Tb w) :
  Calls Tryz.prog 224 #[.agg #[.slice none 0 0,nv,lv],dv] w (qJ (G5 gs ks) l w):=by
 have QM:∀ (fn:Fn) (first cap:Array Value) (w:World),(Instr.makeFunc fn first cap).run Tryz.prog w=.ok (.func fn first cap) w:=fun _ _ _ _=>rfl;have HB1:=aj (aQ w (.cells #[.slice none 0 0,nv,lv] 168))
 have hfx:(fun o=>if o=0 then none else ([.slice none 0 0,nv,lv]:List Value)[o]?)=(fun o=>if o=1 then some nv else if o=2 then some lv else none):=by
  funext o
  match o with
  | 0=>rfl
  | 1=>rfl
  | 2=>rfl
  | o+3=>simp
 have hst:=Df.start w 168 [nv,lv];rw [hfx] at hst;have hdl:l.length<=1000000:=by obtain ⟨_,_,_,h,_⟩:=hd;exact h
 have HC:=aj (KL (uq gs ks) (fun k made w'=>Df w w.heap.size (fun o=>if o=1 then some nv else if o=2 then some lv else none) made w'/\made.length<=k) 226 (fun _ _=>rfl) (.pointer (some ⟨w.heap.size,0,none⟩)) w.heap.size dv l [] w _ HB1.out hd ⟨hst,Nat.le_refl _⟩
  (fun k s wx wy h hb=>⟨h.1.keep hb,h.2⟩) (fun k s wx h=>h.1.cell) (fun k s d v wr hkl' h hb ha hok=>by
   refine (Sg hV hL w w.heap.size nv lv ks gs s d v wr hb hl hk hkl h.1 (by omega) ha hok (fun w' hb'=>hL w hT w w' hT (hb.trans hb'))).mono ?_;rintro e w' ⟨h1,h2 | ⟨s',h2,h3,h4⟩⟩
   ·exact ⟨h1,.inl h2⟩
   ·exact ⟨h1,.inr ⟨s',h2,h3,h4,by have:=Wq gs ks s d s' h2;have:=h.2;omega⟩⟩))
 obtain ⟨DA,dc,hdv,_⟩:=hd;obtain ⟨NA,nc,hnv,_,_⟩:=hk;obtain ⟨EA,ec,hlv,_,_⟩:=hl;subst hdv;subst hnv;subst hlv;have Hdl:=aj hdl;clear hst hfx hT hV hL hdl;go_in;go_wp2_with fail;refine HC.out.mono ?_;rintro e w2 ⟨b2,⟨k,x,h1,h2,rfl⟩ | ⟨s',v,h1,h2,h3,rfl⟩⟩
 ·have HB:=aj (HB1.out.trans b2);have HF:=aj (And.intro h1 h2);clear b2 h1 h2 HC;go_wp2_with fail;refine bodyPost_ret (v:=.tuple #[.slice none 0 0,.int .i64 (k:Nat),.int .i64 x]) (by simp [results,Tryz.results224,go_sem, *]) rfl ?_;exact ⟨HB.out,.inl ⟨k,x,HF.out.1,HF.out.2,rfl⟩⟩
 ·have HB:=aj (HB1.out.trans b2);have HF:=aj (And.intro h1 (h2.1.docs (by have:=h2.2;have:=Hdl.out;omega) h3));clear b2 h1 h2 h3 HC;go_wp2_with fail;refine bodyPost_ret (v:=.tuple #[v,.int .i64 0,.int .i64 0]) (by simp [results,Tryz.results224,go_sem, *]) rfl ?_;exact ⟨HB.out,.inr ⟨s',v,HF.out.1,rfl,HF.out.2⟩⟩
theorem G6 (p:Value) (w:World):(method 419 168 p "sheaf/pipe.run").run Tryz.prog w=.ok (224,p) w:=by kernel_rfl
theorem NK (p:Value) (w:World):(method 419 162 p "sheaf/pipe.run").run Tryz.prog w=.ok (222,p) w:=by kernel_rfl
theorem NM {Tb:World->Prop} (hV:bJ Tb) (hL:aS Tb) {w:World} {nv lv:Value} {ks:List ByteArray} {gs:List (T->Int⊕T)} (hl:eY Tb w lv gs) (hk:bO w nv ks) (hkl:ks.length<=1000000):gK Tb w (.iface 168 (.agg #[.slice none 0 0,nv,lv])) (G5 gs ks) :=
 ⟨_,_,_,rfl,G6 _,fun _ _=>rfl,fun wr dv l hb hd hT=>Ws hV hL nv lv ks gs dv l wr (hl.keep hb) (hk.keep hb) hkl hd hT⟩
theorem wU (p:T->Bool) (l:List T):∀ j,j<=l.length->je p (aX 5 0 ByteArray.empty l []) j=(l.take j).filter p
 | 0,_=>rfl
 | j+1,h=>by
  rw [je,wU p l j (by omega),dD l h,List.take_add_one,List.getElem?_eq_getElem h,List.filter_append];simp only [Option.toList_some,List.filter_cons,List.filter_nil]
theorem uh.docs {w0:World} {hv:Value} {l:List T} {xs:List Value} {wr:World} (h:uh w0 13 hv l xs wr) (hn:l.length<=1000000) (hok:∀ i,(h:i<l.length)->bM l[i]):cu wr hv l:=by
 have hx:xs.length=l.length*5:=h.row.1;rcases h.row.2 with ⟨rfl,h0⟩ | ⟨g,cap,cur,rfl,hb0,hg,hnc,hcm,rest⟩
 ·exact ⟨none,0,by rw [h0],hn,by omega,by omega,fun i hi=>by rw [aI] at hi;omega,hok⟩
 ·refine ⟨_,_,rfl,hn,hnc,by unfold maxLen at hcm;omega,fun i hi=>?_,hok⟩;rw [aI] at hi;have hc:∀ j,j<5->wr.cell? ⟨g,i*5+j,none⟩=some (cx xs (i*5+j)):=fun j hj=>aW h.row (dR (by omega));refine ⟨g,0,cx xs (i*5),cx xs (i*5+1),cx xs (i*5+2),cx xs (i*5+3),cx xs (i*5+4),rfl,(Array.getElem?_eq_some_iff.1 hg).1,(by rw [Nat.zero_add];exact hc 0 (by omega)),(by rw [Nat.zero_add];exact hc 1 (by omega)),(by rw [Nat.zero_add];exact hc 2 (by omega)),(by rw [Nat.zero_add];exact hc 3 (by omega)),(by rw [Nat.zero_add];exact hc 4 (by omega)),?_⟩;rw [dD l hi];exact At.keep h.low (h.at_ i hi)
def G7 (p:T->Bool) (l:List T):(Nat×Int)⊕List T:=.inr (l.filter p)
theorem Wt {Tb:World->Prop} (hA:dx Tb) (hI:bn Tb) (hL:aS Tb) (JF:Value) (t:T) (dv:Value) (l:List T) (w:World) (hf:eP w 16 JF t) (hd:cu w dv l) (hT:Tb w) :
  Calls Tryz.prog 222 #[.agg #[JF],dv] w (qJ (G7 (gy 16 t)) l w):=by
 have HB1:=aj (aQ w (.cells #[JF] 162));obtain ⟨La,Lc,rfl,hn,_,_,hel,hok⟩:=hd;have HC:=aj (Bd hL 16 (z8 hA hI hL 16) JF t (aX 5 0 ByteArray.empty l []) 13 La Lc _ (eP.keep HB1.out 16 _ _ hf) (hel.keep HB1.out) (by rw [aI];exact hn) (by omega) (fun i hi=>by rw [aI] at hi;rw [dD l hi];exact hok i hi) (hL w hT _ _ hT HB1.out));rw [aI,wU _ _ _ (Nat.le_refl _),List.take_length] at HC
 have IB:Hid (∀ i,(h:i<(l.filter (gy 16 t)).length)->bM (l.filter (gy 16 t))[i]):=fun i hi=>by
  obtain ⟨hm,_⟩:=List.mem_filter.1 (List.getElem_mem hi);obtain ⟨k,hk,e⟩:=List.getElem_of_mem hm;rw [<- e];exact hok k hk
 have HLe:Hid ((l.filter (gy 16 t)).length<=1000000):=Nat.le_trans (List.length_filter_le _ _) hn;obtain ⟨FA,fc,UC,_⟩:=hf;subst UC;clear hel hok hT hA hI hL;go_in;go_wp2_with fail;refine HC.out.mono ?_;rintro e w2 ⟨hv,xs,rfl,hh⟩;have HB:=aj (HB1.out.trans (hh.low.mono HB1.out.size));have HD:=aj (hh.docs HLe.out IB.out);clear hh HC;go_wp2_with fail;refine bodyPost_ret (v:=.tuple #[hv,.int .i64 0,.int .i64 0]) (by simp [results,Tryz.results222,go_sem, *]) rfl ?_;exact ⟨HB.out,.inr ⟨_,hv,rfl,rfl,HD.out⟩⟩
theorem Wu {Tb:World->Prop} (hA:dx Tb) (hI:bn Tb) (hL:aS Tb) {w:World} {JF:Value} {t:T} (hf:eP w 16 JF t):gK Tb w (.iface 162 (.agg #[JF])) (G7 (gy 16 t)) :=
 ⟨_,_,_,rfl,NK _,fun _ _=>rfl,fun wr dv l hb hd hT=>Wt hA hI hL JF t dv l wr (eP.keep hb 16 _ _ hf) hd hT⟩
end Go.Proofs.YtknakfpciccoaabGreatDoor
