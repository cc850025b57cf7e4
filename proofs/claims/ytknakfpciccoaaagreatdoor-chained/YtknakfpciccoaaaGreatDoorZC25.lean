import Derived.Test.YtknakfpciccoaaaGreatDoorZC21
import Derived.Lib.SliceRun
import Derived.Test.YtknakfpciccoaaaGreatDoorZC24
/- The store as names and documents: what each call does to it. -/
set_option maxHeartbeats 8000000
set_option maxRecDepth 100000
namespace Go.Proofs.YtknakfpciccoaaaGreatDoor
open Go.RowKit Go.Maps Go.WideMaps
def DN (B:Nat) (w:World) (p n:Nat) (S:ByteArray->Option (List T)):Prop :=
 ∃ L m D lf vf xf,IZ L w p m n D lf vf xf/\(∀ b,L b≠0->B<=b)/\(∀ x y (c:Nat),qZ D x=.lit (.int .i64 c)->qZ D y=.lit (.int .i64 c)->x=y)/\∀ x,(S x=none/\qZ D x=.nil)\/∃ c:Nat,qZ D x=.lit (.int .i64 c)/\S x=some (lf c)
def QC (Q:Nat->Prop) (w:World) (p n:Nat) (S:ByteArray->Option (List T)):Prop :=
 ∃ L m D lf vf xf,IZ L w p m n D lf vf xf/\(∀ b,L b≠0->Q b)/\(∀ x y (c:Nat),qZ D x=.lit (.int .i64 c)->qZ D y=.lit (.int .i64 c)->x=y)/\∀ x,(S x=none/\qZ D x=.nil)\/∃ c:Nat,qZ D x=.lit (.int .i64 c)/\S x=some (lf c)
structure ku (Q:Nat->Prop) (w w':World):Prop where
 os:w'.os=w.os
 tape:w'.tape=w.tape
 output:w'.output=w.output
 size:w.heap.size<=w'.heap.size
 block:∀ b,b<w.heap.size->¬ Q b->w'.heap[b]?=w.heap[b]?
theorem KI.q {Q:Nat->Prop} {c:Nat} {g:Option Nat} {w w':World} (h:KI c g w w') (hc:Q c) (hg:∀ b,g=some b->Q b):ku Q w w' :=
 ⟨h.os,h.tape,h.output,h.size,fun b hb hn=>h.block b hb (fun e=>hn (e ▸ hc)) (fun e=>hn (hg b e.symm))⟩
theorem ku.after {Q:Nat->Prop} {w w1 w':World} (hb:Below w.heap.size w w1) (h:ku Q w1 w'):ku Q w w' :=
 ⟨h.os.trans hb.os,h.tape.trans hb.tape,h.output.trans hb.output,Nat.le_trans hb.size h.size,fun b hl hn=>(h.block b (Nat.lt_of_lt_of_le hl hb.size) hn).trans (hb.block b hl)⟩
theorem ku.of {Q:Nat->Prop} {w w':World} (h:Below w.heap.size w w'):ku Q w w':=⟨h.os,h.tape,h.output,h.size,fun b hl _=>h.block b hl⟩
theorem ku.below {B:Nat} {w w':World} (h:ku (fun b=>B<=b) w w') (hB:B<=w.heap.size):Below B w w':=⟨h.os,h.tape,h.output,h.size,fun b hb=>h.block b (by omega) (by omega)⟩
def uO (S:ByteArray->Option (List T)) (x:ByteArray) (l:Option (List T)):ByteArray->Option (List T):=fun y=>if y=x then l else S y
theorem fu (S:ByteArray->Option (List T)) (x:ByteArray) (l:Option (List T)):uO S x l x=l:=by simp [uO]
theorem bX (S:ByteArray->Option (List T)) {x y:ByteArray} (l:Option (List T)) (h:y≠x):uO S x l y=S y:=by simp [uO,h]
theorem DN.keep {B:Nat} {w w':World} {p n:Nat} {S:ByteArray->Option (List T)} (h:DN B w p n S) (hb:Below w.heap.size w w'):DN B w' p n S:=by
 obtain ⟨L,m,D,lf,vf,xf,h1,h2⟩:=h;exact ⟨L,m,D,lf,vf,xf,h1.keep hb,h2⟩
theorem DN.new (w:World):DN w.heap.size ((w.alloc (.map #[] 0)).alloc (.cells #[.map (some w.heap.size)] 102)) (w.heap.size+1) 0 (fun _=>none):=by
 obtain ⟨L,h1,h2⟩:=IZ.new w (fun _=>[]) (fun _=>.slice none 0 0) (fun _=>[]);refine ⟨L,_,_,_,_,_,h2,h1,fun x y c hx=>?_,fun x=>.inl ⟨rfl,rfl⟩⟩;have e:qZ (.map []) x=.nil:=rfl;rw [e] at hx;cases hx
theorem DN.lo {B:Nat} {w:World} {p n:Nat} {S:ByteArray->Option (List T)} (h:DN B w p n S):B<=p/\p<w.heap.size:=by
 obtain ⟨L,m,D,lf,vf,xf,h1,h2,_⟩:=h;exact ⟨h2 p (by rw [h1.lp];omega),h1.Sy.low⟩
theorem Ld {Q:Nat->Prop} {w:World} {p n:Nat} {S:ByteArray->Option (List T)} (h:QC Q w p n S) (hQ:∀ b,w.heap.size<=b->Q b) (x:ByteArray) (hx:x.size<=140737488355328) (hn:n<=5) (hnm:uN x=true) (hS:S x=none) :
  Calls Tryz.prog 37 #[.pointer (some ⟨p,0,none⟩),.string x] w fun e w'=>e=.returned (.int .i64 0)/\ku Q w w'/\QC Q w' p (n+1) (uO S x (some [])):=by
 obtain ⟨L,m,D,lf,vf,xf,h1,h2,h3,h4⟩:=h;have hpm:p≠m:=fun e=>by have:=h1.lp;have:=h1.lm;subst e;omega
 have hnil:qZ D x=.nil:=by
  rcases h4 x with ⟨_,h⟩ | ⟨c,_,h⟩
  ·exact h
  ·rw [hS] at h;cases h
 refine (NT p m n D x w hx (by omega) h1.Sy hpm).mono ?_;rintro e w' (⟨h5,_⟩ | ⟨_,⟨c,h5⟩,_⟩ | ⟨_,_,h5,_⟩ | ⟨_,_,_,rfl,hok⟩)
 ·rw [hnm] at h5;cases h5
 ·rw [hnil] at h5;cases h5
 ·have:=h1.Sy.own.size_le;omega
 ·obtain ⟨L',c,hc,hl,hst⟩:=h1.cre hok;obtain ⟨c',_,_,_,_,_,hB⟩:=hok;have hmB:Q m:=h2 m (by rw [h1.lm];omega);have hml:=h1.low m (by rw [h1.lm];omega);refine ⟨rfl,hB.q hmB (fun b e=>by cases e),L',m,_,_,_,_,hst,fun b hb=>?_,fun y z c1 hy hz=>?_,fun y=>?_⟩
  ·rcases hl b hb with h | h
   ·exact h2 b h
   ·exact hQ b (by omega)
  ·by_cases ey:y=x
   ·by_cases ez:z=x
    ·rw [ey,ez]
    ·subst ey;rw [l9 h1.Sy.own.isMap] at hy;rw [jh ez] at hz;obtain rfl:=ou hy;have:=h1.low _ (by rw [(h1.col z _ hz).lab];omega);omega
   ·rw [jh ey] at hy;by_cases ez:z=x
    ·subst ez;rw [l9 h1.Sy.own.isMap] at hz;obtain rfl:=ou hz;have:=h1.low _ (by rw [(h1.col y _ hy).lab];omega);omega
    ·rw [jh ez] at hz;exact h3 y z c1 hy hz
  ·by_cases ey:y=x
   ·subst ey;exact .inr ⟨c,l9 h1.Sy.own.isMap _ _,by rw [fu,lq]⟩
   ·rw [bX _ _ ey,jh ey];rcases h4 y with h | ⟨c1,hy,hs⟩
    ·exact .inl h
    ·refine .inr ⟨c1,hy,?_⟩;have:=h1.low _ (by rw [(h1.col y _ hy).lab];omega);rw [jB _ _ (by omega)];exact hs
theorem Fz {B:Nat} {w:World} {p n:Nat} {S:ByteArray->Option (List T)} (h:DN B w p n S) (x:ByteArray) (hx:x.size<=140737488355328) (hn:n<=5) (hnm:uN x=true) (hS:S x=none) :
  Calls Tryz.prog 37 #[.pointer (some ⟨p,0,none⟩),.string x] w fun e w'=>e=.returned (.int .i64 0)/\Below B w w'/\DN B w' p (n+1) (uO S x (some [])):=by
 have hp:=h.lo;refine (Ld (Q:=fun b=>B<=b) h (fun b hb=>by omega) x hx hn hnm hS).mono ?_;rintro e w' ⟨rfl,h1,h2⟩;exact ⟨rfl,h1.below (by omega),h2⟩
theorem Le {Tb:World->Prop} (hA:bN Tb) {Q:Nat->Prop} {w:World} {p n:Nat} {S:ByteArray->Option (List T)} (h:QC Q w p n S) (hQ:∀ b,w.heap.size<=b->Q b) (x s:ByteArray) (l:List T) (hx:x.size<=140737488355328) (hs:s.size<=140737488355328) (hS:S x=some l) (hin:∀ er,jQ s=some er->er=7) (hl:l.length<60) (hT:Tb w) :
  Calls Tryz.prog 38 #[.pointer (some ⟨p,0,none⟩),.string x,.string s] w fun e w'=>ku Q w w'/\((e=.returned (.int .i64 0)/\QC Q w' p n (uO S x (some (l++[tJ s]))))\/∃ er:Int,(er=7\/er=11)/\e=.returned (.int .i64 er)/\(jQ s=none->dw (jq (Qt (tJ s))) (aO 5 0 ByteArray.empty l []) l.length=true)):=by
 obtain ⟨L,m,D,lf,vf,xf,h1,h2,h3,h4⟩:=h
 obtain ⟨c,hc,hlc⟩:∃ c:Nat,qZ D x=.lit (.int .i64 c)/\lf c=l:=by
  rcases h4 x with ⟨h,_⟩ | ⟨c,hc,h⟩
  ·rw [hS] at h;cases h
  ·rw [hS] at h;exact ⟨c,hc,(Option.some.inj h).symm⟩
 have hco:=h1.col x c hc;have hcB:Q c:=h2 c (by rw [hco.lab];omega);refine (KL hA p m n D lf vf xf x s w hs hx h1.Sy (fun c1 hc1=>?_) hT).mono ?_
 ·rw [hc] at hc1;obtain rfl:=ou hc1;exact ⟨h1.Wn hc,by rw [hlc];omega,hco.doc⟩
 ·rintro e w' (⟨hb,er,h5,rfl⟩ | ⟨_,_,h5,_⟩ | ⟨hin,c1,hc1,w1,A,Bc,C,Dc,hb,hat,hI⟩)
  ·exact ⟨ku.of hb,.inr ⟨er,.inl (hin er h5),rfl,fun h=>by rw [h5] at h;cases h⟩⟩
  ·rw [hc] at h5;cases h5
  ·rw [hc] at hc1;obtain rfl:=ou hc1;rcases hI with ⟨hB,h5,rfl⟩ | ⟨_,_,h5,_⟩ | ⟨hB,_,_,rfl,g,cap,q0,f0,hg,hO⟩
   ·exact ⟨ku.of (hb.trans (hB.mono hb.size)),.inr ⟨11,.inr rfl,rfl,fun _=>by rw [<- hlc];exact h5⟩⟩
   ·rw [hlc] at h5;omega
   ·have Lf:Doc (tJ s):=by
     unfold jQ at hin;split at hin
     ·cases hin
     ·rename_i e1;split at hin
      ·cases hin
      ·rename_i e2;exact Fj (mM (by simpa using e1)) (by simpa using e2)
    obtain ⟨L',hl',hst⟩:=h1.ins hc hb hat Lf hB q0 f0 hg hO;have hbs:=hb.size;refine ⟨ku.after hb (hB.q hcB (fun b e=>h2 b (by rw [hco.Hu b e];omega))),.inl ⟨rfl,L',m,D,_,_,_,hst,fun b hb0=>?_,h3,fun y=>?_⟩⟩
    ·rcases hl' b hb0 with h | h
     ·exact h2 b h
     ·exact hQ b (by omega)
    ·by_cases ey:y=x
     ·subst ey;exact .inr ⟨c,hc,by rw [fu,lq,hlc]⟩
     ·rw [bX _ _ ey];rcases h4 y with h | ⟨c1,hy,hs1⟩
      ·exact .inl h
      ·refine .inr ⟨c1,hy,?_⟩;rw [jB _ _ (show c1≠c from fun e=>ey (h3 y x c (by rw [<- e];exact hy) hc))];exact hs1
theorem FB {Tb:World->Prop} (hA:bN Tb) {B:Nat} {w:World} {p n:Nat} {S:ByteArray->Option (List T)} (h:DN B w p n S) (x s:ByteArray) (l:List T) (hx:x.size<=140737488355328) (hs:s.size<=140737488355328) (hS:S x=some l) (hin:jQ s=none) (hno:dw (jq (Qt (tJ s))) (aO 5 0 ByteArray.empty l []) l.length=false) (hl:l.length<60) (hT:Tb w) :
  Calls Tryz.prog 38 #[.pointer (some ⟨p,0,none⟩),.string x,.string s] w fun e w'=>e=.returned (.int .i64 0)/\Below B w w'/\DN B w' p n (uO S x (some (l++[tJ s]))):=by
 have hp:=h.lo;refine (Le hA (Q:=fun b=>B<=b) h (fun b hb=>by omega) x s l hx hs hS (fun er he=>by rw [hin] at he;cases he) hl hT).mono ?_;rintro e w' ⟨hb,⟨rfl,h1⟩ | ⟨er,_,_,h1⟩⟩
 ·exact ⟨rfl,hb.below (by omega),h1⟩
 ·rw [hno] at h1;cases h1 hin
theorem zw (p:T->Bool) (k n:Int) (s:ByteArray) (l:List T) (ks:List ByteArray):∀ j,j<=l.length->jf p (aO k n s l ks) j=(l.take j).filter p
 | 0,_=>rfl
 | j+1,h=>by
  have e:elt (aO k n s l ks) j=l[j]:=by rw [iQ,List.getD_eq_getElem?_getD,List.getElem?_eq_getElem h];rfl
  rw [jf,zw p k n s l ks j (by omega),e,List.take_add_one,List.getElem?_eq_getElem h,List.filter_append];simp only [Option.toList_some,List.filter_cons,List.filter_nil]
theorem pV {w:World} {lo:Nat} {e:TypeId} {s n:Nat} {v:Value} {xs:List Value} (h:w.ownsRow lo e s v n xs):∃ A c,v=.slice A n c:=by
 rcases h.2 with ⟨rfl,rfl⟩ | ⟨g,cap,cur,rfl,_⟩
 ·exact ⟨_,_,rfl⟩
 ·exact ⟨_,_,rfl⟩
theorem Zy {Tb:World->Prop} (hA:bN Tb) {B:Nat} {w:World} {p n:Nat} {S:ByteArray->Option (List T)} (h:DN B w p n S) (x s:ByteArray) (l:List T) (hx:x.size<=140737488355328) (hs:s.size<=140737488355328) (hS:S x=some l) (hl:l.length<=1000000) (he:eJ s=0) (hk:bE 16 (tJ s)=true) (hT:Tb w) :
  Calls Tryz.prog 27 #[.pointer (some ⟨p,0,none⟩),.string x,.string s] w fun e w'=>Below w.heap.size w w'/\∃ A c,e=.returned (.tuple #[.slice A (l.filter (gP 16 (tJ s))).length c,.int .i64 0])/\w'.ownsRow w.heap.size 9 1 (.slice A (l.filter (gP 16 (tJ s))).length c) (l.filter (gP 16 (tJ s))).length ((l.filter (gP 16 (tJ s))).map fun t=>.string (qY t)):=by
 obtain ⟨L,m,D,lf,vf,xf,h1,h2,h3,h4⟩:=h
 obtain ⟨c,hc,hlc⟩:∃ c:Nat,qZ D x=.lit (.int .i64 c)/\lf c=l:=by
  rcases h4 x with ⟨h,_⟩ | ⟨c,hc,h⟩
  ·rw [hS] at h;cases h
  ·rw [hS] at h;exact ⟨c,hc,(Option.some.inj h).symm⟩
 have hco:=h1.col x c hc;refine (Kz hA p m n 13 D (fun c=>aO 5 0 ByteArray.empty (lf c) []) x s w hs hx h1.Sy (fun c1 hc1=>?_) (by omega) hT).mono ?_
 ·rw [hc] at hc1;obtain rfl:=ou hc1;refine ⟨h1.coll hc,by rw [aN,hlc];exact hl,fun i hi=>?_⟩;have hi':i<(lf c).length:=hi;have e:elt (aO 5 0 ByteArray.empty (lf c) []) i=(lf c)[i]:=by rw [iQ,List.getD_eq_getElem?_getD,List.getElem?_eq_getElem hi'];rfl
  rw [e];exact (hco.doc i hi').1
 ·rintro e w' ⟨hb,⟨h5,_⟩ | ⟨_,h5,_⟩ | ⟨_,_,h5,_⟩ | ⟨_,_,c1,hc1,sv,rfl,hO⟩⟩
  ·exact absurd he h5
  ·rw [hk] at h5;cases h5
  ·rw [hc] at h5;cases h5
  ·rw [hc] at hc1;obtain rfl:=ou hc1
   have e:V5 s (aO 5 0 ByteArray.empty (lf c) [])=l.filter (gP 16 (tJ s)):=by
    unfold V5;rw [aN,zw _ _ _ _ _ _ _ (Nat.le_refl _),List.take_length,hlc]
   rw [e] at hO;obtain ⟨A,cp,rfl⟩:=pV hO;exact ⟨hb,A,cp,rfl,hO⟩
theorem FC {Tb:World->Prop} (hA:bN Tb) {B:Nat} {w:World} {p n:Nat} {S:ByteArray->Option (List T)} (h:DN B w p n S) (x s:ByteArray) (hx:x.size<=140737488355328) (hs:s.size<=140737488355328) (hS:S x=none) (he:eJ s=0) (hk:bE 16 (tJ s)=true) (hT:Tb w) :
  Calls Tryz.prog 27 #[.pointer (some ⟨p,0,none⟩),.string x,.string s] w fun e w'=>Below w.heap.size w w'/\e=.returned (.tuple #[.slice none 0 0,.int .i64 10]):=by
 obtain ⟨L,m,D,lf,vf,xf,h1,h2,h3,h4⟩:=h
 have hnil:qZ D x=.nil:=by
  rcases h4 x with ⟨_,h⟩ | ⟨c,_,h⟩
  ·exact h
  ·rw [hS] at h;cases h
 refine (Kz hA p m n 13 D (fun c=>aO 5 0 ByteArray.empty (lf c) []) x s w hs hx h1.Sy (fun c1 hc1=>by rw [hnil] at hc1;cases hc1) (by omega) hT).mono ?_;rintro e w' ⟨hb,⟨h5,_⟩ | ⟨_,h5,_⟩ | ⟨_,_,_,rfl⟩ | ⟨_,_,c1,hc1,_⟩⟩
 ·exact absurd he h5
 ·rw [hk] at h5;cases h5
 ·exact ⟨hb,rfl⟩
 ·rw [hnil] at hc1;cases hc1
theorem Og (xs:List Value) (a b:Nat) (u:Value):cx (xs.set a u) b=if a=b/\a<xs.length then u else cx xs b:=by
 unfold cx;rw [List.getElem?_set];by_cases h:a=b
 ·subst h;by_cases h2:a<xs.length
  ·simp [h2]
  ·simp [h2]
 ·simp [h]
def nE (xs:List Value) (i:Nat) (u0 u1 u2 u3 u4:Value):List Value:=((((xs.set (i*5) u0).set (i*5+1) u1).set (i*5+2) u2).set (i*5+3) u3).set (i*5+4) u4
theorem WM (xs:List Value) (i:Nat) (u0 u1 u2 u3 u4:Value):(nE xs i u0 u1 u2 u3 u4).length=xs.length:=by simp [nE]
theorem mg {xs:List Value} {i:Nat} (h:i*5+5<=xs.length) (u0 u1 u2 u3 u4:Value):fv (nE xs i u0 u1 u2 u3 u4) i=.agg #[u0,u1,u2,u3,u4]:=by
 have n (ys:List Value) (a b:Nat) (u:Value) (hab:a≠b):cx (ys.set a u) b=cx ys b:=by rw [Og,if_neg (fun e=>hab e.1)]
 have y (ys:List Value) (a:Nat) (u:Value) (ha:a<ys.length):cx (ys.set a u) a=u:=by rw [Og,if_pos ⟨rfl,ha⟩]
 have e0:cx (nE xs i u0 u1 u2 u3 u4) (i*5)=u0:=by unfold nE;rw [n _ _ _ _ (by omega),n _ _ _ _ (by omega),n _ _ _ _ (by omega),n _ _ _ _ (by omega),y _ _ _ (by omega)]
 have e1:cx (nE xs i u0 u1 u2 u3 u4) (i*5+1)=u1:=by unfold nE;rw [n _ _ _ _ (by omega),n _ _ _ _ (by omega),n _ _ _ _ (by omega),y _ _ _ (by simp only [List.length_set];omega)]
 have e2:cx (nE xs i u0 u1 u2 u3 u4) (i*5+2)=u2:=by unfold nE;rw [n _ _ _ _ (by omega),n _ _ _ _ (by omega),y _ _ _ (by simp only [List.length_set];omega)]
 have e3:cx (nE xs i u0 u1 u2 u3 u4) (i*5+3)=u3:=by unfold nE;rw [n _ _ _ _ (by omega),y _ _ _ (by simp only [List.length_set];omega)]
 have e4:cx (nE xs i u0 u1 u2 u3 u4) (i*5+4)=u4:=by unfold nE;rw [y _ _ _ (by simp only [List.length_set];omega)]
 unfold fv;rw [e0,e1,e2,e3,e4]
theorem DR {xs:List Value} {i j:Nat} (h:j<i*5\/i*5+5<=j) (u0 u1 u2 u3 u4:Value):cx (nE xs i u0 u1 u2 u3 u4) j=cx xs j:=by
 unfold nE;simp only [Og,List.length_set];rw [if_neg (by omega),if_neg (by omega),if_neg (by omega),if_neg (by omega),if_neg (by omega)]
theorem jk {xs:List Value} {i k:Nat} (h:k≠i) (u0 u1 u2 u3 u4:Value):fv (nE xs i u0 u1 u2 u3 u4) k=fv xs k:=by
 unfold fv;have a (j:Nat) (hj:j<i*5\/i*5+5<=j):cx (nE xs i u0 u1 u2 u3 u4) j=cx xs j:=DR hj u0 u1 u2 u3 u4;rw [a _ (by omega),a _ (by omega),a _ (by omega),a _ (by omega),a _ (by omega)]
theorem lu {w w1 w2:World} {g:Option Nat} (h:w.grownBy w1 g) (k:w1.grownBy w2 g):w.grownBy w2 g :=
 ⟨k.os.trans h.os,k.tape.trans h.tape,k.output.trans h.output,Nat.le_trans h.size k.size,fun b hb hne=>(k.block b (Nat.lt_of_lt_of_le hb h.size) hne).trans (h.block b hb hne)⟩
theorem xC {w:World} {base g n cap:Nat} {e:TypeId} {xs:List Value} (h:w.ownsRow base e 5 (.slice (some ⟨g,0,none⟩) n cap) n xs) (i:Nat) (u0 u1 u2 u3 u4:Value) :
  (bG w g (i*5) u0 u1 u2 u3 u4).ownsRow base e 5 (.slice (some ⟨g,0,none⟩) n cap) n (nE xs i u0 u1 u2 u3 u4)/\w.grownBy (bG w g (i*5) u0 u1 u2 u3 u4) (some g):=by
 have h0:=h.stored (i*5) u0;have h1:=h0.1.stored (i*5+1) u1;have h2:=h1.1.stored (i*5+2) u2;have h3:=h2.1.stored (i*5+3) u3;have h4:=h3.1.stored (i*5+4) u4;exact ⟨h4.1,lu (lu (lu (lu h0.2 h1.2) h2.2) h3.2) h4.2⟩
theorem qc.fit {p:Nat->Prop} {w:World}:∀ {m f:Nat} {v:Value} {t:T},qc p w f v t->dD m t->qc p w (m+1) v t:=by
 intro m
 induction m with
 | zero =>
  intro f v t h hg;have hl:aW t:=hg;cases f with
  | zero=>exact h.elim
  | succ f =>
   obtain ⟨La,Ka,Lc,Kc,rfl,hf,_,_⟩:=h;exact ⟨La,Ka,Lc,Kc,rfl,hf,fun i hi=>by rw [hl.1] at hi;omega,fun i hi=>by rw [hl.2.1] at hi;omega⟩
 | succ m ih =>
  intro f v t h hg;cases f with
  | zero=>exact h.elim
  | succ f =>
   obtain ⟨La,Ka,Lc,Kc,rfl,hf,he,hk⟩:=h;refine ⟨La,Ka,Lc,Kc,rfl,hf,fun i hi=>?_,hk⟩;obtain ⟨b,o,c0,c1,c2,c3,c4,h0,hb,q0,q1,q2,q3,q4,ha⟩:=he i hi;refine ⟨b,o,c0,c1,c2,c3,c4,h0,hb,q0,q1,q2,q3,q4,ih ha ?_⟩;rcases hg with hl | ⟨_,_,hge,_⟩
   ·have:=hl.1;omega
   ·exact hge i hi
theorem qJ {t:T} (h:bR t=false):dD 12 t/\bM t:=by
 unfold bR at h;rw [Bool.or_eq_false_iff] at h;have h1:Di t=true:=by simpa using h.1
 have h2:=(nI t).1 h1;exact ⟨h2.1,wP h2.1 (by have:=h2.2;omega)⟩
def DT (w0:World) (c:Nat) (fx:Nat->Option Value) (l:List T) (w:World):Prop :=
 ∃ v xs,∃ R:Nat->Prop,Mk w c v l.length xs/\(∀ b,b<w0.heap.size->R b)/\(∀ b,R b->b<w.heap.size/\b≠c/\v.ownBlock≠some b)/\(∀ i,(h:i<l.length)->qc R w 13 (fv xs i) l[i]/\bM l[i])/\∀ o,o≠0->w.cell? ⟨c,o,none⟩=fx o
theorem DT.keep {w0:World} {c:Nat} {fx:Nat->Option Value} {l:List T} {w w':World} (h:DT w0 c fx l w) (hb:Below w.heap.size w w'):DT w0 c fx l w':=by
 obtain ⟨v,xs,R,h1,h2,h3,h4,h5⟩:=h;exact ⟨v,xs,R,h1.keep hb,h2,fun b hr=>⟨Nat.lt_of_lt_of_le (h3 b hr).1 hb.size,(h3 b hr).2⟩,fun i hi=>⟨(h4 i hi).1.move hb.size fun b hbl hr=>⟨hr,hb.block b hbl⟩,(h4 i hi).2⟩,fun o ho=>(hb.cell (p:=⟨c,o,none⟩) h1.low).trans (h5 o ho)⟩
theorem DT.cell {w0:World} {c:Nat} {fx:Nat->Option Value} {l:List T} {w:World} (h:DT w0 c fx l w):∃ v,w.cell? ⟨c,0,none⟩=some v:=by
 obtain ⟨v,xs,R,h1,_⟩:=h;exact ⟨v,h1.cell⟩
theorem DT.lo {w0:World} {c:Nat} {fx:Nat->Option Value} {l:List T} {w:World} (h:DT w0 c fx l w):w0.heap.size<=c/\c<w.heap.size:=by
 obtain ⟨v,xs,R,h1,h2,h3,_⟩:=h;refine ⟨Nat.le_of_not_lt fun h=>?_,h1.low⟩;exact (h3 c (h2 c h)).2.1 rfl
theorem Zz {Tb:World->Prop} (hV:bF Tb) (hL:aV Tb) (w0 w1 w2:World) (c f:Nat) (fx:Nat->Option Value) (l:List T) (t:T) (A C:Option Addr) (B D:Nat) (h:DT w0 c fx l w1) (hb:Below w1.heap.size w1 w2) (hn:l.length<=1000000) (ha:qc (fun b=>b<w0.heap.size\/w1.heap.size<=b) w2 f (.agg #[.int .i64 (aj t),.int .i64 (av t),.string (ay t),.slice A (nL t) B,.slice C (nK t) D]) t) (hT:Tb w2) :
  Calls Tryz.prog 352 #[.pointer (some ⟨c,0,none⟩),.agg #[.int .i64 (aj t),.int .i64 (av t),.string (ay t),.slice A (nL t) B,.slice C (nK t) D]] w2 fun e w'=>Below w0.heap.size w2 w'/\(∀ o,o≠0->w'.cell? ⟨c,o,none⟩=fx o)/\∃ er:Int,e=.returned (.int .i64 er)/\((bR t=true/\er=15)\/(bR t=false/\er=0/\DT w0 c fx (l++[t]) w')):=by
 have hlo:=h.lo;obtain ⟨v,xs,R,h1,h2,h3,h4,h5⟩:=h;have hob:∀ b,v.ownBlock=some b->w0.heap.size<=b/\b<w1.heap.size:=fun b e=>⟨Nat.le_of_not_lt fun hh=>(h3 b (h2 b hh)).2.2 e,(h1.row.lt b e).2⟩;have s1:=hb.size;refine (K9 hV hL c f t v l.length xs A C B D w2 (h1.keep hb) hn ha.at hT).mono ?_;rintro e w' (⟨b2,hbig,rfl⟩ | ⟨hB,hbig,rfl,hoff,g,cap,q0,f0,hg,hO⟩)
 ·exact ⟨b2.mono (by omega),fun o ho=>by rw [b2.cell (p:=⟨c,o,none⟩) (by show c<_;omega),hb.cell (p:=⟨c,o,none⟩) h1.low];exact h5 o ho,15,rfl,.inl ⟨hbig,rfl⟩⟩
 ·obtain ⟨hgood,hok⟩:=qJ hbig;have s2:=hB.size;have hgl:g<w'.heap.size:=(hO.lt g rfl).2;have hx:xs.length=l.length*5:=h1.row.1
  have hgc:g≠c:=by
   rcases hg with hg | hg
   ·exact fun e=>h1.apart (by rw [hg,e])
   ·omega
  have old:∀ b,b<w2.heap.size->b≠c->v.ownBlock≠some b->w'.heap[b]?=w2.heap[b]?:=fun b h1 h2 h3=>hB.block b h1 h2 (fun e=>h3 e.symm);refine ⟨⟨hB.os,hB.tape,hB.output,hB.size,fun b hb'=>old b (by omega) (by omega) (fun e=>by have:=(hob b e).1;omega)⟩,(fun o ho=>by rw [hoff o ho,hb.cell (p:=⟨c,o,none⟩) h1.low];exact h5 o ho),0,rfl,.inr ⟨hbig,rfl,_,xs++[.int .i64 (aj t),.int .i64 (av t),.string (ay t),.slice A (nL t) B,.slice C (nK t) D],(fun b=>b<w0.heap.size\/R b\/(w1.heap.size<=b/\b<w2.heap.size)),⟨q0,f0,by omega,?_,?_⟩,fun b hb'=>.inl hb',?_,?_,?_⟩⟩
  ·rw [List.length_append];exact hO
  ·simpa [Value.ownBlock] using hgc
  ·intro b hr
   have hne:∀ (h:b<w2.heap.size),(b<w1.heap.size->v.ownBlock≠some b)->b≠g:=fun h hv e=>by
    subst e;rcases hg with hg | hg
    ·exact hv (hob b hg).2 hg
    ·omega
   rcases hr with hr | hr | hr
   ·exact ⟨by omega,by omega,by simpa [Value.ownBlock] using (hne (by omega) (fun _=>(h3 b (h2 b hr)).2.2)).symm⟩
   ·have:=h3 b hr;exact ⟨by omega,this.2.1,by simpa [Value.ownBlock] using (hne (by omega) (fun _=>this.2.2)).symm⟩
   ·exact ⟨by omega,by omega,by simpa [Value.ownBlock] using (hne hr.2 (fun h=>by omega)).symm⟩
  ·intro i hi;rw [List.length_append,List.length_cons,List.length_nil] at hi;by_cases e:i<l.length
   ·rw [pU hx e,List.getElem_append_left e];refine ⟨(h4 i e).1.move (by omega) fun b hbl hr=>⟨.inr (.inl hr),(old b (by omega) (h3 b hr).2.1 (h3 b hr).2.2).trans (hb.block b hbl)⟩,(h4 i e).2⟩
   ·obtain rfl:i=l.length:=by omega
    rw [uw hx,List.getElem_append_right (by omega)];simp only [Nat.sub_self,List.getElem_cons_zero];refine ⟨(ha.fit hgood).move s2 fun b hbl hq=>?_,hok⟩;rcases hq with hq | hq
    ·exact ⟨.inl hq,old b hbl (by omega) (fun e=>by have:=(hob b e).1;omega)⟩
    ·exact ⟨.inr (.inr ⟨hq,hbl⟩),old b hbl (by omega) (fun e=>by have:=(hob b e).2;omega)⟩
  ·intro o ho;rw [hoff o ho,hb.cell (p:=⟨c,o,none⟩) h1.low];exact h5 o ho
theorem DT.docs {w0:World} {c:Nat} {fx:Nat->Option Value} {l:List T} {w:World} (h:DT w0 c fx l w) (hn:l.length<=1000000) {v:Value} (hv:w.cell? ⟨c,0,none⟩=some v):cZ w v l:=by
 obtain ⟨v',xs,R,h1,h2,h3,h4,h5⟩:=h;obtain rfl:v'=v:=Option.some.inj (h1.cell.symm.trans hv);have hx:xs.length=l.length*5:=h1.row.1;rcases h1.row.2 with ⟨rfl,h0⟩ | ⟨g,cap,cur,rfl,hb0,hg,hnc,hcm,rest⟩
 ·exact ⟨none,0,by rw [h0],hn,by omega,by omega,fun i hi=>by rw [aN] at hi;omega,fun i hi=>(h4 i hi).2⟩
 ·refine ⟨_,_,rfl,hn,hnc,by unfold maxLen at hcm;omega,fun i hi=>?_,fun i hi=>(h4 i hi).2⟩;rw [aN] at hi;have hc:∀ j,j<5->w.cell? ⟨g,i*5+j,none⟩=some (cx xs (i*5+j)):=fun j hj=>aX h1.row (dR (by omega));refine ⟨g,0,cx xs (i*5),cx xs (i*5+1),cx xs (i*5+2),cx xs (i*5+3),cx xs (i*5+4),rfl,(Array.getElem?_eq_some_iff.1 hg).1,(by rw [Nat.zero_add];exact hc 0 (by omega)),(by rw [Nat.zero_add];exact hc 1 (by omega)),(by rw [Nat.zero_add];exact hc 2 (by omega)),(by rw [Nat.zero_add];exact hc 3 (by omega)),(by rw [Nat.zero_add];exact hc 4 (by omega)),?_⟩;rw [fC l hi];exact (h4 i hi).1.at
theorem At.toP {p:Nat->Prop} {w0 w:World} (hp:∀ b,b<w0.heap.size->p b) (hb:Below w0.heap.size w0 w):∀ {f:Nat} {v:Value} {t:T},At w0 f v t->qc p w f v t:=by
 intro f
 induction f with
 | zero=>intro v t h;exact h.elim
 | succ f ih =>
  rintro v t ⟨La,Ka,Lc,Kc,rfl,hf,hl,hk⟩;refine ⟨La,Ka,Lc,Kc,rfl,hf,fun i hi=>?_,fun i hi=>?_⟩
  ·obtain ⟨b,o,c0,c1,c2,c3,c4,h0,hbl,q0,q1,q2,q3,q4,ha⟩:=hl i hi;exact ⟨b,o,c0,c1,c2,c3,c4,h0,⟨Nat.lt_of_lt_of_le hbl hb.size,hp b hbl⟩,(hb.cell (p:=⟨b,_,none⟩) hbl).trans q0,(hb.cell (p:=⟨b,_,none⟩) hbl).trans q1,(hb.cell (p:=⟨b,_,none⟩) hbl).trans q2,(hb.cell (p:=⟨b,_,none⟩) hbl).trans q3,(hb.cell (p:=⟨b,_,none⟩) hbl).trans q4,ih ha⟩
  ·obtain ⟨b,o,h0,hbl,h2,h3⟩:=hk i hi;exact ⟨b,o,h0,⟨Nat.lt_of_lt_of_le hbl hb.size,hp b hbl⟩,h2,(hb.cell (p:=⟨b,_,none⟩) hbl).trans h3⟩
theorem acs {w0 w:World} {lo:Nat} {v nv:Value} {l:List T} {xs:List Value} {ks:List ByteArray} (h:VR w0 lo w v l xs) (hb:Below w0.heap.size w0 w) (hk:bI w0 nv ks) (hl:l.length<=1000000) :
  ∃ A B C D,v=.slice A l.length B/\nv=.slice C ks.length D/\qc (fun b=>b<w0.heap.size\/lo<=b) w 14 (.agg #[.int .i64 6,.int .i64 0,.string ⟨#[]⟩,.slice A l.length B,.slice C ks.length D]) (aO 6 0 ByteArray.empty l ks):=by
 obtain ⟨C,D,rfl,hkn,hks⟩:=hk;have hx:xs.length=l.length*5:=h.row.1;obtain ⟨A,B,hv⟩:=fq h.row;refine ⟨A,B,C,D,hv,rfl,A,C,B,D,by rw [bg,eP,gu,aN,eY];rfl,?_,fun i hi=>?_,fun i hi=>?_⟩
 ·exact ⟨by rw [bg];omega,by rw [bg];omega,by rw [eP];omega,by rw [eP];omega,by rw [gu];show (0:Nat)<=_;omega,by rw [aN];omega,by rw [eY];exact hkn⟩
 ·rw [aN] at hi;rcases h.row.2 with ⟨h',h0⟩ | ⟨g,cap,cur,h',hb0,hg,rest⟩
  ·omega
  ·rw [hv] at h';simp only [Value.slice.injEq,true_and] at h';obtain ⟨rfl,rfl⟩:=h'
   have hc:∀ j,j<5->w.cell? ⟨g,i*5+j,none⟩=some (cx xs (i*5+j)):=fun j hj=>by
    have hr:=h.row;rw [hv] at hr;exact aX hr (dR (by omega))
   refine ⟨g,0,cx xs (i*5),cx xs (i*5+1),cx xs (i*5+2),cx xs (i*5+3),cx xs (i*5+4),rfl,⟨(Array.getElem?_eq_some_iff.1 hg).1,.inr hb0⟩,(by rw [Nat.zero_add];exact hc 0 (by omega)),(by rw [Nat.zero_add];exact hc 1 (by omega)),(by rw [Nat.zero_add];exact hc 2 (by omega)),(by rw [Nat.zero_add];exact hc 3 (by omega)),(by rw [Nat.zero_add];exact hc 4 (by omega)),?_⟩;rw [iQ,List.getD_eq_getElem?_getD,List.getElem?_eq_getElem hi];exact At.toP (fun b hb'=>.inl hb') hb (h.at_ i hi)
 ·rw [eY] at hi;obtain ⟨b,o,h0,hbl,hsz,hc⟩:=hks i hi;refine ⟨b,o,h0,⟨Nat.lt_of_lt_of_le hbl hb.size,.inl hbl⟩,?_,?_⟩
  ·rw [rY];exact hsz
  ·rw [rY,hb.cell (p:=⟨b,_,none⟩) hbl];exact hc
def zV (gs:List (T->Int⊕T)) (ks:List ByteArray) (made:List T) (d:T):Int⊕List T:=match zu gs d with
 | .inl x=>.inl x
 | .inr l=>if bR (aO 6 0 ByteArray.empty l ks) then .inl 15 else .inr (made++[aO 6 0 ByteArray.empty l ks])
theorem SL {Tb:World->Prop} (hL:aV Tb) (lv:Value) (gs:List (T->Int⊕T)) (x:Value) (doc:T) (w0 w:World) (hb0:Below w0.heap.size w0 w) (hl:oP Tb w0 lv gs) (h:At w0 13 x doc) (hok:bM doc) (hT:Tb w) :
  Calls Tryz.prog 348 #[lv,x] w fun e w'=>Below w.heap.size w w'/\∃ A m B er,e=.returned (.tuple #[.slice A m B,.int .i64 er])/\((zu gs doc=.inl er/\er≠0)\/(er=0/\∃ l xs,zu gs doc=.inr l/\l.length=gs.length/\VR w0 w.heap.size w' (.slice A m B) l xs)):=by
 refine (SK hL lv gs x doc w0 w hb0 hl h hok hT).mono ?_;rintro e w' ⟨hb,⟨er,h1,h2,rfl⟩ | ⟨l,v,xs,h1,h2,rfl,h3⟩⟩
 ·exact ⟨hb,none,0,0,er,rfl,.inl ⟨h1,h2⟩⟩
 ·obtain ⟨A,B,rfl⟩:=fq h3.row;exact ⟨hb,A,l.length,B,0,rfl,.inr ⟨rfl,l,xs,h1,h2,h3⟩⟩
theorem SN {Tb:World->Prop} (hV:bF Tb) (hL:aV Tb) (w0:World) (c:Nat) (nv lv:Value) (ks:List ByteArray) (gs:List (T->Int⊕T)) (made:List T) (doc:T) (x:Value) (w:World) (hb0:Below w0.heap.size w0 w) (hl:oP Tb w0 lv gs) (hk:bI w0 nv ks) (hkl:ks.length<=1000000)
  (hI:DT w0 c (fun o=>if o=1 then some nv else if o=2 then some lv else none) made w) (hm:made.length<=1000000) (h:At w0 13 x doc) (hok:bM doc) (hT:∀ w',Below w0.heap.size w w'->Tb w') :
  Calls Tryz.prog 351 #[.pointer (some ⟨c,0,none⟩),x] w (Ie (zV gs ks) made (DT w0 c (fun o=>if o=1 then some nv else if o=2 then some lv else none)) doc w0 w):=by
 obtain ⟨g1,La,Ka,Lc,Kc,hg1,hx,_,_,_⟩:=h.open;have hc:=hI.lo;have HB1:=ak (aY w (vC doc La Lc Ka Kc));have HX:=ak (aR w (.int .i64 (aj doc)) (.int .i64 (av doc)) (.string (ay doc)) (.slice La (nL doc) Lc) (.slice Ka (nK doc) Kc));have HIw:=ak hI;have HI1:=ak (hI.keep HB1.out);have HB0:=ak hb0;have HT:Hid (∀ w',Below w0.heap.size w w'->Tb w'):=hT;have HKs:=ak (And.intro hk hkl);have Hm:=ak hm;have HLo:=ak hl;obtain ⟨EA,ec,hlv,hgn,_⟩:=hl;obtain ⟨NA,nc,hnv,hnn,_⟩:=hk;have Hgn:=ak hgn
 have Hlw:Hid (∀ wx,DT w0 c (fun o=>if o=1 then some nv else if o=2 then some lv else none) made wx->wx.cell? ⟨c,2,none⟩=some lv/\wx.cell? ⟨c,1,none⟩=some nv):=fun wx hh=>by
  obtain ⟨_,_,_,_,_,_,_,h5⟩:=hh;exact ⟨by have:=h5 2 (by omega);simpa using this,by have:=h5 1 (by omega);simpa using this⟩
 have QD:Hid (∀ w5:World,Below (w.alloc (vC doc La Lc Ka Kc)).heap.size (w.alloc (vC doc La Lc Ka Kc)) w5->(w5.cell? ⟨c,2,none⟩=some lv/\w5.cell? ⟨c,1,none⟩=some nv/\w5.cell? ⟨w.heap.size,0,none⟩=some (.int .i64 (aj doc))/\w5.cell? ⟨w.heap.size,1,none⟩=some (.int .i64 (av doc))/\w5.cell? ⟨w.heap.size,2,none⟩=some (.string (ay doc))/\w5.cell? ⟨w.heap.size,3,none⟩=some (.slice La (nL doc) Lc)/\w5.cell? ⟨w.heap.size,4,none⟩=some (.slice Ka (nK doc) Kc))):=fun w5 hh=>by
  have h1:=Hlw.out w5 (HI1.out.keep hh);have h2:=HX.out.stay hh;exact ⟨h1.1,h1.2,h2.q0,h2.q1,h2.q2,h2.q3,h2.q4⟩
 have qy:=ak (QD.out _ (au _));have HEx:Hid (∀ w5:World,Below w.heap.size w w5->Calls Tryz.prog 348 #[lv,x] w5 fun e w'=>Below w5.heap.size w5 w'/\∃ A m B er,e=.returned (.tuple #[.slice A m B,.int .i64 er])/\((zu gs doc=.inl er/\er≠0)\/(er=0/\∃ l xs,zu gs doc=.inr l/\l.length=gs.length/\VR w0 w5.heap.size w' (.slice A m B) l xs))):=fun w5 hh=>SL hL lv gs x doc w0 w5 (hb0.trans (hh.mono hb0.size)) HLo.out h hok (hT w5 (hh.mono hb0.size));have HEm:Hid (∀ (w1 w2:World) (f:Nat) (t:T) (A C:Option Addr) (B D:Nat),DT w0 c (fun o=>if o=1 then some nv else if o=2 then some lv else none) made w1->Below w1.heap.size w1 w2->qc (fun b=>b<w0.heap.size\/w1.heap.size<=b) w2 f (.agg #[.int .i64 (aj t),.int .i64 (av t),.string (ay t),.slice A (nL t) B,.slice C (nK t) D]) t->Tb w2->Calls Tryz.prog 352 #[.pointer (some ⟨c,0,none⟩),.agg #[.int .i64 (aj t),.int .i64 (av t),.string (ay t),.slice A (nL t) B,.slice C (nK t) D]] w2 fun e w'=>Below w0.heap.size w2 w'/\(∀ o,o≠0->w'.cell? ⟨c,o,none⟩=(fun o=>if o=1 then some nv else if o=2 then some lv else none) o)/\∃ er:Int,e=.returned (.int .i64 er)/\((bR t=true/\er=15)\/(bR t=false/\er=0/\DT w0 c (fun o=>if o=1 then some nv else if o=2 then some lv else none) (made++[t]) w'))):=fun w1 w2 f t A C B D h1 h2 h3 h4=>Zz hV hL w0 w1 w2 c f _ made t A C B D h1 h2 Hm.out h3 h4;have c2:=(Hlw.out _ HI1.out).1;have c1:=(Hlw.out _ HI1.out).2;subst hx;subst hnv;subst hlv
 clear hI hb0 hT h hok hV hL hm hkl hg1 hgn hnn;go_in;go_wp2_with fail;go_region_held3 (fun wx=>wx.cell? ⟨c,2,none⟩=some (.slice EA gs.length ec)/\wx.cell? ⟨c,1,none⟩=some (.slice NA ks.length nc)/\wx.cell? ⟨w.heap.size,0,none⟩=some (.int .i64 (aj doc))/\wx.cell? ⟨w.heap.size,1,none⟩=some (.int .i64 (av doc))/\wx.cell? ⟨w.heap.size,2,none⟩=some (.string (ay doc))/\wx.cell? ⟨w.heap.size,3,none⟩=some (.slice La (nL doc) Lc)/\wx.cell? ⟨w.heap.size,4,none⟩=some (.slice Ka (nK doc) Kc)) (first | exact uV | exact qy.out) ((go_at_call 348;refine (HEx.out _ (HB1.out.trans ((au _).mono HB1.out.size))).mono ?_;rintro e5 w5 ⟨hb5,A5,m5,B5,er5,rfl,h5⟩;have uV:=QD.out _ ((au _).trans hb5)));have HI5:=ak (HI1.out.keep ((au _).trans hb5));have eF:=ak (HB1.out.trans (((au _).trans hb5).mono HB1.out.size));have jV:=ak (HX.out.stay ((au _).trans hb5));rcases h5 with ⟨h5,hne⟩ | ⟨rfl,l,xs,h5,h6,h7⟩
 ·have ez:(er5==0)=false:=by simpa using hne
  have HF:Hid (zV gs ks made doc=.inl er5/\er5≠0):=⟨by unfold zV;rw [h5],hne⟩;have ah5:=ak HB0.out.size;clear uV hb5 h5 hne QD qy HEx HEm c1 c2;go_wp2_with fail;go_ret;exact ⟨eF.out.mono ah5.out,.inl ⟨er5,HF.out.1,HF.out.2,rfl⟩⟩
 ·have hl6:l.length<=1000000:=by have:=Hgn.out;omega
  have hbw:Below w0.heap.size w0 w5:=HB0.out.trans (eF.out.mono HB0.out.size);obtain ⟨A,B,C,D,e1,e2,hat⟩:=acs h7 hbw HKs.out.1 hl6;simp only [Value.slice.injEq] at e1 e2;obtain ⟨rfl,rfl,rfl⟩:=e1;obtain ⟨rfl,_,rfl⟩:=e2;have hsz:w.heap.size<=(w.alloc (vC doc La Lc Ka Kc)).drew.heap.size:=by show w.heap.size<=(w.alloc _).heap.size;simp
  have KD:qc (fun b=>b<w0.heap.size\/w.heap.size<=b) w5.drew 14 (.agg #[.int .i64 6,.int .i64 0,.string ⟨#[]⟩,.slice A5 l.length B5,.slice NA ks.length nc]) (aO 6 0 ByteArray.empty l ks):=qc.move (Nat.le_refl _) (fun b hb hp=>⟨Or.imp id (fun hh=>Nat.le_trans hsz hh) hp,rfl⟩) hat
  have HC:Hid (Calls Tryz.prog 352 #[.pointer (some ⟨c,0,none⟩),.agg #[.int .i64 6,.int .i64 0,.string ⟨#[]⟩,.slice A5 l.length B5,.slice NA ks.length nc]] w5.drew fun e w'=>Below w0.heap.size w5.drew w'/\w'.cell? ⟨c,1,none⟩=some (.slice NA ks.length nc)/\∃ er:Int,e=.returned (.int .i64 er)/\Hid (Below w0.heap.size w5 w'/\((bR (aO 6 0 ByteArray.empty l ks)=true/\er=15)\/(bR (aO 6 0 ByteArray.empty l ks)=false/\er=0/\DT w0 c (fun o=>if o=1 then some (.slice NA ks.length nc) else if o=2 then some (.slice EA gs.length ec) else none) (made++[aO 6 0 ByteArray.empty l ks]) w')))):=by
   have h8:=HEm.out w w5.drew 14 (aO 6 0 ByteArray.empty l ks) A5 NA B5 nc HIw.out (eF.out.trans ((au w5).mono eF.out.size)) (by simp only [bg,eP,gu,aN,eY];exact KD) (HT.out _ ((eF.out.mono HB0.out.size).trans ((au w5).mono hbw.size)));simp only [bg,eP,gu,aN,eY] at h8;refine h8.mono ?_;rintro e w' ⟨b1,b2,er,rfl,b3⟩;exact ⟨b1,by have:=b2 1 (by omega);simpa using this,er,rfl,((au w5).mono hbw.size).trans b1,b3⟩
  have HR:Hid (zV gs ks made doc=if bR (aO 6 0 ByteArray.empty l ks) then .inl 15 else .inr (made++[aO 6 0 ByteArray.empty l ks])):=by show _=_;unfold zV;rw [h5]
  have wO:=ak (eF.out.mono HB0.out.size);have c15:=(Hlw.out _ HI5.out).2;have IW:Hid (w5.drew.cell? ⟨c,1,none⟩=some (.slice NA ks.length nc)):=c15;clear uV hb5 h5 h6 h7 hat KD hbw hl6 hsz QD qy HEx HEm c1 c2 HI1 HI5 HIw HX jV HLo HKs Hgn Hlw;go_wp2_with fail;go_region_held3 (fun wx=>wx.cell? ⟨c,1,none⟩=some (.slice NA ks.length nc)) (first | exact hc9 | exact IW.out) ((go_at_call 352;refine HC.out.mono ?_;rintro e9 w9 ⟨_,hc9,er9,rfl,h9⟩));clear hc9;go_wp2_with fail;go_ret;refine ⟨wO.out.trans h9.out.1,?_⟩;rcases h9.out.2 with ⟨h10,rfl⟩ | ⟨h10,rfl,h11⟩
  ·exact .inl ⟨15,by rw [HR.out,h10];rfl,by omega,rfl⟩
  ·exact .inr ⟨_,by rw [HR.out,h10];rfl,rfl,h11⟩
theorem Oh {w w':World} {base g n cap:Nat} {e:TypeId} {s:Nat} {xs:List Value} (h:w.ownsRow base e s (.slice (some ⟨g,0,none⟩) n cap) n xs) (hg:w'.heap[g]?=w.heap[g]?):w'.ownsRow base e s (.slice (some ⟨g,0,none⟩) n cap) n xs:=by
 refine ⟨h.1,?_⟩;rcases h.2 with ⟨h1,_⟩ | ⟨g',cap',cur,h1,h2,h3,h4⟩
 ·cases h1
 ·cases h1;exact .inr ⟨g,cap,cur,rfl,h2,hg.trans h3,h4⟩
theorem WO {w:World} {base g n cap:Nat} {e:TypeId} {s:Nat} {xs:List Value} (h:w.ownsRow base e s (.slice (some ⟨g,0,none⟩) n cap) n xs) (j:Nat):w.frozen? ⟨g,j,none⟩=false:=by
 rcases h.2 with ⟨h1,_⟩ | ⟨g',cap',cur,h1,h2,h3,h4⟩
 ·cases h1
 ·cases h1;exact frozen_of_row _ g j _ _ h3
theorem Oi {w:World} {lo g n cap:Nat} {xs:List Value} (h:w.ownsRow lo 25 5 (.slice (some ⟨g,0,none⟩) n cap) n xs) {k:Nat} (hk:k<n) {u0 u1 u2 u3 u4:Value} (hf:fv xs k=.agg #[u0,u1,u2,u3,u4]) :
  w.cell? ⟨g,k*5,none⟩=some u0/\w.cell? ⟨g,k*5+1,none⟩=some u1/\w.cell? ⟨g,k*5+2,none⟩=some u2/\w.cell? ⟨g,k*5+3,none⟩=some u3/\w.cell? ⟨g,k*5+4,none⟩=some u4:=by
 have hx:xs.length=n*5:=h.1;unfold fv at hf;simp only [Value.agg.injEq,Array.mk.injEq,List.cons.injEq,and_true] at hf;have hc:∀ r,r<5->w.cell? ⟨g,k*5+r,none⟩=some (cx xs (k*5+r)):=fun r hr'=>aX h (dR (by omega));refine ⟨?_,?_,?_,?_,?_⟩
 ·rw [<- hf.1];exact hc 0 (by omega)
 ·rw [<- hf.2.1];exact hc 1 (by omega)
 ·rw [<- hf.2.2.1];exact hc 2 (by omega)
 ·rw [<- hf.2.2.2.1];exact hc 3 (by omega)
 ·rw [<- hf.2.2.2.2];exact hc 4 (by omega)
theorem ZA {w W:World} (h:Below w.heap.size w W) {b:Nat} (hb:w.heap.size<=b) (o:Nat) (u:Value):Below w.heap.size w (W.setCell ⟨b,o,none⟩ u):=by
 obtain ⟨t1,t2,t3,t4⟩:=gT W ⟨b,o,none⟩ u;exact ⟨t2.trans h.os,t3.trans h.tape,t4.trans h.output,by rw [t1];exact h.size,fun k hk=>(Below.heap_setCell _ _ _ _ (by simp;omega)).trans (h.block k hk)⟩
theorem pW (W:World) (a:Addr) (u:Value):(W.setCell a u).heap.size=W.heap.size:=(gT W a u).1
end Go.Proofs.YtknakfpciccoaaaGreatDoor
