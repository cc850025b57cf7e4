import Derived.Test.YtknakfpciccoaaaGreatDoorZC37
/- The documents of the laws, through stages: what each is; how long the texts of their entries are together. -/
namespace Go.Proofs.YtknakfpciccoaaaGreatDoor
open Go.RowKit
def kOk (ks:List ByteArray):Prop:=ks=[jv,iJ,gJ]\/ks=[jv,iJ]\/ks=[iJ,gJ]
structure Dk (d:T):Prop where
 sh:∃ vs ks,d=aO 6 0 ByteArray.empty vs ks/\vs.length=ks.length/\kOk ks/\∀ v ∈ vs,rG 12 v/\bH 11 v=v
 small:bR d=false
theorem Dk.Di {d:T} (h:Dk d):Di d=true:=by
 have:=h.small;unfold bR at this;rw [Bool.or_eq_false_iff] at this;simpa using this.1
theorem Dk.good {d:T} (h:Dk d):dD 12 d:=((nI d).1 h.Di).1
theorem Dk.val {d:T} (h:Dk d) {i:Nat} (hi:i<nL d):Vf (elt d i):=by
 have hg:=ni h.good hi;obtain ⟨vs,ks,rfl,hl,hk,hv⟩:=h.sh;obtain ⟨h1,h2⟩:=hv _ (Gj hi);exact ⟨h1,h2,hg⟩
theorem Dk.path {d:T} (h:Dk d) (x:ByteArray) (p:List ByteArray):Vf (aA (x::p) d)/\jE (aA (x::p) d)<=jE (aA [x] d):=by
 unfold aA;rw [j6,j6];cases hp:M4 x d with
 | none=>exact ⟨CV.1,Nat.le_refl _⟩
 | some k=>exact Vf.path p (h.val (M5 hp (CU h.good)))
theorem aah {ks:List ByteArray} (h:kOk ks):ks.length=3\/ks.length=2:=by
 rcases h with rfl | rfl | rfl
 ·exact .inl rfl
 ·exact .inr rfl
 ·exact .inr rfl
theorem Dk.fit {d:T} (h:Dk d):rG 13 d:=by
 have h0:=h;obtain ⟨vs,ks,rfl,hl,hk,hv⟩:=h.sh;have hn:=aah hk;refine ⟨gH (by omega) (by omega) _ _ (by omega) (by omega),fun i hi=>(h0.val hi).fit,fun i hi=>?_⟩;rw [rY];rcases hk with rfl | rfl | rfl<;>rw [eY] at hi
 all_goals
  obtain rfl | rfl | rfl:i=0\/i=1\/i=2:=by simp at hi;omega
  all_goals decide
theorem Dk.can {d:T} (h:Dk d):bH 12 d=d:=by
 obtain ⟨vs,ks,rfl,hl,hk,hv⟩:=h.sh
 have:vs.map (bH 11)=vs:=by
  conv=>rhs;rw [<- List.map_id vs]
  exact List.map_congr_left fun x hx=>(hv x hx).2
 show aO 6 0 ByteArray.empty (vs.map (bH 11)) (jZ (aO 6 0 ByteArray.empty vs ks))=_;rw [this,qg]
theorem wr3 (a b c:T):(bL 12 (aO 6 0 ByteArray.empty [a,b,c] [jv,iJ,gJ])).length=(bL 11 a).length+(bL 11 b).length+(bL 11 c).length+18:=by
 have e:bL 12 (aO 6 0 ByteArray.empty [a,b,c] [jv,iJ,gJ])=123::(((([]++([]++(cO ⟨#[95,105,100]⟩++(58::bL 11 a))))++([44]++(cO ⟨#[97]⟩++(58::bL 11 b))))++([44]++(cO ⟨#[99]⟩++(58::bL 11 c))))++[125]):=rfl;rw [e,qId,qA,qC];simp only [List.length_cons,List.length_append,List.length_nil];omega
theorem wr2 (a b:T) {x y:ByteArray} {n m:Nat} (hx:(cO x).length=n) (hy:(cO y).length=m):(bL 12 (aO 6 0 ByteArray.empty [a,b] [x,y])).length=(bL 11 a).length+(bL 11 b).length+n+m+5:=by
 have e:bL 12 (aO 6 0 ByteArray.empty [a,b] [x,y])=123::((([]++([]++(cO x++(58::bL 11 a))))++([44]++(cO y++(58::bL 11 b))))++[125]):=rfl;rw [e];simp only [List.length_cons,List.length_append,List.length_nil,hx,hy];omega
theorem LY (a b c:T):aA [jv] (aO 6 0 ByteArray.empty [a,b,c] [jv,iJ,gJ])=a/\aA [iJ] (aO 6 0 ByteArray.empty [a,b,c] [jv,iJ,gJ])=b/\aA [gJ] (aO 6 0 ByteArray.empty [a,b,c] [jv,iJ,gJ])=c:=⟨by kernel_rfl,by kernel_rfl,by kernel_rfl⟩
theorem af4 (a b:T):aA [jv] (aO 6 0 ByteArray.empty [a,b] [jv,iJ])=a/\aA [iJ] (aO 6 0 ByteArray.empty [a,b] [jv,iJ])=b/\aA [gJ] (aO 6 0 ByteArray.empty [a,b] [jv,iJ])=q8:=⟨by kernel_rfl,by kernel_rfl,by kernel_rfl⟩
theorem QU (a b:T):aA [jv] (aO 6 0 ByteArray.empty [a,b] [iJ,gJ])=q8/\aA [iJ] (aO 6 0 ByteArray.empty [a,b] [iJ,gJ])=a/\aA [gJ] (aO 6 0 ByteArray.empty [a,b] [iJ,gJ])=b:=⟨by kernel_rfl,by kernel_rfl,by kernel_rfl⟩
theorem Dk.len {d:T} (h:Dk d):(bL 12 d).length<=jE (aA [jv] d)+jE (aA [iJ] d)+jE (aA [gJ] d)+20:=by
 obtain ⟨vs,ks,rfl,hl,hk,hv⟩:=h.sh;rcases hk with rfl | rfl | rfl
 ·match vs,hl with
  | [a,b,c],_ =>
   obtain ⟨e1,e2,e3⟩:=LY a b c;rw [e1,e2,e3,wr3];have:=qP a;have:=qP b;have:=qP c;omega
 ·match vs,hl with
  | [a,b],_ =>
   obtain ⟨e1,e2,e3⟩:=af4 a b;rw [e1,e2,e3,wr2 a b (n:=5) (m:=3) (by kernel_rfl) (by kernel_rfl)];have:=qP a;have:=qP b;omega
 ·match vs,hl with
  | [a,b],_ =>
   obtain ⟨e1,e2,e3⟩:=QU a b;rw [e1,e2,e3,wr2 a b (n:=3) (m:=3) (by kernel_rfl) (by kernel_rfl)];have:=qP a;have:=qP b;omega
def CW (x:ByteArray) (l:List T):Nat:=(l.map fun d=>jE (aA [x] d)).sum
structure jF (B:Nat) (l:List T):Prop where
 len:l.length<=30
 doc:∀ d ∈ l,Dk d
 sum:∀ x,x=jv\/x=iJ\/x=gJ->CW x l<=B
theorem AJ {α:Type} {f:α->Nat}:∀ {l:List α} {x:α},x ∈ l->f x<=(l.map f).sum
 | y::l,x,h=>by
  rw [List.map_cons,List.sum_cons];rcases List.mem_cons.1 h with rfl | h
  ·omega
  ·have:=AJ (f:=f) h;omega
theorem tN {α:Type} {f g:α->Nat}:∀ {l:List α},(∀ x ∈ l,f x<=g x)->(l.map f).sum<=(l.map g).sum
 | [],_=>Nat.le_refl _
 | x::l,h=>by
  rw [List.map_cons,List.map_cons,List.sum_cons,List.sum_cons];have:=h x (List.mem_cons_self ..);have:=tN (l:=l) fun y hy=>h y (List.mem_cons_of_mem _ hy);omega
theorem uD {α:Type} (c:Nat):∀ l:List α,(l.map fun _=>c).sum=c*l.length
 | []=>rfl
 | x::l=>by rw [List.map_cons,List.sum_cons,uD c l,List.length_cons,Nat.mul_add];omega
theorem CX {α:Type} (f:α->Nat) (c:Nat):∀ l:List α,(l.map fun x=>f x+c).sum=(l.map f).sum+c*l.length
 | []=>rfl
 | x::l=>by rw [List.map_cons,List.sum_cons,CX f c l,List.map_cons,List.sum_cons,List.length_cons,Nat.mul_add];omega
theorem aai {α:Type} {f:α->Nat} {l' l:List α} (h:l'.Sublist l):(l'.map f).sum<=(l.map f).sum:=by
 induction h with
 | slnil=>exact Nat.le_refl _
 | cons a _ ih=>rw [List.map_cons,List.sum_cons];omega
 | cons_cons a _ ih=>rw [List.map_cons,List.sum_cons,List.map_cons,List.sum_cons];omega
theorem jF.sub {B:Nat} {l l':List T} (h:jF B l) (hs:l'.Sublist l):jF B l' :=
 ⟨Nat.le_trans hs.length_le h.len,fun d hd=>h.doc d (hs.subset hd),fun x hx=>Nat.le_trans (aai hs) (h.sum x hx)⟩
theorem jF.perm {B:Nat} {l l':List T} (h:jF B l) (hs:l'.Perm l):jF B l' :=
 ⟨by rw [hs.length_eq];exact h.len,fun d hd=>h.doc d (hs.subset hd),fun x hx=>by unfold CW;rw [(hs.map _).sum_nat];exact h.sum x hx⟩
theorem jF.mono {B C:Nat} {l:List T} (h:jF B l) (hc:B<=C):jF C l:=⟨h.len,h.doc,fun x hx=>Nat.le_trans (h.sum x hx) hc⟩
theorem jF.text {B:Nat} {l:List T} (h:jF B l) (hB:B<=1300) {d:T} (hd:d ∈ l):eJ (qY d)=0/\tJ (qY d)=d/\(qY d).size<=4000:=by
 have hk:=h.doc d hd;have h1:=Nat.le_trans (AJ (f:=fun d=>jE (aA [jv] d)) hd) (h.sum jv (.inl rfl));have h2:=Nat.le_trans (AJ (f:=fun d=>jE (aA [iJ] d)) hd) (h.sum iJ (.inr (.inl rfl)));have h3:=Nat.le_trans (AJ (f:=fun d=>jE (aA [gJ] d)) hd) (h.sum gJ (.inr (.inr rfl)));have hl:=hk.len;have hp:=vN hk.fit hk.good (by omega);have e:qY d=bP (bL 12 d):=by unfold qY;rw [hk.Di];rfl
 rw [e,hp.1,hp.2,hk.can];exact ⟨rfl,rfl,by rw [fU];omega⟩
theorem aiR {n:Int} (h0:0<=n) (h1:n<30):Vf (nT n)/\jE (nT n)<=10:=by
 have h:=qI h0 h1 10;refine ⟨⟨h.fit,h.can,h.good⟩,Pe (by omega) ?_⟩;rw [<- h.wr];have:=h.size;simpa using this
theorem X5 {l:List T} (h:mY l) (hl:l.length<=30):jF 300 l:=by
 have hd:∀ d ∈ l,Dk d/\jE (aA [jv] d)<=10/\jE (aA [iJ] d)<=10/\jE (aA [gJ] d)<=10:=by
  intro d hd;obtain ⟨k,hk,rfl⟩:=List.getElem_of_mem hd;obtain ⟨i,o,hi,ho,e⟩:=h k hk;have hn:=aiR (n:=(k:Int)) (by omega) (by omega);have ha:=ady hi;have hsm:=Ck (id:=(k:Int)) hi ho;rw [e];cases o with
  | none =>
   obtain ⟨e1,e2,e3⟩:=af4 (nT (k:Int)) (tv i);have q:iH (k:Int) i none=aO 6 0 ByteArray.empty [nT (k:Int),tv i] [jv,iJ]:=rfl;refine ⟨⟨⟨_,_,q,rfl,.inr (.inl rfl),fun v hv=>?_⟩,hsm⟩,?_,?_,?_⟩
   ·rcases List.mem_cons.1 hv with rfl | hv
    ·exact ⟨hn.1.fit,hn.1.can⟩
    ·rw [List.mem_singleton.1 hv];exact ⟨ha.1.fit,ha.1.can⟩
   ·rw [q,e1];exact hn.2
   ·rw [q,e2];exact ha.2
   ·rw [q,e3,CV.2];omega
  | some j =>
   obtain ⟨e1,e2,e3⟩:=LY (nT (k:Int)) (tv i) (tv j);have hc:=ady (ho j rfl);have q:iH (k:Int) i (some j)=aO 6 0 ByteArray.empty [nT (k:Int),tv i,tv j] [jv,iJ,gJ]:=rfl;refine ⟨⟨⟨_,_,q,rfl,.inl rfl,fun v hv=>?_⟩,hsm⟩,?_,?_,?_⟩
   ·rcases List.mem_cons.1 hv with rfl | hv
    ·exact ⟨hn.1.fit,hn.1.can⟩
    ·rcases List.mem_cons.1 hv with rfl | hv
     ·exact ⟨ha.1.fit,ha.1.can⟩
     ·rw [List.mem_singleton.1 hv];exact ⟨hc.1.fit,hc.1.can⟩
   ·rw [q,e1];exact hn.2
   ·rw [q,e2];exact ha.2
   ·rw [q,e3];exact hc.2
 refine ⟨hl,fun d h=>(hd d h).1,fun x hx=>?_⟩
 have:CW x l<=(l.map fun _=>10).sum:=tN fun d h=>by
  obtain ⟨_,h1,h2,h3⟩:=hd d h;rcases hx with rfl | rfl | rfl<;>assumption
 rw [uD] at this;omega
theorem qQ (l:List T) (i j:Nat):(gq l i j).Perm l:=by
 unfold gq;split
 ·rename_i h;have:((l.set i l[j]).set j l[i]).Perm l:=List.set_set_perm h.1 h.2;rw [List.getD_eq_getElem?_getD,List.getD_eq_getElem?_getD,List.getElem?_eq_getElem h.1,List.getElem?_eq_getElem h.2];exact this
 ·exact List.Perm.refl _
theorem CY (c:T->T->Int) (a:Nat):∀ (j:Nat) (l:List T),(oz c a j l).Perm l
 | 0,l=>List.Perm.refl _
 | j+1,l=>by
  rw [oz];split
  ·exact (CY c a j _).trans (qQ _ _ _)
  ·exact List.Perm.refl _
theorem yQ (c:T->T->Int) (a:Nat):∀ (k i:Nat) (l:List T),(rO c a k i l).Perm l
 | 0,_,_=>List.Perm.refl _
 | k+1,i,l=>(yQ c a k (i+1) _).trans (CY c a i l)
theorem xK (a b:Nat):∀ (k i:Nat) (l:List T),(OB a b k i l).Perm l
 | 0,_,_=>List.Perm.refl _
 | k+1,i,_=>(xK a b k (i+1) _).trans (qQ _ _ _)
theorem yR (m:Nat):∀ (f i j:Nat) (l:List T),(rP m f i j l).Perm l
 | 0,_,_,_=>List.Perm.refl _
 | f+1,i,j,l=>by
  rw [rP];split
  ·exact xK _ _ _ _ _
  ·split
   ·exact (yR m f _ _ _).trans (xK _ _ _ _ _)
   ·exact (yR m f _ _ _).trans (xK _ _ _ _ _)
theorem LZ:∀ (k i:Nat) (l:List T),(TY k i l).Perm l
 | 0,_,_=>List.Perm.refl _
 | k+1,i,_=>(LZ k (i+1) _).trans (qQ _ _ _)
theorem L6:∀ (k i:Nat) (l:List T),(T9 k i l).Perm l
 | 0,_,_=>List.Perm.refl _
 | k+1,i,_=>(L6 k (i - 1) _).trans (qQ _ _ _)
theorem FW {S:Nat->Nat->Nat->List T->List T} (h:∀ a m b l,(S a m b l).Perm l) (a m b:Nat) (l:List T):(Lm S a m b l).Perm l:=by
 unfold Lm;split
 ·exact h a m b l
 ·exact List.Perm.refl _
theorem uE (c:T->T->Int):∀ (f a m b:Nat) (l:List T),(lC c f a m b l).Perm l
 | 0,_,_,_,_=>List.Perm.refl _
 | f+1,a,m,b,l=>by
  rw [lC];dsimp only;split
  ·exact LZ _ _ _
  ·split
   ·exact L6 _ _ _
   ·refine (FW (uE c f) _ _ _ _).trans ((FW (uE c f) _ _ _ _).trans ?_);unfold Td;split
    ·exact yR _ _ _ _ _
    ·exact List.Perm.refl _
theorem FX (c:T->T->Int) (n:Nat):∀ (f a b:Nat) (l:List T),(zX c n f a b l).Perm l
 | 0,_,_,_=>List.Perm.refl _
 | f+1,a,b,l=>by
  rw [zX];split
  ·exact (FX c n f _ _ _).trans (yQ c _ _ _ _)
  ·exact yQ c _ _ _ _
theorem FY (c:T->T->Int) (n s:Nat):∀ (f a b:Nat) (l:List T),(zY c n s f a b l).Perm l
 | 0,_,_,_=>List.Perm.refl _
 | f+1,a,b,l=>by
  rw [zY];split
  ·exact (FY c n s f _ _ _).trans (uE c _ _ _ _ _)
  ·split
   ·exact uE c _ _ _ _ _
   ·exact List.Perm.refl _
theorem FZ (c:T->T->Int) (n:Nat):∀ (f s:Nat) (l:List T),(pY c n f s l).Perm l
 | 0,_,_=>List.Perm.refl _
 | f+1,s,l=>by
  rw [pY];split
  ·exact (FZ c n f _ _).trans (FY c n s _ _ _ _)
  ·exact List.Perm.refl _
theorem Pf (c:T->T->Int) (n:Nat) (l:List T):(tC c n l).Perm l:=(FZ c n _ _ _).trans (FX c n _ _ _ _)
theorem CZ {gs:List (T->Int⊕T)} {ks:List ByteArray} {f:T->List T}:∀ (l:List T) (k:Nat) (s:List T),(∀ d ∈ l,zu gs d=.inr (f d)) ->
  (∃ i,dM (zV gs ks) l k s=.inl (i,15))\/(dM (zV gs ks) l k s=.inr (s++l.map fun d=>aO 6 0 ByteArray.empty (f d) ks)/\∀ d ∈ l,bR (aO 6 0 ByteArray.empty (f d) ks)=false)
 | [],k,s,_=>.inr ⟨by rw [dM,List.map_nil,List.append_nil],fun d h=>by cases h⟩
 | d::l,k,s,h=>by
  rw [dM,zV,h d (List.mem_cons_self ..)];dsimp only;cases hb:bR (aO 6 0 ByteArray.empty (f d) ks) with
  | true=>exact .inl ⟨k,rfl⟩
  | false =>
   rcases CZ l (k+1) (s++[aO 6 0 ByteArray.empty (f d) ks]) (fun x hx=>h x (List.mem_cons_of_mem _ hx)) with ⟨i,h1⟩ | ⟨h1,h2⟩
   ·exact .inl ⟨i,h1⟩
   ·refine .inr ⟨?_,fun x hx=>?_⟩
    ·rw [if_neg (by simp)];simp only [h1,List.append_assoc,List.map_cons,List.cons_append,List.nil_append]
    ·rcases List.mem_cons.1 hx with rfl | hx
     ·exact hb
     ·exact h2 x hx
theorem uF {l:List T} {F:T->T} {x:ByteArray} {g:T->Nat} (h:∀ d ∈ l,jE (aA [x] (F d))<=g d):CW x (l.map F)<=(l.map g).sum:=by
 unfold CW;rw [List.map_map];exact tN h
theorem TL {k:Nat} (hk:k<6):∃ x p,rT k=x::p/\(x=jv\/x=iJ\/x=gJ):=by
 match k,hk with
 | 0,_=>exact ⟨iJ,[],rfl,.inr (.inl rfl)⟩
 | 1,_=>exact ⟨gJ,[],rfl,.inr (.inr rfl)⟩
 | 2,_=>exact ⟨iJ,[stB],rfl,.inr (.inl rfl)⟩
 | 3,_=>exact ⟨iJ,[st1],rfl,.inr (.inl rfl)⟩
 | 4,_=>exact ⟨jv,[],rfl,.inl rfl⟩
 | 5,_=>exact ⟨gJ,[st0],rfl,.inr (.inr rfl)⟩
theorem jF.at {B:Nat} {l:List T} (h:jF B l) {k:Nat} (hk:k<6):(∀ d ∈ l,Vf (aA (rT k) d))/\(l.map fun d=>jE (aA (rT k) d)).sum<=B:=by
 obtain ⟨x,p,e,hx⟩:=TL hk;rw [e];exact ⟨fun d hd=>((h.doc d hd).path x p).1,Nat.le_trans (tN fun d hd=>((h.doc d hd).path x p).2) (h.sum x hx)⟩
theorem X6 {a b:T} (ha:Vf a) (hb:Vf b):∀ v ∈ [a,b],rG 12 v/\bH 11 v=v:=fun v hv=>by
 rcases List.mem_cons.1 hv with rfl | hv
 ·exact ⟨ha.fit,ha.can⟩
 ·rw [List.mem_singleton.1 hv];exact ⟨hb.fit,hb.can⟩
theorem L8 {a b c:T} (ha:Vf a) (hb:Vf b) (hc:Vf c):∀ v ∈ [a,b,c],rG 12 v/\bH 11 v=v:=fun v hv=>by
 rcases List.mem_cons.1 hv with rfl | hv
 ·exact ⟨ha.fit,ha.can⟩
 ·exact X6 hb hc v hv
theorem jF.fld {B:Nat} {l:List T} (h:jF B l) (x:ByteArray) {d:T} (hd:d ∈ l):Vf (aA [x] d):=((h.doc d hd).path x []).1
theorem aaj {B:Nat} {l:List T} (h:jF B l) (hB:300<=B) {k:Nat} (hk:k<6) {j:Nat} (hj:j<36) :
  (∃ i,DU [idE,fun x=>.inr (aA (rT k) x),fun _=>.inr (tv j)] [jv,iJ,gJ] l=.inl (i,15))\/∃ r,DU [idE,fun x=>.inr (aA (rT k) x),fun _=>.inr (tv j)] [jv,iJ,gJ] l=.inr r/\jF B r:=by
 have hp:=h.at hk;have ht:=ady hj;rcases CZ (gs:=[idE,fun x=>.inr (aA (rT k) x),fun _=>.inr (tv j)]) (ks:=[jv,iJ,gJ]) (f:=fun d=>[aA [jv] d,aA (rT k) d,tv j]) l 0 [] (fun d _=>rfl) with ⟨i,h1⟩ | ⟨h1,h2⟩
 ·exact .inl ⟨i,h1⟩
 ·rw [List.nil_append] at h1;refine .inr ⟨_,h1,by rw [List.length_map];exact h.len,fun d hd=>?_,fun x hx=>?_⟩
  ·obtain ⟨d,hm,rfl⟩:=List.mem_map.1 hd;exact ⟨⟨_,_,rfl,rfl,.inl rfl,L8 (h.fld jv hm) (hp.1 d hm) ht.1⟩,h2 d hm⟩
  ·rcases hx with rfl | rfl | rfl
   ·exact Nat.le_trans (uF fun d _=>by rw [(LY _ _ _).1];exact Nat.le_refl _) (h.sum jv (.inl rfl))
   ·exact Nat.le_trans (uF fun d _=>by rw [(LY _ _ _).2.1];exact Nat.le_refl _) hp.2
   ·have:=uF (l:=l) (F:=fun d=>aO 6 0 ByteArray.empty [aA [jv] d,aA (rT k) d,tv j] [jv,iJ,gJ]) (x:=gJ) (g:=fun _=>10) fun d _=>by rw [(LY _ _ _).2.2];exact ht.2
    rw [uD] at this;have:=h.len;omega
theorem aak {B:Nat} {l:List T} (h:jF B l) (hB:300<=B) (tf:T) :
  (∃ i,DU [xE tf aE (fun _=>.inr rU),cE] [iJ,gJ] l=.inl (i,15))\/∃ r,DU [xE tf aE (fun _=>.inr rU),cE] [iJ,gJ] l=.inr r/\jF (B+150) r:=by
 have hv:∀ d ∈ l,Vf (if gP 16 tf d=true then aA [iJ] d else rU)/\jE (if gP 16 tf d=true then aA [iJ] d else rU)<=jE (aA [iJ] d)+5:=fun d hd=>by
  split
  ·exact ⟨h.fld iJ hd,by omega⟩
  ·exact ⟨abh.1,by have:=abh.2;omega⟩
 rcases CZ (gs:=[xE tf aE (fun _=>.inr rU),cE]) (ks:=[iJ,gJ]) (f:=fun d=>[if gP 16 tf d=true then aA [iJ] d else rU,aA [gJ] d]) l 0 [] (fun d _=>by
   rw [zu,xE];by_cases hf:gP 16 tf d=true
   ·rw [if_pos hf,if_pos hf];rfl
   ·rw [if_neg hf,if_neg hf];rfl) with ⟨i,h1⟩ | ⟨h1,h2⟩
 ·exact .inl ⟨i,h1⟩
 ·rw [List.nil_append] at h1;refine .inr ⟨_,h1,by rw [List.length_map];exact h.len,fun d hd=>?_,fun x hx=>?_⟩
  ·obtain ⟨d,hm,rfl⟩:=List.mem_map.1 hd;exact ⟨⟨_,_,rfl,rfl,.inr (.inr rfl),X6 (hv d hm).1 (h.fld gJ hm)⟩,h2 d hm⟩
  ·have hn:=h.len;rcases hx with rfl | rfl | rfl
   ·have:=uF (l:=l) (F:=fun d=>aO 6 0 ByteArray.empty [if gP 16 tf d=true then aA [iJ] d else rU,aA [gJ] d] [iJ,gJ]) (x:=jv) (g:=fun _=>4) fun d _=>by rw [(QU _ _).1,CV.2];exact Nat.le_refl _
    rw [uD] at this;omega
   ·have:=uF (l:=l) (F:=fun d=>aO 6 0 ByteArray.empty [if gP 16 tf d=true then aA [iJ] d else rU,aA [gJ] d] [iJ,gJ]) (x:=iJ) (g:=fun d=>jE (aA [iJ] d)+5) fun d hd=>by rw [(QU _ _).2.1];exact (hv d hd).2
    rw [CX] at this;have hs:CW iJ l<=B:=h.sum iJ (.inr (.inl rfl));unfold CW at hs;omega
   ·have:=Nat.le_trans (uF (l:=l) (F:=fun d=>aO 6 0 ByteArray.empty [if gP 16 tf d=true then aA [iJ] d else rU,aA [gJ] d] [iJ,gJ]) (x:=gJ) (g:=fun d=>jE (aA [gJ] d)) fun d _=>by rw [(QU _ _).2.2];exact Nat.le_refl _) (h.sum gJ (.inr (.inr rfl)));omega
theorem L9:∀ (m:Nat) (t:T),dD m t->rG (m+2) t->rG (m+1) t
 | 0,_,h,hf=>⟨hf.1,fun i hi=>by have:=h.1;omega,hf.2.2⟩
 | m+1,_,h,hf=>⟨hf.1,fun i hi=>L9 m _ (ni h hi) (hf.2.1 i hi),hf.2.2⟩
theorem Md:∀ (m:Nat) (t:T),dD m t->bH (m+1) t=t->bH m t=t
 | 0,t,h,hc=>by
  have h1:lH t=[]:=List.length_eq_zero_iff.1 h.1;have h2:jZ t=[]:=List.length_eq_zero_iff.1 h.2.1;rw [bH,h1,h2] at hc;exact hc
 | m+1,t,h,hc=>by
  have h1:(lH t).map (bH m)=lH t:=by
   conv=>rhs;rw [<- List.map_id (lH t)]
   refine List.map_congr_left fun x hx=>?_;obtain ⟨i,hi,rfl⟩:=List.getElem_of_mem hx;have e:(lH t)[i]=elt t i:=by unfold elt;rw [List.getD_eq_getElem?_getD,List.getElem?_eq_getElem hi];rfl
   have hg:dD m (lH t)[i]:=by rw [e];exact ni h hi
   exact Md m _ hg (xJ hc _ hx)
  have h2:(lH t).map (bH (m+1))=lH t:=by
   conv=>rhs;rw [<- List.map_id (lH t)]
   exact List.map_congr_left fun x hx=>xJ hc x hx
  rw [bH,h1];rw [bH,h2] at hc;exact hc
theorem F3 (g:T->List UInt8) (t:T):∀ n,(dL g t n).length<=((List.range n).map fun i=>(g (elt t i)).length+1).sum
 | 0=>Nat.le_refl _
 | n+1=>by
  rw [dL,List.length_append,List.length_append,List.range_succ,List.map_append,List.sum_append];have:=F3 g t n;have:(if n=0 then ([]:List UInt8) else [44]).length<=1:=by split<;>simp
  simp only [List.map_cons,List.map_nil,List.sum_cons,List.sum_nil];omega
theorem TM {α β:Type} (l:List α) (z:α) (f:α->β):(List.range l.length).map (fun i=>f (l.getD i z))=l.map f:=by
 apply List.ext_getElem
 ·simp
 ·intro i h1 h2;have hi:i<l.length:=by simpa using h1
  simp [List.getD_eq_getElem?_getD,List.getElem?_eq_getElem hi]
theorem af6 {ids:List T} (hv:∀ x ∈ ids,Vf x) (hg:dD 11 (aO 5 0 ByteArray.empty ids [])) (hl:ids.length<=100):Vf (aO 5 0 ByteArray.empty ids [])/\jE (aO 5 0 ByteArray.empty ids [])<=(ids.map fun x=>jE x+1).sum+4:=by
 have hgi:∀ i,(h:i<ids.length)->dD 10 ids[i]/\elt (aO 5 0 ByteArray.empty ids []) i=ids[i]:=fun i h=>by
  have e:elt (aO 5 0 ByteArray.empty ids []) i=ids[i]:=by
   show ids.getD i _=_;rw [List.getD_eq_getElem?_getD,List.getElem?_eq_getElem h];rfl
  exact ⟨by rw [<- e];exact ni hg h,e⟩
 have hgm:∀ x ∈ ids,dD 10 x:=fun x hx=>by
  obtain ⟨i,hi,rfl⟩:=List.getElem_of_mem hx;exact (hgi i hi).1
 refine ⟨⟨⟨gH (by omega) (by omega) _ _ hl (by simp),fun i hi=>?_,fun i hi=>absurd hi (Nat.not_lt_zero i)⟩,?_,hg⟩,Pe (by omega) ?_⟩
 ·have hi':i<ids.length:=hi;rw [(hgi i hi').2];exact L9 10 _ (hgi i hi').1 (hv _ (List.getElem_mem hi')).fit
 ·show aO 5 0 ByteArray.empty (ids.map (bH 10)) []=_
  have:ids.map (bH 10)=ids:=by
   conv=>rhs;rw [<- List.map_id ids]
   exact List.map_congr_left fun x hx=>Md 10 x (hgm x hx) (hv x hx).can
  rw [this]
 ·have e:bL 11 (aO 5 0 ByteArray.empty ids [])=91::(dL (bL 10) (aO 5 0 ByteArray.empty ids []) ids.length++[93]):=rfl;rw [e,List.length_cons,List.length_append];have h1:=F3 (bL 10) (aO 5 0 ByteArray.empty ids []) ids.length;have h2:((List.range ids.length).map fun i=>(bL 10 (elt (aO 5 0 ByteArray.empty ids []) i)).length+1)=ids.map fun x=>(bL 10 x).length+1:=TM ids .nil fun x=>(bL 10 x).length+1;rw [h2] at h1
  have h3:(ids.map fun x=>(bL 10 x).length+1).sum<=(ids.map fun x=>jE x+1).sum:=tN fun x hx=>by
   rw [<- X4 10 x (hgm x hx)];have:(bL (10+1) x).length<=jE x:=qP x;omega
  simp only [List.length_cons,List.length_nil];omega
def vE (p:T×List T×T):T×List T:=(p.1,[aO 5 0 ByteArray.empty p.2.1 [],p.2.2])
structure GrV (N A B C:Nat) (gs:List (T×List T×T)):Prop where
 len:gs.length<=N
 val:∀ p ∈ gs,Vf p.1/\(∀ x ∈ p.2.1,Vf x)/\Vf p.2.2/\p.2.1.length<=N
 s1:(gs.map fun p=>jE p.1).sum<=A
 s2:(gs.map fun p=>(p.2.1.map fun x=>jE x+1).sum+4).sum<=B
 s3:(gs.map fun p=>jE p.2.2).sum<=C
theorem GrV.eq {N A B C N' A' B' C':Nat} {gs:List (T×List T×T)} (h:GrV N A B C gs) (hN:N=N') (hA:A=A') (hB:B=B') (hC:C=C'):GrV N' A' B' C' gs:=by subst hN hA hB hC;exact h
theorem X7 (m:Int):xI m≠fD/\xI m≠Ir:=by
 rcases LX m with h | h | h | h<;>rw [h]<;>decide
theorem abj (m:Int) (doc l c:T):iI doc (Mx (xI m)) 0 [l,c]=.inr [aO 5 0 ByteArray.empty (lH l++[aA [jv] doc]) [],if aj c=0\/rQ (xI m) c (aA [gJ] doc)=true then aA [gJ] doc else c]:=by
 unfold Mx;rw [FN (x:=l) (t:=aO 5 0 ByteArray.empty (lH l++[aA [jv] doc]) []) (a':=[aO 5 0 ByteArray.empty (lH l++[aA [jv] doc]) [],c]) rfl (by unfold mX;rw [if_pos rfl];rfl) rfl];rw [FN (x:=c) (t:=if aj c=0\/rQ (xI m) c (aA [gJ] doc)=true then aA [gJ] doc else c) (a':=[aO 5 0 ByteArray.empty (lH l++[aA [jv] doc]) [],if aj c=0\/rQ (xI m) c (aA [gJ] doc)=true then aA [gJ] doc else c]) rfl ?_ rfl]
 ·rfl
 ·unfold mX;rw [if_neg (X7 m).1];show OI (xI m) c (aA [gJ] doc)=_;unfold OI;rw [if_neg (X7 m).2];split<;>rfl
theorem C8 {α:Type} (x:α) (f:α->α) (B:List α):∀ A:List α,(A++x::B).modify A.length f=A++f x::B
 | []=>rfl
 | a::r=>by
  have:=C8 x f B r;rw [List.cons_append,List.length_cons,List.modify_succ_cons,this];rfl
theorem AL {α:Type} (f:α->Nat) (A B:List α) (x:α):((A++x::B).map f).sum=(A.map f).sum+(f x+(B.map f).sum):=by
 rw [List.map_append,List.map_cons,List.sum_append,List.sum_cons]
theorem xL {α:Type} (f:α->Nat) (A:List α) (x:α):((A++[x]).map f).sum=(A.map f).sum+f x:=by
 rw [AL,List.map_nil,List.sum_nil];omega
theorem adA {gb:T->Int⊕T} (m:Int) {N A B C:Nat} {gs:List (T×List T×T)} (h:GrV N A B C gs) {doc b:T} (hb:gb doc=.inr b) (vb:Vf b) (vi:Vf (aA [jv] doc)) (vc:Vf (aA [gJ] doc)) :
  ∃ gs',p9 gb (Mx (xI m)) (gs.map vE) doc=.inr (gs'.map vE)/\GrV (N+1) (A+jE b) (B+(jE (aA [jv] doc)+5)) (C+jE (aA [gJ] doc)) gs':=by
 have hlen:(gs.map vE).length=gs.length:=List.length_map _
 have hold:∀ p ∈ gs,Vf p.1/\(∀ x ∈ p.2.1,Vf x)/\Vf p.2.2/\p.2.1.length<=N+1:=fun p hp=>by
  obtain ⟨h1,h2,h3,h4⟩:=h.val p hp;exact ⟨h1,h2,h3,by omega⟩
 obtain ⟨hn,hval,h1,h2,h3⟩:=h;by_cases hi:dS (gs.map vE) b<(gs.map vE).length
 ·obtain ⟨i,hie⟩:∃ i,dS (gs.map vE) b=i:=⟨_,rfl⟩;rw [hie,hlen] at hi;obtain ⟨X,p,Y,hgs,hX⟩:∃ X p Y,gs=X++p::Y/\X.length=i:=⟨gs.take i,gs[i],gs.drop (i+1),by rw [<- List.drop_eq_getElem_cons hi,List.take_append_drop],by rw [List.length_take];omega⟩;subst hgs;obtain ⟨p1,p2,p3⟩:=p;have hp:=hold (p1,p2,p3) (by simp)
  obtain ⟨c',hc',hcv,hcl⟩:∃ c',(if aj p3=0\/rQ (xI m) p3 (aA [gJ] doc)=true then aA [gJ] doc else p3)=c'/\Vf c'/\jE c'<=jE p3+jE (aA [gJ] doc):=by
   refine ⟨_,rfl,?_⟩;split
   ·exact ⟨vc,by omega⟩
   ·exact ⟨hp.2.2.1,by omega⟩
  refine ⟨X++(p1,p2++[aA [jv] doc],c')::Y,?_,?_,?_,?_,?_,?_⟩
  ·have hget:∀ (n:Nat) (hh:dS ((X++(p1,p2,p3)::Y).map vE) b<(eX n ((X++(p1,p2,p3)::Y).map vE) b).length),((eX n ((X++(p1,p2,p3)::Y).map vE) b)[dS ((X++(p1,p2,p3)::Y).map vE) b]'hh).2=[aO 5 0 ByteArray.empty p2 [],p3]:=by
    intro n hh;have e:eX n ((X++(p1,p2,p3)::Y).map vE) b=(X++(p1,p2,p3)::Y).map vE:=if_pos (by rw [hie,hlen];exact hi);simp only [e,hie,List.getElem_map,<- hX,List.getElem_append_right (Nat.le_refl _),Nat.sub_self,List.getElem_cons_zero];rfl
   have hg:eX (Mx (xI m)).length ((X++(p1,p2,p3)::Y).map vE) b=(X++(p1,p2,p3)::Y).map vE:=if_pos (by rw [hie,hlen];exact hi);unfold p9;rw [hb];dsimp only;rw [hget,abj,hc'];dsimp only;rw [hg,hie];unfold gX;rw [List.map_append,List.map_cons,show i=(X.map vE).length by rw [List.length_map];exact hX.symm,C8,List.map_append,List.map_cons];rfl
  ·simp only [List.length_append,List.length_cons] at hn ⊢;omega
  ·intro q hq;rw [List.mem_append,List.mem_cons] at hq;rcases hq with hq | rfl | hq
   ·exact hold q (by simp [hq])
   ·refine ⟨hp.1,fun x hx=>?_,hcv,?_⟩
    ·rw [List.mem_append,List.mem_singleton] at hx;rcases hx with hx | rfl
     ·exact hp.2.1 x hx
     ·exact vi
    ·have:=(hval (p1,p2,p3) (by simp)).2.2.2;simp only [List.length_append,List.length_cons,List.length_nil] at this ⊢;omega
   ·exact hold q (by simp [hq])
  ·rw [AL] at h1 ⊢;dsimp only at h1 ⊢;omega
  ·rw [AL] at h2 ⊢;dsimp only at h2 ⊢;rw [xL];omega
  ·rw [AL] at h3 ⊢;dsimp only at h3 ⊢;omega
 ·have hie:dS (gs.map vE) b=(gs.map vE).length:=by
   have:dS (gs.map vE) b<=(gs.map vE).length:=List.findIdx_le_length;omega
  refine ⟨gs++[(b,[aA [jv] doc],aA [gJ] doc)],?_,?_,?_,?_,?_,?_⟩
  ·have hg:eX (Mx (xI m)).length (gs.map vE) b=gs.map vE++[(b,[aM,aM])]:=LB hie
   have hget:∀ (hh:dS (gs.map vE) b<(eX (Mx (xI m)).length (gs.map vE) b).length),((eX (Mx (xI m)).length (gs.map vE) b)[dS (gs.map vE) b]'hh).2=[aM,aM]:=by
    intro hh;simp only [hg,hie,List.getElem_append_right (Nat.le_refl _),Nat.sub_self,List.getElem_cons_zero]
   unfold p9;rw [hb];dsimp only;rw [hget,abj,if_pos (.inl rfl)];dsimp only;rw [hg,hie];unfold gX;rw [zA,List.map_append];rfl
  ·simp only [List.length_append,List.length_cons,List.length_nil];omega
  ·intro q hq;rw [List.mem_append,List.mem_singleton] at hq;rcases hq with hq | rfl
   ·exact hold q hq
   ·exact ⟨vb,fun x hx=>by rw [List.mem_singleton.1 hx];exact vi,vc,by simp⟩
  ·rw [xL];dsimp only;omega
  ·rw [xL];simp only [List.map_cons,List.map_nil,List.sum_cons,List.sum_nil];omega
  ·rw [xL];dsimp only;omega
theorem X8 {g:T->T} (m:Int):∀ (l:List T) (k N A B C:Nat) (gs:List (T×List T×T)),(∀ d ∈ l,Vf (g d)/\Vf (aA [jv] d)/\Vf (aA [gJ] d))->GrV N A B C gs ->
  ∃ gs',dM (p9 (fun x=>.inr (g x)) (Mx (xI m))) l k (gs.map vE)=.inr (gs'.map vE)/\GrV (N+l.length) (A+(l.map fun d=>jE (g d)).sum) (B+(l.map fun d=>jE (aA [jv] d)+5).sum) (C+(l.map fun d=>jE (aA [gJ] d)).sum) gs'
 | [],k,N,A,B,C,gs,_,h=>⟨gs,rfl,h⟩
 | d::l,k,N,A,B,C,gs,hv,h=>by
  obtain ⟨v1,v2,v3⟩:=hv d (List.mem_cons_self ..);obtain ⟨gs1,e1,h1⟩:=adA (gb:=fun x=>.inr (g x)) m h (doc:=d) rfl v1 v2 v3;obtain ⟨gs2,e2,h2⟩:=X8 m l (k+1) _ _ _ _ gs1 (fun x hx=>hv x (List.mem_cons_of_mem _ hx)) h1;refine ⟨gs2,?_,?_⟩
  ·rw [dM,e1];exact e2
  ·simp only [List.length_cons,List.map_cons,List.sum_cons];exact h2.eq (by omega) (by omega) (by omega) (by omega)
theorem QV:∀ (l:List T) (k:Nat) (s:List T),(∃ i,dM Mv l k s=.inl (i,15))\/(dM Mv l k s=.inr (s++l)/\∀ d ∈ l,bR d=false)
 | [],k,s=>.inr ⟨by rw [dM,List.append_nil],fun d h=>by cases h⟩
 | d::l,k,s=>by
  rw [dM,Mv];cases hb:bR d with
  | true=>exact .inl ⟨k,rfl⟩
  | false =>
   rcases QV l (k+1) (s++[d]) with ⟨i,h1⟩ | ⟨h1,h2⟩
   ·exact .inl ⟨i,h1⟩
   ·refine .inr ⟨?_,fun x hx=>?_⟩
    ·rw [if_neg (by simp)];simp only [h1,List.append_assoc,List.cons_append,List.nil_append]
    ·rcases List.mem_cons.1 hx with rfl | hx
     ·exact hb
     ·exact h2 x hx
theorem af7 {B:Nat} {l:List T} (h:jF B l) {k:Nat} (hk:k<6) (m:Int) :
  (∃ i,Ab (fun x=>.inr (aA (rT k) x)) (Mx (xI m)) [jv,iJ,gJ] l=.inl (i,15))\/∃ r,Ab (fun x=>.inr (aA (rT k) x)) (Mx (xI m)) [jv,iJ,gJ] l=.inr r/\jF (B+150) r:=by
 have hp:=h.at hk;have hn:=h.len;obtain ⟨gs,e1,hg⟩:=X8 (g:=aA (rT k)) m l 0 0 0 0 0 [] (fun d hd=>⟨hp.1 d hd,h.fld jv hd,h.fld gJ hd⟩) ⟨Nat.le_refl _,fun p h=>(by cases h),Nat.le_refl _,Nat.le_refl _,Nat.le_refl _⟩;simp only [Nat.zero_add] at hg;obtain ⟨g1,g2,g3,g4,g5⟩:=hg;rw [CX (fun d=>jE (aA [jv] d)) 5 l] at g4;have sI:CW jv l<=B:=h.sum jv (.inl rfl);have sC:CW gJ l<=B:=h.sum gJ (.inr (.inr rfl));unfold CW at sI sC;have sP:=hp.2;unfold Ab;rw [show ([]:List (T×List T))=([]:List (T×List T×T)).map vE from rfl,e1];dsimp only;rw [List.map_map];rcases QV (gs.map (fZ [jv,iJ,gJ] ∘ vE)) 0 [] with ⟨i,h1⟩ | ⟨h1,h2⟩
 ·exact .inl ⟨i,h1⟩
 ·rw [List.nil_append] at h1
  have hd:∀ p ∈ gs,Dk (aO 6 0 ByteArray.empty [p.1,aO 5 0 ByteArray.empty p.2.1 [],p.2.2] [jv,iJ,gJ])/\jE (aO 5 0 ByteArray.empty p.2.1 [])<=(p.2.1.map fun x=>jE x+1).sum+4:=fun p hm=>by
   have hs:bR (aO 6 0 ByteArray.empty [p.1,aO 5 0 ByteArray.empty p.2.1 [],p.2.2] [jv,iJ,gJ])=false:=h2 _ (List.mem_map.2 ⟨p,hm,rfl⟩)
   have hv:Di (aO 6 0 ByteArray.empty [p.1,aO 5 0 ByteArray.empty p.2.1 [],p.2.2] [jv,iJ,gJ])=true:=by
    have:=hs;unfold bR at this;rw [Bool.or_eq_false_iff] at this;simpa using this.1
   have hgd:dD 11 (aO 5 0 ByteArray.empty p.2.1 []):=ni ((nI _).1 hv).1 (i:=1) (by show 1<3;omega);obtain ⟨v1,v2,v3,v4⟩:=g2 p hm;obtain ⟨q1,q2⟩:=af6 v2 hgd (by omega);exact ⟨⟨⟨_,_,rfl,rfl,.inl rfl,L8 v1 q1 v3⟩,hs⟩,q2⟩
  refine .inr ⟨_,h1,by rw [List.length_map];omega,fun d hd'=>?_,fun x hx=>?_⟩
  ·obtain ⟨p,hm,rfl⟩:=List.mem_map.1 hd';exact (hd p hm).1
  ·unfold CW;rw [List.map_map];rcases hx with rfl | rfl | rfl
   ·have:(gs.map ((fun d=>jE (aA [jv] d)) ∘ (fZ [jv,iJ,gJ] ∘ vE))).sum<=(gs.map fun p=>jE p.1).sum:=tN fun p _=>by
     show jE (aA [jv] (aO 6 0 ByteArray.empty [p.1,aO 5 0 ByteArray.empty p.2.1 [],p.2.2] [jv,iJ,gJ]))<=_;rw [(LY _ _ _).1];exact Nat.le_refl _
    omega
   ·have:(gs.map ((fun d=>jE (aA [iJ] d)) ∘ (fZ [jv,iJ,gJ] ∘ vE))).sum<=(gs.map fun p=>(p.2.1.map fun x=>jE x+1).sum+4).sum:=tN fun p hm=>by
     show jE (aA [iJ] (aO 6 0 ByteArray.empty [p.1,aO 5 0 ByteArray.empty p.2.1 [],p.2.2] [jv,iJ,gJ]))<=_;rw [(LY _ _ _).2.1];exact (hd p hm).2
    omega
   ·have:(gs.map ((fun d=>jE (aA [gJ] d)) ∘ (fZ [jv,iJ,gJ] ∘ vE))).sum<=(gs.map fun p=>jE p.2.2).sum:=tN fun p _=>by
     show jE (aA [gJ] (aO 6 0 ByteArray.empty [p.1,aO 5 0 ByteArray.empty p.2.1 [],p.2.2] [jv,iJ,gJ]))<=_;rw [(LY _ _ _).2.2];exact Nat.le_refl _
    omega
end Go.Proofs.YtknakfpciccoaaaGreatDoor
