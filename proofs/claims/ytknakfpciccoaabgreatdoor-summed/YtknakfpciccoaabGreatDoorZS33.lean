import Derived.Test.YtknakfpciccoaabGreatDoorZS32
import Derived.Test.YtknakfpciccoaabGreatDoorZS26
import Derived.Test.YtknakfpciccoaabGreatDoorZS30
/- What the groups of Summed are. -/
namespace Go.Proofs.YtknakfpciccoaabGreatDoor
open Go.RowKit
def idE (d : T) : Int⊕T:=.inr (orNull [stI] d)
def oneE (_ : T) : Int⊕T:=.inr (nT 1)
def es5 : List (ByteArray×(T→Int⊕T)):=[(gSum,oneE),(gSum,idE),(gList,idE),(gFirst,idE),(gMax,idE)]
def ks6 : List ByteArray:=[⟨#[95,105,100]⟩,⟨#[110]⟩,⟨#[115]⟩,⟨#[108]⟩,⟨#[102]⟩,⟨#[109]⟩]
def grpOf (is : List Int) : List T:=[nT is.length,nT is.sum,numsT is,nT (is.headD 0),nT (is.getLastD 0)]
theorem acc_sum {g : T→Int⊕T} {s doc : T} {a n : Int} (hs : nOf s=n) (hg : g doc=.inr (nT a)) (hf : fits64 (n+a)) : accS g gSum s doc=.inr (nT (n+a)):=by
 subst hs
 unfold accS accG accV
 rw [if_neg (by decide),hg]
 dsimp only
 rw [if_pos rfl]
 have e : sumE s (nT a)=.inr (nOf s+a):=by
  unfold sumE
  exact (if_pos (show kindOf (nT a)=3 from rfl)).trans (if_pos hf)
 rw [e]
theorem acc_list {g : T→Int⊕T} {s doc : T} {a : Int} (hg : g doc=.inr (nT a)) : accS g gList s doc=.inr (mkT 5 0 ByteArray.empty (lOf s ++ [nT a]) []):=by
 unfold accS
 rw [if_pos rfl,hg]
theorem acc_first0 {g : T→Int⊕T} {s doc : T} {a : Int} (hg : g doc=.inr (nT a)) (hs : kindOf s=0) : accS g gFirst s doc=.inr (nT a):=by
 unfold accS accG accV
 rw [if_neg (by decide),hg]
 dsimp only
 rw [if_neg (by decide),if_pos (.inl hs)]
theorem acc_first1 {g : T→Int⊕T} {s doc : T} {a : Int} (hg : g doc=.inr (nT a)) (hs : kindOf s≠0) : accS g gFirst s doc=.inr s:=by
 unfold accS accG accV
 rw [if_neg (by decide),hg]
 dsimp only
 rw [if_neg (by decide),if_neg]
 rintro (h | h)
 ·exact hs h
 ·unfold repE at h
  rw [if_neg (by decide),if_neg (by decide)] at h
  exact absurd h (by decide)
theorem acc_max0 {g : T→Int⊕T} {s doc : T} {a : Int} (hg : g doc=.inr (nT a)) (hs : kindOf s=0) : accS g gMax s doc=.inr (nT a):=by
 unfold accS accG accV
 rw [if_neg (by decide),hg]
 dsimp only
 rw [if_neg (by decide),if_pos (.inl hs)]
theorem cmp_nT (a b : Int) : cmpT 16 (nT a) (nT b)=cmpI a b:=by
 have ka : kindOf (nT a)=3:=rfl
 have kb : kindOf (nT b)=3:=rfl
 rw [cmpT,ka,kb,if_neg (by simp),if_pos (.inr rfl)]
 rfl
theorem acc_max1 {g : T→Int⊕T} {doc : T} {a b : Int} (hg : g doc=.inr (nT a)) (h : b<a) : accS g gMax (nT b) doc=.inr (nT a):=by
 unfold accS accG accV
 rw [if_neg (by decide),hg]
 dsimp only
 rw [if_neg (by decide),if_pos]
 right
 unfold repE
 rw [if_neg (by decide),if_pos rfl,cmp_nT,cmpI_gt h]
 rfl
theorem rowE_cons {doc : T} {op : ByteArray} {g : T→Int⊕T} {es : List (ByteArray×(T→Int⊕T))} {k : Nat} {a : List T} {x t : T} {a' : List T} (hx : a.getD k zeroT=x) (h : accS g op x doc=.inr t) (ha : a.set k t=a') : rowE doc ((op,g) :: es) k a=rowE doc es (k+1) a':=by
 subst hx
 subst ha
 rw [rowE,h]
theorem row5 {doc x0 x1 x2 x3 x4 t0 t1 t2 t3 t4 : T} (e0 : accS oneE gSum x0 doc=.inr t0) (e1 : accS idE gSum x1 doc=.inr t1) (e2 : accS idE gList x2 doc=.inr t2) (e3 : accS idE gFirst x3 doc=.inr t3) (e4 : accS idE gMax x4 doc=.inr t4) : rowE doc es5 0 [x0,x1,x2,x3,x4]=.inr [t0,t1,t2,t3,t4] :=
 (rowE_cons (a':=[t0,x1,x2,x3,x4]) rfl e0 rfl).trans ((rowE_cons (a':=[t0,t1,x2,x3,x4]) rfl e1 rfl).trans ((rowE_cons (a':=[t0,t1,t2,x3,x4]) rfl e2 rfl).trans ((rowE_cons (a':=[t0,t1,t2,t3,x4]) rfl e3 rfl).trans ((rowE_cons (a':=[t0,t1,t2,t3,t4]) rfl e4 rfl).trans rfl))))
theorem row_more {doc : T} {is : List Int} {a : Int} (hid : idE doc=.inr (nT a)) (hne : is≠[]) (hl : is.length≤1000) (hf : fits64 (is.sum+a)) (hm : is.getLastD 0<a) : rowE doc es5 0 (grpOf is)=.inr (grpOf (is ++ [a])):=by
 have e1 : accS oneE gSum (nT is.length) doc=.inr (nT ((is.length : Int)+1)):=acc_sum (n:=(is.length : Int)) rfl rfl (by unfold fits64; omega)
 have e2 : accS idE gSum (nT is.sum) doc=.inr (nT (is.sum+a)):=acc_sum (n:=is.sum) rfl hid hf
 have e3 : accS idE gList (numsT is) doc=.inr (mkT 5 0 ByteArray.empty (is.map nT ++ [nT a]) []):=acc_list hid
 have e4 : accS idE gFirst (nT (is.headD 0)) doc=.inr (nT (is.headD 0)):=acc_first1 hid (by show (3 : Int)≠0; omega)
 have e5 : accS idE gMax (nT (is.getLastD 0)) doc=.inr (nT a):=acc_max1 hid hm
 unfold grpOf
 rw [row5 e1 e2 e3 e4 e5]
 have h1 : ((is ++ [a]).length : Int)=(is.length : Int)+1:=by simp
 have h2 : (is ++ [a]).sum=is.sum+a:=by simp
 have h3 : (is ++ [a]).headD 0=is.headD 0:=by cases is with | nil=>exact absurd rfl hne | cons x r=>rfl
 have h4 : (is ++ [a]).getLastD 0=a:=by simp [List.getLastD_eq_getLast?]
 rw [h1,h2,h3,h4]
 unfold numsT
 rw [List.map_append,List.map_cons,List.map_nil]
theorem row_new {doc : T} {a : Int} (hid : idE doc=.inr (nT a)) (hf : fits64 a) : rowE doc es5 0 (List.replicate 5 zeroT)=.inr (grpOf [a]):=by
 have e1 : accS oneE gSum zeroT doc=.inr (nT (0+1)):=acc_sum (s:=zeroT) (n:=0) rfl rfl (by decide)
 have e2 : accS idE gSum zeroT doc=.inr (nT (0+a)):=acc_sum (s:=zeroT) (n:=0) rfl hid (by rw [Int.zero_add]; exact hf)
 have e3 : accS idE gList zeroT doc=.inr (mkT 5 0 ByteArray.empty ([] ++ [nT a]) []):=acc_list (s:=zeroT) hid
 have e4 : accS idE gFirst zeroT doc=.inr (nT a):=acc_first0 hid rfl
 have e5 : accS idE gMax zeroT doc=.inr (nT a):=acc_max0 hid rfl
 show rowE doc es5 0 [zeroT,zeroT,zeroT,zeroT,zeroT]=_
 unfold grpOf
 rw [row5 e1 e2 e3 e4 e5]
 simp [numsT]
def toSt (p : T×List Int) : T×List T:=(p.1,grpOf p.2)
structure Inv (m : Nat) (gs : List (T×List Int)) : Prop where
 el : ∀ p ∈ gs,Sm p.1∧p.2≠[]∧∀ x ∈ p.2,0≤x∧x<(m : Int)
 asc : gs.Pairwise fun p q=>p.2.headD 0<q.2.headD 0
 len : (gs.map fun p=>p.2.length).sum=m
 sum : 2 * (gs.map fun p=>p.2.sum).sum=(m : Int) * ((m : Int) - 1)
theorem Inv.nil : Inv 0 []:=⟨fun p h=>(by cases h),List.Pairwise.nil,rfl,rfl⟩
theorem one_len {gs : List (T×List Int)} {p : T×List Int} (h : p ∈ gs) : p.2.length≤(gs.map fun p=>p.2.length).sum:=by
 induction gs with
 | nil=>cases h
 | cons a r ih =>
  rw [List.map_cons,List.sum_cons]
  rcases List.mem_cons.1 h with rfl | h
  ·omega
  ·have:=ih h; omega
theorem sum_bound {m : Nat} : ∀ {is : List Int},(∀ x ∈ is,0≤x∧x<(m : Int))→0≤is.sum∧is.sum≤(is.length : Int) * (m : Int)
 | [],_=>by simp
 | a :: r,h=>by
  have h1:=h a (List.mem_cons_self ..)
  have h2:=sum_bound (is:=r) fun x hx=>h x (List.mem_cons_of_mem _ hx)
  rw [List.sum_cons,List.length_cons,Int.natCast_add,Int.add_mul]
  simp only [Int.natCast_one,Int.one_mul]
  omega
theorem last_mem {is : List Int} (h : is≠[]) : is.getLastD 0 ∈ is:=by
 cases is with
 | nil=>exact absurd rfl h
 | cons a r=>exact List.getLast_mem (l:=a :: r) (by simp)
theorem head_mem {is : List Int} (h : is≠[]) : is.headD 0 ∈ is:=by
 cases is with
 | nil=>exact absurd rfl h
 | cons a r=>exact List.mem_cons_self ..
theorem step_sum (m : Nat) (s : Int) (h : 2 * s=(m : Int) * ((m : Int) - 1)) : 2 * (s+(m : Int))=((m+1 : Nat) : Int) * (((m+1 : Nat) : Int) - 1):=by
 have e : ((m+1 : Nat) : Int)=(m : Int)+1:=by omega
 rw [e,show (m : Int)+1 - 1=m by omega,Int.add_mul,Int.one_mul]
 rw [Int.mul_sub,Int.mul_one] at h
 omega
theorem modify_last {α : Type} (x : α) (f : α→α) : ∀ A : List α,(A ++ [x]).modify A.length f=A ++ [f x]
 | []=>rfl
 | a :: r=>by
  have:=modify_last x f r
  rw [List.cons_append,List.length_cons,List.modify_succ_cons,this]
  rfl
theorem take_more {gb : T→Int⊕T} {m : Nat} {gs : List (T×List Int)} (h : Inv m gs) (hm : m<30) {doc b : T} (hb : gb doc=.inr b) (hs : Sm b) (hid : idE doc=.inr (nT m)) : ∃ gs',takE gb es5 (gs.map toSt) doc=.inr (gs'.map toSt)∧Inv (m+1) gs':=by
 have hlen : (gs.map toSt).length=gs.length:=List.length_map _
 by_cases hi : gthI (gs.map toSt) b<(gs.map toSt).length
 ·have hg : gthS es5.length (gs.map toSt) b=gs.map toSt:=if_pos hi
  obtain ⟨i,hie⟩ : ∃ i,gthI (gs.map toSt) b=i:=⟨_,rfl⟩
  rw [hie] at hi
  have hi' : i<gs.length:=by rw [hlen] at hi; exact hi
  obtain ⟨p,hp⟩ : ∃ p,gs[i]=p:=⟨_,rfl⟩
  have hmem : p ∈ gs:=by rw [← hp]; exact List.getElem_mem hi'
  obtain ⟨h1,h2,h3⟩:=h.el p hmem
  have h4:=one_len hmem
  rw [h.len] at h4
  have h5:=sum_bound h3
  have h6 : ((p.2.length : Int)) * (m : Int)≤30 * 30:=Int.mul_le_mul (by omega) (by omega) (by omega) (by omega)
  have hrow : rowE doc es5 0 (grpOf p.2)=.inr (grpOf (p.2 ++ [(m : Int)])):=row_more hid h2 (by omega) (by unfold fits64; omega) (h3 _ (last_mem h2)).2
  have hspl : gs=gs.take i ++ p :: gs.drop (i+1):=by
   rw [← hp,← List.drop_eq_getElem_cons hi',List.take_append_drop]
  refine ⟨gs.take i ++ (p.1,p.2 ++ [(m : Int)]) :: gs.drop (i+1),?_,?_,?_,?_,?_⟩
  ·have hget : ∀ (n : Nat) (hh : gthI (gs.map toSt) b<(gthS n (gs.map toSt) b).length),((gthS n (gs.map toSt) b)[gthI (gs.map toSt) b]'hh).2=grpOf p.2:=by
    intro n hh
    have e : gthS n (gs.map toSt) b=gs.map toSt:=if_pos (by rw [hie]; exact hi)
    simp only [e,hie,List.getElem_map,hp]
    rfl
   unfold takE
   rw [hb]
   dsimp only
   rw [hget,hrow]
   dsimp only
   rw [hg,hie]
   unfold stRow
   rw [List.modify_eq_take_cons_drop hi,List.getElem_map,hp,List.map_append,List.map_cons,← List.map_take,← List.map_drop]
   rfl
  ·intro q hq
   rw [List.mem_append,List.mem_cons] at hq
   have hold : ∀ q ∈ gs,Sm q.1∧q.2≠[]∧∀ x ∈ q.2,0≤x∧x<((m+1 : Nat) : Int):=fun q hq=>⟨(h.el q hq).1,(h.el q hq).2.1,fun x hx=>by have:=(h.el q hq).2.2 x hx; omega⟩
   rcases hq with hq | rfl | hq
   ·exact hold q (List.mem_of_mem_take hq)
   ·refine ⟨h1,by simp,fun x hx=>?_⟩
    rw [List.mem_append,List.mem_singleton] at hx
    rcases hx with hx | rfl
    ·have:=h3 x hx; omega
    ·omega
   ·exact hold q (List.mem_of_mem_drop hq)
  ·have ha:=h.asc
   rw [hspl,List.pairwise_append,List.pairwise_cons] at ha
   rw [List.pairwise_append,List.pairwise_cons]
   have hh : (p.2 ++ [(m : Int)]).headD 0=p.2.headD 0:=by cases hp2 : p.2 with | nil=>exact absurd hp2 h2 | cons x r=>rfl
   refine ⟨ha.1,⟨fun q hq=>?_,ha.2.1.2⟩,fun a haa q hq=>?_⟩
   ·show (p.2 ++ [(m : Int)]).headD 0<_
    rw [hh]
    exact ha.2.1.1 q hq
   ·rcases List.mem_cons.1 hq with rfl | hq
    ·show _<(p.2 ++ [(m : Int)]).headD 0
     rw [hh]
     exact ha.2.2 a haa p (List.mem_cons_self ..)
    ·exact ha.2.2 a haa q (List.mem_cons_of_mem _ hq)
  ·have hl:=h.len
   rw [hspl,List.map_append,List.map_cons,List.sum_append,List.sum_cons] at hl
   rw [List.map_append,List.map_cons,List.sum_append,List.sum_cons]
   show _+((p.2 ++ [(m : Int)]).length+_)=_
   rw [List.length_append,List.length_cons,List.length_nil]
   omega
  ·have hl:=h.sum
   have e0 : (gs.map fun p=>p.2.sum).sum=((gs.take i).map fun p=>p.2.sum).sum+(p.2.sum+((gs.drop (i+1)).map fun p=>p.2.sum).sum):=by
    conv=>lhs; rw [hspl]
    rw [List.map_append,List.map_cons,List.sum_append,List.sum_cons]
   rw [List.map_append,List.map_cons,List.sum_append,List.sum_cons]
   show 2 * (_+((p.2 ++ [(m : Int)]).sum+_))=_
   have e1 : (p.2 ++ [(m : Int)]).sum=p.2.sum+m:=by simp
   rw [e1,← step_sum m _ hl,e0]
   omega
 ·have hg : ∀ n,gthS n (gs.map toSt) b=gs.map toSt ++ [(b,List.replicate n zeroT)]:=fun n=>if_neg hi
  have hie : gthI (gs.map toSt) b=(gs.map toSt).length:=by
   have : gthI (gs.map toSt) b≤(gs.map toSt).length:=List.findIdx_le_length
   omega
  have hrow : rowE doc es5 0 (List.replicate 5 zeroT)=.inr (grpOf [(m : Int)]):=row_new hid (by unfold fits64; omega)
  refine ⟨gs ++ [(b,[(m : Int)])],?_,?_,?_,?_,?_⟩
  ·have hget : ∀ (n : Nat) (hh : gthI (gs.map toSt) b<(gthS n (gs.map toSt) b).length),((gthS n (gs.map toSt) b)[gthI (gs.map toSt) b]'hh).2=List.replicate n zeroT:=by
    intro n hh
    simp only [hg n,hie]
    rw [List.getElem_append_right (Nat.le_refl _)]
    simp
   unfold takE
   rw [hb]
   dsimp only
   rw [hget]
   rw [show es5.length=5 from rfl,hrow]
   dsimp only
   rw [hg 5,hie]
   unfold stRow
   rw [modify_last,List.map_append]
   rfl
  ·intro q hq
   rw [List.mem_append,List.mem_singleton] at hq
   rcases hq with hq | rfl
   ·exact ⟨(h.el q hq).1,(h.el q hq).2.1,fun x hx=>by have:=(h.el q hq).2.2 x hx; omega⟩
   ·refine ⟨hs,by simp,fun x hx=>?_⟩
    rw [List.mem_singleton] at hx
    subst hx
    omega
  ·rw [List.pairwise_append]
   refine ⟨h.asc,List.pairwise_singleton _ _,fun a ha q hq=>?_⟩
   rw [List.mem_singleton] at hq
   subst hq
   exact ((h.el a ha).2.2 _ (head_mem (h.el a ha).2.1)).2
  ·rw [List.map_append,List.sum_append,h.len]
   simp
  ·rw [List.map_append,List.sum_append]
   have e1 : ([(b,[(m : Int)])].map fun p=>p.2.sum).sum=(m : Int):=by simp
   rw [e1]
   exact step_sum m _ h.sum
end Go.Proofs.YtknakfpciccoaabGreatDoor
/- value: one text for each number, in whatever world. -/
namespace Go.Proofs.YtknakfpciccoaabGreatDoor
open Go.RowKit
end Go.Proofs.YtknakfpciccoaabGreatDoor
/- test of the statements. -/
namespace Go.Proofs.YtknakfpciccoaabGreatDoor
open Go.RowKit
end Go.Proofs.YtknakfpciccoaabGreatDoor
/- test of the statements: the other kinds. -/
namespace Go.Proofs.YtknakfpciccoaabGreatDoor
open Go.RowKit
end Go.Proofs.YtknakfpciccoaabGreatDoor
/- Texts that are what is printed of a tree: how they are put together. -/
namespace Go.Proofs.YtknakfpciccoaabGreatDoor
open Go.RowKit
structure Rep (f : Nat) (t : T) (s : ByteArray) (n : Nat) : Prop where
 wr : s.data.toList=wrT f t
 fit : FitT (f+1) t
 good : Good f t
 can : canT f t=t
 size : s.size≤n
theorem Rep.parse {t : T} {s : ByteArray} {n : Nat} (h : Rep 12 t s n) (hn : n≤4000) : eJ s=0∧tJ s=t:=by
 have e:=ba_list h.wr
 have hz:=h.size
 have h1 : s.size=(wrT 12 t).length:=by rw [← h.wr]; rfl
 have hp:=parse_tree h.fit h.good (by omega)
 rw [h.can] at hp
 rw [e]
 exact hp
end Go.Proofs.YtknakfpciccoaabGreatDoor
/- filled: a store with documents out of raw numbers. -/
namespace Go.Proofs.YtknakfpciccoaabGreatDoor
open Go.RowKit
def RawAt (w : World) (v : Value) (n : Nat) : Prop :=
 ∃ A c,v=.slice A n c∧n≤1000000000000000∧∀ i,i<n→∃ b o z,A=some ⟨b,o,none⟩∧b<w.heap.size∧w.cell? ⟨b,o+i,none⟩=some (.int .i64 z)∧-9223372036854775808≤z∧z≤9223372036854775807
def DocsOf (l : List T) : Prop:=∀ k,(h : k<l.length)→∃ i o,i<36∧(∀ j,o=some j→j<36)∧l[k]=docT (k : Int) i o
theorem DocsOf.nil : DocsOf []:=fun k h=>absurd h (Nat.not_lt_zero k)
theorem DocsOf.snoc {l : List T} (h : DocsOf l) {i : Nat} {o : Option Nat} (hi : i<36) (ho : ∀ j,o=some j→j<36) : DocsOf (l ++ [docT (l.length : Int) i o]):=by
 intro k hk
 rw [List.length_append,List.length_cons,List.length_nil] at hk
 by_cases e : k<l.length
 ·obtain ⟨a,b,c,d,e1⟩:=h k e
  exact ⟨a,b,c,d,by rw [List.getElem_append_left e]; exact e1⟩
 ·obtain rfl : k=l.length:=by omega
  exact ⟨i,o,hi,ho,by rw [List.getElem_append_right (by omega)]; simp⟩
theorem anyL_none {p : T→Bool} {t : T} : ∀ k,(∀ i,i<k→p (elt t i)=false)→anyL p t k=false
 | 0,_=>rfl
 | k+1,h=>by
  rw [anyL,anyL_none k (fun i hi=>h i (by omega)),h k (by omega)]
  rfl
theorem DocsOf.fresh {l : List T} (h : DocsOf l) (i : Nat) (o : Option Nat) : anyL (sameId (idT (docT (l.length : Int) i o))) (mkT 5 0 ByteArray.empty l []) l.length=false:=by
 refine anyL_none _ fun k hk=>?_
 have e : elt (mkT 5 0 ByteArray.empty l []) k=l[k]:=by rw [elt_mk,List.getD_eq_getElem?_getD,List.getElem?_eq_getElem hk]; rfl
 obtain ⟨a,b,_,_,e1⟩:=h k hk
 rw [e,e1,docT_id,doc_same]
 simp
 omega
abbrev nX : ByteArray:=⟨#[120]⟩
abbrev nY : ByteArray:=⟨#[121]⟩
def two (l m : Option (List T)) : ByteArray→Option (List T):=setS (setS (fun _=>none) nX l) nY m
theorem two_x (l m : Option (List T)) : two l m nX=l:=by unfold two; rw [setS_other _ _ (by decide),setS_same]
theorem two_y (l m : Option (List T)) : two l m nY=m:=by unfold two; rw [setS_same]
theorem two_none (l m : Option (List T)) {z : ByteArray} (h1 : z≠nX) (h2 : z≠nY) : two l m z=none:=by unfold two; rw [setS_other _ _ h2,setS_other _ _ h1]
theorem two_setx (l m k : Option (List T)) : setS (two l m) nX k=two k m:=by
 funext z
 unfold two
 by_cases h1 : z=nX
 ·subst h1; rw [setS_same,setS_other _ _ (by decide),setS_same]
 ·rw [setS_other _ _ h1]
  by_cases h2 : z=nY
  ·subst h2; rw [setS_same,setS_same]
  ·rw [setS_other _ _ h2,setS_other _ _ h1,setS_other _ _ h2,setS_other _ _ h1]
theorem two_sety (l m k : Option (List T)) : setS (two l m) nY k=two l k:=by
 funext z
 unfold two
 by_cases h2 : z=nY
 ·subst h2; rw [setS_same,setS_same]
 ·rw [setS_other _ _ h2,setS_other _ _ h2,setS_other _ _ h2]
theorem one_two (l : Option (List T)) : setS (setS (fun _=>none) nX l) nY (some [])=two l (some []):=rfl
abbrev allS : ByteArray:=⟨#[123,125]⟩
theorem allS_e : eJ allS=0:=by kernel_rfl
theorem allS_t : tJ allS=mkT 6 0 ByteArray.empty [] []:=by kernel_rfl
theorem allS_ok : okFil 16 (tJ allS)=true:=by rw [allS_t]; kernel_rfl
theorem allS_ev (d : T) : evF 16 (tJ allS) d=true:=by rw [allS_t]; rfl
theorem all_filter (l : List T) : l.filter (evF 16 (tJ allS))=l:=by
 rw [List.filter_eq_self]
 exact fun a _=>allS_ev a
end Go.Proofs.YtknakfpciccoaabGreatDoor
/- Summed, without the program: the groups, as documents. -/
namespace Go.Proofs.YtknakfpciccoaabGreatDoor
open Go.RowKit
def obj6 (b : T) (n s f m : Int) (is : List Int) : T:=mkT 6 0 ByteArray.empty [b,nT n,nT s,numsT is,nT f,nT m] ks6
theorem obj6_good {b : T} (hb : Sm b) (n s f m : Int) (is : List Int) : Good 12 (obj6 b n s f m is):=by
 refine .inr ⟨rfl,noText_mk _ _ _ _,fun i hi=>?_,.inr ⟨rfl,rfl,by kernel_rfl,by kernel_rfl⟩⟩
 have hi' : i<6:=hi
 match i,hi' with
 | 0,_=>exact hb.good
 | 1,_=>exact nT_good n 11
 | 2,_=>exact nT_good s 11
 | 3,_=>exact nums_good is 10
 | 4,_=>exact nT_good f 11
 | 5,_=>exact nT_good m 11
theorem obj6_bytes {b : T} (hb : Sm b) (n s f m : Int) {is : List Int} (hl : is.length≤30) : bytesT 12 (obj6 b n s f m is)≤700:=by
 have e : bytesT 12 (obj6 b n s f m is)=5+sumK (obj6 b n s f m is) 6+((((((0+bytesT 11 b)+bytesT 11 (nT n))+bytesT 11 (nT s))+bytesT 11 (numsT is))+bytesT 11 (nT f))+bytesT 11 (nT m)):=rfl
 have k : sumK (obj6 b n s f m is) 6≤50:=by
  have : sumK (obj6 b n s f m is) 6=sumK (obj6 nullT 0 0 0 0 []) 6:=rfl
  rw [this]; decide
 have:=hb.bytes
 rw [e,nT_bytes,nT_bytes,nT_bytes,nT_bytes,nums_bytes]
 omega
theorem obj6_isV {b : T} (hb : Sm b) (n s f m : Int) {is : List Int} (hl : is.length≤30) : isV (obj6 b n s f m is)=true:=(isV_iff _).2 ⟨obj6_good hb n s f m is,by have:=obj6_bytes hb n s f m hl; omega⟩
theorem obj6_small {b : T} (hb : Sm b) (n s f m : Int) {is : List Int} (hl : is.length≤30) : tooBig (obj6 b n s f m is)=false:=by
 unfold tooBig
 rw [obj6_isV hb n s f m hl]
 have h1:=encT_len 12 _ (obj6_good hb n s f m is)
 have h2:=obj6_bytes hb n s f m hl
 have h3 : (encS true (encT 12 (obj6 b n s f m is))).size=(encT 12 (obj6 b n s f m is)).length:=baL_size _
 rw [h3]
 simp
 omega
theorem obj6_fit {b : T} (hb : Sm b) {n s f m : Int} {is : List Int} (hl : is.length≤30) (h : ∀ x ∈ is,in64 x) (hn : in64 n) (hs : in64 s) (hf : in64 f) (hm : in64 m) : FitT 5 (obj6 b n s f m is):=by
 have up : ∀ {x : Int},in64 x→FitT 4 (nT x):=fun hx=>(nT_sm hx.1 hx.2).fit
 refine ⟨⟨by show (-9223372036854775808 : Int)≤6; omega,by show (6 : Int)≤9223372036854775807; omega,by show (-9223372036854775808 : Int)≤0; omega,by show (0 : Int)≤9223372036854775807; omega,by show (0 : Nat)≤_; omega,by show (6 : Nat)≤_; omega,by show (6 : Nat)≤_; omega⟩,fun i hi=>?_,fun i hi=>?_⟩
 ·have hi' : i<6:=hi
  match i,hi' with
  | 0,_=>exact hb.fit
  | 1,_=>exact up hn
  | 2,_=>exact up hs
  | 3,_=>exact nums_fit (by omega) h
  | 4,_=>exact up hf
  | 5,_=>exact up hm
 ·have hi' : i<6:=hi
  match i,hi' with
  | 0,_=>show (3 : Nat)≤_; omega
  | 1,_=>show (1 : Nat)≤_; omega
  | 2,_=>show (1 : Nat)≤_; omega
  | 3,_=>show (1 : Nat)≤_; omega
  | 4,_=>show (1 : Nat)≤_; omega
  | 5,_=>show (1 : Nat)≤_; omega
theorem obj6_can {b : T} (hb : Sm b) (n s f m : Int) (is : List Int) : canT 12 (obj6 b n s f m is)=obj6 b n s f m is:=by
 show mkT 6 0 ByteArray.empty [canT 11 b,nT n,nT s,canT 11 (numsT is),nT f,nT m] ks6=_
 rw [hb.can,nums_can]
 rfl
theorem q6 : (quoL ⟨#[95,105,100]⟩).length=5∧(quoL ⟨#[110]⟩).length=3∧(quoL ⟨#[115]⟩).length=3∧(quoL ⟨#[108]⟩).length=3∧(quoL ⟨#[102]⟩).length=3∧(quoL ⟨#[109]⟩).length=3:=⟨by kernel_rfl,by kernel_rfl,by kernel_rfl,by kernel_rfl,by kernel_rfl,by kernel_rfl⟩
theorem obj6_wr {b : T} (hb : Sm b) {n s f m : Int} {is : List Int} (hl : is.length≤30) (h : ∀ x ∈ is,in64 x) (hn : in64 n) (hs : in64 s) (hf : in64 f) (hm : in64 m) : (wrT 12 (obj6 b n s f m is)).length≤2000:=by
 have e : wrT 12 (obj6 b n s f m is)=123 :: ((((((([] ++ ([] ++ (quoL ⟨#[95,105,100]⟩ ++ (58 :: wrT 11 b)))) ++ ([44] ++ (quoL ⟨#[110]⟩ ++ (58 :: wrT 11 (nT n))))) ++ ([44] ++ (quoL ⟨#[115]⟩ ++ (58 :: wrT 11 (nT s))))) ++ ([44] ++ (quoL ⟨#[108]⟩ ++ (58 :: wrT 11 (numsT is))))) ++ ([44] ++ (quoL ⟨#[102]⟩ ++ (58 :: wrT 11 (nT f))))) ++ ([44] ++ (quoL ⟨#[109]⟩ ++ (58 :: wrT 11 (nT m))))) ++ [125]):=rfl
 have h1:=hb.wr
 have h2:=(nT_sm hn.1 hn.2).wr
 have h3:=(nT_sm hs.1 hs.2).wr
 have h4:=(nT_sm hf.1 hf.2).wr
 have h5:=(nT_sm hm.1 hm.2).wr
 have h6:=nums_wr h
 obtain ⟨a1,a2,a3,a4,a5,a6⟩:=q6
 rw [e]
 simp only [List.length_cons,List.length_append,List.length_nil]
 omega
theorem obj6_parse {b : T} (hb : Sm b) {n s f m : Int} {is : List Int} (hl : is.length≤30) (h : ∀ x ∈ is,in64 x) (hn : in64 n) (hs : in64 s) (hf : in64 f) (hm : in64 m) : eJ (prT (obj6 b n s f m is))=0∧tJ (prT (obj6 b n s f m is))=obj6 b n s f m is∧(prT (obj6 b n s f m is)).size≤2000:=by
 have hw:=obj6_wr hb hl h hn hs hf hm
 have hp:=parse_tree (obj6_fit hb hl h hn hs hf hm) (obj6_good hb n s f m is) (by omega)
 rw [obj6_can hb] at hp
 have e : prT (obj6 b n s f m is)=baL (wrT 12 (obj6 b n s f m is)):=by
  unfold prT
  rw [obj6_isV hb n s f m hl]
  rfl
 rw [e]
 exact ⟨hp.1,hp.2,by rw [baL_size]; exact hw⟩
def grpD (p : T×List Int) : T:=obj6 p.1 p.2.length p.2.sum (p.2.headD 0) (p.2.getLastD 0) p.2
theorem Inv.in64 {m : Nat} {gs : List (T×List Int)} (h : Inv m gs) (hm : m≤30) {p : T×List Int} (hp : p ∈ gs) : p.2.length≤30∧(∀ x ∈ p.2,in64 x)∧in64 p.2.length∧in64 p.2.sum∧in64 (p.2.headD 0)∧in64 (p.2.getLastD 0):=by
 obtain ⟨h1,h2,h3⟩:=h.el p hp
 have h4:=one_len hp
 rw [h.len] at h4
 have h5:=sum_bound h3
 have h6 : ((p.2.length : Int)) * (m : Int)≤30 * 30:=Int.mul_le_mul (by omega) (by omega) (by omega) (by omega)
 have hx : ∀ x ∈ p.2,Go.Proofs.YtknakfpciccoaabGreatDoor.in64 x:=fun x hx=>by have:=h3 x hx; unfold Go.Proofs.YtknakfpciccoaabGreatDoor.in64; omega
 refine ⟨by omega,hx,?_,?_,hx _ (head_mem h2),hx _ (last_mem h2)⟩
 ·unfold Go.Proofs.YtknakfpciccoaabGreatDoor.in64; omega
 ·unfold Go.Proofs.YtknakfpciccoaabGreatDoor.in64; omega
theorem em_all : ∀ (l : List T) (k : Nat) (s : List T),(∀ t ∈ l,tooBig t=false)→eachE emE l k s=.inr (s ++ l)
 | [],k,s,_=>by simp [eachE]
 | d :: r,k,s,h=>by
  have hd : emE s d=.inr (s ++ [d]):=by
   unfold emE
   rw [h d (List.mem_cons_self ..)]
   rfl
  rw [eachE,hd]
  show eachE emE r (k+1) (s ++ [d])=_
  rw [em_all r (k+1) (s ++ [d]) fun t ht=>h t (List.mem_cons_of_mem _ ht),List.append_assoc]
  rfl
theorem each_take {gb : T→Int⊕T} {l : List T} (hl : l.length≤30) (hd : ∀ k,(h : k<l.length)→(∃ b,gb l[k]=.inr b∧Sm b)∧idE l[k]=.inr (nT k)) : ∀ (n k : Nat) (gs : List (T×List Int)),n+k=l.length→Inv k gs→∃ gs',eachE (takE gb es5) (l.drop k) k (gs.map toSt)=.inr (gs'.map toSt)∧Inv l.length gs'
 | 0,k,gs,e,h=>by
  obtain rfl : k=l.length:=by omega
  rw [List.drop_length]
  exact ⟨gs,rfl,h⟩
 | n+1,k,gs,e,h=>by
  have hk : k<l.length:=by omega
  obtain ⟨⟨b,hb,hs⟩,hi⟩:=hd k hk
  obtain ⟨gs1,h1,h2⟩:=take_more h (by omega) hb hs hi
  obtain ⟨gs2,h3,h4⟩:=each_take hl hd n (k+1) gs1 (by omega) h2
  refine ⟨gs2,?_,h4⟩
  rw [List.drop_eq_getElem_cons hk,eachE,h1]
  exact h3
theorem sum_pipe {k : Nat} (hk : k<6) {l : List T} (hd : DocsOf l) (hl : l.length≤30) : ∃ gs,Inv l.length gs∧grpS (fun d=>.inr (orNull (pthP k) d)) es5 ks6 l=.inr (gs.map grpD):=by
 obtain ⟨gs,h1,h2⟩:=each_take (gb:=fun d=>.inr (orNull (pthP k) d)) hl (fun j hj=>by
  obtain ⟨i,o,hi,ho,e⟩:=hd j hj
  refine ⟨⟨_,rfl,?_⟩,?_⟩
  ·rw [e]
   exact by_sm hk (by omega) (by omega) hi ho
  ·unfold idE
   rw [e,orNull_id]) l.length 0 [] (by omega) Inv.nil
 refine ⟨gs,h2,?_⟩
 unfold grpS
 rw [List.drop_zero] at h1
 rw [show eachE (takE (fun d=>.inr (orNull (pthP k) d)) es5) l 0 []=.inr (gs.map toSt) from h1]
 show eachE emE ((gs.map toSt).map (grpT ks6)) 0 []=_
 rw [List.map_map]
 have e : gs.map (grpT ks6 ∘ toSt)=gs.map grpD:=rfl
 rw [e,em_all _ 0 [] fun t ht=>?_,List.nil_append]
 obtain ⟨p,hp,rfl⟩:=List.mem_map.1 ht
 exact obj6_small (h2.el p hp).1 _ _ _ _ (h2.in64 hl hp).1
end Go.Proofs.YtknakfpciccoaabGreatDoor
/- The pipeline of Summed: its text, its tree, what it is read as. -/
namespace Go.Proofs.YtknakfpciccoaabGreatDoor
open Go.RowKit
def sumP : ByteArray:=⟨#[91,123,34,36,103,114,111,117,112,34,58,123,34,98,121,34,58,34,36]⟩
def sumQ : ByteArray:=⟨#[34,44,34,109,97,107,101,34,58,123,34,110,34,58,123,34,36,99,111,117,110,116,34,58,110,117,108,108,125,44,34,115,34,58,123,34,36,115,117,109,34,58,34,36,95,105,100,34,125,44,34,108,34,58,123,34,36,108,105,115,116,34,58,34,36,95,105,100,34,125,44,34,102,34,58,123,34,36,102,105,114,115,116,34,58,34,36,95,105,100,34,125,44,34,109,34,58,123,34,36,109,97,120,34,58,34,36,95,105,100,34,125,125,125,125,93]⟩
def sumS (k : Nat) : ByteArray:=(sumP ++ pth k) ++ sumQ
def dolT (s : ByteArray) : T:=leafT 4 0 s
def opT (op : ByteArray) (j : T) : T:=mkT 6 0 ByteArray.empty [j] [op]
def dId : ByteArray:=⟨#[36,95,105,100]⟩
def makeT : T:=mkT 6 0 ByteArray.empty [opT ⟨#[36,99,111,117,110,116]⟩ nullT,opT ⟨#[36,115,117,109]⟩ (dolT dId),opT ⟨#[36,108,105,115,116]⟩ (dolT dId),opT ⟨#[36,102,105,114,115,116]⟩ (dolT dId),opT ⟨#[36,109,97,120]⟩ (dolT dId)] [⟨#[110]⟩,⟨#[115]⟩,⟨#[108]⟩,⟨#[102]⟩,⟨#[109]⟩]
def dPth (k : Nat) : ByteArray:=⟨#[36]⟩ ++ pth k
def grpI (k : Nat) : T:=mkT 6 0 ByteArray.empty [dolT (dPth k),makeT] [⟨#[98,121]⟩,⟨#[109,97,107,101]⟩]
def sumT (k : Nat) : T:=mkT 5 0 ByteArray.empty [opT ⟨#[36,103,114,111,117,112]⟩ (grpI k)] []
theorem read_of {t : T} {s : ByteArray} (h1 : s.data.toList=wrT 12 t) (h2 : fitB 13 t=true) (h3 : (chkT 12 t 1048576).isSome=true) (h4 : canT 12 t=t) (h5 : s.size≤4000) : tJ s=t∧eJ s=0:=by
 have hg:=((isV_iff t).1 h3).1
 have h:=Rep.parse (t:=t) (s:=s) (n:=4000) ⟨h1,fitB_fit 13 t h2,hg,h4,h5⟩ (Nat.le_refl _)
 exact ⟨h.2,h.1⟩
theorem sum_tests : ((List.range 6).all fun k=>decide ((sumS k).data.toList=wrT 12 (sumT k)) && (fitB 13 (sumT k) && ((chkT 12 (sumT k) 1048576).isSome && decide ((sumS k).size≤4000))))=true:=by kernel_rfl
theorem sum_can : (List.range 6).map (fun k=>canT 12 (sumT k))=(List.range 6).map sumT:=by kernel_rfl
theorem sum_at {k : Nat} (h : k<6) : tJ (sumS k)=sumT k∧eJ (sumS k)=0:=by
 have h1:=List.all_eq_true.1 sum_tests k (List.mem_range.2 h)
 simp only [Bool.and_eq_true,decide_eq_true_eq] at h1
 have h2:=congrArg (fun l=>l[k]?) sum_can
 simp only [List.getElem?_map,List.getElem?_range h,Option.map_some,Option.some.injEq] at h2
 exact read_of h1.1 h1.2.1 h1.2.2.1 h2 h1.2.2.2
theorem dpth_all : ((List.range 6).all fun k=>isOp (dPth k) && (decide ((dPth k).extract 1 (dPth k).size=pth k) && (decide (1≤(dPth k).size) && decide ((dPth k).size≤1000))))=true:=by kernel_rfl
theorem dpth {k : Nat} (h : k<6) : isOp (dPth k)=true∧(dPth k).extract 1 (dPth k).size=pth k∧1≤(dPth k).size∧(dPth k).size≤1000:=by
 have:=List.all_eq_true.1 dpth_all k (List.mem_range.2 h)
 simpa only [Bool.and_eq_true,decide_eq_true_eq] using this
theorem px_path {Tb : World→Prop} (hA : StoreSaid Tb) (s x : ByteArray) (p : List ByteArray) (hop : isOp s=true) (hx : s.extract 1 s.size=x) (h1 : 1≤s.size) (h2 : s.size≤1000) (hp : pathOk x=true) (hs : splitP x=p) : PxSaid Tb (dolT s) (fun d=>.inr (orNull p d)):=by
 subst hs
 refine pexpr_text hA.lies (dolT s) _ rfl fun v wB w ha hk hb0 hT=>?_
 exact ptext_found hA.atoi hA.itoa hA.split hA.lies (dolT s) x v wB w ha hop hx h1 (by show s.size≤_; omega) hp hT
theorem px_id {Tb : World→Prop} (hA : StoreSaid Tb) : PxSaid Tb (dolT dId) idE:=px_path hA dId stI [stI] (by kernel_rfl) (by kernel_rfl) (by decide) (by decide) (by kernel_rfl) (by kernel_rfl)
theorem px_pth {Tb : World→Prop} (hA : StoreSaid Tb) {k : Nat} (h : k<6) : PxSaid Tb (dolT (dPth k)) (fun d=>.inr (orNull (pthP k) d)):=by
 obtain ⟨h1,h2,h3,h4⟩:=dpth h
 exact px_path hA (dPth k) (pth k) (pthP k) h1 h2 h3 h4 (pth_ok h) (pth_splits h)
theorem make_ents {Tb : World→Prop} (hA : StoreSaid Tb) : ∀ i,(hi : i<es5.length)→nam makeT i≠idNm∧isOp (nam makeT i)=false∧PeSaid Tb (elt makeT i) es5[i].1 es5[i].2∧isGOp es5[i].1∧es5[i].1.size≤100:=by
 intro i hi
 have hi' : i<5:=hi
 match i,hi' with
 | 0,_=>exact ⟨by decide,by kernel_rfl,pentCount_any hA.lies (opT ⟨#[36,99,111,117,110,116]⟩ nullT) nullT rfl rfl rfl rfl rfl,.inl rfl,(by show ByteArray.size gSum≤100; decide)⟩
 | 1,_=>exact ⟨by decide,by kernel_rfl,pentSum_any hA.lies (opT ⟨#[36,115,117,109]⟩ (dolT dId)) (dolT dId) idE rfl rfl rfl rfl (px_id hA),.inl rfl,(by show ByteArray.size gSum≤100; decide)⟩
 | 2,_=>exact ⟨by decide,by kernel_rfl,pentList_any hA.lies (opT ⟨#[36,108,105,115,116]⟩ (dolT dId)) (dolT dId) idE rfl rfl rfl rfl (px_id hA),.inr (.inr (.inr (.inr (.inr rfl)))),(by show ByteArray.size gList≤100; decide)⟩
 | 3,_=>exact ⟨by decide,by kernel_rfl,pentFirst_any hA.lies (opT ⟨#[36,102,105,114,115,116]⟩ (dolT dId)) (dolT dId) idE rfl rfl rfl rfl (px_id hA),.inr (.inr (.inr (.inl rfl))),(by show ByteArray.size gFirst≤100; decide)⟩
 | 4,_=>exact ⟨by decide,by kernel_rfl,pentMax_any hA.lies (opT ⟨#[36,109,97,120]⟩ (dolT dId)) (dolT dId) idE rfl rfl rfl rfl (px_id hA),.inr (.inr (.inl rfl)),(by show ByteArray.size gMax≤100; decide)⟩
theorem sum_read {Tb : World→Prop} (hA : StoreSaid Tb) {k : Nat} (h : k<6) : PpSaid Tb (sumT k) [grpS (fun d=>.inr (orNull (pthP k) d)) es5 ks6]:=by
 intro v wB w ha hk hb0 hT
 refine ppipe_any hA.lies (sumT k) _ rfl rfl (by simp) (fun i hi=>?_) v wB w ha hk hb0 hT
 obtain rfl : i=0:=by simp at hi; omega
 refine pstage_group hA.valid hA.lies _ es5 ks6 (opT ⟨#[36,103,114,111,117,112]⟩ (grpI k)) (grpI k) rfl rfl rfl rfl fun v wB w ha hk hb0 hT=>?_
 exact pgroup_any hA.lies (grpI k) (dolT (dPth k)) makeT 0 1 _ es5 rfl rfl (by rfl) (by rfl) rfl rfl (px_pth hA h) rfl rfl (by decide) (make_ents hA) v wB w ha hk hb0 hT
end Go.Proofs.YtknakfpciccoaabGreatDoor
/- A pipeline's text is read; task, Run. -/
namespace Go.Proofs.YtknakfpciccoaabGreatDoor
open Go.RowKit Go.Maps Go.WideMaps
set_option maxHeartbeats 4000000 in
set_option maxRecDepth 100000 in
theorem readP_ok {Tb : World→Prop} (hD : DecSaid Tb) (hN : IntSaid Tb) (hL : Lies Tb) (p m n : Nat) (D : DataW Unit) (x s : ByteArray) (gs : List StgF) (c : Nat) (w : World) (hs : s.size≤140737488355328) (hx : x.size≤140737488355328) (hst : StoAt w p m n D) (hT : Tb w) (h0 : eJ s=0) (hp : PpSaid Tb (tJ s) gs) (hc : atK D x=.lit (.int .i64 c)) :
  Calls Tryz.prog 39 #[.pointer (some ⟨p,0,none⟩),.string x,.string s,.func (Fn.func 40) #[] #[]] w fun e w'=>Below w.heap.size w w'∧∃ A cp,e=.returned (.tuple #[.pointer (some ⟨c,0,none⟩),.slice A gs.length cp,.int .i64 0])∧StagesOk Tb w' (.slice A gs.length cp) gs:=by
 have HP:=hid (parse_ok hD hN hL s w hs hT h0)
 have HK:=hid (parsed_okA h0)
 have HSt:=hid hst
 have HT : Hid (∀ w' : World,Below w.heap.size w w'→Tb w'):=fun w' hb=>hL w hT w w' hT hb
 have HF : Hid (∀ (v : Value) (w0 w1 : World),At w0 13 v (tJ s)→Below w0.heap.size w0 w1→Tb w1→Calls Tryz.prog 40 #[v] w1 fun e w'=>Below w1.heap.size w1 w'∧∃ A c,e=.returned (.tuple #[.slice A gs.length c,.int .i64 0])∧Sat w0 w' (newB w1 w') (fun x=>StagesOk Tb x (.slice A gs.length c) gs)):=fun v w0 w1 ha hb ht=>pParse_any hL (tJ s) gs hp v w0 w1 ha HK.out hb ht
 have Hc:=hid hc
 clear hT hD hN hL h0 hst hp hc
 go_enter Tryz.func39,Tryz.ntmps39
 go_wp2_with fail
 refine HP.out.mono ?_
 rintro e w1 ⟨b1,A,B,C,D',rfl,ha⟩
 have HBa : Hid (Below w1.heap.size w1 (w1.alloc (.cells #[.int .i64 (kindOf (tJ s)),.int .i64 (nOf (tJ s)),.string (sOf (tJ s)),.slice A (nL (tJ s)) B,.slice C (nK (tJ s)) D'] 36))):=(Below.refl _ _).alloc (Nat.le_refl _) _
 have HB2:=hid (b1.trans (HBa.out.mono b1.size))
 have HC:=hid (HF.out _ w1 _ ha HBa.out (HT.out _ HB2.out))
 clear b1 ha HP
 go_wp2_with fail
 refine HC.out.mono ?_
 rintro e w3 ⟨b3,A3,c3,rfl,hsat⟩
 have HB3:=hid (HB2.out.trans (b3.mono HB2.out.size))
 have HG:=hid (hsat.at (HBa.out.trans (b3.mono HBa.out.size)))
 have HS3:=hid (HSt.out.keep HB3.out)
 have c0:=HS3.out.cell
 clear b3 hsat HC HBa HB2 HSt HF HT
 rcases HS3.out.look x hx with ⟨hrun,hat⟩ | ⟨c',hrun,hat⟩
 ·rw [Hc.out] at hat; cases hat
 ·rw [Hc.out] at hat
  obtain rfl:=lit_inj hat
  clear hat
  go_wp2_with fail
  refine bodyPost_ret (v:=.tuple #[.pointer (some ⟨c,0,none⟩),.slice A3 gs.length c3,.int .i64 0]) (by simp [results,Tryz.results39,go_sem, *]) rfl ?_
  exact ⟨HB3.out,A3,c3,rfl,HG.out⟩
set_option maxHeartbeats 4000000 in
set_option maxRecDepth 100000 in
theorem task_any {Tb : World→Prop} (hD : DecSaid Tb) (hN : IntSaid Tb) (hL : Lies Tb) (p m n : Nat) (D : DataW Unit) (x s : ByteArray) (gs : List StgF) (c : Nat) (w : World) (hs : s.size≤140737488355328) (hx : x.size≤140737488355328) (hst : StoAt w p m n D) (hT : Tb w) (h0 : eJ s=0) (hp : PpSaid Tb (tJ s) gs) (hc : atK D x=.lit (.int .i64 c)) :
  Calls Tryz.prog 22 #[.pointer (some ⟨p,0,none⟩),.string x,.string s] w fun e w'=>Below w.heap.size w w'∧∃ A cp,e=.returned (.tuple #[.pointer (some ⟨c,0,none⟩),.slice A gs.length cp,.int .i64 0])∧StagesOk Tb w' (.slice A gs.length cp) gs:=by
 have HC:=hid (readP_ok hD hN hL p m n D x s gs c w hs hx hst hT h0 hp hc)
 clear hD hN hL hst hT hs hx h0 hp hc
 go_enter Tryz.func22,Tryz.ntmps22
 go_wp2_with fail
 refine HC.out.mono ?_
 rintro e w1 ⟨b1,A,cp,rfl,h4⟩
 have HB:=hid b1
 have H1:=hid h4
 clear b1 h4 HC
 go_wp2_with fail
 refine bodyPost_ret (v:=.tuple #[.pointer (some ⟨c,0,none⟩),.slice A gs.length cp,.int .i64 0]) (by simp [results,Tryz.results22,go_sem, *]) rfl ?_
 exact ⟨HB.out,A,cp,rfl,H1.out⟩
def RunPost (gs : List StgF) (l : List T) (w : World) (e : Ending) (w' : World) : Prop :=
 Below w.heap.size w w'∧((∃ (i k : Nat) (x : Int) (sv : Value),pipE gs l 0=.inl (i,k,x)∧x≠0∧e=.returned (.tuple #[sv,.int .i64 i,.int .i64 k,.int .i64 x])∧w'.ownsRow w.heap.size 9 1 sv 0 []) ∨
  ∃ r sv,pipE gs l 0=.inr r∧e=.returned (.tuple #[sv,.int .i64 0,.int .i64 0,.int .i64 0])∧w'.ownsRow w.heap.size 9 1 sv r.length (r.map fun t=>.string (prT t))∧r.length≤1000000)
set_option maxHeartbeats 8000000 in
set_option maxRecDepth 100000 in
theorem run_any {Tb : World→Prop} (hA : StoreSaid Tb) (p m n : Nat) (D : DataW Unit) (x s : ByteArray) (gs : List StgF) (c : Nat) (l : List T) (w : World) (hs : s.size≤140737488355328) (hx : x.size≤140737488355328) (hst : StoAt w p m n D) (hT : Tb w) (h0 : eJ s=0) (hp : PpSaid Tb (tJ s) gs) (hc : atK D x=.lit (.int .i64 c))
  (q0 : ∃ dv,w.cell? ⟨c,0,none⟩=some dv∧DocsAt w dv l) (hcl : c<w.heap.size) :
  Calls Tryz.prog 10 #[.pointer (some ⟨p,0,none⟩),.string x,.string s] w (RunPost gs l w):=by
 have HC:=hid (task_any hA.dec hA.int hA.lies p m n D x s gs c w hs hx hst hT h0 hp hc)
 obtain ⟨dv,q0,hd⟩:=q0
 have Hd:=hid hd
 obtain ⟨DA,dc,hdv,_⟩:=hd
 subst hdv
 have Hq : Hid (∀ w' : World,Below w.heap.size w w'→w'.cell? ⟨c,0,none⟩=some (.slice DA l.length dc)):=fun w' hb=>(hb.cell (p:=⟨c,0,none⟩) hcl).trans q0
 have HT : Hid (∀ w' : World,Below w.heap.size w w'→Tb w'):=fun w' hb=>hA.lies w hT w w' hT hb
 have HRn : Hid (∀ (pv dv : Value) (w : World),StagesOk Tb w pv gs→DocsAt w dv l→Tb w→Calls Tryz.prog 23 #[pv,dv] w (RnPost gs l w)):=fun pv dv w h1 h2 h3=>pipe_any hA.lies pv dv gs l w h1 h2 h3
 have HPr : Hid (∀ (d : T) (La : Option Addr) (Lc : Nat) (w : World),ElemsAt w 13 La d→nL d≤1000000→Tb w→Calls Tryz.prog 24 #[.slice La (nL d) Lc] w fun e w'=>Below w.heap.size w w'∧∃ sv,e=.returned sv∧w'.ownsRow w.heap.size 9 1 sv (nL d) (prL d (nL d))):=fun d La Lc w h1 h2 h3=>printed_docs hA.valid hA.fmt hA.lies d 13 La Lc w h1 h2 h3
 clear hst hT hs hx hc hA h0 hp q0
 go_enter Tryz.func10,Tryz.ntmps10
 go_wp2_with fail
 refine HC.out.mono ?_
 rintro e w1 ⟨b1,A,cp,rfl,h4⟩
 have HB1:=hid b1
 have q1:=Hq.out _ b1
 have HM:=hid (HRn.out _ _ w1 h4 (Hd.out.keep b1) (HT.out _ b1))
 clear b1 h4 HC HRn
 go_wp2_with fail
 refine HM.out.mono ?_
 rintro e w2 ⟨b2,⟨i,k,er,h1,h2,rfl⟩ | ⟨r,v,h1,rfl,h3⟩⟩
 ·have HB2:=hid (HB1.out.trans (b2.mono HB1.out.size))
  have HBa : Hid (Below w2.heap.size w2 (w2.alloc (.cells #[.int .i64 (i : Nat),.int .i64 (k : Nat),.int .i64 er] 57))):=(Below.refl _ _).alloc (Nat.le_refl _) _
  have HB3:=hid (HB2.out.trans (HBa.out.mono HB2.out.size))
  have HP : Hid (Calls Tryz.prog 24 #[.slice none 0 0] (w2.alloc (.cells #[.int .i64 (i : Nat),.int .i64 (k : Nat),.int .i64 er] 57)).drew fun e w'=>Below (w2.alloc (.cells #[.int .i64 (i : Nat),.int .i64 (k : Nat),.int .i64 er] 57)).drew.heap.size (w2.alloc (.cells #[.int .i64 (i : Nat),.int .i64 (k : Nat),.int .i64 er] 57)).drew w'∧∃ sv,e=.returned sv∧w'.ownsRow (w2.alloc (.cells #[.int .i64 (i : Nat),.int .i64 (k : Nat),.int .i64 er] 57)).drew.heap.size 9 1 sv 0 []):=HPr.out (mkT 5 0 ByteArray.empty [] []) none 0 _ (fun i hi=>absurd hi (Nat.not_lt_zero i)) (Nat.zero_le _) (HT.out _ HB3.out.drew)
  have HF:=hid (And.intro h1 h2)
  have HSo : Hid (∀ wx : World,Below (w2.alloc (.cells #[.int .i64 (i : Nat),.int .i64 (k : Nat),.int .i64 er] 57)).heap.size (w2.alloc (.cells #[.int .i64 (i : Nat),.int .i64 (k : Nat),.int .i64 er] 57)) wx→(fun wx=>wx.cell? ⟨w2.heap.size,0,none⟩=some (.int .i64 (i : Nat))∧wx.cell? ⟨w2.heap.size,1,none⟩=some (.int .i64 (k : Nat))∧wx.cell? ⟨w2.heap.size,2,none⟩=some (.int .i64 er)) wx):=fun wx hb=>⟨(hb.cell (p:=⟨w2.heap.size,0,none⟩) (by simp)).trans (by simp [go_sem]),(hb.cell (p:=⟨w2.heap.size,1,none⟩) (by simp)).trans (by simp [go_sem]),(hb.cell (p:=⟨w2.heap.size,2,none⟩) (by simp)).trans (by simp [go_sem])⟩
  have HSd:=hid (HSo.out _ (below_drew _))
  clear b2 h1 h2 HM HPr
  go_wp2_with fail
  go_region_held3 (fun wx=>wx.cell? ⟨w2.heap.size,0,none⟩=some (.int .i64 (i : Nat))∧wx.cell? ⟨w2.heap.size,1,none⟩=some (.int .i64 (k : Nat))∧wx.cell? ⟨w2.heap.size,2,none⟩=some (.int .i64 er)) (first | exact hc5 | exact HSd.out) ((go_at_call 24; refine HP.out.mono ?_; rintro e5 w5 ⟨hb5,sv,rfl,ho5⟩; have hc5:=HSo.out _ ((below_drew _).trans hb5)))
  have HB5:=hid (HB3.out.trans (((below_drew _).trans hb5).mono HB3.out.size))
  have HO:=hid (row_base ho5 (HB3.out.drew.size))
  clear hb5 ho5 hc5 HSd HSo HP
  go_wp2_with fail
  refine bodyPost_ret (v:=.tuple #[sv,.int .i64 (i : Nat),.int .i64 (k : Nat),.int .i64 er]) (by simp [results,Tryz.results10,go_sem, *]) rfl ?_
  exact ⟨HB5.out,.inl ⟨i,k,er,sv,HF.out.1,HF.out.2,rfl,HO.out⟩⟩
 ·obtain ⟨RA,rc,hrv,hn,hz1,hz2,hel,hz3⟩:=h3
  subst hrv
  clear hz1 hz2 hz3
  have HB2:=hid (HB1.out.trans (b2.mono HB1.out.size))
  have HBa : Hid (Below w2.heap.size w2 (w2.alloc (.cells #[.int .i64 0,.int .i64 0,.int .i64 0] 57))):=(Below.refl _ _).alloc (Nat.le_refl _) _
  have HB3:=hid (HB2.out.trans (HBa.out.mono HB2.out.size))
  have HP:=hid (HPr.out (mkT 5 0 ByteArray.empty r []) RA rc (w2.alloc (.cells #[.int .i64 0,.int .i64 0,.int .i64 0] 57)).drew (hel.keep HBa.out.drew) (by rw [nL_mk]; exact hn) (HT.out _ HB3.out.drew))
  rw [nL_mk,prL_mk _ _ _ _ _ _ (Nat.le_refl _),List.take_length] at HP
  have HF:=hid (And.intro h1 hn)
  have HSo : Hid (∀ wx : World,Below (w2.alloc (.cells #[.int .i64 0,.int .i64 0,.int .i64 0] 57)).heap.size (w2.alloc (.cells #[.int .i64 0,.int .i64 0,.int .i64 0] 57)) wx→(fun wx=>wx.cell? ⟨w2.heap.size,0,none⟩=some (.int .i64 0)∧wx.cell? ⟨w2.heap.size,1,none⟩=some (.int .i64 0)∧wx.cell? ⟨w2.heap.size,2,none⟩=some (.int .i64 0)) wx):=fun wx hb=>⟨(hb.cell (p:=⟨w2.heap.size,0,none⟩) (by simp)).trans (by simp [go_sem]),(hb.cell (p:=⟨w2.heap.size,1,none⟩) (by simp)).trans (by simp [go_sem]),(hb.cell (p:=⟨w2.heap.size,2,none⟩) (by simp)).trans (by simp [go_sem])⟩
  have HSd:=hid (HSo.out _ (below_drew _))
  clear b2 h1 hn hel HM HPr
  go_wp2_with fail
  go_region_held3 (fun wx=>wx.cell? ⟨w2.heap.size,0,none⟩=some (.int .i64 0)∧wx.cell? ⟨w2.heap.size,1,none⟩=some (.int .i64 0)∧wx.cell? ⟨w2.heap.size,2,none⟩=some (.int .i64 0)) (first | exact hc5 | exact HSd.out) ((go_at_call 24; refine HP.out.mono ?_; rintro e5 w5 ⟨hb5,sv,rfl,ho5⟩; have hc5:=HSo.out _ ((below_drew _).trans hb5)))
  have HB5:=hid (HB3.out.trans (((below_drew _).trans hb5).mono HB3.out.size))
  have HO:=hid (row_base ho5 (HB3.out.drew.size))
  clear hb5 ho5 hc5 HSd HSo HP
  go_wp2_with fail
  refine bodyPost_ret (v:=.tuple #[sv,.int .i64 0,.int .i64 0,.int .i64 0]) (by simp [results,Tryz.results10,go_sem, *]) rfl ?_
  exact ⟨HB5.out,.inr ⟨r,sv,HF.out.1,rfl,HO.out,HF.out.2⟩⟩
end Go.Proofs.YtknakfpciccoaabGreatDoor
/- Run, of a store as names and documents. -/
namespace Go.Proofs.YtknakfpciccoaabGreatDoor
open Go.RowKit Go.Maps Go.WideMaps
theorem row_cap {w : World} {lo : Nat} {e : TypeId} {s n c : Nat} {A : Option Addr} {xs : List Value} (h : w.ownsRow lo e s (.slice A n c) n xs) : n≤c∧c≤9223372036854775807:=by
 rcases h.2 with ⟨h1,h2⟩ | ⟨g,cap,cur,h1,_,_,h2,h3,_⟩
 ·simp only [Value.slice.injEq] at h1
  omega
 ·simp only [Value.slice.injEq] at h1
  unfold maxLen at h3
  omega
theorem run_st {Tb : World→Prop} (hA : StoreSaid Tb) {B : Nat} {w : World} {p n : Nat} {S : ByteArray→Option (List T)} (h : StP B w p n S) (x s : ByteArray) (l : List T) (gs : List StgF) (hx : x.size≤140737488355328) (hs : s.size≤140737488355328) (hS : S x=some l) (hl : l.length≤1000000) (he : eJ s=0) (hp : PpSaid Tb (tJ s) gs) (hT : Tb w) :
  Calls Tryz.prog 10 #[.pointer (some ⟨p,0,none⟩),.string x,.string s] w (RunPost gs l w):=by
 obtain ⟨L,m,D,lf,vf,xf,h1,h2,h3,h4⟩:=h
 obtain ⟨c,hc,hlc⟩ : ∃ c : Nat,atK D x=.lit (.int .i64 c)∧lf c=l:=by
  rcases h4 x with ⟨h,_⟩ | ⟨c,hc,h⟩
  ·rw [hS] at h; cases h
  ·rw [hS] at h; exact ⟨c,hc,(Option.some.inj h).symm⟩
 have hco:=h1.col x c hc
 have hto:=h1.toCol hc
 obtain ⟨La,Lc,hv,hel⟩:=hto.elems
 have hrow:=hto.row
 rw [hv,hlc] at hrow
 have hcp:=row_cap hrow
 have hcell:=hto.cell
 rw [hv,hlc] at hcell
 rw [hlc] at hel
 have hdoc:=hco.doc
 rw [hlc] at hdoc
 exact run_any hA p m n D x s gs c l w hs hx h1.sto hT he hp hc ⟨_,hcell,La,Lc,rfl,hl,hcp.1,hcp.2,hel,fun i hi=>(hdoc i hi).1⟩ hto.low
end Go.Proofs.YtknakfpciccoaabGreatDoor
