import Derived.Test.YtknakfpciccoaabGreatDoorZU32
import Derived.Test.YtknakfpciccoaabGreatDoorZU28
import Derived.Test.YtknakfpciccoaabGreatDoorZU24
import Derived.Test.YtknakfpciccoaabGreatDoorZU26
import Derived.Test.YtknakfpciccoaabGreatDoorZU27
import Derived.Test.YtknakfpciccoaabGreatDoorZU31
/- The walk of a group's run: $group is a stage. -/
namespace Go.Proofs.YtknakfpciccoaabGreatDoor
open Go.RowKit
def grpS (gb:T→Int⊕T) (es:List (ByteArray×(T→Int⊕T))) (ks:List ByteArray) (l:List T):(Nat×Int)⊕List T:=match eachE (takE gb es) l 0 [] with
 | .inl e=>.inl e
 | .inr st=>eachE emE (st.map (grpT ks)) 0 []
theorem row_cells5 {w wr:World} {lo g n cap:Nat} {xs:List Value} (h:w.ownsRow lo 36 5 (.slice (some ⟨g,0,none⟩) n cap) n xs) {k:Nat} (hk:k<n) {u0 u1 u2 u3 u4:Value} (hf:fv xs k=.agg #[u0,u1,u2,u3,u4]) (hb:wr.heap[g]?=w.heap[g]?) :
  wr.cell? ⟨g,0+k*5,none⟩=some u0∧wr.cell? ⟨g,0+k*5+1,none⟩=some u1∧wr.cell? ⟨g,0+k*5+2,none⟩=some u2∧wr.cell? ⟨g,0+k*5+3,none⟩=some u3∧wr.cell? ⟨g,0+k*5+4,none⟩=some u4:=by
 have hx:xs.length=n*5:=h.1
 unfold fv at hf
 simp only [Value.agg.injEq,Array.mk.injEq,List.cons.injEq,and_true] at hf
 have hc:∀ r,r<5→wr.cell? ⟨g,0+k*5+r,none⟩=some (cx xs (k*5+r)):=fun r hr'=>by
  rw [cell_of hb,show 0+k*5+r=k*5+r by omega]
  exact row_cell h (cx_some (by omega))
 refine ⟨?_,?_,?_,?_,?_⟩
 ·rw [← hf.1];exact hc 0 (by omega)
 ·rw [← hf.2.1];exact hc 1 (by omega)
 ·rw [← hf.2.2.1];exact hc 2 (by omega)
 ·rw [← hf.2.2.2.1];exact hc 3 (by omega)
 ·rw [← hf.2.2.2.2];exact hc 4 (by omega)
set_option maxHeartbeats 4000000 in
set_option maxRecDepth 100000 in
theorem gsecond_any {Tb:World→Prop} (hV:ValidSaid Tb) (hL:Lies Tb) (w0 w2:World) (c:Nat) (NA:Option Addr) (nc:Nat) (bv ev:Value) (ops:List ByteArray) (L:Nat→Lab) (gv:Value) (xs:List Value) (rb:Nat→Nat) (ys:Nat→List Value) (st:List (T×List T)) (ks:List ByteArray) (h:GrI w0 c NA nc bv ev ops L gv xs rb ys st w2) (hb:Below w0.heap.size w0 w2) (hk:StrsAt w0 (.slice NA (ops.length+1) nc) ks) (ho:ops.length≤100000) (hn:st.length≤1000000) (hT:Tb w0) :
  Calls Tryz.prog 225 #[.pointer (some ⟨c,0,none⟩),gv,.func (Fn.func 227) #[.pointer (some ⟨c,0,none⟩)] #[]] w2 fun e w'=>Below w0.heap.size w2 w'∧((∃ (k:Nat) (x:Int),eachE emE (st.map (grpT ks)) 0 []=.inl (k,x)∧x≠0∧e=.returned (.tuple #[.slice none 0 0,.int .i64 k,.int .i64 x]))∨∃ r v,eachE emE (st.map (grpT ks)) 0 []=.inr r∧e=.returned (.tuple #[v,.int .i64 0,.int .i64 0])∧DocsAt w' v r):=by
 obtain ⟨GA,gc,rfl,_⟩:=h.elems hb hk ho
 have hcl:=h.low c (by rw [h.lc];intro e;cases e)
 have hlen:(st.map (grpT ks)).length=st.length:=List.length_map _
 have hat:∀ i,(hi:i<(st.map (grpT ks)).length)→AtP (fun b=>b≠c) w2 15 (fv xs i) (st.map (grpT ks))[i]:=fun i hi=>by
  rw [List.getElem_map]
  exact h.grpP hb hk ho (by rw [hlen] at hi;exact hi)
 have hmain:=eachG_any emE (fun k s w'=>s=(st.map (grpT ks)).take k∧∃ v zs,EmI w2 c xs k v zs w') 227 (fun _ _=>rfl) (.pointer (some ⟨c,0,none⟩)) c GA gc (st.map (grpT ks)) [] w0 w2 (by rw [hlen];exact hn) ⟨rfl,_,_,EmI.start xs h.c0 h.f0 hcl.2⟩
  (fun k s w' hI=>by obtain ⟨_,v,zs,hE⟩:=hI;exact ⟨v,hE.made.cell⟩)
  (fun k s w' hI=>by obtain ⟨_,v,zs,hE⟩:=hI;exact Nat.le_trans hb.size hE.size)
  (fun k s d wr hkl hd hI=>by
   obtain ⟨hs,v,zs,hE⟩:=hI
   have ha:=hat k hkl
   rw [hd] at ha
   obtain ⟨g1,A,C,B,D,_,hf,_,_,_⟩:=ha.at.open
   have hks:k<st.length:=by rw [hlen] at hkl;exact hkl
   have hg:=h.grow
   rcases h.grow.2 with ⟨e1,h0⟩ | ⟨g,cap,cur,e1,hb0,hgb,rest⟩
   ·omega
   ·simp only [Value.slice.injEq,true_and] at e1
    obtain ⟨rfl,rfl⟩:=e1
    have hgl:=h.gl g rfl
    have hgw:=h.low g (by rw [hgl];intro e;cases e)
    obtain ⟨p0,p1,p2,p3,p4⟩:=row_cells5 hg hks hf (hE.block g hgw.2 (fun e=>by rw [e,h.lc] at hgl;cases hgl))
    refine ⟨g,0,A,B,C,D,rfl,p0,p1,p2,p3,p4,fun wx hbx=>?_⟩
    rw [hf] at ha
    have hTx:Tb wx:=hL w0 hT w0 wx hT (by
     have h':=hE.keep hbx
     exact ⟨h'.os.trans hb.os,h'.tape.trans hb.tape,h'.output.trans hb.output,Nat.le_trans hb.size h'.size,fun b hb'=>(h'.block b (Nat.lt_of_lt_of_le hb' hb.size) (by omega)).trans (hb.block b hb')⟩)
    refine (emit_em hV hL w2 w0 wr wx c k xs v zs s d A C B D hE hbx (by omega) hcl.1 hcl.2 hf ha hTx).mono ?_
    rintro e w' ⟨k1,k2 | ⟨s',k2,k3,k4,k5⟩⟩
    ·exact ⟨k1,.inl k2⟩
    ·refine ⟨k1,.inr ⟨s',k2,k3,?_,k5⟩⟩
     rw [k4,hs,List.take_add_one,List.getElem?_eq_getElem hkl,hd]
     rfl)
 rw [hlen] at hmain
 refine hmain.mono ?_
 rintro e w' ⟨k1,k2 | ⟨s',v,k2,⟨k3,v',zs,hE⟩,k5,k6⟩⟩
 ·exact ⟨k1,.inl k2⟩
 ·obtain ⟨q1,q2⟩:=emE_all _ _ _ _ k2
  rw [List.nil_append] at q1
  obtain rfl:v'=v:=Option.some.inj (hE.made.cell.symm.trans k5)
  refine ⟨k1,.inr ⟨s',v',k2,k6,?_⟩⟩
  rw [q1]
  rw [← hlen] at hE
  exact hE.docs (by rw [hlen];exact hn) hat q2
end Go.Proofs.YtknakfpciccoaabGreatDoor
/- Small values; the values that paths lead to in the statements' documents; lists of numbers. -/
namespace Go.Proofs.YtknakfpciccoaabGreatDoor
open Go.RowKit
structure Sm (b:T):Prop where
 good:Good 11 b
 bytes:bytesT 11 b≤100
 fit:FitT 4 b
 can:canT 11 b=b
 wr:(wrT 11 b).length≤200
theorem nT_sm {n:Int} (h0:-9223372036854775808≤n) (h1:n≤9223372036854775807):Sm (nT n) :=
 ⟨nT_good n 11,by rw [nT_bytes];omega,⟨(nT_fit h0 h1).1,fun i hi=>absurd hi (Nat.not_lt_zero i),fun i hi=>absurd hi (Nat.not_lt_zero i)⟩,rfl,by rw [nT_wr];have:=Lib.itoa_length_le n h0 h1;omega⟩
def stI:ByteArray:=⟨#[95,105,100]⟩
def stA:ByteArray:=⟨#[97]⟩
def numsT (is:List Int):T:=mkT 5 0 ByteArray.empty (is.map nT) []
theorem nums_elt (is:List Int) {k:Nat} (h:k<is.length):elt (numsT is) k=nT is[k]:=by
 unfold numsT
 rw [elt_mk,List.getD_eq_getElem?_getD,List.getElem?_map,List.getElem?_eq_getElem h]
 rfl
theorem nums_nL (is:List Int):nL (numsT is)=is.length:=by unfold numsT;rw [nL_mk,List.length_map]
def in64 (n:Int):Prop:=-9223372036854775808≤n∧n≤9223372036854775807
theorem nums_good (is:List Int) (m:Nat):Good (m+1) (numsT is) :=
 .inr ⟨rfl,noText_mk _ _ _ _,fun i hi=>by rw [nums_nL] at hi;rw [nums_elt is hi];exact nT_good _ m,.inl ⟨rfl,rfl⟩⟩
theorem nums_sum (is:List Int):∀ k,k≤is.length→sumL (bytesT 10) (numsT is) k=9*k
 | 0,_=>rfl
 | k+1,h=>by
  have e:bytesT 10 (nT is[k])=9:=by kernel_rfl
  rw [sumL,nums_sum is k (by omega),nums_elt is (by omega),e]
  omega
theorem nums_bytes (is:List Int):bytesT 11 (numsT is)=5+9*is.length:=by
 have e:bytesT 11 (numsT is)=5+sumL (bytesT 10) (numsT is) (nL (numsT is)):=rfl
 rw [e,nums_nL,nums_sum is _ (Nat.le_refl _)]
theorem fits_small5 (is:List Int) (hn:is.length≤100):Fits (numsT is) :=
 ⟨by show (-9223372036854775808:Int)≤5;omega,by show (5:Int)≤9223372036854775807;omega,by show (-9223372036854775808:Int)≤0;omega,by show (0:Int)≤9223372036854775807;omega,by show (0:Nat)≤_;omega,by rw [nums_nL];omega,by show (0:Nat)≤_;omega⟩
theorem nums_fit {is:List Int} (hn:is.length≤100) (h:∀ x ∈ is,in64 x):FitT 4 (numsT is):=by
 refine ⟨fits_small5 is hn,fun i hi=>?_,fun i hi=>absurd hi (Nat.not_lt_zero i)⟩
 rw [nums_nL] at hi
 rw [nums_elt is hi]
 have:=h is[i] (List.getElem_mem hi)
 exact nT_fit this.1 this.2
theorem nums_can (is:List Int):canT 11 (numsT is)=numsT is:=by
 show mkT 5 0 ByteArray.empty ((is.map nT).map (canT 10)) []=_
 rw [List.map_map]
 rfl
theorem nums_join {is:List Int} (h:∀ x ∈ is,in64 x):∀ k,k≤is.length→(joinL (wrT 10) (numsT is) k).length≤22*k
 | 0,_=>Nat.le_refl _
 | k+1,hk=>by
  have h1:=nums_join h k (by omega)
  have h2:=h is[k] (List.getElem_mem (by omega))
  have h3:=Lib.itoa_length_le is[k] h2.1 h2.2
  have e:wrT 10 (nT is[k])=Lib.itoa is[k]:=by
   rw [wrT_leaf (by show (3:Int)≠5;decide) (by show (3:Int)≠6;decide)]
   rfl
  rw [joinL,nums_elt is (by omega),e,List.length_append,List.length_append]
  by_cases e0:k=0
  ·rw [if_pos e0]
   simp only [List.length_nil]
   omega
  ·rw [if_neg e0]
   simp only [List.length_cons,List.length_nil]
   omega
theorem nums_wr {is:List Int} (h:∀ x ∈ is,in64 x):(wrT 11 (numsT is)).length≤2+22*is.length:=by
 have e:wrT 11 (numsT is)=91::(joinL (wrT 10) (numsT is) (nL (numsT is))++[93]):=rfl
 have:=nums_join h is.length (Nat.le_refl _)
 rw [e,nums_nL,List.length_cons,List.length_append]
 simp only [List.length_cons,List.length_nil]
 omega
end Go.Proofs.YtknakfpciccoaabGreatDoor
/- What the groups of Summed are. -/
namespace Go.Proofs.YtknakfpciccoaabGreatDoor
open Go.RowKit
def idE (d:T):Int⊕T:=.inr (orNull [stI] d)
theorem acc_list {g:T→Int⊕T} {s doc:T} {a:Int} (hg:g doc=.inr (nT a)):accS g gList s doc=.inr (mkT 5 0 ByteArray.empty (lOf s++[nT a]) []):=by
 unfold accS
 rw [if_pos rfl,hg]
theorem rowE_cons {doc:T} {op:ByteArray} {g:T→Int⊕T} {es:List (ByteArray×(T→Int⊕T))} {k:Nat} {a:List T} {x t:T} {a':List T} (hx:a.getD k zeroT=x) (h:accS g op x doc=.inr t) (ha:a.set k t=a'):rowE doc ((op,g)::es) k a=rowE doc es (k+1) a':=by
 subst hx
 subst ha
 rw [rowE,h]
theorem modify_last {α:Type} (x:α) (f:α→α):∀ A:List α,(A++[x]).modify A.length f=A++[f x]
 | []=>rfl
 | a::r=>by
  have:=modify_last x f r
  rw [List.cons_append,List.length_cons,List.modify_succ_cons,this]
  rfl
end Go.Proofs.YtknakfpciccoaabGreatDoor
/- value: one text for each number, in whatever world. -/
namespace Go.Proofs.YtknakfpciccoaabGreatDoor
open Go.RowKit
end Go.Proofs.YtknakfpciccoaabGreatDoor
/- test of the statements. -/
namespace Go.Proofs.YtknakfpciccoaabGreatDoor
open Go.RowKit
end Go.Proofs.YtknakfpciccoaabGreatDoor
/- test of the statements: the other kinds. -/
namespace Go.Proofs.YtknakfpciccoaabGreatDoor
open Go.RowKit
end Go.Proofs.YtknakfpciccoaabGreatDoor
/- Texts that are what is printed of a tree: how they are put together. -/
namespace Go.Proofs.YtknakfpciccoaabGreatDoor
open Go.RowKit
structure Rep (f:Nat) (t:T) (s:ByteArray) (n:Nat):Prop where
 wr:s.data.toList=wrT f t
 fit:FitT (f+1) t
 good:Good f t
 can:canT f t=t
 size:s.size≤n
theorem Rep.parse {t:T} {s:ByteArray} {n:Nat} (h:Rep 12 t s n) (hn:n≤4000):eJ s=0∧tJ s=t:=by
 have e:=ba_list h.wr
 have hz:=h.size
 have h1:s.size=(wrT 12 t).length:=by rw [← h.wr];rfl
 have hp:=parse_tree h.fit h.good (by omega)
 rw [h.can] at hp
 rw [e]
 exact hp
end Go.Proofs.YtknakfpciccoaabGreatDoor
/- filled: a store with documents out of raw numbers. -/
namespace Go.Proofs.YtknakfpciccoaabGreatDoor
open Go.RowKit
def RawAt (w:World) (v:Value) (n:Nat):Prop :=
 ∃ A c,v=.slice A n c∧n≤1000000000000000∧∀ i,i<n→∃ b o z,A=some ⟨b,o,none⟩∧b<w.heap.size∧w.cell? ⟨b,o+i,none⟩=some (.int .i64 z)∧-9223372036854775808≤z∧z≤9223372036854775807
def DocsOf (l:List T):Prop:=∀ k,(h:k<l.length)→∃ i o,i<36∧(∀ j,o=some j→j<36)∧l[k]=docT (k:Int) i o
theorem DocsOf.nil:DocsOf []:=fun k h=>absurd h (Nat.not_lt_zero k)
theorem DocsOf.snoc {l:List T} (h:DocsOf l) {i:Nat} {o:Option Nat} (hi:i<36) (ho:∀ j,o=some j→j<36):DocsOf (l++[docT (l.length:Int) i o]):=by
 intro k hk
 rw [List.length_append,List.length_cons,List.length_nil] at hk
 by_cases e:k<l.length
 ·obtain ⟨a,b,c,d,e1⟩:=h k e
  exact ⟨a,b,c,d,by rw [List.getElem_append_left e];exact e1⟩
 ·obtain rfl:k=l.length:=by omega
  exact ⟨i,o,hi,ho,by rw [List.getElem_append_right (by omega)];simp⟩
theorem anyL_none {p:T→Bool} {t:T}:∀ k,(∀ i,i<k→p (elt t i)=false)→anyL p t k=false
 | 0,_=>rfl
 | k+1,h=>by
  rw [anyL,anyL_none k (fun i hi=>h i (by omega)),h k (by omega)]
  rfl
theorem DocsOf.fresh {l:List T} (h:DocsOf l) (i:Nat) (o:Option Nat):anyL (sameId (idT (docT (l.length:Int) i o))) (mkT 5 0 ByteArray.empty l []) l.length=false:=by
 refine anyL_none _ fun k hk=>?_
 have e:elt (mkT 5 0 ByteArray.empty l []) k=l[k]:=by rw [elt_mk,List.getD_eq_getElem?_getD,List.getElem?_eq_getElem hk];rfl
 obtain ⟨a,b,_,_,e1⟩:=h k hk
 rw [e,e1,docT_id,doc_same]
 simp
 omega
abbrev nX:ByteArray:=⟨#[120]⟩
abbrev nY:ByteArray:=⟨#[121]⟩
def two (l m:Option (List T)):ByteArray→Option (List T):=setS (setS (fun _=>none) nX l) nY m
theorem two_x (l m:Option (List T)):two l m nX=l:=by unfold two;rw [setS_other _ _ (by decide),setS_same]
theorem two_y (l m:Option (List T)):two l m nY=m:=by unfold two;rw [setS_same]
theorem two_none (l m:Option (List T)) {z:ByteArray} (h1:z≠nX) (h2:z≠nY):two l m z=none:=by unfold two;rw [setS_other _ _ h2,setS_other _ _ h1]
theorem two_setx (l m k:Option (List T)):setS (two l m) nX k=two k m:=by
 funext z
 unfold two
 by_cases h1:z=nX
 ·subst h1;rw [setS_same,setS_other _ _ (by decide),setS_same]
 ·rw [setS_other _ _ h1]
  by_cases h2:z=nY
  ·subst h2;rw [setS_same,setS_same]
  ·rw [setS_other _ _ h2,setS_other _ _ h1,setS_other _ _ h2,setS_other _ _ h1]
theorem two_sety (l m k:Option (List T)):setS (two l m) nY k=two l k:=by
 funext z
 unfold two
 by_cases h2:z=nY
 ·subst h2;rw [setS_same,setS_same]
 ·rw [setS_other _ _ h2,setS_other _ _ h2,setS_other _ _ h2]
theorem one_two (l:Option (List T)):setS (setS (fun _=>none) nX l) nY (some [])=two l (some []):=rfl
abbrev allS:ByteArray:=⟨#[123,125]⟩
theorem allS_e:eJ allS=0:=by kernel_rfl
theorem allS_t:tJ allS=mkT 6 0 ByteArray.empty [] []:=by kernel_rfl
theorem allS_ok:okFil 16 (tJ allS)=true:=by rw [allS_t];kernel_rfl
theorem allS_ev (d:T):evF 16 (tJ allS) d=true:=by rw [allS_t];rfl
theorem all_filter (l:List T):l.filter (evF 16 (tJ allS))=l:=by
 rw [List.filter_eq_self]
 exact fun a _=>allS_ev a
end Go.Proofs.YtknakfpciccoaabGreatDoor
/- Summed, without the program: the groups, as documents. -/
namespace Go.Proofs.YtknakfpciccoaabGreatDoor
open Go.RowKit
theorem q6:(quoL ⟨#[95,105,100]⟩).length=5∧(quoL ⟨#[110]⟩).length=3∧(quoL ⟨#[115]⟩).length=3∧(quoL ⟨#[108]⟩).length=3∧(quoL ⟨#[102]⟩).length=3∧(quoL ⟨#[109]⟩).length=3:=⟨by kernel_rfl,by kernel_rfl,by kernel_rfl,by kernel_rfl,by kernel_rfl,by kernel_rfl⟩
theorem em_all:∀ (l:List T) (k:Nat) (s:List T),(∀ t ∈ l,tooBig t=false)→eachE emE l k s=.inr (s++l)
 | [],k,s,_=>by simp [eachE]
 | d::r,k,s,h=>by
  have hd:emE s d=.inr (s++[d]):=by
   unfold emE
   rw [h d (List.mem_cons_self ..)]
   rfl
  rw [eachE,hd]
  show eachE emE r (k+1) (s++[d])=_
  rw [em_all r (k+1) (s++[d]) fun t ht=>h t (List.mem_cons_of_mem _ ht),List.append_assoc]
  rfl
end Go.Proofs.YtknakfpciccoaabGreatDoor
/- Unwound, without the program: what its two pipelines make of the documents. -/
namespace Go.Proofs.YtknakfpciccoaabGreatDoor
open Go.RowKit
def docV (id:Int) (a:T) (o:Option Nat):T:=match o with
 | none=>mkT 6 0 ByteArray.empty [nT id,a] [⟨#[95,105,100]⟩,⟨#[97]⟩]
 | some j=>mkT 6 0 ByteArray.empty [nT id,a,tv j] [⟨#[95,105,100]⟩,⟨#[97]⟩,⟨#[99]⟩]
theorem docV_T (id:Int) (i:Nat) (o:Option Nat):docT id i o=docV id (tv i) o:=by cases o<;>rfl
theorem put_V (id:Int) (a b:T) (o:Option Nat):putT (docV id a o) 1 b=docV id b o:=by cases o<;>rfl
theorem plc_V (id:Int) (a:T) (o:Option Nat):plc stA (docV id a o)=some 1:=by cases o<;>kernel_rfl
theorem elt_V (id:Int) (a:T) (o:Option Nat):elt (docV id a o) 1=a:=by cases o<;>rfl
theorem idV (id:Int) (a:T) (o:Option Nat):orNull [stI] (docV id a o)=nT id:=by
 unfold orNull
 have:fromP [stI] (docV id a o)=some (nT id):=by cases o<;>kernel_rfl
 rw [this]
 rfl
theorem aV (id:Int) (a:T) (o:Option Nat):orNull [stA] (docV id a o)=a:=by
 unfold orNull
 have:fromP [stA] (docV id a o)=some a:=by cases o<;>kernel_rfl
 rw [this]
 rfl
theorem docV_small {id:Int} {a:T} {o:Option Nat} (ha:Sm a) (ho:∀ j,o=some j→j<36):tooBig (docV id a o)=false:=by
 have hg:Good 12 (docV id a o):=by
  refine .inr ⟨by cases o<;>rfl,by cases o<;>exact noText_mk _ _ _ _,fun k hk=>?_,.inr ⟨by cases o<;>rfl,by cases o<;>rfl,by cases o<;>kernel_rfl,by cases o<;>kernel_rfl⟩⟩
  cases o with
  | none =>
   have hk':k<2:=hk
   match k,hk' with
   | 0,_=>exact nT_good id 11
   | 1,_=>exact ha.good
  | some j =>
   have hk':k<3:=hk
   match k,hk' with
   | 0,_=>exact nT_good id 11
   | 1,_=>exact ha.good
   | 2,_=>exact tv_good11 (ho j rfl)
 have hb:bytesT 12 (docV id a o)≤300:=by
  have h1:=ha.bytes
  have h2:=nT_bytes id
  cases o with
  | none =>
   have e:bytesT 12 (docV id a none)=5+sumK (docV id a none) 2+(((0+bytesT 11 (nT id))+bytesT 11 a)):=rfl
   have k:sumK (docV id a none) 2≤50:=by
    have:sumK (docV id a none) 2=sumK (docT 0 0 none) 2:=rfl
    rw [this];decide
   omega
  | some j =>
   have h3:=tv_bytes (ho j rfl)
   have e:bytesT 12 (docV id a (some j))=5+sumK (docV id a (some j)) 3+((((0+bytesT 11 (nT id))+bytesT 11 a))+bytesT 11 (tv j)):=rfl
   have k:sumK (docV id a (some j)) 3≤50:=by
    have:sumK (docV id a (some j)) 3=sumK (docT 0 0 (some 0)) 3:=rfl
    rw [this];decide
   omega
 unfold tooBig
 have hv:isV (docV id a o)=true:=(isV_iff _).2 ⟨hg,by omega⟩
 rw [hv]
 have h1:=encT_len 12 _ hg
 have h3:(encS true (encT 12 (docV id a o))).size=(encT 12 (docV id a o)).length:=baL_size _
 rw [h3]
 simp
 omega
def lstN (a:T):List Int:=(lOf a).map nOf
theorem tv_lists:(List.range 36).map (fun i=>if kindOf (tv i)=5 then numsT (lstN (tv i)) else tv i)=(List.range 36).map tv:=by kernel_rfl
theorem tv_list {i:Nat} (h:i<36) (k5:kindOf (tv i)=5):tv i=numsT (lstN (tv i)):=by
 have:=congrArg (fun l=>l[i]?) tv_lists
 simp only [List.getElem?_map,List.getElem?_range h,Option.map_some,Option.some.injEq] at this
 rw [if_pos k5] at this
 exact this.symm
theorem tv_shortB:((List.range 36).all fun i=>decide ((lstN (tv i)).length≤2)&&(lstN (tv i)).all fun x=>decide (0≤x)&&decide (x<100))=true:=by kernel_rfl
theorem tv_short {i:Nat} (h:i<36):(lstN (tv i)).length≤2∧∀ x ∈ lstN (tv i),0≤x∧x<100:=by
 have:=List.all_eq_true.1 tv_shortB i (List.mem_range.2 h)
 simp only [Bool.and_eq_true,decide_eq_true_eq,List.all_eq_true] at this
 exact this
theorem small_n {x:Int} (h:0≤x∧x<100):Sm (nT x):=nT_sm (by omega) (by omega)
theorem unw_doc {id:Int} {o:Option Nat} (ho:∀ j,o=some j→j<36) (a:T):∀ (es:List Int) (made:List T),(∀ x ∈ es,0≤x∧x<100)→made.length+es.length≤200→unwL (docV id a o) 1 (es.map nT) made=.inr (made++es.map fun x=>docV id (nT x) o)
 | [],made,_,_=>by simp [unwL]
 | x::r,made,hx,hl=>by
  rw [List.length_cons] at hl
  have hb:tooBig (docV id (nT x) o)=false:=docV_small (small_n (hx x (List.mem_cons_self ..))) ho
  rw [List.map_cons,unwL,put_V,hb,if_neg (by decide),if_neg (by omega),unw_doc ho a r _ (fun y hy=>hx y (List.mem_cons_of_mem _ hy)) (by rw [List.length_append,List.length_cons,List.length_nil];omega)]
  simp
structure Dc where
 id:Int
 es:List Int
 o:Option Nat
def Dc.doc (d:Dc):T:=docV d.id (numsT d.es) d.o
def Dc.ok (d:Dc):Prop:=(∀ j,d.o=some j→j<36)∧d.es.length≤2∧∀ x ∈ d.es,0≤x∧x<100
theorem unw_one {d:Dc} (h:d.ok) (made:List T) (hl:made.length+2≤200):unwE stA made d.doc=.inr (made++d.es.map fun x=>docV d.id (nT x) d.o):=by
 unfold Dc.doc
 rw [unw_yes (plc_V _ _ _) (elt_V _ _ _) rfl]
 have e:lOf (numsT d.es)=d.es.map nT:=rfl
 rw [e]
 exact unw_doc h.1 _ d.es made h.2.2 (by have:=h.2.1;omega)
theorem unw_all:∀ (D:List Dc) (k:Nat) (made:List T),(∀ d ∈ D,d.ok)→made.length+2*D.length≤200→eachE (unwE stA) (D.map Dc.doc) k made=.inr (made++D.flatMap fun d=>d.es.map fun x=>docV d.id (nT x) d.o)
 | [],k,made,_,_=>by simp [eachE]
 | d::r,k,made,hd,hl=>by
  rw [List.length_cons] at hl
  have h1:=hd d (List.mem_cons_self ..)
  rw [List.map_cons,eachE,unw_one h1 made (by omega)]
  show eachE (unwE stA) (r.map Dc.doc) (k+1) _=_
  rw [unw_all r (k+1) _ (fun x hx=>hd x (List.mem_cons_of_mem _ hx)) (by rw [List.length_append,List.length_map];have:=h1.2.1;omega),List.flatMap_cons,List.append_assoc]
def aE (d:T):Int⊕T:=.inr (orNull [stA] d)
def es1:List (ByteArray×(T→Int⊕T)):=[(gList,aE)]
def ks2:List ByteArray:=[⟨#[95,105,100]⟩,⟨#[97]⟩]
def toG (p:Int×List Int):T×List T:=(nT p.1,[numsT p.2])
theorem row1 {doc x0 t0:T} (e0:accS aE gList x0 doc=.inr t0):rowE doc es1 0 [x0]=.inr [t0]:=(rowE_cons (a':=[t0]) rfl e0 rfl).trans rfl
theorem gth_G (S:List (Int×List Int)) (id:Int) (h:∀ p ∈ S,p.1≠id):gthI (S.map toG) (nT id)=(S.map toG).length:=by
 refine gthI_none fun j hj=>?_
 rw [List.length_map] at hj
 rw [List.getElem_map]
 show eqT (nT S[j].1) (nT id)=false
 unfold eqT
 rw [nT_cmp]
 exact beq_eq_false_iff_ne.2 (h _ (List.getElem_mem hj))
theorem gth_last (S:List (Int×List Int)) (id:Int) (ys:List Int) (h:∀ p ∈ S,p.1≠id):gthI ((S++[(id,ys)]).map toG) (nT id)=(S.map toG).length:=by
 have hl:(S.map toG).length<((S++[(id,ys)]).map toG).length:=by simp
 refine gthI_found hl ?_ fun j hj hj2=>?_
 ·rw [List.getElem_map,List.getElem_append_right (by simp)]
  simp only [List.length_map,Nat.sub_self,List.getElem_cons_zero]
  show eqT (nT id) (nT id)=true
  unfold eqT
  rw [nT_cmp]
  simp
 ·have hj3:j<S.length:=by simpa using hj2
  rw [List.getElem_map,List.getElem_append_left hj3]
  show eqT (nT S[j].1) (nT id)=false
  unfold eqT
  rw [nT_cmp]
  exact beq_eq_false_iff_ne.2 (h _ (List.getElem_mem hj3))
theorem take_new (S:List (Int×List Int)) (id x:Int) (o:Option Nat) (h:∀ p ∈ S,p.1≠id):takE idE es1 (S.map toG) (docV id (nT x) o)=.inr ((S++[(id,[x])]).map toG):=by
 have hie:=gth_G S id h
 have hg:∀ n,gthS n (S.map toG) (nT id)=S.map toG++[(nT id,List.replicate n zeroT)]:=fun n=>if_neg (by rw [hie];exact Nat.lt_irrefl _)
 have hrow:rowE (docV id (nT x) o) es1 0 (List.replicate 1 zeroT)=.inr [numsT [x]]:=row1 (acc_list (a:=x) (by unfold aE;rw [aV]))
 have hget:∀ (n:Nat) (hh:gthI (S.map toG) (nT id)<(gthS n (S.map toG) (nT id)).length),((gthS n (S.map toG) (nT id))[gthI (S.map toG) (nT id)]'hh).2=List.replicate n zeroT:=by
  intro n hh
  simp only [hg n,hie]
  rw [List.getElem_append_right (Nat.le_refl _)]
  simp
 unfold takE
 have hb:idE (docV id (nT x) o)=.inr (nT id):=by unfold idE;rw [idV]
 rw [hb]
 dsimp only
 rw [hget]
 rw [show es1.length=1 from rfl,hrow]
 dsimp only
 rw [hg 1,hie]
 unfold stRow
 rw [modify_last,List.map_append]
 rfl
theorem take_old (S:List (Int×List Int)) (id x:Int) (ys:List Int) (o:Option Nat) (h:∀ p ∈ S,p.1≠id):takE idE es1 ((S++[(id,ys)]).map toG) (docV id (nT x) o)=.inr ((S++[(id,ys++[x])]).map toG):=by
 have hie:=gth_last S id ys h
 have hl:(S.map toG).length<((S++[(id,ys)]).map toG).length:=by simp
 have hg:∀ n,gthS n ((S++[(id,ys)]).map toG) (nT id)=(S++[(id,ys)]).map toG:=fun n=>if_pos (by rw [hie];exact hl)
 have hrow:rowE (docV id (nT x) o) es1 0 [numsT ys]=.inr [numsT (ys++[x])]:=by
  refine row1 ?_
  rw [acc_list (a:=x) (by unfold aE;rw [aV])]
  have e:lOf (numsT ys)=ys.map nT:=rfl
  rw [e]
  unfold numsT
  rw [List.map_append]
  rfl
 have hget:∀ (n:Nat) (hh:gthI ((S++[(id,ys)]).map toG) (nT id)<(gthS n ((S++[(id,ys)]).map toG) (nT id)).length),((gthS n ((S++[(id,ys)]).map toG) (nT id))[gthI ((S++[(id,ys)]).map toG) (nT id)]'hh).2=[numsT ys]:=by
  intro n hh
  simp only [hg n,hie,List.getElem_map]
  rw [List.getElem_append_right (by simp)]
  simp [toG]
 unfold takE
 have hb:idE (docV id (nT x) o)=.inr (nT id):=by unfold idE;rw [idV]
 rw [hb]
 dsimp only
 rw [hget,hrow]
 dsimp only
 rw [hg,hie]
 unfold stRow
 rw [List.map_append,List.map_append]
 show Sum.inr (((S.map toG)++[toG (id,ys)]).modify (S.map toG).length _)=_
 rw [modify_last]
 rfl
theorem take_doc (id:Int) (o:Option Nat) (S:List (Int×List Int)) (h:∀ p ∈ S,p.1≠id):∀ (es ys:List Int) (k:Nat) (r:List T),ys≠[]→eachE (takE idE es1) ((es.map fun x=>docV id (nT x) o)++r) k ((S++[(id,ys)]).map toG)=eachE (takE idE es1) r (k+es.length) ((S++[(id,ys++es)]).map toG)
 | [],ys,k,r,_=>by simp
 | x::es,ys,k,r,hy=>by
  rw [List.map_cons,List.cons_append,eachE,take_old S id x ys o h]
  show eachE (takE idE es1) _ (k+1) _=_
  rw [take_doc id o S h es (ys++[x]) (k+1) r (by simp),List.append_assoc,List.length_cons]
  rw [show k+1+es.length=k+(es.length+1) by omega]
  rfl
def keepG (D:List Dc):List (Int×List Int):=(D.filter fun d=>!d.es.isEmpty).map fun d=>(d.id,d.es)
theorem take_all:∀ (D:List Dc) (S:List (Int×List Int)) (k:Nat),(D.Pairwise fun a b=>a.id≠b.id)→(∀ p ∈ S,∀ d ∈ D,p.1≠d.id)→eachE (takE idE es1) (D.flatMap fun d=>d.es.map fun x=>docV d.id (nT x) d.o) k (S.map toG)=.inr ((S++keepG D).map toG)
 | [],S,k,_,_=>by simp [eachE,keepG]
 | d::r,S,k,hp,hs=>by
  rw [List.pairwise_cons] at hp
  rw [List.flatMap_cons]
  cases he:d.es with
  | nil =>
   rw [List.map_nil,List.nil_append,take_all r S k hp.2 fun p hp' x hx=>hs p hp' x (List.mem_cons_of_mem _ hx)]
   unfold keepG
   rw [List.filter_cons,if_neg (by rw [he];simp)]
  | cons x es =>
   have hS:∀ p ∈ S,p.1≠d.id:=fun p hp'=>hs p hp' d (List.mem_cons_self ..)
   rw [List.map_cons,List.cons_append,eachE,take_new S d.id x d.o hS]
   show eachE (takE idE es1) _ (k+1) _=_
   rw [take_doc d.id d.o S hS es [x] (k+1) _ (by simp),take_all r _ _ hp.2 (fun p hp' y hy=>by
    rw [List.mem_append,List.mem_singleton] at hp'
    rcases hp' with hp' | rfl
    ·exact hs p hp' y (List.mem_cons_of_mem _ hy)
    ·exact hp.1 y hy),List.append_assoc]
   unfold keepG
   rw [List.filter_cons,if_pos (by rw [he];simp),List.map_cons,he]
   rfl
def resD (p:Int×List Int):T:=mkT 6 0 ByteArray.empty [nT p.1,numsT p.2] ks2
theorem resD_V (p:Int×List Int):resD p=docV p.1 (numsT p.2) none:=rfl
theorem nums_sm {es:List Int} (hl:es.length≤2) (h:∀ x ∈ es,0≤x∧x<100):Sm (numsT es):=by
 have hx:∀ x ∈ es,in64 x:=fun x hx=>by have:=h x hx;unfold in64;omega
 exact ⟨nums_good es 10,by rw [nums_bytes];omega,nums_fit (by omega) hx,nums_can es,by have:=nums_wr hx;omega⟩
theorem unw_grp {D:List Dc} (hd:∀ d ∈ D,d.ok) (hp:D.Pairwise fun a b=>a.id≠b.id) (hl:D.length≤30):∃ U,unwS stA (D.map Dc.doc)=.inr U∧grpS idE es1 ks2 U=.inr ((keepG D).map resD):=by
 refine ⟨_,by unfold unwS;exact unw_all D 0 [] hd (by rw [List.length_nil];omega),?_⟩
 rw [List.nil_append]
 unfold grpS
 have h1:=take_all D [] 0 hp (fun p h=>by cases h)
 rw [List.map_nil,List.nil_append] at h1
 rw [h1]
 show eachE emE (((keepG D).map toG).map (grpT ks2)) 0 []=_
 rw [List.map_map]
 have e:(keepG D).map (grpT ks2 ∘ toG)=(keepG D).map resD:=rfl
 rw [e,em_all _ 0 [] fun t ht=>?_,List.nil_append]
 obtain ⟨p,hp',rfl⟩:=List.mem_map.1 ht
 unfold keepG at hp'
 obtain ⟨d,hd',rfl⟩:=List.mem_map.1 hp'
 have hdd:=hd d (List.mem_filter.1 hd').1
 rw [resD_V]
 exact docV_small (nums_sm hdd.2.1 hdd.2.2) (fun j h=>by cases h)
theorem prj_all:∀ (D:List Dc) (k:Nat) (made:List T),(∀ d ∈ D,d.ok)→eachE (prjE [idE,aE] ks2) (D.map Dc.doc) k made=.inr (made++D.map fun d=>resD (d.id,d.es))
 | [],k,made,_=>by simp [eachE]
 | d::r,k,made,hd=>by
  have h1:=hd d (List.mem_cons_self ..)
  have e:evL [idE,aE] d.doc=.inr [nT d.id,numsT d.es]:=by
   have e1:idE d.doc=.inr (nT d.id):=by unfold idE Dc.doc;rw [idV]
   have e2:aE d.doc=.inr (numsT d.es):=by unfold aE Dc.doc;rw [aV]
   simp only [evL,e1,e2]
  have hb:tooBig (resD (d.id,d.es))=false:=by rw [resD_V];exact docV_small (nums_sm h1.2.1 h1.2.2) (fun j h=>by cases h)
  have hs:prjE [idE,aE] ks2 made d.doc=.inr (made++[resD (d.id,d.es)]):=by
   unfold prjE
   rw [e]
   show (if tooBig (resD (d.id,d.es))=true then _ else _)=_
   rw [hb]
   rfl
  rw [List.map_cons,eachE,hs]
  show eachE (prjE [idE,aE] ks2) (r.map Dc.doc) (k+1) _=_
  rw [prj_all r (k+1) _ fun x hx=>hd x (List.mem_cons_of_mem _ hx),List.append_assoc,List.map_cons]
  rfl
end Go.Proofs.YtknakfpciccoaabGreatDoor
/- The entries of $group are read. -/
namespace Go.Proofs.YtknakfpciccoaabGreatDoor
open Go.RowKit
def EpPost (Tb:World→Prop) (wB:World) (op:ByteArray) (g:T→Int⊕T) (w:World) (e:Ending) (w':World):Prop :=
 Below w.heap.size w w'∧∃ ty p,e=.returned (.agg #[.string op,.iface ty p])∧Sat wB w' (newB w w') (fun x=>ExprOk Tb x (.iface ty p) g)
def PeSaid (Tb:World→Prop) (t:T) (op:ByteArray) (g:T→Int⊕T):Prop:=∀ (v:Value) (wB w:World),At wB 13 v t→okA t→Below wB.heap.size wB w→Tb w→Calls Tryz.prog 163 #[v] w (EpPost Tb wB op g w)
theorem ent_new (w:World):(w.alloc (.cells #[.string ⟨#[]⟩,.nilIface] 239)).cell? ⟨w.heap.size,0,none⟩=some (.string ⟨#[]⟩)∧(w.alloc (.cells #[.string ⟨#[]⟩,.nilIface] 239)).cell? ⟨w.heap.size,1,none⟩=some .nilIface∧(w.alloc (.cells #[.string ⟨#[]⟩,.nilIface] 239)).frozen? ⟨w.heap.size,0,none⟩=false∧(w.alloc (.cells #[.string ⟨#[]⟩,.nilIface] 239)).frozen? ⟨w.heap.size,1,none⟩=false:=⟨by simp [go_sem],by simp [go_sem],by simp [go_sem],by simp [go_sem]⟩
structure Ent2 (b:Nat) (w:World):Prop where
 q0:w.cell? ⟨b,0,none⟩=some (.string ⟨#[]⟩)
 q1:w.cell? ⟨b,1,none⟩=some .nilIface
 f0:w.frozen? ⟨b,0,none⟩=false
 f1:w.frozen? ⟨b,1,none⟩=false
 lt:b<w.heap.size
theorem Ent2.stay {b:Nat} {w w':World} (h:Ent2 b w) (hb:Below w.heap.size w w'):Ent2 b w' :=
 ⟨(hb.cell (p:=⟨b,0,none⟩) h.lt).trans h.q0,(hb.cell (p:=⟨b,1,none⟩) h.lt).trans h.q1,(World.frozen?_of_block (a:=⟨b,0,none⟩) (hb.block b h.lt)).trans h.f0,(World.frozen?_of_block (a:=⟨b,1,none⟩) (hb.block b h.lt)).trans h.f1,Nat.lt_of_lt_of_le h.lt hb.size⟩
theorem Ent2.new (w:World):Ent2 w.heap.size (w.alloc (.cells #[.string ⟨#[]⟩,.nilIface] 239)):=⟨(ent_new w).1,(ent_new w).2.1,(ent_new w).2.2.1,(ent_new w).2.2.2,by simp⟩
theorem set_one_below {w W:World} (h:Below w.heap.size w W) {b:Nat} (hb:w.heap.size≤b) (o:Nat) (u:Value):Below w.heap.size w (W.setCell ⟨b,o,none⟩ u):=by
 obtain ⟨t1,t2,t3,t4⟩:=setC_rest W ⟨b,o,none⟩ u
 exact ⟨t2.trans h.os,t3.trans h.tape,t4.trans h.output,by rw [t1];exact h.size,fun k hk=>(Below.heap_setCell _ _ _ _ (by simp;omega)).trans (h.block k hk)⟩
theorem Sat.set {wB w W:World} {P:World→Prop} {b c:Nat} (h:Sat wB W (newB w W) P) (hb:b<w.heap.size) (hc:c≤w.heap.size) (o:Nat) (u:Value) {wa:World} (hwa:wa.heap.size=c):Sat wB (W.setCell ⟨b,o,none⟩ u) (newB wa (W.setCell ⟨b,o,none⟩ u)) P :=
 h.move fun k hk=>by
  have h1:=hk.1
  refine ⟨Below.heap_setCell _ _ _ _ (by simp;omega),by omega,?_⟩
  rw [(setC_rest W ⟨b,o,none⟩ u).1]
  exact hk.2
set_option maxHeartbeats 8000000 in
set_option maxRecDepth 100000 in
theorem pentSum_any {Tb:World→Prop} (hL:Lies Tb) (t j:T) (g:T→Int⊕T) (k6:kindOf t=6) (k1:nK t=1) (hj:elt t 0=j) (hx:nam t 0=gSum) (h:PxSaid Tb j g):PeSaid Tb t gSum g:=by
 intro v wB w ha hk hb0 hT
 have l1:nL t=1:=by have:=hk.names k6;omega
 have hkj:okA j:=by rw [← hj];exact hk.elt (by omega)
 have Ha:=hid ha
 obtain ⟨g1,La,Ka,Lc,Kc,hg1,rfl,_,_,_⟩:=ha.open
 have HB1:Hid (Below w.heap.size w ((w.alloc (.cells #[.int .i64 (kindOf t),.int .i64 (nOf t),.string (sOf t),.slice La (nL t) Lc,.slice Ka (nK t) Kc] 36)).alloc (.cells #[.string ⟨#[]⟩,.nilIface] 239))):=((Below.refl _ _).alloc (Nat.le_refl _) _).alloc (by simp) _
 have HX:Hid (Ent2 (w.heap.size+1) ((w.alloc (.cells #[.int .i64 (kindOf t),.int .i64 (nOf t),.string (sOf t),.slice La (nL t) Lc,.slice Ka (nK t) Kc] 36)).alloc (.cells #[.string ⟨#[]⟩,.nilIface] 239))):=by
  show Ent2 _ _
  have:=Ent2.new (w.alloc (.cells #[.int .i64 (kindOf t),.int .i64 (nOf t),.string (sOf t),.slice La (nL t) Lc,.slice Ka (nK t) Kc] 36))
  simpa using this
 have HC:=hid (ppOp_any t j gSum hj hx _ wB _ Ha.out hk k6 k1 (hb0.trans (HB1.out.mono hb0.size)))
 have HE:Hid (∀ (v:Value) (w':World),At wB 13 v j→Below w.heap.size w w'→Calls Tryz.prog 148 #[v] w' (XpPost Tb wB g w')):=fun v w' h1 h2=>ppExpr_any hL j g h v wB w' h1 hkj (hb0.trans (h2.mono hb0.size)) (hL w hT w w' hT h2)
 clear ha hk hg1 hb0 hT h hL k6 k1 l1 hkj Ha hj hx
 unfold gSum at *
 go_enter Tryz.func163,Tryz.ntmps163
 go_wp2_with fail
 refine HC.out.mono ?_
 rintro e w2 ⟨b2,A,B,C,D,rfl,hat⟩
 have HBa:Hid (Below w2.heap.size w2 (w2.alloc (.cells #[.int .i64 (kindOf j),.int .i64 (nOf j),.string (sOf j),.slice A (nL j) B,.slice C (nK j) D] 36))):=(Below.refl _ _).alloc (Nat.le_refl _) _
 have HB2:=hid (HB1.out.trans (b2.mono HB1.out.size))
 have HB3:=hid (HB2.out.trans (HBa.out.mono HB2.out.size))
 have HX3:=hid ((HX.out.stay b2).stay HBa.out)
 have HP:=hid (HE.out _ _ hat HB3.out)
 have HY:=hid (box_new w2 (.int .i64 (kindOf j)) (.int .i64 (nOf j)) (.string (sOf j)) (.slice A (nL j) B) (.slice C (nK j) D))
 have hl2:w.heap.size+1<w2.heap.size:=by have:=b2.size;simp at this;omega
 clear b2 hat HC HE
 have y0:=HY.out.q0
 have y1:=HY.out.q1
 have y2:=HY.out.q2
 have y3:=HY.out.q3
 have y4:=HY.out.q4
 go_wp2_with fail
 refine HP.out.mono ?_
 rintro e w5 ⟨b5,ty,p,rfl,hs⟩
 have HB5:=hid (HB3.out.trans (b5.mono HB3.out.size))
 have HX5:=hid (HX3.out.stay b5)
 have HBf:=hid (set_one_below (set_one_below HB5.out (b:=w.heap.size+1) (by omega) 0 (.string ⟨#[36,115,117,109]⟩)) (b:=w.heap.size+1) (by omega) 1 (.iface ty p))
 have HS:=hid ((hs.set (b:=w.heap.size+1) (c:=w2.heap.size) (by simp;omega) (by simp) 0 (.string ⟨#[36,115,117,109]⟩) (wa:=w2) rfl).set (b:=w.heap.size+1) (c:=w.heap.size) (by omega) (by omega) 1 (.iface ty p) (wa:=w) rfl)
 have q0:=HX5.out.q0
 have q1:=HX5.out.q1
 have f0:=HX5.out.f0
 have f1:=HX5.out.f1
 clear b5 hs HP y0 y1 y2 y3 y4
 go_wp2_with fail
 refine bodyPost_ret (v:=.agg #[.string ⟨#[36,115,117,109]⟩,.iface ty p]) (by simp [results,Tryz.results163,go_sem, *]) rfl ?_
 exact ⟨HBf.out,ty,p,rfl,HS.out⟩
set_option maxHeartbeats 8000000 in
set_option maxRecDepth 100000 in
theorem pentList_any {Tb:World→Prop} (hL:Lies Tb) (t j:T) (g:T→Int⊕T) (k6:kindOf t=6) (k1:nK t=1) (hj:elt t 0=j) (hx:nam t 0=gList) (h:PxSaid Tb j g):PeSaid Tb t gList g:=by
 intro v wB w ha hk hb0 hT
 have l1:nL t=1:=by have:=hk.names k6;omega
 have hkj:okA j:=by rw [← hj];exact hk.elt (by omega)
 have Ha:=hid ha
 obtain ⟨g1,La,Ka,Lc,Kc,hg1,rfl,_,_,_⟩:=ha.open
 have HB1:Hid (Below w.heap.size w ((w.alloc (.cells #[.int .i64 (kindOf t),.int .i64 (nOf t),.string (sOf t),.slice La (nL t) Lc,.slice Ka (nK t) Kc] 36)).alloc (.cells #[.string ⟨#[]⟩,.nilIface] 239))):=((Below.refl _ _).alloc (Nat.le_refl _) _).alloc (by simp) _
 have HX:Hid (Ent2 (w.heap.size+1) ((w.alloc (.cells #[.int .i64 (kindOf t),.int .i64 (nOf t),.string (sOf t),.slice La (nL t) Lc,.slice Ka (nK t) Kc] 36)).alloc (.cells #[.string ⟨#[]⟩,.nilIface] 239))):=by
  show Ent2 _ _
  have:=Ent2.new (w.alloc (.cells #[.int .i64 (kindOf t),.int .i64 (nOf t),.string (sOf t),.slice La (nL t) Lc,.slice Ka (nK t) Kc] 36))
  simpa using this
 have HC:=hid (ppOp_any t j gList hj hx _ wB _ Ha.out hk k6 k1 (hb0.trans (HB1.out.mono hb0.size)))
 have HE:Hid (∀ (v:Value) (w':World),At wB 13 v j→Below w.heap.size w w'→Calls Tryz.prog 148 #[v] w' (XpPost Tb wB g w')):=fun v w' h1 h2=>ppExpr_any hL j g h v wB w' h1 hkj (hb0.trans (h2.mono hb0.size)) (hL w hT w w' hT h2)
 clear ha hk hg1 hb0 hT h hL k6 k1 l1 hkj Ha hj hx
 unfold gList at *
 go_enter Tryz.func163,Tryz.ntmps163
 go_wp2_with fail
 refine HC.out.mono ?_
 rintro e w2 ⟨b2,A,B,C,D,rfl,hat⟩
 have HBa:Hid (Below w2.heap.size w2 (w2.alloc (.cells #[.int .i64 (kindOf j),.int .i64 (nOf j),.string (sOf j),.slice A (nL j) B,.slice C (nK j) D] 36))):=(Below.refl _ _).alloc (Nat.le_refl _) _
 have HB2:=hid (HB1.out.trans (b2.mono HB1.out.size))
 have HB3:=hid (HB2.out.trans (HBa.out.mono HB2.out.size))
 have HX3:=hid ((HX.out.stay b2).stay HBa.out)
 have HP:=hid (HE.out _ _ hat HB3.out)
 have HY:=hid (box_new w2 (.int .i64 (kindOf j)) (.int .i64 (nOf j)) (.string (sOf j)) (.slice A (nL j) B) (.slice C (nK j) D))
 have hl2:w.heap.size+1<w2.heap.size:=by have:=b2.size;simp at this;omega
 clear b2 hat HC HE
 have y0:=HY.out.q0
 have y1:=HY.out.q1
 have y2:=HY.out.q2
 have y3:=HY.out.q3
 have y4:=HY.out.q4
 go_wp2_with fail
 refine HP.out.mono ?_
 rintro e w5 ⟨b5,ty,p,rfl,hs⟩
 have HB5:=hid (HB3.out.trans (b5.mono HB3.out.size))
 have HX5:=hid (HX3.out.stay b5)
 have HBf:=hid (set_one_below (set_one_below HB5.out (b:=w.heap.size+1) (by omega) 0 (.string ⟨#[36,108,105,115,116]⟩)) (b:=w.heap.size+1) (by omega) 1 (.iface ty p))
 have HS:=hid ((hs.set (b:=w.heap.size+1) (c:=w2.heap.size) (by simp;omega) (by simp) 0 (.string ⟨#[36,108,105,115,116]⟩) (wa:=w2) rfl).set (b:=w.heap.size+1) (c:=w.heap.size) (by omega) (by omega) 1 (.iface ty p) (wa:=w) rfl)
 have q0:=HX5.out.q0
 have q1:=HX5.out.q1
 have f0:=HX5.out.f0
 have f1:=HX5.out.f1
 clear b5 hs HP y0 y1 y2 y3 y4
 go_wp2_with fail
 refine bodyPost_ret (v:=.agg #[.string ⟨#[36,108,105,115,116]⟩,.iface ty p]) (by simp [results,Tryz.results163,go_sem, *]) rfl ?_
 exact ⟨HBf.out,ty,p,rfl,HS.out⟩
end Go.Proofs.YtknakfpciccoaabGreatDoor
/- The walk of parseEntries. -/
namespace Go.Proofs.YtknakfpciccoaabGreatDoor
open Go.RowKit
theorem infoEn:(Tryz.prog.info? 239).map (fun i=>(i.zero,i.size,i.bytes))=some (some (.agg #[.string ⟨#[]⟩,.nilIface]),2,32):=by kernel_rfl
def EntE (Tb:World→Prop) (wB:World) (w:World) (X:Nat→Prop) (cs:List Value) (p:ByteArray×(T→Int⊕T)):Prop:=∃ ty q,cs=[.string p.1,.iface ty q]∧Sat wB w X (fun x=>ExprOk Tb x (.iface ty q) p.2)
theorem entE_moves (Tb:World→Prop) (wB:World):Moves (EntE Tb wB):=fun _ _ _ _ _ _ h hb=>by
 obtain ⟨ty,q,h1,h2⟩:=h
 exact ⟨ty,q,h1,h2.move hb⟩
theorem newX_newB {base:Nat} {hv:Value} {w wr:World} (hlo:w.heap.size≤base) {b:Nat} (h:newX base hv wr b):newB w wr b:=⟨Nat.le_trans hlo h.1,h.2.1⟩
theorem bld_ents {Tb:World→Prop} {wB:World} {base:Nat} {hv:Value} {es:List (ByteArray×(T→Int⊕T))} {xs:List Value} {w wr:World} (h:Bld (EntE Tb wB) 2 239 base hv es xs wr) (hlo:w.heap.size≤base) (hn:es.length≤100000) (hg:∀ i,(hi:i<es.length)→isGOp es[i].1):∃ A c,hv=.slice A es.length c∧Sat wB wr (newB w wr) (fun x=>EntsOk Tb x (.slice A es.length c) es):=by
 have hrow:=h.row
 rcases h.row.2 with ⟨rfl,h0⟩ | ⟨g,cap,cur,rfl,hb0,hgb,_⟩
 ·exact ⟨none,0,by rw [h0],Sat.all fun w' _=>⟨none,0,rfl,hn,fun i hi=>by omega⟩⟩
 ·have hgl:=(Array.getElem?_eq_some_iff.1 hgb).1
  refine ⟨some ⟨g,0,none⟩,cap,rfl,newB w wr,fun b hb=>⟨hb,hb.2⟩,fun w' hw hy=>⟨_,_,rfl,hn,fun i hi=>?_⟩⟩
  obtain ⟨ty,q,hc,hs⟩:=h.el i hi
  have c0:=row_cell hrow (elC_get (r:=0) (by rw [hc];rfl) (by omega))
  have c1:=row_cell hrow (elC_get (r:=1) (by rw [hc];rfl) (by omega))
  have hgw:w'.heap[g]?=wr.heap[g]?:=hy g ⟨by omega,hgl⟩
  refine ⟨g,0,.iface ty q,rfl,get_lt hgl hgw,?_,?_,?_,hg i hi⟩
  ·rw [cell_of hgw,Nat.zero_add];exact c0
  ·rw [cell_of hgw,Nat.zero_add];exact c1
  ·obtain ⟨Y,h1,h2⟩:=hs
   exact h2 w' hw fun b hb=>hy b (newX_newB hlo (h1 b hb).1)
def EsPost (Tb:World→Prop) (wB:World) (es:List (ByteArray×(T→Int⊕T))) (w:World) (e:Ending) (w':World):Prop :=
 Below w.heap.size w w'∧∃ A c,e=.returned (.slice A es.length c)∧Sat wB w' (newB w w') (fun x=>EntsOk Tb x (.slice A es.length c) es)
def idNm:ByteArray:=⟨#[95,105,100]⟩
set_option maxHeartbeats 8000000 in
set_option maxRecDepth 100000 in
theorem pents_any {Tb:World→Prop} (hL:Lies Tb) (t:T) (es:List (ByteArray×(T→Int⊕T))) (k6:kindOf t=6) (hl:nK t=es.length) (hn:es.length≤100000) (hes:∀ i,(hi:i<es.length)→nam t i≠idNm∧isOp (nam t i)=false∧PeSaid Tb (elt t i) es[i].1 es[i].2∧isGOp es[i].1∧es[i].1.size≤100)
  (v:Value) (wB w:World) (ha:At wB 13 v t) (hk:okA t) (hb0:Below wB.heap.size wB w) (hT:Tb w):Calls Tryz.prog 150 #[v] w (EsPost Tb wB es w):=by
 obtain ⟨iE,hiE,zE0,zE1,zE2⟩:=info_parts infoEn
 obtain ⟨g1,La,Ka,Lc,Kc,hg1,rfl,hfj,hel,hnm⟩:=ha.open
 have hnL:nL t=nK t:=(hk.names k6).symm
 have HKj:=hid hk
 have Hel:=hid hel.out
 have Hnm:=hid hnm.out
 have HT:Hid (∀ w':World,Below w.heap.size w w'→Tb w'):=fun w' hb=>hL w hT w w' hT hb
 have HEs:=hid hes
 have HG:Hid (∀ i,(hi:i<es.length)→isGOp es[i].1):=fun i hi=>(hes i hi).2.2.2.1
 have Hl:=hid hl
 have Hhn:=hid hn
 have hnk:nK t≤100000:=by omega
 have Hg1:=hid hg1
 rw [k6,hnL]
 clear ha hk hel hnm hfj hT hL hes hl hn hg1
 go_enter Tryz.func150,Tryz.ntmps150
 go_wp2_with fail
 refine (needP_any _).mono ?_
 rintro e w2 ⟨rfl,rfl⟩
 go_wp2_with fail
 go_loopg [3,13] (nK t) (fun g o i wr=>∃ (k:Nat) (xs:List Value),g=nK t - k∧k≤nK t∧i=.int .i64 k∧Hid (Below (w.heap.size+1) (w.alloc (.cells #[.int .i64 6,.int .i64 (nOf t),.string (sOf t),.slice La (nK t) Lc,.slice Ka (nK t) Kc] 36)) wr)∧Hid (Bld (EntE Tb wB) 2 239 (w.heap.size+1) o (es.take k) xs wr))
 case atStart=>exact ⟨0,[],rfl,Nat.zero_le _,rfl,Below.refl _ _,Bld.nil _ _ _ _ _⟩
 case round =>
  obtain ⟨k,xs,rfl,hk,rfl,HB,HL⟩:=hrel
  obtain ⟨q0,q1,q2,q3,q4,hz,hbw⟩:=box_facts HB.out
  have Hbr:=hid (hb0.trans (hbw.mono hb0.size))
  have Hbw:=hid hbw
  clear hbw
  by_cases hlt:k<nK t
  ·have hltL:k<nL t:=by omega
   have hlte:k<es.length:=by have:=Hl.out;omega
   obtain ⟨kb,ko,rfl,hkb,hks,hkc⟩:=Hnm.out.keep Hbr.out k hlt
   obtain ⟨bb,oo,A,B,C,D,rfl,hbl,p0,p1,p2,p3,p4,Ha⟩:=Hel.out.shape Hbr.out k hltL
   obtain ⟨e1,e2,e3,e4,e5⟩:=HEs.out k hlte
   have n1:((nam t k).toList==[95,105,100])=false:=lit_no (b:=idNm) e1
   have HO:=hid (isOperator_any (nam t k))
   rw [e2] at HO
   have HC:=hid (e3 _ wB wr (Ha.out.up (show g1≤13 by have:=Hg1.out;omega)) (HKj.out.elt hltL) Hbr.out (HT.out _ Hbw.out))
   have HTk:Hid (es.take (k+1)=es.take k++[es[k]]):=by show _=_;rw [List.take_add_one,List.getElem?_eq_getElem hlte];rfl
   have hxl:(es.take k).length=k:=by rw [List.length_take];omega
   obtain ⟨ek,hek⟩:∃ ek,es[k]=ek:=⟨_,rfl⟩
   rw [hek] at HC HTk e5
   clear e1 e2 e3 e4 hek
   obtain ⟨op,gk⟩:=ek
   have hop:op.size≤140737488355328:=by have:op.size≤100:=e5;omega
   dsimp only at HC
   clear e5
   go_wp2_with fail
   refine (HO.out _).mono ?_
   rintro e w2 ⟨rfl,rfl⟩
   go_wp2_with fail
   refine (needP_any _).mono ?_
   rintro e w2 ⟨rfl,rfl⟩
   go_wp2_with fail
   refine HC.out.mono ?_
   rintro e w3 ⟨b3,t6,v6,rfl,ht⟩
   have HTt:=hid ht
   have Hb3:=hid b3
   have HB4:Hid (Below w3.heap.size w3 (w3.alloc (.cells #[.string op,.iface t6 v6] 239))):=(Below.refl _ _).alloc (Nat.le_refl _) _
   have HL4:=hid ((HL.out.keep (entE_moves Tb wB) Hb3.out).keep (entE_moves Tb wB) HB4.out)
   have HSrc:Hid (Src Tryz.prog 2 176 (.slice (some ⟨w3.heap.size,0,none⟩) 1 1) 1 [.string op,.iface t6 v6] (w3.alloc (.cells #[.string op,.iface t6 v6] 239))):=Src.ofSlice _ Tryz.underlying176 ⟨w3.heap.size,0,none⟩ 1 1 [.string op,.iface t6 v6] (by simp) (World.news_of_block (heap_alloc_new w3 _)) (by simp [Value.oneCell'])
   have hlo:w.heap.size+1≤(w3.alloc (.cells #[.string op,.iface t6 v6] 239)).heap.size:=by have:=Hb3.out.size;simp;omega
   clear b3 ht HC HO
   go_wp2_with (at_builtin;refine wpList_append_src _ rfl (.tmp 26) (.tmp 33) 176 176 rfl (w.heap.size+1) 239 iE _ 2 32 Tryz.underlying176 hiE zE0 zE1 zE2 rfl u3 (es.take k).length xs rfl HL4.out.row (.slice (some ⟨w3.heap.size,0,none⟩) 1 1) 1 [.string op,.iface t6 v6] rfl HSrc.out (by unfold maxLen;omega) (by omega) hlo ?_;intro v' w6 hO6 hG6 hat6)
   have HL6:=hid (HL.out.grow (x:=(op,gk)) (cs:=[.string op,.iface t6 v6]) (entE_moves Tb wB) (Hb3.out.trans (HB4.out.mono Hb3.out.size)) rfl (entE_moves Tb wB _ _ _ _ _ _ ⟨t6,v6,rfl,HTt.out⟩ (fun b hb=>⟨HB4.out.block b hb.2,hb⟩)) (fun b hb=>⟨hb.1,Nat.lt_of_lt_of_le hb.2 HB4.out.size⟩) (by omega) hO6 hG6 hat6)
   have HB6:=hid (below_grown ((HB.out.trans (Hb3.out.mono (by omega))).trans (HB4.out.mono (by have:=Hb3.out.size;omega))) HL4.out.row (Nat.le_refl _) (by omega) hG6)
   rw [← HTk.out] at HL6
   clear hO6 hG6 hat6
   go_wp2_with fail
   go_roundg (nK t - (k+1))
   case rel=>exact ⟨k+1,_,rfl,by omega,by go_num,HB6,HL6⟩
   case measure=>omega
  ·obtain rfl:k=nK t:=by omega
   rw [Hl.out,List.take_length] at HL
   obtain ⟨A,c,rfl,hs⟩:=bld_ents (w:=w) HL.out (by omega) Hhn.out HG.out
   have HS:=hid hs
   clear hs HL
   go_wp2_with fail
   go_ret
   exact ⟨Hbw.out,_,_,rfl,HS.out⟩
end Go.Proofs.YtknakfpciccoaabGreatDoor
