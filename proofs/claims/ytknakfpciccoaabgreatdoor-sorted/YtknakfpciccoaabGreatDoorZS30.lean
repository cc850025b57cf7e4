import Derived.Test.YtknakfpciccoaabGreatDoorZS26
import Derived.Test.YtknakfpciccoaabGreatDoorZS29
import Derived.Test.YtknakfpciccoaabGreatDoorZS25
import Derived.Test.YtknakfpciccoaabGreatDoorZS18
/- Stages are read: $sort, $skip, $limit. -/
namespace Go.Proofs.YtknakfpciccoaabGreatDoor
open Go.RowKit
set_option maxHeartbeats 4000000 in
set_option maxRecDepth 100000 in
theorem pcount_any (t:T) (k3:kindOf t=3) (h0:0≤nOf t) (v:Value) (wB w:World) (ha:At wB 13 v t):Calls Tryz.prog 127 #[v] w fun e w'=>Below w.heap.size w w'∧e=.returned (.agg #[.int .i64 (nOf t)]):=by
 obtain ⟨g1,La,Ka,Lc,Kc,hg1,rfl,_,_,_⟩:=ha.open
 have HB1:Hid (Below w.heap.size w ((w.alloc (.cells #[.int .i64 3,.int .i64 (nOf t),.string (sOf t),.slice La (nL t) Lc,.slice Ka (nK t) Kc] 36)).alloc (.cells #[.int .i64 (nOf t)] 184))):=((Below.refl _ _).alloc (Nat.le_refl _) _).alloc (by simp) _
 rw [k3]
 clear ha hg1
 go_enter Tryz.func127,Tryz.ntmps127
 go_wp2_with fail
 refine (needP_any _).mono ?_
 rintro e w2 ⟨rfl,rfl⟩
 go_wp2_with fail
 refine bodyPost_ret (v:=.agg #[.int .i64 (nOf t)]) (by simp [results,Tryz.results127,go_sem, *]) rfl ?_
 exact ⟨HB1.out,rfl⟩
def opSort:ByteArray:=⟨#[36,115,111,114,116]⟩
def opSkip:ByteArray:=⟨#[36,115,107,105,112]⟩
def opLimit:ByteArray:=⟨#[36,108,105,109,105,116]⟩
set_option maxHeartbeats 8000000 in
set_option maxRecDepth 100000 in
theorem pstage_sort {Tb:World→Prop} (hA:AtoiSaid Tb) (hI:ItoaSaid Tb) (hSp:SplitSaid Tb) (hL:Lies Tb) (es:List (List ByteArray×Int)) (t j:T) (k6:kindOf t=6) (k1:nK t=1) (hj:elt t 0=j) (hx:nam t 0=opSort) (k6j:kindOf j=6) (hl:nK j=es.length) (h0:0<es.length) (hn:es.length≤100000) (hes:∀ i,(hi:i<es.length)→kindOf (elt j i)=3∧nOf (elt j i)=es[i].2∧(es[i].2=1∨es[i].2=-1)∧splitP (nam j i)=es[i].1∧pathOk (nam j i)=true∧(nam j i).size≤1000):PsSaid Tb t (srtS es):=by
 intro v wB w ha hk hb0 hT
 have l1:nL t=1:=by have:=hk.names k6;omega
 have hkj:okA j:=by rw [← hj];exact hk.elt (by omega)
 have Ha:=hid ha
 obtain ⟨g1,La,Ka,Lc,Kc,hg1,rfl,_,_,_⟩:=ha.open
 have HB1:Hid (Below w.heap.size w (w.alloc (.cells #[.int .i64 (kindOf t),.int .i64 (nOf t),.string (sOf t),.slice La (nL t) Lc,.slice Ka (nK t) Kc] 36))):=(Below.refl _ _).alloc (Nat.le_refl _) _
 have HC:=hid (ppOp_any t j opSort hj hx _ wB _ Ha.out hk k6 k1 (hb0.trans (HB1.out.mono hb0.size)))
 have HE:Hid (∀ (v:Value) (w':World),At wB 13 v j→Below w.heap.size w w'→Calls Tryz.prog 126 #[v] w' (OpPost wB es w')):=fun v w' h1 h2=>pord_any hSp hL j es k6j hl h0 hn hes v wB w' h1 hkj (hb0.trans (h2.mono hb0.size)) (hL w hT w w' hT h2)
 clear ha hk hg1 hb0 hT k6 k1 l1 hkj Ha hj hx hes hl h0 hn k6j hSp
 unfold opSort at *
 go_enter Tryz.func94,Tryz.ntmps94
 go_wp2_with fail
 refine HC.out.mono ?_
 rintro e w2 ⟨b2,A,B,C,D,rfl,hat⟩
 have HBa:Hid (Below w2.heap.size w2 (w2.alloc (.cells #[.int .i64 (kindOf j),.int .i64 (nOf j),.string (sOf j),.slice A (nL j) B,.slice C (nK j) D] 36))):=(Below.refl _ _).alloc (Nat.le_refl _) _
 have HB2:=hid (HB1.out.trans (b2.mono HB1.out.size))
 have HB3:=hid (HB2.out.trans (HBa.out.mono HB2.out.size))
 have HP:=hid (HE.out _ _ hat HB3.out)
 have HY:=hid (box_new w2 (.int .i64 (kindOf j)) (.int .i64 (nOf j)) (.string (sOf j)) (.slice A (nL j) B) (.slice C (nK j) D))
 clear b2 hat HC HE
 have y0:=HY.out.q0
 have y1:=HY.out.q1
 have y2:=HY.out.q2
 have y3:=HY.out.q3
 have y4:=HY.out.q4
 go_wp2_with fail
 refine HP.out.mono ?_
 rintro e w5 ⟨b5,OA,oc,rfl,hs⟩
 have HB5:=hid (HB3.out.trans (b5.mono HB3.out.size))
 have HS:=hid ((hs.later (wa:=w) (Below.refl _ _) HB3.out.size).mono (Q:=fun x=>StageOk Tb x (.iface 181 (.slice OA es.length oc)) (srtS es)) fun w' hw hh=>sort_ok hA hI hL hh)
 clear b5 hs HP y0 y1 y2 y3 y4
 go_wp2_with fail
 go_ret
 exact ⟨HB5.out,_,_,rfl,HS.out⟩
set_option maxHeartbeats 8000000 in
set_option maxRecDepth 100000 in
theorem pstage_skip {Tb:World→Prop} (t j:T) (k6:kindOf t=6) (k1:nK t=1) (hj:elt t 0=j) (hx:nam t 0=opSkip) (k3:kindOf j=3) (h0:0≤nOf j):PsSaid Tb t (skpS (nOf j)):=by
 intro v wB w ha hk hb0 hT
 have Ha:=hid ha
 obtain ⟨g1,La,Ka,Lc,Kc,hg1,rfl,_,_,_⟩:=ha.open
 have HB1:Hid (Below w.heap.size w (w.alloc (.cells #[.int .i64 (kindOf t),.int .i64 (nOf t),.string (sOf t),.slice La (nL t) Lc,.slice Ka (nK t) Kc] 36))):=(Below.refl _ _).alloc (Nat.le_refl _) _
 have HC:=hid (ppOp_any t j opSkip hj hx _ wB _ Ha.out hk k6 k1 (hb0.trans (HB1.out.mono hb0.size)))
 have HE:Hid (∀ (v:Value) (w':World),At wB 13 v j→Calls Tryz.prog 127 #[v] w' fun e w2=>Below w'.heap.size w' w2∧e=.returned (.agg #[.int .i64 (nOf j)])):=fun v w' h1=>pcount_any j k3 h0 v wB w' h1
 have H0:=hid h0
 clear ha hk hg1 hb0 hT k6 k1 Ha hj hx k3 h0
 unfold opSkip at *
 go_enter Tryz.func94,Tryz.ntmps94
 go_wp2_with fail
 refine HC.out.mono ?_
 rintro e w2 ⟨b2,A,B,C,D,rfl,hat⟩
 have HBa:Hid (Below w2.heap.size w2 (w2.alloc (.cells #[.int .i64 (kindOf j),.int .i64 (nOf j),.string (sOf j),.slice A (nL j) B,.slice C (nK j) D] 36))):=(Below.refl _ _).alloc (Nat.le_refl _) _
 have HB2:=hid (HB1.out.trans (b2.mono HB1.out.size))
 have HB3:=hid (HB2.out.trans (HBa.out.mono HB2.out.size))
 have HP:=hid (HE.out _ (w2.alloc (.cells #[.int .i64 (kindOf j),.int .i64 (nOf j),.string (sOf j),.slice A (nL j) B,.slice C (nK j) D] 36)) hat)
 have HY:=hid (box_new w2 (.int .i64 (kindOf j)) (.int .i64 (nOf j)) (.string (sOf j)) (.slice A (nL j) B) (.slice C (nK j) D))
 clear b2 hat HC HE
 have y0:=HY.out.q0
 have y1:=HY.out.q1
 have y2:=HY.out.q2
 have y3:=HY.out.q3
 have y4:=HY.out.q4
 go_wp2_with fail
 refine HP.out.mono ?_
 rintro e w5 ⟨b5,rfl⟩
 have HB5:=hid (HB3.out.trans (b5.mono HB3.out.size))
 have HS:Hid (Sat wB w5 (newB w w5) (fun x=>StageOk Tb x (.iface 187 (.agg #[.int .i64 (nOf j)])) (skpS (nOf j)))):=Sat.all fun w' _=>skip_ok Tb H0.out
 clear b5 HP y0 y1 y2 y3 y4
 go_wp2_with fail
 go_ret
 exact ⟨HB5.out,_,_,rfl,HS.out⟩
set_option maxHeartbeats 8000000 in
set_option maxRecDepth 100000 in
theorem pstage_limit {Tb:World→Prop} (t j:T) (k6:kindOf t=6) (k1:nK t=1) (hj:elt t 0=j) (hx:nam t 0=opLimit) (k3:kindOf j=3) (h0:0≤nOf j):PsSaid Tb t (limS (nOf j)):=by
 intro v wB w ha hk hb0 hT
 have Ha:=hid ha
 obtain ⟨g1,La,Ka,Lc,Kc,hg1,rfl,_,_,_⟩:=ha.open
 have HB1:Hid (Below w.heap.size w (w.alloc (.cells #[.int .i64 (kindOf t),.int .i64 (nOf t),.string (sOf t),.slice La (nL t) Lc,.slice Ka (nK t) Kc] 36))):=(Below.refl _ _).alloc (Nat.le_refl _) _
 have HC:=hid (ppOp_any t j opLimit hj hx _ wB _ Ha.out hk k6 k1 (hb0.trans (HB1.out.mono hb0.size)))
 have HE:Hid (∀ (v:Value) (w':World),At wB 13 v j→Calls Tryz.prog 127 #[v] w' fun e w2=>Below w'.heap.size w' w2∧e=.returned (.agg #[.int .i64 (nOf j)])):=fun v w' h1=>pcount_any j k3 h0 v wB w' h1
 have H0:=hid h0
 clear ha hk hg1 hb0 hT k6 k1 Ha hj hx k3 h0
 unfold opLimit at *
 go_enter Tryz.func94,Tryz.ntmps94
 go_wp2_with fail
 refine HC.out.mono ?_
 rintro e w2 ⟨b2,A,B,C,D,rfl,hat⟩
 have HBa:Hid (Below w2.heap.size w2 (w2.alloc (.cells #[.int .i64 (kindOf j),.int .i64 (nOf j),.string (sOf j),.slice A (nL j) B,.slice C (nK j) D] 36))):=(Below.refl _ _).alloc (Nat.le_refl _) _
 have HB2:=hid (HB1.out.trans (b2.mono HB1.out.size))
 have HB3:=hid (HB2.out.trans (HBa.out.mono HB2.out.size))
 have HP:=hid (HE.out _ (w2.alloc (.cells #[.int .i64 (kindOf j),.int .i64 (nOf j),.string (sOf j),.slice A (nL j) B,.slice C (nK j) D] 36)) hat)
 have HY:=hid (box_new w2 (.int .i64 (kindOf j)) (.int .i64 (nOf j)) (.string (sOf j)) (.slice A (nL j) B) (.slice C (nK j) D))
 clear b2 hat HC HE
 have y0:=HY.out.q0
 have y1:=HY.out.q1
 have y2:=HY.out.q2
 have y3:=HY.out.q3
 have y4:=HY.out.q4
 go_wp2_with fail
 refine HP.out.mono ?_
 rintro e w5 ⟨b5,rfl⟩
 have HB5:=hid (HB3.out.trans (b5.mono HB3.out.size))
 have HS:Hid (Sat wB w5 (newB w w5) (fun x=>StageOk Tb x (.iface 188 (.agg #[.int .i64 (nOf j)])) (limS (nOf j)))):=Sat.all fun w' _=>limit_ok Tb H0.out
 clear b5 HP y0 y1 y2 y3 y4
 go_wp2_with fail
 go_ret
 exact ⟨HB5.out,_,_,rfl,HS.out⟩
end Go.Proofs.YtknakfpciccoaabGreatDoor
/- What the sort does, without the program: the same documents, in order. -/
namespace Go.Proofs.YtknakfpciccoaabGreatDoor
open Go.RowKit
theorem getD_mid (P S:List T) (x:T) {i:Nat} (h:i=P.length):(P++x::S).getD i zeroT=x:=by
 subst h;simp [List.getD_eq_getElem?_getD]
theorem swapL_mid (P M S:List T) (x y:T) {i j:Nat} (hi:i=P.length) (hj:j=P.length+1+M.length):swapL (P++x::(M++y::S)) i j=P++y::(M++x::S):=by
 subst hi hj
 have h1:(P++x::(M++y::S)).getD P.length zeroT=x:=getD_mid _ _ _ rfl
 have h2:(P++x::(M++y::S)).getD (P.length+1+M.length) zeroT=y:=by
  have:P++x::(M++y::S)=(P++x::M)++y::S:=by simp
  rw [this];exact getD_mid _ _ _ (by simp;omega)
 rw [swapL,h1,h2,List.set_append_right _ _ (Nat.le_refl _),Nat.sub_self,List.set_cons_zero,List.set_append_right _ _ (by omega)]
 have:P.length+1+M.length - P.length=M.length+1:=by omega
 rw [this,List.set_cons_succ,List.set_append_right _ _ (Nat.le_refl _),Nat.sub_self,List.set_cons_zero]
theorem swapL_comm' (P M S:List T) (x y:T) {i j:Nat} (hi:i=P.length) (hj:j=P.length+1+M.length):swapL (P++x::(M++y::S)) j i=P++y::(M++x::S):=by
 subst hi hj
 have h1:(P++x::(M++y::S)).getD P.length zeroT=x:=getD_mid _ _ _ rfl
 have h2:(P++x::(M++y::S)).getD (P.length+1+M.length) zeroT=y:=by
  have:P++x::(M++y::S)=(P++x::M)++y::S:=by simp
  rw [this];exact getD_mid _ _ _ (by simp;omega)
 have:P.length+1+M.length - P.length=M.length+1:=by omega
 rw [swapL,h1,h2,List.set_append_right _ _ (by omega),this,List.set_cons_succ,List.set_append_right _ _ (Nat.le_refl _),Nat.sub_self,List.set_cons_zero,List.set_append_right _ _ (Nat.le_refl _),Nat.sub_self,List.set_cons_zero]
theorem swR_mid (a b:Nat):∀ (X Y P M S:List T) (i:Nat),X.length=Y.length→a+i=P.length→b+i=P.length+X.length+M.length→swR a b X.length i (P++(X++(M++(Y++S))))=P++(Y++(M++(X++S)))
 | [],Y,P,M,S,i,hl,_,_=>by
  have:Y=[]:=List.eq_nil_of_length_eq_zero hl.symm
  subst this;rfl
 | x::X,[],P,M,S,i,hl,_,_=>by simp at hl
 | x::X,y::Y,P,M,S,i,hl,ha,hb=>by
  have hl':X.length=Y.length:=by simpa using hl
  rw [List.length_cons,swR]
  have e1:P++(x::X++(M++(y::Y++S)))=P++x::((X++M)++y::(Y++S)):=by simp
  rw [e1,swapL_mid P (X++M) (Y++S) x y ha (by simp at hb ⊢;omega)]
  have e2:P++y::((X++M)++x::(Y++S))=(P++[y])++(X++((M++[x])++(Y++S))):=by simp
  rw [e2,swR_mid a b X Y (P++[y]) (M++[x]) S (i+1) hl' (by simp;omega) (by simp at hb ⊢;omega)]
  simp
theorem rotA_mid (m:Nat):∀ (f:Nat) (P A B S:List T),A.length+B.length≤f→0<A.length→0<B.length→m=P.length+A.length→rotA m f A.length B.length (P++(A++(B++S)))=P++(B++(A++S))
 | 0,P,A,B,S,hf,ha,_,_=>by omega
 | f+1,P,A,B,S,hf,ha,hb,hm=>by
  rw [rotA]
  by_cases he:A.length=B.length
  ·rw [if_pos he]
   have:=swR_mid (m - A.length) m A B P [] S 0 he (by omega) (by simp;omega)
   simpa using this
  ·rw [if_neg he]
   by_cases hlt:B.length<A.length
   ·rw [if_pos hlt]
    obtain ⟨A1,A2,rfl,hA1⟩:∃ A1 A2,A=A1++A2∧A1.length=B.length:=⟨A.take B.length,A.drop B.length,(List.take_append_drop _ _).symm,by simp;omega⟩
    have hA2:(A1++A2).length=B.length+A2.length:=by simp [hA1]
    have h1:=swR_mid (m - (A1++A2).length) m A1 B P A2 S 0 hA1 (by omega) (by simp at hm ⊢;omega)
    rw [hA1] at h1
    have e1:P++(A1++A2++(B++S))=P++(A1++(A2++(B++S))):=by simp
    rw [e1,h1,hA2,Nat.add_sub_cancel_left]
    have e2:P++(B++(A2++(A1++S)))=(P++B)++(A2++(A1++S)):=by simp
    have h2:=rotA_mid m f (P++B) A2 A1 S (by omega) (by omega) (by omega) (by simp at hm ⊢;omega)
    rw [hA1] at h2
    rw [e2,h2]
    simp
   ·rw [if_neg hlt]
    obtain ⟨B1,B2,rfl,hB2⟩:∃ B1 B2,B=B1++B2∧B2.length=A.length:=⟨B.take (B.length - A.length),B.drop (B.length - A.length),(List.take_append_drop _ _).symm,by simp;omega⟩
    have hB1:(B1++B2).length - A.length=B1.length:=by simp [hB2]
    have hBl:(B1++B2).length=B1.length+A.length:=by simp [hB2]
    have h1:=swR_mid (m - A.length) (m+(B1++B2).length - A.length) A B2 P B1 S 0 hB2.symm (by omega) (by omega)
    have e1:P++(A++(B1++B2++S))=P++(A++(B1++(B2++S))):=by simp
    rw [e1,h1,hB1]
    have h2:=rotA_mid m f P B2 B1 (A++S) (by omega) (by omega) (by omega) (by omega)
    rw [hB2] at h2
    rw [h2]
    simp
theorem shU_mid:∀ (X P S:List T) (x:T) (i:Nat),i=P.length→shU X.length i (P++x::(X++S))=P++(X++x::S)
 | [],P,S,x,i,_=>rfl
 | y::X,P,S,x,i,hi=>by
  rw [List.length_cons,shU]
  have h1:=swapL_mid P [] (X++S) x y hi (j:=i+1) (by simp;omega)
  simp only [List.nil_append] at h1
  have e1:P++x::(y::X++S)=P++x::(y::(X++S)):=by simp
  rw [e1,h1]
  have e2:P++y::(x::(X++S))=(P++[y])++x::(X++S):=by simp
  rw [e2,shU_mid X (P++[y]) S x (i+1) (by simp;omega)]
  simp
theorem shD_mid:∀ (n:Nat) (X P S:List T) (x:T) (i:Nat),X.length=n→i=P.length+X.length→shD n i (P++(X++x::S))=P++x::(X++S)
 | 0,X,P,S,x,i,hn,_=>by
  have:X=[]:=List.eq_nil_of_length_eq_zero hn
  subst this;rfl
 | n+1,X,P,S,x,i,hn,hi=>by
  obtain ⟨X',y,rfl⟩:∃ X' y,X=X'++[y]:=⟨X.dropLast,X.getLast (by intro h;simp [h] at hn),(List.dropLast_concat_getLast _).symm⟩
  have hn':X'.length=n:=by simpa using hn
  rw [shD]
  have h1:=swapL_comm' (P++X') [] S y x (i:=i - 1) (j:=i) (by simp at hi ⊢;omega) (by simp at hi ⊢;omega)
  simp only [List.nil_append] at h1
  have e1:P++(X'++[y]++x::S)=P++X'++y::x::S:=by simp
  rw [e1,h1]
  have e2:P++X'++x::y::S=P++(X'++x::(y::S)):=by simp
  rw [e2,shD_mid n X' P (y::S) x (i - 1) hn' (by simp at hi ⊢;omega)]
  simp
def bsG (p:Nat→Prop) [DecidablePred p]:Nat→Nat→Nat→Nat
 | 0,i,_=>i
 | f+1,i,j=>if i<j then (if p ((i+j) / 2) then bsG p f i ((i+j) / 2) else bsG p f ((i+j) / 2+1) j) else i
theorem bsG_said (p:Nat→Prop) [DecidablePred p]:∀ (f i j:Nat),i≤j→j - i≤f→(∀ h h',i≤h→h≤h'→h'<j→p h→p h')→i≤bsG p f i j∧bsG p f i j≤j∧(∀ h,i≤h→h<bsG p f i j→¬ p h)∧(∀ h,bsG p f i j≤h→h<j→p h)
 | 0,i,j,hij,hf,hm=>by
  have:i=j:=by omega
  subst this
  exact ⟨Nat.le_refl _,Nat.le_refl _,fun h h1 h2=>by simp only [bsG] at h2;omega,fun h h1 h2=>by simp only [bsG] at h1;omega⟩
 | f+1,i,j,hij,hf,hm=>by
  rw [bsG]
  by_cases hlt:i<j
  ·rw [if_pos hlt]
   by_cases hp:p ((i+j) / 2)
   ·rw [if_pos hp]
    obtain ⟨a,b,c,d⟩:=bsG_said p f i ((i+j) / 2) (by omega) (by omega) (fun h h' h1 h2 h3=>hm h h' h1 h2 (by omega))
    refine ⟨a,by omega,c,fun h h1 h2=>?_⟩
    by_cases hh:h<(i+j) / 2
    ·exact d h h1 hh
    ·exact hm _ h (by omega) (by omega) h2 hp
   ·rw [if_neg hp]
    obtain ⟨a,b,c,d⟩:=bsG_said p f ((i+j) / 2+1) j (by omega) (by omega) (fun h h' h1 h2 h3=>hm h h' (by omega) h2 h3)
    refine ⟨by omega,b,fun h h1 h2=>?_,d⟩
    by_cases hh:(i+j) / 2+1≤h
    ·exact c h hh h2
    ·exact fun q=>hp (hm h _ h1 (by omega) (by omega) q)
  ·rw [if_neg hlt]
   have:i=j:=by omega
   subst this
   exact ⟨Nat.le_refl _,Nat.le_refl _,fun h h1 h2=>by omega,fun h h1 h2=>by omega⟩
theorem bs1_G (c:T→T→Int) (l:List T) (a:Nat):∀ f i j,bs1 c l a f i j=bsG (fun h=>¬ c (l.getD h zeroT) (l.getD a zeroT)<0) f i j
 | 0,_,_=>rfl
 | f+1,i,j=>by
  rw [bs1,bsG,bs1_G c l a f,bs1_G c l a f]
  by_cases h:i<j
  ·rw [if_pos h,if_pos h]
   by_cases h2:c (l.getD ((i+j) / 2) zeroT) (l.getD a zeroT)<0
   ·rw [if_pos h2,if_neg (fun q=>q h2)]
   ·rw [if_neg h2,if_pos h2]
  ·rw [if_neg h,if_neg h]
theorem bs2_G (c:T→T→Int) (l:List T) (m:Nat):∀ f i j,bs2 c l m f i j=bsG (fun h=>c (l.getD m zeroT) (l.getD h zeroT)<0) f i j
 | 0,_,_=>rfl
 | f+1,i,j=>by rw [bs2,bsG,bs2_G c l m f,bs2_G c l m f]
theorem bs3_G (c:T→T→Int) (l:List T) (m:Nat):∀ f i j,bs3 c l m f i j=bsG (fun h=>c (l.getD (m - h) zeroT) (l.getD h zeroT)<0) f i j
 | 0,_,_=>rfl
 | f+1,i,j=>by rw [bs3,bsG,bs3_G c l m f,bs3_G c l m f]
structure OrdC (c:T→T→Int) (D:T→Prop) (bf lt:T→T→Prop):Prop where
 said:∀ x y,D x→D y→bf y x→(c x y<0 ↔ lt x y)
 total:∀ x y,D x→D y→bf y x→¬ lt x y→lt y x
 trans:∀ x y z,D x→D y→D z→lt x y→lt y z→lt x z
theorem getD_at (P Q S:List T) (h:Nat) (h1:P.length≤h) (h2:h<P.length+Q.length):(P++(Q++S)).getD h zeroT=Q.getD (h - P.length) zeroT:=by
 simp only [List.getD_eq_getElem?_getD]
 rw [List.getElem?_append_right h1,List.getElem?_append_left (by omega)]
theorem pw_get {R:T→T→Prop} {l:List T} (h:l.Pairwise R) {i j:Nat} (hij:i<j) (hj:j<l.length):R (l.getD i zeroT) (l.getD j zeroT):=by
 simp only [List.getD_eq_getElem?_getD]
 rw [List.getElem?_eq_getElem (by omega),List.getElem?_eq_getElem hj]
 exact List.pairwise_iff_getElem.mp h i j (by omega) hj hij
theorem get_mem {l:List T} {i:Nat} (hi:i<l.length):l.getD i zeroT ∈ l:=by
 simp only [List.getD_eq_getElem?_getD]
 rw [List.getElem?_eq_getElem hi]
 exact List.getElem_mem hi
def Srt (lt:T→T→Prop) (P A S r:List T):Prop:=∃ R,r=P++(R++S)∧R.Perm A∧R.Pairwise lt
theorem take_get {B:List T} {k:Nat} {x:T} (hx:x ∈ B.take k):∃ i,i<k∧i<B.length∧B.getD i zeroT=x:=by
 obtain ⟨i,hi,rfl⟩:=List.mem_iff_getElem.mp hx
 simp at hi
 exact ⟨i,by omega,by omega,by rw [List.getD_eq_getElem?_getD,List.getElem?_eq_getElem (by omega)];simp⟩
theorem drop_get {B:List T} {k:Nat} {x:T} (hx:x ∈ B.drop k):∃ i,k≤i∧i<B.length∧B.getD i zeroT=x:=by
 obtain ⟨i,hi,rfl⟩:=List.mem_iff_getElem.mp hx
 simp at hi
 exact ⟨k+i,by omega,by omega,by rw [List.getD_eq_getElem?_getD,List.getElem?_eq_getElem (by omega)];simp⟩
theorem sym1_srt {c:T→T→Int} {D:T→Prop} {bf lt:T→T→Prop} (H:OrdC c D bf lt) (P S B:List T) (x:T) (hx:D x) (hB:∀ y ∈ B,D y) (hf:∀ y ∈ B,bf x y) (hs:B.Pairwise lt) (a m b:Nat) (ha:a=P.length) (hm:m=a+1) (hb:b=m+B.length) :
  Srt lt P (x::B) S (shU (bs1 c (P++(x::(B++S))) a (b - m) m b - 1 - a) a (P++(x::(B++S)))):=by
 have gx:(P++(x::(B++S))).getD a zeroT=x:=getD_mid _ _ _ ha
 have gB:∀ h,m≤h→h<b→(P++(x::(B++S))).getD h zeroT=B.getD (h - m) zeroT:=fun h h1 h2=>by
  have e:P++(x::(B++S))=(P++[x])++(B++S):=by simp
  rw [e,getD_at (P++[x]) B S h (by simp;omega) (by simp;omega)]
  congr 1;simp;omega
 have hp:∀ h,m≤h→h<b→(¬ c ((P++(x::(B++S))).getD h zeroT) ((P++(x::(B++S))).getD a zeroT)<0 ↔ ¬ lt (B.getD (h - m) zeroT) x):=fun h h1 h2=>by
  rw [gx,gB h h1 h2,H.said _ _ (hB _ (get_mem (by omega))) hx (hf _ (get_mem (by omega)))]
 rw [bs1_G]
 obtain ⟨s1,s2,s3,s4⟩:=bsG_said (fun h=>¬ c ((P++(x::(B++S))).getD h zeroT) ((P++(x::(B++S))).getD a zeroT)<0) (b - m) m b (by omega) (Nat.le_refl _) (fun h h' h1 h2 h3 q=>by
  refine (hp h' (by omega) h3).mpr (fun q2=>(hp h h1 (by omega)).mp q ?_)
  by_cases he:h=h'
  ·subst he;exact q2
  ·exact H.trans _ _ _ (hB _ (get_mem (by omega))) (hB _ (get_mem (by omega))) hx (pw_get hs (by omega) (by omega)) q2)
 generalize bsG (fun h=>¬ c ((P++(x::(B++S))).getD h zeroT) ((P++(x::(B++S))).getD a zeroT)<0) (b - m) m b=s at *
 have e1:(B.take (s - m)).length=s - 1 - a:=by simp;omega
 have e2:P++(x::(B++S))=P++x::(B.take (s - m)++(B.drop (s - m)++S)):=by rw [← List.append_assoc (B.take _),List.take_append_drop]
 rw [e2,← e1,shU_mid (B.take (s - m)) P _ x a ha]
 have l1:∀ y ∈ B.take (s - m),lt y x:=fun y hy=>by
  obtain ⟨i,h1,h2,rfl⟩:=take_get hy
  have:=s3 (m+i) (by omega) (by omega)
  rw [hp _ (by omega) (by omega),Nat.add_sub_cancel_left] at this
  exact Classical.not_not.mp this
 have l2:∀ y ∈ B.drop (s - m),lt x y:=fun y hy=>by
  obtain ⟨i,h1,h2,rfl⟩:=drop_get hy
  have:=s4 (m+i) (by omega) (by omega)
  rw [hp _ (by omega) (by omega),Nat.add_sub_cancel_left] at this
  exact H.total _ _ (hB _ (get_mem (by omega))) hx (hf _ (get_mem (by omega))) this
 have hs':(B.take (s - m)++B.drop (s - m)).Pairwise lt:=by rw [List.take_append_drop];exact hs
 obtain ⟨p1,p2,p3⟩:=List.pairwise_append.mp hs'
 refine ⟨B.take (s - m)++x::B.drop (s - m),by simp,?_,List.pairwise_append.mpr ⟨p1,List.pairwise_cons.mpr ⟨l2,p2⟩,fun y hy z hz=>?_⟩⟩
 ·refine List.perm_middle.trans ?_
  rw [List.take_append_drop]
 ·rcases List.mem_cons.mp hz with rfl | hz
  ·exact l1 y hy
  ·exact p3 y hy z hz
theorem sym2_srt {c:T→T→Int} {D:T→Prop} {bf lt:T→T→Prop} (H:OrdC c D bf lt) (P S A:List T) (x:T) (hx:D x) (hA:∀ y ∈ A,D y) (hf:∀ y ∈ A,bf y x) (hs:A.Pairwise lt) (a m:Nat) (ha:a=P.length) (hm:m=a+A.length) :
  Srt lt P (A++[x]) S (shD (m - bs2 c (P++(A++(x::S))) m (m - a) a m) m (P++(A++(x::S)))):=by
 have gx:(P++(A++(x::S))).getD m zeroT=x:=by
  rw [← List.append_assoc];exact getD_mid _ _ _ (by simp;omega)
 have gA:∀ h,a≤h→h<m→(P++(A++(x::S))).getD h zeroT=A.getD (h - a) zeroT:=fun h h1 h2=>by
  rw [getD_at P A _ h (by omega) (by omega),ha]
 have hp:∀ h,a≤h→h<m→(c ((P++(A++(x::S))).getD m zeroT) ((P++(A++(x::S))).getD h zeroT)<0 ↔ lt x (A.getD (h - a) zeroT)):=fun h h1 h2=>by
  rw [gx,gA h h1 h2,H.said _ _ hx (hA _ (get_mem (by omega))) (hf _ (get_mem (by omega)))]
 rw [bs2_G]
 obtain ⟨s1,s2,s3,s4⟩:=bsG_said (fun h=>c ((P++(A++(x::S))).getD m zeroT) ((P++(A++(x::S))).getD h zeroT)<0) (m - a) a m (by omega) (Nat.le_refl _) (fun h h' h1 h2 h3 q=>by
  refine (hp h' (by omega) h3).mpr ?_
  have q':=(hp h h1 (by omega)).mp q
  by_cases he:h=h'
  ·subst he;exact q'
  ·exact H.trans _ _ _ hx (hA _ (get_mem (by omega))) (hA _ (get_mem (by omega))) q' (pw_get hs (by omega) (by omega)))
 generalize bsG (fun h=>c ((P++(A++(x::S))).getD m zeroT) ((P++(A++(x::S))).getD h zeroT)<0) (m - a) a m=s at *
 have e1:(A.drop (s - a)).length=m - s:=by simp;omega
 have e2:P++(A++(x::S))=(P++A.take (s - a))++(A.drop (s - a)++x::S):=by rw [List.append_assoc,← List.append_assoc (A.take _),List.take_append_drop]
 rw [e2,shD_mid (m - s) (A.drop (s - a)) (P++A.take (s - a)) S x m e1 (by simp;omega)]
 have l1:∀ y ∈ A.take (s - a),lt y x:=fun y hy=>by
  obtain ⟨i,h1,h2,rfl⟩:=take_get hy
  have:=s3 (a+i) (by omega) (by omega)
  rw [hp _ (by omega) (by omega),Nat.add_sub_cancel_left] at this
  exact H.total _ _ hx (hA _ (get_mem (by omega))) (hf _ (get_mem (by omega))) this
 have l2:∀ y ∈ A.drop (s - a),lt x y:=fun y hy=>by
  obtain ⟨i,h1,h2,rfl⟩:=drop_get hy
  have:=s4 (a+i) (by omega) (by omega)
  rwa [hp _ (by omega) (by omega),Nat.add_sub_cancel_left] at this
 have hs':(A.take (s - a)++A.drop (s - a)).Pairwise lt:=by rw [List.take_append_drop];exact hs
 obtain ⟨p1,p2,p3⟩:=List.pairwise_append.mp hs'
 refine ⟨A.take (s - a)++x::A.drop (s - a),by simp,?_,List.pairwise_append.mpr ⟨p1,List.pairwise_cons.mpr ⟨l2,p2⟩,fun y hy z hz=>?_⟩⟩
 ·refine List.perm_middle.trans ?_
  rw [List.take_append_drop]
  exact (List.perm_append_comm (l₁:=[x])).trans (List.Perm.refl _)
 ·rcases List.mem_cons.mp hz with rfl | hz
  ·exact l1 y hy
  ·exact p3 y hy z hz
theorem bs3_said {c:T→T→Int} {D:T→Prop} {bf lt:T→T→Prop} (H:OrdC c D bf lt) (P A B S:List T) (hA:∀ y ∈ A,D y) (hB:∀ y ∈ B,D y) (hf:∀ y ∈ A,∀ x ∈ B,bf y x) (sA:A.Pairwise lt) (sB:B.Pairwise lt) (a m b pp lo hi f:Nat) (ha:a=P.length) (hm:m=a+A.length) (hb:b=m+B.length) (h1:a≤lo) (h2:lo≤hi) (h3:hi≤m) (h4:m+hi≤pp+1) (h5:pp<lo+b) (hfu:hi - lo≤f) (s:Nat) (he:bs3 c (P++(A++(B++S))) pp f lo hi=s) :
  lo≤s∧s≤hi∧(lo<s→lt (A.getD (s - 1 - a) zeroT) (B.getD (pp+1 - s - m) zeroT))∧(s<hi→lt (B.getD (pp - s - m) zeroT) (A.getD (s - a) zeroT)):=by
 have gA:∀ h,a≤h→h<m→(P++(A++(B++S))).getD h zeroT=A.getD (h - a) zeroT:=fun h h1 h2=>by
  rw [getD_at P A _ h (by omega) (by omega),ha]
 have gB:∀ h,m≤h→h<b→(P++(A++(B++S))).getD h zeroT=B.getD (h - m) zeroT:=fun h h1 h2=>by
  rw [← List.append_assoc,getD_at (P++A) B S h (by simp;omega) (by simp;omega)]
  congr 1;simp;omega
 have hp:∀ h,lo≤h→h<hi→(c ((P++(A++(B++S))).getD (pp - h) zeroT) ((P++(A++(B++S))).getD h zeroT)<0 ↔ lt (B.getD (pp - h - m) zeroT) (A.getD (h - a) zeroT)):=fun h q1 q2=>by
  rw [gB _ (by omega) (by omega),gA h (by omega) (by omega),H.said _ _ (hB _ (get_mem (by omega))) (hA _ (get_mem (by omega))) (hf _ (get_mem (by omega)) _ (get_mem (by omega)))]
 rw [bs3_G] at he
 obtain ⟨s1,s2,s3,s4⟩:=bsG_said (fun h=>c ((P++(A++(B++S))).getD (pp - h) zeroT) ((P++(A++(B++S))).getD h zeroT)<0) f lo hi h2 hfu (fun h h' q1 q2 q3 q=>by
  refine (hp h' (by omega) q3).mpr ?_
  have q':=(hp h q1 (by omega)).mp q
  by_cases he:h=h'
  ·subst he;exact q'
  ·have r1:lt (B.getD (pp - h' - m) zeroT) (B.getD (pp - h - m) zeroT):=pw_get sB (by omega) (by omega)
   have r2:lt (A.getD (h - a) zeroT) (A.getD (h' - a) zeroT):=pw_get sA (by omega) (by omega)
   exact H.trans _ _ _ (hB _ (get_mem (by omega))) (hA _ (get_mem (by omega))) (hA _ (get_mem (by omega))) (H.trans _ _ _ (hB _ (get_mem (by omega))) (hB _ (get_mem (by omega))) (hA _ (get_mem (by omega))) r1 q') r2)
 rw [he] at s1 s2 s3 s4
 refine ⟨s1,s2,fun q=>?_,fun q=>(hp s s1 q).mp (s4 s (Nat.le_refl _) q)⟩
 have:=s3 (s - 1) (by omega) (by omega)
 rw [hp (s - 1) (by omega) (by omega)] at this
 have e:pp - (s - 1) - m=pp+1 - s - m:=by omega
 rw [e] at this
 exact H.total _ _ (hB _ (get_mem (by omega))) (hA _ (get_mem (by omega))) (hf _ (get_mem (by omega)) _ (get_mem (by omega))) this
theorem Srt.refl {lt:T→T→Prop} {P A S:List T} (h:A.Pairwise lt):Srt lt P A S (P++(A++S)):=⟨A,rfl,List.Perm.refl _,h⟩
theorem symB_srt {D:T→Prop} {bf lt:T→T→Prop} (F:Nat→Nat→Nat→List T→List T) (f:Nat)
  (hF:∀ (P A B S:List T) (a m b:Nat),A.length+B.length≤f→0<A.length→0<B.length→a=P.length→m=a+A.length→b=m+B.length→(∀ y ∈ A,D y)→(∀ y ∈ B,D y)→(∀ y ∈ A,∀ x ∈ B,bf y x)→A.Pairwise lt→B.Pairwise lt→Srt lt P (A++B) S (F a m b (P++(A++(B++S)))))
  (P A B S:List T) (a m b:Nat) (hl:A.length+B.length≤f) (ha:a=P.length) (hm:m=a+A.length) (hb:b=m+B.length) (hA:∀ y ∈ A,D y) (hB:∀ y ∈ B,D y) (hf:∀ y ∈ A,∀ x ∈ B,bf y x) (sA:A.Pairwise lt) (sB:B.Pairwise lt) :
  Srt lt P (A++B) S (symB F a m b (P++(A++(B++S)))):=by
 rw [symB]
 by_cases h:a<m∧m<b
 ·rw [if_pos h]
  exact hF P A B S a m b hl (by omega) (by omega) ha hm hb hA hB hf sA sB
 ·rw [if_neg h]
  by_cases h1:A.length=0
  ·have:A=[]:=List.eq_nil_of_length_eq_zero h1
   subst this
   simpa using Srt.refl (P:=P) (S:=S) sB
  ·have:B=[]:=List.eq_nil_of_length_eq_zero (by omega)
   subst this
   simpa using Srt.refl (P:=P) (S:=S) sA
theorem symL_srt {c:T→T→Int} {D:T→Prop} {bf lt:T→T→Prop} (H:OrdC c D bf lt):∀ (f:Nat) (P A B S:List T) (a m b:Nat),A.length+B.length≤f→0<A.length→0<B.length→a=P.length→m=a+A.length→b=m+B.length→(∀ y ∈ A,D y)→(∀ y ∈ B,D y)→(∀ y ∈ A,∀ x ∈ B,bf y x)→A.Pairwise lt→B.Pairwise lt→Srt lt P (A++B) S (symL c f a m b (P++(A++(B++S))))
 | 0,P,A,B,S,a,m,b,hl,h1,h2,_,_,_,_,_,_,_,_=>by omega
 | f+1,P,A,B,S,a,m,b,hl,h1,h2,ha,hm,hb,hA,hB,hf,sA,sB=>by
  rw [symL]
  dsimp only
  by_cases hm1:m=a+1
  ·rw [if_pos hm1]
   obtain ⟨x,rfl⟩:∃ x,A=[x]:=List.length_eq_one_iff.mp (by omega)
   exact sym1_srt H P S B x (hA x (by simp)) hB (fun y hy=>hf x (by simp) y hy) sB a m b ha hm1 hb
  ·rw [if_neg hm1]
   by_cases hb1:b=m+1
   ·rw [if_pos hb1]
    obtain ⟨x,rfl⟩:∃ x,B=[x]:=List.length_eq_one_iff.mp (by omega)
    exact sym2_srt H P S A x (hB x (by simp)) hA (fun y hy=>hf y hy x (by simp)) sA a m ha hm
   ·rw [if_neg hb1]
    obtain ⟨mid,hmid⟩:∃ mid,(a+b) / 2=mid:=⟨_,rfl⟩
    obtain ⟨s,hs⟩:∃ s,symS c (P++(A++(B++S))) a m b=s:=⟨_,rfl⟩
    obtain ⟨en,hen⟩:∃ en,mid+m - s=en:=⟨_,rfl⟩
    have hK:a≤s∧s≤m∧s≤mid∧m≤en∧en≤b∧(a<s→en<b→lt (A.getD (s - 1 - a) zeroT) (B.getD (en - m) zeroT))∧(s<m→m<en→lt (B.getD (en - 1 - m) zeroT) (A.getD (s - a) zeroT)):=by
     rw [symS,hmid] at hs
     by_cases hg:mid<m
     ·rw [if_pos hg] at hs
      obtain ⟨r1,r2,r3,r4⟩:=bs3_said H P A B S hA hB hf sA sB a m b (mid+m - 1) (mid+m - b) mid (b - a) ha hm hb (by omega) (by omega) (by omega) (by omega) (by omega) (by omega) s hs
      refine ⟨by omega,by omega,by omega,by omega,by omega,fun q1 q2=>?_,fun q1 q2=>?_⟩
      ·have:=r3 (by omega)
       rwa [show mid+m - 1+1 - s - m=en - m by omega] at this
      ·have:=r4 (by omega)
       rwa [show mid+m - 1 - s - m=en - 1 - m by omega] at this
     ·rw [if_neg hg] at hs
      obtain ⟨r1,r2,r3,r4⟩:=bs3_said H P A B S hA hB hf sA sB a m b (mid+m - 1) a m (b - a) ha hm hb (by omega) (by omega) (by omega) (by omega) (by omega) (by omega) s hs
      refine ⟨by omega,by omega,by omega,by omega,by omega,fun q1 q2=>?_,fun q1 q2=>?_⟩
      ·have:=r3 (by omega)
       rwa [show mid+m - 1+1 - s - m=en - m by omega] at this
      ·have:=r4 (by omega)
       rwa [show mid+m - 1 - s - m=en - 1 - m by omega] at this
    obtain ⟨k1,k2,k3,k4,k5,k6,k7⟩:=hK
    rw [hs,hmid,hen]
    have x1:∀ x ∈ A.take (s - a),∀ y ∈ B.drop (en - m),lt x y:=fun x hx y hy=>by
     obtain ⟨i,i1,i2,rfl⟩:=take_get hx
     obtain ⟨j,j1,j2,rfl⟩:=drop_get hy
     have e:=k6 (by omega) (by omega)
     have e2:lt (A.getD i zeroT) (B.getD (en - m) zeroT):=by
      by_cases q:i=s - 1 - a
      ·rw [q];exact e
      ·exact H.trans _ _ _ (hA _ (get_mem (by omega))) (hA _ (get_mem (by omega))) (hB _ (get_mem (by omega))) (pw_get sA (show i<s - 1 - a by omega) (by omega)) e
     by_cases q:j=en - m
     ·rw [q];exact e2
     ·exact H.trans _ _ _ (hA _ (get_mem (by omega))) (hB _ (get_mem (by omega))) (hB _ (get_mem (by omega))) e2 (pw_get sB (show en - m<j by omega) (by omega))
    have x2:∀ x ∈ B.take (en - m),∀ y ∈ A.drop (s - a),lt x y:=fun x hx y hy=>by
     obtain ⟨i,i1,i2,rfl⟩:=take_get hx
     obtain ⟨j,j1,j2,rfl⟩:=drop_get hy
     have e:=k7 (by omega) (by omega)
     have e2:lt (B.getD i zeroT) (A.getD (s - a) zeroT):=by
      by_cases q:i=en - 1 - m
      ·rw [q];exact e
      ·exact H.trans _ _ _ (hB _ (get_mem (by omega))) (hB _ (get_mem (by omega))) (hA _ (get_mem (by omega))) (pw_get sB (show i<en - 1 - m by omega) (by omega)) e
     by_cases q:j=s - a
     ·rw [q];exact e2
     ·exact H.trans _ _ _ (hB _ (get_mem (by omega))) (hA _ (get_mem (by omega))) (hA _ (get_mem (by omega))) e2 (pw_get sA (show s - a<j by omega) (by omega))
    obtain ⟨A1,hA1⟩:∃ A1,A.take (s - a)=A1:=⟨_,rfl⟩
    obtain ⟨A2,hA2⟩:∃ A2,A.drop (s - a)=A2:=⟨_,rfl⟩
    obtain ⟨B1,hB1⟩:∃ B1,B.take (en - m)=B1:=⟨_,rfl⟩
    obtain ⟨B2,hB2⟩:∃ B2,B.drop (en - m)=B2:=⟨_,rfl⟩
    have eA:A=A1++A2:=by rw [← hA1,← hA2,List.take_append_drop]
    have eB:B=B1++B2:=by rw [← hB1,← hB2,List.take_append_drop]
    have lA1:A1.length=s - a:=by rw [← hA1];simp;omega
    have lA2:A2.length=m - s:=by rw [← hA2];simp;omega
    have lB1:B1.length=en - m:=by rw [← hB1];simp;omega
    have lB2:B2.length=b - en:=by rw [← hB2];simp;omega
    rw [hA1,hB2] at x1
    rw [hA2,hB1] at x2
    clear hA1 hA2 hB1 hB2 hs k6 k7
    subst eA eB
    have rot:symA m s en (P++(A1++A2++(B1++B2++S)))=P++(A1++(B1++(A2++(B2++S)))):=by
     rw [symA]
     by_cases q:s<m∧m<en
     ·rw [if_pos q,← lA2,← lB1]
      have:=rotA_mid m (en - s) (P++A1) A2 B1 (B2++S) (by omega) (by omega) (by omega) (by simp;omega)
      simpa using this
     ·rw [if_neg q]
      by_cases q1:s<m
      ·have:B1=[]:=List.eq_nil_of_length_eq_zero (by omega)
       subst this;simp
      ·have:A2=[]:=List.eq_nil_of_length_eq_zero (by omega)
       subst this;simp
    obtain ⟨sA1,sA2,sA3⟩:=List.pairwise_append.mp sA
    obtain ⟨sB1,sB2,sB3⟩:=List.pairwise_append.mp sB
    have mA1:∀ y ∈ A1,y ∈ A1++A2:=fun y hy=>List.mem_append_left _ hy
    have mA2:∀ y ∈ A2,y ∈ A1++A2:=fun y hy=>List.mem_append_right _ hy
    have mB1:∀ y ∈ B1,y ∈ B1++B2:=fun y hy=>List.mem_append_left _ hy
    have mB2:∀ y ∈ B2,y ∈ B1++B2:=fun y hy=>List.mem_append_right _ hy
    rw [symT,rot]
    obtain ⟨R1,e1,p1,o1⟩:=symB_srt (symL c f) f (symL_srt H f) P A1 B1 (A2++(B2++S)) a s mid (by omega) ha (by omega) (by omega) (fun y hy=>hA y (mA1 y hy)) (fun y hy=>hB y (mB1 y hy)) (fun y hy x hx=>hf y (mA1 y hy) x (mB1 x hx)) sA1 sB1
    rw [e1]
    have lR1:R1.length=mid - a:=by rw [p1.length_eq,List.length_append];omega
    obtain ⟨R2,e2,p2,o2⟩:=symB_srt (symL c f) f (symL_srt H f) (P++R1) A2 B2 S mid en b (by omega) (by simp;omega) (by omega) (by omega) (fun y hy=>hA y (mA2 y hy)) (fun y hy=>hB y (mB2 y hy)) (fun y hy x hx=>hf y (mA2 y hy) x (mB2 x hx)) sA2 sB2
    rw [List.append_assoc] at e2
    rw [e2]
    refine ⟨R1++R2,by simp,?_,List.pairwise_append.mpr ⟨o1,o2,fun x hx y hy=>?_⟩⟩
    ·refine (p1.append p2).trans ?_
     rw [List.append_assoc,List.append_assoc]
     refine List.Perm.append_left A1 ?_
     rw [← List.append_assoc,← List.append_assoc A2]
     exact List.Perm.append_right B2 List.perm_append_comm
    ·rcases List.mem_append.mp (p1.mem_iff.mp hx) with hx | hx
     ·rcases List.mem_append.mp (p2.mem_iff.mp hy) with hy | hy
      ·exact sA3 x hx y hy
      ·exact x1 x hx y hy
     ·rcases List.mem_append.mp (p2.mem_iff.mp hy) with hy | hy
      ·exact x2 x hx y hy
      ·exact sB3 x hx y hy
theorem sinkL_srt {c:T→T→Int} {D:T→Prop} {bf lt:T→T→Prop} (H:OrdC c D bf lt) (P:List T) (x:T) (hx:D x) (a:Nat) (ha:a=P.length):∀ (k:Nat) (A S:List T),A.length=k→(∀ y ∈ A,D y)→(∀ y ∈ A,bf y x)→A.Pairwise lt→Srt lt P (A++[x]) S (sinkL c a (a+k) (P++(A++(x::S))))
 | 0,A,S,hk,_,_,_=>by
  have:A=[]:=List.eq_nil_of_length_eq_zero hk
  subst this
  have e:sinkL c a (a+0) (P++([]++(x::S)))=P++([x]++S):=by
   cases a with
   | zero=>rfl
   | succ a=>rw [Nat.add_zero,sinkL,if_neg (by omega)];rfl
  rw [e]
  exact Srt.refl (by simp)
 | k+1,A,S,hk,hA,hf,sA=>by
  obtain ⟨A',y,rfl⟩:∃ X' y,A=X'++[y]:=⟨A.dropLast,A.getLast (by intro h;simp [h] at hk),(List.dropLast_concat_getLast _).symm⟩
  have hk':A'.length=k:=by simpa using hk
  obtain ⟨s1,s2,s3⟩:=List.pairwise_append.mp sA
  have hy:D y:=hA y (by simp)
  have e:P++(A'++[y]++x::S)=(P++A')++y::(x::S):=by simp
  have g1:(P++(A'++[y]++x::S)).getD (a+k) zeroT=y:=by rw [e];exact getD_mid _ _ _ (by simp;omega)
  have g2:(P++(A'++[y]++x::S)).getD (a+k+1) zeroT=x:=by
   have e':P++(A'++[y]++x::S)=(P++A'++[y])++(x::S):=by simp
   rw [e'];exact getD_mid _ _ _ (by simp;omega)
  rw [show a+(k+1)=a+k+1 by omega,sinkL,g1,g2]
  by_cases hc:c x y<0
  ·rw [if_pos ⟨by omega,hc⟩]
   have l1:=(H.said x y hx hy (hf y (by simp))).mp hc
   have sw:swapL (P++(A'++[y]++x::S)) (a+k+1) (a+k)=P++(A'++(x::(y::S))):=by
    have:=swapL_comm' (P++A') [] S y x (i:=a+k) (j:=a+k+1) (by simp;omega) (by simp;omega)
    rw [e]
    simpa using this
   rw [sw]
   obtain ⟨R,e1,p1,o1⟩:=sinkL_srt H P x hx a ha k A' (y::S) hk' (fun z hz=>hA z (by simp [hz])) (fun z hz=>hf z (by simp [hz])) s1
   rw [e1]
   refine ⟨R++[y],by simp,?_,List.pairwise_append.mpr ⟨o1,by simp,fun z hz q hq=>?_⟩⟩
   ·refine (p1.append_right [y]).trans ?_
    rw [List.append_assoc,List.append_assoc]
    exact List.Perm.append_left A' List.perm_append_comm
   ·obtain rfl:q=y:=by simpa using hq
    rcases List.mem_append.mp (p1.mem_iff.mp hz) with hz | hz
    ·exact s3 z hz q (by simp)
    ·obtain rfl:z=x:=by simpa using hz
     exact l1
  ·rw [if_neg (fun q=>hc q.2)]
   have l1:=H.total x y hx hy (hf y (by simp)) (fun q=>hc ((H.said x y hx hy (hf y (by simp))).mpr q))
   refine ⟨A'++[y]++[x],by simp,List.Perm.refl _,List.pairwise_append.mpr ⟨sA,by simp,fun z hz q hq=>?_⟩⟩
   obtain rfl:q=x:=by simpa using hq
   rcases List.mem_append.mp hz with hz | hz
   ·exact H.trans _ _ _ (hA z (by simp [hz])) hy hx (s3 z hz y (by simp)) l1
   ·obtain rfl:z=y:=by simpa using hz
    exact l1
theorem insL_srt {c:T→T→Int} {D:T→Prop} {bf lt:T→T→Prop} (H:OrdC c D bf lt) (P S:List T) (a:Nat) (ha:a=P.length):∀ (Q A:List T) (i:Nat),i=a+A.length→(∀ y ∈ A,D y)→(∀ y ∈ Q,D y)→(∀ y ∈ A,∀ x ∈ Q,bf y x)→Q.Pairwise bf→A.Pairwise lt→Srt lt P (A++Q) S (insL c a Q.length i (P++(A++(Q++S))))
 | [],A,i,_,_,_,_,_,sA=>by
  have:=Srt.refl (P:=P) (S:=S) sA
  simpa [insL] using this
 | x::Q,A,i,hi,hA,hQ,hf,hq,sA=>by
  rw [List.length_cons,insL,hi]
  obtain ⟨R,e1,p1,o1⟩:=sinkL_srt H P x (hQ x (by simp)) a ha A.length A (Q++S) rfl hA (fun y hy=>hf y hy x (by simp)) sA
  rw [show P++(A++(x::Q++S))=P++(A++(x::(Q++S))) by simp,e1]
  obtain ⟨q1,q2⟩:=List.pairwise_cons.mp hq
  have hR:∀ y ∈ R,y ∈ A∨y=x:=fun y hy=>by simpa using p1.mem_iff.mp hy
  obtain ⟨R2,e2,p2,o2⟩:=insL_srt H P S a ha Q R (a+A.length+1) (by rw [p1.length_eq];simp;omega) (fun y hy=>(hR y hy).elim (hA y) (fun e=>by rw [e];exact hQ x (by simp))) (fun y hy=>hQ y (by simp [hy])) (fun y hy z hz=>(hR y hy).elim (fun h=>hf y h z (by simp [hz])) (fun e=>by rw [e];exact q1 z hz)) q2 o1
  rw [e2]
  refine ⟨R2,rfl,p2.trans ?_,o2⟩
  refine (p1.append_right Q).trans ?_
  simp
theorem ins_srt {c:T→T→Int} {D:T→Prop} {bf lt:T→T→Prop} (H:OrdC c D bf lt) (P Q S:List T) (a b:Nat) (ha:a=P.length) (hb:b=a+Q.length) (hQ:∀ y ∈ Q,D y) (hq:Q.Pairwise bf):Srt lt P Q S (insL c a (b - (a+1)) (a+1) (P++(Q++S))):=by
 cases Q with
 | nil =>
  have e:b - (a+1)=0:=by simp at hb;omega
  rw [e]
  exact Srt.refl List.Pairwise.nil
 | cons x Q =>
  have e:b - (a+1)=Q.length:=by simp at hb;omega
  obtain ⟨q1,q2⟩:=List.pairwise_cons.mp hq
  have:=insL_srt H P S a ha Q [x] (a+1) (by simp) (fun y hy=>hQ y (by simp at hy;simp [hy])) (fun y hy=>hQ y (by simp [hy])) (fun y hy z hz=>by simp at hy;subst hy;exact q1 z hz) q2 (by simp)
  rw [e]
  simpa using this
theorem sortL_srt {c:T→T→Int} {D:T→Prop} {bf lt:T→T→Prop} (H:OrdC c D bf lt) (n:Nat) (l:List T) (hl:l.length=n) (hn:n<40) (hD:∀ y ∈ l,D y) (hb:l.Pairwise bf):(sortL c n l).Perm l∧(sortL c n l).Pairwise lt:=by
 by_cases h20:20≤n
 ·obtain ⟨n',rfl⟩:∃ n',n=n'+1:=⟨n - 1,by omega⟩
  obtain ⟨X,Y,rfl,hX⟩:∃ X Y,l=X++Y∧X.length=20:=⟨l.take 20,l.drop 20,(List.take_append_drop _ _).symm,by simp;omega⟩
  obtain ⟨b1,b2,b3⟩:=List.pairwise_append.mp hb
  have hY:Y.length=n'+1 - 20:=by simp at hl;omega
  obtain ⟨R1,e1,p1,o1⟩:=ins_srt H [] X Y 0 20 rfl (by omega) (fun y hy=>hD y (by simp [hy])) b1
  have l1:R1.length=20:=by rw [p1.length_eq,hX]
  obtain ⟨R2,e2,p2,o2⟩:=ins_srt H R1 Y [] 20 (n'+1) (by omega) (by omega) (fun y hy=>hD y (by simp [hy])) b2
  have l2:R2.length=n'+1 - 20:=by rw [p2.length_eq,hY]
  have hblk:blkL c (n'+1) (n'+1+1) 0 20 (X++Y)=R1++R2:=by
   rw [blkL,if_pos h20,blkL,if_neg (by omega)]
   simp only [List.nil_append] at e1
   rw [e1]
   simp only [List.append_nil] at e2
   exact e2
  rw [sortL,hblk,stbL]
  by_cases h21:20<n'+1
  ·rw [if_pos h21,mrgL,if_neg (by omega),Nat.zero_add,if_pos h21,stbL,if_neg (by omega)]
   obtain ⟨R,e3,p3,o3⟩:=symL_srt H (n'+1) [] R1 R2 [] 0 20 (n'+1) (by omega) (by omega) (by omega) rfl (by omega) (by omega) (fun y hy=>hD y (by simp [p1.mem_iff.mp hy])) (fun y hy=>hD y (by simp [p2.mem_iff.mp hy])) (fun y hy x hx=>b3 y (p1.mem_iff.mp hy) x (p2.mem_iff.mp hx)) o1 o2
   simp only [List.nil_append,List.append_nil] at e3
   rw [e3]
   exact ⟨p3.trans (p1.append p2),o3⟩
  ·rw [if_neg h21]
   have:R2=[]:=List.eq_nil_of_length_eq_zero (by omega)
   subst this
   have hY0:Y=[]:=List.eq_nil_of_length_eq_zero (by omega)
   subst hY0
   simp only [List.append_nil]
   exact ⟨p1,o1⟩
 ·have hblk:blkL c n (n+1) 0 20 l=insL c 0 (n - 1) 1 l:=by rw [blkL,if_neg (by omega)]
  obtain ⟨R,e,p,o⟩:=ins_srt H [] l [] 0 n rfl (by omega) hD hb
  simp only [List.nil_append,List.append_nil,Nat.zero_add] at e
  rw [sortL,hblk,stbL,if_neg (by omega),e]
  exact ⟨p,o⟩
end Go.Proofs.YtknakfpciccoaabGreatDoor
/- A tree whose numbers fit lies in some world. -/
namespace Go.Proofs.YtknakfpciccoaabGreatDoor
open Go.RowKit
def FitT:Nat→T→Prop
 | 0,_=>False
 | f+1,t=>Fits t∧(∀ i,i<nL t→FitT f (elt t i))∧∀ i,i<nK t→(nam t i).size≤140737488355328
theorem lies_list {f:Nat} {t:T} (ih:∀ i,i<nL t→∀ w:World,∃ w' v,Below w.heap.size w w'∧At w' f v (elt t i)):∀ k,k≤nL t→∀ w:World,∃ (w':World) (xs:List Value),Below w.heap.size w w'∧xs.length=k*5∧∀ i,i<k→At w' f (fv xs i) (elt t i)
 | 0,_,w=>⟨w,[],Below.refl _ _,rfl,fun i hi=>absurd hi (Nat.not_lt_zero i)⟩
 | k+1,hk,w=>by
  obtain ⟨w1,xs,b1,hx,h1⟩:=lies_list ih k (by omega) w
  obtain ⟨w2,v,b2,ha⟩:=ih k (by omega) w1
  obtain ⟨g,La,Ka,Lc,Kc,rfl,rfl,_⟩:=ha.open
  refine ⟨w2,xs++[.int .i64 (kindOf (elt t k)),.int .i64 (nOf (elt t k)),.string (sOf (elt t k)),.slice La (nL (elt t k)) Lc,.slice Ka (nK (elt t k)) Kc],b1.trans (b2.mono b1.size),by rw [List.length_append,hx];simp;omega,fun i hi=>?_⟩
  by_cases e:i<k
  ·rw [fv_left hx e]
   exact At.keep b2 (h1 i e)
  ·obtain rfl:i=k:=by omega
   rw [fv_right hx]
   exact ha
theorem lies_some:∀ (f:Nat) (t:T),FitT f t→∀ w:World,∃ w' v,Below w.heap.size w w'∧At w' f v t
 | 0,_,h,_=>h.elim
 | f+1,t,⟨hf,he,hn⟩,w=>by
  obtain ⟨w1,xs,b1,hx,h1⟩:=lies_list (fun i hi=>lies_some f (elt t i) (he i hi)) (nL t) (Nat.le_refl _) w
  have bA:Below w1.heap.size w1 (w1.alloc (.cells xs.toArray 36)):=(Below.refl _ _).alloc (Nat.le_refl _) _
  have bB:Below (w1.heap.size+1) (w1.alloc (.cells xs.toArray 36)) ((w1.alloc (.cells xs.toArray 36)).alloc (.cells (namesV (kOf t)).toArray 9)):=(Below.refl _ _).alloc (by simp) _
  have r1:(w1.alloc (.cells xs.toArray 36)).ownsRow 0 36 5 (.slice (some ⟨w1.heap.size,0,none⟩) (nL t) (nL t)) (nL t) xs:=by
   have:=World.ownsRow_lit (base:=0) (e:=36) (size:=5) w1 xs.toArray (nL t) (Nat.zero_le _) (by have:=hf.l1;unfold maxLen;omega) (by simpa using hx)
   simpa using this
  have r2:((w1.alloc (.cells xs.toArray 36)).alloc (.cells (namesV (kOf t)).toArray 9)).ownsRow 0 9 1 (.slice (some ⟨w1.heap.size+1,0,none⟩) (nK t) (nK t)) (nK t) (namesV (kOf t)):=by
   have:=World.ownsRow_lit (base:=0) (e:=9) (size:=1) (w1.alloc (.cells xs.toArray 36)) (namesV (kOf t)).toArray (nK t) (Nat.zero_le _) (by have:=hf.m1;unfold maxLen;omega) (by simp [namesV,nK])
   simpa using this
  have hC:Below w1.heap.size w1 ((w1.alloc (.cells xs.toArray 36)).alloc (.cells (namesV (kOf t)).toArray 9)):=bA.trans (bB.mono (by omega))
  generalize ((w1.alloc (.cells xs.toArray 36)).alloc (.cells (namesV (kOf t)).toArray 9))=w3 at bB r2 hC
  refine ⟨w3,_,b1.trans (hC.mono b1.size),some ⟨w1.heap.size,0,none⟩,some ⟨w1.heap.size+1,0,none⟩,nL t,nK t,rfl,hf,fun i hi=>?_,fun i hi=>?_⟩
  ·have hc:∀ j,j<5→w3.cell? ⟨w1.heap.size,i*5+j,none⟩=some (cx xs (i*5+j)):=fun j hj=>(bB.cell (p:=⟨w1.heap.size,i*5+j,none⟩) (by simp)).trans (row_cell r1 (cx_some (by omega)))
   have hlt:w1.heap.size<w3.heap.size:=by have:=bB.size;simp at this;omega
   refine ⟨w1.heap.size,0,cx xs (i*5),cx xs (i*5+1),cx xs (i*5+2),cx xs (i*5+3),cx xs (i*5+4),rfl,hlt,(by rw [Nat.zero_add];exact hc 0 (by omega)),(by rw [Nat.zero_add];exact hc 1 (by omega)),(by rw [Nat.zero_add];exact hc 2 (by omega)),(by rw [Nat.zero_add];exact hc 3 (by omega)),(by rw [Nat.zero_add];exact hc 4 (by omega)),?_⟩
   exact At.keep hC (h1 i hi)
  ·have hi':i<(kOf t).length:=hi
   refine ⟨w1.heap.size+1,0,rfl,(r2.lt _ rfl).2,hn i hi,?_⟩
   rw [Nat.zero_add]
   refine row_cell r2 ?_
   simp [namesV,nam,List.getD_eq_getElem?_getD,hi']
theorem parse_tree {f:Nat} {t:T} (hf:FitT f t) (hg:Good 12 t) (hl:(wrT 12 t).length≤4000):eJ (baL (wrT 12 t))=0∧tJ (baL (wrT 12 t))=canT 12 t:=by
 obtain ⟨w,v,_,ha⟩:=lies_some f t hf default
 exact (parse_wr ha hg).2 hl
end Go.Proofs.YtknakfpciccoaabGreatDoor
/- Bytes and values, pure: what was read is written as it was. -/
namespace Go.Proofs.YtknakfpciccoaabGreatDoor
open Go.RowKit
end Go.Proofs.YtknakfpciccoaabGreatDoor
