import Derived.Test.YtknakfpciccoaabGreatDoorZS20
import Derived.Test.YtknakfpciccoaabGreatDoorZS10
import Derived.Test.YtknakfpciccoaabGreatDoorZS5
import Derived.Lib.QuoteLoop
/- Texts and values, pure: what was printed is parsed as it was. -/
namespace Go.Proofs.YtknakfpciccoaabGreatDoor
open Go.RowKit
theorem itoa_head (n : Int) : ∃ c l,Lib.itoa n=c :: l∧(c.toNat=45∨(48≤c.toNat∧c.toNat≤57)):=by
 by_cases hn : n<0
 ·obtain ⟨k,rfl⟩ : ∃ k : Nat,n=-(k : Int):=⟨n.natAbs,by omega⟩
  exact ⟨45,_,Lib.itoa_neg k (by omega),.inl rfl⟩
 ·obtain ⟨k,rfl⟩ : ∃ k : Nat,n=(k : Int):=⟨n.toNat,by omega⟩
  obtain ⟨d1,_,d3,_⟩:=dec_digits k
  rw [Lib.itoa_nonneg]
  cases hd : Lib.decDigits k with
  | nil=>rw [hd] at d3; simp at d3
  | cons c l=>exact ⟨c,l,rfl,.inr (d1 c (by rw [hd]; simp))⟩
def headOk (l : List UInt8) : Prop:=∃ c r,l=c :: r∧blank c.toNat=false∧c.toNat≠93∧c.toNat≠125
theorem leaf_head {t : T} (hg : leafGood t) : headOk (leafW t):=by
 obtain ⟨_,_,hg⟩:=hg
 unfold leafW
 rcases hg with ⟨hk,_⟩ | ⟨hk,hn,_⟩ | ⟨hk,_⟩ | ⟨hk,_⟩
 ·rw [if_pos hk]
  exact ⟨_,_,rfl,by decide,by decide,by decide⟩
 ·rw [if_neg (by omega),if_pos hk]
  split
  ·exact ⟨_,_,rfl,by decide,by decide,by decide⟩
  ·exact ⟨_,_,rfl,by decide,by decide,by decide⟩
 ·rw [if_neg (by omega),if_neg (by omega),if_pos hk]
  obtain ⟨c,l,e,h⟩:=itoa_head (nOf t)
  exact ⟨c,l,e,by unfold blank; simp; omega,by omega,by omega⟩
 ·rw [if_neg (by omega),if_neg (by omega),if_neg (by omega),if_pos hk]
  exact ⟨_,_,rfl,by decide,by decide,by decide⟩
theorem wr_head : ∀ (m : Nat) (t : T),Good m t→headOk (wrT m t)
 | 0,t,h=>leaf_head h
 | m+1,t,h=>by
  rcases h with h | ⟨_,_,_,hk⟩
  ·rw [wrT_leaf (good_leafK h).1 (good_leafK h).2]
   exact leaf_head h
  ·unfold wrT
   rcases hk with ⟨hk,_⟩ | ⟨hk,_⟩
   ·rw [if_pos hk]
    exact ⟨_,_,rfl,by decide,by decide,by decide⟩
   ·rw [if_neg (by omega),if_pos hk]
    exact ⟨_,_,rfl,by decide,by decide,by decide⟩
theorem head_len {l : List UInt8} (h : headOk l) : 1≤l.length:=by
 obtain ⟨c,r,rfl,_⟩:=h
 simp
theorem rl_len {g : T→List UInt8} {t : T} {o : Bool} (hg : ∀ k,k<nL t→1≤(g (elt t k)).length) : ∀ j k,k+j≤nL t→j≤(rl g t o k j).length
 | 0,k,_=>Nat.zero_le _
 | j+1,k,h=>by
  have h0:=hg k (by omega)
  have ih:=rl_len (o:=o) hg j (k+1) (by omega)
  have he : (g (elt t k)).length≤(entE g t o k).length:=by unfold entE; rw [List.length_append]; omega
  rw [rl,List.length_append]
  split
  ·simp only [List.length_nil]; omega
  ·rw [List.length_cons]; omega
theorem ent_len {g : T→List UInt8} {t : T} {o : Bool} : ∀ n k,k<n→(g (elt t k)).length≤(jn g t o n).length
 | 0,k,h=>by omega
 | n+1,k,h=>by
  rw [jn,List.length_append,List.length_append]
  by_cases e : k=n
  ·subst e
   unfold entE
   rw [List.length_append]
   omega
  ·have:=ent_len (g:=g) (t:=t) (o:=o) n k (by omega)
   omega
theorem rl_head {g : T→List UInt8} {t : T} {o : Bool} {j : Nat} (hg : headOk (g (elt t 0))) : headOk (rl g t o 0 (j+1)):=by
 rw [rl]
 unfold entE
 cases o with
 | true=>exact ⟨34,_,rfl,by decide,by decide,by decide⟩
 | false =>
  obtain ⟨c,r,e,h⟩:=hg
  rw [e]
  exact ⟨c,_,rfl,h⟩
theorem box_at {f : Nat→Option (T×Nat)} {s : ByteArray} {o : Bool} {t : T} {g : T→List UInt8} {c : T→T} {i : Nat} (cc : UInt8) (hcc : cc.toNat=cl o)
  (hf : ∀ k,k<nL t→∀ p,Std s p (g (elt t k))→EndsD s (p+(g (elt t k)).length)→f p=some (c (elt t k),p+(g (elt t k)).length))
  (h6 : o=true→nK t=nL t∧∀ k,k<nL t→okS (nam t k)=true) (h5 : o=false→kOf t=[]) (hg : ∀ k,k<nL t→headOk (g (elt t k))) (h : Std s i (jn g t o (nL t) ++ [cc])) :
  boxS f s o i=some ((kOf t,(lOf t).map c),i+(jn g t o (nL t)).length+1):=by
 have hco : cl o=93∨cl o=125:=by cases o <;> simp [cl]
 unfold boxS
 by_cases h0 : nL t=0
 ·have eL : lOf t=[]:=nil_of h0
  have eK : kOf t=[]:=by
   cases o with
   | false=>exact h5 rfl
   | true=>exact nil_of (show nK t=0 by have:=(h6 rfl).1; omega)
  rw [h0] at h ⊢
  have cE : cB s i=cl o:=by rw [(Std.head (c:=cc) h).1]; exact hcc
  rw [sk_id (i:=i) (by rw [cE]; rcases hco with hco | hco <;> rw [hco] <;> rfl),if_pos cE,eL,eK]
  rfl
 ·obtain ⟨j,hj⟩ : ∃ j,nL t=j+1:=⟨nL t - 1,by omega⟩
  have hr:=rl_all g t o (nL t)
  obtain ⟨c0,r0,e0,b0,n93,n125⟩:=rl_head (g:=g) (t:=t) (o:=o) (j:=j) (hg 0 (by omega))
  have hle:=h.le (by simp)
  have hln:=rl_len (o:=o) (fun k hk=>head_len (hg k hk)) (nL t) 0 (by omega)
  rw [hr] at hln
  rw [← hr,hj] at h ⊢
  have cE : cB s i=c0.toNat:=by
   have:=h.app.1
   rw [e0] at this
   exact this.head.1
  rw [List.length_append,List.length_cons,List.length_nil] at hle
  rw [sk_id (i:=i) (by rw [cE]; exact b0),cE,if_neg (by rcases hco with hco | hco <;> omega),it_rl cc hcc hf h6 j 0 (s.size+1) i (by omega) h (by omega)]
  cases o with
  | false=>rw [if_neg (by simp),List.drop_zero,h5 rfl]
  | true=>rw [if_pos rfl,List.drop_zero,List.drop_zero]
theorem names_ok {t : T} : ∀ k,namesF t k=true→∀ i,i<k→okS (nam t i)=true
 | 0,_,i,hi=>absurd hi (by omega)
 | k+1,h,i,hi=>by
  simp only [namesF,Bool.and_eq_true,decide_eq_true_eq] at h
  by_cases e : i=k
  ·subst e; exact h.2.1
  ·exact names_ok k h.1 i (by omega)
theorem val_wr {w : World} {s : ByteArray} : ∀ (m n f : Nat) (v : Value) (t : T) (i : Nat),At w f v t→Good m t→(wrT m t).length<n→Std s i (wrT m t)→EndsD s (i+(wrT m t).length)→valN s n i=some (canT m t,i+(wrT m t).length)
 | 0,n,f,v,t,i,ha,hg,hn,h,he=>by
  obtain ⟨n,rfl⟩ : ∃ x,n=x+1:=⟨n - 1,by omega⟩
  obtain ⟨_,La,Ka,Lc,Kc,_,_,hf,_⟩:=ha.open
  obtain ⟨h1,h2⟩:=bare_leaf (F:=valN s n) hg hf h he
  rw [valN,sk_id h2,canT_leaf 0 hg.1 hg.2.1]
  exact h1
 | m+1,n,f,v,t,i,ha,hg,hn,h,he=>by
  obtain ⟨n,rfl⟩ : ∃ x,n=x+1:=⟨n - 1,by omega⟩
  obtain ⟨f',La,Ka,Lc,Kc,_,_,hf,hel,_⟩:=ha.open
  rcases hg with hg | ⟨hn0,ht,hgi,hk⟩
  ·have k56:=good_leafK hg
   rw [wrT_leaf k56.1 k56.2] at h he hn ⊢
   obtain ⟨h1,h2⟩:=bare_leaf (F:=valN s n) hg hf h he
   rw [valN,sk_id h2,canT_leaf (m+1) hg.1 hg.2.1]
   exact h1
  ·rcases hk with ⟨hk,hk0⟩ | ⟨hk,hnk,hnf,_⟩
   ·have e : wrT (m+1) t=91 :: (jn (wrT m) t false (nL t) ++ [93]):=by rw [wrT,if_pos hk,jn_list]
    rw [e] at h hn ⊢
    obtain ⟨c0,h⟩:=h.head
    have c0' : cB s i=91:=c0
    rw [List.length_cons,List.length_append,List.length_cons,List.length_nil] at hn
    have hb:=box_at (f:=valN s n) (g:=wrT m) (c:=canT m) (t:=t) (o:=false) 93 rfl (fun k hk p h1 h2=>by
      obtain ⟨b,o,c0,c1,c2,c3,c4,_,_,_,_,_,_,_,hak⟩:=hel.out k hk
      exact val_wr m n f' _ _ p hak.out (hgi k hk) (by have:=ent_len (g:=wrT m) (t:=t) (o:=false) (nL t) k hk; omega) h1 h2)
     (fun h=>by cases h) (fun _=>nil_of hk0) (fun k hk=>wr_head m _ (hgi k hk)) h
    rw [valN,sk_id (i:=i) (by rw [c0']; rfl)]
    unfold bareV
    rw [c0',if_neg (by omega),if_pos rfl,hb]
    simp only [Option.map_some,Option.some.injEq,Prod.mk.injEq]
    refine ⟨?_,by rw [List.length_cons,List.length_append,List.length_cons,List.length_nil]; omega⟩
    rw [canT,hk,hn0,noText_eq ht]
   ·have e : wrT (m+1) t=123 :: (jn (wrT m) t true (nL t) ++ [125]):=by rw [wrT,if_neg (by omega),if_pos hk,jn_obj,hnk]
    rw [e] at h hn ⊢
    obtain ⟨c0,h⟩:=h.head
    have c0' : cB s i=123:=c0
    rw [List.length_cons,List.length_append,List.length_cons,List.length_nil] at hn
    have hb:=box_at (f:=valN s n) (g:=wrT m) (c:=canT m) (t:=t) (o:=true) 125 rfl (fun k hk p h1 h2=>by
      obtain ⟨b,o,c0,c1,c2,c3,c4,_,_,_,_,_,_,_,hak⟩:=hel.out k hk
      exact val_wr m n f' _ _ p hak.out (hgi k hk) (by have:=ent_len (g:=wrT m) (t:=t) (o:=true) (nL t) k hk; omega) h1 h2)
     (fun _=>⟨hnk,fun k hk=>names_ok _ hnf k (by omega)⟩) (fun h=>by cases h) (fun k hk=>wr_head m _ (hgi k hk)) h
    rw [valN,sk_id (i:=i) (by rw [c0']; rfl)]
    unfold bareV
    rw [c0',if_neg (by omega),if_neg (by omega),if_pos rfl,hb]
    simp only [Option.map_some,Option.some.injEq,Prod.mk.injEq]
    refine ⟨?_,by rw [List.length_cons,List.length_append,List.length_cons,List.length_nil]; omega⟩
    rw [canT,hk,hn0,noText_eq ht]
theorem good_deep : ∀ (m n : Nat) (t : T),Good m t→deepT n t≤m
 | m,0,t,_=>Nat.zero_le _
 | 0,n+1,t,h=>by
  have k56:=good_leafK h
  have : isBox t=false:=by unfold isBox; simp [k56.1,k56.2]
  unfold deepT
  rw [this]
  simp
 | m+1,n+1,t,h=>by
  rcases h with h | ⟨_,_,he,_⟩
  ·have k56:=good_leafK h
   have : isBox t=false:=by unfold isBox; simp [k56.1,k56.2]
   unfold deepT
   rw [this]
   simp
  ·have key : ∀ k,k≤nL t→deepL (deepT n) t k≤m:=by
    intro k
    induction k with
    | zero=>intro _; exact Nat.zero_le _
    | succ k ih =>
     intro hk
     have h1:=ih (by omega)
     have h2:=good_deep m n _ (he k (by omega))
     rw [deepL]
     omega
   have:=key (nL t) (Nat.le_refl _)
   unfold deepT
   split <;> omega
theorem good_once : ∀ (m n : Nat) (t : T),Good m t→twiceT n t=false
 | m,0,t,_=>rfl
 | 0,n+1,t,h=>by
  unfold twiceT
  rw [h.1,h.2.1]
  rfl
 | m+1,n+1,t,h=>by
  rcases h with h | ⟨_,_,he,hk⟩
  ·unfold twiceT
   rw [h.1,h.2.1]
   rfl
  ·have key : ∀ k,k≤nL t→anyL (twiceT n) t k=false:=by
    intro k
    induction k with
    | zero=>intro _; rfl
    | succ k ih =>
     intro hk
     rw [anyL,ih (by omega),good_once m n _ (he k (by omega))]
     rfl
   have hd : dupTo t (nK t)=false:=by
    rcases hk with ⟨_,hk⟩ | ⟨_,_,_,hk⟩
    ·rw [hk]; rfl
    ·exact hk
   unfold twiceT
   rw [hd,key (nL t) (Nat.le_refl _)]
   rfl
theorem parse_wr {w : World} {f : Nat} {v : Value} {t : T} (ha : At w f v t) (hg : Good 12 t) : (4000<(wrT 12 t).length→eJ (baL (wrT 12 t))=1)∧((wrT 12 t).length≤4000→eJ (baL (wrT 12 t))=0∧tJ (baL (wrT 12 t))=canT 12 t):=by
 have hz:=baL_size (wrT 12 t)
 constructor
 ·intro h
  exact eJ_long (by omega)
 ·intro h
  have hs : Std (baL (wrT 12 t)) 0 (wrT 12 t):=⟨[],by rw [baL_list]; simp⟩
  have he : cB (baL (wrT 12 t)) (0+(wrT 12 t).length)=256:=cB_end (by omega)
  have hv:=val_wr 12 ((baL (wrT 12 t)).size+1) f v t 0 ha hg (by omega) hs (by unfold EndsD; rw [he]; rfl)
  have hf : fullJ (baL (wrT 12 t))=some (canT 12 t):=full_some hv (by rw [sk_id (by rw [he]; rfl),hz]; omega)
  have hc:=good_can 12 t hg
  have e0 : eJ (baL (wrT 12 t))=0:=by
   rw [eJ_some (by omega) hf,if_neg (by have:=good_deep 12 ((baL (wrT 12 t)).size+1) _ hc; omega),good_once 12 _ _ hc]
   rfl
  exact ⟨e0,tJ_some e0 hf⟩
end Go.Proofs.YtknakfpciccoaabGreatDoor
/- Texts as values, pure: what is parsed is a value. -/
namespace Go.Proofs.YtknakfpciccoaabGreatDoor
open Go.RowKit
theorem valid_utf {a l : List UInt8} (h0 : a≠[]) (hu : utfN (baL (a ++ l))=a.length) : Lib.validD (a ++ l)=Lib.validD l:=by
 have hne : a ++ l≠[]:=by simp [h0]
 have hp : 0<a.length:=List.length_pos_iff.2 h0
 have hd:=decodeL_eq (baL (a ++ l))
 rw [baL_list] at hd
 have h2:=utfN_decode (baL (a ++ l))
 rw [← hd,hu] at h2
 rw [Lib.validD_step _ hne]
 split at h2
 ·omega
 ·rename_i h3
  rw [if_neg h3,← h2,List.drop_left]
theorem fin_ok {s : ByteArray} {n : Nat} {least c0 r : Int} (hs : n≤s.size) (hc : contTo s (n - 1)=true) (hr : runC s c0 (n - 1)=r) (hb : badRune least r=false) : finN s n least c0=n:=by
 unfold finN
 rw [if_neg (by omega),hc,hr,hb]
 simp
theorem byte_of {x : Int} (h0 : 0≤x) (h1 : x<256) : ((x.toNat.toUInt8).toNat : Int)=x:=by
 rw [Nat.toUInt8,UInt8.toNat_ofNat']
 omega
theorem rune_utf {r : Int} (h0 : 0≤r) (h1 : r≤1114111) (h2 : r<55296∨57343<r) (l : List UInt8) : utfN (baL (Lib.encodeRune r ++ l))=(Lib.encodeRune r).length:=by
 by_cases c1 : r≤127
 ·have e : Lib.encodeRune r=[r.toNat.toUInt8]:=by unfold Lib.encodeRune; rw [Lib.encodeRuneZ_one h0 c1]; rfl
  have b0:=byte_of h0 (show r<256 by omega)
  rw [e]
  unfold utfN
  rw [bt_baL,if_pos (by simp only [List.cons_append,List.getD_cons_zero]; omega)]
  rfl
 ·by_cases c2 : r≤2047
  ·have e : Lib.encodeRune r=[(192+r / 64).toNat.toUInt8,(128+r % 64).toNat.toUInt8]:=by unfold Lib.encodeRune; rw [Lib.encodeRuneZ_two (by omega) c2]; rfl
   have b0:=byte_of (x:=192+r / 64) (by omega) (by omega)
   have b1:=byte_of (x:=128+r % 64) (by omega) (by omega)
   rw [e]
   generalize (192+r / 64).toNat.toUInt8=x0 at *
   generalize (128+r % 64).toNat.toUInt8=x1 at *
   have t0 : bt (baL ([x0,x1] ++ l)) 0=x0.toNat:=by rw [bt_baL]; rfl
   have t1 : bt (baL ([x0,x1] ++ l)) 1=x1.toNat:=by rw [bt_baL]; rfl
   unfold utfN
   rw [t0,if_neg (by omega),if_pos (by omega)]
   refine fin_ok (r:=r) (by rw [baL_size]; simp) ?_ ?_ ?_
   ·simp only [contTo,Bool.true_and]; rw [t1,decide_eq_true (by omega),decide_eq_true (by omega)]; rfl
   ·simp only [runC]; rw [t1]; omega
   ·unfold badRune; simp; omega
  ·by_cases c3 : r≤65535
   ·have e : Lib.encodeRune r=[(224+r / 4096).toNat.toUInt8,(128+r / 64 % 64).toNat.toUInt8,(128+r % 64).toNat.toUInt8]:=by unfold Lib.encodeRune; rw [Lib.encodeRuneZ_three (by omega)]; rfl
    have b0:=byte_of (x:=224+r / 4096) (by omega) (by omega)
    have b1:=byte_of (x:=128+r / 64 % 64) (by omega) (by omega)
    have b2:=byte_of (x:=128+r % 64) (by omega) (by omega)
    rw [e]
    generalize (224+r / 4096).toNat.toUInt8=x0 at *
    generalize (128+r / 64 % 64).toNat.toUInt8=x1 at *
    generalize (128+r % 64).toNat.toUInt8=x2 at *
    have t0 : bt (baL ([x0,x1,x2] ++ l)) 0=x0.toNat:=by rw [bt_baL]; rfl
    have t1 : bt (baL ([x0,x1,x2] ++ l)) 1=x1.toNat:=by rw [bt_baL]; rfl
    have t2 : bt (baL ([x0,x1,x2] ++ l)) 2=x2.toNat:=by rw [bt_baL]; rfl
    unfold utfN
    rw [t0,if_neg (by omega),if_neg (by omega),if_pos (by omega)]
    refine fin_ok (r:=r) (by rw [baL_size]; simp) ?_ ?_ ?_
    ·simp only [contTo,Bool.true_and]; rw [t1,t2,decide_eq_true (by omega),decide_eq_true (by omega),decide_eq_true (by omega),decide_eq_true (by omega)]; rfl
    ·simp only [runC]; rw [t1,t2]; omega
    ·unfold badRune; simp; omega
   ·have e : Lib.encodeRune r=[(240+r / 262144).toNat.toUInt8,(128+r / 4096 % 64).toNat.toUInt8,(128+r / 64 % 64).toNat.toUInt8,(128+r % 64).toNat.toUInt8]:=by unfold Lib.encodeRune; rw [Lib.encodeRuneZ_four (by omega) (by omega)]; rfl
    have b0:=byte_of (x:=240+r / 262144) (by omega) (by omega)
    have b1:=byte_of (x:=128+r / 4096 % 64) (by omega) (by omega)
    have b2:=byte_of (x:=128+r / 64 % 64) (by omega) (by omega)
    have b3:=byte_of (x:=128+r % 64) (by omega) (by omega)
    rw [e]
    generalize (240+r / 262144).toNat.toUInt8=x0 at *
    generalize (128+r / 4096 % 64).toNat.toUInt8=x1 at *
    generalize (128+r / 64 % 64).toNat.toUInt8=x2 at *
    generalize (128+r % 64).toNat.toUInt8=x3 at *
    have t0 : bt (baL ([x0,x1,x2,x3] ++ l)) 0=x0.toNat:=by rw [bt_baL]; rfl
    have t1 : bt (baL ([x0,x1,x2,x3] ++ l)) 1=x1.toNat:=by rw [bt_baL]; rfl
    have t2 : bt (baL ([x0,x1,x2,x3] ++ l)) 2=x2.toNat:=by rw [bt_baL]; rfl
    have t3 : bt (baL ([x0,x1,x2,x3] ++ l)) 3=x3.toNat:=by rw [bt_baL]; rfl
    unfold utfN
    rw [t0,if_neg (by omega),if_neg (by omega),if_neg (by omega),if_pos (by omega)]
    refine fin_ok (r:=r) (by rw [baL_size]; simp) ?_ ?_ ?_
    ·simp only [contTo,Bool.true_and]; rw [t1,t2,t3,decide_eq_true (by omega),decide_eq_true (by omega),decide_eq_true (by omega),decide_eq_true (by omega),decide_eq_true (by omega),decide_eq_true (by omega)]; rfl
    ·simp only [runC]; rw [t1,t2,t3]; omega
    ·unfold badRune; simp; omega
theorem rune_ne (r : Int) : Lib.encodeRune r≠[]:=by
 unfold Lib.encodeRune Lib.encodeRuneZ
 split
 ·simp
 ·split
  ·simp
  ·split
   ·simp
   ·split <;> simp
theorem rune_len4 (r : Int) : (Lib.encodeRune r).length≤4:=by
 unfold Lib.encodeRune
 rw [List.length_map]
 exact Lib.encodeRuneZ_length_le r
theorem rune_len1 {r : Nat} (h : r<128) : (Lib.encodeRune (r : Int)).length=1:=by
 unfold Lib.encodeRune
 rw [List.length_map,Lib.encodeRuneZ_one (by omega) (by omega)]
 rfl
theorem low_fine {s : ByteArray} {i a r e : Nat} (ha : a<65536) (h : low s i a=some (r,e)) : i≤e∧r≤1114111∧(r<55296∨57343<r):=by
 unfold low at h
 split at h
 ·simp only [Option.some.injEq,Prod.mk.injEq] at h
  omega
 ·split at h
  ·cases h
  ·split at h
   ·cases hh : hex4 s (i+2) with
    | none=>rw [hh] at h; cases h
    | some b =>
     rw [hh] at h
     simp only [Option.bind_some] at h
     split at h
     ·cases h
     ·simp only [Option.some.injEq,Prod.mk.injEq] at h
      omega
   ·cases h
theorem let_fine {s : ByteArray} {i r e : Nat} (h : letS s i=some (r,e)) : (∀ l,Lib.validD (Lib.encodeRune (r : Int) ++ l)=Lib.validD l)∧i+(Lib.encodeRune (r : Int)).length≤e:=by
 have esc : ∀ c,c<128→i+2≤e→r=c→(∀ l,Lib.validD (Lib.encodeRune (r : Int) ++ l)=Lib.validD l)∧i+(Lib.encodeRune (r : Int)).length≤e:=by
  intro c hc he hr
  subst hr
  exact ⟨fun l=>valid_utf (rune_ne _) (rune_utf (by omega) (by omega) (by omega) l),by rw [rune_len1 hc]; omega⟩
 by_cases h92 : cB s i=92
 ·unfold letS at h
  rw [if_pos h92] at h
  unfold escR at h
  split at h
  ·rename_i hh
   simp only [Option.some.injEq,Prod.mk.injEq] at h
   exact esc (cB s (i+1)) (by omega) (by omega) (by omega)
  ·split at h
   ·simp only [Option.some.injEq,Prod.mk.injEq] at h; exact esc 8 (by omega) (by omega) (by omega)
   ·split at h
    ·simp only [Option.some.injEq,Prod.mk.injEq] at h; exact esc 12 (by omega) (by omega) (by omega)
    ·split at h
     ·simp only [Option.some.injEq,Prod.mk.injEq] at h; exact esc 10 (by omega) (by omega) (by omega)
     ·split at h
      ·simp only [Option.some.injEq,Prod.mk.injEq] at h; exact esc 13 (by omega) (by omega) (by omega)
      ·split at h
       ·simp only [Option.some.injEq,Prod.mk.injEq] at h; exact esc 9 (by omega) (by omega) (by omega)
       ·split at h
        ·cases hx : hex4 s (i+1+1) with
         | none=>rw [hx] at h; cases h
         | some a =>
          rw [hx] at h
          simp only [Option.bind_some] at h
          have h1:=hexN_lt hx
          have h2:=low_fine (by omega) h
          have h3:=rune_len4 (r : Int)
          exact ⟨fun l=>valid_utf (rune_ne _) (rune_utf (by omega) (by omega) (by omega) l),by omega⟩
        ·cases h
 ·by_cases hi : i<s.size
  ·by_cases hb : cB s i<32∨utfN (suf s i)=0
   ·rw [letS_bad hi h92 hb] at h
    cases h
   ·obtain ⟨r',h1,h2,h3⟩:=letS_good hi h92 (by omega) (by omega)
    rw [h1] at h
    simp only [Option.some.injEq,Prod.mk.injEq] at h
    obtain ⟨rfl,rfl⟩:=h
    have hl : (s.extract i (i+utfN (suf s i))).data.toList.length=utfN (suf s i):=by
     rw [cut_list,List.length_take,List.length_drop]
     have : s.data.toList.length=s.size:=rfl
     omega
    rw [h2]
    refine ⟨fun l=>valid_utf (by intro e; rw [e] at hl; simp at hl; omega) ?_,by omega⟩
    rw [hl]
    refine utfN_same (by omega) (by rw [baL_size,List.length_append,hl]; omega) fun j hj=>?_
    rw [bt_suf,bt_baL,bt_list]
    congr 1
    simp only [List.getD_eq_getElem?_getD]
    rw [List.getElem?_append_left (by omega),cut_list,List.getElem?_take,if_pos hj,List.getElem?_drop]
  ·rw [letS_end (by omega)] at h
   cases h
theorem txtN_fine {s : ByteArray} : ∀ {n i : Nat} {l : List UInt8} {e : Nat},txtN s n i=some (l,e)→Lib.validD l=true∧i+l.length+1≤e
 | 0,i,l,e,h=>by cases h
 | n+1,i,l,e,h=>by
  rw [txtN] at h
  split at h
  ·simp only [Option.some.injEq,Prod.mk.injEq] at h
   obtain ⟨rfl,rfl⟩:=h
   exact ⟨rfl,by simp⟩
  ·cases hl : letS s i with
   | none=>rw [hl] at h; cases h
   | some p =>
    rw [hl] at h
    simp only [Option.bind_some] at h
    cases ht : txtN s n p.2 with
    | none=>rw [ht] at h; cases h
    | some q =>
     rw [ht] at h
     simp only [Option.map_some,Option.some.injEq,Prod.mk.injEq] at h
     obtain ⟨rfl,rfl⟩:=h
     obtain ⟨h1,h2⟩:=let_fine (r:=p.1) (e:=p.2) hl
     obtain ⟨h3,h4⟩:=txtN_fine (l:=q.1) (e:=q.2) ht
     exact ⟨by rw [h1]; exact h3,by rw [List.length_append]; omega⟩
theorem txtS_fine {s : ByteArray} {i : Nat} {x : ByteArray} {e : Nat} (h : txtS s i=some (x,e)) : okS x=true∧i+x.size+2≤e:=by
 unfold txtS at h
 split at h
 ·cases ht : txtN s (s.size+1) (i+1) with
  | none=>rw [ht] at h; cases h
  | some q =>
   rw [ht] at h
   simp only [Option.map_some,Option.some.injEq,Prod.mk.injEq] at h
   obtain ⟨rfl,rfl⟩:=h
   obtain ⟨h1,h2⟩:=txtN_fine (l:=q.1) (e:=q.2) ht
   refine ⟨by unfold okS; rw [baL_list]; exact h1,by rw [baL_size]; omega⟩
 ·cases h
end Go.Proofs.YtknakfpciccoaabGreatDoor
/- Texts as values, pure: what is parsed is a value (lists, objects, the whole). -/
namespace Go.Proofs.YtknakfpciccoaabGreatDoor
open Go.RowKit
def Fine : Nat→T→Prop
 | 0,t=>leafGood t
 | n+1,t=>leafGood t∨(nOf t=0∧noText t=true∧(∀ i,i<nL t→Fine n (elt t i))∧((kindOf t=5∧nK t=0)∨(kindOf t=6∧nK t=nL t∧namesF t (nK t)=true)))
theorem fine_leaf {t : T} (n : Nat) (h : leafGood t) : Fine n t:=by
 cases n with
 | zero=>exact h
 | succ n=>exact .inl h
theorem bytes_leafG {t : T} (n : Nat) (h : leafGood t) : bytesT n t=leafBytes t:=by
 have k:=good_leafK h
 cases n with
 | zero=>rfl
 | succ n=>unfold bytesT; rw [if_neg k.1,if_neg k.2]
theorem names_all {t : T} : ∀ k,k≤nK t→(∀ x ∈ kOf t,okS x=true∧x.size≤4000)→namesF t k=true
 | 0,_,_=>rfl
 | k+1,hk,h=>by
  have hm : nam t k ∈ kOf t:=by
   have hl : k<(kOf t).length:=hk
   unfold nam
   simp only [List.getD_eq_getElem?_getD,List.getElem?_eq_getElem hl,Option.getD_some]
   exact List.getElem_mem hl
  obtain ⟨h1,h2⟩:=h _ hm
  rw [namesF,names_all k (by omega) h,h1,decide_eq_true h2]
  rfl
theorem itm_fine {f : Nat→Option (T×Nat)} {s : ByteArray} {n : Nat} (hs : s.size≤4000) (hf : ∀ i t e,i≤s.size→f i=some (t,e)→i<e∧e≤s.size) (hg : ∀ i t e,i≤s.size→f i=some (t,e)→bytesT n t≤9 * (e - i)∧Fine n t) (o : Bool) :
  ∀ (m i : Nat) (r : (List ByteArray×List T)×Nat),i≤s.size→itm f s o m i=some r→(r.1.1.map fun k=>2+k.size).sum+(r.1.2.map (bytesT n)).sum≤9 * (r.2 - i)∧(∀ x ∈ r.1.2,Fine n x)∧(∀ x ∈ r.1.1,okS x=true∧x.size≤4000)∧(o=true→r.1.1.length=r.1.2.length)∧(o=false→r.1.1=[])∧i<r.2∧r.2≤s.size
 | 0,i,r,_,h=>by cases h
 | m+1,i,r,hi,h=>by
  have hadv:=itm_adv hf o (m+1) i r hi h
  rw [itm] at h
  cases hk : keyS s o i with
  | none=>rw [hk] at h; cases h
  | some p =>
   rw [hk] at h
   simp only [Option.bind_some] at h
   have h1:=keyS_adv hi hk
   have hkey : o=true→okS p.1=true∧i+p.1.size+3≤p.2∧p.1.size≤4000:=by
    intro ho
    subst ho
    unfold keyS at hk
    simp only [if_true] at hk
    cases ht : txtS s (sk s i) with
    | none=>rw [ht] at hk; cases hk
    | some q =>
     rw [ht] at hk
     simp only [Option.bind_some] at hk
     split at hk
     ·simp only [Option.some.injEq] at hk
      subst hk
      have h2:=txtS_fine (x:=q.1) (e:=q.2) ht
      have h3:=sk_ge s i
      have h4:=sk_ge s q.2
      have h5:=h1.2.1
      exact ⟨h2.1,by show i+q.1.size+3≤sk s q.2+1; omega,by show q.1.size≤4000; have : sk s q.2+1≤s.size:=h5; omega⟩
     ·cases hk
   cases hq : f p.2 with
   | none=>rw [hq] at h; cases h
   | some q =>
    rw [hq] at h
    simp only [Option.bind_some] at h
    have h2:=hf p.2 q.1 q.2 h1.2.1 hq
    have h2g:=hg p.2 q.1 q.2 h1.2.1 hq
    have h3:=sk_ge s q.2
    split at h
    ·rename_i hc
     have h4:=cB_in (s:=s) (i:=sk s q.2) (by omega)
     cases hr : itm f s o m (sk s q.2+1) with
     | none=>rw [hr] at h; cases h
     | some r' =>
      rw [hr] at h
      simp only [Option.map_some,Option.some.injEq] at h
      have h5:=itm_fine hs hf hg o m _ r' (by omega) hr
      subst h
      cases o with
      | false =>
       have h6:=h5.2.2.2.2.1 rfl
       refine ⟨?_,?_,?_,(fun h=>by cases h),(fun _=>h6),hadv⟩
       ·have:=h5.1
        simp only [app,Bool.false_eq_true,if_false,List.map_cons,List.sum_cons]
        omega
       ·intro x hx
        simp only [app,List.mem_cons] at hx
        rcases hx with rfl | hx
        ·exact h2g.2
        ·exact h5.2.1 x hx
       ·intro x hx
        simp only [app,Bool.false_eq_true,if_false] at hx
        exact h5.2.2.1 x hx
      | true =>
       have h6:=h5.2.2.2.1 rfl
       have h7:=hkey rfl
       refine ⟨?_,?_,?_,(fun _=>by simp only [app,if_true,List.length_cons,h6]),(fun h=>by cases h),hadv⟩
       ·have:=h5.1
        simp only [app,if_true,List.map_cons,List.sum_cons]
        omega
       ·intro x hx
        simp only [app,List.mem_cons] at hx
        rcases hx with rfl | hx
        ·exact h2g.2
        ·exact h5.2.1 x hx
       ·intro x hx
        simp only [app,if_true,List.mem_cons] at hx
        rcases hx with rfl | hx
        ·exact ⟨h7.1,h7.2.2⟩
        ·exact h5.2.2.1 x hx
    ·split at h
     ·simp only [Option.some.injEq] at h
      subst h
      cases o with
      | false =>
       refine ⟨?_,?_,?_,(fun h=>by cases h),(fun _=>rfl),hadv⟩
       ·simp only [app,Bool.false_eq_true,if_false,List.map_cons,List.map_nil,List.sum_cons,List.sum_nil]
        omega
       ·intro x hx
        simp only [app,List.mem_singleton] at hx
        subst hx
        exact h2g.2
       ·intro x hx
        simp [app] at hx
      | true =>
       have h7:=hkey rfl
       refine ⟨?_,?_,?_,(fun _=>rfl),(fun h=>by cases h),hadv⟩
       ·simp only [app,if_true,List.map_cons,List.map_nil,List.sum_cons,List.sum_nil]
        omega
       ·intro x hx
        simp only [app,List.mem_singleton] at hx
        subst hx
        exact h2g.2
       ·intro x hx
        simp only [app,if_true,List.mem_singleton] at hx
        subst hx
        exact ⟨h7.1,h7.2.2⟩
     ·cases h
theorem noText_mk (k n : Int) (l : List T) (ks : List ByteArray) : noText (mkT k n ByteArray.empty l ks)=true:=by
 unfold noText
 rw [sOf_mk,ByteArray.toList_eq]
 rfl
theorem bare_fine {f : Nat→Option (T×Nat)} {s : ByteArray} {n : Nat} (hs : s.size≤4000) (hf : ∀ i t e,i≤s.size→f i=some (t,e)→i<e∧e≤s.size) (hg : ∀ i t e,i≤s.size→f i=some (t,e)→bytesT n t≤9 * (e - i)∧Fine n t) {j : Nat} {t : T} {e : Nat} (hj : j≤s.size) (h : bareV f s j=some (t,e)) : bytesT (n+1) t≤9 * (e - j)∧Fine (n+1) t:=by
 have hadv:=bareV_adv hf hj h
 have hleaf : leafGood t→leafBytes t≤9 * (e - j)→bytesT (n+1) t≤9 * (e - j)∧Fine (n+1) t:=fun h1 h2=>⟨by rw [bytes_leafG _ h1]; exact h2,fine_leaf _ h1⟩
 have hbox : ∀ (o : Bool) (k : Int),k=(if o=true then 6 else 5)→cB s j<256→(boxS f s o (j+1)).map (fun r=>(mkT k 0 ByteArray.empty r.1.2 r.1.1,r.2))=some (t,e)→bytesT (n+1) t≤9 * (e - j)∧Fine (n+1) t:=by
  intro o k hk hc hh
  have hj1:=cB_in hc
  have h3:=sk_ge s (j+1)
  have h5:=sk_le (s:=s) (i:=j+1) (by omega)
  cases hb : boxS f s o (j+1) with
  | none=>rw [hb] at hh; cases hh
  | some r =>
   rw [hb] at hh
   simp only [Option.map_some,Option.some.injEq,Prod.mk.injEq] at hh
   obtain ⟨rfl,rfl⟩:=hh
   have key : (r.1.1.map fun k=>2+k.size).sum+(r.1.2.map (bytesT n)).sum+5≤9 * (r.2 - j)∧(∀ x ∈ r.1.2,Fine n x)∧(∀ x ∈ r.1.1,okS x=true∧x.size≤4000)∧(o=true→r.1.1.length=r.1.2.length)∧(o=false→r.1.1=[]):=by
    unfold boxS at hb
    split at hb
    ·simp only [Option.some.injEq] at hb
     subst hb
     refine ⟨?_,by simp,by simp,fun _=>rfl,fun _=>rfl⟩
     simp only [List.map_nil,List.sum_nil]
     omega
    ·have:=itm_fine hs hf hg o _ _ r h5 hb
     refine ⟨?_,this.2.1,this.2.2.1,this.2.2.2.1,this.2.2.2.2.1⟩
     have h6:=this.1
     have h7:=this.2.2.2.2.2.1
     omega
   obtain ⟨k1,k2,k3,k4,k5⟩:=key
   have e0 : ∀ k : Int,nL (mkT k 0 ByteArray.empty r.1.2 r.1.1)=r.1.2.length:=fun k=>by unfold nL; rw [lOf_mk]
   have e1 : ∀ k : Int,nK (mkT k 0 ByteArray.empty r.1.2 r.1.1)=r.1.1.length:=fun k=>by unfold nK; rw [kOf_mk]
   have hel : ∀ k : Int,∀ i,i<nL (mkT k 0 ByteArray.empty r.1.2 r.1.1)→Fine n (elt (mkT k 0 ByteArray.empty r.1.2 r.1.1) i):=fun k i hi=>k2 _ (elt_mem hi)
   cases o with
   | false =>
    simp only [Bool.false_eq_true,if_false] at hk
    subst hk
    refine ⟨?_,.inr ⟨rfl,noText_mk _ _ _ _,hel 5,.inl ⟨rfl,?_⟩⟩⟩
    ·rw [bytes_box n 5 r.1.2 r.1.1 (.inl rfl) (fun _=>k5 rfl)]
     omega
    ·rw [e1,k5 rfl]
     rfl
   | true =>
    simp only [if_true] at hk
    subst hk
    refine ⟨?_,.inr ⟨rfl,noText_mk _ _ _ _,hel 6,.inr ⟨rfl,?_,?_⟩⟩⟩
    ·rw [bytes_box n 6 r.1.2 r.1.1 (.inr rfl) (fun h=>by omega)]
     omega
    ·rw [e0,e1,k4 rfl]
    ·exact names_all _ (Nat.le_refl _) (by rw [kOf_mk]; exact k3)
 unfold bareV at h
 split at h
 ·cases ht : txtS s j with
  | none=>rw [ht] at h; cases h
  | some q =>
   rw [ht] at h
   simp only [Option.map_some,Option.some.injEq,Prod.mk.injEq] at h
   obtain ⟨rfl,rfl⟩:=h
   have h2:=txtS_fine (x:=q.1) (e:=q.2) ht
   refine hleaf ⟨rfl,rfl,.inr (.inr (.inr ⟨rfl,rfl,?_,h2.1⟩))⟩ ?_
   ·show q.1.size≤4000
    omega
   ·show (if (4 : Int)=1 then 1 else if (4 : Int)=2 then 2 else if (4 : Int)=3 then 9 else 5+q.1.size)≤_
    rw [if_neg (by omega),if_neg (by omega),if_neg (by omega)]
    omega
 ·split at h
  ·exact hbox false 5 rfl (by omega) h
  ·split at h
   ·exact hbox true 6 rfl (by omega) h
   ·split at h
    ·cases ht : numS s j with
     | none=>rw [ht] at h; cases h
     | some q =>
      rw [ht] at h
      simp only [Option.map_some,Option.some.injEq,Prod.mk.injEq] at h
      obtain ⟨rfl,rfl⟩:=h
      refine hleaf ⟨rfl,rfl,.inr (.inr (.inl ⟨rfl,noText_mk _ _ _ _⟩))⟩ ?_
      show (if (3 : Int)=1 then 1 else if (3 : Int)=2 then 2 else if (3 : Int)=3 then 9 else _)≤_
      rw [if_neg (by omega),if_neg (by omega),if_pos rfl]
      omega
    ·split at h
     ·simp only [Option.some.injEq,Prod.mk.injEq] at h
      obtain ⟨rfl,rfl⟩:=h
      refine hleaf ⟨rfl,rfl,.inl ⟨rfl,rfl,noText_mk _ _ _ _⟩⟩ ?_
      show (if (1 : Int)=1 then 1 else _)≤_
      rw [if_pos rfl]
      omega
     ·split at h
      ·simp only [Option.some.injEq,Prod.mk.injEq] at h
       obtain ⟨rfl,rfl⟩:=h
       refine hleaf ⟨rfl,rfl,.inr (.inl ⟨rfl,.inr rfl,noText_mk _ _ _ _⟩)⟩ ?_
       show (if (2 : Int)=1 then 1 else if (2 : Int)=2 then 2 else _)≤_
       rw [if_neg (by omega),if_pos rfl]
       omega
      ·split at h
       ·simp only [Option.some.injEq,Prod.mk.injEq] at h
        obtain ⟨rfl,rfl⟩:=h
        refine hleaf ⟨rfl,rfl,.inr (.inl ⟨rfl,.inl rfl,noText_mk _ _ _ _⟩)⟩ ?_
        show (if (2 : Int)=1 then 1 else if (2 : Int)=2 then 2 else _)≤_
        rw [if_neg (by omega),if_pos rfl]
        omega
       ·cases h
theorem valN_fine {s : ByteArray} (hs : s.size≤4000) : ∀ (n i : Nat) (t : T) (e : Nat),i≤s.size→valN s n i=some (t,e)→bytesT n t≤9 * (e - i)∧Fine n t
 | 0,_,_,_,_,h=>by cases h
 | n+1,i,t,e,hi,h=>by
  rw [valN] at h
  have:=bare_fine hs (fun i t e=>valN_adv n i t e) (fun i t e=>valN_fine hs n i t e) (sk_le hi) h
  have h2:=sk_ge s i
  exact ⟨by omega,this.2⟩
theorem fine_good : ∀ (n n' m : Nat) (t : T), Fine n t → n ≤ n' → deepT n' t ≤ m → twiceT n' t = false → Good m t ∧ bytesT m t = bytesT n t
  | 0, n', m, t, h, _, _, _ => ⟨by cases m; · exact h
                                   · exact .inl h, by rw [bytes_leafG _ h, bytes_leafG _ h]⟩
  | n + 1, n', m, t, h, hn, hd, hw => by
    rcases h with h | ⟨h1, h2, he, hk⟩
    · exact ⟨by cases m; · exact h
                · exact .inl h, by rw [bytes_leafG _ h, bytes_leafG _ h]⟩
    · obtain ⟨n', rfl⟩ : ∃ x, n' = x + 1 := ⟨n' - 1, by omega⟩
      have hbx : isBox t = true := by unfold isBox; rcases hk with ⟨hk, _⟩ | ⟨hk, _⟩ <;> simp [hk]
      rw [deepT, if_pos hbx] at hd
      obtain ⟨m, rfl⟩ : ∃ x, m = x + 1 := ⟨m - 1, by omega⟩
      simp only [twiceT, Bool.or_eq_false_iff] at hw
      have hi : ∀ i, i < nL t → Good m (elt t i) ∧ bytesT m (elt t i) = bytesT n (elt t i) := fun i hi => by
        refine fine_good n n' m _ (he i hi) (by omega) ?_ ?_
        · have := deepL_one (g := deepT n') (t := t) (i := i) hi
          omega
        · cases ht : twiceT n' (elt t i) with
          | false => rfl
          | true => have := anyL_at (f := twiceT n') (t := t) hi ht; rw [hw.2] at this; cases this
      have hsum : ∀ k, k ≤ nL t → sumL (bytesT m) t k = sumL (bytesT n) t k := by
        intro k
        induction k with
        | zero => intro _; rfl
        | succ k ih => intro hk; rw [sumL, sumL, ih (by omega), (hi k (by omega)).2]
      refine ⟨.inr ⟨h1, h2, fun i h => (hi i h).1, ?_⟩, ?_⟩
      · rcases hk with hk | ⟨k1, k2, k3⟩
        · exact .inl hk
        · exact .inr ⟨k1, k2, k3, hw.1⟩
      · unfold bytesT
        rw [hsum _ (Nat.le_refl _)]
theorem parsed_isV {s : ByteArray} (h : eJ s=0) : isV (tJ s)=true:=by
 obtain ⟨hs,j,hv,_,hd,hw⟩:=eJ_zero h
 have h1:=valN_fine hs _ 0 _ _ (Nat.zero_le _) hv
 have h2:=valN_adv _ 0 _ _ (Nat.zero_le _) hv
 have h3:=fine_good _ _ 12 _ h1.2 (Nat.le_refl _) hd hw
 exact (isV_iff _).2 ⟨h3.1,by rw [h3.2]; omega⟩
end Go.Proofs.YtknakfpciccoaabGreatDoor
/- parsed answers true: the seat's own copy of the part of X1 that needs no reference. -/
namespace Go.Proofs.YtknakfpciccoaabGreatDoor
open Go.RowKit
def PrsU (s : ByteArray) (w : World) (e : Ending) (w' : World) : Prop :=
 Below w.heap.size w w'∧∃ es A B C D,e=.returned (.tuple #[.agg #[.int .i64 (kindOf (tJ s)),.int .i64 (nOf (tJ s)),.string (sOf (tJ s)),.slice A (nL (tJ s)) B,.slice C (nK (tJ s)) D],.int .i64 (eJ s)]) ∧
  Flat w' 13 (.agg #[.int .i64 (kindOf (tJ s)),.int .i64 (nOf (tJ s)),.string (sOf (tJ s)),.slice A (nL (tJ s)) B,.slice C (nK (tJ s)) D]) (tJ s) es∧Sep w.heap.size w' es∧es.length≤1048576∧∀ x ∈ es,x.n≤1048576∧x.m≤1048576
theorem prs_u {s : ByteArray} {w : World} {e : Ending} {w' : World} (h : ParsePost s w e w') : PrsU s w e w':=by
 obtain ⟨hb,⟨t,es,A,B,C,D,⟨h0,rfl⟩,rfl,hF,hS⟩ | ⟨h0,rfl⟩⟩:=h
 ·have hc:=tJ_cnt h0 13
  have hf:=flat_cnt hF hc.2
  refine ⟨hb,es,A,B,C,D,by rw [h0]; rfl,hF,hS,by omega,fun x hx=>?_⟩
  have:=hf.2 x hx
  omega
 ·have e1 : tJ s=leafT 0 0 ByteArray.empty:=by unfold tJ; rw [if_neg h0]
  refine ⟨hb,_,none,0,none,0,?_,?_,sep_leaf _ _,by simp,fun x hx=>?_⟩
  ·rw [e1]; rfl
  ·rw [e1]; exact flat_leaf w' 12 0 0 ByteArray.empty (by omega) (by omega) (by omega) (by omega) (by simp)
  ·simp only [List.mem_singleton] at hx
   subst hx
   exact ⟨Nat.zero_le _,Nat.zero_le _⟩
theorem parse_u {Tb : World→Prop} (hD : DecSaid Tb) (hN : IntSaid Tb) (hL : Lies Tb) (s : ByteArray) (w : World) (hs : s.size≤140737488355328) (hT : Tb w) : Calls Tryz.prog 14 #[.string s] w (PrsU s w) :=
 (parse_any hD hN hL s w hs hT).mono fun _ _ h=>prs_u h
end Go.Proofs.YtknakfpciccoaabGreatDoor
