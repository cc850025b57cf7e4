import Derived.Test.YtknakfpciccoaabGreatDoorZS19
import Derived.Test.YtknakfpciccoaabGreatDoorZS5
import Derived.Lib.QuoteLoop
import Derived.Test.YtknakfpciccoaabGreatDoorZS10
import Derived.Test.YtknakfpciccoaabGreatDoorZS18
import Derived.Test.YtknakfpciccoaabGreatDoorZS2
import Derived.Maps.OwnSet
/- Texts as values, pure: what is parsed is a value. -/
namespace Go.Proofs.YtknakfpciccoaabGreatDoor
open Go.RowKit
theorem valid_utf {a l:List UInt8} (h0:a≠[]) (hu:utfN (baL (a++l))=a.length):Lib.validD (a++l)=Lib.validD l:=by
 have hne:a++l≠[]:=by simp [h0]
 have hp:0<a.length:=List.length_pos_iff.2 h0
 have hd:=decodeL_eq (baL (a++l))
 rw [baL_list] at hd
 have h2:=utfN_decode (baL (a++l))
 rw [← hd,hu] at h2
 rw [Lib.validD_step _ hne]
 split at h2
 ·omega
 ·rename_i h3
  rw [if_neg h3,← h2,List.drop_left]
theorem fin_ok {s:ByteArray} {n:Nat} {least c0 r:Int} (hs:n≤s.size) (hc:contTo s (n - 1)=true) (hr:runC s c0 (n - 1)=r) (hb:badRune least r=false):finN s n least c0=n:=by
 unfold finN
 rw [if_neg (by omega),hc,hr,hb]
 simp
theorem byte_of {x:Int} (h0:0≤x) (h1:x<256):((x.toNat.toUInt8).toNat:Int)=x:=by
 rw [Nat.toUInt8,UInt8.toNat_ofNat']
 omega
theorem rune_utf {r:Int} (h0:0≤r) (h1:r≤1114111) (h2:r<55296∨57343<r) (l:List UInt8):utfN (baL (Lib.encodeRune r++l))=(Lib.encodeRune r).length:=by
 by_cases c1:r≤127
 ·have e:Lib.encodeRune r=[r.toNat.toUInt8]:=by unfold Lib.encodeRune;rw [Lib.encodeRuneZ_one h0 c1];rfl
  have b0:=byte_of h0 (show r<256 by omega)
  rw [e]
  unfold utfN
  rw [bt_baL,if_pos (by simp only [List.cons_append,List.getD_cons_zero];omega)]
  rfl
 ·by_cases c2:r≤2047
  ·have e:Lib.encodeRune r=[(192+r / 64).toNat.toUInt8,(128+r % 64).toNat.toUInt8]:=by unfold Lib.encodeRune;rw [Lib.encodeRuneZ_two (by omega) c2];rfl
   have b0:=byte_of (x:=192+r / 64) (by omega) (by omega)
   have b1:=byte_of (x:=128+r % 64) (by omega) (by omega)
   rw [e]
   generalize (192+r / 64).toNat.toUInt8=x0 at *
   generalize (128+r % 64).toNat.toUInt8=x1 at *
   have t0:bt (baL ([x0,x1]++l)) 0=x0.toNat:=by rw [bt_baL];rfl
   have t1:bt (baL ([x0,x1]++l)) 1=x1.toNat:=by rw [bt_baL];rfl
   unfold utfN
   rw [t0,if_neg (by omega),if_pos (by omega)]
   refine fin_ok (r:=r) (by rw [baL_size];simp) ?_ ?_ ?_
   ·simp only [contTo,Bool.true_and];rw [t1,decide_eq_true (by omega),decide_eq_true (by omega)];rfl
   ·simp only [runC];rw [t1];omega
   ·unfold badRune;simp;omega
  ·by_cases c3:r≤65535
   ·have e:Lib.encodeRune r=[(224+r / 4096).toNat.toUInt8,(128+r / 64 % 64).toNat.toUInt8,(128+r % 64).toNat.toUInt8]:=by unfold Lib.encodeRune;rw [Lib.encodeRuneZ_three (by omega)];rfl
    have b0:=byte_of (x:=224+r / 4096) (by omega) (by omega)
    have b1:=byte_of (x:=128+r / 64 % 64) (by omega) (by omega)
    have b2:=byte_of (x:=128+r % 64) (by omega) (by omega)
    rw [e]
    generalize (224+r / 4096).toNat.toUInt8=x0 at *
    generalize (128+r / 64 % 64).toNat.toUInt8=x1 at *
    generalize (128+r % 64).toNat.toUInt8=x2 at *
    have t0:bt (baL ([x0,x1,x2]++l)) 0=x0.toNat:=by rw [bt_baL];rfl
    have t1:bt (baL ([x0,x1,x2]++l)) 1=x1.toNat:=by rw [bt_baL];rfl
    have t2:bt (baL ([x0,x1,x2]++l)) 2=x2.toNat:=by rw [bt_baL];rfl
    unfold utfN
    rw [t0,if_neg (by omega),if_neg (by omega),if_pos (by omega)]
    refine fin_ok (r:=r) (by rw [baL_size];simp) ?_ ?_ ?_
    ·simp only [contTo,Bool.true_and];rw [t1,t2,decide_eq_true (by omega),decide_eq_true (by omega),decide_eq_true (by omega),decide_eq_true (by omega)];rfl
    ·simp only [runC];rw [t1,t2];omega
    ·unfold badRune;simp;omega
   ·have e:Lib.encodeRune r=[(240+r / 262144).toNat.toUInt8,(128+r / 4096 % 64).toNat.toUInt8,(128+r / 64 % 64).toNat.toUInt8,(128+r % 64).toNat.toUInt8]:=by unfold Lib.encodeRune;rw [Lib.encodeRuneZ_four (by omega) (by omega)];rfl
    have b0:=byte_of (x:=240+r / 262144) (by omega) (by omega)
    have b1:=byte_of (x:=128+r / 4096 % 64) (by omega) (by omega)
    have b2:=byte_of (x:=128+r / 64 % 64) (by omega) (by omega)
    have b3:=byte_of (x:=128+r % 64) (by omega) (by omega)
    rw [e]
    generalize (240+r / 262144).toNat.toUInt8=x0 at *
    generalize (128+r / 4096 % 64).toNat.toUInt8=x1 at *
    generalize (128+r / 64 % 64).toNat.toUInt8=x2 at *
    generalize (128+r % 64).toNat.toUInt8=x3 at *
    have t0:bt (baL ([x0,x1,x2,x3]++l)) 0=x0.toNat:=by rw [bt_baL];rfl
    have t1:bt (baL ([x0,x1,x2,x3]++l)) 1=x1.toNat:=by rw [bt_baL];rfl
    have t2:bt (baL ([x0,x1,x2,x3]++l)) 2=x2.toNat:=by rw [bt_baL];rfl
    have t3:bt (baL ([x0,x1,x2,x3]++l)) 3=x3.toNat:=by rw [bt_baL];rfl
    unfold utfN
    rw [t0,if_neg (by omega),if_neg (by omega),if_neg (by omega),if_pos (by omega)]
    refine fin_ok (r:=r) (by rw [baL_size];simp) ?_ ?_ ?_
    ·simp only [contTo,Bool.true_and];rw [t1,t2,t3,decide_eq_true (by omega),decide_eq_true (by omega),decide_eq_true (by omega),decide_eq_true (by omega),decide_eq_true (by omega),decide_eq_true (by omega)];rfl
    ·simp only [runC];rw [t1,t2,t3];omega
    ·unfold badRune;simp;omega
theorem rune_ne (r:Int):Lib.encodeRune r≠[]:=by
 unfold Lib.encodeRune Lib.encodeRuneZ
 split
 ·simp
 ·split
  ·simp
  ·split
   ·simp
   ·split<;>simp
theorem rune_len4 (r:Int):(Lib.encodeRune r).length≤4:=by
 unfold Lib.encodeRune
 rw [List.length_map]
 exact Lib.encodeRuneZ_length_le r
theorem rune_len1 {r:Nat} (h:r<128):(Lib.encodeRune (r:Int)).length=1:=by
 unfold Lib.encodeRune
 rw [List.length_map,Lib.encodeRuneZ_one (by omega) (by omega)]
 rfl
theorem low_fine {s:ByteArray} {i a r e:Nat} (ha:a<65536) (h:low s i a=some (r,e)):i≤e∧r≤1114111∧(r<55296∨57343<r):=by
 unfold low at h
 split at h
 ·simp only [Option.some.injEq,Prod.mk.injEq] at h
  omega
 ·split at h
  ·cases h
  ·split at h
   ·cases hh:hex4 s (i+2) with
    | none=>rw [hh] at h;cases h
    | some b =>
     rw [hh] at h
     simp only [Option.bind_some] at h
     split at h
     ·cases h
     ·simp only [Option.some.injEq,Prod.mk.injEq] at h
      omega
   ·cases h
theorem let_fine {s:ByteArray} {i r e:Nat} (h:letS s i=some (r,e)):(∀ l,Lib.validD (Lib.encodeRune (r:Int)++l)=Lib.validD l)∧i+(Lib.encodeRune (r:Int)).length≤e:=by
 have esc:∀ c,c<128→i+2≤e→r=c→(∀ l,Lib.validD (Lib.encodeRune (r:Int)++l)=Lib.validD l)∧i+(Lib.encodeRune (r:Int)).length≤e:=by
  intro c hc he hr
  subst hr
  exact ⟨fun l=>valid_utf (rune_ne _) (rune_utf (by omega) (by omega) (by omega) l),by rw [rune_len1 hc];omega⟩
 by_cases h92:cB s i=92
 ·unfold letS at h
  rw [if_pos h92] at h
  unfold escR at h
  split at h
  ·rename_i hh
   simp only [Option.some.injEq,Prod.mk.injEq] at h
   exact esc (cB s (i+1)) (by omega) (by omega) (by omega)
  ·split at h
   ·simp only [Option.some.injEq,Prod.mk.injEq] at h;exact esc 8 (by omega) (by omega) (by omega)
   ·split at h
    ·simp only [Option.some.injEq,Prod.mk.injEq] at h;exact esc 12 (by omega) (by omega) (by omega)
    ·split at h
     ·simp only [Option.some.injEq,Prod.mk.injEq] at h;exact esc 10 (by omega) (by omega) (by omega)
     ·split at h
      ·simp only [Option.some.injEq,Prod.mk.injEq] at h;exact esc 13 (by omega) (by omega) (by omega)
      ·split at h
       ·simp only [Option.some.injEq,Prod.mk.injEq] at h;exact esc 9 (by omega) (by omega) (by omega)
       ·split at h
        ·cases hx:hex4 s (i+1+1) with
         | none=>rw [hx] at h;cases h
         | some a =>
          rw [hx] at h
          simp only [Option.bind_some] at h
          have h1:=hexN_lt hx
          have h2:=low_fine (by omega) h
          have h3:=rune_len4 (r:Int)
          exact ⟨fun l=>valid_utf (rune_ne _) (rune_utf (by omega) (by omega) (by omega) l),by omega⟩
        ·cases h
 ·by_cases hi:i<s.size
  ·by_cases hb:cB s i<32∨utfN (suf s i)=0
   ·rw [letS_bad hi h92 hb] at h
    cases h
   ·obtain ⟨r',h1,h2,h3⟩:=letS_good hi h92 (by omega) (by omega)
    rw [h1] at h
    simp only [Option.some.injEq,Prod.mk.injEq] at h
    obtain ⟨rfl,rfl⟩:=h
    have hl:(s.extract i (i+utfN (suf s i))).data.toList.length=utfN (suf s i):=by
     rw [cut_list,List.length_take,List.length_drop]
     have:s.data.toList.length=s.size:=rfl
     omega
    rw [h2]
    refine ⟨fun l=>valid_utf (by intro e;rw [e] at hl;simp at hl;omega) ?_,by omega⟩
    rw [hl]
    refine utfN_same (by omega) (by rw [baL_size,List.length_append,hl];omega) fun j hj=>?_
    rw [bt_suf,bt_baL,bt_list]
    congr 1
    simp only [List.getD_eq_getElem?_getD]
    rw [List.getElem?_append_left (by omega),cut_list,List.getElem?_take,if_pos hj,List.getElem?_drop]
  ·rw [letS_end (by omega)] at h
   cases h
theorem txtN_fine {s:ByteArray}:∀ {n i:Nat} {l:List UInt8} {e:Nat},txtN s n i=some (l,e)→Lib.validD l=true∧i+l.length+1≤e
 | 0,i,l,e,h=>by cases h
 | n+1,i,l,e,h=>by
  rw [txtN] at h
  split at h
  ·simp only [Option.some.injEq,Prod.mk.injEq] at h
   obtain ⟨rfl,rfl⟩:=h
   exact ⟨rfl,by simp⟩
  ·cases hl:letS s i with
   | none=>rw [hl] at h;cases h
   | some p =>
    rw [hl] at h
    simp only [Option.bind_some] at h
    cases ht:txtN s n p.2 with
    | none=>rw [ht] at h;cases h
    | some q =>
     rw [ht] at h
     simp only [Option.map_some,Option.some.injEq,Prod.mk.injEq] at h
     obtain ⟨rfl,rfl⟩:=h
     obtain ⟨h1,h2⟩:=let_fine (r:=p.1) (e:=p.2) hl
     obtain ⟨h3,h4⟩:=txtN_fine (l:=q.1) (e:=q.2) ht
     exact ⟨by rw [h1];exact h3,by rw [List.length_append];omega⟩
theorem txtS_fine {s:ByteArray} {i:Nat} {x:ByteArray} {e:Nat} (h:txtS s i=some (x,e)):okS x=true∧i+x.size+2≤e:=by
 unfold txtS at h
 split at h
 ·cases ht:txtN s (s.size+1) (i+1) with
  | none=>rw [ht] at h;cases h
  | some q =>
   rw [ht] at h
   simp only [Option.map_some,Option.some.injEq,Prod.mk.injEq] at h
   obtain ⟨rfl,rfl⟩:=h
   obtain ⟨h1,h2⟩:=txtN_fine (l:=q.1) (e:=q.2) ht
   refine ⟨by unfold okS;rw [baL_list];exact h1,by rw [baL_size];omega⟩
 ·cases h
end Go.Proofs.YtknakfpciccoaabGreatDoor
/- Texts as values, pure: what is parsed is a value (lists, objects, the whole). -/
namespace Go.Proofs.YtknakfpciccoaabGreatDoor
open Go.RowKit
def Fine:Nat→T→Prop
 | 0,t=>leafGood t
 | n+1,t=>leafGood t∨(nOf t=0∧noText t=true∧(∀ i,i<nL t→Fine n (elt t i))∧((kindOf t=5∧nK t=0)∨(kindOf t=6∧nK t=nL t∧namesF t (nK t)=true)))
theorem fine_leaf {t:T} (n:Nat) (h:leafGood t):Fine n t:=by
 cases n with
 | zero=>exact h
 | succ n=>exact .inl h
theorem bytes_leafG {t:T} (n:Nat) (h:leafGood t):bytesT n t=leafBytes t:=by
 have k:=good_leafK h
 cases n with
 | zero=>rfl
 | succ n=>unfold bytesT;rw [if_neg k.1,if_neg k.2]
theorem names_all {t:T}:∀ k,k≤nK t→(∀ x ∈ kOf t,okS x=true∧x.size≤4000)→namesF t k=true
 | 0,_,_=>rfl
 | k+1,hk,h=>by
  have hm:nam t k ∈ kOf t:=by
   have hl:k<(kOf t).length:=hk
   unfold nam
   simp only [List.getD_eq_getElem?_getD,List.getElem?_eq_getElem hl,Option.getD_some]
   exact List.getElem_mem hl
  obtain ⟨h1,h2⟩:=h _ hm
  rw [namesF,names_all k (by omega) h,h1,decide_eq_true h2]
  rfl
theorem itm_fine {f:Nat→Option (T×Nat)} {s:ByteArray} {n:Nat} (hs:s.size≤4000) (hf:∀ i t e,i≤s.size→f i=some (t,e)→i<e∧e≤s.size) (hg:∀ i t e,i≤s.size→f i=some (t,e)→bytesT n t≤9*(e - i)∧Fine n t) (o:Bool) :
  ∀ (m i:Nat) (r:(List ByteArray×List T)×Nat),i≤s.size→itm f s o m i=some r→(r.1.1.map fun k=>2+k.size).sum+(r.1.2.map (bytesT n)).sum≤9*(r.2 - i)∧(∀ x ∈ r.1.2,Fine n x)∧(∀ x ∈ r.1.1,okS x=true∧x.size≤4000)∧(o=true→r.1.1.length=r.1.2.length)∧(o=false→r.1.1=[])∧i<r.2∧r.2≤s.size
 | 0,i,r,_,h=>by cases h
 | m+1,i,r,hi,h=>by
  have hadv:=itm_adv hf o (m+1) i r hi h
  rw [itm] at h
  cases hk:keyS s o i with
  | none=>rw [hk] at h;cases h
  | some p =>
   rw [hk] at h
   simp only [Option.bind_some] at h
   have h1:=keyS_adv hi hk
   have hkey:o=true→okS p.1=true∧i+p.1.size+3≤p.2∧p.1.size≤4000:=by
    intro ho
    subst ho
    unfold keyS at hk
    simp only [if_true] at hk
    cases ht:txtS s (sk s i) with
    | none=>rw [ht] at hk;cases hk
    | some q =>
     rw [ht] at hk
     simp only [Option.bind_some] at hk
     split at hk
     ·simp only [Option.some.injEq] at hk
      subst hk
      have h2:=txtS_fine (x:=q.1) (e:=q.2) ht
      have h3:=sk_ge s i
      have h4:=sk_ge s q.2
      have h5:=h1.2.1
      exact ⟨h2.1,by show i+q.1.size+3≤sk s q.2+1;omega,by show q.1.size≤4000;have:sk s q.2+1≤s.size:=h5;omega⟩
     ·cases hk
   cases hq:f p.2 with
   | none=>rw [hq] at h;cases h
   | some q =>
    rw [hq] at h
    simp only [Option.bind_some] at h
    have h2:=hf p.2 q.1 q.2 h1.2.1 hq
    have h2g:=hg p.2 q.1 q.2 h1.2.1 hq
    have h3:=sk_ge s q.2
    split at h
    ·rename_i hc
     have h4:=cB_in (s:=s) (i:=sk s q.2) (by omega)
     cases hr:itm f s o m (sk s q.2+1) with
     | none=>rw [hr] at h;cases h
     | some r' =>
      rw [hr] at h
      simp only [Option.map_some,Option.some.injEq] at h
      have h5:=itm_fine hs hf hg o m _ r' (by omega) hr
      subst h
      cases o with
      | false =>
       have h6:=h5.2.2.2.2.1 rfl
       refine ⟨?_,?_,?_,(fun h=>by cases h),(fun _=>h6),hadv⟩
       ·have:=h5.1
        simp only [app,Bool.false_eq_true,if_false,List.map_cons,List.sum_cons]
        omega
       ·intro x hx
        simp only [app,List.mem_cons] at hx
        rcases hx with rfl | hx
        ·exact h2g.2
        ·exact h5.2.1 x hx
       ·intro x hx
        simp only [app,Bool.false_eq_true,if_false] at hx
        exact h5.2.2.1 x hx
      | true =>
       have h6:=h5.2.2.2.1 rfl
       have h7:=hkey rfl
       refine ⟨?_,?_,?_,(fun _=>by simp only [app,if_true,List.length_cons,h6]),(fun h=>by cases h),hadv⟩
       ·have:=h5.1
        simp only [app,if_true,List.map_cons,List.sum_cons]
        omega
       ·intro x hx
        simp only [app,List.mem_cons] at hx
        rcases hx with rfl | hx
        ·exact h2g.2
        ·exact h5.2.1 x hx
       ·intro x hx
        simp only [app,if_true,List.mem_cons] at hx
        rcases hx with rfl | hx
        ·exact ⟨h7.1,h7.2.2⟩
        ·exact h5.2.2.1 x hx
    ·split at h
     ·simp only [Option.some.injEq] at h
      subst h
      cases o with
      | false =>
       refine ⟨?_,?_,?_,(fun h=>by cases h),(fun _=>rfl),hadv⟩
       ·simp only [app,Bool.false_eq_true,if_false,List.map_cons,List.map_nil,List.sum_cons,List.sum_nil]
        omega
       ·intro x hx
        simp only [app,List.mem_singleton] at hx
        subst hx
        exact h2g.2
       ·intro x hx
        simp [app] at hx
      | true =>
       have h7:=hkey rfl
       refine ⟨?_,?_,?_,(fun _=>rfl),(fun h=>by cases h),hadv⟩
       ·simp only [app,if_true,List.map_cons,List.map_nil,List.sum_cons,List.sum_nil]
        omega
       ·intro x hx
        simp only [app,List.mem_singleton] at hx
        subst hx
        exact h2g.2
       ·intro x hx
        simp only [app,if_true,List.mem_singleton] at hx
        subst hx
        exact ⟨h7.1,h7.2.2⟩
     ·cases h
theorem noText_mk (k n:Int) (l:List T) (ks:List ByteArray):noText (mkT k n ByteArray.empty l ks)=true:=by
 unfold noText
 rw [sOf_mk,ByteArray.toList_eq]
 rfl
theorem bare_fine {f:Nat→Option (T×Nat)} {s:ByteArray} {n:Nat} (hs:s.size≤4000) (hf:∀ i t e,i≤s.size→f i=some (t,e)→i<e∧e≤s.size) (hg:∀ i t e,i≤s.size→f i=some (t,e)→bytesT n t≤9*(e - i)∧Fine n t) {j:Nat} {t:T} {e:Nat} (hj:j≤s.size) (h:bareV f s j=some (t,e)):bytesT (n+1) t≤9*(e - j)∧Fine (n+1) t:=by
 have hadv:=bareV_adv hf hj h
 have hleaf:leafGood t→leafBytes t≤9*(e - j)→bytesT (n+1) t≤9*(e - j)∧Fine (n+1) t:=fun h1 h2=>⟨by rw [bytes_leafG _ h1];exact h2,fine_leaf _ h1⟩
 have hbox:∀ (o:Bool) (k:Int),k=(if o=true then 6 else 5)→cB s j<256→(boxS f s o (j+1)).map (fun r=>(mkT k 0 ByteArray.empty r.1.2 r.1.1,r.2))=some (t,e)→bytesT (n+1) t≤9*(e - j)∧Fine (n+1) t:=by
  intro o k hk hc hh
  have hj1:=cB_in hc
  have h3:=sk_ge s (j+1)
  have h5:=sk_le (s:=s) (i:=j+1) (by omega)
  cases hb:boxS f s o (j+1) with
  | none=>rw [hb] at hh;cases hh
  | some r =>
   rw [hb] at hh
   simp only [Option.map_some,Option.some.injEq,Prod.mk.injEq] at hh
   obtain ⟨rfl,rfl⟩:=hh
   have key:(r.1.1.map fun k=>2+k.size).sum+(r.1.2.map (bytesT n)).sum+5≤9*(r.2 - j)∧(∀ x ∈ r.1.2,Fine n x)∧(∀ x ∈ r.1.1,okS x=true∧x.size≤4000)∧(o=true→r.1.1.length=r.1.2.length)∧(o=false→r.1.1=[]):=by
    unfold boxS at hb
    split at hb
    ·simp only [Option.some.injEq] at hb
     subst hb
     refine ⟨?_,by simp,by simp,fun _=>rfl,fun _=>rfl⟩
     simp only [List.map_nil,List.sum_nil]
     omega
    ·have:=itm_fine hs hf hg o _ _ r h5 hb
     refine ⟨?_,this.2.1,this.2.2.1,this.2.2.2.1,this.2.2.2.2.1⟩
     have h6:=this.1
     have h7:=this.2.2.2.2.2.1
     omega
   obtain ⟨k1,k2,k3,k4,k5⟩:=key
   have e0:∀ k:Int,nL (mkT k 0 ByteArray.empty r.1.2 r.1.1)=r.1.2.length:=fun k=>by unfold nL;rw [lOf_mk]
   have e1:∀ k:Int,nK (mkT k 0 ByteArray.empty r.1.2 r.1.1)=r.1.1.length:=fun k=>by unfold nK;rw [kOf_mk]
   have hel:∀ k:Int,∀ i,i<nL (mkT k 0 ByteArray.empty r.1.2 r.1.1)→Fine n (elt (mkT k 0 ByteArray.empty r.1.2 r.1.1) i):=fun k i hi=>k2 _ (elt_mem hi)
   cases o with
   | false =>
    simp only [Bool.false_eq_true,if_false] at hk
    subst hk
    refine ⟨?_,.inr ⟨rfl,noText_mk _ _ _ _,hel 5,.inl ⟨rfl,?_⟩⟩⟩
    ·rw [bytes_box n 5 r.1.2 r.1.1 (.inl rfl) (fun _=>k5 rfl)]
     omega
    ·rw [e1,k5 rfl]
     rfl
   | true =>
    simp only [if_true] at hk
    subst hk
    refine ⟨?_,.inr ⟨rfl,noText_mk _ _ _ _,hel 6,.inr ⟨rfl,?_,?_⟩⟩⟩
    ·rw [bytes_box n 6 r.1.2 r.1.1 (.inr rfl) (fun h=>by omega)]
     omega
    ·rw [e0,e1,k4 rfl]
    ·exact names_all _ (Nat.le_refl _) (by rw [kOf_mk];exact k3)
 unfold bareV at h
 split at h
 ·cases ht:txtS s j with
  | none=>rw [ht] at h;cases h
  | some q =>
   rw [ht] at h
   simp only [Option.map_some,Option.some.injEq,Prod.mk.injEq] at h
   obtain ⟨rfl,rfl⟩:=h
   have h2:=txtS_fine (x:=q.1) (e:=q.2) ht
   refine hleaf ⟨rfl,rfl,.inr (.inr (.inr ⟨rfl,rfl,?_,h2.1⟩))⟩ ?_
   ·show q.1.size≤4000
    omega
   ·show (if (4:Int)=1 then 1 else if (4:Int)=2 then 2 else if (4:Int)=3 then 9 else 5+q.1.size)≤_
    rw [if_neg (by omega),if_neg (by omega),if_neg (by omega)]
    omega
 ·split at h
  ·exact hbox false 5 rfl (by omega) h
  ·split at h
   ·exact hbox true 6 rfl (by omega) h
   ·split at h
    ·cases ht:numS s j with
     | none=>rw [ht] at h;cases h
     | some q =>
      rw [ht] at h
      simp only [Option.map_some,Option.some.injEq,Prod.mk.injEq] at h
      obtain ⟨rfl,rfl⟩:=h
      refine hleaf ⟨rfl,rfl,.inr (.inr (.inl ⟨rfl,noText_mk _ _ _ _⟩))⟩ ?_
      show (if (3:Int)=1 then 1 else if (3:Int)=2 then 2 else if (3:Int)=3 then 9 else _)≤_
      rw [if_neg (by omega),if_neg (by omega),if_pos rfl]
      omega
    ·split at h
     ·simp only [Option.some.injEq,Prod.mk.injEq] at h
      obtain ⟨rfl,rfl⟩:=h
      refine hleaf ⟨rfl,rfl,.inl ⟨rfl,rfl,noText_mk _ _ _ _⟩⟩ ?_
      show (if (1:Int)=1 then 1 else _)≤_
      rw [if_pos rfl]
      omega
     ·split at h
      ·simp only [Option.some.injEq,Prod.mk.injEq] at h
       obtain ⟨rfl,rfl⟩:=h
       refine hleaf ⟨rfl,rfl,.inr (.inl ⟨rfl,.inr rfl,noText_mk _ _ _ _⟩)⟩ ?_
       show (if (2:Int)=1 then 1 else if (2:Int)=2 then 2 else _)≤_
       rw [if_neg (by omega),if_pos rfl]
       omega
      ·split at h
       ·simp only [Option.some.injEq,Prod.mk.injEq] at h
        obtain ⟨rfl,rfl⟩:=h
        refine hleaf ⟨rfl,rfl,.inr (.inl ⟨rfl,.inl rfl,noText_mk _ _ _ _⟩)⟩ ?_
        show (if (2:Int)=1 then 1 else if (2:Int)=2 then 2 else _)≤_
        rw [if_neg (by omega),if_pos rfl]
        omega
       ·cases h
theorem valN_fine {s:ByteArray} (hs:s.size≤4000):∀ (n i:Nat) (t:T) (e:Nat),i≤s.size→valN s n i=some (t,e)→bytesT n t≤9*(e - i)∧Fine n t
 | 0,_,_,_,_,h=>by cases h
 | n+1,i,t,e,hi,h=>by
  rw [valN] at h
  have:=bare_fine hs (fun i t e=>valN_adv n i t e) (fun i t e=>valN_fine hs n i t e) (sk_le hi) h
  have h2:=sk_ge s i
  exact ⟨by omega,this.2⟩
theorem fine_good : ∀ (n n' m : Nat) (t : T), Fine n t → n ≤ n' → deepT n' t ≤ m → twiceT n' t = false → Good m t ∧ bytesT m t = bytesT n t
  | 0, n', m, t, h, _, _, _ => ⟨by cases m; · exact h
                                   · exact .inl h, by rw [bytes_leafG _ h, bytes_leafG _ h]⟩
  | n + 1, n', m, t, h, hn, hd, hw => by
    rcases h with h | ⟨h1, h2, he, hk⟩
    · exact ⟨by cases m; · exact h
                · exact .inl h, by rw [bytes_leafG _ h, bytes_leafG _ h]⟩
    · obtain ⟨n', rfl⟩ : ∃ x, n' = x + 1 := ⟨n' - 1, by omega⟩
      have hbx : isBox t = true := by unfold isBox; rcases hk with ⟨hk, _⟩ | ⟨hk, _⟩ <;> simp [hk]
      rw [deepT, if_pos hbx] at hd
      obtain ⟨m, rfl⟩ : ∃ x, m = x + 1 := ⟨m - 1, by omega⟩
      simp only [twiceT, Bool.or_eq_false_iff] at hw
      have hi : ∀ i, i < nL t → Good m (elt t i) ∧ bytesT m (elt t i) = bytesT n (elt t i) := fun i hi => by
        refine fine_good n n' m _ (he i hi) (by omega) ?_ ?_
        · have := deepL_one (g := deepT n') (t := t) (i := i) hi
          omega
        · cases ht : twiceT n' (elt t i) with
          | false => rfl
          | true => have := anyL_at (f := twiceT n') (t := t) hi ht; rw [hw.2] at this; cases this
      have hsum : ∀ k, k ≤ nL t → sumL (bytesT m) t k = sumL (bytesT n) t k := by
        intro k
        induction k with
        | zero => intro _; rfl
        | succ k ih => intro hk; rw [sumL, sumL, ih (by omega), (hi k (by omega)).2]
      refine ⟨.inr ⟨h1, h2, fun i h => (hi i h).1, ?_⟩, ?_⟩
      · rcases hk with hk | ⟨k1, k2, k3⟩
        · exact .inl hk
        · exact .inr ⟨k1, k2, k3, hw.1⟩
      · unfold bytesT
        rw [hsum _ (Nat.le_refl _)]
theorem parsed_isV {s:ByteArray} (h:eJ s=0):isV (tJ s)=true:=by
 obtain ⟨hs,j,hv,_,hd,hw⟩:=eJ_zero h
 have h1:=valN_fine hs _ 0 _ _ (Nat.zero_le _) hv
 have h2:=valN_adv _ 0 _ _ (Nat.zero_le _) hv
 have h3:=fine_good _ _ 12 _ h1.2 (Nat.le_refl _) hd hw
 exact (isV_iff _).2 ⟨h3.1,by rw [h3.2];omega⟩
end Go.Proofs.YtknakfpciccoaabGreatDoor
/- parsed answers true: the seat's own copy of the part of X1 that needs no reference. -/
namespace Go.Proofs.YtknakfpciccoaabGreatDoor
open Go.RowKit
def PrsU (s:ByteArray) (w:World) (e:Ending) (w':World):Prop :=
 Below w.heap.size w w'∧∃ es A B C D,e=.returned (.tuple #[.agg #[.int .i64 (kindOf (tJ s)),.int .i64 (nOf (tJ s)),.string (sOf (tJ s)),.slice A (nL (tJ s)) B,.slice C (nK (tJ s)) D],.int .i64 (eJ s)]) ∧
  Flat w' 13 (.agg #[.int .i64 (kindOf (tJ s)),.int .i64 (nOf (tJ s)),.string (sOf (tJ s)),.slice A (nL (tJ s)) B,.slice C (nK (tJ s)) D]) (tJ s) es∧Sep w.heap.size w' es∧es.length≤1048576∧∀ x ∈ es,x.n≤1048576∧x.m≤1048576
theorem prs_u {s:ByteArray} {w:World} {e:Ending} {w':World} (h:ParsePost s w e w'):PrsU s w e w':=by
 obtain ⟨hb,⟨t,es,A,B,C,D,⟨h0,rfl⟩,rfl,hF,hS⟩ | ⟨h0,rfl⟩⟩:=h
 ·have hc:=tJ_cnt h0 13
  have hf:=flat_cnt hF hc.2
  refine ⟨hb,es,A,B,C,D,by rw [h0];rfl,hF,hS,by omega,fun x hx=>?_⟩
  have:=hf.2 x hx
  omega
 ·have e1:tJ s=leafT 0 0 ByteArray.empty:=by unfold tJ;rw [if_neg h0]
  refine ⟨hb,_,none,0,none,0,?_,?_,sep_leaf _ _,by simp,fun x hx=>?_⟩
  ·rw [e1];rfl
  ·rw [e1];exact flat_leaf w' 12 0 0 ByteArray.empty (by omega) (by omega) (by omega) (by omega) (by simp)
  ·simp only [List.mem_singleton] at hx
   subst hx
   exact ⟨Nat.zero_le _,Nat.zero_le _⟩
theorem parse_u {Tb:World→Prop} (hD:DecSaid Tb) (hN:IntSaid Tb) (hL:Lies Tb) (s:ByteArray) (w:World) (hs:s.size≤140737488355328) (hT:Tb w):Calls Tryz.prog 14 #[.string s] w (PrsU s w) :=
 (parse_any hD hN hL s w hs hT).mono fun _ _ h=>prs_u h
end Go.Proofs.YtknakfpciccoaabGreatDoor
/- The store's map of collections; read, search, Find. -/
namespace Go.Proofs.YtknakfpciccoaabGreatDoor
open Go.RowKit Go.Maps Go.WideMaps
def refR:Value→Option (DataW Unit×List MemPlace)
 | .pointer none=>some (.nil,[])
 | .pointer (some ⟨b,0,none⟩)=>some (.lit (.int .i64 b),[])
 | _=>none
theorem refR_inv {v:Value} {z:DataW Unit×List MemPlace} (h:refR v=some z):(v=.pointer none∧z.1=.nil)∨∃ c:Nat,v=.pointer (some ⟨c,0,none⟩)∧z.1=.lit (.int .i64 c):=by
 unfold refR at h
 split at h
 ·cases h;exact .inl ⟨rfl,rfl⟩
 ·cases h;exact .inr ⟨_,rfl,rfl⟩
 ·cases h
def atK (D:DataW Unit) (x:ByteArray):DataW Unit:=D.atKey (.string x.data.toList) .nil
theorem zeroC (w:World):(zeroValue 51).run Tryz.prog w=.ok (.pointer none) w:=by kernel_rfl
structure StoAt (w:World) (p m n:Nat) (D:DataW Unit):Prop where
 cell:w.cell? ⟨p,0,none⟩=some (.map (some m))
 low:p<w.heap.size
 own:w.ownsMap Tryz.prog 9 refR m n D
theorem StoAt.keep {w w':World} {p m n:Nat} {D:DataW Unit} (h:StoAt w p m n D) (hb:Below w.heap.size w w'):StoAt w' p m n D:=by
 have hlt:=h.own.lt
 obtain ⟨es,clock,hm,F,hs,hD⟩:=h.own
 exact ⟨(hb.cell (p:=⟨p,0,none⟩) h.low).trans h.cell,Nat.lt_of_lt_of_le h.low hb.size,es,clock,(hb.block m hlt).trans hm,F,hs,hD⟩
theorem StoAt.look {w:World} {p m n:Nat} {D:DataW Unit} (h:StoAt w p m n D) (x:ByteArray) (hx:x.size≤140737488355328) :
  ((Instr.lookup 74 (.map (some m)) (.string x) false).run Tryz.prog w=.ok (.pointer none) w∧atK D x=.nil) ∨
  ∃ c:Nat,(Instr.lookup 74 (.map (some m)) (.string x) false).run Tryz.prog w=.ok (.pointer (some ⟨c,0,none⟩)) w∧atK D x=.lit (.int .i64 c):=by
 obtain ⟨v,ps,hrun,hv⟩:=h.own.lookup (z:=.pointer none) (zd:=.nil) (zp:=[]) law9 Tryz.underlying74 (zeroC w) rfl (keyOf_string_mk Tryz.underlying9 (s:=x) (by unfold maxLen;omega))
 rcases refR_inv hv with ⟨rfl,e⟩ | ⟨c,rfl,e⟩
 ·exact .inl ⟨hrun,e⟩
 ·exact .inr ⟨c,hrun,e⟩
theorem parsed_okA {s:ByteArray} (h:eJ s=0):okA (tJ s):=by
 have h1:=(isV_iff _).1 (parsed_isV h)
 exact good_okA h1.1 (by have:=h1.2;omega)
theorem Flat.atP {p:Nat→Prop} {w:World}:∀ {f:Nat} {v:Value} {t:T} {es:List Ent},(∀ b ∈ blks es,p b)→Flat w f v t es→AtP p w f v t:=by
 intro f
 induction f with
 | zero=>intro v t es _ h;exact h
 | succ f ih =>
  rintro v t es hp ⟨Lv,Kv,xs,sub,rfl,hf,hl,hk,hc,hn,rfl⟩
  have hx:∀ b,b ∈ blk ⟨Lv,nL t,Kv,nK t⟩→p b:=fun b h=>hp b (by rw [blks_append,blks_one];simp [h])
  obtain ⟨A,c,rfl⟩:=own_shape hl
  obtain ⟨C,d,rfl⟩:=own_shape hk
  refine ⟨A,C,c,d,rfl,hf,fun i hi=>?_,fun i hi=>?_⟩
  ·obtain ⟨g,cap,e,hg,_,_,hcell,_⟩:=own_cell hl (by omega)
   cases e
   refine ⟨g,0,_,_,_,_,_,rfl,⟨hg,hx g (by simp [blk,Value.ownBlock])⟩,?_,?_,?_,?_,?_,ih (fun b h=>hp b (by rw [blks_append];exact List.mem_append_left _ (mem_catE hi h))) (hc i hi)⟩
   ·rw [Nat.zero_add];exact hcell _ (by omega)
   ·rw [Nat.zero_add];exact hcell _ (by omega)
   ·rw [Nat.zero_add];exact hcell _ (by omega)
   ·rw [Nat.zero_add];exact hcell _ (by omega)
   ·rw [Nat.zero_add];exact hcell _ (by omega)
  ·obtain ⟨g,cap,e,hg,_,_,hcell,_⟩:=own_cell hk (by omega)
   cases e
   refine ⟨g,0,rfl,⟨hg,hx g (by simp [blk,Value.ownBlock])⟩,hn i hi,?_⟩
   rw [Nat.zero_add,hcell i (by omega)]
   have hi':i<(kOf t).length:=hi
   simp [cx,namesV,nam,List.getD_eq_getElem?_getD,hi']
theorem parseP_ok {Tb:World→Prop} (hD:DecSaid Tb) (hN:IntSaid Tb) (hL:Lies Tb) (s:ByteArray) (w:World) (hs:s.size≤140737488355328) (hT:Tb w) (h0:eJ s=0) :
  Calls Tryz.prog 14 #[.string s] w fun e w'=>Below w.heap.size w w'∧∃ A B C D,e=.returned (.tuple #[.agg #[.int .i64 (kindOf (tJ s)),.int .i64 (nOf (tJ s)),.string (sOf (tJ s)),.slice A (nL (tJ s)) B,.slice C (nK (tJ s)) D],.int .i64 0])∧AtP (newB w w') w' 13 (.agg #[.int .i64 (kindOf (tJ s)),.int .i64 (nOf (tJ s)),.string (sOf (tJ s)),.slice A (nL (tJ s)) B,.slice C (nK (tJ s)) D]) (tJ s):=by
 refine (parse_u hD hN hL s w hs hT).mono ?_
 rintro e w1 ⟨b1,es,A,B,C,D,rfl,hF,hS,h1,h2⟩
 exact ⟨b1,A,B,C,D,by rw [h0],Flat.atP hS.lies hF⟩
def FilS (w w':World) (fv:Value) (t:T):Prop:=∀ w2:World,w'.heap.size≤w2.heap.size→(∀ b,w.heap.size≤b→b<w'.heap.size→w2.heap[b]?=w'.heap[b]?)→FilAt w2 16 fv t
theorem fil_stay {w w1 wA w3:World} {fv:Value} {t:T} (hr:FilB ⟨w1,newB w w1⟩ w3 (newB wA w3) 16 fv t) (b1:Below w.heap.size w w1) (bA:Below w1.heap.size w1 wA) (b3:Below wA.heap.size wA w3):FilS w w3 fv t:=by
 intro w2 hs hb
 have s1:=b1.size
 have sA:=bA.size
 have s3:=b3.size
 have h1:FilB ⟨w1,newB w w1⟩ w2 (newB wA w3) 16 fv t:=FilB.move (w0:=⟨w1,newB w w1⟩) (fun b h=>⟨hb b (by have:=h.1;omega) h.2,h⟩) 16 _ _ hr
 refine FilB.at (w0:=⟨w1,newB w w1⟩) (fun b h=>Nat.lt_of_lt_of_le h.2 hs) (fun f v u ha=>?_) 16 _ _ h1
 have h2:AtP (newB w w1) w1 f v u:=ha
 exact (h2.move (q:=fun _=>True) (by omega) fun b h p=>⟨trivial,(hb b p.1 (by omega)).trans ((b3.block b (by omega)).trans (bA.block b h))⟩).at
def ReadPost (w : World) (x s : ByteArray) (D : DataW Unit) (e : Ending) (w' : World) : Prop :=
  Below w.heap.size w w' ∧
  ((eJ s ≠ 0 ∧ e = .returned (.tuple #[.pointer none, .slice none 0 0, .int .i64 (eJ s)])) ∨
   (eJ s = 0 ∧ okFil 16 (tJ s) = false ∧ e = .returned (.tuple #[.pointer none, .slice none 0 0, .int .i64 8])) ∨
   (eJ s = 0 ∧ okFil 16 (tJ s) = true ∧ atK D x = .nil ∧ e = .returned (.tuple #[.pointer none, .slice none 0 0, .int .i64 10])) ∨
   (eJ s = 0 ∧ okFil 16 (tJ s) = true ∧ ∃ c : Nat, atK D x = .lit (.int .i64 c) ∧ ∃ fv, e = .returned (.tuple #[.pointer (some ⟨c, 0, none⟩), fv, .int .i64 0]) ∧ FilAt w' 16 fv (tJ s) ∧ FilS w w' fv (tJ s)))
set_option maxHeartbeats 4000000 in
set_option maxRecDepth 100000 in
theorem readF_bad {Tb:World→Prop} (hD:DecSaid Tb) (hN:IntSaid Tb) (hL:Lies Tb) (p:Nat) (D:DataW Unit) (x s:ByteArray) (w:World) (hs:s.size≤140737488355328) (hT:Tb w) (h0:eJ s≠0) (fn:Value) :
  Calls Tryz.prog 54 #[.pointer (some ⟨p,0,none⟩),.string x,.string s,fn] w (ReadPost w x s D):=by
 have HP:=hid (parse_u hD hN hL s w hs hT)
 have H0:=hid h0
 have ez:(eJ s==0)=false:=by simpa using h0
 clear hT hD hN hL h0
 go_enter Tryz.func54,Tryz.ntmps54
 go_wp2_with fail
 refine HP.out.mono ?_
 rintro e w1 ⟨b1,es,A,B,C,D',rfl,hF,hS,h1,h2⟩
 have HB:=hid (b1.alloc b1.size (.cells #[.int .i64 (kindOf (tJ s)),.int .i64 (nOf (tJ s)),.string (sOf (tJ s)),.slice A (nL (tJ s)) B,.slice C (nK (tJ s)) D'] 36))
 clear b1 hF hS h1 h2 HP
 go_wp2_with fail
 refine bodyPost_ret (v:=.tuple #[.pointer none,.slice none 0 0,.int .i64 (eJ s)]) (by simp [results,Tryz.results54,go_sem, *]) rfl ?_
 exact ⟨HB.out,.inl ⟨H0.out,rfl⟩⟩
theorem parse_ok {Tb:World→Prop} (hD:DecSaid Tb) (hN:IntSaid Tb) (hL:Lies Tb) (s:ByteArray) (w:World) (hs:s.size≤140737488355328) (hT:Tb w) (h0:eJ s=0) :
  Calls Tryz.prog 14 #[.string s] w fun e w'=>Below w.heap.size w w'∧∃ A B C D',e=.returned (.tuple #[.agg #[.int .i64 (kindOf (tJ s)),.int .i64 (nOf (tJ s)),.string (sOf (tJ s)),.slice A (nL (tJ s)) B,.slice C (nK (tJ s)) D'],.int .i64 0])∧At w' 13 (.agg #[.int .i64 (kindOf (tJ s)),.int .i64 (nOf (tJ s)),.string (sOf (tJ s)),.slice A (nL (tJ s)) B,.slice C (nK (tJ s)) D']) (tJ s):=by
 refine (parse_u hD hN hL s w hs hT).mono ?_
 rintro e w1 ⟨b1,es,A,B,C,D',rfl,hF,hS,h1,h2⟩
 exact ⟨b1,A,B,C,D',by rw [h0],hF.at⟩
set_option maxHeartbeats 4000000 in
set_option maxRecDepth 100000 in
theorem readF_ok {Tb:World→Prop} (hD:DecSaid Tb) (hN:IntSaid Tb) (hSp:SplitSaid Tb) (hL:Lies Tb) (p m n:Nat) (D:DataW Unit) (x s:ByteArray) (w:World) (hs:s.size≤140737488355328) (hx:x.size≤140737488355328) (hst:StoAt w p m n D) (hT:Tb w) (h0:eJ s=0) :
  Calls Tryz.prog 54 #[.pointer (some ⟨p,0,none⟩),.string x,.string s,.func (Fn.func 55) #[] #[]] w (ReadPost w x s D):=by
 have HP:=hid (parseP_ok hD hN hL s w hs hT h0)
 have H0:=hid h0
 have HK:=hid (parsed_okA h0)
 have HSt:=hid hst
 have HT:Hid (∀ w':World,Below w.heap.size w w'→Tb w'):=fun w' hb=>hL w hT w w' hT hb
 have HF:Hid (∀ (v:Value) (w0:Org) (w1:World),At0 w0 13 v (tJ s)→Below w0.w.heap.size w0.w w1→Tb w1→Calls Tryz.prog 55 #[v] w1 (FilPost w0 (tJ s) w1)):=fun v w0 w1 ha hb ht=>fParse_any hSp hL w0 13 v (tJ s) w1 (by omega) ha HK.out hb ht
 clear hT hD hN hL h0 hst hSp
 go_enter Tryz.func54,Tryz.ntmps54
 go_wp2_with fail
 refine HP.out.mono ?_
 rintro e w1 ⟨b1,A,B,C,D',rfl,ha⟩
 have HBa:Hid (Below w1.heap.size w1 (w1.alloc (.cells #[.int .i64 (kindOf (tJ s)),.int .i64 (nOf (tJ s)),.string (sOf (tJ s)),.slice A (nL (tJ s)) B,.slice C (nK (tJ s)) D'] 36))):=(Below.refl _ _).alloc (Nat.le_refl _) _
 have HB2:=hid (b1.trans (HBa.out.mono b1.size))
 have HC:=hid (HF.out _ ⟨w1,newB w w1⟩ _ ha HBa.out (HT.out _ HB2.out))
 have Hb1:=hid b1
 clear b1 ha HP
 go_wp2_with fail
 refine HC.out.mono ?_
 rintro e w3 ⟨b3,⟨hok,fv,rfl,hr⟩ | ⟨hok,rfl⟩⟩
 ·have HB3:=hid (HB2.out.trans (b3.mono HB2.out.size))
  have HFs:=hid (fil_stay hr Hb1.out HBa.out b3)
  have HFl:=hid (HFs.out w3 (Nat.le_refl _) fun _ _ _=>rfl)
  have HO:=hid hok
  have HS3:=hid (HSt.out.keep HB3.out)
  have c0:=HS3.out.cell
  clear b3 hr hok HC HBa HB2 HSt HF HT
  rcases HS3.out.look x hx with ⟨hrun,hat⟩ | ⟨c,hrun,hat⟩
  ·have HAt:=hid hat
   clear hat
   go_wp2_with fail
   refine bodyPost_ret (v:=.tuple #[.pointer none,.slice none 0 0,.int .i64 10]) (by simp [results,Tryz.results54,go_sem, *]) rfl ?_
   exact ⟨HB3.out,.inr (.inr (.inl ⟨H0.out,HO.out,HAt.out,rfl⟩))⟩
  ·have HAt:=hid hat
   clear hat
   go_wp2_with fail
   refine bodyPost_ret (v:=.tuple #[.pointer (some ⟨c,0,none⟩),fv,.int .i64 0]) (by simp [results,Tryz.results54,go_sem, *]) rfl ?_
   exact ⟨HB3.out,.inr (.inr (.inr ⟨H0.out,HO.out,c,HAt.out,fv,rfl,HFl.out,HFs.out⟩))⟩
 ·have HB3:=hid (HB2.out.trans (b3.mono HB2.out.size))
  have HO:=hid hok
  clear b3 hok HC HBa HB2 HSt HF HT
  go_wp2_with fail
  refine bodyPost_ret (v:=.tuple #[.pointer none,.slice none 0 0,.int .i64 8]) (by simp [results,Tryz.results54,go_sem, *]) rfl ?_
  exact ⟨HB3.out,.inr (.inl ⟨H0.out,HO.out,rfl⟩)⟩
theorem readF_any {Tb:World→Prop} (hD:DecSaid Tb) (hN:IntSaid Tb) (hSp:SplitSaid Tb) (hL:Lies Tb) (p m n:Nat) (D:DataW Unit) (x s:ByteArray) (w:World) (hs:s.size≤140737488355328) (hx:x.size≤140737488355328) (hst:StoAt w p m n D) (hT:Tb w) :
  Calls Tryz.prog 54 #[.pointer (some ⟨p,0,none⟩),.string x,.string s,.func (Fn.func 55) #[] #[]] w (ReadPost w x s D):=by
 by_cases h0:eJ s=0
 ·exact readF_ok hD hN hSp hL p m n D x s w hs hx hst hT h0
 ·exact readF_bad hD hN hL p D x s w hs hT h0 _
set_option maxHeartbeats 4000000 in
set_option maxRecDepth 100000 in
theorem search_any {Tb:World→Prop} (hD:DecSaid Tb) (hN:IntSaid Tb) (hSp:SplitSaid Tb) (hL:Lies Tb) (p m n:Nat) (D:DataW Unit) (x s:ByteArray) (w:World) (hs:s.size≤140737488355328) (hx:x.size≤140737488355328) (hst:StoAt w p m n D) (hT:Tb w) :
  Calls Tryz.prog 33 #[.pointer (some ⟨p,0,none⟩),.string x,.string s] w (ReadPost w x s D):=by
 have HC:=hid (readF_any hD hN hSp hL p m n D x s w hs hx hst hT)
 clear hD hN hSp hL hst hT hs hx
 go_enter Tryz.func33,Tryz.ntmps33
 go_wp2_with fail
 refine HC.out.mono ?_
 rintro e w1 ⟨b1,⟨h1,rfl⟩ | ⟨h1,h2,rfl⟩ | ⟨h1,h2,h3,rfl⟩ | ⟨h1,h2,c,h3,fv,rfl,h4⟩⟩
 ·have HB:=hid b1
  have H1:=hid h1
  clear b1 h1 HC
  go_wp2_with fail
  refine bodyPost_ret (v:=.tuple #[.pointer none,.slice none 0 0,.int .i64 (eJ s)]) (by simp [results,Tryz.results33,go_sem, *]) rfl ?_
  exact ⟨HB.out,.inl ⟨H1.out,rfl⟩⟩
 ·have HB:=hid b1
  have H1:=hid (And.intro h1 h2)
  clear b1 h1 h2 HC
  go_wp2_with fail
  refine bodyPost_ret (v:=.tuple #[.pointer none,.slice none 0 0,.int .i64 8]) (by simp [results,Tryz.results33,go_sem, *]) rfl ?_
  exact ⟨HB.out,.inr (.inl ⟨H1.out.1,H1.out.2,rfl⟩)⟩
 ·have HB:=hid b1
  have H1:=hid (And.intro h1 (And.intro h2 h3))
  clear b1 h1 h2 h3 HC
  go_wp2_with fail
  refine bodyPost_ret (v:=.tuple #[.pointer none,.slice none 0 0,.int .i64 10]) (by simp [results,Tryz.results33,go_sem, *]) rfl ?_
  exact ⟨HB.out,.inr (.inr (.inl ⟨H1.out.1,H1.out.2.1,H1.out.2.2,rfl⟩))⟩
 ·have HB:=hid b1
  have H1:=hid (And.intro h1 (And.intro h2 (And.intro h3 h4)))
  clear b1 h1 h2 h3 h4 HC
  go_wp2_with fail
  refine bodyPost_ret (v:=.tuple #[.pointer (some ⟨c,0,none⟩),fv,.int .i64 0]) (by simp [results,Tryz.results33,go_sem, *]) rfl ?_
  exact ⟨HB.out,.inr (.inr (.inr ⟨H1.out.1,H1.out.2.1,c,H1.out.2.2.1,fv,rfl,H1.out.2.2.2⟩))⟩
end Go.Proofs.YtknakfpciccoaabGreatDoor
/- The walk of Find. -/
namespace Go.Proofs.YtknakfpciccoaabGreatDoor
open Go.RowKit Go.Maps Go.WideMaps
theorem prL_mk (k n:Int) (s:ByteArray) (l:List T) (ks:List ByteArray):∀ j,j≤l.length→prL (mkT k n s l ks) j=(l.take j).map fun t=>.string (prT t)
 | 0,_=>rfl
 | j+1,h=>by
  have e:elt (mkT k n s l ks) j=l[j]:=by rw [elt_mk,List.getD_eq_getElem?_getD,List.getElem?_eq_getElem h];rfl
  rw [prL,prL_mk k n s l ks j (by omega),e,List.take_add_one,List.getElem?_eq_getElem h]
  simp only [Option.toList_some,List.map_append,List.map_cons,List.map_nil]
def CollAt (w:World) (c f:Nat) (d:T):Prop:=∃ La Lc,w.cell? ⟨c,0,none⟩=some (.slice La (nL d) Lc)∧c<w.heap.size∧ElemsAt w f La d
theorem CollAt.keep {w w':World} {c f:Nat} {d:T} (h:CollAt w c f d) (hb:Below w.heap.size w w'):CollAt w' c f d:=by
 obtain ⟨La,Lc,h1,h2,h3⟩:=h
 exact ⟨La,Lc,(hb.cell (p:=⟨c,0,none⟩) h2).trans h1,Nat.lt_of_lt_of_le h2 hb.size,h3.keep hb⟩
def fndL (s:ByteArray) (d:T):List T:=keepL (evF 16 (tJ s)) d (nL d)
def FindPost (w : World) (x s : ByteArray) (D : DataW Unit) (dof : Nat → T) (e : Ending) (w' : World) : Prop :=
  Below w.heap.size w w' ∧
  ((eJ s ≠ 0 ∧ e = .returned (.tuple #[.slice none 0 0, .int .i64 (eJ s)])) ∨
   (eJ s = 0 ∧ okFil 16 (tJ s) = false ∧ e = .returned (.tuple #[.slice none 0 0, .int .i64 8])) ∨
   (eJ s = 0 ∧ okFil 16 (tJ s) = true ∧ atK D x = .nil ∧ e = .returned (.tuple #[.slice none 0 0, .int .i64 10])) ∨
   (eJ s = 0 ∧ okFil 16 (tJ s) = true ∧ ∃ c : Nat, atK D x = .lit (.int .i64 c) ∧ ∃ sv, e = .returned (.tuple #[sv, .int .i64 0]) ∧ w'.ownsRow w.heap.size 9 1 sv (fndL s (dof c)).length ((fndL s (dof c)).map fun t => .string (prT t))))
structure StoreSaid (Tb:World→Prop):Prop where
 dec:DecSaid Tb
 int:IntSaid Tb
 split:SplitSaid Tb
 atoi:AtoiSaid Tb
 itoa:ItoaSaid Tb
 valid:ValidSaid Tb
 fmt:FmtSaid Tb
 lies:Lies Tb
theorem row_base {w:World} {lo lo':Nat} {e:TypeId} {s n:Nat} {v:Value} {xs:List Value} (h:w.ownsRow lo e s v n xs) (hl:lo'≤lo):w.ownsRow lo' e s v n xs:=by
 refine ⟨h.1,?_⟩
 rcases h.2 with hn | ⟨g,cap,cur,rfl,hb0,rest⟩
 ·exact .inl hn
 ·exact .inr ⟨g,cap,cur,rfl,Nat.le_trans hl hb0,rest⟩
set_option maxHeartbeats 4000000 in
set_option maxRecDepth 100000 in
theorem find_any {Tb:World→Prop} (hA:StoreSaid Tb) (p m n f:Nat) (D:DataW Unit) (dof:Nat→T) (x s:ByteArray) (w:World) (hs:s.size≤140737488355328) (hx:x.size≤140737488355328) (hst:StoAt w p m n D)
  (hc:∀ c:Nat,atK D x=.lit (.int .i64 c)→CollAt w c f (dof c)∧nL (dof c)≤1000000∧∀ i,i<nL (dof c)→okA (elt (dof c) i)) (hf:f≤16) (hT:Tb w) :
  Calls Tryz.prog 17 #[.pointer (some ⟨p,0,none⟩),.string x,.string s] w (FindPost w x s D dof):=by
 have HC:=hid (search_any hA.dec hA.int hA.split hA.lies p m n D x s w hs hx hst hT)
 have Hc:=hid hc
 have HT:Hid (∀ w':World,Below w.heap.size w w'→Tb w'):=fun w' hb=>hA.lies w hT w w' hT hb
 have HAm:Hid (∀ (fv':Value) (t d:T) (La:Option Addr) (Lc:Nat) (w:World),FilAt w 16 fv' t→ElemsAt w f La d→nL d≤1000000→(∀ i,i<nL d→okA (elt d i))→Tb w→Calls Tryz.prog 34 #[fv',.slice La (nL d) Lc] w fun e w'=>∃ hv xs,e=.returned hv∧Held w f hv (keepL (evF 16 t) d (nL d)) xs w'):=fun fv' t d La Lc w h1 h2 h3 h4 h5=>among_docs hA.lies 16 (fil_any hA.atoi hA.itoa hA.lies 16) fv' t d f La Lc w h1 h2 h3 hf h4 h5
 have HPr:Hid (∀ (d:T) (La:Option Addr) (Lc:Nat) (w:World),ElemsAt w f La d→nL d≤1000000→Tb w→Calls Tryz.prog 24 #[.slice La (nL d) Lc] w fun e w'=>Below w.heap.size w w'∧∃ sv,e=.returned sv∧w'.ownsRow w.heap.size 9 1 sv (nL d) (prL d (nL d))):=fun d La Lc w h1 h2 h3=>printed_docs hA.valid hA.fmt hA.lies d f La Lc w h1 h2 h3
 clear hst hT hs hx hc hA hf
 go_enter Tryz.func17,Tryz.ntmps17
 go_wp2_with fail
 refine HC.out.mono ?_
 rintro e w1 ⟨b1,⟨h1,rfl⟩ | ⟨h1,h2,rfl⟩ | ⟨h1,h2,h3,rfl⟩ | ⟨h1,h2,c,h3,fv,rfl,h4,_⟩⟩
 ·have HB:=hid b1
  have H1:=hid h1
  have ez:(eJ s==0)=false:=by simpa using h1
  clear b1 h1 HC
  go_wp2_with fail
  refine bodyPost_ret (v:=.tuple #[.slice none 0 0,.int .i64 (eJ s)]) (by simp [results,Tryz.results17,go_sem, *]) rfl ?_
  exact ⟨HB.out,.inl ⟨H1.out,rfl⟩⟩
 ·have HB:=hid b1
  have H1:=hid (And.intro h1 h2)
  clear b1 h1 h2 HC
  go_wp2_with fail
  refine bodyPost_ret (v:=.tuple #[.slice none 0 0,.int .i64 8]) (by simp [results,Tryz.results17,go_sem, *]) rfl ?_
  exact ⟨HB.out,.inr (.inl ⟨H1.out.1,H1.out.2,rfl⟩)⟩
 ·have HB:=hid b1
  have H1:=hid (And.intro h1 (And.intro h2 h3))
  clear b1 h1 h2 h3 HC
  go_wp2_with fail
  refine bodyPost_ret (v:=.tuple #[.slice none 0 0,.int .i64 10]) (by simp [results,Tryz.results17,go_sem, *]) rfl ?_
  exact ⟨HB.out,.inr (.inr (.inl ⟨H1.out.1,H1.out.2.1,H1.out.2.2,rfl⟩))⟩
 ·obtain ⟨hco,hn,hok⟩:=Hc.out c h3
  obtain ⟨La,Lc,q0,hcl,hel⟩:=hco.keep b1
  have HB:=hid b1
  have H1:=hid (And.intro h1 (And.intro h2 h3))
  have HM:=hid (HAm.out fv (tJ s) (dof c) La Lc w1 h4 hel hn hok (HT.out _ b1))
  have Hn:=hid hn
  clear b1 h1 h2 h3 h4 HC hco hel hok HAm hcl hn
  go_wp2_with fail
  refine HM.out.mono ?_
  rintro e w2 ⟨hv,xs,rfl,hh⟩
  obtain ⟨La2,Lc2,rfl,hel2⟩:=hh.elems
  have HB2:=hid (HB.out.trans (hh.low.mono HB.out.size))
  have HR:=hid (HPr.out _ La2 Lc2 w2 hel2 (by rw [nL_mk];exact Nat.le_trans (keepL_le _ _ _) Hn.out) (HT.out _ HB2.out))
  rw [nL_mk] at HR
  have HPl:Hid (prL (mkT 5 0 ByteArray.empty (keepL (evF 16 (tJ s)) (dof c) (nL (dof c))) []) (keepL (evF 16 (tJ s)) (dof c) (nL (dof c))).length=(fndL s (dof c)).map fun t=>.string (prT t)):=by
   show _=_
   rw [prL_mk _ _ _ _ _ _ (Nat.le_refl _),List.take_length]
   rfl
  rw [HPl.out] at HR
  clear hh hel2 HM HPr
  go_wp2_with fail
  refine HR.out.mono ?_
  rintro e w3 ⟨b3,sv,rfl,ho⟩
  have HB3:=hid (HB2.out.trans (b3.mono HB2.out.size))
  have HO:=hid (row_base ho HB2.out.size)
  clear b3 ho HR
  go_wp2_with fail
  refine bodyPost_ret (v:=.tuple #[sv,.int .i64 0]) (by simp [results,Tryz.results17,go_sem, *]) rfl ?_
  exact ⟨HB3.out,.inr (.inr (.inr ⟨H1.out.1,H1.out.2.1,c,H1.out.2.2,sv,rfl,HO.out⟩))⟩
end Go.Proofs.YtknakfpciccoaabGreatDoor
