import Derived.Test.YtknakfpciccoaaaGreatDoorZC17
import Derived.Test.YtknakfpciccoaaaGreatDoorZC5
import Derived.Lib.QuoteLoop
import Derived.Test.YtknakfpciccoaaaGreatDoorZC9
import Derived.Test.YtknakfpciccoaaaGreatDoorZC16
import Derived.Test.YtknakfpciccoaaaGreatDoorZC2
import Derived.Maps.OwnSet
/- Texts as values, pure: what is parsed is a value. -/
set_option maxHeartbeats 4000000
set_option maxRecDepth 100000
namespace Go.Proofs.YtknakfpciccoaaaGreatDoor
open Go.RowKit
theorem yD {a l:List UInt8} (h0:a≠[]) (hu:kE (bP (a++l))=a.length):Lib.validD (a++l)=Lib.validD l:=by
 have hne:a++l≠[]:=by simp [h0]
 have hp:0<a.length:=List.length_pos_iff.2 h0;have hd:=qh (bP (a++l));rw [bK] at hd;have h2:=nJ (bP (a++l));rw [<- hd,hu] at h2;rw [Lib.validD_step _ hne];split at h2
 ·omega
 ·rename_i h3;rw [if_neg h3,<- h2,List.drop_left]
theorem Nz {s:ByteArray} {n:Nat} {least c0 r:Int} (hs:n<=s.size) (hc:jJ s (n - 1)=true) (hr:AX s c0 (n - 1)=r) (hb:tO least r=false):rZ s n least c0=n:=by
 unfold rZ;rw [if_neg (by omega),hc,hr,hb];simp
theorem kN {x:Int} (h0:0<=x) (h1:x<256):((x.toNat.toUInt8).toNat:Int)=x:=by
 rw [Nat.toUInt8,UInt8.toNat_ofNat'];omega
theorem Kw {r:Int} (h0:0<=r) (h1:r<=1114111) (h2:r<55296\/57343<r) (l:List UInt8):kE (bP (Lib.encodeRune r++l))=(Lib.encodeRune r).length:=by
 by_cases c1:r<=127
 ·have e:Lib.encodeRune r=[r.toNat.toUInt8]:=by unfold Lib.encodeRune;rw [Lib.encodeRuneZ_one h0 c1];rfl
  have b0:=kN h0 (show r<256 by omega);rw [e];unfold kE;rw [kJ,if_pos (by simp only [List.cons_append,List.getD_cons_zero];omega)];rfl
 ·by_cases c2:r<=2047
  ·have e:Lib.encodeRune r=[(192+r / 64).toNat.toUInt8,(128+r % 64).toNat.toUInt8]:=by unfold Lib.encodeRune;rw [Lib.encodeRuneZ_two (by omega) c2];rfl
   have b0:=kN (x:=192+r / 64) (by omega) (by omega);have b1:=kN (x:=128+r % 64) (by omega) (by omega);rw [e];generalize (192+r / 64).toNat.toUInt8=x0 at *;generalize (128+r % 64).toNat.toUInt8=x1 at *;have t0:bt (bP ([x0,x1]++l)) 0=x0.toNat:=by rw [kJ];rfl
   have t1:bt (bP ([x0,x1]++l)) 1=x1.toNat:=by rw [kJ];rfl
   unfold kE;rw [t0,if_neg (by omega),if_pos (by omega)];refine Nz (r:=r) (by rw [fU];simp) ?_ ?_ ?_
   ·simp only [jJ,Bool.true_and];rw [t1,decide_eq_true (by omega),decide_eq_true (by omega)];rfl
   ·simp only [AX];rw [t1];omega
   ·unfold tO;simp;omega
  ·by_cases c3:r<=65535
   ·have e:Lib.encodeRune r=[(224+r / 4096).toNat.toUInt8,(128+r / 64 % 64).toNat.toUInt8,(128+r % 64).toNat.toUInt8]:=by unfold Lib.encodeRune;rw [Lib.encodeRuneZ_three (by omega)];rfl
    have b0:=kN (x:=224+r / 4096) (by omega) (by omega);have b1:=kN (x:=128+r / 64 % 64) (by omega) (by omega);have b2:=kN (x:=128+r % 64) (by omega) (by omega);rw [e];generalize (224+r / 4096).toNat.toUInt8=x0 at *;generalize (128+r / 64 % 64).toNat.toUInt8=x1 at *;generalize (128+r % 64).toNat.toUInt8=x2 at *;have t0:bt (bP ([x0,x1,x2]++l)) 0=x0.toNat:=by rw [kJ];rfl
    have t1:bt (bP ([x0,x1,x2]++l)) 1=x1.toNat:=by rw [kJ];rfl
    have t2:bt (bP ([x0,x1,x2]++l)) 2=x2.toNat:=by rw [kJ];rfl
    unfold kE;rw [t0,if_neg (by omega),if_neg (by omega),if_pos (by omega)];refine Nz (r:=r) (by rw [fU];simp) ?_ ?_ ?_
    ·simp only [jJ,Bool.true_and];rw [t1,t2,decide_eq_true (by omega),decide_eq_true (by omega),decide_eq_true (by omega),decide_eq_true (by omega)];rfl
    ·simp only [AX];rw [t1,t2];omega
    ·unfold tO;simp;omega
   ·have e:Lib.encodeRune r=[(240+r / 262144).toNat.toUInt8,(128+r / 4096 % 64).toNat.toUInt8,(128+r / 64 % 64).toNat.toUInt8,(128+r % 64).toNat.toUInt8]:=by unfold Lib.encodeRune;rw [Lib.encodeRuneZ_four (by omega) (by omega)];rfl
    have b0:=kN (x:=240+r / 262144) (by omega) (by omega);have b1:=kN (x:=128+r / 4096 % 64) (by omega) (by omega);have b2:=kN (x:=128+r / 64 % 64) (by omega) (by omega);have b3:=kN (x:=128+r % 64) (by omega) (by omega);rw [e];generalize (240+r / 262144).toNat.toUInt8=x0 at *;generalize (128+r / 4096 % 64).toNat.toUInt8=x1 at *;generalize (128+r / 64 % 64).toNat.toUInt8=x2 at *;generalize (128+r % 64).toNat.toUInt8=x3 at *;have t0:bt (bP ([x0,x1,x2,x3]++l)) 0=x0.toNat:=by rw [kJ];rfl
    have t1:bt (bP ([x0,x1,x2,x3]++l)) 1=x1.toNat:=by rw [kJ];rfl
    have t2:bt (bP ([x0,x1,x2,x3]++l)) 2=x2.toNat:=by rw [kJ];rfl
    have t3:bt (bP ([x0,x1,x2,x3]++l)) 3=x3.toNat:=by rw [kJ];rfl
    unfold kE;rw [t0,if_neg (by omega),if_neg (by omega),if_neg (by omega),if_pos (by omega)];refine Nz (r:=r) (by rw [fU];simp) ?_ ?_ ?_
    ·simp only [jJ,Bool.true_and];rw [t1,t2,t3,decide_eq_true (by omega),decide_eq_true (by omega),decide_eq_true (by omega),decide_eq_true (by omega),decide_eq_true (by omega),decide_eq_true (by omega)];rfl
    ·simp only [AX];rw [t1,t2,t3];omega
    ·unfold tO;simp;omega
theorem Qq (r:Int):Lib.encodeRune r≠[]:=by
 unfold Lib.encodeRune Lib.encodeRuneZ;split
 ·simp
 ·split
  ·simp
  ·split
   ·simp
   ·split<;>simp
theorem Sc (r:Int):(Lib.encodeRune r).length<=4:=by
 unfold Lib.encodeRune;rw [List.length_map];exact Lib.encodeRuneZ_length_le r
theorem Sd {r:Nat} (h:r<128):(Lib.encodeRune (r:Int)).length=1:=by
 unfold Lib.encodeRune;rw [List.length_map,Lib.encodeRuneZ_one (by omega) (by omega)];rfl
theorem VW {s:ByteArray} {i a r e:Nat} (ha:a<65536) (h:low s i a=some (r,e)):i<=e/\r<=1114111/\(r<55296\/57343<r):=by
 unfold low at h;split at h
 ·simp only [Option.some.injEq,Prod.mk.injEq] at h;omega
 ·split at h
  ·cases h
  ·split at h
   ·cases hh:rA s (i+2) with
    | none=>rw [hh] at h;cases h
    | some b =>
     rw [hh] at h;simp only [Option.bind_some] at h;split at h
     ·cases h
     ·simp only [Option.some.injEq,Prod.mk.injEq] at h;omega
   ·cases h
theorem VX {s:ByteArray} {i r e:Nat} (h:jW s i=some (r,e)):(∀ l,Lib.validD (Lib.encodeRune (r:Int)++l)=Lib.validD l)/\i+(Lib.encodeRune (r:Int)).length<=e:=by
 have esc:∀ c,c<128->i+2<=e->r=c->(∀ l,Lib.validD (Lib.encodeRune (r:Int)++l)=Lib.validD l)/\i+(Lib.encodeRune (r:Int)).length<=e:=by
  intro c hc he hr;subst hr;exact ⟨fun l=>yD (Qq _) (Kw (by omega) (by omega) (by omega) l),by rw [Sd hc];omega⟩
 by_cases PI:cB s i=92
 ·unfold jW at h;rw [if_pos PI] at h;unfold oH at h;split at h
  ·rename_i hh;simp only [Option.some.injEq,Prod.mk.injEq] at h;exact esc (cB s (i+1)) (by omega) (by omega) (by omega)
  ·split at h
   ·simp only [Option.some.injEq,Prod.mk.injEq] at h;exact esc 8 (by omega) (by omega) (by omega)
   ·split at h
    ·simp only [Option.some.injEq,Prod.mk.injEq] at h;exact esc 12 (by omega) (by omega) (by omega)
    ·split at h
     ·simp only [Option.some.injEq,Prod.mk.injEq] at h;exact esc 10 (by omega) (by omega) (by omega)
     ·split at h
      ·simp only [Option.some.injEq,Prod.mk.injEq] at h;exact esc 13 (by omega) (by omega) (by omega)
      ·split at h
       ·simp only [Option.some.injEq,Prod.mk.injEq] at h;exact esc 9 (by omega) (by omega) (by omega)
       ·split at h
        ·cases hx:rA s (i+1+1) with
         | none=>rw [hx] at h;cases h
         | some a =>
          rw [hx] at h;simp only [Option.bind_some] at h;have h1:=nN hx;have h2:=VW (by omega) h;have h3:=Sc (r:Int);exact ⟨fun l=>yD (Qq _) (Kw (by omega) (by omega) (by omega) l),by omega⟩
        ·cases h
 ·by_cases hi:i<s.size
  ·by_cases hb:cB s i<32\/kE (oG s i)=0
   ·rw [Uo hi PI hb] at h;cases h
   ·obtain ⟨r',h1,h2,h3⟩:=Eb hi PI (by omega) (by omega);rw [h1] at h;simp only [Option.some.injEq,Prod.mk.injEq] at h;obtain ⟨rfl,rfl⟩:=h
    have hl:(s.extract i (i+kE (oG s i))).data.toList.length=kE (oG s i):=by
     rw [kR,List.length_take,List.length_drop];have:s.data.toList.length=s.size:=rfl;omega
    rw [h2];refine ⟨fun l=>yD (by intro e;rw [e] at hl;simp at hl;omega) ?_,by omega⟩;rw [hl];refine EX (by omega) (by rw [fU,List.length_append,hl];omega) fun j hj=>?_;rw [Gc,kJ,tQ]
    congr 1
    simp only [List.getD_eq_getElem?_getD];rw [List.getElem?_append_left (by omega),kR,List.getElem?_take,if_pos hj,List.getElem?_drop]
  ·rw [Uq (by omega)] at h;cases h
theorem E9 {s:ByteArray}:∀ {n i:Nat} {l:List UInt8} {e:Nat},lJ s n i=some (l,e)->Lib.validD l=true/\i+l.length+1<=e
 | 0,i,l,e,h=>by cases h
 | n+1,i,l,e,h=>by
  rw [lJ] at h;split at h
  ·simp only [Option.some.injEq,Prod.mk.injEq] at h;obtain ⟨rfl,rfl⟩:=h;exact ⟨rfl,by simp⟩
  ·cases hl:jW s i with
   | none=>rw [hl] at h;cases h
   | some p =>
    rw [hl] at h;simp only [Option.bind_some] at h;cases ht:lJ s n p.2 with
    | none=>rw [ht] at h;cases h
    | some q =>
     rw [ht] at h;simp only [Option.map_some,Option.some.injEq,Prod.mk.injEq] at h;obtain ⟨rfl,rfl⟩:=h;obtain ⟨h1,h2⟩:=VX (r:=p.1) (e:=p.2) hl;obtain ⟨h3,h4⟩:=E9 (l:=q.1) (e:=q.2) ht;exact ⟨by rw [h1];exact h3,by rw [List.length_append];omega⟩
theorem Fa {s:ByteArray} {i:Nat} {x:ByteArray} {e:Nat} (h:jL s i=some (x,e)):Ah x=true/\i+x.size+2<=e:=by
 unfold jL at h;split at h
 ·cases ht:lJ s (s.size+1) (i+1) with
  | none=>rw [ht] at h;cases h
  | some q =>
   rw [ht] at h;simp only [Option.map_some,Option.some.injEq,Prod.mk.injEq] at h;obtain ⟨rfl,rfl⟩:=h;obtain ⟨h1,h2⟩:=E9 (l:=q.1) (e:=q.2) ht;refine ⟨by unfold Ah;rw [bK];exact h1,by rw [fU];omega⟩
 ·cases h
def zS:Nat->T->Prop
 | 0,t=>aW t
 | n+1,t=>aW t\/(av t=0/\bn t=true/\(∀ i,i<nL t->zS n (elt t i))/\((aj t=5/\nK t=0)\/(aj t=6/\nK t=nL t/\gy t (nK t)=true)))
theorem Sg {t:T} (n:Nat) (h:aW t):zS n t:=by
 cases n with
 | zero=>exact h
 | succ n=>exact .inl h
theorem kZ {t:T} (n:Nat) (h:aW t):aI n t=dG t:=by
 have k:=iD h;cases n with
 | zero=>rfl
 | succ n=>unfold aI;rw [if_neg k.1,if_neg k.2]
theorem Fb {t:T}:∀ k,k<=nK t->(∀ x ∈ jZ t,Ah x=true/\x.size<=4000)->gy t k=true
 | 0,_,_=>rfl
 | k+1,hk,h=>by
  have hm:bO t k ∈ jZ t:=by
   have hl:k<(jZ t).length:=hk;unfold bO;simp only [List.getD_eq_getElem?_getD,List.getElem?_eq_getElem hl,Option.getD_some];exact List.getElem_mem hl
  obtain ⟨h1,h2⟩:=h _ hm;rw [gy,Fb k (by omega) h,h1,decide_eq_true h2];rfl
theorem Ky {f:Nat->Option (T×Nat)} {s:ByteArray} {n:Nat} (hs:s.size<=4000) (hf:∀ i t e,i<=s.size->f i=some (t,e)->i<e/\e<=s.size) (hg:∀ i t e,i<=s.size->f i=some (t,e)->aI n t<=9*(e - i)/\zS n t) (o:Bool) :
  ∀ (m i:Nat) (r:(List ByteArray×List T)×Nat),i<=s.size->yX f s o m i=some r->(r.1.1.map fun k=>2+k.size).sum+(r.1.2.map (aI n)).sum<=9*(r.2 - i)/\(∀ x ∈ r.1.2,zS n x)/\(∀ x ∈ r.1.1,Ah x=true/\x.size<=4000)/\(o=true->r.1.1.length=r.1.2.length)/\(o=false->r.1.1=[])/\i<r.2/\r.2<=s.size
 | 0,i,r,_,h=>by cases h
 | m+1,i,r,hi,h=>by
  have kG:=Ao hf o (m+1) i r hi h;rw [yX] at h;cases hk:oI s o i with
  | none=>rw [hk] at h;cases h
  | some p =>
   rw [hk] at h;simp only [Option.bind_some] at h;have h1:=Ba hi hk
   have hkey:o=true->Ah p.1=true/\i+p.1.size+3<=p.2/\p.1.size<=4000:=by
    intro ho;subst ho;unfold oI at hk;simp only [if_true] at hk;cases ht:jL s (sk s i) with
    | none=>rw [ht] at hk;cases hk
    | some q =>
     rw [ht] at hk;simp only [Option.bind_some] at hk;split at hk
     ·simp only [Option.some.injEq] at hk;subst hk;have h2:=Fa (x:=q.1) (e:=q.2) ht;have h3:=jy s i;have h4:=jy s q.2;have h5:=h1.2.1;exact ⟨h2.1,by show i+q.1.size+3<=sk s q.2+1;omega,by show q.1.size<=4000;have:sk s q.2+1<=s.size:=h5;omega⟩
     ·cases hk
   cases hq:f p.2 with
   | none=>rw [hq] at h;cases h
   | some q =>
    rw [hq] at h;simp only [Option.bind_some] at h;have h2:=hf p.2 q.1 q.2 h1.2.1 hq;have h2g:=hg p.2 q.1 q.2 h1.2.1 hq;have h3:=jy s q.2;split at h
    ·rename_i hc;have h4:=d9 (s:=s) (i:=sk s q.2) (by omega);cases hr:yX f s o m (sk s q.2+1) with
     | none=>rw [hr] at h;cases h
     | some r' =>
      rw [hr] at h;simp only [Option.map_some,Option.some.injEq] at h;have h5:=Ky hs hf hg o m _ r' (by omega) hr;subst h;cases o with
      | false =>
       have h6:=h5.2.2.2.2.1 rfl;refine ⟨?_,?_,?_,(fun h=>by cases h),(fun _=>h6),kG⟩
       ·have:=h5.1;simp only [app,Bool.false_eq_true,if_false,List.map_cons,List.sum_cons];omega
       ·intro x hx;simp only [app,List.mem_cons] at hx;rcases hx with rfl | hx
        ·exact h2g.2
        ·exact h5.2.1 x hx
       ·intro x hx;simp only [app,Bool.false_eq_true,if_false] at hx;exact h5.2.2.1 x hx
      | true =>
       have h6:=h5.2.2.2.1 rfl;have h7:=hkey rfl;refine ⟨?_,?_,?_,(fun _=>by simp only [app,if_true,List.length_cons,h6]),(fun h=>by cases h),kG⟩
       ·have:=h5.1;simp only [app,if_true,List.map_cons,List.sum_cons];omega
       ·intro x hx;simp only [app,List.mem_cons] at hx;rcases hx with rfl | hx
        ·exact h2g.2
        ·exact h5.2.1 x hx
       ·intro x hx;simp only [app,if_true,List.mem_cons] at hx;rcases hx with rfl | hx
        ·exact ⟨h7.1,h7.2.2⟩
        ·exact h5.2.2.1 x hx
    ·split at h
     ·simp only [Option.some.injEq] at h;subst h;cases o with
      | false =>
       refine ⟨?_,?_,?_,(fun h=>by cases h),(fun _=>rfl),kG⟩
       ·simp only [app,Bool.false_eq_true,if_false,List.map_cons,List.map_nil,List.sum_cons,List.sum_nil];omega
       ·intro x hx;simp only [app,List.mem_singleton] at hx;subst hx;exact h2g.2
       ·intro x hx;simp [app] at hx
      | true =>
       have h7:=hkey rfl;refine ⟨?_,?_,?_,(fun _=>rfl),(fun h=>by cases h),kG⟩
       ·simp only [app,if_true,List.map_cons,List.map_nil,List.sum_cons,List.sum_nil];omega
       ·intro x hx;simp only [app,List.mem_singleton] at hx;subst hx;exact h2g.2
       ·intro x hx;simp only [app,if_true,List.mem_singleton] at hx;subst hx;exact ⟨h7.1,h7.2.2⟩
     ·cases h
theorem dP (k n:Int) (l:List T) (ks:List ByteArray):bn (aO k n ByteArray.empty l ks)=true:=by
 unfold bn;rw [gu,ByteArray.toList_eq];rfl
theorem Si {f:Nat->Option (T×Nat)} {s:ByteArray} {n:Nat} (hs:s.size<=4000) (hf:∀ i t e,i<=s.size->f i=some (t,e)->i<e/\e<=s.size) (hg:∀ i t e,i<=s.size->f i=some (t,e)->aI n t<=9*(e - i)/\zS n t) {j:Nat} {t:T} {e:Nat} (hj:j<=s.size) (h:bY f s j=some (t,e)):aI (n+1) t<=9*(e - j)/\zS (n+1) t:=by
 have kG:=xV hf hj h;have kV:aW t->dG t<=9*(e - j)->aI (n+1) t<=9*(e - j)/\zS (n+1) t:=fun h1 h2=>⟨by rw [kZ _ h1];exact h2,Sg _ h1⟩
 have Bb:∀ (o:Bool) (k:Int),k=(if o=true then 6 else 5)->cB s j<256->(jM f s o (j+1)).map (fun r=>(aO k 0 ByteArray.empty r.1.2 r.1.1,r.2))=some (t,e)->aI (n+1) t<=9*(e - j)/\zS (n+1) t:=by
  intro o k hk hc hh;have hj1:=d9 hc;have h3:=jy s (j+1);have h5:=lU (s:=s) (i:=j+1) (by omega);cases hb:jM f s o (j+1) with
  | none=>rw [hb] at hh;cases hh
  | some r =>
   rw [hb] at hh;simp only [Option.map_some,Option.some.injEq,Prod.mk.injEq] at hh;obtain ⟨rfl,rfl⟩:=hh
   have key:(r.1.1.map fun k=>2+k.size).sum+(r.1.2.map (aI n)).sum+5<=9*(r.2 - j)/\(∀ x ∈ r.1.2,zS n x)/\(∀ x ∈ r.1.1,Ah x=true/\x.size<=4000)/\(o=true->r.1.1.length=r.1.2.length)/\(o=false->r.1.1=[]):=by
    unfold jM at hb;split at hb
    ·simp only [Option.some.injEq] at hb;subst hb;refine ⟨?_,by simp,by simp,fun _=>rfl,fun _=>rfl⟩;simp only [List.map_nil,List.sum_nil];omega
    ·have:=Ky hs hf hg o _ _ r h5 hb;refine ⟨?_,this.2.1,this.2.2.1,this.2.2.2.1,this.2.2.2.2.1⟩;have h6:=this.1;have h7:=this.2.2.2.2.2.1;omega
   obtain ⟨k1,k2,k3,k4,k5⟩:=key;have e0:∀ k:Int,nL (aO k 0 ByteArray.empty r.1.2 r.1.1)=r.1.2.length:=fun k=>by unfold nL;rw [rV]
   have e1:∀ k:Int,nK (aO k 0 ByteArray.empty r.1.2 r.1.1)=r.1.1.length:=fun k=>by unfold nK;rw [qg]
   have hel:∀ k:Int,∀ i,i<nL (aO k 0 ByteArray.empty r.1.2 r.1.1)->zS n (elt (aO k 0 ByteArray.empty r.1.2 r.1.1) i):=fun k i hi=>k2 _ (Gj hi);cases o with
   | false =>
    simp only [Bool.false_eq_true,if_false] at hk;subst hk;refine ⟨?_,.inr ⟨rfl,dP _ _ _ _,hel 5,.inl ⟨rfl,?_⟩⟩⟩
    ·rw [D9 n 5 r.1.2 r.1.1 (.inl rfl) (fun _=>k5 rfl)];omega
    ·rw [e1,k5 rfl];rfl
   | true =>
    simp only [if_true] at hk;subst hk;refine ⟨?_,.inr ⟨rfl,dP _ _ _ _,hel 6,.inr ⟨rfl,?_,?_⟩⟩⟩
    ·rw [D9 n 6 r.1.2 r.1.1 (.inr rfl) (fun h=>by omega)];omega
    ·rw [e0,e1,k4 rfl]
    ·exact Fb _ (Nat.le_refl _) (by rw [qg];exact k3)
 unfold bY at h;split at h
 ·cases ht:jL s j with
  | none=>rw [ht] at h;cases h
  | some q =>
   rw [ht] at h;simp only [Option.map_some,Option.some.injEq,Prod.mk.injEq] at h;obtain ⟨rfl,rfl⟩:=h;have h2:=Fa (x:=q.1) (e:=q.2) ht;refine kV ⟨rfl,rfl,.inr (.inr (.inr ⟨rfl,rfl,?_,h2.1⟩))⟩ ?_
   ·show q.1.size<=4000;omega
   ·show (if (4:Int)=1 then 1 else if (4:Int)=2 then 2 else if (4:Int)=3 then 9 else 5+q.1.size)<=_;rw [if_neg (by omega),if_neg (by omega),if_neg (by omega)];omega
 ·split at h
  ·exact Bb false 5 rfl (by omega) h
  ·split at h
   ·exact Bb true 6 rfl (by omega) h
   ·split at h
    ·cases ht:rz s j with
     | none=>rw [ht] at h;cases h
     | some q =>
      rw [ht] at h;simp only [Option.map_some,Option.some.injEq,Prod.mk.injEq] at h;obtain ⟨rfl,rfl⟩:=h;refine kV ⟨rfl,rfl,.inr (.inr (.inl ⟨rfl,dP _ _ _ _⟩))⟩ ?_;show (if (3:Int)=1 then 1 else if (3:Int)=2 then 2 else if (3:Int)=3 then 9 else _)<=_;rw [if_neg (by omega),if_neg (by omega),if_pos rfl];omega
    ·split at h
     ·simp only [Option.some.injEq,Prod.mk.injEq] at h;obtain ⟨rfl,rfl⟩:=h;refine kV ⟨rfl,rfl,.inl ⟨rfl,rfl,dP _ _ _ _⟩⟩ ?_;show (if (1:Int)=1 then 1 else _)<=_;rw [if_pos rfl];omega
     ·split at h
      ·simp only [Option.some.injEq,Prod.mk.injEq] at h;obtain ⟨rfl,rfl⟩:=h;refine kV ⟨rfl,rfl,.inr (.inl ⟨rfl,.inr rfl,dP _ _ _ _⟩)⟩ ?_;show (if (2:Int)=1 then 1 else if (2:Int)=2 then 2 else _)<=_;rw [if_neg (by omega),if_pos rfl];omega
      ·split at h
       ·simp only [Option.some.injEq,Prod.mk.injEq] at h;obtain ⟨rfl,rfl⟩:=h;refine kV ⟨rfl,rfl,.inr (.inl ⟨rfl,.inl rfl,dP _ _ _ _⟩)⟩ ?_;show (if (2:Int)=1 then 1 else if (2:Int)=2 then 2 else _)<=_;rw [if_neg (by omega),if_pos rfl];omega
       ·cases h
theorem Fe {s:ByteArray} (hs:s.size<=4000):∀ (n i:Nat) (t:T) (e:Nat),i<=s.size->bZ s n i=some (t,e)->aI n t<=9*(e - i)/\zS n t
 | 0,_,_,_,_,h=>by cases h
 | n+1,i,t,e,hi,h=>by
  rw [bZ] at h;have:=Si hs (fun i t e=>jc n i t e) (fun i t e=>Fe hs n i t e) (lU hi) h;have h2:=jy s i;exact ⟨by omega,this.2⟩
theorem Fg:∀ (n n' m:Nat) (t:T),zS n t->n<=n'->dY n' t<=m->dU n' t=false->dD m t/\aI m t=aI n t
 | 0,n',m,t,h,_,_,_=>⟨by cases m<;>first | exact h | exact .inl h,by rw [kZ _ h,kZ _ h]⟩
 | n+1,n',m,t,h,hn,hd,hw=>by
  rcases h with h | ⟨h1,h2,he,hk⟩
  ·exact ⟨by cases m<;>first | exact h | exact .inl h,by rw [kZ _ h,kZ _ h]⟩
  ·obtain ⟨n',rfl⟩:∃ x,n'=x+1:=⟨n' - 1,by omega⟩;have hbx:gL t=true:=by unfold gL;rcases hk with ⟨hk,_⟩ | ⟨hk,_⟩<;>simp [hk]
   rw [dY,if_pos hbx] at hd;obtain ⟨m,rfl⟩:∃ x,m=x+1:=⟨m - 1,by omega⟩;simp only [dU,Bool.or_eq_false_iff] at hw
   have hi:∀ i,i<nL t->dD m (elt t i)/\aI m (elt t i)=aI n (elt t i):=fun i hi=>by
    refine Fg n n' m _ (he i hi) (by omega) ?_ ?_
    ·have:=xX (g:=dY n') (t:=t) (i:=i) hi;omega
    ·cases ht:dU n' (elt t i) with
     | false=>rfl
     | true=>have:=Ag (f:=dU n') (t:=t) hi ht;rw [hw.2] at this;cases this
   have hsum:∀ k,k<=nL t->fG (aI m) t k=fG (aI n) t k:=by
    intro k
    induction k with
    | zero=>intro _;rfl
    | succ k ih=>intro hk;rw [fG,fG,ih (by omega),(hi k (by omega)).2]
   refine ⟨.inr ⟨h1,h2,fun i h=>(hi i h).1,?_⟩,?_⟩
   ·rcases hk with hk | ⟨k1,k2,k3⟩
    ·exact .inl hk
    ·exact .inr ⟨k1,k2,k3,hw.1⟩
   ·unfold aI;rw [hsum _ (Nat.le_refl _)]
theorem NC {s:ByteArray} (h:eJ s=0):Di (tJ s)=true:=by
 obtain ⟨hs,j,hv,_,hd,hw⟩:=PU h;have h1:=Fe hs _ 0 _ _ (Nat.zero_le _) hv;have h2:=jc _ 0 _ _ (Nat.zero_le _) hv;have h3:=Fg _ _ 12 _ h1.2 (Nat.le_refl _) hd hw;exact (nI _).2 ⟨h3.1,by rw [h3.2];omega⟩
def ae4 (s:ByteArray) (w:World) (e:Ending) (w':World):Prop :=
 Below w.heap.size w w'/\∃ es A B C D,e=.returned (.tuple #[.agg #[.int .i64 (aj (tJ s)),.int .i64 (av (tJ s)),.string (ay (tJ s)),.slice A (nL (tJ s)) B,.slice C (nK (tJ s)) D],.int .i64 (eJ s)]) /\
  gZ w' 13 (.agg #[.int .i64 (aj (tJ s)),.int .i64 (av (tJ s)),.string (ay (tJ s)),.slice A (nL (tJ s)) B,.slice C (nK (tJ s)) D]) (tJ s) es/\ql w.heap.size w' es/\es.length<=1048576/\∀ x ∈ es,x.n<=1048576/\x.m<=1048576
theorem ae5 {s:ByteArray} {w:World} {e:Ending} {w':World} (h:Eu s w e w'):ae4 s w e w':=by
 obtain ⟨hb,⟨t,es,A,B,C,D,⟨h0,rfl⟩,rfl,hF,hS⟩ | ⟨h0,rfl⟩⟩:=h
 ·have hc:=abx h0 13;have hf:=Uz hF hc.2;refine ⟨hb,es,A,B,C,D,by rw [h0];rfl,hF,hS,by omega,fun x hx=>?_⟩;have:=hf.2 x hx;omega
 ·have e1:tJ s=dh 0 0 ByteArray.empty:=by unfold tJ;rw [if_neg h0]
  refine ⟨hb,_,none,0,none,0,?_,?_,Js _ _,by simp,fun x hx=>?_⟩
  ·rw [e1];rfl
  ·rw [e1];exact Ee w' 12 0 0 ByteArray.empty (by omega) (by omega) (by omega) (by omega) (by simp)
  ·simp only [List.mem_singleton] at hx;subst hx;exact ⟨Nat.zero_le _,Nat.zero_le _⟩
theorem Ay {Tb:World->Prop} (hD:cu Tb) (hN:dK Tb) (hL:aV Tb) (s:ByteArray) (w:World) (hs:s.size<=140737488355328) (hT:Tb w):Calls Tryz.prog 22 #[.string s] w (ae4 s w) :=
 (Ry hD hN hL s w hs hT).mono fun _ _ h=>ae5 h
end Go.Proofs.YtknakfpciccoaaaGreatDoor
/- The store's map of collections; read, search, Find. -/
namespace Go.Proofs.YtknakfpciccoaaaGreatDoor
open Go.RowKit Go.Maps Go.WideMaps
def Zc:Value->Option (DataW Unit×List MemPlace)
 | .pointer none=>some (.nil,[])
 | .pointer (some ⟨b,0,none⟩)=>some (.lit (.int .i64 b),[])
 | _=>none
theorem VY {v:Value} {z:DataW Unit×List MemPlace} (h:Zc v=some z):(v=.pointer none/\z.1=.nil)\/∃ c:Nat,v=.pointer (some ⟨c,0,none⟩)/\z.1=.lit (.int .i64 c):=by
 unfold Zc at h;split at h
 ·cases h;exact .inl ⟨rfl,rfl⟩
 ·cases h;exact .inr ⟨_,rfl,rfl⟩
 ·cases h
def qZ (D:DataW Unit) (x:ByteArray):DataW Unit:=D.atKey (.string x.data.toList) .nil
theorem ae6 (w:World):(zeroValue 90).run Tryz.prog w=.ok (.pointer none) w:=by kernel_rfl
structure jg (w:World) (p m n:Nat) (D:DataW Unit):Prop where
 cell:w.cell? ⟨p,0,none⟩=some (.map (some m))
 low:p<w.heap.size
 own:w.ownsMap Tryz.prog 9 Zc m n D
theorem jg.keep {w w':World} {p m n:Nat} {D:DataW Unit} (h:jg w p m n D) (hb:Below w.heap.size w w'):jg w' p m n D:=by
 have hlt:=h.own.lt;obtain ⟨es,clock,hm,F,hs,hD⟩:=h.own;exact ⟨(hb.cell (p:=⟨p,0,none⟩) h.low).trans h.cell,Nat.lt_of_lt_of_le h.low hb.size,es,clock,(hb.block m hlt).trans hm,F,hs,hD⟩
theorem jg.look {w:World} {p m n:Nat} {D:DataW Unit} (h:jg w p m n D) (x:ByteArray) (hx:x.size<=140737488355328) :
  ((Instr.lookup 100 (.map (some m)) (.string x) false).run Tryz.prog w=.ok (.pointer none) w/\qZ D x=.nil) \/
  ∃ c:Nat,(Instr.lookup 100 (.map (some m)) (.string x) false).run Tryz.prog w=.ok (.pointer (some ⟨c,0,none⟩)) w/\qZ D x=.lit (.int .i64 c):=by
 obtain ⟨v,ps,hrun,hv⟩:=h.own.lookup (z:=.pointer none) (zd:=.nil) (zp:=[]) YF Tryz.underlying100 (ae6 w) rfl (keyOf_string_mk Tryz.underlying9 (s:=x) (by unfold maxLen;omega));rcases VY hv with ⟨rfl,e⟩ | ⟨c,rfl,e⟩
 ·exact .inl ⟨hrun,e⟩
 ·exact .inr ⟨c,hrun,e⟩
theorem mM {s:ByteArray} (h:eJ s=0):bM (tJ s):=by
 have h1:=(nI _).1 (NC h);exact wP h1.1 (by have:=h1.2;omega)
theorem gZ.atP {p:Nat->Prop} {w:World}:∀ {f:Nat} {v:Value} {t:T} {es:List kS},(∀ b ∈ rC es,p b)->gZ w f v t es->qc p w f v t:=by
 intro f
 induction f with
 | zero=>intro v t es _ h;exact h
 | succ f ih =>
  rintro v t es hp ⟨Lv,Kv,xs,sub,rfl,hf,hl,hk,hc,hn,rfl⟩;have hx:∀ b,b ∈ xW ⟨Lv,nL t,Kv,nK t⟩->p b:=fun b h=>hp b (by rw [aU,gY];simp [h]);obtain ⟨A,c,rfl⟩:=fq hl;obtain ⟨C,d,rfl⟩:=fq hk;refine ⟨A,C,c,d,rfl,hf,fun i hi=>?_,fun i hi=>?_⟩
  ·obtain ⟨g,cap,e,hg,_,_,hcell,_⟩:=wJ hl (by omega);cases e;refine ⟨g,0,_,_,_,_,_,rfl,⟨hg,hx g (by simp [xW,Value.ownBlock])⟩,?_,?_,?_,?_,?_,ih (fun b h=>hp b (by rw [aU];exact List.mem_append_left _ (pE hi h))) (hc i hi)⟩
   ·rw [Nat.zero_add];exact hcell _ (by omega)
   ·rw [Nat.zero_add];exact hcell _ (by omega)
   ·rw [Nat.zero_add];exact hcell _ (by omega)
   ·rw [Nat.zero_add];exact hcell _ (by omega)
   ·rw [Nat.zero_add];exact hcell _ (by omega)
  ·obtain ⟨g,cap,e,hg,_,_,hcell,_⟩:=wJ hk (by omega);cases e;refine ⟨g,0,rfl,⟨hg,hx g (by simp [xW,Value.ownBlock])⟩,hn i hi,?_⟩;rw [Nat.zero_add,hcell i (by omega)];have hi':i<(jZ t).length:=hi;simp [cx,gB,bO,List.getD_eq_getElem?_getD,hi']
theorem Fh {Tb:World->Prop} (hD:cu Tb) (hN:dK Tb) (hL:aV Tb) (s:ByteArray) (w:World) (hs:s.size<=140737488355328) (hT:Tb w) (h0:eJ s=0) :
  Calls Tryz.prog 22 #[.string s] w fun e w'=>Below w.heap.size w w'/\∃ A B C D,e=.returned (.tuple #[.agg #[.int .i64 (aj (tJ s)),.int .i64 (av (tJ s)),.string (ay (tJ s)),.slice A (nL (tJ s)) B,.slice C (nK (tJ s)) D],.int .i64 0])/\qc (aS w w') w' 13 (.agg #[.int .i64 (aj (tJ s)),.int .i64 (av (tJ s)),.string (ay (tJ s)),.slice A (nL (tJ s)) B,.slice C (nK (tJ s)) D]) (tJ s):=by
 refine (Ay hD hN hL s w hs hT).mono ?_;rintro e w1 ⟨b1,es,A,B,C,D,rfl,hF,hS,h1,h2⟩;exact ⟨b1,A,B,C,D,by rw [h0],gZ.atP hS.lies hF⟩
def ae7 (w w':World) (fv:Value) (t:T):Prop:=∀ w2:World,w'.heap.size<=w2.heap.size->(∀ b,w.heap.size<=b->b<w'.heap.size->w2.heap[b]?=w'.heap[b]?)->eu w2 16 fv t
theorem VZ {w w1 wA w3:World} {fv:Value} {t:T} (hr:iy ⟨w1,aS w w1⟩ w3 (aS wA w3) 16 fv t) (b1:Below w.heap.size w w1) (bA:Below w1.heap.size w1 wA) (b3:Below wA.heap.size wA w3):ae7 w w3 fv t:=by
 intro w2 hs hb;have s1:=b1.size;have sA:=bA.size;have s3:=b3.size;have h1:iy ⟨w1,aS w w1⟩ w2 (aS wA w3) 16 fv t:=iy.move (w0:=⟨w1,aS w w1⟩) (fun b h=>⟨hb b (by have:=h.1;omega) h.2,h⟩) 16 _ _ hr;refine iy.at (w0:=⟨w1,aS w w1⟩) (fun b h=>Nat.lt_of_lt_of_le h.2 hs) (fun f v u ha=>?_) 16 _ _ h1;have h2:qc (aS w w1) w1 f v u:=ha;exact (h2.move (q:=fun _=>True) (by omega) fun b h p=>⟨trivial,(hb b p.1 (by omega)).trans ((b3.block b (by omega)).trans (bA.block b h))⟩).at
def xq (w : World) (x s : ByteArray) (D : DataW Unit) (e : Ending) (w' : World) : Prop :=
  Below w.heap.size w w' /\
  ((eJ s ≠ 0 /\ e = .returned (.tuple #[.pointer none, .slice none 0 0, .int .i64 (eJ s)])) \/
   (eJ s = 0 /\ bE 16 (tJ s) = false /\ e = .returned (.tuple #[.pointer none, .slice none 0 0, .int .i64 8])) \/
   (eJ s = 0 /\ bE 16 (tJ s) = true /\ qZ D x = .nil /\ e = .returned (.tuple #[.pointer none, .slice none 0 0, .int .i64 10])) \/
   (eJ s = 0 /\ bE 16 (tJ s) = true /\ ∃ c : Nat, qZ D x = .lit (.int .i64 c) /\ ∃ fv, e = .returned (.tuple #[.pointer (some ⟨c, 0, none⟩), fv, .int .i64 0]) /\ eu w' 16 fv (tJ s) /\ ae7 w w' fv (tJ s)))
theorem Sj {Tb:World->Prop} (hD:cu Tb) (hN:dK Tb) (hL:aV Tb) (p:Nat) (D:DataW Unit) (x s:ByteArray) (w:World) (hs:s.size<=140737488355328) (hT:Tb w) (h0:eJ s≠0) (fn:Value) :
  Calls Tryz.prog 109 #[.pointer (some ⟨p,0,none⟩),.string x,.string s,fn] w (xq w x s D):=by
 have HP:=ak (Ay hD hN hL s w hs hT);have H0:=ak h0;have ez:(eJ s==0)=false:=by simpa using h0
 clear hT hD hN hL h0;go_in;go_wp2_with fail;refine HP.out.mono ?_;rintro e w1 ⟨b1,es,A,B,C,D',rfl,hF,hS,h1,h2⟩;have HB:=ak (b1.alloc b1.size (vC (tJ s) A B C D'));clear b1 hF hS h1 h2 HP;go_wp2_with fail;refine bodyPost_ret (v:=.tuple #[.pointer none,.slice none 0 0,.int .i64 (eJ s)]) (by simp [results,Tryz.results109,go_sem, *]) rfl ?_;exact ⟨HB.out,.inl ⟨H0.out,rfl⟩⟩
theorem V3 {Tb:World->Prop} (hD:cu Tb) (hN:dK Tb) (hL:aV Tb) (s:ByteArray) (w:World) (hs:s.size<=140737488355328) (hT:Tb w) (h0:eJ s=0) :
  Calls Tryz.prog 22 #[.string s] w fun e w'=>Below w.heap.size w w'/\∃ A B C D',e=.returned (.tuple #[.agg #[.int .i64 (aj (tJ s)),.int .i64 (av (tJ s)),.string (ay (tJ s)),.slice A (nL (tJ s)) B,.slice C (nK (tJ s)) D'],.int .i64 0])/\At w' 13 (.agg #[.int .i64 (aj (tJ s)),.int .i64 (av (tJ s)),.string (ay (tJ s)),.slice A (nL (tJ s)) B,.slice C (nK (tJ s)) D']) (tJ s):=by
 refine (Ay hD hN hL s w hs hT).mono ?_;rintro e w1 ⟨b1,es,A,B,C,D',rfl,hF,hS,h1,h2⟩;exact ⟨b1,A,B,C,D',by rw [h0],hF.at⟩
theorem V4 {Tb:World->Prop} (hD:cu Tb) (hN:dK Tb) (hSp:cK Tb) (hL:aV Tb) (p m n:Nat) (D:DataW Unit) (x s:ByteArray) (w:World) (hs:s.size<=140737488355328) (hx:x.size<=140737488355328) (hst:jg w p m n D) (hT:Tb w) (h0:eJ s=0) :
  Calls Tryz.prog 109 #[.pointer (some ⟨p,0,none⟩),.string x,.string s,.func (Fn.func 110) #[] #[]] w (xq w x s D):=by
 have HP:=ak (Fh hD hN hL s w hs hT h0);have H0:=ak h0;have HK:=ak (mM h0);have vM:=ak hst;have HT:Hid (∀ w':World,Below w.heap.size w w'->Tb w'):=fun w' hb=>hL w hT w w' hT hb;have HF:Hid (∀ (v:Value) (w0:lG) (w1:World),yt w0 13 v (tJ s)->Below w0.w.heap.size w0.w w1->Tb w1->Calls Tryz.prog 110 #[v] w1 (Qi w0 (tJ s) w1)):=fun v w0 w1 ha hb ht=>vK hSp hL w0 13 v (tJ s) w1 (by omega) ha HK.out hb ht;clear hT hD hN hL h0 hst hSp;go_in;go_wp2_with fail;refine HP.out.mono ?_;rintro e w1 ⟨b1,A,B,C,D',rfl,ha⟩;have fT:=ak (aY w1 (vC (tJ s) A B C D'));have HB2:=ak (b1.trans (fT.out.mono b1.size));have HC:=ak (HF.out _ ⟨w1,aS w w1⟩ _ ha fT.out (HT.out _ HB2.out));have Hb1:=ak b1;clear b1 ha HP;go_wp2_with fail;refine HC.out.mono ?_;rintro e w3 ⟨b3,⟨hok,fv,rfl,hr⟩ | ⟨hok,rfl⟩⟩
 ·have HB3:=ak (HB2.out.trans (b3.mono HB2.out.size));have HFs:=ak (VZ hr Hb1.out fT.out b3);have RQ:=ak (HFs.out w3 (Nat.le_refl _) fun _ _ _=>rfl);have HO:=ak hok;have Et:=ak (vM.out.keep HB3.out);have c0:=Et.out.cell;clear b3 hr hok HC fT HB2 vM HF HT;rcases Et.out.look x hx with ⟨hrun,hat⟩ | ⟨c,hrun,hat⟩
  ·have oM:=ak hat;clear hat;go_wp2_with fail;refine bodyPost_ret (v:=.tuple #[.pointer none,.slice none 0 0,.int .i64 10]) (by simp [results,Tryz.results109,go_sem, *]) rfl ?_;exact ⟨HB3.out,.inr (.inr (.inl ⟨H0.out,HO.out,oM.out,rfl⟩))⟩
  ·have oM:=ak hat;clear hat;go_wp2_with fail;refine bodyPost_ret (v:=.tuple #[.pointer (some ⟨c,0,none⟩),fv,.int .i64 0]) (by simp [results,Tryz.results109,go_sem, *]) rfl ?_;exact ⟨HB3.out,.inr (.inr (.inr ⟨H0.out,HO.out,c,oM.out,fv,rfl,RQ.out,HFs.out⟩))⟩
 ·have HB3:=ak (HB2.out.trans (b3.mono HB2.out.size));have HO:=ak hok;clear b3 hok HC fT HB2 vM HF HT;go_wp2_with fail;refine bodyPost_ret (v:=.tuple #[.pointer none,.slice none 0 0,.int .i64 8]) (by simp [results,Tryz.results109,go_sem, *]) rfl ?_;exact ⟨HB3.out,.inr (.inl ⟨H0.out,HO.out,rfl⟩)⟩
theorem Sk {Tb:World->Prop} (hD:cu Tb) (hN:dK Tb) (hSp:cK Tb) (hL:aV Tb) (p m n:Nat) (D:DataW Unit) (x s:ByteArray) (w:World) (hs:s.size<=140737488355328) (hx:x.size<=140737488355328) (hst:jg w p m n D) (hT:Tb w) :
  Calls Tryz.prog 109 #[.pointer (some ⟨p,0,none⟩),.string x,.string s,.func (Fn.func 110) #[] #[]] w (xq w x s D):=by
 by_cases h0:eJ s=0
 ·exact V4 hD hN hSp hL p m n D x s w hs hx hst hT h0
 ·exact Sj hD hN hL p D x s w hs hT h0 _
theorem ND {Tb:World->Prop} (hD:cu Tb) (hN:dK Tb) (hSp:cK Tb) (hL:aV Tb) (p m n:Nat) (D:DataW Unit) (x s:ByteArray) (w:World) (hs:s.size<=140737488355328) (hx:x.size<=140737488355328) (hst:jg w p m n D) (hT:Tb w) :
  Calls Tryz.prog 63 #[.pointer (some ⟨p,0,none⟩),.string x,.string s] w (xq w x s D):=by
 have HC:=ak (Sk hD hN hSp hL p m n D x s w hs hx hst hT);clear hD hN hSp hL hst hT hs hx;go_in;go_wp2_with fail;refine HC.out.mono ?_;rintro e w1 ⟨b1,⟨h1,rfl⟩ | ⟨h1,h2,rfl⟩ | ⟨h1,h2,h3,rfl⟩ | ⟨h1,h2,c,h3,fv,rfl,h4⟩⟩
 ·have HB:=ak b1;have H1:=ak h1;clear b1 h1 HC;go_wp2_with fail;refine bodyPost_ret (v:=.tuple #[.pointer none,.slice none 0 0,.int .i64 (eJ s)]) (by simp [results,Tryz.results63,go_sem, *]) rfl ?_;exact ⟨HB.out,.inl ⟨H1.out,rfl⟩⟩
 ·have HB:=ak b1;have H1:=ak (And.intro h1 h2);clear b1 h1 h2 HC;go_wp2_with fail;refine bodyPost_ret (v:=.tuple #[.pointer none,.slice none 0 0,.int .i64 8]) (by simp [results,Tryz.results63,go_sem, *]) rfl ?_;exact ⟨HB.out,.inr (.inl ⟨H1.out.1,H1.out.2,rfl⟩)⟩
 ·have HB:=ak b1;have H1:=ak (And.intro h1 (And.intro h2 h3));clear b1 h1 h2 h3 HC;go_wp2_with fail;refine bodyPost_ret (v:=.tuple #[.pointer none,.slice none 0 0,.int .i64 10]) (by simp [results,Tryz.results63,go_sem, *]) rfl ?_;exact ⟨HB.out,.inr (.inr (.inl ⟨H1.out.1,H1.out.2.1,H1.out.2.2,rfl⟩))⟩
 ·have HB:=ak b1;have H1:=ak (And.intro h1 (And.intro h2 (And.intro h3 h4)));clear b1 h1 h2 h3 h4 HC;go_wp2_with fail;refine bodyPost_ret (v:=.tuple #[.pointer (some ⟨c,0,none⟩),fv,.int .i64 0]) (by simp [results,Tryz.results63,go_sem, *]) rfl ?_;exact ⟨HB.out,.inr (.inr (.inr ⟨H1.out.1,H1.out.2.1,c,H1.out.2.2.1,fv,rfl,H1.out.2.2.2⟩))⟩
end Go.Proofs.YtknakfpciccoaaaGreatDoor
/- The walk of Find. -/
namespace Go.Proofs.YtknakfpciccoaaaGreatDoor
open Go.RowKit Go.Maps Go.WideMaps
theorem NG (k n:Int) (s:ByteArray) (l:List T) (ks:List ByteArray):∀ j,j<=l.length->VE (aO k n s l ks) j=(l.take j).map fun t=>.string (qY t)
 | 0,_=>rfl
 | j+1,h=>by
  have e:elt (aO k n s l ks) j=l[j]:=by rw [iQ,List.getD_eq_getElem?_getD,List.getElem?_eq_getElem h];rfl
  rw [VE,NG k n s l ks j (by omega),e,List.take_add_one,List.getElem?_eq_getElem h];simp only [Option.toList_some,List.map_append,List.map_cons,List.map_nil]
def Ca (w:World) (c f:Nat) (d:T):Prop:=∃ La Lc,w.cell? ⟨c,0,none⟩=some (.slice La (nL d) Lc)/\c<w.heap.size/\bJ w f La d
theorem Ca.keep {w w':World} {c f:Nat} {d:T} (h:Ca w c f d) (hb:Below w.heap.size w w'):Ca w' c f d:=by
 obtain ⟨La,Lc,h1,h2,h3⟩:=h;exact ⟨La,Lc,(hb.cell (p:=⟨c,0,none⟩) h2).trans h1,Nat.lt_of_lt_of_le h2 hb.size,h3.keep hb⟩
def V5 (s:ByteArray) (d:T):List T:=jf (gP 16 (tJ s)) d (nL d)
def V6 (w : World) (x s : ByteArray) (D : DataW Unit) (Qr : Nat -> T) (e : Ending) (w' : World) : Prop :=
  Below w.heap.size w w' /\
  ((eJ s ≠ 0 /\ e = .returned (.tuple #[.slice none 0 0, .int .i64 (eJ s)])) \/
   (eJ s = 0 /\ bE 16 (tJ s) = false /\ e = .returned (.tuple #[.slice none 0 0, .int .i64 8])) \/
   (eJ s = 0 /\ bE 16 (tJ s) = true /\ qZ D x = .nil /\ e = .returned (.tuple #[.slice none 0 0, .int .i64 10])) \/
   (eJ s = 0 /\ bE 16 (tJ s) = true /\ ∃ c : Nat, qZ D x = .lit (.int .i64 c) /\ ∃ sv, e = .returned (.tuple #[sv, .int .i64 0]) /\ w'.ownsRow w.heap.size 9 1 sv (V5 s (Qr c)).length ((V5 s (Qr c)).map fun t => .string (qY t))))
structure bN (Tb:World->Prop):Prop where
 dec:cu Tb
 int:dK Tb
 split:cK Tb
 atoi:dn Tb
 itoa:bf Tb
 valid:bF Tb
 fmt:qE Tb
 lies:aV Tb
theorem Cb {w:World} {lo lo':Nat} {e:TypeId} {s n:Nat} {v:Value} {xs:List Value} (h:w.ownsRow lo e s v n xs) (hl:lo'<=lo):w.ownsRow lo' e s v n xs:=by
 refine ⟨h.1,?_⟩;rcases h.2 with hn | ⟨g,cap,cur,rfl,hb0,rest⟩
 ·exact .inl hn
 ·exact .inr ⟨g,cap,cur,rfl,Nat.le_trans hl hb0,rest⟩
theorem Kz {Tb:World->Prop} (hA:bN Tb) (p m n f:Nat) (D:DataW Unit) (Qr:Nat->T) (x s:ByteArray) (w:World) (hs:s.size<=140737488355328) (hx:x.size<=140737488355328) (hst:jg w p m n D)
  (hc:∀ c:Nat,qZ D x=.lit (.int .i64 c)->Ca w c f (Qr c)/\nL (Qr c)<=1000000/\∀ i,i<nL (Qr c)->bM (elt (Qr c) i)) (hf:f<=16) (hT:Tb w) :
  Calls Tryz.prog 27 #[.pointer (some ⟨p,0,none⟩),.string x,.string s] w (V6 w x s D Qr):=by
 have HC:=ak (ND hA.dec hA.int hA.split hA.lies p m n D x s w hs hx hst hT);have Hc:=ak hc;have HT:Hid (∀ w':World,Below w.heap.size w w'->Tb w'):=fun w' hb=>hA.lies w hT w w' hT hb;have HAm:Hid (∀ (JZ:Value) (t d:T) (La:Option Addr) (Lc:Nat) (w:World),eu w 16 JZ t->bJ w f La d->nL d<=1000000->(∀ i,i<nL d->bM (elt d i))->Tb w->Calls Tryz.prog 65 #[JZ,.slice La (nL d) Lc] w fun e w'=>∃ hv xs,e=.returned hv/\uJ w f hv (jf (gP 16 t) d (nL d)) xs w'):=fun JZ t d La Lc w h1 h2 h3 h4 h5=>BJ hA.lies 16 (Au hA.atoi hA.itoa hA.lies 16) JZ t d f La Lc w h1 h2 h3 hf h4 h5;have HPr:Hid (∀ (d:T) (La:Option Addr) (Lc:Nat) (w:World),bJ w f La d->nL d<=1000000->Tb w->Calls Tryz.prog 64 #[.slice La (nL d) Lc] w fun e w'=>Below w.heap.size w w'/\∃ sv,e=.returned sv/\w'.ownsRow w.heap.size 9 1 sv (nL d) (VE d (nL d))):=fun d La Lc w h1 h2 h3=>wZ hA.valid hA.fmt hA.lies d f La Lc w h1 h2 h3;clear hst hT hs hx hc hA hf;go_in;go_wp2_with fail;refine HC.out.mono ?_;rintro e w1 ⟨b1,⟨h1,rfl⟩ | ⟨h1,h2,rfl⟩ | ⟨h1,h2,h3,rfl⟩ | ⟨h1,h2,c,h3,fv,rfl,h4,_⟩⟩
 ·have HB:=ak b1;have H1:=ak h1;have ez:(eJ s==0)=false:=by simpa using h1
  clear b1 h1 HC;go_wp2_with fail;refine bodyPost_ret (v:=.tuple #[.slice none 0 0,.int .i64 (eJ s)]) (by simp [results,Tryz.results27,go_sem, *]) rfl ?_;exact ⟨HB.out,.inl ⟨H1.out,rfl⟩⟩
 ·have HB:=ak b1;have H1:=ak (And.intro h1 h2);clear b1 h1 h2 HC;go_wp2_with fail;refine bodyPost_ret (v:=.tuple #[.slice none 0 0,.int .i64 8]) (by simp [results,Tryz.results27,go_sem, *]) rfl ?_;exact ⟨HB.out,.inr (.inl ⟨H1.out.1,H1.out.2,rfl⟩)⟩
 ·have HB:=ak b1;have H1:=ak (And.intro h1 (And.intro h2 h3));clear b1 h1 h2 h3 HC;go_wp2_with fail;refine bodyPost_ret (v:=.tuple #[.slice none 0 0,.int .i64 10]) (by simp [results,Tryz.results27,go_sem, *]) rfl ?_;exact ⟨HB.out,.inr (.inr (.inl ⟨H1.out.1,H1.out.2.1,H1.out.2.2,rfl⟩))⟩
 ·obtain ⟨hco,hn,hok⟩:=Hc.out c h3;obtain ⟨La,Lc,q0,hcl,hel⟩:=hco.keep b1;have HB:=ak b1;have H1:=ak (And.intro h1 (And.intro h2 h3));have HM:=ak (HAm.out fv (tJ s) (Qr c) La Lc w1 h4 hel hn hok (HT.out _ b1));have Hn:=ak hn;clear b1 h1 h2 h3 h4 HC hco hel hok HAm hcl hn;go_wp2_with fail;refine HM.out.mono ?_;rintro e w2 ⟨hv,xs,rfl,hh⟩;obtain ⟨La2,Lc2,rfl,ae8⟩:=hh.elems;have HB2:=ak (HB.out.trans (hh.low.mono HB.out.size));have HR:=ak (HPr.out _ La2 Lc2 w2 ae8 (by rw [aN];exact Nat.le_trans (BI _ _ _) Hn.out) (HT.out _ HB2.out));rw [aN] at HR
  have YU:Hid (VE (aO 5 0 ByteArray.empty (jf (gP 16 (tJ s)) (Qr c) (nL (Qr c))) []) (jf (gP 16 (tJ s)) (Qr c) (nL (Qr c))).length=(V5 s (Qr c)).map fun t=>.string (qY t)):=by
   show _=_;rw [NG _ _ _ _ _ _ (Nat.le_refl _),List.take_length];rfl
  rw [YU.out] at HR;clear hh ae8 HM HPr;go_wp2_with fail;refine HR.out.mono ?_;rintro e w3 ⟨b3,sv,rfl,ho⟩;have HB3:=ak (HB2.out.trans (b3.mono HB2.out.size));have HO:=ak (Cb ho HB2.out.size);clear b3 ho HR;go_wp2_with fail;refine bodyPost_ret (v:=.tuple #[sv,.int .i64 0]) (by simp [results,Tryz.results27,go_sem, *]) rfl ?_;exact ⟨HB3.out,.inr (.inr (.inr ⟨H1.out.1,H1.out.2.1,c,H1.out.2.2,sv,rfl,HO.out⟩))⟩
end Go.Proofs.YtknakfpciccoaaaGreatDoor
