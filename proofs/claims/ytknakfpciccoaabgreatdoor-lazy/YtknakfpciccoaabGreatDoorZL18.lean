import Derived.Test.YtknakfpciccoaabGreatDoorZL17
import Derived.Test.YtknakfpciccoaabGreatDoorZL5
import Derived.Lib.QuoteLoop
import Derived.Test.YtknakfpciccoaabGreatDoorZL9
import Derived.Test.YtknakfpciccoaabGreatDoorZL16
import Derived.Test.YtknakfpciccoaabGreatDoorZL2
import Derived.Maps.OwnSet
/- Texts as values, pure: what is parsed is a value. -/
set_option maxHeartbeats 4000000
set_option maxRecDepth 100000
namespace Go.Proofs.YtknakfpciccoaabGreatDoor
open Go.RowKit
theorem yc {a l:List UInt8} (h0:a≠[]) (hu:kr (aY (a++l))=a.length):Lib.validD (a++l)=Lib.validD l:=by
 have hne:a++l≠[]:=by simp [h0]
 have hp:0<a.length:=List.length_pos_iff.2 h0;have hd:=qj (aY (a++l));rw [aN] at hd;have h2:=nU (aY (a++l));rw [<- hd,hu] at h2;rw [Lib.validD_step _ hne];split at h2
 ·omega
 ·rename_i h3;rw [if_neg h3,<- h2,List.drop_left]
theorem MZ {s:ByteArray} {n:Nat} {least c0 r:Int} (hs:n<=s.size) (hc:jI s (n - 1)=true) (hr:Ak s c0 (n - 1)=r) (hb:sW least r=false):rP s n least c0=n:=by
 unfold rP;rw [if_neg (by omega),hc,hr,hb];simp
theorem kM {x:Int} (h0:0<=x) (h1:x<256):((x.toNat.toUInt8).toNat:Int)=x:=by
 rw [Nat.toUInt8,UInt8.toNat_ofNat'];omega
theorem J7 {r:Int} (h0:0<=r) (h1:r<=1114111) (h2:r<55296\/57343<r) (l:List UInt8):kr (aY (Lib.encodeRune r++l))=(Lib.encodeRune r).length:=by
 by_cases c1:r<=127
 ·have e:Lib.encodeRune r=[r.toNat.toUInt8]:=by unfold Lib.encodeRune;rw [Lib.encodeRuneZ_one h0 c1];rfl
  have b0:=kM h0 (show r<256 by omega);rw [e];unfold kr;rw [kG,if_pos (by simp only [List.cons_append,List.getD_cons_zero];omega)];rfl
 ·by_cases c2:r<=2047
  ·have e:Lib.encodeRune r=[(192+r / 64).toNat.toUInt8,(128+r % 64).toNat.toUInt8]:=by unfold Lib.encodeRune;rw [Lib.encodeRuneZ_two (by omega) c2];rfl
   have b0:=kM (x:=192+r / 64) (by omega) (by omega);have b1:=kM (x:=128+r % 64) (by omega) (by omega);rw [e];generalize (192+r / 64).toNat.toUInt8=x0 at *;generalize (128+r % 64).toNat.toUInt8=x1 at *;have t0:bt (aY ([x0,x1]++l)) 0=x0.toNat:=by rw [kG];rfl
   have t1:bt (aY ([x0,x1]++l)) 1=x1.toNat:=by rw [kG];rfl
   unfold kr;rw [t0,if_neg (by omega),if_pos (by omega)];refine MZ (r:=r) (by rw [gN];simp) ?_ ?_ ?_
   ·simp only [jI,Bool.true_and];rw [t1,decide_eq_true (by omega),decide_eq_true (by omega)];rfl
   ·simp only [Ak];rw [t1];omega
   ·unfold sW;simp;omega
  ·by_cases c3:r<=65535
   ·have e:Lib.encodeRune r=[(224+r / 4096).toNat.toUInt8,(128+r / 64 % 64).toNat.toUInt8,(128+r % 64).toNat.toUInt8]:=by unfold Lib.encodeRune;rw [Lib.encodeRuneZ_three (by omega)];rfl
    have b0:=kM (x:=224+r / 4096) (by omega) (by omega);have b1:=kM (x:=128+r / 64 % 64) (by omega) (by omega);have b2:=kM (x:=128+r % 64) (by omega) (by omega);rw [e];generalize (224+r / 4096).toNat.toUInt8=x0 at *;generalize (128+r / 64 % 64).toNat.toUInt8=x1 at *;generalize (128+r % 64).toNat.toUInt8=x2 at *;have t0:bt (aY ([x0,x1,x2]++l)) 0=x0.toNat:=by rw [kG];rfl
    have t1:bt (aY ([x0,x1,x2]++l)) 1=x1.toNat:=by rw [kG];rfl
    have t2:bt (aY ([x0,x1,x2]++l)) 2=x2.toNat:=by rw [kG];rfl
    unfold kr;rw [t0,if_neg (by omega),if_neg (by omega),if_pos (by omega)];refine MZ (r:=r) (by rw [gN];simp) ?_ ?_ ?_
    ·simp only [jI,Bool.true_and];rw [t1,t2,decide_eq_true (by omega),decide_eq_true (by omega),decide_eq_true (by omega),decide_eq_true (by omega)];rfl
    ·simp only [Ak];rw [t1,t2];omega
    ·unfold sW;simp;omega
   ·have e:Lib.encodeRune r=[(240+r / 262144).toNat.toUInt8,(128+r / 4096 % 64).toNat.toUInt8,(128+r / 64 % 64).toNat.toUInt8,(128+r % 64).toNat.toUInt8]:=by unfold Lib.encodeRune;rw [Lib.encodeRuneZ_four (by omega) (by omega)];rfl
    have b0:=kM (x:=240+r / 262144) (by omega) (by omega);have b1:=kM (x:=128+r / 4096 % 64) (by omega) (by omega);have b2:=kM (x:=128+r / 64 % 64) (by omega) (by omega);have b3:=kM (x:=128+r % 64) (by omega) (by omega);rw [e];generalize (240+r / 262144).toNat.toUInt8=x0 at *;generalize (128+r / 4096 % 64).toNat.toUInt8=x1 at *;generalize (128+r / 64 % 64).toNat.toUInt8=x2 at *;generalize (128+r % 64).toNat.toUInt8=x3 at *;have t0:bt (aY ([x0,x1,x2,x3]++l)) 0=x0.toNat:=by rw [kG];rfl
    have t1:bt (aY ([x0,x1,x2,x3]++l)) 1=x1.toNat:=by rw [kG];rfl
    have t2:bt (aY ([x0,x1,x2,x3]++l)) 2=x2.toNat:=by rw [kG];rfl
    have t3:bt (aY ([x0,x1,x2,x3]++l)) 3=x3.toNat:=by rw [kG];rfl
    unfold kr;rw [t0,if_neg (by omega),if_neg (by omega),if_neg (by omega),if_pos (by omega)];refine MZ (r:=r) (by rw [gN];simp) ?_ ?_ ?_
    ·simp only [jI,Bool.true_and];rw [t1,t2,t3,decide_eq_true (by omega),decide_eq_true (by omega),decide_eq_true (by omega),decide_eq_true (by omega),decide_eq_true (by omega),decide_eq_true (by omega)];rfl
    ·simp only [Ak];rw [t1,t2,t3];omega
    ·unfold sW;simp;omega
theorem PZ (r:Int):Lib.encodeRune r≠[]:=by
 unfold Lib.encodeRune Lib.encodeRuneZ;split
 ·simp
 ·split
  ·simp
  ·split
   ·simp
   ·split<;>simp
theorem RH (r:Int):(Lib.encodeRune r).length<=4:=by
 unfold Lib.encodeRune;rw [List.length_map];exact Lib.encodeRuneZ_length_le r
theorem RI {r:Nat} (h:r<128):(Lib.encodeRune (r:Int)).length=1:=by
 unfold Lib.encodeRune;rw [List.length_map,Lib.encodeRuneZ_one (by omega) (by omega)];rfl
theorem Vr {s:ByteArray} {i a r e:Nat} (ha:a<65536) (h:low s i a=some (r,e)):i<=e/\r<=1114111/\(r<55296\/57343<r):=by
 unfold low at h;split at h
 ·simp only [Option.some.injEq,Prod.mk.injEq] at h;omega
 ·split at h
  ·cases h
  ·split at h
   ·cases hh:qZ s (i+2) with
    | none=>rw [hh] at h;cases h
    | some b =>
     rw [hh] at h;simp only [Option.bind_some] at h;split at h
     ·cases h
     ·simp only [Option.some.injEq,Prod.mk.injEq] at h;omega
   ·cases h
theorem Vs {s:ByteArray} {i r e:Nat} (h:jV s i=some (r,e)):(∀ l,Lib.validD (Lib.encodeRune (r:Int)++l)=Lib.validD l)/\i+(Lib.encodeRune (r:Int)).length<=e:=by
 have esc:∀ c,c<128->i+2<=e->r=c->(∀ l,Lib.validD (Lib.encodeRune (r:Int)++l)=Lib.validD l)/\i+(Lib.encodeRune (r:Int)).length<=e:=by
  intro c hc he hr;subst hr;exact ⟨fun l=>yc (PZ _) (J7 (by omega) (by omega) (by omega) l),by rw [RI hc];omega⟩
 by_cases O7:cB s i=92
 ·unfold jV at h;rw [if_pos O7] at h;unfold oL at h;split at h
  ·rename_i hh;simp only [Option.some.injEq,Prod.mk.injEq] at h;exact esc (cB s (i+1)) (by omega) (by omega) (by omega)
  ·split at h
   ·simp only [Option.some.injEq,Prod.mk.injEq] at h;exact esc 8 (by omega) (by omega) (by omega)
   ·split at h
    ·simp only [Option.some.injEq,Prod.mk.injEq] at h;exact esc 12 (by omega) (by omega) (by omega)
    ·split at h
     ·simp only [Option.some.injEq,Prod.mk.injEq] at h;exact esc 10 (by omega) (by omega) (by omega)
     ·split at h
      ·simp only [Option.some.injEq,Prod.mk.injEq] at h;exact esc 13 (by omega) (by omega) (by omega)
      ·split at h
       ·simp only [Option.some.injEq,Prod.mk.injEq] at h;exact esc 9 (by omega) (by omega) (by omega)
       ·split at h
        ·cases hx:qZ s (i+1+1) with
         | none=>rw [hx] at h;cases h
         | some a =>
          rw [hx] at h;simp only [Option.bind_some] at h;have h1:=nW hx;have h2:=Vr (by omega) h;have h3:=RH (r:Int);exact ⟨fun l=>yc (PZ _) (J7 (by omega) (by omega) (by omega) l),by omega⟩
        ·cases h
 ·by_cases hi:i<s.size
  ·by_cases hb:cB s i<32\/kr (oK s i)=0
   ·rw [TQ hi O7 hb] at h;cases h
   ·obtain ⟨r',h1,h2,h3⟩:=DI hi O7 (by omega) (by omega);rw [h1] at h;simp only [Option.some.injEq,Prod.mk.injEq] at h;obtain ⟨rfl,rfl⟩:=h
    have hl:(s.extract i (i+kr (oK s i))).data.toList.length=kr (oK s i):=by
     rw [kU,List.length_take,List.length_drop];have:s.data.toList.length=s.size:=rfl;omega
    rw [h2];refine ⟨fun l=>yc (by intro e;rw [e] at hl;simp at hl;omega) ?_,by omega⟩;rw [hl];refine Ez (by omega) (by rw [gN,List.length_append,hl];omega) fun j hj=>?_;rw [FT,kG,sZ]
    congr 1
    simp only [List.getD_eq_getElem?_getD];rw [List.getElem?_append_left (by omega),kU,List.getElem?_take,if_pos hj,List.getElem?_drop]
  ·rw [TR (by omega)] at h;cases h
theorem EG {s:ByteArray}:∀ {n i:Nat} {l:List UInt8} {e:Nat},lS s n i=some (l,e)->Lib.validD l=true/\i+l.length+1<=e
 | 0,i,l,e,h=>by cases h
 | n+1,i,l,e,h=>by
  rw [lS] at h;split at h
  ·simp only [Option.some.injEq,Prod.mk.injEq] at h;obtain ⟨rfl,rfl⟩:=h;exact ⟨rfl,by simp⟩
  ·cases hl:jV s i with
   | none=>rw [hl] at h;cases h
   | some p =>
    rw [hl] at h;simp only [Option.bind_some] at h;cases ht:lS s n p.2 with
    | none=>rw [ht] at h;cases h
    | some q =>
     rw [ht] at h;simp only [Option.map_some,Option.some.injEq,Prod.mk.injEq] at h;obtain ⟨rfl,rfl⟩:=h;obtain ⟨h1,h2⟩:=Vs (r:=p.1) (e:=p.2) hl;obtain ⟨h3,h4⟩:=EG (l:=q.1) (e:=q.2) ht;exact ⟨by rw [h1];exact h3,by rw [List.length_append];omega⟩
theorem EH {s:ByteArray} {i:Nat} {x:ByteArray} {e:Nat} (h:jK s i=some (x,e)):zR x=true/\i+x.size+2<=e:=by
 unfold jK at h;split at h
 ·cases ht:lS s (s.size+1) (i+1) with
  | none=>rw [ht] at h;cases h
  | some q =>
   rw [ht] at h;simp only [Option.map_some,Option.some.injEq,Prod.mk.injEq] at h;obtain ⟨rfl,rfl⟩:=h;obtain ⟨h1,h2⟩:=EG (l:=q.1) (e:=q.2) ht;refine ⟨by unfold zR;rw [aN];exact h1,by rw [gN];omega⟩
 ·cases h
def zD:Nat->T->Prop
 | 0,t=>bg t
 | n+1,t=>bg t\/(au t=0/\bF t=true/\(∀ i,i<nL t->zD n (elt t i))/\((ah t=5/\nK t=0)\/(ah t=6/\nK t=nL t/\gF t (nK t)=true)))
theorem RJ {t:T} (n:Nat) (h:bg t):zD n t:=by
 cases n with
 | zero=>exact h
 | succ n=>exact .inl h
theorem lC {t:T} (n:Nat) (h:bg t):aK n t=dJ t:=by
 have k:=iI h;cases n with
 | zero=>rfl
 | succ n=>unfold aK;rw [if_neg k.1,if_neg k.2]
theorem EJ {t:T}:∀ k,k<=nK t->(∀ x ∈ kQ t,zR x=true/\x.size<=4000)->gF t k=true
 | 0,_,_=>rfl
 | k+1,hk,h=>by
  have hm:bR t k ∈ kQ t:=by
   have hl:k<(kQ t).length:=hk;unfold bR;simp only [List.getD_eq_getElem?_getD,List.getElem?_eq_getElem hl,Option.getD_some];exact List.getElem_mem hl
  obtain ⟨h1,h2⟩:=h _ hm;rw [gF,EJ k (by omega) h,h1,decide_eq_true h2];rfl
theorem J8 {f:Nat->Option (T×Nat)} {s:ByteArray} {n:Nat} (hs:s.size<=4000) (hf:∀ i t e,i<=s.size->f i=some (t,e)->i<e/\e<=s.size) (hg:∀ i t e,i<=s.size->f i=some (t,e)->aK n t<=9*(e - i)/\zD n t) (o:Bool) :
  ∀ (m i:Nat) (r:(List ByteArray×List T)×Nat),i<=s.size->yL f s o m i=some r->(r.1.1.map fun k=>2+k.size).sum+(r.1.2.map (aK n)).sum<=9*(r.2 - i)/\(∀ x ∈ r.1.2,zD n x)/\(∀ x ∈ r.1.1,zR x=true/\x.size<=4000)/\(o=true->r.1.1.length=r.1.2.length)/\(o=false->r.1.1=[])/\i<r.2/\r.2<=s.size
 | 0,i,r,_,h=>by cases h
 | m+1,i,r,hi,h=>by
  have kC:=zX hf o (m+1) i r hi h;rw [yL] at h;cases hk:oM s o i with
  | none=>rw [hk] at h;cases h
  | some p =>
   rw [hk] at h;simp only [Option.bind_some] at h;have h1:=Ap hi hk
   have hkey:o=true->zR p.1=true/\i+p.1.size+3<=p.2/\p.1.size<=4000:=by
    intro ho;subst ho;unfold oM at hk;simp only [if_true] at hk;cases ht:jK s (sk s i) with
    | none=>rw [ht] at hk;cases hk
    | some q =>
     rw [ht] at hk;simp only [Option.bind_some] at hk;split at hk
     ·simp only [Option.some.injEq] at hk;subst hk;have h2:=EH (x:=q.1) (e:=q.2) ht;have h3:=jy s i;have h4:=jy s q.2;have h5:=h1.2.1;exact ⟨h2.1,by show i+q.1.size+3<=sk s q.2+1;omega,by show q.1.size<=4000;have:sk s q.2+1<=s.size:=h5;omega⟩
     ·cases hk
   cases hq:f p.2 with
   | none=>rw [hq] at h;cases h
   | some q =>
    rw [hq] at h;simp only [Option.bind_some] at h;have h2:=hf p.2 q.1 q.2 h1.2.1 hq;have h2g:=hg p.2 q.1 q.2 h1.2.1 hq;have h3:=jy s q.2;split at h
    ·rename_i hc;have h4:=eH (s:=s) (i:=sk s q.2) (by omega);cases hr:yL f s o m (sk s q.2+1) with
     | none=>rw [hr] at h;cases h
     | some r' =>
      rw [hr] at h;simp only [Option.map_some,Option.some.injEq] at h;have h5:=J8 hs hf hg o m _ r' (by omega) hr;subst h;cases o with
      | false =>
       have h6:=h5.2.2.2.2.1 rfl;refine ⟨?_,?_,?_,(fun h=>by cases h),(fun _=>h6),kC⟩
       ·have:=h5.1;simp only [app,Bool.false_eq_true,if_false,List.map_cons,List.sum_cons];omega
       ·intro x hx;simp only [app,List.mem_cons] at hx;rcases hx with rfl | hx
        ·exact h2g.2
        ·exact h5.2.1 x hx
       ·intro x hx;simp only [app,Bool.false_eq_true,if_false] at hx;exact h5.2.2.1 x hx
      | true =>
       have h6:=h5.2.2.2.1 rfl;have h7:=hkey rfl;refine ⟨?_,?_,?_,(fun _=>by simp only [app,if_true,List.length_cons,h6]),(fun h=>by cases h),kC⟩
       ·have:=h5.1;simp only [app,if_true,List.map_cons,List.sum_cons];omega
       ·intro x hx;simp only [app,List.mem_cons] at hx;rcases hx with rfl | hx
        ·exact h2g.2
        ·exact h5.2.1 x hx
       ·intro x hx;simp only [app,if_true,List.mem_cons] at hx;rcases hx with rfl | hx
        ·exact ⟨h7.1,h7.2.2⟩
        ·exact h5.2.2.1 x hx
    ·split at h
     ·simp only [Option.some.injEq] at h;subst h;cases o with
      | false =>
       refine ⟨?_,?_,?_,(fun h=>by cases h),(fun _=>rfl),kC⟩
       ·simp only [app,Bool.false_eq_true,if_false,List.map_cons,List.map_nil,List.sum_cons,List.sum_nil];omega
       ·intro x hx;simp only [app,List.mem_singleton] at hx;subst hx;exact h2g.2
       ·intro x hx;simp [app] at hx
      | true =>
       have h7:=hkey rfl;refine ⟨?_,?_,?_,(fun _=>rfl),(fun h=>by cases h),kC⟩
       ·simp only [app,if_true,List.map_cons,List.map_nil,List.sum_cons,List.sum_nil];omega
       ·intro x hx;simp only [app,List.mem_singleton] at hx;subst hx;exact h2g.2
       ·intro x hx;simp only [app,if_true,List.mem_singleton] at hx;subst hx;exact ⟨h7.1,h7.2.2⟩
     ·cases h
theorem dV (k n:Int) (l:List T) (ks:List ByteArray):bF (aX k n ByteArray.empty l ks)=true:=by
 unfold bF;rw [gD,ByteArray.toList_eq];rfl
theorem RL {f:Nat->Option (T×Nat)} {s:ByteArray} {n:Nat} (hs:s.size<=4000) (hf:∀ i t e,i<=s.size->f i=some (t,e)->i<e/\e<=s.size) (hg:∀ i t e,i<=s.size->f i=some (t,e)->aK n t<=9*(e - i)/\zD n t) {j:Nat} {t:T} {e:Nat} (hj:j<=s.size) (h:cO f s j=some (t,e)):aK (n+1) t<=9*(e - j)/\zD (n+1) t:=by
 have kC:=xH hf hj h;have kY:bg t->dJ t<=9*(e - j)->aK (n+1) t<=9*(e - j)/\zD (n+1) t:=fun h1 h2=>⟨by rw [lC _ h1];exact h2,RJ _ h1⟩
 have Aq:∀ (o:Bool) (k:Int),k=(if o=true then 6 else 5)->cB s j<256->(jL f s o (j+1)).map (fun r=>(aX k 0 ByteArray.empty r.1.2 r.1.1,r.2))=some (t,e)->aK (n+1) t<=9*(e - j)/\zD (n+1) t:=by
  intro o k hk hc hh;have hj1:=eH hc;have h3:=jy s (j+1);have h5:=lX (s:=s) (i:=j+1) (by omega);cases hb:jL f s o (j+1) with
  | none=>rw [hb] at hh;cases hh
  | some r =>
   rw [hb] at hh;simp only [Option.map_some,Option.some.injEq,Prod.mk.injEq] at hh;obtain ⟨rfl,rfl⟩:=hh
   have key:(r.1.1.map fun k=>2+k.size).sum+(r.1.2.map (aK n)).sum+5<=9*(r.2 - j)/\(∀ x ∈ r.1.2,zD n x)/\(∀ x ∈ r.1.1,zR x=true/\x.size<=4000)/\(o=true->r.1.1.length=r.1.2.length)/\(o=false->r.1.1=[]):=by
    unfold jL at hb;split at hb
    ·simp only [Option.some.injEq] at hb;subst hb;refine ⟨?_,by simp,by simp,fun _=>rfl,fun _=>rfl⟩;simp only [List.map_nil,List.sum_nil];omega
    ·have:=J8 hs hf hg o _ _ r h5 hb;refine ⟨?_,this.2.1,this.2.2.1,this.2.2.2.1,this.2.2.2.2.1⟩;have h6:=this.1;have h7:=this.2.2.2.2.2.1;omega
   obtain ⟨k1,k2,k3,k4,k5⟩:=key;have e0:∀ k:Int,nL (aX k 0 ByteArray.empty r.1.2 r.1.1)=r.1.2.length:=fun k=>by unfold nL;rw [uT]
   have e1:∀ k:Int,nK (aX k 0 ByteArray.empty r.1.2 r.1.1)=r.1.1.length:=fun k=>by unfold nK;rw [rJ]
   have hel:∀ k:Int,∀ i,i<nL (aX k 0 ByteArray.empty r.1.2 r.1.1)->zD n (elt (aX k 0 ByteArray.empty r.1.2 r.1.1) i):=fun k i hi=>k2 _ (Pd hi);cases o with
   | false =>
    simp only [Bool.false_eq_true,if_false] at hk;subst hk;refine ⟨?_,.inr ⟨rfl,dV _ _ _ _,hel 5,.inl ⟨rfl,?_⟩⟩⟩
    ·rw [DC n 5 r.1.2 r.1.1 (.inl rfl) (fun _=>k5 rfl)];omega
    ·rw [e1,k5 rfl];rfl
   | true =>
    simp only [if_true] at hk;subst hk;refine ⟨?_,.inr ⟨rfl,dV _ _ _ _,hel 6,.inr ⟨rfl,?_,?_⟩⟩⟩
    ·rw [DC n 6 r.1.2 r.1.1 (.inr rfl) (fun h=>by omega)];omega
    ·rw [e0,e1,k4 rfl]
    ·exact EJ _ (Nat.le_refl _) (by rw [rJ];exact k3)
 unfold cO at h;split at h
 ·cases ht:jK s j with
  | none=>rw [ht] at h;cases h
  | some q =>
   rw [ht] at h;simp only [Option.map_some,Option.some.injEq,Prod.mk.injEq] at h;obtain ⟨rfl,rfl⟩:=h;have h2:=EH (x:=q.1) (e:=q.2) ht;refine kY ⟨rfl,rfl,.inr (.inr (.inr ⟨rfl,rfl,?_,h2.1⟩))⟩ ?_
   ·show q.1.size<=4000;omega
   ·show (if (4:Int)=1 then 1 else if (4:Int)=2 then 2 else if (4:Int)=3 then 9 else 5+q.1.size)<=_;rw [if_neg (by omega),if_neg (by omega),if_neg (by omega)];omega
 ·split at h
  ·exact Aq false 5 rfl (by omega) h
  ·split at h
   ·exact Aq true 6 rfl (by omega) h
   ·split at h
    ·cases ht:qY s j with
     | none=>rw [ht] at h;cases h
     | some q =>
      rw [ht] at h;simp only [Option.map_some,Option.some.injEq,Prod.mk.injEq] at h;obtain ⟨rfl,rfl⟩:=h;refine kY ⟨rfl,rfl,.inr (.inr (.inl ⟨rfl,dV _ _ _ _⟩))⟩ ?_;show (if (3:Int)=1 then 1 else if (3:Int)=2 then 2 else if (3:Int)=3 then 9 else _)<=_;rw [if_neg (by omega),if_neg (by omega),if_pos rfl];omega
    ·split at h
     ·simp only [Option.some.injEq,Prod.mk.injEq] at h;obtain ⟨rfl,rfl⟩:=h;refine kY ⟨rfl,rfl,.inl ⟨rfl,rfl,dV _ _ _ _⟩⟩ ?_;show (if (1:Int)=1 then 1 else _)<=_;rw [if_pos rfl];omega
     ·split at h
      ·simp only [Option.some.injEq,Prod.mk.injEq] at h;obtain ⟨rfl,rfl⟩:=h;refine kY ⟨rfl,rfl,.inr (.inl ⟨rfl,.inr rfl,dV _ _ _ _⟩)⟩ ?_;show (if (2:Int)=1 then 1 else if (2:Int)=2 then 2 else _)<=_;rw [if_neg (by omega),if_pos rfl];omega
      ·split at h
       ·simp only [Option.some.injEq,Prod.mk.injEq] at h;obtain ⟨rfl,rfl⟩:=h;refine kY ⟨rfl,rfl,.inr (.inl ⟨rfl,.inl rfl,dV _ _ _ _⟩)⟩ ?_;show (if (2:Int)=1 then 1 else if (2:Int)=2 then 2 else _)<=_;rw [if_neg (by omega),if_pos rfl];omega
       ·cases h
theorem EK {s:ByteArray} (hs:s.size<=4000):∀ (n i:Nat) (t:T) (e:Nat),i<=s.size->dh s n i=some (t,e)->aK n t<=9*(e - i)/\zD n t
 | 0,_,_,_,_,h=>by cases h
 | n+1,i,t,e,hi,h=>by
  rw [dh] at h;have:=RL hs (fun i t e=>iZ n i t e) (fun i t e=>EK hs n i t e) (lX hi) h;have h2:=jy s i;exact ⟨by omega,this.2⟩
theorem EL:∀ (n n' m:Nat) (t:T),zD n t->n<=n'->eF n' t<=m->dZ n' t=false->fJ m t/\aK m t=aK n t
 | 0,n',m,t,h,_,_,_=>⟨by cases m<;>first | exact h | exact .inl h,by rw [lC _ h,lC _ h]⟩
 | n+1,n',m,t,h,hn,hd,hw=>by
  rcases h with h | ⟨h1,h2,he,hk⟩
  ·exact ⟨by cases m<;>first | exact h | exact .inl h,by rw [lC _ h,lC _ h]⟩
  ·obtain ⟨n',rfl⟩:∃ x,n'=x+1:=⟨n' - 1,by omega⟩;have hbx:gL t=true:=by unfold gL;rcases hk with ⟨hk,_⟩ | ⟨hk,_⟩<;>simp [hk]
   rw [eF,if_pos hbx] at hd;obtain ⟨m,rfl⟩:∃ x,m=x+1:=⟨m - 1,by omega⟩;simp only [dZ,Bool.or_eq_false_iff] at hw
   have hi:∀ i,i<nL t->fJ m (elt t i)/\aK m (elt t i)=aK n (elt t i):=fun i hi=>by
    refine EL n n' m _ (he i hi) (by omega) ?_ ?_
    ·have:=xJ (g:=eF n') (t:=t) (i:=i) hi;omega
    ·cases ht:dZ n' (elt t i) with
     | false=>rfl
     | true=>have:=zQ (f:=dZ n') (t:=t) hi ht;rw [hw.2] at this;cases this
   have hsum:∀ k,k<=nL t->fI (aK m) t k=fI (aK n) t k:=by
    intro k
    induction k with
    | zero=>intro _;rfl
    | succ k ih=>intro hk;rw [fI,fI,ih (by omega),(hi k (by omega)).2]
   refine ⟨.inr ⟨h1,h2,fun i h=>(hi i h).1,?_⟩,?_⟩
   ·rcases hk with hk | ⟨k1,k2,k3⟩
    ·exact .inl hk
    ·exact .inr ⟨k1,k2,k3,hw.1⟩
   ·unfold aK;rw [hsum _ (Nat.le_refl _)]
theorem M0 {s:ByteArray} (h:eJ s=0):IL (tJ s)=true:=by
 obtain ⟨hs,j,hv,_,hd,hw⟩:=Pf h;have h1:=EK hs _ 0 _ _ (Nat.zero_le _) hv;have h2:=iZ _ 0 _ _ (Nat.zero_le _) hv;have h3:=EL _ _ 12 _ h1.2 (Nat.le_refl _) hd hw;exact (sV _).2 ⟨h3.1,by rw [h3.2];omega⟩
def afo (s:ByteArray) (w:World) (e:Ending) (w':World):Prop :=
 Below w.heap.size w w'/\∃ es A B C D,e=.returned (.tuple #[.agg #[.int .i64 (ah (tJ s)),.int .i64 (au (tJ s)),.string (ay (tJ s)),.slice A (nL (tJ s)) B,.slice C (nK (tJ s)) D],.int .i64 (eJ s)]) /\
  iy w' 13 (.agg #[.int .i64 (ah (tJ s)),.int .i64 (au (tJ s)),.string (ay (tJ s)),.slice A (nL (tJ s)) B,.slice C (nK (tJ s)) D]) (tJ s) es/\qm w.heap.size w' es/\es.length<=1048576/\∀ x ∈ es,x.n<=1048576/\x.m<=1048576
theorem afp {s:ByteArray} {w:World} {e:Ending} {w':World} (h:D8 s w e w'):afo s w e w':=by
 obtain ⟨hb,⟨t,es,A,B,C,D,⟨h0,rfl⟩,rfl,hF,hS⟩ | ⟨h0,rfl⟩⟩:=h
 ·have hc:=abD h0 13;have hf:=Ub hF hc.2;refine ⟨hb,es,A,B,C,D,by rw [h0];rfl,hF,hS,by omega,fun x hx=>?_⟩;have:=hf.2 x hx;omega
 ·have e1:tJ s=cK 0 0 ByteArray.empty:=by unfold tJ;rw [if_neg h0]
  refine ⟨hb,_,none,0,none,0,?_,?_,Jc _ _,by simp,fun x hx=>?_⟩
  ·rw [e1];rfl
  ·rw [e1];exact DL w' 12 0 0 ByteArray.empty (by omega) (by omega) (by omega) (by omega) (by simp)
  ·simp only [List.mem_singleton] at hx;subst hx;exact ⟨Nat.zero_le _,Nat.zero_le _⟩
theorem Ac {Tb:World->Prop} (hD:dn Tb) (hN:dO Tb) (hL:aS Tb) (s:ByteArray) (w:World) (hs:s.size<=140737488355328) (hT:Tb w):Calls Tryz.prog 14 #[.string s] w (afo s w) :=
 (Q8 hD hN hL s w hs hT).mono fun _ _ h=>afp h
end Go.Proofs.YtknakfpciccoaabGreatDoor
/- The store's map of collections; read, search, Find. -/
namespace Go.Proofs.YtknakfpciccoaabGreatDoor
open Go.RowKit Go.Maps Go.WideMaps
def Za:Value->Option (DataW Unit×List MemPlace)
 | .pointer none=>some (.nil,[])
 | .pointer (some ⟨b,0,none⟩)=>some (.lit (.int .i64 b),[])
 | _=>none
theorem Vt {v:Value} {z:DataW Unit×List MemPlace} (h:Za v=some z):(v=.pointer none/\z.1=.nil)\/∃ c:Nat,v=.pointer (some ⟨c,0,none⟩)/\z.1=.lit (.int .i64 c):=by
 unfold Za at h;split at h
 ·cases h;exact .inl ⟨rfl,rfl⟩
 ·cases h;exact .inr ⟨_,rfl,rfl⟩
 ·cases h
def tN (D:DataW Unit) (x:ByteArray):DataW Unit:=D.atKey (.string x.data.toList) .nil
theorem afq (w:World):(zeroValue 51).run Tryz.prog w=.ok (.pointer none) w:=by kernel_rfl
structure jf (w:World) (p m n:Nat) (D:DataW Unit):Prop where
 cell:w.cell? ⟨p,0,none⟩=some (.map (some m))
 low:p<w.heap.size
 own:w.ownsMap Tryz.prog 9 Za m n D
theorem jf.keep {w w':World} {p m n:Nat} {D:DataW Unit} (h:jf w p m n D) (hb:Below w.heap.size w w'):jf w' p m n D:=by
 have hlt:=h.own.lt;obtain ⟨es,clock,hm,F,hs,hD⟩:=h.own;exact ⟨(hb.cell (p:=⟨p,0,none⟩) h.low).trans h.cell,Nat.lt_of_lt_of_le h.low hb.size,es,clock,(hb.block m hlt).trans hm,F,hs,hD⟩
theorem jf.look {w:World} {p m n:Nat} {D:DataW Unit} (h:jf w p m n D) (x:ByteArray) (hx:x.size<=140737488355328) :
  ((Instr.lookup 74 (.map (some m)) (.string x) false).run Tryz.prog w=.ok (.pointer none) w/\tN D x=.nil) \/
  ∃ c:Nat,(Instr.lookup 74 (.map (some m)) (.string x) false).run Tryz.prog w=.ok (.pointer (some ⟨c,0,none⟩)) w/\tN D x=.lit (.int .i64 c):=by
 obtain ⟨v,ps,hrun,hv⟩:=h.own.lookup (z:=.pointer none) (zd:=.nil) (zp:=[]) YG Tryz.underlying74 (afq w) rfl (keyOf_string_mk Tryz.underlying9 (s:=x) (by unfold maxLen;omega));rcases Vt hv with ⟨rfl,e⟩ | ⟨c,rfl,e⟩
 ·exact .inl ⟨hrun,e⟩
 ·exact .inr ⟨c,hrun,e⟩
theorem mW {s:ByteArray} (h:eJ s=0):bM (tJ s):=by
 have h1:=(sV _).1 (M0 h);exact wD h1.1 (by have:=h1.2;omega)
theorem iy.atP {p:Nat->Prop} {w:World}:∀ {f:Nat} {v:Value} {t:T} {es:List kV},(∀ b ∈ q8 es,p b)->iy w f v t es->qg p w f v t:=by
 intro f
 induction f with
 | zero=>intro v t es _ h;exact h
 | succ f ih =>
  rintro v t es hp ⟨Lv,Kv,xs,sub,rfl,hf,hl,hk,hc,hn,rfl⟩;have hx:∀ b,b ∈ xI ⟨Lv,nL t,Kv,nK t⟩->p b:=fun b h=>hp b (by rw [aV,iw];simp [h]);obtain ⟨A,c,rfl⟩:=fC hl;obtain ⟨C,d,rfl⟩:=fC hk;refine ⟨A,C,c,d,rfl,hf,fun i hi=>?_,fun i hi=>?_⟩
  ·obtain ⟨g,cap,e,hg,_,_,hcell,_⟩:=wm hl (by omega);cases e;refine ⟨g,0,_,_,_,_,_,rfl,⟨hg,hx g (by simp [xI,Value.ownBlock])⟩,?_,?_,?_,?_,?_,ih (fun b h=>hp b (by rw [aV];exact List.mem_append_left _ (pK hi h))) (hc i hi)⟩
   ·rw [Nat.zero_add];exact hcell _ (by omega)
   ·rw [Nat.zero_add];exact hcell _ (by omega)
   ·rw [Nat.zero_add];exact hcell _ (by omega)
   ·rw [Nat.zero_add];exact hcell _ (by omega)
   ·rw [Nat.zero_add];exact hcell _ (by omega)
  ·obtain ⟨g,cap,e,hg,_,_,hcell,_⟩:=wm hk (by omega);cases e;refine ⟨g,0,rfl,⟨hg,hx g (by simp [xI,Value.ownBlock])⟩,hn i hi,?_⟩;rw [Nat.zero_add,hcell i (by omega)];have hi':i<(kQ t).length:=hi;simp [cx,gG,bR,List.getD_eq_getElem?_getD,hi']
theorem EM {Tb:World->Prop} (hD:dn Tb) (hN:dO Tb) (hL:aS Tb) (s:ByteArray) (w:World) (hs:s.size<=140737488355328) (hT:Tb w) (h0:eJ s=0) :
  Calls Tryz.prog 14 #[.string s] w fun e w'=>Below w.heap.size w w'/\∃ A B C D,e=.returned (.tuple #[.agg #[.int .i64 (ah (tJ s)),.int .i64 (au (tJ s)),.string (ay (tJ s)),.slice A (nL (tJ s)) B,.slice C (nK (tJ s)) D],.int .i64 0])/\qg (aT w w') w' 13 (.agg #[.int .i64 (ah (tJ s)),.int .i64 (au (tJ s)),.string (ay (tJ s)),.slice A (nL (tJ s)) B,.slice C (nK (tJ s)) D]) (tJ s):=by
 refine (Ac hD hN hL s w hs hT).mono ?_;rintro e w1 ⟨b1,es,A,B,C,D,rfl,hF,hS,h1,h2⟩;exact ⟨b1,A,B,C,D,by rw [h0],iy.atP hS.lies hF⟩
def afr (w w':World) (fv:Value) (t:T):Prop:=∀ w2:World,w'.heap.size<=w2.heap.size->(∀ b,w.heap.size<=b->b<w'.heap.size->w2.heap[b]?=w'.heap[b]?)->eP w2 16 fv t
theorem Vu {w w1 wA w3:World} {fv:Value} {t:T} (hr:iG ⟨w1,aT w w1⟩ w3 (aT wA w3) 16 fv t) (b1:Below w.heap.size w w1) (bA:Below w1.heap.size w1 wA) (b3:Below wA.heap.size wA w3):afr w w3 fv t:=by
 intro w2 hs hb;have s1:=b1.size;have sA:=bA.size;have s3:=b3.size;have h1:iG ⟨w1,aT w w1⟩ w2 (aT wA w3) 16 fv t:=iG.move (w0:=⟨w1,aT w w1⟩) (fun b h=>⟨hb b (by have:=h.1;omega) h.2,h⟩) 16 _ _ hr;refine iG.at (w0:=⟨w1,aT w w1⟩) (fun b h=>Nat.lt_of_lt_of_le h.2 hs) (fun f v u ha=>?_) 16 _ _ h1;have h2:qg (aT w w1) w1 f v u:=ha;exact (h2.move (q:=fun _=>True) (by omega) fun b h p=>⟨trivial,(hb b p.1 (by omega)).trans ((b3.block b (by omega)).trans (bA.block b h))⟩).at
def wP (w : World) (x s : ByteArray) (D : DataW Unit) (e : Ending) (w' : World) : Prop :=
  Below w.heap.size w w' /\
  ((eJ s ≠ 0 /\ e = .returned (.tuple #[.pointer none, .slice none 0 0, .int .i64 (eJ s)])) \/
   (eJ s = 0 /\ bH 16 (tJ s) = false /\ e = .returned (.tuple #[.pointer none, .slice none 0 0, .int .i64 8])) \/
   (eJ s = 0 /\ bH 16 (tJ s) = true /\ tN D x = .nil /\ e = .returned (.tuple #[.pointer none, .slice none 0 0, .int .i64 10])) \/
   (eJ s = 0 /\ bH 16 (tJ s) = true /\ ∃ c : Nat, tN D x = .lit (.int .i64 c) /\ ∃ fv, e = .returned (.tuple #[.pointer (some ⟨c, 0, none⟩), fv, .int .i64 0]) /\ eP w' 16 fv (tJ s) /\ afr w w' fv (tJ s)))
theorem RN {Tb:World->Prop} (hD:dn Tb) (hN:dO Tb) (hL:aS Tb) (p:Nat) (D:DataW Unit) (x s:ByteArray) (w:World) (hs:s.size<=140737488355328) (hT:Tb w) (h0:eJ s≠0) (fn:Value) :
  Calls Tryz.prog 54 #[.pointer (some ⟨p,0,none⟩),.string x,.string s,fn] w (wP w x s D):=by
 have HP:=aj (Ac hD hN hL s w hs hT);have H0:=aj h0;have ez:(eJ s==0)=false:=by simpa using h0
 clear hT hD hN hL h0;go_in;go_wp2_with fail;refine HP.out.mono ?_;rintro e w1 ⟨b1,es,A,B,C,D',rfl,hF,hS,h1,h2⟩;have HB:=aj (b1.alloc b1.size (vC (tJ s) A B C D'));clear b1 hF hS h1 h2 HP;go_wp2_with fail;refine bodyPost_ret (v:=.tuple #[.pointer none,.slice none 0 0,.int .i64 (eJ s)]) (by simp [results,Tryz.results54,go_sem, *]) rfl ?_;exact ⟨HB.out,.inl ⟨H0.out,rfl⟩⟩
theorem Vv {Tb:World->Prop} (hD:dn Tb) (hN:dO Tb) (hL:aS Tb) (s:ByteArray) (w:World) (hs:s.size<=140737488355328) (hT:Tb w) (h0:eJ s=0) :
  Calls Tryz.prog 14 #[.string s] w fun e w'=>Below w.heap.size w w'/\∃ A B C D',e=.returned (.tuple #[.agg #[.int .i64 (ah (tJ s)),.int .i64 (au (tJ s)),.string (ay (tJ s)),.slice A (nL (tJ s)) B,.slice C (nK (tJ s)) D'],.int .i64 0])/\At w' 13 (.agg #[.int .i64 (ah (tJ s)),.int .i64 (au (tJ s)),.string (ay (tJ s)),.slice A (nL (tJ s)) B,.slice C (nK (tJ s)) D']) (tJ s):=by
 refine (Ac hD hN hL s w hs hT).mono ?_;rintro e w1 ⟨b1,es,A,B,C,D',rfl,hF,hS,h1,h2⟩;exact ⟨b1,A,B,C,D',by rw [h0],hF.at⟩
theorem Vw {Tb:World->Prop} (hD:dn Tb) (hN:dO Tb) (hSp:dw Tb) (hL:aS Tb) (p m n:Nat) (D:DataW Unit) (x s:ByteArray) (w:World) (hs:s.size<=140737488355328) (hx:x.size<=140737488355328) (hst:jf w p m n D) (hT:Tb w) (h0:eJ s=0) :
  Calls Tryz.prog 54 #[.pointer (some ⟨p,0,none⟩),.string x,.string s,.func (Fn.func 55) #[] #[]] w (wP w x s D):=by
 have HP:=aj (EM hD hN hL s w hs hT h0);have H0:=aj h0;have HK:=aj (mW h0);have sw:=aj hst;have HT:Hid (∀ w':World,Below w.heap.size w w'->Tb w'):=fun w' hb=>hL w hT w w' hT hb;have HF:Hid (∀ (v:Value) (w0:lN) (w1:World),xS w0 13 v (tJ s)->Below w0.w.heap.size w0.w w1->Tb w1->Calls Tryz.prog 55 #[v] w1 (PG w0 (tJ s) w1)):=fun v w0 w1 ha hb ht=>vo hSp hL w0 13 v (tJ s) w1 (by omega) ha HK.out hb ht;clear hT hD hN hL h0 hst hSp;go_in;go_wp2_with fail;refine HP.out.mono ?_;rintro e w1 ⟨b1,A,B,C,D',rfl,ha⟩;have fF:=aj (aQ w1 (vC (tJ s) A B C D'));have HB2:=aj (b1.trans (fF.out.mono b1.size));have HC:=aj (HF.out _ ⟨w1,aT w w1⟩ _ ha fF.out (HT.out _ HB2.out));have Hb1:=aj b1;clear b1 ha HP;go_wp2_with fail;refine HC.out.mono ?_;rintro e w3 ⟨b3,⟨hok,fv,rfl,hr⟩ | ⟨hok,rfl⟩⟩
 ·have HB3:=aj (HB2.out.trans (b3.mono HB2.out.size));have HFs:=aj (Vu hr Hb1.out fF.out b3);have Rn:=aj (HFs.out w3 (Nat.le_refl _) fun _ _ _=>rfl);have HO:=aj hok;have D7:=aj (sw.out.keep HB3.out);have c0:=D7.out.cell;clear b3 hr hok HC fF HB2 sw HF HT;rcases D7.out.look x hx with ⟨hrun,hat⟩ | ⟨c,hrun,hat⟩
  ·have lK:=aj hat;clear hat;go_wp2_with fail;refine bodyPost_ret (v:=.tuple #[.pointer none,.slice none 0 0,.int .i64 10]) (by simp [results,Tryz.results54,go_sem, *]) rfl ?_;exact ⟨HB3.out,.inr (.inr (.inl ⟨H0.out,HO.out,lK.out,rfl⟩))⟩
  ·have lK:=aj hat;clear hat;go_wp2_with fail;refine bodyPost_ret (v:=.tuple #[.pointer (some ⟨c,0,none⟩),fv,.int .i64 0]) (by simp [results,Tryz.results54,go_sem, *]) rfl ?_;exact ⟨HB3.out,.inr (.inr (.inr ⟨H0.out,HO.out,c,lK.out,fv,rfl,Rn.out,HFs.out⟩))⟩
 ·have HB3:=aj (HB2.out.trans (b3.mono HB2.out.size));have HO:=aj hok;clear b3 hok HC fF HB2 sw HF HT;go_wp2_with fail;refine bodyPost_ret (v:=.tuple #[.pointer none,.slice none 0 0,.int .i64 8]) (by simp [results,Tryz.results54,go_sem, *]) rfl ?_;exact ⟨HB3.out,.inr (.inl ⟨H0.out,HO.out,rfl⟩)⟩
theorem RO {Tb:World->Prop} (hD:dn Tb) (hN:dO Tb) (hSp:dw Tb) (hL:aS Tb) (p m n:Nat) (D:DataW Unit) (x s:ByteArray) (w:World) (hs:s.size<=140737488355328) (hx:x.size<=140737488355328) (hst:jf w p m n D) (hT:Tb w) :
  Calls Tryz.prog 54 #[.pointer (some ⟨p,0,none⟩),.string x,.string s,.func (Fn.func 55) #[] #[]] w (wP w x s D):=by
 by_cases h0:eJ s=0
 ·exact Vw hD hN hSp hL p m n D x s w hs hx hst hT h0
 ·exact RN hD hN hL p D x s w hs hT h0 _
theorem M4 {Tb:World->Prop} (hD:dn Tb) (hN:dO Tb) (hSp:dw Tb) (hL:aS Tb) (p m n:Nat) (D:DataW Unit) (x s:ByteArray) (w:World) (hs:s.size<=140737488355328) (hx:x.size<=140737488355328) (hst:jf w p m n D) (hT:Tb w) :
  Calls Tryz.prog 33 #[.pointer (some ⟨p,0,none⟩),.string x,.string s] w (wP w x s D):=by
 have HC:=aj (RO hD hN hSp hL p m n D x s w hs hx hst hT);clear hD hN hSp hL hst hT hs hx;go_in;go_wp2_with fail;refine HC.out.mono ?_;rintro e w1 ⟨b1,⟨h1,rfl⟩ | ⟨h1,h2,rfl⟩ | ⟨h1,h2,h3,rfl⟩ | ⟨h1,h2,c,h3,fv,rfl,h4⟩⟩
 ·have HB:=aj b1;have H1:=aj h1;clear b1 h1 HC;go_wp2_with fail;refine bodyPost_ret (v:=.tuple #[.pointer none,.slice none 0 0,.int .i64 (eJ s)]) (by simp [results,Tryz.results33,go_sem, *]) rfl ?_;exact ⟨HB.out,.inl ⟨H1.out,rfl⟩⟩
 ·have HB:=aj b1;have H1:=aj (And.intro h1 h2);clear b1 h1 h2 HC;go_wp2_with fail;refine bodyPost_ret (v:=.tuple #[.pointer none,.slice none 0 0,.int .i64 8]) (by simp [results,Tryz.results33,go_sem, *]) rfl ?_;exact ⟨HB.out,.inr (.inl ⟨H1.out.1,H1.out.2,rfl⟩)⟩
 ·have HB:=aj b1;have H1:=aj (And.intro h1 (And.intro h2 h3));clear b1 h1 h2 h3 HC;go_wp2_with fail;refine bodyPost_ret (v:=.tuple #[.pointer none,.slice none 0 0,.int .i64 10]) (by simp [results,Tryz.results33,go_sem, *]) rfl ?_;exact ⟨HB.out,.inr (.inr (.inl ⟨H1.out.1,H1.out.2.1,H1.out.2.2,rfl⟩))⟩
 ·have HB:=aj b1;have H1:=aj (And.intro h1 (And.intro h2 (And.intro h3 h4)));clear b1 h1 h2 h3 h4 HC;go_wp2_with fail;refine bodyPost_ret (v:=.tuple #[.pointer (some ⟨c,0,none⟩),fv,.int .i64 0]) (by simp [results,Tryz.results33,go_sem, *]) rfl ?_;exact ⟨HB.out,.inr (.inr (.inr ⟨H1.out.1,H1.out.2.1,c,H1.out.2.2.1,fv,rfl,H1.out.2.2.2⟩))⟩
end Go.Proofs.YtknakfpciccoaabGreatDoor
/- The walk of Find. -/
namespace Go.Proofs.YtknakfpciccoaabGreatDoor
open Go.RowKit Go.Maps Go.WideMaps
theorem M5 (k n:Int) (s:ByteArray) (l:List T) (ks:List ByteArray):∀ j,j<=l.length->Va (aX k n s l ks) j=(l.take j).map fun t=>.string (PN t)
 | 0,_=>rfl
 | j+1,h=>by
  have e:elt (aX k n s l ks) j=l[j]:=by rw [iR,List.getD_eq_getElem?_getD,List.getElem?_eq_getElem h];rfl
  rw [Va,M5 k n s l ks j (by omega),e,List.take_add_one,List.getElem?_eq_getElem h];simp only [Option.toList_some,List.map_append,List.map_cons,List.map_nil]
def Bv (w:World) (c f:Nat) (d:T):Prop:=∃ La Lc,w.cell? ⟨c,0,none⟩=some (.slice La (nL d) Lc)/\c<w.heap.size/\bK w f La d
theorem Bv.keep {w w':World} {c f:Nat} {d:T} (h:Bv w c f d) (hb:Below w.heap.size w w'):Bv w' c f d:=by
 obtain ⟨La,Lc,h1,h2,h3⟩:=h;exact ⟨La,Lc,(hb.cell (p:=⟨c,0,none⟩) h2).trans h1,Nat.lt_of_lt_of_le h2 hb.size,h3.keep hb⟩
def Vx (s:ByteArray) (d:T):List T:=je (gy 16 (tJ s)) d (nL d)
def Vy (w : World) (x s : ByteArray) (D : DataW Unit) (P5 : Nat -> T) (e : Ending) (w' : World) : Prop :=
  Below w.heap.size w w' /\
  ((eJ s ≠ 0 /\ e = .returned (.tuple #[.slice none 0 0, .int .i64 (eJ s)])) \/
   (eJ s = 0 /\ bH 16 (tJ s) = false /\ e = .returned (.tuple #[.slice none 0 0, .int .i64 8])) \/
   (eJ s = 0 /\ bH 16 (tJ s) = true /\ tN D x = .nil /\ e = .returned (.tuple #[.slice none 0 0, .int .i64 10])) \/
   (eJ s = 0 /\ bH 16 (tJ s) = true /\ ∃ c : Nat, tN D x = .lit (.int .i64 c) /\ ∃ sv, e = .returned (.tuple #[sv, .int .i64 0]) /\ w'.ownsRow w.heap.size 9 1 sv (Vx s (P5 c)).length ((Vx s (P5 c)).map fun t => .string (PN t))))
structure bP (Tb:World->Prop):Prop where
 dec:dn Tb
 int:dO Tb
 split:dw Tb
 atoi:dx Tb
 itoa:bn Tb
 valid:bJ Tb
 fmt:qD Tb
 lies:aS Tb
theorem Bw {w:World} {lo lo':Nat} {e:TypeId} {s n:Nat} {v:Value} {xs:List Value} (h:w.ownsRow lo e s v n xs) (hl:lo'<=lo):w.ownsRow lo' e s v n xs:=by
 refine ⟨h.1,?_⟩;rcases h.2 with hn | ⟨g,cap,cur,rfl,hb0,rest⟩
 ·exact .inl hn
 ·exact .inr ⟨g,cap,cur,rfl,Nat.le_trans hl hb0,rest⟩
theorem J9 {Tb:World->Prop} (hA:bP Tb) (p m n f:Nat) (D:DataW Unit) (P5:Nat->T) (x s:ByteArray) (w:World) (hs:s.size<=140737488355328) (hx:x.size<=140737488355328) (hst:jf w p m n D)
  (hc:∀ c:Nat,tN D x=.lit (.int .i64 c)->Bv w c f (P5 c)/\nL (P5 c)<=1000000/\∀ i,i<nL (P5 c)->bM (elt (P5 c) i)) (hf:f<=16) (hT:Tb w) :
  Calls Tryz.prog 17 #[.pointer (some ⟨p,0,none⟩),.string x,.string s] w (Vy w x s D P5):=by
 have HC:=aj (M4 hA.dec hA.int hA.split hA.lies p m n D x s w hs hx hst hT);have Hc:=aj hc;have HT:Hid (∀ w':World,Below w.heap.size w w'->Tb w'):=fun w' hb=>hA.lies w hT w w' hT hb;have HAm:Hid (∀ (JF:Value) (t d:T) (La:Option Addr) (Lc:Nat) (w:World),eP w 16 JF t->bK w f La d->nL d<=1000000->(∀ i,i<nL d->bM (elt d i))->Tb w->Calls Tryz.prog 34 #[JF,.slice La (nL d) Lc] w fun e w'=>∃ hv xs,e=.returned hv/\uh w f hv (je (gy 16 t) d (nL d)) xs w'):=fun JF t d La Lc w h1 h2 h3 h4 h5=>Bd hA.lies 16 (z8 hA.atoi hA.itoa hA.lies 16) JF t d f La Lc w h1 h2 h3 hf h4 h5;have HPr:Hid (∀ (d:T) (La:Option Addr) (Lc:Nat) (w:World),bK w f La d->nL d<=1000000->Tb w->Calls Tryz.prog 24 #[.slice La (nL d) Lc] w fun e w'=>Below w.heap.size w w'/\∃ sv,e=.returned sv/\w'.ownsRow w.heap.size 9 1 sv (nL d) (Va d (nL d))):=fun d La Lc w h1 h2 h3=>wO hA.valid hA.fmt hA.lies d f La Lc w h1 h2 h3;clear hst hT hs hx hc hA hf;go_in;go_wp2_with fail;refine HC.out.mono ?_;rintro e w1 ⟨b1,⟨h1,rfl⟩ | ⟨h1,h2,rfl⟩ | ⟨h1,h2,h3,rfl⟩ | ⟨h1,h2,c,h3,fv,rfl,h4,_⟩⟩
 ·have HB:=aj b1;have H1:=aj h1;have ez:(eJ s==0)=false:=by simpa using h1
  clear b1 h1 HC;go_wp2_with fail;refine bodyPost_ret (v:=.tuple #[.slice none 0 0,.int .i64 (eJ s)]) (by simp [results,Tryz.results17,go_sem, *]) rfl ?_;exact ⟨HB.out,.inl ⟨H1.out,rfl⟩⟩
 ·have HB:=aj b1;have H1:=aj (And.intro h1 h2);clear b1 h1 h2 HC;go_wp2_with fail;refine bodyPost_ret (v:=.tuple #[.slice none 0 0,.int .i64 8]) (by simp [results,Tryz.results17,go_sem, *]) rfl ?_;exact ⟨HB.out,.inr (.inl ⟨H1.out.1,H1.out.2,rfl⟩)⟩
 ·have HB:=aj b1;have H1:=aj (And.intro h1 (And.intro h2 h3));clear b1 h1 h2 h3 HC;go_wp2_with fail;refine bodyPost_ret (v:=.tuple #[.slice none 0 0,.int .i64 10]) (by simp [results,Tryz.results17,go_sem, *]) rfl ?_;exact ⟨HB.out,.inr (.inr (.inl ⟨H1.out.1,H1.out.2.1,H1.out.2.2,rfl⟩))⟩
 ·obtain ⟨hco,hn,hok⟩:=Hc.out c h3;obtain ⟨La,Lc,q0,hcl,hel⟩:=hco.keep b1;have HB:=aj b1;have H1:=aj (And.intro h1 (And.intro h2 h3));have HM:=aj (HAm.out fv (tJ s) (P5 c) La Lc w1 h4 hel hn hok (HT.out _ b1));have Hn:=aj hn;clear b1 h1 h2 h3 h4 HC hco hel hok HAm hcl hn;go_wp2_with fail;refine HM.out.mono ?_;rintro e w2 ⟨hv,xs,rfl,hh⟩;obtain ⟨La2,Lc2,rfl,afs⟩:=hh.elems;have HB2:=aj (HB.out.trans (hh.low.mono HB.out.size));have HR:=aj (HPr.out _ La2 Lc2 w2 afs (by rw [aI];exact Nat.le_trans (Bb _ _ _) Hn.out) (HT.out _ HB2.out));rw [aI] at HR
  have YU:Hid (Va (aX 5 0 ByteArray.empty (je (gy 16 (tJ s)) (P5 c) (nL (P5 c))) []) (je (gy 16 (tJ s)) (P5 c) (nL (P5 c))).length=(Vx s (P5 c)).map fun t=>.string (PN t)):=by
   show _=_;rw [M5 _ _ _ _ _ _ (Nat.le_refl _),List.take_length];rfl
  rw [YU.out] at HR;clear hh afs HM HPr;go_wp2_with fail;refine HR.out.mono ?_;rintro e w3 ⟨b3,sv,rfl,ho⟩;have HB3:=aj (HB2.out.trans (b3.mono HB2.out.size));have HO:=aj (Bw ho HB2.out.size);clear b3 ho HR;go_wp2_with fail;refine bodyPost_ret (v:=.tuple #[sv,.int .i64 0]) (by simp [results,Tryz.results17,go_sem, *]) rfl ?_;exact ⟨HB3.out,.inr (.inr (.inr ⟨H1.out.1,H1.out.2.1,c,H1.out.2.2,sv,rfl,HO.out⟩))⟩
end Go.Proofs.YtknakfpciccoaabGreatDoor
