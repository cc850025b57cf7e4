import Derived.Test.YtknakfpciccoaaaGreatDoorZC15
import Derived.Test.YtknakfpciccoaaaGreatDoorZC4
import Derived.Test.YtknakfpciccoaaaGreatDoorZC16
import Derived.Lib.ItoaLen
import Derived.Test.YtknakfpciccoaaaGreatDoorZC9
/- Texts and values, pure: what was written is read as it was: texts and numbers. -/
namespace Go.Proofs.YtknakfpciccoaaaGreatDoor
open Go.RowKit
def oq (s:ByteArray) (i:Nat) (l:List UInt8):Prop:=∃ r,s.data.toList.drop i=l++r
theorem oq.app {s:ByteArray} {i:Nat} {a b:List UInt8} (h:oq s i (a++b)):oq s i a/\oq s (i+a.length) b:=by
 obtain ⟨r,h⟩:=h;refine ⟨⟨b++r,by rw [h,List.append_assoc]⟩,⟨r,?_⟩⟩;rw [<- List.drop_drop,h,List.append_assoc,List.drop_left]
theorem oq.le {s:ByteArray} {i:Nat} {l:List UInt8} (h:oq s i l) (h0:l≠[]):i+l.length<=s.size:=by
 obtain ⟨r,h⟩:=h;have hs:s.data.toList.length=s.size:=rfl;have:=congrArg List.length h;rw [List.length_drop,List.length_append,hs] at this;have:0<l.length:=List.length_pos_iff.2 h0;omega
theorem oq.byte {s:ByteArray} {i j:Nat} {l:List UInt8} (h:oq s i l) (hj:j<l.length):bt s (i+j)=(l.getD j 0).toNat:=by
 obtain ⟨r,h⟩:=h;rw [tQ]
 congr 1
 have:(s.data.toList.drop i).getD j 0=(l++r).getD j 0:=by rw [h]
 simp only [List.getD_eq_getElem?_getD,List.getElem?_drop] at this ⊢;rw [this,List.getElem?_append_left hj]
theorem oq.at {s:ByteArray} {i j:Nat} {l:List UInt8} (h:oq s i l) (hj:j<l.length):cB s (i+j)=(l.getD j 0).toNat:=by
 have:=h.le (by intro e;subst e;simp at hj);rw [wo (by omega),h.byte hj]
theorem oq.head {s:ByteArray} {i:Nat} {c:UInt8} {l:List UInt8} (h:oq s i (c::l)):cB s i=c.toNat/\oq s (i+1) l:=by
 refine ⟨?_,(oq.app (a:=[c]) (b:=l) h).2⟩;have:=h.at (j:=0) (by simp);simpa using this
theorem oq.take {s:ByteArray} {i:Nat} {l:List UInt8} (h:oq s i l):(s.data.toList.drop i).take l.length=l:=by
 obtain ⟨r,h⟩:=h;rw [h,List.take_left]
theorem EU {n:Nat} (h:n<16):pz (zQ n).toNat=some n:=by
 have:∀ n:Fin 16,pz (zQ n.1).toNat=some n.1:=by decide
 exact this ⟨n,h⟩
theorem Kq {c:UInt8} (h:c.toNat<128):Lib.encodeRune (c.toNat:Int)=[c]:=by
 unfold Lib.encodeRune;rw [Lib.encodeRuneZ_one (by omega) (by omega)];simp
theorem VK {s:ByteArray} {i:Nat} {c:UInt8} (h:oq s i [48,48,zQ (c.toNat / 16),zQ (c.toNat % 16)]) (hc:c.toNat<32):rA s i=some c.toNat:=by
 have h0:=h.at (j:=0) (by simp);have h1:=h.at (j:=1) (by simp);have h2:=h.at (j:=2) (by simp);have h3:=h.at (j:=3) (by simp);simp only [List.getD_cons_zero,List.getD_cons_succ] at h0 h1 h2 h3;have e:pz (48:UInt8).toNat=some 0:=by decide
 unfold rA;simp only [uH,Option.bind_some];rw [h0,h1,h2,h3,e,EU (by omega),EU (by omega)];simp only [Option.bind_some,Option.some.injEq];omega
theorem zn {a b:ByteArray}:∀ k,(∀ j,j<=k->bt a j=bt b j)->jJ a k=jJ b k
 | 0,_=>rfl
 | k+1,h=>by rw [jJ,jJ,zn k (fun j hj=>h j (by omega)),h (k+1) (Nat.le_refl _)]
theorem EW {a b:ByteArray} (c:Int):∀ k,(∀ j,j<=k->bt a j=bt b j)->AX a c k=AX b c k
 | 0,_=>rfl
 | k+1,h=>by rw [AX,AX,EW c k (fun j hj=>h j (by omega)),h (k+1) (Nat.le_refl _)]
theorem yB {a b:ByteArray} {n:Nat} {least c:Int} (hn:0<n) (h0:rZ a n least c≠0) (hb:rZ a n least c<=b.size) (h:∀ j,j<rZ a n least c->bt a j=bt b j):rZ b n least c=rZ a n least c:=by
 have hn2:rZ a n least c=n:=by
  unfold rZ at h0 ⊢;split
  ·rename_i h1;rw [if_pos h1] at h0;exact absurd rfl h0
  ·rename_i h1;rw [if_neg h1] at h0;split
   ·rename_i h2;rw [if_pos h2] at h0;exact absurd rfl h0
   ·rename_i h2;rw [if_neg h2] at h0;split
    ·rename_i h3;rw [if_pos h3] at h0;exact absurd rfl h0
    ·rfl
 rw [hn2] at hb h;have e1:=zn (a:=a) (b:=b) (n - 1) (fun j hj=>h j (by omega));have e2:=EW (a:=a) (b:=b) c (n - 1) (fun j hj=>h j (by omega));have ha:=h0;unfold rZ at ha ⊢;rw [if_neg (by omega),<- e1,<- e2];split at ha
 ·exact absurd rfl ha
 ·rename_i h1;rw [if_neg h1]
theorem EX {a b:ByteArray} (h0:kE a≠0) (hb:kE a<=b.size) (h:∀ j,j<kE a->bt a j=bt b j):kE b=kE a:=by
 have hb0:bt b 0=bt a 0:=(h 0 (by omega)).symm;unfold kE at h0 hb h ⊢;rw [hb0];split
 ·rfl
 ·rename_i h1;rw [if_neg h1] at h0 hb h;split
  ·rename_i h2;rw [if_pos h2] at h0 hb h;exact yB (by omega) h0 hb h
  ·rename_i h2;rw [if_neg h2] at h0 hb h;split
   ·rename_i h3;rw [if_pos h3] at h0 hb h;exact yB (by omega) h0 hb h
   ·rename_i h3;rw [if_neg h3] at h0 hb h;split
    ·rename_i h4;rw [if_pos h4] at h0 hb h;exact yB (by omega) h0 hb h
    ·rfl
theorem Qo {c:UInt8} (h1:c.toNat≠34) (h2:c.toNat≠92) (h3:32<=c.toNat):jP c=[c]:=Vv (by omega) (by omega)
theorem Za {l:List UInt8} (h:∀ c ∈ l,jP c=[c]):l.flatMap jP=l:=by
 induction l with
 | nil=>rfl
 | cons c l ih=>rw [List.flatMap_cons,h c (by simp),ih (fun x hx=>h x (by simp [hx]))];rfl
theorem uf {s:ByteArray}:∀ k,jJ s k=true->∀ j,1<=j->j<=k->128<=bt s j
 | 0,_,j,h1,h2=>by omega
 | k+1,h,j,h1,h2=>by
  simp only [jJ,Bool.and_eq_true,decide_eq_true_eq] at h;by_cases e:j=k+1
  ·subst e;exact h.2.1
  ·exact uf k h.1 j h1 (by omega)
theorem GY {s:ByteArray} {n:Nat} {least c:Int} (h0:rZ s n least c≠0):rZ s n least c=n/\jJ s (n - 1)=true:=by
 unfold rZ at h0 ⊢;split at h0
 ·exact absurd rfl h0
 ·rename_i h1;rw [if_neg h1];split at h0
  ·exact absurd rfl h0
  ·rename_i h2;rw [if_neg h2];split at h0
   ·exact absurd rfl h0
   ·rename_i h3;rw [if_neg h3];exact ⟨rfl,by simpa using h2⟩
theorem R9 {s:ByteArray} (h0:kE s≠0):∀ j,1<=j->j<kE s->128<=bt s j:=by
 intro j hj1 hj2;unfold kE at h0 hj2;split at hj2
 ·omega
 ·rename_i h1;rw [if_neg h1] at h0;split at hj2
  ·rename_i h2;rw [if_pos h2] at h0;obtain ⟨e1,e2⟩:=GY h0;exact uf _ e2 j hj1 (by omega)
  ·rename_i h2;rw [if_neg h2] at h0;split at hj2
   ·rename_i h3;rw [if_pos h3] at h0;obtain ⟨e1,e2⟩:=GY h0;exact uf _ e2 j hj1 (by omega)
   ·rename_i h3;rw [if_neg h3] at h0;split at hj2
    ·rename_i h4;rw [if_pos h4] at h0;obtain ⟨e1,e2⟩:=GY h0;exact uf _ e2 j hj1 (by omega)
    ·omega
theorem Nv {l:List UInt8} (hne:l≠[]) (hv:Lib.validD l=true):∃ u,1<=u/\u<=l.length/\kE (bP l)=u/\Lib.validD (l.drop u)=true:=by
 have hd:=qh (bP l);rw [bK] at hd;have hu:=nJ (bP l);rw [<- hd] at hu;rw [Lib.validD_step l hne] at hv;split at hv
 ·cases hv
 ·rename_i h1;rw [if_neg h1] at hu;have hp:0<l.length:=List.length_pos_iff.2 hne;have hr:=jK (bP l) (by rw [fU];exact hp);rw [<- hd,fU] at hr;exact ⟨_,hr.1,hr.2.1,hu,hv⟩
theorem kJ (l:List UInt8) (j:Nat):bt (bP l) j=(l.getD j 0).toNat:=by rw [tQ,bK]
theorem Aw {s:ByteArray}:∀ (N:Nat) (l:List UInt8) (n i:Nat),l.length<=N->Lib.validD l=true->oq s i (l.flatMap jP++[34])->l.length<n->lJ s n i=some (l,i+(l.flatMap jP).length+1)
 | N,[],n,i,_,_,h,hn=>by
  obtain ⟨n,rfl⟩:∃ m,n=m+1:=⟨n - 1,by simp at hn;omega⟩;have:=(oq.head (c:=34) (l:=[]) h).1;rw [AZ (by rw [this];rfl)];rfl
 | 0,c::l,n,i,hN,_,_,_=>by simp at hN
 | N+1,c::l,n,i,hN,hv,h,hn=>by
  obtain ⟨n,rfl⟩:∃ m,n=m+1:=⟨n - 1,by simp at hn;omega⟩;simp only [List.length_cons] at hN hn;by_cases hq:c.toNat=34\/c.toNat=92
  ·have e:(c::l).flatMap jP++[34]=92::c::(l.flatMap jP++[34]):=by rw [List.flatMap_cons,Np hq];rfl
   rw [e] at h;obtain ⟨h1,h⟩:=h.head;obtain ⟨h2,h⟩:=h.head;have h1':cB s i=92:=h1;have ih:=Aw N l n (i+1+1) (by omega) (by rw [Lib.validD_cons c l (by omega)] at hv;exact hv) h (by omega)
   have hl:jW s i=some (c.toNat,i+1+1):=by
    unfold jW;rw [if_pos h1'];unfold oH;rw [h2,if_pos (by omega)]
   rw [lJ,if_neg (by omega),hl];simp only [Option.bind_some];rw [ih,List.flatMap_cons,Np hq,List.length_append,Kq (by omega)];simp only [Option.map_some,List.length_cons,List.length_nil,List.cons_append,List.nil_append,Option.some.injEq,Prod.mk.injEq,true_and];omega
  ·by_cases hu:c.toNat<32
   ·have e:(c::l).flatMap jP++[34]=[92,117]++([48,48,zQ (c.toNat / 16),zQ (c.toNat % 16)]++(l.flatMap jP++[34])):=by rw [List.flatMap_cons,Nq hq hu];rfl
    rw [e] at h;obtain ⟨h0,h⟩:=h.app;obtain ⟨h3,h⟩:=h.app;have h1:cB s i=92:=(oq.head (c:=92) h0).1;have h2:cB s (i+1)=117:=(oq.head (c:=117) (oq.head (c:=92) h0).2).1;have h4:=VK h3 hu;have h4':rA s (i+1+1)=some c.toNat:=h4;have ih:=Aw N l n (i+6) (by omega) (by rw [Lib.validD_cons c l (by omega)] at hv;exact hv) h (by omega)
    have hl:jW s i=some (c.toNat,i+6):=by
     unfold jW;rw [if_pos h1];unfold oH;rw [h2,if_neg (by omega),if_neg (by omega),if_neg (by omega),if_neg (by omega),if_neg (by omega),if_neg (by omega),if_pos rfl,h4'];simp only [Option.bind_some];unfold low;rw [if_pos (by omega)]
    rw [lJ,if_neg (by omega),hl];simp only [Option.bind_some];rw [ih,List.flatMap_cons,Nq hq hu,List.length_append,Kq (by omega)];simp only [Option.map_some,List.length_cons,List.length_nil,List.cons_append,List.nil_append,Option.some.injEq,Prod.mk.injEq,true_and];omega
   ·obtain ⟨u,u1,u2,hun,hvu⟩:=Nv (l:=c::l) (by simp) hv
    have ahJ:((c::l).take u).flatMap jP=(c::l).take u:=by
     apply Za;intro x hx;obtain ⟨j,hj,rfl⟩:=List.getElem_of_mem hx;rw [List.length_take] at hj;rw [List.getElem_take];by_cases hj0:j=0
     ·subst hj0;exact Qo (by simp;omega) (by simp;omega) (by simp;omega)
     ·have hh:=R9 (s:=bP (c::l)) (by omega) j (by omega) (by omega);rw [kJ] at hh;have hjl:j<(c::l).length:=by omega
      simp only [List.getD_eq_getElem?_getD,List.getElem?_eq_getElem hjl,Option.getD_some] at hh;exact Qo (by omega) (by omega) (by omega)
    have e:(c::l).flatMap jP=(c::l).take u++((c::l).drop u).flatMap jP:=by
     conv=>lhs;rw [<- List.take_append_drop u (c::l),List.flatMap_append,ahJ]
    rw [e,List.append_assoc] at h;obtain ⟨h1,h2⟩:=h.app;have hlt:((c::l).take u).length=u:=by rw [List.length_take];omega
    rw [hlt] at h2;have hne:(c::l).take u≠[]:=by intro e2;rw [e2] at hlt;simp at hlt;omega
    have hle:=h1.le hne;rw [hlt] at hle
    have hc0:cB s i=c.toNat:=by
     have:=h1.at (j:=0) (by omega);rw [Nat.add_zero] at this;rw [this];obtain ⟨u',rfl⟩:∃ u',u=u'+1:=⟨u - 1,by omega⟩;rfl
    have hus:kE (oG s i)=u:=by
     rw [<- hun];refine EX (by omega) (by rw [pq];omega) fun j hj=>?_;rw [hun] at hj;rw [Gc,h1.byte (by omega),kJ];simp only [List.getD_eq_getElem?_getD,List.getElem?_take];rw [if_pos hj]
    obtain ⟨r,hl,hen,_⟩:=Eb (s:=s) (i:=i) (by omega) (by omega) (by omega) (by omega);rw [hus] at hl hen
    have ae2:Lib.encodeRune (r:Int)=(c::l).take u:=by
     rw [hen,kR];have:=h1.take;rw [hlt] at this;exact this
    have hdl:((c::l).drop u).length<=N:=by rw [List.length_drop,List.length_cons];omega
    have ih:=Aw N ((c::l).drop u) n (i+u) hdl hvu h2 (by rw [List.length_drop,List.length_cons];omega);rw [lJ,if_neg (by omega),hl];simp only [Option.bind_some];rw [ih,ae2,e,List.length_append,hlt];simp only [Option.map_some,List.take_append_drop,Option.some.injEq,Prod.mk.injEq,true_and];omega
theorem VL (c:UInt8):1<=(jP c).length:=by
 unfold jP;split
 ·simp
 ·split<;>simp
theorem Qp {s x:ByteArray} {i:Nat} (hv:Ah x=true) (h:oq s i (cO x)):jL s i=some (x,i+(cO x).length):=by
 have hx:x.data.toList.length=x.size:=rfl;have e0:iA x x.size=x.data.toList.flatMap jP:=by unfold iA;rw [List.take_of_length_le (Nat.le_of_eq hx)]
 have hle:=h.le (by simp [cO]);unfold cO at h;obtain ⟨h1,h2⟩:=h.head;rw [e0] at h2;have hlen:(cO x).length=(x.data.toList.flatMap jP).length+2:=by simp [cO,e0]
 have hge:x.data.toList.length<=(x.data.toList.flatMap jP).length:=by
  have:∀ l:List UInt8,l.length<=(l.flatMap jP).length:=by
   intro l
   induction l with
   | nil=>simp
   | cons c l ih =>
    have:=VL c;rw [List.flatMap_cons,List.length_append,List.length_cons];omega
  exact this _
 have:=Aw x.data.toList.length x.data.toList (s.size+1) (i+1) (Nat.le_refl _) hv h2 (by omega);unfold jL;rw [if_pos (by rw [h1];rfl),this];simp only [Option.map_some,Option.some.injEq,Prod.mk.injEq];exact ⟨VG x,by omega⟩
theorem qH:∀ n:Nat,Gf (Lib.decDigits n)/\Bd 0 (Lib.decDigits n)=n/\1<=(Lib.decDigits n).length/\(1<=n->((Lib.decDigits n).getD 0 0).toNat≠48)/\(n<10->(Lib.decDigits n).length=1):=by
 intro n
 induction n using Nat.strongRecOn with
 | ind n ih =>
  have hb:∀ d:Nat,d<10->(UInt8.ofNat (48+d)).toNat=48+d:=fun d hd=>by rw [UInt8.toNat_ofNat'];omega
  by_cases hs:n<10
  ·rw [Lib.decDigits_one hs];refine ⟨fun c hc=>?_,?_,by simp,fun h=>?_,fun _=>by simp⟩
   ·simp only [List.mem_singleton] at hc;subst hc;rw [hb n hs];omega
   ·rw [kF,mH,hb n hs];omega
   ·simp only [List.getD_cons_zero];rw [hb n hs];omega
  ·have e:Lib.decDigits n=Lib.decDigits (n / 10)++[UInt8.ofNat (48+n % 10)]:=by rw [Lib.decDigits,dif_neg hs]
   obtain ⟨i1,i2,i3,i4,_⟩:=ih (n / 10) (by omega);rw [e];refine ⟨fun c hc=>?_,?_,by simp,fun _=>?_,fun h=>by omega⟩
   ·rw [List.mem_append] at hc;rcases hc with hc | hc
    ·exact i1 c hc
    ·simp only [List.mem_singleton] at hc;subst hc;rw [hb _ (by omega)];omega
   ·rw [yY,i2,kF,mH,hb _ (by omega)];omega
   ·have:=i4 (by omega);simp only [List.getD_eq_getElem?_getD] at this ⊢;rw [List.getElem?_append_left (by omega)];exact this
theorem Kr {p:Nat->Bool} (hp:p 256=false) (s:ByteArray):∀ (k i:Nat),(∀ j,j<k->p (cB s (i+j))=true)->p (cB s (i+k))=false->Dr p s i=i+k
 | 0,i,_,h=>by
  rw [Nat.add_zero] at h;rw [jw hp,h];rfl
 | k+1,i,h,h2=>by
  have h0:=h 0 (by omega);rw [Nat.add_zero] at h0;rw [jw hp,if_pos h0,Kr hp s k (i+1) (fun j hj=>by rw [show i+1+j=i+(j+1) by omega];exact h (j+1) (by omega)) (by rw [show i+1+k=i+(k+1) by omega];exact h2)];omega
theorem VN {s:ByteArray} {i:Nat} {n:Nat} (h:oq s i (Lib.decDigits n)) (hend:oW (cB s (i+(Lib.decDigits n).length))=false):dg s i=i+(Lib.decDigits n).length/\dv s i (Lib.decDigits n).length=n/\oW (cB s i)=true/\(cB s i=48->(Lib.decDigits n).length=1):=by
 obtain ⟨d1,d2,d3,d4,d5⟩:=qH n;have hne:Lib.decDigits n≠[]:=by intro e;rw [e] at d3;simp at d3
 have hle:=h.le hne
 have hdig:∀ j,j<(Lib.decDigits n).length->oW (cB s (i+j))=true:=fun j hj=>by
  rw [h.at hj]
  have hm:(Lib.decDigits n).getD j 0 ∈ Lib.decDigits n:=by
   simp only [List.getD_eq_getElem?_getD,List.getElem?_eq_getElem hj,Option.getD_some];exact List.getElem_mem hj
  have:=d1 _ hm;unfold oW;rw [decide_eq_true this.1,decide_eq_true this.2];rfl
 refine ⟨Kr wz s _ i hdig hend,?_,?_,fun hc=>?_⟩
 ·rw [<- Gg s i _ hle,h.take,d2]
 ·have:=hdig 0 (by omega)
  rwa [Nat.add_zero] at this
 ·by_cases h10:n<10
  ·exact d5 h10
  ·have h0:=h.at (j:=0) (by omega);rw [Nat.add_zero] at h0;exact absurd (h0.symm.trans hc) (d4 (by omega))
theorem VO {s:ByteArray} {i:Nat} {n:Int} (h0:-9223372036854775808<=n) (h1:n<=9223372036854775807) (h:oq s i (Lib.itoa n)) (hend:oW (cB s (i+(Lib.itoa n).length))=false):rz s i=some (n,i+(Lib.itoa n).length)/\(cB s i=45\/oW (cB s i)=true):=by
 by_cases hn:n<0
 ·obtain ⟨k,rfl⟩:∃ k:Nat,n=-(k:Int):=⟨n.natAbs,by omega⟩;have e:Lib.itoa (-(k:Int))=45::Lib.decDigits k:=Lib.itoa_neg k (by omega);rw [e] at h hend ⊢;obtain ⟨c0,h⟩:=h.head;have c0':cB s i=45:=c0;rw [List.length_cons,show i+((Lib.decDigits k).length+1)=i+1+(Lib.decDigits k).length by omega] at hend;obtain ⟨e1,e2,e3,e4⟩:=VN h hend;have hd:=(qH k).2.2.1;have hs:fQ s i=i+1:=by unfold fQ;rw [if_pos c0']
  refine ⟨?_,.inl c0'⟩;unfold rz;rw [hs,e1,if_neg (by omega),if_neg (by intro hh;have:=e4 hh.2;omega),if_pos c0',show i+1+(Lib.decDigits k).length - (i+1)=(Lib.decDigits k).length by omega,e2,if_pos (by omega),List.length_cons];simp only [Option.some.injEq,Prod.mk.injEq,true_and];omega
 ·obtain ⟨k,rfl⟩:∃ k:Nat,n=(k:Int):=⟨n.toNat,by omega⟩;have e:Lib.itoa (k:Int)=Lib.decDigits k:=Lib.itoa_nonneg k;rw [e] at h hend ⊢;obtain ⟨e1,e2,e3,e4⟩:=VN h hend;have hd:=(qH k).2.2.1
  have c45:cB s i≠45:=by
   intro hc;rw [hc] at e3;cases e3
  have hs:fQ s i=i:=by unfold fQ;rw [if_neg c45]
  refine ⟨?_,.inr e3⟩;unfold rz;rw [hs,e1,if_neg (by omega),if_neg (by intro hh;have:=e4 hh.2;omega),if_neg c45,show i+(Lib.decDigits k).length - i=(Lib.decDigits k).length by omega,e2,if_pos (by omega)]
def nD (g:T->List UInt8) (t:T) (o:Bool) (k:Nat):List UInt8:=(if o=true then cO (bO t k)++[58] else [])++g (elt t k)
def jn (g:T->List UInt8) (t:T) (o:Bool):Nat->List UInt8
 | 0=>[]
 | k+1=>jn g t o k++((if k=0 then [] else [44])++nD g t o k)
def rl (g:T->List UInt8) (t:T) (o:Bool):Nat->Nat->List UInt8
 | _,0=>[]
 | k,j+1=>nD g t o k++(if j=0 then [] else 44::rl g t o (k+1) j)
theorem GZ (g:T->List UInt8) (t:T):∀ k,dL g t k=jn g t false k
 | 0=>rfl
 | k+1=>by rw [dL,jn,GZ g t k];rfl
theorem Nw (g:T->List UInt8) (t:T):∀ k,eZ g t k=jn g t true k
 | 0=>rfl
 | k+1=>by rw [eZ,jn,Nw g t k,nD,if_pos rfl];simp
theorem aaQ (g:T->List UInt8) (t:T) (o:Bool):∀ j k,jn g t o k++((if k=0\/j=0 then [] else [44])++rl g t o k j)=jn g t o (k+j)
 | 0,k=>by simp [rl]
 | j+1,k=>by
  have ih:=aaQ g t o j (k+1);rw [show k+(j+1)=k+1+j by omega,<- ih,jn,rl];by_cases hk:k=0
  ·by_cases hj:j=0
   ·subst hj;simp [hk,rl]
   ·simp [hk,hj]
  ·by_cases hj:j=0
   ·subst hj;simp [hk,rl]
   ·simp [hk,hj]
theorem ab2 (g:T->List UInt8) (t:T) (o:Bool) (n:Nat):rl g t o 0 n=jn g t o n:=by
 have:=aaQ g t o n 0;simpa [jn] using this
theorem sQ {s:ByteArray} {i:Nat} (h:nM (cB s i)=false):sk s i=i:=by rw [Gb,h];rfl
theorem G5 {s:ByteArray} {i:Nat} {x:ByteArray} (h:oq s i x.data.toList) (h0:x.data.toList≠[]):Al s i x=true:=by
 have hle:=h.le h0;have hx:x.data.toList.length=x.size:=rfl;rw [hx] at hle;unfold Al;rw [decide_eq_true hle]
 have e:s.extract i (i+x.size)=x:=by
  apply Ql;rw [kR];exact h.take
 rw [e];simp
theorem G6 {s:ByteArray} {i:Nat} {x:ByteArray} {c:UInt8} {r:List UInt8} (hx:x.data.toList=c::r) (h:cB s i≠c.toNat):Al s i x=false:=by
 cases hp:Al s i x with
 | false=>rfl
 | true=>exact absurd (Uw hx hp) h
def BZ (s:ByteArray) (i:Nat):Prop:=oW (cB s i)=false
theorem EY {F:Nat->Option (T×Nat)} {s:ByteArray} {i:Nat} {t:T} (hg:aW t) (hf:zI t) (h:oq s i (eD t)) (he:BZ s (i+(eD t).length)):bY F s i=some (dh (aj t) (av t) (ay t),i+(eD t).length)/\nM (cB s i)=false:=by
 obtain ⟨_,_,hg⟩:=hg;rcases hg with ⟨hk,hn,ht⟩ | ⟨hk,hn,ht⟩ | ⟨hk,ht⟩ | ⟨hk,hn,hz,hok⟩
 ·have e:eD t=[110,117,108,108]:=by unfold eD;rw [if_pos hk]
  rw [e] at h ⊢;have c0:cB s i=110:=(oq.head h).1;have hp:=G5 (x:=wE) h (by decide);refine ⟨?_,by rw [c0];rfl⟩;unfold bY;rw [c0,if_neg (by omega),if_neg (by omega),if_neg (by omega),if_neg (by decide),if_pos hp,hk,hn,mh ht];rfl
 ·rcases hn with hn | hn
  ·have e:eD t=[102,97,108,115,101]:=by unfold eD;rw [if_neg (by omega),if_pos hk,if_neg (by omega)]
   rw [e] at h ⊢;have c0:cB s i=102:=(oq.head h).1;have hp:=G5 (x:=qj) h (by decide);have h1:=G6 (s:=s) (i:=i) (x:=wE) (c:=110) (r:=[117,108,108]) rfl (by rw [c0];decide);have h2:=G6 (s:=s) (i:=i) (x:=wG) (c:=116) (r:=[114,117,101]) rfl (by rw [c0];decide);refine ⟨?_,by rw [c0];rfl⟩;unfold bY;rw [c0,if_neg (by omega),if_neg (by omega),if_neg (by omega),if_neg (by decide),h1,h2,hp,hk,hn,mh ht];rfl
  ·have e:eD t=[116,114,117,101]:=by unfold eD;rw [if_neg (by omega),if_pos hk,if_pos hn]
   rw [e] at h ⊢;have c0:cB s i=116:=(oq.head h).1;have hp:=G5 (x:=wG) h (by decide);have h1:=G6 (s:=s) (i:=i) (x:=wE) (c:=110) (r:=[117,108,108]) rfl (by rw [c0];decide);refine ⟨?_,by rw [c0];rfl⟩;unfold bY;rw [c0,if_neg (by omega),if_neg (by omega),if_neg (by omega),if_neg (by decide),h1,hp,hk,hn,mh ht];rfl
 ·have e:eD t=Lib.itoa (av t):=by unfold eD;rw [if_neg (by omega),if_neg (by omega),if_pos hk]
  rw [e] at h he ⊢;obtain ⟨h1,h2⟩:=VO hf.n0 hf.n1 h he
  have hc:cB s i=45\/(48<=cB s i/\cB s i<=57):=by
   rcases h2 with h2 | h2
   ·exact .inl h2
   ·unfold oW at h2;simp at h2;exact .inr h2
  refine ⟨?_,by unfold nM;simp;omega⟩;unfold bY;rw [if_neg (by omega),if_neg (by omega),if_neg (by omega),if_pos h2,h1,hk,mh ht];rfl
 ·have e:eD t=cO (ay t):=by unfold eD;rw [if_neg (by omega),if_neg (by omega),if_neg (by omega),if_pos hk]
  rw [e] at h ⊢;have c0:cB s i=34:=(oq.head (c:=34) h).1;refine ⟨?_,by rw [c0];rfl⟩;unfold bY;rw [if_pos c0,Qp hok h,hk,hn];rfl
theorem VP {s:ByteArray} {o:Bool} {i:Nat} {t:T} {k:Nat} {g:T->List UInt8} (hok:o=true->Ah (bO t k)=true) (h:oq s i (nD g t o k)):oI s o i=some (if o=true then bO t k else ByteArray.empty,i+(if o=true then cO (bO t k)++[58] else []).length)/\oq s (i+(if o=true then cO (bO t k)++[58] else []).length) (g (elt t k)):=by
 unfold nD at h;obtain ⟨h1,h2⟩:=h.app;refine ⟨?_,h2⟩;unfold oI;cases o with
 | false=>simp
 | true =>
  simp only [if_true] at h1 ⊢;obtain ⟨h3,h4⟩:=h1.app;have c0:cB s i=34:=(oq.head (c:=34) h3).1;have c1:cB s (i+(cO (bO t k)).length)=58:=(oq.head (c:=58) h4).1;rw [sQ (i:=i) (by rw [c0];rfl),Qp (hok rfl) h3];simp only [Option.bind_some];rw [sQ (i:=i+(cO (bO t k)).length) (by rw [c1];rfl),if_pos c1,List.length_append];rfl
theorem ae3 {f:Nat->Option (T×Nat)} {s:ByteArray} {o:Bool} {t:T} {g:T->List UInt8} {c:T->T} (cc:UInt8) (hcc:cc.toNat=cl o)
  (hf:∀ k,k<nL t->∀ p,oq s p (g (elt t k))->BZ s (p+(g (elt t k)).length)->f p=some (c (elt t k),p+(g (elt t k)).length))
  (h6:o=true->nK t=nL t/\∀ k,k<nL t->Ah (bO t k)=true) :
  ∀ j k m i,k+(j+1)=nL t->oq s i (rl g t o k (j+1)++[cc])->j<m->yX f s o m i=some ((if o=true then (jZ t).drop k else [],((lH t).drop k).map c),i+(rl g t o k (j+1)).length+1):=by
 have hco:cl o=93\/cl o=125:=by cases o<;>simp [cl]
 intro j
 induction j with
 | zero =>
  intro k m i hk h hm;obtain ⟨m,rfl⟩:∃ x,m=x+1:=⟨m - 1,by omega⟩;have e:rl g t o k (0+1)=nD g t o k:=by simp [rl]
  rw [e] at h ⊢;obtain ⟨h1,h2⟩:=h.app;have cE:cB s (i+(nD g t o k).length)=cl o:=by rw [(oq.head h2).1];exact hcc
  obtain ⟨hkey,h3⟩:=VP (fun ho=>(h6 ho).2 k (by omega)) h1;have hl:(nD g t o k).length=(if o=true then cO (bO t k)++[58] else []).length+(g (elt t k)).length:=by unfold nD;rw [List.length_append]
  have hfk:=hf k (by omega) _ h3 (by unfold BZ;rw [Nat.add_assoc,<- hl,cE];rcases hco with hco | hco<;>rw [hco]<;>rfl);rw [Nat.add_assoc,<- hl] at hfk;rw [yX,hkey];simp only [Option.bind_some];rw [hfk];simp only [Option.bind_some];rw [sQ (i:=i+(nD g t o k).length) (by rw [cE];rcases hco with hco | hco<;>rw [hco]<;>rfl),cE,if_neg (by omega),if_pos rfl];have eL:(lH t).drop k=elt t k::(lH t).drop (k+1):=Qn (show k<nL t by omega);have eL2:(lH t).drop (k+1)=[]:=List.drop_eq_nil_of_le (by show nL t<=k+1;omega);rw [eL,eL2];cases o with
  | false=>rfl
  | true =>
   have hnk:=(h6 rfl).1;have eK:(jZ t).drop k=bO t k::(jZ t).drop (k+1):=Qn (show k<nK t by omega);have eK2:(jZ t).drop (k+1)=[]:=List.drop_eq_nil_of_le (by show nK t<=k+1;omega);rw [eK,eK2];rfl
 | succ j ih =>
  intro k m i hk h hm;obtain ⟨m,rfl⟩:∃ x,m=x+1:=⟨m - 1,by omega⟩;have e:rl g t o k (j+1+1)=nD g t o k++(44::rl g t o (k+1) (j+1)):=by rw [rl,if_neg (by omega)]
  rw [e,List.append_assoc] at h;obtain ⟨h1,h2⟩:=h.app;obtain ⟨c44,h4⟩:=oq.head (c:=44) h2;have cE:cB s (i+(nD g t o k).length)=44:=c44;obtain ⟨hkey,h3⟩:=VP (fun ho=>(h6 ho).2 k (by omega)) h1;have hl:(nD g t o k).length=(if o=true then cO (bO t k)++[58] else []).length+(g (elt t k)).length:=by unfold nD;rw [List.length_append]
  have hfk:=hf k (by omega) _ h3 (by unfold BZ;rw [Nat.add_assoc,<- hl,cE];rfl);rw [Nat.add_assoc,<- hl] at hfk;have ih':=ih (k+1) m (i+(nD g t o k).length+1) (by omega) h4 (by omega);rw [yX,hkey];simp only [Option.bind_some];rw [hfk];simp only [Option.bind_some];rw [sQ (i:=i+(nD g t o k).length) (by rw [cE];rfl),cE,if_pos rfl,ih',e];have eL:(lH t).drop k=elt t k::(lH t).drop (k+1):=Qn (show k<nL t by omega);have hp:i+(nD g t o k).length+1+(rl g t o (k+1) (j+1)).length+1=i+(nD g t o k++44::rl g t o (k+1) (j+1)).length+1:=by rw [List.length_append,List.length_cons];omega
  rw [eL,hp];cases o with
  | false=>rfl
  | true =>
   have hnk:=(h6 rfl).1;have eK:(jZ t).drop k=bO t k::(jZ t).drop (k+1):=Qn (show k<nK t by omega);rw [eK];rfl
theorem Sb (n:Int):∃ c l,Lib.itoa n=c::l/\(c.toNat=45\/(48<=c.toNat/\c.toNat<=57)):=by
 by_cases hn:n<0
 ·obtain ⟨k,rfl⟩:∃ k:Nat,n=-(k:Int):=⟨n.natAbs,by omega⟩;exact ⟨45,_,Lib.itoa_neg k (by omega),.inl rfl⟩
 ·obtain ⟨k,rfl⟩:∃ k:Nat,n=(k:Int):=⟨n.toNat,by omega⟩;obtain ⟨d1,_,d3,_⟩:=qH k;rw [Lib.itoa_nonneg];cases hd:Lib.decDigits k with
  | nil=>rw [hd] at d3;simp at d3
  | cons c l=>exact ⟨c,l,rfl,.inr (d1 c (by rw [hd];simp))⟩
def yC (l:List UInt8):Prop:=∃ c r,l=c::r/\nM c.toNat=false/\c.toNat≠93/\c.toNat≠125
theorem EZ {t:T} (hg:aW t):yC (eD t):=by
 obtain ⟨_,_,hg⟩:=hg;unfold eD;rcases hg with ⟨hk,_⟩ | ⟨hk,hn,_⟩ | ⟨hk,_⟩ | ⟨hk,_⟩
 ·rw [if_pos hk];exact ⟨_,_,rfl,by decide,by decide,by decide⟩
 ·rw [if_neg (by omega),if_pos hk];split
  ·exact ⟨_,_,rfl,by decide,by decide,by decide⟩
  ·exact ⟨_,_,rfl,by decide,by decide,by decide⟩
 ·rw [if_neg (by omega),if_neg (by omega),if_pos hk];obtain ⟨c,l,e,h⟩:=Sb (av t);exact ⟨c,l,e,by unfold nM;simp;omega,by omega,by omega⟩
 ·rw [if_neg (by omega),if_neg (by omega),if_neg (by omega),if_pos hk];exact ⟨_,_,rfl,by decide,by decide,by decide⟩
theorem G7:∀ (m:Nat) (t:T),dD m t->yC (bL m t)
 | 0,t,h=>EZ h
 | m+1,t,h=>by
  rcases h with h | ⟨_,_,_,hk⟩
  ·rw [pO (iD h).1 (iD h).2];exact EZ h
  ·unfold bL;rcases hk with ⟨hk,_⟩ | ⟨hk,_⟩
   ·rw [if_pos hk];exact ⟨_,_,rfl,by decide,by decide,by decide⟩
   ·rw [if_neg (by omega),if_pos hk];exact ⟨_,_,rfl,by decide,by decide,by decide⟩
theorem Kt {l:List UInt8} (h:yC l):1<=l.length:=by
 obtain ⟨c,r,rfl,_⟩:=h;simp
theorem VQ {g:T->List UInt8} {t:T} {o:Bool} (hg:∀ k,k<nL t->1<=(g (elt t k)).length):∀ j k,k+j<=nL t->j<=(rl g t o k j).length
 | 0,k,_=>Nat.zero_le _
 | j+1,k,h=>by
  have h0:=hg k (by omega);have ih:=VQ (o:=o) hg j (k+1) (by omega);have he:(g (elt t k)).length<=(nD g t o k).length:=by unfold nD;rw [List.length_append];omega
  rw [rl,List.length_append];split
  ·simp only [List.length_nil];omega
  ·rw [List.length_cons];omega
theorem xg {g:T->List UInt8} {t:T} {o:Bool}:∀ n k,k<n->(g (elt t k)).length<=(jn g t o n).length
 | 0,k,h=>by omega
 | n+1,k,h=>by
  rw [jn,List.length_append,List.length_append];by_cases e:k=n
  ·subst e;unfold nD;rw [List.length_append];omega
  ·have:=xg (g:=g) (t:=t) (o:=o) n k (by omega);omega
theorem Zb {g:T->List UInt8} {t:T} {o:Bool} {j:Nat} (hg:yC (g (elt t 0))):yC (rl g t o 0 (j+1)):=by
 rw [rl];unfold nD;cases o with
 | true=>exact ⟨34,_,rfl,by decide,by decide,by decide⟩
 | false =>
  obtain ⟨c,r,e,h⟩:=hg;rw [e];exact ⟨c,_,rfl,h⟩
theorem VT {f:Nat->Option (T×Nat)} {s:ByteArray} {o:Bool} {t:T} {g:T->List UInt8} {c:T->T} {i:Nat} (cc:UInt8) (hcc:cc.toNat=cl o)
  (hf:∀ k,k<nL t->∀ p,oq s p (g (elt t k))->BZ s (p+(g (elt t k)).length)->f p=some (c (elt t k),p+(g (elt t k)).length))
  (h6:o=true->nK t=nL t/\∀ k,k<nL t->Ah (bO t k)=true) (h5:o=false->jZ t=[]) (hg:∀ k,k<nL t->yC (g (elt t k))) (h:oq s i (jn g t o (nL t)++[cc])) :
  jM f s o i=some ((jZ t,(lH t).map c),i+(jn g t o (nL t)).length+1):=by
 have hco:cl o=93\/cl o=125:=by cases o<;>simp [cl]
 unfold jM;by_cases h0:nL t=0
 ·have eL:lH t=[]:=BS h0
  have eK:jZ t=[]:=by
   cases o with
   | false=>exact h5 rfl
   | true=>exact BS (show nK t=0 by have:=(h6 rfl).1;omega)
  rw [h0] at h ⊢;have cE:cB s i=cl o:=by rw [(oq.head (c:=cc) h).1];exact hcc
  rw [sQ (i:=i) (by rw [cE];rcases hco with hco | hco<;>rw [hco]<;>rfl),if_pos cE,eL,eK];rfl
 ·obtain ⟨j,hj⟩:∃ j,nL t=j+1:=⟨nL t - 1,by omega⟩;have hr:=ab2 g t o (nL t);obtain ⟨c0,r0,e0,b0,n93,n125⟩:=Zb (g:=g) (t:=t) (o:=o) (j:=j) (hg 0 (by omega));have hle:=h.le (by simp);have hln:=VQ (o:=o) (fun k hk=>Kt (hg k hk)) (nL t) 0 (by omega);rw [hr] at hln;rw [<- hr,hj] at h ⊢
  have cE:cB s i=c0.toNat:=by
   have:=h.app.1;rw [e0] at this;exact this.head.1
  rw [List.length_append,List.length_cons,List.length_nil] at hle;rw [sQ (i:=i) (by rw [cE];exact b0),cE,if_neg (by rcases hco with hco | hco<;>omega),ae3 cc hcc hf h6 j 0 (s.size+1) i (by omega) h (by omega)];cases o with
  | false=>rw [if_neg (by simp),List.drop_zero,h5 rfl]
  | true=>rw [if_pos rfl,List.drop_zero,List.drop_zero]
theorem Ku {t:T}:∀ k,gy t k=true->∀ i,i<k->Ah (bO t i)=true
 | 0,_,i,hi=>absurd hi (by omega)
 | k+1,h,i,hi=>by
  simp only [gy,Bool.and_eq_true,decide_eq_true_eq] at h;by_cases e:i=k
  ·subst e;exact h.2.1
  ·exact Ku k h.1 i (by omega)
theorem Ny {w:World} {s:ByteArray}:∀ (m n f:Nat) (v:Value) (t:T) (i:Nat),At w f v t->dD m t->(bL m t).length<n->oq s i (bL m t)->BZ s (i+(bL m t).length)->bZ s n i=some (bH m t,i+(bL m t).length)
 | 0,n,f,v,t,i,ha,hg,hn,h,he=>by
  obtain ⟨n,rfl⟩:∃ x,n=x+1:=⟨n - 1,by omega⟩;obtain ⟨_,La,Ka,Lc,Kc,_,_,hf,_⟩:=ha.open;obtain ⟨h1,h2⟩:=EY (F:=bZ s n) hg hf h he;rw [bZ,sQ h2,yA 0 hg.1 hg.2.1];exact h1
 | m+1,n,f,v,t,i,ha,hg,hn,h,he=>by
  obtain ⟨n,rfl⟩:∃ x,n=x+1:=⟨n - 1,by omega⟩;obtain ⟨f',La,Ka,Lc,Kc,_,_,hf,hel,_⟩:=ha.open;rcases hg with hg | ⟨hn0,ht,hgi,hk⟩
  ·have k56:=iD hg;rw [pO k56.1 k56.2] at h he hn ⊢;obtain ⟨h1,h2⟩:=EY (F:=bZ s n) hg hf h he;rw [bZ,sQ h2,yA (m+1) hg.1 hg.2.1];exact h1
  ·rcases hk with ⟨hk,hk0⟩ | ⟨hk,hnk,hnf,_⟩
   ·have e:bL (m+1) t=91::(jn (bL m) t false (nL t)++[93]):=by rw [bL,if_pos hk,GZ]
    rw [e] at h hn ⊢;obtain ⟨c0,h⟩:=h.head;have c0':cB s i=91:=c0;rw [List.length_cons,List.length_append,List.length_cons,List.length_nil] at hn
    have hb:=VT (f:=bZ s n) (g:=bL m) (c:=bH m) (t:=t) (o:=false) 93 rfl (fun k hk p h1 h2=>by
      obtain ⟨b,o,c0,c1,c2,c3,c4,_,_,_,_,_,_,_,hak⟩:=hel.out k hk;exact Ny m n f' _ _ p hak.out (hgi k hk) (by have:=xg (g:=bL m) (t:=t) (o:=false) (nL t) k hk;omega) h1 h2)
     (fun h=>by cases h) (fun _=>BS hk0) (fun k hk=>G7 m _ (hgi k hk)) h
    rw [bZ,sQ (i:=i) (by rw [c0'];rfl)];unfold bY;rw [c0',if_neg (by omega),if_pos rfl,hb];simp only [Option.map_some,Option.some.injEq,Prod.mk.injEq];refine ⟨?_,by rw [List.length_cons,List.length_append,List.length_cons,List.length_nil];omega⟩;rw [bH,hk,hn0,mh ht]
   ·have e:bL (m+1) t=123::(jn (bL m) t true (nL t)++[125]):=by rw [bL,if_neg (by omega),if_pos hk,Nw,hnk]
    rw [e] at h hn ⊢;obtain ⟨c0,h⟩:=h.head;have c0':cB s i=123:=c0;rw [List.length_cons,List.length_append,List.length_cons,List.length_nil] at hn
    have hb:=VT (f:=bZ s n) (g:=bL m) (c:=bH m) (t:=t) (o:=true) 125 rfl (fun k hk p h1 h2=>by
      obtain ⟨b,o,c0,c1,c2,c3,c4,_,_,_,_,_,_,_,hak⟩:=hel.out k hk;exact Ny m n f' _ _ p hak.out (hgi k hk) (by have:=xg (g:=bL m) (t:=t) (o:=true) (nL t) k hk;omega) h1 h2)
     (fun _=>⟨hnk,fun k hk=>Ku _ hnf k (by omega)⟩) (fun h=>by cases h) (fun k hk=>G7 m _ (hgi k hk)) h
    rw [bZ,sQ (i:=i) (by rw [c0'];rfl)];unfold bY;rw [c0',if_neg (by omega),if_neg (by omega),if_pos rfl,hb];simp only [Option.map_some,Option.some.injEq,Prod.mk.injEq];refine ⟨?_,by rw [List.length_cons,List.length_append,List.length_cons,List.length_nil];omega⟩;rw [bH,hk,hn0,mh ht]
theorem E5:∀ (m n:Nat) (t:T),dD m t->dY n t<=m
 | m,0,t,_=>Nat.zero_le _
 | 0,n+1,t,h=>by
  have k56:=iD h;have:gL t=false:=by unfold gL;simp [k56.1,k56.2]
  unfold dY;rw [this];simp
 | m+1,n+1,t,h=>by
  rcases h with h | ⟨_,_,he,_⟩
  ·have k56:=iD h;have:gL t=false:=by unfold gL;simp [k56.1,k56.2]
   unfold dY;rw [this];simp
  ·have key:∀ k,k<=nL t->qR (dY n) t k<=m:=by
    intro k
    induction k with
    | zero=>intro _;exact Nat.zero_le _
    | succ k ih =>
     intro hk;have h1:=ih (by omega);have h2:=E5 m n _ (he k (by omega));rw [qR];omega
   have:=key (nL t) (Nat.le_refl _);unfold dY;split<;>omega
theorem E8:∀ (m n:Nat) (t:T),dD m t->dU n t=false
 | m,0,t,_=>rfl
 | 0,n+1,t,h=>by
  unfold dU;rw [h.1,h.2.1];rfl
 | m+1,n+1,t,h=>by
  rcases h with h | ⟨_,_,he,hk⟩
  ·unfold dU;rw [h.1,h.2.1];rfl
  ·have key:∀ k,k<=nL t->dw (dU n) t k=false:=by
    intro k
    induction k with
    | zero=>intro _;rfl
    | succ k ih =>
     intro hk;rw [dw,ih (by omega),E8 m n _ (he k (by omega))];rfl
   have hd:iP t (nK t)=false:=by
    rcases hk with ⟨_,hk⟩ | ⟨_,_,_,hk⟩
    ·rw [hk];rfl
    ·exact hk
   unfold dU;rw [hd,key (nL t) (Nat.le_refl _)];rfl
theorem VU {w:World} {f:Nat} {v:Value} {t:T} (ha:At w f v t) (hg:dD 12 t):(4000<(bL 12 t).length->eJ (bP (bL 12 t))=1)/\((bL 12 t).length<=4000->eJ (bP (bL 12 t))=0/\tJ (bP (bL 12 t))=bH 12 t):=by
 have hz:=fU (bL 12 t);constructor
 ·intro h;exact PY (by omega)
 ·intro h;have hs:oq (bP (bL 12 t)) 0 (bL 12 t):=⟨[],by rw [bK];simp⟩;have he:cB (bP (bL 12 t)) (0+(bL 12 t).length)=256:=vG (by omega);have hv:=Ny 12 ((bP (bL 12 t)).size+1) f v t 0 ha hg (by omega) hs (by unfold BZ;rw [he];rfl);have hf:nO (bP (bL 12 t))=some (bH 12 t):=Es hv (by rw [sQ (by rw [he];rfl),hz];omega);have hc:=Ko 12 t hg
  have e0:eJ (bP (bL 12 t))=0:=by
   rw [P5 (by omega) hf,if_neg (by have:=E5 12 ((bP (bL 12 t)).size+1) _ hc;omega),E8 12 _ _ hc];rfl
  exact ⟨e0,P6 e0 hf⟩
end Go.Proofs.YtknakfpciccoaaaGreatDoor
