import Derived.Test.YtknakfpciccoaaaGreatDoorZF20
import Derived.Test.YtknakfpciccoaaaGreatDoorZF12
import Derived.Test.YtknakfpciccoaaaGreatDoorZF6
import Derived.Maps.OwnSet
import Derived.Test.YtknakfpciccoaaaGreatDoorZF3
import Derived.Deep.LoopGhost
import Derived.Laws.IdiomStrings
import Derived.BigQuiet
import Derived.Test.YtknakfpciccoaaaGreatDoorZF4
/- Texts as values, pure: what is parsed is a value (lists, objects, the whole). -/
set_option maxHeartbeats 4000000
set_option maxRecDepth 100000
namespace Go.Proofs.YtknakfpciccoaaaGreatDoor
open Go.RowKit
def yX:Nat->T->Prop
 | 0,t=>bF t
 | n+1,t=>bF t\/(aB t=0/\aY t=true/\(∀ i,i<nL t->yX n (elt t i))/\((ah t=5/\nK t=0)\/(ah t=6/\nK t=nL t/\iZ t (nK t)=true)))
theorem Pf {t:T} (n:Nat) (h:bF t):yX n t:=by
 cases n with
 | zero=>exact h
 | succ n=>exact .inl h
theorem lg {t:T} (n:Nat) (h:bF t):aN n t=cZ t:=by
 have k:=qj h;cases n with
 | zero=>rfl
 | succ n=>unfold aN;rw [if_neg k.1,if_neg k.2]
theorem Er {t:T}:∀ k,k<=nK t->(∀ x ∈ rU t,J8 x=true/\x.size<=4000)->iZ t k=true
 | 0,_,_=>rfl
 | k+1,hk,h=>by
  have hm:bf t k ∈ rU t:=by
   have hl:k<(rU t).length:=hk;unfold bf;simp only [List.getD_eq_getElem?_getD,List.getElem?_eq_getElem hl,Option.getD_some];exact List.getElem_mem hl
  obtain ⟨h1,h2⟩:=h _ hm;rw [iZ,Er k (by omega) h,h1,decide_eq_true h2];rfl
theorem IW {f:Nat->Option (T×Nat)} {s:ByteArray} {n:Nat} (hs:s.size<=4000) (hf:∀ i t e,i<=s.size->f i=some (t,e)->i<e/\e<=s.size) (hg:∀ i t e,i<=s.size->f i=some (t,e)->aN n t<=9*(e - i)/\yX n t) (o:Bool) :
  ∀ (m i:Nat) (r:(List ByteArray×List T)×Nat),i<=s.size->zw f s o m i=some r->(r.1.1.map fun k=>2+k.size).sum+(r.1.2.map (aN n)).sum<=9*(r.2 - i)/\(∀ x ∈ r.1.2,yX n x)/\(∀ x ∈ r.1.1,J8 x=true/\x.size<=4000)/\(o=true->r.1.1.length=r.1.2.length)/\(o=false->r.1.1=[])/\i<r.2/\r.2<=s.size
 | 0,i,r,_,h=>by cases h
 | m+1,i,r,hi,h=>by
  have gG:=zx hf o (m+1) i r hi h;rw [zw] at h;cases hk:iI s o i with
  | none=>rw [hk] at h;cases h
  | some p =>
   rw [hk] at h;simp only [Option.bind_some] at h;have h1:=kR hi hk
   have hkey:o=true->J8 p.1=true/\i+p.1.size+3<=p.2/\p.1.size<=4000:=by
    intro ho;subst ho;unfold iI at hk;simp only [if_true] at hk;cases ht:fF s (sk s i) with
    | none=>rw [ht] at hk;cases hk
    | some q =>
     rw [ht] at hk;simp only [Option.bind_some] at hk;split at hk
     ·simp only [Option.some.injEq] at hk;subst hk;have h2:=Ep (x:=q.1) (e:=q.2) ht;have h3:=eT s i;have h4:=eT s q.2;have h5:=h1.2.1;exact ⟨h2.1,by show i+q.1.size+3<=sk s q.2+1;omega,by show q.1.size<=4000;have:sk s q.2+1<=s.size:=h5;omega⟩
     ·cases hk
   cases hq:f p.2 with
   | none=>rw [hq] at h;cases h
   | some q =>
    rw [hq] at h;simp only [Option.bind_some] at h;have h2:=hf p.2 q.1 q.2 h1.2.1 hq;have XD:=hg p.2 q.1 q.2 h1.2.1 hq;have h3:=eT s q.2;split at h
    ·rename_i hc;have h4:=aZ (s:=s) (i:=sk s q.2) (by omega);cases hr:zw f s o m (sk s q.2+1) with
     | none=>rw [hr] at h;cases h
     | some r' =>
      rw [hr] at h;simp only [Option.map_some,Option.some.injEq] at h;have h5:=IW hs hf hg o m _ r' (by omega) hr;subst h;cases o with
      | false =>
       have h6:=h5.2.2.2.2.1 rfl;refine ⟨?_,?_,?_,(fun h=>by cases h),(fun _=>h6),gG⟩
       ·have:=h5.1;simp only [app,Bool.false_eq_true,if_false,List.map_cons,List.sum_cons];omega
       ·intro x hx;simp only [app,List.mem_cons] at hx;rcases hx with rfl | hx
        ·exact XD.2
        ·exact h5.2.1 x hx
       ·intro x hx;simp only [app,Bool.false_eq_true,if_false] at hx;exact h5.2.2.1 x hx
      | true =>
       have h6:=h5.2.2.2.1 rfl;have h7:=hkey rfl;refine ⟨?_,?_,?_,(fun _=>by simp only [app,if_true,List.length_cons,h6]),(fun h=>by cases h),gG⟩
       ·have:=h5.1;simp only [app,if_true,List.map_cons,List.sum_cons];omega
       ·intro x hx;simp only [app,List.mem_cons] at hx;rcases hx with rfl | hx
        ·exact XD.2
        ·exact h5.2.1 x hx
       ·intro x hx;simp only [app,if_true,List.mem_cons] at hx;rcases hx with rfl | hx
        ·exact ⟨h7.1,h7.2.2⟩
        ·exact h5.2.2.1 x hx
    ·split at h
     ·simp only [Option.some.injEq] at h;subst h;cases o with
      | false =>
       refine ⟨?_,?_,?_,(fun h=>by cases h),(fun _=>rfl),gG⟩
       ·simp only [app,Bool.false_eq_true,if_false,List.map_cons,List.map_nil,List.sum_cons,List.sum_nil];omega
       ·intro x hx;simp only [app,List.mem_singleton] at hx;subst hx;exact XD.2
       ·intro x hx;simp [app] at hx
      | true =>
       have h7:=hkey rfl;refine ⟨?_,?_,?_,(fun _=>rfl),(fun h=>by cases h),gG⟩
       ·simp only [app,if_true,List.map_cons,List.map_nil,List.sum_cons,List.sum_nil];omega
       ·intro x hx;simp only [app,List.mem_singleton] at hx;subst hx;exact XD.2
       ·intro x hx;simp only [app,if_true,List.mem_singleton] at hx;subst hx;exact ⟨h7.1,h7.2.2⟩
     ·cases h
theorem mE (k n:Int) (l:List T) (ks:List ByteArray):aY (dU k n ByteArray.empty l ks)=true:=by
 unfold aY;rw [nW,ByteArray.toList_eq];rfl
theorem Pg {f:Nat->Option (T×Nat)} {s:ByteArray} {n:Nat} (hs:s.size<=4000) (hf:∀ i t e,i<=s.size->f i=some (t,e)->i<e/\e<=s.size) (hg:∀ i t e,i<=s.size->f i=some (t,e)->aN n t<=9*(e - i)/\yX n t) {j:Nat} {t:T} {e:Nat} (hj:j<=s.size) (h:bH f s j=some (t,e)):aN (n+1) t<=9*(e - j)/\yX (n+1) t:=by
 have gG:=wS hf hj h;have kV:bF t->cZ t<=9*(e - j)->aN (n+1) t<=9*(e - j)/\yX (n+1) t:=fun h1 h2=>⟨by rw [lg _ h1];exact h2,Pf _ h1⟩
 have kS:∀ (o:Bool) (k:Int),k=(if o=true then 6 else 5)->cB s j<256->(fM f s o (j+1)).map (fun r=>(dU k 0 ByteArray.empty r.1.2 r.1.1,r.2))=some (t,e)->aN (n+1) t<=9*(e - j)/\yX (n+1) t:=by
  intro o k hk hc hh;have hj1:=aZ hc;have h3:=eT s (j+1);have h5:=fu (s:=s) (i:=j+1) (by omega);cases hb:fM f s o (j+1) with
  | none=>rw [hb] at hh;cases hh
  | some r =>
   rw [hb] at hh;simp only [Option.map_some,Option.some.injEq,Prod.mk.injEq] at hh;obtain ⟨rfl,rfl⟩:=hh
   have key:(r.1.1.map fun k=>2+k.size).sum+(r.1.2.map (aN n)).sum+5<=9*(r.2 - j)/\(∀ x ∈ r.1.2,yX n x)/\(∀ x ∈ r.1.1,J8 x=true/\x.size<=4000)/\(o=true->r.1.1.length=r.1.2.length)/\(o=false->r.1.1=[]):=by
    unfold fM at hb;split at hb
    ·simp only [Option.some.injEq] at hb;subst hb;refine ⟨?_,by simp,by simp,fun _=>rfl,fun _=>rfl⟩;simp only [List.map_nil,List.sum_nil];omega
    ·have:=IW hs hf hg o _ _ r h5 hb;refine ⟨?_,this.2.1,this.2.2.1,this.2.2.2.1,this.2.2.2.2.1⟩;have h6:=this.1;have h7:=this.2.2.2.2.2.1;omega
   obtain ⟨k1,k2,k3,k4,k5⟩:=key;have e0:∀ k:Int,nL (dU k 0 ByteArray.empty r.1.2 r.1.1)=r.1.2.length:=fun k=>by unfold nL;rw [zY]
   have e1:∀ k:Int,nK (dU k 0 ByteArray.empty r.1.2 r.1.1)=r.1.1.length:=fun k=>by unfold nK;rw [tY]
   have hel:∀ k:Int,∀ i,i<nL (dU k 0 ByteArray.empty r.1.2 r.1.1)->yX n (elt (dU k 0 ByteArray.empty r.1.2 r.1.1) i):=fun k i hi=>k2 _ (Nn hi);cases o with
   | false =>
    simp only [Bool.false_eq_true,if_false] at hk;subst hk;refine ⟨?_,.inr ⟨rfl,mE _ _ _ _,hel 5,.inl ⟨rfl,?_⟩⟩⟩
    ·rw [Dn n 5 r.1.2 r.1.1 (.inl rfl) (fun _=>k5 rfl)];omega
    ·rw [e1,k5 rfl];rfl
   | true =>
    simp only [if_true] at hk;subst hk;refine ⟨?_,.inr ⟨rfl,mE _ _ _ _,hel 6,.inr ⟨rfl,?_,?_⟩⟩⟩
    ·rw [Dn n 6 r.1.2 r.1.1 (.inr rfl) (fun h=>by omega)];omega
    ·rw [e0,e1,k4 rfl]
    ·exact Er _ (Nat.le_refl _) (by rw [tY];exact k3)
 unfold bH at h;split at h
 ·cases ht:fF s j with
  | none=>rw [ht] at h;cases h
  | some q =>
   rw [ht] at h;simp only [Option.map_some,Option.some.injEq,Prod.mk.injEq] at h;obtain ⟨rfl,rfl⟩:=h;have h2:=Ep (x:=q.1) (e:=q.2) ht;refine kV ⟨rfl,rfl,.inr (.inr (.inr ⟨rfl,rfl,?_,h2.1⟩))⟩ ?_
   ·show q.1.size<=4000;omega
   ·show (if (4:Int)=1 then 1 else if (4:Int)=2 then 2 else if (4:Int)=3 then 9 else 5+q.1.size)<=_;rw [if_neg (by omega),if_neg (by omega),if_neg (by omega)];omega
 ·split at h
  ·exact kS false 5 rfl (by omega) h
  ·split at h
   ·exact kS true 6 rfl (by omega) h
   ·split at h
    ·cases ht:eY s j with
     | none=>rw [ht] at h;cases h
     | some q =>
      rw [ht] at h;simp only [Option.map_some,Option.some.injEq,Prod.mk.injEq] at h;obtain ⟨rfl,rfl⟩:=h;refine kV ⟨rfl,rfl,.inr (.inr (.inl ⟨rfl,mE _ _ _ _⟩))⟩ ?_;show (if (3:Int)=1 then 1 else if (3:Int)=2 then 2 else if (3:Int)=3 then 9 else _)<=_;rw [if_neg (by omega),if_neg (by omega),if_pos rfl];omega
    ·split at h
     ·simp only [Option.some.injEq,Prod.mk.injEq] at h;obtain ⟨rfl,rfl⟩:=h;refine kV ⟨rfl,rfl,.inl ⟨rfl,rfl,mE _ _ _ _⟩⟩ ?_;show (if (1:Int)=1 then 1 else _)<=_;rw [if_pos rfl];omega
     ·split at h
      ·simp only [Option.some.injEq,Prod.mk.injEq] at h;obtain ⟨rfl,rfl⟩:=h;refine kV ⟨rfl,rfl,.inr (.inl ⟨rfl,.inr rfl,mE _ _ _ _⟩)⟩ ?_;show (if (2:Int)=1 then 1 else if (2:Int)=2 then 2 else _)<=_;rw [if_neg (by omega),if_pos rfl];omega
      ·split at h
       ·simp only [Option.some.injEq,Prod.mk.injEq] at h;obtain ⟨rfl,rfl⟩:=h;refine kV ⟨rfl,rfl,.inr (.inl ⟨rfl,.inl rfl,mE _ _ _ _⟩)⟩ ?_;show (if (2:Int)=1 then 1 else if (2:Int)=2 then 2 else _)<=_;rw [if_neg (by omega),if_pos rfl];omega
       ·cases h
theorem Es {s:ByteArray} (hs:s.size<=4000):∀ (n i:Nat) (t:T) (e:Nat),i<=s.size->aS s n i=some (t,e)->aN n t<=9*(e - i)/\yX n t
 | 0,_,_,_,_,h=>by cases h
 | n+1,i,t,e,hi,h=>by
  rw [aS] at h;have:=Pg hs (fun i t e=>dV n i t e) (fun i t e=>Es hs n i t e) (fu hi) h;have h2:=eT s i;exact ⟨by omega,this.2⟩
theorem Et:∀ (n n' m:Nat) (t:T),yX n t->n<=n'->bn n' t<=m->bN n' t=false->fJ m t/\aN m t=aN n t
 | 0,n',m,t,h,_,_,_=>⟨by cases m<;>first | exact h | exact .inl h,by rw [lg _ h,lg _ h]⟩
 | n+1,n',m,t,h,hn,hd,hw=>by
  rcases h with h | ⟨h1,h2,he,hk⟩
  ·exact ⟨by cases m<;>first | exact h | exact .inl h,by rw [lg _ h,lg _ h]⟩
  ·obtain ⟨n',rfl⟩:∃ x,n'=x+1:=⟨n' - 1,by omega⟩;have hbx:dJ t=true:=by unfold dJ;rcases hk with ⟨hk,_⟩ | ⟨hk,_⟩<;>simp [hk]
   rw [bn,if_pos hbx] at hd;obtain ⟨m,rfl⟩:∃ x,m=x+1:=⟨m - 1,by omega⟩;simp only [bN,Bool.or_eq_false_iff] at hw
   have hi:∀ i,i<nL t->fJ m (elt t i)/\aN m (elt t i)=aN n (elt t i):=fun i hi=>by
    refine Et n n' m _ (he i hi) (by omega) ?_ ?_
    ·have:=wY (g:=bn n') (t:=t) (i:=i) hi;omega
    ·cases ht:bN n' (elt t i) with
     | false=>rfl
     | true=>have:=uO (f:=bN n') (t:=t) hi ht;rw [hw.2] at this;cases this
   have hsum:∀ k,k<=nL t->dY (aN m) t k=dY (aN n) t k:=by
    intro k
    induction k with
    | zero=>intro _;rfl
    | succ k ih=>intro hk;rw [dY,dY,ih (by omega),(hi k (by omega)).2]
   refine ⟨.inr ⟨h1,h2,fun i h=>(hi i h).1,?_⟩,?_⟩
   ·rcases hk with hk | ⟨k1,k2,k3⟩
    ·exact .inl hk
    ·exact .inr ⟨k1,k2,k3,hw.1⟩
   ·unfold aN;rw [hsum _ (Nat.le_refl _)]
theorem qo {s:ByteArray} (h:eJ s=0):DN (tJ s)=true:=by
 obtain ⟨hs,j,hv,_,hd,hw⟩:=Nq h;have h1:=Es hs _ 0 _ _ (Nat.zero_le _) hv;have h2:=dV _ 0 _ _ (Nat.zero_le _) hv;have h3:=Et _ _ 12 _ h1.2 (Nat.le_refl _) hd hw;exact (kr _).2 ⟨h3.1,by rw [h3.2];omega⟩
end Go.Proofs.YtknakfpciccoaaaGreatDoor
/- The store's map of collections; read, search, Find. -/
namespace Go.Proofs.YtknakfpciccoaaaGreatDoor
open Go.RowKit Go.Maps Go.WideMaps
def SG:Value->Option (DataW Unit×List MemPlace)
 | .pointer none=>some (.nil,[])
 | .pointer (some ⟨b,0,none⟩)=>some (.lit (.int .i64 b),[])
 | _=>none
theorem SH {v:Value} {z:DataW Unit×List MemPlace} (h:SG v=some z):(v=.pointer none/\z.1=.nil)\/∃ c:Nat,v=.pointer (some ⟨c,0,none⟩)/\z.1=.lit (.int .i64 c):=by
 unfold SG at h;split at h
 ·cases h;exact .inl ⟨rfl,rfl⟩
 ·cases h;exact .inr ⟨_,rfl,rfl⟩
 ·cases h
def qC (D:DataW Unit) (x:ByteArray):DataW Unit:=D.atKey (.string x.data.toList) .nil
theorem aae (w:World):(zeroValue 90).run Tryz.prog w=.ok (.pointer none) w:=by kernel_rfl
structure gY (w:World) (p m n:Nat) (D:DataW Unit):Prop where
 cell:w.cell? ⟨p,0,none⟩=some (.map (some m))
 low:p<w.heap.size
 own:w.ownsMap Tryz.prog 9 SG m n D
theorem gY.keep {w w':World} {p m n:Nat} {D:DataW Unit} (h:gY w p m n D) (hb:Below w.heap.size w w'):gY w' p m n D:=by
 have hlt:=h.own.lt;obtain ⟨es,clock,hm,F,hs,hD⟩:=h.own;exact ⟨(hb.cell (p:=⟨p,0,none⟩) h.low).trans h.cell,Nat.lt_of_lt_of_le h.low hb.size,es,clock,(hb.block m hlt).trans hm,F,hs,hD⟩
theorem gY.look {w:World} {p m n:Nat} {D:DataW Unit} (h:gY w p m n D) (x:ByteArray) (hx:x.size<=140737488355328) :
  ((Instr.lookup 100 (.map (some m)) (.string x) false).run Tryz.prog w=.ok (.pointer none) w/\qC D x=.nil) \/
  ∃ c:Nat,(Instr.lookup 100 (.map (some m)) (.string x) false).run Tryz.prog w=.ok (.pointer (some ⟨c,0,none⟩)) w/\qC D x=.lit (.int .i64 c):=by
 obtain ⟨v,ps,hrun,hv⟩:=h.own.lookup (z:=.pointer none) (zd:=.nil) (zp:=[]) Kl Tryz.underlying100 (aae w) rfl (keyOf_string_mk Tryz.underlying9 (s:=x) (by unfold maxLen;omega));rcases SH hv with ⟨rfl,e⟩ | ⟨c,rfl,e⟩
 ·exact .inl ⟨hrun,e⟩
 ·exact .inr ⟨c,hrun,e⟩
theorem gZ {s:ByteArray} (h:eJ s=0):dZ (tJ s):=by
 have h1:=(kr _).1 (qo h);exact RY h1.1 (by have:=h1.2;omega)
theorem fC.atP {p:Nat->Prop} {w:World}:∀ {f:Nat} {v:Value} {t:T} {es:List jh},(∀ b ∈ qD es,p b)->fC w f v t es->nu p w f v t:=by
 intro f
 induction f with
 | zero=>intro v t es _ h;exact h
 | succ f ih =>
  rintro v t es hp ⟨Lv,Kv,xs,sub,rfl,hf,hl,hk,hc,hn,rfl⟩;have hx:∀ b,b ∈ blk ⟨Lv,nL t,Kv,nK t⟩->p b:=fun b h=>hp b (by rw [aO,fV];simp [h]);obtain ⟨A,c,rfl⟩:=aJ hl;obtain ⟨C,d,rfl⟩:=aJ hk;refine ⟨A,C,c,d,rfl,hf,fun i hi=>?_,fun i hi=>?_⟩
  ·obtain ⟨g,cap,e,hg,_,_,hcell,_⟩:=vw hl (by omega);cases e;refine ⟨g,0,_,_,_,_,_,rfl,⟨hg,hx g (by simp [blk,Value.ownBlock])⟩,?_,?_,?_,?_,?_,ih (fun b h=>hp b (by rw [aO];exact List.mem_append_left _ (oK hi h))) (hc i hi)⟩
   ·rw [Nat.zero_add];exact hcell _ (by omega)
   ·rw [Nat.zero_add];exact hcell _ (by omega)
   ·rw [Nat.zero_add];exact hcell _ (by omega)
   ·rw [Nat.zero_add];exact hcell _ (by omega)
   ·rw [Nat.zero_add];exact hcell _ (by omega)
  ·obtain ⟨g,cap,e,hg,_,_,hcell,_⟩:=vw hk (by omega);cases e;refine ⟨g,0,rfl,⟨hg,hx g (by simp [blk,Value.ownBlock])⟩,hn i hi,?_⟩;rw [Nat.zero_add,hcell i (by omega)];have hi':i<(rU t).length:=hi;simp [cx,lK,bf,List.getD_eq_getElem?_getD,hi']
theorem Eu {Tb:World->Prop} (hD:bS Tb) (hN:dz Tb) (hL:fG Tb) (s:ByteArray) (w:World) (hs:s.size<=140737488355328) (hT:Tb w) (h0:eJ s=0) :
  Calls Tryz.prog 22 #[.string s] w fun e w'=>Below w.heap.size w w'/\∃ A B C D,e=.returned (.tuple #[.agg #[.int .i64 (ah (tJ s)),.int .i64 (aB (tJ s)),.string (aF (tJ s)),.slice A (nL (tJ s)) B,.slice C (nK (tJ s)) D],.int .i64 0])/\nu (bZ w w') w' 13 (.agg #[.int .i64 (ah (tJ s)),.int .i64 (aB (tJ s)),.string (aF (tJ s)),.slice A (nL (tJ s)) B,.slice C (nK (tJ s)) D]) (tJ s):=by
 refine (Fh hD hN hL s w hs hT).mono ?_;rintro e w1 ⟨b1,es,A,B,C,D,rfl,hF,hS,h1,h2⟩;exact ⟨b1,A,B,C,D,by rw [h0],fC.atP hS.lies hF⟩
def X5 (w w':World) (fv:Value) (t:T):Prop:=∀ w2:World,w'.heap.size<=w2.heap.size->(∀ b,w.heap.size<=b->b<w'.heap.size->w2.heap[b]?=w'.heap[b]?)->gK w2 16 fv t
theorem SI {w w1 wA w3:World} {fv:Value} {t:T} (hr:jd ⟨w1,bZ w w1⟩ w3 (bZ wA w3) 16 fv t) (b1:Below w.heap.size w w1) (bA:Below w1.heap.size w1 wA) (b3:Below wA.heap.size wA w3):X5 w w3 fv t:=by
 intro w2 hs hb;have s1:=b1.size;have sA:=bA.size;have s3:=b3.size;have h1:jd ⟨w1,bZ w w1⟩ w2 (bZ wA w3) 16 fv t:=jd.move (w0:=⟨w1,bZ w w1⟩) (fun b h=>⟨hb b (by have:=h.1;omega) h.2,h⟩) 16 _ _ hr;refine jd.at (w0:=⟨w1,bZ w w1⟩) (fun b h=>Nat.lt_of_lt_of_le h.2 hs) (fun f v u ha=>?_) 16 _ _ h1;have h2:nu (bZ w w1) w1 f v u:=ha;exact (h2.move (q:=fun _=>True) (by omega) fun b h p=>⟨trivial,(hb b p.1 (by omega)).trans ((b3.block b (by omega)).trans (bA.block b h))⟩).at
def vX (w : World) (x s : ByteArray) (D : DataW Unit) (e : Ending) (w' : World) : Prop :=
  Below w.heap.size w w' /\
  ((eJ s ≠ 0 /\ e = .returned (.tuple #[.pointer none, .slice none 0 0, .int .i64 (eJ s)])) \/
   (eJ s = 0 /\ aL 16 (tJ s) = false /\ e = .returned (.tuple #[.pointer none, .slice none 0 0, .int .i64 8])) \/
   (eJ s = 0 /\ aL 16 (tJ s) = true /\ qC D x = .nil /\ e = .returned (.tuple #[.pointer none, .slice none 0 0, .int .i64 10])) \/
   (eJ s = 0 /\ aL 16 (tJ s) = true /\ ∃ c : Nat, qC D x = .lit (.int .i64 c) /\ ∃ fv, e = .returned (.tuple #[.pointer (some ⟨c, 0, none⟩), fv, .int .i64 0]) /\ gK w' 16 fv (tJ s) /\ X5 w w' fv (tJ s)))
theorem Ph {Tb:World->Prop} (hD:bS Tb) (hN:dz Tb) (hL:fG Tb) (p:Nat) (D:DataW Unit) (x s:ByteArray) (w:World) (hs:s.size<=140737488355328) (hT:Tb w) (h0:eJ s≠0) (fn:Value) :
  Calls Tryz.prog 109 #[.pointer (some ⟨p,0,none⟩),.string x,.string s,fn] w (vX w x s D):=by
 have HP:=aj (Fh hD hN hL s w hs hT);have H0:=aj h0;have ez:(eJ s==0)=false:=by simpa using h0
 clear hT hD hN hL h0;go_in;go_wp2_with fail;refine HP.out.mono ?_;rintro e w1 ⟨b1,es,A,B,C,D',rfl,hF,hS,h1,h2⟩;have HB:=aj (b1.alloc b1.size (vC (tJ s) A B C D'));clear b1 hF hS h1 h2 HP;go_wp2_with fail;refine bodyPost_ret (v:=.tuple #[.pointer none,.slice none 0 0,.int .i64 (eJ s)]) (by simp [results,Tryz.results109,go_sem, *]) rfl ?_;exact ⟨HB.out,.inl ⟨H0.out,rfl⟩⟩
theorem SK {Tb:World->Prop} (hD:bS Tb) (hN:dz Tb) (hSp:eF Tb) (hL:fG Tb) (p m n:Nat) (D:DataW Unit) (x s:ByteArray) (w:World) (hs:s.size<=140737488355328) (hx:x.size<=140737488355328) (hst:gY w p m n D) (hT:Tb w) (h0:eJ s=0) :
  Calls Tryz.prog 109 #[.pointer (some ⟨p,0,none⟩),.string x,.string s,.func (Fn.func 110) #[] #[]] w (vX w x s D):=by
 have HP:=aj (Eu hD hN hL s w hs hT h0);have H0:=aj h0;have HK:=aj (gZ h0);have zJ:=aj hst;have HT:Hid (∀ w':World,Below w.heap.size w w'->Tb w'):=fun w' hb=>hL w hT w w' hT hb;have HF:Hid (∀ (v:Value) (w0:lG) (w1:World),yT w0 13 v (tJ s)->Below w0.w.heap.size w0.w w1->Tb w1->Calls Tryz.prog 110 #[v] w1 (NH w0 (tJ s) w1)):=fun v w0 w1 ha hb ht=>KW hSp hL w0 13 v (tJ s) w1 (by omega) ha HK.out hb ht;clear hT hD hN hL h0 hst hSp;go_in;go_wp2_with fail;refine HP.out.mono ?_;rintro e w1 ⟨b1,A,B,C,D',rfl,ha⟩;have jQ:=aj (bG w1 (vC (tJ s) A B C D'));have HB2:=aj (b1.trans (jQ.out.mono b1.size));have HC:=aj (HF.out _ ⟨w1,bZ w w1⟩ _ ha jQ.out (HT.out _ HB2.out));have Hb1:=aj b1;clear b1 ha HP;go_wp2_with fail;refine HC.out.mono ?_;rintro e w3 ⟨b3,⟨hok,fv,rfl,hr⟩ | ⟨hok,rfl⟩⟩
 ·have HB3:=aj (HB2.out.trans (b3.mono HB2.out.size));have HFs:=aj (SI hr Hb1.out jQ.out b3);have HFl:=aj (HFs.out w3 (Nat.le_refl _) fun _ _ _=>rfl);have HO:=aj hok;have JV:=aj (zJ.out.keep HB3.out);have c0:=JV.out.cell;clear b3 hr hok HC jQ HB2 zJ HF HT;rcases JV.out.look x hx with ⟨hrun,hat⟩ | ⟨c,hrun,hat⟩
  ·have xu:=aj hat;clear hat;go_wp2_with fail;refine bodyPost_ret (v:=.tuple #[.pointer none,.slice none 0 0,.int .i64 10]) (by simp [results,Tryz.results109,go_sem, *]) rfl ?_;exact ⟨HB3.out,.inr (.inr (.inl ⟨H0.out,HO.out,xu.out,rfl⟩))⟩
  ·have xu:=aj hat;clear hat;go_wp2_with fail;refine bodyPost_ret (v:=.tuple #[.pointer (some ⟨c,0,none⟩),fv,.int .i64 0]) (by simp [results,Tryz.results109,go_sem, *]) rfl ?_;exact ⟨HB3.out,.inr (.inr (.inr ⟨H0.out,HO.out,c,xu.out,fv,rfl,HFl.out,HFs.out⟩))⟩
 ·have HB3:=aj (HB2.out.trans (b3.mono HB2.out.size));have HO:=aj hok;clear b3 hok HC jQ HB2 zJ HF HT;go_wp2_with fail;refine bodyPost_ret (v:=.tuple #[.pointer none,.slice none 0 0,.int .i64 8]) (by simp [results,Tryz.results109,go_sem, *]) rfl ?_;exact ⟨HB3.out,.inr (.inl ⟨H0.out,HO.out,rfl⟩)⟩
theorem Pj {Tb:World->Prop} (hD:bS Tb) (hN:dz Tb) (hSp:eF Tb) (hL:fG Tb) (p m n:Nat) (D:DataW Unit) (x s:ByteArray) (w:World) (hs:s.size<=140737488355328) (hx:x.size<=140737488355328) (hst:gY w p m n D) (hT:Tb w) :
  Calls Tryz.prog 109 #[.pointer (some ⟨p,0,none⟩),.string x,.string s,.func (Fn.func 110) #[] #[]] w (vX w x s D):=by
 by_cases h0:eJ s=0
 ·exact SK hD hN hSp hL p m n D x s w hs hx hst hT h0
 ·exact Ph hD hN hL p D x s w hs hT h0 _
theorem Bt {Tb:World->Prop} (hD:bS Tb) (hN:dz Tb) (hSp:eF Tb) (hL:fG Tb) (p m n:Nat) (D:DataW Unit) (x s:ByteArray) (w:World) (hs:s.size<=140737488355328) (hx:x.size<=140737488355328) (hst:gY w p m n D) (hT:Tb w) :
  Calls Tryz.prog 63 #[.pointer (some ⟨p,0,none⟩),.string x,.string s] w (vX w x s D):=by
 have HC:=aj (Pj hD hN hSp hL p m n D x s w hs hx hst hT);clear hD hN hSp hL hst hT hs hx;go_in;go_wp2_with fail;refine HC.out.mono ?_;rintro e w1 ⟨b1,⟨h1,rfl⟩ | ⟨h1,h2,rfl⟩ | ⟨h1,h2,h3,rfl⟩ | ⟨h1,h2,c,h3,fv,rfl,h4⟩⟩
 ·have HB:=aj b1;have H1:=aj h1;clear b1 h1 HC;go_wp2_with fail;refine bodyPost_ret (v:=.tuple #[.pointer none,.slice none 0 0,.int .i64 (eJ s)]) (by simp [results,Tryz.results63,go_sem, *]) rfl ?_;exact ⟨HB.out,.inl ⟨H1.out,rfl⟩⟩
 ·have HB:=aj b1;have H1:=aj (And.intro h1 h2);clear b1 h1 h2 HC;go_wp2_with fail;refine bodyPost_ret (v:=.tuple #[.pointer none,.slice none 0 0,.int .i64 8]) (by simp [results,Tryz.results63,go_sem, *]) rfl ?_;exact ⟨HB.out,.inr (.inl ⟨H1.out.1,H1.out.2,rfl⟩)⟩
 ·have HB:=aj b1;have H1:=aj (And.intro h1 (And.intro h2 h3));clear b1 h1 h2 h3 HC;go_wp2_with fail;refine bodyPost_ret (v:=.tuple #[.pointer none,.slice none 0 0,.int .i64 10]) (by simp [results,Tryz.results63,go_sem, *]) rfl ?_;exact ⟨HB.out,.inr (.inr (.inl ⟨H1.out.1,H1.out.2.1,H1.out.2.2,rfl⟩))⟩
 ·have HB:=aj b1;have H1:=aj (And.intro h1 (And.intro h2 (And.intro h3 h4)));clear b1 h1 h2 h3 h4 HC;go_wp2_with fail;refine bodyPost_ret (v:=.tuple #[.pointer (some ⟨c,0,none⟩),fv,.int .i64 0]) (by simp [results,Tryz.results63,go_sem, *]) rfl ?_;exact ⟨HB.out,.inr (.inr (.inr ⟨H1.out.1,H1.out.2.1,c,H1.out.2.2.1,fv,rfl,H1.out.2.2.2⟩))⟩
end Go.Proofs.YtknakfpciccoaaaGreatDoor
/- The walk of Find. -/
namespace Go.Proofs.YtknakfpciccoaaaGreatDoor
open Go.RowKit Go.Maps Go.WideMaps
theorem K9 (k n:Int) (s:ByteArray) (l:List T) (ks:List ByteArray):∀ j,j<=l.length->J4 (dU k n s l ks) j=(l.take j).map fun t=>.string (vW t)
 | 0,_=>rfl
 | j+1,h=>by
  have e:elt (dU k n s l ks) j=l[j]:=by rw [pO,List.getD_eq_getElem?_getD,List.getElem?_eq_getElem h];rfl
  rw [J4,K9 k n s l ks j (by omega),e,List.take_add_one,List.getElem?_eq_getElem h];simp only [Option.toList_some,List.map_append,List.map_cons,List.map_nil]
def Bu (w:World) (c f:Nat) (d:T):Prop:=∃ La Lc,w.cell? ⟨c,0,none⟩=some (.slice La (nL d) Lc)/\c<w.heap.size/\bC w f La d
theorem Bu.keep {w w':World} {c f:Nat} {d:T} (h:Bu w c f d) (hb:Below w.heap.size w w'):Bu w' c f d:=by
 obtain ⟨La,Lc,h1,h2,h3⟩:=h;exact ⟨La,Lc,(hb.cell (p:=⟨c,0,none⟩) h2).trans h1,Nat.lt_of_lt_of_le h2 hb.size,h3.keep hb⟩
def SL (s:ByteArray) (d:T):List T:=jG (dN 16 (tJ s)) d (nL d)
def SN (w : World) (x s : ByteArray) (D : DataW Unit) (NM : Nat -> T) (e : Ending) (w' : World) : Prop :=
  Below w.heap.size w w' /\
  ((eJ s ≠ 0 /\ e = .returned (.tuple #[.slice none 0 0, .int .i64 (eJ s)])) \/
   (eJ s = 0 /\ aL 16 (tJ s) = false /\ e = .returned (.tuple #[.slice none 0 0, .int .i64 8])) \/
   (eJ s = 0 /\ aL 16 (tJ s) = true /\ qC D x = .nil /\ e = .returned (.tuple #[.slice none 0 0, .int .i64 10])) \/
   (eJ s = 0 /\ aL 16 (tJ s) = true /\ ∃ c : Nat, qC D x = .lit (.int .i64 c) /\ ∃ sv, e = .returned (.tuple #[sv, .int .i64 0]) /\ w'.ownsRow w.heap.size 9 1 sv (SL s (NM c)).length ((SL s (NM c)).map fun t => .string (vW t))))
structure dS (Tb:World->Prop):Prop where
 dec:bS Tb
 int:dz Tb
 split:eF Tb
 atoi:kX Tb
 itoa:kW Tb
 valid:dL Tb
 fmt:pU Tb
 lies:fG Tb
theorem mY {w:World} {lo lo':Nat} {e:TypeId} {s n:Nat} {v:Value} {xs:List Value} (h:w.ownsRow lo e s v n xs) (hl:lo'<=lo):w.ownsRow lo' e s v n xs:=by
 refine ⟨h.1,?_⟩;rcases h.2 with hn | ⟨g,cap,cur,rfl,hb0,rest⟩
 ·exact .inl hn
 ·exact .inr ⟨g,cap,cur,rfl,Nat.le_trans hl hb0,rest⟩
theorem SQ {Tb:World->Prop} (hA:dS Tb) (p m n f:Nat) (D:DataW Unit) (NM:Nat->T) (x s:ByteArray) (w:World) (hs:s.size<=140737488355328) (hx:x.size<=140737488355328) (hst:gY w p m n D)
  (hc:∀ c:Nat,qC D x=.lit (.int .i64 c)->Bu w c f (NM c)/\nL (NM c)<=1000000/\∀ i,i<nL (NM c)->dZ (elt (NM c) i)) (hf:f<=16) (hT:Tb w) :
  Calls Tryz.prog 27 #[.pointer (some ⟨p,0,none⟩),.string x,.string s] w (SN w x s D NM):=by
 have HC:=aj (Bt hA.dec hA.int hA.split hA.lies p m n D x s w hs hx hst hT);have Hc:=aj hc;have HT:Hid (∀ w':World,Below w.heap.size w w'->Tb w'):=fun w' hb=>hA.lies w hT w w' hT hb;have HAm:Hid (∀ (Ny:Value) (t d:T) (La:Option Addr) (Lc:Nat) (w:World),gK w 16 Ny t->bC w f La d->nL d<=1000000->(∀ i,i<nL d->dZ (elt d i))->Tb w->Calls Tryz.prog 65 #[Ny,.slice La (nL d) Lc] w fun e w'=>∃ hv xs,e=.returned hv/\rJ w f hv (jG (dN 16 t) d (nL d)) xs w'):=fun Ny t d La Lc w h1 h2 h3 h4 h5=>KO hA.lies 16 (Fx hA.atoi hA.itoa hA.lies 16) Ny t d f La Lc w h1 h2 h3 hf h4 h5;have HPr:Hid (∀ (d:T) (La:Option Addr) (Lc:Nat) (w:World),bC w f La d->nL d<=1000000->Tb w->Calls Tryz.prog 64 #[.slice La (nL d) Lc] w fun e w'=>Below w.heap.size w w'/\∃ sv,e=.returned sv/\w'.ownsRow w.heap.size 9 1 sv (nL d) (J4 d (nL d))):=fun d La Lc w h1 h2 h3=>FH hA.valid hA.fmt hA.lies d f La Lc w h1 h2 h3;clear hst hT hs hx hc hA hf;go_in;go_wp2_with fail;refine HC.out.mono ?_;rintro e w1 ⟨b1,⟨h1,rfl⟩ | ⟨h1,h2,rfl⟩ | ⟨h1,h2,h3,rfl⟩ | ⟨h1,h2,c,h3,fv,rfl,h4,_⟩⟩
 ·have HB:=aj b1;have H1:=aj h1;have ez:(eJ s==0)=false:=by simpa using h1
  clear b1 h1 HC;go_wp2_with fail;refine bodyPost_ret (v:=.tuple #[.slice none 0 0,.int .i64 (eJ s)]) (by simp [results,Tryz.results27,go_sem, *]) rfl ?_;exact ⟨HB.out,.inl ⟨H1.out,rfl⟩⟩
 ·have HB:=aj b1;have H1:=aj (And.intro h1 h2);clear b1 h1 h2 HC;go_wp2_with fail;refine bodyPost_ret (v:=.tuple #[.slice none 0 0,.int .i64 8]) (by simp [results,Tryz.results27,go_sem, *]) rfl ?_;exact ⟨HB.out,.inr (.inl ⟨H1.out.1,H1.out.2,rfl⟩)⟩
 ·have HB:=aj b1;have H1:=aj (And.intro h1 (And.intro h2 h3));clear b1 h1 h2 h3 HC;go_wp2_with fail;refine bodyPost_ret (v:=.tuple #[.slice none 0 0,.int .i64 10]) (by simp [results,Tryz.results27,go_sem, *]) rfl ?_;exact ⟨HB.out,.inr (.inr (.inl ⟨H1.out.1,H1.out.2.1,H1.out.2.2,rfl⟩))⟩
 ·obtain ⟨hco,hn,hok⟩:=Hc.out c h3;obtain ⟨La,Lc,q0,hcl,hel⟩:=hco.keep b1;have HB:=aj b1;have H1:=aj (And.intro h1 (And.intro h2 h3));have HM:=aj (HAm.out fv (tJ s) (NM c) La Lc w1 h4 hel hn hok (HT.out _ b1));have Hn:=aj hn;clear b1 h1 h2 h3 h4 HC hco hel hok HAm hcl hn;go_wp2_with fail;refine HM.out.mono ?_;rintro e w2 ⟨hv,xs,rfl,hh⟩;obtain ⟨La2,X6,rfl,aaf⟩:=hh.elems;have HB2:=aj (HB.out.trans (hh.low.mono HB.out.size));have HR:=aj (HPr.out _ La2 X6 w2 aaf (by rw [cK];exact Nat.le_trans (Bn _ _ _) Hn.out) (HT.out _ HB2.out));rw [cK] at HR
  have R5:Hid (J4 (dU 5 0 ByteArray.empty (jG (dN 16 (tJ s)) (NM c) (nL (NM c))) []) (jG (dN 16 (tJ s)) (NM c) (nL (NM c))).length=(SL s (NM c)).map fun t=>.string (vW t)):=by
   show _=_;rw [K9 _ _ _ _ _ _ (Nat.le_refl _),List.take_length];rfl
  rw [R5.out] at HR;clear hh aaf HM HPr;go_wp2_with fail;refine HR.out.mono ?_;rintro e w3 ⟨b3,sv,rfl,ho⟩;have HB3:=aj (HB2.out.trans (b3.mono HB2.out.size));have HO:=aj (mY ho HB2.out.size);clear b3 ho HR;go_wp2_with fail;refine bodyPost_ret (v:=.tuple #[sv,.int .i64 0]) (by simp [results,Tryz.results27,go_sem, *]) rfl ?_;exact ⟨HB3.out,.inr (.inr (.inr ⟨H1.out.1,H1.out.2.1,c,H1.out.2.2,sv,rfl,HO.out⟩))⟩
theorem mZ (w0:World) (r:Value) (acc:List UInt8) (n:Int) (m:Nat) (w:World) (hr:w.ownsRow w0.heap.size 5 1 r acc.length (aA acc)) (hb:w0.heap.size<=w.heap.size) (_hn0:0<=n) (_hn1:n<18446744073709551616) (hm:m<=8) (hl:acc.length<=1000000000) :
  Calls Tryz.prog 86 #[r,.int .u64 n,.int .i64 m] w fun e w'=>∃ r',e=.returned r'/\QG w0 r w r' (acc++jS n m) w':=by
 obtain ⟨iB,zK,Bv,zL,Bw⟩:=info_parts FI;have HR:=aj (QG.refl hr);clear hr;go_in;go_wp2_with fail;go_loopg [0,7] m (fun g o i wr=>∃ (j:Nat) (a:List UInt8),g=j/\j<=m/\i=.int .i64 ((j:Int) - 1)/\a.length<=1000000008 - j/\Hid (a++jS n j=acc++jS n m)/\Hid (QG w0 r w o a wr))
 case atStart=>exact ⟨m,acc,rfl,Nat.le_refl _,by go_num,by omega,rfl,HR⟩
 case round =>
  obtain ⟨_,a,rfl,hj,rfl,hla,HE,HQ⟩:=hrel;cases gk with
  | zero =>
   have e1:((0:Nat):Int) - 1=-1:=by omega
   rw [e1];have HA:Hid (a=acc++jS n m):=by have:=HE.out;show _=_;simpa [jS] using this
   go_wp2_with fail;go_ret;exact ⟨_,rfl,HQ.out.acc HA.out⟩
  | succ i =>
   have e1:((i+1:Nat):Int) - 1=(i:Int):=by omega
   rw [e1];obtain ⟨q,hq⟩:∃ q:Nat,q=8*i:=⟨_,rfl⟩;have f1:IntKind.i64.wrap (8*(i:Int))=(q:Int):=by rw [IntKind.wrap_i64];omega
   have f2:q<=56:=by omega
   have f3:((jr n i).toNat:Int)=n / 2 ^ q % 256:=by rw [mW,hq,Int.pow_mul];rfl
   have f4:IntKind.u8.wrap (n / 2 ^ q)=((jr n i).toNat:Int):=by rw [IntKind.wrap_u8];omega
   have Hq:=aj hq;clear hq f3;have hbw:w0.heap.size<=wr.heap.size:=Nat.le_trans hb HQ.out.grown.size;have HB1:=aj (bG wr (.cells #[.int .u8 ((jr n i).toNat:Int)] 5));have HI1:=aj (HQ.out.keep HB1.out);have uL:Hid (Src Tryz.prog 1 63 (.slice (some ⟨wr.heap.size,0,none⟩) 1 1) 1 (aA [jr n i]) (wr.alloc (.cells #[.int .u8 ((jr n i).toNat:Int)] 5))):=aj (qm wr [jr n i]);go_wp2_with (at_builtin;refine ay _ rfl (.tmp 14) (.tmp 20) 63 63 rfl w0.heap.size 5 iB _ 1 1 Tryz.underlying63 zK Bv zL Bw rfl u0 a.length (aA a) rfl HI1.out.row (.slice (some ⟨wr.heap.size,0,none⟩) 1 1) 1 (aA [jr n i]) rfl uL.out (by unfold maxLen;omega) (by omega) (Nat.le_trans hbw HB1.out.size) ?_;intro v' w6 gU gQ bI);have H6:=aj (HI1.out.grow (l:=[jr n i]) gU gQ bI);clear gU gQ bI HI1 uL HB1;have HE2:Hid ((a++[jr n i])++jS n i=acc++jS n m):=by have:=HE.out;show _=_;rw [<- this];simp [jS]
   go_wp2_with fail;go_roundg i
   case rel=>exact ⟨i,a++[jr n i],rfl,by omega,by go_num,by simp only [List.length_append,List.length_cons,List.length_nil];omega,HE2,H6⟩
   case measure=>omega
theorem QG.from {w0 w w1:World} {o:Obj} {r r1:Value} {a a1:List UInt8} (hr:w.ownsRow w0.heap.size 5 1 r a.length (aA a)) (h:QG w0 r (w.alloc o) r1 a1 w1):QG w0 r w r1 a1 w1 :=
 ((QG.refl hr).keep ((Below.refl _ _).alloc (Nat.le_refl _) o)).trans h
theorem QG.here {w0 w:World} {o:Obj} {r:Value} {a:List UInt8} (hr:w.ownsRow w0.heap.size 5 1 r a.length (aA a)):QG w0 r (w.alloc o) r a (w.alloc o) :=
 QG.refl ((QG.refl hr).keep ((Below.refl _ _).alloc (Nat.le_refl _) o)).row
theorem Ev (n:Int):IntKind.u8.wrap n=((jr n 0).toNat:Int):=by rw [IntKind.wrap_u8,mW];simp
theorem FJ (n:Int):0<=n % 18446744073709551616/\n % 18446744073709551616<18446744073709551616:=⟨Int.emod_nonneg _ (by omega),Int.emod_lt_of_pos _ (by omega)⟩
def Ld (w0:World) (m:Nat):Prop:=∀ (f:Nat) (v:Value) (t:T) (acc:List UInt8) (r:Value) (w:World),At w0 f v t->fJ m t->Below w0.heap.size w0 w->w.ownsRow w0.heap.size 5 1 r acc.length (aA acc)->acc.length+(bK m t).length<=100000000 ->
  Calls Tryz.prog 46 #[r,v] w fun e w'=>∃ r',e=.returned r'/\QG w0 r w r' (acc++bK m t) w'
theorem yA (w0:World) (t:T) (hg:bF t) (ht:Cu t) (acc:List UInt8) (r:Value) (w:World) (La Ka:Option Addr) (Lc Kc:Nat) (hb:w0.heap.size<=w.heap.size) (hr:w.ownsRow w0.heap.size 5 1 r acc.length (aA acc)) (hl:acc.length+(gM t).length<=100000000) :
  Calls Tryz.prog 46 #[r,.agg #[.int .i64 (ah t),.int .i64 (aB t),.string (aF t),.slice La (nL t) Lc,.slice Ka (nK t) Kc]] w fun e w'=>∃ r',e=.returned r'/\QG w0 r w r' (acc++gM t) w':=by
 obtain ⟨iB,zK,Bv,zL,Bw⟩:=info_parts FI;have HR:=aj hr;have U6:=aj ht;have hl1:acc.length<=100000000:=by omega
 have Hl:=aj hl;clear hr ht hl;have fk:IntKind.u8.wrap (ah t)=((aX t).toNat:Int):=Ev _;have H0:Hid (QG w0 r (w.alloc (.cells #[.int .i64 (ah t),.int .i64 (aB t),.string (aF t),.slice La (nL t) Lc,.slice Ka (nK t) Kc] 25)) r acc (w.alloc (.cells #[.int .i64 (ah t),.int .i64 (aB t),.string (aF t),.slice La (nL t) Lc,.slice Ka (nK t) Kc] 25))):=QG.here HR.out;have HB1:Hid (Below (w.heap.size+1) (w.alloc (.cells #[.int .i64 (ah t),.int .i64 (aB t),.string (aF t),.slice La (nL t) Lc,.slice Ka (nK t) Kc] 25)) ((w.alloc (.cells #[.int .i64 (ah t),.int .i64 (aB t),.string (aF t),.slice La (nL t) Lc,.slice Ka (nK t) Kc] 25)).alloc (.cells #[.int .u8 ((aX t).toNat:Int)] 5))):=(Below.refl _ _).alloc (by simp) _;have HI1:=aj (H0.out.keep (HB1.out.mono (by simp)))
 have uL:Hid (Src Tryz.prog 1 63 (.slice (some ⟨w.heap.size+1,0,none⟩) 1 1) 1 (aA [aX t]) ((w.alloc (.cells #[.int .i64 (ah t),.int .i64 (aB t),.string (aF t),.slice La (nL t) Lc,.slice Ka (nK t) Kc] 25)).alloc (.cells #[.int .u8 ((aX t).toNat:Int)] 5))):=by
  have:=qm (w.alloc (.cells #[.int .i64 (ah t),.int .i64 (aB t),.string (aF t),.slice La (nL t) Lc,.slice Ka (nK t) Kc] 25)) [aX t];apply aj;simpa [aA] using this
 have hbz:w0.heap.size<=((w.alloc (.cells #[.int .i64 (ah t),.int .i64 (aB t),.string (aF t),.slice La (nL t) Lc,.slice Ka (nK t) Kc] 25)).alloc (.cells #[.int .u8 ((aX t).toNat:Int)] 5)).heap.size:=by simp;omega
 obtain ⟨g1,g2,hg⟩:=hg;clear g1 g2;rcases hg with ⟨hk,g3⟩ | ⟨hk,hn,g3⟩ | ⟨hk,g3⟩ | ⟨hk,g3,hsz,g4⟩
 all_goals clear g3
 ·skip
  have e2:(ah t==2)=false:=by rw [hk];rfl
  have e3:(ah t==3)=false:=by rw [hk];rfl
  have e4:(ah t==4)=false:=by rw [hk];rfl
  have e5:(ah t==5)=false:=by rw [hk];rfl
  have e6:(ah t==6)=false:=by rw [hk];rfl
  have HW:Hid (gM t=[aX t]):=by show _=_;unfold gM;rw [if_neg (by omega),if_neg (by omega),if_neg (by omega)]
  clear hk;go_in;go_wp2_with (at_builtin;refine ay _ rfl (.tmp 5) (.tmp 9) 63 63 rfl w0.heap.size 5 iB _ 1 1 Tryz.underlying63 zK Bv zL Bw rfl r acc.length (aA acc) rfl HI1.out.row (.slice (some ⟨w.heap.size+1,0,none⟩) 1 1) 1 (aA [aX t]) rfl uL.out (by unfold maxLen;omega) (by omega) hbz ?_;intro r1 w1 zM hG1 qp;have yY:=aj (HI1.out.grow (l:=[aX t]) zM hG1 qp);clear zM hG1 qp HI1 uL HB1 H0 hbz;obtain ⟨q0,q1,q2,q3,q4,hz⟩:=QG.box HR.out yY.out;have hb1:w0.heap.size<=w1.heap.size:=by omega);go_ret;exact ⟨_,rfl,by rw [HW.out];exact yY.out.from HR.out⟩
 ·skip
  have e2:(ah t==2)=true:=by rw [hk];rfl
  have HW:Hid (gM t=[aX t]++[jr (aB t) 0]):=by show _=_;unfold gM;rw [if_pos hk];rfl
  have fn:IntKind.u8.wrap (aB t)=((jr (aB t) 0).toNat:Int):=Ev _;have HSc:=aj (fun w:World=>qm w [jr (aB t) 0]);generalize hc:jr (aB t) 0=c at fn HSc;have Hc:=aj hc;clear hk hn hc;go_in;go_wp2_with (first | (at_builtin;refine ay _ rfl (.tmp 5) (.tmp 9) 63 63 rfl w0.heap.size 5 iB _ 1 1 Tryz.underlying63 zK Bv zL Bw rfl r acc.length (aA acc) rfl HI1.out.row (.slice (some ⟨w.heap.size+1,0,none⟩) 1 1) 1 (aA [aX t]) rfl uL.out (by unfold maxLen;omega) (by omega) hbz ?_;intro r1 w1 zM hG1 qp;have yY:=aj (HI1.out.grow (l:=[aX t]) zM hG1 qp);clear zM hG1 qp HI1 uL HB1 H0 hbz;obtain ⟨q0,q1,q2,q3,q4,hz⟩:=QG.box HR.out yY.out;have hb1:w0.heap.size<=w1.heap.size:=by omega) | (at_builtin;refine ay _ rfl (.tmp 15) (.tmp 19) 63 63 rfl w0.heap.size 5 iB _ 1 1 Tryz.underlying63 zK Bv zL Bw rfl r1 (acc++[aX t]).length (aA (acc++[aX t])) rfl (yY.out.keep ((Below.refl _ _).alloc (Nat.le_refl _) (.cells #[.int .u8 (c.toNat:Int)] 5))).row (.slice (some ⟨w1.heap.size,0,none⟩) 1 1) 1 (aA [c]) rfl (HSc.out w1) (by simp only [List.length_append,List.length_cons,List.length_nil];unfold maxLen;omega) (by simp only [List.length_append,List.length_cons,List.length_nil];omega) (by simp;omega) ?_;intro r2 w2 hO2 hG2 Vw;have IX:=aj ((yY.out.keep ((Below.refl _ _).alloc (Nat.le_refl _) (.cells #[.int .u8 (c.toNat:Int)] 5))).grow (l:=[c]) hO2 hG2 Vw);clear hO2 hG2 Vw));go_ret
  exact ⟨_,rfl,by rw [HW.out,Hc.out,<- List.append_assoc];exact IX.out.from HR.out⟩
 ·skip
  have e2:(ah t==2)=false:=by rw [hk];rfl
  have e3:(ah t==3)=true:=by rw [hk];rfl
  have HW:Hid (gM t=[aX t]++jS (aB t) 8):=by show _=_;unfold gM;rw [if_neg (by omega),if_pos hk];rfl
  obtain ⟨N,hN⟩:∃ N:Int,N=aB t % 18446744073709551616:=⟨_,rfl⟩;have fn:IntKind.u64.wrap (aB t)=N:=by rw [hN,IntKind.wrap_u64]
  have HN:Hid (jS N 8=jS (aB t) 8):=by show _=_;rw [hN];exact IL _ 8 (by omega)
  have Qy:=aj (hN ▸ FJ (aB t));clear hk hN;go_in;go_wp2_with (at_builtin;refine ay _ rfl (.tmp 5) (.tmp 9) 63 63 rfl w0.heap.size 5 iB _ 1 1 Tryz.underlying63 zK Bv zL Bw rfl r acc.length (aA acc) rfl HI1.out.row (.slice (some ⟨w.heap.size+1,0,none⟩) 1 1) 1 (aA [aX t]) rfl uL.out (by unfold maxLen;omega) (by omega) hbz ?_;intro r1 w1 zM hG1 qp;have yY:=aj (HI1.out.grow (l:=[aX t]) zM hG1 qp);clear zM hG1 qp HI1 uL HB1 H0 hbz;obtain ⟨q0,q1,q2,q3,q4,hz⟩:=QG.box HR.out yY.out;have hb1:w0.heap.size<=w1.heap.size:=by omega);rw [show (Value.int .i64 8)=.int .i64 ((8:Nat):Int) from rfl];refine (mZ w0 r1 (acc++[aX t]) N 8 w1 yY.out.row hb1 Qy.out.1 Qy.out.2 (by omega) (by simp only [List.length_append,List.length_cons,List.length_nil];omega)).mono ?_;rintro e w2 ⟨r2,rfl,hq2⟩;have IX:=aj (yY.out.trans hq2);clear hq2;go_wp2_with fail;go_ret;exact ⟨_,rfl,by rw [HW.out,<- HN.out,<- List.append_assoc];exact IX.out.from HR.out⟩
 ·skip
  have e2:(ah t==2)=false:=by rw [hk];rfl
  have e3:(ah t==3)=false:=by rw [hk];rfl
  have e4:(ah t==4)=true:=by rw [hk];rfl
  have HW:Hid (gM t=[aX t]++jS (aF t).size 4++(aF t).data.toList):=by show _=_;unfold gM;rw [if_neg (by omega),if_neg (by omega),if_pos hk];simp
  generalize aF t=s at *;clear hk;go_in;go_wp2_with (at_builtin;refine ay _ rfl (.tmp 5) (.tmp 9) 63 63 rfl w0.heap.size 5 iB _ 1 1 Tryz.underlying63 zK Bv zL Bw rfl r acc.length (aA acc) rfl HI1.out.row (.slice (some ⟨w.heap.size+1,0,none⟩) 1 1) 1 (aA [aX t]) rfl uL.out (by unfold maxLen;omega) (by omega) hbz ?_;intro r1 w1 zM hG1 qp;have yY:=aj (HI1.out.grow (l:=[aX t]) zM hG1 qp);clear zM hG1 qp HI1 uL HB1 H0 hbz;obtain ⟨q0,q1,q2,q3,q4,hz⟩:=QG.box HR.out yY.out;have hb1:w0.heap.size<=w1.heap.size:=by omega);have fz:IntKind.u64.wrap (s.size:Int)=(s.size:Int):=by rw [IntKind.wrap_u64];omega
  have HQd:=aj (yY.out.keep (ak w1));have hbd:w0.heap.size<=w1.drew.heap.size:=by simpa using hb1
  have hl2:(acc++[aX t]).length<=100000001:=by simp only [List.length_append,List.length_cons,List.length_nil];omega
  have HC:=aj (mZ w0 r1 (acc++[aX t]) (s.size:Int) 4 w1.drew HQd.out.row hbd (by omega) (by omega) (by omega) (by omega));have hl3:((acc++[aX t])++jS (s.size:Int) 4).length<=100000005:=by rw [List.length_append,bE];omega
  generalize hA:(acc++[aX t])++jS (s.size:Int) 4=xA at HC hl3;have HA:=aj hA;clear hA hl2 g4;go_region_law (first | (refine qB _ (by rfl) (.tmp 35) (.tmp 37) 63 9 (by rfl) w0.heap.size 5 iB _ 1 1 Tryz.underlying63 zK Bv zL Bw rfl r2 xA.length (aA xA) (by rfl) IX.out.row (.string s) s.size (aA s.data.toList) (by rfl) (oV _ Tryz.underlying9 s) (by unfold maxLen;omega) (by omega) hb2 ?_;intro r3 w3 hO3 hG3 SS) | (go_simp;go_wp2_with (go_at_call 86;refine HC.out.mono ?_;rintro e w2 ⟨r2,rfl,hq2⟩;have IX:=aj (HQd.out.trans hq2);obtain ⟨p0,p1,p2,p3,p4,hz2⟩:=QG.box HR.out IX.out;have hb2:w0.heap.size<=w2.heap.size:=by omega)))
  all_goals
   have HQ3:=aj (IX.out.grow (l:=s.data.toList) hO3 hG3 SS);clear hO3 hG3 SS hq2 IX;go_wp2_with fail;go_ret;exact ⟨_,rfl,by rw [HW.out,<- List.append_assoc,<- List.append_assoc,HA.out];exact HQ3.out.from HR.out⟩
end Go.Proofs.YtknakfpciccoaaaGreatDoor
