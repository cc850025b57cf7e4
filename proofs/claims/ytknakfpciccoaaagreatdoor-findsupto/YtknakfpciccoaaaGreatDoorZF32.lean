import Derived.Test.YtknakfpciccoaaaGreatDoorZF31
import Derived.Test.YtknakfpciccoaaaGreatDoorZF28
/- The reference's Holds. -/
set_option maxHeartbeats 8000000
set_option maxRecDepth 100000
namespace Go.Proofs.YtknakfpciccoaaaGreatDoor
open Go.RowKit
def Mg (f:Nat):Prop:=∀ (m:Nat) (fv:Value) (t:T) (g:Nat) (dv:Value) (d:T) (w:World),At w f fv t->At w g dv d->f<=m->f<=16->g<=16->dZ t->dZ d->Gd t->Gd d->aL m t=true->Calls Tryz.prog 173 #[fv,dv] w fun e w'=>e=.returned (.bool (dN m t d))/\Below w.heap.size w w'
def rP (p:T->Bool) (t:T):Nat->Nat
 | 0=>0
 | k+1=>rP p t k+(if p (elt t k) then 1 else 0)
theorem zR (p:T->Bool) (t:T):∀ k,rP p t k<=k
 | 0=>Nat.le_refl _
 | k+1=>by have:=zR p t k;rw [rP];split<;>omega
theorem Jp (p:T->Bool) (t:T):∀ k,gB p t k=decide (rP p t k=k)
 | 0=>rfl
 | k+1=>by
  have h:=zR p t k;rw [gB,rP,Jp p t k];cases p (elt t k) with
  | true=>simp
  | false=>simp;omega
theorem Jq (p:T->Bool) (t:T):∀ k,bg p t k=decide (0<rP p t k)
 | 0=>rfl
 | k+1=>by
  rw [bg,rP,Jq p t k];cases p (elt t k) with
  | true=>simp
  | false=>simp
theorem Gd.names {t:T} (h:Gd t) (k:ah t=6):nK t=nL t:=by
 have hl:bF t->nK t=nL t:=fun h=>by rw [h.1,h.2.1]
 obtain ⟨m,h⟩:=h;cases m with
 | zero=>exact hl h
 | succ m =>
  rcases h with h | ⟨_,_,_,⟨h5,_⟩ | ⟨_,h6,_⟩⟩
  ·exact hl h
  ·omega
  ·exact h6
theorem Jr:∀ (ps:List ByteArray) (t r:T),Gd t->gJ ps t=some r->Gd r
 | [],t,r,g,h=>by cases h;exact g
 | x::l,t,r,g,h=>by
  rw [gJ] at h;cases hp:wL x t with
  | none=>rw [hp] at h;cases h
  | some k =>
   rw [hp] at h;exact Jr l (elt t k) r (g.elt (KJ hp g.names)) h
theorem Mh (op:ByteArray):((op=jl\/op=oU\/op=jm)/\(((op.toList==[36,97,110,100])=true/\(op.toList==[36,111,114])=false/\(op.toList==[36,110,111,114])=false)\/((op.toList==[36,97,110,100])=false/\(op.toList==[36,111,114])=true/\(op.toList==[36,110,111,114])=false)\/((op.toList==[36,97,110,100])=false/\(op.toList==[36,111,114])=false/\(op.toList==[36,110,111,114])=true)))\/(rH op/\(op.toList==[36,97,110,100])=false/\(op.toList==[36,111,114])=false/\(op.toList==[36,110,111,114])=false):=by
 by_cases h0:op=jl
 ·subst h0;exact .inl ⟨.inl rfl,.inl ⟨aT rfl,au (b:=oU) (by decide),au (b:=jm) (by decide)⟩⟩
 by_cases h1:op=oU
 ·subst h1;exact .inl ⟨.inr (.inl rfl),.inr (.inl ⟨au h0,aT rfl,au (b:=jm) (by decide)⟩)⟩
 by_cases h2:op=jm
 ·exact .inl ⟨.inr (.inr h2),.inr (.inr ⟨au h0,au h1,aT h2⟩)⟩
 exact .inr ⟨⟨h0,h1,h2⟩,au h0,au h1,au h2⟩
theorem PS {g:T->T->Bool} {x:ByteArray} {j d:T} (h:x=jl\/x=oU\/x=jm):sP g x j d=(((x.toList==[36,97,110,100])&&decide (rP (fun y=>g y d) j (nL j)=nL j)) || (((x.toList==[36,111,114])&&decide (0<rP (fun y=>g y d) j (nL j))) || ((x.toList==[36,110,111,114])&&!decide (0<rP (fun y=>g y d) j (nL j))))):=by
 rw [<- Jp,<- Jq];rcases h with rfl | rfl | rfl
 ·rw [show (jl.toList==[36,97,110,100])=true from aT rfl,show (jl.toList==[36,111,114])=false from au (b:=oU) (by decide),show (jl.toList==[36,110,111,114])=false from au (b:=jm) (by decide),sP,if_pos rfl];simp
 ·rw [show (oU.toList==[36,97,110,100])=false from au (b:=jl) (by decide),show (oU.toList==[36,111,114])=true from aT rfl,show (oU.toList==[36,110,111,114])=false from au (b:=jm) (by decide),sP,if_neg (by decide),if_pos rfl];simp
 ·rw [show (jm.toList==[36,97,110,100])=false from au (b:=jl) (by decide),show (jm.toList==[36,111,114])=false from au (b:=oU) (by decide),show (jm.toList==[36,110,111,114])=true from aT rfl,sP,if_neg (by decide),if_neg (by decide),if_pos rfl];simp
theorem PU {g:T->T->Bool} {x:ByteArray} {j d:T} (h:rH x):sP g x j d=WS (aU x) (jO j) d:=by
 unfold sP;rw [if_neg h.1,if_neg h.2.1,if_neg h.2.2]
theorem VQ {j r:T} {th:Bool} (h:¬ iQ j):uw 16 (jO j) r th=(th&&(bq 16 r j==0)):=by
 unfold jO;rw [if_neg (show ¬ (ah j=6/\0<nK j/\qI (bf j 0)=true) from h)];show (lC 16 (qb,j) r th&&true)=_;rw [Bool.and_true];exact TD 15 j r th
theorem TQ {j:T} (h:iQ j):jO j=iO j:=by unfold jO;exact if_pos h
theorem Mi (f:Nat) (ih:Mg f):Mg (f+1):=by
 intro m fv t g dv d w h hd hm h16 lQ hok Og gdt gdd hfil;obtain ⟨m,rfl⟩:∃ m',m=m'+1:=⟨m - 1,by omega⟩
 have hA:ah t=6/\eO (fun i=>qL (aL m) (bf t i) (elt t i)) (nK t)=true:=by
  have h:(ah t==6&&eO (fun i=>qL (aL m) (bf t i) (elt t i)) (nK t))=true:=hfil;rw [Bool.and_eq_true] at h;exact ⟨by simpa using h.1,h.2⟩
 have hnl:=hok.names hA.1;have hsm:=hok.small.1;have HV:=aj hd;obtain ⟨g1,La,Ka,Lc,Kc,hg,rfl,hf,hl,hk⟩:=h.open;obtain rfl:f=g1:=by omega
 obtain ⟨g2,Va,Vk,Vc,Wc,hg2,rfl,Gq,_,_⟩:=hd.open;have sG:Hid (Below w.heap.size w ((w.alloc (.cells #[.int .i64 (ah t),.int .i64 (aB t),.string (aF t),.slice La (nL t) Lc,.slice Ka (nK t) Kc] 25)).alloc (.cells #[.int .i64 (ah d),.int .i64 (aB d),.string (aF d),.slice Va (nL d) Vc,.slice Vk (nK d) Wc] 25))):=iY _ _ _;have HE:Hid (dN (m+1) t d=eO (fun i=>sP (dN m) (bf t i) (elt t i) d) (nK t)):=rfl;have I7:=aj hA.2;have sN:=aj ih;have gT:=aj hok;have Hgt:=aj gdt;have Hd:=aj (And.intro Og gdd);have LV:Hid (f+1<=m+1/\f+1<=16/\g<=16):=⟨hm,h16,lQ⟩
 have HF:Hid (∀ k,k<nK t->sP (dN m) (bf t k) (elt t k) d=false->dN (m+1) t d=false):=fun k hk h1=>by
  rw [HE.out];exact nP (i:=k) h1 _ hk
 obtain ⟨n,hnn⟩:∃ n,nK t=n:=⟨_,rfl⟩;rw [hnn] at HE HF hnl hsm I7;have Hn:=aj hnn;have Hnl:=aj hnl;rw [hnn] at sG ⊢;clear h hd hm h16 lQ hok Og gdt gdd hfil hA hf Gq hg hg2 ih hnn hnl;go_in;go_wp2_with fail;go_loopg [5,9,10] n (fun gh i z9 z10 wr=>∃ k:Nat,gh=n - k/\k<=n/\i=.int .i64 k/\Hid (Below (w.heap.size+2) ((w.alloc (.cells #[.int .i64 (ah t),.int .i64 (aB t),.string (aF t),.slice La (nL t) Lc,.slice Ka n Kc] 25)).alloc (.cells #[.int .i64 (ah d),.int .i64 (aB d),.string (aF d),.slice Va (nL d) Vc,.slice Vk (nK d) Wc] 25)) wr)/\Hid (eO (fun i=>sP (dN m) (bf t i) (elt t i) d) k=true))
 case atStart=>exact ⟨0,rfl,Nat.zero_le _,rfl,Below.refl _ _,rfl⟩
 case round =>
  obtain ⟨k,rfl,hkn,rfl,nA,HA⟩:=hrel
  rename World=>wo
  obtain ⟨⟨q0,q1,q2,q3,q4⟩,⟨y0,y1,y2,y3,y4⟩,hz,hbw⟩:=gV nA.out;have dH:=aj hbw;by_cases hlt:k<n
  ·obtain ⟨b,o,c0,c1,c2,c3,c4,rfl,hbl,p0,p1,p2,p3,p4,Ha⟩:=hl.out.keep hbw k (by have:=Hnl.out;omega);obtain ⟨b2,o2,rfl,hb2,hs2,p5⟩:=hk.out.keep hbw k (by rw [Hn.out];exact hlt);obtain ⟨j,hj⟩:∃ j,elt t k=j:=⟨_,rfl⟩;obtain ⟨op,hop⟩:∃ op,bf t k=op:=⟨_,rfl⟩;have hkj:dZ j/\Gd j:=by rw [<- hj];exact ⟨gT.out.elt (by have:=Hnl.out;omega),Hgt.out.elt (by have:=Hnl.out;omega)⟩
   have TN:op.size<=4000:=by rw [<- hop];exact gT.out.bf (by rw [Hn.out];exact hlt)
   have HOc:Hid (qL (aL m) op j=true):=by have:=BQ I7.out k hlt;rw [hop,hj] at this;exact this
   rw [hj] at Ha;rw [hop] at p5;have VE:=aj Ha.out;obtain ⟨g2,JA,JC,JB,JD,hg2,hag,_,hlj,_⟩:=Ha.out.open;simp only [Value.agg.injEq,Array.mk.injEq,List.cons.injEq,and_true] at hag;obtain ⟨rfl,rfl,rfl,rfl,rfl⟩:=hag;have NV:Hid (Below wo.heap.size wo (wo.alloc (.cells #[.int .i64 (ah j),.int .i64 (aB j),.string (aF j),.slice JA (nL j) JB,.slice JC (nK j) JD] 25))):=(Below.refl _ _).alloc (Nat.le_refl _) _;have LW:Hid (∀ w2:World,Below wo.heap.size wo w2->Below (w.heap.size+2) ((w.alloc (.cells #[.int .i64 (ah t),.int .i64 (aB t),.string (aF t),.slice (some ⟨b,o,none⟩) (nL t) Lc,.slice (some ⟨b2,o2,none⟩) n Kc] 25)).alloc (.cells #[.int .i64 (ah d),.int .i64 (aB d),.string (aF d),.slice Va (nL d) Vc,.slice Vk (nK d) Wc] 25)) w2):=fun w2 hb=>nA.out.trans (hb.mono (by have:=nA.out.size;simp at this;omega));have sS:Hid (∀ w2:World,Below wo.heap.size wo w2->Below w.heap.size w w2):=fun w2 hb=>dH.out.trans (hb.mono dH.out.size);have x1:(k:Int)<(n:Int):=by omega
   have x2:(k:Int)<(nL t:Int):=by have:=Hnl.out;omega
   have HA2:Hid (sP (dN m) op j d=true->eO (fun i=>sP (dN m) (bf t i) (elt t i) d) (k+1)=true):=fun h=>by rw [eO,HA.out,hop,hj,h];rfl
   have ru:Hid (sP (dN m) op j d=false->dN (m+1) t d=false):=fun h=>HF.out k hlt (by rw [hop,hj];exact h);have TP:=aj hkj;have Hhs:=aj TN;have Hg2:=aj hg2;have Hwz:=aj hz;clear hj hop hkj hg2 hs2 hbl Ha hlt hbw hb2 TN HA HF q0 q1 q2;rcases Mh op with ⟨hlo,hw⟩ | ⟨hpl,hw1,hw2,hw3⟩
   ·have HO:=aj (EG (g:=aL m) (j:=j) hlo);have PV:=aj (PS (g:=dN m) (j:=j) (d:=d) hlo)
    have VP:Hid (∀ i,i<nL j->aL m (elt j i)=true):=by
     have h1:=HOc.out;rw [HO.out,Bool.and_eq_true] at h1;exact Gw.1 h1.2
    have hj2:=TP.out.1.small.2;clear hlo HO HOc;rcases hw with ⟨d1,d2,d3⟩ | ⟨d1,d2,d3⟩ | ⟨d1,d2,d3⟩
    all_goals
     rw [d1,d2,d3] at PV;go_wp2_with fail;go_loopg [9,10] (nL j) (fun gh z9 z wr=>∃ i:Nat,gh=nL j - i/\i<=nL j/\z=.int .i64 i/\z9=.int .i64 (rP (fun y=>dN m y d) j i)/\Hid (Below (wo.heap.size+1) (wo.alloc (.cells #[.int .i64 (ah j),.int .i64 (aB j),.string (aF j),.slice JA (nL j) JB,.slice JC (nK j) JD] 25)) wr))
     case atStart=>exact ⟨0,rfl,Nat.zero_le _,rfl,rfl,Below.refl _ _⟩
     case round =>
      obtain ⟨i,rfl,hi,rfl,rfl,Yk⟩:=hrel;obtain ⟨r0,r1,r2,r3,r4,rz,hbi⟩:=aI Yk.out;have Hbi:=aj hbi;by_cases hlt:i<nL j
      ·obtain ⟨ib,io,i0,i1,i2,i3,i4,rfl,hib,s0,s1,s2,s3,s4,Hi⟩:=hlj.out.keep hbi i hlt;have HC:=aj (sN.out m _ (elt j i) g _ d wr.drew ((Hi.out.up (g:=f) (by have:=Hg2.out;omega)).keep (ak wr)) (HV.out.keep ((sS.out _ hbi).trans ((ak wr).mono (sS.out _ hbi).size))) (by have:=LV.out;omega) (by have:=LV.out;omega) LV.out.2.2 (TP.out.1.elt hlt) Hd.out.1 (TP.out.2.elt hlt) Hd.out.2 (VP.out i hlt));have y1':(i:Int)<(nL j:Int):=by omega
       have hle:=zR (fun y=>dN m y d) j i;have zC:Hid (rP (fun y=>dN m y d) j (i+1)=rP (fun y=>dN m y d) j i+if dN m (elt j i) d then 1 else 0):=rfl
       have iX:Hid (∀ wy:World,Below wr.heap.size wr wy->(wy.cell? ⟨wo.heap.size,3,none⟩=some (.slice (some ⟨ib,io,none⟩) (nL j) JB)/\wy.cell? ⟨w.heap.size+1,0,none⟩=some (.int .i64 (ah d))/\wy.cell? ⟨w.heap.size+1,1,none⟩=some (.int .i64 (aB d))/\wy.cell? ⟨w.heap.size+1,2,none⟩=some (.string (aF d))/\wy.cell? ⟨w.heap.size+1,3,none⟩=some (.slice Va (nL d) Vc)/\wy.cell? ⟨w.heap.size+1,4,none⟩=some (.slice Vk (nK d) Wc)/\wy.cell? ⟨ib,io+i*5,none⟩=some i0/\wy.cell? ⟨ib,io+i*5+1,none⟩=some i1/\wy.cell? ⟨ib,io+i*5+2,none⟩=some i2/\wy.cell? ⟨ib,io+i*5+3,none⟩=some i3/\wy.cell? ⟨ib,io+i*5+4,none⟩=some i4)):=fun wy hb=>by
        obtain ⟨_,⟨t0,t1,t2,t3,t4⟩,_,_⟩:=gV (LW.out _ (Hbi.out.trans (hb.mono Hbi.out.size)));exact ⟨(hb.cell (p:=⟨wo.heap.size,3,none⟩) rz).trans r3,t0,t1,t2,t3,t4,(hb.cell (p:=⟨ib,io+i*5,none⟩) hib).trans s0,(hb.cell (p:=⟨ib,io+i*5+1,none⟩) hib).trans s1,(hb.cell (p:=⟨ib,io+i*5+2,none⟩) hib).trans s2,(hb.cell (p:=⟨ib,io+i*5+3,none⟩) hib).trans s3,(hb.cell (p:=⟨ib,io+i*5+4,none⟩) hib).trans s4⟩
       have qH:=aj (iX.out _ (ak wr));generalize dN m (elt j i) d=r at HC zC;generalize rP (fun y=>dN m y d) j i=cn at zC hle;clear hbi Hi hib y0 y1 y2 y3 y4 s0 s1 s2 s3 s4;go_wp2_with fail;go_region_held3 (fun wy=>wy.cell? ⟨wo.heap.size,3,none⟩=some (.slice (some ⟨ib,io,none⟩) (nL j) JB)/\wy.cell? ⟨w.heap.size+1,0,none⟩=some (.int .i64 (ah d))/\wy.cell? ⟨w.heap.size+1,1,none⟩=some (.int .i64 (aB d))/\wy.cell? ⟨w.heap.size+1,2,none⟩=some (.string (aF d))/\wy.cell? ⟨w.heap.size+1,3,none⟩=some (.slice Va (nL d) Vc)/\wy.cell? ⟨w.heap.size+1,4,none⟩=some (.slice Vk (nK d) Wc)/\wy.cell? ⟨ib,io+i*5,none⟩=some i0/\wy.cell? ⟨ib,io+i*5+1,none⟩=some i1/\wy.cell? ⟨ib,io+i*5+2,none⟩=some i2/\wy.cell? ⟨ib,io+i*5+3,none⟩=some i3/\wy.cell? ⟨ib,io+i*5+4,none⟩=some i4) (first | exact kD | exact qH.out) ((go_at_call 173;refine HC.out.mono ?_;rintro e5 w5 ⟨rfl,hb5⟩;have kD:=iX.out _ ((ak wr).trans (hb5.mono (ak wr).size))));have jW:=aj (Yk.out.trans (((ak wr).trans (hb5.mono (ak wr).size)).mono (by have:=Yk.out.size;simp at this;omega)));clear hb5 kD qH iX HC;cases r with
       | true =>
        have Me:Hid (rP (fun y=>dN m y d) j (i+1)=cn+1):=zC.out;clear zC;go_wp2_with fail;go_roundg (nL j - (i+1))
        case rel=>exact ⟨i+1,rfl,by omega,by go_num,by rw [Me.out];go_num,jW⟩
        case measure=>omega
       | false =>
        have Me:Hid (rP (fun y=>dN m y d) j (i+1)=cn):=zC.out;clear zC;go_wp2_with fail;go_roundg (nL j - (i+1))
        case rel=>exact ⟨i+1,rfl,by omega,by go_num,by rw [Me.out],jW⟩
        case measure=>omega
      ·obtain rfl:i=nL j:=by omega
       have y1':¬ ((nL j:Nat):Int)<((nL j:Nat):Int):=by omega
       have rE:=aj (LW.out _ hbi);have HB8:=aj (sS.out _ hbi);obtain ⟨cn,hcn⟩:∃ cn,rP (fun y=>dN m y d) j (nL j)=cn:=⟨_,rfl⟩;have hle:=zR (fun y=>dN m y d) j (nL j);rw [hcn] at PV hle;rw [hcn];obtain ⟨B1,hB1⟩:∃ B1,decide (cn=nL j)=B1:=⟨_,rfl⟩;obtain ⟨B2,hB2⟩:∃ B2,decide (0<cn)=B2:=⟨_,rfl⟩;have f1:((cn:Int)==(nL j:Int))=B1:=by rw [<- hB1,Bool.eq_iff_iff,beq_iff_eq,decide_eq_true_iff];omega
       have f0:((cn:Int)==0)=!B2:=by rw [<- hB2,Bool.eq_iff_iff,beq_iff_eq,Bool.not_eq_true',decide_eq_false_iff_not];omega
       have f2:if B2=true then (0:Int)<cn else ¬ (0:Int)<cn:=by rw [<- hB2];by_cases e:0<cn;(rw [if_pos (decide_eq_true e)];omega);(rw [if_neg (by simpa using e)];omega)
       rw [hB1,hB2] at PV;have Gt:=aj PV.out;clear hlt hbi PV hcn hB1 hB2 hle;cases B1<;>cases B2
       all_goals
        simp only [if_true,if_false,Bool.false_eq_true,Bool.not_true,Bool.not_false] at f0 f2;go_wp2_with fail
        first
        | (go_ret;exact ⟨by rw [ru.out Gt.out];rfl,HB8.out⟩)
        | (go_roundg (n - (k+1));(case rel=>exact ⟨k+1,rfl,by omega,by go_num,rE,aj (HA2.out Gt.out)⟩);(case measure=>omega))
   ·have PV:=aj (PU (g:=dN m) (j:=j) (d:=d) hpl);have hOc:=HOc.out;rw [EH hpl,Bool.and_eq_true,Bool.and_eq_true] at hOc;have HFo:=aj (Jm g _ d op w _ (sS.out _ NV.out) HV.out Hd.out.1 (by have:=Hhs.out;omega) hOc.1.2);have Hex:=aj hOc.2;clear hOc HOc hpl;go_wp2_with fail;refine HFo.out.mono ?_;intro e w4 hpost
    have HP:=aj (show Below (wo.heap.size+1) (wo.alloc (.cells #[.int .i64 (ah j),.int .i64 (aB j),.string (aF j),.slice JA (nL j) JB,.slice JC (nK j) JD] 25)) w4/\∃ r gg A B C D th,e=.returned (.tuple #[.agg #[.int .i64 (ah r),.int .i64 (aB r),.string (aF r),.slice A (nL r) B,.slice C (nK r) D],.bool th])/\At w gg (.agg #[.int .i64 (ah r),.int .i64 (aB r),.string (aF r),.slice A (nL r) B,.slice C (nK r) D]) r/\dZ r/\gg<=16/\(th=true->Gd r)/\sP (dN m) op j d=uw 16 (jO j) r th from by
     rw [PV.out];obtain ⟨hb,⟨r,gg,A,B,C,D,hr,hgg,rfl,ha,hk⟩ | ⟨hr,rfl⟩⟩:=hpost
     ·exact ⟨by simpa using hb,r,gg,A,B,C,D,true,rfl,ha,hk,by have:=LV.out;omega,fun _=>Jr _ _ _ Hd.out.2 hr,Iu hr⟩
     ·exact ⟨by simpa using hb,Ea,1,none,0,none,0,false,rfl,Nv _,Nw,by omega,fun h=>(by cases h),Iw hr⟩)
    clear hpost HFo PV;obtain ⟨b4,r,gg,A,B,C,D,th,rfl,ha4,hk4,hgg,hgr,hev⟩:=HP.out;have HR:=aj (And.intro ha4 (And.intro hk4 (And.intro hgg hgr)));have PV:=aj hev;have bO:=aj b4;obtain ⟨r0,r1,r2,r3,r4,rz,hb4⟩:=aI b4;have Hb4:=aj hb4;have Zb:=aj (BO _ _ j _ (VE.out.keep (hb4.alloc hb4.size (.cells #[.int .i64 (ah r),.int .i64 (aB r),.string (aF r),.slice A (nL r) B,.slice C (nK r) D] 25))));clear ha4 hk4 hgg hgr hev b4 hb4 HP p0 p1 p2 p3 p4 p5 q3 q4 y0 y1 y2 y3 y4 hw1 hw2 hw3;go_wp2_with fail;refine Zb.out.mono ?_;rintro e w6 ⟨rfl,b6⟩;have pX:Hid (Below (w4.heap.size+1) (w4.alloc (.cells #[.int .i64 (ah r),.int .i64 (aB r),.string (aF r),.slice A (nL r) B,.slice C (nK r) D] 25)) w6):=b6.mono (by simp);clear b6 Zb r0 r1 r2 r3 r4 rz;obtain ⟨s0,s1,s2,s3,s4,sz,Yl⟩:=aI pX.out;have ade:=aj (bO.out.trans (Yl.mono (by have:=bO.out.size;simp at this;omega)));obtain ⟨r0,r1,r2,r3,r4,rz,hb6⟩:=aI ade.out;have QA:=aj hb6;have Hw6:=aj (sS.out _ hb6);by_cases BI:iQ j
    ·have Vp:=aj (EF f 16 _ j gg _ r th w6 (VE.out.keep hb6) (HR.out.1.keep Hw6.out) (by have:=LV.out;omega) TP.out.1 HR.out.2.1 TP.out.2 HR.out.2.2.2 (by have:=LV.out;omega) HR.out.2.2.1 (by have:=Hex.out;unfold vS at this;rw [if_pos BI] at this;exact this));have Gt:Hid (sP (dN m) op j d=uw 16 (iO j) r th):=by show _=_;rw [PV.out,TQ BI]
     have ho:decide (iQ j)=true:=decide_eq_true BI;generalize uw 16 (iO j) r th=rr at Vp Gt;clear BI Yl hb6 PV Hex;go_wp2_with fail;refine Vp.out.mono ?_;rintro e w7 ⟨rfl,b7⟩;have rE:=aj (LW.out _ (QA.out.trans (b7.mono QA.out.size)));have HB8:=aj (sS.out _ (QA.out.trans (b7.mono QA.out.size)));clear b7 Vp;cases rr with
     | true =>
      have oM:=aj (HA2.out Gt.out);clear HA2 ru Gt;go_wp2_with fail;go_roundg (n - (k+1))
      case rel=>exact ⟨k+1,rfl,by omega,by go_num,rE,oM⟩
      case measure=>omega
     | false =>
      have vg:=aj (ru.out Gt.out);clear HA2 ru Gt;go_wp2_with fail;go_ret;exact ⟨by rw [vg.out];rfl,HB8.out⟩
    ·have Gt:Hid (sP (dN m) op j d=(th&&(bq 16 r j==0))):=by show _=_;rw [PV.out,VQ BI]
     have ho:decide (iQ j)=false:=decide_eq_false BI;have rE:=aj (LW.out _ hb6);clear BI Yl hb6 PV Hex;cases th with
     | false =>
      have vg:=aj (ru.out Gt.out);clear HA2 ru Gt;go_wp2_with fail;go_ret;exact ⟨by rw [vg.out];rfl,Hw6.out⟩
     | true =>
      have HOr:=aj (sJ (HR.out.1.keep Hw6.out) (VE.out.keep QA.out) HR.out.2.2.1 HR.out.2.1 TP.out.1 (HR.out.2.2.2 rfl) TP.out.2);rw [Bool.true_and] at Gt;obtain ⟨cc,hcc⟩:∃ cc,bq 16 r j=cc:=⟨_,rfl⟩;rw [hcc] at Gt HOr;clear hcc;go_wp2_with fail;refine HOr.out.mono ?_;rintro e w7 ⟨rfl,b7⟩;have rE:=aj (LW.out _ (QA.out.trans (b7.mono QA.out.size)));have HB8:=aj (sS.out _ (QA.out.trans (b7.mono QA.out.size)));obtain ⟨rr,hrr⟩:∃ rr,(cc==0)=rr:=⟨_,rfl⟩;rw [hrr] at Gt;clear b7 HOr;cases rr with
      | true =>
       have oM:=aj (HA2.out Gt.out);clear HA2 ru Gt;go_wp2_with fail;go_roundg (n - (k+1))
       case rel=>exact ⟨k+1,rfl,by omega,by go_num,rE,oM⟩
       case measure=>omega
      | false =>
       have vg:=aj (ru.out Gt.out);clear HA2 ru Gt;go_wp2_with fail;go_ret;exact ⟨by rw [vg.out];rfl,HB8.out⟩
  ·obtain rfl:k=n:=by omega
   have x1:¬ (k:Int)<(k:Int):=by omega
   clear hlt;go_wp2_with fail;go_ret;exact ⟨by rw [HE.out,HA.out];rfl,dH.out⟩
theorem EJ:∀ f,Mg f
 | 0=>fun _ _ _ _ _ _ _ h=>h.elim
 | f+1=>Mi f (EJ f)
def adg (n:Nat) (lo:Nat) (e:Ending) (w':World):Prop:=∃ t es A B C D,e=.returned (fB t A B C D)/\fC w' n (fB t A B C D) t es/\mD lo w' es
def eP (n c:Nat) (s:ByteArray) (x:Option (T×Nat)) (w:World) (e:Ending) (w':World):Prop :=
 aG c w w'/\((∃ t j es A B C D,x=some (t,j)/\e=.returned (fB t A B C D)/\fC w' n (fB t A B C D) t es/\mD w.heap.size w' es/\RL c s j false w')\/(x=none/\adg n w.heap.size e w'/\RB c s w'))
theorem aK.adh {b:Nat} {c0 c1 c2 c3 c4:Value} {w:World} (h:aK b c0 c1 c2 c3 c4 w) {E N:Int} (he:E=N):aK b c0 (.int .i64 N) c2 c3 c4 (w.setCell ⟨b,1,none⟩ (.int .i64 E)):=by
 subst he;refine ⟨?_,?_,?_,?_,?_,?_,?_,?_,?_,?_,by simp [World.setCell];exact h.lt⟩
 ·rw [aD (by omega)];exact h.q0
 ·exact World.cell?_setCell_same _ _ _ h.q1
 ·rw [aD (by omega)];exact h.q2
 ·rw [aD (by omega)];exact h.q3
 ·rw [aD (by omega)];exact h.q4
 ·rw [World.frozen?_setCell];exact h.f0
 ·rw [World.frozen?_setCell];exact h.f1
 ·rw [World.frozen?_setCell];exact h.f2
 ·rw [World.frozen?_setCell];exact h.f3
 ·rw [World.frozen?_setCell];exact h.f4
theorem RL.same {c:Nat} {s:ByteArray} {i:Nat} {b:Bool} {w w':World} (h:RL c s i b w) (hb:w'.heap[c]?=w.heap[c]?) (hs:w.heap.size<=w'.heap.size):RL c s i b w':=h.move hs hb
theorem aK.qF {b:Nat} {c0 c1 c2 c3 c4:Value} {w:World} (h:aK b c0 c1 c2 c3 c4 w) {d:Nat} (hd:b≠d) (o:Nat) (u:Value):aK b c0 c1 c2 c3 c4 (w.setCell ⟨d,o,none⟩ u):=h.move (by simp [World.setCell]) (Below.heap_setCell _ _ _ _ (by simpa using hd))
theorem RL.qF {c:Nat} {s:ByteArray} {i:Nat} {b:Bool} {w:World} (h:RL c s i b w) {d:Nat} (hd:c≠d) (o:Nat) (u:Value):RL c s i b (w.setCell ⟨d,o,none⟩ u):=h.move (by simp [World.setCell]) (Below.heap_setCell _ _ _ _ (by simpa using hd))
theorem EK {s:ByteArray} {i k:Nat} (hd:d9 s i<=k) (hk:k<=dg s (d9 s i)) (h:9223372036854775808<dv s (d9 s i) (k - d9 s i)):eY s i=none:=by
 have hm:=U0 s (d9 s i) (k:=k - d9 s i) (m:=dg s (d9 s i) - d9 s i) (by omega);unfold eY;split
 ·rfl
 ·split
  ·rfl
  ·split
   ·rw [if_neg (by omega)]
   ·rw [if_neg (by omega)]
theorem yI {n c:Nat} {s:ByteArray} {w wr:World} {x:Option (T×Nat)} {j:Nat} (k m:Int) (y:ByteArray) (hk0:0<=k) (hk1:k<=100) (hm:-9223372036854775808<=m/\m<=9223372036854775807) (hy:y.size<=140737488355328) (hx:x=some (aR k m y,j)) (hB:aG c w wr) (hc:c<w.heap.size) (hL:RL c s j false wr) :
  eP (n+1) c s x w (.returned (.agg #[.int .i64 k,.int .i64 m,.string y,.slice none 0 0,.slice none 0 0])) (((((wr.setCell ⟨w.heap.size,0,none⟩ (.int .i64 k)).setCell ⟨w.heap.size,1,none⟩ (.int .i64 m)).setCell ⟨w.heap.size,2,none⟩ (.string y)).setCell ⟨w.heap.size,3,none⟩ (.slice none 0 0)).setCell ⟨w.heap.size,4,none⟩ (.slice none 0 0)):=by
 have hp:=jC (rb:=w.heap.size) hB hc (sD wr n k m y hk0 hk1 hm.1 hm.2 hy) (vD (w.heap.size+1) wr) (Nat.le_refl _) (by omega) (.int .i64 k) (.int .i64 m) (.string y) (.slice none 0 0) (.slice none 0 0);exact ⟨hp.1,Or.inl ⟨aR k m y,j,_,none,0,none,0,hx,rfl,hp.2.1,hp.2.2.1,hL.same hp.2.2.2.1 (by rw [hp.2.2.2.2];exact Nat.le_refl _)⟩⟩
theorem lT {n c:Nat} {s:ByteArray} {w wr:World} {x:Option (T×Nat)} (k m:Int) (y:ByteArray) (hk0:0<=k) (hk1:k<=100) (hm:-9223372036854775808<=m/\m<=9223372036854775807) (hy:y.size<=140737488355328) (hx:x=none) (hB:aG c w wr) (hc:c<w.heap.size) (hL:RB c s wr) :
  eP (n+1) c s x w (.returned (.agg #[.int .i64 k,.int .i64 m,.string y,.slice none 0 0,.slice none 0 0])) (((((wr.setCell ⟨w.heap.size,0,none⟩ (.int .i64 k)).setCell ⟨w.heap.size,1,none⟩ (.int .i64 m)).setCell ⟨w.heap.size,2,none⟩ (.string y)).setCell ⟨w.heap.size,3,none⟩ (.slice none 0 0)).setCell ⟨w.heap.size,4,none⟩ (.slice none 0 0)):=by
 have hp:=jC (rb:=w.heap.size) hB hc (sD wr n k m y hk0 hk1 hm.1 hm.2 hy) (vD (w.heap.size+1) wr) (Nat.le_refl _) (by omega) (.int .i64 k) (.int .i64 m) (.string y) (.slice none 0 0) (.slice none 0 0);obtain ⟨j,hj,hL⟩:=hL;exact ⟨hp.1,Or.inr ⟨hx,⟨aR k m y,_,none,0,none,0,rfl,hp.2.1,hp.2.2.1⟩,j,hj,hL.same hp.2.2.2.1 (by rw [hp.2.2.2.2];exact Nat.le_refl _)⟩⟩
structure NI (c:Nat) (s:ByteArray) (d k vb:Nat) (w:World) (N:Int) (wr:World):Prop where
 rd:RL c s k false wr
 res:aK w.heap.size (.int .i64 0) (.int .i64 0) (.string ⟨#[]⟩) (.slice none 0 0) (.slice none 0 0) wr
 box:aK vb (.int .i64 3) (.int .i64 N) (.string ⟨#[]⟩) (.slice none 0 0) (.slice none 0 0) wr
 but:aG c w wr
 val:N=-(dv s d (k - d):Int)
 Mj:dg s k=dg s d
 lv:w.heap.size<vb
 lc:c<w.heap.size
theorem NI.keep {c:Nat} {s:ByteArray} {d k vb:Nat} {w:World} {N:Int} {wr w1:World} (h:NI c s d k vb w N wr) (hb:Below wr.heap.size wr w1):NI c s d k vb w N w1 :=
 ⟨h.rd.keep hb,h.res.gW hb,h.box.gW hb,h.but.trans (aG.of hb),h.val,h.Mj,h.lv,h.lc⟩
theorem NI.step {c:Nat} {s:ByteArray} {d k vb:Nat} {w:World} {N E:Int} {wr:World} (h:NI c s d k vb w N wr) (hdk:d<=k) (hD:iM (cB s k)=true) (hE:E=10*N - ((cB s k:Int) - 48)) :
  NI c s d (k+1) vb w (10*N - ((cB s k:Int) - 48)) ((wr.setCell ⟨vb,1,none⟩ (.int .i64 E)).setCell ⟨c,1,none⟩ (.int .i64 ((k:Int)+1))):=by
 have h1:=h.lv;have h2:=h.lc;have hd:48<=cB s k/\cB s k<=57:=by unfold iM at hD;simp at hD;exact hD
 refine ⟨?_,(h.res.qF (by omega) _ _).qF (by omega) _ _,(h.box.adh hE).qF (by omega) _ _,?_,?_,?_,h1,h2⟩
 ·have:=(h.rd.qF (d:=vb) (by omega) 1 (.int .i64 E)).set (k+1);exact this
 ·exact (h.but.oh (by omega) _ _).trans (aG.set _ c 1 _)
 ·have e:k+1 - d=(k - d)+1:=by omega
  have e2:d+(k - d)=k:=by omega
  rw [e,dv,e2,h.val];omega
 ·rw [<- h.Mj];unfold dg;rw [dK lX s k,if_pos hD]
end Go.Proofs.YtknakfpciccoaaaGreatDoor
