import Derived.Test.YtknakfpciccoaaaGreatDoorZF21
import Derived.Test.YtknakfpciccoaaaGreatDoorZF11
import Derived.Laws.CopyOwn
import Derived.Deep.RegionLaw
/- The walk of appendEntries: laws, and the loop. -/
set_option maxHeartbeats 4000000
set_option maxRecDepth 100000
namespace Go.Proofs.YtknakfpciccoaaaGreatDoor
open Go.RowKit
theorem CV {P:Program} {ops:Array Oper} {o:Oper} {a:Act} {w:World} {K:Act->World->Prop} {Q:Exit->Act->World->Prop} {E:Prop} (hgd:o.guard=none) (d s:Operand) (dT sT:TypeId)
  (ho:o.op=.call { callee:=.builtin .copy,args:=#[d,s],argTypes:=#[dT,sT] }) (elem:TypeId) (hu:P.underlying dT=some (.slice elem)) (hsz:(P.info? elem).map (·.size)=some 1)
  (g off dLen dCap:Nat) (ad:Addr) (sLen sCap:Nat) (hd:a.eval d=.slice (some ⟨g,off,none⟩) dLen dCap) (hs:a.eval s=.slice (some ad) sLen sCap)
  (cur:Array Value) (t:TypeId) (hg:w.heap[g]?=some (.cells cur t (0,0))) (cs:List Value) (hn:cs.length=Nat.min sLen dLen)
  (hsrc:∀ j v,cs[j]?=some v->w.cell? (ad.add j)=some v) (hfit:off+cs.length<=cur.size) (h1:∀ v ∈ cs,v.oneCell'=true) (w':World) (hw':w'=w.setRow g (cur.toList.take off++(cs++cur.toList.drop (off+cs.length))).toArray)
  (h:K (a.put o.dst (goInt cs.length)) w') :
  if Region.wanted o (yielded ops a.tmps)=true then Oper.wp P o a w K Q else E:=by
 subst hw';have hw:Region.wanted o (yielded ops a.tmps)=true:=by simp [Region.wanted,hgd]
 rw [if_pos hw];have hrun:=run_copy_row (P:=P) w dT sT o.type elem g off dLen dCap ad sLen sCap cur t cs hu hsz hg hn hsrc hfit h1;unfold Oper.wp;simp [execOp,ho,resolve,invoke,builtin,hd,hs,hrun,Result.andThen];exact h
theorem IY {α:Type} (xs rest cs:List α) (off:Nat) (h:off+cs.length<=xs.length):((xs++rest).take off++(cs++(xs++rest).drop (off+cs.length))).take xs.length=xs.take off++(cs++xs.drop (off+cs.length)):=by
 have e1:(xs++rest).take off=xs.take off:=List.take_append_of_le_length (by omega);have e2:(xs++rest).drop (off+cs.length)=xs.drop (off+cs.length)++rest:=List.drop_append_of_le_length h;rw [e1,e2];have e:xs.take off++(cs++(xs.drop (off+cs.length)++rest))=(xs.take off++(cs++xs.drop (off+cs.length)))++rest:=by simp
 rw [e];have hl:(xs.take off++(cs++xs.drop (off+cs.length))).length=xs.length:=by simp;omega
 rw [<- hl];exact List.take_left
theorem QG.copy {w0 w w1:World} {r:Value} {g cap n:Nat} {all cs out:List UInt8} {off:Nat} (hn:n=all.length) (h:QG w0 r w (.slice (some ⟨g,0,none⟩) n cap) all w1) (hfit:off+cs.length<=all.length) (ho:out=all.take off++(cs++all.drop (off+cs.length))) :
  ∃ cur,w1.heap[g]?=some (.cells cur 5 (0,0))/\off+(aA cs).length<=cur.size/\n<=cap/\QG w0 r w (.slice (some ⟨g,0,none⟩) n cap) out (w1.setRow g (cur.toList.take off++(aA cs++cur.toList.drop (off+(aA cs).length))).toArray):=by
 subst ho;have hl:(all.take off++(cs++all.drop (off+cs.length))).length=all.length:=by simp;omega
 obtain ⟨hx,⟨h1,_⟩ | ⟨g',cap',cur,he,hb0,hg,hnc,hcm,hcs,ht⟩⟩:=h.row
 ·cases h1
 simp only [Value.slice.injEq,Option.some.injEq,Addr.mk.injEq] at he;obtain ⟨⟨rfl,_⟩,_,rfl⟩:=he;rw [Nat.mul_one] at ht hcs;have hc:cur.toList=aA all++cur.toList.drop all.length:=by conv=>lhs;rw [<- List.take_append_drop all.length cur.toList,ht]
 have hbl:=dO cs;have hba:=dO all;refine ⟨cur,hg,by omega,by omega,⟨?_,⟨h.grown.os,h.grown.tape,h.grown.output,by simpa using h.grown.size,fun k hk hne=>?_⟩,h.own⟩⟩
 ·rw [hl];refine ⟨by rw [dO,hl,Nat.mul_one],.inr ⟨g,cap,_,by rw [hn],hb0,setRow_heap w1 g cur _ _ _ hg,hnc,hcm,?_,?_⟩⟩
  ·simp only [List.size_toArray,List.length_append,List.length_take,List.length_drop,Array.length_toList];omega
  ·rw [Nat.mul_one];show List.take all.length (_:Array Value).toList=_;have:=IY (aA all) (cur.toList.drop all.length) (aA cs) off (by omega);rw [<- hc,hba] at this;simp only [kF];refine (by simpa using this:_=_).trans ?_;simp [aA,List.map_take,List.map_drop]
 ·rw [setRow_other w1 g k _ (fun e=>?_),h.grown.block k hk hne];subst e;rcases h.own with h1 | ⟨b,h1,h2⟩
  ·exact hne h1
  ·simp only [Value.ownBlock,Option.some.injEq] at h1;omega
theorem Bz {w:World} {lo:Nat} {e:TypeId} {size n:Nat} {v:Value} {xs:List Value} (h:w.ownsRow lo e size v n xs) (h0:0<n):∃ g cap,v=.slice (some ⟨g,0,none⟩) n cap/\n<=cap/\cap<=maxLen:=by
 rcases h.2 with ⟨rfl,rfl⟩ | ⟨g,cap,cur,rfl,hlo,hg,hnc,hm,_⟩
 ·omega
 ·exact ⟨g,cap,rfl,hnc,hm⟩
theorem yB {w:World} {lo:Nat} {e:TypeId} {size n:Nat} {v:Value} {xs:List Value} (h:w.ownsRow lo e size v n xs):∃ A cap,v=.slice A n cap:=by
 rcases h.2 with ⟨rfl,rfl⟩ | ⟨g,cap,cur,rfl,hlo,hg,hnc,hm,_⟩
 ·exact ⟨none,0,rfl⟩
 ·exact ⟨_,cap,rfl⟩
theorem QG.beside {w0 w w1 w2:World} {r r1 r2:Value} {a1 a2:List UInt8} (h:QG w0 r w r1 a1 w1) (k:QG w0 (.slice none 0 0) w1 r2 a2 w2):QG w0 r w r1 a1 w2 :=
 h.keep ⟨k.grown.os,k.grown.tape,k.grown.output,k.grown.size,fun b hb=>k.grown.block b hb (by simp [Value.ownBlock])⟩
theorem Le (a z b c:List UInt8) (h:z.length=4):(a++z++c).take a.length++(b++(a++z++c).drop (a.length+4))=a++(b++c):=by
 have e1:(a++z++c).take a.length=a:=by rw [List.append_assoc];exact List.take_left
 have e2:(a++z++c).drop (a.length+4)=c:=by rw [<- h,<- List.length_append];exact List.drop_left
 rw [e1,e2]
theorem SV {w:World} {lo:Nat} {l:List UInt8} {v:Value} {n g cap:Nat} (h:w.ownsRow lo 5 1 v n (aA ([]++l))) (hv:v=.slice (some ⟨g,0,none⟩) n cap):∀ j u,(aA l)[j]?=some u->w.cell? ((⟨g,0,none⟩:Addr).add j)=some u:=by
 subst hv;exact h.cells (g:=g) rfl
theorem Lf (w0:World) (m:Nat) (ih:Ld w0 m) (f:Nat) (La Ka:Option Addr) (Lc Kc:Nat) (t:T) (acc:List UInt8) (r:Value) (w:World)
  (hl:bC w0 f La t) (hkn:gI w0 Ka t) (hn:nL t<=1759218604442) (hnk:ah t=6->nK t=nL t) (hg:∀ i,i<nL t->fJ m (elt t i)) (hb:Below w0.heap.size w0 w) (hr:w.ownsRow w0.heap.size 5 1 r acc.length (aA acc))
  (hlen:acc.length+(dW (bK m) t (nL t)).length+4<=100000000) :
  Calls Tryz.prog 87 #[r,.agg #[.int .i64 (ah t),.int .i64 (aB t),.string (aF t),.slice La (nL t) Lc,.slice Ka (nK t) Kc]] w fun e w'=>∃ r',e=.returned r'/\QG w0 r w r' (acc++(jS (dW (bK m) t (nL t)).length 4++dW (bK m) t (nL t))) w':=by
 obtain ⟨iB,zK,Bv,zL,Bw⟩:=info_parts FI;have HR:=aj hr;have H0:Hid (QG w0 r (w.alloc (vC t La Lc Ka Kc)) r acc (w.alloc (vC t La Lc Ka Kc))):=QG.here HR.out;have HB1:Hid (Below w0.heap.size w0 (w.alloc (vC t La Lc Ka Kc))):=hb.alloc hb.size _;have YW:=aj (mZ w0 r acc 0 4 _ H0.out.row HB1.out.size (by omega) (by omega) (by omega) (by omega));obtain ⟨A0,c0,hs0⟩:=yB hr;have sN:=aj ih;have Hl:=aj hl;have HK:=aj hkn;have Hg:=aj hg;have UG:=aj hnk;have hl0:acc.length<=100000000:=by omega
 obtain ⟨p,hp⟩:∃ p,p=acc.length:=⟨_,rfl⟩;have HM:Hid (∀ k,k<=nL t->(dW (bK m) t k).length+p+4<=100000000):=aj (fun k hk=>by have:=Ei (bK m) t hk;omega);rw [<- hp] at hs0 hl0;have Hp:=aj hp;have Hs0:=aj hs0;clear hr ih hl hkn hg hb hlen hnk hp;go_in;rw [hs0];clear hs0;go_wp2_with fail;rw [<- Hs0.out];refine YW.out.mono ?_;rintro e w1 ⟨r1,rfl,hq1⟩;obtain ⟨q0,q1,q2,q3,q4,hz⟩:=QG.box HR.out hq1;obtain ⟨A1,c1,hs1⟩:=yB hq1.row;rw [List.length_append,bE,<- Hp.out] at hs1;have Hs1:=aj hs1;subst hs1;have yY:=aj hq1;clear hq1 YW;go_wp2_with fail;clear q0 q1 q2 q3 q4 hz;go_loopg [0,18] (nL t) (fun g o i wr=>∃ k:Nat,g=nL t - k/\k<=nL t/\i=.int .i64 k/\Hid (QG w0 r (w.alloc (vC t La Lc Ka Kc)) o (acc++jS 0 4++dW (bK m) t k) wr))
 case atStart=>exact ⟨0,rfl,Nat.zero_le _,rfl,yY.out.acc (by simp [dW])⟩
 case round =>
  obtain ⟨k,rfl,hk,rfl,HQ⟩:=hrel;obtain ⟨q0,q1,q2,q3,q4,hz⟩:=QG.box HR.out HQ.out;have pR:=aj (HQ.out.below H0.out.row HB1.out);by_cases hlt:k<nL t
  ·obtain ⟨bb,oo,A,B,C,D,rfl,hbl,p0,p1,p2,p3,p4,Ha⟩:=Hl.out.shape pR.out k hlt;have hm1:=HM.out (k+1) hlt;have HG:=aj (Hg.out k hlt);have sG:=aj (bG wr (vC (elt t k) A B C D));have HX:=aj (HQ.out.keep sG.out);have Hb2:=aj (pR.out.trans (sG.out.mono pR.out.size));by_cases k6:ah t=6
   ·have e6:(ah t==6)=true:=by simpa using k6
    have Lg:k<nK t:=by have:=UG.out k6;omega
    have hn2:nK t<=1759218604442:=by have:=UG.out k6;omega
    obtain ⟨kb,ko,rfl,hkb,hks,hkc⟩:=HK.out k Lg;have HN:Hid (∀ wx,Below w0.heap.size w0 wx->wx.cell? ⟨kb,ko+k,none⟩=some (.string (bf t k))):=aj (fun wx hB=>(hB.cell (p:=⟨kb,ko+k,none⟩) hkb).trans hkc);have HJ:Hid (dW (bK m) t (k+1)=dW (bK m) t k++jS (bf t k).size 2++(bf t k).data.toList++bK m (elt t k)):=by show dW (bK m) t k++_=_;unfold Bq;rw [if_pos k6];simp
    rw [HJ.out] at hm1;have hsz:(bf t k).data.toList.length=(bf t k).size:=rfl;simp only [List.length_append,bE,hsz] at hm1;have hkw:=HN.out _ Hb2.out;clear k6 hkc hsz;generalize bf t k=s at *;have fz:IntKind.u64.wrap (s.size:Int)=(s.size:Int):=by rw [IntKind.wrap_u64];omega
    have hpl:p=acc.length:=Hp.out;have hlK:(acc++jS 0 4++dW (bK m) t k).length=p+4+(dW (bK m) t k).length:=by rw [List.length_append,List.length_append,bE,hpl]
    clear hpl;have HC:=aj (mZ w0 u0 (acc++jS 0 4++dW (bK m) t k) (s.size:Int) 2 _ HX.out.row Hb2.out.size (by omega) (by omega) (by omega) (by omega));generalize hL:acc++jS 0 4++dW (bK m) t k=aag at *;have HL:=aj hL;have HlK:=aj hlK;clear hL hlK;go_wp2_with fail;refine HC.out.mono ?_;rintro e w2 ⟨r2,rfl,hq2⟩;have IX:=aj (HX.out.trans hq2);have HI2:=aj hq2;have aah:=aj (IX.out.below H0.out.row HB1.out);clear hq2 q0 q1 q2 q3 q4 hz HC hkw;obtain ⟨q0,q1,q2,q3,q4,hz⟩:=QG.box HR.out IX.out;have hkw:=HN.out _ aah.out;have aeI:(aag++jS (s.size:Int) 2).length<=100000000:=by have:=HlK.out;rw [List.length_append,bE];omega
    generalize hL2:aag++jS (s.size:Int) 2=xA at *;have HL2:=aj hL2;clear hL2;go_wp2_with (at_builtin;refine ay _ rfl (.tmp 35) (.tmp 40) 63 9 rfl w0.heap.size 5 iB _ 1 1 Tryz.underlying63 zK Bv zL Bw rfl r2 xA.length (aA xA) rfl HI2.out.row (.string s) s.size (aA s.data.toList) rfl (oV _ Tryz.underlying9 s) (by unfold maxLen;omega) (by omega) aah.out.size ?_;intro r3 w3 hO3 hG3 SS;have HI3:=aj (HI2.out.grow (l:=s.data.toList) hO3 hG3 SS);clear hO3 hG3 SS;obtain ⟨j0,j1,j2,j3,j4,jz⟩:=QG.box HQ.out.row HI3.out);have pI:=aj (HX.out.trans HI3.out)
    have hlen3:(xA++s.data.toList).length+(bK m (elt t k)).length<=100000000:=by
     have h1:=HlK.out;have h2:s.data.toList.length=s.size:=rfl;rw [<- HL2.out,List.length_append,List.length_append,bE,h2];omega
    refine (sN.out f _ (elt t k) (xA++s.data.toList) r3 w3 Ha.out HG.out (pI.out.below H0.out.row HB1.out) pI.out.row hlen3).mono ?_;rintro e w4 ⟨r4,rfl,hq4⟩;have HQ4:=aj (pI.out.trans hq4);clear hq4 q0 q1 q2 q3 q4 hz j0 j1 j2 j3 j4 jz hkw;go_wp2_with fail;go_roundg (nL t - (k+1))
    case rel=>exact ⟨k+1,rfl,by omega,by go_num,HQ4.out.acc (by rw [HJ.out,<- HL2.out,<- HL.out];simp)⟩
    case measure=>omega
   ·have e6:(ah t==6)=false:=by simpa using k6
    have HJ:Hid (dW (bK m) t (k+1)=dW (bK m) t k++bK m (elt t k)):=by show dW (bK m) t k++_=_;unfold Bq;rw [if_neg k6];simp
    rw [HJ.out] at hm1;clear k6;go_wp2_with fail;refine (sN.out f _ (elt t k) _ u0 _ Ha.out HG.out Hb2.out HX.out.row (by rw [List.length_append] at hm1;rw [List.length_append,List.length_append,bE,<- Hp.out];omega)).mono ?_;rintro e w2 ⟨r2,rfl,hq2⟩;have IX:=aj (HX.out.trans hq2);clear hq2 q0 q1 q2 q3 q4 hz;go_wp2_with fail;go_roundg (nL t - (k+1))
    case rel=>exact ⟨k+1,rfl,by omega,by go_num,IX.out.acc (by rw [HJ.out];simp)⟩
    case measure=>omega
  ·obtain rfl:k=nL t:=by omega
   have hm0:=HM.out (nL t) hk;obtain ⟨L,hL⟩:∃ L,L=(dW (bK m) t (nL t)).length:=⟨_,rfl⟩;have hlen:(acc++jS 0 4++dW (bK m) t (nL t)).length=p+4+L:=by rw [List.length_append,List.length_append,bE,<- Hp.out,hL]
   obtain ⟨g,cap,hs,hcap,hcm⟩:=Bz HQ.out.row (by omega);obtain ⟨n,hn3⟩:∃ n,n=p+4+L:=⟨_,rfl⟩;rw [hlen,<- hn3] at hs hcap;rw [<- hL] at hm0;have f1:IntKind.i64.wrap ((n:Int) - ((p:Int)+4))=(L:Int):=by rw [IntKind.wrap_i64];omega
   have f2:IntKind.u64.wrap (L:Int)=(L:Int):=by rw [IntKind.wrap_u64];omega
   have f3:p+4<=cap:=by omega
   have HQd:=aj (HQ.out.keep (ak wr));have hbd:w0.heap.size<=wr.drew.heap.size:=by have:=pR.out.size;simpa using this
   have HC:=aj (mZ w0 (.slice none 0 0) [] (L:Int) 4 wr.drew (World.ownsRow_nil _ _ _ _) hbd (by omega) (by omega) (by omega) (by simp));have x1:(0:Int)<=(p:Int)+4:=by omega
   have x2:(p:Int)+4<=(cap:Int):=by omega
   have x3:((p:Int)+4).toNat=p+4:=by omega
   have x5:(cap=p)=False:=by simp only [eq_iff_iff,iff_false];omega
   have HL:=aj hL;have Hn3:=aj hn3;have Hlen:=aj hlen;clear hL hn3 hlen hm0 hcap hcm hlt;subst hs;have HCP:=aj (fun (w5:World) (h5:QG w0 r (w.alloc (vC t La Lc Ka Kc)) (.slice (some ⟨g,0,none⟩) n cap) (acc++jS 0 4++dW (bK m) t (nL t)) w5)=>QG.copy (off:=p) (cs:=jS (L:Int) 4) (out:=acc++(jS (L:Int) 4++dW (bK m) t (nL t))) (by rw [Hlen.out,Hn3.out]) h5 (by rw [Hlen.out,bE];omega) (by rw [bE,Hp.out];exact (Le acc (jS 0 4) _ _ (by rw [bE])).symm));have acM:(Tryz.prog.info? 5).map (·.size)=some 1:=by rw [zK];simp [zL]
   have hmin:(aA (jS (L:Int) 4)).length=Nat.min 4 4:=by rw [dO,bE];rfl
   have aaj:∀ v ∈ aA (jS (L:Int) 4),v.oneCell'=true:=fun u hu=>by obtain ⟨b,_,rfl⟩:=List.mem_map.1 hu;rfl
   go_wp2_with fail;go_region_law (first | (refine CV (by rfl) (.tmp 49) (.tmp 55) 63 63 (by rfl) 5 Tryz.underlying63 acM g p 4 (cap - p) ⟨g5,0,none⟩ 4 cap5 (by rfl) (by rfl) cur 5 hcur (aA (jS (L:Int) 4)) hmin hsrc hfit aaj _ rfl ?_) | (go_simp;go_wp2_with (go_at_call 86;refine HC.out.mono ?_;rintro e w5 ⟨r5,rfl,hq5⟩;obtain ⟨g5,cap5,hs5,hcap5,acN⟩:=Bz hq5.row (by simp [bE]);obtain ⟨cur,hcur,hfit,hnc,hQ6⟩:=HCP.out _ (HQd.out.beside hq5);have hsrc:=(SV hq5.row hs5);rw [List.nil_append,bE] at hs5;subst hs5)))
   all_goals
    rw [dO,bE] at hQ6;generalize w5.setRow g (List.take p cur.toList++(aA (jS (L:Int) 4)++List.drop (p+4) cur.toList)).toArray=w6 at hQ6 ⊢;have HQ6:=aj hQ6;clear hQ6 hq5 hsrc hcur hfit hnc hcap5 acN;go_wp2_with fail;go_ret;exact ⟨_,rfl,by rw [<- HL.out,<- Hs0.out];exact HQ6.out.from HR.out⟩
theorem Lh (w0:World) (m:Nat) (ih:Ld w0 m) (f:Nat) (La Ka:Option Addr) (Lc Kc:Nat) (t:T) (acc:List UInt8) (r:Value) (w:World)
  (hl:bC w0 f La t) (hkn:gI w0 Ka t) (hn:nL t<=1759218604442) (hnk:ah t=6->nK t=nL t) (hg:∀ i,i<nL t->fJ m (elt t i)) (hk:ah t=5\/ah t=6) (hb0:Below w0.heap.size w0 w) (hr:w.ownsRow w0.heap.size 5 1 r acc.length (aA acc))
  (hlen:acc.length+(dW (bK m) t (nL t)).length+5<=100000000) :
  Calls Tryz.prog 46 #[r,.agg #[.int .i64 (ah t),.int .i64 (aB t),.string (aF t),.slice La (nL t) Lc,.slice Ka (nK t) Kc]] w fun e w'=>∃ r',e=.returned r'/\QG w0 r w r' (acc++yV t (dW (bK m) t (nL t))) w':=by
 obtain ⟨iB,zK,Bv,zL,Bw⟩:=info_parts FI;have HR:=aj hr;have hb:w0.heap.size<=w.heap.size:=hb0.size;have sS:Hid (Below w0.heap.size w0 (w.alloc (vC t La Lc Ka Kc))):=hb0.alloc hb0.size _;have hl1:acc.length<=100000000:=by omega
 have fk:IntKind.u8.wrap (ah t)=((aX t).toNat:Int):=Ev _;have HE:=aj (fun (r1:Value) (w1:World) (hb1:Below w0.heap.size w0 w1) (hr1:w1.ownsRow w0.heap.size 5 1 r1 (acc++[aX t]).length (aA (acc++[aX t])))=>Lf w0 m ih f La Ka Lc Kc t (acc++[aX t]) r1 w1 hl hkn hn hnk hg hb1 hr1 (by simp only [List.length_append,List.length_cons,List.length_nil];omega));have HW:Hid (acc++yV t (dW (bK m) t (nL t))=acc++[aX t]++(jS (dW (bK m) t (nL t)).length 4++dW (bK m) t (nL t))):=by show _=_;simp [yV]
 clear hr hl hkn hn hnk hg hlen ih hb0;have H0:Hid (QG w0 r (w.alloc (vC t La Lc Ka Kc)) r acc (w.alloc (vC t La Lc Ka Kc))):=QG.here HR.out;have HB1:Hid (Below (w.heap.size+1) (w.alloc (vC t La Lc Ka Kc)) ((w.alloc (vC t La Lc Ka Kc)).alloc (.cells #[.int .u8 ((aX t).toNat:Int)] 5))):=(Below.refl _ _).alloc (by simp) _;have HI1:=aj (H0.out.keep (HB1.out.mono (by simp)))
 have uL:Hid (Src Tryz.prog 1 63 (.slice (some ⟨w.heap.size+1,0,none⟩) 1 1) 1 (aA [aX t]) ((w.alloc (vC t La Lc Ka Kc)).alloc (.cells #[.int .u8 ((aX t).toNat:Int)] 5))):=by
  have:=qm (w.alloc (vC t La Lc Ka Kc)) [aX t];apply aj;simpa [aA] using this
 have hbz:w0.heap.size<=((w.alloc (vC t La Lc Ka Kc)).alloc (.cells #[.int .u8 ((aX t).toNat:Int)] 5)).heap.size:=by simp;omega
 have dA:=aj H0.out.row;rcases hk with hk | hk
 ·have e2:(ah t==2)=false:=by rw [hk];rfl
  have e3:(ah t==3)=false:=by rw [hk];rfl
  have e4:(ah t==4)=false:=by rw [hk];rfl
  have e5:(ah t==5)=true:=by rw [hk];rfl
  clear hk;go_in;go_wp2_with (at_builtin;refine ay _ rfl (.tmp 5) (.tmp 9) 63 63 rfl w0.heap.size 5 iB _ 1 1 Tryz.underlying63 zK Bv zL Bw rfl r acc.length (aA acc) rfl HI1.out.row (.slice (some ⟨w.heap.size+1,0,none⟩) 1 1) 1 (aA [aX t]) rfl uL.out (by unfold maxLen;omega) (by omega) hbz ?_;intro r1 w1 zM hG1 qp;have yY:=aj (HI1.out.grow (l:=[aX t]) zM hG1 qp);clear zM hG1 qp HI1 uL HB1 H0 hbz;obtain ⟨q0,q1,q2,q3,q4,hz⟩:=QG.box HR.out yY.out;have hb1:w0.heap.size<=w1.heap.size:=by omega);refine (HE.out r1 w1 (yY.out.below dA.out sS.out) yY.out.row).mono ?_;rintro e w2 ⟨r2,rfl,hq2⟩;have IX:=aj (yY.out.trans hq2);clear hq2 q0 q1 q2 q3 q4 hz;go_wp2_with fail;go_ret;exact ⟨_,rfl,by rw [HW.out];exact IX.out.from HR.out⟩
 ·have e2:(ah t==2)=false:=by rw [hk];rfl
  have e3:(ah t==3)=false:=by rw [hk];rfl
  have e4:(ah t==4)=false:=by rw [hk];rfl
  have e5:(ah t==5)=false:=by rw [hk];rfl
  have e6:(ah t==6)=true:=by rw [hk];rfl
  clear hk;go_in;go_wp2_with (at_builtin;refine ay _ rfl (.tmp 5) (.tmp 9) 63 63 rfl w0.heap.size 5 iB _ 1 1 Tryz.underlying63 zK Bv zL Bw rfl r acc.length (aA acc) rfl HI1.out.row (.slice (some ⟨w.heap.size+1,0,none⟩) 1 1) 1 (aA [aX t]) rfl uL.out (by unfold maxLen;omega) (by omega) hbz ?_;intro r1 w1 zM hG1 qp;have yY:=aj (HI1.out.grow (l:=[aX t]) zM hG1 qp);clear zM hG1 qp HI1 uL HB1 H0 hbz;obtain ⟨q0,q1,q2,q3,q4,hz⟩:=QG.box HR.out yY.out;have hb1:w0.heap.size<=w1.heap.size:=by omega);refine (HE.out r1 w1 (yY.out.below dA.out sS.out) yY.out.row).mono ?_;rintro e w2 ⟨r2,rfl,hq2⟩;have IX:=aj (yY.out.trans hq2);clear hq2 q0 q1 q2 q3 q4 hz;go_wp2_with fail;go_ret;exact ⟨_,rfl,by rw [HW.out];exact IX.out.from HR.out⟩
theorem WY {t:T} (h:bF t):ah t≠5/\ah t≠6:=by
 obtain ⟨_,_,h⟩:=h;rcases h with ⟨h,_⟩ | ⟨h,_⟩ | ⟨h,_⟩ | ⟨h,_⟩<;>omega
theorem BA (w0:World):∀ m,Ld w0 m
 | 0=>by
  intro f v t acc r w h hg hb hr hl;obtain ⟨g,La,Ka,Lc,Kc,rfl,rfl,hf,_,_⟩:=h.open;exact yA w0 t hg hf acc r w La Ka Lc Kc hb.size hr hl
 | m+1=>by
  intro f v t acc r w h hg hb hr hl;obtain ⟨g,La,Ka,Lc,Kc,rfl,rfl,hf,hl',hk'⟩:=h.open;rcases hg with hg | ⟨_,_,he,hk⟩
  ·obtain ⟨k5,k6⟩:=WY hg;rw [Eh k5 k6] at hl ⊢;exact yA w0 t hg hf acc r w La Ka Lc Kc hb.size hr hl
  ·have hk2:ah t=5\/ah t=6:=by rcases hk with ⟨hk,_⟩ | ⟨hk,_⟩<;>omega
   rw [IQ hk2] at hl ⊢;simp only [yV,List.length_cons,List.length_append,bE] at hl;exact Lh w0 m (BA w0 m) g La Ka Lc Kc t acc r w hl'.out hk'.out hf.l1 (fun h6=>by rcases hk with ⟨hk,_⟩ | ⟨_,hk,_⟩<;>first | omega | exact hk) he hk2 hb hr (by omega)
def Pk (ok:Bool) (l:List UInt8):ByteArray:=if ok then bY l else ⟨#[]⟩
def X7 (ok:Bool):Int:=if ok then 0 else 5
theorem IZ {Tb:World->Prop} (hV:dL Tb) (hL:fG Tb) (f:Nat) (v:Value) (t:T) (w:World) (h:At w f v t) (hT:Tb w) :
  Calls Tryz.prog 18 #[v] w fun e w'=>e=.returned (.tuple #[.string (Pk (DN t) (bK 12 t)),.int .i64 (X7 (DN t))])/\Below w.heap.size w w':=by
 have HA:=aj h;have HT:=aj hT;have HL:=aj hL;have HV:=aj hV;obtain ⟨f1,La,Ka,Lc,Kc,hf1,rfl,hf,hl,hk⟩:=h.open;clear h hf hf1 hl hk hT hL hV;have HB1:=aj (bG w (vC t La Lc Ka Kc));have HI:=aj (yj HV.out HL.out f _ t _ (HA.out.keep HB1.out) (HL.out w HT.out _ _ HT.out HB1.out));go_in;go_wp2_with fail;refine HI.out.mono ?_;rintro e w2 ⟨rfl,b2⟩;have HB2:Hid (Below (w.heap.size+1) (w.alloc (vC t La Lc Ka Kc)) w2):=b2.mono (by simp);obtain ⟨q0,q1,q2,q3,q4,hz,hbw⟩:=aI HB2.out;have dH:=aj hbw;clear b2 hbw HI;cases hi:DN t with
 | false =>
  have Hi:=aj hi;clear hi;go_wp2_with fail;go_ret2;exact ⟨by rw [Hi.out];rfl,dH.out⟩
 | true =>
  have Hi:=aj hi;have HG:=aj ((kr t).1 hi);have HA2:=aj (HA.out.keep dH.out);have HW:=aj (Br 12 t HG.out.1);have HP:=aj (BA w2 12 f _ t [] (.slice none 0 0) w2 HA2.out HG.out.1 (Below.refl _ _) (World.ownsRow_nil _ _ _ _) (by have:=HW.out;have:=HG.out.2;simp only [List.length_nil];omega));clear hi;go_wp2_with fail;refine HP.out.mono ?_;rintro e w3 ⟨r3,rfl,hq3⟩;have HB3:=aj (dH.out.trans ((hq3.below (a:=[]) (World.ownsRow_nil _ _ _ _) (Below.refl _ _)).mono (Nat.le_of_lt hz)));have hcv:=Bl (P:=Tryz.prog) Tryz.underlying63 Tryz.underlying5 Tryz.underlying9 hq3.row;rw [List.nil_append] at hcv;clear hq3 HP q0 q1 q2 q3 q4 hz;go_wp2_with fail;go_ret2;exact ⟨by rw [Hi.out];rfl,HB3.out⟩
def Y6:ByteArray:=⟨#[95,105,100]⟩
def Qz (t:T):Option Nat:=bT Y6 (rU t)
theorem BD (f:Nat) (v:Value) (t:T) (k:Nat) (w:World) (h:At w f v t) (hk:Qz t=some k) (hlt:k<nL t) :
  Calls Tryz.prog 119 #[v] w fun e w'=>Below w.heap.size w w'/\∃ g A B C D,f=g+1/\e=.returned (.agg #[.int .i64 (ah (elt t k)),.int .i64 (aB (elt t k)),.string (aF (elt t k)),.slice A (nL (elt t k)) B,.slice C (nK (elt t k)) D])/\At w' g (.agg #[.int .i64 (ah (elt t k)),.int .i64 (aB (elt t k)),.string (aF (elt t k)),.slice A (nL (elt t k)) B,.slice C (nK (elt t k)) D]) (elt t k):=by
 obtain ⟨g,La,Ka,Lc,Kc,rfl,rfl,hf,hl,hkk⟩:=h.open;have HB1:Hid (Below w.heap.size w ((w.alloc (.cells #[.int .i64 (ah t),.int .i64 (aB t),.string (aF t),.slice La (nL t) Lc,.slice Ka (nK t) Kc] 25)).alloc (.cells #[.int .i64 0,.int .i64 0,.string ⟨#[]⟩,.slice none 0 0,.slice none 0 0] 25))):=((Below.refl _ _).alloc (Nat.le_refl _) _).alloc (by simp) _;have HS:=aj ((uo (Kc:=Kc) hkk.out hf.m1).keep HB1.out.drew);obtain ⟨bb,oo,A,B,C,D,rfl,hbl,p0,p1,p2,p3,p4,Ha⟩:=hl.out.shape HB1.out.drew k hlt;have HI:Hid (∀ w':World,lM w' (.slice Ka (nK t) Kc) (rU t)->Calls Tryz.prog 159 #[.slice Ka (nK t) Kc,.string ⟨#[95,105,100]⟩] w' fun e w2=>e=.returned (.int .i64 (k:Int))/\w2=w'):=fun w' hs=>(xk _ _ Y6 w' hs).mono fun e w2 hh=>⟨by rw [hh.1];show Ending.returned (.int .i64 (jN (Qz t)))=_;rw [hk];rfl,hh.2⟩;have hl1:=hf.l1;clear h hf hl hkk hk;go_in;go_wp2_with fail;go_region_law (go_simp;go_wp2_with (go_at_call 159;refine (HI.out _ HS.out).mono ?_;rintro e w2 ⟨rfl,rfl⟩))
 all_goals
  go_wp2_with fail;refine bodyPost_ret (v:=.agg #[.int .i64 (ah (elt t k)),.int .i64 (aB (elt t k)),.string (aF (elt t k)),.slice A (nL (elt t k)) B,.slice C (nK (elt t k)) D]) (by simp [results,Tryz.results119,go_sem, *]) rfl ?_;have hb:Below w.heap.size w (((w.alloc (.cells #[.int .i64 (ah t),.int .i64 (aB t),.string (aF t),.slice (some ⟨bb,oo,none⟩) (nL t) Lc,.slice Ka (nK t) Kc] 25)).alloc (.cells #[.int .i64 (ah (elt t k)),.int .i64 (aB (elt t k)),.string (aF (elt t k)),.slice A (nL (elt t k)) B,.slice C (nK (elt t k)) D] 25)).drew):=(((Below.refl _ _).alloc (Nat.le_refl _) _).alloc (by simp) _).drew;exact ⟨hb,g,A,B,C,D,rfl,rfl,Ha.out.keep hb⟩
theorem Li (a b c d e:Value) (w:World):(Instr.field 25 (.agg #[a,b,c,d,e]) 0).run Tryz.prog w=.ok a w:=by kernel_rfl
def iG (t:T):Bool:=ah t==6&&match Qz t with
 | some k=>ah (elt t k)==3 || ah (elt t k)==4
 | none=>false
theorem Pm (f:Nat) (v:Value) (t:T) (w:World) (h:At w f v t) (hok:dZ t) :
  Calls Tryz.prog 116 #[v] w fun e w'=>e=.returned (.bool (iG t))/\Below w.heap.size w w':=by
 have HA:=aj h;obtain ⟨g,La,Ka,Lc,Kc,rfl,rfl,hf,hl,hkk⟩:=h.open;have HB1:Hid (Below w.heap.size w (w.alloc (.cells #[.int .i64 (ah t),.int .i64 (aB t),.string (aF t),.slice La (nL t) Lc,.slice Ka (nK t) Kc] 25))):=(Below.refl _ _).alloc (Nat.le_refl _) _;have HS:=aj ((uo (Kc:=Kc) hkk.out hf.m1).keep HB1.out);have HI:=aj (vP _ _ ⟨#[95,105,100]⟩ _ HS.out);have WZ:=aj hok;clear h hf hl hkk hok;by_cases k6:ah t=6
 ·have e6:(ah t==6)=true:=by simpa using k6
  cases hi:Qz t with
  | none =>
   have HR:Hid (iG t=false):=by show _=_;unfold iG;rw [hi];simp
   have e:(bT ⟨#[95,105,100]⟩ (rU t)).isSome=false:=by rw [show bT ⟨#[95,105,100]⟩ (rU t)=none from hi];rfl
   rw [e] at HI;rw [k6] at HI HB1 ⊢;clear e hi k6 e6 WZ HA HS;go_in;go_wp2_with fail;refine HI.out.mono ?_;rintro e w2 ⟨rfl,rfl⟩;go_wp2_with fail;go_ret;exact ⟨av (by rw [HR.out]),HB1.out⟩
  | some k =>
   have hkl:k<(rU t).length:=vI hi;have hlt:k<nL t:=by have:=WZ.out.names k6;unfold nK at this;omega
   have HR:Hid (iG t=(ah (elt t k)==3 || ah (elt t k)==4)):=by show _=_;unfold iG;rw [hi,e6];rfl
   have e:(bT ⟨#[95,105,100]⟩ (rU t)).isSome=true:=by rw [show bT ⟨#[95,105,100]⟩ (rU t)=some k from hi];rfl
   rw [e] at HI;have HO:=aj (BD _ _ t k _ (HA.out.keep HB1.out) hi hlt);rw [k6] at HI HB1 HO ⊢;clear e hi k6 e6 WZ hkl hlt HA HS;have HKo:Hid (ah (elt t k)=3\/ah (elt t k)≠3):=by by_cases h:ah (elt t k)=3<;>simp [Hid,h]
   go_in;go_wp2_with fail;refine HI.out.mono ?_;rintro e w2 ⟨rfl,rfl⟩;go_wp2_with fail;refine HO.out.mono ?_;rintro e w2 ⟨b2,g',A,B,C,D,hg,rfl,ha⟩;have HB2:=aj (HB1.out.trans (b2.mono HB1.out.size));clear b2 ha hg HO;have hfd:=Li;rcases HKo.out with h3 | h3
   ·have e3:(ah (elt t k)==3)=true:=by simpa using h3
    have HR2:Hid (iG t=true):=by show _=_;rw [HR.out,e3];rfl
    clear h3 HKo;go_wp2_with fail;go_ret;exact ⟨av (by rw [HR2.out]),HB2.out⟩
   ·have e3:(ah (elt t k)==3)=false:=by simpa using h3
    have HR2:Hid (iG t=(ah (elt t k)==4)):=by show _=_;rw [HR.out,e3];rfl
    clear h3 HKo;go_wp2_with fail;go_ret;exact ⟨av (by rw [HR2.out]),HB2.out⟩
 ·have e6:(ah t==6)=false:=by simpa using k6
  have HR:Hid (iG t=false):=by show _=_;unfold iG;rw [e6];rfl
  have n6:(ah t != 6)=true:=by simpa using k6
  clear k6 WZ e6;go_in;go_wp2_with fail;go_ret;exact ⟨av (by rw [HR.out]),HB1.out⟩
def jI (t:T):Bool:=!DN t || decide (1000<(Pk (DN t) (bK 12 t)).size)
theorem Lj {Tb:World->Prop} (hV:dL Tb) (hL:fG Tb) (f:Nat) (v:Value) (t:T) (w:World) (h:At w f v t) (hT:Tb w) :
  Calls Tryz.prog 117 #[v] w fun e w'=>e=.returned (.bool (jI t))/\Below w.heap.size w w':=by
 have HA:=aj h;obtain ⟨g,La,Ka,Lc,Kc,rfl,rfl,hf,hl,hkk⟩:=h.open;have HB1:Hid (Below w.heap.size w (w.alloc (.cells #[.int .i64 (ah t),.int .i64 (aB t),.string (aF t),.slice La (nL t) Lc,.slice Ka (nK t) Kc] 25))):=(Below.refl _ _).alloc (Nat.le_refl _) _;have HE:=aj (IZ hV hL _ _ t _ (HA.out.keep HB1.out) (hL w hT _ _ hT HB1.out));clear h hf hl hkk hT hL hV HA;cases hv:DN t with
 | true =>
  rw [hv] at HE;have HR:Hid (jI t=decide ((1000:Int)<((Pk true (bK 12 t)).size:Int))):=by show _=_;unfold jI;rw [hv];simp;omega
  clear hv;have e0:X7 true=0:=rfl;rw [e0] at HE;clear e0;generalize Pk true (bK 12 t)=bs at HE HR;go_in;go_wp2_with fail;refine HE.out.mono ?_;rintro e w2 ⟨rfl,b2⟩;have HB2:=aj (HB1.out.trans (b2.mono HB1.out.size));clear b2 HE;go_wp2_with fail;go_ret;exact ⟨av (by rw [HR.out]),HB2.out⟩
 | false =>
  rw [hv] at HE;have HR:Hid (jI t=true):=by show _=_;unfold jI;rw [hv];simp
  clear hv;have e0:X7 false=5:=rfl;rw [e0] at HE;clear e0;generalize Pk false (bK 12 t)=bs at HE;go_in;go_wp2_with fail;refine HE.out.mono ?_;rintro e w2 ⟨rfl,b2⟩;have HB2:=aj (HB1.out.trans (b2.mono HB1.out.size));clear b2 HE;go_wp2_with fail;go_ret;exact ⟨av (by rw [HR.out]),HB2.out⟩
def FK (s : ByteArray) (w : World) (e : Ending) (w' : World) : Prop :=
  Below w.heap.size w w' /\
  ((eJ s ≠ 0 /\ e = .returned (.tuple #[kT, .int .i64 (eJ s)])) \/ (eJ s = 0 /\ iG (tJ s) = false /\ e = .returned (.tuple #[kT, .int .i64 7])) \/ (eJ s = 0 /\ iG (tJ s) = true /\ jI (tJ s) = true /\ e = .returned (.tuple #[kT, .int .i64 15])) \/
   (eJ s = 0 /\ iG (tJ s) = true /\ jI (tJ s) = false /\ ∃ A B C D, e = .returned (.tuple #[.agg #[.int .i64 (ah (tJ s)), .int .i64 (aB (tJ s)), .string (aF (tJ s)), .slice A (nL (tJ s)) B, .slice C (nK (tJ s)) D], .int .i64 0]) /\ nu (bZ w w') w' 13 (.agg #[.int .i64 (ah (tJ s)), .int .i64 (aB (tJ s)), .string (aF (tJ s)), .slice A (nL (tJ s)) B, .slice C (nK (tJ s)) D]) (tJ s)))
theorem I4 {Tb:World->Prop} (hD:bS Tb) (hN:dz Tb) (hL:fG Tb) (s:ByteArray) (w:World) (hs:s.size<=140737488355328) (hT:Tb w) (h0:eJ s≠0) :
  Calls Tryz.prog 71 #[.string s] w (FK s w):=by
 have HB0:=aj (bG w (.cells #[.int .i64 0,.int .i64 0,.string ⟨#[]⟩,.slice none 0 0,.slice none 0 0] 25));have HP:=aj (Fh hD hN hL s (w.alloc (.cells #[.int .i64 0,.int .i64 0,.string ⟨#[]⟩,.slice none 0 0,.slice none 0 0] 25)) hs (hL w hT _ _ hT HB0.out));have H0:=aj h0;have ez:(eJ s==0)=false:=by simpa using h0
 clear hT hD hN hL h0;go_in;go_wp2_with fail;refine HP.out.mono ?_;rintro e w1 ⟨b1,es,A,B,C,D,rfl,hF,hS,h1,h2⟩;have jQ:=aj (bG w1 (vC (tJ s) A B C D));have HB:=aj ((HB0.out.trans (b1.mono HB0.out.size)).trans (jQ.out.mono (HB0.out.trans (b1.mono HB0.out.size)).size));have HX:=aj (((bD w (.int .i64 0) (.int .i64 0) (.string ⟨#[]⟩) (.slice none 0 0) (.slice none 0 0)).stay b1).stay jQ.out);have r0:=HX.out.q0;have r1:=HX.out.q1;have r2:=HX.out.q2;have r3:=HX.out.q3;have r4:=HX.out.q4;have z0:=HX.out.f0;have z1:=HX.out.f1;have z2:=HX.out.f2;have z3:=HX.out.f3;have z4:=HX.out.f4;clear b1 hF hS h1 h2 HP;go_wp2_with fail;refine bodyPost_ret (v:=.tuple #[kT,.int .i64 (eJ s)]) (by simp [results,Tryz.results71,go_sem,kT, *]) rfl ?_;exact ⟨HB.out.trans ((oO (w1.alloc (vC (tJ s) A B C D)) w.heap.size _ _ _ _ _).below HB.out.size),.inl ⟨H0.out,rfl⟩⟩
theorem Ll {Tb:World->Prop} (hV:dL Tb) (hD:bS Tb) (hN:dz Tb) (hL:fG Tb) (s:ByteArray) (w:World) (hs:s.size<=140737488355328) (hT:Tb w) (h0:eJ s=0) :
  Calls Tryz.prog 71 #[.string s] w (FK s w):=by
 have HB0:=aj (bG w (.cells #[.int .i64 0,.int .i64 0,.string ⟨#[]⟩,.slice none 0 0,.slice none 0 0] 25));have HP:=aj (Eu hD hN hL s (w.alloc (.cells #[.int .i64 0,.int .i64 0,.string ⟨#[]⟩,.slice none 0 0,.slice none 0 0] 25)) hs (hL w hT _ _ hT HB0.out) h0);have H0:=aj h0;have HK:=aj (gZ h0);have HT:Hid (∀ w':World,Below w.heap.size w w'->Tb w'):=fun w' hb=>hL w hT w w' hT hb;have HTB:Hid (∀ (v:Value) (w:World),At w 13 v (tJ s)->Tb w->Calls Tryz.prog 117 #[v] w fun e w'=>e=.returned (.bool (jI (tJ s)))/\Below w.heap.size w w'):=fun v w ha ht=>Lj hV hL 13 v (tJ s) w ha ht;have UH:Hid ((w.alloc (.cells #[.int .i64 0,.int .i64 0,.string ⟨#[]⟩,.slice none 0 0,.slice none 0 0] 25)).heap.size=w.heap.size+1):=by show _=_;simp
 clear hT hD hN hL h0 hV;go_in;go_wp2_with fail;refine HP.out.mono ?_;rintro e w1 ⟨b1,A,B,C,D,rfl,ha⟩;have jQ:=aj (bG w1 (vC (tJ s) A B C D));have HB:=aj ((HB0.out.trans (b1.mono HB0.out.size)).trans (jQ.out.mono (HB0.out.trans (b1.mono HB0.out.size)).size));have HX:=aj (((bD w (.int .i64 0) (.int .i64 0) (.string ⟨#[]⟩) (.slice none 0 0) (.slice none 0 0)).stay b1).stay jQ.out);have HY:=aj (bD w1 (.int .i64 (ah (tJ s))) (.int .i64 (aB (tJ s))) (.string (aF (tJ s))) (.slice A (nL (tJ s)) B) (.slice C (nK (tJ s)) D));have xu:=aj (ha.move (q:=fun b=>w.heap.size+1<=b/\b<w1.heap.size) (w':=w1.alloc (vC (tJ s) A B C D)) jQ.out.size (fun b hb hp=>⟨⟨by have:=hp.1;have:=UH.out;omega,hb⟩,jQ.out.block b hb⟩));have HI:=aj (Pm 13 _ (tJ s) _ xu.out.at HK.out);clear b1 ha HP;cases hd:iG (tJ s) with
 | false =>
  rw [hd] at HI;have Hd:=aj hd;clear hd;go_wp2_with fail;refine HI.out.mono ?_;rintro e w2 ⟨rfl,b2⟩;have HB2:=aj (HB.out.trans (b2.mono HB.out.size));have yS:=aj (HX.out.stay b2);have r0:=yS.out.q0;have r1:=yS.out.q1;have r2:=yS.out.q2;have r3:=yS.out.q3;have r4:=yS.out.q4;have z0:=yS.out.f0;have z1:=yS.out.f1;have z2:=yS.out.f2;have z3:=yS.out.f3;have z4:=yS.out.f4;clear b2 HI;go_wp2_with fail;refine bodyPost_ret (v:=.tuple #[kT,.int .i64 7]) (by simp [results,Tryz.results71,go_sem,kT, *]) rfl ?_;exact ⟨HB2.out.trans ((oO w2 w.heap.size _ _ _ _ _).below HB2.out.size),.inr (.inl ⟨H0.out,Hd.out,rfl⟩)⟩
 | true =>
  rw [hd] at HI;have Hd:=aj hd;clear hd;go_wp2_with fail;refine HI.out.mono ?_;rintro e w2 ⟨rfl,b2⟩;have HB2:=aj (HB.out.trans (b2.mono HB.out.size));have yS:=aj (HX.out.stay b2);have UJ:=aj (HY.out.stay b2);have aak:=aj (xu.out.move (q:=fun b=>w.heap.size+1<=b/\b<w1.heap.size) b2.size (fun b hb hp=>⟨hp,b2.block b hb⟩));have HG:=aj (HTB.out _ w2 aak.out.at (HT.out _ HB2.out));have y0:=UJ.out.q0;have y1:=UJ.out.q1;have y2:=UJ.out.q2;have y3:=UJ.out.q3;have y4:=UJ.out.q4;clear b2 HI;cases hb:jI (tJ s) with
  | true =>
   rw [hb] at HG;have Hb:=aj hb;clear hb;go_wp2_with fail;refine HG.out.mono ?_;rintro e w3 ⟨rfl,b3⟩;have HB3:=aj (HB2.out.trans (b3.mono HB2.out.size));have pI:=aj (yS.out.stay b3);have r0:=pI.out.q0;have r1:=pI.out.q1;have r2:=pI.out.q2;have r3:=pI.out.q3;have r4:=pI.out.q4;have z0:=pI.out.f0;have z1:=pI.out.f1;have z2:=pI.out.f2;have z3:=pI.out.f3;have z4:=pI.out.f4;clear b3 HG y0 y1 y2 y3 y4;go_wp2_with fail;refine bodyPost_ret (v:=.tuple #[kT,.int .i64 15]) (by simp [results,Tryz.results71,go_sem,kT, *]) rfl ?_;exact ⟨HB3.out.trans ((oO w3 w.heap.size _ _ _ _ _).below HB3.out.size),.inr (.inr (.inl ⟨H0.out,Hd.out,Hb.out,rfl⟩))⟩
  | false =>
   rw [hb] at HG;have Hb:=aj hb;clear hb;go_wp2_with fail;refine HG.out.mono ?_;rintro e w3 ⟨rfl,b3⟩;have HB3:=aj (HB2.out.trans (b3.mono HB2.out.size));have pI:=aj (yS.out.stay b3);have Y7:=aj (UJ.out.stay b3);have acQ:=aj (aak.out.move (q:=fun b=>w.heap.size+1<=b/\b<w1.heap.size) b3.size (fun b hb hp=>⟨hp,b3.block b hb⟩));have HO:=aj (pI.out.ny (.int .i64 (ah (tJ s))) (.int .i64 (aB (tJ s))) (.string (aF (tJ s))) (.slice A (nL (tJ s)) B) (.slice C (nK (tJ s)) D));have HW1:Hid (w1.heap.size<=w3.heap.size):=by show _<=_;have:=Y7.out.lt;omega
   have v0:=Y7.out.q0;have v1:=Y7.out.q1;have v2:=Y7.out.q2;have v3:=Y7.out.q3;have v4:=Y7.out.q4;have r0:=pI.out.q0;have r1:=pI.out.q1;have r2:=pI.out.q2;have r3:=pI.out.q3;have r4:=pI.out.q4;have z0:=pI.out.f0;have z1:=pI.out.f1;have z2:=pI.out.f2;have z3:=pI.out.f3;have z4:=pI.out.f4;unfold ny at HO;clear b3 HG y0 y1 y2 y3 y4;go_wp2_with fail;clear r0 r1 r2 r3 r4 z0 z1 z2 z3 z4;have sO:=aj HO.out;have r0:=sO.out.q0;have r1:=sO.out.q1;have r2:=sO.out.q2;have r3:=sO.out.q3;have r4:=sO.out.q4;refine bodyPost_ret (v:=.tuple #[.agg #[.int .i64 (ah (tJ s)),.int .i64 (aB (tJ s)),.string (aF (tJ s)),.slice A (nL (tJ s)) B,.slice C (nK (tJ s)) D],.int .i64 0]) (by simp [results,Tryz.results71,go_sem, *]) rfl ?_;refine ⟨HB3.out.trans ((oO w3 w.heap.size _ _ _ _ _).below HB3.out.size),.inr (.inr (.inr ⟨H0.out,Hd.out,Hb.out,A,B,C,D,rfl,?_⟩))⟩;exact acQ.out.move (w':=ny w3 w.heap.size _ _ _ _ _) (by rw [D5];exact Nat.le_refl _) (fun b hb hp=>⟨⟨by omega,by simpa [World.setCell] using hb⟩,uq w3 (by omega) _ _ _ _ _⟩)
theorem I5 {Tb:World->Prop} (hV:dL Tb) (hD:bS Tb) (hN:dz Tb) (hL:fG Tb) (s:ByteArray) (w:World) (hs:s.size<=140737488355328) (hT:Tb w) :
  Calls Tryz.prog 71 #[.string s] w (FK s w):=by
 by_cases h0:eJ s=0
 ·exact Ll hV hD hN hL s w hs hT h0
 ·exact I4 hD hN hL s w hs hT h0
end Go.Proofs.YtknakfpciccoaaaGreatDoor
