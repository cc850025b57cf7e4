import Derived.Test.YtknakfpciccoaaaGreatDoorZC16
import Derived.Test.YtknakfpciccoaaaGreatDoorZC1
import Derived.Deep.LoopGhost
import Derived.Laws.IdiomStrings
import Derived.BigQuiet
import Derived.Test.YtknakfpciccoaaaGreatDoorZC2
import Derived.Laws.CopyOwn
import Derived.Test.YtknakfpciccoaaaGreatDoorZC18
import Derived.Deep.RegionLaw
/- The walk of appendNumber. -/
set_option maxHeartbeats 4000000
set_option maxRecDepth 100000
namespace Go.Proofs.YtknakfpciccoaaaGreatDoor
open Go.RowKit
theorem mO (w0:World) (r:Value) (acc:List UInt8) (n:Int) (m:Nat) (w:World) (hr:w.ownsRow w0.heap.size 5 1 r acc.length (aK acc)) (hb:w0.heap.size<=w.heap.size) (_hn0:0<=n) (_hn1:n<18446744073709551616) (hm:m<=8) (hl:acc.length<=1000000000) :
  Calls Tryz.prog 86 #[r,.int .u64 n,.int .i64 m] w fun e w'=>∃ r',e=.returned r'/\QG w0 r w r' (acc++oO n m) w':=by
 obtain ⟨iB,IY,Sl,Qs,Sm⟩:=info_parts GX;have HR:=ak (QG.refl hr);clear hr;go_in;go_wp2_with fail;go_loopg [0,7] m (fun g o i wr=>∃ (j:Nat) (a:List UInt8),g=j/\j<=m/\i=.int .i64 ((j:Int) - 1)/\a.length<=1000000008 - j/\Hid (a++oO n j=acc++oO n m)/\Hid (QG w0 r w o a wr))
 case atStart=>exact ⟨m,acc,rfl,Nat.le_refl _,by go_num,by omega,rfl,HR⟩
 case round =>
  obtain ⟨_,a,rfl,hj,rfl,hla,HE,HQ⟩:=hrel;cases gk with
  | zero =>
   have e1:((0:Nat):Int) - 1=-1:=by omega
   rw [e1];have HA:Hid (a=acc++oO n m):=by have:=HE.out;show _=_;simpa [oO] using this
   go_wp2_with fail;go_ret;exact ⟨_,rfl,HQ.out.acc HA.out⟩
  | succ i =>
   have e1:((i+1:Nat):Int) - 1=(i:Int):=by omega
   rw [e1];obtain ⟨q,hq⟩:∃ q:Nat,q=8*i:=⟨_,rfl⟩;have f1:IntKind.i64.wrap (8*(i:Int))=(q:Int):=by rw [IntKind.wrap_i64];omega
   have f2:q<=56:=by omega
   have f3:((nC n i).toNat:Int)=n / 2 ^ q % 256:=by rw [qF,hq,Int.pow_mul];rfl
   have f4:IntKind.u8.wrap (n / 2 ^ q)=((nC n i).toNat:Int):=by rw [IntKind.wrap_u8];omega
   have Hq:=ak hq;clear hq f3;have hbw:w0.heap.size<=wr.heap.size:=Nat.le_trans hb HQ.out.grown.size;have HB1:=ak (aY wr (.cells #[.int .u8 ((nC n i).toNat:Int)] 5));have HI1:=ak (HQ.out.keep HB1.out);have Mt:Hid (Src Tryz.prog 1 63 (.slice (some ⟨wr.heap.size,0,none⟩) 1 1) 1 (aK [nC n i]) (wr.alloc (.cells #[.int .u8 ((nC n i).toNat:Int)] 5))):=ak (qG wr [nC n i]);go_wp2_with (at_builtin;refine aG _ rfl (.tmp 14) (.tmp 20) 63 63 rfl w0.heap.size 5 iB _ 1 1 Tryz.underlying63 IY Sl Qs Sm rfl u0 a.length (aK a) rfl HI1.out.row (.slice (some ⟨wr.heap.size,0,none⟩) 1 1) 1 (aK [nC n i]) rfl Mt.out (by unfold maxLen;omega) (by omega) (Nat.le_trans hbw HB1.out.size) ?_;intro v' w6 qX nu dV);have H6:=ak (HI1.out.grow (l:=[nC n i]) qX nu dV);clear qX nu dV HI1 Mt HB1;have HE2:Hid ((a++[nC n i])++oO n i=acc++oO n m):=by have:=HE.out;show _=_;rw [<- this];simp [oO]
   go_wp2_with fail;go_roundg i
   case rel=>exact ⟨i,a++[nC n i],rfl,by omega,by go_num,by simp only [List.length_append,List.length_cons,List.length_nil];omega,HE2,H6⟩
   case measure=>omega
theorem QG.from {w0 w w1:World} {o:Obj} {r r1:Value} {a a1:List UInt8} (hr:w.ownsRow w0.heap.size 5 1 r a.length (aK a)) (h:QG w0 r (w.alloc o) r1 a1 w1):QG w0 r w r1 a1 w1 :=
 ((QG.refl hr).keep ((Below.refl _ _).alloc (Nat.le_refl _) o)).trans h
theorem QG.here {w0 w:World} {o:Obj} {r:Value} {a:List UInt8} (hr:w.ownsRow w0.heap.size 5 1 r a.length (aK a)):QG w0 r (w.alloc o) r a (w.alloc o) :=
 QG.refl ((QG.refl hr).keep ((Below.refl _ _).alloc (Nat.le_refl _) o)).row
theorem V7 (n:Int):IntKind.u8.wrap n=((nC n 0).toNat:Int):=by rw [IntKind.wrap_u8,qF];simp
theorem G8 (n:Int):0<=n % 18446744073709551616/\n % 18446744073709551616<18446744073709551616:=⟨Int.emod_nonneg _ (by omega),Int.emod_lt_of_pos _ (by omega)⟩
def NH (w0:World) (m:Nat):Prop:=∀ (f:Nat) (v:Value) (t:T) (acc:List UInt8) (r:Value) (w:World),At w0 f v t->dD m t->Below w0.heap.size w0 w->w.ownsRow w0.heap.size 5 1 r acc.length (aK acc)->acc.length+(eT m t).length<=100000000 ->
  Calls Tryz.prog 46 #[r,v] w fun e w'=>∃ r',e=.returned r'/\QG w0 r w r' (acc++eT m t) w'
theorem zo (w0:World) (t:T) (hg:aW t) (ht:zI t) (acc:List UInt8) (r:Value) (w:World) (La Ka:Option Addr) (Lc Kc:Nat) (hb:w0.heap.size<=w.heap.size) (hr:w.ownsRow w0.heap.size 5 1 r acc.length (aK acc)) (hl:acc.length+(mK t).length<=100000000) :
  Calls Tryz.prog 46 #[r,.agg #[.int .i64 (aj t),.int .i64 (av t),.string (ay t),.slice La (nL t) Lc,.slice Ka (nK t) Kc]] w fun e w'=>∃ r',e=.returned r'/\QG w0 r w r' (acc++mK t) w':=by
 obtain ⟨iB,IY,Sl,Qs,Sm⟩:=info_parts GX;have HR:=ak hr;have HFt:=ak ht;have hl1:acc.length<=100000000:=by omega
 have Hl:=ak hl;clear hr ht hl;have fk:IntKind.u8.wrap (aj t)=((dI t).toNat:Int):=V7 _;have H0:Hid (QG w0 r (w.alloc (.cells #[.int .i64 (aj t),.int .i64 (av t),.string (ay t),.slice La (nL t) Lc,.slice Ka (nK t) Kc] 25)) r acc (w.alloc (.cells #[.int .i64 (aj t),.int .i64 (av t),.string (ay t),.slice La (nL t) Lc,.slice Ka (nK t) Kc] 25))):=QG.here HR.out;have HB1:Hid (Below (w.heap.size+1) (w.alloc (.cells #[.int .i64 (aj t),.int .i64 (av t),.string (ay t),.slice La (nL t) Lc,.slice Ka (nK t) Kc] 25)) ((w.alloc (.cells #[.int .i64 (aj t),.int .i64 (av t),.string (ay t),.slice La (nL t) Lc,.slice Ka (nK t) Kc] 25)).alloc (.cells #[.int .u8 ((dI t).toNat:Int)] 5))):=(Below.refl _ _).alloc (by simp) _;have HI1:=ak (H0.out.keep (HB1.out.mono (by simp)))
 have Mt:Hid (Src Tryz.prog 1 63 (.slice (some ⟨w.heap.size+1,0,none⟩) 1 1) 1 (aK [dI t]) ((w.alloc (.cells #[.int .i64 (aj t),.int .i64 (av t),.string (ay t),.slice La (nL t) Lc,.slice Ka (nK t) Kc] 25)).alloc (.cells #[.int .u8 ((dI t).toNat:Int)] 5))):=by
  have:=qG (w.alloc (.cells #[.int .i64 (aj t),.int .i64 (av t),.string (ay t),.slice La (nL t) Lc,.slice Ka (nK t) Kc] 25)) [dI t];apply ak;simpa [aK] using this
 have hbz:w0.heap.size<=((w.alloc (.cells #[.int .i64 (aj t),.int .i64 (av t),.string (ay t),.slice La (nL t) Lc,.slice Ka (nK t) Kc] 25)).alloc (.cells #[.int .u8 ((dI t).toNat:Int)] 5)).heap.size:=by simp;omega
 obtain ⟨g1,g2,hg⟩:=hg;clear g1 g2;rcases hg with ⟨hk,g3⟩ | ⟨hk,hn,g3⟩ | ⟨hk,g3⟩ | ⟨hk,g3,hsz,g4⟩
 all_goals clear g3
 ·skip
  have e2:(aj t==2)=false:=by rw [hk];rfl
  have e3:(aj t==3)=false:=by rw [hk];rfl
  have e4:(aj t==4)=false:=by rw [hk];rfl
  have e5:(aj t==5)=false:=by rw [hk];rfl
  have e6:(aj t==6)=false:=by rw [hk];rfl
  have HW:Hid (mK t=[dI t]):=by show _=_;unfold mK;rw [if_neg (by omega),if_neg (by omega),if_neg (by omega)]
  clear hk;go_in;go_wp2_with (at_builtin;refine aG _ rfl (.tmp 5) (.tmp 9) 63 63 rfl w0.heap.size 5 iB _ 1 1 Tryz.underlying63 IY Sl Qs Sm rfl r acc.length (aK acc) rfl HI1.out.row (.slice (some ⟨w.heap.size+1,0,none⟩) 1 1) 1 (aK [dI t]) rfl Mt.out (by unfold maxLen;omega) (by omega) hbz ?_;intro r1 w1 KC hG1 pQ;have rF:=ak (HI1.out.grow (l:=[dI t]) KC hG1 pQ);clear KC hG1 pQ HI1 Mt HB1 H0 hbz;obtain ⟨q0,q1,q2,q3,q4,hz⟩:=QG.box HR.out rF.out;have hb1:w0.heap.size<=w1.heap.size:=by omega);go_ret;exact ⟨_,rfl,by rw [HW.out];exact rF.out.from HR.out⟩
 ·skip
  have e2:(aj t==2)=true:=by rw [hk];rfl
  have HW:Hid (mK t=[dI t]++[nC (av t) 0]):=by show _=_;unfold mK;rw [if_pos hk];rfl
  have fn:IntKind.u8.wrap (av t)=((nC (av t) 0).toNat:Int):=V7 _;have HSc:=ak (fun w:World=>qG w [nC (av t) 0]);generalize hc:nC (av t) 0=c at fn HSc;have Hc:=ak hc;clear hk hn hc;go_in;go_wp2_with (first | (at_builtin;refine aG _ rfl (.tmp 5) (.tmp 9) 63 63 rfl w0.heap.size 5 iB _ 1 1 Tryz.underlying63 IY Sl Qs Sm rfl r acc.length (aK acc) rfl HI1.out.row (.slice (some ⟨w.heap.size+1,0,none⟩) 1 1) 1 (aK [dI t]) rfl Mt.out (by unfold maxLen;omega) (by omega) hbz ?_;intro r1 w1 KC hG1 pQ;have rF:=ak (HI1.out.grow (l:=[dI t]) KC hG1 pQ);clear KC hG1 pQ HI1 Mt HB1 H0 hbz;obtain ⟨q0,q1,q2,q3,q4,hz⟩:=QG.box HR.out rF.out;have hb1:w0.heap.size<=w1.heap.size:=by omega) | (at_builtin;refine aG _ rfl (.tmp 15) (.tmp 19) 63 63 rfl w0.heap.size 5 iB _ 1 1 Tryz.underlying63 IY Sl Qs Sm rfl r1 (acc++[dI t]).length (aK (acc++[dI t])) rfl (rF.out.keep ((Below.refl _ _).alloc (Nat.le_refl _) (.cells #[.int .u8 (c.toNat:Int)] 5))).row (.slice (some ⟨w1.heap.size,0,none⟩) 1 1) 1 (aK [c]) rfl (HSc.out w1) (by simp only [List.length_append,List.length_cons,List.length_nil];unfold maxLen;omega) (by simp only [List.length_append,List.length_cons,List.length_nil];omega) (by simp;omega) ?_;intro r2 w2 hO2 hG2 KD;have zT:=ak ((rF.out.keep ((Below.refl _ _).alloc (Nat.le_refl _) (.cells #[.int .u8 (c.toNat:Int)] 5))).grow (l:=[c]) hO2 hG2 KD);clear hO2 hG2 KD));go_ret
  exact ⟨_,rfl,by rw [HW.out,Hc.out,<- List.append_assoc];exact zT.out.from HR.out⟩
 ·skip
  have e2:(aj t==2)=false:=by rw [hk];rfl
  have e3:(aj t==3)=true:=by rw [hk];rfl
  have HW:Hid (mK t=[dI t]++oO (av t) 8):=by show _=_;unfold mK;rw [if_neg (by omega),if_pos hk];rfl
  obtain ⟨N,hN⟩:∃ N:Int,N=av t % 18446744073709551616:=⟨_,rfl⟩;have fn:IntKind.u64.wrap (av t)=N:=by rw [hN,IntKind.wrap_u64]
  have HN:Hid (oO N 8=oO (av t) 8):=by show _=_;rw [hN];exact Kh _ 8 (by omega)
  have HN2:=ak (hN ▸ G8 (av t));clear hk hN;go_in;go_wp2_with (at_builtin;refine aG _ rfl (.tmp 5) (.tmp 9) 63 63 rfl w0.heap.size 5 iB _ 1 1 Tryz.underlying63 IY Sl Qs Sm rfl r acc.length (aK acc) rfl HI1.out.row (.slice (some ⟨w.heap.size+1,0,none⟩) 1 1) 1 (aK [dI t]) rfl Mt.out (by unfold maxLen;omega) (by omega) hbz ?_;intro r1 w1 KC hG1 pQ;have rF:=ak (HI1.out.grow (l:=[dI t]) KC hG1 pQ);clear KC hG1 pQ HI1 Mt HB1 H0 hbz;obtain ⟨q0,q1,q2,q3,q4,hz⟩:=QG.box HR.out rF.out;have hb1:w0.heap.size<=w1.heap.size:=by omega);rw [show (Value.int .i64 8)=.int .i64 ((8:Nat):Int) from rfl];refine (mO w0 r1 (acc++[dI t]) N 8 w1 rF.out.row hb1 HN2.out.1 HN2.out.2 (by omega) (by simp only [List.length_append,List.length_cons,List.length_nil];omega)).mono ?_;rintro e w2 ⟨r2,rfl,hq2⟩;have zT:=ak (rF.out.trans hq2);clear hq2;go_wp2_with fail;go_ret;exact ⟨_,rfl,by rw [HW.out,<- HN.out,<- List.append_assoc];exact zT.out.from HR.out⟩
 ·skip
  have e2:(aj t==2)=false:=by rw [hk];rfl
  have e3:(aj t==3)=false:=by rw [hk];rfl
  have e4:(aj t==4)=true:=by rw [hk];rfl
  have HW:Hid (mK t=[dI t]++oO (ay t).size 4++(ay t).data.toList):=by show _=_;unfold mK;rw [if_neg (by omega),if_neg (by omega),if_pos hk];simp
  generalize ay t=s at *;clear hk;go_in;go_wp2_with (at_builtin;refine aG _ rfl (.tmp 5) (.tmp 9) 63 63 rfl w0.heap.size 5 iB _ 1 1 Tryz.underlying63 IY Sl Qs Sm rfl r acc.length (aK acc) rfl HI1.out.row (.slice (some ⟨w.heap.size+1,0,none⟩) 1 1) 1 (aK [dI t]) rfl Mt.out (by unfold maxLen;omega) (by omega) hbz ?_;intro r1 w1 KC hG1 pQ;have rF:=ak (HI1.out.grow (l:=[dI t]) KC hG1 pQ);clear KC hG1 pQ HI1 Mt HB1 H0 hbz;obtain ⟨q0,q1,q2,q3,q4,hz⟩:=QG.box HR.out rF.out;have hb1:w0.heap.size<=w1.heap.size:=by omega);have fz:IntKind.u64.wrap (s.size:Int)=(s.size:Int):=by rw [IntKind.wrap_u64];omega
  have HQd:=ak (rF.out.keep (au w1));have hbd:w0.heap.size<=w1.drew.heap.size:=by simpa using hb1
  have hl2:(acc++[dI t]).length<=100000001:=by simp only [List.length_append,List.length_cons,List.length_nil];omega
  have HC:=ak (mO w0 r1 (acc++[dI t]) (s.size:Int) 4 w1.drew HQd.out.row hbd (by omega) (by omega) (by omega) (by omega));have hl3:((acc++[dI t])++oO (s.size:Int) 4).length<=100000005:=by rw [List.length_append,dX];omega
  generalize hA:(acc++[dI t])++oO (s.size:Int) 4=yx at HC hl3;have HA:=ak hA;clear hA hl2 g4;go_region_law (first | (refine zP _ (by rfl) (.tmp 35) (.tmp 37) 63 9 (by rfl) w0.heap.size 5 iB _ 1 1 Tryz.underlying63 IY Sl Qs Sm rfl r2 yx.length (aK yx) (by rfl) zT.out.row (.string s) s.size (aK s.data.toList) (by rfl) (ED _ Tryz.underlying9 s) (by unfold maxLen;omega) (by omega) hb2 ?_;intro r3 w3 hO3 hG3 V8) | (go_simp;go_wp2_with (go_at_call 86;refine HC.out.mono ?_;rintro e w2 ⟨r2,rfl,hq2⟩;have zT:=ak (HQd.out.trans hq2);obtain ⟨p0,p1,p2,p3,p4,hz2⟩:=QG.box HR.out zT.out;have hb2:w0.heap.size<=w2.heap.size:=by omega)))
  all_goals
   have HQ3:=ak (zT.out.grow (l:=s.data.toList) hO3 hG3 V8);clear hO3 hG3 V8 hq2 zT;go_wp2_with fail;go_ret;exact ⟨_,rfl,by rw [HW.out,<- List.append_assoc,<- List.append_assoc,HA.out];exact HQ3.out.from HR.out⟩
theorem DL {P:Program} {ops:Array Oper} {o:Oper} {a:Act} {w:World} {K:Act->World->Prop} {Q:Exit->Act->World->Prop} {E:Prop} (hgd:o.guard=none) (d s:Operand) (dT sT:TypeId)
  (ho:o.op=.call { callee:=.builtin .copy,args:=#[d,s],argTypes:=#[dT,sT] }) (elem:TypeId) (hu:P.underlying dT=some (.slice elem)) (hsz:(P.info? elem).map (·.size)=some 1)
  (g off dLen dCap:Nat) (ad:Addr) (sLen sCap:Nat) (hd:a.eval d=.slice (some ⟨g,off,none⟩) dLen dCap) (hs:a.eval s=.slice (some ad) sLen sCap)
  (cur:Array Value) (t:TypeId) (hg:w.heap[g]?=some (.cells cur t (0,0))) (cs:List Value) (hn:cs.length=Nat.min sLen dLen)
  (hsrc:∀ j v,cs[j]?=some v->w.cell? (ad.add j)=some v) (hfit:off+cs.length<=cur.size) (h1:∀ v ∈ cs,v.oneCell'=true) (w':World) (hw':w'=w.setRow g (cur.toList.take off++(cs++cur.toList.drop (off+cs.length))).toArray)
  (h:K (a.put o.dst (goInt cs.length)) w') :
  if Region.wanted o (yielded ops a.tmps)=true then Oper.wp P o a w K Q else E:=by
 subst hw';have hw:Region.wanted o (yielded ops a.tmps)=true:=by simp [Region.wanted,hgd]
 rw [if_pos hw];have hrun:=run_copy_row (P:=P) w dT sT o.type elem g off dLen dCap ad sLen sCap cur t cs hu hsz hg hn hsrc hfit h1;unfold Oper.wp;simp [execOp,ho,resolve,invoke,builtin,hd,hs,hrun,Result.andThen];exact h
theorem KE {α:Type} (xs rest cs:List α) (off:Nat) (h:off+cs.length<=xs.length):((xs++rest).take off++(cs++(xs++rest).drop (off+cs.length))).take xs.length=xs.take off++(cs++xs.drop (off+cs.length)):=by
 have e1:(xs++rest).take off=xs.take off:=List.take_append_of_le_length (by omega);have e2:(xs++rest).drop (off+cs.length)=xs.drop (off+cs.length)++rest:=List.drop_append_of_le_length h;rw [e1,e2];have e:xs.take off++(cs++(xs.drop (off+cs.length)++rest))=(xs.take off++(cs++xs.drop (off+cs.length)))++rest:=by simp
 rw [e];have hl:(xs.take off++(cs++xs.drop (off+cs.length))).length=xs.length:=by simp;omega
 rw [<- hl];exact List.take_left
theorem QG.copy {w0 w w1:World} {r:Value} {g cap n:Nat} {all cs out:List UInt8} {off:Nat} (hn:n=all.length) (h:QG w0 r w (.slice (some ⟨g,0,none⟩) n cap) all w1) (hfit:off+cs.length<=all.length) (ho:out=all.take off++(cs++all.drop (off+cs.length))) :
  ∃ cur,w1.heap[g]?=some (.cells cur 5 (0,0))/\off+(aK cs).length<=cur.size/\n<=cap/\QG w0 r w (.slice (some ⟨g,0,none⟩) n cap) out (w1.setRow g (cur.toList.take off++(aK cs++cur.toList.drop (off+(aK cs).length))).toArray):=by
 subst ho;have hl:(all.take off++(cs++all.drop (off+cs.length))).length=all.length:=by simp;omega
 obtain ⟨hx,⟨h1,_⟩ | ⟨g',cap',cur,he,hb0,hg,hnc,hcm,hcs,ht⟩⟩:=h.row
 ·cases h1
 simp only [Value.slice.injEq,Option.some.injEq,Addr.mk.injEq] at he;obtain ⟨⟨rfl,_⟩,_,rfl⟩:=he;rw [Nat.mul_one] at ht hcs;have hc:cur.toList=aK all++cur.toList.drop all.length:=by conv=>lhs;rw [<- List.take_append_drop all.length cur.toList,ht]
 have hbl:=gQ cs;have hba:=gQ all;refine ⟨cur,hg,by omega,by omega,⟨?_,⟨h.grown.os,h.grown.tape,h.grown.output,by simpa using h.grown.size,fun k hk hne=>?_⟩,h.own⟩⟩
 ·rw [hl];refine ⟨by rw [gQ,hl,Nat.mul_one],.inr ⟨g,cap,_,by rw [hn],hb0,setRow_heap w1 g cur _ _ _ hg,hnc,hcm,?_,?_⟩⟩
  ·simp only [List.size_toArray,List.length_append,List.length_take,List.length_drop,Array.length_toList];omega
  ·rw [Nat.mul_one];show List.take all.length (_:Array Value).toList=_;have:=KE (aK all) (cur.toList.drop all.length) (aK cs) off (by omega);rw [<- hc,hba] at this;simp only [uZ];refine (by simpa using this:_=_).trans ?_;simp [aK,List.map_take,List.map_drop]
 ·rw [setRow_other w1 g k _ (fun e=>?_),h.grown.block k hk hne];subst e;rcases h.own with h1 | ⟨b,h1,h2⟩
  ·exact hne h1
  ·simp only [Value.ownBlock,Option.some.injEq] at h1;omega
theorem Cc {w:World} {lo:Nat} {e:TypeId} {size n:Nat} {v:Value} {xs:List Value} (h:w.ownsRow lo e size v n xs) (h0:0<n):∃ g cap,v=.slice (some ⟨g,0,none⟩) n cap/\n<=cap/\cap<=maxLen:=by
 rcases h.2 with ⟨rfl,rfl⟩ | ⟨g,cap,cur,rfl,hlo,hg,hnc,hm,_⟩
 ·omega
 ·exact ⟨g,cap,rfl,hnc,hm⟩
theorem zq {w:World} {lo:Nat} {e:TypeId} {size n:Nat} {v:Value} {xs:List Value} (h:w.ownsRow lo e size v n xs):∃ A cap,v=.slice A n cap:=by
 rcases h.2 with ⟨rfl,rfl⟩ | ⟨g,cap,cur,rfl,hlo,hg,hnc,hm,_⟩
 ·exact ⟨none,0,rfl⟩
 ·exact ⟨_,cap,rfl⟩
theorem QG.beside {w0 w w1 w2:World} {r r1 r2:Value} {a1 a2:List UInt8} (h:QG w0 r w r1 a1 w1) (k:QG w0 (.slice none 0 0) w1 r2 a2 w2):QG w0 r w r1 a1 w2 :=
 h.keep ⟨k.grown.os,k.grown.tape,k.grown.output,k.grown.size,fun b hb=>k.grown.block b hb (by simp [Value.ownBlock])⟩
theorem NI (a z b c:List UInt8) (h:z.length=4):(a++z++c).take a.length++(b++(a++z++c).drop (a.length+4))=a++(b++c):=by
 have e1:(a++z++c).take a.length=a:=by rw [List.append_assoc];exact List.take_left
 have e2:(a++z++c).drop (a.length+4)=c:=by rw [<- h,<- List.length_append];exact List.drop_left
 rw [e1,e2]
theorem V9 {w:World} {lo:Nat} {l:List UInt8} {v:Value} {n g cap:Nat} (h:w.ownsRow lo 5 1 v n (aK ([]++l))) (hv:v=.slice (some ⟨g,0,none⟩) n cap):∀ j u,(aK l)[j]?=some u->w.cell? ((⟨g,0,none⟩:Addr).add j)=some u:=by
 subst hv;exact h.cells (g:=g) rfl
theorem NJ (w0:World) (m:Nat) (ih:NH w0 m) (f:Nat) (La Ka:Option Addr) (Lc Kc:Nat) (t:T) (acc:List UInt8) (r:Value) (w:World)
  (hl:bJ w0 f La t) (hkn:jl w0 Ka t) (hn:nL t<=1759218604442) (hnk:aj t=6->nK t=nL t) (hg:∀ i,i<nL t->dD m (elt t i)) (hb:Below w0.heap.size w0 w) (hr:w.ownsRow w0.heap.size 5 1 r acc.length (aK acc))
  (hlen:acc.length+(iG (eT m) t (nL t)).length+4<=100000000) :
  Calls Tryz.prog 87 #[r,.agg #[.int .i64 (aj t),.int .i64 (av t),.string (ay t),.slice La (nL t) Lc,.slice Ka (nK t) Kc]] w fun e w'=>∃ r',e=.returned r'/\QG w0 r w r' (acc++(oO (iG (eT m) t (nL t)).length 4++iG (eT m) t (nL t))) w':=by
 obtain ⟨iB,IY,Sl,Qs,Sm⟩:=info_parts GX;have HR:=ak hr;have H0:Hid (QG w0 r (w.alloc (vC t La Lc Ka Kc)) r acc (w.alloc (vC t La Lc Ka Kc))):=QG.here HR.out;have HB1:Hid (Below w0.heap.size w0 (w.alloc (vC t La Lc Ka Kc))):=hb.alloc hb.size _;have HC0:=ak (mO w0 r acc 0 4 _ H0.out.row HB1.out.size (by omega) (by omega) (by omega) (by omega));obtain ⟨A0,c0,hs0⟩:=zq hr;have MF:=ak ih;have Hl:=ak hl;have HK:=ak hkn;have Hg:=ak hg;have HNK:=ak hnk;have hl0:acc.length<=100000000:=by omega
 obtain ⟨p,hp⟩:∃ p,p=acc.length:=⟨_,rfl⟩;have HM:Hid (∀ k,k<=nL t->(iG (eT m) t k).length+p+4<=100000000):=ak (fun k hk=>by have:=R6 (eT m) t hk;omega);rw [<- hp] at hs0 hl0;have Hp:=ak hp;have Hs0:=ak hs0;clear hr ih hl hkn hg hb hlen hnk hp;go_in;rw [hs0];clear hs0;go_wp2_with fail;rw [<- Hs0.out];refine HC0.out.mono ?_;rintro e w1 ⟨r1,rfl,hq1⟩;obtain ⟨q0,q1,q2,q3,q4,hz⟩:=QG.box HR.out hq1;obtain ⟨A1,c1,hs1⟩:=zq hq1.row;rw [List.length_append,dX,<- Hp.out] at hs1;have Hs1:=ak hs1;subst hs1;have rF:=ak hq1;clear hq1 HC0;go_wp2_with fail;clear q0 q1 q2 q3 q4 hz;go_loopg [0,18] (nL t) (fun g o i wr=>∃ k:Nat,g=nL t - k/\k<=nL t/\i=.int .i64 k/\Hid (QG w0 r (w.alloc (vC t La Lc Ka Kc)) o (acc++oO 0 4++iG (eT m) t k) wr))
 case atStart=>exact ⟨0,rfl,Nat.zero_le _,rfl,rF.out.acc (by simp [iG])⟩
 case round =>
  obtain ⟨k,rfl,hk,rfl,HQ⟩:=hrel;obtain ⟨q0,q1,q2,q3,q4,hz⟩:=QG.box HR.out HQ.out;have qb:=ak (HQ.out.below H0.out.row HB1.out);by_cases hlt:k<nL t
  ·obtain ⟨bb,oo,A,B,C,D,rfl,hbl,p0,p1,p2,p3,p4,Ha⟩:=Hl.out.shape qb.out k hlt;have hm1:=HM.out (k+1) hlt;have HG:=ak (Hg.out k hlt);have vY:=ak (aY wr (vC (elt t k) A B C D));have HX:=ak (HQ.out.keep vY.out);have Hb2:=ak (qb.out.trans (vY.out.mono qb.out.size));by_cases k6:aj t=6
   ·have e6:(aj t==6)=true:=by simpa using k6
    have ahL:k<nK t:=by have:=HNK.out k6;omega
    have hn2:nK t<=1759218604442:=by have:=HNK.out k6;omega
    obtain ⟨kb,ko,rfl,hkb,hks,hkc⟩:=HK.out k ahL;have HN:Hid (∀ wx,Below w0.heap.size w0 wx->wx.cell? ⟨kb,ko+k,none⟩=some (.string (bO t k))):=ak (fun wx hB=>(hB.cell (p:=⟨kb,ko+k,none⟩) hkb).trans hkc);have HJ:Hid (iG (eT m) t (k+1)=iG (eT m) t k++oO (bO t k).size 2++(bO t k).data.toList++eT m (elt t k)):=by show iG (eT m) t k++_=_;unfold Ki;rw [if_pos k6];simp
    rw [HJ.out] at hm1;have hsz:(bO t k).data.toList.length=(bO t k).size:=rfl;simp only [List.length_append,dX,hsz] at hm1;have hkw:=HN.out _ Hb2.out;clear k6 hkc hsz;generalize bO t k=s at *;have fz:IntKind.u64.wrap (s.size:Int)=(s.size:Int):=by rw [IntKind.wrap_u64];omega
    have hpl:p=acc.length:=Hp.out;have hlK:(acc++oO 0 4++iG (eT m) t k).length=p+4+(iG (eT m) t k).length:=by rw [List.length_append,List.length_append,dX,hpl]
    clear hpl;have HC:=ak (mO w0 u0 (acc++oO 0 4++iG (eT m) t k) (s.size:Int) 2 _ HX.out.row Hb2.out.size (by omega) (by omega) (by omega) (by omega));generalize hL:acc++oO 0 4++iG (eT m) t k=ae9 at *;have HL:=ak hL;have HlK:=ak hlK;clear hL hlK;go_wp2_with fail;refine HC.out.mono ?_;rintro e w2 ⟨r2,rfl,hq2⟩;have zT:=ak (HX.out.trans hq2);have HI2:=ak hq2;have afa:=ak (zT.out.below H0.out.row HB1.out);clear hq2 q0 q1 q2 q3 q4 hz HC hkw;obtain ⟨q0,q1,q2,q3,q4,hz⟩:=QG.box HR.out zT.out;have hkw:=HN.out _ afa.out;have ajS:(ae9++oO (s.size:Int) 2).length<=100000000:=by have:=HlK.out;rw [List.length_append,dX];omega
    generalize hL2:ae9++oO (s.size:Int) 2=yx at *;have HL2:=ak hL2;clear hL2;go_wp2_with (at_builtin;refine aG _ rfl (.tmp 35) (.tmp 40) 63 9 rfl w0.heap.size 5 iB _ 1 1 Tryz.underlying63 IY Sl Qs Sm rfl r2 yx.length (aK yx) rfl HI2.out.row (.string s) s.size (aK s.data.toList) rfl (ED _ Tryz.underlying9 s) (by unfold maxLen;omega) (by omega) afa.out.size ?_;intro r3 w3 hO3 hG3 V8;have HI3:=ak (HI2.out.grow (l:=s.data.toList) hO3 hG3 V8);clear hO3 hG3 V8;obtain ⟨j0,j1,j2,j3,j4,jz⟩:=QG.box HQ.out.row HI3.out);have eO:=ak (HX.out.trans HI3.out)
    have hlen3:(yx++s.data.toList).length+(eT m (elt t k)).length<=100000000:=by
     have h1:=HlK.out;have h2:s.data.toList.length=s.size:=rfl;rw [<- HL2.out,List.length_append,List.length_append,dX,h2];omega
    refine (MF.out f _ (elt t k) (yx++s.data.toList) r3 w3 Ha.out HG.out (eO.out.below H0.out.row HB1.out) eO.out.row hlen3).mono ?_;rintro e w4 ⟨r4,rfl,hq4⟩;have HQ4:=ak (eO.out.trans hq4);clear hq4 q0 q1 q2 q3 q4 hz j0 j1 j2 j3 j4 jz hkw;go_wp2_with fail;go_roundg (nL t - (k+1))
    case rel=>exact ⟨k+1,rfl,by omega,by go_num,HQ4.out.acc (by rw [HJ.out,<- HL2.out,<- HL.out];simp)⟩
    case measure=>omega
   ·have e6:(aj t==6)=false:=by simpa using k6
    have HJ:Hid (iG (eT m) t (k+1)=iG (eT m) t k++eT m (elt t k)):=by show iG (eT m) t k++_=_;unfold Ki;rw [if_neg k6];simp
    rw [HJ.out] at hm1;clear k6;go_wp2_with fail;refine (MF.out f _ (elt t k) _ u0 _ Ha.out HG.out Hb2.out HX.out.row (by rw [List.length_append] at hm1;rw [List.length_append,List.length_append,dX,<- Hp.out];omega)).mono ?_;rintro e w2 ⟨r2,rfl,hq2⟩;have zT:=ak (HX.out.trans hq2);clear hq2 q0 q1 q2 q3 q4 hz;go_wp2_with fail;go_roundg (nL t - (k+1))
    case rel=>exact ⟨k+1,rfl,by omega,by go_num,zT.out.acc (by rw [HJ.out];simp)⟩
    case measure=>omega
  ·obtain rfl:k=nL t:=by omega
   have hm0:=HM.out (nL t) hk;obtain ⟨L,hL⟩:∃ L,L=(iG (eT m) t (nL t)).length:=⟨_,rfl⟩;have hlen:(acc++oO 0 4++iG (eT m) t (nL t)).length=p+4+L:=by rw [List.length_append,List.length_append,dX,<- Hp.out,hL]
   obtain ⟨g,cap,hs,hcap,hcm⟩:=Cc HQ.out.row (by omega);obtain ⟨n,hn3⟩:∃ n,n=p+4+L:=⟨_,rfl⟩;rw [hlen,<- hn3] at hs hcap;rw [<- hL] at hm0;have f1:IntKind.i64.wrap ((n:Int) - ((p:Int)+4))=(L:Int):=by rw [IntKind.wrap_i64];omega
   have f2:IntKind.u64.wrap (L:Int)=(L:Int):=by rw [IntKind.wrap_u64];omega
   have f3:p+4<=cap:=by omega
   have HQd:=ak (HQ.out.keep (au wr));have hbd:w0.heap.size<=wr.drew.heap.size:=by have:=qb.out.size;simpa using this
   have HC:=ak (mO w0 (.slice none 0 0) [] (L:Int) 4 wr.drew (World.ownsRow_nil _ _ _ _) hbd (by omega) (by omega) (by omega) (by simp));have x1:(0:Int)<=(p:Int)+4:=by omega
   have x2:(p:Int)+4<=(cap:Int):=by omega
   have x3:((p:Int)+4).toNat=p+4:=by omega
   have x5:(cap=p)=False:=by simp only [eq_iff_iff,iff_false];omega
   have HL:=ak hL;have Hn3:=ak hn3;have Hlen:=ak hlen;clear hL hn3 hlen hm0 hcap hcm hlt;subst hs;have HCP:=ak (fun (w5:World) (h5:QG w0 r (w.alloc (vC t La Lc Ka Kc)) (.slice (some ⟨g,0,none⟩) n cap) (acc++oO 0 4++iG (eT m) t (nL t)) w5)=>QG.copy (off:=p) (cs:=oO (L:Int) 4) (out:=acc++(oO (L:Int) 4++iG (eT m) t (nL t))) (by rw [Hlen.out,Hn3.out]) h5 (by rw [Hlen.out,dX];omega) (by rw [dX,Hp.out];exact (NI acc (oO 0 4) _ _ (by rw [dX])).symm));have ahN:(Tryz.prog.info? 5).map (·.size)=some 1:=by rw [IY];simp [Qs]
   have hmin:(aK (oO (L:Int) 4)).length=Nat.min 4 4:=by rw [gQ,dX];rfl
   have afb:∀ v ∈ aK (oO (L:Int) 4),v.oneCell'=true:=fun u hu=>by obtain ⟨b,_,rfl⟩:=List.mem_map.1 hu;rfl
   go_wp2_with fail;go_region_law (first | (refine DL (by rfl) (.tmp 49) (.tmp 55) 63 63 (by rfl) 5 Tryz.underlying63 ahN g p 4 (cap - p) ⟨g5,0,none⟩ 4 cap5 (by rfl) (by rfl) cur 5 hcur (aK (oO (L:Int) 4)) hmin hsrc hfit afb _ rfl ?_) | (go_simp;go_wp2_with (go_at_call 86;refine HC.out.mono ?_;rintro e w5 ⟨r5,rfl,hq5⟩;obtain ⟨g5,cap5,hs5,hcap5,ahO⟩:=Cc hq5.row (by simp [dX]);obtain ⟨cur,hcur,hfit,hnc,hQ6⟩:=HCP.out _ (HQd.out.beside hq5);have hsrc:=(V9 hq5.row hs5);rw [List.nil_append,dX] at hs5;subst hs5)))
   all_goals
    rw [gQ,dX] at hQ6;generalize w5.setRow g (List.take p cur.toList++(aK (oO (L:Int) 4)++List.drop (p+4) cur.toList)).toArray=w6 at hQ6 ⊢;have HQ6:=ak hQ6;clear hQ6 hq5 hsrc hcur hfit hnc hcap5 ahO;go_wp2_with fail;go_ret;exact ⟨_,rfl,by rw [<- HL.out,<- Hs0.out];exact HQ6.out.from HR.out⟩
theorem NK (w0:World) (m:Nat) (ih:NH w0 m) (f:Nat) (La Ka:Option Addr) (Lc Kc:Nat) (t:T) (acc:List UInt8) (r:Value) (w:World)
  (hl:bJ w0 f La t) (hkn:jl w0 Ka t) (hn:nL t<=1759218604442) (hnk:aj t=6->nK t=nL t) (hg:∀ i,i<nL t->dD m (elt t i)) (hk:aj t=5\/aj t=6) (hb0:Below w0.heap.size w0 w) (hr:w.ownsRow w0.heap.size 5 1 r acc.length (aK acc))
  (hlen:acc.length+(iG (eT m) t (nL t)).length+5<=100000000) :
  Calls Tryz.prog 46 #[r,.agg #[.int .i64 (aj t),.int .i64 (av t),.string (ay t),.slice La (nL t) Lc,.slice Ka (nK t) Kc]] w fun e w'=>∃ r',e=.returned r'/\QG w0 r w r' (acc++Kj t (iG (eT m) t (nL t))) w':=by
 obtain ⟨iB,IY,Sl,Qs,Sm⟩:=info_parts GX;have HR:=ak hr;have hb:w0.heap.size<=w.heap.size:=hb0.size;have uM:Hid (Below w0.heap.size w0 (w.alloc (vC t La Lc Ka Kc))):=hb0.alloc hb0.size _;have hl1:acc.length<=100000000:=by omega
 have fk:IntKind.u8.wrap (aj t)=((dI t).toNat:Int):=V7 _;have HE:=ak (fun (r1:Value) (w1:World) (hb1:Below w0.heap.size w0 w1) (hr1:w1.ownsRow w0.heap.size 5 1 r1 (acc++[dI t]).length (aK (acc++[dI t])))=>NJ w0 m ih f La Ka Lc Kc t (acc++[dI t]) r1 w1 hl hkn hn hnk hg hb1 hr1 (by simp only [List.length_append,List.length_cons,List.length_nil];omega));have HW:Hid (acc++Kj t (iG (eT m) t (nL t))=acc++[dI t]++(oO (iG (eT m) t (nL t)).length 4++iG (eT m) t (nL t))):=by show _=_;simp [Kj]
 clear hr hl hkn hn hnk hg hlen ih hb0;have H0:Hid (QG w0 r (w.alloc (vC t La Lc Ka Kc)) r acc (w.alloc (vC t La Lc Ka Kc))):=QG.here HR.out;have HB1:Hid (Below (w.heap.size+1) (w.alloc (vC t La Lc Ka Kc)) ((w.alloc (vC t La Lc Ka Kc)).alloc (.cells #[.int .u8 ((dI t).toNat:Int)] 5))):=(Below.refl _ _).alloc (by simp) _;have HI1:=ak (H0.out.keep (HB1.out.mono (by simp)))
 have Mt:Hid (Src Tryz.prog 1 63 (.slice (some ⟨w.heap.size+1,0,none⟩) 1 1) 1 (aK [dI t]) ((w.alloc (vC t La Lc Ka Kc)).alloc (.cells #[.int .u8 ((dI t).toNat:Int)] 5))):=by
  have:=qG (w.alloc (vC t La Lc Ka Kc)) [dI t];apply ak;simpa [aK] using this
 have hbz:w0.heap.size<=((w.alloc (vC t La Lc Ka Kc)).alloc (.cells #[.int .u8 ((dI t).toNat:Int)] 5)).heap.size:=by simp;omega
 have gU:=ak H0.out.row;rcases hk with hk | hk
 ·have e2:(aj t==2)=false:=by rw [hk];rfl
  have e3:(aj t==3)=false:=by rw [hk];rfl
  have e4:(aj t==4)=false:=by rw [hk];rfl
  have e5:(aj t==5)=true:=by rw [hk];rfl
  clear hk;go_in;go_wp2_with (at_builtin;refine aG _ rfl (.tmp 5) (.tmp 9) 63 63 rfl w0.heap.size 5 iB _ 1 1 Tryz.underlying63 IY Sl Qs Sm rfl r acc.length (aK acc) rfl HI1.out.row (.slice (some ⟨w.heap.size+1,0,none⟩) 1 1) 1 (aK [dI t]) rfl Mt.out (by unfold maxLen;omega) (by omega) hbz ?_;intro r1 w1 KC hG1 pQ;have rF:=ak (HI1.out.grow (l:=[dI t]) KC hG1 pQ);clear KC hG1 pQ HI1 Mt HB1 H0 hbz;obtain ⟨q0,q1,q2,q3,q4,hz⟩:=QG.box HR.out rF.out;have hb1:w0.heap.size<=w1.heap.size:=by omega);refine (HE.out r1 w1 (rF.out.below gU.out uM.out) rF.out.row).mono ?_;rintro e w2 ⟨r2,rfl,hq2⟩;have zT:=ak (rF.out.trans hq2);clear hq2 q0 q1 q2 q3 q4 hz;go_wp2_with fail;go_ret;exact ⟨_,rfl,by rw [HW.out];exact zT.out.from HR.out⟩
 ·have e2:(aj t==2)=false:=by rw [hk];rfl
  have e3:(aj t==3)=false:=by rw [hk];rfl
  have e4:(aj t==4)=false:=by rw [hk];rfl
  have e5:(aj t==5)=false:=by rw [hk];rfl
  have e6:(aj t==6)=true:=by rw [hk];rfl
  clear hk;go_in;go_wp2_with (at_builtin;refine aG _ rfl (.tmp 5) (.tmp 9) 63 63 rfl w0.heap.size 5 iB _ 1 1 Tryz.underlying63 IY Sl Qs Sm rfl r acc.length (aK acc) rfl HI1.out.row (.slice (some ⟨w.heap.size+1,0,none⟩) 1 1) 1 (aK [dI t]) rfl Mt.out (by unfold maxLen;omega) (by omega) hbz ?_;intro r1 w1 KC hG1 pQ;have rF:=ak (HI1.out.grow (l:=[dI t]) KC hG1 pQ);clear KC hG1 pQ HI1 Mt HB1 H0 hbz;obtain ⟨q0,q1,q2,q3,q4,hz⟩:=QG.box HR.out rF.out;have hb1:w0.heap.size<=w1.heap.size:=by omega);refine (HE.out r1 w1 (rF.out.below gU.out uM.out) rF.out.row).mono ?_;rintro e w2 ⟨r2,rfl,hq2⟩;have zT:=ak (rF.out.trans hq2);clear hq2 q0 q1 q2 q3 q4 hz;go_wp2_with fail;go_ret;exact ⟨_,rfl,by rw [HW.out];exact zT.out.from HR.out⟩
theorem afc {t:T} (h:aW t):aj t≠5/\aj t≠6:=by
 obtain ⟨_,_,h⟩:=h;rcases h with ⟨h,_⟩ | ⟨h,_⟩ | ⟨h,_⟩ | ⟨h,_⟩<;>omega
theorem Ce (w0:World):∀ m,NH w0 m
 | 0=>by
  intro f v t acc r w h hg hb hr hl;obtain ⟨g,La,Ka,Lc,Kc,rfl,rfl,hf,_,_⟩:=h.open;exact zo w0 t hg hf acc r w La Ka Lc Kc hb.size hr hl
 | m+1=>by
  intro f v t acc r w h hg hb hr hl;obtain ⟨g,La,Ka,Lc,Kc,rfl,rfl,hf,hl',hk'⟩:=h.open;rcases hg with hg | ⟨_,_,he,hk⟩
  ·obtain ⟨k5,k6⟩:=afc hg;rw [R5 k5 k6] at hl ⊢;exact zo w0 t hg hf acc r w La Ka Lc Kc hb.size hr hl
  ·have hk2:aj t=5\/aj t=6:=by rcases hk with ⟨hk,_⟩ | ⟨hk,_⟩<;>omega
   rw [VF hk2] at hl ⊢;simp only [Kj,List.length_cons,List.length_append,dX] at hl;exact NK w0 m (Ce w0 m) g La Ka Lc Kc t acc r w hl'.out hk'.out hf.l1 (fun h6=>by rcases hk with ⟨hk,_⟩ | ⟨_,hk,_⟩<;>first | omega | exact hk) he hk2 hb hr (by omega)
def Sq (ok:Bool) (l:List UInt8):ByteArray:=if ok then bP l else ⟨#[]⟩
def ab4 (ok:Bool):Int:=if ok then 0 else 5
theorem KF {Tb:World->Prop} (hV:bF Tb) (hL:aV Tb) (f:Nat) (v:Value) (t:T) (w:World) (h:At w f v t) (hT:Tb w) :
  Calls Tryz.prog 18 #[v] w fun e w'=>e=.returned (.tuple #[.string (Sq (Di t) (eT 12 t)),.int .i64 (ab4 (Di t))])/\Below w.heap.size w w':=by
 have HA:=ak h;have HT:=ak hT;have HL:=ak hL;have HV:=ak hV;obtain ⟨f1,La,Ka,Lc,Kc,hf1,rfl,hf,hl,hk⟩:=h.open;clear h hf hf1 hl hk hT hL hV;have HB1:=ak (aY w (vC t La Lc Ka Kc));have HI:=ak (yV HV.out HL.out f _ t _ (HA.out.keep HB1.out) (HL.out w HT.out _ _ HT.out HB1.out));go_in;go_wp2_with fail;refine HI.out.mono ?_;rintro e w2 ⟨rfl,b2⟩;have HB2:Hid (Below (w.heap.size+1) (w.alloc (vC t La Lc Ka Kc)) w2):=b2.mono (by simp);obtain ⟨q0,q1,q2,q3,q4,hz,hbw⟩:=dz HB2.out;have iq:=ak hbw;clear b2 hbw HI;cases hi:Di t with
 | false =>
  have Hi:=ak hi;clear hi;go_wp2_with fail;go_ret2;exact ⟨by rw [Hi.out];rfl,iq.out⟩
 | true =>
  have Hi:=ak hi;have HG:=ak ((nI t).1 hi);have HA2:=ak (HA.out.keep iq.out);have HW:=ak (BR 12 t HG.out.1);have HP:=ak (Ce w2 12 f _ t [] (.slice none 0 0) w2 HA2.out HG.out.1 (Below.refl _ _) (World.ownsRow_nil _ _ _ _) (by have:=HW.out;have:=HG.out.2;simp only [List.length_nil];omega));clear hi;go_wp2_with fail;refine HP.out.mono ?_;rintro e w3 ⟨r3,rfl,hq3⟩;have HB3:=ak (iq.out.trans ((hq3.below (a:=[]) (World.ownsRow_nil _ _ _ _) (Below.refl _ _)).mono (Nat.le_of_lt hz)));have hcv:=Vj (P:=Tryz.prog) Tryz.underlying63 Tryz.underlying5 Tryz.underlying9 hq3.row;rw [List.nil_append] at hcv;clear hq3 HP q0 q1 q2 q3 q4 hz;go_wp2_with fail;go_ret2;exact ⟨by rw [Hi.out];rfl,HB3.out⟩
def idS:ByteArray:=⟨#[95,105,100]⟩
def idP (t:T):Option Nat:=jN idS (jZ t)
theorem Cg (f:Nat) (v:Value) (t:T) (k:Nat) (w:World) (h:At w f v t) (hk:idP t=some k) (hlt:k<nL t) :
  Calls Tryz.prog 119 #[v] w fun e w'=>Below w.heap.size w w'/\∃ g A B C D,f=g+1/\e=.returned (.agg #[.int .i64 (aj (elt t k)),.int .i64 (av (elt t k)),.string (ay (elt t k)),.slice A (nL (elt t k)) B,.slice C (nK (elt t k)) D])/\At w' g (.agg #[.int .i64 (aj (elt t k)),.int .i64 (av (elt t k)),.string (ay (elt t k)),.slice A (nL (elt t k)) B,.slice C (nK (elt t k)) D]) (elt t k):=by
 obtain ⟨g,La,Ka,Lc,Kc,rfl,rfl,hf,hl,hkk⟩:=h.open;have HB1:Hid (Below w.heap.size w ((w.alloc (.cells #[.int .i64 (aj t),.int .i64 (av t),.string (ay t),.slice La (nL t) Lc,.slice Ka (nK t) Kc] 25)).alloc (.cells #[.int .i64 0,.int .i64 0,.string ⟨#[]⟩,.slice none 0 0,.slice none 0 0] 25))):=((Below.refl _ _).alloc (Nat.le_refl _) _).alloc (by simp) _;have HS:=ak ((kI (Kc:=Kc) hkk.out hf.m1).keep HB1.out.drew);obtain ⟨bb,oo,A,B,C,D,rfl,hbl,p0,p1,p2,p3,p4,Ha⟩:=hl.out.shape HB1.out.drew k hlt;have HI:Hid (∀ w':World,bI w' (.slice Ka (nK t) Kc) (jZ t)->Calls Tryz.prog 159 #[.slice Ka (nK t) Kc,.string ⟨#[95,105,100]⟩] w' fun e w2=>e=.returned (.int .i64 (k:Int))/\w2=w'):=fun w' hs=>(pJ _ _ idS w' hs).mono fun e w2 hh=>⟨by rw [hh.1];show Ending.returned (.int .i64 (Gu (idP t)))=_;rw [hk];rfl,hh.2⟩;have hl1:=hf.l1;clear h hf hl hkk hk;go_in;go_wp2_with fail;go_region_law (go_simp;go_wp2_with (go_at_call 159;refine (HI.out _ HS.out).mono ?_;rintro e w2 ⟨rfl,rfl⟩))
 all_goals
  go_wp2_with fail;refine bodyPost_ret (v:=.agg #[.int .i64 (aj (elt t k)),.int .i64 (av (elt t k)),.string (ay (elt t k)),.slice A (nL (elt t k)) B,.slice C (nK (elt t k)) D]) (by simp [results,Tryz.results119,go_sem, *]) rfl ?_;have hb:Below w.heap.size w (((w.alloc (.cells #[.int .i64 (aj t),.int .i64 (av t),.string (ay t),.slice (some ⟨bb,oo,none⟩) (nL t) Lc,.slice Ka (nK t) Kc] 25)).alloc (.cells #[.int .i64 (aj (elt t k)),.int .i64 (av (elt t k)),.string (ay (elt t k)),.slice A (nL (elt t k)) B,.slice C (nK (elt t k)) D] 25)).drew):=(((Below.refl _ _).alloc (Nat.le_refl _) _).alloc (by simp) _).drew;exact ⟨hb,g,A,B,C,D,rfl,rfl,Ha.out.keep hb⟩
theorem NM (a b c d e:Value) (w:World):(Instr.field 25 (.agg #[a,b,c,d,e]) 0).run Tryz.prog w=.ok a w:=by kernel_rfl
def lg (t:T):Bool:=aj t==6&&match idP t with
 | some k=>aj (elt t k)==3 || aj (elt t k)==4
 | none=>false
theorem Sr (f:Nat) (v:Value) (t:T) (w:World) (h:At w f v t) (hok:bM t) :
  Calls Tryz.prog 116 #[v] w fun e w'=>e=.returned (.bool (lg t))/\Below w.heap.size w w':=by
 have HA:=ak h;obtain ⟨g,La,Ka,Lc,Kc,rfl,rfl,hf,hl,hkk⟩:=h.open;have HB1:Hid (Below w.heap.size w (w.alloc (.cells #[.int .i64 (aj t),.int .i64 (av t),.string (ay t),.slice La (nL t) Lc,.slice Ka (nK t) Kc] 25))):=(Below.refl _ _).alloc (Nat.le_refl _) _;have HS:=ak ((kI (Kc:=Kc) hkk.out hf.m1).keep HB1.out);have HI:=ak (wW _ _ ⟨#[95,105,100]⟩ _ HS.out);have HOk:=ak hok;clear h hf hl hkk hok;by_cases k6:aj t=6
 ·have e6:(aj t==6)=true:=by simpa using k6
  cases hi:idP t with
  | none =>
   have HR:Hid (lg t=false):=by show _=_;unfold lg;rw [hi];simp
   have e:(jN ⟨#[95,105,100]⟩ (jZ t)).isSome=false:=by rw [show jN ⟨#[95,105,100]⟩ (jZ t)=none from hi];rfl
   rw [e] at HI;rw [k6] at HI HB1 ⊢;clear e hi k6 e6 HOk HA HS;go_in;go_wp2_with fail;refine HI.out.mono ?_;rintro e w2 ⟨rfl,rfl⟩;go_wp2_with fail;go_ret;exact ⟨aB (by rw [HR.out]),HB1.out⟩
  | some k =>
   have hkl:k<(jZ t).length:=tY hi;have hlt:k<nL t:=by have:=HOk.out.names k6;unfold nK at this;omega
   have HR:Hid (lg t=(aj (elt t k)==3 || aj (elt t k)==4)):=by show _=_;unfold lg;rw [hi,e6];rfl
   have e:(jN ⟨#[95,105,100]⟩ (jZ t)).isSome=true:=by rw [show jN ⟨#[95,105,100]⟩ (jZ t)=some k from hi];rfl
   rw [e] at HI;have HO:=ak (Cg _ _ t k _ (HA.out.keep HB1.out) hi hlt);rw [k6] at HI HB1 HO ⊢;clear e hi k6 e6 HOk hkl hlt HA HS;have HKo:Hid (aj (elt t k)=3\/aj (elt t k)≠3):=by by_cases h:aj (elt t k)=3<;>simp [Hid,h]
   go_in;go_wp2_with fail;refine HI.out.mono ?_;rintro e w2 ⟨rfl,rfl⟩;go_wp2_with fail;refine HO.out.mono ?_;rintro e w2 ⟨b2,g',A,B,C,D,hg,rfl,ha⟩;have HB2:=ak (HB1.out.trans (b2.mono HB1.out.size));clear b2 ha hg HO;have hfd:=NM;rcases HKo.out with h3 | h3
   ·have e3:(aj (elt t k)==3)=true:=by simpa using h3
    have HR2:Hid (lg t=true):=by show _=_;rw [HR.out,e3];rfl
    clear h3 HKo;go_wp2_with fail;go_ret;exact ⟨aB (by rw [HR2.out]),HB2.out⟩
   ·have e3:(aj (elt t k)==3)=false:=by simpa using h3
    have HR2:Hid (lg t=(aj (elt t k)==4)):=by show _=_;rw [HR.out,e3];rfl
    clear h3 HKo;go_wp2_with fail;go_ret;exact ⟨aB (by rw [HR2.out]),HB2.out⟩
 ·have e6:(aj t==6)=false:=by simpa using k6
  have HR:Hid (lg t=false):=by show _=_;unfold lg;rw [e6];rfl
  have n6:(aj t != 6)=true:=by simpa using k6
  clear k6 HOk e6;go_in;go_wp2_with fail;go_ret;exact ⟨aB (by rw [HR.out]),HB1.out⟩
def bR (t:T):Bool:=!Di t || decide (1000<(Sq (Di t) (eT 12 t)).size)
theorem Ch {Tb:World->Prop} (hV:bF Tb) (hL:aV Tb) (f:Nat) (v:Value) (t:T) (w:World) (h:At w f v t) (hT:Tb w) :
  Calls Tryz.prog 117 #[v] w fun e w'=>e=.returned (.bool (bR t))/\Below w.heap.size w w':=by
 have HA:=ak h;obtain ⟨g,La,Ka,Lc,Kc,rfl,rfl,hf,hl,hkk⟩:=h.open;have HB1:Hid (Below w.heap.size w (w.alloc (.cells #[.int .i64 (aj t),.int .i64 (av t),.string (ay t),.slice La (nL t) Lc,.slice Ka (nK t) Kc] 25))):=(Below.refl _ _).alloc (Nat.le_refl _) _;have HE:=ak (KF hV hL _ _ t _ (HA.out.keep HB1.out) (hL w hT _ _ hT HB1.out));clear h hf hl hkk hT hL hV HA;cases hv:Di t with
 | true =>
  rw [hv] at HE;have HR:Hid (bR t=decide ((1000:Int)<((Sq true (eT 12 t)).size:Int))):=by show _=_;unfold bR;rw [hv];simp;omega
  clear hv;have e0:ab4 true=0:=rfl;rw [e0] at HE;clear e0;generalize Sq true (eT 12 t)=bs at HE HR;go_in;go_wp2_with fail;refine HE.out.mono ?_;rintro e w2 ⟨rfl,b2⟩;have HB2:=ak (HB1.out.trans (b2.mono HB1.out.size));clear b2 HE;go_wp2_with fail;go_ret;exact ⟨aB (by rw [HR.out]),HB2.out⟩
 | false =>
  rw [hv] at HE;have HR:Hid (bR t=true):=by show _=_;unfold bR;rw [hv];simp
  clear hv;have e0:ab4 false=5:=rfl;rw [e0] at HE;clear e0;generalize Sq false (eT 12 t)=bs at HE;go_in;go_wp2_with fail;refine HE.out.mono ?_;rintro e w2 ⟨rfl,b2⟩;have HB2:=ak (HB1.out.trans (b2.mono HB1.out.size));clear b2 HE;go_wp2_with fail;go_ret;exact ⟨aB (by rw [HR.out]),HB2.out⟩
end Go.Proofs.YtknakfpciccoaaaGreatDoor
