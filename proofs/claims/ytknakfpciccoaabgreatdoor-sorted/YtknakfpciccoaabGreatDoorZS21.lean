import Derived.Test.YtknakfpciccoaabGreatDoorZS18
import Derived.Test.YtknakfpciccoaabGreatDoorZS1
import Derived.Deep.LoopGhost
import Derived.Laws.IdiomStrings
import Derived.BigQuiet
import Derived.Test.YtknakfpciccoaabGreatDoorZS3
import Derived.Laws.CopyOwn
/- The walk of appendNumber. -/
namespace Go.Proofs.YtknakfpciccoaabGreatDoor
open Go.RowKit
set_option maxHeartbeats 4000000 in
set_option maxRecDepth 100000 in
theorem appNum_any (w0:World) (r:Value) (acc:List UInt8) (n:Int) (m:Nat) (w:World) (hr:w.ownsRow w0.heap.size 5 1 r acc.length (bytesV acc)) (hb:w0.heap.size≤w.heap.size) (_hn0:0≤n) (_hn1:n<18446744073709551616) (hm:m≤8) (hl:acc.length≤1000000000) :
  Calls Tryz.prog 145 #[r,.int .u64 n,.int .i64 m] w fun e w'=>∃ r',e=.returned r'∧QG w0 r w r' (acc++beL n m) w':=by
 obtain ⟨iB,hiB,zB0,zB1,zB2⟩:=info_parts infoBE
 have HR:=hid (QG.refl hr)
 clear hr
 go_enter Tryz.func145,Tryz.ntmps145
 go_wp2_with fail
 go_loopg [0,7] m (fun g o i wr=>∃ (j:Nat) (a:List UInt8),g=j∧j≤m∧i=.int .i64 ((j:Int) - 1)∧a.length≤1000000008 - j∧Hid (a++beL n j=acc++beL n m)∧Hid (QG w0 r w o a wr))
 case atStart=>exact ⟨m,acc,rfl,Nat.le_refl _,by go_num,by omega,rfl,HR⟩
 case round =>
  obtain ⟨_,a,rfl,hj,rfl,hla,HE,HQ⟩:=hrel
  cases gk with
  | zero =>
   have e1:((0:Nat):Int) - 1=-1:=by omega
   rw [e1]
   have HA:Hid (a=acc++beL n m):=by have:=HE.out;show _=_;simpa [beL] using this
   go_wp2_with fail
   go_ret
   exact ⟨_,rfl,HQ.out.acc HA.out⟩
  | succ i =>
   have e1:((i+1:Nat):Int) - 1=(i:Int):=by omega
   rw [e1]
   obtain ⟨q,hq⟩:∃ q:Nat,q=8*i:=⟨_,rfl⟩
   have f1:IntKind.i64.wrap (8*(i:Int))=(q:Int):=by rw [IntKind.wrap_i64];omega
   have f2:q≤56:=by omega
   have f3:((byAt n i).toNat:Int)=n / 2 ^ q % 256:=by rw [byAt_toNat,hq,Int.pow_mul];rfl
   have f4:IntKind.u8.wrap (n / 2 ^ q)=((byAt n i).toNat:Int):=by rw [IntKind.wrap_u8];omega
   have Hq:=hid hq
   clear hq f3
   have hbw:w0.heap.size≤wr.heap.size:=Nat.le_trans hb HQ.out.grown.size
   have HB1:Hid (Below wr.heap.size wr (wr.alloc (.cells #[.int .u8 ((byAt n i).toNat:Int)] 5))):=(Below.refl _ _).alloc (Nat.le_refl _) _
   have HI1:=hid (HQ.out.keep HB1.out)
   have HSb:Hid (Src Tryz.prog 1 98 (.slice (some ⟨wr.heap.size,0,none⟩) 1 1) 1 (bytesV [byAt n i]) (wr.alloc (.cells #[.int .u8 ((byAt n i).toNat:Int)] 5))):=hid (srcE_built wr [byAt n i])
   go_wp2_with (at_builtin;refine wpList_append_src _ rfl (.tmp 14) (.tmp 20) 98 98 rfl w0.heap.size 5 iB _ 1 1 Tryz.underlying98 hiB zB0 zB1 zB2 rfl u0 a.length (bytesV a) rfl HI1.out.row (.slice (some ⟨wr.heap.size,0,none⟩) 1 1) 1 (bytesV [byAt n i]) rfl HSb.out (by unfold maxLen;omega) (by omega) (Nat.le_trans hbw HB1.out.size) ?_;intro v' w6 hO6 hG6 hat6)
   have H6:=hid (HI1.out.grow (l:=[byAt n i]) hO6 hG6 hat6)
   clear hO6 hG6 hat6 HI1 HSb HB1
   have HE2:Hid ((a++[byAt n i])++beL n i=acc++beL n m):=by have:=HE.out;show _=_;rw [← this];simp [beL]
   go_wp2_with fail
   go_roundg i
   case rel=>exact ⟨i,a++[byAt n i],rfl,by omega,by go_num,by simp only [List.length_append,List.length_cons,List.length_nil];omega,HE2,H6⟩
   case measure=>omega
end Go.Proofs.YtknakfpciccoaabGreatDoor
/- The walk of appendValue, of leaves. -/
namespace Go.Proofs.YtknakfpciccoaabGreatDoor
open Go.RowKit
theorem QG.from {w0 w w1:World} {o:Obj} {r r1:Value} {a a1:List UInt8} (hr:w.ownsRow w0.heap.size 5 1 r a.length (bytesV a)) (h:QG w0 r (w.alloc o) r1 a1 w1):QG w0 r w r1 a1 w1 :=
 ((QG.refl hr).keep ((Below.refl _ _).alloc (Nat.le_refl _) o)).trans h
theorem QG.here {w0 w:World} {o:Obj} {r:Value} {a:List UInt8} (hr:w.ownsRow w0.heap.size 5 1 r a.length (bytesV a)):QG w0 r (w.alloc o) r a (w.alloc o) :=
 QG.refl ((QG.refl hr).keep ((Below.refl _ _).alloc (Nat.le_refl _) o)).row
theorem wrapB (n:Int):IntKind.u8.wrap n=((byAt n 0).toNat:Int):=by rw [IntKind.wrap_u8,byAt_toNat];simp
theorem wrapU_nonneg (n:Int):0≤n % 18446744073709551616∧n % 18446744073709551616<18446744073709551616:=⟨Int.emod_nonneg _ (by omega),Int.emod_lt_of_pos _ (by omega)⟩
def AvSaid (w0:World) (m:Nat):Prop:=∀ (f:Nat) (v:Value) (t:T) (acc:List UInt8) (r:Value) (w:World),At w0 f v t→Good m t→Below w0.heap.size w0 w→w.ownsRow w0.heap.size 5 1 r acc.length (bytesV acc)→acc.length+(encT m t).length≤100000000 →
  Calls Tryz.prog 118 #[r,v] w fun e w'=>∃ r',e=.returned r'∧QG w0 r w r' (acc++encT m t) w'
set_option maxHeartbeats 4000000 in
set_option maxRecDepth 100000 in
theorem appVal_leaf (w0:World) (t:T) (hg:leafGood t) (ht:Fits t) (acc:List UInt8) (r:Value) (w:World) (La Ka:Option Addr) (Lc Kc:Nat) (hb:w0.heap.size≤w.heap.size) (hr:w.ownsRow w0.heap.size 5 1 r acc.length (bytesV acc)) (hl:acc.length+(leafE t).length≤100000000) :
  Calls Tryz.prog 118 #[r,.agg #[.int .i64 (kindOf t),.int .i64 (nOf t),.string (sOf t),.slice La (nL t) Lc,.slice Ka (nK t) Kc]] w fun e w'=>∃ r',e=.returned r'∧QG w0 r w r' (acc++leafE t) w':=by
 obtain ⟨iB,hiB,zB0,zB1,zB2⟩:=info_parts infoBE
 have HR:=hid hr
 have HFt:=hid ht
 have hl1:acc.length≤100000000:=by omega
 have Hl:=hid hl
 clear hr ht hl
 have fk:IntKind.u8.wrap (kindOf t)=((kindB t).toNat:Int):=wrapB _
 have H0:Hid (QG w0 r (w.alloc (.cells #[.int .i64 (kindOf t),.int .i64 (nOf t),.string (sOf t),.slice La (nL t) Lc,.slice Ka (nK t) Kc] 36)) r acc (w.alloc (.cells #[.int .i64 (kindOf t),.int .i64 (nOf t),.string (sOf t),.slice La (nL t) Lc,.slice Ka (nK t) Kc] 36))):=QG.here HR.out
 have HB1:Hid (Below (w.heap.size+1) (w.alloc (.cells #[.int .i64 (kindOf t),.int .i64 (nOf t),.string (sOf t),.slice La (nL t) Lc,.slice Ka (nK t) Kc] 36)) ((w.alloc (.cells #[.int .i64 (kindOf t),.int .i64 (nOf t),.string (sOf t),.slice La (nL t) Lc,.slice Ka (nK t) Kc] 36)).alloc (.cells #[.int .u8 ((kindB t).toNat:Int)] 5))):=(Below.refl _ _).alloc (by simp) _
 have HI1:=hid (H0.out.keep (HB1.out.mono (by simp)))
 have HSb:Hid (Src Tryz.prog 1 98 (.slice (some ⟨w.heap.size+1,0,none⟩) 1 1) 1 (bytesV [kindB t]) ((w.alloc (.cells #[.int .i64 (kindOf t),.int .i64 (nOf t),.string (sOf t),.slice La (nL t) Lc,.slice Ka (nK t) Kc] 36)).alloc (.cells #[.int .u8 ((kindB t).toNat:Int)] 5))):=by
  have:=srcE_built (w.alloc (.cells #[.int .i64 (kindOf t),.int .i64 (nOf t),.string (sOf t),.slice La (nL t) Lc,.slice Ka (nK t) Kc] 36)) [kindB t]
  apply hid
  simpa [bytesV] using this
 have hbz:w0.heap.size≤((w.alloc (.cells #[.int .i64 (kindOf t),.int .i64 (nOf t),.string (sOf t),.slice La (nL t) Lc,.slice Ka (nK t) Kc] 36)).alloc (.cells #[.int .u8 ((kindB t).toNat:Int)] 5)).heap.size:=by simp;omega
 obtain ⟨g1,g2,hg⟩:=hg
 clear g1 g2
 rcases hg with ⟨hk,g3⟩ | ⟨hk,hn,g3⟩ | ⟨hk,g3⟩ | ⟨hk,g3,hsz,g4⟩
 all_goals clear g3
 ·skip
  have e2:(kindOf t==2)=false:=by rw [hk];rfl
  have e3:(kindOf t==3)=false:=by rw [hk];rfl
  have e4:(kindOf t==4)=false:=by rw [hk];rfl
  have e5:(kindOf t==5)=false:=by rw [hk];rfl
  have e6:(kindOf t==6)=false:=by rw [hk];rfl
  have HW:Hid (leafE t=[kindB t]):=by show _=_;unfold leafE;rw [if_neg (by omega),if_neg (by omega),if_neg (by omega)]
  clear hk
  go_enter Tryz.func118,Tryz.ntmps118
  go_wp2_with (at_builtin;refine wpList_append_src _ rfl (.tmp 5) (.tmp 9) 98 98 rfl w0.heap.size 5 iB _ 1 1 Tryz.underlying98 hiB zB0 zB1 zB2 rfl r acc.length (bytesV acc) rfl HI1.out.row (.slice (some ⟨w.heap.size+1,0,none⟩) 1 1) 1 (bytesV [kindB t]) rfl HSb.out (by unfold maxLen;omega) (by omega) hbz ?_;intro r1 w1 hO1 hG1 hat1;have HQ1:=hid (HI1.out.grow (l:=[kindB t]) hO1 hG1 hat1);clear hO1 hG1 hat1 HI1 HSb HB1 H0 hbz;obtain ⟨q0,q1,q2,q3,q4,hz⟩:=QG.box HR.out HQ1.out;have hb1:w0.heap.size≤w1.heap.size:=by omega)
  go_ret
  exact ⟨_,rfl,by rw [HW.out];exact HQ1.out.from HR.out⟩
 ·skip
  have e2:(kindOf t==2)=true:=by rw [hk];rfl
  have HW:Hid (leafE t=[kindB t]++[byAt (nOf t) 0]):=by show _=_;unfold leafE;rw [if_pos hk];rfl
  have fn:IntKind.u8.wrap (nOf t)=((byAt (nOf t) 0).toNat:Int):=wrapB _
  have HSc:=hid (fun w:World=>srcE_built w [byAt (nOf t) 0])
  generalize hc:byAt (nOf t) 0=c at fn HSc
  have Hc:=hid hc
  clear hk hn hc
  go_enter Tryz.func118,Tryz.ntmps118
  go_wp2_with (first | (at_builtin;refine wpList_append_src _ rfl (.tmp 5) (.tmp 9) 98 98 rfl w0.heap.size 5 iB _ 1 1 Tryz.underlying98 hiB zB0 zB1 zB2 rfl r acc.length (bytesV acc) rfl HI1.out.row (.slice (some ⟨w.heap.size+1,0,none⟩) 1 1) 1 (bytesV [kindB t]) rfl HSb.out (by unfold maxLen;omega) (by omega) hbz ?_;intro r1 w1 hO1 hG1 hat1;have HQ1:=hid (HI1.out.grow (l:=[kindB t]) hO1 hG1 hat1);clear hO1 hG1 hat1 HI1 HSb HB1 H0 hbz;obtain ⟨q0,q1,q2,q3,q4,hz⟩:=QG.box HR.out HQ1.out;have hb1:w0.heap.size≤w1.heap.size:=by omega) | (at_builtin;refine wpList_append_src _ rfl (.tmp 15) (.tmp 19) 98 98 rfl w0.heap.size 5 iB _ 1 1 Tryz.underlying98 hiB zB0 zB1 zB2 rfl r1 (acc++[kindB t]).length (bytesV (acc++[kindB t])) rfl (HQ1.out.keep ((Below.refl _ _).alloc (Nat.le_refl _) (.cells #[.int .u8 (c.toNat:Int)] 5))).row (.slice (some ⟨w1.heap.size,0,none⟩) 1 1) 1 (bytesV [c]) rfl (HSc.out w1) (by simp only [List.length_append,List.length_cons,List.length_nil];unfold maxLen;omega) (by simp only [List.length_append,List.length_cons,List.length_nil];omega) (by simp;omega) ?_;intro r2 w2 hO2 hG2 hat2;have HQ2:=hid ((HQ1.out.keep ((Below.refl _ _).alloc (Nat.le_refl _) (.cells #[.int .u8 (c.toNat:Int)] 5))).grow (l:=[c]) hO2 hG2 hat2);clear hO2 hG2 hat2))
  go_ret
  exact ⟨_,rfl,by rw [HW.out,Hc.out,← List.append_assoc];exact HQ2.out.from HR.out⟩
 ·skip
  have e2:(kindOf t==2)=false:=by rw [hk];rfl
  have e3:(kindOf t==3)=true:=by rw [hk];rfl
  have HW:Hid (leafE t=[kindB t]++beL (nOf t) 8):=by show _=_;unfold leafE;rw [if_neg (by omega),if_pos hk];rfl
  obtain ⟨N,hN⟩:∃ N:Int,N=nOf t % 18446744073709551616:=⟨_,rfl⟩
  have fn:IntKind.u64.wrap (nOf t)=N:=by rw [hN,IntKind.wrap_u64]
  have HN:Hid (beL N 8=beL (nOf t) 8):=by show _=_;rw [hN];exact beL_wrap _ 8 (by omega)
  have HN2:=hid (hN ▸ wrapU_nonneg (nOf t))
  clear hk hN
  go_enter Tryz.func118,Tryz.ntmps118
  go_wp2_with (at_builtin;refine wpList_append_src _ rfl (.tmp 5) (.tmp 9) 98 98 rfl w0.heap.size 5 iB _ 1 1 Tryz.underlying98 hiB zB0 zB1 zB2 rfl r acc.length (bytesV acc) rfl HI1.out.row (.slice (some ⟨w.heap.size+1,0,none⟩) 1 1) 1 (bytesV [kindB t]) rfl HSb.out (by unfold maxLen;omega) (by omega) hbz ?_;intro r1 w1 hO1 hG1 hat1;have HQ1:=hid (HI1.out.grow (l:=[kindB t]) hO1 hG1 hat1);clear hO1 hG1 hat1 HI1 HSb HB1 H0 hbz;obtain ⟨q0,q1,q2,q3,q4,hz⟩:=QG.box HR.out HQ1.out;have hb1:w0.heap.size≤w1.heap.size:=by omega)
  rw [show (Value.int .i64 8)=.int .i64 ((8:Nat):Int) from rfl]
  refine (appNum_any w0 r1 (acc++[kindB t]) N 8 w1 HQ1.out.row hb1 HN2.out.1 HN2.out.2 (by omega) (by simp only [List.length_append,List.length_cons,List.length_nil];omega)).mono ?_
  rintro e w2 ⟨r2,rfl,hq2⟩
  have HQ2:=hid (HQ1.out.trans hq2)
  clear hq2
  go_wp2_with fail
  go_ret
  exact ⟨_,rfl,by rw [HW.out,← HN.out,← List.append_assoc];exact HQ2.out.from HR.out⟩
 ·skip
  have e2:(kindOf t==2)=false:=by rw [hk];rfl
  have e3:(kindOf t==3)=false:=by rw [hk];rfl
  have e4:(kindOf t==4)=true:=by rw [hk];rfl
  have HW:Hid (leafE t=[kindB t]++beL (sOf t).size 4++(sOf t).data.toList):=by show _=_;unfold leafE;rw [if_neg (by omega),if_neg (by omega),if_pos hk];simp
  generalize sOf t=s at *
  clear hk
  go_enter Tryz.func118,Tryz.ntmps118
  go_wp2_with (at_builtin;refine wpList_append_src _ rfl (.tmp 5) (.tmp 9) 98 98 rfl w0.heap.size 5 iB _ 1 1 Tryz.underlying98 hiB zB0 zB1 zB2 rfl r acc.length (bytesV acc) rfl HI1.out.row (.slice (some ⟨w.heap.size+1,0,none⟩) 1 1) 1 (bytesV [kindB t]) rfl HSb.out (by unfold maxLen;omega) (by omega) hbz ?_;intro r1 w1 hO1 hG1 hat1;have HQ1:=hid (HI1.out.grow (l:=[kindB t]) hO1 hG1 hat1);clear hO1 hG1 hat1 HI1 HSb HB1 H0 hbz;obtain ⟨q0,q1,q2,q3,q4,hz⟩:=QG.box HR.out HQ1.out;have hb1:w0.heap.size≤w1.heap.size:=by omega)
  have fz:IntKind.u64.wrap (s.size:Int)=(s.size:Int):=by rw [IntKind.wrap_u64];omega
  have HQd:=hid (HQ1.out.keep (below_drew w1))
  have hbd:w0.heap.size≤w1.drew.heap.size:=by simpa using hb1
  have hl2:(acc++[kindB t]).length≤100000001:=by simp only [List.length_append,List.length_cons,List.length_nil];omega
  have HC:=hid (appNum_any w0 r1 (acc++[kindB t]) (s.size:Int) 4 w1.drew HQd.out.row hbd (by omega) (by omega) (by omega) (by omega))
  have hl3:((acc++[kindB t])++beL (s.size:Int) 4).length≤100000005:=by rw [List.length_append,beL_len];omega
  generalize hA:(acc++[kindB t])++beL (s.size:Int) 4=acc2 at HC hl3
  have HA:=hid hA
  clear hA hl2 g4
  go_region_law (first | (refine step_append_src _ (by rfl) (.tmp 35) (.tmp 37) 98 9 (by rfl) w0.heap.size 5 iB _ 1 1 Tryz.underlying98 hiB zB0 zB1 zB2 rfl r2 acc2.length (bytesV acc2) (by rfl) HQ2.out.row (.string s) s.size (bytesV s.data.toList) (by rfl) (src_bytes _ Tryz.underlying9 s) (by unfold maxLen;omega) (by omega) hb2 ?_;intro r3 w3 hO3 hG3 hat3) | (go_simp;go_wp2_with (go_at_call 145;refine HC.out.mono ?_;rintro e w2 ⟨r2,rfl,hq2⟩;have HQ2:=hid (HQd.out.trans hq2);obtain ⟨p0,p1,p2,p3,p4,hz2⟩:=QG.box HR.out HQ2.out;have hb2:w0.heap.size≤w2.heap.size:=by omega)))
  all_goals
   have HQ3:=hid (HQ2.out.grow (l:=s.data.toList) hO3 hG3 hat3)
   clear hO3 hG3 hat3 hq2 HQ2
   go_wp2_with fail
   go_ret
   exact ⟨_,rfl,by rw [HW.out,← List.append_assoc,← List.append_assoc,HA.out];exact HQ3.out.from HR.out⟩
end Go.Proofs.YtknakfpciccoaabGreatDoor
/- The walk of appendEntries: laws, and the loop. -/
namespace Go.Proofs.YtknakfpciccoaabGreatDoor
open Go.RowKit
theorem step_copy_row {P:Program} {ops:Array Oper} {o:Oper} {a:Act} {w:World} {K:Act→World→Prop} {Q:Exit→Act→World→Prop} {E:Prop} (hgd:o.guard=none) (d s:Operand) (dT sT:TypeId)
  (ho:o.op=.call { callee:=.builtin .copy,args:=#[d,s],argTypes:=#[dT,sT] }) (elem:TypeId) (hu:P.underlying dT=some (.slice elem)) (hsz:(P.info? elem).map (·.size)=some 1)
  (g off dLen dCap:Nat) (ad:Addr) (sLen sCap:Nat) (hd:a.eval d=.slice (some ⟨g,off,none⟩) dLen dCap) (hs:a.eval s=.slice (some ad) sLen sCap)
  (cur:Array Value) (t:TypeId) (hg:w.heap[g]?=some (.cells cur t (0,0))) (cs:List Value) (hn:cs.length=Nat.min sLen dLen)
  (hsrc:∀ j v,cs[j]?=some v→w.cell? (ad.add j)=some v) (hfit:off+cs.length≤cur.size) (h1:∀ v ∈ cs,v.oneCell'=true) (w':World) (hw':w'=w.setRow g (cur.toList.take off++(cs++cur.toList.drop (off+cs.length))).toArray)
  (h:K (a.put o.dst (goInt cs.length)) w') :
  if Region.wanted o (yielded ops a.tmps)=true then Oper.wp P o a w K Q else E:=by
 subst hw'
 have hw:Region.wanted o (yielded ops a.tmps)=true:=by simp [Region.wanted,hgd]
 rw [if_pos hw]
 have hrun:=run_copy_row (P:=P) w dT sT o.type elem g off dLen dCap ad sLen sCap cur t cs hu hsz hg hn hsrc hfit h1
 unfold Oper.wp
 simp [execOp,ho,resolve,invoke,builtin,hd,hs,hrun,Result.andThen]
 exact h
theorem take_splice {α:Type} (xs rest cs:List α) (off:Nat) (h:off+cs.length≤xs.length):((xs++rest).take off++(cs++(xs++rest).drop (off+cs.length))).take xs.length=xs.take off++(cs++xs.drop (off+cs.length)):=by
 have e1:(xs++rest).take off=xs.take off:=List.take_append_of_le_length (by omega)
 have e2:(xs++rest).drop (off+cs.length)=xs.drop (off+cs.length)++rest:=List.drop_append_of_le_length h
 rw [e1,e2]
 have e:xs.take off++(cs++(xs.drop (off+cs.length)++rest))=(xs.take off++(cs++xs.drop (off+cs.length)))++rest:=by simp
 rw [e]
 have hl:(xs.take off++(cs++xs.drop (off+cs.length))).length=xs.length:=by simp;omega
 rw [← hl]
 exact List.take_left
theorem QG.copy {w0 w w1:World} {r:Value} {g cap n:Nat} {all cs out:List UInt8} {off:Nat} (hn:n=all.length) (h:QG w0 r w (.slice (some ⟨g,0,none⟩) n cap) all w1) (hfit:off+cs.length≤all.length) (ho:out=all.take off++(cs++all.drop (off+cs.length))) :
  ∃ cur,w1.heap[g]?=some (.cells cur 5 (0,0))∧off+(bytesV cs).length≤cur.size∧n≤cap∧QG w0 r w (.slice (some ⟨g,0,none⟩) n cap) out (w1.setRow g (cur.toList.take off++(bytesV cs++cur.toList.drop (off+(bytesV cs).length))).toArray):=by
 subst ho
 have hl:(all.take off++(cs++all.drop (off+cs.length))).length=all.length:=by simp;omega
 obtain ⟨hx,⟨h1,_⟩ | ⟨g',cap',cur,he,hb0,hg,hnc,hcm,hcs,ht⟩⟩:=h.row
 ·cases h1
 simp only [Value.slice.injEq,Option.some.injEq,Addr.mk.injEq] at he
 obtain ⟨⟨rfl,_⟩,_,rfl⟩:=he
 rw [Nat.mul_one] at ht hcs
 have hc:cur.toList=bytesV all++cur.toList.drop all.length:=by conv=>lhs;rw [← List.take_append_drop all.length cur.toList,ht]
 have hbl:=bytesV_length cs
 have hba:=bytesV_length all
 refine ⟨cur,hg,by omega,by omega,⟨?_,⟨h.grown.os,h.grown.tape,h.grown.output,by simpa using h.grown.size,fun k hk hne=>?_⟩,h.own⟩⟩
 ·rw [hl]
  refine ⟨by rw [bytesV_length,hl,Nat.mul_one],.inr ⟨g,cap,_,by rw [hn],hb0,setRow_heap w1 g cur _ _ _ hg,hnc,hcm,?_,?_⟩⟩
  ·simp only [List.size_toArray,List.length_append,List.length_take,List.length_drop,Array.length_toList]
   omega
  ·rw [Nat.mul_one]
   show List.take all.length (_:Array Value).toList=_
   have:=take_splice (bytesV all) (cur.toList.drop all.length) (bytesV cs) off (by omega)
   rw [← hc,hba] at this
   simp only [bytesV_append]
   refine (by simpa using this:_=_).trans ?_
   simp [bytesV,List.map_take,List.map_drop]
 ·rw [setRow_other w1 g k _ (fun e=>?_),h.grown.block k hk hne]
  subst e
  rcases h.own with h1 | ⟨b,h1,h2⟩
  ·exact hne h1
  ·simp only [Value.ownBlock,Option.some.injEq] at h1
   omega
theorem rowE_shape {w:World} {lo:Nat} {e:TypeId} {size n:Nat} {v:Value} {xs:List Value} (h:w.ownsRow lo e size v n xs) (h0:0<n):∃ g cap,v=.slice (some ⟨g,0,none⟩) n cap∧n≤cap∧cap≤maxLen:=by
 rcases h.2 with ⟨rfl,rfl⟩ | ⟨g,cap,cur,rfl,hlo,hg,hnc,hm,_⟩
 ·omega
 ·exact ⟨g,cap,rfl,hnc,hm⟩
theorem rowE_shape0 {w:World} {lo:Nat} {e:TypeId} {size n:Nat} {v:Value} {xs:List Value} (h:w.ownsRow lo e size v n xs):∃ A cap,v=.slice A n cap:=by
 rcases h.2 with ⟨rfl,rfl⟩ | ⟨g,cap,cur,rfl,hlo,hg,hnc,hm,_⟩
 ·exact ⟨none,0,rfl⟩
 ·exact ⟨_,cap,rfl⟩
theorem QG.beside {w0 w w1 w2:World} {r r1 r2:Value} {a1 a2:List UInt8} (h:QG w0 r w r1 a1 w1) (k:QG w0 (.slice none 0 0) w1 r2 a2 w2):QG w0 r w r1 a1 w2 :=
 h.keep ⟨k.grown.os,k.grown.tape,k.grown.output,k.grown.size,fun b hb=>k.grown.block b hb (by simp [Value.ownBlock])⟩
end Go.Proofs.YtknakfpciccoaabGreatDoor
/- The walk of appendEntries. -/
namespace Go.Proofs.YtknakfpciccoaabGreatDoor
open Go.RowKit
theorem splice_mid (a z b c:List UInt8) (h:z.length=4):(a++z++c).take a.length++(b++(a++z++c).drop (a.length+4))=a++(b++c):=by
 have e1:(a++z++c).take a.length=a:=by rw [List.append_assoc];exact List.take_left
 have e2:(a++z++c).drop (a.length+4)=c:=by rw [← h,← List.length_append];exact List.drop_left
 rw [e1,e2]
theorem rowE_src {w:World} {lo:Nat} {l:List UInt8} {v:Value} {n g cap:Nat} (h:w.ownsRow lo 5 1 v n (bytesV ([]++l))) (hv:v=.slice (some ⟨g,0,none⟩) n cap):∀ j u,(bytesV l)[j]?=some u→w.cell? ((⟨g,0,none⟩:Addr).add j)=some u:=by
 subst hv
 exact h.cells (g:=g) rfl
set_option maxHeartbeats 4000000 in
set_option maxRecDepth 100000 in
theorem appEnt_any (w0:World) (m:Nat) (ih:AvSaid w0 m) (f:Nat) (La Ka:Option Addr) (Lc Kc:Nat) (t:T) (acc:List UInt8) (r:Value) (w:World)
  (hl:ElemsAt w0 f La t) (hkn:NamesAt w0 Ka t) (hn:nL t≤1759218604442) (hnk:kindOf t=6→nK t=nL t) (hg:∀ i,i<nL t→Good m (elt t i)) (hb:Below w0.heap.size w0 w) (hr:w.ownsRow w0.heap.size 5 1 r acc.length (bytesV acc))
  (hlen:acc.length+(catB (encT m) t (nL t)).length+4≤100000000) :
  Calls Tryz.prog 146 #[r,.agg #[.int .i64 (kindOf t),.int .i64 (nOf t),.string (sOf t),.slice La (nL t) Lc,.slice Ka (nK t) Kc]] w fun e w'=>∃ r',e=.returned r'∧QG w0 r w r' (acc++(beL (catB (encT m) t (nL t)).length 4++catB (encT m) t (nL t))) w':=by
 obtain ⟨iB,hiB,zB0,zB1,zB2⟩:=info_parts infoBE
 have HR:=hid hr
 have H0:Hid (QG w0 r (w.alloc (.cells #[.int .i64 (kindOf t),.int .i64 (nOf t),.string (sOf t),.slice La (nL t) Lc,.slice Ka (nK t) Kc] 36)) r acc (w.alloc (.cells #[.int .i64 (kindOf t),.int .i64 (nOf t),.string (sOf t),.slice La (nL t) Lc,.slice Ka (nK t) Kc] 36))):=QG.here HR.out
 have HB1:Hid (Below w0.heap.size w0 (w.alloc (.cells #[.int .i64 (kindOf t),.int .i64 (nOf t),.string (sOf t),.slice La (nL t) Lc,.slice Ka (nK t) Kc] 36))):=hb.alloc hb.size _
 have HC0:=hid (appNum_any w0 r acc 0 4 _ H0.out.row HB1.out.size (by omega) (by omega) (by omega) (by omega))
 obtain ⟨A0,c0,hs0⟩:=rowE_shape0 hr
 have Hih:=hid ih
 have Hl:=hid hl
 have HK:=hid hkn
 have Hg:=hid hg
 have HNK:=hid hnk
 have hl0:acc.length≤100000000:=by omega
 obtain ⟨p,hp⟩:∃ p,p=acc.length:=⟨_,rfl⟩
 have HM:Hid (∀ k,k≤nL t→(catB (encT m) t k).length+p+4≤100000000):=hid (fun k hk=>by have:=catB_mono (encT m) t hk;omega)
 rw [← hp] at hs0 hl0
 have Hp:=hid hp
 have Hs0:=hid hs0
 clear hr ih hl hkn hg hb hlen hnk hp
 go_enter Tryz.func146,Tryz.ntmps146
 rw [hs0]
 clear hs0
 go_wp2_with fail
 rw [← Hs0.out]
 refine HC0.out.mono ?_
 rintro e w1 ⟨r1,rfl,hq1⟩
 obtain ⟨q0,q1,q2,q3,q4,hz⟩:=QG.box HR.out hq1
 obtain ⟨A1,c1,hs1⟩:=rowE_shape0 hq1.row
 rw [List.length_append,beL_len,← Hp.out] at hs1
 have Hs1:=hid hs1
 subst hs1
 have HQ1:=hid hq1
 clear hq1 HC0
 go_wp2_with fail
 clear q0 q1 q2 q3 q4 hz
 go_loopg [0,18] (nL t) (fun g o i wr=>∃ k:Nat,g=nL t - k∧k≤nL t∧i=.int .i64 k∧Hid (QG w0 r (w.alloc (.cells #[.int .i64 (kindOf t),.int .i64 (nOf t),.string (sOf t),.slice La (nL t) Lc,.slice Ka (nK t) Kc] 36)) o (acc++beL 0 4++catB (encT m) t k) wr))
 case atStart=>exact ⟨0,rfl,Nat.zero_le _,rfl,HQ1.out.acc (by simp [catB])⟩
 case round =>
  obtain ⟨k,rfl,hk,rfl,HQ⟩:=hrel
  obtain ⟨q0,q1,q2,q3,q4,hz⟩:=QG.box HR.out HQ.out
  have Hbr:=hid (HQ.out.below H0.out.row HB1.out)
  by_cases hlt:k<nL t
  ·obtain ⟨bb,oo,A,B,C,D,rfl,hbl,p0,p1,p2,p3,p4,Ha⟩:=Hl.out.shape Hbr.out k hlt
   have hm1:=HM.out (k+1) hlt
   have HG:=hid (Hg.out k hlt)
   have HBi:Hid (Below wr.heap.size wr (wr.alloc (.cells #[.int .i64 (kindOf (elt t k)),.int .i64 (nOf (elt t k)),.string (sOf (elt t k)),.slice A (nL (elt t k)) B,.slice C (nK (elt t k)) D] 36))):=(Below.refl _ _).alloc (Nat.le_refl _) _
   have HX:=hid (HQ.out.keep HBi.out)
   have Hb2:=hid (Hbr.out.trans (HBi.out.mono Hbr.out.size))
   by_cases k6:kindOf t=6
   ·have e6:(kindOf t==6)=true:=by simpa using k6
    have hltK:k<nK t:=by have:=HNK.out k6;omega
    have hn2:nK t≤1759218604442:=by have:=HNK.out k6;omega
    obtain ⟨kb,ko,rfl,hkb,hks,hkc⟩:=HK.out k hltK
    have HN:Hid (∀ wx,Below w0.heap.size w0 wx→wx.cell? ⟨kb,ko+k,none⟩=some (.string (nam t k))):=hid (fun wx hB=>(hB.cell (p:=⟨kb,ko+k,none⟩) hkb).trans hkc)
    have HJ:Hid (catB (encT m) t (k+1)=catB (encT m) t k++beL (nam t k).size 2++(nam t k).data.toList++encT m (elt t k)):=by show catB (encT m) t k++_=_;unfold nameE;rw [if_pos k6];simp
    rw [HJ.out] at hm1
    have hsz:(nam t k).data.toList.length=(nam t k).size:=rfl
    simp only [List.length_append,beL_len,hsz] at hm1
    have hkw:=HN.out _ Hb2.out
    clear k6 hkc hsz
    generalize nam t k=s at *
    have fz:IntKind.u64.wrap (s.size:Int)=(s.size:Int):=by rw [IntKind.wrap_u64];omega
    have hpl:p=acc.length:=Hp.out
    have hlK:(acc++beL 0 4++catB (encT m) t k).length=p+4+(catB (encT m) t k).length:=by rw [List.length_append,List.length_append,beL_len,hpl]
    clear hpl
    have HC:=hid (appNum_any w0 u0 (acc++beL 0 4++catB (encT m) t k) (s.size:Int) 2 _ HX.out.row Hb2.out.size (by omega) (by omega) (by omega) (by omega))
    generalize hL:acc++beL 0 4++catB (encT m) t k=accK at *
    have HL:=hid hL
    have HlK:=hid hlK
    clear hL hlK
    go_wp2_with fail
    refine HC.out.mono ?_
    rintro e w2 ⟨r2,rfl,hq2⟩
    have HQ2:=hid (HX.out.trans hq2)
    have HI2:=hid hq2
    have Hbw2:=hid (HQ2.out.below H0.out.row HB1.out)
    clear hq2 q0 q1 q2 q3 q4 hz HC hkw
    obtain ⟨q0,q1,q2,q3,q4,hz⟩:=QG.box HR.out HQ2.out
    have hkw:=HN.out _ Hbw2.out
    have hlen2:(accK++beL (s.size:Int) 2).length≤100000000:=by have:=HlK.out;rw [List.length_append,beL_len];omega
    generalize hL2:accK++beL (s.size:Int) 2=acc2 at *
    have HL2:=hid hL2
    clear hL2
    go_wp2_with (at_builtin;refine wpList_append_src _ rfl (.tmp 35) (.tmp 40) 98 9 rfl w0.heap.size 5 iB _ 1 1 Tryz.underlying98 hiB zB0 zB1 zB2 rfl r2 acc2.length (bytesV acc2) rfl HI2.out.row (.string s) s.size (bytesV s.data.toList) rfl (src_bytes _ Tryz.underlying9 s) (by unfold maxLen;omega) (by omega) Hbw2.out.size ?_;intro r3 w3 hO3 hG3 hat3;have HI3:=hid (HI2.out.grow (l:=s.data.toList) hO3 hG3 hat3);clear hO3 hG3 hat3;obtain ⟨j0,j1,j2,j3,j4,jz⟩:=QG.box HQ.out.row HI3.out)
    have HX3:=hid (HX.out.trans HI3.out)
    have hlen3:(acc2++s.data.toList).length+(encT m (elt t k)).length≤100000000:=by
     have h1:=HlK.out
     have h2:s.data.toList.length=s.size:=rfl
     rw [← HL2.out,List.length_append,List.length_append,beL_len,h2]
     omega
    refine (Hih.out f _ (elt t k) (acc2++s.data.toList) r3 w3 Ha.out HG.out (HX3.out.below H0.out.row HB1.out) HX3.out.row hlen3).mono ?_
    rintro e w4 ⟨r4,rfl,hq4⟩
    have HQ4:=hid (HX3.out.trans hq4)
    clear hq4 q0 q1 q2 q3 q4 hz j0 j1 j2 j3 j4 jz hkw
    go_wp2_with fail
    go_roundg (nL t - (k+1))
    case rel=>exact ⟨k+1,rfl,by omega,by go_num,HQ4.out.acc (by rw [HJ.out,← HL2.out,← HL.out];simp)⟩
    case measure=>omega
   ·have e6:(kindOf t==6)=false:=by simpa using k6
    have HJ:Hid (catB (encT m) t (k+1)=catB (encT m) t k++encT m (elt t k)):=by show catB (encT m) t k++_=_;unfold nameE;rw [if_neg k6];simp
    rw [HJ.out] at hm1
    clear k6
    go_wp2_with fail
    refine (Hih.out f _ (elt t k) _ u0 _ Ha.out HG.out Hb2.out HX.out.row (by rw [List.length_append] at hm1;rw [List.length_append,List.length_append,beL_len,← Hp.out];omega)).mono ?_
    rintro e w2 ⟨r2,rfl,hq2⟩
    have HQ2:=hid (HX.out.trans hq2)
    clear hq2 q0 q1 q2 q3 q4 hz
    go_wp2_with fail
    go_roundg (nL t - (k+1))
    case rel=>exact ⟨k+1,rfl,by omega,by go_num,HQ2.out.acc (by rw [HJ.out];simp)⟩
    case measure=>omega
  ·obtain rfl:k=nL t:=by omega
   have hm0:=HM.out (nL t) hk
   obtain ⟨L,hL⟩:∃ L,L=(catB (encT m) t (nL t)).length:=⟨_,rfl⟩
   have hlen:(acc++beL 0 4++catB (encT m) t (nL t)).length=p+4+L:=by rw [List.length_append,List.length_append,beL_len,← Hp.out,hL]
   obtain ⟨g,cap,hs,hcap,hcm⟩:=rowE_shape HQ.out.row (by omega)
   obtain ⟨n,hn3⟩:∃ n,n=p+4+L:=⟨_,rfl⟩
   rw [hlen,← hn3] at hs hcap
   rw [← hL] at hm0
   have f1:IntKind.i64.wrap ((n:Int) - ((p:Int)+4))=(L:Int):=by rw [IntKind.wrap_i64];omega
   have f2:IntKind.u64.wrap (L:Int)=(L:Int):=by rw [IntKind.wrap_u64];omega
   have f3:p+4≤cap:=by omega
   have HQd:=hid (HQ.out.keep (below_drew wr))
   have hbd:w0.heap.size≤wr.drew.heap.size:=by have:=Hbr.out.size;simpa using this
   have HC:=hid (appNum_any w0 (.slice none 0 0) [] (L:Int) 4 wr.drew (World.ownsRow_nil _ _ _ _) hbd (by omega) (by omega) (by omega) (by simp))
   have x1:(0:Int)≤(p:Int)+4:=by omega
   have x2:(p:Int)+4≤(cap:Int):=by omega
   have x3:((p:Int)+4).toNat=p+4:=by omega
   have x5:(cap=p)=False:=by simp only [eq_iff_iff,iff_false];omega
   have HL:=hid hL
   have Hn3:=hid hn3
   have Hlen:=hid hlen
   clear hL hn3 hlen hm0 hcap hcm hlt
   subst hs
   have HCP:=hid (fun (w5:World) (h5:QG w0 r (w.alloc (.cells #[.int .i64 (kindOf t),.int .i64 (nOf t),.string (sOf t),.slice La (nL t) Lc,.slice Ka (nK t) Kc] 36)) (.slice (some ⟨g,0,none⟩) n cap) (acc++beL 0 4++catB (encT m) t (nL t)) w5)=>QG.copy (off:=p) (cs:=beL (L:Int) 4) (out:=acc++(beL (L:Int) 4++catB (encT m) t (nL t))) (by rw [Hlen.out,Hn3.out]) h5 (by rw [Hlen.out,beL_len];omega) (by rw [beL_len,Hp.out];exact (splice_mid acc (beL 0 4) _ _ (by rw [beL_len])).symm))
   have hszB:(Tryz.prog.info? 5).map (·.size)=some 1:=by rw [hiB];simp [zB1]
   have hmin:(bytesV (beL (L:Int) 4)).length=Nat.min 4 4:=by rw [bytesV_length,beL_len];rfl
   have honeB:∀ v ∈ bytesV (beL (L:Int) 4),v.oneCell'=true:=fun u hu=>by obtain ⟨b,_,rfl⟩:=List.mem_map.1 hu;rfl
   go_wp2_with fail
   go_region_law (first | (refine step_copy_row (by rfl) (.tmp 49) (.tmp 55) 98 98 (by rfl) 5 Tryz.underlying98 hszB g p 4 (cap - p) ⟨g5,0,none⟩ 4 cap5 (by rfl) (by rfl) cur 5 hcur (bytesV (beL (L:Int) 4)) hmin hsrc hfit honeB _ rfl ?_) | (go_simp;go_wp2_with (go_at_call 145;refine HC.out.mono ?_;rintro e w5 ⟨r5,rfl,hq5⟩;obtain ⟨g5,cap5,hs5,hcap5,hcm5⟩:=rowE_shape hq5.row (by simp [beL_len]);obtain ⟨cur,hcur,hfit,hnc,hQ6⟩:=HCP.out _ (HQd.out.beside hq5);have hsrc:=(rowE_src hq5.row hs5);rw [List.nil_append,beL_len] at hs5;subst hs5)))
   all_goals
    rw [bytesV_length,beL_len] at hQ6
    generalize w5.setRow g (List.take p cur.toList++(bytesV (beL (L:Int) 4)++List.drop (p+4) cur.toList)).toArray=w6 at hQ6 ⊢
    have HQ6:=hid hQ6
    clear hQ6 hq5 hsrc hcur hfit hnc hcap5 hcm5
    go_wp2_with fail
    go_ret
    exact ⟨_,rfl,by rw [← HL.out,← Hs0.out];exact HQ6.out.from HR.out⟩
end Go.Proofs.YtknakfpciccoaabGreatDoor
/- The walks of appendValue and of Encode. -/
namespace Go.Proofs.YtknakfpciccoaabGreatDoor
open Go.RowKit
set_option maxHeartbeats 4000000 in
set_option maxRecDepth 100000 in
theorem appVal_box (w0:World) (m:Nat) (ih:AvSaid w0 m) (f:Nat) (La Ka:Option Addr) (Lc Kc:Nat) (t:T) (acc:List UInt8) (r:Value) (w:World)
  (hl:ElemsAt w0 f La t) (hkn:NamesAt w0 Ka t) (hn:nL t≤1759218604442) (hnk:kindOf t=6→nK t=nL t) (hg:∀ i,i<nL t→Good m (elt t i)) (hk:kindOf t=5∨kindOf t=6) (hb0:Below w0.heap.size w0 w) (hr:w.ownsRow w0.heap.size 5 1 r acc.length (bytesV acc))
  (hlen:acc.length+(catB (encT m) t (nL t)).length+5≤100000000) :
  Calls Tryz.prog 118 #[r,.agg #[.int .i64 (kindOf t),.int .i64 (nOf t),.string (sOf t),.slice La (nL t) Lc,.slice Ka (nK t) Kc]] w fun e w'=>∃ r',e=.returned r'∧QG w0 r w r' (acc++boxE t (catB (encT m) t (nL t))) w':=by
 obtain ⟨iB,hiB,zB0,zB1,zB2⟩:=info_parts infoBE
 have HR:=hid hr
 have hb:w0.heap.size≤w.heap.size:=hb0.size
 have HBx:Hid (Below w0.heap.size w0 (w.alloc (.cells #[.int .i64 (kindOf t),.int .i64 (nOf t),.string (sOf t),.slice La (nL t) Lc,.slice Ka (nK t) Kc] 36))):=hb0.alloc hb0.size _
 have hl1:acc.length≤100000000:=by omega
 have fk:IntKind.u8.wrap (kindOf t)=((kindB t).toNat:Int):=wrapB _
 have HE:=hid (fun (r1:Value) (w1:World) (hb1:Below w0.heap.size w0 w1) (hr1:w1.ownsRow w0.heap.size 5 1 r1 (acc++[kindB t]).length (bytesV (acc++[kindB t])))=>appEnt_any w0 m ih f La Ka Lc Kc t (acc++[kindB t]) r1 w1 hl hkn hn hnk hg hb1 hr1 (by simp only [List.length_append,List.length_cons,List.length_nil];omega))
 have HW:Hid (acc++boxE t (catB (encT m) t (nL t))=acc++[kindB t]++(beL (catB (encT m) t (nL t)).length 4++catB (encT m) t (nL t))):=by show _=_;simp [boxE]
 clear hr hl hkn hn hnk hg hlen ih hb0
 have H0:Hid (QG w0 r (w.alloc (.cells #[.int .i64 (kindOf t),.int .i64 (nOf t),.string (sOf t),.slice La (nL t) Lc,.slice Ka (nK t) Kc] 36)) r acc (w.alloc (.cells #[.int .i64 (kindOf t),.int .i64 (nOf t),.string (sOf t),.slice La (nL t) Lc,.slice Ka (nK t) Kc] 36))):=QG.here HR.out
 have HB1:Hid (Below (w.heap.size+1) (w.alloc (.cells #[.int .i64 (kindOf t),.int .i64 (nOf t),.string (sOf t),.slice La (nL t) Lc,.slice Ka (nK t) Kc] 36)) ((w.alloc (.cells #[.int .i64 (kindOf t),.int .i64 (nOf t),.string (sOf t),.slice La (nL t) Lc,.slice Ka (nK t) Kc] 36)).alloc (.cells #[.int .u8 ((kindB t).toNat:Int)] 5))):=(Below.refl _ _).alloc (by simp) _
 have HI1:=hid (H0.out.keep (HB1.out.mono (by simp)))
 have HSb:Hid (Src Tryz.prog 1 98 (.slice (some ⟨w.heap.size+1,0,none⟩) 1 1) 1 (bytesV [kindB t]) ((w.alloc (.cells #[.int .i64 (kindOf t),.int .i64 (nOf t),.string (sOf t),.slice La (nL t) Lc,.slice Ka (nK t) Kc] 36)).alloc (.cells #[.int .u8 ((kindB t).toNat:Int)] 5))):=by
  have:=srcE_built (w.alloc (.cells #[.int .i64 (kindOf t),.int .i64 (nOf t),.string (sOf t),.slice La (nL t) Lc,.slice Ka (nK t) Kc] 36)) [kindB t]
  apply hid
  simpa [bytesV] using this
 have hbz:w0.heap.size≤((w.alloc (.cells #[.int .i64 (kindOf t),.int .i64 (nOf t),.string (sOf t),.slice La (nL t) Lc,.slice Ka (nK t) Kc] 36)).alloc (.cells #[.int .u8 ((kindB t).toNat:Int)] 5)).heap.size:=by simp;omega
 have HR0:=hid H0.out.row
 rcases hk with hk | hk
 ·have e2:(kindOf t==2)=false:=by rw [hk];rfl
  have e3:(kindOf t==3)=false:=by rw [hk];rfl
  have e4:(kindOf t==4)=false:=by rw [hk];rfl
  have e5:(kindOf t==5)=true:=by rw [hk];rfl
  clear hk
  go_enter Tryz.func118,Tryz.ntmps118
  go_wp2_with (at_builtin;refine wpList_append_src _ rfl (.tmp 5) (.tmp 9) 98 98 rfl w0.heap.size 5 iB _ 1 1 Tryz.underlying98 hiB zB0 zB1 zB2 rfl r acc.length (bytesV acc) rfl HI1.out.row (.slice (some ⟨w.heap.size+1,0,none⟩) 1 1) 1 (bytesV [kindB t]) rfl HSb.out (by unfold maxLen;omega) (by omega) hbz ?_;intro r1 w1 hO1 hG1 hat1;have HQ1:=hid (HI1.out.grow (l:=[kindB t]) hO1 hG1 hat1);clear hO1 hG1 hat1 HI1 HSb HB1 H0 hbz;obtain ⟨q0,q1,q2,q3,q4,hz⟩:=QG.box HR.out HQ1.out;have hb1:w0.heap.size≤w1.heap.size:=by omega)
  refine (HE.out r1 w1 (HQ1.out.below HR0.out HBx.out) HQ1.out.row).mono ?_
  rintro e w2 ⟨r2,rfl,hq2⟩
  have HQ2:=hid (HQ1.out.trans hq2)
  clear hq2 q0 q1 q2 q3 q4 hz
  go_wp2_with fail
  go_ret
  exact ⟨_,rfl,by rw [HW.out];exact HQ2.out.from HR.out⟩
 ·have e2:(kindOf t==2)=false:=by rw [hk];rfl
  have e3:(kindOf t==3)=false:=by rw [hk];rfl
  have e4:(kindOf t==4)=false:=by rw [hk];rfl
  have e5:(kindOf t==5)=false:=by rw [hk];rfl
  have e6:(kindOf t==6)=true:=by rw [hk];rfl
  clear hk
  go_enter Tryz.func118,Tryz.ntmps118
  go_wp2_with (at_builtin;refine wpList_append_src _ rfl (.tmp 5) (.tmp 9) 98 98 rfl w0.heap.size 5 iB _ 1 1 Tryz.underlying98 hiB zB0 zB1 zB2 rfl r acc.length (bytesV acc) rfl HI1.out.row (.slice (some ⟨w.heap.size+1,0,none⟩) 1 1) 1 (bytesV [kindB t]) rfl HSb.out (by unfold maxLen;omega) (by omega) hbz ?_;intro r1 w1 hO1 hG1 hat1;have HQ1:=hid (HI1.out.grow (l:=[kindB t]) hO1 hG1 hat1);clear hO1 hG1 hat1 HI1 HSb HB1 H0 hbz;obtain ⟨q0,q1,q2,q3,q4,hz⟩:=QG.box HR.out HQ1.out;have hb1:w0.heap.size≤w1.heap.size:=by omega)
  refine (HE.out r1 w1 (HQ1.out.below HR0.out HBx.out) HQ1.out.row).mono ?_
  rintro e w2 ⟨r2,rfl,hq2⟩
  have HQ2:=hid (HQ1.out.trans hq2)
  clear hq2 q0 q1 q2 q3 q4 hz
  go_wp2_with fail
  go_ret
  exact ⟨_,rfl,by rw [HW.out];exact HQ2.out.from HR.out⟩
theorem leafK {t:T} (h:leafGood t):kindOf t≠5∧kindOf t≠6:=by
 obtain ⟨_,_,h⟩:=h
 rcases h with ⟨h,_⟩ | ⟨h,_⟩ | ⟨h,_⟩ | ⟨h,_⟩<;>omega
theorem appVal_any (w0 : World) : ∀ m, AvSaid w0 m
  | 0 => by
    intro f v t acc r w h hg hb hr hl
    obtain ⟨g, La, Ka, Lc, Kc, rfl, rfl, hf, _, _⟩ := h.open
    exact appVal_leaf w0 t hg hf acc r w La Ka Lc Kc hb.size hr hl
  | m + 1 => by
    intro f v t acc r w h hg hb hr hl
    obtain ⟨g, La, Ka, Lc, Kc, rfl, rfl, hf, hl', hk'⟩ := h.open
    rcases hg with hg | ⟨_, _, he, hk⟩
    · obtain ⟨k5, k6⟩ := leafK hg
      rw [encT_leaf k5 k6] at hl ⊢
      exact appVal_leaf w0 t hg hf acc r w La Ka Lc Kc hb.size hr hl
    · have hk2 : kindOf t = 5 ∨ kindOf t = 6 := by rcases hk with ⟨hk, _⟩ | ⟨hk, _⟩ <;> omega
      rw [encT_box hk2] at hl ⊢
      simp only [boxE, List.length_cons, List.length_append, beL_len] at hl
      exact appVal_box w0 m (appVal_any w0 m) g La Ka Lc Kc t acc r w hl'.out hk'.out hf.l1 (fun h6 => by rcases hk with ⟨hk, _⟩ | ⟨_, hk, _⟩; · omega
                                                                                                          · exact hk) he hk2 hb hr (by omega)
end Go.Proofs.YtknakfpciccoaabGreatDoor
/- The walk of text.Encode. -/
namespace Go.Proofs.YtknakfpciccoaabGreatDoor
open Go.RowKit
def encS (ok:Bool) (l:List UInt8):ByteArray:=if ok then baL l else ⟨#[]⟩
def encF (ok:Bool):Int:=if ok then 0 else 5
set_option maxHeartbeats 4000000 in
set_option maxRecDepth 100000 in
theorem tEncode_any {Tb:World→Prop} (hV:ValidSaid Tb) (hL:Lies Tb) (f:Nat) (v:Value) (t:T) (w:World) (h:At w f v t) (hT:Tb w) :
  Calls Tryz.prog 87 #[v] w fun e w'=>e=.returned (.tuple #[.string (encS (isV t) (encT 12 t)),.int .i64 (encF (isV t))])∧Below w.heap.size w w':=by
 have HA:=hid h
 have HT:=hid hT
 have HL:=hid hL
 have HV:=hid hV
 obtain ⟨f1,La,Ka,Lc,Kc,hf1,rfl,hf,hl,hk⟩:=h.open
 clear h hf hf1 hl hk hT hL hV
 have HB1:Hid (Below w.heap.size w (w.alloc (.cells #[.int .i64 (kindOf t),.int .i64 (nOf t),.string (sOf t),.slice La (nL t) Lc,.slice Ka (nK t) Kc] 36))):=(Below.refl _ _).alloc (Nat.le_refl _) _
 have HI:=hid (isValue_any HV.out HL.out f _ t _ (HA.out.keep HB1.out) (HL.out w HT.out _ _ HT.out HB1.out))
 go_enter Tryz.func87,Tryz.ntmps87
 go_wp2_with fail
 refine HI.out.mono ?_
 rintro e w2 ⟨rfl,b2⟩
 have HB2:Hid (Below (w.heap.size+1) (w.alloc (.cells #[.int .i64 (kindOf t),.int .i64 (nOf t),.string (sOf t),.slice La (nL t) Lc,.slice Ka (nK t) Kc] 36)) w2):=b2.mono (by simp)
 obtain ⟨q0,q1,q2,q3,q4,hz,hbw⟩:=box_facts HB2.out
 have Hbw:=hid hbw
 clear b2 hbw HI
 cases hi:isV t with
 | false =>
  have Hi:=hid hi
  clear hi
  go_wp2_with fail
  go_ret2
  exact ⟨by rw [Hi.out];rfl,Hbw.out⟩
 | true =>
  have Hi:=hid hi
  have HG:=hid ((isV_iff t).1 hi)
  have HA2:=hid (HA.out.keep Hbw.out)
  have HW:=hid (encT_len 12 t HG.out.1)
  have HP:=hid (appVal_any w2 12 f _ t [] (.slice none 0 0) w2 HA2.out HG.out.1 (Below.refl _ _) (World.ownsRow_nil _ _ _ _) (by have:=HW.out;have:=HG.out.2;simp only [List.length_nil];omega))
  clear hi
  go_wp2_with fail
  refine HP.out.mono ?_
  rintro e w3 ⟨r3,rfl,hq3⟩
  have HB3:=hid (Hbw.out.trans ((hq3.below (a:=[]) (World.ownsRow_nil _ _ _ _) (Below.refl _ _)).mono (Nat.le_of_lt hz)))
  have hcv:=conv_own (P:=Tryz.prog) Tryz.underlying98 Tryz.underlying5 Tryz.underlying9 hq3.row
  rw [List.nil_append] at hcv
  clear hq3 HP q0 q1 q2 q3 q4 hz
  go_wp2_with fail
  go_ret2
  exact ⟨by rw [Hi.out];rfl,HB3.out⟩
end Go.Proofs.YtknakfpciccoaabGreatDoor
