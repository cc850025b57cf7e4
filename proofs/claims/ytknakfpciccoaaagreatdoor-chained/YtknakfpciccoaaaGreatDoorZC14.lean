import Derived.Test.YtknakfpciccoaaaGreatDoorZC13
import Derived.Test.YtknakfpciccoaaaGreatDoorZC7
/- The walk of parseTests. -/
set_option maxHeartbeats 4000000
set_option maxRecDepth 100000
namespace Go.Proofs.YtknakfpciccoaaaGreatDoor
open Go.RowKit
theorem RY (w0:lG) (f m:Nat) (op:ByteArray) (j:T) (v:Value) (ih:BK w0 f) (w:World) (hop:op.size<=140737488355328) (ha:yt w0 f v j) (hm:f<=m) (hf:f<=16) (kj:bM j) (hb0:Below w0.w.heap.size w0.w w) :
  Calls Tryz.prog 276 #[.string op,v] w (GK w0 m op j w):=by
 obtain ⟨g1,La,Ka,Lc,Kc,_,rfl,_,_,_⟩:=ha.open;by_cases hi:kg op
 ·exact RX w0 m op j La Ka Lc Kc f ih w hop ha hm hf kj hb0 hi
 ·exact Nb w0 m op j La Ka Lc Kc f w hop ha hf kj hi
theorem aeP:(Tryz.prog.info? 293).map (fun i=>(i.zero,i.size,i.bytes))=some (some (.agg #[.string ⟨#[]⟩,.int .i64 0,.int .i64 0,.string ⟨#[]⟩,.slice none 0 0,.slice none 0 0,.slice none 0 0]),7,120):=by kernel_rfl
theorem dx {B base:Nat} {w wr w2:World} {e:TypeId} {s n:Nat} {hv:Value} {xs:List Value} (h:Below B w wr) (hrow:wr.ownsRow base e s hv n xs) (hBb:B<=base) (hBs:B<=wr.heap.size) (hG:wr.grownBy w2 hv.ownBlock):Below B w w2 :=
 h.trans ⟨hG.os,hG.tape,hG.output,hG.size,fun k hk=>hG.block k (by omega) (fun e=>by have:=(GJ hrow e.symm).1;omega)⟩
theorem oh {s:Nat} {xs:List Value} {i r:Nat} {u:Value} (h:(Vk s xs i)[r]?=some u) (hr:r<s):xs[i*s+r]?=some u:=by
 unfold Vk at h;rw [List.getElem?_take,if_pos hr,List.getElem?_drop] at h;exact h
theorem aX {w:World} {base:Nat} {e:TypeId} {s n g cap:Nat} {xs:List Value} (h:w.ownsRow base e s (.slice (some ⟨g,0,none⟩) n cap) n xs) {j:Nat} {u:Value} (hj:xs[j]?=some u):w.cell? ⟨g,j,none⟩=some u:=by
 have h1:=h.cells (g:=g) rfl j u hj;have e1:((⟨g,0,none⟩:Addr).add j)=⟨g,j,none⟩:=by simp [Addr.add];intro h;exact h.symm
 rw [e1] at h1;exact h1
theorem Y2 {w0:lG} {m base:Nat} {hv:Value} {ps:List (ByteArray×T)} {xs:List Value} {w wr:World} (h:sM (Vm w0 m) 7 293 base hv ps xs wr) (hlo:w.heap.size<=base) (hn:ps.length<=1000000000):uK wr (aS w wr) (fP w0 wr (aS w wr) m) hv ps:=by
 obtain ⟨hx,hc⟩:=h.row;have hrow:=h.row;rcases hc with ⟨rfl,h0⟩ | ⟨g,cap,cur,rfl,hb0,hg,_⟩
 ·exact ⟨none,0,by rw [h0],hn,fun i hi=>by omega⟩
 ·refine ⟨some ⟨g,0,none⟩,cap,rfl,hn,fun i hi=>?_⟩;obtain ⟨c0,c1,c2,c3,c4,c5,c6,hcs,ht⟩:=h.el i hi;have hgl:=(Array.getElem?_eq_some_iff.1 hg).1
  have cc:∀ r u,r<7->(Vk 7 xs i)[r]?=some u->wr.cell? ⟨g,0+i*7+r,none⟩=some u:=fun r u hr hu=>by
   rw [Nat.zero_add];exact aX hrow (oh hu hr)
  refine ⟨g,0,c0,c1,c2,c3,c4,c5,c6,rfl,⟨by omega,hgl⟩,?_,?_,?_,?_,?_,?_,?_,fP.move (fun b hb=>⟨rfl,by have:=hb.1;omega,hb.2.1⟩) m _ _ _ _ _ _ _ _ ht⟩
  ·exact cc 0 c0 (by omega) (by rw [hcs];rfl)
  ·exact cc 1 c1 (by omega) (by rw [hcs];rfl)
  ·exact cc 2 c2 (by omega) (by rw [hcs];rfl)
  ·exact cc 3 c3 (by omega) (by rw [hcs];rfl)
  ·exact cc 4 c4 (by omega) (by rw [hcs];rfl)
  ·exact cc 5 c5 (by omega) (by rw [hcs];rfl)
  ·exact cc 6 c6 (by omega) (by rw [hcs];rfl)
theorem l8 (j:T):(lZ j).length=nK j:=by simp [lZ]
theorem J4 {j:T} {k:Nat} (h:k<nK j):(lZ j).take (k+1)=(lZ j).take k++[(bO j k,elt j k)]:=by
 have hl:k<(lZ j).length:=by rw [l8];exact h
 rw [List.take_succ_eq_append_getElem hl];simp [lZ]
theorem fP.shape {w0:lG} {w:World} {X:Nat->Prop} {m:Nat} {c0 c1 c2 c3 c4 c5 c6:Value} {p:ByteArray×T} (h:fP w0 w X m c0 c1 c2 c3 c4 c5 c6 p):∃ s0 n1 n2 s3 A4 l4 k4 A5 l5 k5 A6 l6 k6,c0=.string s0/\c1=.int .i64 n1/\c2=.int .i64 n2/\c3=.string s3/\c4=.slice A4 l4 k4/\c5=.slice A5 l5 k5/\c6=.slice A6 l6 k6:=by
 cases m with
 | zero=>exact h.elim
 | succ m =>
  obtain ⟨h0,_,⟨_,h1,h2,h3,h4,h5,A,c,h6,_⟩ | ⟨_,h6,g,A,B,C,D,_,h1,h2,h3,h4,h5,_⟩⟩:=h
  ·exact ⟨_,_,_,_,_,_,_,_,_,_,_,_,_,h0,h1,h2,h3,h4,h5,h6⟩
  ·exact ⟨_,_,_,_,_,_,_,_,_,_,_,_,_,h0,h1,h2,h3,h4,h5,h6⟩
theorem Vn (w0:lG) (f:Nat) (ih:BK w0 f):BK w0 (f+1):=by
 intro m v j w hm ha hf kj hb0;obtain ⟨m,rfl⟩:∃ x,m=x+1:=⟨m - 1,by omega⟩;obtain ⟨iT,hiT,zT0,zT1,zT2⟩:=info_parts aeP;obtain ⟨g1,La,Ka,Lc,Kc,hg1,rfl,hfj,hel,hnm⟩:=ha.open;obtain rfl:g1=f:=by omega
 have HB1:=ak (aY w (vC j La Lc Ka Kc));have GN:=ak (hb0.trans (HB1.out.mono hb0.size));have BD:=ak kj;have Qc:=ak ih;have JQ:=ak hel.out;have Y3:=ak hnm.out;have hnk:=kj.small.1;have hnl:=kj.small.2;clear ha kj ih hel hnm hg1 hfj;by_cases hk:aj j=6/\0<nK j
 ·obtain ⟨k6,h0⟩:=hk;have e6:(aj j==6)=true:=by simpa using k6
  have h0i:(0:Int)<(nK j:Int):=by omega
  have HKL:=ak (BD.out.names k6);have Gx:Hid (jY (m+1) j=sJ (fun i=>nA (jY m) (bO j i) (elt j i)) (nK j)):=by show _=_;rw [jY,e6,decide_eq_true h0];rfl
  clear k6;go_in;go_wp2_with fail;refine (fO true _).mono ?_;rintro e w2 ⟨rfl,he⟩;simp only [if_true] at he;subst he;go_wp2_with fail;go_loopg [3,19] (nK j) (fun g o i wr=>∃ (k:Nat) (xs:List Value),g=nK j - k/\k<=nK j/\i=.int .i64 k/\Hid (Below (w.heap.size+1) (w.alloc (vC j La Lc Ka Kc)) wr)/\Hid (sM (Vm w0 (m+1)) 7 293 (w.heap.size+1) o ((lZ j).take k) xs wr)/\Hid (sJ (fun i=>nA (jY m) (bO j i) (elt j i)) k=true))
  case atStart=>exact ⟨0,[],rfl,Nat.zero_le _,rfl,Below.refl _ _,sM.nil _ _ _ _ _,rfl⟩
  case round =>
   obtain ⟨k,xs,rfl,hk,rfl,HB,HL,HN⟩:=hrel;obtain ⟨q0,q1,q2,q3,q4,hz,hbw⟩:=dz HB.out;have qb:=ak (hb0.trans (hbw.mono hb0.size));have iq:=ak hbw;clear hbw;by_cases hlt:k<nK j
   ·have sN:k<nL j:=by have:=HKL.out;omega
    obtain ⟨kb,ko,rfl,hkb,hks,hkc⟩:=Y3.out.keep qb.out k hlt;obtain ⟨bb,oo,A,B,C,D,rfl,hbl,p0,p1,p2,p3,p4,Ha⟩:=JQ.out.shape qb.out k sN;have HC:=ak (RY w0 g1 m (bO j k) (elt j k) _ Qc.out wr hks Ha.out (by omega) (by omega) (BD.out.elt sN) qb.out);have HA:Hid (sJ (fun i=>nA (jY m) (bO j i) (elt j i)) (k+1)=nA (jY m) (bO j k) (elt j k)):=by show _=_;rw [sJ,HN.out];simp
    have HA2:Hid (nA (jY m) (bO j k) (elt j k)=false->jY (m+1) j=false):=fun h=>by rw [Gx.out];exact Ar (p:=fun i=>nA (jY m) (bO j i) (elt j i)) h _ hlt
    have IX:=ak (J4 hlt);have hxl:((lZ j).take k).length=k:=by rw [List.length_take,l8];omega
    go_wp2_with fail;refine HC.out.mono ?_;rintro e w3 ⟨b3,⟨hok,c0,c1,c2,c3,c4,c5,c6,rfl,ht⟩ | ⟨hok,rfl⟩⟩
    ·obtain ⟨s0,n1,n2,s3,A4,l4,k4,A5,l5,k5,A6,l6,k6,rfl,rfl,rfl,rfl,rfl,rfl,rfl⟩:=ht.shape;have tV:=ak (HA.out.trans hok);have Y4:=ak ht;have bT:=ak (aY w3 (.cells #[.string s0,.int .i64 n1,.int .i64 n2,.string s3,.slice A4 l4 k4,.slice A5 l5 k5,.slice A6 l6 k6] 293));have uI:=ak ((HL.out.keep (og w0 (m+1)) b3).keep (og w0 (m+1)) bT.out);have sK:Hid (Src Tryz.prog 7 246 (.slice (some ⟨w3.heap.size,0,none⟩) 1 1) 1 [.string s0,.int .i64 n1,.int .i64 n2,.string s3,.slice A4 l4 k4,.slice A5 l5 k5,.slice A6 l6 k6] (w3.alloc (.cells #[.string s0,.int .i64 n1,.int .i64 n2,.string s3,.slice A4 l4 k4,.slice A5 l5 k5,.slice A6 l6 k6] 293))):=Src.ofSlice _ Tryz.underlying246 ⟨w3.heap.size,0,none⟩ 1 1 [.string s0,.int .i64 n1,.int .i64 n2,.string s3,.slice A4 l4 k4,.slice A5 l5 k5,.slice A6 l6 k6] (by simp) (World.news_of_block (heap_alloc_new w3 _)) (by simp [Value.oneCell']);have Hb3:=ak b3;have hlo:w.heap.size+1<=(w3.alloc (.cells #[.string s0,.int .i64 n1,.int .i64 n2,.string s3,.slice A4 l4 k4,.slice A5 l5 k5,.slice A6 l6 k6] 293)).heap.size:=by have:=b3.size;simp;omega
     clear b3 hok ht HC HA HA2;go_wp2_with (at_builtin;refine aG _ rfl (.tmp 24) (.tmp 32) 246 246 rfl (w.heap.size+1) 293 iT _ 7 120 Tryz.underlying246 hiT zT0 zT1 zT2 rfl u3 ((lZ j).take k).length xs rfl uI.out.row (.slice (some ⟨w3.heap.size,0,none⟩) 1 1) 1 [.string s0,.int .i64 n1,.int .i64 n2,.string s3,.slice A4 l4 k4,.slice A5 l5 k5,.slice A6 l6 k6] rfl sK.out (by unfold maxLen;omega) (by omega) hlo ?_;intro v' w6 qX nu dV);have Dl:=ak (HL.out.grow (x:=(bO j k,elt j k)) (cs:=[.string s0,.int .i64 n1,.int .i64 n2,.string s3,.slice A4 l4 k4,.slice A5 l5 k5,.slice A6 l6 k6]) (og w0 (m+1)) (Hb3.out.trans (bT.out.mono Hb3.out.size)) rfl (og w0 (m+1) _ _ _ _ _ _ ⟨_,_,_,_,_,_,_,rfl,Y4.out⟩ (fun b hb=>⟨bT.out.block b hb.2,hb⟩)) (fun b hb=>⟨hb.1,Nat.lt_of_lt_of_le hb.2 bT.out.size⟩) (by omega) qX nu dV);have iN:=ak (dx ((HB.out.trans (Hb3.out.mono (by omega))).trans (bT.out.mono (by have:=Hb3.out.size;omega))) uI.out.row (Nat.le_refl _) (by omega) nu);rw [<- IX.out] at Dl;clear qX nu dV;go_wp2_with fail;go_roundg (nK j - (k+1))
     case rel=>exact ⟨k+1,_,rfl,by omega,by go_num,iN,Dl,tV⟩
     case measure=>omega
    ·have HA4:=ak (HA2.out hok);exact ⟨rfl,iq.out.trans (b3.mono iq.out.size),.inr ⟨HA4.out,rfl⟩⟩
   ·obtain rfl:k=nK j:=by omega
    have YU:Hid ((lZ j).take (nK j)=lZ j):=by show _=_;rw [List.take_of_length_le (by rw [l8];omega)]
    rw [YU.out] at HL;have jX:=ak (Y2 (w:=w) HL.out (by omega) (by rw [l8];omega));have abX:=ak (Gx.out.trans HN.out);go_wp2_with fail;go_ret;exact ⟨iq.out,.inl ⟨abX.out,_,rfl,jX.out⟩⟩
 ·have Gx:Hid (jY (m+1) j=false):=by
   show _=_;rw [jY];by_cases k6:aj j=6
   ·rw [decide_eq_false (fun h=>hk ⟨k6,h⟩)];simp
   ·rw [beq_eq_false_iff_ne.2 k6];rfl
  by_cases k6:aj j=6
  ·have e6:(aj j==6)=true:=by simpa using k6
   have h0:¬ (0:Int)<(nK j:Int):=fun h=>hk ⟨k6,by omega⟩;have hd0:decide (0<nK j)=false:=decide_eq_false (fun h=>hk ⟨k6,h⟩);clear hk k6 h0;go_in;go_wp2_with fail;refine (fO false _).mono ?_;rintro e w2 ⟨rfl,he⟩;simp only [Bool.false_eq_true,if_false] at he;subst he;exact ⟨rfl,HB1.out,.inr ⟨Gx.out,rfl⟩⟩
  ·have e6:(aj j==6)=false:=by simpa using k6
   clear hk k6;go_in;go_wp2_with fail;refine (fO false _).mono ?_;rintro e w2 ⟨rfl,he⟩;simp only [Bool.false_eq_true,if_false] at he;subst he;exact ⟨rfl,HB1.out,.inr ⟨Gx.out,rfl⟩⟩
theorem Qf (w0:lG):∀ f,BK w0 f
 | 0=>fun _ _ _ _ _ h=>h.elim
 | f+1=>Vn w0 f (Qf w0 f)
theorem iw (x:ByteArray) (w:World):Calls Tryz.prog 230 #[.string x] w fun e w'=>e=.returned (.bool (qz x))/\w'=w:=by
 have HC:Hid (Calls Tryz.prog 255 #[.string x,.string ⟨#[36]⟩] w fun e w'=>e=.returned (.bool (qz x))/\w'=w):=Bo x ⟨#[36]⟩ w;generalize qz x=r at HC;go_in;go_wp2_with fail;refine HC.out.mono ?_;rintro e w2 ⟨rfl,rfl⟩;go_wp2_with fail;go_ret;exact ⟨rfl,rfl⟩
theorem wW (v:Value) (l:List ByteArray) (x:ByteArray) (w:World) (h:bI w v l) :
  Calls Tryz.prog 155 #[v,.string x] w fun e w'=>e=.returned (.bool ((jN x l).isSome))/\w'=w:=by
 have HC:=ak (pJ v l x w h);clear h;cases hi:jN x l with
 | some k =>
  rw [hi] at HC;simp only [Gu] at HC;clear hi;go_in;go_wp2_with fail;refine HC.out.mono ?_;rintro e w2 ⟨rfl,rfl⟩;go_wp2_with fail;go_ret;exact ⟨rfl,rfl⟩
 | none =>
  rw [hi] at HC;simp only [Gu] at HC;clear hi;go_in;go_wp2_with fail;refine HC.out.mono ?_;rintro e w2 ⟨rfl,rfl⟩;go_wp2_with fail;go_ret;exact ⟨rfl,rfl⟩
def kY (w:World) (X:Nat->Prop) (v:Value) (l:List ByteArray):Prop :=
 ∃ (A:Option Addr) (c:Nat),v=.slice A l.length c/\l.length<=8796093022208/\∀ i,i<l.length->∃ b o,A=some ⟨b,o,none⟩/\X b/\(l.getD i ByteArray.empty).size<=140737488355328/\w.cell? ⟨b,o+i,none⟩=some (.string (l.getD i ByteArray.empty))
theorem kY.move {w w':World} {X X':Nat->Prop} {v:Value} {l:List ByteArray} (h:kY w X v l) (hb:∀ b,X b->w'.heap[b]?=w.heap[b]?/\X' b):kY w' X' v l:=by
 obtain ⟨A,c,hv,hl,h⟩:=h;refine ⟨A,c,hv,hl,fun i hi=>?_⟩;obtain ⟨b,o,h0,h1,h2,h3⟩:=h i hi;obtain ⟨h4,h5⟩:=hb b h1;exact ⟨b,o,h0,h5,h2,(aC h4 _).trans h3⟩
theorem kY.at {w:World} {X:Nat->Prop} {v:Value} {l:List ByteArray} (h:kY w X v l) (hX:∀ b,X b->b<w.heap.size):bI w v l:=by
 obtain ⟨A,c,hv,hl,h⟩:=h;refine ⟨A,c,hv,hl,fun i hi=>?_⟩;obtain ⟨b,o,h0,h1,h2,h3⟩:=h i hi;exact ⟨b,o,h0,hX b h1,h2,h3⟩
def cK (Tb:World->Prop):Prop:=∀ (x:ByteArray) (w:World),x.size<=1048576->Tb w->Calls Tryz.prog 256 #[.string x,.string ⟨#[46]⟩] w fun e w'=>Below w.heap.size w w'/\∃ v,e=.returned v/\kY w' (aS w w') v (bW x)
def iW (x:ByteArray):Bool:=(jN ⟨#[]⟩ (bW x)).isNone
def Vo (x:ByteArray) (w:World) (e:Ending) (w':World):Prop:=Below w.heap.size w w'/\((iW x=true/\∃ v,e=.returned (.tuple #[v,.bool true])/\kY w' (aS w w') v (bW x))\/(iW x=false/\e=.returned (.tuple #[.slice none 0 0,.bool false])))
theorem oN {Tb:World->Prop} (hS:cK Tb) (x:ByteArray) (w:World) (hx:x.size<=1048576) (hT:Tb w):Calls Tryz.prog 231 #[.string x] w (Vo x w):=by
 have HS:=ak (hS x w hx hT);clear hS hT;go_in;go_wp2_with fail;refine HS.out.mono ?_;rintro e w2 ⟨b2,v,rfl,hv⟩;have HV:=ak hv;have HB:=ak b2;have HC:=ak (wW v (bW x) ⟨#[]⟩ w2 (hv.at fun b hb=>hb.2));have HP:Hid (iW x=!((jN ⟨#[]⟩ (bW x)).isSome)):=by show _=_;unfold iW;cases jN ⟨#[]⟩ (bW x)<;>rfl
 clear b2 hv;generalize (jN ⟨#[]⟩ (bW x)).isSome=r at HC HP;go_wp2_with fail;refine HC.out.mono ?_;rintro e w3 ⟨rfl,rfl⟩;cases r with
 | true =>
  go_wp2_with fail;go_ret2;exact ⟨HB.out,.inr ⟨HP.out,rfl⟩⟩
 | false =>
  go_wp2_with fail;go_ret2;exact ⟨HB.out,.inl ⟨HP.out,_,rfl,HV.out⟩⟩
def zk (j:T):Prop:=aj j=6/\0<nK j/\qz (bO j 0)=true
instance (j : T) : Decidable (zk j) := by unfold zk; infer_instance
def uL (j:T):Bool:=if zk j then jY 16 j else true
theorem Vp {j:T} (h:zk j):l7 j=lZ j:=by unfold l7;exact if_pos h
theorem Y5 {j:T} (h:¬ zk j):l7 j=[(wS,j)]:=by unfold l7;exact if_neg h
def abY (w0:lG) (j:T) (w:World) (e:Ending) (w':World):Prop :=
 Below w.heap.size w w'/\((uL j=true/\∃ tv,e=.returned tv/\uK w' (aS w w') (fP w0 w' (aS w w') 16) tv (l7 j))\/(uL j=false/\e=kL 8))
theorem Vq (w0:lG) (w:World) (j:T) (La Ka:Option Addr) (Lc Kc:Nat) (f:Nat) (ha:yt w0 f (.agg #[.int .i64 (aj j),.int .i64 (av j),.string (ay j),.slice La (nL j) Lc,.slice Ka (nK j) Kc]) j) (hf:f<=16) (kj:bM j):uK ((w.alloc (vC j La Lc Ka Kc)).alloc (.cells #[.string ⟨#[36,101,113]⟩,.int .i64 (aj j),.int .i64 (av j),.string (ay j),.slice La (nL j) Lc,.slice Ka (nK j) Kc,.slice none 0 0] 293)) (aS w ((w.alloc (vC j La Lc Ka Kc)).alloc (.cells #[.string ⟨#[36,101,113]⟩,.int .i64 (aj j),.int .i64 (av j),.string (ay j),.slice La (nL j) Lc,.slice Ka (nK j) Kc,.slice none 0 0] 293))) (fP w0 ((w.alloc (vC j La Lc Ka Kc)).alloc (.cells #[.string ⟨#[36,101,113]⟩,.int .i64 (aj j),.int .i64 (av j),.string (ay j),.slice La (nL j) Lc,.slice Ka (nK j) Kc,.slice none 0 0] 293)) (aS w ((w.alloc (vC j La Lc Ka Kc)).alloc (.cells #[.string ⟨#[36,101,113]⟩,.int .i64 (aj j),.int .i64 (av j),.string (ay j),.slice La (nL j) Lc,.slice Ka (nK j) Kc,.slice none 0 0] 293))) 16) (.slice (some ⟨w.heap.size+1,0,none⟩) 1 1) [(wS,j)]:=by
 refine ⟨some ⟨w.heap.size+1,0,none⟩,1,rfl,by simp,fun i hi=>?_⟩;obtain rfl:i=0:=by simp at hi;omega
 refine ⟨w.heap.size+1,0,_,_,_,_,_,_,_,rfl,⟨by omega,by simp⟩,by simp [go_sem];rfl,by simp [go_sem];rfl,by simp [go_sem];rfl,by simp [go_sem];rfl,by simp [go_sem];rfl,by simp [go_sem];rfl,by simp [go_sem];rfl,?_⟩;exact ⟨rfl,(show wS.size<=140737488355328 by decide),.inr ⟨(show ¬ kg wS by decide),rfl,f,La,Lc,Ka,Kc,hf,rfl,rfl,rfl,rfl,rfl,ha,kj⟩⟩
theorem wX (w0:lG) (f:Nat) (v:Value) (j:T) (w:World) (ha:yt w0 f v j) (hf:f<=16) (kj:bM j) (hb0:Below w0.w.heap.size w0.w w):Calls Tryz.prog 232 #[v] w (abY w0 j w):=by
 obtain ⟨g1,La,Ka,Lc,Kc,hg1,rfl,hfj,hel,hnm⟩:=ha.open;have HB1:=ak (aY w (vC j La Lc Ka Kc));have HB2:Hid (Below w.heap.size w ((w.alloc (vC j La Lc Ka Kc)).alloc (.cells #[.string ⟨#[36,101,113]⟩,.int .i64 (aj j),.int .i64 (av j),.string (ay j),.slice La (nL j) Lc,.slice Ka (nK j) Kc,.slice none 0 0] 293))):=(aY _ _).alloc (by simp) _;have HP:=ak (Qf w0 f 16 _ j (w.alloc (vC j La Lc Ka Kc)) hf ha hf kj (hb0.trans (HB1.out.mono hb0.size)));have abZ:=ak (Vq w0 w j La Ka Lc Kc f ha hf kj);have DJ:Hid (¬ zk j->uL j=true/\l7 j=[(wS,j)]):=fun h=>⟨by unfold uL;exact if_neg h,Y5 h⟩;have hnk:=kj.small.1;by_cases k6:aj j=6
 ·have e6:(aj j==6)=true:=by simpa using k6
  by_cases h0:0<nK j
  ·have h0i:(0:Int)<(nK j:Int):=by omega
   obtain ⟨kb,ko,rfl,hkb,hks,hkc⟩:=hnm.out.keep (hb0.trans (HB1.out.mono hb0.size)) 0 h0;rw [Nat.add_zero] at hkc;have HO:=ak (iw (bO j 0));cases hop:qz (bO j 0) with
   | true =>
    have ab0:zk j:=⟨k6,h0,hop⟩;have HX:=ak (Vp ab0);have HK:Hid (uL j=jY 16 j):=by show _=_;unfold uL;exact if_pos ab0
    rw [hop] at HO;clear hop ab0 k6 ha kj hel hnm hfj hb0 hg1;go_in;go_wp2_with fail;refine (HO.out _).mono ?_;rintro e w2 ⟨rfl,rfl⟩;go_wp2_with fail;refine HP.out.mono ?_;rintro e w3 ⟨b3,⟨hok,tv,rfl,hr⟩ | ⟨hok,rfl⟩⟩
    ·have HB3:=ak (HB1.out.trans (b3.mono HB1.out.size))
     have HR3:Hid (uK w3 (aS w w3) (fP w0 w3 (aS w w3) 16) tv (l7 j)):=by
      show uK _ _ _ _ _;rw [HX.out];exact hr.move (fun b hb=>⟨rfl,by have:=hb.1;simp at this;omega,hb.2⟩) (fP.move (fun b hb=>⟨rfl,by have:=hb.1;simp at this;omega,hb.2⟩) 16)
     have Dh:=ak (HK.out.trans hok);clear b3 hr hok;go_wp2_with fail;go_ret;exact ⟨HB3.out,.inl ⟨Dh.out,_,rfl,HR3.out⟩⟩
    ·exact ⟨rfl,HB1.out.trans (b3.mono HB1.out.size),.inr ⟨HK.out.trans hok,rfl⟩⟩
   | false =>
    have HN:=ak (DJ.out (fun h=>by rw [h.2.2] at hop;cases hop));rw [hop] at HO;clear hop k6 ha kj hel hnm hfj hb0 hg1 DJ;go_in;go_wp2_with fail;refine (HO.out _).mono ?_;rintro e w2 ⟨rfl,rfl⟩;go_wp2_with fail;go_ret;exact ⟨HB2.out,.inl ⟨HN.out.1,_,rfl,by rw [HN.out.2];exact abZ.out⟩⟩
  ·have hd0:decide (0<nK j)=false:=decide_eq_false h0;have HN:=ak (DJ.out (fun h=>h0 h.2.1));clear h0 k6 ha kj hel hnm hfj hb0 hg1 DJ;go_in;go_wp2_with fail;go_ret;exact ⟨HB2.out,.inl ⟨HN.out.1,_,rfl,by rw [HN.out.2];exact abZ.out⟩⟩
 ·have e6:(aj j==6)=false:=by simpa using k6
  have HN:=ak (DJ.out (fun h=>k6 h.1));clear k6 ha kj hel hnm hfj hb0 hg1 DJ;go_in;go_wp2_with fail;go_ret;exact ⟨HB2.out,.inl ⟨HN.out.1,_,rfl,by rw [HN.out.2];exact abZ.out⟩⟩
def vg (w:World) (X:Nat->Prop) (R:Value->T->Prop) (v:Value) (j:T):Prop :=
 ∃ (A:Option Addr) (c:Nat),v=.slice A (nL j) c/\nL j<=1000000000/\∀ i,i<nL j->∃ b o u,A=some ⟨b,o,none⟩/\X b/\w.cell? ⟨b,o+i,none⟩=some u/\R u (elt j i)
theorem vg.move {w w':World} {X X':Nat->Prop} {R R':Value->T->Prop} {v:Value} {j:T} (h:vg w X R v j) (hb:∀ b,X b->w'.heap[b]?=w.heap[b]?/\X' b) (hR:∀ u y,R u y->R' u y):vg w' X' R' v j:=by
 obtain ⟨A,c,hv,hn,h⟩:=h;refine ⟨A,c,hv,hn,fun i hi=>?_⟩;obtain ⟨b,o,u,h0,hl,q,hr⟩:=h i hi;obtain ⟨h1,h2⟩:=hb b hl;exact ⟨b,o,u,h0,h2,(aC h1 _).trans q,hR _ _ hr⟩
theorem vg.at {w:World} {X:Nat->Prop} {R R':Value->T->Prop} {v:Value} {j:T} (h:vg w X R v j) (hX:∀ b,X b->b<w.heap.size) (hR:∀ u y,R u y->R' u y):zN w R' v j:=by
 obtain ⟨A,c,hv,hn,h⟩:=h;refine ⟨A,c,hv,hn,fun i hi=>?_⟩;obtain ⟨b,o,u,h0,hl,q,hr⟩:=h i hi;exact ⟨b,o,u,h0,hX b hl,q,hR _ _ hr⟩
def vo (w0:lG) (w:World) (X:Nat->Prop) (R:Value->T->Prop) (u:Value) (x:ByteArray) (j:T):Prop :=
 (x=uX/\∃ v,u=.iface 238 v/\vg w X R v j)\/(x=yh/\∃ v,u=.iface 240 v/\vg w X R v j)\/(x=zi/\∃ v,u=.iface 241 v/\vg w X R v j) \/
 (yj x/\∃ pv tv,u=.iface 249 (.agg #[pv,tv])/\kY w X pv (bW x)/\uK w X (fP w0 w X 16) tv (l7 j))
theorem vo.move {w0:lG} {w w':World} {X X':Nat->Prop} {R R':Value->T->Prop} {u:Value} {x:ByteArray} {j:T} (h:vo w0 w X R u x j) (hb:∀ b,X b->w'.heap[b]?=w.heap[b]?/\X' b) (hR:∀ u y,R u y->R' u y):vo w0 w' X' R' u x j:=by
 rcases h with ⟨h1,v,h2,h3⟩ | ⟨h1,v,h2,h3⟩ | ⟨h1,v,h2,h3⟩ | ⟨h1,pv,tv,h2,h3,h4⟩
 ·exact .inl ⟨h1,v,h2,h3.move hb hR⟩
 ·exact .inr (.inl ⟨h1,v,h2,h3.move hb hR⟩)
 ·exact .inr (.inr (.inl ⟨h1,v,h2,h3.move hb hR⟩))
 ·exact .inr (.inr (.inr ⟨h1,pv,tv,h2,h3.move hb,h4.move hb (fP.move hb 16)⟩))
theorem vo.at {w0:lG} {w:World} {X:Nat->Prop} {R R':Value->T->Prop} {u:Value} {x:ByteArray} {j:T} (h:vo w0 w X R u x j) (hX:∀ b,X b->b<w.heap.size) (hb:∀ f v t,yt w0 f v t->At w f v t) (hR:∀ u y,R u y->R' u y):BG w R' u x j:=by
 rcases h with ⟨h1,v,h2,h3⟩ | ⟨h1,v,h2,h3⟩ | ⟨h1,v,h2,h3⟩ | ⟨h1,pv,tv,h2,h3,h4⟩
 ·exact .inl ⟨h1,v,h2,h3.at hX hR⟩
 ·exact .inr (.inl ⟨h1,v,h2,h3.at hX hR⟩)
 ·exact .inr (.inr (.inl ⟨h1,v,h2,h3.at hX hR⟩))
 ·exact .inr (.inr (.inr ⟨h1,pv,tv,h2,h3.at hX,h4.at hX (fP.at hX hb 16)⟩))
def iy (w0:lG) (w:World) (X:Nat->Prop):Nat->Value->T->Prop
 | 0,_,_=>False
 | m+1,v,t=>∃ (A:Option Addr) (c:Nat),v=.slice A (nK t) c/\nK t<=1000000000/\∀ i,i<nK t->∃ b o u,A=some ⟨b,o,none⟩/\X b/\w.cell? ⟨b,o+i,none⟩=some u/\vo w0 w X (iy w0 w X m) u (bO t i) (elt t i)
theorem iy.move {w0:lG} {w w':World} {X X':Nat->Prop} (hb:∀ b,X b->w'.heap[b]?=w.heap[b]?/\X' b):∀ (m:Nat) (v:Value) (t:T),iy w0 w X m v t->iy w0 w' X' m v t
 | 0,_,_,h=>h
 | m+1,v,t,h=>by
  obtain ⟨A,c,hv,hn,h⟩:=h;refine ⟨A,c,hv,hn,fun i hi=>?_⟩;obtain ⟨b,o,u,h0,hl,q,hr⟩:=h i hi;obtain ⟨h1,h2⟩:=hb b hl;exact ⟨b,o,u,h0,h2,(aC h1 _).trans q,hr.move hb (iy.move hb m)⟩
theorem iy.at {w0:lG} {w:World} {X:Nat->Prop} (hX:∀ b,X b->b<w.heap.size) (hb:∀ f v t,yt w0 f v t->At w f v t):∀ (m:Nat) (v:Value) (t:T),iy w0 w X m v t->eu w m v t
 | 0,_,_,h=>h
 | m+1,v,t,h=>by
  obtain ⟨A,c,hv,hn,h⟩:=h;refine ⟨A,c,hv,hn,fun i hi=>?_⟩;obtain ⟨b,o,u,h0,hl,q,hr⟩:=h i hi;exact ⟨b,o,u,h0,hX b hl,q,hr.at hX hb (iy.at hX hb m)⟩
def yu (g:T->Bool) (x:ByteArray) (j:T):Bool:=if x=uX\/x=yh\/x=zi then ((aj j==5&&decide (0<nL j))&&jD g j (nL j)) else ((!qz x&&iW x)&&uL j)
def bE:Nat->T->Bool
 | 0,_=>false
 | m+1,t=>aj t==6&&sJ (fun i=>yu (bE m) (bO t i) (elt t i)) (nK t)
def aeR (w0:lG) (m:Nat) (t:T) (w:World) (e:Ending) (w':World):Prop :=
 Below w.heap.size w w'/\((bE m t=true/\∃ fv,e=.returned fv/\iy w0 w' (aS w w') m fv t)\/(bE m t=false/\e=kL 8))
def Ng (Tb:World->Prop) (w0:lG) (f:Nat):Prop:=∀ (m:Nat) (v:Value) (t:T) (w:World),f<=m->yt w0 f v t->f<=16->bM t->Below w0.w.heap.size w0.w w->Tb w->Calls Tryz.prog 150 #[v] w (aeR w0 m t w)
def Nh (w0:lG) (m:Nat) (j:T) (w:World) (e:Ending) (w':World):Prop :=
 Below w.heap.size w w'/\((((aj j==5&&decide (0<nL j))&&jD (bE m) j (nL j))=true/\∃ fv,e=.returned fv/\vg w' (aS w w') (iy w0 w' (aS w w') m) fv j)\/(((aj j==5&&decide (0<nL j))&&jD (bE m) j (nL j))=false/\e=kL 8))
def tZ (Tb:World->Prop) (w0:lG) (f:Nat):Prop:=∀ (m:Nat) (v:Value) (j:T) (w:World),f<=m+1->yt w0 f v j->f<=16->bM j->Below w0.w.heap.size w0.w w->Tb w->Calls Tryz.prog 229 #[v] w (Nh w0 m j w)
def EF (w0:lG) (m:Nat) (x:ByteArray) (j:T) (w:World) (e:Ending) (w':World):Prop :=
 Below w.heap.size w w'/\((yu (bE m) x j=true/\∃ u,e=.returned u/\vo w0 w' (aS w w') (iy w0 w' (aS w w') m) u x j)\/(yu (bE m) x j=false/\e=kL 8))
theorem GQ {Tb:World->Prop} (hL:aV Tb) (w0:lG) (f m:Nat) (ih:tZ Tb w0 f) (x:ByteArray) (j:T) (v:Value) (w:World) (hm:f<=m+1) (ha:yt w0 f v j) (hf:f<=16) (kj:bM j) (hb0:Below w0.w.heap.size w0.w w) (hT:Tb w) (rE:x=uX) :
  Calls Tryz.prog 190 #[.string x,v] w (EF w0 m x j w):=by
 obtain ⟨g1,La,Ka,Lc,Kc,hg1,rfl,_,_,_⟩:=ha.open;have HB1:=ak (aY w (vC j La Lc Ka Kc));have HC:=ak (ih m _ j (w.alloc (vC j La Lc Ka Kc)) hm ha hf kj (hb0.trans (HB1.out.mono hb0.size)) (hL w hT _ _ hT HB1.out));have HR:Hid (yu (bE m) x j=((aj j==5&&decide (0<nL j))&&jD (bE m) j (nL j))):=by show _=_;unfold yu;rw [if_pos (.inl rE)]
 have HG:=ak rE;have eAnd:(x.toList==[36,97,110,100])=true:=bS rE;clear ha kj hb0 hT hL ih hg1;clear rE;go_in;go_wp2_with fail;refine HC.out.mono ?_;rintro e w3 ⟨b3,⟨hok,fv,rfl,hr⟩ | ⟨hok,rfl⟩⟩
 ·have HB3:=ak (HB1.out.trans (b3.mono HB1.out.size));have mv:∀ b,aS (w.alloc (vC j La Lc Ka Kc)) w3 b->w3.heap[b]?=w3.heap[b]?/\aS w w3 b:=fun b hb=>⟨rfl,by have:=hb.1;simp at this;omega,hb.2⟩;have jX:=ak (hr.move mv (iy.move (w0:=w0) mv m));have HK:=ak (HR.out.trans hok);clear b3 hr hok mv;go_wp2_with fail;go_ret;exact ⟨HB3.out,.inl ⟨HK.out,_,rfl,.inl ⟨HG.out,_,rfl,jX.out⟩⟩⟩
 ·exact ⟨rfl,HB1.out.trans (b3.mono HB1.out.size),.inr ⟨HR.out.trans hok,rfl⟩⟩
theorem J5 {Tb:World->Prop} (hL:aV Tb) (w0:lG) (f m:Nat) (ih:tZ Tb w0 f) (x:ByteArray) (j:T) (v:Value) (w:World) (hm:f<=m+1) (ha:yt w0 f v j) (hf:f<=16) (kj:bM j) (hb0:Below w0.w.heap.size w0.w w) (hT:Tb w) (Ms:x=yh) :
  Calls Tryz.prog 190 #[.string x,v] w (EF w0 m x j w):=by
 obtain ⟨g1,La,Ka,Lc,Kc,hg1,rfl,_,_,_⟩:=ha.open;have HB1:=ak (aY w (vC j La Lc Ka Kc));have HC:=ak (ih m _ j (w.alloc (vC j La Lc Ka Kc)) hm ha hf kj (hb0.trans (HB1.out.mono hb0.size)) (hL w hT _ _ hT HB1.out));have HR:Hid (yu (bE m) x j=((aj j==5&&decide (0<nL j))&&jD (bE m) j (nL j))):=by show _=_;unfold yu;rw [if_pos (.inr (.inl Ms))]
 have HG:=ak Ms;have rE:¬ x=uX:=by rw [Ms];decide
 have eAnd:(x.toList==[36,97,110,100])=false:=aF rE;have eOr:(x.toList==[36,111,114])=true:=bS Ms;clear ha kj hb0 hT hL ih hg1;clear rE Ms;go_in;go_wp2_with fail;refine HC.out.mono ?_;rintro e w3 ⟨b3,⟨hok,fv,rfl,hr⟩ | ⟨hok,rfl⟩⟩
 ·have HB3:=ak (HB1.out.trans (b3.mono HB1.out.size));have mv:∀ b,aS (w.alloc (vC j La Lc Ka Kc)) w3 b->w3.heap[b]?=w3.heap[b]?/\aS w w3 b:=fun b hb=>⟨rfl,by have:=hb.1;simp at this;omega,hb.2⟩;have jX:=ak (hr.move mv (iy.move (w0:=w0) mv m));have HK:=ak (HR.out.trans hok);clear b3 hr hok mv;go_wp2_with fail;go_ret;exact ⟨HB3.out,.inl ⟨HK.out,_,rfl,.inr (.inl ⟨HG.out,_,rfl,jX.out⟩)⟩⟩
 ·exact ⟨rfl,HB1.out.trans (b3.mono HB1.out.size),.inr ⟨HR.out.trans hok,rfl⟩⟩
theorem GR {Tb:World->Prop} (hL:aV Tb) (w0:lG) (f m:Nat) (ih:tZ Tb w0 f) (x:ByteArray) (j:T) (v:Value) (w:World) (hm:f<=m+1) (ha:yt w0 f v j) (hf:f<=16) (kj:bM j) (hb0:Below w0.w.heap.size w0.w w) (hT:Tb w) (wY:x=zi) :
  Calls Tryz.prog 190 #[.string x,v] w (EF w0 m x j w):=by
 obtain ⟨g1,La,Ka,Lc,Kc,hg1,rfl,_,_,_⟩:=ha.open;have HB1:=ak (aY w (vC j La Lc Ka Kc));have HC:=ak (ih m _ j (w.alloc (vC j La Lc Ka Kc)) hm ha hf kj (hb0.trans (HB1.out.mono hb0.size)) (hL w hT _ _ hT HB1.out));have HR:Hid (yu (bE m) x j=((aj j==5&&decide (0<nL j))&&jD (bE m) j (nL j))):=by show _=_;unfold yu;rw [if_pos (.inr (.inr wY))]
 have HG:=ak wY;have rE:¬ x=uX:=by rw [wY];decide
 have eAnd:(x.toList==[36,97,110,100])=false:=aF rE;have Ms:¬ x=yh:=by rw [wY];decide
 have eOr:(x.toList==[36,111,114])=false:=aF Ms;have ahE:(x.toList==[36,110,111,114])=true:=bS wY;clear ha kj hb0 hT hL ih hg1;clear rE Ms wY;go_in;go_wp2_with fail;refine HC.out.mono ?_;rintro e w3 ⟨b3,⟨hok,fv,rfl,hr⟩ | ⟨hok,rfl⟩⟩
 ·have HB3:=ak (HB1.out.trans (b3.mono HB1.out.size));have mv:∀ b,aS (w.alloc (vC j La Lc Ka Kc)) w3 b->w3.heap[b]?=w3.heap[b]?/\aS w w3 b:=fun b hb=>⟨rfl,by have:=hb.1;simp at this;omega,hb.2⟩;have jX:=ak (hr.move mv (iy.move (w0:=w0) mv m));have HK:=ak (HR.out.trans hok);clear b3 hr hok mv;go_wp2_with fail;go_ret;exact ⟨HB3.out,.inl ⟨HK.out,_,rfl,.inr (.inr (.inl ⟨HG.out,_,rfl,jX.out⟩))⟩⟩
 ·exact ⟨rfl,HB1.out.trans (b3.mono HB1.out.size),.inr ⟨HR.out.trans hok,rfl⟩⟩
theorem GU {Tb:World->Prop} (hS:cK Tb) (hL:aV Tb) (w0:lG) (f m:Nat) (x:ByteArray) (j:T) (v:Value) (w:World) (hx:x.size<=4000) (ha:yt w0 f v j) (hf:f<=16) (kj:bM j) (hb0:Below w0.w.heap.size w0.w w) (hT:Tb w) (hp:yj x) :
  Calls Tryz.prog 190 #[.string x,v] w (EF w0 m x j w):=by
 obtain ⟨g1,La,Ka,Lc,Kc,hg1,rfl,_,_,_⟩:=ha.open;obtain ⟨rE,Ms,wY⟩:=hp;have HP:Hid (yj x):=⟨rE,Ms,wY⟩;have HB1:=ak (aY w (vC j La Lc Ka Kc));have HR:Hid (yu (bE m) x j=((!qz x&&iW x)&&uL j)):=by show _=_;unfold yu;rw [if_neg (by rintro (h | h | h);exact rE h;exact Ms h;exact wY h)]
 have HO:=ak (iw x (w.alloc (vC j La Lc Ka Kc)));have HPp:=ak (oN hS x (w.alloc (vC j La Lc Ka Kc)) (by omega) (hL w hT _ _ hT HB1.out));have HEx:=ak (fun w' hb'=>wX w0 f _ j w' ha hf kj hb');have Hb0:=ak hb0;have eAnd:(x.toList==[36,97,110,100])=false:=aF rE;have eOr:(x.toList==[36,111,114])=false:=aF Ms;have ahE:(x.toList==[36,110,111,114])=false:=aF wY
 have HX:Hid (aJ w.heap.size (.int .i64 (aj j)) (.int .i64 (av j)) (.string (ay j)) (.slice La (nL j) Lc) (.slice Ka (nK j) Kc) (w.alloc (vC j La Lc Ka Kc))):=by
  constructor<;>simp [go_sem]
 clear ha kj hb0 hT hL hS hg1 rE Ms wY;cases hop:qz x with
 | true =>
  rw [hop] at HO;have HK:Hid (yu (bE m) x j=false):=by show _=_;rw [HR.out,hop];rfl
  clear hop;go_in;go_wp2_with fail;refine HO.out.mono ?_;rintro e w2 ⟨rfl,rfl⟩;go_wp2_with fail;refine (fO false _).mono ?_;rintro e w3 ⟨rfl,he⟩;simp only [Bool.false_eq_true,if_false] at he;subst he;exact ⟨rfl,HB1.out,.inr ⟨HK.out,rfl⟩⟩
 | false =>
  rw [hop] at HO;have HR2:Hid (yu (bE m) x j=(iW x&&uL j)):=by show _=_;rw [HR.out,hop];rfl
  clear hop HR;go_in;go_wp2_with fail;refine HO.out.mono ?_;rintro e w2 ⟨rfl,rfl⟩;go_wp2_with fail;refine (fO true _).mono ?_;rintro e w3 ⟨rfl,he⟩;simp only [if_true] at he;subst he;go_wp2_with fail;refine HPp.out.mono ?_;rintro e w4 ⟨b4,⟨hok,pv,rfl,hpv⟩ | ⟨hok,rfl⟩⟩
  ·have bT:=ak (HB1.out.trans (b4.mono HB1.out.size));have HPv:=ak hpv;have HR3:Hid (yu (bE m) x j=uL j):=by show _=_;rw [HR2.out,hok];rfl
   have Ni:=ak (HX.out.stay b4);have Hb4:=ak b4;have q0:=Ni.out.q0;have q1:=Ni.out.q1;have q2:=Ni.out.q2;have q3:=Ni.out.q3;have q4:=Ni.out.q4;clear b4 hpv hok HPp HO;go_wp2_with fail;refine (fO true _).mono ?_;rintro e w5 ⟨rfl,he⟩;simp only [if_true] at he;subst he;go_wp2_with fail;refine (HEx.out _ (Hb0.out.trans (bT.out.mono Hb0.out.size))).mono ?_;rintro e w6 ⟨b6,⟨hok,tv,rfl,htv⟩ | ⟨hok,rfl⟩⟩
   ·obtain ⟨PA,pc,rfl,hp1,hp2⟩:=HPv.out;obtain ⟨TA,tc,rfl,ht1,ht2⟩:=htv;have iN:=ak (bT.out.trans (b6.mono bT.out.size));have ahF:Hid (kY w6 (aS w w6) (.slice PA (bW x).length pc) (bW x)):=HPv.out.move fun b hb=>⟨b6.block b hb.2,by have:=hb.1;simp at this;omega,Nat.lt_of_lt_of_le hb.2 b6.size⟩
    have ahG:Hid (uK w6 (aS w w6) (fP w0 w6 (aS w w6) 16) (.slice TA (l7 j).length tc) (l7 j)):=by
     exact uK.move ⟨TA,tc,rfl,ht1,ht2⟩ (fun b hb=>⟨rfl,by have:=hb.1;have:=bT.out.size;omega,hb.2⟩) (fP.move (fun b hb=>⟨rfl,by have:=hb.1;have:=bT.out.size;omega,hb.2⟩) 16)
    have HK:=ak (HR3.out.trans hok);clear b6 hok hp1 hp2 ht1 ht2;go_wp2_with fail;go_ret;exact ⟨iN.out,.inl ⟨HK.out,_,rfl,.inr (.inr (.inr ⟨HP.out,_,_,rfl,ahF.out,ahG.out⟩))⟩⟩
   ·exact ⟨rfl,bT.out.trans (b6.mono bT.out.size),.inr ⟨HR3.out.trans hok,rfl⟩⟩
  ·have bT:=ak (HB1.out.trans (b4.mono HB1.out.size));have HK:Hid (yu (bE m) x j=false):=by show _=_;rw [HR2.out,hok];rfl
   clear b4 hok;go_wp2_with fail;refine (fO false _).mono ?_;rintro e w5 ⟨rfl,he⟩;simp only [Bool.false_eq_true,if_false] at he;subst he;exact ⟨rfl,bT.out,.inr ⟨HK.out,rfl⟩⟩
def aeT (w0:lG) (m:Nat) (w:World) (X:Nat->Prop) (cs:List Value) (y:T):Prop:=∃ u,cs=[u]/\iy w0 w X m u y
theorem qD (w0:lG) (m:Nat):u7 (aeT w0 m):=fun _ _ _ _ _ _ h hb=>by
 obtain ⟨u,hc,h⟩:=h;exact ⟨u,hc,iy.move hb m _ _ h⟩
def aaO (w0:lG) (m:Nat) (w:World) (X:Nat->Prop) (cs:List Value) (p:ByteArray×T):Prop:=∃ u,cs=[u]/\vo w0 w X (iy w0 w X m) u p.1 p.2
theorem om (w0:lG) (m:Nat):u7 (aaO w0 m):=fun _ _ _ _ _ _ h hb=>by
 obtain ⟨u,hc,h⟩:=h;exact ⟨u,hc,h.move hb (iy.move hb m)⟩
def yw (j:T):List T:=(List.range (nL j)).map (elt j)
theorem pK (j:T):(yw j).length=nL j:=by simp [yw]
theorem J6 {j:T} {i:Nat} (h:i<(yw j).length):(yw j)[i]=elt j i:=by simp [yw]
theorem RZ {j:T} {k:Nat} (h:k<nL j):(yw j).take (k+1)=(yw j).take k++[elt j k]:=by
 have hl:k<(yw j).length:=by rw [pK];exact h
 rw [List.take_succ_eq_append_getElem hl,J6]
theorem Y6 {j:T} {i:Nat} (h:i<(lZ j).length):(lZ j)[i]=(bO j i,elt j i):=by simp [lZ]
theorem Qg {α:Type} {E:World->(Nat->Prop)->List Value->α->Prop} {e:TypeId} {base:Nat} {hv:Value} {l:List α} {xs:List Value} {w wr:World} (h:sM E 1 e base hv l xs wr) (hlo:w.heap.size<=base):∃ (A:Option Addr) (c:Nat),hv=.slice A l.length c/\∀ i,(hi:i<l.length)->∃ b u,A=some ⟨b,0,none⟩/\aS w wr b/\(∀ r,Vk 1 xs i=[r]->r=u)/\wr.cell? ⟨b,0+i,none⟩=some u:=by
 have hrow:=h.row;have hx:=h.row.1;rcases h.row.2 with ⟨rfl,h0⟩ | ⟨g,cap,cur,rfl,hb0,hg,_⟩
 ·exact ⟨none,0,by rw [h0],fun i hi=>by omega⟩
 ·refine ⟨some ⟨g,0,none⟩,cap,rfl,fun i hi=>?_⟩;have hgl:=(Array.getElem?_eq_some_iff.1 hg).1;have hxi:i<xs.length:=by omega
  refine ⟨g,xs[i],rfl,⟨by omega,hgl⟩,fun r hr=>?_,?_⟩
  ·have:(Vk 1 xs i)[0]?=some r:=by rw [hr];rfl
   have:=oh this (by omega);rw [Nat.mul_one,Nat.add_zero,List.getElem?_eq_getElem hxi] at this;simpa using this.symm
  ·rw [Nat.zero_add];exact aX hrow (List.getElem?_eq_getElem hxi)
theorem aeU:(Tryz.prog.info? 92).map (fun i=>(i.zero,i.size,i.bytes))=some (some (.slice none 0 0),1,24):=by kernel_rfl
theorem aeV:(Tryz.prog.info? 175).map (fun i=>(i.zero,i.size,i.bytes))=some (some .nilIface,1,16):=by kernel_rfl
theorem iy.shape {w0:lG} {w:World} {X:Nat->Prop} {m:Nat} {u:Value} {y:T} (h:iy w0 w X m u y):∃ A c,u=.slice A (nK y) c:=by
 cases m with
 | zero=>exact h.elim
 | succ m=>obtain ⟨A,c,hv,_⟩:=h;exact ⟨A,c,hv⟩
theorem vo.shape {w0:lG} {w:World} {X:Nat->Prop} {R:Value->T->Prop} {u:Value} {x:ByteArray} {j:T} (h:vo w0 w X R u x j):∃ t v,u=.iface t v:=by
 rcases h with ⟨_,v,h,_⟩ | ⟨_,v,h,_⟩ | ⟨_,v,h,_⟩ | ⟨_,pv,tv,h,_⟩<;>exact ⟨_,_,h⟩
theorem Vr {Tb:World->Prop} (hL:aV Tb) (w0:lG) (f:Nat) (ih:Ng Tb w0 f):tZ Tb w0 (f+1):=by
 intro m v j w hm ha hf kj hb0 hT;obtain ⟨iF,hiF,zF0,zF1,zF2⟩:=info_parts aeU;obtain ⟨g1,La,Ka,Lc,Kc,hg1,rfl,hfj,hel,hnm⟩:=ha.open;obtain rfl:g1=f:=by omega
 have HB1:=ak (aY w (vC j La Lc Ka Kc));have HT:Hid (∀ w':World,Below w.heap.size w w'->Tb w'):=fun w' hb=>hL w hT w w' hT hb;have BD:=ak kj;have Qc:=ak ih;have JQ:=ak hel.out;have hnl:=kj.small.2;clear ha kj ih hel hnm hg1 hfj hT hL;by_cases hk:aj j=5/\0<nL j
 ·obtain ⟨k5,h0⟩:=hk;have e5:(aj j==5)=true:=by simpa using k5
  have h0i:(0:Int)<(nL j:Int):=by omega
  have Gx:Hid (((aj j==5&&decide (0<nL j))&&jD (bE m) j (nL j))=jD (bE m) j (nL j)):=by show _=_;rw [e5,decide_eq_true h0];rfl
  unfold Nh;rw [Gx.out];clear k5 Gx;go_in;go_wp2_with fail;refine (fO true _).mono ?_;rintro e w2 ⟨rfl,he⟩;simp only [if_true] at he;subst he;go_wp2_with fail;go_loopg [3,19] (nL j) (fun g o i wr=>∃ (k:Nat) (xs:List Value),g=nL j - k/\k<=nL j/\i=.int .i64 k/\Hid (Below (w.heap.size+1) (w.alloc (vC j La Lc Ka Kc)) wr)/\Hid (sM (aeT w0 m) 1 92 (w.heap.size+1) o ((yw j).take k) xs wr)/\Hid (jD (bE m) j k=true))
  case atStart=>exact ⟨0,[],rfl,Nat.zero_le _,rfl,Below.refl _ _,sM.nil _ _ _ _ _,rfl⟩
  case round =>
   obtain ⟨k,xs,rfl,hk,rfl,HB,HL,HN⟩:=hrel;obtain ⟨q0,q1,q2,q3,q4,hz,hbw⟩:=dz HB.out;have qb:=ak (hb0.trans (hbw.mono hb0.size));have iq:=ak hbw;clear hbw;by_cases hlt:k<nL j
   ·obtain ⟨bb,oo,A,B,C,D,rfl,hbl,p0,p1,p2,p3,p4,Ha⟩:=JQ.out.shape qb.out k hlt;have vY:=ak (aY wr (vC (elt j k) A B C D));have HC:=ak (Qc.out m _ (elt j k) (wr.alloc (vC (elt j k) A B C D)) (by omega) Ha.out (by omega) (BD.out.elt hlt) (qb.out.trans (vY.out.mono qb.out.size)) (HT.out _ (iq.out.trans (vY.out.mono iq.out.size))));have HA:Hid (jD (bE m) j (k+1)=bE m (elt j k)):=by show _=_;rw [jD,HN.out];simp
    have HA2:Hid (bE m (elt j k)=false->jD (bE m) j (nL j)=false):=fun h=>Pw hlt h;have IX:=ak (RZ hlt);have hxl:((yw j).take k).length=k:=by rw [List.length_take,pK];omega
    go_wp2_with fail;refine HC.out.mono ?_;rintro e w3 ⟨b3,⟨hok,fv,rfl,ht⟩ | ⟨hok,rfl⟩⟩
    ·obtain ⟨A6,c6,rfl⟩:=ht.shape;have tV:=ak (HA.out.trans hok);have Y4:=ak ht;have Hb3:=ak (vY.out.trans (b3.mono vY.out.size));have bT:=ak (aY w3 (.cells #[.slice A6 (nK (elt j k)) c6] 92));have uI:=ak ((HL.out.keep (qD w0 m) Hb3.out).keep (qD w0 m) bT.out);have sK:Hid (Src Tryz.prog 1 237 (.slice (some ⟨w3.heap.size,0,none⟩) 1 1) 1 [.slice A6 (nK (elt j k)) c6] (w3.alloc (.cells #[.slice A6 (nK (elt j k)) c6] 92))):=Src.ofSlice _ Tryz.underlying237 ⟨w3.heap.size,0,none⟩ 1 1 [.slice A6 (nK (elt j k)) c6] (by simp) (World.news_of_block (heap_alloc_new w3 _)) (by simp [Value.oneCell']);have hlo:w.heap.size+1<=(w3.alloc (.cells #[.slice A6 (nK (elt j k)) c6] 92)).heap.size:=by have:=Hb3.out.size;simp;omega
     have YR:Hid (∀ b,aS (wr.alloc (vC (elt j k) A B C D)) w3 b->wr.heap.size<=b/\b<w3.heap.size):=fun b hb=>⟨by have:=hb.1;simp at this;omega,hb.2⟩;clear b3 hok ht HC HA HA2;go_wp2_with (at_builtin;refine aG _ rfl (.tmp 23) (.tmp 26) 237 237 rfl (w.heap.size+1) 92 iF _ 1 24 Tryz.underlying237 hiF zF0 zF1 zF2 rfl u3 ((yw j).take k).length xs rfl uI.out.row (.slice (some ⟨w3.heap.size,0,none⟩) 1 1) 1 [.slice A6 (nK (elt j k)) c6] rfl sK.out (by unfold maxLen;omega) (by omega) hlo ?_;intro v' w6 qX nu dV);have Dl:=ak (HL.out.grow (x:=elt j k) (cs:=[.slice A6 (nK (elt j k)) c6]) (qD w0 m) (Hb3.out.trans (bT.out.mono Hb3.out.size)) rfl (qD w0 m _ _ _ _ _ _ ⟨_,rfl,Y4.out⟩ (fun b hb=>⟨bT.out.block b hb.2,hb⟩)) (fun b hb=>⟨(YR.out b hb).1,Nat.lt_of_lt_of_le hb.2 bT.out.size⟩) (by omega) qX nu dV);have iN:=ak (dx ((HB.out.trans (Hb3.out.mono (by omega))).trans (bT.out.mono (by have:=Hb3.out.size;omega))) uI.out.row (Nat.le_refl _) (by omega) nu);rw [<- IX.out] at Dl;clear qX nu dV;go_wp2_with fail;go_roundg (nL j - (k+1))
     case rel=>exact ⟨k+1,_,rfl,by omega,by go_num,iN,Dl,tV⟩
     case measure=>omega
    ·have HA4:=ak (HA2.out hok);exact ⟨rfl,iq.out.trans ((vY.out.trans (b3.mono vY.out.size)).mono iq.out.size),.inr ⟨HA4.out,rfl⟩⟩
   ·obtain rfl:k=nL j:=by omega
    have YU:Hid ((yw j).take (nL j)=yw j):=by show _=_;rw [List.take_of_length_le (by rw [pK];omega)]
    rw [YU.out] at HL
    have jX:Hid (vg wr (aS w wr) (iy w0 wr (aS w wr) m) u3 j):=by
     obtain ⟨A,c,hv,hr⟩:=Qg (w:=w) HL.out (by omega);rw [pK] at hv;refine ⟨A,c,hv,by omega,fun i hi=>?_⟩;obtain ⟨b,u,h1,h2,h3,h4⟩:=hr i (by rw [pK];exact hi);obtain ⟨u',h5,h6⟩:=HL.out.el i (by rw [pK];exact hi);have h7:=h3 u' h5;subst h7;rw [J6] at h6;exact ⟨b,0,u',h1,h2,h4,iy.move (fun b hb=>⟨rfl,by have:=hb.1;omega,hb.2.1⟩) m _ _ h6⟩
    go_wp2_with fail;go_ret;exact ⟨iq.out,.inl ⟨HN.out,_,rfl,jX.out⟩⟩
 ·have Gx:Hid (((aj j==5&&decide (0<nL j))&&jD (bE m) j (nL j))=false):=by
   show _=_;by_cases k5:aj j=5
   ·rw [decide_eq_false (fun h=>hk ⟨k5,h⟩)];simp
   ·rw [beq_eq_false_iff_ne.2 k5];rfl
  unfold Nh;rw [Gx.out];by_cases k5:aj j=5
  ·have e5:(aj j==5)=true:=by simpa using k5
   have hd0:decide (0<nL j)=false:=decide_eq_false (fun h=>hk ⟨k5,h⟩);clear hk k5 Gx;go_in;go_wp2_with fail;refine (fO false _).mono ?_;rintro e w2 ⟨rfl,he⟩;simp only [Bool.false_eq_true,if_false] at he;subst he;exact ⟨rfl,HB1.out,.inr ⟨trivial,rfl⟩⟩
  ·have e5:(aj j==5)=false:=by simpa using k5
   clear hk k5 Gx;go_in;go_wp2_with fail;refine (fO false _).mono ?_;rintro e w2 ⟨rfl,he⟩;simp only [Bool.false_eq_true,if_false] at he;subst he;exact ⟨rfl,HB1.out,.inr ⟨trivial,rfl⟩⟩
end Go.Proofs.YtknakfpciccoaaaGreatDoor
