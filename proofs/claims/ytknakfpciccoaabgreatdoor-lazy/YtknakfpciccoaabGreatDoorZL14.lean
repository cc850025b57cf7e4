import Derived.Test.YtknakfpciccoaabGreatDoorZL13
import Derived.Test.YtknakfpciccoaabGreatDoorZL7
/- The walk of parseTests. -/
set_option maxHeartbeats 4000000
set_option maxRecDepth 100000
namespace Go.Proofs.YtknakfpciccoaabGreatDoor
open Go.RowKit
theorem Rt (w0:lN) (f m:Nat) (op:ByteArray) (j:T) (v:Value) (ih:Bf w0 f) (w:World) (hop:op.size<=140737488355328) (ha:xS w0 f v j) (hm:f<=m) (hf:f<=16) (kj:bM j) (hb0:Below w0.w.heap.size w0.w w) :
  Calls Tryz.prog 174 #[.string op,v] w (Gm w0 m op j w):=by
 obtain ⟨g1,La,Ka,Lc,Kc,_,rfl,_,_,_⟩:=ha.open;by_cases hi:jZ op
 ·exact Rs w0 m op j La Ka Lc Kc f ih w hop ha hm hf kj hb0 hi
 ·exact MG w0 m op j La Ka Lc Kc f w hop ha hf kj hi
theorem ae9:(Tryz.prog.info? 233).map (fun i=>(i.zero,i.size,i.bytes))=some (some (.agg #[.string ⟨#[]⟩,.int .i64 0,.int .i64 0,.string ⟨#[]⟩,.slice none 0 0,.slice none 0 0,.slice none 0 0]),7,120):=by kernel_rfl
theorem bY {B base:Nat} {w wr w2:World} {e:TypeId} {s n:Nat} {hv:Value} {xs:List Value} (h:Below B w wr) (hrow:wr.ownsRow base e s hv n xs) (hBb:B<=base) (hBs:B<=wr.heap.size) (hG:wr.grownBy w2 hv.ownBlock):Below B w w2 :=
 h.trans ⟨hG.os,hG.tape,hG.output,hG.size,fun k hk=>hG.block k (by omega) (fun e=>by have:=(Gl hrow e.symm).1;omega)⟩
theorem oF {s:Nat} {xs:List Value} {i r:Nat} {u:Value} (h:(UO s xs i)[r]?=some u) (hr:r<s):xs[i*s+r]?=some u:=by
 unfold UO at h;rw [List.getElem?_take,if_pos hr,List.getElem?_drop] at h;exact h
theorem aW {w:World} {base:Nat} {e:TypeId} {s n g cap:Nat} {xs:List Value} (h:w.ownsRow base e s (.slice (some ⟨g,0,none⟩) n cap) n xs) {j:Nat} {u:Value} (hj:xs[j]?=some u):w.cell? ⟨g,j,none⟩=some u:=by
 have h1:=h.cells (g:=g) rfl j u hj;have e1:((⟨g,0,none⟩:Addr).add j)=⟨g,j,none⟩:=by simp [Addr.add];intro h;exact h.symm
 rw [e1] at h1;exact h1
theorem Y1 {w0:lN} {m base:Nat} {hv:Value} {ps:List (ByteArray×T)} {xs:List Value} {w wr:World} (h:ru (UR w0 m) 7 233 base hv ps xs wr) (hlo:w.heap.size<=base) (hn:ps.length<=1000000000):uj wr (aT w wr) (fU w0 wr (aT w wr) m) hv ps:=by
 obtain ⟨hx,hc⟩:=h.row;have hrow:=h.row;rcases hc with ⟨rfl,h0⟩ | ⟨g,cap,cur,rfl,hb0,hg,_⟩
 ·exact ⟨none,0,by rw [h0],hn,fun i hi=>by omega⟩
 ·refine ⟨some ⟨g,0,none⟩,cap,rfl,hn,fun i hi=>?_⟩;obtain ⟨c0,c1,c2,c3,c4,c5,c6,hcs,ht⟩:=h.el i hi;have hgl:=(Array.getElem?_eq_some_iff.1 hg).1
  have cc:∀ r u,r<7->(UO 7 xs i)[r]?=some u->wr.cell? ⟨g,0+i*7+r,none⟩=some u:=fun r u hr hu=>by
   rw [Nat.zero_add];exact aW hrow (oF hu hr)
  refine ⟨g,0,c0,c1,c2,c3,c4,c5,c6,rfl,⟨by omega,hgl⟩,?_,?_,?_,?_,?_,?_,?_,fU.move (fun b hb=>⟨rfl,by have:=hb.1;omega,hb.2.1⟩) m _ _ _ _ _ _ _ _ ht⟩
  ·exact cc 0 c0 (by omega) (by rw [hcs];rfl)
  ·exact cc 1 c1 (by omega) (by rw [hcs];rfl)
  ·exact cc 2 c2 (by omega) (by rw [hcs];rfl)
  ·exact cc 3 c3 (by omega) (by rw [hcs];rfl)
  ·exact cc 4 c4 (by omega) (by rw [hcs];rfl)
  ·exact cc 5 c5 (by omega) (by rw [hcs];rfl)
  ·exact cc 6 c6 (by omega) (by rw [hcs];rfl)
theorem mh (j:T):(mg j).length=nK j:=by simp [mg]
theorem JJ {j:T} {k:Nat} (h:k<nK j):(mg j).take (k+1)=(mg j).take k++[(bR j k,elt j k)]:=by
 have hl:k<(mg j).length:=by rw [mh];exact h
 rw [List.take_succ_eq_append_getElem hl];simp [mg]
theorem fU.shape {w0:lN} {w:World} {X:Nat->Prop} {m:Nat} {c0 c1 c2 c3 c4 c5 c6:Value} {p:ByteArray×T} (h:fU w0 w X m c0 c1 c2 c3 c4 c5 c6 p):∃ s0 n1 n2 s3 A4 l4 k4 A5 l5 k5 A6 l6 k6,c0=.string s0/\c1=.int .i64 n1/\c2=.int .i64 n2/\c3=.string s3/\c4=.slice A4 l4 k4/\c5=.slice A5 l5 k5/\c6=.slice A6 l6 k6:=by
 cases m with
 | zero=>exact h.elim
 | succ m =>
  obtain ⟨h0,_,⟨_,h1,h2,h3,h4,h5,A,c,h6,_⟩ | ⟨_,h6,g,A,B,C,D,_,h1,h2,h3,h4,h5,_⟩⟩:=h
  ·exact ⟨_,_,_,_,_,_,_,_,_,_,_,_,_,h0,h1,h2,h3,h4,h5,h6⟩
  ·exact ⟨_,_,_,_,_,_,_,_,_,_,_,_,_,h0,h1,h2,h3,h4,h5,h6⟩
theorem UU (w0:lN) (f:Nat) (ih:Bf w0 f):Bf w0 (f+1):=by
 intro m v j w hm ha hf kj hb0;obtain ⟨m,rfl⟩:∃ x,m=x+1:=⟨m - 1,by omega⟩;obtain ⟨iT,hiT,zT0,zT1,zT2⟩:=info_parts ae9;obtain ⟨g1,La,Ka,Lc,Kc,hg1,rfl,hfj,hel,hnm⟩:=ha.open;obtain rfl:g1=f:=by omega
 have HB1:=aj (aQ w (vC j La Lc Ka Kc));have Gp:=aj (hb0.trans (HB1.out.mono hb0.size));have zu:=aj kj;have Pw:=aj ih;have Gd:=aj hel.out;have Y2:=aj hnm.out;have hnk:=kj.small.1;have hnl:=kj.small.2;clear ha kj ih hel hnm hg1 hfj;by_cases hk:ah j=6/\0<nK j
 ·obtain ⟨k6,h0⟩:=hk;have e6:(ah j==6)=true:=by simpa using k6
  have h0i:(0:Int)<(nK j:Int):=by omega
  have HKL:=aj (zu.out.names k6);have Gc:Hid (jX (m+1) j=rY (fun i=>nI (jX m) (bR j i) (elt j i)) (nK j)):=by show _=_;rw [jX,e6,decide_eq_true h0];rfl
  clear k6;go_in;go_wp2_with fail;refine (fQ true _).mono ?_;rintro e w2 ⟨rfl,he⟩;simp only [if_true] at he;subst he;go_wp2_with fail;go_loopg [3,19] (nK j) (fun g o i wr=>∃ (k:Nat) (xs:List Value),g=nK j - k/\k<=nK j/\i=.int .i64 k/\Hid (Below (w.heap.size+1) (w.alloc (vC j La Lc Ka Kc)) wr)/\Hid (ru (UR w0 (m+1)) 7 233 (w.heap.size+1) o ((mg j).take k) xs wr)/\Hid (rY (fun i=>nI (jX m) (bR j i) (elt j i)) k=true))
  case atStart=>exact ⟨0,[],rfl,Nat.zero_le _,rfl,Below.refl _ _,ru.nil _ _ _ _ _,rfl⟩
  case round =>
   obtain ⟨k,xs,rfl,hk,rfl,HB,HL,HN⟩:=hrel;obtain ⟨q0,q1,q2,q3,q4,hz,hbw⟩:=dB HB.out;have nR:=aj (hb0.trans (hbw.mono hb0.size));have gQ:=aj hbw;clear hbw;by_cases hlt:k<nK j
   ·have rZ:k<nL j:=by have:=HKL.out;omega
    obtain ⟨kb,ko,rfl,hkb,hks,hkc⟩:=Y2.out.keep nR.out k hlt;obtain ⟨bb,oo,A,B,C,D,rfl,hbl,p0,p1,p2,p3,p4,Ha⟩:=Gd.out.shape nR.out k rZ;have HC:=aj (Rt w0 g1 m (bR j k) (elt j k) _ Pw.out wr hks Ha.out (by omega) (by omega) (zu.out.elt rZ) nR.out);have HA:Hid (rY (fun i=>nI (jX m) (bR j i) (elt j i)) (k+1)=nI (jX m) (bR j k) (elt j k)):=by show _=_;rw [rY,HN.out];simp
    have HA2:Hid (nI (jX m) (bR j k) (elt j k)=false->jX (m+1) j=false):=fun h=>by rw [Gc.out];exact zZ (p:=fun i=>nI (jX m) (bR j i) (elt j i)) h _ hlt
    have CY:=aj (JJ hlt);have hxl:((mg j).take k).length=k:=by rw [List.length_take,mh];omega
    go_wp2_with fail;refine HC.out.mono ?_;rintro e w3 ⟨b3,⟨hok,c0,c1,c2,c3,c4,c5,c6,rfl,ht⟩ | ⟨hok,rfl⟩⟩
    ·obtain ⟨s0,n1,n2,s3,A4,l4,k4,A5,l5,k5,A6,l6,k6,rfl,rfl,rfl,rfl,rfl,rfl,rfl⟩:=ht.shape;have tu:=aj (HA.out.trans hok);have UW:=aj ht;have bT:=aj (aQ w3 (.cells #[.string s0,.int .i64 n1,.int .i64 n2,.string s3,.slice A4 l4 k4,.slice A5 l5 k5,.slice A6 l6 k6] 233));have rH:=aj ((HL.out.keep (oD w0 (m+1)) b3).keep (oD w0 (m+1)) bT.out);have qy:Hid (Src Tryz.prog 7 210 (.slice (some ⟨w3.heap.size,0,none⟩) 1 1) 1 [.string s0,.int .i64 n1,.int .i64 n2,.string s3,.slice A4 l4 k4,.slice A5 l5 k5,.slice A6 l6 k6] (w3.alloc (.cells #[.string s0,.int .i64 n1,.int .i64 n2,.string s3,.slice A4 l4 k4,.slice A5 l5 k5,.slice A6 l6 k6] 233))):=Src.ofSlice _ Tryz.underlying210 ⟨w3.heap.size,0,none⟩ 1 1 [.string s0,.int .i64 n1,.int .i64 n2,.string s3,.slice A4 l4 k4,.slice A5 l5 k5,.slice A6 l6 k6] (by simp) (World.news_of_block (heap_alloc_new w3 _)) (by simp [Value.oneCell']);have Hb3:=aj b3;have hlo:w.heap.size+1<=(w3.alloc (.cells #[.string s0,.int .i64 n1,.int .i64 n2,.string s3,.slice A4 l4 k4,.slice A5 l5 k5,.slice A6 l6 k6] 233)).heap.size:=by have:=b3.size;simp;omega
     clear b3 hok ht HC HA HA2;go_wp2_with (at_builtin;refine aD _ rfl (.tmp 24) (.tmp 32) 210 210 rfl (w.heap.size+1) 233 iT _ 7 120 Tryz.underlying210 hiT zT0 zT1 zT2 rfl u3 ((mg j).take k).length xs rfl rH.out.row (.slice (some ⟨w3.heap.size,0,none⟩) 1 1) 1 [.string s0,.int .i64 n1,.int .i64 n2,.string s3,.slice A4 l4 k4,.slice A5 l5 k5,.slice A6 l6 k6] rfl qy.out (by unfold maxLen;omega) (by omega) hlo ?_;intro v' w6 pV lZ dW);have zn:=aj (HL.out.grow (x:=(bR j k,elt j k)) (cs:=[.string s0,.int .i64 n1,.int .i64 n2,.string s3,.slice A4 l4 k4,.slice A5 l5 k5,.slice A6 l6 k6]) (oD w0 (m+1)) (Hb3.out.trans (bT.out.mono Hb3.out.size)) rfl (oD w0 (m+1) _ _ _ _ _ _ ⟨_,_,_,_,_,_,_,rfl,UW.out⟩ (fun b hb=>⟨bT.out.block b hb.2,hb⟩)) (fun b hb=>⟨hb.1,Nat.lt_of_lt_of_le hb.2 bT.out.size⟩) (by omega) pV lZ dW);have iq:=aj (bY ((HB.out.trans (Hb3.out.mono (by omega))).trans (bT.out.mono (by have:=Hb3.out.size;omega))) rH.out.row (Nat.le_refl _) (by omega) lZ);rw [<- CY.out] at zn;clear pV lZ dW;go_wp2_with fail;go_roundg (nK j - (k+1))
     case rel=>exact ⟨k+1,_,rfl,by omega,by go_num,iq,zn,tu⟩
     case measure=>omega
    ·have HA4:=aj (HA2.out hok);exact ⟨rfl,gQ.out.trans (b3.mono gQ.out.size),.inr ⟨HA4.out,rfl⟩⟩
   ·obtain rfl:k=nK j:=by omega
    have YU:Hid ((mg j).take (nK j)=mg j):=by show _=_;rw [List.take_of_length_le (by rw [mh];omega)]
    rw [YU.out] at HL;have jW:=aj (Y1 (w:=w) HL.out (by omega) (by rw [mh];omega));have ab4:=aj (Gc.out.trans HN.out);go_wp2_with fail;go_ret;exact ⟨gQ.out,.inl ⟨ab4.out,_,rfl,jW.out⟩⟩
 ·have Gc:Hid (jX (m+1) j=false):=by
   show _=_;rw [jX];by_cases k6:ah j=6
   ·rw [decide_eq_false (fun h=>hk ⟨k6,h⟩)];simp
   ·rw [beq_eq_false_iff_ne.2 k6];rfl
  by_cases k6:ah j=6
  ·have e6:(ah j==6)=true:=by simpa using k6
   have h0:¬ (0:Int)<(nK j:Int):=fun h=>hk ⟨k6,by omega⟩;have hd0:decide (0<nK j)=false:=decide_eq_false (fun h=>hk ⟨k6,h⟩);clear hk k6 h0;go_in;go_wp2_with fail;refine (fQ false _).mono ?_;rintro e w2 ⟨rfl,he⟩;simp only [Bool.false_eq_true,if_false] at he;subst he;exact ⟨rfl,HB1.out,.inr ⟨Gc.out,rfl⟩⟩
  ·have e6:(ah j==6)=false:=by simpa using k6
   clear hk k6;go_in;go_wp2_with fail;refine (fQ false _).mono ?_;rintro e w2 ⟨rfl,he⟩;simp only [Bool.false_eq_true,if_false] at he;subst he;exact ⟨rfl,HB1.out,.inr ⟨Gc.out,rfl⟩⟩
theorem Pz (w0:lN):∀ f,Bf w0 f
 | 0=>fun _ _ _ _ _ h=>h.elim
 | f+1=>UU w0 f (Pz w0 f)
theorem iD (x:ByteArray) (w:World):Calls Tryz.prog 142 #[.string x] w fun e w'=>e=.returned (.bool (oU x))/\w'=w:=by
 have HC:Hid (Calls Tryz.prog 158 #[.string x,.string ⟨#[36]⟩] w fun e w'=>e=.returned (.bool (oU x))/\w'=w):=AB x ⟨#[36]⟩ w;generalize oU x=r at HC;go_in;go_wp2_with fail;refine HC.out.mono ?_;rintro e w2 ⟨rfl,rfl⟩;go_wp2_with fail;go_ret;exact ⟨rfl,rfl⟩
theorem wL (v:Value) (l:List ByteArray) (x:ByteArray) (w:World) (h:bO w v l) :
  Calls Tryz.prog 86 #[v,.string x] w fun e w'=>e=.returned (.bool ((jM x l).isSome))/\w'=w:=by
 have HC:=aj (pU v l x w h);clear h;cases hi:jM x l with
 | some k =>
  rw [hi] at HC;simp only [F9] at HC;clear hi;go_in;go_wp2_with fail;refine HC.out.mono ?_;rintro e w2 ⟨rfl,rfl⟩;go_wp2_with fail;go_ret;exact ⟨rfl,rfl⟩
 | none =>
  rw [hi] at HC;simp only [F9] at HC;clear hi;go_in;go_wp2_with fail;refine HC.out.mono ?_;rintro e w2 ⟨rfl,rfl⟩;go_wp2_with fail;go_ret;exact ⟨rfl,rfl⟩
def lu (w:World) (X:Nat->Prop) (v:Value) (l:List ByteArray):Prop :=
 ∃ (A:Option Addr) (c:Nat),v=.slice A l.length c/\l.length<=8796093022208/\∀ i,i<l.length->∃ b o,A=some ⟨b,o,none⟩/\X b/\(l.getD i ByteArray.empty).size<=140737488355328/\w.cell? ⟨b,o+i,none⟩=some (.string (l.getD i ByteArray.empty))
theorem lu.move {w w':World} {X X':Nat->Prop} {v:Value} {l:List ByteArray} (h:lu w X v l) (hb:∀ b,X b->w'.heap[b]?=w.heap[b]?/\X' b):lu w' X' v l:=by
 obtain ⟨A,c,hv,hl,h⟩:=h;refine ⟨A,c,hv,hl,fun i hi=>?_⟩;obtain ⟨b,o,h0,h1,h2,h3⟩:=h i hi;obtain ⟨h4,h5⟩:=hb b h1;exact ⟨b,o,h0,h5,h2,(aC h4 _).trans h3⟩
theorem lu.at {w:World} {X:Nat->Prop} {v:Value} {l:List ByteArray} (h:lu w X v l) (hX:∀ b,X b->b<w.heap.size):bO w v l:=by
 obtain ⟨A,c,hv,hl,h⟩:=h;refine ⟨A,c,hv,hl,fun i hi=>?_⟩;obtain ⟨b,o,h0,h1,h2,h3⟩:=h i hi;exact ⟨b,o,h0,hX b h1,h2,h3⟩
def dw (Tb:World->Prop):Prop:=∀ (x:ByteArray) (w:World),x.size<=1048576->Tb w->Calls Tryz.prog 159 #[.string x,.string ⟨#[46]⟩] w fun e w'=>Below w.heap.size w w'/\∃ v,e=.returned v/\lu w' (aT w w') v (bV x)
def iY (x:ByteArray):Bool:=(jM ⟨#[]⟩ (bV x)).isNone
def UY (x:ByteArray) (w:World) (e:Ending) (w':World):Prop:=Below w.heap.size w w'/\((iY x=true/\∃ v,e=.returned (.tuple #[v,.bool true])/\lu w' (aT w w') v (bV x))\/(iY x=false/\e=.returned (.tuple #[.slice none 0 0,.bool false])))
theorem oV {Tb:World->Prop} (hS:dw Tb) (x:ByteArray) (w:World) (hx:x.size<=1048576) (hT:Tb w):Calls Tryz.prog 143 #[.string x] w (UY x w):=by
 have HS:=aj (hS x w hx hT);clear hS hT;go_in;go_wp2_with fail;refine HS.out.mono ?_;rintro e w2 ⟨b2,v,rfl,hv⟩;have HV:=aj hv;have HB:=aj b2;have HC:=aj (wL v (bV x) ⟨#[]⟩ w2 (hv.at fun b hb=>hb.2));have HP:Hid (iY x=!((jM ⟨#[]⟩ (bV x)).isSome)):=by show _=_;unfold iY;cases jM ⟨#[]⟩ (bV x)<;>rfl
 clear b2 hv;generalize (jM ⟨#[]⟩ (bV x)).isSome=r at HC HP;go_wp2_with fail;refine HC.out.mono ?_;rintro e w3 ⟨rfl,rfl⟩;cases r with
 | true =>
  go_wp2_with fail;go_ret2;exact ⟨HB.out,.inr ⟨HP.out,rfl⟩⟩
 | false =>
  go_wp2_with fail;go_ret2;exact ⟨HB.out,.inl ⟨HP.out,_,rfl,HV.out⟩⟩
def yT (j:T):Prop:=ah j=6/\0<nK j/\oU (bR j 0)=true
instance (j : T) : Decidable (yT j) := by unfold yT; infer_instance
def um (j:T):Bool:=if yT j then jX 16 j else true
theorem UZ {j:T} (h:yT j):kF j=mg j:=by unfold kF;exact if_pos h
theorem Y3 {j:T} (h:¬ yT j):kF j=[(wG,j)]:=by unfold kF;exact if_neg h
def ab5 (w0:lN) (j:T) (w:World) (e:Ending) (w':World):Prop :=
 Below w.heap.size w w'/\((um j=true/\∃ tv,e=.returned tv/\uj w' (aT w w') (fU w0 w' (aT w w') 16) tv (kF j))\/(um j=false/\e=kK 8))
theorem U0 (w0:lN) (w:World) (j:T) (La Ka:Option Addr) (Lc Kc:Nat) (f:Nat) (ha:xS w0 f (.agg #[.int .i64 (ah j),.int .i64 (au j),.string (ay j),.slice La (nL j) Lc,.slice Ka (nK j) Kc]) j) (hf:f<=16) (kj:bM j):uj ((w.alloc (vC j La Lc Ka Kc)).alloc (.cells #[.string ⟨#[36,101,113]⟩,.int .i64 (ah j),.int .i64 (au j),.string (ay j),.slice La (nL j) Lc,.slice Ka (nK j) Kc,.slice none 0 0] 233)) (aT w ((w.alloc (vC j La Lc Ka Kc)).alloc (.cells #[.string ⟨#[36,101,113]⟩,.int .i64 (ah j),.int .i64 (au j),.string (ay j),.slice La (nL j) Lc,.slice Ka (nK j) Kc,.slice none 0 0] 233))) (fU w0 ((w.alloc (vC j La Lc Ka Kc)).alloc (.cells #[.string ⟨#[36,101,113]⟩,.int .i64 (ah j),.int .i64 (au j),.string (ay j),.slice La (nL j) Lc,.slice Ka (nK j) Kc,.slice none 0 0] 233)) (aT w ((w.alloc (vC j La Lc Ka Kc)).alloc (.cells #[.string ⟨#[36,101,113]⟩,.int .i64 (ah j),.int .i64 (au j),.string (ay j),.slice La (nL j) Lc,.slice Ka (nK j) Kc,.slice none 0 0] 233))) 16) (.slice (some ⟨w.heap.size+1,0,none⟩) 1 1) [(wG,j)]:=by
 refine ⟨some ⟨w.heap.size+1,0,none⟩,1,rfl,by simp,fun i hi=>?_⟩;obtain rfl:i=0:=by simp at hi;omega
 refine ⟨w.heap.size+1,0,_,_,_,_,_,_,_,rfl,⟨by omega,by simp⟩,by simp [go_sem];rfl,by simp [go_sem];rfl,by simp [go_sem];rfl,by simp [go_sem];rfl,by simp [go_sem];rfl,by simp [go_sem];rfl,by simp [go_sem];rfl,?_⟩;exact ⟨rfl,(show wG.size<=140737488355328 by decide),.inr ⟨(show ¬ jZ wG by decide),rfl,f,La,Lc,Ka,Kc,hf,rfl,rfl,rfl,rfl,rfl,ha,kj⟩⟩
theorem wM (w0:lN) (f:Nat) (v:Value) (j:T) (w:World) (ha:xS w0 f v j) (hf:f<=16) (kj:bM j) (hb0:Below w0.w.heap.size w0.w w):Calls Tryz.prog 144 #[v] w (ab5 w0 j w):=by
 obtain ⟨g1,La,Ka,Lc,Kc,hg1,rfl,hfj,hel,hnm⟩:=ha.open;have HB1:=aj (aQ w (vC j La Lc Ka Kc));have HB2:Hid (Below w.heap.size w ((w.alloc (vC j La Lc Ka Kc)).alloc (.cells #[.string ⟨#[36,101,113]⟩,.int .i64 (ah j),.int .i64 (au j),.string (ay j),.slice La (nL j) Lc,.slice Ka (nK j) Kc,.slice none 0 0] 233))):=(aQ _ _).alloc (by simp) _;have HP:=aj (Pz w0 f 16 _ j (w.alloc (vC j La Lc Ka Kc)) hf ha hf kj (hb0.trans (HB1.out.mono hb0.size)));have ab6:=aj (U0 w0 w j La Ka Lc Kc f ha hf kj);have CZ:Hid (¬ yT j->um j=true/\kF j=[(wG,j)]):=fun h=>⟨by unfold um;exact if_neg h,Y3 h⟩;have hnk:=kj.small.1;by_cases k6:ah j=6
 ·have e6:(ah j==6)=true:=by simpa using k6
  by_cases h0:0<nK j
  ·have h0i:(0:Int)<(nK j:Int):=by omega
   obtain ⟨kb,ko,rfl,hkb,hks,hkc⟩:=hnm.out.keep (hb0.trans (HB1.out.mono hb0.size)) 0 h0;rw [Nat.add_zero] at hkc;have HO:=aj (iD (bR j 0));cases hop:oU (bR j 0) with
   | true =>
    have ab7:yT j:=⟨k6,h0,hop⟩;have HX:=aj (UZ ab7);have HK:Hid (um j=jX 16 j):=by show _=_;unfold um;exact if_pos ab7
    rw [hop] at HO;clear hop ab7 k6 ha kj hel hnm hfj hb0 hg1;go_in;go_wp2_with fail;refine (HO.out _).mono ?_;rintro e w2 ⟨rfl,rfl⟩;go_wp2_with fail;refine HP.out.mono ?_;rintro e w3 ⟨b3,⟨hok,tv,rfl,hr⟩ | ⟨hok,rfl⟩⟩
    ·have HB3:=aj (HB1.out.trans (b3.mono HB1.out.size))
     have HR3:Hid (uj w3 (aT w w3) (fU w0 w3 (aT w w3) 16) tv (kF j)):=by
      show uj _ _ _ _ _;rw [HX.out];exact hr.move (fun b hb=>⟨rfl,by have:=hb.1;simp at this;omega,hb.2⟩) (fU.move (fun b hb=>⟨rfl,by have:=hb.1;simp at this;omega,hb.2⟩) 16)
     have Cw:=aj (HK.out.trans hok);clear b3 hr hok;go_wp2_with fail;go_ret;exact ⟨HB3.out,.inl ⟨Cw.out,_,rfl,HR3.out⟩⟩
    ·exact ⟨rfl,HB1.out.trans (b3.mono HB1.out.size),.inr ⟨HK.out.trans hok,rfl⟩⟩
   | false =>
    have HN:=aj (CZ.out (fun h=>by rw [h.2.2] at hop;cases hop));rw [hop] at HO;clear hop k6 ha kj hel hnm hfj hb0 hg1 CZ;go_in;go_wp2_with fail;refine (HO.out _).mono ?_;rintro e w2 ⟨rfl,rfl⟩;go_wp2_with fail;go_ret;exact ⟨HB2.out,.inl ⟨HN.out.1,_,rfl,by rw [HN.out.2];exact ab6.out⟩⟩
  ·have hd0:decide (0<nK j)=false:=decide_eq_false h0;have HN:=aj (CZ.out (fun h=>h0 h.2.1));clear h0 k6 ha kj hel hnm hfj hb0 hg1 CZ;go_in;go_wp2_with fail;go_ret;exact ⟨HB2.out,.inl ⟨HN.out.1,_,rfl,by rw [HN.out.2];exact ab6.out⟩⟩
 ·have e6:(ah j==6)=false:=by simpa using k6
  have HN:=aj (CZ.out (fun h=>k6 h.1));clear k6 ha kj hel hnm hfj hb0 hg1 CZ;go_in;go_wp2_with fail;go_ret;exact ⟨HB2.out,.inl ⟨HN.out.1,_,rfl,by rw [HN.out.2];exact ab6.out⟩⟩
def uN (w:World) (X:Nat->Prop) (R:Value->T->Prop) (v:Value) (j:T):Prop :=
 ∃ (A:Option Addr) (c:Nat),v=.slice A (nL j) c/\nL j<=1000000000/\∀ i,i<nL j->∃ b o u,A=some ⟨b,o,none⟩/\X b/\w.cell? ⟨b,o+i,none⟩=some u/\R u (elt j i)
theorem uN.move {w w':World} {X X':Nat->Prop} {R R':Value->T->Prop} {v:Value} {j:T} (h:uN w X R v j) (hb:∀ b,X b->w'.heap[b]?=w.heap[b]?/\X' b) (hR:∀ u y,R u y->R' u y):uN w' X' R' v j:=by
 obtain ⟨A,c,hv,hn,h⟩:=h;refine ⟨A,c,hv,hn,fun i hi=>?_⟩;obtain ⟨b,o,u,h0,hl,q,hr⟩:=h i hi;obtain ⟨h1,h2⟩:=hb b hl;exact ⟨b,o,u,h0,h2,(aC h1 _).trans q,hR _ _ hr⟩
theorem uN.at {w:World} {X:Nat->Prop} {R R':Value->T->Prop} {v:Value} {j:T} (h:uN w X R v j) (hX:∀ b,X b->b<w.heap.size) (hR:∀ u y,R u y->R' u y):zx w R' v j:=by
 obtain ⟨A,c,hv,hn,h⟩:=h;refine ⟨A,c,hv,hn,fun i hi=>?_⟩;obtain ⟨b,o,u,h0,hl,q,hr⟩:=h i hi;exact ⟨b,o,u,h0,hX b hl,q,hR _ _ hr⟩
def uO (w0:lN) (w:World) (X:Nat->Prop) (R:Value->T->Prop) (u:Value) (x:ByteArray) (j:T):Prop :=
 (x=uJ/\∃ v,u=.iface 203 v/\uN w X R v j)\/(x=xQ/\∃ v,u=.iface 205 v/\uN w X R v j)\/(x=yS/\∃ v,u=.iface 206 v/\uN w X R v j) \/
 (xR x/\∃ pv tv,u=.iface 213 (.agg #[pv,tv])/\lu w X pv (bV x)/\uj w X (fU w0 w X 16) tv (kF j))
theorem uO.move {w0:lN} {w w':World} {X X':Nat->Prop} {R R':Value->T->Prop} {u:Value} {x:ByteArray} {j:T} (h:uO w0 w X R u x j) (hb:∀ b,X b->w'.heap[b]?=w.heap[b]?/\X' b) (hR:∀ u y,R u y->R' u y):uO w0 w' X' R' u x j:=by
 rcases h with ⟨h1,v,h2,h3⟩ | ⟨h1,v,h2,h3⟩ | ⟨h1,v,h2,h3⟩ | ⟨h1,pv,tv,h2,h3,h4⟩
 ·exact .inl ⟨h1,v,h2,h3.move hb hR⟩
 ·exact .inr (.inl ⟨h1,v,h2,h3.move hb hR⟩)
 ·exact .inr (.inr (.inl ⟨h1,v,h2,h3.move hb hR⟩))
 ·exact .inr (.inr (.inr ⟨h1,pv,tv,h2,h3.move hb,h4.move hb (fU.move hb 16)⟩))
theorem uO.at {w0:lN} {w:World} {X:Nat->Prop} {R R':Value->T->Prop} {u:Value} {x:ByteArray} {j:T} (h:uO w0 w X R u x j) (hX:∀ b,X b->b<w.heap.size) (hb:∀ f v t,xS w0 f v t->At w f v t) (hR:∀ u y,R u y->R' u y):A9 w R' u x j:=by
 rcases h with ⟨h1,v,h2,h3⟩ | ⟨h1,v,h2,h3⟩ | ⟨h1,v,h2,h3⟩ | ⟨h1,pv,tv,h2,h3,h4⟩
 ·exact .inl ⟨h1,v,h2,h3.at hX hR⟩
 ·exact .inr (.inl ⟨h1,v,h2,h3.at hX hR⟩)
 ·exact .inr (.inr (.inl ⟨h1,v,h2,h3.at hX hR⟩))
 ·exact .inr (.inr (.inr ⟨h1,pv,tv,h2,h3.at hX,h4.at hX (fU.at hX hb 16)⟩))
def iG (w0:lN) (w:World) (X:Nat->Prop):Nat->Value->T->Prop
 | 0,_,_=>False
 | m+1,v,t=>∃ (A:Option Addr) (c:Nat),v=.slice A (nK t) c/\nK t<=1000000000/\∀ i,i<nK t->∃ b o u,A=some ⟨b,o,none⟩/\X b/\w.cell? ⟨b,o+i,none⟩=some u/\uO w0 w X (iG w0 w X m) u (bR t i) (elt t i)
theorem iG.move {w0:lN} {w w':World} {X X':Nat->Prop} (hb:∀ b,X b->w'.heap[b]?=w.heap[b]?/\X' b):∀ (m:Nat) (v:Value) (t:T),iG w0 w X m v t->iG w0 w' X' m v t
 | 0,_,_,h=>h
 | m+1,v,t,h=>by
  obtain ⟨A,c,hv,hn,h⟩:=h;refine ⟨A,c,hv,hn,fun i hi=>?_⟩;obtain ⟨b,o,u,h0,hl,q,hr⟩:=h i hi;obtain ⟨h1,h2⟩:=hb b hl;exact ⟨b,o,u,h0,h2,(aC h1 _).trans q,hr.move hb (iG.move hb m)⟩
theorem iG.at {w0:lN} {w:World} {X:Nat->Prop} (hX:∀ b,X b->b<w.heap.size) (hb:∀ f v t,xS w0 f v t->At w f v t):∀ (m:Nat) (v:Value) (t:T),iG w0 w X m v t->eP w m v t
 | 0,_,_,h=>h
 | m+1,v,t,h=>by
  obtain ⟨A,c,hv,hn,h⟩:=h;refine ⟨A,c,hv,hn,fun i hi=>?_⟩;obtain ⟨b,o,u,h0,hl,q,hr⟩:=h i hi;exact ⟨b,o,u,h0,hX b hl,q,hr.at hX hb (iG.at hX hb m)⟩
def xU (g:T->Bool) (x:ByteArray) (j:T):Bool:=if x=uJ\/x=xQ\/x=yS then ((ah j==5&&decide (0<nL j))&&jE g j (nL j)) else ((!oU x&&iY x)&&um j)
def bH:Nat->T->Bool
 | 0,_=>false
 | m+1,t=>ah t==6&&rY (fun i=>xU (bH m) (bR t i) (elt t i)) (nK t)
def afb (w0:lN) (m:Nat) (t:T) (w:World) (e:Ending) (w':World):Prop :=
 Below w.heap.size w w'/\((bH m t=true/\∃ fv,e=.returned fv/\iG w0 w' (aT w w') m fv t)\/(bH m t=false/\e=kK 8))
def MI (Tb:World->Prop) (w0:lN) (f:Nat):Prop:=∀ (m:Nat) (v:Value) (t:T) (w:World),f<=m->xS w0 f v t->f<=16->bM t->Below w0.w.heap.size w0.w w->Tb w->Calls Tryz.prog 85 #[v] w (afb w0 m t w)
def MJ (w0:lN) (m:Nat) (j:T) (w:World) (e:Ending) (w':World):Prop :=
 Below w.heap.size w w'/\((((ah j==5&&decide (0<nL j))&&jE (bH m) j (nL j))=true/\∃ fv,e=.returned fv/\uN w' (aT w w') (iG w0 w' (aT w w') m) fv j)\/(((ah j==5&&decide (0<nL j))&&jE (bH m) j (nL j))=false/\e=kK 8))
def tH (Tb:World->Prop) (w0:lN) (f:Nat):Prop:=∀ (m:Nat) (v:Value) (j:T) (w:World),f<=m+1->xS w0 f v j->f<=16->bM j->Below w0.w.heap.size w0.w w->Tb w->Calls Tryz.prog 141 #[v] w (MJ w0 m j w)
def Eh (w0:lN) (m:Nat) (x:ByteArray) (j:T) (w:World) (e:Ending) (w':World):Prop :=
 Below w.heap.size w w'/\((xU (bH m) x j=true/\∃ u,e=.returned u/\uO w0 w' (aT w w') (iG w0 w' (aT w w') m) u x j)\/(xU (bH m) x j=false/\e=kK 8))
theorem Gq {Tb:World->Prop} (hL:aS Tb) (w0:lN) (f m:Nat) (ih:tH Tb w0 f) (x:ByteArray) (j:T) (v:Value) (w:World) (hm:f<=m+1) (ha:xS w0 f v j) (hf:f<=16) (kj:bM j) (hb0:Below w0.w.heap.size w0.w w) (hT:Tb w) (rz:x=uJ) :
  Calls Tryz.prog 117 #[.string x,v] w (Eh w0 m x j w):=by
 obtain ⟨g1,La,Ka,Lc,Kc,hg1,rfl,_,_,_⟩:=ha.open;have HB1:=aj (aQ w (vC j La Lc Ka Kc));have HC:=aj (ih m _ j (w.alloc (vC j La Lc Ka Kc)) hm ha hf kj (hb0.trans (HB1.out.mono hb0.size)) (hL w hT _ _ hT HB1.out));have HR:Hid (xU (bH m) x j=((ah j==5&&decide (0<nL j))&&jE (bH m) j (nL j))):=by show _=_;unfold xU;rw [if_pos (.inl rz)]
 have HG:=aj rz;have eAnd:(x.toList==[36,97,110,100])=true:=bX rz;clear ha kj hb0 hT hL ih hg1;clear rz;go_in;go_wp2_with fail;refine HC.out.mono ?_;rintro e w3 ⟨b3,⟨hok,fv,rfl,hr⟩ | ⟨hok,rfl⟩⟩
 ·have HB3:=aj (HB1.out.trans (b3.mono HB1.out.size));have mv:∀ b,aT (w.alloc (vC j La Lc Ka Kc)) w3 b->w3.heap[b]?=w3.heap[b]?/\aT w w3 b:=fun b hb=>⟨rfl,by have:=hb.1;simp at this;omega,hb.2⟩;have jW:=aj (hr.move mv (iG.move (w0:=w0) mv m));have HK:=aj (HR.out.trans hok);clear b3 hr hok mv;go_wp2_with fail;go_ret;exact ⟨HB3.out,.inl ⟨HK.out,_,rfl,.inl ⟨HG.out,_,rfl,jW.out⟩⟩⟩
 ·exact ⟨rfl,HB1.out.trans (b3.mono HB1.out.size),.inr ⟨HR.out.trans hok,rfl⟩⟩
theorem JK {Tb:World->Prop} (hL:aS Tb) (w0:lN) (f m:Nat) (ih:tH Tb w0 f) (x:ByteArray) (j:T) (v:Value) (w:World) (hm:f<=m+1) (ha:xS w0 f v j) (hf:f<=16) (kj:bM j) (hb0:Below w0.w.heap.size w0.w w) (hT:Tb w) (LP:x=xQ) :
  Calls Tryz.prog 117 #[.string x,v] w (Eh w0 m x j w):=by
 obtain ⟨g1,La,Ka,Lc,Kc,hg1,rfl,_,_,_⟩:=ha.open;have HB1:=aj (aQ w (vC j La Lc Ka Kc));have HC:=aj (ih m _ j (w.alloc (vC j La Lc Ka Kc)) hm ha hf kj (hb0.trans (HB1.out.mono hb0.size)) (hL w hT _ _ hT HB1.out));have HR:Hid (xU (bH m) x j=((ah j==5&&decide (0<nL j))&&jE (bH m) j (nL j))):=by show _=_;unfold xU;rw [if_pos (.inr (.inl LP))]
 have HG:=aj LP;have rz:¬ x=uJ:=by rw [LP];decide
 have eAnd:(x.toList==[36,97,110,100])=false:=aF rz;have eOr:(x.toList==[36,111,114])=true:=bX LP;clear ha kj hb0 hT hL ih hg1;clear rz LP;go_in;go_wp2_with fail;refine HC.out.mono ?_;rintro e w3 ⟨b3,⟨hok,fv,rfl,hr⟩ | ⟨hok,rfl⟩⟩
 ·have HB3:=aj (HB1.out.trans (b3.mono HB1.out.size));have mv:∀ b,aT (w.alloc (vC j La Lc Ka Kc)) w3 b->w3.heap[b]?=w3.heap[b]?/\aT w w3 b:=fun b hb=>⟨rfl,by have:=hb.1;simp at this;omega,hb.2⟩;have jW:=aj (hr.move mv (iG.move (w0:=w0) mv m));have HK:=aj (HR.out.trans hok);clear b3 hr hok mv;go_wp2_with fail;go_ret;exact ⟨HB3.out,.inl ⟨HK.out,_,rfl,.inr (.inl ⟨HG.out,_,rfl,jW.out⟩)⟩⟩
 ·exact ⟨rfl,HB1.out.trans (b3.mono HB1.out.size),.inr ⟨HR.out.trans hok,rfl⟩⟩
theorem Gs {Tb:World->Prop} (hL:aS Tb) (w0:lN) (f m:Nat) (ih:tH Tb w0 f) (x:ByteArray) (j:T) (v:Value) (w:World) (hm:f<=m+1) (ha:xS w0 f v j) (hf:f<=16) (kj:bM j) (hb0:Below w0.w.heap.size w0.w w) (hT:Tb w) (wN:x=yS) :
  Calls Tryz.prog 117 #[.string x,v] w (Eh w0 m x j w):=by
 obtain ⟨g1,La,Ka,Lc,Kc,hg1,rfl,_,_,_⟩:=ha.open;have HB1:=aj (aQ w (vC j La Lc Ka Kc));have HC:=aj (ih m _ j (w.alloc (vC j La Lc Ka Kc)) hm ha hf kj (hb0.trans (HB1.out.mono hb0.size)) (hL w hT _ _ hT HB1.out));have HR:Hid (xU (bH m) x j=((ah j==5&&decide (0<nL j))&&jE (bH m) j (nL j))):=by show _=_;unfold xU;rw [if_pos (.inr (.inr wN))]
 have HG:=aj wN;have rz:¬ x=uJ:=by rw [wN];decide
 have eAnd:(x.toList==[36,97,110,100])=false:=aF rz;have LP:¬ x=xQ:=by rw [wN];decide
 have eOr:(x.toList==[36,111,114])=false:=aF LP;have ahT:(x.toList==[36,110,111,114])=true:=bX wN;clear ha kj hb0 hT hL ih hg1;clear rz LP wN;go_in;go_wp2_with fail;refine HC.out.mono ?_;rintro e w3 ⟨b3,⟨hok,fv,rfl,hr⟩ | ⟨hok,rfl⟩⟩
 ·have HB3:=aj (HB1.out.trans (b3.mono HB1.out.size));have mv:∀ b,aT (w.alloc (vC j La Lc Ka Kc)) w3 b->w3.heap[b]?=w3.heap[b]?/\aT w w3 b:=fun b hb=>⟨rfl,by have:=hb.1;simp at this;omega,hb.2⟩;have jW:=aj (hr.move mv (iG.move (w0:=w0) mv m));have HK:=aj (HR.out.trans hok);clear b3 hr hok mv;go_wp2_with fail;go_ret;exact ⟨HB3.out,.inl ⟨HK.out,_,rfl,.inr (.inr (.inl ⟨HG.out,_,rfl,jW.out⟩))⟩⟩
 ·exact ⟨rfl,HB1.out.trans (b3.mono HB1.out.size),.inr ⟨HR.out.trans hok,rfl⟩⟩
theorem Gt {Tb:World->Prop} (hS:dw Tb) (hL:aS Tb) (w0:lN) (f m:Nat) (x:ByteArray) (j:T) (v:Value) (w:World) (hx:x.size<=4000) (ha:xS w0 f v j) (hf:f<=16) (kj:bM j) (hb0:Below w0.w.heap.size w0.w w) (hT:Tb w) (hp:xR x) :
  Calls Tryz.prog 117 #[.string x,v] w (Eh w0 m x j w):=by
 obtain ⟨g1,La,Ka,Lc,Kc,hg1,rfl,_,_,_⟩:=ha.open;obtain ⟨rz,LP,wN⟩:=hp;have HP:Hid (xR x):=⟨rz,LP,wN⟩;have HB1:=aj (aQ w (vC j La Lc Ka Kc));have HR:Hid (xU (bH m) x j=((!oU x&&iY x)&&um j)):=by show _=_;unfold xU;rw [if_neg (by rintro (h | h | h);exact rz h;exact LP h;exact wN h)]
 have HO:=aj (iD x (w.alloc (vC j La Lc Ka Kc)));have HPp:=aj (oV hS x (w.alloc (vC j La Lc Ka Kc)) (by omega) (hL w hT _ _ hT HB1.out));have HEx:=aj (fun w' hb'=>wM w0 f _ j w' ha hf kj hb');have Hb0:=aj hb0;have eAnd:(x.toList==[36,97,110,100])=false:=aF rz;have eOr:(x.toList==[36,111,114])=false:=aF LP;have ahT:(x.toList==[36,110,111,114])=false:=aF wN
 have HX:Hid (aH w.heap.size (.int .i64 (ah j)) (.int .i64 (au j)) (.string (ay j)) (.slice La (nL j) Lc) (.slice Ka (nK j) Kc) (w.alloc (vC j La Lc Ka Kc))):=by
  constructor<;>simp [go_sem]
 clear ha kj hb0 hT hL hS hg1 rz LP wN;cases hop:oU x with
 | true =>
  rw [hop] at HO;have HK:Hid (xU (bH m) x j=false):=by show _=_;rw [HR.out,hop];rfl
  clear hop;go_in;go_wp2_with fail;refine HO.out.mono ?_;rintro e w2 ⟨rfl,rfl⟩;go_wp2_with fail;refine (fQ false _).mono ?_;rintro e w3 ⟨rfl,he⟩;simp only [Bool.false_eq_true,if_false] at he;subst he;exact ⟨rfl,HB1.out,.inr ⟨HK.out,rfl⟩⟩
 | false =>
  rw [hop] at HO;have HR2:Hid (xU (bH m) x j=(iY x&&um j)):=by show _=_;rw [HR.out,hop];rfl
  clear hop HR;go_in;go_wp2_with fail;refine HO.out.mono ?_;rintro e w2 ⟨rfl,rfl⟩;go_wp2_with fail;refine (fQ true _).mono ?_;rintro e w3 ⟨rfl,he⟩;simp only [if_true] at he;subst he;go_wp2_with fail;refine HPp.out.mono ?_;rintro e w4 ⟨b4,⟨hok,pv,rfl,hpv⟩ | ⟨hok,rfl⟩⟩
  ·have bT:=aj (HB1.out.trans (b4.mono HB1.out.size));have HPv:=aj hpv;have HR3:Hid (xU (bH m) x j=um j):=by show _=_;rw [HR2.out,hok];rfl
   have MK:=aj (HX.out.stay b4);have Hb4:=aj b4;have q0:=MK.out.q0;have q1:=MK.out.q1;have q2:=MK.out.q2;have q3:=MK.out.q3;have q4:=MK.out.q4;clear b4 hpv hok HPp HO;go_wp2_with fail;refine (fQ true _).mono ?_;rintro e w5 ⟨rfl,he⟩;simp only [if_true] at he;subst he;go_wp2_with fail;refine (HEx.out _ (Hb0.out.trans (bT.out.mono Hb0.out.size))).mono ?_;rintro e w6 ⟨b6,⟨hok,tv,rfl,htv⟩ | ⟨hok,rfl⟩⟩
   ·obtain ⟨PA,pc,rfl,hp1,hp2⟩:=HPv.out;obtain ⟨TA,tc,rfl,ht1,ht2⟩:=htv;have iq:=aj (bT.out.trans (b6.mono bT.out.size));have ahU:Hid (lu w6 (aT w w6) (.slice PA (bV x).length pc) (bV x)):=HPv.out.move fun b hb=>⟨b6.block b hb.2,by have:=hb.1;simp at this;omega,Nat.lt_of_lt_of_le hb.2 b6.size⟩
    have ahV:Hid (uj w6 (aT w w6) (fU w0 w6 (aT w w6) 16) (.slice TA (kF j).length tc) (kF j)):=by
     exact uj.move ⟨TA,tc,rfl,ht1,ht2⟩ (fun b hb=>⟨rfl,by have:=hb.1;have:=bT.out.size;omega,hb.2⟩) (fU.move (fun b hb=>⟨rfl,by have:=hb.1;have:=bT.out.size;omega,hb.2⟩) 16)
    have HK:=aj (HR3.out.trans hok);clear b6 hok hp1 hp2 ht1 ht2;go_wp2_with fail;go_ret;exact ⟨iq.out,.inl ⟨HK.out,_,rfl,.inr (.inr (.inr ⟨HP.out,_,_,rfl,ahU.out,ahV.out⟩))⟩⟩
   ·exact ⟨rfl,bT.out.trans (b6.mono bT.out.size),.inr ⟨HR3.out.trans hok,rfl⟩⟩
  ·have bT:=aj (HB1.out.trans (b4.mono HB1.out.size));have HK:Hid (xU (bH m) x j=false):=by show _=_;rw [HR2.out,hok];rfl
   clear b4 hok;go_wp2_with fail;refine (fQ false _).mono ?_;rintro e w5 ⟨rfl,he⟩;simp only [Bool.false_eq_true,if_false] at he;subst he;exact ⟨rfl,bT.out,.inr ⟨HK.out,rfl⟩⟩
def afd (w0:lN) (m:Nat) (w:World) (X:Nat->Prop) (cs:List Value) (y:T):Prop:=∃ u,cs=[u]/\iG w0 w X m u y
theorem qB (w0:lN) (m:Nat):uM (afd w0 m):=fun _ _ _ _ _ _ h hb=>by
 obtain ⟨u,hc,h⟩:=h;exact ⟨u,hc,iG.move hb m _ _ h⟩
def aaX (w0:lN) (m:Nat) (w:World) (X:Nat->Prop) (cs:List Value) (p:ByteArray×T):Prop:=∃ u,cs=[u]/\uO w0 w X (iG w0 w X m) u p.1 p.2
theorem oG (w0:lN) (m:Nat):uM (aaX w0 m):=fun _ _ _ _ _ _ h hb=>by
 obtain ⟨u,hc,h⟩:=h;exact ⟨u,hc,h.move hb (iG.move hb m)⟩
def xV (j:T):List T:=(List.range (nL j)).map (elt j)
theorem pW (j:T):(xV j).length=nL j:=by simp [xV]
theorem JL {j:T} {i:Nat} (h:i<(xV j).length):(xV j)[i]=elt j i:=by simp [xV]
theorem Ru {j:T} {k:Nat} (h:k<nL j):(xV j).take (k+1)=(xV j).take k++[elt j k]:=by
 have hl:k<(xV j).length:=by rw [pW];exact h
 rw [List.take_succ_eq_append_getElem hl,JL]
theorem Y4 {j:T} {i:Nat} (h:i<(mg j).length):(mg j)[i]=(bR j i,elt j i):=by simp [mg]
theorem PD {α:Type} {E:World->(Nat->Prop)->List Value->α->Prop} {e:TypeId} {base:Nat} {hv:Value} {l:List α} {xs:List Value} {w wr:World} (h:ru E 1 e base hv l xs wr) (hlo:w.heap.size<=base):∃ (A:Option Addr) (c:Nat),hv=.slice A l.length c/\∀ i,(hi:i<l.length)->∃ b u,A=some ⟨b,0,none⟩/\aT w wr b/\(∀ r,UO 1 xs i=[r]->r=u)/\wr.cell? ⟨b,0+i,none⟩=some u:=by
 have hrow:=h.row;have hx:=h.row.1;rcases h.row.2 with ⟨rfl,h0⟩ | ⟨g,cap,cur,rfl,hb0,hg,_⟩
 ·exact ⟨none,0,by rw [h0],fun i hi=>by omega⟩
 ·refine ⟨some ⟨g,0,none⟩,cap,rfl,fun i hi=>?_⟩;have hgl:=(Array.getElem?_eq_some_iff.1 hg).1;have hxi:i<xs.length:=by omega
  refine ⟨g,xs[i],rfl,⟨by omega,hgl⟩,fun r hr=>?_,?_⟩
  ·have:(UO 1 xs i)[0]?=some r:=by rw [hr];rfl
   have:=oF this (by omega);rw [Nat.mul_one,Nat.add_zero,List.getElem?_eq_getElem hxi] at this;simpa using this.symm
  ·rw [Nat.zero_add];exact aW hrow (List.getElem?_eq_getElem hxi)
theorem afe:(Tryz.prog.info? 70).map (fun i=>(i.zero,i.size,i.bytes))=some (some (.slice none 0 0),1,24):=by kernel_rfl
theorem aff:(Tryz.prog.info? 128).map (fun i=>(i.zero,i.size,i.bytes))=some (some .nilIface,1,16):=by kernel_rfl
theorem iG.shape {w0:lN} {w:World} {X:Nat->Prop} {m:Nat} {u:Value} {y:T} (h:iG w0 w X m u y):∃ A c,u=.slice A (nK y) c:=by
 cases m with
 | zero=>exact h.elim
 | succ m=>obtain ⟨A,c,hv,_⟩:=h;exact ⟨A,c,hv⟩
theorem uO.shape {w0:lN} {w:World} {X:Nat->Prop} {R:Value->T->Prop} {u:Value} {x:ByteArray} {j:T} (h:uO w0 w X R u x j):∃ t v,u=.iface t v:=by
 rcases h with ⟨_,v,h,_⟩ | ⟨_,v,h,_⟩ | ⟨_,v,h,_⟩ | ⟨_,pv,tv,h,_⟩<;>exact ⟨_,_,h⟩
theorem U1 {Tb:World->Prop} (hL:aS Tb) (w0:lN) (f:Nat) (ih:MI Tb w0 f):tH Tb w0 (f+1):=by
 intro m v j w hm ha hf kj hb0 hT;obtain ⟨iF,hiF,zF0,zF1,zF2⟩:=info_parts afe;obtain ⟨g1,La,Ka,Lc,Kc,hg1,rfl,hfj,hel,hnm⟩:=ha.open;obtain rfl:g1=f:=by omega
 have HB1:=aj (aQ w (vC j La Lc Ka Kc));have HT:Hid (∀ w':World,Below w.heap.size w w'->Tb w'):=fun w' hb=>hL w hT w w' hT hb;have zu:=aj kj;have Pw:=aj ih;have Gd:=aj hel.out;have hnl:=kj.small.2;clear ha kj ih hel hnm hg1 hfj hT hL;by_cases hk:ah j=5/\0<nL j
 ·obtain ⟨k5,h0⟩:=hk;have e5:(ah j==5)=true:=by simpa using k5
  have h0i:(0:Int)<(nL j:Int):=by omega
  have Gc:Hid (((ah j==5&&decide (0<nL j))&&jE (bH m) j (nL j))=jE (bH m) j (nL j)):=by show _=_;rw [e5,decide_eq_true h0];rfl
  unfold MJ;rw [Gc.out];clear k5 Gc;go_in;go_wp2_with fail;refine (fQ true _).mono ?_;rintro e w2 ⟨rfl,he⟩;simp only [if_true] at he;subst he;go_wp2_with fail;go_loopg [3,19] (nL j) (fun g o i wr=>∃ (k:Nat) (xs:List Value),g=nL j - k/\k<=nL j/\i=.int .i64 k/\Hid (Below (w.heap.size+1) (w.alloc (vC j La Lc Ka Kc)) wr)/\Hid (ru (afd w0 m) 1 70 (w.heap.size+1) o ((xV j).take k) xs wr)/\Hid (jE (bH m) j k=true))
  case atStart=>exact ⟨0,[],rfl,Nat.zero_le _,rfl,Below.refl _ _,ru.nil _ _ _ _ _,rfl⟩
  case round =>
   obtain ⟨k,xs,rfl,hk,rfl,HB,HL,HN⟩:=hrel;obtain ⟨q0,q1,q2,q3,q4,hz,hbw⟩:=dB HB.out;have nR:=aj (hb0.trans (hbw.mono hb0.size));have gQ:=aj hbw;clear hbw;by_cases hlt:k<nL j
   ·obtain ⟨bb,oo,A,B,C,D,rfl,hbl,p0,p1,p2,p3,p4,Ha⟩:=Gd.out.shape nR.out k hlt;have vO:=aj (aQ wr (vC (elt j k) A B C D));have HC:=aj (Pw.out m _ (elt j k) (wr.alloc (vC (elt j k) A B C D)) (by omega) Ha.out (by omega) (zu.out.elt hlt) (nR.out.trans (vO.out.mono nR.out.size)) (HT.out _ (gQ.out.trans (vO.out.mono gQ.out.size))));have HA:Hid (jE (bH m) j (k+1)=bH m (elt j k)):=by show _=_;rw [jE,HN.out];simp
    have HA2:Hid (bH m (elt j k)=false->jE (bH m) j (nL j)=false):=fun h=>OX hlt h;have CY:=aj (Ru hlt);have hxl:((xV j).take k).length=k:=by rw [List.length_take,pW];omega
    go_wp2_with fail;refine HC.out.mono ?_;rintro e w3 ⟨b3,⟨hok,fv,rfl,ht⟩ | ⟨hok,rfl⟩⟩
    ·obtain ⟨A6,c6,rfl⟩:=ht.shape;have tu:=aj (HA.out.trans hok);have UW:=aj ht;have Hb3:=aj (vO.out.trans (b3.mono vO.out.size));have bT:=aj (aQ w3 (.cells #[.slice A6 (nK (elt j k)) c6] 70));have rH:=aj ((HL.out.keep (qB w0 m) Hb3.out).keep (qB w0 m) bT.out);have qy:Hid (Src Tryz.prog 1 202 (.slice (some ⟨w3.heap.size,0,none⟩) 1 1) 1 [.slice A6 (nK (elt j k)) c6] (w3.alloc (.cells #[.slice A6 (nK (elt j k)) c6] 70))):=Src.ofSlice _ Tryz.underlying202 ⟨w3.heap.size,0,none⟩ 1 1 [.slice A6 (nK (elt j k)) c6] (by simp) (World.news_of_block (heap_alloc_new w3 _)) (by simp [Value.oneCell']);have hlo:w.heap.size+1<=(w3.alloc (.cells #[.slice A6 (nK (elt j k)) c6] 70)).heap.size:=by have:=Hb3.out.size;simp;omega
     have QT:Hid (∀ b,aT (wr.alloc (vC (elt j k) A B C D)) w3 b->wr.heap.size<=b/\b<w3.heap.size):=fun b hb=>⟨by have:=hb.1;simp at this;omega,hb.2⟩;clear b3 hok ht HC HA HA2;go_wp2_with (at_builtin;refine aD _ rfl (.tmp 23) (.tmp 26) 202 202 rfl (w.heap.size+1) 70 iF _ 1 24 Tryz.underlying202 hiF zF0 zF1 zF2 rfl u3 ((xV j).take k).length xs rfl rH.out.row (.slice (some ⟨w3.heap.size,0,none⟩) 1 1) 1 [.slice A6 (nK (elt j k)) c6] rfl qy.out (by unfold maxLen;omega) (by omega) hlo ?_;intro v' w6 pV lZ dW);have zn:=aj (HL.out.grow (x:=elt j k) (cs:=[.slice A6 (nK (elt j k)) c6]) (qB w0 m) (Hb3.out.trans (bT.out.mono Hb3.out.size)) rfl (qB w0 m _ _ _ _ _ _ ⟨_,rfl,UW.out⟩ (fun b hb=>⟨bT.out.block b hb.2,hb⟩)) (fun b hb=>⟨(QT.out b hb).1,Nat.lt_of_lt_of_le hb.2 bT.out.size⟩) (by omega) pV lZ dW);have iq:=aj (bY ((HB.out.trans (Hb3.out.mono (by omega))).trans (bT.out.mono (by have:=Hb3.out.size;omega))) rH.out.row (Nat.le_refl _) (by omega) lZ);rw [<- CY.out] at zn;clear pV lZ dW;go_wp2_with fail;go_roundg (nL j - (k+1))
     case rel=>exact ⟨k+1,_,rfl,by omega,by go_num,iq,zn,tu⟩
     case measure=>omega
    ·have HA4:=aj (HA2.out hok);exact ⟨rfl,gQ.out.trans ((vO.out.trans (b3.mono vO.out.size)).mono gQ.out.size),.inr ⟨HA4.out,rfl⟩⟩
   ·obtain rfl:k=nL j:=by omega
    have YU:Hid ((xV j).take (nL j)=xV j):=by show _=_;rw [List.take_of_length_le (by rw [pW];omega)]
    rw [YU.out] at HL
    have jW:Hid (uN wr (aT w wr) (iG w0 wr (aT w wr) m) u3 j):=by
     obtain ⟨A,c,hv,hr⟩:=PD (w:=w) HL.out (by omega);rw [pW] at hv;refine ⟨A,c,hv,by omega,fun i hi=>?_⟩;obtain ⟨b,u,h1,h2,h3,h4⟩:=hr i (by rw [pW];exact hi);obtain ⟨u',h5,h6⟩:=HL.out.el i (by rw [pW];exact hi);have h7:=h3 u' h5;subst h7;rw [JL] at h6;exact ⟨b,0,u',h1,h2,h4,iG.move (fun b hb=>⟨rfl,by have:=hb.1;omega,hb.2.1⟩) m _ _ h6⟩
    go_wp2_with fail;go_ret;exact ⟨gQ.out,.inl ⟨HN.out,_,rfl,jW.out⟩⟩
 ·have Gc:Hid (((ah j==5&&decide (0<nL j))&&jE (bH m) j (nL j))=false):=by
   show _=_;by_cases k5:ah j=5
   ·rw [decide_eq_false (fun h=>hk ⟨k5,h⟩)];simp
   ·rw [beq_eq_false_iff_ne.2 k5];rfl
  unfold MJ;rw [Gc.out];by_cases k5:ah j=5
  ·have e5:(ah j==5)=true:=by simpa using k5
   have hd0:decide (0<nL j)=false:=decide_eq_false (fun h=>hk ⟨k5,h⟩);clear hk k5 Gc;go_in;go_wp2_with fail;refine (fQ false _).mono ?_;rintro e w2 ⟨rfl,he⟩;simp only [Bool.false_eq_true,if_false] at he;subst he;exact ⟨rfl,HB1.out,.inr ⟨trivial,rfl⟩⟩
  ·have e5:(ah j==5)=false:=by simpa using k5
   clear hk k5 Gc;go_in;go_wp2_with fail;refine (fQ false _).mono ?_;rintro e w2 ⟨rfl,he⟩;simp only [Bool.false_eq_true,if_false] at he;subst he;exact ⟨rfl,HB1.out,.inr ⟨trivial,rfl⟩⟩
end Go.Proofs.YtknakfpciccoaabGreatDoor
