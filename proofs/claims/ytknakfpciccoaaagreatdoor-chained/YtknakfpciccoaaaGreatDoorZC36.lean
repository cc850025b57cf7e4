import Derived.Test.YtknakfpciccoaaaGreatDoorZC14
import Derived.Test.YtknakfpciccoaaaGreatDoorZC12
import Derived.Test.YtknakfpciccoaaaGreatDoorZC16
import Derived.Lib.AppendZerosOnto
import Derived.Test.YtknakfpciccoaaaGreatDoorZC35
import Derived.Test.YtknakfpciccoaaaGreatDoorZC34
import Derived.Test.YtknakfpciccoaaaGreatDoorZC26
import Derived.Test.YtknakfpciccoaaaGreatDoorZC22
import Derived.Test.YtknakfpciccoaaaGreatDoorZC30
/- slices.Grow of texts; slices.Concat of two rows of texts. -/
set_option maxHeartbeats 8000000
set_option maxRecDepth 100000
namespace Go.Proofs.YtknakfpciccoaaaGreatDoor
open Go.RowKit
theorem QN:(Tryz.prog.info? 9).map (fun i=>(i.zero,i.size,i.bytes))=some (some (.string ⟨#[]⟩),1,16):=by kernel_rfl
theorem TK (n:Nat) (w:World) (h0:0<n) (hn:n<=1000000):Calls Tryz.prog 278 #[.slice none 0 0,.int .i64 n] w fun e w'=>Below w.heap.size w w'/\∃ c,e=.returned (.slice (some ⟨w.heap.size,0,none⟩) 0 c)/\w'.ownsRow w.heap.size 9 1 (.slice (some ⟨w.heap.size,0,none⟩) 0 c) 0 []/\c<=maxLen:=by
 obtain ⟨iS,YS,YT,zS1,Yo⟩:=info_parts QN;obtain ⟨G,hG⟩:∃ G,G=grownCap w (0+n) 0 9:=⟨_,rfl⟩
 have hG63:G<=maxLen:=by
  rw [hG];exact grownCap_le_maxLen w (0+n) 0 9 (by unfold maxLen;omega)
 have hGn:n<=G:=by
  have:=grownCap_ge w (0+n) 0 9;omega
 have hrz:∀ ty,(Builtin.append_ #[23,3] ty #[.slice none 0 0,.int .i64 (n:Int)]).run Tryz.prog w=.ok (.slice (some ⟨w.heap.size,0,none⟩) n G) (w.drew.alloc (.cells (Builtin.zeroCells #[.string ⟨#[]⟩] n++Builtin.zeroCells #[.string ⟨#[]⟩] (G - n)) 9)):=fun ty=>by
  have h:=Lib.run_append_grow_zeros (P:=Tryz.prog) w 23 3 ty 9 iS (.string ⟨#[]⟩) .i64 .i64 Tryz.underlying23 Tryz.underlying3 YS YT none 0 0 [] (run_firstCells_none w.drew iS.size 0 0 0) n h0 (by omega) (by omega) (by omega) (by rw [Yo];omega) (by rw [Nat.zero_add,Yo];exact growslice_fits (by omega) (by omega));rw [<- hG,Nat.zero_add,show (Value.string ⟨#[]⟩).cells=#[.string ⟨#[]⟩] by kernel_rfl] at h;simpa using h
 have HB:Hid (Below w.heap.size w (w.drew.alloc (.cells (Builtin.zeroCells #[.string ⟨#[]⟩] n++Builtin.zeroCells #[.string ⟨#[]⟩] (G - n)) 9))):=(au w).alloc (by simp) _
 have HO:Hid ((w.drew.alloc (.cells (Builtin.zeroCells #[.string ⟨#[]⟩] n++Builtin.zeroCells #[.string ⟨#[]⟩] (G - n)) 9)).ownsRow w.heap.size 9 1 (.slice (some ⟨w.heap.size,0,none⟩) 0 G) 0 []):=by
  refine ⟨rfl,.inr ⟨w.heap.size,G,Builtin.zeroCells #[.string ⟨#[]⟩] n++Builtin.zeroCells #[.string ⟨#[]⟩] (G - n),rfl,Nat.le_refl _,?_,Nat.zero_le _,hG63,?_,?_⟩⟩
  ·have:=heap_alloc_new w.drew (.cells (Builtin.zeroCells #[.string ⟨#[]⟩] n++Builtin.zeroCells #[.string ⟨#[]⟩] (G - n)) 9);simpa using this
  ·simp [Builtin.zeroCells];omega
  ·simp
 have h1:¬ ((n:Int)<0):=by omega
 have h3:IntKind.i64.wrap (n:Int)=n:=by rw [IntKind.wrap_i64];omega
 have h4:(0:Int)<(n:Int):=by omega
 have h5:wrap64 (n:Int)=n:=by unfold wrap64;omega
 have Hc:=ak hG63;have hgl:G<=9223372036854775807:=by unfold maxLen at hG63;omega
 clear hG hG63 YS YT zS1 Yo;go_in;go_wp2_with (at_builtin;refine Lib.wpList_append_run _ rfl _ _ _ _ rfl _ _ rfl rfl _ _ (hrz _) ?_)
 all_goals go_ret
 all_goals exact ⟨HB.out,G,rfl,HO.out,Hc.out⟩
theorem LU {w:World} {A:Option Addr} {n c:Nat} {l:List ByteArray} (h:bI w (.slice A n c) l):Src Tryz.prog 1 23 (.slice A n c) n (l.map fun s=>.string s) w:=by
 obtain ⟨A',c',hv,hl,h⟩:=h;simp only [Value.slice.injEq] at hv;obtain ⟨rfl,rfl,rfl⟩:=hv
 have hone:∀ u ∈ l.map (fun s=>Value.string s),u.oneCell'=true:=fun u hu=>by
  obtain ⟨s,_,rfl⟩:=List.mem_map.1 hu;rfl
 cases A with
 | none =>
  cases l with
  | nil=>exact Src.ofNil _ Tryz.underlying23 c
  | cons a r =>
   obtain ⟨b,o,h0,_⟩:=h 0 (by simp);cases h0
 | some a =>
  refine Src.ofSlice _ Tryz.underlying23 a l.length c _ (by simp) (fun j u hu=>?_) hone;rw [List.getElem?_map] at hu;cases hj:l[j]? with
  | none=>rw [hj] at hu;cases hu
  | some s =>
   rw [hj] at hu;simp only [Option.map_some,Option.some.injEq] at hu;subst hu;obtain ⟨hlt,hs⟩:=List.getElem?_eq_some_iff.1 hj;obtain ⟨b,o,h0,_,_,h3⟩:=h j hlt;cases h0;rw [show (⟨b,o,none⟩:Addr).add j=⟨b,o+j,none⟩ by unfold Addr.add;by_cases e:j=0<;>simp [e],h3,List.getD_eq_getElem?_getD,hj];rfl
theorem XL {w w':World} {v:Value} {l:List ByteArray} (h:w'.ownsRow w.heap.size 9 1 v l.length (l.map fun s=>.string s)) (hn:l.length<=8796093022208) (hs:∀ i,i<l.length->(l.getD i ByteArray.empty).size<=140737488355328):kY w' (aS w w') v l:=by
 have hrow:=h;rcases h.2 with ⟨rfl,h0⟩ | ⟨g,cap,cur,rfl,hb0,hg,_⟩
 ·exact ⟨none,0,by rw [h0],hn,fun i hi=>by omega⟩
 ·refine ⟨_,_,rfl,hn,fun i hi=>⟨g,0,rfl,⟨hb0,(Array.getElem?_eq_some_iff.1 hg).1⟩,hs i hi,?_⟩⟩;rw [Nat.zero_add];refine aX hrow ?_;rw [List.getElem?_map,List.getElem?_eq_getElem hi,List.getD_eq_getElem?_getD,List.getElem?_eq_getElem hi];rfl
def aac (a b k:Nat):Nat:=if k=0 then 0 else if k=1 then a else a+b
def ado (a b:List ByteArray) (k:Nat):List ByteArray:=if k=0 then [] else if k=1 then a else a++b
theorem O6 (ob:Nat) (A1 A2:Option Addr) (c1 c2 n1 n2:Nat) (l1 l2:List ByteArray) (w:World) (q0:w.cell? ⟨ob,0,none⟩=some (.slice A1 n1 c1)) (q1:w.cell? ⟨ob,1,none⟩=some (.slice A2 n2 c2)) (h1:bI w (.slice A1 n1 c1) l1) (h2:bI w (.slice A2 n2 c2) l2) (hob:ob<w.heap.size) (hn:0<n1+n2) (hm:n1+n2<=1000000) :
  Calls Tryz.prog 260 #[.slice (some ⟨ob,0,none⟩) 2 2] w fun e w'=>Below w.heap.size w w'/\∃ v,e=.returned v/\kY w' (aS w w') v (l1++l2):=by
 obtain ⟨iS,YS,YT,zS1,Yo⟩:=info_parts QN;have zl:Hid (∀ w':World,Below w.heap.size w w'->Src Tryz.prog 1 23 (.slice A1 n1 c1) n1 (l1.map fun s=>.string s) w'):=fun w' hb=>LU (h1.keep hb);have HS2:Hid (∀ w':World,Below w.heap.size w w'->Src Tryz.prog 1 23 (.slice A2 n2 c2) n2 (l2.map fun s=>.string s) w'):=fun w' hb=>LU (h2.keep hb);have HQ:Hid (∀ w':World,Below w.heap.size w w'->w'.cell? ⟨ob,0,none⟩=some (.slice A1 n1 c1)/\w'.cell? ⟨ob,1,none⟩=some (.slice A2 n2 c2)):=fun w' hb=>⟨(hb.cell (p:=⟨ob,0,none⟩) hob).trans q0,(hb.cell (p:=⟨ob,1,none⟩) hob).trans q1⟩
 have HL:Hid (l1.length=n1/\l2.length=n2/\∀ i,i<(l1++l2).length->((l1++l2).getD i ByteArray.empty).size<=140737488355328):=by
  obtain ⟨_,_,e1,_,g1⟩:=h1;obtain ⟨_,_,e2,_,g2⟩:=h2;simp only [Value.slice.injEq] at e1 e2;refine ⟨e1.2.1.symm,e2.2.1.symm,fun i hi=>?_⟩;rw [List.length_append] at hi;by_cases e:i<l1.length
  ·rw [List.getD_eq_getElem?_getD,List.getElem?_append_left e,<- List.getD_eq_getElem?_getD];obtain ⟨_,_,_,_,h,_⟩:=g1 i e;exact h
  ·rw [List.getD_eq_getElem?_getD,List.getElem?_append_right (by omega),<- List.getD_eq_getElem?_getD];obtain ⟨_,_,_,_,h,_⟩:=g2 (i - l1.length) (by omega);exact h
 have HG:=ak (TK (n1+n2) w hn hm);clear h1 h2 hn;go_in;go_wp2_with fail;go_loopg [3,11] 2 (fun g s i wr=>∃ (k m:Nat),g=2 - k/\k<=2/\i=.int .i64 k/\s=.int .i64 m/\Hid (m=aac n1 n2 k)/\w=wr)
 case atStart=>exact ⟨0,0,rfl,by omega,rfl,rfl,rfl,rfl⟩
 case round =>
  obtain ⟨k,m,rfl,hk,rfl,rfl,Hm,rfl⟩:=hrel;obtain rfl | rfl | rfl:k=0\/k=1\/k=2:=by omega
  ·obtain rfl:m=0:=Hm.out;have hw:IntKind.i64.wrap (n1:Int)=n1:=by rw [IntKind.wrap_i64];omega
   have hnn:¬ ((n1:Int)<0):=by omega
   go_wp2_with fail;go_roundg 1
   case rel=>exact ⟨1,n1,rfl,by omega,rfl,by go_num,rfl,rfl⟩
   case measure=>omega
  ·obtain rfl:m=n1:=Hm.out;have hw:IntKind.i64.wrap ((m:Int)+(n2:Int))=m+n2:=by rw [IntKind.wrap_i64];omega
   have hnn:¬ ((m:Int)+(n2:Int)<0):=by omega
   go_wp2_with fail;go_roundg 0
   case rel=>exact ⟨2,m+n2,rfl,by omega,rfl,by go_num,rfl,rfl⟩
   case measure=>omega
  ·obtain rfl:m=n1+n2:=Hm.out;go_wp2_with fail;refine HG.out.mono ?_;rintro e w1 ⟨b1,c,rfl,hO,hc⟩;have HB1:=ak b1;have dB:=ak hO;clear b1 hO HG hc q0 q1;go_wp2_with fail;go_loopg [6,27] 2 (fun g o i wr=>∃ (k m:Nat) (xs:List Value),g=2 - k/\k<=2/\i=.int .i64 k/\Hid (Below w.heap.size w wr)/\Hid (wr.ownsRow w.heap.size 9 1 o m xs)/\Hid (m=aac n1 n2 k/\xs=(ado l1 l2 k).map fun s=>.string s))
   case atStart=>exact ⟨0,0,[],rfl,by omega,rfl,HB1,dB,rfl,rfl⟩
   case round =>
    clear HB1 dB;obtain ⟨k,m,xs,rfl,hk,rfl,HB,HO,Hx⟩:=hrel;obtain rfl | rfl | rfl:k=0\/k=1\/k=2:=by omega
    ·obtain rfl:m=0:=Hx.out.1;have HX:=ak Hx.out.2;have q:=(HQ.out _ HB.out).1;have hlo:w.heap.size<=wr.heap.size:=HB.out.size;clear Hx;go_wp2_with (at_builtin;refine aG _ rfl (.tmp 31) (.tmp 32) 23 23 rfl w.heap.size 9 iS _ 1 16 Tryz.underlying23 YS YT zS1 Yo rfl u6 0 xs rfl HO.out (.slice A1 n1 c1) n1 (l1.map fun s=>.string s) rfl (zl.out _ HB.out) (by unfold maxLen;omega) (by omega) hlo ?_;intro v' w6 qX nu dV);have HO6:=ak qX;have iN:=ak (dx HB.out HO.out (Nat.le_refl _) hlo nu);clear qX nu dV;go_wp2_with fail;go_roundg 1
     case rel=>exact ⟨1,_,_,rfl,by omega,rfl,iN,HO6,by show _=_;unfold aac;simp,by rw [HX.out];simp [ado]⟩
     case measure=>omega
    ·obtain rfl:m=n1:=Hx.out.1;have HX:=ak Hx.out.2;have q:=(HQ.out _ HB.out).2;have hlo:w.heap.size<=wr.heap.size:=HB.out.size;clear Hx;go_wp2_with (at_builtin;refine aG _ rfl (.tmp 31) (.tmp 32) 23 23 rfl w.heap.size 9 iS _ 1 16 Tryz.underlying23 YS YT zS1 Yo rfl u6 m xs rfl HO.out (.slice A2 n2 c2) n2 (l2.map fun s=>.string s) rfl (HS2.out _ HB.out) (by unfold maxLen;omega) (by omega) hlo ?_;intro v' w6 qX nu dV);have HO6:=ak qX;have iN:=ak (dx HB.out HO.out (Nat.le_refl _) hlo nu);clear qX nu dV;go_wp2_with fail;go_roundg 0
     case rel=>exact ⟨2,_,_,rfl,by omega,rfl,iN,HO6,by show _=_;unfold aac;simp,by rw [HX.out];simp [ado]⟩
     case measure=>omega
    ·obtain ⟨hm2,hx2⟩:=Hx.out;have h2:m=n1+n2:=hm2;have h3:xs=(l1++l2).map fun s=>.string s:=hx2;subst h2;subst h3;obtain ⟨e1,e2,e3⟩:=HL.out;have vM:=ak (XL (w:=w) (w':=wr) (v:=u6) (l:=l1++l2) (by rw [List.length_append,e1,e2];exact HO.out) (by rw [List.length_append];omega) e3);clear Hx hm2 hx2 e1 e2 e3;go_wp2_with fail;go_ret;exact ⟨HB.out,_,rfl,vM.out⟩
def afQ:ByteArray:=⟨#[98,121]⟩
def afR:ByteArray:=⟨#[109,97,107,101]⟩
def O7 (Tb:World->Prop) (wB:World) (gb:T->Int⊕T) (es:List (ByteArray×(T->Int⊕T))) (ks:List ByteArray) (w:World) (e:Ending) (w':World):Prop :=
 Below w.heap.size w w'/\∃ NA nc ty p EA ec,e=.returned (.agg #[.slice none 0 0,.slice NA (es.length+1) nc,.iface ty p,.slice EA es.length ec,.slice none 0 0])/\gW wB w' (aS w w') (fun x=>bI x (.slice NA (es.length+1) nc) ks/\dO Tb x (.iface ty p) gb/\qM Tb x (.slice EA es.length ec) es)
theorem gW.strs {wB w w':World} {v:Value} {l:List ByteArray} (h:kY w' (aS w w') v l):gW wB w' (aS w w') (fun x=>bI x v l) :=
 ⟨aS w w',fun _ hb=>⟨hb,hb.2⟩,fun w2 _ hy=>(h.move (X':=fun b=>b<w2.heap.size) fun b hb=>⟨hy b hb,mR hb.2 (hy b hb)⟩).at fun _ hb=>hb⟩
structure GpB (b:Nat) (nl nk:Value) (w:World):Prop where
 q3:w.cell? ⟨b,3,none⟩=some nl
 q4:w.cell? ⟨b,4,none⟩=some nk
 box:aJ (b+1) (.slice none 0 0) (.slice none 0 0) .nilIface (.slice none 0 0) (.slice none 0 0) w
theorem GpB.stay {b:Nat} {nl nk:Value} {w w':World} (h:GpB b nl nk w) (hb:Below w.heap.size w w'):GpB b nl nk w' :=
 have h0:b<w.heap.size:=by have:=h.box.lt;omega
 ⟨(hb.cell (p:=⟨b,3,none⟩) h0).trans h.q3,(hb.cell (p:=⟨b,4,none⟩) h0).trans h.q4,h.box.stay hb⟩
theorem gW.bV {wB w wa W:World} {P:World->Prop} {b:Nat} (h:gW wB W (aS wa W) P) (hb:b<wa.heap.size) (hw:w.heap.size<=wa.heap.size) (u0 u1 u2 u3 u4:Value):gW wB (bV W b u0 u1 u2 u3 u4) (aS w (bV W b u0 u1 u2 u3 u4)) P :=
 h.move fun k hk=>by
  have h1:=hk.1;refine ⟨ig W (by omega) u0 u1 u2 u3 u4,by omega,?_⟩;rw [jA];exact hk.2
theorem O8 {Tb:World->Prop} (hL:aV Tb) (t bt mt:T) (iB iM:Nat) (gb:T->Int⊕T) (es:List (ByteArray×(T->Int⊕T))) (k6:aj t=6) (k2:nK t=2) (IY:jN afQ (jZ t)=some iB) (hiM:jN afR (jZ t)=some iM) (hbt:elt t iB=bt) (hmt:elt t iM=mt) (hb:fV Tb bt gb)
  (m6:aj mt=6) (hl:nK mt=es.length) (hn:es.length<=100000) (hes:∀ i,(hi:i<es.length)->bO mt i≠IC/\qz (bO mt i)=false/\IB Tb (elt mt i) es[i].1 es[i].2/\jU es[i].1/\es[i].1.size<=100)
  (v:Value) (wB w:World) (ha:At wB 13 v t) (hk:bM t) (hb0:Below wB.heap.size wB w) (hT:Tb w):Calls Tryz.prog 237 #[v] w (O7 Tb wB gb es (IC::jZ mt) w):=by
 have lB:iB<2:=by have:=tY IY;unfold nK at k2;omega
 have lM:iM<2:=by have:=tY hiM;unfold nK at k2;omega
 have l2:nL t=2:=by have:=hk.names k6;omega
 obtain ⟨g1,La,Ka,Lc,Kc,hg1,rfl,hfj,hel,hnm⟩:=ha.open
 obtain ⟨eb,eo,hLa,yK⟩:∃ eb eo,La=some ⟨eb,eo,none⟩/\eb<wB.heap.size:=by
  obtain ⟨b,o,_,_,_,_,_,h0,h1,_⟩:=hel.out 0 (by omega);exact ⟨b,o,h0,h1⟩
 subst hLa;have hkb:bM bt:=by rw [<- hbt];exact hk.elt (by omega)
 have hkm:bM mt:=by rw [<- hmt];exact hk.elt (by omega)
 obtain ⟨bA,bB,bC,bD,hB⟩:∃ bA bB bC bD,(∀ w':World,Below wB.heap.size wB w'->w'.cell? ⟨eb,eo+iB*5,none⟩=some (.int .i64 (aj bt))/\w'.cell? ⟨eb,eo+iB*5+1,none⟩=some (.int .i64 (av bt))/\w'.cell? ⟨eb,eo+iB*5+2,none⟩=some (.string (ay bt))/\w'.cell? ⟨eb,eo+iB*5+3,none⟩=some (.slice bA (nL bt) bB)/\w'.cell? ⟨eb,eo+iB*5+4,none⟩=some (.slice bC (nK bt) bD))/\At wB 13 (.agg #[.int .i64 (aj bt),.int .i64 (av bt),.string (ay bt),.slice bA (nL bt) bB,.slice bC (nK bt) bD]) bt:=by
  obtain ⟨b,o,A,B,C,D,h0,hbl,p0,p1,p2,p3,p4,Ha⟩:=hel.out.shape (Below.refl _ _) iB (by omega);cases h0;rw [hbt] at p0 p1 p2 p3 p4 Ha;exact ⟨A,B,C,D,fun w' hw=>⟨(hw.cell (p:=⟨_,_,none⟩) yK).trans p0,(hw.cell (p:=⟨_,_,none⟩) yK).trans p1,(hw.cell (p:=⟨_,_,none⟩) yK).trans p2,(hw.cell (p:=⟨_,_,none⟩) yK).trans p3,(hw.cell (p:=⟨_,_,none⟩) yK).trans p4⟩,Ha.out.up (by omega)⟩
 obtain ⟨mA,mB,mC,mD,hM⟩:∃ mA mB mC mD,(∀ w':World,Below wB.heap.size wB w'->w'.cell? ⟨eb,eo+iM*5,none⟩=some (.int .i64 (aj mt))/\w'.cell? ⟨eb,eo+iM*5+1,none⟩=some (.int .i64 (av mt))/\w'.cell? ⟨eb,eo+iM*5+2,none⟩=some (.string (ay mt))/\w'.cell? ⟨eb,eo+iM*5+3,none⟩=some (.slice mA (nL mt) mB)/\w'.cell? ⟨eb,eo+iM*5+4,none⟩=some (.slice mC (nK mt) mD))/\At wB 13 (.agg #[.int .i64 (aj mt),.int .i64 (av mt),.string (ay mt),.slice mA (nL mt) mB,.slice mC (nK mt) mD]) mt:=by
  obtain ⟨b,o,A,B,C,D,h0,hbl,p0,p1,p2,p3,p4,Ha⟩:=hel.out.shape (Below.refl _ _) iM (by omega);cases h0;rw [hmt] at p0 p1 p2 p3 p4 Ha;exact ⟨A,B,C,D,fun w' hw=>⟨(hw.cell (p:=⟨_,_,none⟩) yK).trans p0,(hw.cell (p:=⟨_,_,none⟩) yK).trans p1,(hw.cell (p:=⟨_,_,none⟩) yK).trans p2,(hw.cell (p:=⟨_,_,none⟩) yK).trans p3,(hw.cell (p:=⟨_,_,none⟩) yK).trans p4⟩,Ha.out.up (by omega)⟩
 have UZ:=ak hB.1;have HMc:=ak hM.1
 have HMn:Hid (∀ w':World,Below wB.heap.size wB w'->bI w' (.slice mC (nK mt) mD) (jZ mt)):=by
  obtain ⟨g2,A2,K2,C2,D2,_,hx2,hf2,_,aiH⟩:=hM.2.open;simp only [Value.agg.injEq,Array.mk.injEq,List.cons.injEq,Value.slice.injEq,and_true,true_and] at hx2;obtain ⟨⟨rfl,rfl⟩,rfl,rfl⟩:=hx2;exact fun w' hw=>(kI aiH.out hf2.m1).keep hw
 have HE:Hid (∀ w':World,Below wB.heap.size wB w'->Tb w'->Calls Tryz.prog 259 #[.agg #[.int .i64 (aj bt),.int .i64 (av bt),.string (ay bt),.slice bA (nL bt) bB,.slice bC (nK bt) bD]] w' (iY Tb wB gb w')):=fun w' h1 h2=>vS hL bt gb hb _ wB w' hB.2 hkb h1 h2;have rJ:Hid (∀ w':World,Below wB.heap.size wB w'->Tb w'->Calls Tryz.prog 261 #[.agg #[.int .i64 (aj mt),.int .i64 (av mt),.string (ay mt),.slice mA (nL mt) mB,.slice mC (nK mt) mD]] w' (XK Tb wB es w')):=fun w' h1 h2=>TJ hL mt es m6 hl hn hes _ wB w' hM.2 hkm h1 h2;have HT:Hid (∀ w':World,Below w.heap.size w w'->Tb w'):=fun w' hb=>hL w hT w w' hT hb;rw [k6,k2,l2];have HB1:Hid (Below w.heap.size w ((w.alloc (.cells #[.int .i64 6,.int .i64 (av t),.string (ay t),.slice (some ⟨eb,eo,none⟩) 2 Lc,.slice Ka 2 Kc] 25)).alloc (.cells #[.slice none 0 0,.slice none 0 0,.nilIface,.slice none 0 0,.slice none 0 0] 268))):=(aY _ _).alloc (by simp) _;have HG1:Hid (GpB w.heap.size (.slice (some ⟨eb,eo,none⟩) 2 Lc) (.slice Ka 2 Kc) ((w.alloc (.cells #[.int .i64 6,.int .i64 (av t),.string (ay t),.slice (some ⟨eb,eo,none⟩) 2 Lc,.slice Ka 2 Kc] 25)).alloc (.cells #[.slice none 0 0,.slice none 0 0,.nilIface,.slice none 0 0,.slice none 0 0] 268))):=⟨by simp [go_sem],by simp [go_sem],by constructor<;>simp [go_sem]⟩
 have DY:Hid (((w.alloc (.cells #[.int .i64 6,.int .i64 (av t),.string (ay t),.slice (some ⟨eb,eo,none⟩) 2 Lc,.slice Ka 2 Kc] 25)).alloc (.cells #[.slice none 0 0,.slice none 0 0,.nilIface,.slice none 0 0,.slice none 0 0] 268)).heap.size=w.heap.size+2):=by show _=_;simp
 have Xt:Hid (∀ w':World,Below w.heap.size w w'->Calls Tryz.prog 159 #[.slice Ka 2 Kc,.string ⟨#[98,121]⟩] w' (fun e w2=>e=.returned (.int .i64 (iB:Nat))/\w2=w')/\Calls Tryz.prog 159 #[.slice Ka 2 Kc,.string ⟨#[109,97,107,101]⟩] w' (fun e w2=>e=.returned (.int .i64 (iM:Nat))/\w2=w')):=by
  intro w' hw;have hs:=(kI (Kc:=Kc) hnm.out hfj.m1).keep (hb0.trans (hw.mono hb0.size));rw [k2] at hs;refine ⟨(pJ _ _ afQ w' hs).mono fun e w2 hh=>⟨by rw [hh.1,IY];rfl,hh.2⟩,(pJ _ _ afR w' hs).mono fun e w2 hh=>⟨by rw [hh.1,hiM];rfl,hh.2⟩⟩
 have Hb0:=ak hb0;have Hl:=ak hl;have Hn:=ak hn;have lBi:(iB:Int)<2:=by omega
 have lMi:(iM:Int)<2:=by omega
 clear ha hk hel hnm hfj hb hes hB hM hkb hkm hbt hmt IY hiM hT hL hl hn m6 hb0 hg1 yK;go_in;go_wp2_with fail;refine (dW _).mono ?_;rintro e w2 ⟨rfl,rfl⟩;generalize ((w.alloc (.cells #[.int .i64 6,.int .i64 (av t),.string (ay t),.slice (some ⟨eb,eo,none⟩) 2 Lc,.slice Ka 2 Kc] 25)).alloc (.cells #[.slice none 0 0,.slice none 0 0,.nilIface,.slice none 0 0,.slice none 0 0] 268))=W1 at HB1 HG1 DY ⊢;have qw:=ak HB1.out.drew;have HGd:=ak (HG1.out.stay (au _));have HWd:Hid (W1.drew.heap.size=w.heap.size+2):=by show _=_;simpa using DY.out
 have qy:=ak HGd.out.q4;have HI1:=ak (Xt.out _ qw.out).1;have HI2:=ak (Xt.out _ qw.out).2;clear Xt HB1 HG1;go_wp2_with fail;go_region_held3 (fun wx=>wx.cell? ⟨w.heap.size,4,none⟩=some (.slice Ka 2 Kc)) (first | exact qy.out) (first | (go_at_call 159;with_reducible refine Calls.mono HI1.out ?_;rintro e5 w5 ⟨rfl,rfl⟩) | (go_at_call 159;with_reducible refine Calls.mono HI2.out ?_;rintro e5 w5 ⟨rfl,rfl⟩));clear qy HI1 HI2;generalize W1.drew=Wd at qw HGd HWd ⊢;go_wp2_with fail;refine (dW _).mono ?_;rintro e Wd ⟨rfl,rfl⟩;have vY:=ak (aY Wd (.cells #[.string ⟨#[95,105,100]⟩] 9));have HBj:Hid (Below Wd.heap.size Wd ((Wd.alloc (.cells #[.string ⟨#[95,105,100]⟩] 9)).alloc (.cells #[.slice (some ⟨Wd.heap.size,0,none⟩) 1 1,.slice mC (nK mt) mD] 23))):=(aY _ _).alloc (by simp) _;have wO:Hid (Below wB.heap.size wB Wd):=Hb0.out.trans (qw.out.mono Hb0.out.size);have q3:=(HGd.out.stay vY.out).q3;obtain ⟨m0,m1,m2,m3,m4⟩:=HMc.out _ (wO.out.trans (vY.out.mono wO.out.size))
 have DW:Hid (Calls Tryz.prog 260 #[.slice (some ⟨Wd.heap.size+1,0,none⟩) 2 2] ((Wd.alloc (.cells #[.string ⟨#[95,105,100]⟩] 9)).alloc (.cells #[.slice (some ⟨Wd.heap.size,0,none⟩) 1 1,.slice mC (nK mt) mD] 23)) fun e w'=>Below ((Wd.alloc (.cells #[.string ⟨#[95,105,100]⟩] 9)).alloc (.cells #[.slice (some ⟨Wd.heap.size,0,none⟩) 1 1,.slice mC (nK mt) mD] 23)).heap.size ((Wd.alloc (.cells #[.string ⟨#[95,105,100]⟩] 9)).alloc (.cells #[.slice (some ⟨Wd.heap.size,0,none⟩) 1 1,.slice mC (nK mt) mD] 23)) w'/\∃ v,e=.returned v/\kY w' (aS ((Wd.alloc (.cells #[.string ⟨#[95,105,100]⟩] 9)).alloc (.cells #[.slice (some ⟨Wd.heap.size,0,none⟩) 1 1,.slice mC (nK mt) mD] 23)) w') v ([IC]++jZ mt)):=by
  refine O6 (Wd.heap.size+1) (some ⟨Wd.heap.size,0,none⟩) mC 1 mD 1 (nK mt) [IC] (jZ mt) ((Wd.alloc (.cells #[.string ⟨#[95,105,100]⟩] 9)).alloc (.cells #[.slice (some ⟨Wd.heap.size,0,none⟩) 1 1,.slice mC (nK mt) mD] 23)) (by simp [go_sem]) (by simp [go_sem]) ?_ (HMn.out _ (wO.out.trans (HBj.out.mono wO.out.size))) (by simp) (by omega) (by have:=Hl.out;have:=Hn.out;omega);refine ⟨_,_,rfl,by simp,fun i hi=>?_⟩;obtain rfl:i=0:=by simp at hi;omega
  exact ⟨Wd.heap.size,0,rfl,by simp;omega,by decide,by simp [go_sem];rfl⟩
 have adp:=ak (qw.out.trans (HBj.out.mono qw.out.size));have HG5:=ak (HGd.out.stay HBj.out);have adq:=ak (wO.out.trans (HBj.out.mono wO.out.size));have HW5:Hid (w.heap.size+2<=((Wd.alloc (.cells #[.string ⟨#[95,105,100]⟩] 9)).alloc (.cells #[.slice (some ⟨Wd.heap.size,0,none⟩) 1 1,.slice mC (nK mt) mD] 23)).heap.size):=by show _<=_;have:=HWd.out;simp;omega
 go_wp2_with fail;refine DW.out.mono ?_;rintro e w6 ⟨b6,nv,rfl,hs6⟩;have zZ:=ak hs6;obtain ⟨NA,nc,hnv,hz1,hz2⟩:=hs6;have hlen:([IC]++jZ mt).length=es.length+1:=by have:=Hl.out;unfold nK at this;simp;omega
 rw [hlen] at hnv;subst hnv;clear hz1 hz2 hlen m0 m1 m2 m3 m4 q3 DW;have iN:=ak (adp.out.trans (b6.mono adp.out.size));have HG6:=ak (HG5.out.stay b6);have adr:=ak (adq.out.trans (b6.mono adq.out.size));have aiL:=ak ((gW.strs (wB:=wB) zZ.out).later (wa:=W1) (au _) (by have:=HW5.out;have:=DY.out;omega));have ads:=ak iN.out.drew;have XM:=ak adr.out.drew;have aiM:=ak (HG6.out.stay (au _));have HW6:Hid (W1.heap.size<=w6.drew.heap.size):=by show _<=_;have:=HW5.out;have:=DY.out;have:=b6.size;simp;omega
 have JE:=ak (HE.out _ XM.out (HT.out _ ads.out));obtain ⟨e0,e1,e2,e3,e4⟩:=UZ.out _ adr.out;obtain ⟨m0,m1,m2,m3,m4⟩:=HMc.out _ adr.out;have q3:=HG6.out.q3;clear b6 zZ HE qw HGd HBj vY wO adp HG5 adq HW5 HWd;go_wp2_with fail;go_region_law (first | (go_simp;go_wp2_with (go_at_call 259;refine JE.out.mono ?_;rintro e7 w7 ⟨b7,ty,p,rfl,hs7⟩;have oF:=ak (ads.out.trans (b7.mono ads.out.size));have afU:=ak (XM.out.trans (b7.mono XM.out.size));have HG7:=ak (aiM.out.stay b7);have q37:=HG7.out.q3;have Hb7:=ak b7;have Hs7:=ak hs7;obtain ⟨n0,n1,n2,n3,n4⟩:=HMc.out _ afU.out;have mV:=ak trivial;clear b7 hs7);clear mV) | (go_simp;go_wp2_with (go_at_call 261;refine (rJ.out w7 afU.out (HT.out _ oF.out)).mono ?_;rintro e8 w8 ⟨b8,EA,ec,rfl,hs8⟩;have QH:=ak (HG7.out.stay b8);have Hb8:=ak b8;have Hs8:=ak hs8;have r0:=QH.out.box.q0;have r1:=QH.out.box.q1;have r2:=QH.out.box.q2;have r3:=QH.out.box.q3;have r4:=QH.out.box.q4;have z0:=QH.out.box.f0;have z1:=QH.out.box.f1;have z2:=QH.out.box.f2;have z3:=QH.out.box.f3;have z4:=QH.out.box.f4;have mV:=ak trivial;clear b8 hs8);clear mV))
 all_goals
  go_wp2_with fail;have HO:=ak (QH.out.box.bV (.slice none 0 0) (.slice NA (es.length+1) nc) (.iface ty p) (.slice EA es.length ec) (.slice none 0 0));have fI:=ak (bU (oF.out.trans (Hb8.out.mono oF.out.size)) (b:=w.heap.size+1) (by omega) (by have:=QH.out.box.lt;omega) (.slice none 0 0) (.slice NA (es.length+1) nc) (.iface ty p) (.slice EA es.length ec) (.slice none 0 0));have HSf:=ak ((((aiL.out.later (wa:=W1) Hb7.out (Nat.le_refl _)).later (wa:=W1) Hb8.out (Nat.le_refl _)).and ((Hs7.out.later (wa:=W1) Hb8.out HW6.out).and (Hs8.out.later (wa:=W1) (Below.refl _ _) (Nat.le_trans HW6.out Hb7.out.size)))).bV (w:=w) (b:=w.heap.size+1) (by have:=DY.out;omega) (by have:=DY.out;omega) (.slice none 0 0) (.slice NA (es.length+1) nc) (.iface ty p) (.slice EA es.length ec) (.slice none 0 0));unfold bV at HO fI HSf;clear r0 r1 r2 r3 r4 z0 z1 z2 z3 z4 n0 n1 n2 n3 n4 e0 e1 e2 e3 e4 m0 m1 m2 m3 m4 q3 q37;have r0:=HO.out.q0;have r1:=HO.out.q1;have r2:=HO.out.q2;have r3:=HO.out.q3;have r4:=HO.out.q4;refine bodyPost_ret (v:=.agg #[.slice none 0 0,.slice NA (es.length+1) nc,.iface ty p,.slice EA es.length ec,.slice none 0 0]) (by simp [results,Tryz.results237,go_sem, *]) rfl ?_;exact ⟨fI.out,NA,nc,ty,p,EA,ec,rfl,HSf.out⟩
theorem XO {Tb:World->Prop} (hV:bF Tb) (hL:aV Tb) (NA:Option Addr) (nc:Nat) (bv ev:Value) (es:List (ByteArray×(T->Int⊕T))) (ops:List ByteArray) (hops:ops=es.map Prod.fst) (ks:List ByteArray) (gb:T->Int⊕T) (dv:Value) (l:List T) (w:World) (hk:bI w (.slice NA (ops.length+1) nc) ks) (hby:dO Tb w bv gb) (hes:qM Tb w ev es) (hd:cZ w dv l) (hT:Tb w) :
  Calls Tryz.prog 357 #[.agg #[.slice none 0 0,.slice NA (ops.length+1) nc,bv,ev,.slice none 0 0],dv] w (qK (Ab gb es ks) l w):=by
 have Rk:∀ (fn:Fn) (first cap:Array Value) (w:World),(Instr.makeFunc fn first cap).run Tryz.prog w=.ok (.func fn first cap) w:=fun _ _ _ _=>rfl;have HB1:=ak (aY w (.cells #[.slice none 0 0,.slice NA (ops.length+1) nc,bv,ev,.slice none 0 0] 268));have hdl:l.length<=1000000:=by obtain ⟨_,_,_,h,_⟩:=hd;exact h
 have hlen:ops.length=es.length:=by rw [hops,List.length_map]
 have hen:ops.length<=100000:=by obtain ⟨_,_,_,h,_⟩:=hes;omega
 have HC:=ak (Lb (p9 gb es) (fun k st w'=>(∃ L gv xs rb ys,jT w w.heap.size NA nc bv ev ops L gv xs rb ys st w')/\st.length<=k/\∀ i,(h:i<st.length)->∀ j,(∃ hj:j<es.length,es[j].1=fD)->nL (st[i].2.getD j aM)<=k) 358 (fun _ _=>rfl) (.pointer (some ⟨w.heap.size,0,none⟩)) w.heap.size dv l [] w _ HB1.out hd ⟨⟨_,_,_,_,_,jT.start w NA nc bv ev ops⟩,Nat.le_refl _,fun i hi=>absurd hi (Nat.not_lt_zero i)⟩
  (fun k s wx wy h hb=>by
   obtain ⟨⟨L,gv,xs,rb,ys,hG⟩,h2⟩:=h;exact ⟨⟨L,gv,xs,rb,ys,hG.keep hb⟩,h2⟩)
  (fun k s wx h=>by
   obtain ⟨⟨L,gv,xs,rb,ys,hG⟩,h2⟩:=h;exact ⟨_,hG.c0⟩)
  (fun k s d v wr hkl h hb ha hok=>by
   obtain ⟨⟨L,gv,xs,rb,ys,hG⟩,h2,h3⟩:=h;refine (Tz hL w w.heap.size NA nc bv ev es ops hops L gv xs rb ys s d v wr ks gb hG hb hk hby hes (by omega) (fun i hi j hj=>?_) ha hok hT).mono ?_
   ·have:=h3 i hi j (by
     obtain ⟨hj1,hj2⟩:=hj;subst hops;rw [List.getElem_map] at hj2;exact ⟨by rw [List.length_map] at hj1;exact hj1,hj2⟩)
    omega
   ·rintro e w' ⟨k1,k2 | ⟨st',k2,k3,k4⟩⟩
    ·exact ⟨k1,.inl k2⟩
    ·exact ⟨k1,.inr ⟨st',k2,k3,k4,by have:=XC k2;omega,ZX k2 h3⟩⟩))
 have adt:Hid (∀ (w2:World) (st:List (T×List T)) (L:Nat->vB) (gv:Value) (xs:List Value) (rb:Nat->Nat) (ys:Nat->List Value),jT w w.heap.size NA nc bv ev ops L gv xs rb ys st w2->Below w.heap.size w w2->st.length<=1000000->_):=fun w2 st L gv xs rb ys hG hb hn=>LH hV hL w w2 w.heap.size NA nc bv ev ops L gv xs rb ys st ks hG hb hk hen hn hT;have Hk:=ak hk;have Hen:=ak hen;obtain ⟨DA,dc,hdv,_⟩:=hd;obtain ⟨EA,ec,hev,_,_⟩:=hes;obtain ⟨ty,p,fid,hbv,_,_,_⟩:=hby;subst hdv;subst hev;subst hbv;have Hdl:=ak hdl;clear hT hV hL hdl hk hen hlen hops;go_in;go_wp2_with fail;refine HC.out.mono ?_;rintro e w2 ⟨b2,⟨k,x,h1,h2,rfl⟩ | ⟨st,v,h1,h2,h3,rfl⟩⟩
 ·have HB:=ak (HB1.out.trans b2);have HF:Hid (Ab gb es ks l=.inl (k,x)/\x≠0):=⟨by unfold Ab;rw [h1],h2⟩;have ez:(x==0)=false:=by simpa using h2
  clear b2 h1 h2 HC adt;go_wp2_with fail;refine bodyPost_ret (v:=.tuple #[.slice none 0 0,.int .i64 (k:Nat),.int .i64 x]) (by simp [results,Tryz.results357,go_sem, *]) rfl ?_;exact ⟨HB.out,.inl ⟨k,x,HF.out.1,HF.out.2,rfl⟩⟩
 ·obtain ⟨⟨L,gv,xs,rb,ys,hG⟩,hl1,_⟩:=h2;have HB:=ak (HB1.out.trans b2);obtain ⟨GA,gc,hgv,_⟩:=hG.elems HB.out Hk.out Hen.out;subst hgv;have HS2:=ak (adt.out w2 st L _ xs rb ys hG HB.out (by have:=Hdl.out;omega));have c42:=hG.c4;have Hg:Hid (∀ r,dM Mv (st.map (fZ ks)) 0 []=r->Ab gb es ks l=r):=fun r hr=>by unfold Ab;rw [h1];exact hr
  clear b2 h1 h3 hG hl1 HC adt Hk Hen Hdl;go_wp2_with fail;refine HS2.out.mono ?_;rintro e w3 ⟨b3,⟨k,x,h1,h2,rfl⟩ | ⟨r,v2,h1,rfl,h3⟩⟩
  ·have HB3:=ak (HB.out.trans b3);have HF:=ak (And.intro (Hg.out _ h1) h2);clear b3 h1 h2 HS2;go_wp2_with fail;refine bodyPost_ret (v:=.tuple #[.slice none 0 0,.int .i64 (k:Nat),.int .i64 x]) (by simp [results,Tryz.results357,go_sem, *]) rfl ?_;exact ⟨HB3.out,.inl ⟨k,x,HF.out.1,HF.out.2,rfl⟩⟩
  ·have HB3:=ak (HB.out.trans b3);have HF:=ak (And.intro (Hg.out _ h1) h3);clear b3 h1 h3 HS2;go_wp2_with fail;refine bodyPost_ret (v:=.tuple #[v2,.int .i64 0,.int .i64 0]) (by simp [results,Tryz.results357,go_sem, *]) rfl ?_;exact ⟨HB3.out,.inr ⟨r,v2,HF.out.1,rfl,HF.out.2⟩⟩
theorem O9 (p:Value) (w:World):(method 481 268 p "sheaf/pipe.run").run Tryz.prog w=.ok (357,p) w:=by kernel_rfl
theorem XP {Tb:World->Prop} (hV:bF Tb) (hL:aV Tb) {w:World} {NA:Option Addr} {nc:Nat} {bv ev:Value} {es:List (ByteArray×(T->Int⊕T))} {ops:List ByteArray} (hops:ops=es.map Prod.fst) {ks:List ByteArray} {gb:T->Int⊕T} (hk:bI w (.slice NA (ops.length+1) nc) ks) (hby:dO Tb w bv gb) (hes:qM Tb w ev es):gI Tb w (.iface 268 (.agg #[.slice none 0 0,.slice NA (ops.length+1) nc,bv,ev,.slice none 0 0])) (Ab gb es ks) :=
 ⟨_,_,_,rfl,O9 _,fun _ _=>rfl,fun wr dv l hb hd hT=>XO hV hL NA nc bv ev es ops hops ks gb dv l wr (hk.keep hb) (hby.keep hb) (hes.keep hb) hd hT⟩
def IE:ByteArray:=⟨#[36,103,114,111,117,112]⟩
theorem IG {Tb:World->Prop} (hV:bF Tb) (hL:aV Tb) (gb:T->Int⊕T) (es:List (ByteArray×(T->Int⊕T))) (ks:List ByteArray) (t j:T) (k6:aj t=6) (k1:nK t=1) (hj:elt t 0=j) (hx:bO t 0=IE) (h:∀ (v:Value) (wB w:World),At wB 13 v j->bM j->Below wB.heap.size wB w->Tb w->Calls Tryz.prog 237 #[v] w (O7 Tb wB gb es ks w)):sZ Tb t (Ab gb es ks):=by
 intro v wB w ha hk hb0 hT;have l1:nL t=1:=by have:=hk.names k6;omega
 have hkj:bM j:=by rw [<- hj];exact hk.elt (by omega)
 have Ha:=ak ha;obtain ⟨g1,La,Ka,Lc,Kc,hg1,rfl,_,_,_⟩:=ha.open;have HB1:=ak (aY w (vC t La Lc Ka Kc));have HC:=ak (mU t j IE hj hx _ wB _ Ha.out hk k6 k1 (hb0.trans (HB1.out.mono hb0.size)));have HE:Hid (∀ (v:Value) (w':World),At wB 13 v j->Below w.heap.size w w'->Calls Tryz.prog 237 #[v] w' (O7 Tb wB gb es ks w')):=fun v w' h1 h2=>h v wB w' h1 hkj (hb0.trans (h2.mono hb0.size)) (hL w hT w w' hT h2);clear ha hk hg1 hb0 hT h k6 k1 l1 hkj Ha hj hx;unfold IE at *;go_in;go_wp2_with fail;refine HC.out.mono ?_;rintro e w2 ⟨b2,A,B,C,D,rfl,hat⟩;have fT:=ak (aY w2 (vC j A B C D));have HB2:=ak (HB1.out.trans (b2.mono HB1.out.size));have HB3:=ak (HB2.out.trans (fT.out.mono HB2.out.size));have HP:=ak (HE.out _ _ hat HB3.out);have HY:=ak (aR w2 (.int .i64 (aj j)) (.int .i64 (av j)) (.string (ay j)) (.slice A (nL j) B) (.slice C (nK j) D));clear b2 hat HC HE;have y0:=HY.out.q0;have y1:=HY.out.q1;have y2:=HY.out.q2;have y3:=HY.out.q3;have y4:=HY.out.q4;go_wp2_with fail;refine HP.out.mono ?_;rintro e w5 ⟨b5,NA,nc,ty,p,EA,ec,rfl,hs⟩;have eF:=ak (HB3.out.trans (b5.mono HB3.out.size))
 have HS:=ak ((hs.later (wa:=w) (Below.refl _ _) HB3.out.size).mono (Q:=fun x=>gI Tb x (.iface 268 (.agg #[.slice none 0 0,.slice NA (es.length+1) nc,.iface ty p,.slice EA es.length ec,.slice none 0 0])) (Ab gb es ks)) fun w' hw hh=>by
  obtain ⟨h1,h2,h3⟩:=hh;have:=XP hV hL (ops:=es.map Prod.fst) rfl (by rw [List.length_map];exact h1) h2 h3;rw [List.length_map] at this;exact this)
 clear b5 hs HP y0 y1 y2 y3 y4;go_wp2_with fail;go_ret;exact ⟨eF.out,_,_,rfl,HS.out⟩
theorem q6:(cO ⟨#[95,105,100]⟩).length=5/\(cO ⟨#[110]⟩).length=3/\(cO ⟨#[115]⟩).length=3/\(cO ⟨#[108]⟩).length=3/\(cO ⟨#[102]⟩).length=3/\(cO ⟨#[109]⟩).length=3:=⟨by kernel_rfl,by kernel_rfl,by kernel_rfl,by kernel_rfl,by kernel_rfl,by kernel_rfl⟩
def fH (s:ByteArray):T:=dh 4 0 s
def I7:ByteArray:=⟨#[36,95,105,100]⟩
def lD (k:Nat):ByteArray:=⟨#[36]⟩++rH k
theorem XQ:((List.range 6).all fun k=>qz (lD k)&&(decide ((lD k).extract 1 (lD k).size=rH k)&&(decide (1<=(lD k).size)&&decide ((lD k).size<=1000))))=true:=by kernel_rfl
theorem aiN {k:Nat} (h:k<6):qz (lD k)=true/\(lD k).extract 1 (lD k).size=rH k/\1<=(lD k).size/\(lD k).size<=1000:=by
 have:=List.all_eq_true.1 XQ k (List.mem_range.2 h);simpa only [Bool.and_eq_true,decide_eq_true_eq] using this
theorem AB {Tb:World->Prop} (hA:bN Tb) (s x:ByteArray) (p:List ByteArray) (hop:qz s=true) (hx:s.extract 1 s.size=x) (h1:1<=s.size) (h2:s.size<=1000) (hp:iW x=true) (hs:bW x=p):fV Tb (fH s) (fun d=>.inr (aA p d)):=by
 subst hs;refine Ob hA.lies (fH s) _ rfl fun v wB w ha hk hb0 hT=>?_;exact KX hA.atoi hA.itoa hA.split hA.lies (fH s) x v wB w ha hop hx h1 (by show s.size<=_;omega) hp hT
theorem abd {Tb:World->Prop} (hA:bN Tb):fV Tb (fH I7) idE:=AB hA I7 jv [jv] (by kernel_rfl) (by kernel_rfl) (by decide) (by decide) (by kernel_rfl) (by kernel_rfl)
theorem XR {Tb:World->Prop} (hA:bN Tb) {k:Nat} (h:k<6):fV Tb (fH (lD k)) (fun d=>.inr (aA (rT k) d)):=by
 obtain ⟨h1,h2,h3,h4⟩:=aiN h;exact AB hA (lD k) (rH k) (rT k) h1 h2 h3 h4 (XD h) (CO h)
def aad (k:Nat):ByteArray:=(⟨#[34]⟩++rH k)++⟨#[34]⟩
structure Dc where
 id:Int
 es:List Int
 o:Option Nat
def aE (d:T):Int⊕T:=.inr (aA [iJ] d)
def dA:ByteArray:=⟨#[36,97]⟩
theorem aiO {Tb:World->Prop} (hA:bN Tb):fV Tb (fH dA) aE:=AB hA dA iJ [iJ] (by kernel_rfl) (by kernel_rfl) (by decide) (by decide) (by kernel_rfl) (by kernel_rfl)
end Go.Proofs.YtknakfpciccoaaaGreatDoor
