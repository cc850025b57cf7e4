import Derived.Test.YtknakfpciccoaabGreatDoorZL14
import Derived.Test.YtknakfpciccoaabGreatDoorZL12
import Derived.Test.YtknakfpciccoaabGreatDoorZL16
import Derived.Lib.AppendZerosOnto
import Derived.Test.YtknakfpciccoaabGreatDoorZL35
import Derived.Test.YtknakfpciccoaabGreatDoorZL34
import Derived.Test.YtknakfpciccoaabGreatDoorZL26
import Derived.Test.YtknakfpciccoaabGreatDoorZL22
import Derived.Test.YtknakfpciccoaabGreatDoorZL30
import Derived.Test.YtknakfpciccoaabGreatDoorZL25
/- slices.Grow of texts; slices.Concat of two rows of texts. -/
set_option maxHeartbeats 8000000
set_option maxRecDepth 100000
namespace Go.Proofs.YtknakfpciccoaabGreatDoor
open Go.RowKit
theorem Qo:(Tryz.prog.info? 9).map (fun i=>(i.zero,i.size,i.bytes))=some (some (.string ⟨#[]⟩),1,16):=by kernel_rfl
theorem SX (n:Nat) (w:World) (h0:0<n) (hn:n<=1000000):Calls Tryz.prog 162 #[.slice none 0 0,.int .i64 n] w fun e w'=>Below w.heap.size w w'/\∃ c,e=.returned (.slice (some ⟨w.heap.size,0,none⟩) 0 c)/\w'.ownsRow w.heap.size 9 1 (.slice (some ⟨w.heap.size,0,none⟩) 0 c) 0 []/\c<=maxLen:=by
 obtain ⟨iS,YS,YT,zS1,Yo⟩:=info_parts Qo;obtain ⟨G,hG⟩:∃ G,G=grownCap w (0+n) 0 9:=⟨_,rfl⟩
 have hG63:G<=maxLen:=by
  rw [hG];exact grownCap_le_maxLen w (0+n) 0 9 (by unfold maxLen;omega)
 have hGn:n<=G:=by
  have:=grownCap_ge w (0+n) 0 9;omega
 have hrz:∀ ty,(Builtin.append_ #[28,3] ty #[.slice none 0 0,.int .i64 (n:Int)]).run Tryz.prog w=.ok (.slice (some ⟨w.heap.size,0,none⟩) n G) (w.drew.alloc (.cells (Builtin.zeroCells #[.string ⟨#[]⟩] n++Builtin.zeroCells #[.string ⟨#[]⟩] (G - n)) 9)):=fun ty=>by
  have h:=Lib.run_append_grow_zeros (P:=Tryz.prog) w 28 3 ty 9 iS (.string ⟨#[]⟩) .i64 .i64 Tryz.underlying28 Tryz.underlying3 YS YT none 0 0 [] (run_firstCells_none w.drew iS.size 0 0 0) n h0 (by omega) (by omega) (by omega) (by rw [Yo];omega) (by rw [Nat.zero_add,Yo];exact growslice_fits (by omega) (by omega));rw [<- hG,Nat.zero_add,show (Value.string ⟨#[]⟩).cells=#[.string ⟨#[]⟩] by kernel_rfl] at h;simpa using h
 have HB:Hid (Below w.heap.size w (w.drew.alloc (.cells (Builtin.zeroCells #[.string ⟨#[]⟩] n++Builtin.zeroCells #[.string ⟨#[]⟩] (G - n)) 9))):=(ak w).alloc (by simp) _
 have HO:Hid ((w.drew.alloc (.cells (Builtin.zeroCells #[.string ⟨#[]⟩] n++Builtin.zeroCells #[.string ⟨#[]⟩] (G - n)) 9)).ownsRow w.heap.size 9 1 (.slice (some ⟨w.heap.size,0,none⟩) 0 G) 0 []):=by
  refine ⟨rfl,.inr ⟨w.heap.size,G,Builtin.zeroCells #[.string ⟨#[]⟩] n++Builtin.zeroCells #[.string ⟨#[]⟩] (G - n),rfl,Nat.le_refl _,?_,Nat.zero_le _,hG63,?_,?_⟩⟩
  ·have:=heap_alloc_new w.drew (.cells (Builtin.zeroCells #[.string ⟨#[]⟩] n++Builtin.zeroCells #[.string ⟨#[]⟩] (G - n)) 9);simpa using this
  ·simp [Builtin.zeroCells];omega
  ·simp
 have h1:¬ ((n:Int)<0):=by omega
 have h3:IntKind.i64.wrap (n:Int)=n:=by rw [IntKind.wrap_i64];omega
 have h4:(0:Int)<(n:Int):=by omega
 have h5:wrap64 (n:Int)=n:=by unfold wrap64;omega
 have Hc:=aj hG63;have hgl:G<=9223372036854775807:=by unfold maxLen at hG63;omega
 clear hG hG63 YS YT zS1 Yo;go_in;go_wp2_with (at_builtin;refine Lib.wpList_append_run _ rfl _ _ _ _ rfl _ _ rfl rfl _ _ (hrz _) ?_)
 all_goals go_ret
 all_goals exact ⟨HB.out,G,rfl,HO.out,Hc.out⟩
theorem Lf {w:World} {A:Option Addr} {n c:Nat} {l:List ByteArray} (h:bO w (.slice A n c) l):Src Tryz.prog 1 28 (.slice A n c) n (l.map fun s=>.string s) w:=by
 obtain ⟨A',c',hv,hl,h⟩:=h;simp only [Value.slice.injEq] at hv;obtain ⟨rfl,rfl,rfl⟩:=hv
 have hone:∀ u ∈ l.map (fun s=>Value.string s),u.oneCell'=true:=fun u hu=>by
  obtain ⟨s,_,rfl⟩:=List.mem_map.1 hu;rfl
 cases A with
 | none =>
  cases l with
  | nil=>exact Src.ofNil _ Tryz.underlying28 c
  | cons a r =>
   obtain ⟨b,o,h0,_⟩:=h 0 (by simp);cases h0
 | some a =>
  refine Src.ofSlice _ Tryz.underlying28 a l.length c _ (by simp) (fun j u hu=>?_) hone;rw [List.getElem?_map] at hu;cases hj:l[j]? with
  | none=>rw [hj] at hu;cases hu
  | some s =>
   rw [hj] at hu;simp only [Option.map_some,Option.some.injEq] at hu;subst hu;obtain ⟨hlt,hs⟩:=List.getElem?_eq_some_iff.1 hj;obtain ⟨b,o,h0,_,_,h3⟩:=h j hlt;cases h0;rw [show (⟨b,o,none⟩:Addr).add j=⟨b,o+j,none⟩ by unfold Addr.add;by_cases e:j=0<;>simp [e],h3,List.getD_eq_getElem?_getD,hj];rfl
theorem Xx {w w':World} {v:Value} {l:List ByteArray} (h:w'.ownsRow w.heap.size 9 1 v l.length (l.map fun s=>.string s)) (hn:l.length<=8796093022208) (hs:∀ i,i<l.length->(l.getD i ByteArray.empty).size<=140737488355328):lu w' (aT w w') v l:=by
 have hrow:=h;rcases h.2 with ⟨rfl,h0⟩ | ⟨g,cap,cur,rfl,hb0,hg,_⟩
 ·exact ⟨none,0,by rw [h0],hn,fun i hi=>by omega⟩
 ·refine ⟨_,_,rfl,hn,fun i hi=>⟨g,0,rfl,⟨hb0,(Array.getElem?_eq_some_iff.1 hg).1⟩,hs i hi,?_⟩⟩;rw [Nat.zero_add];refine aW hrow ?_;rw [List.getElem?_map,List.getElem?_eq_getElem hi,List.getD_eq_getElem?_getD,List.getElem?_eq_getElem hi];rfl
def Z6 (a b k:Nat):Nat:=if k=0 then 0 else if k=1 then a else a+b
def adu (a b:List ByteArray) (k:Nat):List ByteArray:=if k=0 then [] else if k=1 then a else a++b
theorem Oz (ob:Nat) (A1 A2:Option Addr) (c1 c2 n1 n2:Nat) (l1 l2:List ByteArray) (w:World) (q0:w.cell? ⟨ob,0,none⟩=some (.slice A1 n1 c1)) (q1:w.cell? ⟨ob,1,none⟩=some (.slice A2 n2 c2)) (h1:bO w (.slice A1 n1 c1) l1) (h2:bO w (.slice A2 n2 c2) l2) (hob:ob<w.heap.size) (hn:0<n1+n2) (hm:n1+n2<=1000000) :
  Calls Tryz.prog 149 #[.slice (some ⟨ob,0,none⟩) 2 2] w fun e w'=>Below w.heap.size w w'/\∃ v,e=.returned v/\lu w' (aT w w') v (l1++l2):=by
 obtain ⟨iS,YS,YT,zS1,Yo⟩:=info_parts Qo;have C8:Hid (∀ w':World,Below w.heap.size w w'->Src Tryz.prog 1 28 (.slice A1 n1 c1) n1 (l1.map fun s=>.string s) w'):=fun w' hb=>Lf (h1.keep hb);have HS2:Hid (∀ w':World,Below w.heap.size w w'->Src Tryz.prog 1 28 (.slice A2 n2 c2) n2 (l2.map fun s=>.string s) w'):=fun w' hb=>Lf (h2.keep hb);have HQ:Hid (∀ w':World,Below w.heap.size w w'->w'.cell? ⟨ob,0,none⟩=some (.slice A1 n1 c1)/\w'.cell? ⟨ob,1,none⟩=some (.slice A2 n2 c2)):=fun w' hb=>⟨(hb.cell (p:=⟨ob,0,none⟩) hob).trans q0,(hb.cell (p:=⟨ob,1,none⟩) hob).trans q1⟩
 have HL:Hid (l1.length=n1/\l2.length=n2/\∀ i,i<(l1++l2).length->((l1++l2).getD i ByteArray.empty).size<=140737488355328):=by
  obtain ⟨_,_,e1,_,g1⟩:=h1;obtain ⟨_,_,e2,_,g2⟩:=h2;simp only [Value.slice.injEq] at e1 e2;refine ⟨e1.2.1.symm,e2.2.1.symm,fun i hi=>?_⟩;rw [List.length_append] at hi;by_cases e:i<l1.length
  ·rw [List.getD_eq_getElem?_getD,List.getElem?_append_left e,<- List.getD_eq_getElem?_getD];obtain ⟨_,_,_,_,h,_⟩:=g1 i e;exact h
  ·rw [List.getD_eq_getElem?_getD,List.getElem?_append_right (by omega),<- List.getD_eq_getElem?_getD];obtain ⟨_,_,_,_,h,_⟩:=g2 (i - l1.length) (by omega);exact h
 have HG:=aj (SX (n1+n2) w hn hm);clear h1 h2 hn;go_in;go_wp2_with fail;go_loopg [3,11] 2 (fun g s i wr=>∃ (k m:Nat),g=2 - k/\k<=2/\i=.int .i64 k/\s=.int .i64 m/\Hid (m=Z6 n1 n2 k)/\w=wr)
 case atStart=>exact ⟨0,0,rfl,by omega,rfl,rfl,rfl,rfl⟩
 case round =>
  obtain ⟨k,m,rfl,hk,rfl,rfl,Hm,rfl⟩:=hrel;obtain rfl | rfl | rfl:k=0\/k=1\/k=2:=by omega
  ·obtain rfl:m=0:=Hm.out;have hw:IntKind.i64.wrap (n1:Int)=n1:=by rw [IntKind.wrap_i64];omega
   have hnn:¬ ((n1:Int)<0):=by omega
   go_wp2_with fail;go_roundg 1
   case rel=>exact ⟨1,n1,rfl,by omega,rfl,by go_num,rfl,rfl⟩
   case measure=>omega
  ·obtain rfl:m=n1:=Hm.out;have hw:IntKind.i64.wrap ((m:Int)+(n2:Int))=m+n2:=by rw [IntKind.wrap_i64];omega
   have hnn:¬ ((m:Int)+(n2:Int)<0):=by omega
   go_wp2_with fail;go_roundg 0
   case rel=>exact ⟨2,m+n2,rfl,by omega,rfl,by go_num,rfl,rfl⟩
   case measure=>omega
  ·obtain rfl:m=n1+n2:=Hm.out;go_wp2_with fail;refine HG.out.mono ?_;rintro e w1 ⟨b1,c,rfl,hO,hc⟩;have HB1:=aj b1;have bq:=aj hO;clear b1 hO HG hc q0 q1;go_wp2_with fail;go_loopg [6,27] 2 (fun g o i wr=>∃ (k m:Nat) (xs:List Value),g=2 - k/\k<=2/\i=.int .i64 k/\Hid (Below w.heap.size w wr)/\Hid (wr.ownsRow w.heap.size 9 1 o m xs)/\Hid (m=Z6 n1 n2 k/\xs=(adu l1 l2 k).map fun s=>.string s))
   case atStart=>exact ⟨0,0,[],rfl,by omega,rfl,HB1,bq,rfl,rfl⟩
   case round =>
    clear HB1 bq;obtain ⟨k,m,xs,rfl,hk,rfl,HB,HO,Hx⟩:=hrel;obtain rfl | rfl | rfl:k=0\/k=1\/k=2:=by omega
    ·obtain rfl:m=0:=Hx.out.1;have HX:=aj Hx.out.2;have q:=(HQ.out _ HB.out).1;have hlo:w.heap.size<=wr.heap.size:=HB.out.size;clear Hx;go_wp2_with (at_builtin;refine aD _ rfl (.tmp 31) (.tmp 32) 28 28 rfl w.heap.size 9 iS _ 1 16 Tryz.underlying28 YS YT zS1 Yo rfl u6 0 xs rfl HO.out (.slice A1 n1 c1) n1 (l1.map fun s=>.string s) rfl (C8.out _ HB.out) (by unfold maxLen;omega) (by omega) hlo ?_;intro v' w6 pV lZ dW);have HO6:=aj pV;have iq:=aj (bY HB.out HO.out (Nat.le_refl _) hlo lZ);clear pV lZ dW;go_wp2_with fail;go_roundg 1
     case rel=>exact ⟨1,_,_,rfl,by omega,rfl,iq,HO6,by show _=_;unfold Z6;simp,by rw [HX.out];simp [adu]⟩
     case measure=>omega
    ·obtain rfl:m=n1:=Hx.out.1;have HX:=aj Hx.out.2;have q:=(HQ.out _ HB.out).2;have hlo:w.heap.size<=wr.heap.size:=HB.out.size;clear Hx;go_wp2_with (at_builtin;refine aD _ rfl (.tmp 31) (.tmp 32) 28 28 rfl w.heap.size 9 iS _ 1 16 Tryz.underlying28 YS YT zS1 Yo rfl u6 m xs rfl HO.out (.slice A2 n2 c2) n2 (l2.map fun s=>.string s) rfl (HS2.out _ HB.out) (by unfold maxLen;omega) (by omega) hlo ?_;intro v' w6 pV lZ dW);have HO6:=aj pV;have iq:=aj (bY HB.out HO.out (Nat.le_refl _) hlo lZ);clear pV lZ dW;go_wp2_with fail;go_roundg 0
     case rel=>exact ⟨2,_,_,rfl,by omega,rfl,iq,HO6,by show _=_;unfold Z6;simp,by rw [HX.out];simp [adu]⟩
     case measure=>omega
    ·obtain ⟨hm2,hx2⟩:=Hx.out;have h2:m=n1+n2:=hm2;have h3:xs=(l1++l2).map fun s=>.string s:=hx2;subst h2;subst h3;obtain ⟨e1,e2,e3⟩:=HL.out;have sw:=aj (Xx (w:=w) (w':=wr) (v:=u6) (l:=l1++l2) (by rw [List.length_append,e1,e2];exact HO.out) (by rw [List.length_append];omega) e3);clear Hx hm2 hx2 e1 e2 e3;go_wp2_with fail;go_ret;exact ⟨HB.out,_,rfl,sw.out⟩
def agj:ByteArray:=⟨#[98,121]⟩
def agk:ByteArray:=⟨#[109,97,107,101]⟩
def OB (Tb:World->Prop) (wB:World) (gb:T->Int⊕T) (es:List (ByteArray×(T->Int⊕T))) (ks:List ByteArray) (w:World) (e:Ending) (w':World):Prop :=
 Below w.heap.size w w'/\∃ NA nc ty p EA ec,e=.returned (.agg #[.slice none 0 0,.slice NA (es.length+1) nc,.iface ty p,.slice EA es.length ec,.slice none 0 0])/\gB wB w' (aT w w') (fun x=>bO x (.slice NA (es.length+1) nc) ks/\bL Tb x (.iface ty p) gb/\qN Tb x (.slice EA es.length ec) es)
theorem gB.strs {wB w w':World} {v:Value} {l:List ByteArray} (h:lu w' (aT w w') v l):gB wB w' (aT w w') (fun x=>bO x v l) :=
 ⟨aT w w',fun _ hb=>⟨hb,hb.2⟩,fun w2 _ hy=>(h.move (X':=fun b=>b<w2.heap.size) fun b hb=>⟨hy b hb,lU hb.2 (hy b hb)⟩).at fun _ hb=>hb⟩
structure GpB (b:Nat) (nl nk:Value) (w:World):Prop where
 q3:w.cell? ⟨b,3,none⟩=some nl
 q4:w.cell? ⟨b,4,none⟩=some nk
 box:aH (b+1) (.slice none 0 0) (.slice none 0 0) .nilIface (.slice none 0 0) (.slice none 0 0) w
theorem GpB.stay {b:Nat} {nl nk:Value} {w w':World} (h:GpB b nl nk w) (hb:Below w.heap.size w w'):GpB b nl nk w' :=
 have h0:b<w.heap.size:=by have:=h.box.lt;omega
 ⟨(hb.cell (p:=⟨b,3,none⟩) h0).trans h.q3,(hb.cell (p:=⟨b,4,none⟩) h0).trans h.q4,h.box.stay hb⟩
theorem gB.bG {wB w wa W:World} {P:World->Prop} {b:Nat} (h:gB wB W (aT wa W) P) (hb:b<wa.heap.size) (hw:w.heap.size<=wa.heap.size) (u0 u1 u2 u3 u4:Value):gB wB (bG W b u0 u1 u2 u3 u4) (aT w (bG W b u0 u1 u2 u3 u4)) P :=
 h.move fun k hk=>by
  have h1:=hk.1;refine ⟨iA W (by omega) u0 u1 u2 u3 u4,by omega,?_⟩;rw [jA];exact hk.2
theorem OC {Tb:World->Prop} (hL:aS Tb) (t bt mt:T) (iB iM:Nat) (gb:T->Int⊕T) (es:List (ByteArray×(T->Int⊕T))) (k6:ah t=6) (k2:nK t=2) (Iz:jM agj (kQ t)=some iB) (hiM:jM agk (kQ t)=some iM) (hbt:elt t iB=bt) (hmt:elt t iM=mt) (hb:dH Tb bt gb)
  (m6:ah mt=6) (hl:nK mt=es.length) (hn:es.length<=100000) (hes:∀ i,(hi:i<es.length)->bR mt i≠Ii/\oU (bR mt i)=false/\Ih Tb (elt mt i) es[i].1 es[i].2/\jS es[i].1/\es[i].1.size<=100)
  (v:Value) (wB w:World) (ha:At wB 13 v t) (hk:bM t) (hb0:Below wB.heap.size wB w) (hT:Tb w):Calls Tryz.prog 125 #[v] w (OB Tb wB gb es (Ii::kQ mt) w):=by
 have lB:iB<2:=by have:=tF Iz;unfold nK at k2;omega
 have lM:iM<2:=by have:=tF hiM;unfold nK at k2;omega
 have l2:nL t=2:=by have:=hk.names k6;omega
 obtain ⟨g1,La,Ka,Lc,Kc,hg1,rfl,hfj,hel,hnm⟩:=ha.open
 obtain ⟨eb,eo,hLa,yx⟩:∃ eb eo,La=some ⟨eb,eo,none⟩/\eb<wB.heap.size:=by
  obtain ⟨b,o,_,_,_,_,_,h0,h1,_⟩:=hel.out 0 (by omega);exact ⟨b,o,h0,h1⟩
 subst hLa;have hkb:bM bt:=by rw [<- hbt];exact hk.elt (by omega)
 have hkm:bM mt:=by rw [<- hmt];exact hk.elt (by omega)
 obtain ⟨bA,bB,bC,bD,hB⟩:∃ bA bB bC bD,(∀ w':World,Below wB.heap.size wB w'->w'.cell? ⟨eb,eo+iB*5,none⟩=some (.int .i64 (ah bt))/\w'.cell? ⟨eb,eo+iB*5+1,none⟩=some (.int .i64 (au bt))/\w'.cell? ⟨eb,eo+iB*5+2,none⟩=some (.string (ay bt))/\w'.cell? ⟨eb,eo+iB*5+3,none⟩=some (.slice bA (nL bt) bB)/\w'.cell? ⟨eb,eo+iB*5+4,none⟩=some (.slice bC (nK bt) bD))/\At wB 13 (.agg #[.int .i64 (ah bt),.int .i64 (au bt),.string (ay bt),.slice bA (nL bt) bB,.slice bC (nK bt) bD]) bt:=by
  obtain ⟨b,o,A,B,C,D,h0,hbl,p0,p1,p2,p3,p4,Ha⟩:=hel.out.shape (Below.refl _ _) iB (by omega);cases h0;rw [hbt] at p0 p1 p2 p3 p4 Ha;exact ⟨A,B,C,D,fun w' hw=>⟨(hw.cell (p:=⟨_,_,none⟩) yx).trans p0,(hw.cell (p:=⟨_,_,none⟩) yx).trans p1,(hw.cell (p:=⟨_,_,none⟩) yx).trans p2,(hw.cell (p:=⟨_,_,none⟩) yx).trans p3,(hw.cell (p:=⟨_,_,none⟩) yx).trans p4⟩,Ha.out.up (by omega)⟩
 obtain ⟨mA,mB,mC,mD,hM⟩:∃ mA mB mC mD,(∀ w':World,Below wB.heap.size wB w'->w'.cell? ⟨eb,eo+iM*5,none⟩=some (.int .i64 (ah mt))/\w'.cell? ⟨eb,eo+iM*5+1,none⟩=some (.int .i64 (au mt))/\w'.cell? ⟨eb,eo+iM*5+2,none⟩=some (.string (ay mt))/\w'.cell? ⟨eb,eo+iM*5+3,none⟩=some (.slice mA (nL mt) mB)/\w'.cell? ⟨eb,eo+iM*5+4,none⟩=some (.slice mC (nK mt) mD))/\At wB 13 (.agg #[.int .i64 (ah mt),.int .i64 (au mt),.string (ay mt),.slice mA (nL mt) mB,.slice mC (nK mt) mD]) mt:=by
  obtain ⟨b,o,A,B,C,D,h0,hbl,p0,p1,p2,p3,p4,Ha⟩:=hel.out.shape (Below.refl _ _) iM (by omega);cases h0;rw [hmt] at p0 p1 p2 p3 p4 Ha;exact ⟨A,B,C,D,fun w' hw=>⟨(hw.cell (p:=⟨_,_,none⟩) yx).trans p0,(hw.cell (p:=⟨_,_,none⟩) yx).trans p1,(hw.cell (p:=⟨_,_,none⟩) yx).trans p2,(hw.cell (p:=⟨_,_,none⟩) yx).trans p3,(hw.cell (p:=⟨_,_,none⟩) yx).trans p4⟩,Ha.out.up (by omega)⟩
 have HBc:=aj hB.1;have HMc:=aj hM.1
 have HMn:Hid (∀ w':World,Below wB.heap.size wB w'->bO w' (.slice mC (nK mt) mD) (kQ mt)):=by
  obtain ⟨g2,A2,K2,C2,D2,_,hx2,hf2,_,aiY⟩:=hM.2.open;simp only [Value.agg.injEq,Array.mk.injEq,List.cons.injEq,Value.slice.injEq,and_true,true_and] at hx2;obtain ⟨⟨rfl,rfl⟩,rfl,rfl⟩:=hx2;exact fun w' hw=>(kE aiY.out hf2.m1).keep hw
 have HE:Hid (∀ w':World,Below wB.heap.size wB w'->Tb w'->Calls Tryz.prog 148 #[.agg #[.int .i64 (ah bt),.int .i64 (au bt),.string (ay bt),.slice bA (nL bt) bB,.slice bC (nK bt) bD]] w' (fT Tb wB gb w')):=fun w' h1 h2=>vF hL bt gb hb _ wB w' hB.2 hkb h1 h2;have qH:Hid (∀ w':World,Below wB.heap.size wB w'->Tb w'->Calls Tryz.prog 150 #[.agg #[.int .i64 (ah mt),.int .i64 (au mt),.string (ay mt),.slice mA (nL mt) mB,.slice mC (nK mt) mD]] w' (Xw Tb wB es w')):=fun w' h1 h2=>SV hL mt es m6 hl hn hes _ wB w' hM.2 hkm h1 h2;have HT:Hid (∀ w':World,Below w.heap.size w w'->Tb w'):=fun w' hb=>hL w hT w w' hT hb;rw [k6,k2,l2];have HB1:Hid (Below w.heap.size w ((w.alloc (.cells #[.int .i64 6,.int .i64 (au t),.string (ay t),.slice (some ⟨eb,eo,none⟩) 2 Lc,.slice Ka 2 Kc] 36)).alloc (.cells #[.slice none 0 0,.slice none 0 0,.nilIface,.slice none 0 0,.slice none 0 0] 178))):=(aQ _ _).alloc (by simp) _;have HG1:Hid (GpB w.heap.size (.slice (some ⟨eb,eo,none⟩) 2 Lc) (.slice Ka 2 Kc) ((w.alloc (.cells #[.int .i64 6,.int .i64 (au t),.string (ay t),.slice (some ⟨eb,eo,none⟩) 2 Lc,.slice Ka 2 Kc] 36)).alloc (.cells #[.slice none 0 0,.slice none 0 0,.nilIface,.slice none 0 0,.slice none 0 0] 178))):=⟨by simp [go_sem],by simp [go_sem],by constructor<;>simp [go_sem]⟩
 have Dq:Hid (((w.alloc (.cells #[.int .i64 6,.int .i64 (au t),.string (ay t),.slice (some ⟨eb,eo,none⟩) 2 Lc,.slice Ka 2 Kc] 36)).alloc (.cells #[.slice none 0 0,.slice none 0 0,.nilIface,.slice none 0 0,.slice none 0 0] 178)).heap.size=w.heap.size+2):=by show _=_;simp
 have W9:Hid (∀ w':World,Below w.heap.size w w'->Calls Tryz.prog 91 #[.slice Ka 2 Kc,.string ⟨#[98,121]⟩] w' (fun e w2=>e=.returned (.int .i64 (iB:Nat))/\w2=w')/\Calls Tryz.prog 91 #[.slice Ka 2 Kc,.string ⟨#[109,97,107,101]⟩] w' (fun e w2=>e=.returned (.int .i64 (iM:Nat))/\w2=w')):=by
  intro w' hw;have hs:=(kE (Kc:=Kc) hnm.out hfj.m1).keep (hb0.trans (hw.mono hb0.size));rw [k2] at hs;refine ⟨(pU _ _ agj w' hs).mono fun e w2 hh=>⟨by rw [hh.1,Iz];rfl,hh.2⟩,(pU _ _ agk w' hs).mono fun e w2 hh=>⟨by rw [hh.1,hiM];rfl,hh.2⟩⟩
 have Hb0:=aj hb0;have Hl:=aj hl;have Hn:=aj hn;have lBi:(iB:Int)<2:=by omega
 have lMi:(iM:Int)<2:=by omega
 clear ha hk hel hnm hfj hb hes hB hM hkb hkm hbt hmt Iz hiM hT hL hl hn m6 hb0 hg1 yx;go_in;go_wp2_with fail;refine (eu _).mono ?_;rintro e w2 ⟨rfl,rfl⟩;generalize ((w.alloc (.cells #[.int .i64 6,.int .i64 (au t),.string (ay t),.slice (some ⟨eb,eo,none⟩) 2 Lc,.slice Ka 2 Kc] 36)).alloc (.cells #[.slice none 0 0,.slice none 0 0,.nilIface,.slice none 0 0,.slice none 0 0] 178))=W1 at HB1 HG1 Dq ⊢;have oz:=aj HB1.out.drew;have HGd:=aj (HG1.out.stay (ak _));have HWd:Hid (W1.drew.heap.size=w.heap.size+2):=by show _=_;simpa using Dq.out
 have pF:=aj HGd.out.q4;have HI1:=aj (W9.out _ oz.out).1;have HI2:=aj (W9.out _ oz.out).2;clear W9 HB1 HG1;go_wp2_with fail;go_region_held3 (fun wx=>wx.cell? ⟨w.heap.size,4,none⟩=some (.slice Ka 2 Kc)) (first | exact pF.out) (first | (go_at_call 91;with_reducible refine Calls.mono HI1.out ?_;rintro e5 w5 ⟨rfl,rfl⟩) | (go_at_call 91;with_reducible refine Calls.mono HI2.out ?_;rintro e5 w5 ⟨rfl,rfl⟩));clear pF HI1 HI2;generalize W1.drew=Wd at oz HGd HWd ⊢;go_wp2_with fail;refine (eu _).mono ?_;rintro e Wd ⟨rfl,rfl⟩;have vO:=aj (aQ Wd (.cells #[.string ⟨#[95,105,100]⟩] 9));have HBj:Hid (Below Wd.heap.size Wd ((Wd.alloc (.cells #[.string ⟨#[95,105,100]⟩] 9)).alloc (.cells #[.slice (some ⟨Wd.heap.size,0,none⟩) 1 1,.slice mC (nK mt) mD] 28))):=(aQ _ _).alloc (by simp) _;have xL:Hid (Below wB.heap.size wB Wd):=Hb0.out.trans (oz.out.mono Hb0.out.size);have q3:=(HGd.out.stay vO.out).q3;obtain ⟨m0,m1,m2,m3,m4⟩:=HMc.out _ (xL.out.trans (vO.out.mono xL.out.size))
 have Dj:Hid (Calls Tryz.prog 149 #[.slice (some ⟨Wd.heap.size+1,0,none⟩) 2 2] ((Wd.alloc (.cells #[.string ⟨#[95,105,100]⟩] 9)).alloc (.cells #[.slice (some ⟨Wd.heap.size,0,none⟩) 1 1,.slice mC (nK mt) mD] 28)) fun e w'=>Below ((Wd.alloc (.cells #[.string ⟨#[95,105,100]⟩] 9)).alloc (.cells #[.slice (some ⟨Wd.heap.size,0,none⟩) 1 1,.slice mC (nK mt) mD] 28)).heap.size ((Wd.alloc (.cells #[.string ⟨#[95,105,100]⟩] 9)).alloc (.cells #[.slice (some ⟨Wd.heap.size,0,none⟩) 1 1,.slice mC (nK mt) mD] 28)) w'/\∃ v,e=.returned v/\lu w' (aT ((Wd.alloc (.cells #[.string ⟨#[95,105,100]⟩] 9)).alloc (.cells #[.slice (some ⟨Wd.heap.size,0,none⟩) 1 1,.slice mC (nK mt) mD] 28)) w') v ([Ii]++kQ mt)):=by
  refine Oz (Wd.heap.size+1) (some ⟨Wd.heap.size,0,none⟩) mC 1 mD 1 (nK mt) [Ii] (kQ mt) ((Wd.alloc (.cells #[.string ⟨#[95,105,100]⟩] 9)).alloc (.cells #[.slice (some ⟨Wd.heap.size,0,none⟩) 1 1,.slice mC (nK mt) mD] 28)) (by simp [go_sem]) (by simp [go_sem]) ?_ (HMn.out _ (xL.out.trans (HBj.out.mono xL.out.size))) (by simp) (by omega) (by have:=Hl.out;have:=Hn.out;omega);refine ⟨_,_,rfl,by simp,fun i hi=>?_⟩;obtain rfl:i=0:=by simp at hi;omega
  exact ⟨Wd.heap.size,0,rfl,by simp;omega,by decide,by simp [go_sem];rfl⟩
 have adv:=aj (oz.out.trans (HBj.out.mono oz.out.size));have HG5:=aj (HGd.out.stay HBj.out);have adw:=aj (xL.out.trans (HBj.out.mono xL.out.size));have HW5:Hid (w.heap.size+2<=((Wd.alloc (.cells #[.string ⟨#[95,105,100]⟩] 9)).alloc (.cells #[.slice (some ⟨Wd.heap.size,0,none⟩) 1 1,.slice mC (nK mt) mD] 28)).heap.size):=by show _<=_;have:=HWd.out;simp;omega
 go_wp2_with fail;refine Dj.out.mono ?_;rintro e w6 ⟨b6,nv,rfl,hs6⟩;have Fe:=aj hs6;obtain ⟨NA,nc,hnv,hz1,hz2⟩:=hs6;have hlen:([Ii]++kQ mt).length=es.length+1:=by have:=Hl.out;unfold nK at this;simp;omega
 rw [hlen] at hnv;subst hnv;clear hz1 hz2 hlen m0 m1 m2 m3 m4 q3 Dj;have iq:=aj (adv.out.trans (b6.mono adv.out.size));have HG6:=aj (HG5.out.stay b6);have adx:=aj (adw.out.trans (b6.mono adw.out.size));have ai2:=aj ((gB.strs (wB:=wB) Fe.out).later (wa:=W1) (ak _) (by have:=HW5.out;have:=Dq.out;omega));have ady:=aj iq.out.drew;have Xy:=aj adx.out.drew;have ai3:=aj (HG6.out.stay (ak _));have HW6:Hid (W1.heap.size<=w6.drew.heap.size):=by show _<=_;have:=HW5.out;have:=Dq.out;have:=b6.size;simp;omega
 have Jj:=aj (HE.out _ Xy.out (HT.out _ ady.out));obtain ⟨e0,e1,e2,e3,e4⟩:=HBc.out _ adx.out;obtain ⟨m0,m1,m2,m3,m4⟩:=HMc.out _ adx.out;have q3:=HG6.out.q3;clear b6 Fe HE oz HGd HBj vO xL adv HG5 adw HW5 HWd;go_wp2_with fail;go_region_law (first | (go_simp;go_wp2_with (go_at_call 148;refine Jj.out.mono ?_;rintro e7 w7 ⟨b7,ty,p,rfl,hs7⟩;have pq:=aj (ady.out.trans (b7.mono ady.out.size));have agn:=aj (Xy.out.trans (b7.mono Xy.out.size));have HG7:=aj (ai3.out.stay b7);have q37:=HG7.out.q3;have Hb7:=aj b7;have Hs7:=aj hs7;obtain ⟨n0,n1,n2,n3,n4⟩:=HMc.out _ agn.out;have nC:=aj trivial;clear b7 hs7);clear nC) | (go_simp;go_wp2_with (go_at_call 150;refine (qH.out w7 agn.out (HT.out _ pq.out)).mono ?_;rintro e8 w8 ⟨b8,EA,ec,rfl,hs8⟩;have Qf:=aj (HG7.out.stay b8);have Hb8:=aj b8;have Hs8:=aj hs8;have r0:=Qf.out.box.q0;have r1:=Qf.out.box.q1;have r2:=Qf.out.box.q2;have r3:=Qf.out.box.q3;have r4:=Qf.out.box.q4;have z0:=Qf.out.box.f0;have z1:=Qf.out.box.f1;have z2:=Qf.out.box.f2;have z3:=Qf.out.box.f3;have z4:=Qf.out.box.f4;have nC:=aj trivial;clear b8 hs8);clear nC))
 all_goals
  go_wp2_with fail;have HO:=aj (Qf.out.box.bG (.slice none 0 0) (.slice NA (es.length+1) nc) (.iface ty p) (.slice EA es.length ec) (.slice none 0 0));have dF:=aj (aU (pq.out.trans (Hb8.out.mono pq.out.size)) (b:=w.heap.size+1) (by omega) (by have:=Qf.out.box.lt;omega) (.slice none 0 0) (.slice NA (es.length+1) nc) (.iface ty p) (.slice EA es.length ec) (.slice none 0 0));have HSf:=aj ((((ai2.out.later (wa:=W1) Hb7.out (Nat.le_refl _)).later (wa:=W1) Hb8.out (Nat.le_refl _)).and ((Hs7.out.later (wa:=W1) Hb8.out HW6.out).and (Hs8.out.later (wa:=W1) (Below.refl _ _) (Nat.le_trans HW6.out Hb7.out.size)))).bG (w:=w) (b:=w.heap.size+1) (by have:=Dq.out;omega) (by have:=Dq.out;omega) (.slice none 0 0) (.slice NA (es.length+1) nc) (.iface ty p) (.slice EA es.length ec) (.slice none 0 0));unfold bG at HO dF HSf;clear r0 r1 r2 r3 r4 z0 z1 z2 z3 z4 n0 n1 n2 n3 n4 e0 e1 e2 e3 e4 m0 m1 m2 m3 m4 q3 q37;have r0:=HO.out.q0;have r1:=HO.out.q1;have r2:=HO.out.q2;have r3:=HO.out.q3;have r4:=HO.out.q4;refine bodyPost_ret (v:=.agg #[.slice none 0 0,.slice NA (es.length+1) nc,.iface ty p,.slice EA es.length ec,.slice none 0 0]) (by simp [results,Tryz.results125,go_sem, *]) rfl ?_;exact ⟨dF.out,NA,nc,ty,p,EA,ec,rfl,HSf.out⟩
theorem Xz {Tb:World->Prop} (hV:bJ Tb) (hL:aS Tb) (NA:Option Addr) (nc:Nat) (bv ev:Value) (es:List (ByteArray×(T->Int⊕T))) (ops:List ByteArray) (hops:ops=es.map Prod.fst) (ks:List ByteArray) (gb:T->Int⊕T) (dv:Value) (l:List T) (w:World) (hk:bO w (.slice NA (ops.length+1) nc) ks) (hby:bL Tb w bv gb) (hes:qN Tb w ev es) (hd:cu w dv l) (hT:Tb w) :
  Calls Tryz.prog 238 #[.agg #[.slice none 0 0,.slice NA (ops.length+1) nc,bv,ev,.slice none 0 0],dv] w (qJ (Ce gb es ks) l w):=by
 have QM:∀ (fn:Fn) (first cap:Array Value) (w:World),(Instr.makeFunc fn first cap).run Tryz.prog w=.ok (.func fn first cap) w:=fun _ _ _ _=>rfl;have HB1:=aj (aQ w (.cells #[.slice none 0 0,.slice NA (ops.length+1) nc,bv,ev,.slice none 0 0] 178));have hdl:l.length<=1000000:=by obtain ⟨_,_,_,h,_⟩:=hd;exact h
 have hlen:ops.length=es.length:=by rw [hops,List.length_map]
 have hen:ops.length<=100000:=by obtain ⟨_,_,_,h,_⟩:=hes;omega
 have HC:=aj (KL (nP gb es) (fun k st w'=>(∃ L gv xs rb ys,jR w w.heap.size NA nc bv ev ops L gv xs rb ys st w')/\st.length<=k/\∀ i,(h:i<st.length)->∀ j,(∃ hj:j<es.length,es[j].1=fK)->nL (st[i].2.getD j aL)<=k) 239 (fun _ _=>rfl) (.pointer (some ⟨w.heap.size,0,none⟩)) w.heap.size dv l [] w _ HB1.out hd ⟨⟨_,_,_,_,_,jR.start w NA nc bv ev ops⟩,Nat.le_refl _,fun i hi=>absurd hi (Nat.not_lt_zero i)⟩
  (fun k s wx wy h hb=>by
   obtain ⟨⟨L,gv,xs,rb,ys,hG⟩,h2⟩:=h;exact ⟨⟨L,gv,xs,rb,ys,hG.keep hb⟩,h2⟩)
  (fun k s wx h=>by
   obtain ⟨⟨L,gv,xs,rb,ys,hG⟩,h2⟩:=h;exact ⟨_,hG.c0⟩)
  (fun k s d v wr hkl h hb ha hok=>by
   obtain ⟨⟨L,gv,xs,rb,ys,hG⟩,h2,h3⟩:=h;refine (SK hL w w.heap.size NA nc bv ev es ops hops L gv xs rb ys s d v wr ks gb hG hb hk hby hes (by omega) (fun i hi j hj=>?_) ha hok hT).mono ?_
   ·have:=h3 i hi j (by
     obtain ⟨hj1,hj2⟩:=hj;subst hops;rw [List.getElem_map] at hj2;exact ⟨by rw [List.length_map] at hj1;exact hj1,hj2⟩)
    omega
   ·rintro e w' ⟨k1,k2 | ⟨st',k2,k3,k4⟩⟩
    ·exact ⟨k1,.inl k2⟩
    ·exact ⟨k1,.inr ⟨st',k2,k3,k4,by have:=Xj k2;omega,ZV k2 h3⟩⟩))
 have adz:Hid (∀ (w2:World) (st:List (T×List T)) (L:Nat->uS) (gv:Value) (xs:List Value) (rb:Nat->Nat) (ys:Nat->List Value),jR w w.heap.size NA nc bv ev ops L gv xs rb ys st w2->Below w.heap.size w w2->st.length<=1000000->_):=fun w2 st L gv xs rb ys hG hb hn=>K8 hV hL w w2 w.heap.size NA nc bv ev ops L gv xs rb ys st ks hG hb hk hen hn hT;have Hk:=aj hk;have Hen:=aj hen;obtain ⟨DA,dc,hdv,_⟩:=hd;obtain ⟨EA,ec,hev,_,_⟩:=hes;obtain ⟨ty,p,fid,hbv,_,_,_⟩:=hby;subst hdv;subst hev;subst hbv;have Hdl:=aj hdl;clear hT hV hL hdl hk hen hlen hops;go_in;go_wp2_with fail;refine HC.out.mono ?_;rintro e w2 ⟨b2,⟨k,x,h1,h2,rfl⟩ | ⟨st,v,h1,h2,h3,rfl⟩⟩
 ·have HB:=aj (HB1.out.trans b2);have HF:Hid (Ce gb es ks l=.inl (k,x)/\x≠0):=⟨by unfold Ce;rw [h1],h2⟩;have ez:(x==0)=false:=by simpa using h2
  clear b2 h1 h2 HC adz;go_wp2_with fail;refine bodyPost_ret (v:=.tuple #[.slice none 0 0,.int .i64 (k:Nat),.int .i64 x]) (by simp [results,Tryz.results238,go_sem, *]) rfl ?_;exact ⟨HB.out,.inl ⟨k,x,HF.out.1,HF.out.2,rfl⟩⟩
 ·obtain ⟨⟨L,gv,xs,rb,ys,hG⟩,hl1,_⟩:=h2;have HB:=aj (HB1.out.trans b2);obtain ⟨GA,gc,hgv,_⟩:=hG.elems HB.out Hk.out Hen.out;subst hgv;have HS2:=aj (adz.out w2 st L _ xs rb ys hG HB.out (by have:=Hdl.out;omega));have c42:=hG.c4;have Hg:Hid (∀ r,dz KZ (st.map (gU ks)) 0 []=r->Ce gb es ks l=r):=fun r hr=>by unfold Ce;rw [h1];exact hr
  clear b2 h1 h3 hG hl1 HC adz Hk Hen Hdl;go_wp2_with fail;refine HS2.out.mono ?_;rintro e w3 ⟨b3,⟨k,x,h1,h2,rfl⟩ | ⟨r,v2,h1,rfl,h3⟩⟩
  ·have HB3:=aj (HB.out.trans b3);have HF:=aj (And.intro (Hg.out _ h1) h2);clear b3 h1 h2 HS2;go_wp2_with fail;refine bodyPost_ret (v:=.tuple #[.slice none 0 0,.int .i64 (k:Nat),.int .i64 x]) (by simp [results,Tryz.results238,go_sem, *]) rfl ?_;exact ⟨HB3.out,.inl ⟨k,x,HF.out.1,HF.out.2,rfl⟩⟩
  ·have HB3:=aj (HB.out.trans b3);have HF:=aj (And.intro (Hg.out _ h1) h3);clear b3 h1 h3 HS2;go_wp2_with fail;refine bodyPost_ret (v:=.tuple #[v2,.int .i64 0,.int .i64 0]) (by simp [results,Tryz.results238,go_sem, *]) rfl ?_;exact ⟨HB3.out,.inr ⟨r,v2,HF.out.1,rfl,HF.out.2⟩⟩
theorem OD (p:Value) (w:World):(method 419 178 p "sheaf/pipe.run").run Tryz.prog w=.ok (238,p) w:=by kernel_rfl
theorem XA {Tb:World->Prop} (hV:bJ Tb) (hL:aS Tb) {w:World} {NA:Option Addr} {nc:Nat} {bv ev:Value} {es:List (ByteArray×(T->Int⊕T))} {ops:List ByteArray} (hops:ops=es.map Prod.fst) {ks:List ByteArray} {gb:T->Int⊕T} (hk:bO w (.slice NA (ops.length+1) nc) ks) (hby:bL Tb w bv gb) (hes:qN Tb w ev es):gK Tb w (.iface 178 (.agg #[.slice none 0 0,.slice NA (ops.length+1) nc,bv,ev,.slice none 0 0])) (Ce gb es ks) :=
 ⟨_,_,_,rfl,OD _,fun _ _=>rfl,fun wr dv l hb hd hT=>Xz hV hL NA nc bv ev es ops hops ks gb dv l wr (hk.keep hb) (hby.keep hb) (hes.keep hb) hd hT⟩
def Ij:ByteArray:=⟨#[36,103,114,111,117,112]⟩
theorem Ik {Tb:World->Prop} (hV:bJ Tb) (hL:aS Tb) (gb:T->Int⊕T) (es:List (ByteArray×(T->Int⊕T))) (ks:List ByteArray) (t j:T) (k6:ah t=6) (k1:nK t=1) (hj:elt t 0=j) (hx:bR t 0=Ij) (h:∀ (v:Value) (wB w:World),At wB 13 v j->bM j->Below wB.heap.size wB w->Tb w->Calls Tryz.prog 125 #[v] w (OB Tb wB gb es ks w)):nA Tb t (Ce gb es ks):=by
 intro v wB w ha hk hb0 hT;have l1:nL t=1:=by have:=hk.names k6;omega
 have hkj:bM j:=by rw [<- hj];exact hk.elt (by omega)
 have Ha:=aj ha;obtain ⟨g1,La,Ka,Lc,Kc,hg1,rfl,_,_,_⟩:=ha.open;have HB1:=aj (aQ w (vC t La Lc Ka Kc));have HC:=aj (nu t j Ij hj hx _ wB _ Ha.out hk k6 k1 (hb0.trans (HB1.out.mono hb0.size)));have HE:Hid (∀ (v:Value) (w':World),At wB 13 v j->Below w.heap.size w w'->Calls Tryz.prog 125 #[v] w' (OB Tb wB gb es ks w')):=fun v w' h1 h2=>h v wB w' h1 hkj (hb0.trans (h2.mono hb0.size)) (hL w hT w w' hT h2);clear ha hk hg1 hb0 hT h k6 k1 l1 hkj Ha hj hx;unfold Ij at *;go_in;go_wp2_with fail;refine HC.out.mono ?_;rintro e w2 ⟨b2,A,B,C,D,rfl,hat⟩;have fF:=aj (aQ w2 (vC j A B C D));have HB2:=aj (HB1.out.trans (b2.mono HB1.out.size));have HB3:=aj (HB2.out.trans (fF.out.mono HB2.out.size));have HP:=aj (HE.out _ _ hat HB3.out);have HY:=aj (aJ w2 (.int .i64 (ah j)) (.int .i64 (au j)) (.string (ay j)) (.slice A (nL j) B) (.slice C (nK j) D));clear b2 hat HC HE;have y0:=HY.out.q0;have y1:=HY.out.q1;have y2:=HY.out.q2;have y3:=HY.out.q3;have y4:=HY.out.q4;go_wp2_with fail;refine HP.out.mono ?_;rintro e w5 ⟨b5,NA,nc,ty,p,EA,ec,rfl,hs⟩;have eU:=aj (HB3.out.trans (b5.mono HB3.out.size))
 have HS:=aj ((hs.later (wa:=w) (Below.refl _ _) HB3.out.size).mono (Q:=fun x=>gK Tb x (.iface 178 (.agg #[.slice none 0 0,.slice NA (es.length+1) nc,.iface ty p,.slice EA es.length ec,.slice none 0 0])) (Ce gb es ks)) fun w' hw hh=>by
  obtain ⟨h1,h2,h3⟩:=hh;have:=XA hV hL (ops:=es.map Prod.fst) rfl (by rw [List.length_map];exact h1) h2 h3;rw [List.length_map] at this;exact this)
 clear b5 hs HP y0 y1 y2 y3 y4;go_wp2_with fail;go_ret;exact ⟨eU.out,_,_,rfl,HS.out⟩
theorem q6:(dK ⟨#[95,105,100]⟩).length=5/\(dK ⟨#[110]⟩).length=3/\(dK ⟨#[115]⟩).length=3/\(dK ⟨#[108]⟩).length=3/\(dK ⟨#[102]⟩).length=3/\(dK ⟨#[109]⟩).length=3:=⟨by kernel_rfl,by kernel_rfl,by kernel_rfl,by kernel_rfl,by kernel_rfl,by kernel_rfl⟩
theorem XB:∀ (l:List T) (k:Nat) (s:List T),(∀ t ∈ l,bZ t=false)->dz KZ l k s=.inr (s++l)
 | [],k,s,_=>by simp [dz]
 | d::r,k,s,h=>by
  have hd:KZ s d=.inr (s++[d]):=by
   unfold KZ;rw [h d (List.mem_cons_self ..)];rfl
  rw [dz,hd];show dz KZ r (k+1) (s++[d])=_;rw [XB r (k+1) (s++[d]) fun t ht=>h t (List.mem_cons_of_mem _ ht),List.append_assoc];rfl
def eB (s:ByteArray):T:=cK 4 0 s
def yD:ByteArray:=⟨#[36,95,105,100]⟩
def lI (k:Nat):ByteArray:=⟨#[36]⟩++rC k
theorem XC:((List.range 6).all fun k=>oU (lI k)&&(decide ((lI k).extract 1 (lI k).size=rC k)&&(decide (1<=(lI k).size)&&decide ((lI k).size<=1000))))=true:=by kernel_rfl
theorem ai4 {k:Nat} (h:k<6):oU (lI k)=true/\(lI k).extract 1 (lI k).size=rC k/\1<=(lI k).size/\(lI k).size<=1000:=by
 have:=List.all_eq_true.1 XC k (List.mem_range.2 h);simpa only [Bool.and_eq_true,decide_eq_true_eq] using this
theorem Af {Tb:World->Prop} (hA:bP Tb) (s x:ByteArray) (p:List ByteArray) (hop:oU s=true) (hx:s.extract 1 s.size=x) (h1:1<=s.size) (h2:s.size<=1000) (hp:iY x=true) (hs:bV x=p):dH Tb (eB s) (fun d=>.inr (d9 p d)):=by
 subst hs;refine Ny hA.lies (eB s) _ rfl fun v wB w ha hk hb0 hT=>?_;exact KF hA.atoi hA.itoa hA.split hA.lies (eB s) x v wB w ha hop hx h1 (by show s.size<=_;omega) hp hT
theorem Lg {Tb:World->Prop} (hA:bP Tb):dH Tb (eB yD) Fv:=Af hA yD stI [stI] (by kernel_rfl) (by kernel_rfl) (by decide) (by decide) (by kernel_rfl) (by kernel_rfl)
theorem XD {Tb:World->Prop} (hA:bP Tb) {k:Nat} (h:k<6):dH Tb (eB (lI k)) (fun d=>.inr (d9 (Dp k) d)):=by
 obtain ⟨h1,h2,h3,h4⟩:=ai4 h;exact Af hA (lI k) (rC k) (Dp k) h1 h2 h3 h4 (Xk h) (Cg h)
def Z7 (k:Nat):ByteArray:=(⟨#[34]⟩++rC k)++⟨#[34]⟩
structure Dc where
 id:Int
 es:List Int
 o:Option Nat
def aE (d:T):Int⊕T:=.inr (d9 [stA] d)
def dA:ByteArray:=⟨#[36,97]⟩
theorem ai5 {Tb:World->Prop} (hA:bP Tb):dH Tb (eB dA) aE:=Af hA dA stA [stA] (by kernel_rfl) (by kernel_rfl) (by decide) (by decide) (by kernel_rfl) (by kernel_rfl)
end Go.Proofs.YtknakfpciccoaabGreatDoor
