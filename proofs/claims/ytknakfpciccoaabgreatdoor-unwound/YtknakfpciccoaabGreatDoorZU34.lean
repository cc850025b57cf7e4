import Derived.Test.YtknakfpciccoaabGreatDoorZU16
import Derived.Test.YtknakfpciccoaabGreatDoorZU13
import Derived.Test.YtknakfpciccoaabGreatDoorZU18
import Derived.Lib.AppendZerosOnto
import Derived.Test.YtknakfpciccoaabGreatDoorZU33
import Derived.Test.YtknakfpciccoaabGreatDoorZU27
import Derived.Test.YtknakfpciccoaabGreatDoorZU28
/- slices.Grow of texts; slices.Concat of two rows of texts. -/
namespace Go.Proofs.YtknakfpciccoaabGreatDoor
open Go.RowKit
theorem infoStr:(Tryz.prog.info? 9).map (fun i=>(i.zero,i.size,i.bytes))=some (some (.string ⟨#[]⟩),1,16):=by kernel_rfl
set_option maxHeartbeats 4000000 in
set_option maxRecDepth 100000 in
theorem growN_any (n:Nat) (w:World) (h0:0<n) (hn:n≤1000000):Calls Tryz.prog 162 #[.slice none 0 0,.int .i64 n] w fun e w'=>Below w.heap.size w w'∧∃ c,e=.returned (.slice (some ⟨w.heap.size,0,none⟩) 0 c)∧w'.ownsRow w.heap.size 9 1 (.slice (some ⟨w.heap.size,0,none⟩) 0 c) 0 []∧c≤maxLen:=by
 obtain ⟨iS,hiS,zS0,zS1,zS2⟩:=info_parts infoStr
 obtain ⟨G,hG⟩:∃ G,G=grownCap w (0+n) 0 9:=⟨_,rfl⟩
 have hG63:G≤maxLen:=by
  rw [hG]
  exact grownCap_le_maxLen w (0+n) 0 9 (by unfold maxLen;omega)
 have hGn:n≤G:=by
  have:=grownCap_ge w (0+n) 0 9
  omega
 have hrz:∀ ty,(Builtin.append_ #[28,3] ty #[.slice none 0 0,.int .i64 (n:Int)]).run Tryz.prog w=.ok (.slice (some ⟨w.heap.size,0,none⟩) n G) (w.drew.alloc (.cells (Builtin.zeroCells #[.string ⟨#[]⟩] n++Builtin.zeroCells #[.string ⟨#[]⟩] (G - n)) 9)):=fun ty=>by
  have h:=Lib.run_append_grow_zeros (P:=Tryz.prog) w 28 3 ty 9 iS (.string ⟨#[]⟩) .i64 .i64 Tryz.underlying28 Tryz.underlying3 hiS zS0 none 0 0 [] (run_firstCells_none w.drew iS.size 0 0 0) n h0 (by omega) (by omega) (by omega) (by rw [zS2];omega) (by rw [Nat.zero_add,zS2];exact growslice_fits (by omega) (by omega))
  rw [← hG,Nat.zero_add,show (Value.string ⟨#[]⟩).cells=#[.string ⟨#[]⟩] by kernel_rfl] at h
  simpa using h
 have HB:Hid (Below w.heap.size w (w.drew.alloc (.cells (Builtin.zeroCells #[.string ⟨#[]⟩] n++Builtin.zeroCells #[.string ⟨#[]⟩] (G - n)) 9))):=(below_drew w).alloc (by simp) _
 have HO:Hid ((w.drew.alloc (.cells (Builtin.zeroCells #[.string ⟨#[]⟩] n++Builtin.zeroCells #[.string ⟨#[]⟩] (G - n)) 9)).ownsRow w.heap.size 9 1 (.slice (some ⟨w.heap.size,0,none⟩) 0 G) 0 []):=by
  refine ⟨rfl,.inr ⟨w.heap.size,G,Builtin.zeroCells #[.string ⟨#[]⟩] n++Builtin.zeroCells #[.string ⟨#[]⟩] (G - n),rfl,Nat.le_refl _,?_,Nat.zero_le _,hG63,?_,?_⟩⟩
  ·have:=heap_alloc_new w.drew (.cells (Builtin.zeroCells #[.string ⟨#[]⟩] n++Builtin.zeroCells #[.string ⟨#[]⟩] (G - n)) 9)
   simpa using this
  ·simp [Builtin.zeroCells];omega
  ·simp
 have h1:¬ ((n:Int)<0):=by omega
 have h3:IntKind.i64.wrap (n:Int)=n:=by rw [IntKind.wrap_i64];omega
 have h4:(0:Int)<(n:Int):=by omega
 have h5:wrap64 (n:Int)=n:=by unfold wrap64;omega
 have Hc:=hid hG63
 have hgl:G≤9223372036854775807:=by unfold maxLen at hG63;omega
 clear hG hG63 hiS zS0 zS1 zS2
 go_enter Tryz.func162,Tryz.ntmps162
 go_wp2_with (at_builtin;refine Lib.wpList_append_run _ rfl _ _ _ _ rfl _ _ rfl rfl _ _ (hrz _) ?_)
 all_goals go_ret
 all_goals exact ⟨HB.out,G,rfl,HO.out,Hc.out⟩
theorem strs_src {w:World} {A:Option Addr} {n c:Nat} {l:List ByteArray} (h:StrsAt w (.slice A n c) l):Src Tryz.prog 1 28 (.slice A n c) n (l.map fun s=>.string s) w:=by
 obtain ⟨A',c',hv,hl,h⟩:=h
 simp only [Value.slice.injEq] at hv
 obtain ⟨rfl,rfl,rfl⟩:=hv
 have hone:∀ u ∈ l.map (fun s=>Value.string s),u.oneCell'=true:=fun u hu=>by
  obtain ⟨s,_,rfl⟩:=List.mem_map.1 hu
  rfl
 cases A with
 | none =>
  cases l with
  | nil=>exact Src.ofNil _ Tryz.underlying28 c
  | cons a r =>
   obtain ⟨b,o,h0,_⟩:=h 0 (by simp)
   cases h0
 | some a =>
  refine Src.ofSlice _ Tryz.underlying28 a l.length c _ (by simp) (fun j u hu=>?_) hone
  rw [List.getElem?_map] at hu
  cases hj:l[j]? with
  | none=>rw [hj] at hu;cases hu
  | some s =>
   rw [hj] at hu
   simp only [Option.map_some,Option.some.injEq] at hu
   subst hu
   obtain ⟨hlt,hs⟩:=List.getElem?_eq_some_iff.1 hj
   obtain ⟨b,o,h0,_,_,h3⟩:=h j hlt
   cases h0
   rw [show (⟨b,o,none⟩:Addr).add j=⟨b,o+j,none⟩ by unfold Addr.add;by_cases e:j=0<;>simp [e],h3,List.getD_eq_getElem?_getD,hj]
   rfl
theorem row_strs {w w':World} {v:Value} {l:List ByteArray} (h:w'.ownsRow w.heap.size 9 1 v l.length (l.map fun s=>.string s)) (hn:l.length≤8796093022208) (hs:∀ i,i<l.length→(l.getD i ByteArray.empty).size≤140737488355328):StrsB w' (newB w w') v l:=by
 have hrow:=h
 rcases h.2 with ⟨rfl,h0⟩ | ⟨g,cap,cur,rfl,hb0,hg,_⟩
 ·exact ⟨none,0,by rw [h0],hn,fun i hi=>by omega⟩
 ·refine ⟨_,_,rfl,hn,fun i hi=>⟨g,0,rfl,⟨hb0,(Array.getElem?_eq_some_iff.1 hg).1⟩,hs i hi,?_⟩⟩
  rw [Nat.zero_add]
  refine row_cell hrow ?_
  rw [List.getElem?_map,List.getElem?_eq_getElem hi,List.getD_eq_getElem?_getD,List.getElem?_eq_getElem hi]
  rfl
def lenK (a b k:Nat):Nat:=if k=0 then 0 else if k=1 then a else a+b
def appK (a b:List ByteArray) (k:Nat):List ByteArray:=if k=0 then [] else if k=1 then a else a++b
set_option maxHeartbeats 8000000 in
set_option maxRecDepth 100000 in
theorem concat_any (ob:Nat) (A1 A2:Option Addr) (c1 c2 n1 n2:Nat) (l1 l2:List ByteArray) (w:World) (q0:w.cell? ⟨ob,0,none⟩=some (.slice A1 n1 c1)) (q1:w.cell? ⟨ob,1,none⟩=some (.slice A2 n2 c2)) (h1:StrsAt w (.slice A1 n1 c1) l1) (h2:StrsAt w (.slice A2 n2 c2) l2) (hob:ob<w.heap.size) (hn:0<n1+n2) (hm:n1+n2≤1000000) :
  Calls Tryz.prog 149 #[.slice (some ⟨ob,0,none⟩) 2 2] w fun e w'=>Below w.heap.size w w'∧∃ v,e=.returned v∧StrsB w' (newB w w') v (l1++l2):=by
 obtain ⟨iS,hiS,zS0,zS1,zS2⟩:=info_parts infoStr
 have HS1:Hid (∀ w':World,Below w.heap.size w w'→Src Tryz.prog 1 28 (.slice A1 n1 c1) n1 (l1.map fun s=>.string s) w'):=fun w' hb=>strs_src (h1.keep hb)
 have HS2:Hid (∀ w':World,Below w.heap.size w w'→Src Tryz.prog 1 28 (.slice A2 n2 c2) n2 (l2.map fun s=>.string s) w'):=fun w' hb=>strs_src (h2.keep hb)
 have HQ:Hid (∀ w':World,Below w.heap.size w w'→w'.cell? ⟨ob,0,none⟩=some (.slice A1 n1 c1)∧w'.cell? ⟨ob,1,none⟩=some (.slice A2 n2 c2)):=fun w' hb=>⟨(hb.cell (p:=⟨ob,0,none⟩) hob).trans q0,(hb.cell (p:=⟨ob,1,none⟩) hob).trans q1⟩
 have HL:Hid (l1.length=n1∧l2.length=n2∧∀ i,i<(l1++l2).length→((l1++l2).getD i ByteArray.empty).size≤140737488355328):=by
  obtain ⟨_,_,e1,_,g1⟩:=h1
  obtain ⟨_,_,e2,_,g2⟩:=h2
  simp only [Value.slice.injEq] at e1 e2
  refine ⟨e1.2.1.symm,e2.2.1.symm,fun i hi=>?_⟩
  rw [List.length_append] at hi
  by_cases e:i<l1.length
  ·rw [List.getD_eq_getElem?_getD,List.getElem?_append_left e,← List.getD_eq_getElem?_getD]
   obtain ⟨_,_,_,_,h,_⟩:=g1 i e
   exact h
  ·rw [List.getD_eq_getElem?_getD,List.getElem?_append_right (by omega),← List.getD_eq_getElem?_getD]
   obtain ⟨_,_,_,_,h,_⟩:=g2 (i - l1.length) (by omega)
   exact h
 have HG:=hid (growN_any (n1+n2) w hn hm)
 clear h1 h2 hn
 go_enter Tryz.func149,Tryz.ntmps149
 go_wp2_with fail
 go_loopg [3,11] 2 (fun g s i wr=>∃ (k m:Nat),g=2 - k∧k≤2∧i=.int .i64 k∧s=.int .i64 m∧Hid (m=lenK n1 n2 k)∧w=wr)
 case atStart=>exact ⟨0,0,rfl,by omega,rfl,rfl,rfl,rfl⟩
 case round =>
  obtain ⟨k,m,rfl,hk,rfl,rfl,Hm,rfl⟩:=hrel
  obtain rfl | rfl | rfl:k=0∨k=1∨k=2:=by omega
  ·obtain rfl:m=0:=Hm.out
   have hw:IntKind.i64.wrap (n1:Int)=n1:=by rw [IntKind.wrap_i64];omega
   have hnn:¬ ((n1:Int)<0):=by omega
   go_wp2_with fail
   go_roundg 1
   case rel=>exact ⟨1,n1,rfl,by omega,rfl,by go_num,rfl,rfl⟩
   case measure=>omega
  ·obtain rfl:m=n1:=Hm.out
   have hw:IntKind.i64.wrap ((m:Int)+(n2:Int))=m+n2:=by rw [IntKind.wrap_i64];omega
   have hnn:¬ ((m:Int)+(n2:Int)<0):=by omega
   go_wp2_with fail
   go_roundg 0
   case rel=>exact ⟨2,m+n2,rfl,by omega,rfl,by go_num,rfl,rfl⟩
   case measure=>omega
  ·obtain rfl:m=n1+n2:=Hm.out
   go_wp2_with fail
   refine HG.out.mono ?_
   rintro e w1 ⟨b1,c,rfl,hO,hc⟩
   have HB1:=hid b1
   have HO1:=hid hO
   clear b1 hO HG hc q0 q1
   go_wp2_with fail
   go_loopg [6,27] 2 (fun g o i wr=>∃ (k m:Nat) (xs:List Value),g=2 - k∧k≤2∧i=.int .i64 k∧Hid (Below w.heap.size w wr)∧Hid (wr.ownsRow w.heap.size 9 1 o m xs)∧Hid (m=lenK n1 n2 k∧xs=(appK l1 l2 k).map fun s=>.string s))
   case atStart=>exact ⟨0,0,[],rfl,by omega,rfl,HB1,HO1,rfl,rfl⟩
   case round =>
    clear HB1 HO1
    obtain ⟨k,m,xs,rfl,hk,rfl,HB,HO,Hx⟩:=hrel
    obtain rfl | rfl | rfl:k=0∨k=1∨k=2:=by omega
    ·obtain rfl:m=0:=Hx.out.1
     have HX:=hid Hx.out.2
     have q:=(HQ.out _ HB.out).1
     have hlo:w.heap.size≤wr.heap.size:=HB.out.size
     clear Hx
     go_wp2_with (at_builtin;refine wpList_append_src _ rfl (.tmp 31) (.tmp 32) 28 28 rfl w.heap.size 9 iS _ 1 16 Tryz.underlying28 hiS zS0 zS1 zS2 rfl u6 0 xs rfl HO.out (.slice A1 n1 c1) n1 (l1.map fun s=>.string s) rfl (HS1.out _ HB.out) (by unfold maxLen;omega) (by omega) hlo ?_;intro v' w6 hO6 hG6 hat6)
     have HO6:=hid hO6
     have HB6:=hid (below_grown HB.out HO.out (Nat.le_refl _) hlo hG6)
     clear hO6 hG6 hat6
     go_wp2_with fail
     go_roundg 1
     case rel=>exact ⟨1,_,_,rfl,by omega,rfl,HB6,HO6,by show _=_;unfold lenK;simp,by rw [HX.out];simp [appK]⟩
     case measure=>omega
    ·obtain rfl:m=n1:=Hx.out.1
     have HX:=hid Hx.out.2
     have q:=(HQ.out _ HB.out).2
     have hlo:w.heap.size≤wr.heap.size:=HB.out.size
     clear Hx
     go_wp2_with (at_builtin;refine wpList_append_src _ rfl (.tmp 31) (.tmp 32) 28 28 rfl w.heap.size 9 iS _ 1 16 Tryz.underlying28 hiS zS0 zS1 zS2 rfl u6 m xs rfl HO.out (.slice A2 n2 c2) n2 (l2.map fun s=>.string s) rfl (HS2.out _ HB.out) (by unfold maxLen;omega) (by omega) hlo ?_;intro v' w6 hO6 hG6 hat6)
     have HO6:=hid hO6
     have HB6:=hid (below_grown HB.out HO.out (Nat.le_refl _) hlo hG6)
     clear hO6 hG6 hat6
     go_wp2_with fail
     go_roundg 0
     case rel=>exact ⟨2,_,_,rfl,by omega,rfl,HB6,HO6,by show _=_;unfold lenK;simp,by rw [HX.out];simp [appK]⟩
     case measure=>omega
    ·obtain ⟨hm2,hx2⟩:=Hx.out
     have h2:m=n1+n2:=hm2
     have h3:xs=(l1++l2).map fun s=>.string s:=hx2
     subst h2
     subst h3
     obtain ⟨e1,e2,e3⟩:=HL.out
     have HSt:=hid (row_strs (w:=w) (w':=wr) (v:=u6) (l:=l1++l2) (by rw [List.length_append,e1,e2];exact HO.out) (by rw [List.length_append];omega) e3)
     clear Hx hm2 hx2 e1 e2 e3
     go_wp2_with fail
     go_ret
     exact ⟨HB.out,_,rfl,HSt.out⟩
end Go.Proofs.YtknakfpciccoaabGreatDoor
/- The walk of parseGroup. -/
namespace Go.Proofs.YtknakfpciccoaabGreatDoor
open Go.RowKit
def byNm:ByteArray:=⟨#[98,121]⟩
def mkNm:ByteArray:=⟨#[109,97,107,101]⟩
def GpPost (Tb:World→Prop) (wB:World) (gb:T→Int⊕T) (es:List (ByteArray×(T→Int⊕T))) (ks:List ByteArray) (w:World) (e:Ending) (w':World):Prop :=
 Below w.heap.size w w'∧∃ NA nc ty p EA ec,e=.returned (.agg #[.slice none 0 0,.slice NA (es.length+1) nc,.iface ty p,.slice EA es.length ec,.slice none 0 0])∧Sat wB w' (newB w w') (fun x=>StrsAt x (.slice NA (es.length+1) nc) ks∧ExprOk Tb x (.iface ty p) gb∧EntsOk Tb x (.slice EA es.length ec) es)
theorem Sat.strs {wB w w':World} {v:Value} {l:List ByteArray} (h:StrsB w' (newB w w') v l):Sat wB w' (newB w w') (fun x=>StrsAt x v l) :=
 ⟨newB w w',fun _ hb=>⟨hb,hb.2⟩,fun w2 _ hy=>(h.move (X':=fun b=>b<w2.heap.size) fun b hb=>⟨hy b hb,get_lt hb.2 (hy b hb)⟩).at fun _ hb=>hb⟩
structure GpB (b:Nat) (nl nk:Value) (w:World):Prop where
 q3:w.cell? ⟨b,3,none⟩=some nl
 q4:w.cell? ⟨b,4,none⟩=some nk
 box:BoxAt (b+1) (.slice none 0 0) (.slice none 0 0) .nilIface (.slice none 0 0) (.slice none 0 0) w
theorem GpB.stay {b:Nat} {nl nk:Value} {w w':World} (h:GpB b nl nk w) (hb:Below w.heap.size w w'):GpB b nl nk w' :=
 have h0:b<w.heap.size:=by have:=h.box.lt;omega
 ⟨(hb.cell (p:=⟨b,3,none⟩) h0).trans h.q3,(hb.cell (p:=⟨b,4,none⟩) h0).trans h.q4,h.box.stay hb⟩
theorem Sat.put5 {wB w wa W:World} {P:World→Prop} {b:Nat} (h:Sat wB W (newB wa W) P) (hb:b<wa.heap.size) (hw:w.heap.size≤wa.heap.size) (u0 u1 u2 u3 u4:Value):Sat wB (put5 W b u0 u1 u2 u3 u4) (newB w (put5 W b u0 u1 u2 u3 u4)) P :=
 h.move fun k hk=>by
  have h1:=hk.1
  refine ⟨put5_other W (by omega) u0 u1 u2 u3 u4,by omega,?_⟩
  rw [put5_size]
  exact hk.2
set_option maxHeartbeats 8000000 in
set_option maxRecDepth 100000 in
theorem pgroup_any {Tb:World→Prop} (hL:Lies Tb) (t bt mt:T) (iB iM:Nat) (gb:T→Int⊕T) (es:List (ByteArray×(T→Int⊕T))) (k6:kindOf t=6) (k2:nK t=2) (hiB:idxL byNm (kOf t)=some iB) (hiM:idxL mkNm (kOf t)=some iM) (hbt:elt t iB=bt) (hmt:elt t iM=mt) (hb:PxSaid Tb bt gb)
  (m6:kindOf mt=6) (hl:nK mt=es.length) (hn:es.length≤100000) (hes:∀ i,(hi:i<es.length)→nam mt i≠idNm∧isOp (nam mt i)=false∧PeSaid Tb (elt mt i) es[i].1 es[i].2∧isGOp es[i].1∧es[i].1.size≤100)
  (v:Value) (wB w:World) (ha:At wB 13 v t) (hk:okA t) (hb0:Below wB.heap.size wB w) (hT:Tb w):Calls Tryz.prog 125 #[v] w (GpPost Tb wB gb es (idNm::kOf mt) w):=by
 have lB:iB<2:=by have:=idxL_lt hiB;unfold nK at k2;omega
 have lM:iM<2:=by have:=idxL_lt hiM;unfold nK at k2;omega
 have l2:nL t=2:=by have:=hk.names k6;omega
 obtain ⟨g1,La,Ka,Lc,Kc,hg1,rfl,hfj,hel,hnm⟩:=ha.open
 obtain ⟨eb,eo,hLa,hebl⟩:∃ eb eo,La=some ⟨eb,eo,none⟩∧eb<wB.heap.size:=by
  obtain ⟨b,o,_,_,_,_,_,h0,h1,_⟩:=hel.out 0 (by omega)
  exact ⟨b,o,h0,h1⟩
 subst hLa
 have hkb:okA bt:=by rw [← hbt];exact hk.elt (by omega)
 have hkm:okA mt:=by rw [← hmt];exact hk.elt (by omega)
 obtain ⟨bA,bB,bC,bD,hB⟩:∃ bA bB bC bD,(∀ w':World,Below wB.heap.size wB w'→w'.cell? ⟨eb,eo+iB*5,none⟩=some (.int .i64 (kindOf bt))∧w'.cell? ⟨eb,eo+iB*5+1,none⟩=some (.int .i64 (nOf bt))∧w'.cell? ⟨eb,eo+iB*5+2,none⟩=some (.string (sOf bt))∧w'.cell? ⟨eb,eo+iB*5+3,none⟩=some (.slice bA (nL bt) bB)∧w'.cell? ⟨eb,eo+iB*5+4,none⟩=some (.slice bC (nK bt) bD))∧At wB 13 (.agg #[.int .i64 (kindOf bt),.int .i64 (nOf bt),.string (sOf bt),.slice bA (nL bt) bB,.slice bC (nK bt) bD]) bt:=by
  obtain ⟨b,o,A,B,C,D,h0,hbl,p0,p1,p2,p3,p4,Ha⟩:=hel.out.shape (Below.refl _ _) iB (by omega)
  cases h0
  rw [hbt] at p0 p1 p2 p3 p4 Ha
  exact ⟨A,B,C,D,fun w' hw=>⟨(hw.cell (p:=⟨_,_,none⟩) hebl).trans p0,(hw.cell (p:=⟨_,_,none⟩) hebl).trans p1,(hw.cell (p:=⟨_,_,none⟩) hebl).trans p2,(hw.cell (p:=⟨_,_,none⟩) hebl).trans p3,(hw.cell (p:=⟨_,_,none⟩) hebl).trans p4⟩,Ha.out.up (by omega)⟩
 obtain ⟨mA,mB,mC,mD,hM⟩:∃ mA mB mC mD,(∀ w':World,Below wB.heap.size wB w'→w'.cell? ⟨eb,eo+iM*5,none⟩=some (.int .i64 (kindOf mt))∧w'.cell? ⟨eb,eo+iM*5+1,none⟩=some (.int .i64 (nOf mt))∧w'.cell? ⟨eb,eo+iM*5+2,none⟩=some (.string (sOf mt))∧w'.cell? ⟨eb,eo+iM*5+3,none⟩=some (.slice mA (nL mt) mB)∧w'.cell? ⟨eb,eo+iM*5+4,none⟩=some (.slice mC (nK mt) mD))∧At wB 13 (.agg #[.int .i64 (kindOf mt),.int .i64 (nOf mt),.string (sOf mt),.slice mA (nL mt) mB,.slice mC (nK mt) mD]) mt:=by
  obtain ⟨b,o,A,B,C,D,h0,hbl,p0,p1,p2,p3,p4,Ha⟩:=hel.out.shape (Below.refl _ _) iM (by omega)
  cases h0
  rw [hmt] at p0 p1 p2 p3 p4 Ha
  exact ⟨A,B,C,D,fun w' hw=>⟨(hw.cell (p:=⟨_,_,none⟩) hebl).trans p0,(hw.cell (p:=⟨_,_,none⟩) hebl).trans p1,(hw.cell (p:=⟨_,_,none⟩) hebl).trans p2,(hw.cell (p:=⟨_,_,none⟩) hebl).trans p3,(hw.cell (p:=⟨_,_,none⟩) hebl).trans p4⟩,Ha.out.up (by omega)⟩
 have HBc:=hid hB.1
 have HMc:=hid hM.1
 have HMn:Hid (∀ w':World,Below wB.heap.size wB w'→StrsAt w' (.slice mC (nK mt) mD) (kOf mt)):=by
  obtain ⟨g2,A2,K2,C2,D2,_,hx2,hf2,_,hnm2⟩:=hM.2.open
  simp only [Value.agg.injEq,Array.mk.injEq,List.cons.injEq,Value.slice.injEq,and_true,true_and] at hx2
  obtain ⟨⟨rfl,rfl⟩,rfl,rfl⟩:=hx2
  exact fun w' hw=>(names_strs hnm2.out hf2.m1).keep hw
 have HE:Hid (∀ w':World,Below wB.heap.size wB w'→Tb w'→Calls Tryz.prog 148 #[.agg #[.int .i64 (kindOf bt),.int .i64 (nOf bt),.string (sOf bt),.slice bA (nL bt) bB,.slice bC (nK bt) bD]] w' (XpPost Tb wB gb w')):=fun w' h1 h2=>ppExpr_any hL bt gb hb _ wB w' hB.2 hkb h1 h2
 have HEs:Hid (∀ w':World,Below wB.heap.size wB w'→Tb w'→Calls Tryz.prog 150 #[.agg #[.int .i64 (kindOf mt),.int .i64 (nOf mt),.string (sOf mt),.slice mA (nL mt) mB,.slice mC (nK mt) mD]] w' (EsPost Tb wB es w')):=fun w' h1 h2=>pents_any hL mt es m6 hl hn hes _ wB w' hM.2 hkm h1 h2
 have HT:Hid (∀ w':World,Below w.heap.size w w'→Tb w'):=fun w' hb=>hL w hT w w' hT hb
 rw [k6,k2,l2]
 have HB1:Hid (Below w.heap.size w ((w.alloc (.cells #[.int .i64 6,.int .i64 (nOf t),.string (sOf t),.slice (some ⟨eb,eo,none⟩) 2 Lc,.slice Ka 2 Kc] 36)).alloc (.cells #[.slice none 0 0,.slice none 0 0,.nilIface,.slice none 0 0,.slice none 0 0] 178))):=((Below.refl _ _).alloc (Nat.le_refl _) _).alloc (by simp) _
 have HG1:Hid (GpB w.heap.size (.slice (some ⟨eb,eo,none⟩) 2 Lc) (.slice Ka 2 Kc) ((w.alloc (.cells #[.int .i64 6,.int .i64 (nOf t),.string (sOf t),.slice (some ⟨eb,eo,none⟩) 2 Lc,.slice Ka 2 Kc] 36)).alloc (.cells #[.slice none 0 0,.slice none 0 0,.nilIface,.slice none 0 0,.slice none 0 0] 178))):=⟨by simp [go_sem],by simp [go_sem],by constructor<;>simp [go_sem]⟩
 have HW1s:Hid (((w.alloc (.cells #[.int .i64 6,.int .i64 (nOf t),.string (sOf t),.slice (some ⟨eb,eo,none⟩) 2 Lc,.slice Ka 2 Kc] 36)).alloc (.cells #[.slice none 0 0,.slice none 0 0,.nilIface,.slice none 0 0,.slice none 0 0] 178)).heap.size=w.heap.size+2):=by show _=_;simp
 have HIx:Hid (∀ w':World,Below w.heap.size w w'→Calls Tryz.prog 91 #[.slice Ka 2 Kc,.string ⟨#[98,121]⟩] w' (fun e w2=>e=.returned (.int .i64 (iB:Nat))∧w2=w')∧Calls Tryz.prog 91 #[.slice Ka 2 Kc,.string ⟨#[109,97,107,101]⟩] w' (fun e w2=>e=.returned (.int .i64 (iM:Nat))∧w2=w')):=by
  intro w' hw
  have hs:=(names_strs (Kc:=Kc) hnm.out hfj.m1).keep (hb0.trans (hw.mono hb0.size))
  rw [k2] at hs
  refine ⟨(index_any _ _ byNm w' hs).mono fun e w2 hh=>⟨by rw [hh.1,hiB];rfl,hh.2⟩,(index_any _ _ mkNm w' hs).mono fun e w2 hh=>⟨by rw [hh.1,hiM];rfl,hh.2⟩⟩
 have Hb0:=hid hb0
 have Hl:=hid hl
 have Hn:=hid hn
 have lBi:(iB:Int)<2:=by omega
 have lMi:(iM:Int)<2:=by omega
 clear ha hk hel hnm hfj hb hes hB hM hkb hkm hbt hmt hiB hiM hT hL hl hn m6 hb0 hg1 hebl
 go_enter Tryz.func125,Tryz.ntmps125
 go_wp2_with fail
 refine (needP_any _).mono ?_
 rintro e w2 ⟨rfl,rfl⟩
 generalize ((w.alloc (.cells #[.int .i64 6,.int .i64 (nOf t),.string (sOf t),.slice (some ⟨eb,eo,none⟩) 2 Lc,.slice Ka 2 Kc] 36)).alloc (.cells #[.slice none 0 0,.slice none 0 0,.nilIface,.slice none 0 0,.slice none 0 0] 178))=W1 at HB1 HG1 HW1s ⊢
 have HBd:=hid HB1.out.drew
 have HGd:=hid (HG1.out.stay (below_drew _))
 have HWd:Hid (W1.drew.heap.size=w.heap.size+2):=by show _=_;simpa using HW1s.out
 have HSd:=hid HGd.out.q4
 have HI1:=hid (HIx.out _ HBd.out).1
 have HI2:=hid (HIx.out _ HBd.out).2
 clear HIx HB1 HG1
 go_wp2_with fail
 go_region_held3 (fun wx=>wx.cell? ⟨w.heap.size,4,none⟩=some (.slice Ka 2 Kc)) (first | exact HSd.out) (first | (go_at_call 91;with_reducible refine Calls.mono HI1.out ?_;rintro e5 w5 ⟨rfl,rfl⟩) | (go_at_call 91;with_reducible refine Calls.mono HI2.out ?_;rintro e5 w5 ⟨rfl,rfl⟩))
 clear HSd HI1 HI2
 generalize W1.drew=Wd at HBd HGd HWd ⊢
 go_wp2_with fail
 refine (needP_any _).mono ?_
 rintro e Wd ⟨rfl,rfl⟩
 have HBi:Hid (Below Wd.heap.size Wd (Wd.alloc (.cells #[.string ⟨#[95,105,100]⟩] 9))):=(Below.refl _ _).alloc (Nat.le_refl _) _
 have HBj:Hid (Below Wd.heap.size Wd ((Wd.alloc (.cells #[.string ⟨#[95,105,100]⟩] 9)).alloc (.cells #[.slice (some ⟨Wd.heap.size,0,none⟩) 1 1,.slice mC (nK mt) mD] 28))):=((Below.refl _ _).alloc (Nat.le_refl _) _).alloc (by simp) _
 have HBw:Hid (Below wB.heap.size wB Wd):=Hb0.out.trans (HBd.out.mono Hb0.out.size)
 have q3:=(HGd.out.stay HBi.out).q3
 obtain ⟨m0,m1,m2,m3,m4⟩:=HMc.out _ (HBw.out.trans (HBi.out.mono HBw.out.size))
 have HCc:Hid (Calls Tryz.prog 149 #[.slice (some ⟨Wd.heap.size+1,0,none⟩) 2 2] ((Wd.alloc (.cells #[.string ⟨#[95,105,100]⟩] 9)).alloc (.cells #[.slice (some ⟨Wd.heap.size,0,none⟩) 1 1,.slice mC (nK mt) mD] 28)) fun e w'=>Below ((Wd.alloc (.cells #[.string ⟨#[95,105,100]⟩] 9)).alloc (.cells #[.slice (some ⟨Wd.heap.size,0,none⟩) 1 1,.slice mC (nK mt) mD] 28)).heap.size ((Wd.alloc (.cells #[.string ⟨#[95,105,100]⟩] 9)).alloc (.cells #[.slice (some ⟨Wd.heap.size,0,none⟩) 1 1,.slice mC (nK mt) mD] 28)) w'∧∃ v,e=.returned v∧StrsB w' (newB ((Wd.alloc (.cells #[.string ⟨#[95,105,100]⟩] 9)).alloc (.cells #[.slice (some ⟨Wd.heap.size,0,none⟩) 1 1,.slice mC (nK mt) mD] 28)) w') v ([idNm]++kOf mt)):=by
  refine concat_any (Wd.heap.size+1) (some ⟨Wd.heap.size,0,none⟩) mC 1 mD 1 (nK mt) [idNm] (kOf mt) ((Wd.alloc (.cells #[.string ⟨#[95,105,100]⟩] 9)).alloc (.cells #[.slice (some ⟨Wd.heap.size,0,none⟩) 1 1,.slice mC (nK mt) mD] 28)) (by simp [go_sem]) (by simp [go_sem]) ?_ (HMn.out _ (HBw.out.trans (HBj.out.mono HBw.out.size))) (by simp) (by omega) (by have:=Hl.out;have:=Hn.out;omega)
  refine ⟨_,_,rfl,by simp,fun i hi=>?_⟩
  obtain rfl:i=0:=by simp at hi;omega
  exact ⟨Wd.heap.size,0,rfl,by simp;omega,by decide,by simp [go_sem];rfl⟩
 have HBd5:=hid (HBd.out.trans (HBj.out.mono HBd.out.size))
 have HG5:=hid (HGd.out.stay HBj.out)
 have HBw5:=hid (HBw.out.trans (HBj.out.mono HBw.out.size))
 have HW5:Hid (w.heap.size+2≤((Wd.alloc (.cells #[.string ⟨#[95,105,100]⟩] 9)).alloc (.cells #[.slice (some ⟨Wd.heap.size,0,none⟩) 1 1,.slice mC (nK mt) mD] 28)).heap.size):=by show _≤_;have:=HWd.out;simp;omega
 go_wp2_with fail
 refine HCc.out.mono ?_
 rintro e w6 ⟨b6,nv,rfl,hs6⟩
 have HS6:=hid hs6
 obtain ⟨NA,nc,hnv,hz1,hz2⟩:=hs6
 have hlen:([idNm]++kOf mt).length=es.length+1:=by have:=Hl.out;unfold nK at this;simp;omega
 rw [hlen] at hnv
 subst hnv
 clear hz1 hz2 hlen m0 m1 m2 m3 m4 q3 HCc
 have HB6:=hid (HBd5.out.trans (b6.mono HBd5.out.size))
 have HG6:=hid (HG5.out.stay b6)
 have HBw6:=hid (HBw5.out.trans (b6.mono HBw5.out.size))
 have HS6a:=hid ((Sat.strs (wB:=wB) HS6.out).later (wa:=W1) (below_drew _) (by have:=HW5.out;have:=HW1s.out;omega))
 have HB6d:=hid HB6.out.drew
 have HBw6d:=hid HBw6.out.drew
 have HG6d:=hid (HG6.out.stay (below_drew _))
 have HW6:Hid (W1.heap.size≤w6.drew.heap.size):=by show _≤_;have:=HW5.out;have:=HW1s.out;have:=b6.size;simp;omega
 have HE6:=hid (HE.out _ HBw6d.out (HT.out _ HB6d.out))
 obtain ⟨e0,e1,e2,e3,e4⟩:=HBc.out _ HBw6.out
 obtain ⟨m0,m1,m2,m3,m4⟩:=HMc.out _ HBw6.out
 have q3:=HG6.out.q3
 clear b6 HS6 HE HBd HGd HBj HBi HBw HBd5 HG5 HBw5 HW5 HWd
 go_wp2_with fail
 go_region_law (first | (go_simp;go_wp2_with (go_at_call 148;refine HE6.out.mono ?_;rintro e7 w7 ⟨b7,ty,p,rfl,hs7⟩;have HB7:=hid (HB6d.out.trans (b7.mono HB6d.out.size));have HBw7:=hid (HBw6d.out.trans (b7.mono HBw6d.out.size));have HG7:=hid (HG6d.out.stay b7);have q37:=HG7.out.q3;have Hb7:=hid b7;have Hs7:=hid hs7;obtain ⟨n0,n1,n2,n3,n4⟩:=HMc.out _ HBw7.out;have HCALL:=hid trivial;clear b7 hs7);clear HCALL) | (go_simp;go_wp2_with (go_at_call 150;refine (HEs.out w7 HBw7.out (HT.out _ HB7.out)).mono ?_;rintro e8 w8 ⟨b8,EA,ec,rfl,hs8⟩;have HG8:=hid (HG7.out.stay b8);have Hb8:=hid b8;have Hs8:=hid hs8;have r0:=HG8.out.box.q0;have r1:=HG8.out.box.q1;have r2:=HG8.out.box.q2;have r3:=HG8.out.box.q3;have r4:=HG8.out.box.q4;have z0:=HG8.out.box.f0;have z1:=HG8.out.box.f1;have z2:=HG8.out.box.f2;have z3:=HG8.out.box.f3;have z4:=HG8.out.box.f4;have HCALL:=hid trivial;clear b8 hs8);clear HCALL))
 all_goals
  go_wp2_with fail
  have HO:=hid (HG8.out.box.put5 (.slice none 0 0) (.slice NA (es.length+1) nc) (.iface ty p) (.slice EA es.length ec) (.slice none 0 0))
  have HBf:=hid (below_res (HB7.out.trans (Hb8.out.mono HB7.out.size)) (b:=w.heap.size+1) (by omega) (by have:=HG8.out.box.lt;omega) (.slice none 0 0) (.slice NA (es.length+1) nc) (.iface ty p) (.slice EA es.length ec) (.slice none 0 0))
  have HSf:=hid ((((HS6a.out.later (wa:=W1) Hb7.out (Nat.le_refl _)).later (wa:=W1) Hb8.out (Nat.le_refl _)).and ((Hs7.out.later (wa:=W1) Hb8.out HW6.out).and (Hs8.out.later (wa:=W1) (Below.refl _ _) (Nat.le_trans HW6.out Hb7.out.size)))).put5 (w:=w) (b:=w.heap.size+1) (by have:=HW1s.out;omega) (by have:=HW1s.out;omega) (.slice none 0 0) (.slice NA (es.length+1) nc) (.iface ty p) (.slice EA es.length ec) (.slice none 0 0))
  unfold put5 at HO HBf HSf
  clear r0 r1 r2 r3 r4 z0 z1 z2 z3 z4 n0 n1 n2 n3 n4 e0 e1 e2 e3 e4 m0 m1 m2 m3 m4 q3 q37
  have r0:=HO.out.q0
  have r1:=HO.out.q1
  have r2:=HO.out.q2
  have r3:=HO.out.q3
  have r4:=HO.out.q4
  refine bodyPost_ret (v:=.agg #[.slice none 0 0,.slice NA (es.length+1) nc,.iface ty p,.slice EA es.length ec,.slice none 0 0]) (by simp [results,Tryz.results125,go_sem, *]) rfl ?_
  exact ⟨HBf.out,NA,nc,ty,p,EA,ec,rfl,HSf.out⟩
end Go.Proofs.YtknakfpciccoaabGreatDoor
/- $group is a stage. -/
namespace Go.Proofs.YtknakfpciccoaabGreatDoor
open Go.RowKit
set_option maxHeartbeats 8000000 in
set_option maxRecDepth 100000 in
theorem grun_any {Tb:World→Prop} (hV:ValidSaid Tb) (hL:Lies Tb) (NA:Option Addr) (nc:Nat) (bv ev:Value) (es:List (ByteArray×(T→Int⊕T))) (ops:List ByteArray) (hops:ops=es.map Prod.fst) (ks:List ByteArray) (gb:T→Int⊕T) (dv:Value) (l:List T) (w:World) (hk:StrsAt w (.slice NA (ops.length+1) nc) ks) (hby:ExprOk Tb w bv gb) (hes:EntsOk Tb w ev es) (hd:DocsAt w dv l) (hT:Tb w) :
  Calls Tryz.prog 238 #[.agg #[.slice none 0 0,.slice NA (ops.length+1) nc,bv,ev,.slice none 0 0],dv] w (StPost (grpS gb es ks) l w):=by
 have hmf:∀ (fn:Fn) (first cap:Array Value) (w:World),(Instr.makeFunc fn first cap).run Tryz.prog w=.ok (.func fn first cap) w:=fun _ _ _ _=>rfl
 have HB1:Hid (Below w.heap.size w (w.alloc (.cells #[.slice none 0 0,.slice NA (ops.length+1) nc,bv,ev,.slice none 0 0] 178))):=(Below.refl _ _).alloc (Nat.le_refl _) _
 have hdl:l.length≤1000000:=by obtain ⟨_,_,_,h,_⟩:=hd;exact h
 have hlen:ops.length=es.length:=by rw [hops,List.length_map]
 have hen:ops.length≤100000:=by obtain ⟨_,_,_,h,_⟩:=hes;omega
 have HC:=hid (each_any (takE gb es) (fun k st w'=>(∃ L gv xs rb ys,GrI w w.heap.size NA nc bv ev ops L gv xs rb ys st w')∧st.length≤k∧∀ i,(h:i<st.length)→∀ j,(∃ hj:j<es.length,es[j].1=gList)→nL (st[i].2.getD j zeroT)≤k) 239 (fun _ _=>rfl) (.pointer (some ⟨w.heap.size,0,none⟩)) w.heap.size dv l [] w _ HB1.out hd ⟨⟨_,_,_,_,_,GrI.start w NA nc bv ev ops⟩,Nat.le_refl _,fun i hi=>absurd hi (Nat.not_lt_zero i)⟩
  (fun k s wx wy h hb=>by
   obtain ⟨⟨L,gv,xs,rb,ys,hG⟩,h2⟩:=h
   exact ⟨⟨L,gv,xs,rb,ys,hG.keep hb⟩,h2⟩)
  (fun k s wx h=>by
   obtain ⟨⟨L,gv,xs,rb,ys,hG⟩,h2⟩:=h
   exact ⟨_,hG.c0⟩)
  (fun k s d v wr hkl h hb ha hok=>by
   obtain ⟨⟨L,gv,xs,rb,ys,hG⟩,h2,h3⟩:=h
   refine (gtake_any hL w w.heap.size NA nc bv ev es ops hops L gv xs rb ys s d v wr ks gb hG hb hk hby hes (by omega) (fun i hi j hj=>?_) ha hok hT).mono ?_
   ·have:=h3 i hi j (by
     obtain ⟨hj1,hj2⟩:=hj
     subst hops
     rw [List.getElem_map] at hj2
     exact ⟨by rw [List.length_map] at hj1;exact hj1,hj2⟩)
    omega
   ·rintro e w' ⟨k1,k2 | ⟨st',k2,k3,k4⟩⟩
    ·exact ⟨k1,.inl k2⟩
    ·exact ⟨k1,.inr ⟨st',k2,k3,k4,by have:=takE_len k2;omega,takE_nL k2 h3⟩⟩))
 have HSec:Hid (∀ (w2:World) (st:List (T×List T)) (L:Nat→Lab) (gv:Value) (xs:List Value) (rb:Nat→Nat) (ys:Nat→List Value),GrI w w.heap.size NA nc bv ev ops L gv xs rb ys st w2→Below w.heap.size w w2→st.length≤1000000→_):=fun w2 st L gv xs rb ys hG hb hn=>gsecond_any hV hL w w2 w.heap.size NA nc bv ev ops L gv xs rb ys st ks hG hb hk hen hn hT
 have Hk:=hid hk
 have Hen:=hid hen
 obtain ⟨DA,dc,hdv,_⟩:=hd
 obtain ⟨EA,ec,hev,_,_⟩:=hes
 obtain ⟨ty,p,fid,hbv,_,_,_⟩:=hby
 subst hdv
 subst hev
 subst hbv
 have Hdl:=hid hdl
 clear hT hV hL hdl hk hen hlen hops
 go_enter Tryz.func238,Tryz.ntmps238
 go_wp2_with fail
 refine HC.out.mono ?_
 rintro e w2 ⟨b2,⟨k,x,h1,h2,rfl⟩ | ⟨st,v,h1,h2,h3,rfl⟩⟩
 ·have HB:=hid (HB1.out.trans b2)
  have HF:Hid (grpS gb es ks l=.inl (k,x)∧x≠0):=⟨by unfold grpS;rw [h1],h2⟩
  have ez:(x==0)=false:=by simpa using h2
  clear b2 h1 h2 HC HSec
  go_wp2_with fail
  refine bodyPost_ret (v:=.tuple #[.slice none 0 0,.int .i64 (k:Nat),.int .i64 x]) (by simp [results,Tryz.results238,go_sem, *]) rfl ?_
  exact ⟨HB.out,.inl ⟨k,x,HF.out.1,HF.out.2,rfl⟩⟩
 ·obtain ⟨⟨L,gv,xs,rb,ys,hG⟩,hl1,_⟩:=h2
  have HB:=hid (HB1.out.trans b2)
  obtain ⟨GA,gc,hgv,_⟩:=hG.elems HB.out Hk.out Hen.out
  subst hgv
  have HS2:=hid (HSec.out w2 st L _ xs rb ys hG HB.out (by have:=Hdl.out;omega))
  have c42:=hG.c4
  have Hg:Hid (∀ r,eachE emE (st.map (grpT ks)) 0 []=r→grpS gb es ks l=r):=fun r hr=>by unfold grpS;rw [h1];exact hr
  clear b2 h1 h3 hG hl1 HC HSec Hk Hen Hdl
  go_wp2_with fail
  refine HS2.out.mono ?_
  rintro e w3 ⟨b3,⟨k,x,h1,h2,rfl⟩ | ⟨r,v2,h1,rfl,h3⟩⟩
  ·have HB3:=hid (HB.out.trans b3)
   have HF:=hid (And.intro (Hg.out _ h1) h2)
   clear b3 h1 h2 HS2
   go_wp2_with fail
   refine bodyPost_ret (v:=.tuple #[.slice none 0 0,.int .i64 (k:Nat),.int .i64 x]) (by simp [results,Tryz.results238,go_sem, *]) rfl ?_
   exact ⟨HB3.out,.inl ⟨k,x,HF.out.1,HF.out.2,rfl⟩⟩
  ·have HB3:=hid (HB.out.trans b3)
   have HF:=hid (And.intro (Hg.out _ h1) h3)
   clear b3 h1 h3 HS2
   go_wp2_with fail
   refine bodyPost_ret (v:=.tuple #[v2,.int .i64 0,.int .i64 0]) (by simp [results,Tryz.results238,go_sem, *]) rfl ?_
   exact ⟨HB3.out,.inr ⟨r,v2,HF.out.1,rfl,HF.out.2⟩⟩
theorem meth_group (p:Value) (w:World):(method 419 178 p "sheaf/pipe.run").run Tryz.prog w=.ok (238,p) w:=by kernel_rfl
set_option maxHeartbeats 4000000 in
set_option maxRecDepth 100000 in
theorem group_ok {Tb:World→Prop} (hV:ValidSaid Tb) (hL:Lies Tb) {w:World} {NA:Option Addr} {nc:Nat} {bv ev:Value} {es:List (ByteArray×(T→Int⊕T))} {ops:List ByteArray} (hops:ops=es.map Prod.fst) {ks:List ByteArray} {gb:T→Int⊕T} (hk:StrsAt w (.slice NA (ops.length+1) nc) ks) (hby:ExprOk Tb w bv gb) (hes:EntsOk Tb w ev es):StageOk Tb w (.iface 178 (.agg #[.slice none 0 0,.slice NA (ops.length+1) nc,bv,ev,.slice none 0 0])) (grpS gb es ks) :=
 ⟨_,_,_,rfl,meth_group _,fun _ _=>rfl,fun wr dv l hb hd hT=>grun_any hV hL NA nc bv ev es ops hops ks gb dv l wr (hk.keep hb) (hby.keep hb) (hes.keep hb) hd hT⟩
end Go.Proofs.YtknakfpciccoaabGreatDoor
/- Stages are read: $group. -/
namespace Go.Proofs.YtknakfpciccoaabGreatDoor
open Go.RowKit
def opGroup:ByteArray:=⟨#[36,103,114,111,117,112]⟩
set_option maxHeartbeats 8000000 in
set_option maxRecDepth 100000 in
theorem pstage_group {Tb:World→Prop} (hV:ValidSaid Tb) (hL:Lies Tb) (gb:T→Int⊕T) (es:List (ByteArray×(T→Int⊕T))) (ks:List ByteArray) (t j:T) (k6:kindOf t=6) (k1:nK t=1) (hj:elt t 0=j) (hx:nam t 0=opGroup) (h:∀ (v:Value) (wB w:World),At wB 13 v j→okA j→Below wB.heap.size wB w→Tb w→Calls Tryz.prog 125 #[v] w (GpPost Tb wB gb es ks w)):PsSaid Tb t (grpS gb es ks):=by
 intro v wB w ha hk hb0 hT
 have l1:nL t=1:=by have:=hk.names k6;omega
 have hkj:okA j:=by rw [← hj];exact hk.elt (by omega)
 have Ha:=hid ha
 obtain ⟨g1,La,Ka,Lc,Kc,hg1,rfl,_,_,_⟩:=ha.open
 have HB1:Hid (Below w.heap.size w (w.alloc (.cells #[.int .i64 (kindOf t),.int .i64 (nOf t),.string (sOf t),.slice La (nL t) Lc,.slice Ka (nK t) Kc] 36))):=(Below.refl _ _).alloc (Nat.le_refl _) _
 have HC:=hid (ppOp_any t j opGroup hj hx _ wB _ Ha.out hk k6 k1 (hb0.trans (HB1.out.mono hb0.size)))
 have HE:Hid (∀ (v:Value) (w':World),At wB 13 v j→Below w.heap.size w w'→Calls Tryz.prog 125 #[v] w' (GpPost Tb wB gb es ks w')):=fun v w' h1 h2=>h v wB w' h1 hkj (hb0.trans (h2.mono hb0.size)) (hL w hT w w' hT h2)
 clear ha hk hg1 hb0 hT h k6 k1 l1 hkj Ha hj hx
 unfold opGroup at *
 go_enter Tryz.func94,Tryz.ntmps94
 go_wp2_with fail
 refine HC.out.mono ?_
 rintro e w2 ⟨b2,A,B,C,D,rfl,hat⟩
 have HBa:Hid (Below w2.heap.size w2 (w2.alloc (.cells #[.int .i64 (kindOf j),.int .i64 (nOf j),.string (sOf j),.slice A (nL j) B,.slice C (nK j) D] 36))):=(Below.refl _ _).alloc (Nat.le_refl _) _
 have HB2:=hid (HB1.out.trans (b2.mono HB1.out.size))
 have HB3:=hid (HB2.out.trans (HBa.out.mono HB2.out.size))
 have HP:=hid (HE.out _ _ hat HB3.out)
 have HY:=hid (box_new w2 (.int .i64 (kindOf j)) (.int .i64 (nOf j)) (.string (sOf j)) (.slice A (nL j) B) (.slice C (nK j) D))
 clear b2 hat HC HE
 have y0:=HY.out.q0
 have y1:=HY.out.q1
 have y2:=HY.out.q2
 have y3:=HY.out.q3
 have y4:=HY.out.q4
 go_wp2_with fail
 refine HP.out.mono ?_
 rintro e w5 ⟨b5,NA,nc,ty,p,EA,ec,rfl,hs⟩
 have HB5:=hid (HB3.out.trans (b5.mono HB3.out.size))
 have HS:=hid ((hs.later (wa:=w) (Below.refl _ _) HB3.out.size).mono (Q:=fun x=>StageOk Tb x (.iface 178 (.agg #[.slice none 0 0,.slice NA (es.length+1) nc,.iface ty p,.slice EA es.length ec,.slice none 0 0])) (grpS gb es ks)) fun w' hw hh=>by
  obtain ⟨h1,h2,h3⟩:=hh
  have:=group_ok hV hL (ops:=es.map Prod.fst) rfl (by rw [List.length_map];exact h1) h2 h3
  rw [List.length_map] at this
  exact this)
 clear b5 hs HP y0 y1 y2 y3 y4
 go_wp2_with fail
 go_ret
 exact ⟨HB5.out,_,_,rfl,HS.out⟩
end Go.Proofs.YtknakfpciccoaabGreatDoor
/- The pipeline of Summed: its text, its tree, what it is read as. -/
namespace Go.Proofs.YtknakfpciccoaabGreatDoor
open Go.RowKit
def dolT (s:ByteArray):T:=leafT 4 0 s
def opT (op:ByteArray) (j:T):T:=mkT 6 0 ByteArray.empty [j] [op]
def dId:ByteArray:=⟨#[36,95,105,100]⟩
theorem read_of {t:T} {s:ByteArray} (h1:s.data.toList=wrT 12 t) (h2:fitB 13 t=true) (h3:(chkT 12 t 1048576).isSome=true) (h4:canT 12 t=t) (h5:s.size≤4000):tJ s=t∧eJ s=0:=by
 have hg:=((isV_iff t).1 h3).1
 have h:=Rep.parse (t:=t) (s:=s) (n:=4000) ⟨h1,fitB_fit 13 t h2,hg,h4,h5⟩ (Nat.le_refl _)
 exact ⟨h.2,h.1⟩
theorem px_path {Tb:World→Prop} (hA:StoreSaid Tb) (s x:ByteArray) (p:List ByteArray) (hop:isOp s=true) (hx:s.extract 1 s.size=x) (h1:1≤s.size) (h2:s.size≤1000) (hp:pathOk x=true) (hs:splitP x=p):PxSaid Tb (dolT s) (fun d=>.inr (orNull p d)):=by
 subst hs
 refine pexpr_text hA.lies (dolT s) _ rfl fun v wB w ha hk hb0 hT=>?_
 exact ptext_found hA.atoi hA.itoa hA.split hA.lies (dolT s) x v wB w ha hop hx h1 (by show s.size≤_;omega) hp hT
theorem px_id {Tb:World→Prop} (hA:StoreSaid Tb):PxSaid Tb (dolT dId) idE:=px_path hA dId stI [stI] (by kernel_rfl) (by kernel_rfl) (by decide) (by decide) (by kernel_rfl) (by kernel_rfl)
end Go.Proofs.YtknakfpciccoaabGreatDoor
/- The pipelines of Unwound: their texts and trees, what they are read as, what they make. -/
namespace Go.Proofs.YtknakfpciccoaabGreatDoor
open Go.RowKit
def unA:ByteArray:=⟨#[91,123,34,36,109,97,116,99,104,34,58,123,34,97,34,58,123,34,36,107,105,110,100,34,58,53,125,125,125,44,123,34,36,117,110,119,105,110,100,34,58,34,97,34,125,44,123,34,36,103,114,111,117,112,34,58,123,34,98,121,34,58,34,36,95,105,100,34,44,34,109,97,107,101,34,58,123,34,97,34,58,123,34,36,108,105,115,116,34,58,34,36,97,34,125,125,125,125,93]⟩
def unB:ByteArray:=⟨#[91,123,34,36,109,97,116,99,104,34,58,123,34,97,34,58,123,34,36,107,105,110,100,34,58,53,44,34,36,110,101,34,58,91,93,125,125,125,44,123,34,36,112,114,111,106,101,99,116,34,58,123,34,95,105,100,34,58,34,36,95,105,100,34,44,34,97,34,58,34,36,97,34,125,125,93]⟩
def fil1:T:=mkT 6 0 ByteArray.empty [mkT 6 0 ByteArray.empty [nT 5] [⟨#[36,107,105,110,100]⟩]] [⟨#[97]⟩]
def fil2:T:=mkT 6 0 ByteArray.empty [mkT 6 0 ByteArray.empty [nT 5,mkT 5 0 ByteArray.empty [] []] [⟨#[36,107,105,110,100]⟩,⟨#[36,110,101]⟩]] [⟨#[97]⟩]
def dA:ByteArray:=⟨#[36,97]⟩
def makT:T:=mkT 6 0 ByteArray.empty [opT ⟨#[36,108,105,115,116]⟩ (dolT dA)] [⟨#[97]⟩]
def grU:T:=mkT 6 0 ByteArray.empty [dolT dId,makT] [⟨#[98,121]⟩,⟨#[109,97,107,101]⟩]
def prU:T:=mkT 6 0 ByteArray.empty [dolT dId,dolT dA] [⟨#[95,105,100]⟩,⟨#[97]⟩]
def unTA:T:=mkT 5 0 ByteArray.empty [opT ⟨#[36,109,97,116,99,104]⟩ fil1,opT ⟨#[36,117,110,119,105,110,100]⟩ (dolT ⟨#[97]⟩),opT ⟨#[36,103,114,111,117,112]⟩ grU] []
def unTB:T:=mkT 5 0 ByteArray.empty [opT ⟨#[36,109,97,116,99,104]⟩ fil2,opT ⟨#[36,112,114,111,106,101,99,116]⟩ prU] []
theorem unA_at:tJ unA=unTA∧eJ unA=0:=read_of (by kernel_rfl) (by kernel_rfl) (by kernel_rfl) (by kernel_rfl) (by decide)
theorem unB_at:tJ unB=unTB∧eJ unB=0:=read_of (by kernel_rfl) (by kernel_rfl) (by kernel_rfl) (by kernel_rfl) (by decide)
theorem px_a {Tb:World→Prop} (hA:StoreSaid Tb):PxSaid Tb (dolT dA) aE:=px_path hA dA stA [stA] (by kernel_rfl) (by kernel_rfl) (by decide) (by decide) (by kernel_rfl) (by kernel_rfl)
theorem unA_read {Tb:World→Prop} (hA:StoreSaid Tb):PpSaid Tb unTA [mtcS (evF 16 fil1),unwS stA,grpS idE es1 ks2]:=by
 intro v wB w ha hk hb0 hT
 refine ppipe_any hA.lies unTA _ rfl rfl (by simp) (fun i hi=>?_) v wB w ha hk hb0 hT
 have hi':i<3:=hi
 match i,hi' with
 | 0,_=>exact pstage_match hA.atoi hA.itoa hA.lies (opT ⟨#[36,109,97,116,99,104]⟩ fil1) fil1 rfl rfl rfl rfl fun v wB w ha hk hb0 hT=>ppFilter_any hA.split hA.lies fil1 (by kernel_rfl) v wB w ha hk hb0 hT
 | 1,_=>exact pstage_unwind hA.valid hA.atoi hA.itoa hA.split hA.lies (opT ⟨#[36,117,110,119,105,110,100]⟩ (dolT ⟨#[97]⟩)) (dolT ⟨#[97]⟩) rfl rfl rfl rfl rfl stA (by kernel_rfl) (by kernel_rfl) (by decide)
 | 2,_ =>
  refine pstage_group hA.valid hA.lies _ es1 ks2 (opT ⟨#[36,103,114,111,117,112]⟩ grU) grU rfl rfl rfl rfl fun v wB w ha hk hb0 hT=>?_
  refine pgroup_any hA.lies grU (dolT dId) makT 0 1 _ es1 rfl rfl (by rfl) (by rfl) rfl rfl (px_id hA) rfl rfl (by decide) (fun i hi=>?_) v wB w ha hk hb0 hT
  obtain rfl:i=0:=by have hi1:i<1:=hi;omega
  exact ⟨by decide,by kernel_rfl,pentList_any hA.lies (opT ⟨#[36,108,105,115,116]⟩ (dolT dA)) (dolT dA) aE rfl rfl rfl rfl (px_a hA),.inr (.inr (.inr (.inr (.inr rfl)))),(by show ByteArray.size gList≤100;decide)⟩
theorem unB_read {Tb:World→Prop} (hA:StoreSaid Tb):PpSaid Tb unTB [mtcS (evF 16 fil2),prjS [idE,aE] ks2]:=by
 intro v wB w ha hk hb0 hT
 refine ppipe_any hA.lies unTB _ rfl rfl (by simp) (fun i hi=>?_) v wB w ha hk hb0 hT
 have hi':i<2:=hi
 match i,hi' with
 | 0,_=>exact pstage_match hA.atoi hA.itoa hA.lies (opT ⟨#[36,109,97,116,99,104]⟩ fil2) fil2 rfl rfl rfl rfl fun v wB w ha hk hb0 hT=>ppFilter_any hA.split hA.lies fil2 (by kernel_rfl) v wB w ha hk hb0 hT
 | 1,_ =>
  refine pstage_project hA.valid hA.lies [idE,aE] ks2 (by decide) (opT ⟨#[36,112,114,111,106,101,99,116]⟩ prU) prU rfl rfl rfl rfl fun v wB w ha hk hb0 hT=>?_
  refine pproj_any hA.lies prU [idE,aE] rfl rfl (by decide) (by decide) (fun i hi=>?_) v wB w ha hk hb0 hT
  have hi2:i<2:=hi
  match i,hi2 with
  | 0,_=>exact ⟨by kernel_rfl,px_id hA⟩
  | 1,_=>exact ⟨by kernel_rfl,px_a hA⟩
theorem f1_ev (id:Int) (i:Nat) (o:Option Nat):evF 16 fil1 (docT id i o)=evA 16 [(opKind,nT 5)] (tv i) true:=by cases o<;>kernel_rfl
theorem f2_ev (id:Int) (i:Nat) (o:Option Nat):evF 16 fil2 (docT id i o)=evA 16 [(opKind,nT 5),(opNe,mkT 5 0 ByteArray.empty [] [])] (tv i) true:=by cases o<;>kernel_rfl
theorem f1_tab:((List.range 36).all fun i=>evA 16 [(opKind,nT 5)] (tv i) true==decide (kindOf (tv i)=5))=true:=by kernel_rfl
theorem f2_tab:((List.range 36).all fun i=>evA 16 [(opKind,nT 5),(opNe,mkT 5 0 ByteArray.empty [] [])] (tv i) true==(decide (kindOf (tv i)=5)&&!(lstN (tv i)).isEmpty))=true:=by kernel_rfl
theorem f1_is {id:Int} {i:Nat} {o:Option Nat} (h:i<36):evF 16 fil1 (docT id i o)=decide (kindOf (tv i)=5):=by
 rw [f1_ev]
 simpa using List.all_eq_true.1 f1_tab i (List.mem_range.2 h)
theorem f2_is {id:Int} {i:Nat} {o:Option Nat} (h:i<36):evF 16 fil2 (docT id i o)=(decide (kindOf (tv i)=5)&&!(lstN (tv i)).isEmpty):=by
 rw [f2_ev]
 simpa using List.all_eq_true.1 f2_tab i (List.mem_range.2 h)
theorem dcs:∀ (n:Nat) (l:List T),l.length=n→DocsOf l→∃ D:List Dc,(∀ d ∈ D,d.ok∧0≤d.id∧d.id<n)∧(D.Pairwise fun a b=>a.id≠b.id)∧l.filter (evF 16 fil1)=D.map Dc.doc∧l.filter (evF 16 fil2)=(D.filter fun d=>!d.es.isEmpty).map Dc.doc∧D.length≤n
 | 0,l,hl,_=>by
  have:l=[]:=List.length_eq_zero_iff.1 hl
  subst this
  exact ⟨[],fun d h=>(by cases h),List.Pairwise.nil,rfl,rfl,Nat.le_refl _⟩
 | n+1,l,hl,hd=>by
  obtain ⟨r,x,rfl⟩:∃ r x,l=r++[x]:=⟨l.dropLast,l.getLast (by intro e;rw [e] at hl;simp at hl),(List.dropLast_concat_getLast _).symm⟩
  rw [List.length_append,List.length_cons,List.length_nil] at hl
  have hr:DocsOf r:=fun k hk=>by
   obtain ⟨i,o,h1,h2,h3⟩:=hd k (by rw [List.length_append];omega)
   exact ⟨i,o,h1,h2,by rw [← h3,List.getElem_append_left hk]⟩
  obtain ⟨D,d1,d2,d3,d4,d5⟩:=dcs n r (by omega) hr
  obtain ⟨i,o,h1,h2,h3⟩:=hd r.length (by rw [List.length_append];simp)
  rw [List.getElem_append_right (Nat.le_refl _)] at h3
  simp only [Nat.sub_self,List.getElem_cons_zero] at h3
  have hrn:r.length=n:=by omega
  rw [hrn] at h3
  by_cases k5:kindOf (tv i)=5
  ·have hx:x=Dc.doc ⟨(n:Int),lstN (tv i),o⟩:=by
    rw [h3,docV_T]
    unfold Dc.doc
    rw [← tv_list h1 k5]
   have e1:evF 16 fil1 x=true:=by rw [h3,f1_is h1];exact decide_eq_true k5
   have e2:evF 16 fil2 x=!(lstN (tv i)).isEmpty:=by rw [h3,f2_is h1,decide_eq_true k5];rfl
   refine ⟨D++[⟨(n:Int),lstN (tv i),o⟩],fun d h=>?_,?_,?_,?_,by rw [List.length_append];simp;omega⟩
   ·rw [List.mem_append,List.mem_singleton] at h
    rcases h with h | rfl
    ·have:=d1 d h
     exact ⟨this.1,this.2.1,by omega⟩
    ·exact ⟨⟨h2,(tv_short h1).1,(tv_short h1).2⟩,by show (0:Int)≤n;omega,by show (n:Int)<((n+1:Nat):Int);omega⟩
   ·rw [List.pairwise_append]
    refine ⟨d2,List.pairwise_singleton _ _,fun a ha b hb=>?_⟩
    rw [List.mem_singleton] at hb
    subst hb
    have:=d1 a ha
    show a.id≠(n:Int)
    omega
   ·rw [List.filter_append,d3,List.map_append,List.filter_cons,e1,hx]
    rfl
   ·rw [List.filter_append,d4,List.filter_append,List.map_append,List.filter_cons,e2,List.filter_cons]
    cases hh:(lstN (tv i)).isEmpty with
    | true=>simp
    | false=>simp [hx]
  ·have e1:evF 16 fil1 x=false:=by rw [h3,f1_is h1];exact decide_eq_false k5
   have e2:evF 16 fil2 x=false:=by rw [h3,f2_is h1,decide_eq_false k5];rfl
   refine ⟨D,fun d h=>?_,d2,?_,?_,by omega⟩
   ·have:=d1 d h
    exact ⟨this.1,this.2.1,by omega⟩
   ·rw [List.filter_append,d3,List.filter_cons,e1]
    simp
   ·rw [List.filter_append,d4,List.filter_cons,e2]
    simp
theorem un_same {l:List T} (hd:DocsOf l) (hl:l.length≤30):∃ R:List T,R.length≤30∧pipE [mtcS (evF 16 fil1),unwS stA,grpS idE es1 ks2] l 0=.inr R∧pipE [mtcS (evF 16 fil2),prjS [idE,aE] ks2] l 0=.inr R:=by
 obtain ⟨D,d1,d2,d3,d4,d5⟩:=dcs l.length l rfl hd
 obtain ⟨U,u1,u2⟩:=unw_grp (fun d h=>(d1 d h).1) d2 (by omega)
 refine ⟨(keepG D).map resD,?_,?_,?_⟩
 ·unfold keepG
  rw [List.length_map,List.length_map]
  have:=List.length_filter_le (fun d:Dc=>!d.es.isEmpty) D
  omega
 ·simp only [pipE,mtcS,d3,u1,u2]
 ·have hp:=prj_all (D.filter fun d=>!d.es.isEmpty) 0 [] fun d h=>(d1 d (List.mem_filter.1 h).1).1
  rw [List.nil_append] at hp
  have hp':prjS [idE,aE] ks2 ((D.filter fun d=>!d.es.isEmpty).map Dc.doc)=.inr ((D.filter fun d=>!d.es.isEmpty).map fun d=>resD (d.id,d.es)):=hp
  simp only [pipE,mtcS,d4,hp']
  unfold keepG
  rw [List.map_map]
  rfl
end Go.Proofs.YtknakfpciccoaabGreatDoor
