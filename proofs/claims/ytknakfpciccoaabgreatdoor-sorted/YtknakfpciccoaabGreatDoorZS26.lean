import Derived.Test.YtknakfpciccoaabGreatDoorZS24
import Derived.Test.YtknakfpciccoaabGreatDoorZS23
import Derived.Test.YtknakfpciccoaabGreatDoorZS25
import Derived.Test.YtknakfpciccoaabGreatDoorZS15
import Derived.Lib.SliceRun
/- $limit, $skip. -/
namespace Go.Proofs.YtknakfpciccoaabGreatDoor
open Go.RowKit
def cntOf (n:Int) (m:Nat):Nat:=if n≤m then n.toNat else m
theorem cntOf_le (n:Int) (m:Nat):cntOf n m≤m:=by
 unfold cntOf
 split<;>omega
set_option maxHeartbeats 4000000 in
set_option maxRecDepth 100000 in
theorem count_any (n:Int) (h0:0≤n) (DA:Option Addr) (m dc:Nat) (w:World) :
  Calls Tryz.prog 254 #[.agg #[.int .i64 n],.slice DA m dc] w fun e w'=>Below w.heap.size w w'∧e=.returned (.int .i64 (cntOf n m)):=by
 have HB1:Hid (Below w.heap.size w (w.alloc (.cells #[.int .i64 n] 184))):=(Below.refl _ _).alloc (Nat.le_refl _) _
 by_cases hle:n≤m
 ·have Hc:Hid (cntOf n m=n.toNat):=by show _=_;unfold cntOf;rw [if_pos hle]
  have hmin:min n (m:Int)=n:=by omega
  go_enter Tryz.func254,Tryz.ntmps254
  go_wp2_with fail
  go_ret
  exact ⟨HB1.out,by rw [Hc.out];simp;omega⟩
 ·have Hc:Hid (cntOf n m=m):=by show _=_;unfold cntOf;rw [if_neg hle]
  have hmin:min n (m:Int)=m:=by omega
  go_enter Tryz.func254,Tryz.ntmps254
  go_wp2_with fail
  go_ret
  exact ⟨HB1.out,by rw [Hc.out];rfl⟩
def limS (n:Int) (l:List T):(Nat×Int)⊕List T:=.inr (l.take (cntOf n l.length))
def skpS (n:Int) (l:List T):(Nat×Int)⊕List T:=.inr (l.drop (cntOf n l.length))
theorem docs_take {w:World} {DA:Option Addr} {dc:Nat} {l:List T} (h:DocsAt w (.slice DA l.length dc) l) {m:Nat} (hm:m≤l.length):DocsAt w (.slice DA m dc) (l.take m):=by
 obtain ⟨La,Lc,h1,h2,h3,h4,h5,h6⟩:=h
 simp only [Value.slice.injEq,true_and] at h1
 obtain ⟨rfl,rfl⟩:=h1
 have hl:(l.take m).length=m:=by rw [List.length_take];omega
 refine ⟨DA,dc,by rw [hl],by omega,by omega,h4,fun i hi=>?_,fun i hi=>?_⟩
 ·rw [nL_mk,hl] at hi
  have:=h5 i (by rw [nL_mk];omega)
  rw [elt_docs _ (by omega)] at this ⊢
  rw [List.getElem_take]
  exact this
 ·rw [List.getElem_take]
  exact h6 i (by rw [hl] at hi;omega)
set_option maxHeartbeats 4000000 in
set_option maxRecDepth 100000 in
theorem lrun_any (n:Int) (h0:0≤n) (dv:Value) (l:List T) (w:World) (hd:DocsAt w dv l):Calls Tryz.prog 256 #[.agg #[.int .i64 n],dv] w (StPost (limS n) l w):=by
 have HB1:Hid (Below w.heap.size w (w.alloc (.cells #[.int .i64 n] 188))):=(Below.refl _ _).alloc (Nat.le_refl _) _
 have Hd:=hid hd
 obtain ⟨DA,dc,rfl,hn,hdc,hcm,hzz⟩:=hd
 clear hzz
 have HC:=hid (count_any n h0 DA l.length dc (w.alloc (.cells #[.int .i64 n] 188)))
 have Hm:=hid (cntOf_le n l.length)
 have Hf:Hid (limS n l=.inr (l.take (cntOf n l.length))):=rfl
 generalize cntOf n l.length=m at HC Hm Hf
 have m1:=Hm.out
 have m2:¬ (m:Int)<0:=by omega
 have m3:(m:Int)≤(dc:Int):=by omega
 have m4:m≤dc:=by omega
 go_enter Tryz.func256,Tryz.ntmps256
 go_wp2_with fail
 refine HC.out.mono ?_
 rintro e w2 ⟨b2,rfl⟩
 have HB2:=hid (HB1.out.trans (b2.mono HB1.out.size))
 have HD:=hid (docs_take (Hd.out.keep HB2.out) m1)
 clear b2 HC
 go_wp2_with fail
 refine bodyPost_ret (v:=.tuple #[.slice DA m dc,.int .i64 0,.int .i64 0]) (by simp [results,Tryz.results256,go_sem, *]) rfl ?_
 exact ⟨HB2.out,.inr ⟨_,_,Hf.out,rfl,HD.out⟩⟩
theorem meth_limit (p:Value) (w:World):(method 419 188 p "sheaf/pipe.run").run Tryz.prog w=.ok (256,p) w:=by kernel_rfl
set_option maxHeartbeats 4000000 in
set_option maxRecDepth 100000 in
theorem limit_ok (Tb:World→Prop) {w:World} {n:Int} (h0:0≤n):StageOk Tb w (.iface 188 (.agg #[.int .i64 n])) (limS n) :=
 ⟨_,_,_,rfl,meth_limit _,fun _ _=>rfl,fun wr dv l _ hd _=>lrun_any n h0 dv l wr hd⟩
end Go.Proofs.YtknakfpciccoaabGreatDoor
/- $skip. -/
namespace Go.Proofs.YtknakfpciccoaabGreatDoor
open Go.RowKit
theorem docs_drop {w:World} {b o dc:Nat} {l:List T} (h:DocsAt w (.slice (some ⟨b,o,none⟩) l.length dc) l) {m:Nat} (hm:m≤l.length) {o':Nat} (ho:m<l.length→o'=o+m*5):DocsAt w (.slice (some ⟨b,o',none⟩) (l.length - m) (dc - m)) (l.drop m):=by
 obtain ⟨La,Lc,h1,h2,h3,h4,h5,h6⟩:=h
 simp only [Value.slice.injEq,true_and] at h1
 obtain ⟨rfl,rfl⟩:=h1
 have hl:(l.drop m).length=l.length - m:=List.length_drop
 refine ⟨_,_,by rw [hl],by omega,by omega,by omega,fun i hi=>?_,fun i hi=>?_⟩
 ·rw [nL_mk,hl] at hi
  obtain rfl:=ho (by omega)
  obtain ⟨b',o2,c0,c1,c2,c3,c4,e0,hbl,q0,q1,q2,q3,q4,ha⟩:=h5 (m+i) (by rw [nL_mk];omega)
  simp only [Option.some.injEq,Addr.mk.injEq,and_true] at e0
  obtain ⟨rfl,rfl⟩:=e0
  rw [elt_docs _ (by omega)] at ha ⊢
  rw [List.getElem_drop]
  have e:∀ r,o+(m+i)*5+r=o+m*5+i*5+r:=fun r=>by omega
  refine ⟨b,o+m*5,c0,c1,c2,c3,c4,rfl,hbl,?_,?_,?_,?_,?_,ha⟩
  ·rw [← q0];exact congrArg (fun k=>w.cell? ⟨b,k,none⟩) (e 0).symm
  ·rw [← q1];exact congrArg (fun k=>w.cell? ⟨b,k,none⟩) (e 1).symm
  ·rw [← q2];exact congrArg (fun k=>w.cell? ⟨b,k,none⟩) (e 2).symm
  ·rw [← q3];exact congrArg (fun k=>w.cell? ⟨b,k,none⟩) (e 3).symm
  ·rw [← q4];exact congrArg (fun k=>w.cell? ⟨b,k,none⟩) (e 4).symm
 ·rw [List.getElem_drop]
  exact h6 _ (by rw [hl] at hi;omega)
set_option maxHeartbeats 4000000 in
set_option maxRecDepth 100000 in
theorem srunB_any (n:Int) (h0:0≤n) (b o dc:Nat) (l:List T) (w:World) (hd:DocsAt w (.slice (some ⟨b,o,none⟩) l.length dc) l):Calls Tryz.prog 255 #[.agg #[.int .i64 n],.slice (some ⟨b,o,none⟩) l.length dc] w (StPost (skpS n) l w):=by
 have HB1:Hid (Below w.heap.size w (w.alloc (.cells #[.int .i64 n] 187))):=(Below.refl _ _).alloc (Nat.le_refl _) _
 have Hd:=hid hd
 obtain ⟨DA,dc',hdv,hn,hdc,hcm,hzz⟩:=hd
 simp only [Value.slice.injEq,true_and] at hdv
 obtain ⟨hda,rfl⟩:=hdv
 clear hzz hda
 have HC:=hid (count_any n h0 (some ⟨b,o,none⟩) l.length dc (w.alloc (.cells #[.int .i64 n] 187)))
 have Hm:=hid (cntOf_le n l.length)
 have Hf:Hid (skpS n l=.inr (l.drop (cntOf n l.length))):=rfl
 generalize cntOf n l.length=m at HC Hm Hf
 have m1:=Hm.out
 have m2:¬ (m:Int)<0:=by omega
 have m3:(m:Int)≤(l.length:Int):=by omega
 have m4:m≤dc:=by omega
 by_cases hmd:m=dc
 ·go_enter Tryz.func255,Tryz.ntmps255
  go_wp2_with fail
  refine HC.out.mono ?_
  rintro e w2 ⟨b2,rfl⟩
  have HB2:=hid (HB1.out.trans (b2.mono HB1.out.size))
  have HD:=hid (docs_drop (Hd.out.keep HB2.out) m1 (o':=o) (fun h=>by omega))
  clear b2 HC
  go_wp2_with fail
  refine bodyPost_ret (v:=.tuple #[.slice (some ⟨b,o,none⟩) (l.length - m) (dc - m),.int .i64 0,.int .i64 0]) (by simp [results,Tryz.results255,go_sem, *]) rfl ?_
  exact ⟨HB2.out,.inr ⟨_,_,Hf.out,rfl,HD.out⟩⟩
 ·go_enter Tryz.func255,Tryz.ntmps255
  go_wp2_with fail
  refine HC.out.mono ?_
  rintro e w2 ⟨b2,rfl⟩
  have HB2:=hid (HB1.out.trans (b2.mono HB1.out.size))
  have HD:=hid (docs_drop (Hd.out.keep HB2.out) m1 (o':=o+m*5) (fun h=>rfl))
  clear b2 HC
  go_wp2_with fail
  refine bodyPost_ret (v:=.tuple #[.slice (some ⟨b,o+m*5,none⟩) (l.length - m) (dc - m),.int .i64 0,.int .i64 0]) (by simp [results,Tryz.results255,go_sem, *]) rfl ?_
  exact ⟨HB2.out,.inr ⟨_,_,Hf.out,rfl,HD.out⟩⟩
theorem docs_nil (w:World) (A:Option Addr) {c:Nat} (h:c≤9223372036854775807):DocsAt w (.slice A 0 c) [] :=
 ⟨A,c,rfl,Nat.zero_le _,Nat.zero_le _,h,fun i hi=>absurd hi (Nat.not_lt_zero i),fun i hi=>absurd hi (Nat.not_lt_zero i)⟩
set_option maxHeartbeats 4000000 in
set_option maxRecDepth 100000 in
theorem srunE_any (n:Int) (h0:0≤n) (DA:Option Addr) (dc:Nat) (w:World) (hcm:dc≤9223372036854775807):Calls Tryz.prog 255 #[.agg #[.int .i64 n],.slice DA 0 dc] w (StPost (skpS n) [] w):=by
 have HB1:Hid (Below w.heap.size w (w.alloc (.cells #[.int .i64 n] 187))):=(Below.refl _ _).alloc (Nat.le_refl _) _
 have HC:=hid (count_any n h0 DA 0 dc (w.alloc (.cells #[.int .i64 n] 187)))
 have hc0:cntOf n 0=0:=Nat.le_zero.1 (cntOf_le n 0)
 rw [hc0] at HC
 clear hc0
 have Hf:Hid (skpS n []=.inr []):=by show skpS n []=.inr [];unfold skpS;rw [List.drop_nil]
 cases DA with
 | none =>
  go_enter Tryz.func255,Tryz.ntmps255
  go_wp2_with fail
  refine HC.out.mono ?_
  rintro e w2 ⟨b2,rfl⟩
  have HB2:=hid (HB1.out.trans (b2.mono HB1.out.size))
  clear b2 HC
  go_wp2_with fail
  refine bodyPost_ret (v:=.tuple #[.slice none 0 dc,.int .i64 0,.int .i64 0]) (by simp [results,Tryz.results255,go_sem, *]) rfl ?_
  exact ⟨HB2.out,.inr ⟨_,_,Hf.out,rfl,docs_nil _ _ (by omega)⟩⟩
 | some a =>
  by_cases hd0:dc=0
  ·subst hd0
   go_enter Tryz.func255,Tryz.ntmps255
   go_wp2_with fail
   refine HC.out.mono ?_
   rintro e w2 ⟨b2,rfl⟩
   have HB2:=hid (HB1.out.trans (b2.mono HB1.out.size))
   clear b2 HC
   go_wp2_with fail
   refine bodyPost_ret (v:=.tuple #[.slice (some a) 0 0,.int .i64 0,.int .i64 0]) (by simp [results,Tryz.results255,go_sem, *]) rfl ?_
   exact ⟨HB2.out,.inr ⟨_,_,Hf.out,rfl,docs_nil _ _ (by omega)⟩⟩
  ·go_enter Tryz.func255,Tryz.ntmps255
   go_wp2_with fail
   refine HC.out.mono ?_
   rintro e w2 ⟨b2,rfl⟩
   have HB2:=hid (HB1.out.trans (b2.mono HB1.out.size))
   clear b2 HC
   go_wp2_with fail
   refine bodyPost_ret (v:=.tuple #[.slice (some a) 0 dc,.int .i64 0,.int .i64 0]) (by simp [results,Tryz.results255,go_sem, *]) rfl ?_
   exact ⟨HB2.out,.inr ⟨_,_,Hf.out,rfl,docs_nil _ _ (by omega)⟩⟩
theorem srun_any (n:Int) (h0:0≤n) (dv:Value) (l:List T) (w:World) (hd:DocsAt w dv l):Calls Tryz.prog 255 #[.agg #[.int .i64 n],dv] w (StPost (skpS n) l w):=by
 have Hd:=hd
 obtain ⟨DA,dc,rfl,hn,hdc,hcm,hel,_⟩:=hd
 cases l with
 | nil=>exact srunE_any n h0 DA dc w hcm
 | cons d r =>
  obtain ⟨b,o,_,_,_,_,_,rfl,_⟩:=hel 0 (by rw [nL_mk];exact Nat.succ_pos _)
  exact srunB_any n h0 b o dc (d::r) w Hd
theorem meth_skip (p:Value) (w:World):(method 419 187 p "sheaf/pipe.run").run Tryz.prog w=.ok (255,p) w:=by kernel_rfl
set_option maxHeartbeats 4000000 in
set_option maxRecDepth 100000 in
theorem skip_ok (Tb:World→Prop) {w:World} {n:Int} (h0:0≤n):StageOk Tb w (.iface 187 (.agg #[.int .i64 n])) (skpS n) :=
 ⟨_,_,_,rfl,meth_skip _,fun _ _=>rfl,fun wr dv l _ hd _=>srun_any n h0 dv l wr hd⟩
end Go.Proofs.YtknakfpciccoaabGreatDoor
/- The readers of $sort, $skip, $limit. -/
namespace Go.Proofs.YtknakfpciccoaabGreatDoor
open Go.RowKit
theorem infoKy:(Tryz.prog.info? 221).map (fun i=>(i.zero,i.size,i.bytes))=some (some (.agg #[.slice none 0 0,.int .i64 0]),2,32):=by kernel_rfl
def KeyE (wB:World) (w:World) (X:Nat→Prop) (cs:List Value) (p:List ByteArray×Int):Prop:=∃ pv,cs=[pv,.int .i64 p.2]∧Sat wB w X (fun x=>StrsAt x pv p.1)
theorem keyE_moves (wB:World):Moves (KeyE wB):=fun _ _ _ _ _ _ h hb=>by
 obtain ⟨ty,h1,h2⟩:=h
 exact ⟨ty,h1,h2.move hb⟩
theorem bld_keys {wB:World} {base:Nat} {hv:Value} {es:List (List ByteArray×Int)} {xs:List Value} {w wr:World} (h:Bld (KeyE wB) 2 221 base hv es xs wr) (hlo:w.heap.size≤base) (hn:es.length≤100000) (hg:∀ i,(hi:i<es.length)→es[i].2=1∨es[i].2=-1):∃ A c,hv=.slice A es.length c∧Sat wB wr (newB w wr) (fun x=>OrdAt x (.slice A es.length c) es):=by
 have hrow:=h.row
 rcases h.row.2 with ⟨rfl,h0⟩ | ⟨g,cap,cur,rfl,hb0,hgb,_⟩
 ·exact ⟨none,0,by rw [h0],Sat.all fun w' _=>⟨none,0,rfl,hn,fun i hi=>by omega⟩⟩
 ·have hgl:=(Array.getElem?_eq_some_iff.1 hgb).1
  refine ⟨some ⟨g,0,none⟩,cap,rfl,newB w wr,fun b hb=>⟨hb,hb.2⟩,fun w' hw hy=>⟨_,_,rfl,hn,fun i hi=>?_⟩⟩
  obtain ⟨pv,hc,hs⟩:=h.el i hi
  have c0:=row_cell hrow (elC_get (r:=0) (by rw [hc];rfl) (by omega))
  have c1:=row_cell hrow (elC_get (r:=1) (by rw [hc];rfl) (by omega))
  have hgw:w'.heap[g]?=wr.heap[g]?:=hy g ⟨by omega,hgl⟩
  refine ⟨g,0,pv,rfl,get_lt hgl hgw,?_,?_,?_,hg i hi⟩
  ·rw [cell_of hgw,Nat.zero_add];exact c0
  ·rw [cell_of hgw,Nat.zero_add];exact c1
  ·obtain ⟨Y,h1,h2⟩:=hs
   exact h2 w' hw fun b hb=>hy b ⟨by have:=(h1 b hb).1.1;omega,(h1 b hb).1.2.1⟩
theorem Sat.strsO {wB w w':World} {v:Value} {l:List ByteArray} (h:StrsB w' (newB w w') v l):Sat wB w' (newB w w') (fun x=>StrsAt x v l) :=
 ⟨newB w w',fun _ hb=>⟨hb,hb.2⟩,fun w2 _ hy=>(h.move (X':=fun b=>b<w2.heap.size) fun b hb=>⟨hy b hb,get_lt hb.2 (hy b hb)⟩).at fun _ hb=>hb⟩
def OpPost (wB:World) (es:List (List ByteArray×Int)) (w:World) (e:Ending) (w':World):Prop :=
 Below w.heap.size w w'∧∃ A c,e=.returned (.slice A es.length c)∧Sat wB w' (newB w w') (fun x=>OrdAt x (.slice A es.length c) es)
set_option maxHeartbeats 8000000 in
set_option maxRecDepth 100000 in
theorem pord_any {Tb:World→Prop} (hSp:SplitSaid Tb) (hL:Lies Tb) (t:T) (es:List (List ByteArray×Int)) (k6:kindOf t=6) (hl:nK t=es.length) (h0:0<es.length) (hn:es.length≤100000) (hes:∀ i,(hi:i<es.length)→kindOf (elt t i)=3∧nOf (elt t i)=es[i].2∧(es[i].2=1∨es[i].2=-1)∧splitP (nam t i)=es[i].1∧pathOk (nam t i)=true∧(nam t i).size≤1000)
  (v:Value) (wB w:World) (ha:At wB 13 v t) (hk:okA t) (hb0:Below wB.heap.size wB w) (hT:Tb w):Calls Tryz.prog 126 #[v] w (OpPost wB es w):=by
 obtain ⟨iX,hiX,zX0,zX1,zX2⟩:=info_parts infoKy
 obtain ⟨g1,La,Ka,Lc,Kc,hg1,rfl,hfj,hel,hnm⟩:=ha.open
 have hnL:nL t=nK t:=(hk.names k6).symm
 have HKj:=hid hk
 have Hel:=hid hel.out
 have Hnm:=hid hnm.out
 have HT:Hid (∀ w':World,Below w.heap.size w w'→Tb w'):=fun w' hb=>hL w hT w w' hT hb
 have HEs:=hid hes
 have HG:Hid (∀ i,(hi:i<es.length)→es[i].2=1∨es[i].2=-1):=fun i hi=>(hes i hi).2.2.1
 have Hl:=hid hl
 have Hhn:=hid hn
 have hnk:nK t≤100000:=by omega
 have hnk0:0<nK t:=by omega
 have hnki:(0:Int)<(nK t:Int):=by omega
 have HPp:Hid (∀ (x:ByteArray) (w':World),x.size≤1000→pathOk x=true→Below w.heap.size w w'→Calls Tryz.prog 124 #[.string x] w' fun e w2=>Below w'.heap.size w' w2∧∃ v,e=.returned v∧StrsB w2 (newB w' w2) v (splitP x)):=fun x w' h1 h2 h3=>ppPath_any hSp x w' (by omega) h2 (HT.out _ h3)
 rw [k6,hnL]
 clear ha hk hel hnm hfj hT hL hes hl hn hg1 h0 hSp
 go_enter Tryz.func126,Tryz.ntmps126
 go_wp2_with fail
 refine (needP_any _).mono ?_
 rintro e w2 ⟨rfl,rfl⟩
 go_wp2_with fail
 go_loopg [3,20] (nK t) (fun g o i wr=>∃ (k:Nat) (xs:List Value),g=nK t - k∧k≤nK t∧i=.int .i64 k∧Hid (Below (w.heap.size+1) (w.alloc (.cells #[.int .i64 6,.int .i64 (nOf t),.string (sOf t),.slice La (nK t) Lc,.slice Ka (nK t) Kc] 36)) wr)∧Hid (Bld (KeyE wB) 2 221 (w.heap.size+1) o (es.take k) xs wr))
 case atStart=>exact ⟨0,[],rfl,Nat.zero_le _,rfl,Below.refl _ _,Bld.nil _ _ _ _ _⟩
 case round =>
  obtain ⟨k,xs,rfl,hk,rfl,HB,HL⟩:=hrel
  obtain ⟨q0,q1,q2,q3,q4,hz,hbw⟩:=box_facts HB.out
  have Hbr:=hid (hb0.trans (hbw.mono hb0.size))
  have Hbw:=hid hbw
  clear hbw
  by_cases hlt:k<nK t
  ·have hltL:k<nL t:=by omega
   have hlte:k<es.length:=by have:=Hl.out;omega
   obtain ⟨kb,ko,rfl,hkb,hks,hkc⟩:=Hnm.out.keep Hbr.out k hlt
   obtain ⟨bb,oo,A,B,C,D,rfl,hbl,p0,p1,p2,p3,p4,Ha⟩:=Hel.out.shape Hbr.out k hltL
   obtain ⟨e1,e2,e3,e4,e5,e6⟩:=HEs.out k hlte
   rw [e1] at p0
   rw [e2] at p1
   have HTk:Hid (es.take (k+1)=es.take k++[es[k]]):=by show _=_;rw [List.take_add_one,List.getElem?_eq_getElem hlte];rfl
   have hxl:(es.take k).length=k:=by rw [List.length_take];omega
   obtain ⟨ek,hek⟩:∃ ek,es[k]=ek:=⟨_,rfl⟩
   rw [hek] at HTk p1 e3 e4
   clear hek e1 e2
   obtain ⟨pk,dk⟩:=ek
   dsimp only at p1 e3 e4
   generalize elt t k=j at *
   generalize hxk:nam t k=xk at *
   clear hxk
   obtain ⟨OA,oc,ho⟩:=row_slice HL.out.row
   rw [hxl] at ho
   subst ho
   have HL0:=HL
   obtain ⟨W2,hW2⟩:∃ W2,wr.alloc (.cells #[.int .i64 3,.int .i64 dk,.string (sOf j),.slice A (nL j) B,.slice C (nK j) D] 36)=W2:=⟨_,rfl⟩
   have HBa:Hid (Below wr.heap.size wr W2):=by rw [← hW2];exact (Below.refl _ _).alloc (Nat.le_refl _) _
   have HY:=hid (box_new wr (.int .i64 3) (.int .i64 dk) (.string (sOf j)) (.slice A (nL j) B) (.slice C (nK j) D))
   rw [hW2] at HY
   have HC:=hid (HPp.out xk W2.drew e6 e5 ((Hbw.out.trans (HBa.out.mono Hbw.out.size)).drew))
   rw [e4] at HC
   have HRo:Hid (∀ w':World,Below wr.heap.size wr w'→w'.ownsRow (w.heap.size+1) 221 2 (.slice OA k oc) k xs):=fun w' hb=>by
    have:=(HL.out.keep (keyE_moves wB) hb).row
    rw [hxl] at this
    exact this
   have Hxl:=hid hxl
   have hlow:w.heap.size+1≤wr.heap.size:=by have:=HB.out.size;simp at this;omega
   have Hbd:Hid (wr.heap.size<W2.heap.size):=by rw [← hW2];show _<_;simp
   have e3':=hid e3
   clear e3 e4 e5 e6 Ha HL
   rcases e3'.out with rfl | rfl
   ·have HYs:Hid (∀ w':World,Below W2.heap.size W2 w'→w'.cell? ⟨wr.heap.size,1,none⟩=some (.int .i64 1)):=fun w' hb=>(HY.out.stay hb).q1
    have HBd:Hid (Below wr.heap.size wr W2.drew):=HBa.out.drew
    have y0:=HY.out.q0
    have y1:=HY.out.q1
    have y2:=HY.out.q2
    have y3:=HY.out.q3
    have y4:=HY.out.q4
    go_wp2_with fail
    refine (needP_any _).mono ?_
    rintro e W2 ⟨rfl,rfl⟩
    go_wp2_with fail
    go_region_law (first | (refine step_append_lies _ (by rfl) _ _ _ (by rfl) (w.heap.size+1) 221 iX _ 2 32 Tryz.underlying181 hiX zX0 zX1 zX2 rfl (by omega) (.slice OA k oc) k xs (by rfl) (HRo.out _ HBa4.out) ⟨w4.heap.size,0,none⟩ 1 1 [.slice PA pk.length pc,.int .i64 1] (by rfl) (by rfl) (World.news_of_block (cs:=#[.slice PA pk.length pc,.int .i64 1]) (t:=221) (fr:=(0,0)) (heap_alloc_new w4 _)) (by simp [Value.oneCell']) (by omega) (by unfold maxLen;omega) (by omega) hlo4 (w4.heap.size+1) (by simp) ?_;intro g cap w7 hown7 hgrow7 hat7 hlt7) | (go_simp;go_wp2_with (go_at_call 124;refine HC.out.mono ?_;rintro e w4 ⟨b4,pv,rfl,hst⟩;have Hs4:=hid (Sat.strsO (wB:=wB) hst);obtain ⟨PA,pc,hpv,hz1⟩:=hst;subst hpv;have hy4:=HYs.out _ ((below_drew W2).trans b4);have Hb4:=hid (HBd.out.trans (b4.mono HBd.out.size));have HBa4:=hid (Hb4.out.trans (((Below.refl _ _).alloc (Nat.le_refl _) (.cells #[.slice PA pk.length pc,.int .i64 1] 221)).mono Hb4.out.size));have hlo4:w.heap.size+1≤(w4.alloc (.cells #[.slice PA pk.length pc,.int .i64 1] 221)).heap.size:=(by have:=Hb4.out.size;simp;omega);clear b4 hz1)))
    all_goals
     have HBx:Hid (Below w4.heap.size w4 (w4.alloc (.cells #[.slice PA pk.length pc,.int .i64 1] 221))):=(Below.refl _ _).alloc (Nat.le_refl _) _
     have HL7:=hid (Bld.grow (x:=(pk,1)) (cs:=[.slice PA pk.length pc,.int .i64 1]) (v':=.slice (some ⟨g,0,none⟩) (k+1) cap) (keyE_moves wB) HL0.out HBa4.out rfl (keyE_moves wB _ _ _ _ _ _ ⟨_,rfl,Hs4.out⟩ (fun b hb=>⟨HBx.out.block b hb.2,hb⟩)) (fun b hb=>⟨Nat.le_trans HBd.out.size hb.1,Nat.lt_of_lt_of_le hb.2 HBx.out.size⟩) hlow (by rw [Hxl.out];exact hown7) hgrow7 (hat7.elim (fun h=>.inl h.symm) (fun h=>.inr (by rw [h];simp [Value.ownBlock]))))
     have HB7:=hid (below_grown (HB.out.trans (HBa4.out.mono hlow)) (HRo.out _ HBa4.out) (Nat.le_refl _) (by omega) hgrow7)
     rw [← HTk.out] at HL7
     clear hown7 hgrow7 hat7 hlt7 HC p0 p1 p2 p3 p4
     go_wp2_with fail
     go_roundg (nK t - (k+1))
     case rel=>exact ⟨k+1,_,rfl,by omega,by go_num,HB7,HL7⟩
     case measure=>omega
   ·have HYs:Hid (∀ w':World,Below W2.heap.size W2 w'→w'.cell? ⟨wr.heap.size,1,none⟩=some (.int .i64 (-1))):=fun w' hb=>(HY.out.stay hb).q1
    have HBd:Hid (Below wr.heap.size wr W2.drew):=HBa.out.drew
    have y0:=HY.out.q0
    have y1:=HY.out.q1
    have y2:=HY.out.q2
    have y3:=HY.out.q3
    have y4:=HY.out.q4
    go_wp2_with fail
    refine (needP_any _).mono ?_
    rintro e W2 ⟨rfl,rfl⟩
    go_wp2_with fail
    go_region_law (first | (refine step_append_lies _ (by rfl) _ _ _ (by rfl) (w.heap.size+1) 221 iX _ 2 32 Tryz.underlying181 hiX zX0 zX1 zX2 rfl (by omega) (.slice OA k oc) k xs (by rfl) (HRo.out _ HBa4.out) ⟨w4.heap.size,0,none⟩ 1 1 [.slice PA pk.length pc,.int .i64 (-1)] (by rfl) (by rfl) (World.news_of_block (cs:=#[.slice PA pk.length pc,.int .i64 (-1)]) (t:=221) (fr:=(0,0)) (heap_alloc_new w4 _)) (by simp [Value.oneCell']) (by omega) (by unfold maxLen;omega) (by omega) hlo4 (w4.heap.size+1) (by simp) ?_;intro g cap w7 hown7 hgrow7 hat7 hlt7) | (go_simp;go_wp2_with (go_at_call 124;refine HC.out.mono ?_;rintro e w4 ⟨b4,pv,rfl,hst⟩;have Hs4:=hid (Sat.strsO (wB:=wB) hst);obtain ⟨PA,pc,hpv,hz1⟩:=hst;subst hpv;have hy4:=HYs.out _ ((below_drew W2).trans b4);have Hb4:=hid (HBd.out.trans (b4.mono HBd.out.size));have HBa4:=hid (Hb4.out.trans (((Below.refl _ _).alloc (Nat.le_refl _) (.cells #[.slice PA pk.length pc,.int .i64 (-1)] 221)).mono Hb4.out.size));have hlo4:w.heap.size+1≤(w4.alloc (.cells #[.slice PA pk.length pc,.int .i64 (-1)] 221)).heap.size:=(by have:=Hb4.out.size;simp;omega);clear b4 hz1)))
    all_goals
     have HBx:Hid (Below w4.heap.size w4 (w4.alloc (.cells #[.slice PA pk.length pc,.int .i64 (-1)] 221))):=(Below.refl _ _).alloc (Nat.le_refl _) _
     have HL7:=hid (Bld.grow (x:=(pk,(-1))) (cs:=[.slice PA pk.length pc,.int .i64 (-1)]) (v':=.slice (some ⟨g,0,none⟩) (k+1) cap) (keyE_moves wB) HL0.out HBa4.out rfl (keyE_moves wB _ _ _ _ _ _ ⟨_,rfl,Hs4.out⟩ (fun b hb=>⟨HBx.out.block b hb.2,hb⟩)) (fun b hb=>⟨Nat.le_trans HBd.out.size hb.1,Nat.lt_of_lt_of_le hb.2 HBx.out.size⟩) hlow (by rw [Hxl.out];exact hown7) hgrow7 (hat7.elim (fun h=>.inl h.symm) (fun h=>.inr (by rw [h];simp [Value.ownBlock]))))
     have HB7:=hid (below_grown (HB.out.trans (HBa4.out.mono hlow)) (HRo.out _ HBa4.out) (Nat.le_refl _) (by omega) hgrow7)
     rw [← HTk.out] at HL7
     clear hown7 hgrow7 hat7 hlt7 HC p0 p1 p2 p3 p4
     go_wp2_with fail
     go_roundg (nK t - (k+1))
     case rel=>exact ⟨k+1,_,rfl,by omega,by go_num,HB7,HL7⟩
     case measure=>omega
  ·obtain rfl:k=nK t:=by omega
   rw [Hl.out,List.take_length] at HL
   obtain ⟨A,c,rfl,hs⟩:=bld_keys (w:=w) HL.out (by omega) Hhn.out HG.out
   have HS:=hid hs
   clear hs HL
   go_wp2_with fail
   go_ret
   exact ⟨Hbw.out,_,_,rfl,HS.out⟩
end Go.Proofs.YtknakfpciccoaabGreatDoor
/- The cells of values in a row, as a list; slices.Clone of them. -/
namespace Go.Proofs.YtknakfpciccoaabGreatDoor
open Go.RowKit
theorem elems_list {w:World} {f b o:Nat} {t:T} (h:ElemsAt w f (some ⟨b,o,none⟩) t):∀ n,n≤nL t→∃ zs:List Value,zs.length=n*5∧(∀ i,i<n→At w f (fv zs i) (elt t i))∧(∀ j u,zs[j]?=some u→w.cell? ⟨b,o+j,none⟩=some u)∧∀ u ∈ zs,u.oneCell'=true
 | 0,_=>⟨[],rfl,fun i hi=>absurd hi (Nat.not_lt_zero i),fun j u h=>by simp at h,fun u h=>by cases h⟩
 | n+1,hn=>by
  obtain ⟨zs,h1,h2,h3,h4⟩:=elems_list h n (by omega)
  obtain ⟨b',o',c0,c1,c2,c3,c4,e0,hbl,q0,q1,q2,q3,q4,ha⟩:=h n (by omega)
  simp only [Option.some.injEq,Addr.mk.injEq,and_true] at e0
  obtain ⟨rfl,rfl⟩:=e0
  obtain ⟨g1,La,Ka,Lc,Kc,_,hx,_,_,_⟩:=ha.open
  refine ⟨zs++[c0,c1,c2,c3,c4],by rw [List.length_append,h1];show n*5+5=_;omega,fun i hi=>?_,fun j u hu=>?_,fun u hu=>?_⟩
  ·by_cases e:i<n
   ·rw [fv_first h1 e];exact h2 i e
   ·obtain rfl:i=n:=by omega
    rw [fv_last h1];exact ha
  ·by_cases e:j<zs.length
   ·rw [List.getElem?_append_left e] at hu;exact h3 j u hu
   ·rw [List.getElem?_append_right (by omega),h1] at hu
    obtain ⟨r,rfl⟩:∃ r,j=n*5+r:=⟨j - n*5,by omega⟩
    rw [Nat.add_sub_cancel_left] at hu
    rw [← Nat.add_assoc]
    match r,hu with
    | 0,hu=>simp at hu;rw [← hu];exact q0
    | 1,hu=>simp at hu;rw [← hu];exact q1
    | 2,hu=>simp at hu;rw [← hu];exact q2
    | 3,hu=>simp at hu;rw [← hu];exact q3
    | 4,hu=>simp at hu;rw [← hu];exact q4
    | r+5,hu=>simp at hu
  ·rw [List.mem_append] at hu
   rcases hu with hu | hu
   ·exact h4 u hu
   ·simp only [Value.agg.injEq,Array.mk.injEq,List.cons.injEq,and_true] at hx
    obtain ⟨rfl,rfl,rfl,rfl,rfl⟩:=hx
    simp only [List.mem_cons,List.not_mem_nil,or_false] at hu
    rcases hu with rfl | rfl | rfl | rfl | rfl<;>rfl
set_option maxHeartbeats 8000000 in
set_option maxRecDepth 100000 in
theorem cloneV_any (f b o m c:Nat) (t:T) (w:World) (h:ElemsAt w f (some ⟨b,o,none⟩) t) (hm:nL t=m) (hn:m≤1000000) (hbw:b<w.heap.size) :
  Calls Tryz.prog 234 #[.slice (some ⟨b,o,none⟩) m c] w fun e w'=>Below w.heap.size w w'∧∃ v zs,e=.returned v∧w'.ownsRow w.heap.size 36 5 v m zs∧∀ i,i<m→At w f (fv zs i) (elt t i):=by
 obtain ⟨iV,hiV,zV0,zV1,zV2⟩:=info_parts infoV
 obtain ⟨zs,h1,h2,h3,h4⟩:=elems_list h (nL t) (Nat.le_refl _)
 rw [hm] at h1 h2
 have HB1:Hid (Below w.heap.size w (w.alloc (.cells #[] 36))):=(Below.refl _ _).alloc (Nat.le_refl _) _
 have HO:Hid ((w.alloc (.cells #[] 36)).ownsRow w.heap.size 36 5 (.slice (some ⟨w.heap.size,0,none⟩) 0 0) 0 []):=by
  have:=World.ownsRow_lit (base:=w.heap.size) (e:=36) (size:=5) w #[] 0 (Nat.le_refl _) (by unfold maxLen;omega) rfl
  have h5:(w.alloc (.cells #[] 36)).ownsRow w.heap.size 36 5 (.slice (some ⟨w.heap.size,0,none⟩) 0 0) 0 []:=by simpa using this
  exact h5
 have HS:Hid (Src Tryz.prog 5 34 (.slice (some ⟨b,o,none⟩) m c) m zs (w.alloc (.cells #[] 36))):=Src.ofSlice _ Tryz.underlying34 ⟨b,o,none⟩ m c zs h1 (fun j u hu=>by rw [show (⟨b,o,none⟩:Addr).add j=⟨b,o+j,none⟩ by unfold Addr.add;by_cases e:j=0<;>simp [e]];exact (HB1.out.cell (p:=⟨b,o+j,none⟩) hbw).trans (h3 j u hu)) h4
 have Hz:=hid (And.intro h1 h2)
 clear h h1 h2 h3 h4 hm
 have heq:(binOp .eql 34 (.slice (some ⟨b,o,none⟩) m c) (.slice none 0 0)).run Tryz.prog w=.ok (.bool false) w:=by kernel_rfl
 go_enter Tryz.func234,Tryz.ntmps234
 go_wp2_with (at_builtin;refine wpList_append_src _ rfl (.tmp 5) (.tmp 6) 34 34 rfl w.heap.size 36 iV _ 5 80 Tryz.underlying34 hiV zV0 zV1 zV2 rfl (.slice (some ⟨w.heap.size,0,none⟩) 0 0) 0 [] rfl HO.out (.slice (some ⟨b,o,none⟩) m c) m zs rfl HS.out (by unfold maxLen;omega) (by omega) (by simp) ?_;intro v' w6 hO6 hG6 hat6)
 have H6:=hid hO6
 have HB6:=hid (below_grown HB1.out HO.out (Nat.le_refl _) (by simp) hG6)
 clear hO6 hG6 hat6
 go_wp2_with fail
 go_ret
 rw [Nat.zero_add,List.nil_append] at H6
 exact ⟨HB6.out,v',zs,rfl,H6.out,Hz.out.2⟩
end Go.Proofs.YtknakfpciccoaabGreatDoor
/- Rows of values that are written over in place; clear. -/
namespace Go.Proofs.YtknakfpciccoaabGreatDoor
open Go.RowKit
theorem cx_set (xs:List Value) (a b:Nat) (u:Value):cx (xs.set a u) b=if a=b∧a<xs.length then u else cx xs b:=by
 unfold cx
 rw [List.getElem?_set]
 by_cases h:a=b
 ·subst h
  by_cases h2:a<xs.length
  ·simp [h2]
  ·simp [h2]
 ·simp [h]
def setV (xs:List Value) (i:Nat) (u0 u1 u2 u3 u4:Value):List Value:=((((xs.set (i*5) u0).set (i*5+1) u1).set (i*5+2) u2).set (i*5+3) u3).set (i*5+4) u4
theorem setV_len (xs:List Value) (i:Nat) (u0 u1 u2 u3 u4:Value):(setV xs i u0 u1 u2 u3 u4).length=xs.length:=by simp [setV]
theorem fv_setV_same {xs:List Value} {i:Nat} (h:i*5+5≤xs.length) (u0 u1 u2 u3 u4:Value):fv (setV xs i u0 u1 u2 u3 u4) i=.agg #[u0,u1,u2,u3,u4]:=by
 have n (ys:List Value) (a b:Nat) (u:Value) (hab:a≠b):cx (ys.set a u) b=cx ys b:=by rw [cx_set,if_neg (fun e=>hab e.1)]
 have y (ys:List Value) (a:Nat) (u:Value) (ha:a<ys.length):cx (ys.set a u) a=u:=by rw [cx_set,if_pos ⟨rfl,ha⟩]
 have e0:cx (setV xs i u0 u1 u2 u3 u4) (i*5)=u0:=by unfold setV;rw [n _ _ _ _ (by omega),n _ _ _ _ (by omega),n _ _ _ _ (by omega),n _ _ _ _ (by omega),y _ _ _ (by omega)]
 have e1:cx (setV xs i u0 u1 u2 u3 u4) (i*5+1)=u1:=by unfold setV;rw [n _ _ _ _ (by omega),n _ _ _ _ (by omega),n _ _ _ _ (by omega),y _ _ _ (by simp only [List.length_set];omega)]
 have e2:cx (setV xs i u0 u1 u2 u3 u4) (i*5+2)=u2:=by unfold setV;rw [n _ _ _ _ (by omega),n _ _ _ _ (by omega),y _ _ _ (by simp only [List.length_set];omega)]
 have e3:cx (setV xs i u0 u1 u2 u3 u4) (i*5+3)=u3:=by unfold setV;rw [n _ _ _ _ (by omega),y _ _ _ (by simp only [List.length_set];omega)]
 have e4:cx (setV xs i u0 u1 u2 u3 u4) (i*5+4)=u4:=by unfold setV;rw [y _ _ _ (by simp only [List.length_set];omega)]
 unfold fv
 rw [e0,e1,e2,e3,e4]
theorem cx_setV_other {xs:List Value} {i j:Nat} (h:j<i*5∨i*5+5≤j) (u0 u1 u2 u3 u4:Value):cx (setV xs i u0 u1 u2 u3 u4) j=cx xs j:=by
 unfold setV
 simp only [cx_set,List.length_set]
 rw [if_neg (by omega),if_neg (by omega),if_neg (by omega),if_neg (by omega),if_neg (by omega)]
theorem fv_setV_other {xs:List Value} {i k:Nat} (h:k≠i) (u0 u1 u2 u3 u4:Value):fv (setV xs i u0 u1 u2 u3 u4) k=fv xs k:=by
 unfold fv
 have a (j:Nat) (hj:j<i*5∨i*5+5≤j):cx (setV xs i u0 u1 u2 u3 u4) j=cx xs j:=cx_setV_other hj u0 u1 u2 u3 u4
 rw [a _ (by omega),a _ (by omega),a _ (by omega),a _ (by omega),a _ (by omega)]
theorem grown_trans {w w1 w2:World} {g:Option Nat} (h:w.grownBy w1 g) (k:w1.grownBy w2 g):w.grownBy w2 g :=
 ⟨k.os.trans h.os,k.tape.trans h.tape,k.output.trans h.output,Nat.le_trans h.size k.size,fun b hb hne=>(k.block b (Nat.lt_of_lt_of_le hb h.size) hne).trans (h.block b hb hne)⟩
theorem row_setV {w:World} {base g n cap:Nat} {e:TypeId} {xs:List Value} (h:w.ownsRow base e 5 (.slice (some ⟨g,0,none⟩) n cap) n xs) (i:Nat) (u0 u1 u2 u3 u4:Value) :
  (put5o w g (i*5) u0 u1 u2 u3 u4).ownsRow base e 5 (.slice (some ⟨g,0,none⟩) n cap) n (setV xs i u0 u1 u2 u3 u4)∧w.grownBy (put5o w g (i*5) u0 u1 u2 u3 u4) (some g):=by
 have h0:=h.stored (i*5) u0
 have h1:=h0.1.stored (i*5+1) u1
 have h2:=h1.1.stored (i*5+2) u2
 have h3:=h2.1.stored (i*5+3) u3
 have h4:=h3.1.stored (i*5+4) u4
 exact ⟨h4.1,grown_trans (grown_trans (grown_trans (grown_trans h0.2 h1.2) h2.2) h3.2) h4.2⟩
end Go.Proofs.YtknakfpciccoaabGreatDoor
/- The walk of Put, for a path of one step. -/
namespace Go.Proofs.YtknakfpciccoaabGreatDoor
open Go.RowKit
theorem row_at {w w':World} {base g n cap:Nat} {e:TypeId} {s:Nat} {xs:List Value} (h:w.ownsRow base e s (.slice (some ⟨g,0,none⟩) n cap) n xs) (hg:w'.heap[g]?=w.heap[g]?):w'.ownsRow base e s (.slice (some ⟨g,0,none⟩) n cap) n xs:=by
 refine ⟨h.1,?_⟩
 rcases h.2 with ⟨h1,_⟩ | ⟨g',cap',cur,h1,h2,h3,h4⟩
 ·cases h1
 ·cases h1
  exact .inr ⟨g,cap,cur,rfl,h2,hg.trans h3,h4⟩
theorem row_free {w:World} {base g n cap:Nat} {e:TypeId} {s:Nat} {xs:List Value} (h:w.ownsRow base e s (.slice (some ⟨g,0,none⟩) n cap) n xs) (j:Nat):w.frozen? ⟨g,j,none⟩=false:=by
 rcases h.2 with ⟨h1,_⟩ | ⟨g',cap',cur,h1,h2,h3,h4⟩
 ·cases h1
 ·cases h1
  exact frozen_of_row _ g j _ _ h3
theorem row_cellsP {w:World} {lo g n cap:Nat} {xs:List Value} (h:w.ownsRow lo 36 5 (.slice (some ⟨g,0,none⟩) n cap) n xs) {k:Nat} (hk:k<n) {u0 u1 u2 u3 u4:Value} (hf:fv xs k=.agg #[u0,u1,u2,u3,u4]) :
  w.cell? ⟨g,k*5,none⟩=some u0∧w.cell? ⟨g,k*5+1,none⟩=some u1∧w.cell? ⟨g,k*5+2,none⟩=some u2∧w.cell? ⟨g,k*5+3,none⟩=some u3∧w.cell? ⟨g,k*5+4,none⟩=some u4:=by
 have hx:xs.length=n*5:=h.1
 unfold fv at hf
 simp only [Value.agg.injEq,Array.mk.injEq,List.cons.injEq,and_true] at hf
 have hc:∀ r,r<5→w.cell? ⟨g,k*5+r,none⟩=some (cx xs (k*5+r)):=fun r hr'=>row_cell h (cx_some (by omega))
 refine ⟨?_,?_,?_,?_,?_⟩
 ·rw [← hf.1];exact hc 0 (by omega)
 ·rw [← hf.2.1];exact hc 1 (by omega)
 ·rw [← hf.2.2.1];exact hc 2 (by omega)
 ·rw [← hf.2.2.2.1];exact hc 3 (by omega)
 ·rw [← hf.2.2.2.2];exact hc 4 (by omega)
theorem set_low {w W:World} (h:Below w.heap.size w W) {b:Nat} (hb:w.heap.size≤b) (o:Nat) (u:Value):Below w.heap.size w (W.setCell ⟨b,o,none⟩ u):=by
 obtain ⟨t1,t2,t3,t4⟩:=setC_rest W ⟨b,o,none⟩ u
 exact ⟨t2.trans h.os,t3.trans h.tape,t4.trans h.output,by rw [t1];exact h.size,fun k hk=>(Below.heap_setCell _ _ _ _ (by simp;omega)).trans (h.block k hk)⟩
theorem set_size (W:World) (a:Addr) (u:Value):(W.setCell a u).heap.size=W.heap.size:=(setC_rest W a u).1
end Go.Proofs.YtknakfpciccoaabGreatDoor
