import Derived.Test.YtknakfpciccoaabGreatDoorZL38
import Derived.Test.YtknakfpciccoaabGreatDoorZL16
import Derived.Test.YtknakfpciccoaabGreatDoorZL37
/- $size: the walk of a length; it is read. -/
set_option maxHeartbeats 8000000
set_option maxRecDepth 100000
namespace Go.Proofs.YtknakfpciccoaabGreatDoor
open Go.RowKit
structure LnB (b:Nat) (kd:Int) (lv d0 d1 d2 d3 d4:Value) (w:World):Prop where
 c0:w.cell? ⟨b,0,none⟩=some (.int .i64 kd)
 c1:w.cell? ⟨b,1,none⟩=some lv
 lt:b<w.heap.size
 box:aH (b+1) d0 d1 d2 d3 d4 w
 res:aH (b+2) (.int .i64 0) (.int .i64 0) (.string ⟨#[]⟩) (.slice none 0 0) (.slice none 0 0) w
theorem LnB.stay {b:Nat} {kd:Int} {lv d0 d1 d2 d3 d4:Value} {w w':World} (h:LnB b kd lv d0 d1 d2 d3 d4 w) (hb:Below w.heap.size w w'):LnB b kd lv d0 d1 d2 d3 d4 w' :=
 ⟨(hb.cell (p:=⟨b,0,none⟩) h.lt).trans h.c0,(hb.cell (p:=⟨b,1,none⟩) h.lt).trans h.c1,Nat.lt_of_lt_of_le h.lt hb.size,h.box.stay hb,h.res.stay hb⟩
theorem LnB.new (w:World) (kd:Int) (lv d0 d1 d2 d3 d4:Value):LnB w.heap.size kd lv d0 d1 d2 d3 d4 (((w.alloc (.cells #[.int .i64 kd,lv] 276)).alloc (.cells #[d0,d1,d2,d3,d4] 36)).alloc (.cells #[.int .i64 0,.int .i64 0,.string ⟨#[]⟩,.slice none 0 0,.slice none 0 0] 36)):=by
 have hb2:=aJ (w.alloc (.cells #[.int .i64 kd,lv] 276)) d0 d1 d2 d3 d4;have hb3:=aJ ((w.alloc (.cells #[.int .i64 kd,lv] 276)).alloc (.cells #[d0,d1,d2,d3,d4] 36)) (.int .i64 0) (.int .i64 0) (.string ⟨#[]⟩) (.slice none 0 0) (.slice none 0 0);have hk:Below ((w.alloc (.cells #[.int .i64 kd,lv] 276)).alloc (.cells #[d0,d1,d2,d3,d4] 36)).heap.size ((w.alloc (.cells #[.int .i64 kd,lv] 276)).alloc (.cells #[d0,d1,d2,d3,d4] 36)) (((w.alloc (.cells #[.int .i64 kd,lv] 276)).alloc (.cells #[d0,d1,d2,d3,d4] 36)).alloc (.cells #[.int .i64 0,.int .i64 0,.string ⟨#[]⟩,.slice none 0 0,.slice none 0 0] 36)):=aQ _ _;refine ⟨by simp [go_sem],by simp [go_sem],by simp;omega,?_,?_⟩
 ·have:=hb2.stay hk;simpa using this
 ·simpa using hb3
def Qq (gs:List (T->Int⊕T)) (d:T):Int⊕T:=match mI gs d with
 | .inl x=>.inl x
 | .inr l=>if l.any (vL 5)=true then .inl 13 else .inr (nT (nL (l.getD 0 aL)))
theorem OI {Tb:World->Prop} (hL:aS Tb) (lv:Value) (gs:List (T->Int⊕T)) (h1:gs.length=1) (x:Value) (doc:T) (w0 w:World) (hb0:Below w0.heap.size w0 w) (hl:eY Tb w0 lv gs) (h:At w0 13 x doc) (hok:bM doc) (hT:Tb w) :
  Calls Tryz.prog 280 #[.agg #[.int .i64 5,lv],x] w (jr w0 (Qq gs) doc w):=by
 obtain ⟨g1,La,Ka,Lc,Kc,hg1,hx,_,_,_⟩:=h.open;have hl2:=hl;obtain ⟨EA,ec,hlv,hn,_⟩:=hl2;obtain ⟨W3,hW3⟩:∃ W,((w.alloc (.cells #[.int .i64 5,.slice EA gs.length ec] 276)).alloc (vC doc La Lc Ka Kc)).alloc (.cells #[.int .i64 0,.int .i64 0,.string ⟨#[]⟩,.slice none 0 0,.slice none 0 0] 36)=W:=⟨_,rfl⟩;have HB1:Hid (Below w.heap.size w W3):=by rw [<- hW3];exact ((aQ _ _).alloc (by simp) _).alloc (by simp;omega) _
 have HX:=aj (LnB.new w 5 (.slice EA gs.length ec) (.int .i64 (ah doc)) (.int .i64 (au doc)) (.string (ay doc)) (.slice La (nL doc) Lc) (.slice Ka (nK doc) Kc));rw [hW3] at HX;have Hb0:=aj (hb0.trans (HB1.out.mono hb0.size));have HC:=aj (vM hL 5 lv gs x doc w0 W3 Hb0.out hl h hok (hL w hT w W3 hT HB1.out));have Hn:=aj hn;subst hlv;subst hx;clear h hok hT hg1 hb0 hl hn hL;have H1:=aj h1;rw [h1] at HX hW3 HC ⊢;clear h1;have c0:=HX.out.c0;have c1:=HX.out.c1;have qM:=aj HX.out.box;have y0:=qM.out.q0;have y1:=qM.out.q1;have y2:=qM.out.q2;have y3:=qM.out.q3;have y4:=qM.out.q4;go_in;go_wp2_with fail;refine HC.out.mono ?_;rintro e w3 ⟨b3,hp⟩;have HB3:=aj (HB1.out.trans (b3.mono HB1.out.size));have dP:=aj (HX.out.stay b3);have gQ:=aj (Hb0.out.trans (b3.mono Hb0.out.size));clear b3 HC c0 c1 HX qM hW3 HB1;clear y0 y1 y2 y3 y4;rcases hp with ⟨er,he,hne,rfl⟩ | ⟨l,he,hany,rfl⟩ | ⟨l,v,xs,he,hany,hlen,rfl,hv⟩
 ·have HK:Hid (Qq gs doc=.inl er/\er≠0):=⟨by unfold Qq;rw [he],hne⟩;have hnb:(er != 0)=true:=by simpa using hne
  clear he hne;have bf:=aj dP.out.res;have HO:=aj (bf.out.bG (.int .i64 0) (.int .i64 0) (.string ⟨#[]⟩) (.slice none 0 0) (.slice none 0 0));have dF:=aj (aU HB3.out (b:=w.heap.size+2) (by omega) (by have:=bf.out.lt;omega) (.int .i64 0) (.int .i64 0) (.string ⟨#[]⟩) (.slice none 0 0) (.slice none 0 0));unfold bG at HO dF;have r0:=bf.out.q0;have r1:=bf.out.q1;have r2:=bf.out.q2;have r3:=bf.out.q3;have r4:=bf.out.q4;have z0:=bf.out.f0;have z1:=bf.out.f1;have z2:=bf.out.f2;have z3:=bf.out.f3;have z4:=bf.out.f4;go_wp2_with fail;clear r0 r1 r2 r3 r4 z0 z1 z2 z3 z4;have bq:=aj HO.out;have r0:=bq.out.q0;have r1:=bq.out.q1;have r2:=bq.out.q2;have r3:=bq.out.q3;have r4:=bq.out.q4;refine bodyPost_ret (v:=.tuple #[.agg #[.int .i64 0,.int .i64 0,.string ⟨#[]⟩,.slice none 0 0,.slice none 0 0],.int .i64 er]) (by simp [results,Tryz.results280,go_sem, *]) rfl ?_;exact ⟨dF.out,.inl ⟨er,HK.out.1,HK.out.2,rfl⟩⟩
 ·have HK:Hid (Qq gs doc=.inl 13):=by show _=_;unfold Qq;rw [he];dsimp only;rw [if_pos hany]
  clear he hany;have bf:=aj dP.out.res;have HO:=aj (bf.out.bG (.int .i64 0) (.int .i64 0) (.string ⟨#[]⟩) (.slice none 0 0) (.slice none 0 0));have dF:=aj (aU HB3.out (b:=w.heap.size+2) (by omega) (by have:=bf.out.lt;omega) (.int .i64 0) (.int .i64 0) (.string ⟨#[]⟩) (.slice none 0 0) (.slice none 0 0));unfold bG at HO dF;have r0:=bf.out.q0;have r1:=bf.out.q1;have r2:=bf.out.q2;have r3:=bf.out.q3;have r4:=bf.out.q4;have z0:=bf.out.f0;have z1:=bf.out.f1;have z2:=bf.out.f2;have z3:=bf.out.f3;have z4:=bf.out.f4;go_wp2_with fail;clear r0 r1 r2 r3 r4 z0 z1 z2 z3 z4;have bq:=aj HO.out;have r0:=bq.out.q0;have r1:=bq.out.q1;have r2:=bq.out.q2;have r3:=bq.out.q3;have r4:=bq.out.q4;refine bodyPost_ret (v:=.tuple #[.agg #[.int .i64 0,.int .i64 0,.string ⟨#[]⟩,.slice none 0 0,.slice none 0 0],.int .i64 13]) (by simp [results,Tryz.results280,go_sem, *]) rfl ?_;exact ⟨dF.out,.inl ⟨13,HK.out,by decide,rfl⟩⟩
 ·obtain ⟨l0,rfl⟩:∃ l0,l=[l0]:=List.length_eq_one_iff.mp (by rw [hlen,H1.out]);have hd:=hv.docs gQ.out (by simp);obtain ⟨A,c,rfl⟩:=gY hv.row;obtain ⟨La',Lc',hv',_,_,_,hel,hok⟩:=hd;simp only [Value.slice.injEq,true_and] at hv';obtain ⟨rfl,rfl⟩:=hv'
  obtain ⟨b,o,rfl⟩:∃ b o,A=some ⟨b,o,none⟩:=by
   obtain ⟨b,o,_,_,_,_,_,h0,_⟩:=hel 0 (by rw [aI];simp);exact ⟨b,o,h0⟩
  obtain ⟨A0,B0,C0,D0,hc,_⟩:=sK hel (i:=0) (by rw [aI];simp) (dD [l0] (by simp)) (Nat.le_refl _);obtain ⟨u0,u1,u2,u3,u4⟩:=hc w3 (Below.refl _ _);simp only [Nat.zero_mul,Nat.add_zero,List.getElem_cons_zero] at u0 u1 u2 u3 u4;have hsm:nL l0<=1048576:=(hok 0 (by simp)).small.2;have HK:Hid (Qq gs doc=.inr (nT (nL l0))):=by show _=_;unfold Qq;rw [he];dsimp only;rw [if_neg (by rw [hany];decide)];rfl
  have lK:Hid (At w0 13 (.agg #[.int .i64 3,.int .i64 (nL l0),.string ⟨#[]⟩,.slice none 0 0,.slice none 0 0]) (nT (nL l0))/\bM (nT (nL l0))):=⟨Od w0 ⟨by omega,by omega⟩,Ib _⟩;generalize nL l0=m at *;have bf:=aj dP.out.res;have HO:=aj (bf.out.bG (.int .i64 3) (.int .i64 m) (.string ⟨#[]⟩) (.slice none 0 0) (.slice none 0 0));have dF:=aj (aU HB3.out (b:=w.heap.size+2) (by omega) (by have:=bf.out.lt;omega) (.int .i64 3) (.int .i64 m) (.string ⟨#[]⟩) (.slice none 0 0) (.slice none 0 0));unfold bG at HO dF;clear he hany hlen hv hel hok hc;have r0:=bf.out.q0;have r1:=bf.out.q1;have r2:=bf.out.q2;have r3:=bf.out.q3;have r4:=bf.out.q4;have z0:=bf.out.f0;have z1:=bf.out.f1;have z2:=bf.out.f2;have z3:=bf.out.f3;have z4:=bf.out.f4;go_wp2_with fail;clear r0 r1 r2 r3 r4 z0 z1 z2 z3 z4;have bq:=aj HO.out;have r0:=bq.out.q0;have r1:=bq.out.q1;have r2:=bq.out.q2;have r3:=bq.out.q3;have r4:=bq.out.q4;refine bodyPost_ret (v:=.tuple #[.agg #[.int .i64 3,.int .i64 m,.string ⟨#[]⟩,.slice none 0 0,.slice none 0 0],.int .i64 0]) (by simp [results,Tryz.results280,go_sem, *]) rfl ?_;exact ⟨dF.out,.inr ⟨nT m,none,0,none,0,HK.out,rfl,lK.out.1,lK.out.2⟩⟩
theorem Lr (p:Value) (w:World):(method 419 276 p "Of").run Tryz.prog w=.ok (280,p) w:=by kernel_rfl
theorem S9 {Tb:World->Prop} (hL:aS Tb) {w:World} {lv:Value} {gs:List (T->Int⊕T)} (h1:gs.length=1) (hl:eY Tb w lv gs):bL Tb w (.iface 276 (.agg #[.int .i64 5,lv])) (Qq gs) :=
 ⟨_,_,_,rfl,Lr _,fun _ _=>rfl,fun w0 wr x doc hb hb0 ha hk hT=>OI hL lv gs h1 x doc w0 wr hb0 (hl.keep hb) ha hk hT⟩
theorem XR {Tb:World->Prop} {w:World} {b:Nat} {ty:TypeId} {p:Value} {g:T->Int⊕T} (hb:b<w.heap.size) (hc:w.cell? ⟨b,0,none⟩=some (.iface ty p)) (h:bL Tb w (.iface ty p) g):eY Tb w (.slice (some ⟨b,0,none⟩) 1 1) [g]:=by
 refine ⟨_,1,rfl,by simp,fun i hi=>?_⟩;obtain rfl:i=0:=by simp at hi;omega
 exact ⟨b,0,.iface ty p,rfl,hb,hc,h⟩
theorem XT {Tb:World->Prop} (hL:aS Tb) (j:T) (g:T->Int⊕T) (h:dH Tb j g) (v:Value) (wB w:World) (ha:At wB 13 v j) (hk:bM j) (hb0:Below wB.heap.size wB w) (hT:Tb w):Calls Tryz.prog 188 #[.string jl,v] w (fT Tb wB (Qq [g]) w):=by
 obtain ⟨g1,La,Ka,Lc,Kc,hg1,hv,_,_,_⟩:=ha.open;have HB1:=aj (aQ w (vC j La Lc Ka Kc));have HC:=aj (h v wB _ ha hk (hb0.trans (HB1.out.mono hb0.size)) (hL w hT _ _ hT HB1.out));have IB:Hid (∀ (lv:Value) (x:World),eY Tb x lv [g]->bL Tb x (.iface 276 (.agg #[.int .i64 5,lv])) (Qq [g])):=fun lv x hl=>S9 hL rfl hl;subst hv;clear ha hk hb0 hT hL hg1 h;unfold jl at *;go_in;go_wp2_with fail;refine HC.out.mono ?_;rintro e w3 ⟨b3,ty,p,rfl,hs⟩;have HB3:=aj (HB1.out.trans (b3.mono HB1.out.size));have bT:=aj (aQ w3 (.cells #[.iface ty p] 175));have dF:=aj (HB3.out.trans (bT.out.mono HB3.out.size))
 have HS:Hid (gB wB (w3.alloc (.cells #[.iface ty p] 175)) (aT w (w3.alloc (.cells #[.iface ty p] 175))) (fun x=>bL Tb x (.iface 276 (.agg #[.int .i64 5,.slice (some ⟨w3.heap.size,0,none⟩) 1 1])) (Qq [g]))):=by
  have hs2:=(hs.later (wa:=w) (Below.refl _ _) (by simp)).later (wa:=w) bT.out (Nat.le_refl _);obtain ⟨Y,hY1,hY2⟩:=hs2;refine ⟨fun b=>Y b\/b=w3.heap.size,fun b hb=>?_,fun w' hw hy=>?_⟩
  ·rcases hb with hb | rfl
   ·exact hY1 b hb
   ·exact ⟨⟨HB3.out.size,by simp⟩,by simp⟩
  ·refine IB.out _ w' (XR ?_ ?_ (hY2 w' hw fun b hb=>hy b (.inl hb)))
   ·exact lU (w:=w3.alloc (.cells #[.iface ty p] 175)) (by simp) (hy _ (.inr rfl))
   ·rw [aC (hy w3.heap.size (.inr rfl))];simp [go_sem]
 clear b3 hs HC;go_wp2_with fail;go_ret;exact ⟨dF.out,_,_,rfl,HS.out⟩
structure JnB (b:Nat) (kd:Int) (lv d0 d1 d2 d3 d4:Value) (w:World):Prop where
 c0:w.cell? ⟨b,0,none⟩=some (.int .i64 kd)
 c1:w.cell? ⟨b,1,none⟩=some lv
 lt:b<w.heap.size
 box:aH (b+1) d0 d1 d2 d3 d4 w
 res:aH (b+2) (.int .i64 0) (.int .i64 0) (.string ⟨#[]⟩) (.slice none 0 0) (.slice none 0 0) w
theorem JnB.stay {b:Nat} {kd:Int} {lv d0 d1 d2 d3 d4:Value} {w w':World} (h:JnB b kd lv d0 d1 d2 d3 d4 w) (hb:Below w.heap.size w w'):JnB b kd lv d0 d1 d2 d3 d4 w' :=
 ⟨(hb.cell (p:=⟨b,0,none⟩) h.lt).trans h.c0,(hb.cell (p:=⟨b,1,none⟩) h.lt).trans h.c1,Nat.lt_of_lt_of_le h.lt hb.size,h.box.stay hb,h.res.stay hb⟩
theorem JnB.new (w:World) (kd:Int) (lv d0 d1 d2 d3 d4:Value):JnB w.heap.size kd lv d0 d1 d2 d3 d4 (((w.alloc (.cells #[.int .i64 kd,lv] 275)).alloc (.cells #[d0,d1,d2,d3,d4] 36)).alloc (.cells #[.int .i64 0,.int .i64 0,.string ⟨#[]⟩,.slice none 0 0,.slice none 0 0] 36)):=by
 have hb2:=aJ (w.alloc (.cells #[.int .i64 kd,lv] 275)) d0 d1 d2 d3 d4;have hb3:=aJ ((w.alloc (.cells #[.int .i64 kd,lv] 275)).alloc (.cells #[d0,d1,d2,d3,d4] 36)) (.int .i64 0) (.int .i64 0) (.string ⟨#[]⟩) (.slice none 0 0) (.slice none 0 0);have hk:Below ((w.alloc (.cells #[.int .i64 kd,lv] 275)).alloc (.cells #[d0,d1,d2,d3,d4] 36)).heap.size ((w.alloc (.cells #[.int .i64 kd,lv] 275)).alloc (.cells #[d0,d1,d2,d3,d4] 36)) (((w.alloc (.cells #[.int .i64 kd,lv] 275)).alloc (.cells #[d0,d1,d2,d3,d4] 36)).alloc (.cells #[.int .i64 0,.int .i64 0,.string ⟨#[]⟩,.slice none 0 0,.slice none 0 0] 36)):=aQ _ _;refine ⟨by simp [go_sem],by simp [go_sem],by simp;omega,?_,?_⟩
 ·have:=hb2.stay hk;simpa using this
 ·simpa using hb3
def OJ (s:ByteArray):T:=cK 4 0 s
def Qr (gs:List (T->Int⊕T)) (d:T):Int⊕T:=match mI gs d with
 | .inl x=>.inl x
 | .inr l=>if l.any (vL 4)=true then .inl 13 else .inr (OJ (ay (l.getD 0 aL)))
theorem OL (b:Nat) (s:ByteArray) (w:World) (h:tK b b [] w w) (hl:s.size<=140737488355328) :
  Calls Tryz.prog 95 #[.pointer (some ⟨b,0,none⟩),.string s] w fun e w'=>e=.returned (.tuple #[.int .i64 s.size,.nilIface])/\tK b b s.data.toList w w':=by
 refine (Any.Builder_WriteString_k Tryz.laysWriteString Tryz.extraWriteString b b (Lib.byteCells []) s w h.Iy (by rw [Lib.byteCells_length];simpa using hl) h.lo').mono ?_;rintro e w' ⟨rfl,h1,b1,o1⟩;refine ⟨rfl,⟨Or.inr ?_,b1,o1,h.lo'⟩⟩;have e1:s.data.toList=[]++s.data.toList:=rfl;rw [e1,Lib.byteCells_append];exact h1
theorem XU {t:T} (h:nL t=0) (k:nK t=0):bM t:=by
 refine ⟨fun f=>?_,fun f=>?_⟩
 ·cases f with
  | zero=>trivial
  | succ f=>exact ⟨fun _=>by rw [h,k],fun i hi=>by rw [h] at hi;omega⟩
 ·cases f with
  | zero=>trivial
  | succ f=>exact ⟨by rw [k];omega,by rw [h];omega,fun i hi=>by rw [k] at hi;omega,fun i hi=>by rw [h] at hi;omega⟩
theorem adF (w:World) {s:ByteArray} (h:s.size<=140737488355328):At w 13 (.agg #[.int .i64 4,.int .i64 0,.string s,.slice none 0 0,.slice none 0 0]) (OJ s):=by
 have h1:At w 1 (.agg #[.int .i64 4,.int .i64 0,.string s,.slice none 0 0,.slice none 0 0]) (OJ s):=by
  refine ⟨none,none,0,0,rfl,⟨by show -9223372036854775808<=(4:Int);omega,by show (4:Int)<=9223372036854775807;omega,by show -9223372036854775808<=(0:Int);omega,by show (0:Int)<=9223372036854775807;omega,h,?_,?_⟩,fun i hi=>absurd hi (Nat.not_lt_zero i),fun i hi=>absurd hi (Nat.not_lt_zero i)⟩
  ·show (0:Nat)<=_;omega
  ·show (0:Nat)<=_;omega
 exact h1.up (by omega)
theorem OM {Tb:World->Prop} (hL:aS Tb) (lv:Value) (gs:List (T->Int⊕T)) (h1:gs.length=1) (x:Value) (doc:T) (w0 w:World) (hb0:Below w0.heap.size w0 w) (hl:eY Tb w0 lv gs) (h:At w0 13 x doc) (hok:bM doc) (hT:Tb w) :
  Calls Tryz.prog 279 #[.agg #[.int .i64 4,lv],x] w (jr w0 (Qr gs) doc w):=by
 obtain ⟨g1,La,Ka,Lc,Kc,hg1,hx,_,_,_⟩:=h.open;have hl2:=hl;obtain ⟨EA,ec,hlv,hn,_⟩:=hl2;obtain ⟨W3,hW3⟩:∃ W,((w.alloc (.cells #[.int .i64 4,.slice EA gs.length ec] 275)).alloc (vC doc La Lc Ka Kc)).alloc (.cells #[.int .i64 0,.int .i64 0,.string ⟨#[]⟩,.slice none 0 0,.slice none 0 0] 36)=W:=⟨_,rfl⟩;have HB1:Hid (Below w.heap.size w W3):=by rw [<- hW3];exact ((aQ _ _).alloc (by simp) _).alloc (by simp;omega) _
 have HX:=aj (JnB.new w 4 (.slice EA gs.length ec) (.int .i64 (ah doc)) (.int .i64 (au doc)) (.string (ay doc)) (.slice La (nL doc) Lc) (.slice Ka (nK doc) Kc));rw [hW3] at HX;have Hb0:=aj (hb0.trans (HB1.out.mono hb0.size));have HC:=aj (vM hL 4 lv gs x doc w0 W3 Hb0.out hl h hok (hL w hT w W3 hT HB1.out));have Hn:=aj hn;subst hlv;subst hx;clear h hok hT hg1 hb0 hl hn hL;have H1:=aj h1;rw [h1] at HX hW3 HC ⊢;clear h1;have c0:=HX.out.c0;have c1:=HX.out.c1;have qM:=aj HX.out.box;have y0:=qM.out.q0;have y1:=qM.out.q1;have y2:=qM.out.q2;have y3:=qM.out.q3;have y4:=qM.out.q4;go_in;go_wp2_with fail;refine HC.out.mono ?_;rintro e w3 ⟨b3,hp⟩;have HB3:=aj (HB1.out.trans (b3.mono HB1.out.size));have dP:=aj (HX.out.stay b3);have gQ:=aj (Hb0.out.trans (b3.mono Hb0.out.size));clear b3 HC c0 c1 HX qM hW3 HB1;clear y0 y1 y2 y3 y4;rcases hp with ⟨er,he,hne,rfl⟩ | ⟨l,he,hany,rfl⟩ | ⟨l,v,xs,he,hany,hlen,rfl,hv⟩
 ·have HK:Hid (Qr gs doc=.inl er/\er≠0):=⟨by unfold Qr;rw [he],hne⟩;have hnb:(er != 0)=true:=by simpa using hne
  clear he hne;have bf:=aj dP.out.res;have HO:=aj (bf.out.bG (.int .i64 0) (.int .i64 0) (.string ⟨#[]⟩) (.slice none 0 0) (.slice none 0 0));have dF:=aj (aU HB3.out (b:=w.heap.size+2) (by omega) (by have:=bf.out.lt;omega) (.int .i64 0) (.int .i64 0) (.string ⟨#[]⟩) (.slice none 0 0) (.slice none 0 0));unfold bG at HO dF;have r0:=bf.out.q0;have r1:=bf.out.q1;have r2:=bf.out.q2;have r3:=bf.out.q3;have r4:=bf.out.q4;have z0:=bf.out.f0;have z1:=bf.out.f1;have z2:=bf.out.f2;have z3:=bf.out.f3;have z4:=bf.out.f4;go_wp2_with fail;clear r0 r1 r2 r3 r4 z0 z1 z2 z3 z4;have bq:=aj HO.out;have r0:=bq.out.q0;have r1:=bq.out.q1;have r2:=bq.out.q2;have r3:=bq.out.q3;have r4:=bq.out.q4;refine bodyPost_ret (v:=.tuple #[.agg #[.int .i64 0,.int .i64 0,.string ⟨#[]⟩,.slice none 0 0,.slice none 0 0],.int .i64 er]) (by simp [results,Tryz.results279,go_sem, *]) rfl ?_;exact ⟨dF.out,.inl ⟨er,HK.out.1,HK.out.2,rfl⟩⟩
 ·have HK:Hid (Qr gs doc=.inl 13):=by show _=_;unfold Qr;rw [he];dsimp only;rw [if_pos hany]
  clear he hany;have bf:=aj dP.out.res;have HO:=aj (bf.out.bG (.int .i64 0) (.int .i64 0) (.string ⟨#[]⟩) (.slice none 0 0) (.slice none 0 0));have dF:=aj (aU HB3.out (b:=w.heap.size+2) (by omega) (by have:=bf.out.lt;omega) (.int .i64 0) (.int .i64 0) (.string ⟨#[]⟩) (.slice none 0 0) (.slice none 0 0));unfold bG at HO dF;have r0:=bf.out.q0;have r1:=bf.out.q1;have r2:=bf.out.q2;have r3:=bf.out.q3;have r4:=bf.out.q4;have z0:=bf.out.f0;have z1:=bf.out.f1;have z2:=bf.out.f2;have z3:=bf.out.f3;have z4:=bf.out.f4;go_wp2_with fail;clear r0 r1 r2 r3 r4 z0 z1 z2 z3 z4;have bq:=aj HO.out;have r0:=bq.out.q0;have r1:=bq.out.q1;have r2:=bq.out.q2;have r3:=bq.out.q3;have r4:=bq.out.q4;refine bodyPost_ret (v:=.tuple #[.agg #[.int .i64 0,.int .i64 0,.string ⟨#[]⟩,.slice none 0 0,.slice none 0 0],.int .i64 13]) (by simp [results,Tryz.results279,go_sem, *]) rfl ?_;exact ⟨dF.out,.inl ⟨13,HK.out,by decide,rfl⟩⟩
 ·obtain ⟨l0,rfl⟩:∃ l0,l=[l0]:=List.length_eq_one_iff.mp (by rw [hlen,H1.out]);have hd:=hv.docs gQ.out (by simp);obtain ⟨A,c,rfl⟩:=gY hv.row;obtain ⟨La',Lc',hv',_,_,_,hel,hok⟩:=hd;simp only [Value.slice.injEq,true_and] at hv';obtain ⟨rfl,rfl⟩:=hv'
  obtain ⟨b,o,rfl⟩:∃ b o,A=some ⟨b,o,none⟩:=by
   obtain ⟨b,o,_,_,_,_,_,h0,_⟩:=hel 0 (by rw [aI];simp);exact ⟨b,o,h0⟩
  obtain ⟨A0,B0,C0,D0,hc,adG⟩:=sK hel (i:=0) (by rw [aI];simp) (dD [l0] (by simp)) (Nat.le_refl _);simp only [Nat.zero_mul,Nat.add_zero,List.getElem_cons_zero] at hc adG;have Hc:=aj hc
  have hsz:(ay l0).size<=140737488355328:=by
   obtain ⟨_,_,_,_,_,_,_,hf,_,_⟩:=adG.open;exact hf.s1
  have HK:Hid (Qr gs doc=.inr (OJ (ay l0))):=by show _=_;unfold Qr;rw [he];dsimp only;rw [if_neg (by rw [hany];decide)];rfl
  have lK:Hid (At w0 13 (.agg #[.int .i64 4,.int .i64 0,.string (ay l0),.slice none 0 0,.slice none 0 0]) (OJ (ay l0))/\bM (OJ (ay l0))):=⟨adF w0 hsz,XU rfl rfl⟩;obtain ⟨W4,hW4⟩:∃ W,w3.alloc (.cells #[.pointer none,.slice none 0 0] 108)=W:=⟨_,rfl⟩;have fF:Hid (Below w3.heap.size w3 W4):=by rw [<- hW4];exact aQ _ _
  have HFr:Hid (Lib.IsBuilderF 108 5 w3.heap.size w3.heap.size (Lib.byteCells []) W4):=by rw [<- hW4];exact Lib.IsBuilderF.of (Lib.fresh_isBuilder 108 5 w3)
  obtain ⟨W5,hW5⟩:∃ W,W4.alloc (vC l0 A0 B0 C0 D0)=W:=⟨_,rfl⟩;have Sr:Hid (Below W4.heap.size W4 W5):=by rw [<- hW5];exact aQ _ _
  have HY:=aj (aJ W4 (.int .i64 (ah l0)) (.int .i64 (au l0)) (.string (ay l0)) (.slice A0 (nL l0) B0) (.slice C0 (nK l0) D0));rw [hW5] at HY;have HP:=aj ((tK.start HFr.out fF.out.size).keep Sr.out);have HWr:=aj (OL w3.heap.size (ay l0) W5 ⟨HP.out.Iy,Below.refl _ _,Lib.OthersKept.refl _ _ _,HP.out.lo'⟩ hsz);have eU:Hid (Below w3.heap.size w3 W5):=fF.out.trans (Sr.out.mono fF.out.size);obtain ⟨u0,u1,u2,u3,u4⟩:=Hc.out W4 fF.out;have sw:Hid (aY (ay l0).data.toList=ay l0):=(GR rfl).symm;clear he hany hlen hv hel hok hc adG hsz;have y0:=HY.out.q0;have y1:=HY.out.q1;have y2:=HY.out.q2;have y3:=HY.out.q3;have y4:=HY.out.q4;go_wp2_with fail;go_loopg [24] 1 (fun gh ii wr=>(gh=1/\ii=.int .i64 0/\wr=W4)\/(gh=0/\ii=.int .i64 1/\Hid (Lib.IsBuilderF 108 5 w3.heap.size w3.heap.size (Lib.byteCells (ay l0).data.toList) wr/\Below w3.heap.size w3 wr)))
  case atStart=>exact .inl ⟨rfl,rfl,rfl⟩
  case round =>
   rcases hrel with ⟨rfl,rfl,rfl⟩ | ⟨rfl,rfl,HF⟩
   ·go_wp2_with fail;refine HWr.out.mono ?_;rintro e w6 ⟨rfl,hw6⟩;have HF6:Hid (Lib.IsBuilderF 108 5 w3.heap.size w3.heap.size (Lib.byteCells (ay l0).data.toList) w6/\Below w3.heap.size w3 w6):=⟨hw6.Iy,eU.out.trans hw6.below⟩;clear hw6;go_wp2_with fail;go_roundg 0
    case rel=>exact .inr ⟨rfl,by go_num,HF6⟩
    case measure=>omega
   ·have HSg:=aj (uX w3.heap.size w3.heap.size _ wr HF.out.1 HF.out.2.size);rw [sw.out] at HSg;go_wp2_with fail;refine HSg.out.mono ?_;rintro e w7 ⟨rfl,b7⟩;have Hb7:=aj (HF.out.2.trans b7);have AP:=aj (dP.out.stay Hb7.out);have pq:=aj (HB3.out.trans (Hb7.out.mono HB3.out.size));have bf:=aj AP.out.res;have HO:=aj (bf.out.bG (.int .i64 4) (.int .i64 0) (.string (ay l0)) (.slice none 0 0) (.slice none 0 0));have dF:=aj (aU pq.out (b:=w.heap.size+2) (by omega) (by have:=bf.out.lt;omega) (.int .i64 4) (.int .i64 0) (.string (ay l0)) (.slice none 0 0) (.slice none 0 0));unfold bG at HO dF;clear b7 HSg HF;have r0:=bf.out.q0;have r1:=bf.out.q1;have r2:=bf.out.q2;have r3:=bf.out.q3;have r4:=bf.out.q4;have z0:=bf.out.f0;have z1:=bf.out.f1;have z2:=bf.out.f2;have z3:=bf.out.f3;have z4:=bf.out.f4;go_wp2_with fail;clear r0 r1 r2 r3 r4 z0 z1 z2 z3 z4;have bq:=aj HO.out;have r0:=bq.out.q0;have r1:=bq.out.q1;have r2:=bq.out.q2;have r3:=bq.out.q3;have r4:=bq.out.q4;refine bodyPost_ret (v:=.tuple #[.agg #[.int .i64 4,.int .i64 0,.string (ay l0),.slice none 0 0,.slice none 0 0],.int .i64 0]) (by simp [results,Tryz.results279,go_sem, *]) rfl ?_;exact ⟨dF.out,.inr ⟨OJ (ay l0),none,0,none,0,HK.out,rfl,lK.out.1,lK.out.2⟩⟩
theorem Ls (p:Value) (w:World):(method 419 275 p "Of").run Tryz.prog w=.ok (279,p) w:=by kernel_rfl
theorem Ta {Tb:World->Prop} (hL:aS Tb) {w:World} {lv:Value} {gs:List (T->Int⊕T)} (h1:gs.length=1) (hl:eY Tb w lv gs):bL Tb w (.iface 275 (.agg #[.int .i64 4,lv])) (Qr gs) :=
 ⟨_,_,_,rfl,Ls _,fun _ _=>rfl,fun w0 wr x doc hb hb0 ha hk hT=>OM hL lv gs h1 x doc w0 wr hb0 (hl.keep hb) ha hk hT⟩
def Cq:ByteArray:=⟨#[36,106,111,105,110]⟩
theorem XV {Tb:World->Prop} (hL:aS Tb) (j:T) (gs:List (T->Int⊕T)) (k5:ah j=5) (h1:gs.length=1) (hl:nL j=gs.length) (hgs:∀ i,(hi:i<gs.length)->dH Tb (elt j i) gs[i]) (v:Value) (wB w:World) (ha:At wB 13 v j) (hk:bM j) (hb0:Below wB.heap.size wB w) (hT:Tb w):Calls Tryz.prog 188 #[.string Cq,v] w (fT Tb wB (Qr gs) w):=by
 obtain ⟨g1,La,Ka,Lc,Kc,hg1,hv,hfj,hel,hnm⟩:=ha.open;have l1:nL j=1:=by omega
 have HB1:=aj (aQ w (.cells #[.int .i64 5,.int .i64 (au j),.string (ay j),.slice La 1 Lc,.slice Ka (nK j) Kc] 36));have HC:=aj (Ll hL j gs hl (by omega) hgs La Lc g1 wB (w.alloc (.cells #[.int .i64 5,.int .i64 (au j),.string (ay j),.slice La 1 Lc,.slice Ka (nK j) Kc] 36)) hel.out (by omega) hk (hb0.trans (HB1.out.mono hb0.size)) (hL w hT _ _ hT HB1.out));have IB:Hid (∀ (lv:Value) (x:World),eY Tb x lv gs->bL Tb x (.iface 275 (.agg #[.int .i64 4,lv])) (Qr gs)):=fun lv x h=>Ta hL h1 h;subst hv;rw [l1] at HC;rw [k5,l1];clear ha hk hb0 hT hL hg1 hgs hl h1 k5 l1 hfj hel hnm;unfold Cq at *;go_in;go_wp2_with fail;refine (mJ _).mono ?_;rintro e w2 ⟨rfl,rfl⟩;go_wp2_with fail;refine HC.out.mono ?_;rintro e w3 ⟨b3,A,c,rfl,hs⟩;have HB3:=aj (HB1.out.trans (b3.mono HB1.out.size));have HS:=aj ((hs.later (wa:=w) (Below.refl _ _) (by simp)).mono (Q:=fun x=>bL Tb x (.iface 275 (.agg #[.int .i64 4,.slice A gs.length c])) (Qr gs)) fun w' _ hh=>IB.out _ w' hh);clear b3 hs HC;go_wp2_with fail;go_ret;exact ⟨HB3.out,_,_,rfl,HS.out⟩
def CB (k:Int):T:=o1 ⟨#[95,105,100]⟩ (o1 uZ (nT k))
theorem abp (k:Int):bH 16 (CB k)=true:=by kernel_rfl
theorem abq (k id:Int) (i:Nat) (o:Option Nat):gy 16 (CB k) (dY id i o)=decide (id<k):=by
 have hx:R6 (⟨#[95,105,100]⟩:ByteArray):=V3 (k:=4) (by omega);have h1:gy 16 (CB k) (dY id i o)=zw (gy 15) ⟨#[95,105,100]⟩ (o1 uZ (nT k)) (dY id i o):=GV _ _ 15 _;rw [h1,EU hx.plain];have h2:bV ⟨#[95,105,100]⟩=[stI]:=by kernel_rfl
 have h3:kF (o1 uZ (nT k))=[(uZ,nT k)]:=V7 (by kernel_rfl) _;rw [h2,h3];unfold Yr;rw [Ql];show Jv 16 [(uZ,nT k)] (nT id) true=_;rw [Zq];show (true&&(true&&mU uZ (bS 16 (nT id) (nT k))))=_;rw [adq];show decide (kR id k<0)=_;rw [decide_eq_decide];exact (Xq id k).1
theorem XW {k:Int} (h0:0<=k) (h1:k<30) (f:Nat) {s:ByteArray} (hs:s.data.toList=[123,34,95,105,100,34,58,123,34,36,108,116,34,58]++((aY (Lib.itoa k)).data.toList++[125,125])):nG (f+3) (CB k) s 40:=by
 have r1:=(oZ h0 h1 f).obj (k:=uZ) (lG.mk' (by kernel_rfl)) (s':=aY (123::34::(uZ.data.toList++(34::58::((aY (Lib.itoa k)).data.toList++[125]))))) (aN _);refine (r1.obj (k:=⟨#[95,105,100]⟩) (lG.mk' (by kernel_rfl)) ?_).le (by show 10+3+5+3+5<=40;omega);rw [hs];simp only [aN,uZ];simp
def xq (l:List T):T:=aX 5 0 ByteArray.empty l []
def Du (i:Nat):T:=[o1 Lm (xq [eB yD,o1 ig bW]),o1 Lp (xq [nT 9223372036854775807,nT 2]),o1 Cq (xq [eB yD]),o1 jl (eB yD),o1 FH (xq [nT (-9223372036854775807),nT 2])].getD i bW
def uy (i:Nat):ByteArray:=[⟨#[123,34,36,97,100,100,34,58,91,34,36,95,105,100,34,44,123,34,36,108,105,116,34,58,110,117,108,108,125,93,125]⟩,⟨#[123,34,36,109,117,108,34,58,91,57,50,50,51,51,55,50,48,51,54,56,53,52,55,55,53,56,48,55,44,50,93,125]⟩,⟨#[123,34,36,106,111,105,110,34,58,91,34,36,95,105,100,34,93,125]⟩,⟨#[123,34,36,115,105,122,101,34,58,34,36,95,105,100,34,125]⟩,⟨#[123,34,36,115,117,98,34,58,91,45,57,50,50,51,51,55,50,48,51,54,56,53,52,55,55,53,56,48,55,44,50,93,125]⟩].getD i ByteArray.empty
theorem aam:((List.range 5).all fun i=>decide ((uy i).data.toList=dG 7 (Du i))&&Nn 8 (Du i)&&(aP 7 (Du i) 1048576).isSome&&decide ((uy i).size<=40))=true:=by kernel_rfl
theorem aan:(List.range 5).map (fun i=>dS 7 (Du i))=(List.range 5).map Du:=by kernel_rfl
theorem Qs {i:Nat} (h:i<5):nG 7 (Du i) (uy i) 40:=by
 have h1:=List.all_eq_true.1 aam i (List.mem_range.2 h);simp only [Bool.and_eq_true,decide_eq_true_eq] at h1;obtain ⟨⟨⟨a,b⟩,c⟩,d⟩:=h1;refine ⟨a,sF _ _ b,?_,?_,d⟩
 ·rcases mM 7 (Du i) 1048576 (by omega) with ⟨_,h,_⟩ | ⟨h,_⟩
  ·exact h
  ·rw [h] at c;cases c
 ·have h2:=congrArg (fun l=>l[i]?) aan;simpa [h] using h2
def kJ (t:T) (_:T):Int⊕T:=.inr t
def Lu:Nat->T->Int⊕T
 | 0=>zJ (fun a b=>a+b) (fun a b=>decide (bU (a+b))) [Fv,kJ bW]
 | 1=>zJ yF zK [kJ (nT 9223372036854775807),kJ (nT 2)]
 | 2=>Qr [Fv]
 | 3=>Qq [Fv]
 | _=>zJ yE Dt [kJ (nT (-9223372036854775807)),kJ (nT 2)]
def vN (i:Nat):Int:=[13,14,13,13,14].getD i 0
theorem Cr {Tb:World->Prop} (n:Int):dH Tb (nT n) (kJ (nT n)):=Nw Tb (nT n) (.inr (.inr rfl))
theorem XY {Tb:World->Prop} (hA:bP Tb) {i:Nat} (h:i<5):dH Tb (Du i) (Lu i):=by
 match i,h with
 | 0,_ =>
  refine ni hA.lies (o1 Lm (xq [eB yD,o1 ig bW])) (xq [eB yD,o1 ig bW]) Lm _ rfl rfl rfl rfl fun v wB w ha hk hb0 hT=>aaj hA.lies _ [Fv,kJ bW] rfl rfl rfl (fun i hi=>?_) v wB w ha hk hb0 hT;have hi':i<2:=hi
  match i,hi' with
  | 0,_=>exact Lg hA
  | 1,_=>exact OE hA bW
 | 1,_ =>
  refine ni hA.lies (o1 Lp (xq [nT 9223372036854775807,nT 2])) (xq [nT 9223372036854775807,nT 2]) Lp _ rfl rfl rfl rfl fun v wB w ha hk hb0 hT=>aal hA.lies _ [kJ (nT 9223372036854775807),kJ (nT 2)] rfl rfl rfl (fun i hi=>?_) v wB w ha hk hb0 hT;have hi':i<2:=hi
  match i,hi' with
  | 0,_=>exact Cr 9223372036854775807
  | 1,_=>exact Cr 2
 | 2,_ =>
  refine ni hA.lies (o1 Cq (xq [eB yD])) (xq [eB yD]) Cq _ rfl rfl rfl rfl fun v wB w ha hk hb0 hT=>XV hA.lies _ [Fv] rfl rfl rfl (fun i hi=>?_) v wB w ha hk hb0 hT;obtain rfl:i=0:=by simp at hi;omega
  exact Lg hA
 | 3,_=>exact ni hA.lies (o1 jl (eB yD)) (eB yD) jl _ rfl rfl rfl rfl fun v wB w ha hk hb0 hT=>XT hA.lies _ Fv (Lg hA) v wB w ha hk hb0 hT
 | 4,_ =>
  show dH Tb (o1 FH (xq [nT (-9223372036854775807),nT 2])) (zJ yE Dt [kJ (nT (-9223372036854775807)),kJ (nT 2)]);refine ni hA.lies (o1 FH (xq [nT (-9223372036854775807),nT 2])) (xq [nT (-9223372036854775807),nT 2]) FH _ rfl rfl rfl rfl fun v wB w ha hk hb0 hT=>aak hA.lies _ [kJ (nT (-9223372036854775807)),kJ (nT 2)] rfl rfl rfl (fun i hi=>?_) v wB w ha hk hb0 hT;have hi':i<2:=hi
  match i,hi' with
  | 0,_=>exact Cr (-9223372036854775807)
  | 1,_=>exact Cr 2
theorem Tc {i:Nat} (h:i<5) (id:Int) (a:Nat) (o:Option Nat):Lu i (dY id a o)=.inl (vN i):=by
 have aj:Fv (dY id a o)=.inr (nT id):=by unfold Fv;rw [SQ]
 match i,h with
 | 0,_ =>
  have e:mI [Fv,kJ bW] (dY id a o)=.inr [nT id,bW]:=by simp only [mI,aj,kJ]
  show zJ (fun a b=>a+b) (fun a b=>decide (bU (a+b))) [Fv,kJ bW] (dY id a o)=.inl 13;unfold zJ;rw [e];rfl
 | 1,_ =>
  show zJ yF zK [kJ (nT 9223372036854775807),kJ (nT 2)] (dY id a o)=.inl 14;kernel_rfl
 | 2,_ =>
  have e:mI [Fv] (dY id a o)=.inr [nT id]:=by simp only [mI,aj]
  show Qr [Fv] (dY id a o)=.inl 13;unfold Qr;rw [e];rfl
 | 3,_ =>
  have e:mI [Fv] (dY id a o)=.inr [nT id]:=by simp only [mI,aj]
  show Qq [Fv] (dY id a o)=.inl 13;unfold Qq;rw [e];rfl
 | 4,_ =>
  show zJ yE Dt [kJ (nT (-9223372036854775807)),kJ (nT 2)] (dY id a o)=.inl 14;kernel_rfl
def lzA:ByteArray:=⟨#[123,34,36,112,114,111,106,101,99,116,34,58,123,34,120,34,58,123,34,36,105,102,34,58,91,123,34,95,105,100,34,58,123,34,36,108,116,34,58]⟩
def lzB:ByteArray:=⟨#[125,125,44,49,44]⟩
def lzC:ByteArray:=⟨#[93,125,125,125]⟩
def lzP (k:Int) (i:Nat):ByteArray:=(((lzA++aY (Lib.itoa k))++lzB)++uy i)++lzC
def Yy:ByteArray:=⟨#[120]⟩
def XZ (k:Int) (i:Nat):T:=o1 jT (o1 Yy (o1 sM (Im (CB k) (nT 1) (Du i))))
def X0 (k:Int):ByteArray:=aY ([123,34,95,105,100,34,58,123,34,36,108,116,34,58]++((aY (Lib.itoa k)).data.toList++[125,125]))
theorem Qt {k:Int} (h0:0<=k) (h1:k<30) {i:Nat} (hi:i<5):nG 11 (XZ k i) (lzP k i) 200:=by
 have r1:=XW h0 h1 4 (s:=X0 k) (aN _);have r2:=oZ (n:=1) (by omega) (by omega) 6;have r3:=Qs hi;have r4:=(((Ch.one r1).snoc (by simp) r2 (u':=aY ((X0 k).data.toList++(44::(aY (Lib.itoa 1)).data.toList))) (aN _)).snoc (by simp) r3 (u':=aY ((aY ((X0 k).data.toList++(44::(aY (Lib.itoa 1)).data.toList))).data.toList++(44::(uy i).data.toList))) (aN _)).list (by simp) (s':=aY (91::((aY ((aY ((X0 k).data.toList++(44::(aY (Lib.itoa 1)).data.toList))).data.toList++(44::(uy i).data.toList))).data.toList++[93]))) (aN _);have r5:=r4.obj Ck.2.2.2.1 (s':=aY (123::34::(sM.data.toList++(34::58::((aY (91::((aY ((aY ((X0 k).data.toList++(44::(aY (Lib.itoa 1)).data.toList))).data.toList++(44::(uy i).data.toList))).data.toList++[93]))).data.toList++[125]))))) (aN _);have r6:=r5.obj (k:=Yy) (lG.mk' (by kernel_rfl)) (s':=aY (123::34::(Yy.data.toList++(34::58::((aY (123::34::(sM.data.toList++(34::58::((aY (91::((aY ((aY ((X0 k).data.toList++(44::(aY (Lib.itoa 1)).data.toList))).data.toList++(44::(uy i).data.toList))).data.toList++[93]))).data.toList++[125]))))).data.toList++[125]))))) (aN _);refine (r6.obj tZ.2.2.2.1 ?_).le (by show 40+10+1+40+1+2+3+5+1+5+8+5<=200;omega);have e8:Lib.itoa 1=[49]:=by kernel_rfl
 simp only [aN,e8,X0,lzP,lzA,lzB,lzC,aO,jT,sM,Yy];simp
def aap:ByteArray:=⟨#[91,123,34,36,115,107,105,112,34,58,48,125,44]⟩
def aaq:ByteArray:=⟨#[44,123,34,36,108,105,109,105,116,34,58,48,125,93]⟩
def lz1 (k:Int) (i:Nat) (s:ByteArray):ByteArray:=(((aap++lzP k i)++⟨#[44]⟩)++s)++aaq
def aar (k:Int) (i:Nat) (t:T):T:=xq [o1 Ci (nT 0),XZ k i,t,o1 vK (nT 0)]
theorem adI {k:Int} (h0:0<=k) (h1:k<30) {i:Nat} (hi:i<5) {t:T} {s:ByteArray} (ht:nG 11 t s 300):(tJ (lz1 k i s)=aar k i t/\eJ (lz1 k i s)=0)/\(lz1 k i s).size<=700:=by
 have e0:(aY (Lib.itoa 0)).data.toList=[48]:=by kernel_rfl
 have r1:=Qm (n:=0) (by omega) (by omega) 9 (s:=⟨#[123,34,36,115,107,105,112,34,58,48,125]⟩) (by rw [e0];rfl);have r2:=Qt h0 h1 hi;have r3:=Qn (n:=0) (by omega) (by omega) 9 (s:=⟨#[123,34,36,108,105,109,105,116,34,58,48,125]⟩) (by rw [e0];rfl);have q1:=(Ch.one r1).snoc (by simp) r2 (u':=aY ((⟨#[123,34,36,115,107,105,112,34,58,48,125]⟩:ByteArray).data.toList++(44::(lzP k i).data.toList))) (aN _);have q2:=q1.snoc (by simp) ht (u':=aY ((aY ((⟨#[123,34,36,115,107,105,112,34,58,48,125]⟩:ByteArray).data.toList++(44::(lzP k i).data.toList))).data.toList++(44::s.data.toList))) (aN _);have q3:=q2.snoc (by simp) r3 (u':=aY ((aY ((aY ((⟨#[123,34,36,115,107,105,112,34,58,48,125]⟩:ByteArray).data.toList++(44::(lzP k i).data.toList))).data.toList++(44::s.data.toList))).data.toList++(44::(⟨#[123,34,36,108,105,109,105,116,34,58,48,125]⟩:ByteArray).data.toList))) (aN _)
 have q4:=q3.list (by simp) (s':=lz1 k i s) (by
  simp only [aN,lz1,aap,aaq,aO];simp)
 have:=q4.parse (by omega);exact ⟨⟨this.2,this.1⟩,Nat.le_trans q4.size (by omega)⟩
def aas:ByteArray:=⟨#[91,123,34,36,109,97,116,99,104,34,58,123,34,95,105,100,34,58,123,34,36,108,116,34,58]⟩
def aat:ByteArray:=⟨#[125,125,125,44]⟩
def lz2 (k:Int) (i:Nat):ByteArray:=(((aas++aY (Lib.itoa k))++aat)++lzP k i)++⟨#[93]⟩
def aau (k:Int) (i:Nat):T:=xq [o1 o9 (CB k),XZ k i]
theorem adK {k:Int} (h0:0<=k) (h1:k<30) {i:Nat} (hi:i<5):(tJ (lz2 k i)=aau k i/\eJ (lz2 k i)=0)/\(lz2 k i).size<=700:=by
 have r1:=(XW h0 h1 7 (s:=X0 k) (aN _)).obj Ck.1 (s':=aY (123::34::(o9.data.toList++(34::58::((X0 k).data.toList++[125]))))) (aN _);have r2:=Qt h0 h1 hi;have q1:=(Ch.one r1).snoc (by simp) r2 (u':=aY ((aY (123::34::(o9.data.toList++(34::58::((X0 k).data.toList++[125]))))).data.toList++(44::(lzP k i).data.toList))) (aN _)
 have q4:=q1.list (by simp) (s':=lz2 k i) (by
  simp only [aN,lz2,aas,aat,X0,o9,aO];simp)
 have hz:40+o9.size+5+200+1+2<=700:=by decide
 have:=q4.parse (by omega);exact ⟨⟨this.2,this.1⟩,Nat.le_trans q4.size hz⟩
def Ip (k:Int) (i:Nat):rD:=G5 [nO (CB k) (kJ (nT 1)) (Lu i)] [Yy]
theorem Lx {Tb:World->Prop} (hA:bP Tb) (k:Int) {i:Nat} (hi:i<5):nA Tb (XZ k i) (Ip k i):=by
 refine nE hA.valid hA.lies _ _ (by simp) (XZ k i) (o1 Yy (o1 sM (Im (CB k) (nT 1) (Du i)))) rfl rfl rfl rfl fun v wB w ha hk hb0 hT=>?_;refine yB hA.lies _ [nO (CB k) (kJ (nT 1)) (Lu i)] rfl rfl (by simp) (by simp) (fun j hj=>?_) v wB w ha hk hb0 hT;obtain rfl:j=0:=by simp at hj;omega
 exact ⟨by kernel_rfl,abm hA _ _ _ _ _ (abp k) (Cr 1) (XY hA hi)⟩
theorem X3 {Tb:World->Prop} (hA:bP Tb) (k:Int) {i:Nat} (hi:i<5) {t:T} {g:rD} (ht:nA Tb t g):qL Tb (aar k i t) [vI 0,Ip k i,g,Dh 0]:=by
 intro v wB w ha hk hb0 hT;refine E8 hA.lies (aar k i t) _ rfl rfl (by simp) (fun j hj=>?_) v wB w ha hk hb0 hT;have hj':j<4:=hj
 match j,hj' with
 | 0,_=>exact zf (o1 Ci (nT 0)) (nT 0) rfl rfl rfl rfl rfl (by show (0:Int)<=0;omega)
 | 1,_=>exact Lx hA k hi
 | 2,_=>exact ht
 | 3,_=>exact wZ (o1 vK (nT 0)) (nT 0) rfl rfl rfl rfl rfl (by show (0:Int)<=0;omega)
theorem X4 {Tb:World->Prop} (hA:bP Tb) (k:Int) {i:Nat} (hi:i<5):qL Tb (aau k i) [G7 (gy 16 (CB k)),Ip k i]:=by
 intro v wB w ha hk hb0 hT;refine E8 hA.lies (aau k i) _ rfl rfl (by simp) (fun j hj=>?_) v wB w ha hk hb0 hT;have hj':j<2:=hj
 match j,hj' with
 | 0,_=>exact wX hA.atoi hA.itoa hA.lies (o1 o9 (CB k)) _ rfl rfl rfl rfl fun v wB w ha hk hb0 hT=>wW hA.split hA.lies _ (abp k) v wB w ha hk hb0 hT
 | 1,_=>exact Lx hA k hi
end Go.Proofs.YtknakfpciccoaabGreatDoor
