import Derived.Test.YtknakfpciccoaaaGreatDoorZF22
import Derived.Test.YtknakfpciccoaaaGreatDoorZF7
/- hasID. -/
set_option maxHeartbeats 4000000
set_option maxRecDepth 100000
namespace Go.Proofs.YtknakfpciccoaaaGreatDoor
open Go.RowKit
theorem Lm (f gx:Nat) (v:Value) (t:T) (k p:Nat) (x:T) (A C:Option Addr) (B D:Nat) (w:World) (h:At w f v t) (hk:Qz t=some k) (hlt:k<nL t) (hf:f<=16) (ht:dZ t) (hx:At w gx (.agg #[.int .i64 (ah x),.int .i64 (aB x),.string (aF x),.slice A (nL x) B,.slice C (nK x) D]) x) (hox:dZ x)
  (hb:aK p (.int .i64 (ah x)) (.int .i64 (aB x)) (.string (aF x)) (.slice A (nL x) B) (.slice C (nK x) D) w) :
  Calls Tryz.prog 157 #[v,.pointer (some ⟨p,0,none⟩)] w fun e w'=>e=.returned (.bool (bq 16 (elt t k) x==0))/\Below w.heap.size w w':=by
 have HA:=aj h;obtain ⟨g,La,Ka,Lc,Kc,rfl,rfl,hff,hl,hkk⟩:=h.open;have HB1:=aj (bG w (vC t La Lc Ka Kc));have HD:=aj HB1.out.drew;have HX:=aj (hb.stay HD.out);have HY:=aj ((bD w (.int .i64 (ah t)) (.int .i64 (aB t)) (.string (aF t)) (.slice La (nL t) Lc) (.slice Ka (nK t) Kc)).stay (ak _));have HI:=aj (BD _ _ t k _ (HA.out.keep HD.out) hk hlt);have HE:Hid (∀ (w':World) (g':Nat) (u:Value),Below w.heap.size w w'->g'+1=g+1->At w' g' u (elt t k)->Calls Tryz.prog 158 #[u,.agg #[.int .i64 (ah x),.int .i64 (aB x),.string (aF x),.slice A (nL x) B,.slice C (nK x) D]] w' fun e w2=>e=.returned (.bool (bq 16 (elt t k) x==0))/\Below w'.heap.size w' w2):=fun w' g' u hb' hg ha=>zG ha (hx.keep hb') (by omega) (ht.elt hlt) hox;generalize bq 16 (elt t k) x=cc at HE ⊢
 have iX:Hid (∀ wx,aK p (.int .i64 (ah x)) (.int .i64 (aB x)) (.string (aF x)) (.slice A (nL x) B) (.slice C (nK x) D) wx->aK w.heap.size (.int .i64 (ah t)) (.int .i64 (aB t)) (.string (aF t)) (.slice La (nL t) Lc) (.slice Ka (nK t) Kc) wx->(fun wx=>wx.cell? ⟨p,0,none⟩=some (.int .i64 (ah x))/\wx.cell? ⟨p,1,none⟩=some (.int .i64 (aB x))/\wx.cell? ⟨p,2,none⟩=some (.string (aF x))/\wx.cell? ⟨p,3,none⟩=some (.slice A (nL x) B)/\wx.cell? ⟨p,4,none⟩=some (.slice C (nK x) D)/\wx.cell? ⟨w.heap.size,0,none⟩=some (.int .i64 (ah t))/\wx.cell? ⟨w.heap.size,1,none⟩=some (.int .i64 (aB t))/\wx.cell? ⟨w.heap.size,2,none⟩=some (.string (aF t))/\wx.cell? ⟨w.heap.size,3,none⟩=some (.slice La (nL t) Lc)/\wx.cell? ⟨w.heap.size,4,none⟩=some (.slice Ka (nK t) Kc)) wx):=fun wx a b=>⟨a.q0,a.q1,a.q2,a.q3,a.q4,b.q0,b.q1,b.q2,b.q3,b.q4⟩;have qH:=aj (iX.out _ HX.out HY.out);clear h hff hl hkk hk hlt hf ht hx hox hb HA;go_in;go_wp2_with fail
 go_region_held3 (fun wx=>wx.cell? ⟨p,0,none⟩=some (.int .i64 (ah x))/\wx.cell? ⟨p,1,none⟩=some (.int .i64 (aB x))/\wx.cell? ⟨p,2,none⟩=some (.string (aF x))/\wx.cell? ⟨p,3,none⟩=some (.slice A (nL x) B)/\wx.cell? ⟨p,4,none⟩=some (.slice C (nK x) D)/\wx.cell? ⟨w.heap.size,0,none⟩=some (.int .i64 (ah t))/\wx.cell? ⟨w.heap.size,1,none⟩=some (.int .i64 (aB t))/\wx.cell? ⟨w.heap.size,2,none⟩=some (.string (aF t))/\wx.cell? ⟨w.heap.size,3,none⟩=some (.slice La (nL t) Lc)/\wx.cell? ⟨w.heap.size,4,none⟩=some (.slice Ka (nK t) Kc)) (first | exact ZP | exact ZQ | exact qH.out) (first | (go_at_call 119;refine HI.out.mono ?_;rintro e w3 ⟨b3,g',A2,B2,C2,D2,hg3,rfl,Zn⟩;have ZQ:=iX.out _ (HX.out.stay b3) (HY.out.stay b3)) | (go_at_call 158;refine (HE.out _ _ _ (HD.out.trans (b3.mono HD.out.size)) hg3.symm Zn).mono ?_;rintro e w4 ⟨rfl,b4⟩;have ZP:=iX.out _ ((HX.out.stay b3).stay b4) ((HY.out.stay b3).stay b4)));have HBf:=aj ((HD.out.trans (b3.mono HD.out.size)).trans (b4.mono (HD.out.trans (b3.mono HD.out.size)).size));clear b3 b4 ZQ ZP Zn hg3;go_wp2_with fail;go_ret;exact ⟨rfl,HBf.out⟩
def Gs (t:T):T:=elt t ((Qz t).getD 0)
def iK (x t:T):Bool:=bq 16 (Gs t) x==0
def W9 (t:T):Prop:=dZ t/\∃ k,Qz t=some k/\k<nL t
theorem xD {t:T} (h:dZ t) (hd:iG t=true):W9 t:=by
 unfold iG at hd;simp only [Bool.and_eq_true,beq_iff_eq] at hd;cases hi:Qz t with
 | none=>rw [hi] at hd;simp at hd
 | some k=>exact ⟨h,k,hi,by have h1:=h.names hd.1;have h2:k<(rU t).length:=vI hi;unfold nK at h1;omega⟩
theorem Pn (c f gx:Nat) (d x:T) (La:Option Addr) (Lc:Nat) (vx:Value) (w:World) (hc:w.cell? ⟨c,0,none⟩=some (.slice La (nL d) Lc)) (hcl:c<w.heap.size) (hl:bC w f La d) (hn:nL d<=1000000) (hf:f<=16) (hd:∀ i,i<nL d->W9 (elt d i)) (hx:At w gx vx x) (hox:dZ x) :
  Calls Tryz.prog 118 #[.pointer (some ⟨c,0,none⟩),vx] w fun e w'=>e=.returned (.bool (bg (iK x) d (nL d)))/\Below w.heap.size w w':=by
 have Zm:∀ (fn:Fn) (first cap:Array Value) (w:World),(Instr.makeFunc fn first cap).run Tryz.prog w=.ok (.func fn first cap) w:=fun _ _ _ _=>rfl;have HX0:=aj hx;obtain ⟨g,A,C,B,D,rfl,rfl,hff,hl',hkk⟩:=hx.open;have HB1:=aj (bG w (vC x A B C D));have sS:=aj (bD w (.int .i64 (ah x)) (.int .i64 (aB x)) (.string (aF x)) (.slice A (nL x) B) (.slice C (nK x) D));have q0:(w.alloc (vC x A B C D)).cell? ⟨c,0,none⟩=some (.slice La (nL d) Lc):=(HB1.out.cell (p:=⟨c,0,none⟩) hcl).trans hc
 have HC:=aj (nN (iK x) 157 (fun _ _=>rfl) (.pointer (some ⟨w.heap.size,0,none⟩)) f La Lc d (w.alloc (vC x A B C D)) (hl.keep HB1.out) (by omega) (fun k hk wr v hb ha=>by
  obtain ⟨ho,i,hi,hil⟩:=hd k hk;have e:iK x (elt d k)=(bq 16 (elt (elt d k) i) x==0):=by unfold iK Gs;rw [hi];rfl
  rw [e];exact Lm f _ v (elt d k) i w.heap.size x A C B D wr ha hi hil hf ho ((HX0.out.keep HB1.out).keep hb) hox (sS.out.stay hb)))
 clear hx hff hl' hkk hl hd hox hc HX0 sS;go_in;go_wp2_with fail;refine HC.out.mono ?_;rintro e w2 ⟨rfl,b2⟩;have HB2:=aj (HB1.out.trans (b2.mono HB1.out.size));clear b2 HC;go_wp2_with fail;go_ret;exact ⟨rfl,HB2.out⟩
structure Xa (w:World) (c f:Nat) (l:List T) (v:Value) (xs:List Value):Prop where
 cell:w.cell? ⟨c,0,none⟩=some v
 free:w.frozen? ⟨c,0,none⟩=false
 low:c<w.heap.size
 row:w.ownsRow 0 25 5 v l.length xs
 apart:v.ownBlock≠some c
 at_:∀ i,(h:i<l.length)->At w f (fv xs i) l[i]
theorem Xa.elems {w:World} {c f:Nat} {l:List T} {v:Value} {xs:List Value} (h:Xa w c f l v xs):∃ La Lc,v=.slice La l.length Lc/\bC w f La (dU 5 0 ByteArray.empty l []):=by
 have hx:xs.length=l.length*5:=h.row.1;rcases h.row.2 with ⟨rfl,hn⟩ | ⟨g,cap,cur,rfl,hb0,hg,rest⟩
 ·refine ⟨none,0,by rw [hn],fun i hi=>?_⟩;rw [cK] at hi;omega
 ·refine ⟨_,_,rfl,fun i hi=>?_⟩;rw [cK] at hi;have hc:∀ j,j<5->w.cell? ⟨g,i*5+j,none⟩=some (cx xs (i*5+j)):=fun j hj=>jH h.row (mg (by omega));have e:elt (dU 5 0 ByteArray.empty l []) i=l[i]:=by rw [pO,List.getD_eq_getElem?_getD,List.getElem?_eq_getElem hi];rfl
  refine ⟨g,0,cx xs (i*5),cx xs (i*5+1),cx xs (i*5+2),cx xs (i*5+3),cx xs (i*5+4),rfl,(Array.getElem?_eq_some_iff.1 hg).1,(by rw [Nat.zero_add];exact hc 0 (by omega)),(by rw [Nat.zero_add];exact hc 1 (by omega)),(by rw [Nat.zero_add];exact hc 2 (by omega)),(by rw [Nat.zero_add];exact hc 3 (by omega)),(by rw [Nat.zero_add];exact hc 4 (by omega)),?_⟩;rw [e];exact h.at_ i hi
theorem Xa.keep {w w':World} {c f:Nat} {l:List T} {v:Value} {xs:List Value} (h:Xa w c f l v xs) (hb:Below w.heap.size w w'):Xa w' c f l v xs :=
 ⟨(hb.cell (p:=⟨c,0,none⟩) h.low).trans h.cell,(hb.frozen (p:=⟨c,0,none⟩) h.low).trans h.free,Nat.lt_of_lt_of_le h.low hb.size,dQ h.row fun b _ h2=>hb.block b h2,h.apart,fun i hi=>At.keep hb (h.at_ i hi)⟩
structure sU (c:Nat) (g:Option Nat) (w w':World):Prop where
 os:w'.os=w.os
 tape:w'.tape=w.tape
 output:w'.output=w.output
 size:w.heap.size<=w'.heap.size
 block:∀ b,b<w.heap.size->b≠c->some b≠g->w'.heap[b]?=w.heap[b]?
theorem iR {w:World} {g n cap:Nat} {xs news:List Value} {base:Nat} {e:TypeId} (h:w.ownsRow base e 5 (.slice (some ⟨g,0,none⟩) (n+1) cap) (n+1) (xs++news)) (hx:xs.length=n*5) (j:Nat) {u:Value} (hj:j<5) (hu:news[j]?=some u):w.cell? ⟨g,n*5+j,none⟩=some u:=by
 rw [h.cellAt _ (by omega),List.getElem?_append_right (by omega),hx,Nat.add_sub_cancel_left];exact hu
def eu (w:World) (g o:Nat) (u0 u1 u2 u3 u4:Value):World:=((((w.setCell ⟨g,o,none⟩ u0).setCell ⟨g,o+1,none⟩ u1).setCell ⟨g,o+2,none⟩ u2).setCell ⟨g,o+3,none⟩ u3).setCell ⟨g,o+4,none⟩ u4
theorem lq (w:World) {g b':Nat} (h:b'≠g) (o:Nat) (u0 u1 u2 u3 u4:Value):(eu w g o u0 u1 u2 u3 u4).heap[b']?=w.heap[b']?:=by
 have hset:∀ (w1:World) (o:Nat) (u:Value),(w1.setCell ⟨g,o,none⟩ u).heap[b']?=w1.heap[b']?:=fun w1 o u=>Below.heap_setCell _ _ _ _ (by simpa using h);unfold eu;rw [hset,hset,hset,hset,hset]
theorem uz (w:World) (g o:Nat) (u0 u1 u2 u3 u4:Value):(eu w g o u0 u1 u2 u3 u4).heap.size=w.heap.size/\(eu w g o u0 u1 u2 u3 u4).os=w.os/\(eu w g o u0 u1 u2 u3 u4).tape=w.tape/\(eu w g o u0 u1 u2 u3 u4).output=w.output:=by
 unfold eu;simp [World.setCell]
theorem fE (w:World) (a:Addr) (u:Value):(w.setCell a u).heap.size=w.heap.size/\(w.setCell a u).os=w.os/\(w.setCell a u).tape=w.tape/\(w.setCell a u).output=w.output:=by
 simp [World.setCell]
theorem xE {w:World} {base g n cap:Nat} {e:TypeId} {xs:List Value} {y0 y1 y2 y3 y4:Value} (h:w.ownsRow base e 5 (.slice (some ⟨g,0,none⟩) (n+1) cap) (n+1) (xs++[y0,y1,y2,y3,y4])) (hx:xs.length=n*5) (u0 u1 u2 u3 u4:Value) :
  (eu w g (n*5) u0 u1 u2 u3 u4).ownsRow base e 5 (.slice (some ⟨g,0,none⟩) (n+1) cap) (n+1) (xs++[u0,u1,u2,u3,u4]):=by
 have h1:=(((((h.stored (n*5) u0).1.stored (n*5+1) u1).1.stored (n*5+2) u2).1.stored (n*5+3) u3).1.stored (n*5+4) u4).1
 have e:((((((xs++[y0,y1,y2,y3,y4]).set (n*5) u0).set (n*5+1) u1).set (n*5+2) u2).set (n*5+3) u3).set (n*5+4) u4)=xs++[u0,u1,u2,u3,u4]:=by
  rw [<- hx];simp
 rw [e] at h1;exact h1
structure Lp (w W4 w6:World) (c g n cap:Nat) (v:Value) (xs:List Value):Prop where
 lt:xs.length=n*5
 own:w6.ownsRow 0 25 5 (.slice (some ⟨g,0,none⟩) (n+1) cap) (n+1) (xs++[.int .i64 0,.int .i64 0,.string ⟨#[]⟩,.slice none 0 0,.slice none 0 0])
 grown:W4.grownBy w6 v.ownBlock
 low:Below w.heap.size w W4
 hat:v.ownBlock=some g\/w.heap.size<=g
 c6:w6.cell? ⟨c,0,none⟩=some v
 f6:w6.frozen? ⟨c,0,none⟩=false
 gc:g≠c
 apart:v.ownBlock≠some c
theorem Lp.block {w W4 w6:World} {c g n cap:Nat} {v:Value} {xs:List Value} (h:Lp w W4 w6 c g n cap v xs) (b:Nat) (hb:b<w.heap.size) (hv:some b≠v.ownBlock):w6.heap[b]?=w.heap[b]?/\b≠g :=
 ⟨(h.grown.block b (Nat.lt_of_lt_of_le hb h.low.size) hv).trans (h.low.block b hb),fun e=>by subst e;rcases h.hat with h1 | h1;exact hv h1.symm;omega⟩
theorem Lp.acS {w W4 w6:World} {c g n cap:Nat} {v:Value} {xs:List Value} (h:Lp w W4 w6 c g n cap v xs) (u0 u1 u2 u3 u4:Value) :
  sU c v.ownBlock w ((eu w6 g (n*5) u0 u1 u2 u3 u4).setCell ⟨c,0,none⟩ (.slice (some ⟨g,0,none⟩) (n+1) cap))/\((eu w6 g (n*5) u0 u1 u2 u3 u4).setCell ⟨c,0,none⟩ (.slice (some ⟨g,0,none⟩) (n+1) cap)).cell? ⟨c,0,none⟩=some (.slice (some ⟨g,0,none⟩) (n+1) cap)/\((eu w6 g (n*5) u0 u1 u2 u3 u4).setCell ⟨c,0,none⟩ (.slice (some ⟨g,0,none⟩) (n+1) cap)).frozen? ⟨c,0,none⟩=false/\(v.ownBlock=some g\/w.heap.size<=g)/\((eu w6 g (n*5) u0 u1 u2 u3 u4).setCell ⟨c,0,none⟩ (.slice (some ⟨g,0,none⟩) (n+1) cap)).ownsRow 0 25 5 (.slice (some ⟨g,0,none⟩) (n+1) cap) (n+1) (xs++[u0,u1,u2,u3,u4]):=by
 obtain ⟨r1,r2,r3,r4⟩:=uz w6 g (n*5) u0 u1 u2 u3 u4;have hcb:=lq w6 (Ne.symm h.gc) (n*5) u0 u1 u2 u3 u4;have hoth:∀ b,b≠g->(eu w6 g (n*5) u0 u1 u2 u3 u4).heap[b]?=w6.heap[b]?:=fun b hb=>lq w6 hb _ _ _ _ _ _;have hrow:=xE h.own h.lt u0 u1 u2 u3 u4;generalize eu w6 g (n*5) u0 u1 u2 u3 u4=w7 at r1 r2 r3 r4 hcb hrow hoth ⊢;obtain ⟨t1,t2,t3,t4⟩:=fE w7 ⟨c,0,none⟩ (.slice (some ⟨g,0,none⟩) (n+1) cap);have h3:=h.grown.size;have h4:=h.low.size;have k1:=World.cell?_setCell_same w7 ⟨c,0,none⟩ (.slice (some ⟨g,0,none⟩) (n+1) cap) ((aC hcb 0).trans h.c6)
 have k2:(w7.setCell ⟨c,0,none⟩ (.slice (some ⟨g,0,none⟩) (n+1) cap)).frozen? ⟨c,0,none⟩=false:=by
  rw [World.frozen?_setCell];exact (World.frozen?_of_block (a:=⟨c,0,none⟩) hcb).trans h.f6
 have k3:=ownsRow_setCell_other (a:=⟨c,0,none⟩) hrow (by simpa [Value.ownBlock] using h.gc) (.slice (some ⟨g,0,none⟩) (n+1) cap);have k4:∀ b,b≠c->(w7.setCell ⟨c,0,none⟩ (.slice (some ⟨g,0,none⟩) (n+1) cap)).heap[b]?=w7.heap[b]?:=fun b hb=>Below.heap_setCell _ _ _ _ (by simpa using hb);generalize w7.setCell ⟨c,0,none⟩ (.slice (some ⟨g,0,none⟩) (n+1) cap)=w8 at *;refine ⟨⟨t2.trans (r2.trans (h.grown.os.trans h.low.os)),t3.trans (r3.trans (h.grown.tape.trans h.low.tape)),t4.trans (r4.trans (h.grown.output.trans h.low.output)),by omega,fun b hb h1 h2=>?_⟩,k1,k2,h.hat,k3⟩;obtain ⟨h5,h6⟩:=h.block b hb h2;exact (k4 b h1).trans ((hoth b h6).trans h5)
theorem Lp.acT {w W4 w6:World} {c g n cap:Nat} {v:Value} {xs:List Value} (h:Lp w W4 w6 c g n cap v xs) (u0 u1 u2 u3 u4:Value) :
  sU c v.ownBlock w (eu (w6.setCell ⟨c,0,none⟩ (.slice (some ⟨g,0,none⟩) (n+1) cap)) g (n*5) u0 u1 u2 u3 u4)/\(eu (w6.setCell ⟨c,0,none⟩ (.slice (some ⟨g,0,none⟩) (n+1) cap)) g (n*5) u0 u1 u2 u3 u4).cell? ⟨c,0,none⟩=some (.slice (some ⟨g,0,none⟩) (n+1) cap)/\(eu (w6.setCell ⟨c,0,none⟩ (.slice (some ⟨g,0,none⟩) (n+1) cap)) g (n*5) u0 u1 u2 u3 u4).frozen? ⟨c,0,none⟩=false/\(v.ownBlock=some g\/w.heap.size<=g)/\(eu (w6.setCell ⟨c,0,none⟩ (.slice (some ⟨g,0,none⟩) (n+1) cap)) g (n*5) u0 u1 u2 u3 u4).ownsRow 0 25 5 (.slice (some ⟨g,0,none⟩) (n+1) cap) (n+1) (xs++[u0,u1,u2,u3,u4]):=by
 obtain ⟨t1,t2,t3,t4⟩:=fE w6 ⟨c,0,none⟩ (.slice (some ⟨g,0,none⟩) (n+1) cap);have h3:=h.grown.size;have h4:=h.low.size;have k1:=World.cell?_setCell_same w6 ⟨c,0,none⟩ (.slice (some ⟨g,0,none⟩) (n+1) cap) h.c6
 have k2:(w6.setCell ⟨c,0,none⟩ (.slice (some ⟨g,0,none⟩) (n+1) cap)).frozen? ⟨c,0,none⟩=false:=by
  rw [World.frozen?_setCell];exact h.f6
 have k3:=ownsRow_setCell_other (a:=⟨c,0,none⟩) h.own (by simpa [Value.ownBlock] using h.gc) (.slice (some ⟨g,0,none⟩) (n+1) cap);have k4:∀ b,b≠c->(w6.setCell ⟨c,0,none⟩ (.slice (some ⟨g,0,none⟩) (n+1) cap)).heap[b]?=w6.heap[b]?:=fun b hb=>Below.heap_setCell _ _ _ _ (by simpa using hb);generalize w6.setCell ⟨c,0,none⟩ (.slice (some ⟨g,0,none⟩) (n+1) cap)=w7 at *;obtain ⟨r1,r2,r3,r4⟩:=uz w7 g (n*5) u0 u1 u2 u3 u4;have hcb:=lq w7 (Ne.symm h.gc) (n*5) u0 u1 u2 u3 u4;have hoth:∀ b,b≠g->(eu w7 g (n*5) u0 u1 u2 u3 u4).heap[b]?=w7.heap[b]?:=fun b hb=>lq w7 hb _ _ _ _ _ _;have hrow:=xE k3 h.lt u0 u1 u2 u3 u4;generalize eu w7 g (n*5) u0 u1 u2 u3 u4=w8 at *;refine ⟨⟨r2.trans (t2.trans (h.grown.os.trans h.low.os)),r3.trans (t3.trans (h.grown.tape.trans h.low.tape)),r4.trans (t4.trans (h.grown.output.trans h.low.output)),by omega,fun b hb h1 h2=>?_⟩,(aC hcb 0).trans k1,(World.frozen?_of_block (a:=⟨c,0,none⟩) hcb).trans k2,h.hat,hrow⟩;obtain ⟨h5,h6⟩:=h.block b hb h2;exact (hoth b h6).trans ((k4 b h1).trans h5)
def vY (w:World) (c:Nat) (t:T) (l:List T) (v:Value) (xs cs:List Value) (e:Ending) (w':World):Prop :=
 (Below w.heap.size w w'/\bg (iK (Gs t)) (dU 5 0 ByteArray.empty l []) l.length=true/\e=.returned (.int .i64 11)) \/
 (Below w.heap.size w w'/\bg (iK (Gs t)) (dU 5 0 ByteArray.empty l []) l.length=false/\60<=l.length/\e=.returned (.int .i64 12)) \/
 (sU c v.ownBlock w w'/\bg (iK (Gs t)) (dU 5 0 ByteArray.empty l []) l.length=false/\l.length<60/\e=.returned (.int .i64 0)/\∃ g cap,w'.cell? ⟨c,0,none⟩=some (.slice (some ⟨g,0,none⟩) (l.length+1) cap)/\w'.frozen? ⟨c,0,none⟩=false/\(v.ownBlock=some g\/w.heap.size<=g)/\w'.ownsRow 0 25 5 (.slice (some ⟨g,0,none⟩) (l.length+1) cap) (l.length+1) (xs++cs))
end Go.Proofs.YtknakfpciccoaaaGreatDoor
/- isName, New. -/
namespace Go.Proofs.YtknakfpciccoaaaGreatDoor
open Go.RowKit Go.Maps Go.WideMaps
def Lr (z:UInt8):Bool:=decide (97<=z.toNat)&&decide (z.toNat<=122)
def oZ (s:ByteArray):Bool:=s.data.toList.all Lr&&(decide ((1:Int)<=(s.size:Int))&&decide ((s.size:Int)<=12))
theorem FL {s:ByteArray} {k:Nat} {z:UInt8} (h:s.data.toList[k]?=some z) (hz:Lr z=false):oZ s=false:=by
 have:s.data.toList.all Lr=false:=by
  rw [List.all_eq_false];exact ⟨z,List.mem_of_getElem? h,by rw [hz];simp⟩
 unfold oZ;rw [this];rfl
theorem NP {l:List UInt8} {k:Nat} {z:UInt8} (h:l[k]?=some z) (hz:Lr z=true) (ha:(l.take k).all Lr=true):(l.take (k+1)).all Lr=true:=by
 rw [List.take_add_one,h,List.all_append,ha];simp [hz]
theorem Ls (s:ByteArray) (w:World) (hs:s.size<=140737488355328):Calls Tryz.prog 69 #[.string s] w fun e w'=>e=.returned (.bool (oZ s))/\w'=w:=by
 go_in;go_wp2_with fail;go_loopg [6] (s.size) (fun g i wr=>∃ k:Nat,g=s.size - k/\k<=s.size/\i=.int .i64 k/\wr=w/\Hid ((s.data.toList.take k).all Lr=true))
 case atStart=>exact ⟨0,rfl,Nat.zero_le _,rfl,rfl,rfl⟩
 case round =>
  obtain ⟨k,rfl,hk,rfl,rfl,HN⟩:=hrel;by_cases hlt:k<s.size
  ·obtain ⟨z,hz⟩:∃ z:UInt8,s[k]'hlt=z:=⟨_,rfl⟩;have HZ:Hid (s.data.toList[k]?=some z):=by show _=_;rw [Array.getElem?_toList];exact vk hlt hz
   have x1:(k:Int)<(s.size:Int):=by omega
   have lz:z.toNat<256:=z.toNat_lt;by_cases h1:z.toNat<97
   ·have y1:(z.toNat:Int)<97:=by omega
    have HR:Hid (oZ s=false):=FL HZ.out (by unfold Lr;rw [decide_eq_false (p:=97<=z.toNat) (by omega)];rfl);clear h1;go_wp2_with fail;go_ret;exact ⟨av (by rw [HR.out]),rfl⟩
   ·have y1:¬ (z.toNat:Int)<97:=by omega
    by_cases h2:122<z.toNat
    ·have y2:(122:Int)<(z.toNat:Int):=by omega
     have HR:Hid (oZ s=false):=FL HZ.out (by unfold Lr;rw [decide_eq_false (p:=z.toNat<=122) (by omega)];simp);clear h1 h2;go_wp2_with fail;go_ret;exact ⟨av (by rw [HR.out]),rfl⟩
    ·have y2:¬ (122:Int)<(z.toNat:Int):=by omega
     have HM:=aj (NP HZ.out (by unfold Lr;rw [decide_eq_true (p:=97<=z.toNat) (by omega),decide_eq_true (p:=z.toNat<=122) (by omega)];rfl) HN.out);clear h1 h2;go_wp2_with fail;go_roundg (s.size - (k+1))
     case rel=>exact ⟨k+1,rfl,by omega,by go_num,rfl,HM⟩
     case measure=>omega
  ·obtain rfl:k=s.size:=by omega
   have HA:Hid (s.data.toList.all Lr=true):=by
    show _=_;have:=HN.out
    rwa [List.take_of_length_le (by rw [Array.length_toList];exact Nat.le_refl _)] at this
   by_cases h1:1<=s.size
   ·have y1:(1:Int)<=(s.size:Int):=by omega
    have HR:Hid (oZ s=decide ((s.size:Int)<=12)):=by show _=_;unfold oZ;rw [HA.out,decide_eq_true y1];rfl
    go_wp2_with fail;go_ret;exact ⟨av (by rw [HR.out]),rfl⟩
   ·have y1:¬ (1:Int)<=(s.size:Int):=by omega
    have HR:Hid (oZ s=false):=by show _=_;unfold oZ;rw [HA.out,decide_eq_false y1];rfl
    go_wp2_with fail;go_ret;exact ⟨av (by rw [HR.out]),rfl⟩
theorem NQ (w:World):Calls Tryz.prog 49 #[] w fun e w'=>e=.returned (.pointer (some ⟨w.heap.size+1,0,none⟩))/\w'=(w.alloc (.map #[] 0)).alloc (.cells #[.map (some w.heap.size)] 102):=by
 have hmk:∀ (w:World),(Instr.makeMap 100 none).run Tryz.prog w=.ok (.map (some w.heap.size)) (w.alloc (.map #[] 0)):=fun w=>run_makeMap _ w;go_in;go_wp2_with fail;go_ret;exact ⟨rfl,rfl⟩
theorem Lu (c f:Nat) (t:T) (l:List T) (v:Value) (xs:List Value) (A C:Option Addr) (B D:Nat) (w:World) (h:Xa w c f l v xs) (hf:f<=16) (hn:l.length<=1000000) (hd:∀ i,(h:i<l.length)->W9 l[i]) (ha:At w f (.agg #[.int .i64 (ah t),.int .i64 (aB t),.string (aF t),.slice A (nL t) B,.slice C (nK t) D]) t) (ht:W9 t) :
  Calls Tryz.prog 72 #[.pointer (some ⟨c,0,none⟩),.agg #[.int .i64 (ah t),.int .i64 (aB t),.string (aF t),.slice A (nL t) B,.slice C (nK t) D]] w (vY w c t l v xs [.int .i64 (ah t),.int .i64 (aB t),.string (aF t),.slice A (nL t) B,.slice C (nK t) D]):=by
 obtain ⟨iV,G8,G9,Hf,Ho⟩:=info_parts yg;obtain ⟨hot,k,hk,hkl⟩:=ht;have HB1:=aj (bG w (vC t A B C D));have sS:=aj (bD w (.int .i64 (ah t)) (.int .i64 (aB t)) (.string (aF t)) (.slice A (nL t) B) (.slice C (nK t) D));have HI:=aj (BD _ _ t k _ (ha.keep HB1.out) hk hkl);have aal:Hid (Gs t=elt t k):=by show _=_;unfold Gs;rw [hk];rfl
 have aam:=aj h
 have HH:Hid (∀ (w':World) (gx:Nat) (vx:Value),Below w.heap.size w w'->At w' gx vx (elt t k)->Calls Tryz.prog 118 #[.pointer (some ⟨c,0,none⟩),vx] w' fun e w2=>e=.returned (.bool (bg (iK (Gs t)) (dU 5 0 ByteArray.empty l []) l.length))/\Below w'.heap.size w' w2):=fun w' gx vx hb hx=>by
  obtain ⟨La,Lc,rfl,hel⟩:=(h.keep hb).elems;have hc:=(h.keep hb).cell;have e:=aal.out;rw [e]
  exact Pn c f gx (dU 5 0 ByteArray.empty l []) (elt t k) La Lc vx w' hc (h.keep hb).low hel (by rw [cK];exact hn) hf (fun i hi=>by
   rw [cK] at hi;have e:elt (dU 5 0 ByteArray.empty l []) i=l[i]:=by rw [pO,List.getD_eq_getElem?_getD,List.getElem?_eq_getElem hi];rfl
   rw [e];exact hd i hi) hx (hot.elt hkl)
 clear h ha hot hk hkl hd aal;go_in;go_wp2_with fail;refine HI.out.mono ?_;rintro e w2 ⟨b2,g',A2,B2,C2,D2,hg2,rfl,ha2⟩;have HB2:=aj (HB1.out.trans (b2.mono HB1.out.size));have yS:=aj (sS.out.stay b2);have HC:=aj (HH.out w2 g' _ HB2.out ha2);clear b2 ha2 hg2 HI HH;cases hany:bg (iK (Gs t)) (dU 5 0 ByteArray.empty l []) l.length with
 | true =>
  rw [hany] at HC;have Vx:=aj hany;clear hany;go_wp2_with fail;refine HC.out.mono ?_;rintro e w3 ⟨rfl,b3⟩;have HB3:=aj (HB2.out.trans (b3.mono HB2.out.size));clear b3 HC;go_wp2_with fail;go_ret;exact .inl ⟨HB3.out,Vx.out,rfl⟩
 | false =>
  rw [hany] at HC;have Vx:=aj hany;clear hany;go_wp2_with fail;refine HC.out.mono ?_;rintro e w3 ⟨rfl,b3⟩;have HB3:=aj (HB2.out.trans (b3.mono HB2.out.size));have pI:=aj (yS.out.stay b3);have Xb:=aj (aam.out.keep HB3.out);obtain ⟨La,Lc,rfl⟩:=aJ Xb.out.row;have hc0:=Xb.out.cell;clear b3 HC yS sS HB1 aam;by_cases X8:60<=l.length
  ·have e60:(60:Int)<=(l.length:Int):=by omega
   go_wp2_with fail;go_ret;exact .inr (.inl ⟨HB3.out,Vx.out,X8,rfl⟩)
  ·have e60:¬ (60:Int)<=(l.length:Int):=by omega
   have oM:=aj (bG w3 (.cells #[.int .i64 0,.int .i64 0,.string ⟨#[]⟩,.slice none 0 0,.slice none 0 0] 25));have aan:=aj (Xb.out.keep oM.out);have Po:=aj (pI.out.stay oM.out);have Xc:=aj (aan.out.keep (ak _));have Y1:=aj (Po.out.stay (ak _));have agc:=aan.out.cell;have hnn:(l.length:Int)<(l.length:Int)+1:=by omega
   have HXl:Hid (xs.length=l.length*5):=Xb.out.row.1
   have HGc:Hid (∀ g,((Value.slice La l.length Lc).ownBlock=some g\/g=w3.heap.size+1)->g≠c):=fun g hg e=>by
    subst e;rcases hg with hg | hg
    ·exact Xb.out.apart hg
    ·have:=Xb.out.low;omega
   have r0:=pI.out.q0;have r1:=pI.out.q1;have r2:=pI.out.q2;have r3:=pI.out.q3;have r4:=pI.out.q4;have ra0:=Po.out.q0;have ra1:=Po.out.q1;have ra2:=Po.out.q2;have ra3:=Po.out.q3;have ra4:=Po.out.q4;go_wp2_with fail
   go_region_law (refine step_append_lies _ (by rfl) _ _ _ (by rfl) 0 25 iV _ 5 80 Tryz.underlying22 G8 G9 Hf Ho rfl (by omega) (.slice La l.length Lc) l.length xs (by rfl) Xc.out.row ⟨w3.heap.size,0,none⟩ 1 1 [.int .i64 0,.int .i64 0,.string ⟨#[]⟩,.slice none 0 0,.slice none 0 0] (by rfl) (by rfl) (World.news_of_block (cs:=#[.int .i64 0,.int .i64 0,.string ⟨#[]⟩,.slice none 0 0,.slice none 0 0]) (t:=25) (fr:=(0,0)) (heap_alloc_new w3 _)) (by simp [Value.oneCell']) (by omega) (by unfold maxLen;omega) (by omega) (Nat.zero_le _) (w3.heap.size+1) (by simp) ?_;intro g cap w6 hown6 cu bI Cz;have hgc:g≠c:=HGc.out g bI;have hcg:c≠g:=fun e=>hgc e.symm;have pX:=aj (cu.block c Xc.out.low (fun e=>Xc.out.apart e.symm));have c6:=(aC pX.out 0).trans Xc.out.cell;have f6:=(World.frozen?_of_block (a:=⟨c,0,none⟩) pX.out).trans Xc.out.free;have y0:w6.cell? ⟨g,l.length*5,none⟩=some (.int .i64 0):=iR hown6 HXl.out 0 (by omega) rfl;have z0:w6.frozen? ⟨g,l.length*5,none⟩=false:=hown6.frozenAt _;have y1:w6.cell? ⟨g,l.length*5+1,none⟩=some (.int .i64 0):=iR hown6 HXl.out 1 (by omega) rfl;have z1:w6.frozen? ⟨g,l.length*5+1,none⟩=false:=hown6.frozenAt _;have y2:w6.cell? ⟨g,l.length*5+2,none⟩=some (.string ⟨#[]⟩):=iR hown6 HXl.out 2 (by omega) rfl;have z2:w6.frozen? ⟨g,l.length*5+2,none⟩=false:=hown6.frozenAt _;have y3:w6.cell? ⟨g,l.length*5+3,none⟩=some (.slice none 0 0):=iR hown6 HXl.out 3 (by omega) rfl;have z3:w6.frozen? ⟨g,l.length*5+3,none⟩=false:=hown6.frozenAt _;have y4:w6.cell? ⟨g,l.length*5+4,none⟩=some (.slice none 0 0):=iR hown6 HXl.out 4 (by omega) rfl;have z4:w6.frozen? ⟨g,l.length*5+4,none⟩=false:=hown6.frozenAt _)
   all_goals
    have HF:=aj (Lp.mk (w:=w) (lt:=Xb.out.row.1) hown6 cu ((HB3.out.trans (oM.out.mono HB3.out.size)).drew) (bI.imp id (fun e=>by have:=HB3.out.size;omega)) c6 f6 hgc Xb.out.apart);clear hown6 cu bI Cz y0 y1 y2 y3 y4 z0 z1 z2 z3 z4 c6 f6 hgc hcg pX;go_wp2_with fail;go_ret;have HFA:=aj (HF.out.acS (.int .i64 (ah t)) (.int .i64 (aB t)) (.string (aF t)) (.slice A (nL t) B) (.slice C (nK t) D));have HFB:=aj (HF.out.acT (.int .i64 (ah t)) (.int .i64 (aB t)) (.string (aF t)) (.slice A (nL t) B) (.slice C (nK t) D));unfold eu at HFA HFB;unfold vY;refine .inr (.inr ⟨?_,Vx.out,by omega,rfl,g,cap,?_⟩)
    ·first | with_reducible exact HFA.out.1 | with_reducible exact HFB.out.1
    ·first | with_reducible exact HFA.out.2 | with_reducible exact HFB.out.2
end Go.Proofs.YtknakfpciccoaaaGreatDoor
/- Create. -/
namespace Go.Proofs.YtknakfpciccoaaaGreatDoor
open Go.RowKit Go.Maps Go.WideMaps
def o7 (x:ByteArray):Lit:=.string x.data.toList
def I6 (w:World) (p m n:Nat) (D:DataW Unit) (x:ByteArray) (w':World):Prop :=
 ∃ c:Nat,w.heap.size<=c/\c<w'.heap.size/\gY w' p m (n+1) (D.put (o7 x) (.lit (.int .i64 c)))/\w'.cell? ⟨c,0,none⟩=some (.slice none 0 0)/\w'.frozen? ⟨c,0,none⟩=false/\sU m none w w'
theorem NR {w W w':World} {p m n:Nat} {D:DataW Unit} {x:ByteArray} {c:Nat} (hst:gY w p m n D) (hpm:p≠m) (hB:Below w.heap.size w W) (hc:w.heap.size<=c) (hcl:c<W.heap.size) (c0:W.cell? ⟨c,0,none⟩=some (.slice none 0 0)) (f0:W.frozen? ⟨c,0,none⟩=false)
  (hown:w'.ownsMap Tryz.prog 9 SG m (n+1) (D.put (o7 x) (.lit (.int .i64 c)))) (hG:W.grownBy w' (some m)):I6 w p m n D x w':=by
 have hml:=hst.own.lt;have hs:=hG.size;have hs2:=hB.size;have hp:=hst.low;have hpb:w'.heap[p]?=w.heap[p]?:=(hG.block p (by omega) (by simpa using hpm)).trans (hB.block p hp);have hcb:w'.heap[c]?=W.heap[c]?:=hG.block c hcl (by simp;omega);exact ⟨c,hc,by omega,⟨(aC hpb 0).trans hst.cell,by omega,hown⟩,(aC hcb 0).trans c0,(World.frozen?_of_block (a:=⟨c,0,none⟩) hcb).trans f0,hG.os.trans hB.os,hG.tape.trans hB.tape,hG.output.trans hB.output,by omega,fun b hb h1 _=>(hG.block b (by omega) (by simpa using h1)).trans (hB.block b hb)⟩
def Vy (w:World) (p m n:Nat) (D:DataW Unit) (x:ByteArray) (e:Ending) (w':World):Prop :=
 (oZ x=false/\e=.returned (.int .i64 10)/\w'=w)\/(oZ x=true/\(∃ c:Nat,qC D x=.lit (.int .i64 c))/\e=.returned (.int .i64 11)/\w'=w)\/(oZ x=true/\qC D x=.nil/\6<=Maps.size D/\e=.returned (.int .i64 12)/\w'=w) \/
 (oZ x=true/\qC D x=.nil/\Maps.size D<6/\e=.returned (.int .i64 0)/\I6 w p m n D x w')
theorem Lx (p m n:Nat) (D:DataW Unit) (x:ByteArray) (w:World) (hx:x.size<=140737488355328) (hn:n<=1000000) (hst:gY w p m n D) (hpm:p≠m) :
  Calls Tryz.prog 37 #[.pointer (some ⟨p,0,none⟩),.string x] w (Vy w p m n D x):=by
 have HI:=aj (Ls x w hx);have zJ:=aj hst;have Hpm:=aj hpm;cases hnm:oZ x with
 | false =>
  rw [hnm] at HI;have Hn:=aj hnm;clear hnm hst hpm;go_in;go_wp2_with fail;refine HI.out.mono ?_;rintro e w2 ⟨rfl,rfl⟩;go_wp2_with fail;go_ret;exact .inl ⟨Hn.out,rfl,rfl⟩
 | true =>
  rw [hnm] at HI;have Hn:=aj hnm;have c0:=hst.cell;have hlen:∀ ty,(Builtin.len_ #[100] ty #[.map (some m)]).run Tryz.prog w=.ok (.int .i64 (Maps.size D)) w:=fun ty=>hst.own.len Tryz.underlying100 ty;clear hnm hpm;rcases hst.look x hx with ⟨hrun,hat⟩ | ⟨c,hrun,hat⟩
  ·have xu:=aj hat;clear hat hst;by_cases h6:6<=Maps.size D
   ·have y6:(6:Int)<=(Maps.size D:Int):=by omega
    have H6:=aj h6;clear h6;go_in;go_wp2_with fail;refine HI.out.mono ?_;rintro e w2 ⟨rfl,rfl⟩;go_wp2_with fail;go_ret;exact .inr (.inr (.inl ⟨Hn.out,xu.out,H6.out,rfl,rfl⟩))
   ·have y6:¬ (6:Int)<=(Maps.size D:Int):=by omega
    have H6:=aj (Nat.lt_of_not_le h6);clear h6;go_in;go_wp2_with fail;refine HI.out.mono ?_;rintro e w2 ⟨rfl,rfl⟩;go_wp2_with fail;have I7:=aj (bG w2 (.cells #[.slice none 0 0] 98));have qH:=aj (zJ.out.keep (ak _));have HSa:=aj ((zJ.out.keep I7.out).keep (ak _));have c0a:=(zJ.out.keep I7.out).cell;have Iq:=aj (ak w2);have jQ:=aj I7.out.drew;have hkey:keyOf Tryz.prog 9 (.string x)=some (o7 x):=keyOf_string_mk Tryz.underlying9 (by unfold maxLen;omega);have Ky:=aj hkey;clear hkey hrun hlen HI;go_region_law (go_simp;go_wp2_with (go_at_call 70;refine (Oy x _ hx).mono ?_;rintro e w3 ⟨rfl,b3⟩;have JV:Hid (gY w3 p m n D):=(by first | exact qH.out.keep b3 | exact HSa.out.keep b3);have HB3:Hid (Below w2.heap.size w2 w3):=(by first | exact Iq.out.trans (b3.mono Iq.out.size) | exact jQ.out.trans (b3.mono jQ.out.size));have c3:=JV.out.cell;have c3a:=(JV.out.keep ((Below.refl w3.heap.size w3).alloc (Nat.le_refl _) (.cells #[.slice none 0 0] 98))).cell;obtain ⟨w6,aap,hown6,gQ⟩:=JV.out.own.update Kl Tryz.underlying100 (by unfold maxLen;omega) (val:=.pointer (some ⟨w2.heap.size,0,none⟩)) (d:=.lit (.int .i64 (w2.heap.size:Nat))) (ps:=[]) Ky.out rfl;obtain ⟨w7,aaq,yh,hG7⟩:=(JV.out.own.alloc (.cells #[.slice none 0 0] 98)).update Kl Tryz.underlying100 (by unfold maxLen;omega) (val:=.pointer (some ⟨w3.heap.size,0,none⟩)) (d:=.lit (.int .i64 (w3.heap.size:Nat))) (ps:=[]) Ky.out rfl))
    all_goals
     have HF:Hid (I6 w2 p m n D x w7):=NR zJ.out Hpm.out (HB3.out.alloc HB3.out.size (.cells #[.slice none 0 0] 98)) HB3.out.size (by simp) (by simp [go_sem]) (by simp [go_sem]) yh hG7;have HG:Hid (w2.heap.size<w3.heap.size->w3.cell? ⟨w2.heap.size,0,none⟩=some (.slice none 0 0)->w3.frozen? ⟨w2.heap.size,0,none⟩=false->I6 w2 p m n D x w6):=fun k1 k2 k3=>NR zJ.out Hpm.out HB3.out (Nat.le_refl _) k1 k2 k3 hown6 gQ;have HJ:=aj b3;clear hown6 gQ aap yh hG7 aaq b3 c3 c3a JV HB3;go_wp2_with fail;go_ret
     first
      | exact .inr (.inr (.inr ⟨Hn.out,xu.out,H6.out,rfl,HF.out⟩))
      | exact .inr (.inr (.inr ⟨Hn.out,xu.out,H6.out,rfl,HG.out (Nat.lt_of_lt_of_le (by simp) HJ.out.size) ((HJ.out.cell (p:=⟨w2.heap.size,0,none⟩) (by simp)).trans (by simp [go_sem])) ((HJ.out.frozen (p:=⟨w2.heap.size,0,none⟩) (by simp)).trans (by simp [go_sem]))⟩))
  ·have xu:=aj hat;clear hat hst;go_in;go_wp2_with fail;refine HI.out.mono ?_;rintro e w2 ⟨rfl,rfl⟩;go_wp2_with fail;go_ret;exact .inr (.inl ⟨Hn.out,⟨c,xu.out⟩,rfl,rfl⟩)
end Go.Proofs.YtknakfpciccoaaaGreatDoor
/- Insert. -/
namespace Go.Proofs.YtknakfpciccoaaaGreatDoor
open Go.RowKit Go.Maps Go.WideMaps
def jq (s:ByteArray):Option Int:=if eJ s≠0 then some (eJ s) else if iG (tJ s)=false then some 7 else if jI (tJ s)=true then some 15 else none
def X9 (w:World) (x s:ByteArray) (Dm:DataW Unit) (lf:Nat->List T) (vf:Nat->Value) (xf:Nat->List Value) (e:Ending) (w':World):Prop :=
 (Below w.heap.size w w'/\∃ er,jq s=some er/\e=.returned (.int .i64 er)) \/
 (Below w.heap.size w w'/\jq s=none/\qC Dm x=.nil/\e=.returned (.int .i64 10)) \/
 (jq s=none/\∃ c:Nat,qC Dm x=.lit (.int .i64 c)/\∃ w1 A B C D,Below w.heap.size w w1/\nu (bZ w w1) w1 13 (.agg #[.int .i64 (ah (tJ s)),.int .i64 (aB (tJ s)),.string (aF (tJ s)),.slice A (nL (tJ s)) B,.slice C (nK (tJ s)) D]) (tJ s)/\vY w1 c (tJ s) (lf c) (vf c) (xf c) [.int .i64 (ah (tJ s)),.int .i64 (aB (tJ s)),.string (aF (tJ s)),.slice A (nL (tJ s)) B,.slice C (nK (tJ s)) D] e w')
theorem vY.shape {w:World} {c:Nat} {t:T} {l:List T} {v:Value} {xs cs:List Value} {e:Ending} {w':World} (h:vY w c t l v xs cs e w'):∃ er:Int,e=.returned (.int .i64 er):=by
 rcases h with ⟨_,_,rfl⟩ | ⟨_,_,_,rfl⟩ | ⟨_,_,_,rfl,_⟩<;>exact ⟨_,rfl⟩
theorem I8 {Tb:World->Prop} (hA:dS Tb) (p m n:Nat) (Dm:DataW Unit) (lf:Nat->List T) (vf:Nat->Value) (xf:Nat->List Value) (x s:ByteArray) (w:World) (hs:s.size<=140737488355328) (hx:x.size<=140737488355328) (hst:gY w p m n Dm)
  (hc:∀ c:Nat,qC Dm x=.lit (.int .i64 c)->Xa w c 13 (lf c) (vf c) (xf c)/\(lf c).length<=1000000/\∀ i,(h:i<(lf c).length)->W9 (lf c)[i]) (hT:Tb w) :
  Calls Tryz.prog 38 #[.pointer (some ⟨p,0,none⟩),.string x,.string s] w (X9 w x s Dm lf vf xf):=by
 have HD:=aj (I5 hA.valid hA.dec hA.int hA.lies s w hs hT);have Hc:=aj hc;have zJ:=aj hst;clear hT hc hst hA;go_in;go_wp2_with fail;refine HD.out.mono ?_;rintro e w1 ⟨b1,⟨h1,rfl⟩ | ⟨h1,h2,rfl⟩ | ⟨h1,h2,h3,rfl⟩ | ⟨h1,h2,h3,A,B,C,D,rfl,ha⟩⟩
 ·have ez:(eJ s==0)=false:=by simpa using h1
  have HE:Hid (jq s=some (eJ s)):=by show _=_;unfold jq;rw [if_pos h1]
  have HB:=aj (b1.alloc b1.size (.cells #[.int .i64 0,.int .i64 0,.string ⟨#[]⟩,.slice none 0 0,.slice none 0 0] 25));unfold kT;clear h1 b1 HD;go_wp2_with fail;go_ret;exact .inl ⟨HB.out,_,HE.out,rfl⟩
 ·have HE:Hid (jq s=some 7):=by show _=_;unfold jq;rw [if_neg (by simpa using h1),if_pos h2]
  have HB:=aj (b1.alloc b1.size (.cells #[.int .i64 0,.int .i64 0,.string ⟨#[]⟩,.slice none 0 0,.slice none 0 0] 25));unfold kT;clear h1 h2 b1 HD;go_wp2_with fail;go_ret;exact .inl ⟨HB.out,_,HE.out,rfl⟩
 ·have HE:Hid (jq s=some 15):=by show _=_;unfold jq;rw [if_neg (by simpa using h1),if_neg (by rw [h2];simp),if_pos h3]
  have HB:=aj (b1.alloc b1.size (.cells #[.int .i64 0,.int .i64 0,.string ⟨#[]⟩,.slice none 0 0,.slice none 0 0] 25));unfold kT;clear h1 h2 h3 b1 HD;go_wp2_with fail;go_ret;exact .inl ⟨HB.out,_,HE.out,rfl⟩
 ·have HE:Hid (jq s=none):=by show _=_;unfold jq;rw [if_neg (by simpa using h1),if_neg (by rw [h2];simp),if_neg (by rw [h3];simp)]
  have acW:=aj (xD (gZ h1) h2);have I7:=aj (bG w1 (vC (tJ s) A B C D));have HB:=aj (b1.trans (I7.out.mono b1.size));have xu:Hid (nu (bZ w (w1.alloc (vC (tJ s) A B C D))) (w1.alloc (vC (tJ s) A B C D)) 13 (.agg #[.int .i64 (ah (tJ s)),.int .i64 (aB (tJ s)),.string (aF (tJ s)),.slice A (nL (tJ s)) B,.slice C (nK (tJ s)) D]) (tJ s)):=ha.move I7.out.size (fun b hb hp=>⟨⟨hp.1,Nat.lt_of_lt_of_le hb I7.out.size⟩,I7.out.block b hb⟩);have HS2:=aj (zJ.out.keep HB.out);have c0:=HS2.out.cell;clear h1 h2 h3 b1 HD ha;rcases HS2.out.look x hx with ⟨hrun,hat⟩ | ⟨c,hrun,hat⟩
  ·have HN:=aj hat;clear hat;go_wp2_with fail;go_ret;exact .inr (.inl ⟨HB.out,HE.out,HN.out,rfl⟩)
  ·obtain ⟨Vz,hn,hd⟩:=Hc.out c hat;have HN:=aj hat;have HIn:=aj (Lu c 13 (tJ s) (lf c) (vf c) (xf c) A C B D _ (Vz.keep HB.out) (by omega) hn hd xu.out.at acW.out);clear hat Vz hn hd Hc;go_wp2_with fail;refine HIn.out.mono ?_;intro e w2 hi;obtain ⟨er,rfl⟩:=hi.shape;have HI2:=aj hi;clear hi HIn hrun;go_wp2_with fail;go_ret;exact .inr (.inr ⟨HE.out,c,HN.out,_,A,B,C,D,HB.out,xu.out,HI2.out⟩)
end Go.Proofs.YtknakfpciccoaaaGreatDoor
