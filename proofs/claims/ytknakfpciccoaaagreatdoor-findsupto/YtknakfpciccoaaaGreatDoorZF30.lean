import Derived.Test.YtknakfpciccoaaaGreatDoorZF27
import Derived.Test.YtknakfpciccoaaaGreatDoorZF29
/- The reference's store: how it lies; find. -/
set_option maxHeartbeats 4000000
set_option maxRecDepth 100000
namespace Go.Proofs.YtknakfpciccoaaaGreatDoor
open Go.RowKit
theorem Tv:(Tryz.prog.info? 159).map (fun i=>(i.zero,i.size,i.bytes))=some (some (.agg #[.string ⟨#[]⟩,.slice none 0 0]),2,40):=by kernel_rfl
structure RC where
 nm:ByteArray
 docs:List T
 dv:Value
 dx:List Value
def tT (r:RC):List Value:=[.string r.nm,r.dv]
def gN (r:RC):ByteArray×List T:=(r.nm,r.docs)
theorem FW:∀ l:List RC,(l.flatMap tT).length=l.length*2
 | []=>rfl
 | r::l=>by rw [List.flatMap_cons,List.length_append,FW l];show 2+_=_;rw [List.length_cons];omega
theorem Tw:∀ (l:List RC) (i:Nat) (r:RC),l[i]?=some r->(l.flatMap tT)[i*2]?=some (.string r.nm)/\(l.flatMap tT)[i*2+1]?=some r.dv
 | [],i,r,h=>by simp at h
 | a::l,0,r,h=>by cases h;exact ⟨rfl,rfl⟩
 | a::l,i+1,r,h=>by
  have:=Tw l i r (by simpa using h);rw [List.flatMap_cons,show (i+1)*2=i*2+2 by omega];exact this
theorem Ob:∀ (l:List RC) (i:Nat),(l.take i).flatMap tT=(l.flatMap tT).take (i*2)
 | [],i=>by simp
 | a::l,0=>rfl
 | a::l,i+1=>by
  rw [List.take_succ_cons,List.flatMap_cons,List.flatMap_cons,Ob l i,show (i+1)*2=i*2+2 by omega];rfl
theorem Oc:∀ (l:List RC) (i:Nat),(l.drop i).flatMap tT=(l.flatMap tT).drop (i*2)
 | [],i=>by simp
 | a::l,0=>rfl
 | a::l,i+1=>by
  rw [List.drop_succ_cons,List.flatMap_cons,Oc l i,show (i+1)*2=i*2+2 by omega];rfl
theorem Tx:∀ (l:List RC) (i:Nat) (r r':RC),l[i]?=some r->r'.nm=r.nm->(l.set i r').flatMap tT=(l.flatMap tT).set (i*2+1) r'.dv
 | [],i,r,r',h,_=>by simp at h
 | a::l,0,r,r',h,e=>by
  cases h;rw [List.set_cons_zero,List.flatMap_cons,List.flatMap_cons];show [.string r'.nm,r'.dv]++_=([.string a.nm,a.dv]++_).set 1 _;rw [e];rfl
 | a::l,i+1,r,r',h,e=>by
  rw [List.set_cons_succ,List.flatMap_cons,List.flatMap_cons,Tx l i r r' (by simpa using h) e,show (i+1)*2+1=i*2+1+2 by omega];rfl
structure Yg (L:Nat->Nat) (w:World) (r:RC):Prop where
 row:w.ownsRow 0 25 5 r.dv r.docs.length r.dx
 fP:∀ b,r.dv.ownBlock=some b->L b=4
 at_:∀ i,(h:i<r.docs.length)->nu (fun b=>L b=1) w 13 (fv r.dx i) r.docs[i]
theorem Yg.move {L L':Nat->Nat} {w w':World} {r:RC} (h:Yg L w r) (hs:w.heap.size<=w'.heap.size) (hb:∀ b,L b=1\/(L b=4/\r.dv.ownBlock=some b)->L' b=L b/\w'.heap[b]?=w.heap[b]?):Yg L' w' r:=by
 refine ⟨bP h.row fun b e=>(hb b (.inr ⟨h.fP b e,e⟩)).2,fun b e=>(hb b (.inr ⟨h.fP b e,e⟩)).1.trans (h.fP b e),fun i hi=>(h.at_ i hi).move hs fun b _ hp=>?_⟩;obtain ⟨k1,k2⟩:=hb b (.inl hp);exact ⟨k1.trans hp,k2⟩
structure CZ (L:Nat->Nat) (w:World) (p:Nat) (v:Value) (l:List RC):Prop where
 lp:L p=2
 cell:w.cell? ⟨p,0,none⟩=some v
 free:w.frozen? ⟨p,0,none⟩=false
 low:∀ b,L b≠0->b<w.heap.size
 row:w.ownsRow 0 159 2 v l.length (l.flatMap tT)
 fP:∀ b,v.ownBlock=some b->L b=3
 col:∀ r ∈ l,Yg L w r
 sep:l.Pairwise fun a b=>∀ g,a.dv.ownBlock=some g->b.dv.ownBlock≠some g
theorem CZ.move {L:Nat->Nat} {w w':World} {p:Nat} {v:Value} {l:List RC} (h:CZ L w p v l) (hs:w.heap.size<=w'.heap.size) (hb:∀ b,L b≠0->w'.heap[b]?=w.heap[b]?):CZ L w' p v l:=by
 have hp:=hb p (by rw [h.lp];omega);exact ⟨h.lp,(aC hp 0).trans h.cell,(World.frozen?_of_block (a:=⟨p,0,none⟩) hp).trans h.free,fun b hl=>Nat.lt_of_lt_of_le (h.low b hl) hs,bP h.row fun b e=>hb b (by rw [h.fP b e];omega),h.fP,fun r hr=>(h.col r hr).move hs fun b hl=>⟨rfl,hb b (by omega)⟩,h.sep⟩
theorem CZ.keep {L:Nat->Nat} {w w':World} {p:Nat} {v:Value} {l:List RC} (h:CZ L w p v l) (hb:Below w.heap.size w w'):CZ L w' p v l:=h.move hb.size fun b hl=>hb.block b (h.low b hl)
theorem CZ.cells {L:Nat->Nat} {w:World} {p:Nat} {v:Value} {l:List RC} (h:CZ L w p v l) {i:Nat} {r:RC} (hi:l[i]?=some r):∃ g cap,v=.slice (some ⟨g,0,none⟩) l.length cap/\g<w.heap.size/\i<l.length/\w.cell? ⟨g,i*2,none⟩=some (.string r.nm)/\w.cell? ⟨g,i*2+1,none⟩=some r.dv:=by
 have hl:i<l.length:=(List.getElem?_eq_some_iff.1 hi).1;obtain ⟨g,cap,rfl,_,hg⟩:=h.row.form (by omega);obtain ⟨h1,h2⟩:=Tw l i r hi;exact ⟨g,cap,rfl,hg,hl,by rw [h.row.cellAt _ (by omega)];exact h1,by rw [h.row.cellAt _ (by omega)];exact h2⟩
def wu (Q:Nat->Prop) (w:World) (p:Nat) (S:fH):Prop:=∃ L v l,CZ L w p v l/\(∀ b,L b≠0->Q b)/\S=l.map gN
theorem wu.mono {Q Q':Nat->Prop} {w:World} {p:Nat} {S:fH} (h:wu Q w p S) (hq:∀ b,b<w.heap.size->Q b->Q' b):wu Q' w p S:=by
 obtain ⟨L,v,l,h1,h2,h3⟩:=h;exact ⟨L,v,l,h1,fun b hb=>hq b (h1.low b hb) (h2 b hb),h3⟩
theorem wu.move {Q:Nat->Prop} {w w':World} {p:Nat} {S:fH} (h:wu Q w p S) (hs:w.heap.size<=w'.heap.size) (hb:∀ b,b<w.heap.size->Q b->w'.heap[b]?=w.heap[b]?):wu Q w' p S:=by
 obtain ⟨L,v,l,h1,h2,h3⟩:=h;exact ⟨L,v,l,h1.move hs fun b hl=>hb b (h1.low b hl) (h2 b hl),h2,h3⟩
theorem wu.new (w:World) (Q:Nat->Prop) (hQ:∀ b,w.heap.size<=b->Q b):wu Q (w.alloc (.cells #[.slice none 0 0] 130)) w.heap.size []:=by
 refine ⟨fun b=>if b=w.heap.size then 2 else 0,.slice none 0 0,[],⟨if_pos rfl,by simp [go_sem],by simp [go_sem],fun b hb=>?_,World.ownsRow_nil _ _ _ _,fun b e=>by simp [Value.ownBlock] at e,fun r hr=>(by cases hr),List.Pairwise.nil⟩,fun b hb=>?_,rfl⟩
 ·have e:b=w.heap.size:=by by_cases e:b=w.heap.size;exact e;exact absurd (if_neg e) hb
  subst e;simp
 ·have e:b=w.heap.size:=by by_cases e:b=w.heap.size;exact e;exact absurd (if_neg e) hb
  exact hQ b (by omega)
theorem BS {x:ByteArray}:∀ {l:List ByteArray} {k:Nat},l[k]?=some x->(∀ j y,j<k->l[j]?=some y->x≠y)->bT x l=some k
 | [],k,h,_=>by simp at h
 | y::l,0,h,_=>by cases h;rw [bT,if_pos rfl]
 | y::l,k+1,h,hj=>by
  rw [bT,if_neg (hj 0 y (by omega) rfl),BS (l:=l) (k:=k) (by simpa using h) (fun j z hlt hz=>hj (j+1) z (by omega) (by simpa using hz))];rfl
theorem xO {x:ByteArray}:∀ {l:List RC} {i:Nat},bT x (l.map (·.nm))=some i->∃ r,l[i]?=some r/\r.nm=x/\iA (l.map gN) x=some r.docs
 | [],i,h=>by cases h
 | a::l,i,h=>by
  rw [List.map_cons,bT] at h;by_cases e:x=a.nm
  ·rw [if_pos e] at h;cases h;exact ⟨a,rfl,e.symm,by rw [List.map_cons,iA,if_pos (show (gN a).1=x from e.symm)];rfl⟩
  ·rw [if_neg e] at h;cases hi:bT x (l.map (·.nm)) with
   | none=>rw [hi] at h;cases h
   | some k =>
    rw [hi] at h;cases h;obtain ⟨r,h1,h2,h3⟩:=xO hi;exact ⟨r,by simpa using h1,h2,by rw [List.map_cons,iA,if_neg (show ¬ (gN a).1=x from fun h=>e h.symm),h3]⟩
theorem xP {x:ByteArray}:∀ {l:List RC},bT x (l.map (·.nm))=none->iA (l.map gN) x=none
 | [],_=>rfl
 | a::l,h=>by
  rw [List.map_cons,bT] at h;by_cases e:x=a.nm
  ·rw [if_pos e] at h;cases h
  ·rw [if_neg e] at h;rw [List.map_cons,iA,if_neg (show ¬ (gN a).1=x from fun h=>e h.symm)];cases hi:bT x (l.map (·.nm)) with
   | none=>exact xP hi
   | some k=>rw [hi] at h;cases h
theorem FX {x:ByteArray} {r':RC} (hr:r'.nm=x):∀ {l:List RC} {i:Nat},bT x (l.map (·.nm))=some i->(l.set i r').map gN=qx (l.map gN) x r'.docs
 | [],i,h=>by cases h
 | a::l,i,h=>by
  rw [List.map_cons,bT] at h;by_cases e:x=a.nm
  ·rw [if_pos e] at h;cases h;rw [List.set_cons_zero,List.map_cons,List.map_cons,qx,if_pos (show (gN a).1=x from e.symm)];show (r'.nm,r'.docs)::_=_;rw [hr,e];rfl
  ·rw [if_neg e] at h;cases hi:bT x (l.map (·.nm)) with
   | none=>rw [hi] at h;cases h
   | some k =>
    rw [hi] at h;cases h;show (List.set (a::l) (k+1) r').map gN=_;rw [List.set_cons_succ,List.map_cons,List.map_cons,qx,if_neg (show ¬ (gN a).1=x from fun h=>e h.symm),FX hr hi]
theorem Od {x:ByteArray}:∀ {l:List RC} {i:Nat},bT x (l.map (·.nm))=some i->(l.take i++l.drop (i+1)).map gN=sV (l.map gN) x
 | [],i,h=>by cases h
 | a::l,i,h=>by
  rw [List.map_cons,bT] at h;by_cases e:x=a.nm
  ·rw [if_pos e] at h;cases h;rw [List.map_cons,sV,if_pos (show (gN a).1=x from e.symm)];rfl
  ·rw [if_neg e] at h;cases hi:bT x (l.map (·.nm)) with
   | none=>rw [hi] at h;cases h
   | some k =>
    rw [hi] at h;cases h;show (List.take (k+1) (a::l)++List.drop (k+1+1) (a::l)).map gN=_;rw [List.take_succ_cons,List.drop_succ_cons,List.cons_append,List.map_cons,List.map_cons,sV,if_neg (show ¬ (gN a).1=x from fun h=>e h.symm),Od hi]
theorem o9 {L:Nat->Nat} {w:World} {p:Nat} {v:Value} {l:List RC} (h:CZ L w p v l) (hn:l.length<=1000000) (x:ByteArray) :
  Calls Tryz.prog 131 #[.pointer (some ⟨p,0,none⟩),.string x] w fun e w'=>e=.returned (.int .i64 (jN (bT x (l.map (·.nm)))))/\w'=w:=by
 have HI:=aj h;have c0:=h.cell;obtain ⟨A,c,rfl⟩:=aJ h.row;obtain ⟨n,hl⟩:∃ n,l.length=n:=⟨_,rfl⟩;rw [hl] at c0 hn HI;have Hl:=aj hl;clear h hl;go_in;go_wp2_with fail;go_loopg [5] n (fun g i wr=>∃ k:Nat,g=n - k/\k<=n/\i=.int .i64 k/\wr=w/\Hid (∀ j y,j<k->(l.map (·.nm))[j]?=some y->x≠y))
 case atStart=>exact ⟨0,rfl,Nat.zero_le _,rfl,rfl,fun j y h=>absurd h (Nat.not_lt_zero j)⟩
 case round =>
  obtain ⟨k,rfl,hk,rfl,rfl,HN⟩:=hrel;by_cases hlt:k<n
  ·have WM:k<l.length:=by rw [Hl.out];exact hlt
   obtain ⟨g,cap,hA,hgl,_,q0,q1⟩:=HI.out.cells (List.getElem?_eq_getElem WM);have hA':A=some ⟨g,0,none⟩:=by simp only [Value.slice.injEq] at hA;exact hA.1
   subst hA';obtain ⟨y,hy⟩:∃ y,l[k].nm=y:=⟨_,rfl⟩;rw [hy] at q0;have Hy:Hid ((l.map (·.nm))[k]?=some y):=by show _=_;rw [List.getElem?_map,List.getElem?_eq_getElem WM];show some l[k].nm=_;rw [hy]
   have x1:(k:Int)<(n:Int):=by omega
   by_cases e:y=x
   ·have hb:(y.toList==x.toList)=true:=by rw [vL,e];exact decide_eq_true rfl
    have HE:Hid (bT x (l.map (·.nm))=some k):=BS (by rw [<- e];exact Hy.out) HN.out;clear hA WM hy e q1 hlt;go_wp2_with fail;go_ret;exact ⟨by rw [HE.out];rfl,rfl⟩
   ·have hb:(y.toList==x.toList)=false:=by rw [vL];exact decide_eq_false e
    have Qy:Hid (∀ j z,j<k+1->(l.map (·.nm))[j]?=some z->x≠z):=fun j z hj hz hxz=>by
     by_cases ej:j=k
     ·subst ej;rw [Hy.out] at hz;cases hz;exact e hxz.symm
     ·exact HN.out j z (by omega) hz hxz
    clear hA WM hy e q1 hlt;go_wp2_with fail;go_roundg (n - (k+1))
    case rel=>exact ⟨k+1,rfl,by omega,by go_num,rfl,Qy⟩
    case measure=>omega
  ·obtain rfl:k=n:=by omega
   have x1:¬ (k:Int)<(k:Int):=by omega
   have HE:Hid (bT x (l.map (·.nm))=none):=xI fun y hy=>by
    obtain ⟨j,hj,e⟩:=List.getElem_of_mem hy;exact HN.out j y (by rw [List.length_map,Hl.out] at hj;exact hj) (by rw [List.getElem?_eq_getElem hj,e])
   clear hlt;go_wp2_with fail;go_ret;exact ⟨by rw [HE.out];rfl,rfl⟩
theorem Tz (w:World):Calls Tryz.prog 50 #[] w fun e w'=>e=.returned (.pointer (some ⟨w.heap.size,0,none⟩))/\w'=w.alloc (.cells #[.slice none 0 0] 130):=by
 go_in;go_wp2_with fail;go_ret;exact ⟨rfl,rfl⟩
def rc0 (x:ByteArray):RC:=⟨x,[],.slice none 0 0,[]⟩
theorem CZ.put {L:Nat->Nat} {w w':World} {p:Nat} {v v':Value} {l l':List RC} (h:CZ L w p v l) (hB:sU p v.ownBlock w w') (c0:w'.cell? ⟨p,0,none⟩=some v') (f0:w'.frozen? ⟨p,0,none⟩=false) (hrow:w'.ownsRow 0 159 2 v' l'.length (l'.flatMap tT)) (hv:v'.ownBlock=v.ownBlock\/∀ b,v'.ownBlock=some b->w.heap.size<=b) (Vz:∀ r ∈ l',r ∈ l\/∃ x,r=rc0 x) (hsep:l'.Pairwise fun a b=>∀ g,a.dv.ownBlock=some g->b.dv.ownBlock≠some g) :
  ∃ L',(∀ b,L' b≠0->L b≠0\/w.heap.size<=b)/\CZ L' w' p v' l':=by
 have hpl:=h.low p (by rw [h.lp];omega);have hLo:∀ b,b<w.heap.size->(if b<w.heap.size then L b else if v'.ownBlock=some b then 3 else 0)=L b:=fun b hb=>if_pos hb;refine ⟨fun b=>if b<w.heap.size then L b else if v'.ownBlock=some b then 3 else 0,fun b hb=>?_,(hLo p hpl).trans h.lp,c0,f0,fun b hb=>?_,hrow,fun b e=>?_,fun r hr=>?_,hsep⟩
 ·by_cases e:b<w.heap.size
  ·exact .inl (by rw [<- hLo b e];exact hb)
  ·exact .inr (by omega)
 ·by_cases e:b<w.heap.size
  ·exact Nat.lt_of_lt_of_le e hB.size
  ·simp only [if_neg e] at hb;split at hb
   ·rename_i e2;exact (hrow.lt b e2).2
   ·exact absurd rfl hb
 ·show (if b<w.heap.size then L b else if v'.ownBlock=some b then 3 else 0)=3;by_cases e1:b<w.heap.size
  ·rw [if_pos e1];rcases hv with h1 | h1
   ·exact h.fP b (by rw [<- h1];exact e)
   ·have:=h1 b e;omega
  ·rw [if_neg e1,if_pos e]
 ·rcases Vz r hr with hm | ⟨x,rfl⟩
  ·refine (h.col r hm).move hB.size fun b hl=>?_;have hbl:b<w.heap.size:=h.low b (by omega);refine ⟨hLo b hbl,hB.block b hbl (fun e=>by have:=h.lp;subst e;omega) (fun e=>by have:=h.fP b e.symm;omega)⟩
  ·exact ⟨World.ownsRow_nil _ _ _ _,fun b e=>by simp [rc0,Value.ownBlock] at e,fun i hi=>absurd hi (Nat.not_lt_zero i)⟩
theorem Jo {w w6:World} {p:Nat} {v v':Value} (c0:w.cell? ⟨p,0,none⟩=some v) (f0:w.frozen? ⟨p,0,none⟩=false) (g:Option Nat) (hG:w.grownBy w6 g) (hg:g≠some p):sU p g w (w6.setCell ⟨p,0,none⟩ v')/\(w6.setCell ⟨p,0,none⟩ v').cell? ⟨p,0,none⟩=some v'/\(w6.setCell ⟨p,0,none⟩ v').frozen? ⟨p,0,none⟩=false:=by
 have hpl:p<w.heap.size:=World.block_lt_of_cell? w ⟨p,0,none⟩ c0;have hb:=hG.block p hpl (Ne.symm hg);obtain ⟨t1,t2,t3,t4⟩:=fE w6 ⟨p,0,none⟩ v';refine ⟨⟨t2.trans hG.os,t3.trans hG.tape,t4.trans hG.output,by rw [t1];exact hG.size,fun b h1 h2 h3=>?_⟩,World.cell?_setCell_same w6 ⟨p,0,none⟩ v' ((aC hb 0).trans c0),?_⟩
 ·rw [show (w6.setCell ⟨p,0,none⟩ v').heap[b]?=w6.heap[b]? from Below.heap_setCell _ _ _ _ (by simpa using h2)];exact hG.block b h1 h3
 ·rw [World.frozen?_setCell];exact (World.frozen?_of_block (a:=⟨p,0,none⟩) hb).trans f0
theorem yH {Q:Nat->Prop} {w:World} {p:Nat} {S:fH} (h:wu Q w p S) (hQ:∀ b,w.heap.size<=b->Q b) (x:ByteArray) (hx:x.size<=140737488355328) (hn:S.length<=6) :
  Calls Tryz.prog 89 #[.pointer (some ⟨p,0,none⟩),.string x] w fun e w'=>e=.returned (.int .i64 (nk S x))/\aP Q w w'/\wu Q w' p (za S x):=by
 obtain ⟨iC,Y2,Y3,Y4,Y5⟩:=info_parts Tv;have H:=aj h;obtain ⟨L,v,l,hI,xQ,rfl⟩:=h;have HI:=aj hI;have UM:=aj xQ;have Hno:Hid (∀ k:Int,nk (l.map gN) x=k->k≠0->za (l.map gN) x=l.map gN):=fun k e hk=>if_neg (by rw [e];exact hk);have xR:Hid (oZ x=false->nk (l.map gN) x=10):=fun e=>by unfold nk;rw [if_pos e]
 have HK:Hid (aP Q w w):=aP.of (Below.refl _ _);have HF:=aj (o9 hI (by rw [List.length_map] at hn;omega) x);have Yh:l.length<=6:=by rw [List.length_map] at hn;exact hn
 obtain ⟨A,c,rfl⟩:=aJ hI.row;have c0:=hI.cell;have f0:=hI.free;clear hI xQ hn;by_cases s0:x.size<1
 ·have y0:(x.size:Int)<1:=by omega
  have HE:=aj (xR.out (by unfold oZ;rw [decide_eq_false (p:=(1:Int)<=(x.size:Int)) (by omega)];simp));clear s0;go_in;go_wp2_with fail;go_ret;exact ⟨by rw [HE.out];rfl,HK.out,by rw [Hno.out 10 HE.out (by decide)];exact H.out⟩
 have y0:¬ (x.size:Int)<1:=by omega
 by_cases s1:12<x.size
 ·have y1:(12:Int)<(x.size:Int):=by omega
  have HE:=aj (xR.out (by unfold oZ;rw [decide_eq_false (p:=(x.size:Int)<=12) (by omega)];simp));clear s0 s1;go_in;go_wp2_with fail;go_ret;exact ⟨by rw [HE.out];rfl,HK.out,by rw [Hno.out 10 HE.out (by decide)];exact H.out⟩
 have y1:¬ (12:Int)<(x.size:Int):=by omega
 have HS:Hid ((1:Int)<=(x.size:Int)/\(x.size:Int)<=12):=⟨by omega,by omega⟩;clear s0 s1;go_in;go_wp2_with fail;go_loopg [5] (x.size) (fun g i wr=>∃ k:Nat,g=x.size - k/\k<=x.size/\i=.int .i64 k/\w=wr/\Hid ((x.data.toList.take k).all Lr=true))
 case atStart=>exact ⟨0,rfl,Nat.zero_le _,rfl,rfl,rfl⟩
 case round =>
  obtain ⟨k,rfl,hk,rfl,rfl,HN⟩:=hrel;by_cases hlt:k<x.size
  ·obtain ⟨z,hz⟩:∃ z:UInt8,x[k]'hlt=z:=⟨_,rfl⟩;have HZ:Hid (x.data.toList[k]?=some z):=by show _=_;rw [Array.getElem?_toList];exact vk hlt hz
   have x1:(k:Int)<(x.size:Int):=by omega
   have lz:z.toNat<256:=z.toNat_lt;by_cases h1:z.toNat<97
   ·have u1:(z.toNat:Int)<97:=by omega
    have HE:=aj (xR.out (FL HZ.out (by unfold Lr;rw [decide_eq_false (p:=97<=z.toNat) (by omega)];rfl)));clear h1;go_wp2_with fail;go_ret;exact ⟨by rw [HE.out];rfl,HK.out,by rw [Hno.out 10 HE.out (by decide)];exact H.out⟩
   ·have u1:¬ (z.toNat:Int)<97:=by omega
    by_cases h2:122<z.toNat
    ·have u2:(122:Int)<(z.toNat:Int):=by omega
     have HE:=aj (xR.out (FL HZ.out (by unfold Lr;rw [decide_eq_false (p:=z.toNat<=122) (by omega)];simp)));clear h1 h2;go_wp2_with fail;go_ret;exact ⟨by rw [HE.out];rfl,HK.out,by rw [Hno.out 10 HE.out (by decide)];exact H.out⟩
    ·have u2:¬ (122:Int)<(z.toNat:Int):=by omega
     have HM:=aj (NP HZ.out (by unfold Lr;rw [decide_eq_true (p:=97<=z.toNat) (by omega),decide_eq_true (p:=z.toNat<=122) (by omega)];rfl) HN.out);clear h1 h2;go_wp2_with fail;go_roundg (x.size - (k+1))
     case rel=>exact ⟨k+1,rfl,by omega,by go_num,rfl,HM⟩
     case measure=>omega
  ·obtain rfl:k=x.size:=by omega
   have XU:Hid (oZ x=true):=by
    show _=_;have:=HN.out;rw [List.take_of_length_le (by rw [Array.length_toList];exact Nat.le_refl _)] at this;unfold oZ;rw [this,decide_eq_true HS.out.1,decide_eq_true HS.out.2];rfl
   have x1:¬ ((x.size:Nat):Int)<((x.size:Nat):Int):=by omega
   clear hlt;go_wp2_with fail;refine HF.out.mono ?_;rintro e w2 ⟨rfl,hw2⟩;subst w2;cases hi:bT x (l.map (·.nm)) with
   | some i =>
    obtain ⟨r,_,_,hlk⟩:=xO hi;have HE:Hid (nk (l.map gN) x=11):=by show _=_;unfold nk;rw [if_neg (by rw [XU.out];simp),hlk];rfl
    have z1:(0:Int)<=(i:Int):=by omega
    clear hi hlk;unfold jN;dsimp only;go_wp2_with fail;go_ret;exact ⟨by rw [HE.out];rfl,HK.out,by rw [Hno.out 11 HE.out (by decide)];exact H.out⟩
   | none =>
    have hlk:=xP hi;have z1:¬ (0:Int)<=-1:=by omega
    unfold jN;dsimp only;by_cases h6:6<=l.length
    ·have HE:Hid (nk (l.map gN) x=12):=by show _=_;unfold nk;rw [if_neg (by rw [XU.out];simp),hlk,if_neg (by simp),if_pos (by rw [List.length_map];exact h6)]
     have z2:(6:Int)<=(l.length:Int):=by omega
     clear hi hlk h6;go_wp2_with fail;go_ret;exact ⟨by rw [HE.out];rfl,HK.out,by rw [Hno.out 12 HE.out (by decide)];exact H.out⟩
    ·have HE:Hid (nk (l.map gN) x=0):=by show _=_;unfold nk;rw [if_neg (by rw [XU.out];simp),hlk,if_neg (by simp),if_neg (by rw [List.length_map];exact h6)]
     have z2:¬ (6:Int)<=(l.length:Int):=by omega
     obtain ⟨n,hl⟩:∃ n,l.length=n:=⟨_,rfl⟩;have HA1:=aj (bJ w (.cells #[.string x,.slice none 0 0] 159));have HR1:Hid ((w.alloc (.cells #[.string x,.slice none 0 0] 159)).ownsRow 0 159 2 (.slice A n c) n (l.flatMap tT)):=by show World.ownsRow _ _ _ _ _ _ _;rw [<- hl];exact HI.out.row.alloc _
     have qd:Hid (Src Tryz.prog 2 128 (.slice (some ⟨w.heap.size,0,none⟩) 1 1) 1 [.string x,.slice none 0 0] (w.alloc (.cells #[.string x,.slice none 0 0] 159))):=Src.ofSlice _ Tryz.underlying128 ⟨w.heap.size,0,none⟩ 1 1 [.string x,.slice none 0 0] (by simp) (World.news_of_block (heap_alloc_new w _)) (by simp [Value.oneCell'])
     have Hpv:Hid ((Value.slice A n c).ownBlock≠some p):=fun e=>by
      have h1:=HI.out.fP p (by rw [hl];exact e);have h2:=HI.out.lp;omega
     rw [hl] at c0 z2 Yh;have Hl:=aj hl
     have HQ6:Hid (∀ w6:World,(w.alloc (.cells #[.string x,.slice none 0 0] 159)).grownBy w6 (Value.slice A n c).ownBlock->w6.cell? ⟨p,0,none⟩=some (.slice A n c)/\w6.frozen? ⟨p,0,none⟩=false):=fun w6 gQ=>by
      have hb:=gQ.block p (Nat.lt_of_lt_of_le (World.block_lt_of_cell? w ⟨p,0,none⟩ c0) HA1.out.size) (Ne.symm Hpv.out);exact ⟨(aC hb 0).trans ((HA1.out.cell (p:=⟨p,0,none⟩) (World.block_lt_of_cell? w ⟨p,0,none⟩ c0)).trans c0),(World.frozen?_of_block (a:=⟨p,0,none⟩) hb).trans ((HA1.out.frozen (p:=⟨p,0,none⟩) (World.block_lt_of_cell? w ⟨p,0,none⟩ c0)).trans f0)⟩
     have Hcf:=aj (And.intro c0 f0);clear hi hlk h6 hl f0;go_wp2_with (at_builtin;refine ay _ rfl (.tmp 46) (.tmp 49) 128 128 rfl 0 159 iC _ 2 40 Tryz.underlying128 Y2 Y3 Y4 Y5 rfl (.slice A n c) n (l.flatMap tT) rfl HR1.out (.slice (some ⟨w.heap.size,0,none⟩) 1 1) 1 [.string x,.slice none 0 0] rfl qd.out (by unfold maxLen;omega) (by omega) (Nat.zero_le _) ?_;intro v' w6 gU gQ bI;obtain ⟨A6,c6,rfl⟩:=aJ gU;have DI:=aj (And.intro gU (And.intro gQ bI));obtain ⟨q6,r6⟩:=HQ6.out w6 gQ;clear gU gQ bI c0);go_ret;obtain ⟨gU,gQ,bI⟩:=DI.out;have HFin:=aj (Jo (v':=.slice A6 (n+1) c6) Hcf.out.1 Hcf.out.2 (Value.slice A n c).ownBlock (dF (dG _ HA1.out) gQ) Hpv.out)
     have Vu:Hid ((w6.setCell ⟨p,0,none⟩ (.slice A6 (n+1) c6)).ownsRow 0 159 2 (.slice A6 (n+1) c6) (n+1) (l.flatMap tT++[.string x,.slice none 0 0])):=ownsRow_setCell_other (a:=⟨p,0,none⟩) gU (by
      have hpl:=HI.out.low p (by rw [HI.out.lp];omega);rcases bI with h | h
      ·rw [h];exact Hpv.out
      ·rw [h];simp;omega) _
     have Hat:Hid ((Value.slice A6 (n+1) c6).ownBlock=(Value.slice A n c).ownBlock\/∀ b,(Value.slice A6 (n+1) c6).ownBlock=some b->w.heap.size<=b):=by
      rcases bI with h | h
      ·exact .inl h
      ·exact .inr fun b e=>by rw [h] at e;simp at e;omega
     obtain ⟨hB,k0,k1⟩:=HFin.out
     obtain ⟨L',h1,h2⟩:=HI.out.put (l':=l++[rc0 x]) (by rw [Hl.out];exact hB) k0 k1 (by rw [List.length_append,Hl.out,List.flatMap_append];exact Vu.out) (by rw [Hl.out];exact Hat.out) (fun r hr=>(List.mem_append.1 hr).imp id fun h=>⟨x,by simpa using h⟩) (List.pairwise_append.2 ⟨HI.out.sep,List.pairwise_singleton _ _,fun a _ b hb g _ e=>by
      obtain rfl:b=rc0 x:=by simpa using hb
      simp [rc0,Value.ownBlock] at e⟩)
     refine ⟨by rw [HE.out];rfl,hB.q (UM.out p (by rw [HI.out.lp];omega)) (fun b e=>UM.out b (by rw [HI.out.fP b (by rw [Hl.out];exact e)];omega)),L',_,_,h2,fun b hb=>(h1 b hb).elim (UM.out b) (hQ b),?_⟩;unfold za;rw [if_pos HE.out,List.map_append];rfl
theorem TB {L:Nat->Nat} {w:World} {l:List RC} (h:∀ r ∈ l,Yg L w r):∀ u ∈ l.flatMap tT,u.oneCell'=true:=by
 intro u hu;obtain ⟨r,hr,hu⟩:=List.mem_flatMap.1 hu;obtain ⟨A,c,e⟩:=aJ (h r hr).row;rcases List.mem_cons.1 hu with rfl | hu
 ·rfl
 ·obtain rfl:u=r.dv:=by simpa using hu
  rw [e];rfl
theorem BU {w w1:World} (h:w.grownBy w1 (Value.slice none 0 0).ownBlock):Below w.heap.size w w1:=⟨h.os,h.tape,h.output,h.size,fun b hb=>h.block b hb (by simp [Value.ownBlock])⟩
theorem PN {Q:Nat->Prop} {L:Nat->Nat} {w w1 w2:World} {p:Nat} {v v1 v2:Value} {l l':List RC} {i m:Nat} {X1 X2:List Value} (hI:CZ L w p v l) (xQ:∀ b,L b≠0->Q b) (hQ:∀ b,w.heap.size<=b->Q b) (hG1:w.grownBy w1 (Value.slice none 0 0).ownBlock) (zM:w1.ownsRow w.heap.size 159 2 v1 i X1) (hG2:w1.grownBy w2 v1.ownBlock) (hO2:w2.ownsRow w.heap.size 159 2 v2 m (X1++X2)) (hl:l'.length=m) (hX:X1++X2=l'.flatMap tT) (hmem:∀ r ∈ l',r ∈ l) (hsep:l'.Pairwise fun a b=>∀ g,a.dv.ownBlock=some g->b.dv.ownBlock≠some g) :
  aP Q w (w2.setCell ⟨p,0,none⟩ v2)/\wu Q (w2.setCell ⟨p,0,none⟩ v2) p (l'.map gN):=by
 have hb1:=BU hG1;have hpl:p<w.heap.size:=World.block_lt_of_cell? w ⟨p,0,none⟩ hI.cell;have hG:w.grownBy w2 none:=⟨hG2.os.trans hb1.os,hG2.tape.trans hb1.tape,hG2.output.trans hb1.output,Nat.le_trans hb1.size hG2.size,fun b hb _=>(hG2.block b (Nat.lt_of_lt_of_le hb hb1.size) (fun e=>by have:=(zM.lt b e.symm).1;omega)).trans (hb1.block b hb)⟩;obtain ⟨hB,k0,k1⟩:=Jo (v':=v2) hI.cell hI.free none hG (by simp);have hO3:=ownsRow_setCell_other (a:=⟨p,0,none⟩) hO2 (fun e=>by have:=(hO2.lt p e).1;omega) v2;obtain ⟨L',h1,h2⟩:=hI.put (l':=l') ⟨hB.os,hB.tape,hB.output,hB.size,fun b h1 h2 _=>hB.block b h1 h2 (by simp)⟩ k0 k1 (by rw [hl,<- hX];exact mY hO3 (Nat.zero_le _)) (.inr fun b e=>(hO2.lt b e).1) (fun r hr=>.inl (hmem r hr)) hsep;exact ⟨hB.q (xQ p (by rw [hI.lp];omega)) (fun b e=>by cases e),L',_,_,h2,fun b hb=>(h1 b hb).elim (xQ b) (hQ b),rfl⟩
theorem ED {Q:Nat->Prop} {w:World} {p:Nat} {S:fH} (h:wu Q w p S) (hQ:∀ b,w.heap.size<=b->Q b) (x:ByteArray) (hn:S.length<=6) :
  Calls Tryz.prog 90 #[.pointer (some ⟨p,0,none⟩),.string x] w fun e w'=>e=.returned (.int .i64 (Jf S x))/\aP Q w w'/\wu Q w' p (sV S x):=by
 obtain ⟨iC,Y2,Y3,Y4,Y5⟩:=info_parts Tv;have H:=aj h;obtain ⟨L,v,l,hI,xQ,rfl⟩:=h;have HI:=aj hI;have UM:=aj xQ;have HF:=aj (o9 hI (by rw [List.length_map] at hn;omega) x);have Yh:l.length<=6:=by rw [List.length_map] at hn;exact hn
 have c0:=hI.cell;have f0:=hI.free;cases hi:bT x (l.map (·.nm)) with
 | none =>
  have hlk:=xP hi;have HE:Hid (Jf (l.map gN) x=10):=by show _=_;unfold Jf;rw [hlk];rfl
  have aay:Hid (sV (l.map gN) x=l.map gN):=BK hlk;rw [hi] at HF;unfold jN at HF;dsimp only at HF;clear hI xQ hn hi hlk;go_in;go_wp2_with fail;refine HF.out.mono ?_;rintro e w2 ⟨rfl,hw2⟩;subst w2;go_wp2_with fail;go_ret;exact ⟨by rw [HE.out];rfl,aP.of (Below.refl _ _),by rw [aay.out];exact H.out⟩
 | some i =>
  obtain ⟨r,hr,hrn,hlk⟩:=xO hi;have HE:Hid (Jf (l.map gN) x=0):=by show _=_;unfold Jf;rw [hlk];rfl
  have ac4:=aj (Od hi);obtain ⟨g,cap,rfl,hg,hil,_,_⟩:=hI.cells hr;rw [hi] at HF;unfold jN at HF;dsimp only at HF;obtain ⟨n,hl⟩:∃ n,l.length=n:=⟨_,rfl⟩
  have hcap:n<=cap/\cap<=maxLen:=by
   rcases hI.row.2 with ⟨e,_⟩ | ⟨g',cap',cur,e,_,_,h1,h2,_⟩
   ·cases e
   ·simp only [Value.slice.injEq] at e;obtain ⟨_,_,rfl⟩:=e;exact ⟨by omega,h2⟩
  have hmx:cap<=9223372036854775807:=by have:=hcap.2;unfold maxLen at this;omega
  have x0:¬ ((i:Int)<0):=by omega
  have x1:(i:Int)<=(cap:Int):=by omega
  have x2:(i:Int)+1<=(n:Int):=by omega
  have x3:(n:Int)<=(cap:Int):=by omega
  have Dy:Hid (Src Tryz.prog 2 128 (.slice (some ⟨g,0,none⟩) i cap) i ((l.take i).flatMap tT) w):=Src.ofSlice _ Tryz.underlying128 ⟨g,0,none⟩ i cap _ (by rw [FW,List.length_take,hl];omega) (fun j u hu=>by
   rw [Ob,List.getElem?_take] at hu;split at hu
   ·rw [show (⟨g,0,none⟩:Addr).add j=⟨g,j,none⟩ by unfold Addr.add;by_cases e:j=0<;>simp [e]];rw [hI.row.cellAt _ (by omega)];exact hu
   ·cases hu) (fun u hu=>TB hI.col u (by obtain ⟨r,hr,hu⟩:=List.mem_flatMap.1 hu;exact List.mem_flatMap.2 ⟨r,List.mem_of_mem_take hr,hu⟩))
  have HP2:Hid (∀ (w1 w2:World) (v1:Value),w.grownBy w1 (Value.slice none 0 0).ownBlock->w1.ownsRow w.heap.size 159 2 v1 i ((l.take i).flatMap tT)->w1.grownBy w2 v1.ownBlock->w2.cell? ⟨p,0,none⟩=some (.slice (some ⟨g,0,none⟩) n cap)/\w2.frozen? ⟨p,0,none⟩=false):=fun w1 w2 v1 hG hO hG2=>by
   have hpl:p<w.heap.size:=World.block_lt_of_cell? w ⟨p,0,none⟩ c0;have hb:=(hG2.block p (Nat.lt_of_lt_of_le hpl hG.size) (fun e=>by have:=(hO.lt p e.symm).1;omega)).trans (hG.block p hpl (by simp [Value.ownBlock]));exact ⟨(aC hb 0).trans (by rw [<- hl];exact c0),(World.frozen?_of_block (a:=⟨p,0,none⟩) hb).trans f0⟩
  have HP:Hid (∀ w1:World,w.grownBy w1 (Value.slice none 0 0).ownBlock->w1.cell? ⟨p,0,none⟩=some (.slice (some ⟨g,0,none⟩) n cap)/\w1.frozen? ⟨p,0,none⟩=false):=fun w1 hG=>by
   have hb:=hG.block p (World.block_lt_of_cell? w ⟨p,0,none⟩ c0) (by simp [Value.ownBlock]);exact ⟨(aC hb 0).trans (by rw [<- hl];exact c0),(World.frozen?_of_block (a:=⟨p,0,none⟩) hb).trans f0⟩
  have hSx:∀ (w1:World) (AD:Addr) (cp:Nat),Below w.heap.size w w1->(n - (i+1)=0\/AD=⟨g,(i+1)*2,none⟩)->Src Tryz.prog 2 128 (.slice (some AD) (n - (i+1)) cp) (n - (i+1)) ((l.drop (i+1)).flatMap tT) w1:=fun w1 AD cp hb hAD=>Src.ofSlice _ Tryz.underlying128 AD _ cp _ (by rw [FW,List.length_drop,hl]) (fun j u hu=>by
   rw [Oc,List.getElem?_drop] at hu;have hj:=(List.getElem?_eq_some_iff.1 hu).1;rw [FW,hl] at hj;rcases hAD with h0 | rfl
   ·omega
   ·rw [show (⟨g,(i+1)*2,none⟩:Addr).add j=⟨g,(i+1)*2+j,none⟩ by unfold Addr.add;by_cases e:j=0<;>simp [e]];refine (hb.cell (p:=⟨g,(i+1)*2+j,none⟩) hg).trans ?_;rw [hI.row.cellAt _ (by omega)];exact hu) (fun u hu=>TB hI.col u (by obtain ⟨r,hr,hu⟩:=List.mem_flatMap.1 hu;exact List.mem_flatMap.2 ⟨r,List.mem_of_mem_drop hr,hu⟩))
  have ac6:Hid ((l.take i++l.drop (i+1)).Pairwise fun a b=>∀ g,a.dv.ownBlock=some g->b.dv.ownBlock≠some g):=hI.sep.sublist (by
   have h1:(l.drop (i+1)).Sublist (l.drop i):=by rw [<- List.drop_drop];exact List.drop_sublist _ _
   have h2:=(List.Sublist.refl (l.take i)).append h1
   rwa [List.take_append_drop] at h2)
  have ac7:Hid (∀ r ∈ l.take i++l.drop (i+1),r ∈ l):=fun r hr=>(List.mem_append.1 hr).elim List.mem_of_mem_take List.mem_of_mem_drop;have Hlen:Hid ((l.take i++l.drop (i+1)).length=i+(n - (i+1))):=by show _=_;rw [List.length_append,List.length_take,List.length_drop,hl];omega
  rw [hl] at c0 Yh hil;have Hl:=aj hl;have Hcf:=aj (And.intro c0 f0)
  have ac8:(cap=i+1/\Hid (∀ w1:World,Below w.heap.size w w1->Src Tryz.prog 2 128 (.slice (some ⟨g,0,none⟩) 0 0) 0 ((l.drop (i+1)).flatMap tT) w1)/\Hid ((l.take i++l.drop (i+1)).length=i+0))\/(¬ cap=i+1/\Hid (∀ w1:World,Below w.heap.size w w1->Src Tryz.prog 2 128 (.slice (some ⟨g,(i+1)*2,none⟩) (n - (i+1)) (cap - (i+1))) (n - (i+1)) ((l.drop (i+1)).flatMap tT) w1)/\Hid ((l.take i++l.drop (i+1)).length=i+(n - (i+1)))):=by
   by_cases hc:cap=i+1
   ·have e:n - (i+1)=0:=by omega
    refine .inl ⟨hc,fun w1 hb=>?_,by rw [<- e];exact Hlen⟩;have h1:=hSx w1 ⟨g,0,none⟩ 0 hb (.inl e);rw [e] at h1;exact h1
   ·exact .inr ⟨hc,fun w1 hb=>hSx w1 _ _ hb (.inr rfl),Hlen⟩
  clear hI xQ hn hi hlk hr hrn hl hSx f0 Hlen;rcases ac8 with ⟨rfl,X3,HLn⟩ | ⟨hc,X3,HLn⟩
  all_goals
   go_in;go_wp2_with fail;refine HF.out.mono ?_;rintro e w2 ⟨rfl,hw2⟩;subst w2;go_wp2_with (first | (at_builtin;refine ay _ rfl (.tmp 12) (.tmp 18) 128 128 rfl w.heap.size 159 iC _ 2 40 Tryz.underlying128 Y2 Y3 Y4 Y5 rfl (.slice none 0 0) 0 [] rfl (World.ownsRow_nil _ _ _ _) _ i ((l.take i).flatMap tT) rfl Dy.out (by unfold maxLen;omega) (by omega) (Nat.le_refl _) ?_;intro v1 w1 zM hG1 qp;obtain ⟨A1,k1,rfl⟩:=aJ zM;have q8:=aj (And.intro zM hG1);obtain ⟨c1,f1⟩:=HP.out w1 hG1;have HS2:=aj (X3.out w1 (BU hG1));have hle1:=hG1.size;have sO:Hid (w1.ownsRow w.heap.size 159 2 (.slice A1 i k1) i ((l.take i).flatMap tT)):=aj (by simpa using zM);clear zM hG1 qp c0) | (at_builtin;refine ay _ rfl (.tmp 20) (.tmp 27) 128 128 rfl w.heap.size 159 iC _ 2 40 Tryz.underlying128 Y2 Y3 Y4 Y5 rfl (.slice A1 i k1) i ((l.take i).flatMap tT) rfl sO.out _ _ ((l.drop (i+1)).flatMap tT) rfl HS2.out (by unfold maxLen;omega) (by omega) hle1 ?_;intro v2 w2 hO2 hG2 Vw;obtain ⟨A2,k2,rfl⟩:=aJ hO2;have yS:=aj (And.intro hO2 hG2);obtain ⟨c2,f2⟩:=HP2.out w1 w2 _ q8.out.2 sO.out hG2;clear hO2 hG2 Vw c1 f1));go_ret;rw [<- ac4.out];obtain ⟨k1,k2⟩:=PN HI.out UM.out hQ q8.out.2 sO.out yS.out.2 yS.out.1 HLn.out (List.flatMap_append).symm ac7.out ac6.out;exact ⟨by rw [HE.out];rfl,k1,k2⟩
theorem TD (m:Nat) (x v:T) (th:Bool):lC (m+1) (qb,x) v th=(th&&(bq 16 v x==0)):=by
 rw [jk (by decide) (by decide) (by decide) (by decide),Bf];dsimp only;rw [if_pos rfl];rfl
theorem Xf (m:Nat) (x v:T) (th:Bool):lC (m+1) (yM,x) v th=!(th&&(bq 16 v x==0)):=by
 rw [lC];dsimp only;rw [if_pos rfl];rfl
theorem lS {m:Nat} {op:ByteArray} (x v:T) (th:Bool) (h:op=yN\/op=oQ\/op=yO\/op=qz):lC (m+1) (op,x) v th=(th&&(ah v==ah x&&gq op (bq 16 v x))):=by
 rcases h with rfl | rfl | rfl | rfl<;>(rw [jk (by decide) (by decide) (by decide) (by decide),Bf];dsimp only;rw [if_neg (by decide),if_neg (by decide),if_neg (by decide),if_neg (by decide),if_neg (by decide)])
theorem Yi (c:Int):gq yN c=decide (0<c):=by unfold gq;rw [if_neg (by decide),if_pos rfl]
theorem VL (c:Int):gq oQ c=(c==0 || decide (0<c)):=by unfold gq;rw [if_pos rfl]
theorem Yj (c:Int):gq yO c=decide (c<0):=by unfold gq;rw [if_neg (by decide),if_neg (by decide),if_neg (by decide),if_pos rfl]
theorem VN (c:Int):gq qz c=(c==0 || decide (c<0)):=by unfold gq;rw [if_neg (by decide),if_neg (by decide),if_pos rfl]
theorem Xg (m:Nat) (x v:T) (th:Bool):lC (m+1) (eG,x) v th=(th==(aB x==1)):=by
 rw [lC];dsimp only;rw [if_neg (by decide),if_neg (by decide),if_neg (by decide),if_pos rfl]
theorem FY (m:Nat) (x v:T) (th:Bool):lC (m+1) (jc,x) v th=(th&&(ah v==5&&((nL v:Int)==aB x))):=by
 rw [jk (by decide) (by decide) (by decide) (by decide),Bf];dsimp only;rw [if_neg (by decide),if_neg (by decide),if_pos rfl]
theorem Oe (m:Nat) (x v:T) (th:Bool):lC (m+1) (jE,x) v th=(th&&(ah v==aB x)):=by
 rw [jk (by decide) (by decide) (by decide) (by decide),Bf];dsimp only;rw [if_neg (by decide),if_neg (by decide),if_neg (by decide),if_pos rfl]
theorem Xh (m:Nat) (x v:T) (th:Bool):lC (m+1) (qc,x) v th=(th&&bg (uK v) x (nL x)):=by
 rw [jk (by decide) (by decide) (by decide) (by decide),Bf];dsimp only;rw [if_neg (by decide),if_pos rfl]
theorem TF (m:Nat) (x v:T) (th:Bool):lC (m+1) (mR,x) v th=!(th&&bg (uK v) x (nL x)):=by
 rw [lC];dsimp only;rw [if_neg (by decide),if_pos rfl]
theorem TG (m:Nat) (x v:T) (th:Bool):lC (m+1) (mU,x) v th=!(uw m (iO x) v th):=by
 rw [lC];dsimp only;rw [if_neg (by decide),if_neg (by decide),if_pos rfl];rfl
theorem TH (m:Nat) (x v:T) (th:Bool):lC (m+1) (kY,x) v th=(th&&(ah v==5&&bg (fun e=>uw m (iO x) e true) v (nL v))):=by
 rw [jk (by decide) (by decide) (by decide) (by decide),Bf];dsimp only;rw [if_neg (by decide),if_neg (by decide),if_neg (by decide),if_neg (by decide),if_pos rfl];rfl
end Go.Proofs.YtknakfpciccoaaaGreatDoor
