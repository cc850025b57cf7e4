import Derived.Test.YtknakfpciccoaabGreatDoorZS1
import Derived.Deep.AppendSrc
import Derived.Deep.AppendLies
import Derived.Laws.BytesArg
import Derived.Laws.IdiomStrings
import Derived.Test.YtknakfpciccoaabGreatDoorZS12
import Derived.Test.YtknakfpciccoaabGreatDoorZS7
import Derived.Test.YtknakfpciccoaabGreatDoorZS4
/- append onto a slice of one's own, of whatever is appended: a text's bytes too. -/
namespace Go.Proofs.YtknakfpciccoaabGreatDoor
open Go.RowKit
theorem run_append_src {P:Program} (w:World) (base:Nat) (t tx ty e:TypeId) (i:TypeInfo) (z:Value) (size bytes:Nat) (ht:P.underlying t=some (.slice e)) (hi:P.info? e=some i) (hz:i.zero=some z)
  (hsize:i.size=size) (hby:i.bytes=bytes) (hzs:z.cells.size=size)
  (v:Value) (n:Nat) (xs:List Value) (hown:w.ownsRow base e size v n xs) (x:Value) (m:Nat) (news:List Value) (hs:Src P size tx x m news w)
  (h63:n+m≤maxLen) (hbytes:(n+m)*bytes≤140737488355328) (hbase:base≤w.heap.size) :
  ∃ v' w',(Builtin.append_ #[t,tx] ty #[v,x]).run P w=.ok v' w'∧w'.ownsRow base e size v' (n+m) (xs++news)∧w.grownBy w' v.ownBlock∧(v'.ownBlock=v.ownBlock∨v'.ownBlock=some w.heap.size):=by
 subst hsize
 subst hby
 have hsmall:n+m≤9223372036854775807:=by simp only [maxLen] at h63;omega
 have hl:=hs.newsLen
 have hlen:(xs++news).length=(n+m)*i.size:=by rw [List.length_append,hown.1,hl,Nat.add_mul]
 have grown:∀ (old:Nat),∀ (row:Option Nat),
   (w.drew.alloc (.cells ((xs++news).toArray++Builtin.zeroCells z.cells (grownCap w (n+m) old e - (n+m))) e)).ownsRow base e i.size
    (.slice (some ⟨w.heap.size,0,none⟩) (n+m) (grownCap w (n+m) old e)) (n+m) (xs++news) ∧
   w.grownBy (w.drew.alloc (.cells ((xs++news).toArray++Builtin.zeroCells z.cells (grownCap w (n+m) old e - (n+m))) e)) row:=by
  intro old row
  have hge:=grownCap_ge w (n+m) old e
  have hcm:grownCap w (n+m) old e≤maxLen:=grownCap_le_maxLen w (n+m) old e h63
  refine ⟨⟨hlen,.inr ⟨w.heap.size,_,_,rfl,hbase,heap_alloc_new w.drew _,hge,hcm,?_,?_⟩⟩,⟨rfl,rfl,rfl,by simp,fun k hk _=>heap_alloc_old w.drew _ hk⟩⟩
  ·simp only [Array.size_append,List.size_toArray,size_zeroCells,hzs,hlen,← Nat.add_mul]
   congr 1
   omega
  ·simp only [Array.toList_append]
   rw [← hlen]
   exact List.take_left
 rcases hown.2 with ⟨rfl,rfl⟩ | ⟨g,cap,cur,rfl,hbg,hg,hnc,hcm,hcs,htake⟩
 ·have hx:xs=[]:=List.eq_nil_of_length_eq_zero (by simpa using hown.1)
  subst hx
  by_cases hm:m=0
  ·subst hm
   have hn:news=[]:=List.eq_nil_of_length_eq_zero (by simpa using hl)
   subst hn
   refine ⟨.slice none 0 0,w,?_,World.ownsRow_nil w base e i.size,⟨rfl,rfl,rfl,Nat.le_refl _,fun _ _ _=>rfl⟩,Or.inl rfl⟩
   rcases hs.kind with ⟨e',hk⟩ | hk<;>simp [Builtin.append_,run_underlying ht,run_underlying hk,sizeOf,typeInfo,hi,hs.len,hs.cells]
  ·have hr:=run_append_grow_src (P:=P) w t tx ty e i z ht hi hz none 0 0 [] (run_firstCells_none w.drew i.size 0 0 0) x m news hs (by omega) (by omega) (growslice_fits (by omega) hbytes)
   have hgr:=grown 0 (Value.ownBlock (.slice none 0 0))
   exact ⟨_,_,hr,hgr.1,hgr.2,Or.inr rfl⟩
 ·by_cases hroom:n+m≤cap
  ·have hfit:n*i.size+news.length≤cur.size:=by rw [hl,hcs,← Nat.add_mul];exact Nat.mul_le_mul_right _ hroom
   have hst:=run_storeCells_at P g (n*i.size) e news 0 cur w hg (by simpa using hfit) hs.one
   simp only [Nat.add_zero] at hst
   have hr:(Builtin.append_ #[t,tx] ty #[.slice (some ⟨g,0,none⟩) n cap,x]).run P w=.ok (.slice (some ⟨g,0,none⟩) (n+m) cap) (w.setRow g (cur.toList.take (n*i.size)++news++cur.toList.drop (n*i.size+news.length)).toArray):=by
    rcases hs.kind with ⟨e',hk⟩ | hk<;>simp [Builtin.append_,run_underlying ht,run_underlying hk,sizeOf,typeInfo,hi,hs.len,hroom,hs.cells,Addr.add_lit,hst]
   refine ⟨_,_,hr,⟨hlen,.inr ⟨g,cap,_,rfl,hbg,setRow_heap w g cur _ e _ hg,hroom,hcm,?_,?_⟩⟩,⟨rfl,rfl,rfl,by simp,fun k _ hk=>setRow_other w g k _ (fun e=>hk (by simp [Value.ownBlock,e]))⟩,Or.inl rfl⟩
   ·simp only [List.size_toArray,List.length_append,List.length_take,List.length_drop,Array.length_toList]
    omega
   ·rw [htake,← hlen]
    exact List.take_left
  ·have holds:∀ j u,xs[j]?=some u→w.cell? ((⟨g,0,none⟩:Addr).add j)=some u:=hown.cells (g:=g) rfl
   have hr:=run_append_grow_src (P:=P) w t tx ty e i z ht hi hz (some ⟨g,0,none⟩) n cap xs (run_firstCells_some w.drew i.size n ⟨g,0,none⟩ n cap xs hown.1 (by simpa using holds)) x m news hs (by omega) (by omega) (growslice_fits (by omega) hbytes)
   have hgr:=grown cap (Value.ownBlock (.slice (some ⟨g,0,none⟩) n cap))
   exact ⟨_,_,hr,hgr.1,hgr.2,Or.inr rfl⟩
theorem wp_append_src {P:Program} (w:World) {o:Oper} {a:Act} {K:Act→World→Prop} {Q:Exit→Act→World→Prop} (s xo:Operand) (t tx:TypeId)
  (ho:o.op=.call { callee:=.builtin .append,args:=#[s,xo],argTypes:=#[t,tx] })
  (base:Nat) (e:TypeId) (i:TypeInfo) (z:Value) (size bytes:Nat) (ht:P.underlying t=some (.slice e)) (hi:P.info? e=some i) (hz:i.zero=some z)
  (hsize:i.size=size) (hby:i.bytes=bytes) (hzs:z.cells.size=size)
  (v:Value) (n:Nat) (xs:List Value) (hsv:a.eval s=v) (hown:w.ownsRow base e size v n xs) (x:Value) (m:Nat) (news:List Value) (hx:a.eval xo=x) (hs:Src P size tx x m news w)
  (h63:n+m≤maxLen) (hbytes:(n+m)*bytes≤140737488355328) (hbase:base≤w.heap.size)
  (h:∀ v' w',w'.ownsRow base e size v' (n+m) (xs++news)→w.grownBy w' v.ownBlock→(v'.ownBlock=v.ownBlock∨v'.ownBlock=some w.heap.size)→K (a.put o.dst v') w'):o.wp P a w K Q:=by
 obtain ⟨v',w',hr,h2,h3,h4⟩:=run_append_src (P:=P) w base t tx o.type e i z size bytes ht hi hz hsize hby hzs v n xs hown x m news hs h63 hbytes hbase
 unfold Oper.wp execOp
 simp only [ho,resolve,invoke,builtin,Sem.run_bind,Sem.run_pure,Result.andThen_ok,List.map_toArray,List.map_cons,List.map_nil,hsv,hx,hr]
 exact h v' w' h2 h3 h4
theorem wpList_append_src {P:Program} (w:World) {ops:Array Oper} {rest:List Oper} {o:Oper} {a:Act} {Q:Exit→Act→World→Prop} (hgd:o.guard=none) (s xo:Operand) (t tx:TypeId)
  (ho:o.op=.call { callee:=.builtin .append,args:=#[s,xo],argTypes:=#[t,tx] })
  (base:Nat) (e:TypeId) (i:TypeInfo) (z:Value) (size bytes:Nat) (ht:P.underlying t=some (.slice e)) (hi:P.info? e=some i) (hz:i.zero=some z)
  (hsize:i.size=size) (hby:i.bytes=bytes) (hzs:z.cells.size=size)
  (v:Value) (n:Nat) (xs:List Value) (hsv:a.eval s=v) (hown:w.ownsRow base e size v n xs) (x:Value) (m:Nat) (news:List Value) (hx:a.eval xo=x) (hs:Src P size tx x m news w)
  (h63:n+m≤maxLen) (hbytes:(n+m)*bytes≤140737488355328) (hbase:base≤w.heap.size)
  (h:∀ v' w',w'.ownsRow base e size v' (n+m) (xs++news)→w.grownBy w' v.ownBlock→(v'.ownBlock=v.ownBlock∨v'.ownBlock=some w.heap.size)→wpList P ops Q rest (a.put o.dst v') w'):wpList P ops Q (o::rest) a w :=
 wpList_plain hgd fun _ hK=>wp_append_src w s xo t tx ho base e i z size bytes ht hi hz hsize hby hzs v n xs hsv hown x m news hx hs h63 hbytes hbase fun v' w' h2 h3 h4=>hK _ _ (h v' w' h2 h3 h4)
theorem step_append_src {P:Program} (w:World) {ops:Array Oper} {o:Oper} {a:Act} {K:Act→World→Prop} {Q:Exit→Act→World→Prop} {E:Prop} (hgd:o.guard=none) (s xo:Operand) (t tx:TypeId)
  (ho:o.op=.call { callee:=.builtin .append,args:=#[s,xo],argTypes:=#[t,tx] })
  (base:Nat) (e:TypeId) (i:TypeInfo) (z:Value) (size bytes:Nat) (ht:P.underlying t=some (.slice e)) (hi:P.info? e=some i) (hz:i.zero=some z)
  (hsize:i.size=size) (hby:i.bytes=bytes) (hzs:z.cells.size=size)
  (v:Value) (n:Nat) (xs:List Value) (hsv:a.eval s=v) (hown:w.ownsRow base e size v n xs) (x:Value) (m:Nat) (news:List Value) (hx:a.eval xo=x) (hs:Src P size tx x m news w)
  (h63:n+m≤maxLen) (hbytes:(n+m)*bytes≤140737488355328) (hbase:base≤w.heap.size)
  (h:∀ v' w',w'.ownsRow base e size v' (n+m) (xs++news)→w.grownBy w' v.ownBlock→(v'.ownBlock=v.ownBlock∨v'.ownBlock=some w.heap.size)→K (a.put o.dst v') w') :
  if Region.wanted o (yielded ops a.tmps)=true then Oper.wp P o a w K Q else E:=by
 have hw:Region.wanted o (yielded ops a.tmps)=true:=by simp [Region.wanted,hgd]
 rw [if_pos hw]
 exact wp_append_src w s xo t tx ho base e i z size bytes ht hi hz hsize hby hzs v n xs hsv hown x m news hx hs h63 hbytes hbase h
def bytesV (l:List UInt8):List Value:=l.map fun b=>Value.int .u8 b.toNat
theorem bytesV_append (a b:List UInt8):bytesV (a++b)=bytesV a++bytesV b:=List.map_append ..
theorem bytesV_length (a:List UInt8):(bytesV a).length=a.length:=List.length_map ..
theorem src_bytes {P:Program} (w:World) {tx:TypeId} (hk:P.underlying tx=some .string) (s:ByteArray):Src P 1 tx (.string s) s.size (bytesV s.data.toList) w:=Src.ofString w hk s
theorem conv_own {P:Program} {w:World} {base:Nat} {src dst e:TypeId} {v:Value} {l:List UInt8} (hs:P.underlying src=some (.slice e)) (he:P.underlying e=some (.int .u8)) (hd:P.underlying dst=some .string)
  (h:w.ownsRow base e 1 v l.length (bytesV l)):(convert src dst v).run P w=.ok (.string ⟨l.toArray⟩) w:=by
 rcases h.2 with ⟨rfl,h0⟩ | ⟨g,cap,cur,rfl,hbg,hg,hnc,hcm,hcs,htake⟩
 ·have:l=[]:=List.eq_nil_of_length_eq_zero h0
  subst this
  exact run_convert_bytes_nil w src e hs he 0 0 dst hd
 ·refine run_convert_bytes_back (P:=P) w src dst e ⟨g,0,none⟩ cap l hs he hd fun j hj=>?_
  have:=h.cells (g:=g) rfl j (.int .u8 ((l[j]'hj).toNat:Nat)) (by unfold bytesV;rw [List.getElem?_map,List.getElem?_eq_getElem hj];rfl)
  exact this
end Go.Proofs.YtknakfpciccoaabGreatDoor
/- The walk of Filter.Among. -/
namespace Go.Proofs.YtknakfpciccoaabGreatDoor
open Go.RowKit
def keepL (p:T→Bool) (t:T):Nat→List T
 | 0=>[]
 | k+1=>keepL p t k++(if p (elt t k)=true then [elt t k] else [])
theorem keepL_le (p:T→Bool) (t:T):∀ k,(keepL p t k).length≤k
 | 0=>by simp [keepL]
 | k+1=>by
  have:=keepL_le p t k
  rw [keepL,List.length_append]
  split<;>simp<;>omega
structure Held (w0:World) (f:Nat) (hv:Value) (l:List T) (xs:List Value) (wr:World):Prop where
 row:wr.ownsRow w0.heap.size 36 5 hv l.length xs
 at_:∀ i,(h:i<l.length)→At w0 f (fv xs i) l[i]
 low:Below w0.heap.size w0 wr
theorem rowH_move {w w':World} {lo:Nat} {e:TypeId} {size n:Nat} {v:Value} {xs:List Value} (h:w.ownsRow lo e size v n xs) (hb:∀ b,lo≤b→b<w.heap.size→w'.heap[b]?=w.heap[b]?):w'.ownsRow lo e size v n xs:=by
 refine ⟨h.1,?_⟩
 rcases h.2 with hn | ⟨g,cap,cur,rfl,hb0,hg,rest⟩
 ·exact .inl hn
 ·exact .inr ⟨g,cap,cur,rfl,hb0,(hb g hb0 (Array.getElem?_eq_some_iff.1 hg).1).trans hg,rest⟩
theorem Held.keep {w0:World} {f:Nat} {hv:Value} {l:List T} {xs:List Value} {wr w1:World} (h:Held w0 f hv l xs wr) (hb:Below wr.heap.size wr w1):Held w0 f hv l xs w1 :=
 ⟨rowH_move h.row fun b _ h2=>hb.block b h2,h.at_,h.low.trans (hb.mono h.low.size)⟩
theorem Held.nil (w0:World) (f:Nat) (wr:World) (h:Below w0.heap.size w0 wr):Held w0 f (.slice none 0 0) [] [] wr:=⟨World.ownsRow_nil _ _ _ _,fun i h=>absurd h (Nat.not_lt_zero i),h⟩
theorem cx_left {xs ys:List Value} {j:Nat} (h:j<xs.length):cx (xs++ys) j=cx xs j:=by unfold cx;rw [List.getElem?_append_left h]
theorem cx_right {xs ys:List Value} {j:Nat}:cx (xs++ys) (xs.length+j)=cx ys j:=by unfold cx;rw [List.getElem?_append_right (by omega)];congr 2;omega
theorem Held.grow {w0:World} {f:Nat} {hv v':Value} {l:List T} {xs:List Value} {wr w2:World} {c0 c1 c2 c3 c4:Value} {x:T} (h:Held w0 f hv l xs wr) (ha:At w0 f (.agg #[c0,c1,c2,c3,c4]) x) (hO:w2.ownsRow w0.heap.size 36 5 v' (l.length+1) (xs++[c0,c1,c2,c3,c4])) (hG:wr.grownBy w2 hv.ownBlock):Held w0 f v' (l++[x]) (xs++[c0,c1,c2,c3,c4]) w2:=by
 have hx:xs.length=l.length*5:=h.row.1
 refine ⟨by rw [List.length_append];exact hO,fun i hi=>?_,⟨hG.os.trans h.low.os,hG.tape.trans h.low.tape,hG.output.trans h.low.output,Nat.le_trans h.low.size hG.size,fun k hk=>?_⟩⟩
 ·rw [List.length_append,List.length_cons,List.length_nil] at hi
  by_cases e:i<l.length
  ·have:=h.at_ i e
   rw [List.getElem_append_left e]
   unfold fv at this ⊢
   rw [cx_left (by omega),cx_left (by omega),cx_left (by omega),cx_left (by omega),cx_left (by omega)]
   exact this
  ·obtain rfl:i=l.length:=by omega
   rw [List.getElem_append_right (by omega)]
   simp only [Nat.sub_self,List.getElem_cons_zero]
   unfold fv
   rw [← hx,show xs.length=xs.length+0 from rfl,cx_right,Nat.add_assoc,cx_right,Nat.add_assoc,cx_right,Nat.add_assoc,cx_right,Nat.add_assoc,cx_right]
   exact ha
 ·rw [hG.block k (Nat.lt_of_lt_of_le hk h.low.size) ?_,h.low.block k hk]
  intro e
  rcases h.row.2 with ⟨rfl,_⟩ | ⟨g,cap,cur,rfl,hb0,_⟩
  ·cases e
  ·have:k=g:=by simpa [Value.ownBlock] using e
   omega
set_option maxHeartbeats 4000000 in
set_option maxRecDepth 100000 in
theorem among_docs {Tb:World→Prop} (hL:Lies Tb) (m:Nat) (hfil:FilSaid Tb m) (fv':Value) (t d:T) (f:Nat) (La:Option Addr) (Lc:Nat) (w:World) (hfl:FilAt w m fv' t) (hl:ElemsAt w f La d) (hn:nL d≤1000000) (hf:f≤16) (hk:∀ i,i<nL d→okA (elt d i)) (hT:Tb w) :
  Calls Tryz.prog 34 #[fv',.slice La (nL d) Lc] w fun e w'=>∃ hv xs,e=.returned hv∧Held w f hv (keepL (evF m t) d (nL d)) xs w':=by
 obtain ⟨iV,hiV,zV0,zV1,zV2⟩:=info_parts infoV
 have HFl:=hid hfl
 have Hl:=hid hl
 have HK:=hid hk
 have HFil:=hid hfil
 have HT:Hid (∀ w':World,Below w.heap.size w w'→Tb w'):=fun w' hb=>hL w hT w w' hT hb
 clear hfl hl hk hfil hT hL
 go_enter Tryz.func34,Tryz.ntmps34
 go_wp2_with fail
 go_loopg [5,10] (nL d) (fun g o i wr=>∃ (k:Nat) (xs:List Value),g=nL d - k∧k≤nL d∧i=.int .i64 k∧Hid (Held w f o (keepL (evF m t) d k) xs wr))
 case atStart=>exact ⟨0,[],rfl,Nat.zero_le _,rfl,Held.nil w f w (Below.refl _ _)⟩
 case round =>
  obtain ⟨k,xs,rfl,hk,rfl,HH⟩:=hrel
  by_cases hlt:k<nL d
  ·obtain ⟨bb,oo,A,B,C,D,rfl,hbl,p0,p1,p2,p3,p4,Ha⟩:=Hl.out.shape HH.out.low k hlt
   have HBi:Hid (Below wr.heap.size wr (wr.alloc (.cells #[.int .i64 (kindOf (elt d k)),.int .i64 (nOf (elt d k)),.string (sOf (elt d k)),.slice A (nL (elt d k)) B,.slice C (nK (elt d k)) D] 36))):=(Below.refl _ _).alloc (Nat.le_refl _) _
   have HB2:=hid (HH.out.low.trans (HBi.out.mono HH.out.low.size))
   have HC:=hid (HFil.out fv' t f _ (elt d k) _ (FilAt.keep HB2.out m _ _ HFl.out) (Ha.out.keep HB2.out) hf (HK.out k hlt) (HT.out _ HB2.out))
   have hkl:=keepL_le (evF m t) d k
   cases hp:evF m t (elt d k) with
   | true =>
    rw [hp] at HC
    have HE:Hid (keepL (evF m t) d (k+1)=keepL (evF m t) d k++[elt d k]):=by show _=_;rw [keepL,if_pos hp]
    clear hp
    go_wp2_with fail
    refine HC.out.mono ?_
    rintro e w2 ⟨rfl,b2⟩
    have HX2:Hid (BoxAt wr.heap.size (.int .i64 (kindOf (elt d k))) (.int .i64 (nOf (elt d k))) (.string (sOf (elt d k))) (.slice A (nL (elt d k)) B) (.slice C (nK (elt d k)) D) w2):=by
     refine BoxAt.stay (w:=wr.alloc (.cells #[.int .i64 (kindOf (elt d k)),.int .i64 (nOf (elt d k)),.string (sOf (elt d k)),.slice A (nL (elt d k)) B,.slice C (nK (elt d k)) D] 36)) ?_ b2
     constructor<;>simp [go_sem]
    have HH2:=hid ((HH.out.keep HBi.out).keep b2)
    have HH3:=hid (HH2.out.keep ((Below.refl w2.heap.size w2).alloc (Nat.le_refl _) (.cells #[.int .i64 (kindOf (elt d k)),.int .i64 (nOf (elt d k)),.string (sOf (elt d k)),.slice A (nL (elt d k)) B,.slice C (nK (elt d k)) D] 36)))
    have HSrc:Hid (Src Tryz.prog 5 34 (.slice (some ⟨w2.heap.size,0,none⟩) 1 1) 1 [.int .i64 (kindOf (elt d k)),.int .i64 (nOf (elt d k)),.string (sOf (elt d k)),.slice A (nL (elt d k)) B,.slice C (nK (elt d k)) D] (w2.alloc (.cells #[.int .i64 (kindOf (elt d k)),.int .i64 (nOf (elt d k)),.string (sOf (elt d k)),.slice A (nL (elt d k)) B,.slice C (nK (elt d k)) D] 36))):=Src.ofSlice _ Tryz.underlying34 ⟨w2.heap.size,0,none⟩ 1 1 [.int .i64 (kindOf (elt d k)),.int .i64 (nOf (elt d k)),.string (sOf (elt d k)),.slice A (nL (elt d k)) B,.slice C (nK (elt d k)) D] (by simp) (World.news_of_block (heap_alloc_new w2 _)) (by simp [Value.oneCell'])
    have q0:=HX2.out.q0
    have q1:=HX2.out.q1
    have q2:=HX2.out.q2
    have q3:=HX2.out.q3
    have q4:=HX2.out.q4
    have hlo:=HH3.out.low.size
    clear b2 HC
    go_wp2_with (at_builtin;refine wpList_append_src _ rfl (.tmp 17) (.tmp 19) 34 34 rfl w.heap.size 36 iV _ 5 80 Tryz.underlying34 hiV zV0 zV1 zV2 rfl u5 (keepL (evF m t) d k).length xs rfl HH3.out.row (.slice (some ⟨w2.heap.size,0,none⟩) 1 1) 1 [.int .i64 (kindOf (elt d k)),.int .i64 (nOf (elt d k)),.string (sOf (elt d k)),.slice A (nL (elt d k)) B,.slice C (nK (elt d k)) D] rfl HSrc.out (by unfold maxLen;omega) (by omega) hlo ?_;intro v' w6 hO6 hG6 hat6)
    have H6:=hid (HH3.out.grow Ha.out hO6 hG6)
    clear hO6 hG6 hat6 q0 q1 q2 q3 q4
    go_wp2_with fail
    go_roundg (nL d - (k+1))
    case rel=>exact ⟨k+1,_,rfl,by omega,by go_num,by rw [HE.out];exact H6⟩
    case measure=>omega
   | false =>
    rw [hp] at HC
    have HE:Hid (keepL (evF m t) d (k+1)=keepL (evF m t) d k):=by show _=_;rw [keepL,hp];simp
    clear hp
    go_wp2_with fail
    refine HC.out.mono ?_
    rintro e w2 ⟨rfl,b2⟩
    have HH2:=hid ((HH.out.keep HBi.out).keep b2)
    clear b2 HC
    go_wp2_with fail
    go_roundg (nL d - (k+1))
    case rel=>exact ⟨k+1,_,rfl,by omega,by go_num,by rw [HE.out];exact HH2⟩
    case measure=>omega
  ·obtain rfl:k=nL d:=by omega
   go_wp2_with fail
   go_ret
   exact ⟨_,_,rfl,HH.out⟩
end Go.Proofs.YtknakfpciccoaabGreatDoor
/- What an expression of a pipeline does; values themselves, paths. -/
namespace Go.Proofs.YtknakfpciccoaabGreatDoor
open Go.RowKit
def nullT:T:=leafT 1 0 ByteArray.empty
def orNull (p:List ByteArray) (doc:T):T:=(fromP p doc).getD nullT
theorem At.up1 {w:World}:∀ {f:Nat} {v:Value} {t:T},At w f v t→At w (f+1) v t:=by
 intro f
 induction f with
 | zero=>intro v t h;exact h.elim
 | succ f ih =>
  rintro v t ⟨La,Ka,Lc,Kc,rfl,hf,hl,hk⟩
  refine ⟨La,Ka,Lc,Kc,rfl,hf,fun i hi=>?_,hk⟩
  obtain ⟨b,o,c0,c1,c2,c3,c4,h0,hb,q0,q1,q2,q3,q4,ha⟩:=hl i hi
  exact ⟨b,o,c0,c1,c2,c3,c4,h0,hb,q0,q1,q2,q3,q4,ih ha⟩
theorem At.up {w:World} {f:Nat} {v:Value} {t:T} (h:At w f v t):∀ {g:Nat},f≤g→At w g v t:=by
 intro g hg
 induction hg with
 | refl=>exact h
 | step _ ih=>exact ih.up1
def EvPost (w0:World) (g:T→Int⊕T) (doc:T) (w:World) (e:Ending) (w':World):Prop :=
 Below w.heap.size w w'∧((∃ x,g doc=.inl x∧x≠0∧e=.returned (.tuple #[.agg #[.int .i64 0,.int .i64 0,.string ⟨#[]⟩,.slice none 0 0,.slice none 0 0],.int .i64 x])) ∨
  ∃ t A B C D,g doc=.inr t∧e=.returned (.tuple #[.agg #[.int .i64 (kindOf t),.int .i64 (nOf t),.string (sOf t),.slice A (nL t) B,.slice C (nK t) D],.int .i64 0])∧At w0 13 (.agg #[.int .i64 (kindOf t),.int .i64 (nOf t),.string (sOf t),.slice A (nL t) B,.slice C (nK t) D]) t∧okA t)
def ExprOk (Tb:World→Prop) (w:World) (v:Value) (g:T→Int⊕T):Prop :=
 ∃ (ty:TypeId) (p:Value) (fid:FuncId),v=.iface ty p∧(∀ w':World,(method 419 ty p "Of").run Tryz.prog w'=.ok (fid,p) w')∧(∀ (a:Array Value) (w':World),(callFunc fid a).run Tryz.prog w'=.ok (.enter fid a) w') ∧
  ∀ (w0 wr:World) (x:Value) (doc:T),Below w.heap.size w w0→Below w0.heap.size w0 wr→At w0 13 x doc→okA doc→Tb wr→Calls Tryz.prog fid #[p,x] wr (EvPost w0 g doc wr)
theorem ExprOk.keep {Tb:World→Prop} {w w':World} {v:Value} {g:T→Int⊕T} (h:ExprOk Tb w v g) (hb:Below w.heap.size w w'):ExprOk Tb w' v g:=by
 obtain ⟨ty,p,fid,rfl,h1,h2,h3⟩:=h
 exact ⟨ty,p,fid,rfl,h1,h2,fun w0 wr x doc hr=>h3 w0 wr x doc (hb.trans (hr.mono hb.size))⟩
theorem below_res {w W:World} (h:Below w.heap.size w W) {b:Nat} (hb:w.heap.size≤b) (hl:b≤W.heap.size) (u0 u1 u2 u3 u4:Value):Below w.heap.size w (put5 W b u0 u1 u2 u3 u4):=h.trans (((put5_but W b u0 u1 u2 u3 u4).below hl).mono hb)
theorem okA_null:okA nullT:=good_okA (m:=0) (show leafGood nullT from ⟨rfl,rfl,.inl ⟨rfl,rfl,by kernel_rfl⟩⟩) (by decide)
theorem null_at (w:World):At w 13 (.agg #[.int .i64 1,.int .i64 0,.string ⟨#[]⟩,.slice none 0 0,.slice none 0 0]) nullT:=by
 have h:At w 1 (.agg #[.int .i64 1,.int .i64 0,.string ⟨#[]⟩,.slice none 0 0,.slice none 0 0]) nullT:=by
  refine ⟨none,none,0,0,rfl,⟨by decide,by decide,by decide,by decide,?_,?_,?_⟩,fun i hi=>absurd hi (Nat.not_lt_zero i),fun i hi=>absurd hi (Nat.not_lt_zero i)⟩
  ·show (0:Nat)≤_;omega
  ·show (0:Nat)≤_;omega
  ·show (0:Nat)≤_;omega
 exact h.up (by omega)
set_option maxHeartbeats 4000000 in
set_option maxRecDepth 100000 in
theorem orNull_any {Tb:World→Prop} (hA:AtoiSaid Tb) (hI:ItoaSaid Tb) (hL:Lies Tb) (pv:Value) (ps:List ByteArray) (x:Value) (doc:T) (w0 w:World) (hb0:Below w0.heap.size w0 w) (hp:StrsAt w pv ps) (h:At w0 13 x doc) (hok:okA doc) (hT:Tb w) :
  Calls Tryz.prog 228 #[pv,x] w fun e w'=>Below w.heap.size w w'∧∃ r A B C D,orNull ps doc=r∧e=.returned (.agg #[.int .i64 (kindOf r),.int .i64 (nOf r),.string (sOf r),.slice A (nL r) B,.slice C (nK r) D])∧At w0 13 (.agg #[.int .i64 (kindOf r),.int .i64 (nOf r),.string (sOf r),.slice A (nL r) B,.slice C (nK r) D]) r∧okA r:=by
 obtain ⟨g1,La,Ka,Lc,Kc,hg1,hx,_,_,_⟩:=h.open
 have HB1:Hid (Below w.heap.size w ((w.alloc (.cells #[.int .i64 (kindOf doc),.int .i64 (nOf doc),.string (sOf doc),.slice La (nL doc) Lc,.slice Ka (nK doc) Kc] 36)).alloc (.cells #[.int .i64 0,.int .i64 0,.string ⟨#[]⟩,.slice none 0 0,.slice none 0 0] 36))):=((Below.refl _ _).alloc (Nat.le_refl _) _).alloc (by simp) _
 have HX:Hid (BoxAt (w.heap.size+1) (.int .i64 0) (.int .i64 0) (.string ⟨#[]⟩) (.slice none 0 0) (.slice none 0 0) ((w.alloc (.cells #[.int .i64 (kindOf doc),.int .i64 (nOf doc),.string (sOf doc),.slice La (nL doc) Lc,.slice Ka (nK doc) Kc] 36)).alloc (.cells #[.int .i64 0,.int .i64 0,.string ⟨#[]⟩,.slice none 0 0,.slice none 0 0] 36))):=by
  show BoxAt _ _ _ _ _ _ _
  have:=box_new (w.alloc (.cells #[.int .i64 (kindOf doc),.int .i64 (nOf doc),.string (sOf doc),.slice La (nL doc) Lc,.slice Ka (nK doc) Kc] 36)) (.int .i64 0) (.int .i64 0) (.string ⟨#[]⟩) (.slice none 0 0) (.slice none 0 0)
  simpa using this
 have HC:=hid (from_any hA hI hL pv ps 13 x doc w0 _ (hb0.trans (HB1.out.mono hb0.size)) (hp.keep HB1.out) h hok (hL w hT _ _ hT HB1.out))
 subst hx
 clear hp h hok hT hA hI hL hg1 hb0
 go_enter Tryz.func228,Tryz.ntmps228
 go_wp2_with fail
 refine HC.out.mono ?_
 rintro e w3 ⟨b3,⟨r,g,A,B,C,D,hr,hg,rfl,ha,hk⟩ | ⟨hr,rfl⟩⟩
 ·have HR:Hid (orNull ps doc=r):=by show _=_;unfold orNull;rw [hr];rfl
  have HBa:Hid (Below w3.heap.size w3 (w3.alloc (.cells #[.int .i64 (kindOf r),.int .i64 (nOf r),.string (sOf r),.slice A (nL r) B,.slice C (nK r) D] 36))):=(Below.refl _ _).alloc (Nat.le_refl _) _
  have HB3:=hid (HB1.out.trans (b3.mono HB1.out.size))
  have HX3:=hid ((HX.out.stay b3).stay HBa.out)
  have HY3:=hid (box_new w3 (.int .i64 (kindOf r)) (.int .i64 (nOf r)) (.string (sOf r)) (.slice A (nL r) B) (.slice C (nK r) D))
  have HO:=hid (HX3.out.put5 (.int .i64 (kindOf r)) (.int .i64 (nOf r)) (.string (sOf r)) (.slice A (nL r) B) (.slice C (nK r) D))
  have HBf:=hid (below_res (HB3.out.trans (HBa.out.mono HB3.out.size)) (b:=w.heap.size+1) (by omega) (by have:=HX3.out.lt;omega) (.int .i64 (kindOf r)) (.int .i64 (nOf r)) (.string (sOf r)) (.slice A (nL r) B) (.slice C (nK r) D))
  have HAt:=hid (ha.up hg)
  have HK:=hid hk
  unfold put5 at HO HBf
  clear b3 ha hk hg hr HC
  have y0:=HY3.out.q0
  have y1:=HY3.out.q1
  have y2:=HY3.out.q2
  have y3:=HY3.out.q3
  have y4:=HY3.out.q4
  have r0:=HX3.out.q0
  have r1:=HX3.out.q1
  have r2:=HX3.out.q2
  have r3:=HX3.out.q3
  have r4:=HX3.out.q4
  have z0:=HX3.out.f0
  have z1:=HX3.out.f1
  have z2:=HX3.out.f2
  have z3:=HX3.out.f3
  have z4:=HX3.out.f4
  go_wp2_with fail
  clear r0 r1 r2 r3 r4 z0 z1 z2 z3 z4
  have HO1:=hid HO.out
  have r0:=HO1.out.q0
  have r1:=HO1.out.q1
  have r2:=HO1.out.q2
  have r3:=HO1.out.q3
  have r4:=HO1.out.q4
  refine bodyPost_ret (v:=.agg #[.int .i64 (kindOf r),.int .i64 (nOf r),.string (sOf r),.slice A (nL r) B,.slice C (nK r) D]) (by simp [results,Tryz.results228,go_sem, *]) rfl ?_
  exact ⟨HBf.out,r,A,B,C,D,HR.out,rfl,HAt.out,HK.out⟩
 ·have HR:Hid (orNull ps doc=nullT):=by show _=_;unfold orNull;rw [hr];rfl
  have HBa:Hid (Below w3.heap.size w3 (w3.alloc (.cells #[.int .i64 0,.int .i64 0,.string ⟨#[]⟩,.slice none 0 0,.slice none 0 0] 36))):=(Below.refl _ _).alloc (Nat.le_refl _) _
  have HB3:=hid (HB1.out.trans (b3.mono HB1.out.size))
  have HX3:=hid ((HX.out.stay b3).stay HBa.out)
  have HO:=hid (HX3.out.put5 (.int .i64 1) (.int .i64 0) (.string ⟨#[]⟩) (.slice none 0 0) (.slice none 0 0))
  have HBf:=hid (below_res (HB3.out.trans (HBa.out.mono HB3.out.size)) (b:=w.heap.size+1) (by omega) (by have:=HX3.out.lt;omega) (.int .i64 1) (.int .i64 0) (.string ⟨#[]⟩) (.slice none 0 0) (.slice none 0 0))
  unfold put5 at HO HBf
  clear b3 hr HC
  have r0:=HX3.out.q0
  have r1:=HX3.out.q1
  have r2:=HX3.out.q2
  have r3:=HX3.out.q3
  have r4:=HX3.out.q4
  have z0:=HX3.out.f0
  have z1:=HX3.out.f1
  have z2:=HX3.out.f2
  have z3:=HX3.out.f3
  have z4:=HX3.out.f4
  go_wp2_with fail
  clear r0 r1 r2 r3 r4 z0 z1 z2 z3 z4
  have HO1:=hid HO.out
  have r0:=HO1.out.q0
  have r1:=HO1.out.q1
  have r2:=HO1.out.q2
  have r3:=HO1.out.q3
  have r4:=HO1.out.q4
  refine bodyPost_ret (v:=.agg #[.int .i64 1,.int .i64 0,.string ⟨#[]⟩,.slice none 0 0,.slice none 0 0]) (by simp [results,Tryz.results228,go_sem, *]) rfl ?_
  exact ⟨HBf.out,nullT,none,0,none,0,HR.out,rfl,null_at _,okA_null⟩
end Go.Proofs.YtknakfpciccoaabGreatDoor
/- Expressions: a path; a list of expressions. -/
namespace Go.Proofs.YtknakfpciccoaabGreatDoor
open Go.RowKit
set_option maxHeartbeats 4000000 in
set_option maxRecDepth 100000 in
theorem found_any {Tb:World→Prop} (hA:AtoiSaid Tb) (hI:ItoaSaid Tb) (hL:Lies Tb) (pv:Value) (ps:List ByteArray) (x:Value) (doc:T) (w0 w:World) (hb0:Below w0.heap.size w0 w) (hp:StrsAt w pv ps) (h:At w0 13 x doc) (hok:okA doc) (hT:Tb w) :
  Calls Tryz.prog 275 #[.agg #[pv],x] w (EvPost w0 (fun d=>.inr (orNull ps d)) doc w):=by
 obtain ⟨g1,La,Ka,Lc,Kc,hg1,hx,_,_,_⟩:=h.open
 have Hp:=hid hp
 obtain ⟨PA,pc,hpv,_,_⟩:=hp
 have HB1:Hid (Below w.heap.size w (((w.alloc (.cells #[pv] 266)).alloc (.cells #[.int .i64 (kindOf doc),.int .i64 (nOf doc),.string (sOf doc),.slice La (nL doc) Lc,.slice Ka (nK doc) Kc] 36)).alloc (.cells #[.int .i64 0,.int .i64 0,.string ⟨#[]⟩,.slice none 0 0,.slice none 0 0] 36))):=(((Below.refl _ _).alloc (Nat.le_refl _) _).alloc (by simp) _).alloc (by simp;omega) _
 have HX:Hid (BoxAt (w.heap.size+2) (.int .i64 0) (.int .i64 0) (.string ⟨#[]⟩) (.slice none 0 0) (.slice none 0 0) (((w.alloc (.cells #[pv] 266)).alloc (.cells #[.int .i64 (kindOf doc),.int .i64 (nOf doc),.string (sOf doc),.slice La (nL doc) Lc,.slice Ka (nK doc) Kc] 36)).alloc (.cells #[.int .i64 0,.int .i64 0,.string ⟨#[]⟩,.slice none 0 0,.slice none 0 0] 36))):=by
  show BoxAt _ _ _ _ _ _ _
  have:=box_new ((w.alloc (.cells #[pv] 266)).alloc (.cells #[.int .i64 (kindOf doc),.int .i64 (nOf doc),.string (sOf doc),.slice La (nL doc) Lc,.slice Ka (nK doc) Kc] 36)) (.int .i64 0) (.int .i64 0) (.string ⟨#[]⟩) (.slice none 0 0) (.slice none 0 0)
  simpa using this
 have HC:=hid (orNull_any hA hI hL pv ps x doc w0 _ (hb0.trans (HB1.out.mono hb0.size)) (Hp.out.keep HB1.out) h hok (hL w hT _ _ hT HB1.out))
 subst hx
 subst hpv
 clear h hok hT hA hI hL hg1 hb0 Hp
 go_enter Tryz.func275,Tryz.ntmps275
 go_wp2_with fail
 refine HC.out.mono ?_
 rintro e w3 ⟨b3,r,A,B,C,D,hr,rfl,ha,hk⟩
 have HX3:=hid (HX.out.stay b3)
 have HB3:=hid (HB1.out.trans (b3.mono HB1.out.size))
 have HO:=hid (HX3.out.put5 (.int .i64 (kindOf r)) (.int .i64 (nOf r)) (.string (sOf r)) (.slice A (nL r) B) (.slice C (nK r) D))
 have HBf:=hid (below_res HB3.out (b:=w.heap.size+2) (by omega) (by have:=HX3.out.lt;omega) (.int .i64 (kindOf r)) (.int .i64 (nOf r)) (.string (sOf r)) (.slice A (nL r) B) (.slice C (nK r) D))
 have HAt:=hid ha
 have HK:=hid (And.intro hk hr)
 unfold put5 at HO HBf
 clear b3 ha hk hr HC
 have r0:=HX3.out.q0
 have r1:=HX3.out.q1
 have r2:=HX3.out.q2
 have r3:=HX3.out.q3
 have r4:=HX3.out.q4
 have z0:=HX3.out.f0
 have z1:=HX3.out.f1
 have z2:=HX3.out.f2
 have z3:=HX3.out.f3
 have z4:=HX3.out.f4
 go_wp2_with fail
 clear r0 r1 r2 r3 r4 z0 z1 z2 z3 z4
 have HO1:=hid HO.out
 have r0:=HO1.out.q0
 have r1:=HO1.out.q1
 have r2:=HO1.out.q2
 have r3:=HO1.out.q3
 have r4:=HO1.out.q4
 refine bodyPost_ret (v:=.tuple #[.agg #[.int .i64 (kindOf r),.int .i64 (nOf r),.string (sOf r),.slice A (nL r) B,.slice C (nK r) D],.int .i64 0]) (by simp [results,Tryz.results275,go_sem, *]) rfl ?_
 exact ⟨HBf.out,.inr ⟨r,A,B,C,D,by rw [← HK.out.2],rfl,HAt.out,HK.out.1⟩⟩
theorem meth_found (p:Value) (w:World):(method 419 266 p "Of").run Tryz.prog w=.ok (275,p) w:=by kernel_rfl
set_option maxHeartbeats 4000000 in
set_option maxRecDepth 100000 in
theorem found_ok {Tb:World→Prop} (hA:AtoiSaid Tb) (hI:ItoaSaid Tb) (hL:Lies Tb) {w:World} {pv:Value} {ps:List ByteArray} (hp:StrsAt w pv ps):ExprOk Tb w (.iface 266 (.agg #[pv])) (fun d=>.inr (orNull ps d)) :=
 ⟨_,_,_,rfl,meth_found _,fun _ _=>rfl,fun w0 wr x doc hb hb0 ha hk hT=>found_any hA hI hL pv ps x doc w0 wr hb0 ((hp.keep hb).keep hb0) ha hk hT⟩
def ListOk (Tb:World→Prop) (w:World) (v:Value) (gs:List (T→Int⊕T)):Prop :=
 ∃ A c,v=.slice A gs.length c∧gs.length≤1000000∧∀ i,(h:i<gs.length)→∃ b o u,A=some ⟨b,o,none⟩∧b<w.heap.size∧w.cell? ⟨b,o+i,none⟩=some u∧ExprOk Tb w u gs[i]
theorem ListOk.keep {Tb:World→Prop} {w w':World} {v:Value} {gs:List (T→Int⊕T)} (h:ListOk Tb w v gs) (hb:Below w.heap.size w w'):ListOk Tb w' v gs:=by
 obtain ⟨A,c,hv,hn,h⟩:=h
 refine ⟨A,c,hv,hn,fun i hi=>?_⟩
 obtain ⟨b,o,u,h0,hl,q,hu⟩:=h i hi
 exact ⟨b,o,u,h0,Nat.lt_of_lt_of_le hl hb.size,(hb.cell (p:=⟨b,_,none⟩) hl).trans q,hu.keep hb⟩
def evL (gs:List (T→Int⊕T)) (doc:T):Int⊕List T:=match gs with
 | []=>.inr []
 | g::r=>match g doc with
  | .inl x=>.inl x
  | .inr t=>match evL r doc with
   | .inl x=>.inl x
   | .inr l=>.inr (t::l)
theorem evL_snoc_err (gs:List (T→Int⊕T)) (g:T→Int⊕T) (r:List (T→Int⊕T)) (doc:T) {l:List T} {x:Int} (h:evL gs doc=.inr l) (hg:g doc=.inl x):evL (gs++g::r) doc=.inl x:=by
 induction gs generalizing l with
 | nil=>simp only [List.nil_append,evL,hg]
 | cons a s ih =>
  rw [List.cons_append]
  unfold evL at h ⊢
  cases ha:a doc with
  | inl y=>rw [ha] at h;cases h
  | inr t =>
   rw [ha] at h
   cases hs:evL s doc with
   | inl y=>simp only [hs] at h;cases h
   | inr m=>simp only [ih hs]
theorem evL_snoc (gs:List (T→Int⊕T)) (g:T→Int⊕T) (doc:T) {l:List T} {t:T} (h:evL gs doc=.inr l) (hg:g doc=.inr t):evL (gs++[g]) doc=.inr (l++[t]):=by
 induction gs generalizing l with
 | nil =>
  simp only [evL,Sum.inr.injEq] at h
  subst h
  simp only [List.nil_append,evL,hg]
 | cons a s ih =>
  rw [List.cons_append]
  unfold evL at h ⊢
  cases ha:a doc with
  | inl y=>rw [ha] at h;cases h
  | inr u =>
   rw [ha] at h
   cases hs:evL s doc with
   | inl y=>simp only [hs] at h;cases h
   | inr m =>
    simp only [hs,Sum.inr.injEq] at h
    subst h
    simp only [ih hs,List.cons_append]
end Go.Proofs.YtknakfpciccoaabGreatDoor
/- Rows that are built, one element behind the other, each of which reads what lies elsewhere; need. -/
namespace Go.Proofs.YtknakfpciccoaabGreatDoor
open Go.RowKit
set_option maxHeartbeats 4000000 in
set_option maxRecDepth 100000 in
theorem unless_any (ok:Bool) (n:Int) (w:World):Calls Tryz.prog 120 #[.bool ok,.int .i64 n] w fun e w'=>w'=w∧e=(if ok then .returned (.tuple #[]) else refused n):=by
 cases ok with
 | true =>
  go_enter Tryz.func120,Tryz.ntmps120
  go_wp2_with fail
  refine bodyPost_end (v:=.tuple #[]) (by simp [results,Tryz.results120,go_sem]) rfl ?_
  exact ⟨rfl,rfl⟩
 | false =>
  go_enter Tryz.func120,Tryz.ntmps120
  go_wp2_with fail
  exact ⟨rfl,rfl,rfl⟩
set_option maxHeartbeats 4000000 in
set_option maxRecDepth 100000 in
theorem need_any (ok:Bool) (w:World):Calls Tryz.prog 116 #[.bool ok] w fun e w'=>w'=w∧e=(if ok then .returned (.tuple #[]) else refused 8):=by
 have HC:=hid (unless_any ok 8 w)
 cases ok with
 | true =>
  simp only [if_true] at HC ⊢
  go_enter Tryz.func116,Tryz.ntmps116
  go_wp2_with fail
  refine HC.out.mono ?_
  rintro e w2 ⟨rfl,rfl⟩
  go_wp2_with fail
  refine bodyPost_end (v:=.tuple #[]) (by simp [results,Tryz.results116,go_sem]) rfl ?_
  exact ⟨rfl,rfl⟩
 | false =>
  simp only [Bool.false_eq_true,if_false] at HC ⊢
  go_enter Tryz.func116,Tryz.ntmps116
  go_wp2_with fail
  refine HC.out.mono ?_
  rintro e w2 ⟨rfl,rfl⟩
  exact ⟨rfl,rfl,rfl⟩
def Moves {α:Type} (E:World→(Nat→Prop)→List Value→α→Prop):Prop:=∀ (w w':World) (X X':Nat→Prop) (cs:List Value) (x:α),E w X cs x→(∀ b,X b→w'.heap[b]?=w.heap[b]?∧X' b)→E w' X' cs x
def elC (s:Nat) (xs:List Value) (i:Nat):List Value:=(xs.drop (i*s)).take s
def newX (base:Nat) (hv:Value) (w:World) (b:Nat):Prop:=base≤b∧b<w.heap.size∧some b≠hv.ownBlock
structure Bld {α:Type} (E:World→(Nat→Prop)→List Value→α→Prop) (s:Nat) (e:TypeId) (base:Nat) (hv:Value) (l:List α) (xs:List Value) (wr:World):Prop where
 row:wr.ownsRow base e s hv l.length xs
 el:∀ i,(h:i<l.length)→E wr (newX base hv wr) (elC s xs i) l[i]
theorem Bld.nil {α:Type} (E:World→(Nat→Prop)→List Value→α→Prop) (s:Nat) (e:TypeId) (base:Nat) (wr:World):Bld E s e base (.slice none 0 0) [] [] wr:=⟨World.ownsRow_nil _ _ _ _,fun i h=>absurd h (Nat.not_lt_zero i)⟩
theorem Bld.keep {α:Type} {E:World→(Nat→Prop)→List Value→α→Prop} (hE:Moves E) {s:Nat} {e:TypeId} {base:Nat} {hv:Value} {l:List α} {xs:List Value} {wr w1:World} (h:Bld E s e base hv l xs wr) (hb:Below wr.heap.size wr w1):Bld E s e base hv l xs w1 :=
 ⟨rowH_move h.row fun b _ h2=>hb.block b h2,fun i hi=>hE _ _ _ _ _ _ (h.el i hi) fun b hX=>⟨hb.block b hX.2.1,hX.1,Nat.lt_of_lt_of_le hX.2.1 hb.size,hX.2.2⟩⟩
theorem elC_left {s:Nat} {xs ys:List Value} {i n:Nat} (hx:xs.length=n*s) (hi:i<n):elC s (xs++ys) i=elC s xs i:=by
 have h1:(i+1)*s≤n*s:=Nat.mul_le_mul_right s hi
 rw [Nat.add_mul,Nat.one_mul] at h1
 unfold elC
 rw [List.drop_append_of_le_length (by omega),List.take_append_of_le_length (by rw [List.length_drop];omega)]
theorem elC_right {s:Nat} {xs ys:List Value} {n:Nat} (hx:xs.length=n*s) (hy:ys.length=s):elC s (xs++ys) n=ys:=by
 unfold elC
 rw [← hx,List.drop_left,← hy,List.take_length]
theorem own_lt2 {w:World} {lo:Nat} {e:TypeId} {size n:Nat} {v:Value} {xs:List Value} (h:w.ownsRow lo e size v n xs) {b:Nat} (hb:v.ownBlock=some b):lo≤b∧b<w.heap.size:=by
 rcases h.2 with ⟨rfl,_⟩ | ⟨g,cap,cur,rfl,hb0,hg,rest⟩
 ·cases hb
 ·have:b=g:=by simpa [Value.ownBlock] using hb.symm
  subst this
  exact ⟨hb0,(Array.getElem?_eq_some_iff.1 hg).1⟩
theorem Bld.grow {α:Type} {E:World→(Nat→Prop)→List Value→α→Prop} (hE:Moves E) {s:Nat} {e:TypeId} {base:Nat} {hv v':Value} {l:List α} {xs cs:List Value} {wr w2 w3:World} {x:α} {X:Nat→Prop} (h:Bld E s e base hv l xs wr) (hb:Below wr.heap.size wr w2) (hc:cs.length=s) (hx:E w2 X cs x) (hX:∀ b,X b→wr.heap.size≤b∧b<w2.heap.size) (hlo:base≤wr.heap.size)
  (hO:w3.ownsRow base e s v' (l.length+1) (xs++cs)) (hG:w2.grownBy w3 hv.ownBlock) (hat:v'.ownBlock=hv.ownBlock∨v'.ownBlock=some w2.heap.size):Bld E s e base v' (l++[x]) (xs++cs) w3:=by
 have hxl:xs.length=l.length*s:=h.row.1
 have own:∀ b,b<w2.heap.size→some b≠hv.ownBlock→some b≠v'.ownBlock:=fun b h1 h2=>by
  rcases hat with ha | ha
  ·rw [ha];exact h2
  ·rw [ha];intro e;simp only [Option.some.injEq] at e;omega
 refine ⟨by rw [List.length_append];exact hO,fun i hi=>?_⟩
 rw [List.length_append,List.length_cons,List.length_nil] at hi
 by_cases ei:i<l.length
 ·rw [List.getElem_append_left ei,elC_left hxl ei]
  refine hE _ _ _ _ _ _ (h.el i ei) fun b hX=>?_
  have h2:b<w2.heap.size:=Nat.lt_of_lt_of_le hX.2.1 hb.size
  exact ⟨(hG.block b h2 hX.2.2).trans (hb.block b hX.2.1),hX.1,Nat.lt_of_lt_of_le h2 hG.size,own b h2 hX.2.2⟩
 ·obtain rfl:i=l.length:=by omega
  rw [List.getElem_append_right (by omega),elC_right hxl hc]
  simp only [Nat.sub_self,List.getElem_cons_zero]
  refine hE _ _ _ _ _ _ hx fun b hb'=>?_
  have h1:=hX b hb'
  have h3:some b≠hv.ownBlock:=fun e=>by have:=(own_lt2 h.row e.symm).2;omega
  exact ⟨hG.block b h1.2 h3,by omega,Nat.lt_of_lt_of_le h1.2 hG.size,own b h1.2 h3⟩
structure Org where
 w:World
 y:Nat→Prop
def At0 (o:Org) (f:Nat) (v:Value) (t:T):Prop:=AtP o.y o.w f v t
def Elems0 (o:Org) (f:Nat) (La:Option Addr) (t:T):Prop:=∀ i,i<nL t→∃ b oo c0 c1 c2 c3 c4,La=some ⟨b,oo,none⟩∧(b<o.w.heap.size∧o.y b)∧o.w.cell? ⟨b,oo+i*5,none⟩=some c0∧o.w.cell? ⟨b,oo+i*5+1,none⟩=some c1∧o.w.cell? ⟨b,oo+i*5+2,none⟩=some c2∧o.w.cell? ⟨b,oo+i*5+3,none⟩=some c3∧o.w.cell? ⟨b,oo+i*5+4,none⟩=some c4∧AtP o.y o.w f (.agg #[c0,c1,c2,c3,c4]) (elt t i)
theorem At0.open {o:Org} {f:Nat} {v:Value} {t:T} (h:At0 o f v t):∃ (g:Nat) (La Ka:Option Addr) (Lc Kc:Nat),f=g+1 ∧
   v=.agg #[.int .i64 (kindOf t),.int .i64 (nOf t),.string (sOf t),.slice La (nL t) Lc,.slice Ka (nK t) Kc]∧Fits t∧Hid (Elems0 o g La t)∧Hid (NamesAt o.w Ka t):=by
 cases f with
 | zero=>exact h.elim
 | succ f =>
  obtain ⟨La,Ka,Lc,Kc,rfl,hf,hl,hk⟩:=h
  refine ⟨f,La,Ka,Lc,Kc,rfl,rfl,hf,hl,fun i hi=>?_⟩
  obtain ⟨b,oo,h0,⟨h1,_⟩,h2,h3⟩:=hk i hi
  exact ⟨b,oo,h0,h1,h2,h3⟩
theorem Elems0.shape {o:Org} {w':World} (h:Below o.w.heap.size o.w w') {f:Nat} {La:Option Addr} {t:T} (hl:Elems0 o f La t) (i:Nat) (hi:i<nL t) :
  ∃ b oo A B C D,La=some ⟨b,oo,none⟩∧b<o.w.heap.size∧w'.cell? ⟨b,oo+i*5,none⟩=some (.int .i64 (kindOf (elt t i)))∧w'.cell? ⟨b,oo+i*5+1,none⟩=some (.int .i64 (nOf (elt t i)))∧w'.cell? ⟨b,oo+i*5+2,none⟩=some (.string (sOf (elt t i)))∧w'.cell? ⟨b,oo+i*5+3,none⟩=some (.slice A (nL (elt t i)) B)∧w'.cell? ⟨b,oo+i*5+4,none⟩=some (.slice C (nK (elt t i)) D) ∧
   Hid (At0 o f (.agg #[.int .i64 (kindOf (elt t i)),.int .i64 (nOf (elt t i)),.string (sOf (elt t i)),.slice A (nL (elt t i)) B,.slice C (nK (elt t i)) D]) (elt t i)):=by
 obtain ⟨b,oo,c0,c1,c2,c3,c4,h0,⟨hb,_⟩,q0,q1,q2,q3,q4,ha⟩:=hl i hi
 obtain ⟨g,A,C,B,D,_,hv,_⟩:=(show At0 o f _ _ from ha).open
 simp only [Value.agg.injEq,Array.mk.injEq,List.cons.injEq,and_true] at hv
 obtain ⟨rfl,rfl,rfl,rfl,rfl⟩:=hv
 exact ⟨b,oo,A,B,C,D,h0,hb,(h.cell (p:=⟨b,_,none⟩) hb).trans q0,(h.cell (p:=⟨b,_,none⟩) hb).trans q1,(h.cell (p:=⟨b,_,none⟩) hb).trans q2,(h.cell (p:=⟨b,_,none⟩) hb).trans q3,(h.cell (p:=⟨b,_,none⟩) hb).trans q4,ha⟩
def RowB (w:World) (X:Nat→Prop) (R:R7) (v:Value) (ps:List (ByteArray×T)):Prop :=
 ∃ (A:Option Addr) (c:Nat),v=.slice A ps.length c∧ps.length≤1000000000∧∀ i,(h:i<ps.length)→∃ b o c0 c1 c2 c3 c4 c5 c6,A=some ⟨b,o,none⟩∧X b∧w.cell? ⟨b,o+i*7,none⟩=some c0∧w.cell? ⟨b,o+i*7+1,none⟩=some c1∧w.cell? ⟨b,o+i*7+2,none⟩=some c2∧w.cell? ⟨b,o+i*7+3,none⟩=some c3∧w.cell? ⟨b,o+i*7+4,none⟩=some c4∧w.cell? ⟨b,o+i*7+5,none⟩=some c5∧w.cell? ⟨b,o+i*7+6,none⟩=some c6∧R c0 c1 c2 c3 c4 c5 c6 ps[i]
def TestB (w0 : Org) (w : World) (X : Nat → Prop) : Nat → R7
  | 0 => fun _ _ _ _ _ _ _ _ => False
  | m + 1 => fun c0 c1 c2 c3 c4 c5 c6 p => c0 = .string p.1 ∧ p.1.size ≤ 140737488355328 ∧
      ((isInn p.1 ∧ c1 = .int .i64 0 ∧ c2 = .int .i64 0 ∧ c3 = .string ⟨#[]⟩ ∧ c4 = .slice none 0 0 ∧ c5 = .slice none 0 0 ∧ RowB w X (TestB w0 w X m) c6 (prs p.2)) ∨
       (¬ isInn p.1 ∧ c6 = .slice none 0 0 ∧ ∃ g A B C D, g ≤ 16 ∧ c1 = .int .i64 (kindOf p.2) ∧ c2 = .int .i64 (nOf p.2) ∧ c3 = .string (sOf p.2) ∧ c4 = .slice A (nL p.2) B ∧ c5 = .slice C (nK p.2) D ∧ At0 w0 g (.agg #[.int .i64 (kindOf p.2), .int .i64 (nOf p.2), .string (sOf p.2), .slice A (nL p.2) B, .slice C (nK p.2) D]) p.2 ∧ okA p.2))
theorem RowB.move {w w':World} {X X':Nat→Prop} {R R':R7} {v:Value} {ps:List (ByteArray×T)} (h:RowB w X R v ps) (hb:∀ b,X b→w'.heap[b]?=w.heap[b]?∧X' b) (hR:∀ c0 c1 c2 c3 c4 c5 c6 p,R c0 c1 c2 c3 c4 c5 c6 p→R' c0 c1 c2 c3 c4 c5 c6 p):RowB w' X' R' v ps:=by
 obtain ⟨A,c,hv,hn,h⟩:=h
 refine ⟨A,c,hv,hn,fun i hi=>?_⟩
 obtain ⟨b,o,c0,c1,c2,c3,c4,c5,c6,h0,hl,q0,q1,q2,q3,q4,q5,q6,hr⟩:=h i hi
 obtain ⟨h1,h2⟩:=hb b hl
 exact ⟨b,o,c0,c1,c2,c3,c4,c5,c6,h0,h2,(cell_of h1 _).trans q0,(cell_of h1 _).trans q1,(cell_of h1 _).trans q2,(cell_of h1 _).trans q3,(cell_of h1 _).trans q4,(cell_of h1 _).trans q5,(cell_of h1 _).trans q6,hR _ _ _ _ _ _ _ _ hr⟩
theorem TestB.move {w0:Org} {w w':World} {X X':Nat→Prop} (hb:∀ b,X b→w'.heap[b]?=w.heap[b]?∧X' b):∀ (m:Nat) (c0 c1 c2 c3 c4 c5 c6:Value) (p:ByteArray×T),TestB w0 w X m c0 c1 c2 c3 c4 c5 c6 p→TestB w0 w' X' m c0 c1 c2 c3 c4 c5 c6 p
 | 0,_,_,_,_,_,_,_,_,h=>h
 | m+1,c0,c1,c2,c3,c4,c5,c6,p,h=>by
  obtain ⟨h0,h1,⟨hi,z1,z2,z3,z4,z5,hr⟩ | h2⟩:=h
  ·exact ⟨h0,h1,.inl ⟨hi,z1,z2,z3,z4,z5,hr.move hb (TestB.move hb m)⟩⟩
  ·exact ⟨h0,h1,.inr h2⟩
theorem RowB.at {w:World} {X:Nat→Prop} {R R':R7} {v:Value} {ps:List (ByteArray×T)} (h:RowB w X R v ps) (hX:∀ b,X b→b<w.heap.size) (hR:∀ c0 c1 c2 c3 c4 c5 c6 p,R c0 c1 c2 c3 c4 c5 c6 p→R' c0 c1 c2 c3 c4 c5 c6 p):RowT w R' v ps:=by
 obtain ⟨A,c,hv,hn,h⟩:=h
 refine ⟨A,c,hv,hn,fun i hi=>?_⟩
 obtain ⟨b,o,c0,c1,c2,c3,c4,c5,c6,h0,hl,q0,q1,q2,q3,q4,q5,q6,hr⟩:=h i hi
 exact ⟨b,o,c0,c1,c2,c3,c4,c5,c6,h0,hX b hl,q0,q1,q2,q3,q4,q5,q6,hR _ _ _ _ _ _ _ _ hr⟩
theorem TestB.at {w0:Org} {w:World} {X:Nat→Prop} (hX:∀ b,X b→b<w.heap.size) (hb:∀ f v t,At0 w0 f v t→At w f v t):∀ (m:Nat) (c0 c1 c2 c3 c4 c5 c6:Value) (p:ByteArray×T),TestB w0 w X m c0 c1 c2 c3 c4 c5 c6 p→TestAt w m c0 c1 c2 c3 c4 c5 c6 p
 | 0,_,_,_,_,_,_,_,_,h=>h
 | m+1,c0,c1,c2,c3,c4,c5,c6,p,h=>by
  obtain ⟨h0,h1,⟨hi,z1,z2,z3,z4,z5,hr⟩ | ⟨hi,z6,g,A,B,C,D,hg,z1,z2,z3,z4,z5,ha,hk⟩⟩:=h
  ·exact ⟨h0,h1,.inl ⟨hi,z1,z2,z3,z4,z5,hr.at hX (TestB.at hX hb m)⟩⟩
  ·exact ⟨h0,h1,.inr ⟨hi,z6,g,A,B,C,D,hg,z1,z2,z3,z4,z5,hb _ _ _ ha,hk⟩⟩
def TestE (w0:Org) (m:Nat) (w:World) (X:Nat→Prop) (cs:List Value) (p:ByteArray×T):Prop:=∃ c0 c1 c2 c3 c4 c5 c6,cs=[c0,c1,c2,c3,c4,c5,c6]∧TestB w0 w X m c0 c1 c2 c3 c4 c5 c6 p
theorem testE_moves (w0:Org) (m:Nat):Moves (TestE w0 m):=fun _ _ _ _ _ _ h hb=>by
 obtain ⟨c0,c1,c2,c3,c4,c5,c6,hc,h⟩:=h
 exact ⟨c0,c1,c2,c3,c4,c5,c6,hc,TestB.move hb m _ _ _ _ _ _ _ _ h⟩
end Go.Proofs.YtknakfpciccoaabGreatDoor
