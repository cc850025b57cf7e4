import Derived.Test.YtknakfpciccoaaaGreatDoorZF39
import Derived.Test.YtknakfpciccoaaaGreatDoorZF34
import Derived.WalkKit
/- The reference's Delete. -/
set_option maxHeartbeats 8000000
set_option maxRecDepth 100000
namespace Go.Proofs.YtknakfpciccoaaaGreatDoor
open Go.RowKit
theorem Uj {Q:Nat->Prop} {L:Nat->Nat} {w ws wx:World} {p g n cap:Nat} {l:List RC} {i:Nat} {r:RC} {vi vo:Value} {li lo:List T} {xi xo:List Value} (hI:CZ L w p (.slice (some ⟨g,0,none⟩) n cap) l) (hn:l.length=n) (xQ:∀ b,L b≠0->Q b) (hQ:∀ b,w.heap.size<=b->Q b) (hi:l[i]?=some r) (bs:Below w.heap.size w ws) (hT:Qd (fun b=>L b=1) w ws vi li xi vo lo xo wx) :
  aP Q w (wx.setCell ⟨g,i*2+1,none⟩ vo)/\wu Q (wx.setCell ⟨g,i*2+1,none⟩ vo) p ((l.set i ⟨r.nm,lo,vo,xo⟩).map gN):=by
 subst hn;have hb:=bs.trans (hT.low.mono bs.size);have hgl:L g=3:=hI.fP g rfl;have hg:g<w.heap.size:=hI.low g (by omega);obtain ⟨t1,t2,t3,t4⟩:=fE wx ⟨g,i*2+1,none⟩ vo;have JR:∀ b,b≠g->(wx.setCell ⟨g,i*2+1,none⟩ vo).heap[b]?=wx.heap[b]?:=fun b hb=>Below.heap_setCell _ _ _ _ (by simpa using hb)
 have hrow:wx.ownsRow 0 159 2 (.slice (some ⟨g,0,none⟩) l.length cap) l.length (l.flatMap tT):=bP hI.row fun b e=>by
  obtain rfl:g=b:=by simpa [Value.ownBlock] using e
  exact hb.block g hg
 have hvo:∀ b,vo.ownBlock=some b->w.heap.size<=b:=fun b e=>Nat.le_trans bs.size (hT.ho.row.lt b e).1;obtain ⟨L',h1,h2⟩:=hI.set (r':=⟨r.nm,lo,vo,xo⟩) (w':=wx.setCell ⟨g,i*2+1,none⟩ vo) hi rfl w.heap.size (Nat.le_refl _) (by rw [t1];exact hb.size) (fun b hb1 hb2 _=>(JR b (fun e=>hb2 (by rw [e];rfl))).trans (hb.block b hb1)) (hrow.stored (i*2+1) vo).1 (.inr hvo) (ownsRow_setCell_other (a:=⟨g,i*2+1,none⟩) (mY hT.ho.row (Nat.zero_le _)) (fun e=>by have:=hvo g e;omega) vo) (fun k hk=>(hT.ho.at_ k hk).move (by rw [t1];exact hb.size) fun b hbl hp=>⟨.inl ⟨hbl,hp⟩,(JR b (fun e=>by subst e;omega)).trans (hb.block b hbl)⟩);exact ⟨⟨t2.trans hb.os,t3.trans hb.tape,t4.trans hb.output,by rw [t1];exact hb.size,fun b hb1 hb2=>(JR b (fun e=>hb2 (by rw [e];exact xQ g (by omega)))).trans (hb.block b hb1)⟩,L',_,_,h2,fun b hb=>(h1 b hb).elim (xQ b) (hQ b),rfl⟩
theorem Wn {l:List RC} {x s:ByteArray} (h:eB (l.map gN) x s=0):∃ i,bT x (l.map (·.nm))=some i:=by
 cases hi:bT x (l.map (·.nm)) with
 | some i=>exact ⟨i,rfl⟩
 | none =>
  have:=xP hi;unfold eB at h;rw [this] at h;split at h
  ·rename_i e;exact absurd h e
  ·split at h
   ·cases h
   ·cases h
theorem yJ {Q:Nat->Prop} {w:World} {p:Nat} {S:fH} (h:wu Q w p S) (hQ:∀ b,w.heap.size<=b->Q b) (hn:S.length<=6) (hm:∀ r ∈ S,r.2.length<=60) (hd:∀ r ∈ S,∀ t ∈ r.2,QB t) (x s:ByteArray) :
  Calls Tryz.prog 95 #[.pointer (some ⟨p,0,none⟩),.string x,.string s] w fun e w'=>e=.returned (.tuple #[.int .i64 (dI S x s).length,.int .i64 (eB S x s)])/\aP Q w w'/\wu Q w' p (ze S x s):=by
 have H:=aj h;obtain ⟨L,v,l,hI,xQ,rfl⟩:=h;have Yh:l.length<=6:=by rw [List.length_map] at hn;exact hn
 have HS:=aj (Ci hI Yh (fun r hr=>hm _ (List.mem_map_of_mem hr)) (fun r hr t ht=>⟨(hd _ (List.mem_map_of_mem hr) t ht).1,(hd _ (List.mem_map_of_mem hr) t ht).gd⟩) x s);have Qi:=aj (zV hm x s);have HI:=aj hI;have UM:=aj xQ;have HQ:=aj hQ;by_cases he:eB (l.map gN) x s=0
 ·obtain ⟨i,hi⟩:=Wn he;obtain ⟨r,hr,hrn,hlk⟩:=xO hi;have HF:Hid (∀ wy:World,Below w.heap.size w wy->Calls Tryz.prog 131 #[.pointer (some ⟨p,0,none⟩),.string x] wy fun e w'=>e=.returned (.int .i64 (i:Int))/\w'=wy):=fun wy hb=>(o9 (hI.keep hb) (by omega) x).mono fun e w' hh=>⟨by rw [hh.1,hi];rfl,hh.2⟩;obtain ⟨g,cap,rfl,hg,hil,q0,q1⟩:=hI.cells hr;have Hfr:=aj (hI.row.frozenAt (i*2+1))
  have HR:Hid (∀ lo vo xo,lo=F9 (l.map gN) x s->(l.set i ⟨r.nm,lo,vo,xo⟩).map gN=ze (l.map gN) x s):=fun lo vo xo e=>by
   rw [FX (r':=⟨r.nm,lo,vo,xo⟩) hrn hi,e];unfold ze F9;rw [if_pos he,if_pos he]
  have Hr:=aj hr;have EN:Hid (∀ wy:World,Below w.heap.size w wy->wy.cell? ⟨p,0,none⟩=some (.slice (some ⟨g,0,none⟩) l.length cap)/\wy.cell? ⟨g,i*2+1,none⟩=some r.dv/\wy.frozen? ⟨g,i*2+1,none⟩=false):=fun wy hb=>⟨(hb.cell (p:=⟨p,0,none⟩) (HI.out.low p (by rw [HI.out.lp];omega))).trans HI.out.cell,(hb.cell (p:=⟨g,i*2+1,none⟩) hg).trans q1,(hb.frozen (p:=⟨g,i*2+1,none⟩) hg).trans Hfr.out⟩;obtain ⟨n,hl⟩:∃ n,l.length=n:=⟨_,rfl⟩;have Hl:=aj hl;obtain ⟨RA,Rc,hdv⟩:=aJ (hI.col r (List.mem_of_getElem? hr)).row;rw [hdv] at EN;rw [hl] at EN hil Yh HI;have He:=aj he;have hz:(eB (l.map gN) x s != 0)=false:=by rw [he];rfl
  have z1:(i:Int)<(n:Int):=by omega
  clear hI xQ hn hm hd hi hr hrn hlk hg q0 q1 hl hdv hQ he;go_in;go_wp2_with fail;refine HS.out.mono ?_;rintro e w1 ⟨ws,A,B,C,D,xi,xo,bs,rfl,hT⟩;have HB1:=aj (bs.trans (hT.low.mono bs.size));have UO:=aj (And.intro bs (hT.keep (ak w1)));obtain ⟨q0,q1,q2⟩:=EN.out w1.drew HB1.out.drew;obtain ⟨m0,m1,m2⟩:=EN.out w1 HB1.out;have HFd:=aj (HF.out w1.drew HB1.out.drew);have adz:Hid (∀ vo xo,_):=fun vo xo=>HR.out _ vo xo rfl;clear hT bs HS HF EN;go_wp2_with fail;go_region_law (go_simp;go_wp2_with (go_at_call 131;refine HFd.out.mono ?_;rintro e w2 ⟨rfl,rfl⟩))
  all_goals
   go_wp2_with fail;refine bodyPost_ret (v:=.tuple #[.int .i64 (dI (l.map gN) x s).length,.int .i64 0]) (by simp [results,Tryz.results95,go_sem, *]) rfl ?_;obtain ⟨k1,k2⟩:=Uj HI.out Hl.out UM.out HQ.out Hr.out UO.out.1 UO.out.2;rw [adz.out] at k2;exact ⟨by rw [He.out],k1,k2⟩
 ·have adA:Hid (ze (l.map gN) x s=l.map gN):=if_neg he;have HfA:Hid ((dI (l.map gN) x s).length=0):=by show _=_;unfold dI;rw [if_neg he];rfl
  have hz:(eB (l.map gN) x s != 0)=true:=by simpa using he
  clear hI xQ hn hm hd he hQ;go_in;go_wp2_with fail;refine HS.out.mono ?_;rintro e w1 ⟨ws,A,B,C,D,xi,xo,bs,rfl,hT⟩;have HB1:=aj (bs.trans (hT.low.mono bs.size));clear hT bs HS;go_wp2_with fail;refine bodyPost_ret (v:=.tuple #[.int .i64 0,.int .i64 (eB (l.map gN) x s)]) (by simp [results,Tryz.results95,go_sem, *]) rfl ?_;exact ⟨by rw [HfA.out];rfl,aP.of HB1.out,by rw [adA.out];exact H.out.move HB1.out.size fun b hb _=>HB1.out.block b hb⟩
structure InS (w6 W:World) (c gd n cap dn nC o:Nat) (xs ys:List Value):Prop where
 os:W.os=w6.os
 tape:W.tape=w6.tape
 output:W.output=w6.output
 size:W.heap.size=w6.heap.size
 block:∀ b,b≠c->b≠gd->W.heap[b]?=w6.heap[b]?
 aaX:W.ownsRow 0 25 5 (.slice (some ⟨gd,0,none⟩) (dn+1) nC) (dn+1) ys
 aaY:W.ownsRow 0 159 2 (.slice (some ⟨c,0,none⟩) n cap) n (xs.set o (.slice (some ⟨gd,0,none⟩) (dn+1) nC))
theorem aaZ {w6:World} {c gd n cap dn nC o:Nat} {xs ys:List Value} (hne:gd≠c) (hD:w6.ownsRow 0 25 5 (.slice (some ⟨gd,0,none⟩) (dn+1) nC) (dn+1) ys) (hC:w6.ownsRow 0 159 2 (.slice (some ⟨c,0,none⟩) n cap) n xs) :
  InS w6 (w6.setCell ⟨c,o,none⟩ (.slice (some ⟨gd,0,none⟩) (dn+1) nC)) c gd n cap dn nC o xs ys:=by
 obtain ⟨t1,t2,t3,t4⟩:=fE w6 ⟨c,o,none⟩ (.slice (some ⟨gd,0,none⟩) (dn+1) nC);exact ⟨t2,t3,t4,t1,fun b h1 _=>Below.heap_setCell _ _ _ _ (by simpa using h1),ownsRow_setCell_other (a:=⟨c,o,none⟩) hD (by simpa [Value.ownBlock] using hne) _,(hC.stored o _).1⟩
theorem adB {w6:World} {c gd n cap dn nC o:Nat} {xs ys:List Value} {y0 y1 y2 y3 y4:Value} (hne:gd≠c) (hy:ys.length=dn*5) (hD:w6.ownsRow 0 25 5 (.slice (some ⟨gd,0,none⟩) (dn+1) nC) (dn+1) (ys++[y0,y1,y2,y3,y4])) (hC:w6.ownsRow 0 159 2 (.slice (some ⟨c,0,none⟩) n cap) n xs) (u0 u1 u2 u3 u4:Value) :
  InS w6 (eu (w6.setCell ⟨c,o,none⟩ (.slice (some ⟨gd,0,none⟩) (dn+1) nC)) gd (dn*5) u0 u1 u2 u3 u4) c gd n cap dn nC o xs (ys++[u0,u1,u2,u3,u4]):=by
 have h:=aaZ (o:=o) hne hD hC;generalize w6.setCell ⟨c,o,none⟩ (.slice (some ⟨gd,0,none⟩) (dn+1) nC)=w7 at *;obtain ⟨r1,r2,r3,r4⟩:=uz w7 gd (dn*5) u0 u1 u2 u3 u4;have hoth:∀ b,b≠gd->(eu w7 gd (dn*5) u0 u1 u2 u3 u4).heap[b]?=w7.heap[b]?:=fun b hb=>lq w7 hb _ _ _ _ _ _;refine ⟨r2.trans h.os,r3.trans h.tape,r4.trans h.output,r1.trans h.size,fun b h1 h2=>(hoth b h2).trans (h.block b h1 h2),xE h.aaX hy u0 u1 u2 u3 u4,bP h.aaY fun b e=>hoth b ?_⟩;obtain rfl:c=b:=by simpa [Value.ownBlock] using e
 exact Ne.symm hne
theorem Uk {Q:Nat->Prop} {L:Nat->Nat} {w w1 wx w6 W:World} {p g n cap gd nC:Nat} {l:List RC} {i:Nat} {r:RC} {t:T} {c0 c1 c2 c3 c4:Value} (hI:CZ L w p (.slice (some ⟨g,0,none⟩) n cap) l) (hn:l.length=n) (xQ:∀ b,L b≠0->Q b) (hQ:∀ b,w.heap.size<=b->Q b) (hi:l[i]?=some r) (hb1:Below w.heap.size w w1) (hbx:Below w1.heap.size w1 wx) (ha:nu (bZ w w1) w1 13 (.agg #[c0,c1,c2,c3,c4]) t) (hG:wx.grownBy w6 r.dv.ownBlock) (hat:r.dv.ownBlock=some gd\/wx.heap.size<=gd)
  (hW:InS w6 W g gd n cap r.docs.length nC (i*2+1) (l.flatMap tT) (r.dx++[c0,c1,c2,c3,c4])) :
  aP Q w W/\wu Q W p ((l.set i ⟨r.nm,r.docs++[t],.slice (some ⟨gd,0,none⟩) (r.docs.length+1) nC,r.dx++[c0,c1,c2,c3,c4]⟩).map gN):=by
 subst hn;have hr:=hI.col r (List.mem_of_getElem? hi);have hbw:=hb1.trans (hbx.mono hb1.size);have s1:=hb1.size;have s2:=hbx.size;have s3:=hG.size;have s4:=hW.size;have hgl:L g=3:=hI.fP g rfl
 have old:∀ b,b<w1.heap.size->b≠g->some b≠r.dv.ownBlock->W.heap[b]?=w1.heap[b]?:=fun b h1 h2 h3=>(hW.block b h2 (fun e=>by
  rcases hat with h | h
  ·exact h3 (by rw [h,e])
  ·omega)).trans ((hG.block b (by omega) h3).trans (hbx.block b h1))
 have low:∀ b,r.dv.ownBlock=some b->L b=4/\b<w.heap.size:=fun b e=>⟨hr.fP b e,hI.low b (by rw [hr.fP b e];omega)⟩;have hg:=hI.low g (by omega);have hx:r.dx.length=r.docs.length*5:=hr.row.1
 obtain ⟨L',h1,h2⟩:=hI.set (w':=W) (r':=⟨r.nm,r.docs++[t],.slice (some ⟨gd,0,none⟩) (r.docs.length+1) nC,r.dx++[c0,c1,c2,c3,c4]⟩) hi rfl w1.heap.size s1 (by omega) (fun b hb1' hb2 hb3=>(old b (by omega) (fun e=>hb2 (by rw [e];rfl)) hb3).trans (hb1.block b hb1')) hW.aaY (by
  rcases hat with h | h
  ·exact .inl (by rw [h];rfl)
  ·exact .inr fun b e=>by
    have:gd=b:=by simpa [Value.ownBlock] using e
    omega) (by rw [List.length_append];exact hW.aaX) (fun k hk=>by
  rw [List.length_append,List.length_cons,List.length_nil] at hk;by_cases e:k<r.docs.length
  ·show nu _ W 13 (fv (r.dx++_) k) (r.docs++[t])[k];rw [List.getElem_append_left e,FM hx e];exact (hr.at_ k e).move (by omega) fun b hbl hp=>⟨.inl ⟨hbl,hp⟩,(old b (by omega) (fun e=>by subst e;omega) (fun e=>by have:=(low b e.symm).1;omega)).trans (hb1.block b hbl)⟩
  ·obtain rfl:k=r.docs.length:=by omega
   show nu _ W 13 (fv (r.dx++_) r.docs.length) (r.docs++[t])[r.docs.length];rw [List.getElem_append_right (by omega),BF hx];simp only [Nat.sub_self,List.getElem_cons_zero];exact ha.move (by omega) fun b hbl hp=>⟨.inr hp,old b hp.2 (fun e=>by have:=hp.1;omega) (fun e=>by have:=(low b e.symm).2;have:=hp.1;omega)⟩)
 refine ⟨⟨hW.os.trans (hG.os.trans hbw.os),hW.tape.trans (hG.tape.trans hbw.tape),hW.output.trans (hG.output.trans hbw.output),by omega,fun b hb hnq=>?_⟩,L',_,_,h2,fun b hb=>(h1 b hb).elim (xQ b) (hQ b),rfl⟩;exact (old b (by omega) (fun e=>hnq (by rw [e];exact xQ g (by omega))) (fun e=>hnq (xQ b (by rw [(low b e.symm).1];omega)))).trans (hb1.block b hb)
theorem JK {Q:Nat->Prop} {L:Nat->Nat} {w w1 wx w6 W:World} {p g n cap gd dn nC H:Nat} {l:List RC} {i:Nat} {r:RC} {t:T} {c0 c1 c2 c3 c4:Value} {La:Option Addr} {Lc:Nat} (hI:CZ L w p (.slice (some ⟨g,0,none⟩) n cap) l) (hn:l.length=n) (xQ:∀ b,L b≠0->Q b) (hQ:∀ b,w.heap.size<=b->Q b) (hi:l[i]?=some r) (hb1:Below w.heap.size w w1) (hbx:Below w1.heap.size w1 wx) (ha:nu (bZ w w1) w1 13 (.agg #[c0,c1,c2,c3,c4]) t) (hdl:r.docs.length=dn) (hdv:r.dv=.slice La dn Lc) (hG:wx.grownBy w6 (Value.slice La dn Lc).ownBlock) (hat:(Value.slice La dn Lc).ownBlock=some gd\/gd=H) (hH:wx.heap.size=H)
  (hW:InS w6 W g gd n cap dn nC (i*2+1) (l.flatMap tT) (r.dx++[c0,c1,c2,c3,c4])) {S':fH} (hS:∀ dv dx,(l.set i ⟨r.nm,r.docs++[t],dv,dx⟩).map gN=S'):aP Q w W/\wu Q W p S':=by
 subst hdl;have h:=Uk hI hn xQ hQ hi hb1 hbx ha (by rw [hdv];exact hG) (by rw [hdv];exact hat.imp id (fun e=>by omega)) hW;rw [hS] at h;exact h
theorem Ul {t:T} (h:iG t=true):∃ k,Qz t=some k/\ah t=6/\(ah (elt t k)=3\/ah (elt t k)=4):=by
 unfold iG at h;simp only [Bool.and_eq_true,beq_iff_eq] at h;cases hi:Qz t with
 | none=>rw [hi] at h;simp at h
 | some k =>
  rw [hi] at h;exact ⟨k,rfl,h.1,by simpa using h.2⟩
theorem Gi {t:T} (h:ah t=6):wL Y6 t=Qz t:=by unfold wL;rw [if_pos h];rfl
theorem QB.id {t:T} (h:QB t):∃ k,wL Y6 t=some k/\k<nL t/\Gs t=elt t k:=by
 obtain ⟨k,h1,h2,_⟩:=Ul h.2.2;obtain ⟨_,k',h3,h4⟩:=xD h.1 h.2.2;rw [h1] at h3;cases h3;exact ⟨k,(Gi h2).trans h1,h4,by unfold Gs;rw [h1];rfl⟩
theorem YA {t:T} (h:DN t=true):jI t=decide ((1000:Int)<((bY (bK 12 t)).size:Int)):=by
 unfold jI Pk;rw [h];simp only [Bool.not_true,Bool.false_or,if_true];rw [decide_eq_decide];omega
section
variable {b c : Nat} {vs ns : Value} {n : Int} {E : List jh} {c0 c1 c2 c3 c4 : Value} {w1 : World} {vs' ns' : Value} {wr : World}
end
theorem Co {P:Program} (w:World) (base:Nat) (t ty e:TypeId) (i:TypeInfo) (z:Value) (size bytes:Nat) (ht:P.underlying t=some (.slice e)) (hi:P.info? e=some i) (hz:i.zero=some z)
  (hsize:i.size=size) (hby:i.bytes=bytes) (hzs:z.cells.size=size) (hsz:0<size)
  (v:Value) (n:Nat) (xs:List Value) (hown:w.ownsRow base e size v n xs)
  (a:Addr) (m c:Nat) (news:List Value) (hl:news.length=m*size) (hnews:∀ j u,news[j]?=some u->w.cell? (a.add j)=some u) (h1:∀ u ∈ news,u.oneCell'=true)
  (hm:0<m) (h63:n+m<=maxLen) (hbytes:(n+m)*bytes<=140737488355328) (hbase:base<=w.heap.size) :
  ∃ g cap w',(Builtin.append_ #[t,t] ty #[v,.slice (some a) m c]).run P w=.ok (.slice (some ⟨g,0,none⟩) (n+m) cap) w'/\w'.ownsRow base e size (.slice (some ⟨g,0,none⟩) (n+m) cap) (n+m) (xs++news) /\
   ((v=.slice (some ⟨g,0,none⟩) n cap/\w.grownBy w' (some g))\/(w.heap.size<=g/\w.grownBy w' none)):=by
 obtain ⟨v',w',hr,ho,hg,hn⟩:=run_append_own (P:=P) w base t ty e i z size bytes ht hi hz hsize hby hzs hsz v n xs hown a m c news hl hnews h1 h63 hbytes hbase
 have hsh:∃ g cap,v'=.slice (some ⟨g,0,none⟩) (n+m) cap:=by
  rcases ho.2 with ⟨_,h⟩ | ⟨g,cap,_,h,_⟩
  ·omega
  ·exact ⟨g,cap,h⟩
 obtain ⟨g',cap',rfl⟩:=hsh;refine ⟨g',cap',w',hr,ho,?_⟩;rcases hown.2 with ⟨rfl,rfl⟩ | ⟨g,cap,cur,rfl,hbg,hgc,hnc,hcm,hcs,htake⟩
 ·right
  obtain ⟨v2,w2,hr2,ho2,hg2,_⟩:=run_append_own (P:=P) w w.heap.size t ty e i z size bytes ht hi hz hsize hby hzs hsz (.slice none 0 0) 0 xs ⟨hown.1,.inl ⟨rfl,rfl⟩⟩ a m c news hl hnews h1 h63 hbytes (Nat.le_refl _);rw [hr] at hr2;cases hr2;exact ⟨(ho2.lt g' rfl).1,hg⟩
 ·by_cases hroom:n+m<=cap
  ·left
   subst hsize;have hfit:n*i.size+news.length<=cur.size:=by rw [hl,hcs,<- Nat.add_mul];exact Nat.mul_le_mul_right _ hroom
   have hr2:=run_append_room (P:=P) w t ty e i ht hi g n cap cur hgc a m c news hl hnews h1 hroom hfit;rw [hr] at hr2;cases hr2;exact ⟨rfl,hg⟩
  ·right
   subst hsize;subst hby;have hsmall:n+m<=9223372036854775807:=by simp only [maxLen] at h63;omega
   have hr2:=run_append_grow (P:=P) w t ty e i z ht hi hz ⟨g,0,none⟩ n cap xs hown.1 (hown.cells (g:=g) rfl) a m c news hl hnews (by omega) (by omega) (growslice_fits (by omega) hbytes);rw [hr] at hr2;cases hr2;exact ⟨Nat.le_refl _,⟨rfl,rfl,rfl,by simp,fun k hk _=>Below.heap_alloc w.drew _ k hk⟩⟩
theorem wJ {P:Program} (w:World) {ops:Array Oper} {rest:List Oper} {o:Oper} {a:Act} {Q:Exit->Act->World->Prop} (hgd:o.guard=none) (s x:Operand) (t:TypeId)
  (ho:o.op=.call { callee:=.builtin .append,args:=#[s,x],argTypes:=#[t,t] })
  (base:Nat) (e:TypeId) (i:TypeInfo) (z:Value) (size bytes:Nat) (ht:P.underlying t=some (.slice e)) (hi:P.info? e=some i) (hz:i.zero=some z)
  (hsize:i.size=size) (hby:i.bytes=bytes) (hzs:z.cells.size=size) (hsz:0<size)
  (v:Value) (n:Nat) (xs:List Value) (hs:a.eval s=v) (hown:w.ownsRow base e size v n xs)
  (ad:Addr) (m c:Nat) (news:List Value) (hx:a.eval x=.slice (some ad) m c) (hl:news.length=m*size) (hnews:∀ j u,news[j]?=some u->w.cell? (ad.add j)=some u) (h1:∀ u ∈ news,u.oneCell'=true)
  (hm:0<m) (h63:n+m<=maxLen) (hbytes:(n+m)*bytes<=140737488355328) (hbase:base<=w.heap.size)
  (h:∀ g cap w',w'.ownsRow base e size (.slice (some ⟨g,0,none⟩) (n+m) cap) (n+m) (xs++news)->((v=.slice (some ⟨g,0,none⟩) n cap/\w.grownBy w' (some g))\/(w.heap.size<=g/\w.grownBy w' none))->wpList P ops Q rest (a.put o.dst (.slice (some ⟨g,0,none⟩) (n+m) cap)) w'):wpList P ops Q (o::rest) a w :=
 wpList_plain hgd fun K hK=>by
  obtain ⟨g,cap,w',hr,h2,h3⟩:=Co (P:=P) w base t o.type e i z size bytes ht hi hz hsize hby hzs hsz v n xs hown ad m c news hl hnews h1 hm h63 hbytes hbase;unfold Oper.wp execOp;simp only [ho,resolve,invoke,builtin,Sem.run_bind,Sem.run_pure,Result.andThen_ok,List.map_toArray,List.map_cons,List.map_nil,hs,hx,hr];exact hK _ _ (h g cap w' h2 h3)
def nc (n:Nat):Nat->Value:=fun _=>.string (pq n)
section
variable {lo b : Nat} {w : World} {es : List jh} {n : Nat} {vs ns : Value} {i kL kK : Nat} {wr : World}
end
def Rd (w:World) (e:TypeId) (size:Nat) (v:Value) (len:Nat) (c:Nat->Value):Prop :=
 (∃ A cap,v=.slice A len cap/\len<=maxLen)/\(0<len->∃ g cap cur,v=.slice (some ⟨g,0,none⟩) len cap/\w.heap[g]?=some (.cells cur e (0,0))/\∀ j,j<len*size->cur[j]?=some (c (j % size)))
theorem qE.rd {w:World} {e:TypeId} {size len:Nat} {v:Value} {c:Nat->Value} (h:qE w e size v len len c):Rd w e size v len c:=by
 obtain ⟨xs,h1,h2⟩:=h
 have hm:len<=maxLen:=by
  rcases h1.2 with ⟨_,rfl⟩ | ⟨g,cap,cur,_,_,_,h3,h4,_⟩
  ·exact Nat.zero_le _
  ·exact Nat.le_trans h3 h4
 obtain ⟨A,d,e⟩:=aJ h1;refine ⟨⟨A,d,e,hm⟩,fun h0=>?_⟩;rcases h1.2 with ⟨_,rfl⟩ | ⟨g,cap,cur,rfl,_,hg,_,_,_,ht⟩
 ·omega
 ·refine ⟨g,cap,cur,rfl,hg,fun j hj=>?_⟩;have:=h2 j hj;rw [<- ht,List.getElem?_take,if_pos hj] at this;simpa using this
theorem Rd.move {w w':World} {e:TypeId} {size len:Nat} {v:Value} {c:Nat->Value} (h:Rd w e size v len c) (hb:∀ g cur,v.ownBlock=some g->w.heap[g]?=some (.cells cur e (0,0))->w'.heap[g]?=w.heap[g]?):Rd w' e size v len c:=by
 refine ⟨h.1,fun h0=>?_⟩;obtain ⟨g,cap,cur,rfl,hg,hc⟩:=h.2 h0;exact ⟨g,cap,cur,rfl,(hb g cur rfl hg).trans hg,hc⟩
theorem Rd.cell {w:World} {e:TypeId} {size len:Nat} {v:Value} {c:Nat->Value} (h:Rd w e size v len c) {q:Nat} (hq:q<len):∃ g cap,v=.slice (some ⟨g,0,none⟩) len cap/\g<w.heap.size/\∀ j,j<size->w.cell? ⟨g,q*size+j,none⟩=some (c j):=by
 obtain ⟨g,cap,cur,rfl,hg,hc⟩:=h.2 (by omega);refine ⟨g,cap,rfl,(Array.getElem?_eq_some_iff.1 hg).1,fun j hj=>?_⟩
 have hl:q*size+j<len*size:=by
  have:(q+1)*size<=len*size:=Nat.mul_le_mul_right _ hq;rw [Nat.add_mul,Nat.one_mul] at this;omega
 rw [cell_of_row w g _ cur e (0,0) hg,hc _ hl,Nat.mul_comm q size,Nat.mul_add_mod_self_left,Nat.mod_eq_of_lt hj]
def Qj (w w':World) (l:Value) (len g cap:Nat):Prop:=(l=.slice (some ⟨g,0,none⟩) len cap/\w.grownBy w' (some g))\/(w.heap.size<=g/\w.grownBy w' none)
theorem Qj.size {w w':World} {l:Value} {len g cap:Nat} (h:Qj w w' l len g cap):w.heap.size<=w'.heap.size:=by
 rcases h with ⟨_,h⟩ | ⟨_,h⟩<;>exact h.size
theorem Qj.far {w w':World} {l:Value} {len g cap:Nat} (h:Qj w w' l len g cap) {k:Nat} (hk:k<w.heap.size) (hne:some k≠l.ownBlock):w'.heap[k]?=w.heap[k]?:=by
 rcases h with ⟨rfl,h⟩ | ⟨_,h⟩
 ·exact h.block k hk hne
 ·exact h.block k hk (by simp)
theorem Rd.app {w w':World} {e:TypeId} {size n len g cap:Nat} {x l:Value} {c:Nat->Value} {xs news:List Value} (h:Rd w e size x n c) (hl:w.ownsRow 0 e size l len xs) (ha:Qj w w' l len g cap) (hO:w'.ownsRow 0 e size (.slice (some ⟨g,0,none⟩) (len+1) cap) (len+1) (xs++news)) (hs:x.ownBlock=l.ownBlock->n<=len):Rd w' e size x n c:=by
 refine ⟨h.1,fun h0=>?_⟩;obtain ⟨gx,YB,cur,rfl,hg,hc⟩:=h.2 h0;have hlt:gx<w.heap.size:=(Array.getElem?_eq_some_iff.1 hg).1;by_cases hne:some gx≠l.ownBlock
 ·exact ⟨gx,YB,cur,rfl,(ha.far hlt hne).trans hg,hc⟩
 ·have he:some gx=l.ownBlock:=Classical.not_not.1 hne;have hn:=hs he;rcases ha with ⟨rfl,hG⟩ | ⟨_,hG⟩
  ·have hgg:gx=g:=by simpa [Value.ownBlock] using he
   subst hgg;rcases hO.2 with ⟨h',_⟩ | ⟨g',cap',cur',h',_,hg',_,_,_,ht'⟩
   ·cases h'
   ·cases h';rcases hl.2 with ⟨h'',_⟩ | ⟨g2,cap2,agV,h'',_,hg2,_,_,_,ht2⟩
    ·cases h''
    ·cases h'';rw [hg] at hg2;simp only [Option.some.injEq,Obj.cells.injEq,and_true] at hg2;subst hg2;refine ⟨gx,YB,cur',rfl,hg',fun j hj=>?_⟩;have hm:n*size<=len*size:=Nat.mul_le_mul_right _ hn;have hm2:len*size<=(len+1)*size:=Nat.mul_le_mul_right _ (by omega);have hx:(xs++news)[j]?=xs[j]?:=List.getElem?_append_left (by rw [hl.1];omega);rw [<- ht',List.getElem?_take,if_pos (by omega),<- ht2,List.getElem?_take,if_pos (by omega)] at hx;have:cur'[j]?=cur[j]?:=by simpa using hx
     rw [this];exact hc j hj
  ·exact ⟨gx,YB,cur,rfl,(hG.block gx hlt (by simp)).trans hg,hc⟩
section
variable {lo b b3 : Nat} {w : World} {es R : List jh} {n : Nat} {vs ns : Value} {i : Nat} {l s : Value} {N M : Nat} {wr : World}
end
theorem YC:(Tryz.prog.info? 23).map (fun i=>(i.zero,i.size,i.bytes))=some (some (.slice none 0 0),1,24):=by kernel_rfl
structure Gu (Q:Nat->Prop) (w:World) (pw:Nat) (a:Nat->Nat) (lv:Value) (R:List (Value×Nat)):Prop where
 own:Q pw
 blk:∃ cs,w.heap[pw]?=some (.cells cs 78 (0,0))
 c0:∀ i,i<4->w.cell? ⟨pw,i,none⟩=some (.pointer (some ⟨a i,0,none⟩))
 c4:w.cell? ⟨pw,4,none⟩=some lv
 row:w.ownsRow 0 23 1 lv R.length (R.map (·.1))
 Um:∀ b,lv.ownBlock=some b->Q b
 rd:∀ (q:Nat) (r:Value×Nat),R[q]?=some r->Rd w 9 1 r.1 r.2 (nc (q / 4))
 YD:∀ (q:Nat) (r:Value×Nat),R[q]?=some r->∀ b,r.1.ownBlock=some b->Q b/\b<w.heap.size
theorem Gu.pl {Q:Nat->Prop} {w:World} {pw:Nat} {a:Nat->Nat} {lv:Value} {R:List (Value×Nat)} (h:Gu Q w pw a lv R):pw<w.heap.size:=World.block_lt_of_cell? w ⟨pw,4,none⟩ h.c4
theorem Gu.fr {Q:Nat->Prop} {w:World} {pw:Nat} {a:Nat->Nat} {lv:Value} {R:List (Value×Nat)} (h:Gu Q w pw a lv R) (j:Nat):w.frozen? ⟨pw,j,none⟩=false:=by
 obtain ⟨cs,hc⟩:=h.blk;simp [World.frozen?,hc]
theorem Gu.move {Q Q':Nat->Prop} {w w':World} {pw:Nat} {a:Nat->Nat} {lv:Value} {R:List (Value×Nat)} (h:Gu Q w pw a lv R) (hs:w.heap.size<=w'.heap.size) (hb:∀ b,b<w.heap.size->Q b->(b=pw\/lv.ownBlock=some b\/∃ (q:Nat) (r:Value×Nat),R[q]?=some r/\r.1.ownBlock=some b)->Q' b/\w'.heap[b]?=w.heap[b]?):Gu Q' w' pw a lv R:=by
 obtain ⟨p1,p2⟩:=hb pw h.pl h.own (.inl rfl);refine ⟨p1,h.blk.imp fun cs e=>p2.trans e,fun i hi=>(aC p2 i).trans (h.c0 i hi),(aC p2 4).trans h.c4,bP h.row fun b e=>(hb b (h.row.lt b e).2 (h.Um b e) (.inr (.inl e))).2,fun b e=>(hb b (h.row.lt b e).2 (h.Um b e) (.inr (.inl e))).1,fun q r hr=>(h.rd q r hr).move fun g cur e _=>?_,fun q r hr b e=>?_⟩
 ·obtain ⟨k1,k2⟩:=h.YD q r hr g e;exact (hb g k2 k1 (.inr (.inr ⟨q,r,hr,e⟩))).2
 ·obtain ⟨k1,k2⟩:=h.YD q r hr b e;exact ⟨(hb b k2 k1 (.inr (.inr ⟨q,r,hr,e⟩))).1,by omega⟩
theorem Gu.keep {Q:Nat->Prop} {w w':World} {pw:Nat} {a:Nat->Nat} {lv:Value} {R:List (Value×Nat)} (h:Gu Q w pw a lv R) (hb:Below w.heap.size w w'):Gu Q w' pw a lv R:=h.move hb.size fun b hl hq _=>⟨hq,hb.block b hl⟩
theorem aP.trans {Q:Nat->Prop} {w w1 w2:World} (h:aP Q w w1) (k:aP Q w1 w2):aP Q w w2 :=
 ⟨k.os.trans h.os,k.tape.trans h.tape,k.output.trans h.output,Nat.le_trans h.size k.size,fun b hb hq=>(k.block b (Nat.lt_of_lt_of_le hb h.size) hq).trans (h.block b hb hq)⟩
theorem aP.grown {Q:Nat->Prop} {w w':World} {g:Option Nat} (h:w.grownBy w' g) (hg:∀ b,g=some b->Q b):aP Q w w':=⟨h.os,h.tape,h.output,h.size,fun b hb hq=>h.block b hb (fun e=>hq (hg b e.symm))⟩
theorem aP.set {Q:Nat->Prop} (w:World) {b o:Nat} (hb:Q b) (u:Value):aP Q w (w.setCell ⟨b,o,none⟩ u):=by
 obtain ⟨t1,t2,t3,t4⟩:=fE w ⟨b,o,none⟩ u;exact ⟨t2,t3,t4,by rw [t1];exact Nat.le_refl _,fun k _ hq=>Below.heap_setCell _ _ _ _ (by intro e;exact hq (by rw [show k=b from e];exact hb))⟩
structure KpA (Q:Nat->Prop) (w0 w:World) (pw:Nat) (a:Nat->Nat) (lv:Value) (R:List (Value×Nat)) (v:Value) (n k:Nat):Prop where
 ls:Gu Q w pw a lv R
 full:qE w 9 1 v n k (nc (R.length / 4))
 kq:aP Q w0 w
 far:∀ (q:Nat) (r:Value×Nat),R[q]?=some r->∀ b,v.ownBlock=some b->r.1.ownBlock≠some b
 vQ:∀ b,v.ownBlock=some b->Q b
theorem KpA.step {Q:Nat->Prop} {w0 w:World} {pw:Nat} {a:Nat->Nat} {lv:Value} {R:List (Value×Nat)} {g n k cap:Nat} (h:KpA Q w0 w pw a lv R (.slice (some ⟨g,0,none⟩) n cap) n k) (hk:k<n):KpA Q w0 (w.setCell ⟨g,k,none⟩ (.string (pq (R.length / 4)))) pw a lv R (.slice (some ⟨g,0,none⟩) n cap) n (k+1):=by
 obtain ⟨t1,_,_,_⟩:=fE w ⟨g,k,none⟩ (.string (pq (R.length / 4)));obtain ⟨xs,hx,_⟩:=h.full;refine ⟨h.ls.move (by rw [t1];exact Nat.le_refl _) fun b hl hq hw=>⟨hq,Below.heap_setCell _ _ _ _ ?_⟩,h.full.Xw hk,h.kq.trans (aP.set w (h.vQ g rfl) _),h.far,h.vQ⟩;intro e;have e:b=g:=e;subst e;rcases hw with rfl | hw | ⟨q,r,hr,hw⟩
 ·obtain ⟨cs,hc⟩:=h.ls.blk;exact jZ hx hc (by decide) rfl
 ·exact Ju hx h.ls.row (by decide) rfl hw
 ·exact h.far q r hr b rfl hw
structure Wo (Q:Nat->Prop) (w0 w:World) (pw:Nat) (a:Nat->Nat) (lv:Value) (R:List (Value×Nat)) (j:Nat) (v:Value) (n:Nat):Prop where
 ls:Gu Q w pw a lv R
 full:qE w 9 1 v n n (nc j)
 kq:aP Q w0 w
 far:∀ (q:Nat) (r:Value×Nat),R[q]?=some r->r.1.ownBlock=v.ownBlock->r.2<=n
 vQ:∀ b,v.ownBlock=some b->Q b
theorem Wo.note {Q:Nat->Prop} {w0 w w1 w6:World} {pw:Nat} {a:Nat->Nat} {lv Db:Value} {R:List (Value×Nat)} {j n:Nat} {v:Value} (h:Wo Q w0 w pw a lv R j v n) (hQ:∀ b,w0.heap.size<=b->Q b) (hj:R.length / 4=j) (hb:Below w.heap.size w w1) (hO:w6.ownsRow 0 23 1 Db (R.length+1) (R.map (·.1)++[v])) (hG:w1.grownBy w6 lv.ownBlock) (hat:Db.ownBlock=lv.ownBlock\/Db.ownBlock=some w1.heap.size) :
  Wo Q w0 (w6.setCell ⟨pw,4,none⟩ Db) pw a Db (R++[(v,n)]) j v n:=by
 have hl1:=h.ls.keep hb;have hs0:=h.kq.size;have hs1:=hb.size;obtain ⟨t1,_,_,_⟩:=fE w6 ⟨pw,4,none⟩ Db;obtain ⟨cs,hc⟩:=hl1.blk;have hpw:some pw≠lv.ownBlock:=jZ hl1.row hc (by decide);have Zh:w6.heap[pw]?=w1.heap[pw]?:=hG.block pw hl1.pl hpw;have JR:∀ b,b≠pw->(w6.setCell ⟨pw,4,none⟩ Db).heap[b]?=w6.heap[b]?:=fun b hb=>Below.heap_setCell _ _ _ _ (by simpa using hb);have typ:∀ (b:Nat) (cur:Array Value),w1.heap[b]?=some (Obj.cells cur 9 (0,0))->(w6.setCell ⟨pw,4,none⟩ Db).heap[b]?=w1.heap[b]?:=fun b cur hcur=>(JR b (fun e=>by subst e;rw [hc] at hcur;simp at hcur)).trans (hG.block b (Array.getElem?_eq_some_iff.1 hcur).1 (jZ hl1.row hcur (by decide)));have hf1:qE w1 9 1 v n n (nc j):=h.full.move fun b e=>hb.block b (by obtain ⟨xs,hx,_⟩:=h.full;exact (hx.lt b e).2)
 have hf:qE (w6.setCell ⟨pw,4,none⟩ Db) 9 1 v n n (nc j):=hf1.move fun b e=>by
  obtain ⟨xs,hx,_⟩:=hf1;rcases hx.2 with ⟨rfl,_⟩ | ⟨g,cap,cur,rfl,_,hg,_⟩
  ·simp [Value.ownBlock] at e
  ·obtain rfl:g=b:=by simpa [Value.ownBlock] using e
   exact typ g cur hg
 have adC:∀ b,Db.ownBlock=some b->Q b:=fun b e=>by
  rcases hat with h1 | h1
  ·exact h.ls.Um b (by rw [<- h1];exact e)
  ·rw [h1] at e;simp at e;exact hQ b (by omega)
 have hlen:∀ b,Db.ownBlock=some b->b≠pw:=fun b e e2=>by
  subst e2;rcases hat with h1 | h1
  ·exact hpw (by rw [<- h1];exact e.symm)
  ·rw [h1] at e;simp at e;have:=hl1.pl;omega
 refine ⟨⟨h.ls.own,?_,fun i hi=>?_,?_,?_,adC,fun q r hr=>?_,fun q r hr b e=>?_⟩,hf,(h.kq.trans (aP.of hb)).trans ((aP.grown hG h.ls.Um).trans (aP.set w6 h.ls.own _)),fun q r hr e=>?_,h.vQ⟩
 ·obtain ⟨cs6,e⟩:∃ cs6,w6.heap[pw]?=some (.cells cs6 78 (0,0)):=⟨cs,Zh.trans hc⟩;exact ⟨cs6.setIfInBounds 4 Db,by simp [World.setCell,Array.getElem?_modify,e]⟩
 ·rw [World.cell?_setCell_other _ _ _ _ (by intro e;simp at e<;>omega)];exact (aC Zh i).trans (hl1.c0 i hi)
 ·exact World.cell?_setCell_same w6 ⟨pw,4,none⟩ Db ((aC Zh 4).trans hl1.c4)
 ·rw [List.length_append,List.map_append];exact ownsRow_setCell_other (a:=⟨pw,4,none⟩) hO (fun e=>hlen pw e rfl) _
 ·by_cases e:q<R.length
  ·rw [List.getElem?_append_left e] at hr;exact (hl1.rd q r hr).move fun g cur _ hcur=>typ g cur hcur
  ·have hq:q=R.length:=by
    have:=(List.getElem?_eq_some_iff.1 hr).1;rw [List.length_append] at this;simp at this;omega
   subst hq;rw [List.getElem?_append_right (by omega)] at hr;simp at hr;subst hr;rw [hj];exact hf.rd
 ·by_cases e1:q<R.length
  ·rw [List.getElem?_append_left e1] at hr;obtain ⟨k1,k2⟩:=hl1.YD q r hr b e;exact ⟨k1,by rw [t1];have:=hG.size;omega⟩
  ·have hq:=(List.getElem?_eq_some_iff.1 hr).1;rw [List.length_append] at hq;simp at hq;obtain rfl:q=R.length:=by omega
   rw [List.getElem?_append_right (by omega)] at hr;simp at hr;subst hr;obtain ⟨xs,hx,_⟩:=hf;exact ⟨h.vQ b e,(hx.lt b e).2⟩
 ·by_cases e1:q<R.length
  ·rw [List.getElem?_append_left e1] at hr;exact h.far q r hr e
  ·have hq:=(List.getElem?_eq_some_iff.1 hr).1;rw [List.length_append] at hq;simp at hq;obtain rfl:q=R.length:=by omega
   rw [List.getElem?_append_right (by omega)] at hr;simp at hr;subst hr;exact Nat.le_refl _
theorem Wo.app {Q:Nat->Prop} {w0 w w1 w6:World} {pw:Nat} {a:Nat->Nat} {lv:Value} {R:List (Value×Nat)} {j n g cap:Nat} {v:Value} {xs:List Value} (h:Wo Q w0 w pw a lv R j v n) (hQ:∀ b,w0.heap.size<=b->Q b) (hb:Below w.heap.size w w1) (hx:w1.ownsRow 0 9 1 v n xs) (hxs:∀ i,i<n->xs[i]?=some (.string (pq j))) (hO:w6.ownsRow 0 9 1 (.slice (some ⟨g,0,none⟩) (n+1) cap) (n+1) (xs++[.string (pq j)])) (hA:Qj w1 w6 v n g cap) :
  Wo Q w0 w6 pw a lv R j (.slice (some ⟨g,0,none⟩) (n+1) cap) (n+1):=by
 have hl1:=h.ls.keep hb;have hs0:=h.kq.size;have hs1:=hb.size
 have hvQ:∀ b,(Value.slice (some ⟨g,0,none⟩) (n+1) cap).ownBlock=some b->Q b:=fun b e=>by
  obtain rfl:g=b:=by simpa [Value.ownBlock] using e
  rcases hA with ⟨rfl,_⟩ | ⟨h1,_⟩
  ·exact h.vQ g rfl
  ·exact hQ g (by omega)
 refine ⟨⟨hl1.own,?_,fun i hi=>?_,?_,?_,hl1.Um,fun q r hr=>(hl1.rd q r hr).app hx hA hO (h.far q r hr),fun q r hr b e=>?_⟩,qE.app hx (fun i hi=>by rw [hxs i (by omega)];rfl) hO (fun i hi=>by obtain rfl:i=0:=(by omega);rfl),(h.kq.trans (aP.of hb)).trans ?_,fun q r hr e=>?_,hvQ⟩
 ·obtain ⟨cs,hc⟩:=hl1.blk;exact ⟨cs,(hA.far hl1.pl (jZ hx hc (by decide))).trans hc⟩
 ·obtain ⟨cs,hc⟩:=hl1.blk;exact (aC (hA.far hl1.pl (jZ hx hc (by decide))) i).trans (hl1.c0 i hi)
 ·obtain ⟨cs,hc⟩:=hl1.blk;exact (aC (hA.far hl1.pl (jZ hx hc (by decide))) 4).trans hl1.c4
 ·exact bP hl1.row fun b e=>hA.far (hl1.row.lt b e).2 (fun e2=>Ju hl1.row hx (by decide) e e2.symm)
 ·obtain ⟨k1,k2⟩:=hl1.YD q r hr b e;exact ⟨k1,Nat.lt_of_lt_of_le k2 hA.size⟩
 ·rcases hA with ⟨rfl,h1⟩ | ⟨_,h1⟩
  ·exact aP.grown h1 fun b e=>by obtain rfl:g=b:=(by simpa using e);exact h.vQ g rfl
  ·exact aP.grown h1 fun b e=>by cases e
 ·have hg:r.1.ownBlock=some g:=e;rcases hA with ⟨rfl,_⟩ | ⟨h1,_⟩
  ·have:=h.far q r hr hg;omega
  ·have:=(hl1.YD q r hr g hg).2;omega
theorem Un (w:World) (pw:Nat) (u:Value) (m:ByteArray):∀ (j:Nat) (v:Value),[Value.string m][j]?=some v->((w.setCell ⟨pw,4,none⟩ u).alloc (.cells #[.string m] 9)).cell? ((⟨w.heap.size,0,none⟩:Addr).add j)=some v:=by
 have h:=World.news_of_block (cs:=#[.string m]) (heap_alloc_new (w.setCell ⟨pw,4,none⟩ u) (.cells #[.string m] 9));rw [(fE w ⟨pw,4,none⟩ u).1] at h;exact h
theorem JL {Q:Nat->Prop} {w:World} {pw:Nat} {a:Nat->Nat} {lv:Value} {R:List (Value×Nat)} (h:Gu Q w pw a lv R) (hQ:∀ b,w.heap.size<=b->Q b) (Wp:R.length % 4=0) (Uo:R.length<=100000000) (A:Option Addr) (n c:Nat) (hn:n<=1000000) (xs:List Value) (hx:w.ownsRow 0 9 1 (.slice A n c) n xs) (hxQ:∀ b,(Value.slice A n c).ownBlock=some b->Q b/\∀ (q:Nat) (r:Value×Nat),R[q]?=some r->r.1.ownBlock≠some b) :
  Calls Tryz.prog 94 #[.pointer (some ⟨pw,0,none⟩),.slice A n c] w fun e w'=>e=.returned (.tuple #[])/\aP Q w w'/\∃ Db R',Gu Q w' pw a Db R'/\R'.length=R.length+4:=by
 obtain ⟨iS,Rk,Rl,Rm,Rn⟩:=info_parts Dz;obtain ⟨iN,hiN,zN0,zN1,zN2⟩:=info_parts YC;obtain ⟨LA,Lc,rfl⟩:=aJ h.row;have c4:=h.c4;obtain ⟨rn,hrn⟩:∃ rn,R.length=rn:=⟨_,rfl⟩;obtain ⟨j,hj⟩:∃ j,rn / 4=j:=⟨_,rfl⟩;have hdiv:(rn:Int).tdiv 4=(j:Int):=by rw [<- hj];rfl
 have aa1:(rn:Int) / 4=(j:Int):=by omega
 have HM:=aj (wB j w (by omega));have H:=aj h;have YX:Hid (∀ w1,Below w.heap.size w w1->KpA Q w w1 pw a (.slice LA R.length Lc) R (.slice A n c) n 0):=fun w1 hb=>⟨h.keep hb,qE.zero (bP hx fun b e=>hb.block b (hx.lt b e).2) _,aP.of hb,fun q r hr b e=>(hxQ b e).2 q r hr,fun b e=>(hxQ b e).1⟩;have HQ:=aj hQ;rw [hrn] at c4;clear h hx hxQ;go_in;go_wp2_with fail;refine HM.out.mono ?_;rintro e w1 ⟨rfl,b1⟩;have iE:=aj (YX.out w1 b1);clear b1 HM YX;go_wp2_with fail;go_loopg [5] n (fun gh z wr=>∃ k:Nat,gh=n - k/\k<=n/\z=.int .i64 k/\Hid (KpA Q w wr pw a (.slice LA R.length Lc) R (.slice A n c) n k))
 case atStart=>exact ⟨0,rfl,Nat.zero_le _,rfl,iE⟩
 case round =>
  obtain ⟨k,rfl,hk,rfl,HK⟩:=hrel;by_cases hlt:k<n
  ·obtain ⟨xs2,hx2,_⟩:=HK.out.full;obtain ⟨g,cap,hv,_,hgl⟩:=hx2.form (by omega);simp only [Value.slice.injEq] at hv;obtain ⟨rfl,_,rfl⟩:=hv;have x1:(k:Int)<(n:Int):=by omega
   have q0:∃ u,wr.cell? ⟨g,k,none⟩=some u:=⟨_,(hx2.cellAt k (by omega)).trans (mg (by rw [hx2.1];omega))⟩;obtain ⟨u0,q0⟩:=q0;have f0:=hx2.frozenAt k;have Qs:=aj (HK.out.step hlt);rw [show R.length / 4=j by rw [hrn];exact hj] at Qs;clear hx2 hgl hlt;go_wp2_with fail;go_roundg (n - (k+1))
   case rel=>exact ⟨k+1,rfl,by omega,by go_num,Qs⟩
   case measure=>omega
  ·obtain rfl:k=n:=by omega
   have x1:¬ (k:Int)<(k:Int):=by omega
   have HB0:Hid (Wo Q w wr pw a (.slice LA R.length Lc) R (R.length / 4) (.slice A k c) k):=⟨HK.out.ls,HK.out.full,HK.out.kq,fun q r hr e=>by
    cases ho:(Value.slice A k c).ownBlock with
    | none =>
     rw [ho] at e;have h1:=HK.out.ls.rd q r hr;by_cases h0:0<r.2
     ·obtain ⟨g,cap,cur,e2,_⟩:=h1.2 h0;rw [e2] at e;simp [Value.ownBlock] at e
     ·omega
    | some b=>rw [ho] at e;exact absurd e (HK.out.far q r hr b ho),HK.out.vQ⟩
   rename World=>wA
   clear HK hlt;go_wp2_with fail;go_loopg [6,7] 4 (fun gh gv z wr=>∃ (i:Nat) (lv:Value) (R2:List (Value×Nat)),gh=4 - i/\i<=4/\z=.int .i64 i/\Hid (Wo Q w wr pw a lv R2 j gv (k+i))/\R2.length=rn+i)
   case atStart=>exact ⟨0,_,R,rfl,Nat.zero_le _,rfl,by rw [hrn,hj] at HB0;exact HB0,hrn⟩
   case round =>
    obtain ⟨i,lv2,R2,rfl,hi,rfl,HB,hR2⟩:=hrel;by_cases hlt:i<4
    ·obtain ⟨ys,hy,hys⟩:=HB.out.full;obtain ⟨A6,c6,hv6⟩:=aJ hy;obtain ⟨LA2,X6,hv2⟩:=aJ HB.out.ls.row;subst hv2;subst hv6;have y1:(i:Int)<4:=by omega
     have d4:=HB.out.ls.c4;rw [hR2] at d4;have jQ:=aj (bJ wr (.cells #[.slice A6 (k+i) c6] 23))
     have HR1:Hid ((wr.alloc (.cells #[.slice A6 (k+i) c6] 23)).ownsRow 0 23 1 (.slice LA2 (rn+i) X6) (rn+i) (R2.map (·.1))):=by
      have h1:=HB.out.ls.row.alloc (.cells #[.slice A6 (k+i) c6] 23);rw [hR2] at h1;exact h1
     have Dy:Hid (Src Tryz.prog 1 76 (.slice (some ⟨wr.heap.size,0,none⟩) 1 1) 1 [.slice A6 (k+i) c6] (wr.alloc (.cells #[.slice A6 (k+i) c6] 23))):=Src.ofSlice _ Tryz.underlying76 ⟨wr.heap.size,0,none⟩ 1 1 _ (by simp) (World.news_of_block (heap_alloc_new wr _)) (by simp [Value.oneCell'])
     have HN:Hid (∀ (w6:World) (A7:Option Addr) (c7:Nat),w6.ownsRow 0 23 1 (.slice A7 (rn+i+1) c7) (rn+i+1) (R2.map (·.1)++[.slice A6 (k+i) c6])->(wr.alloc (.cells #[.slice A6 (k+i) c6] 23)).grownBy w6 (Value.slice LA2 (rn+i) X6).ownBlock->((Value.slice A7 (rn+i+1) c7).ownBlock=(Value.slice LA2 (rn+i) X6).ownBlock\/(Value.slice A7 (rn+i+1) c7).ownBlock=some (wr.alloc (.cells #[.slice A6 (k+i) c6] 23)).heap.size)->(w6.cell? ⟨pw,4,none⟩=some (.slice LA2 (rn+i) X6)/\w6.frozen? ⟨pw,4,none⟩=false)/\Hid (Wo Q w (w6.setCell ⟨pw,4,none⟩ (.slice A7 (rn+i+1) c7)) pw a (.slice A7 (rn+i+1) c7) (R2++[(.slice A6 (k+i) c6,k+i)]) j (.slice A6 (k+i) c6) (k+i))):=fun w6 A7 c7 hO hG hat=>by
      have hl1:=HB.out.ls.keep jQ.out;obtain ⟨cs,hc⟩:=hl1.blk;have Zh:w6.heap[pw]?=_:=hG.block pw hl1.pl (by rw [<- hR2];exact jZ hl1.row hc (by decide));refine ⟨⟨(aC Zh 4).trans (hl1.c4.trans (by rw [hR2])),(World.frozen?_of_block (a:=⟨pw,4,none⟩) Zh).trans (hl1.fr 4)⟩,?_⟩;have h2:=HB.out.note (Db:=.slice A7 (rn+i+1) c7) HQ.out (by rw [hR2];omega) jQ.out (by rw [hR2];exact hO) (by rw [hR2];exact hG) (by rw [hR2];exact hat);exact h2
     have HL:=aj (show (R2++[((Value.slice A6 (k+i) c6:Value),k+i)]).length=rn+(i+1) by rw [List.length_append,hR2];rfl);clear hy hys hlt HB;go_wp2_with (first | (at_builtin;refine ay _ rfl (.tmp 34) (.tmp 36) 76 76 rfl 0 23 iN _ 1 24 Tryz.underlying76 hiN zN0 zN1 zN2 rfl (.slice LA2 (rn+i) X6) (rn+i) (R2.map (·.1)) rfl HR1.out (.slice (some ⟨wr.heap.size,0,none⟩) 1 1) 1 [.slice A6 (k+i) c6] rfl Dy.out (by unfold maxLen;omega) (by omega) (Nat.zero_le _) ?_;intro v' w6 gU gQ bI;obtain ⟨A7,c7,rfl⟩:=aJ gU;obtain ⟨⟨q6,f6⟩,pX⟩:=HN.out w6 A7 c7 gU gQ bI;obtain ⟨ys,hy0,hys⟩:=pX.out.full;have HY:=aj (And.intro (hy0.alloc (.cells #[.string (pq j)] 9)) hys);have HNw:=aj (Un w6 pw (.slice A7 (rn+i+1) c7) (pq j));clear gU gQ bI HN hy0 hys d4) | (at_builtin;refine wJ _ rfl (.tmp 40) (.tmp 42) 23 rfl 0 9 iS _ 1 16 Tryz.underlying23 Rk Rl Rm Rn rfl (by omega) (.slice A6 (k+i) c6) (k+i) ys rfl HY.out.1 ⟨w6.heap.size,0,none⟩ 1 1 [.string (pq j)] rfl rfl HNw.out (by simp [Value.oneCell']) (by omega) (by unfold maxLen;omega) (by omega) (Nat.zero_le _) ?_;intro g7 ag1 w7 hO7 hA7));have rE:=aj (pX.out.app HQ.out (bJ _ (.cells #[.string (pq j)] 9)) HY.out.1 (fun q hq=>by rw [HY.out.2 q (by omega)];rfl) hO7 hA7);clear hO7 hA7 HY pX;go_wp2_with fail;go_roundg (4 - (i+1))
     case rel=>exact ⟨i+1,_,_,rfl,by omega,by go_num,rE,HL.out⟩
     case measure=>omega
    ·obtain rfl:i=4:=by omega
     have y1:¬ ((4:Nat):Int)<4:=by omega
     clear hlt;go_wp2_with fail;refine bodyPost_end (v:=.tuple #[]) (by simp [results,Tryz.results94,go_sem]) rfl ?_;exact ⟨rfl,HB.out.kq,lv2,R2,HB.out.ls,by rw [hR2]⟩
end Go.Proofs.YtknakfpciccoaaaGreatDoor
