import Derived.Test.YtknakfpciccoaaaGreatDoorZF30
import Derived.Test.YtknakfpciccoaaaGreatDoorZF32
import Derived.Test.YtknakfpciccoaaaGreatDoorZF37
import Derived.Test.YtknakfpciccoaaaGreatDoorZF21
import Derived.Test.YtknakfpciccoaaaGreatDoorZF22
import Derived.Laws.IdiomStrings
import Derived.Laws.Concat
import Derived.Test.YtknakfpciccoaaaGreatDoorZF6
import Derived.Test.YtknakfpciccoaaaGreatDoorZF4
import Derived.Deep.RegionHeld
import Derived.Laws.MakeOwn
import Derived.Laws.CopyOwn
import Derived.Test.YtknakfpciccoaaaGreatDoorZF3
import Derived.BigQuiet
import Derived.Deep.QuietTactic
import Derived.Test.YtknakfpciccoaaaGreatDoorZF33
import Derived.Test.YtknakfpciccoaaaGreatDoorZF12
import Derived.Test.YtknakfpciccoaaaGreatDoorZF15
import Derived.Test.YtknakfpciccoaaaGreatDoorZF20
import Derived.Test.YtknakfpciccoaaaGreatDoorZF8
/- The reference's store: split. -/
set_option maxHeartbeats 8000000
set_option maxRecDepth 100000
namespace Go.Proofs.YtknakfpciccoaaaGreatDoor
open Go.RowKit
theorem Ch (s:ByteArray) (w:World):Calls Tryz.prog 132 #[.string s] w fun e w'=>Below w.heap.size w w'/\∃ A B C D,e=.returned (.tuple #[.agg #[.int .i64 (ah (tJ s)),.int .i64 (aB (tJ s)),.string (aF (tJ s)),.slice A (nL (tJ s)) B,.slice C (nK (tJ s)) D],.int .i64 (eJ s)])/\nu (bZ w w') w' 13 (.agg #[.int .i64 (ah (tJ s)),.int .i64 (aB (tJ s)),.string (aF (tJ s)),.slice A (nL (tJ s)) B,.slice C (nK (tJ s)) D]) (tJ s):=by
 refine (F8 s w).mono fun e w1 h=>?_;obtain ⟨b1,es,A,B,C,D,rfl,hF,hS,h1,h2⟩:=WK h;exact ⟨b1,A,B,C,D,rfl,fC.atP hS.lies hF⟩
theorem EM {s:ByteArray} (h:eJ s=0):Gd (tJ s):=⟨12,((kr _).1 (qo h)).1⟩
theorem Yg.elem {L:Nat->Nat} {w:World} {r:RC} (h:Yg L w r) {k:Nat} (hk:k<r.docs.length):∃ g cap A B C D,r.dv=.slice (some ⟨g,0,none⟩) r.docs.length cap/\g<w.heap.size/\w.cell? ⟨g,k*5,none⟩=some (.int .i64 (ah r.docs[k]))/\w.cell? ⟨g,k*5+1,none⟩=some (.int .i64 (aB r.docs[k]))/\w.cell? ⟨g,k*5+2,none⟩=some (.string (aF r.docs[k]))/\w.cell? ⟨g,k*5+3,none⟩=some (.slice A (nL r.docs[k]) B)/\w.cell? ⟨g,k*5+4,none⟩=some (.slice C (nK r.docs[k]) D)/\nu (fun b=>L b=1) w 13 (.agg #[.int .i64 (ah r.docs[k]),.int .i64 (aB r.docs[k]),.string (aF r.docs[k]),.slice A (nL r.docs[k]) B,.slice C (nK r.docs[k]) D]) r.docs[k]:=by
 have ha:=h.at_ k hk;obtain ⟨A,C,B,D,e,_⟩:=id ha;have hx:r.dx.length=r.docs.length*5:=h.row.1;obtain ⟨g,cap,hv,_,hg⟩:=h.row.form (by omega);have hrow:=h.row;rw [hv] at hrow;have hc:∀ j,j<5->w.cell? ⟨g,k*5+j,none⟩=some (cx r.dx (k*5+j)):=fun j hj=>by rw [hrow.cellAt _ (by omega)];exact mg (by omega)
 rw [e] at ha;unfold fv at e;simp only [Value.agg.injEq,Array.mk.injEq,List.cons.injEq,and_true] at e;obtain ⟨e0,e1,e2,e3,e4⟩:=e;exact ⟨g,cap,A,B,C,D,hv,hg,(hc 0 (by omega)).trans (by rw [Nat.add_zero,e0]),(hc 1 (by omega)).trans (by rw [e1]),(hc 2 (by omega)).trans (by rw [e2]),(hc 3 (by omega)).trans (by rw [e3]),(hc 4 (by omega)).trans (by rw [e4]),ha⟩
structure nV (P:Nat->Prop) (w0:World) (lo:Nat) (hv:Value) (l:List T) (xs:List Value) (wr:World):Prop where
 row:wr.ownsRow lo 25 5 hv l.length xs
 at_:∀ i,(h:i<l.length)->nu P w0 13 (fv xs i) l[i]
theorem nV.nil (P:Nat->Prop) (w0:World) (lo:Nat) (wr:World):nV P w0 lo (.slice none 0 0) [] [] wr:=⟨World.ownsRow_nil _ _ _ _,fun i h=>absurd h (Nat.not_lt_zero i)⟩
theorem nV.keep {P:Nat->Prop} {w0:World} {lo:Nat} {hv:Value} {l:List T} {xs:List Value} {wr w1:World} (h:nV P w0 lo hv l xs wr) (hb:∀ b,hv.ownBlock=some b->w1.heap[b]?=wr.heap[b]?):nV P w0 lo hv l xs w1:=⟨bP h.row hb,h.at_⟩
theorem nV.grow {P:Nat->Prop} {w0:World} {lo:Nat} {hv v':Value} {l:List T} {xs:List Value} {wr w2:World} {c0 c1 c2 c3 c4:Value} {x:T} (h:nV P w0 lo hv l xs wr) (ha:nu P w0 13 (.agg #[c0,c1,c2,c3,c4]) x) (hO:w2.ownsRow lo 25 5 v' (l.length+1) (xs++[c0,c1,c2,c3,c4])):nV P w0 lo v' (l++[x]) (xs++[c0,c1,c2,c3,c4]) w2:=by
 have hx:xs.length=l.length*5:=h.row.1;refine ⟨by rw [List.length_append];exact hO,fun i hi=>?_⟩;rw [List.length_append,List.length_cons,List.length_nil] at hi;by_cases e:i<l.length
 ·rw [List.getElem_append_left e,FM hx e];exact h.at_ i e
 ·obtain rfl:i=l.length:=by omega
  rw [List.getElem_append_right (by omega),BF hx];simp only [Nat.sub_self,List.getElem_cons_zero];exact ha
structure Qd (P:Nat->Prop) (w0 ws:World) (vi:Value) (li:List T) (xi:List Value) (vo:Value) (lo:List T) (xo:List Value) (wr:World):Prop where
 hi:nV P w0 ws.heap.size vi li xi wr
 ho:nV P w0 ws.heap.size vo lo xo wr
 sep:∀ g,vi.ownBlock=some g->vo.ownBlock≠some g
 low:Below ws.heap.size ws wr
theorem Qd.swap {P:Nat->Prop} {w0 ws:World} {vi:Value} {li:List T} {xi:List Value} {vo:Value} {lo:List T} {xo:List Value} {wr:World} (h:Qd P w0 ws vi li xi vo lo xo wr):Qd P w0 ws vo lo xo vi li xi wr:=⟨h.ho,h.hi,fun g h1 h2=>h.sep g h2 h1,h.low⟩
theorem Qd.keep {P:Nat->Prop} {w0 ws:World} {vi:Value} {li:List T} {xi:List Value} {vo:Value} {lo:List T} {xo:List Value} {wr w1:World} (h:Qd P w0 ws vi li xi vo lo xo wr) (hb:Below wr.heap.size wr w1):Qd P w0 ws vi li xi vo lo xo w1 :=
 ⟨h.hi.keep fun b e=>hb.block b (h.hi.row.lt b e).2,h.ho.keep fun b e=>hb.block b (h.ho.row.lt b e).2,h.sep,h.low.trans (hb.mono h.low.size)⟩
theorem Qd.grow {P:Nat->Prop} {w0 ws:World} {vi v':Value} {li:List T} {xi:List Value} {vo:Value} {lo:List T} {xo:List Value} {wr w2:World} {c0 c1 c2 c3 c4:Value} {x:T} (h:Qd P w0 ws vi li xi vo lo xo wr) (ha:nu P w0 13 (.agg #[c0,c1,c2,c3,c4]) x) (hO:w2.ownsRow ws.heap.size 25 5 v' (li.length+1) (xi++[c0,c1,c2,c3,c4])) (hG:wr.grownBy w2 vi.ownBlock) (hat:v'.ownBlock=vi.ownBlock\/v'.ownBlock=some wr.heap.size):Qd P w0 ws v' (li++[x]) (xi++[c0,c1,c2,c3,c4]) vo lo xo w2:=by
 refine ⟨h.hi.grow ha hO,h.ho.keep fun b e=>hG.block b (h.ho.row.lt b e).2 (fun e2=>h.sep b e2.symm e),fun g h1 h2=>?_,⟨hG.os.trans h.low.os,hG.tape.trans h.low.tape,hG.output.trans h.low.output,Nat.le_trans h.low.size hG.size,fun k hk=>?_⟩⟩
 ·rcases hat with e | e
  ·exact h.sep g (by rw [<- e];exact h1) h2
  ·rw [e] at h1;have:=(h.ho.row.lt g h2).2;simp at h1;omega
 ·rw [hG.block k (Nat.lt_of_lt_of_le hk h.low.size) (fun e=>by have:=(h.hi.row.lt k e.symm).1;omega),h.low.block k hk]
def F9 (S:fH) (x s:ByteArray):List T:=if eB S x s=0 then ((iA S x).getD []).filter fun t=>!(dN 16 (tJ s) t) else []
def MC (P:Nat->Prop) (S:fH) (x s:ByteArray) (w:World) (e:Ending) (w':World):Prop:=∃ ws A B C D xi xo,Below w.heap.size w ws/\e=.returned (.tuple #[.slice A (dI S x s).length B,.slice C (F9 S x s).length D,.int .i64 (eB S x s)])/\Qd P w ws (.slice A (dI S x s).length B) (dI S x s) xi (.slice C (F9 S x s).length D) (F9 S x s) xo w'
theorem ME {P:Nat->Prop} {S:fH} {x s:ByteArray} {w w':World} {k:Int} (h:eB S x s=k) (hk:k≠0) (hb:Below w.heap.size w w'):MC P S x s w (.returned (.tuple #[.slice none 0 0,.slice none 0 0,.int .i64 k])) w':=by
 have h1:dI S x s=[]:=if_neg (by rw [h];exact hk);have h2:F9 S x s=[]:=if_neg (by rw [h];exact hk);unfold MC;rw [h1,h2,h];exact ⟨w',none,0,none,0,[],[],hb,rfl,nV.nil _ _ _ _,nV.nil _ _ _ _,fun g h=>by simp [Value.ownBlock] at h,Below.refl _ _⟩
theorem JG {p:T->Bool} {l:List T} {k:Nat} (h:k<l.length):(l.take (k+1)).filter p=(l.take k).filter p++(if p l[k]=true then [l[k]] else []):=by
 rw [List.take_add_one,List.getElem?_eq_getElem h,List.filter_append];simp only [Option.toList_some,List.filter_cons,List.filter_nil]
theorem Ci {L:Nat->Nat} {w:World} {p:Nat} {v:Value} {l:List RC} (hI:CZ L w p v l) (hn:l.length<=6) (hm:∀ r ∈ l,r.docs.length<=60) (hd:∀ r ∈ l,∀ t ∈ r.docs,dZ t/\Gd t) (x s:ByteArray) :
  Calls Tryz.prog 135 #[.pointer (some ⟨p,0,none⟩),.string x,.string s] w (MC (fun b=>L b=1) (l.map gN) x s w):=by
 obtain ⟨iV,G8,G9,Hf,Ho⟩:=info_parts yg;have HI:=aj hI;have HP:=aj (Ch s w);clear hI;go_in;go_wp2_with fail;refine HP.out.mono ?_;rintro e w1 ⟨b1,A,B,C,D,rfl,ha⟩;have HB1:=aj b1;have HB2:=aj (b1.alloc b1.size (.cells #[.int .i64 (ah (tJ s)),.int .i64 (aB (tJ s)),.string (aF (tJ s)),.slice A (nL (tJ s)) B,.slice C (nK (tJ s)) D] 25));have HA:=aj ha;clear b1 ha HP;by_cases he:eJ s=0
 ·have hz:(eJ s != 0)=false:=by rw [he];rfl
  have HIf:=aj (wz 13 16 _ (tJ s) _ (HA.out.at.keep (bJ w1 (.cells #[.int .i64 (ah (tJ s)),.int .i64 (aB (tJ s)),.string (aF (tJ s)),.slice A (nL (tJ s)) B,.slice C (nK (tJ s)) D] 25))) (by omega) (by omega) (gZ he));have aaS:=aj (And.intro (gZ he) (EM he));have He:=aj he;rw [he];clear hz he;go_wp2_with fail;refine HIf.out.mono ?_;rintro e w3 ⟨rfl,b3⟩;have HB3:Hid (Below (w1.heap.size+1) (w1.alloc (.cells #[.int .i64 (ah (tJ s)),.int .i64 (aB (tJ s)),.string (aF (tJ s)),.slice A (nL (tJ s)) B,.slice C (nK (tJ s)) D] 25)) w3):=b3.mono (by simp);have Ie:=aj (HB2.out.trans (b3.mono HB2.out.size));clear b3 HIf;cases hok:aL 16 (tJ s) with
  | false =>
   have HE:Hid (eB (l.map gN) x s=8):=by show _=_;unfold eB;rw [if_neg (by rw [He.out];simp),if_pos hok]
   clear hok;go_wp2_with fail;refine bodyPost_ret (v:=.tuple #[.slice none 0 0,.slice none 0 0,.int .i64 8]) (by simp [results,Tryz.results135,go_sem, *]) rfl ?_;exact ME HE.out (by decide) Ie.out
  | true =>
   have HF:=aj (o9 (HI.out.keep Ie.out) (by omega) x);have gT:=aj hok;clear hok;cases hi:bT x (l.map (·.nm)) with
   | none =>
    have HE:Hid (eB (l.map gN) x s=10):=by show _=_;unfold eB;rw [if_neg (by rw [He.out];simp),if_neg (by rw [gT.out];simp),xP hi];rfl
    rw [hi] at HF;unfold jN at HF;dsimp only at HF;clear hi;go_wp2_with fail;refine HF.out.mono ?_;rintro e w4 ⟨rfl,hw4⟩;subst w4;go_wp2_with fail;refine bodyPost_ret (v:=.tuple #[.slice none 0 0,.slice none 0 0,.int .i64 10]) (by simp [results,Tryz.results135,go_sem, *]) rfl ?_;exact ME HE.out (by decide) Ie.out
   | some i =>
    obtain ⟨r,hr,hrn,hlk⟩:=xO hi;have hmem:r ∈ l:=List.mem_of_getElem? hr;have HE:Hid (eB (l.map gN) x s=0):=by show _=_;unfold eB;rw [if_neg (by rw [He.out];simp),if_neg (by rw [gT.out];simp),hlk];rfl
    have HfA:Hid (dI (l.map gN) x s=r.docs.filter (dN 16 (tJ s))):=by show _=_;unfold dI;rw [if_pos HE.out,hlk];rfl
    have HoA:Hid (F9 (l.map gN) x s=r.docs.filter fun t=>!(dN 16 (tJ s) t)):=by show _=_;unfold F9;rw [if_pos HE.out,hlk];rfl
    have hdn:=hm r hmem;have Hdd:=aj (hd r hmem);have MF:=aj (HI.out.col r hmem);rw [hi] at HF;unfold jN at HF;dsimp only at HF;obtain ⟨g,cap,rfl,hg,hil,q0,q1⟩:=HI.out.cells hr;obtain ⟨La,Lc,hdv⟩:=aJ MF.out.row;rw [hdv] at q1;have EN:Hid (∀ wy:World,Below w.heap.size w wy->wy.cell? ⟨p,0,none⟩=some (.slice (some ⟨g,0,none⟩) l.length cap)/\wy.cell? ⟨g,i*2+1,none⟩=some (.slice La r.docs.length Lc)):=fun wy hb=>⟨(hb.cell (p:=⟨p,0,none⟩) (HI.out.low p (by rw [HI.out.lp];omega))).trans HI.out.cell,(hb.cell (p:=⟨g,i*2+1,none⟩) hg).trans q1⟩;have Hdv:=aj hdv;have z0:¬ (i:Int)<0:=by omega
    have z1:(i:Int)<(l.length:Int):=by omega
    obtain ⟨dn,hdl⟩:∃ dn,r.docs.length=dn:=⟨_,rfl⟩;rw [hdl] at EN hdn;have Qe:=aj hdl;clear hi hlk hr hrn q0 q1 hdv hmem hm hd hdl hg hn hil;go_wp2_with fail;refine HF.out.mono ?_;rintro e w4 ⟨rfl,hw4⟩;subst w4;have HT0:Hid (Qd (fun b=>L b=1) w w3 (.slice none 0 0) ((r.docs.take 0).filter (dN 16 (tJ s))) [] (.slice none 0 0) ((r.docs.take 0).filter fun t=>!(dN 16 (tJ s) t)) [] w3):=⟨nV.nil _ _ _ _,nV.nil _ _ _ _,fun g h=>by simp [Value.ownBlock] at h,Below.refl _ _⟩;clear HF;obtain ⟨q0,q1⟩:=EN.out w3 Ie.out;go_wp2_with fail;go_loopg [13,14,15] dn (fun gh vi vo z wr=>∃ (k:Nat) (xi xo:List Value),gh=dn - k/\k<=dn/\z=.int .i64 k/\Hid (Qd (fun b=>L b=1) w w3 vi ((r.docs.take k).filter (dN 16 (tJ s))) xi vo ((r.docs.take k).filter fun t=>!(dN 16 (tJ s) t)) xo wr))
    case atStart=>exact ⟨0,[],[],rfl,Nat.zero_le _,rfl,HT0⟩
    case round =>
     clear q0 q1 HT0;obtain ⟨k,xi,xo,rfl,hk,rfl,Yx⟩:=hrel;have nA:=aj (Ie.out.trans (Yx.out.low.mono Ie.out.size));obtain ⟨q0,q1⟩:=EN.out wr nA.out;by_cases hlt:k<dn
     ·have hkl:k<r.docs.length:=by rw [Qe.out];exact hlt
      obtain ⟨dg,nC,DA,DB,DC,DD,hdv,hdg,p0,p1,p2,p3,p4,Xl⟩:=MF.out.elem hkl;have YU:La=some ⟨dg,0,none⟩:=by have:=Hdv.out.symm.trans hdv;simp only [Value.slice.injEq] at this;exact this.1
      subst YU;have Hfi:=aj (JG (p:=dN 16 (tJ s)) hkl);have Hfo:=aj (JG (p:=fun t=>!(dN 16 (tJ s) t)) hkl);have Hdk:=aj (Hdd.out _ (List.getElem_mem hkl));generalize r.docs[k]=d at p0 p1 p2 p3 p4 Xl Hfi Hfo Hdk;have p0':=(nA.out.cell (p:=⟨dg,k*5,none⟩) hdg).trans p0;have p1':=(nA.out.cell (p:=⟨dg,k*5+1,none⟩) hdg).trans p1;have p2':=(nA.out.cell (p:=⟨dg,k*5+2,none⟩) hdg).trans p2;have p3':=(nA.out.cell (p:=⟨dg,k*5+3,none⟩) hdg).trans p3;have p4':=(nA.out.cell (p:=⟨dg,k*5+4,none⟩) hdg).trans p4;have HAd:=aj Xl;have x1:(k:Int)<(dn:Int):=by omega
      have sG:=aj (bJ wr (.cells #[.int .i64 (ah d),.int .i64 (aB d),.string (aF d),.slice DA (nL d) DB,.slice DC (nK d) DD] 25));have jW:=aj (HB3.out.trans ((Yx.out.low.trans (sG.out.mono Yx.out.low.size)).mono (by have:=HB3.out.size;simp at this;omega)));obtain ⟨r0,r1,r2,r3,r4,rz,hb5⟩:=aI jW.out;have HC:=aj (EJ 13 16 _ (tJ s) 13 _ d _ (HA.out.at.keep hb5) (HAd.out.at.keep (nA.out.trans (sG.out.mono nA.out.size))) (by omega) (by omega) (by omega) aaS.out.1 Hdk.out.1 aaS.out.2 Hdk.out.2 gT.out);have hli:((r.docs.take k).filter (dN 16 (tJ s))).length<=k:=Nat.le_trans (List.length_filter_le _ _) (by rw [List.length_take];omega);have agR:((r.docs.take k).filter fun t=>!(dN 16 (tJ s) t)).length<=k:=Nat.le_trans (List.length_filter_le _ _) (by rw [List.length_take];omega);clear p0 p1 p2 p3 p4 Xl hdv hdg hkl hb5 hlt;cases hp:dN 16 (tJ s) d with
      | true =>
       rw [hp] at HC;have HEi:Hid ((r.docs.take (k+1)).filter (dN 16 (tJ s))=(r.docs.take k).filter (dN 16 (tJ s))++[d]):=by show _=_;rw [Hfi.out,if_pos hp]
       have HEo:Hid (((r.docs.take (k+1)).filter fun t=>!(dN 16 (tJ s) t))=(r.docs.take k).filter fun t=>!(dN 16 (tJ s) t)):=by show _=_;rw [Hfo.out,hp];simp
       clear hp Hfi Hfo;go_wp2_with fail;refine HC.out.mono ?_;rintro e w2 ⟨rfl,b2⟩;have pX:Hid (Below (wr.heap.size+1) (wr.alloc (.cells #[.int .i64 (ah d),.int .i64 (aB d),.string (aF d),.slice DA (nL d) DB,.slice DC (nK d) DD] 25)) w2):=b2.mono (by simp);have HT2:=aj ((Yx.out.keep sG.out).keep b2);have HT3:=aj (HT2.out.keep (bJ w2 (.cells #[.int .i64 (ah d),.int .i64 (aB d),.string (aF d),.slice DA (nL d) DB,.slice DC (nK d) DD] 25)));have qd:Hid (Src Tryz.prog 5 22 (.slice (some ⟨w2.heap.size,0,none⟩) 1 1) 1 [.int .i64 (ah d),.int .i64 (aB d),.string (aF d),.slice DA (nL d) DB,.slice DC (nK d) DD] (w2.alloc (.cells #[.int .i64 (ah d),.int .i64 (aB d),.string (aF d),.slice DA (nL d) DB,.slice DC (nK d) DD] 25))):=Src.ofSlice _ Tryz.underlying22 ⟨w2.heap.size,0,none⟩ 1 1 _ (by simp) (World.news_of_block (heap_alloc_new w2 _)) (by simp [Value.oneCell']);clear r0 r1 r2 r3 r4 rz b2 HC q0 q1 p0' p1' p2' p3' p4';obtain ⟨r0,r1,r2,r3,r4,rz,hb6⟩:=aI pX.out;have hlo:=HT3.out.low.size;clear hb6;go_wp2_with (at_builtin;refine ay _ rfl (.tmp 63) (.tmp 65) 22 22 rfl w3.heap.size 25 iV _ 5 80 Tryz.underlying22 G8 G9 Hf Ho rfl u13 _ xi rfl HT3.out.hi.row (.slice (some ⟨w2.heap.size,0,none⟩) 1 1) 1 [.int .i64 (ah d),.int .i64 (aB d),.string (aF d),.slice DA (nL d) DB,.slice DC (nK d) DD] rfl qd.out (by unfold maxLen;omega) (by omega) hlo ?_;intro v' w6 gU gQ bI);have H6:=aj (HT3.out.grow HAd.out gU gQ bI)
       clear gU gQ bI r0 r1 r2 r3 r4;go_wp2_with fail;go_roundg (dn - (k+1))
       case rel=>exact ⟨k+1,_,_,rfl,by omega,by go_num,by rw [HEi.out,HEo.out];exact H6⟩
       case measure=>omega
      | false =>
       rw [hp] at HC;have HEi:Hid ((r.docs.take (k+1)).filter (dN 16 (tJ s))=(r.docs.take k).filter (dN 16 (tJ s))):=by show _=_;rw [Hfi.out,hp];simp
       have HEo:Hid (((r.docs.take (k+1)).filter fun t=>!(dN 16 (tJ s) t))=((r.docs.take k).filter fun t=>!(dN 16 (tJ s) t))++[d]):=by show _=_;rw [Hfo.out,hp];rfl
       clear hp Hfi Hfo;go_wp2_with fail;refine HC.out.mono ?_;rintro e w2 ⟨rfl,b2⟩;have pX:Hid (Below (wr.heap.size+1) (wr.alloc (.cells #[.int .i64 (ah d),.int .i64 (aB d),.string (aF d),.slice DA (nL d) DB,.slice DC (nK d) DD] 25)) w2):=b2.mono (by simp);have HT2:=aj ((Yx.out.keep sG.out).keep b2);have HT3:=aj (HT2.out.keep (bJ w2 (.cells #[.int .i64 (ah d),.int .i64 (aB d),.string (aF d),.slice DA (nL d) DB,.slice DC (nK d) DD] 25)));have qd:Hid (Src Tryz.prog 5 22 (.slice (some ⟨w2.heap.size,0,none⟩) 1 1) 1 [.int .i64 (ah d),.int .i64 (aB d),.string (aF d),.slice DA (nL d) DB,.slice DC (nK d) DD] (w2.alloc (.cells #[.int .i64 (ah d),.int .i64 (aB d),.string (aF d),.slice DA (nL d) DB,.slice DC (nK d) DD] 25))):=Src.ofSlice _ Tryz.underlying22 ⟨w2.heap.size,0,none⟩ 1 1 _ (by simp) (World.news_of_block (heap_alloc_new w2 _)) (by simp [Value.oneCell']);clear r0 r1 r2 r3 r4 rz b2 HC q0 q1 p0' p1' p2' p3' p4';obtain ⟨r0,r1,r2,r3,r4,rz,hb6⟩:=aI pX.out;have hlo:=HT3.out.low.size;clear hb6;go_wp2_with (at_builtin;refine ay _ rfl (.tmp 67) (.tmp 69) 22 22 rfl w3.heap.size 25 iV _ 5 80 Tryz.underlying22 G8 G9 Hf Ho rfl u14 _ xo rfl HT3.out.ho.row (.slice (some ⟨w2.heap.size,0,none⟩) 1 1) 1 [.int .i64 (ah d),.int .i64 (aB d),.string (aF d),.slice DA (nL d) DB,.slice DC (nK d) DD] rfl qd.out (by unfold maxLen;omega) (by omega) hlo ?_;intro v' w6 gU gQ bI)
       have H6:=aj (HT3.out.swap.grow HAd.out gU gQ bI).swap;clear gU gQ bI r0 r1 r2 r3 r4;go_wp2_with fail;go_roundg (dn - (k+1))
       case rel=>exact ⟨k+1,_,_,rfl,by omega,by go_num,by rw [HEi.out,HEo.out];exact H6⟩
       case measure=>omega
     ·obtain rfl:k=dn:=by omega
      have x1:¬ (k:Int)<(k:Int):=by omega
      have WW:=Yx.out;rw [<- Qe.out,List.take_length,<- HfA.out,<- HoA.out] at WW;have HTf:=aj WW;obtain ⟨A1,B1,e1⟩:=aJ WW.hi.row;obtain ⟨A2,B2,e2⟩:=aJ WW.ho.row;subst e1 e2;clear hlt WW Yx;go_wp2_with fail;refine bodyPost_ret (v:=.tuple #[.slice A1 (dI (l.map gN) x s).length B1,.slice A2 (F9 (l.map gN) x s).length B2,.int .i64 0]) (by simp [results,Tryz.results135,go_sem, *]) rfl ?_;exact ⟨w3,A1,B1,A2,B2,xi,xo,Ie.out,by rw [HE.out],HTf.out⟩
 ·have hz:(eJ s != 0)=true:=by simpa using he
  have HE:Hid (eB (l.map gN) x s=eJ s):=by show _=_;unfold eB;rw [if_pos he]
  have He:=aj he;clear he;go_wp2_with fail;refine bodyPost_ret (v:=.tuple #[.slice none 0 0,.slice none 0 0,.int .i64 (eJ s)]) (by simp [results,Tryz.results135,go_sem, *]) rfl ?_;exact ME HE.out He.out HB2.out
theorem Wi {a b:ByteArray} (h:a.data.toList=b.data.toList):a=b:=by
 apply ByteArray.ext;exact Array.toList_inj.1 h
theorem jJ (a b:ByteArray) (la lb:List UInt8) (ha:a=bY la) (hb:b=bY lb) (h:la.length+lb.length<=1000000000):∃ c:ByteArray,c=bY (la++lb)/\∀ w:World,(Op.stringOp .add a b).run Tryz.prog w=.ok (.string c) w:=by
 refine ⟨a++b,?_,fun w=>run_string_add_sum w a b (by rw [ha,hb,fA,fA];omega)⟩;apply Wi;rw [ha,hb];simp [bY]
theorem xU (w:World) (c:UInt8):(convert 63 9 (.slice (some ⟨w.heap.size,0,none⟩) 1 1)).run Tryz.prog (w.alloc (.cells #[.int .u8 (c.toNat:Int)] 5))=.ok (.string (bY [c])) (w.alloc (.cells #[.int .u8 (c.toNat:Int)] 5)):=by
 refine run_convert_bytes_back (P:=Tryz.prog) (w.alloc (.cells #[.int .u8 (c.toNat:Int)] 5)) 63 9 5 ⟨w.heap.size,0,none⟩ 1 [c] Tryz.underlying63 Tryz.underlying5 Tryz.underlying9 (fun j hj=>?_);have hj0:j=0:=by simp at hj;omega
 subst hj0;have e:((⟨w.heap.size,0,none⟩:Addr).add 0)=⟨w.heap.size,0,none⟩:=by simp [Addr.add]
 rw [e];simp [go_sem]
theorem Wj (n:Int) (k:Nat) (h0:-9223372036854775808<=n) (h1:n<=9223372036854775807):-9223372036854775808<=n / 256 ^ k/\n / 256 ^ k<=9223372036854775807:=by
 have hp:(1:Int)<=256 ^ k:=by
  have:(0:Int)<256 ^ k:=Int.pow_pos (by decide);omega
 generalize (256:Int) ^ k=d at hp;constructor
 ·rw [Int.le_ediv_iff_mul_le (by omega)];have:=Int.mul_le_mul_of_nonneg_left hp (show (0:Int)<=9223372036854775808 by omega);rw [Int.neg_mul];omega
 ·have:=Int.ediv_le_ediv (c:=d) (by omega) h1;have h2:(9223372036854775807:Int) / d<=9223372036854775807:=Int.ediv_le_self _ (by omega);omega
theorem zU (n:Int) (m:Nat) (w:World) (h0:-9223372036854775808<=n) (h1:n<=9223372036854775807) (hm:m<=8) :
  Calls Tryz.prog 88 #[.int .i64 n,.int .i64 m] w fun e w'=>e=.returned (.string (bY (jS n m)))/\Below w.heap.size w w':=by
 have HB:=aj (fun k=>Wj n k h0 h1);have HX0:Hid (n=n / 256 ^ 0):=by show _=_;simp
 clear h0 h1;go_in;go_wp2_with fail;go_loopg [0,5,6] m (fun g x o i wr=>∃ (k:Nat) (y:Int) (s:ByteArray),g=m - k/\k<=m/\x=.int .i64 y/\o=.string s/\i=.int .i64 k/\Hid (y=n / 256 ^ k)/\Hid (s=bY (jS n k))/\Hid (Below w.heap.size w wr))
 case atStart=>exact ⟨0,n,⟨#[]⟩,rfl,Nat.zero_le _,rfl,rfl,rfl,HX0,rfl,Below.refl _ _⟩
 case round =>
  obtain ⟨k,y,s,rfl,hk,rfl,rfl,rfl,HY,HS,HW⟩:=hrel;by_cases hlt:k<m
  ·obtain ⟨c,hc⟩:∃ c,c=jr n k:=⟨_,rfl⟩;have f1:IntKind.u8.wrap y=(c.toNat:Int):=by rw [hc,IntKind.wrap_u8,mW,HY.out]
   have UJ:Hid (y / 256=n / 256 ^ (k+1)):=by
    show _=_;rw [HY.out,Int.pow_succ,Int.ediv_ediv_of_nonneg (Int.le_of_lt (Int.pow_pos (by decide)))]
   have b1:=(HB.out k).1;have b2:=(HB.out k).2;rw [<- HY.out] at b1 b2;have hcv:=xU wr c;obtain ⟨s2,y2,g2⟩:=jJ (bY [c]) s [c] (jS n k) rfl HS.out (by rw [bE];simp;omega);have HS2:Hid (s2=bY (jS n (k+1))):=by show _=_;rw [y2,hc];rfl
   have HW2:Hid (Below w.heap.size w (wr.alloc (.cells #[.int .u8 (c.toNat:Int)] 5))):=HW.out.alloc HW.out.size _;clear y2 hc;generalize bY [c]=sc at hcv g2;go_wp2_with fail;go_roundg (m - (k+1))
   case rel=>exact ⟨k+1,y / 256,s2,rfl,by omega,rfl,rfl,by go_num,UJ,HS2,HW2⟩
   case measure=>omega
  ·obtain rfl:k=m:=by omega
   go_wp2_with fail;go_ret;exact ⟨by rw [HS.out];rfl,HW.out⟩
def Uh (m:Nat):Prop:=∀ (f:Nat) (v:Value) (t:T) (w:World),At w f v t->fJ m t->(bK m t).length<=100000000 ->
  Calls Tryz.prog 47 #[v] w fun e w'=>e=.returned (.string (bY (bK m t)))/\Below w.heap.size w w'
theorem EO (w:World) (t:T) (La Ka:Option Addr) (Lc Kc:Nat):(convert 63 9 (.slice (some ⟨w.heap.size+1,0,none⟩) 1 1)).run Tryz.prog ((w.alloc (vC t La Lc Ka Kc)).alloc (.cells #[.int .u8 ((aX t).toNat:Int)] 5))=.ok (.string (bY [aX t])) ((w.alloc (vC t La Lc Ka Kc)).alloc (.cells #[.int .u8 ((aX t).toNat:Int)] 5)):=by
 simpa using xU (w.alloc (vC t La Lc Ka Kc)) (aX t)
theorem Cj (w:World) (t:T) (La Ka:Option Addr) (Lc Kc:Nat):Below (w.heap.size+1) (w.alloc (vC t La Lc Ka Kc)) ((w.alloc (vC t La Lc Ka Kc)).alloc (.cells #[.int .u8 ((aX t).toNat:Int)] 5)):=(Below.refl _ _).alloc (by simp) _
theorem tV (t:T) (hg:bF t) (ht:Cu t) (w:World) (La Ka:Option Addr) (Lc Kc:Nat) :
  Calls Tryz.prog 47 #[.agg #[.int .i64 (ah t),.int .i64 (aB t),.string (aF t),.slice La (nL t) Lc,.slice Ka (nK t) Kc]] w fun e w'=>e=.returned (.string (bY (gM t)))/\Below w.heap.size w w':=by
 have U6:=aj ht;clear ht;have fk:IntKind.u8.wrap (ah t)=((aX t).toNat:Int):=Ev _;have hcv:=EO w t La Ka Lc Kc;have HB2:=aj (Cj w t La Ka Lc Kc);obtain ⟨q0,q1,q2,q3,q4,hz,hbw⟩:=aI HB2.out;have dH:=aj hbw;obtain ⟨sk,hsk⟩:∃ sk,sk=bY [aX t]:=⟨_,rfl⟩;rw [<- hsk] at hcv;have Zg:=aj hsk;obtain ⟨g1,g2,hg⟩:=hg;clear g1 g2 hbw hsk;rcases hg with ⟨hk,g3⟩ | ⟨hk,hn,g3⟩ | ⟨hk,g3⟩ | ⟨hk,g3,hsz,g4⟩
 all_goals clear g3
 ·have e1:(ah t==1)=true:=by rw [hk];rfl
  have HW:Hid (sk=bY (gM t)):=by show _=_;rw [Zg.out];unfold gM;rw [if_neg (by omega),if_neg (by omega),if_neg (by omega)]
  clear hk;go_in;go_wp2_with fail;go_ret;exact ⟨by rw [<- HW.out];rfl,dH.out⟩
 ·have e1:(ah t==1)=false:=by rw [hk];rfl
  have e2:(ah t==2)=true:=by rw [hk];rfl
  have fn:IntKind.u8.wrap (aB t)=((jr (aB t) 0).toNat:Int):=Ev _;have aaW:=xU ((w.alloc (vC t La Lc Ka Kc)).alloc (.cells #[.int .u8 ((aX t).toNat:Int)] 5)) (jr (aB t) 0);obtain ⟨c,y,g⟩:=jJ sk (bY [jr (aB t) 0]) [aX t] [jr (aB t) 0] Zg.out rfl (by simp);have HW:Hid (c=bY (gM t)):=by show _=_;rw [y];unfold gM;rw [if_pos hk];rfl
  have HB3:Hid (Below w.heap.size w (((w.alloc (vC t La Lc Ka Kc)).alloc (.cells #[.int .u8 ((aX t).toNat:Int)] 5)).alloc (.cells #[.int .u8 ((jr (aB t) 0).toNat:Int)] 5))):=dH.out.alloc dH.out.size _;generalize bY [jr (aB t) 0]=s2 at aaW g;generalize jr (aB t) 0=b at *;simp only [World.size_alloc] at aaW;clear hk hn y;go_in;go_wp2_with fail;go_ret;exact ⟨by rw [<- HW.out];rfl,HB3.out⟩
 ·have e1:(ah t==1)=false:=by rw [hk];rfl
  have e2:(ah t==2)=false:=by rw [hk];rfl
  have e3:(ah t==3)=true:=by rw [hk];rfl
  have HP:=aj (zU (aB t) 8 ((w.alloc (vC t La Lc Ka Kc)).alloc (.cells #[.int .u8 ((aX t).toNat:Int)] 5)) U6.out.n0 U6.out.n1 (by omega));obtain ⟨c,y,g⟩:=jJ sk (bY (jS (aB t) 8)) [aX t] _ Zg.out rfl (by rw [bE];simp);have HW:Hid (c=bY (gM t)):=by show _=_;rw [y];unfold gM;rw [if_neg (by omega),if_pos hk];rfl
  generalize bY (jS (aB t) 8)=s2 at HP g;clear hk y;go_in;go_wp2_with fail;refine HP.out.mono ?_;rintro e w3 ⟨rfl,hb3⟩;have HB3:=aj (dH.out.trans (hb3.mono dH.out.size));clear hb3 HP;go_wp2_with fail;go_ret;exact ⟨by rw [<- HW.out];rfl,HB3.out⟩
 ·have e1:(ah t==1)=false:=by rw [hk];rfl
  have e2:(ah t==2)=false:=by rw [hk];rfl
  have e3:(ah t==3)=false:=by rw [hk];rfl
  have e4:(ah t==4)=true:=by rw [hk];rfl
  have hds:(aF t).data.toList.length=(aF t).size:=rfl;have HP:=aj (zU ((aF t).size:Int) 4 ((w.alloc (vC t La Lc Ka Kc)).alloc (.cells #[.int .u8 ((aX t).toNat:Int)] 5)).drew (by omega) (by omega) (by omega));obtain ⟨c1,y1,g1⟩:=jJ sk (bY (jS (aF t).size 4)) [aX t] _ Zg.out rfl (by rw [bE];simp);obtain ⟨c,y,g⟩:=jJ c1 (aF t) _ (aF t).data.toList y1 rfl (by rw [List.length_append,bE,hds];simp;omega);have HW:Hid (c=bY (gM t)):=by show _=_;rw [y];unfold gM;rw [if_neg (by omega),if_neg (by omega),if_pos hk];simp
  have Iq:Hid (Below w.heap.size w ((w.alloc (vC t La Lc Ka Kc)).alloc (.cells #[.int .u8 ((aX t).toNat:Int)] 5)).drew):=dH.out.drew
  have HX:Hid (∀ w3,Below ((w.alloc (vC t La Lc Ka Kc)).alloc (.cells #[.int .u8 ((aX t).toNat:Int)] 5)).drew.heap.size ((w.alloc (vC t La Lc Ka Kc)).alloc (.cells #[.int .u8 ((aX t).toNat:Int)] 5)).drew w3->w3.cell? ⟨w.heap.size,2,none⟩=some (.string (aF t))):=aj (fun w3 h3=>by
   rw [h3.cell (p:=⟨w.heap.size,2,none⟩) (by simp;omega)];simp)
  generalize bY (jS (aF t).size 4)=s2 at HP g1;clear hk y y1 g4 hds;go_in;go_wp2_with fail;go_region_law (first | fail | (go_simp;go_wp2_with (go_at_call 88;refine HP.out.mono ?_;rintro e w3 ⟨rfl,hb3⟩;have p2:=HX.out w3 hb3)))
  all_goals
   have HB3:=aj (Iq.out.trans (hb3.mono Iq.out.size));clear hb3;go_wp2_with fail;go_ret;exact ⟨by rw [<- HW.out];rfl,HB3.out⟩
theorem Ga (m:Nat) (ih:Uh m) (f:Nat) (t:T) (w:World) (La Ka:Option Addr) (Lc Kc:Nat) (hl:bC w f La t) (hkn:gI w Ka t) (hnk:ah t=6->nK t=nL t) (hn:nL t<=1759218604442) (hg:∀ i,i<nL t->fJ m (elt t i)) (hk:ah t=5\/ah t=6) (hlen:(dW (bK m) t (nL t)).length+5<=100000000) :
  Calls Tryz.prog 47 #[.agg #[.int .i64 (ah t),.int .i64 (aB t),.string (aF t),.slice La (nL t) Lc,.slice Ka (nK t) Kc]] w fun e w'=>e=.returned (.string (bY (yV t (dW (bK m) t (nL t)))))/\Below w.heap.size w w':=by
 have e1:(ah t==1)=false:=by rw [beq_eq_false_iff_ne];omega
 have e2:(ah t==2)=false:=by rw [beq_eq_false_iff_ne];omega
 have e3:(ah t==3)=false:=by rw [beq_eq_false_iff_ne];omega
 have e4:(ah t==4)=false:=by rw [beq_eq_false_iff_ne];omega
 have fk:IntKind.u8.wrap (ah t)=((aX t).toNat:Int):=Ev _;have hcv:=EO w t La Ka Lc Kc;have HB2:=aj (Cj w t La Ka Lc Kc);obtain ⟨q0,q1,q2,q3,q4,hz,hbw⟩:=aI HB2.out;have dH:=aj hbw;obtain ⟨sk,hsk⟩:∃ sk,sk=bY [aX t]:=⟨_,rfl⟩;rw [<- hsk] at hcv;have Zg:=aj hsk;have Hl:=aj hl;have Hg:=aj hg;have sN:=aj ih;have HK:=aj hkn;have UG:=aj hnk;have HM:Hid (∀ k,k<=nL t->(dW (bK m) t k).length+5<=100000000):=aj (fun k hk=>by have:=Ei (bK m) t hk;omega);clear hl hg ih hk hlen hkn hnk hbw hsk;go_in;go_wp2_with fail;clear q0 q1 q2 q3 q4 hz hcv;go_loopg [4,5] (nL t) (fun g o i wr=>∃ (k:Nat) (out:ByteArray),g=nL t - k/\k<=nL t/\o=.string out/\i=.int .i64 k/\Hid (out=bY (dW (bK m) t k))/\Hid (Below (w.heap.size+1) (w.alloc (vC t La Lc Ka Kc)) wr))
 case atStart=>exact ⟨0,⟨#[]⟩,rfl,Nat.zero_le _,rfl,rfl,rfl,HB2⟩
 case round =>
  obtain ⟨k,out,rfl,hk,rfl,rfl,HO,HB⟩:=hrel;obtain ⟨q0,q1,q2,q3,q4,hz,hbw⟩:=aI HB.out;have pR:=aj hbw;clear hbw;by_cases hlt:k<nL t
  ·have hm1:=HM.out (k+1) hlt;have HG:=aj (Hg.out k hlt);by_cases k6:ah t=6
   ·have e6:(ah t==6)=true:=by simpa using k6
    have Lg:k<nK t:=by have:=UG.out k6;omega
    have hn2:nK t<=1759218604442:=by have:=UG.out k6;omega
    obtain ⟨kb,ko,rfl,hkb,hks,hkc⟩:=HK.out.keep pR.out k Lg;have HJ:Hid (dW (bK m) t (k+1)=dW (bK m) t k++jS (bf t k).size 2++(bf t k).data.toList++bK m (elt t k)):=by show dW (bK m) t k++_=_;unfold Bq;rw [if_pos k6];simp
    rw [HJ.out] at hm1;have hsz:(bf t k).data.toList.length=(bf t k).size:=rfl;simp only [List.length_append,bE,hsz] at hm1;have hwl:(bK m (elt t k)).length<=100000000:=by omega
    obtain ⟨c1,y1,g1⟩:=jJ out (bY (jS (bf t k).size 2)) _ _ HO.out rfl (by rw [bE];omega);obtain ⟨c2,y2,g2⟩:=jJ c1 (bf t k) _ (bf t k).data.toList y1 rfl (by rw [List.length_append,bE,hsz];omega);obtain ⟨c,y3,g3⟩:=jJ c2 (bY (bK m (elt t k))) _ _ y2 rfl (by rw [List.length_append,List.length_append,bE,hsz];omega);rw [<- HJ.out] at y3;have HY:=aj y3;have Ui:=aj (fun (w':World) (v:Value) (ha:At w' f v (elt t k))=>sN.out f v (elt t k) w' ha HG.out hwl);have HP:=aj (zU ((bf t k).size:Int) 2 wr.drew (by omega) (by omega) (by omega));clear y1 y2 y3 hm1 hwl hsz k6;generalize bY (bK m (elt t k))=s3 at Ui g3;generalize bY (jS (bf t k).size 2)=s2 at HP g1;generalize bf t k=s at *;have Iq:Hid (Below (w.heap.size+1) (w.alloc (vC t La Lc (some ⟨kb,ko,none⟩) Kc)) wr.drew):=HB.out.drew;have hd1:w.heap.size+1<=wr.drew.heap.size:=by have:=Iq.out.size;simpa using this
    have HX:Hid (∀ w3,Below wr.drew.heap.size wr.drew w3->w3.cell? ⟨w.heap.size,4,none⟩=some (.slice (some ⟨kb,ko,none⟩) (nK t) Kc)/\w3.cell? ⟨kb,ko+k,none⟩=some (.string s)):=aj (fun w3 h3=>⟨by
     rw [h3.cell (p:=⟨w.heap.size,4,none⟩) (by simpa using hz)];simpa using q4,by
     rw [h3.cell (p:=⟨kb,ko+k,none⟩) (by simpa using hkb)];simpa using hkc⟩)
    go_wp2_with fail;go_region_law (first | fail | (go_simp;go_wp2_with (go_at_call 88;refine HP.out.mono ?_;rintro e w3 ⟨rfl,hb3⟩;obtain ⟨z4,zk⟩:=HX.out w3 hb3)))
    all_goals
     have HB3:=aj (Iq.out.trans (hb3.mono hd1));clear hb3 z4 zk q0 q1 q2 q3 q4 hkc;obtain ⟨q0,q1,q2,q3,q4,hz3,Yy⟩:=aI HB3.out;obtain ⟨bb,o,A,B,C,D,rfl,hbl,p0,p1,p2,p3,p4,Ha⟩:=Hl.out.shape Yy k hlt;have HA:=aj (At.keep Yy Ha.out);clear Yy;go_wp2_with fail;refine (Ui.out _ _ HA.out).mono ?_;rintro e w4 ⟨rfl,hb4⟩;have bO:=aj (HB3.out.trans (hb4.mono (by omega)));clear hb4;go_wp2_with fail;go_roundg (nL t - (k+1))
     case rel=>exact ⟨k+1,c,rfl,by omega,rfl,by go_num,HY,bO⟩
     case measure=>omega
   ·have e6:(ah t==6)=false:=by simpa using k6
    have HJ:Hid (dW (bK m) t (k+1)=dW (bK m) t k++bK m (elt t k)):=by show dW (bK m) t k++_=_;unfold Bq;rw [if_neg k6];simp
    rw [HJ.out] at hm1;simp only [List.length_append] at hm1;have hwl:(bK m (elt t k)).length<=100000000:=by omega
    obtain ⟨c,y3,g3⟩:=jJ out (bY (bK m (elt t k))) _ _ HO.out rfl (by omega);rw [<- HJ.out] at y3;have HY:=aj y3;have Ui:=aj (fun (w':World) (v:Value) (ha:At w' f v (elt t k))=>sN.out f v (elt t k) w' ha HG.out hwl);clear y3 hm1 hwl k6;generalize bY (bK m (elt t k))=s3 at Ui g3;obtain ⟨bb,o,A,B,C,D,rfl,hbl,p0,p1,p2,p3,p4,Ha⟩:=Hl.out.shape pR.out k hlt;have HA:=aj (At.keep pR.out Ha.out);go_wp2_with fail;refine (Ui.out _ _ HA.out).mono ?_;rintro e w4 ⟨rfl,hb4⟩;have bO:=aj (HB.out.trans (hb4.mono (by omega)));clear hb4;go_wp2_with fail;go_roundg (nL t - (k+1))
    case rel=>exact ⟨k+1,c,rfl,by omega,rfl,by go_num,HY,bO⟩
    case measure=>omega
  ·obtain rfl:k=nL t:=by omega
   have hm0:=HM.out (nL t) hk;have hos:out.size=(dW (bK m) t (nL t)).length:=by rw [HO.out,fA]
   have HP:=aj (zU (out.size:Int) 4 wr (by omega) (by omega) (by omega));obtain ⟨c1,y1,g1⟩:=jJ sk (bY (jS out.size 4)) [aX t] _ Zg.out rfl (by rw [bE];simp);obtain ⟨c2,y2,g2⟩:=jJ c1 out _ _ y1 HO.out (by rw [List.length_append,bE];simp only [List.length_cons,List.length_nil];omega);have HE:Hid (c2=bY (yV t (dW (bK m) t (nL t)))):=by show _=_;rw [y2,hos];simp [yV]
   have BI:out.size<=100000000:=by omega
   generalize bY (jS out.size 4)=s2 at HP g1;clear y1 y2 hos hm0 hlt;go_wp2_with fail;refine HP.out.mono ?_;rintro e w3 ⟨rfl,hb3⟩;have HB3:=aj (pR.out.trans (hb3.mono pR.out.size));clear hb3 HP;go_wp2_with fail;go_ret;exact ⟨by rw [<- HE.out];rfl,HB3.out⟩
end Go.Proofs.YtknakfpciccoaaaGreatDoor
/- The walk of same, of two values that read as one. -/
namespace Go.Proofs.YtknakfpciccoaaaGreatDoor
open Go.RowKit
end Go.Proofs.YtknakfpciccoaaaGreatDoor
/- The walks of the reference's Encode and of Encodes: it returns true. -/
namespace Go.Proofs.YtknakfpciccoaaaGreatDoor
open Go.RowKit
theorem wH:∀ m,Uh m
 | 0=>by
  intro f v t w h hg hl;obtain ⟨g,La,Ka,Lc,Kc,rfl,rfl,hf,_,_⟩:=h.open;exact tV t hg hf w La Ka Lc Kc
 | m+1=>by
  intro f v t w h hg hl;obtain ⟨g,La,Ka,Lc,Kc,rfl,rfl,hf,hl',hk'⟩:=h.open;rcases hg with hg | ⟨_,_,he,hk⟩
  ·obtain ⟨k5,k6⟩:=WY hg;rw [Eh k5 k6];exact tV t hg hf w La Ka Lc Kc
  ·have hk2:ah t=5\/ah t=6:=by rcases hk with ⟨hk,_⟩ | ⟨hk,_⟩<;>omega
   rw [IQ hk2] at hl ⊢;simp only [yV,List.length_cons,List.length_append,bE] at hl;exact Ga m (wH m) g t w La Ka Lc Kc hl'.out hk'.out (fun h6=>by rcases hk with ⟨hk,_⟩ | ⟨_,hk,_⟩<;>first | omega | exact hk) hf.l1 he hk2 (by omega)
def pz (r:Nat):ByteArray:=⟨#[UInt8.ofNat (48+r % 10)]⟩
def iW:Nat->Nat->ByteArray->ByteArray
 | 0,_,out=>out
 | f+1,r,out=>if r=0/\out.size≠0 then out else iW f (r / 10) (pz r++out)
theorem Qf (f:Nat) {out:ByteArray} (h:out.size≠0):iW f 0 out=out:=by
 cases f with
 | zero=>rfl
 | succ f=>unfold iW;rw [if_pos ⟨rfl,h⟩]
theorem Gb {a b:ByteArray} (h:a.data.toList=b.data.toList):a=b:=by
 apply ByteArray.ext;exact Array.toList_inj.1 h
theorem JH (x:Nat) (out:ByteArray):(pz x++out).data.toList=UInt8.ofNat (48+x % 10)::out.data.toList:=by
 simp [pz]
theorem Ck:∀ (f x:Nat) (out:ByteArray),x<10 ^ f->1<=f->(x≠0\/out.size=0)->iW f x out=bY (Lib.decDigits x++out.data.toList)
 | 0,_,_,_,h,_=>absurd h (by omega)
 | f+1,x,out,hx,_,ho=>by
  unfold iW;rw [if_neg (by intro h;rcases ho with h1 | h1<;>omega)];have hsz:(pz x++out).size≠0:=by rw [ByteArray.size_append];show 1+out.size≠0;omega
  by_cases hs:x<10
  ·rw [show x / 10=0 by omega,Qf f hsz,Lib.decDigits_one hs];apply Gb;rw [JH,kQ,Nat.mod_eq_of_lt hs];rfl
  ·have hf:1<=f:=by
    cases f with
    | zero=>simp at hx;omega
    | succ f=>omega
   rw [Ck f (x / 10) (pz x++out) (by rw [Nat.pow_succ] at hx;omega) hf (.inl (by omega))];have e:Lib.decDigits x=Lib.decDigits (x / 10)++[UInt8.ofNat (48+x % 10)]:=by rw [Lib.decDigits,dif_neg hs]
   rw [e,JH];simp
theorem pE (w:World) (x:Nat) (v:Int) (hv:v=(48+x % 10:Nat)):(convert 63 9 (.slice (some ⟨w.heap.size,0,none⟩) 1 1)).run Tryz.prog (w.alloc (.cells #[.int .u8 v] 5))=.ok (.string (pz x)) (w.alloc (.cells #[.int .u8 v] 5)):=by
 refine run_convert_bytes_back (P:=Tryz.prog) (w.alloc (.cells #[.int .u8 v] 5)) 63 9 5 ⟨w.heap.size,0,none⟩ 1 [UInt8.ofNat (48+x % 10)] Tryz.underlying63 Tryz.underlying5 Tryz.underlying9 (fun j hj=>?_);have hj0:j=0:=by simp at hj;omega
 subst hj0
 have hx:(UInt8.ofNat (48+x % 10)).toNat=48+x % 10:=by
  rw [UInt8.toNat_ofNat'];omega
 have e:((⟨w.heap.size,0,none⟩:Addr).add 0)=⟨w.heap.size,0,none⟩:=by simp [Addr.add]
 rw [e];simp [go_sem,hv];omega
theorem Gc (n:Nat) (w:World) (hn:n<=9223372036854775807) :
  Calls Tryz.prog 84 #[.int .i64 n] w fun e w'=>e=.returned (.string (iW 20 n ByteArray.empty))/\Below w.heap.size w w':=by
 go_in;go_wp2_with fail;go_loopg [3,4] 20 (fun g o r wr=>∃ (x:Nat) (out:ByteArray),o=.string out/\r=.int .i64 x/\x<10 ^ g/\x<=9223372036854775807/\(out.size=0->1<=g)/\out.size+g<=20/\Hid (iW g x out=iW 20 n ByteArray.empty)/\Hid (Below w.heap.size w wr))
 case atStart=>exact ⟨n,ByteArray.empty,rfl,rfl,by omega,hn,by omega,by simp,rfl,Below.refl _ _⟩
 case round =>
  obtain ⟨x,out,rfl,rfl,hx,hx2,ho,hf,HD,HB⟩:=hrel;by_cases hend:x=0/\out.size≠0
  ·obtain ⟨h0,h1⟩:=hend;subst h0;have hne:=rC h1
   have HR:Hid (out=iW 20 n ByteArray.empty):=by
    have:=HD.out;cases gk with
    | zero=>exact this
    | succ f=>unfold iW at this;rw [if_pos ⟨rfl,h1⟩] at this;exact this
   go_wp2_with fail;go_ret;exact ⟨by rw [HR.out];rfl,HB.out⟩
  ·obtain ⟨f',rfl⟩:∃ f',gk=f'+1:=by
    cases gk with
    | zero =>
     have:x=0:=by simpa using hx
     exact absurd ⟨this,fun h=>by have:=ho h;omega⟩ hend
    | succ f=>exact ⟨f,rfl⟩
   have HD2:Hid (iW f' (x / 10) (pz x++out)=iW 20 n ByteArray.empty):=by
    have:=HD.out;unfold iW at this;rw [if_neg hend] at this;exact this
   have hsd:(pz x++out).size=out.size+1:=by rw [ByteArray.size_append];show 1+out.size=_;omega
   have hx3:x / 10<10 ^ f':=by rw [Nat.pow_succ] at hx;omega
   have Xj:x≠0\/out.size=0:=by
    by_cases e:x=0
    ·right
     by_cases e2:out.size=0
     ·exact e2
     ·exact absurd ⟨e,e2⟩ hend
    ·exact .inl e
   clear hx hend;by_cases e:x=0
   ·have e0:out.size=0:=by omega
    have ee:=AX e0;subst ee;subst e;have hcv:=pE wr 0 48 rfl;have hadd:=run_string_add_sum (P:=Tryz.prog) (w:=wr.alloc (.cells #[.int .u8 48] 5)) (pz 0) ⟨#[]⟩ (by show 1+0<=_;omega);have HB2:=aj (HB.out.alloc HB.out.size (.cells #[.int .u8 48] 5));go_wp2_with fail;go_roundg f'
    case rel=>exact ⟨0,pz 0++⟨#[]⟩,rfl,rfl,by simpa using hx3,by omega,by omega,by omega,HD2,HB2⟩
    case measure=>omega
   ·have ex:¬ ((x:Int)=0):=by omega
    have hcv:=pE wr x (48+(x:Int) % 10) (by omega);have hadd:=run_string_add_sum (P:=Tryz.prog) (w:=wr.alloc (.cells #[.int .u8 (48+(x:Int) % 10)] 5)) (pz x) out (by show 1+out.size<=_;omega);have HB2:=aj (HB.out.alloc HB.out.size (.cells #[.int .u8 (48+(x:Int) % 10)] 5));go_wp2_with fail;go_roundg f'
    case rel=>exact ⟨x / 10,pz x++out,rfl,by go_num,hx3,by omega,by omega,by omega,HD2,HB2⟩
    case measure=>omega
end Go.Proofs.YtknakfpciccoaaaGreatDoor
