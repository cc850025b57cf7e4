import Derived.Test.YtknakfpciccoaaaGreatDoorZF40
/- The lists that came out: looks. -/
set_option maxHeartbeats 8000000
set_option maxRecDepth 100000
namespace Go.Proofs.YtknakfpciccoaaaGreatDoor
open Go.RowKit
theorem Qk {Q:Nat->Prop} {w:World} {pw:Nat} {a:Nat->Nat} {lv:Value} {R:List (Value×Nat)} (h:Gu Q w pw a lv R) (Uo:R.length<=100000000) :
  Calls Tryz.prog 52 #[.pointer (some ⟨pw,0,none⟩)] w fun e w'=>e=.returned (.bool true)/\Below w.heap.size w w':=by
 obtain ⟨LA,Lc,rfl⟩:=aJ h.row;have H:=aj h;obtain ⟨rn,hrn⟩:∃ rn,R.length=rn:=⟨_,rfl⟩;have Hrn:=aj hrn;have HC:Hid (∀ wy:World,Below w.heap.size w wy->wy.cell? ⟨pw,4,none⟩=some (.slice LA rn Lc)):=fun wy hb=>(hb.cell (p:=⟨pw,4,none⟩) h.pl).trans (by rw [<- hrn];exact h.c4);have HM:=aj (fun (n:Nat) (w:World) (hn:n<=1000000000)=>wB n w hn);rw [hrn] at Uo;clear h hrn;go_in;go_wp2_with fail;go_loopg [3,5] rn (fun gh z z5 wr=>∃ k:Nat,gh=rn - k/\k<=rn/\z=.int .i64 k/\Hid (Below w.heap.size w wr))
 case atStart=>exact ⟨0,rfl,Nat.zero_le _,rfl,Below.refl _ _⟩
 case round =>
  obtain ⟨k,rfl,hk,rfl,HB⟩:=hrel
  rename World=>wo
  have d4:=HC.out wo HB.out;by_cases hlt:k<rn
  ·obtain ⟨j,hj⟩:∃ j,k / 4=j:=⟨_,rfl⟩;have hdiv:(k:Int).tdiv 4=(j:Int):=by rw [<- hj];rfl
   have aa1:(k:Int) / 4=(j:Int):=by omega
   have hkl:k<R.length:=by rw [Hrn.out];exact hlt
   obtain ⟨r,hr⟩:∃ r,R[k]?=some r:=⟨_,List.getElem?_eq_getElem hkl⟩;have HRd:=aj (H.out.rd k r hr);rw [hj] at HRd;obtain ⟨g,cap,e1,_,hgl⟩:=H.out.row.form (by omega);simp only [Value.slice.injEq] at e1;obtain ⟨rfl,_,rfl⟩:=e1;obtain ⟨⟨A6,c6,hv6,hm6⟩,_⟩:=HRd.out;have q1:w.cell? ⟨g,k,none⟩=some (.slice A6 r.2 c6):=by rw [H.out.row.cellAt k (by rw [Hrn.out];omega),List.getElem?_map,hr];show some r.1=_;rw [hv6]
   have pJ:Hid (∀ wy:World,Below w.heap.size w wy->wy.cell? ⟨g,k,none⟩=some (.slice A6 r.2 c6)):=fun wy hb=>(hb.cell (p:=⟨g,k,none⟩) hgl).trans q1;have hrl:r.2<=9223372036854775807:=by unfold maxLen at hm6;omega
   have HMj:=aj (HM.out j wo (by omega));have x1:(k:Int)<(rn:Int):=by omega
   have HS:Hid (∀ q,q<r.2->∃ gg,A6=some ⟨gg,0,none⟩/\∀ wy:World,Below w.heap.size w wy->wy.cell? ⟨gg,q,none⟩=some (.string (pq j))):=fun q hq=>by
    obtain ⟨gg,cap2,e2,hgg,hc⟩:=HRd.out.cell hq;rw [hv6] at e2;simp only [Value.slice.injEq] at e2;refine ⟨gg,e2.1,fun wy hb=>(hb.cell (p:=⟨gg,q,none⟩) hgg).trans ?_⟩;have:=hc 0 (by omega);rw [Nat.mul_one,Nat.add_zero] at this;exact this
   obtain ⟨m,hm⟩:∃ m,r.2=m:=⟨_,rfl⟩;rw [hm] at pJ HS hrl;clear hv6 hm6 q1 hkl hr HRd hj hgl hlt hm;go_wp2_with fail;refine HMj.out.mono ?_;rintro e w1 ⟨rfl,b1⟩;have HB1:=aj (HB.out.trans (b1.mono HB.out.size));clear b1 HMj d4;go_wp2_with fail;go_loopg [5] m (fun gh z wr=>∃ q:Nat,gh=m - q/\q<=m/\z=.int .i64 q/\w1=wr)
   case atStart=>exact ⟨0,rfl,Nat.zero_le _,rfl,rfl⟩
   case round =>
    obtain ⟨q,rfl,hq,rfl,rfl⟩:=hrel;have d4:=HC.out w1 HB1.out;have d5:=pJ.out w1 HB1.out;by_cases hlt:q<m
    ·obtain ⟨gg,rfl,hcell⟩:=HS.out q hlt;have d6:=hcell w1 HB1.out;have y1:(q:Int)<(m:Int):=by omega
     have hne:((pq j).toList != (pq j).toList)=false:=by simp
     clear hcell hlt;go_wp2_with fail;go_roundg (m - (q+1))
     case rel=>exact ⟨q+1,rfl,by omega,by go_num,rfl⟩
     case measure=>omega
    ·obtain rfl:q=m:=by omega
     have y1:¬ (q:Int)<(q:Int):=by omega
     clear hlt;go_wp2_with fail;go_roundg (rn - (k+1))
     case rel=>exact ⟨k+1,rfl,by omega,by go_num,HB1⟩
     case measure=>omega
  ·obtain rfl:k=rn:=by omega
   have x1:¬ (k:Int)<(k:Int):=by omega
   clear hlt;go_wp2_with fail;go_ret;exact ⟨rfl,HB.out⟩
def JM (w:World) (v:Value) (l:List ByteArray):Prop:=∃ A c,v=.slice A l.length c/\l.length<=1000000/\∀ i,(h:i<l.length)->∃ b o,A=some ⟨b,o,none⟩/\b<w.heap.size/\w.cell? ⟨b,o+i,none⟩=some (.string l[i])
theorem JM.Gj {w:World} {lo:Nat} {A:Option Addr} {c:Nat} {l:List T} (h:w.ownsRow lo 9 1 (.slice A l.length c) l.length (l.map fun t=>.string (vW t))) (hn:l.length<=1000000):JM w (.slice A l.length c) (l.map vW):=by
 refine ⟨A,c,by rw [List.length_map],by rw [List.length_map];exact hn,fun i hi=>?_⟩;rw [List.length_map] at hi;rcases h.2 with ⟨h',h0⟩ | ⟨g',cap',cur,h',_⟩
 ·omega
 ·simp only [Value.slice.injEq,true_and] at h';obtain ⟨rfl,rfl⟩:=h';refine ⟨g',0,rfl,(h.lt g' rfl).2,?_⟩;rw [Nat.zero_add,h.cellAt i (by omega)];simp [hi]
theorem tX (l:List ByteArray) (va vb:Value) (w:World) (ha:JM w va l) (hb:JM w vb l) :
  Calls Tryz.prog 93 #[va,vb] w fun e w'=>e=.returned (.bool true)/\Below w.heap.size w w':=by
 obtain ⟨A,c,rfl,hn,Ha⟩:=ha;obtain ⟨B,d,rfl,_,Hb⟩:=hb;have HA:=aj Ha;have HB:=aj Hb;have Hlen:Hid (∀ k,k<l.length->∃ h:k<l.length,True):=fun k h=>⟨h,trivial⟩;obtain ⟨n,hl⟩:∃ n,l.length=n:=⟨_,rfl⟩;have Hl:=aj hl;rw [hl] at hn ⊢;clear Ha Hb hl;go_in;go_wp2_with fail;go_loopg [5] n (fun g i wr=>∃ k:Nat,g=n - k/\k<=n/\i=.int .i64 k/\Hid (Below w.heap.size w wr))
 case atStart=>exact ⟨0,rfl,Nat.zero_le _,rfl,Below.refl _ _⟩
 case round =>
  obtain ⟨k,rfl,hk,rfl,HW⟩:=hrel;by_cases hlt:k<n
  ·have hkl:k<l.length:=by rw [Hl.out];exact hlt
   obtain ⟨ba,oa,rfl,hba,p0⟩:=HA.out k hkl;obtain ⟨bb,ob,rfl,hbb,r0⟩:=HB.out k hkl;generalize l[k]=s at p0 r0;have n0:=(HW.out.cell (p:=⟨ba,_,none⟩) hba).trans p0;have m0:=(HW.out.cell (p:=⟨bb,_,none⟩) hbb).trans r0;have x3:(k:Int)<(n:Int):=by omega
   clear p0 r0;go_wp2_with fail;go_quiet (fail);go_wp2_with fail;go_roundg (n - (k+1))
   case rel=>exact ⟨k+1,rfl,by omega,by go_num,below_drewN HW.out _⟩
   case measure=>omega
  ·have x3:¬ (k:Int)<(n:Int):=by omega
   go_wp2_with fail;go_ret;exact ⟨rfl,HW.out⟩
structure uM (S:fH):Prop where
 nd:(S.map (·.1)).Nodup
 len:S.length<=6
 docs:∀ r ∈ S,r.2.length<=60
 Og:∀ r ∈ S,∀ t ∈ r.2,QB t
theorem uM.nil:uM []:=⟨List.nodup_nil,Nat.zero_le _,fun r hr=>(by cases hr),fun r hr=>(by cases hr)⟩
theorem Uq {S:fH} {x:ByteArray} (h:iA S x=none):x ∉ S.map (·.1):=by
 induction S with
 | nil=>simp
 | cons r S ih =>
  by_cases e:r.1=x
  ·rw [iA,if_pos e] at h;cases h
  ·rw [iA,if_neg e] at h;rw [List.map_cons,List.mem_cons,not_or];exact ⟨fun h=>e h.symm,ih h⟩
theorem uM.cre {S:fH} (h:uM S) (x:ByteArray):uM (za S x):=by
 unfold za;split
 ·rename_i e;unfold nk at e;split at e
  ·cases e
  ·split at e
   ·cases e
   ·rename_i hl;split at e
    ·cases e
    ·rename_i h6;have hnone:iA S x=none:=by simpa using hl
     refine ⟨?_,by rw [List.length_append];show _+1<=6;omega,fun r hr=>?_,fun r hr t ht=>?_⟩
     ·rw [List.map_append,List.nodup_append];refine ⟨h.nd,by simp,fun a ha b hb e=>?_⟩;obtain rfl:b=x:=by simpa using hb
      exact Uq hnone (e ▸ ha)
     ·rcases List.mem_append.1 hr with h1 | h1
      ·exact h.docs r h1
      ·obtain rfl:r=(x,[]):=by simpa using h1
       exact Nat.zero_le _
     ·rcases List.mem_append.1 hr with h1 | h1
      ·exact h.Og r h1 t ht
      ·obtain rfl:r=(x,[]):=by simpa using h1
       cases ht
 ·exact h
theorem uM.del {S:fH} (h:uM S) (x:ByteArray):uM (sV S x) :=
 ⟨h.nd.sublist ((wm S).map _),Nat.le_trans (wm S).length_le h.len,fun r hr=>h.docs r ((wm S).subset hr),fun r hr=>h.Og r ((wm S).subset hr)⟩
theorem uM.upd {S:fH} (h:uM S) {x:ByteArray} {l:List T} (h1:l.length<=60) (h2:∀ t ∈ l,QB t):uM (qx S x l) :=
 ⟨by rw [Ez];exact h.nd,by rw [zP];exact h.len,fun r hr=>by rcases FQ hr with h3 | rfl;exact h.docs r h3;exact h1,fun r hr=>by rcases FQ hr with h3 | rfl;exact h.Og r h3;exact h2⟩
theorem uM.get {S:fH} (h:uM S) (x:ByteArray):((iA S x).getD []).length<=60/\∀ t ∈ (iA S x).getD [],QB t:=by
 cases hl:iA S x with
 | none=>exact ⟨Nat.zero_le _,fun t ht=>by cases ht⟩
 | some l=>exact ⟨h.docs _ (ow hl),h.Og _ (ow hl)⟩
theorem uM.rem {S:fH} (h:uM S) (x s:ByteArray):uM (ze S x s):=by
 unfold ze;split
 ·exact h.upd (Nat.le_trans (List.length_filter_le _ _) (h.get x).1) fun t ht=>(h.get x).2 t (List.mem_filter.1 ht).1
 ·exact h
theorem uM.ins {S:fH} (h:uM S) (x s:ByteArray):uM (xG S x s):=by
 unfold xG;split
 ·rename_i e;unfold je at e;split at e
  ·rename_i er hin;unfold jq at hin;exfalso;split at hin
   ·rename_i hj;cases hin;exact hj e
   ·split at hin
    ·cases hin;cases e
    ·split at hin
     ·cases hin;cases e
     ·cases hin
  ·rename_i hin;split at e
   ·cases e
   ·rename_i l hl;split at e
    ·cases e
    ·split at e
     ·cases e
     ·rename_i X8;rw [hl];refine h.upd (by rw [List.length_append];show _+1<=60;simp only [Option.getD_some];omega) fun t ht=>?_;rcases List.mem_append.1 ht with h1 | h1
      ·exact h.Og _ (ow hl) t h1
      ·obtain rfl:t=tJ s:=by simpa using h1
       unfold jq at hin;split at hin
       ·cases hin
       ·rename_i e1;have e1:eJ s=0:=by simpa using e1
        split at hin
        ·cases hin
        ·rename_i e2;exact ⟨gZ e1,qo e1,by simpa using e2⟩
 ·exact h
def ext (O:Nat->Nat) (w:World) (j:Nat) (w':World) (b:Nat):Nat:=if b<w.heap.size then O b else if b<w'.heap.size then j else 0
structure pF (O:Nat->Nat) (w0 w:World) (pw:Nat) (a:Nat->Nat) (lv:Value) (R:List (Value×Nat)) (sp sr:Nat->fH):Prop where
 low:Below w0.heap.size w0 w
 bnd:∀ b,O b≠0->w0.heap.size<=b/\b<w.heap.size
 ls:Gu (fun b=>O b=5) w pw a lv R
 st:∀ i,i<2->wM (fun b=>O b=1+i) w (a i) (sp i)
 rf:∀ i,i<2->wu (fun b=>O b=3+i) w (a (2+i)) (sr i)
section
variable {O : Nat -> Nat} {w0 w w' : World} {pw : Nat} {a : Nat -> Nat} {lv : Value} {R : List (Value × Nat)} {sp sr : Nat -> fH}
theorem pF.keep (h:pF O w0 w pw a lv R sp sr) (hb:Below w.heap.size w w'):pF O w0 w' pw a lv R sp sr :=
 ⟨h.low.trans (hb.mono h.low.size),fun b hO=>⟨(h.bnd b hO).1,Nat.lt_of_lt_of_le (h.bnd b hO).2 hb.size⟩,h.ls.keep hb,fun i hi=>(h.st i hi).keep hb,fun i hi=>(h.rf i hi).move hb.size fun b hl _=>hb.block b hl⟩
theorem gP {j b:Nat} (hb:b<w.heap.size):ext O w j w' b=O b:=if_pos hb
theorem Gl (h:pF O w0 w pw a lv R sp sr) {j:Nat} (hs:w.heap.size<=w'.heap.size) (b:Nat) (hO:ext O w j w' b≠0):w0.heap.size<=b/\b<w'.heap.size:=by
 unfold ext at hO;have h0:=h.low.size;by_cases e:b<w.heap.size
 ·rw [if_pos e] at hO;exact ⟨(h.bnd b hO).1,by omega⟩
 ·rw [if_neg e] at hO;by_cases e2:b<w'.heap.size
  ·exact ⟨by omega,e2⟩
  ·rw [if_neg e2] at hO;exact absurd rfl hO
theorem Gm (h:pF O w0 w pw a lv R sp sr) {j:Nat} (hj:j≠0) (hK:aP (fun b=>O b=j\/w.heap.size<=b) w w'):Below w0.heap.size w0 w' :=
 h.low.trans ⟨hK.os,hK.tape,hK.output,hK.size,fun b hb=>hK.block b (Nat.lt_of_lt_of_le hb h.low.size) (fun e=>by
  rcases e with e | e
  ·have:=(h.bnd b (by omega)).1;omega
  ·have:=h.low.size;omega)⟩
theorem zX {i j:Nat} (hK:aP (fun b=>O b=j\/w.heap.size<=b) w w') (hij:i≠j) (b:Nat) (hb:b<w.heap.size) (hO:O b=i):w'.heap[b]?=w.heap[b]?:=hK.block b hb (fun e=>by rcases e with e | e<;>omega)
theorem wK {j b:Nat} (hb:b<w'.heap.size) (h:O b=j\/w.heap.size<=b):ext O w j w' b=j:=by
 unfold ext;by_cases e:b<w.heap.size
 ·rw [if_pos e];omega
 ·rw [if_neg e,if_pos hb]
theorem MI (h:pF O w0 w pw a lv R sp sr) {i j:Nat} (hi:i<2) (hij:1+i≠j) (hK:aP (fun b=>O b=j\/w.heap.size<=b) w w'):wM (fun b=>ext O w j w' b=1+i) w' (a i) (sp i):=by
 have h1:=h.st i hi;exact (h1.mono (Q':=fun b=>ext O w j w' b=1+i) fun b hb hq=>(gP hb).trans hq).move hK.size fun b hb hq=>zX hK hij b hb ((gP hb).symm.trans hq)
theorem MJ (h:pF O w0 w pw a lv R sp sr) {i j:Nat} (hi:i<2) (hij:3+i≠j) (hK:aP (fun b=>O b=j\/w.heap.size<=b) w w'):wu (fun b=>ext O w j w' b=3+i) w' (a (2+i)) (sr i):=by
 have h1:=h.rf i hi;exact (h1.mono (Q':=fun b=>ext O w j w' b=3+i) fun b hb hq=>(gP hb).trans hq).move hK.size fun b hb hq=>zX hK hij b hb ((gP hb).symm.trans hq)
theorem Ur (h:pF O w0 w pw a lv R sp sr) {j:Nat} (hj:5≠j) (hK:aP (fun b=>O b=j\/w.heap.size<=b) w w'):Gu (fun b=>ext O w j w' b=5) w' pw a lv R :=
 h.ls.move hK.size fun b hb hq _=>⟨(gP hb).trans hq,zX hK hj b hb hq⟩
theorem pF.prog (h:pF O w0 w pw a lv R sp sr) {i:Nat} (hi:i<2) {S:fH} (hK:aP (fun b=>O b=1+i\/w.heap.size<=b) w w') (hs:wM (fun b=>O b=1+i\/w.heap.size<=b) w' (a i) S):pF (ext O w (1+i) w') w0 w' pw a lv R (upd sp i S) sr:=by
 refine ⟨Gm h (by omega) hK,Gl h hK.size,Ur h (by omega) hK,fun k hk=>?_,fun k hk=>MJ h hk (by omega) hK⟩;by_cases e:k=i
 ·subst e;rw [bX];exact hs.mono fun b hb hq=>wK hb hq
 ·rw [bB _ _ e];exact MI h hk (by omega) hK
theorem pF.JN (h:pF O w0 w pw a lv R sp sr) {i:Nat} (hi:i<2) {S:fH} (hK:aP (fun b=>O b=3+i\/w.heap.size<=b) w w') (hs:wu (fun b=>O b=3+i\/w.heap.size<=b) w' (a (2+i)) S):pF (ext O w (3+i) w') w0 w' pw a lv R sp (upd sr i S):=by
 refine ⟨Gm h (by omega) hK,Gl h hK.size,Ur h (by omega) hK,fun k hk=>MI h hk (by omega) hK,fun k hk=>?_⟩;by_cases e:k=i
 ·subst e;rw [bX];exact hs.mono fun b hb hq=>wK hb hq
 ·rw [bB _ _ e];exact MJ h hk (by omega) hK
theorem pF.list (h:pF O w0 w pw a lv R sp sr) {Db:Value} {R':List (Value×Nat)} (hK:aP (fun b=>O b=5\/w.heap.size<=b) w w') (hs:Gu (fun b=>O b=5\/w.heap.size<=b) w' pw a Db R'):pF (ext O w 5 w') w0 w' pw a Db R' sp sr :=
 ⟨Gm h (by omega) hK,Gl h hK.size,hs.move (Nat.le_refl _) fun b hb hq _=>⟨wK hb hq,rfl⟩,fun k hk=>MI h hk (by omega) hK,fun k hk=>MJ h hk (by omega) hK⟩
theorem pF.UQ (h:pF O w0 w pw a lv R sp sr) {i:Nat} (hi:i<2):wM (fun b=>O b=1+i\/w.heap.size<=b) w (a i) (sp i):=(h.st i hi).mono fun _ _ hq=>.inl hq
theorem pF.UR (h:pF O w0 w pw a lv R sp sr) {i:Nat} (hi:i<2):wu (fun b=>O b=3+i\/w.heap.size<=b) w (a (2+i)) (sr i):=(h.rf i hi).mono fun _ _ hq=>.inl hq
def Df (O:Nat->Nat) (w:World) (bo:Nat) (kd:Int) (ot:Bool) (nm tx:ByteArray):Prop:=O bo=0/\bo<w.heap.size/\w.cell? ⟨bo,0,none⟩=some (.int .i64 kd)/\w.cell? ⟨bo,1,none⟩=some (.bool ot)/\w.cell? ⟨bo,2,none⟩=some (.string nm)/\w.cell? ⟨bo,3,none⟩=some (.string tx)
theorem Df.ext {bo:Nat} {kd:Int} {ot:Bool} {nm tx:ByteArray} (h:Df O w bo kd ot nm tx) {j:Nat} (hj:j≠0) (hK:aP (fun b=>O b=j\/w.heap.size<=b) w w'):Df (ext O w j w') w' bo kd ot nm tx:=by
 obtain ⟨h0,h1,c0,c1,c2,c3⟩:=h;have hb:=zX hK (i:=0) (by omega) bo h1 h0;exact ⟨(gP h1).trans h0,Nat.lt_of_lt_of_le h1 hK.size,(aC hb 0).trans c0,(aC hb 1).trans c1,(aC hb 2).trans c2,(aC hb 3).trans c3⟩
theorem Df.keep {bo:Nat} {kd:Int} {ot:Bool} {nm tx:ByteArray} (h:Df O w bo kd ot nm tx) (hb:Below w.heap.size w w'):Df O w' bo kd ot nm tx:=by
 obtain ⟨h0,h1,c0,c1,c2,c3⟩:=h;have hb':=hb.block bo h1;exact ⟨h0,Nat.lt_of_lt_of_le h1 hb.size,(aC hb' 0).trans c0,(aC hb' 1).trans c1,(aC hb' 2).trans c2,(aC hb' 3).trans c3⟩
end
end Go.Proofs.YtknakfpciccoaaaGreatDoor
