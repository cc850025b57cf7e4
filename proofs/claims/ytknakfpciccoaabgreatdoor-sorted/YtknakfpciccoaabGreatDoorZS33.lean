import Derived.Test.YtknakfpciccoaabGreatDoorZS24
import Derived.Test.YtknakfpciccoaabGreatDoorZS25
import Derived.Test.YtknakfpciccoaabGreatDoorZS31
import Derived.Test.YtknakfpciccoaabGreatDoorZS32
import Derived.BigQuiet
import Derived.Test.YtknakfpciccoaabGreatDoorZS18
import Derived.Test.YtknakfpciccoaabGreatDoorZS1
import Derived.WalkSmall
/- A pipeline's text is read; task, Run. -/
namespace Go.Proofs.YtknakfpciccoaabGreatDoor
open Go.RowKit Go.Maps Go.WideMaps
set_option maxHeartbeats 4000000 in
set_option maxRecDepth 100000 in
theorem readP_ok {Tb:World→Prop} (hD:DecSaid Tb) (hN:IntSaid Tb) (hL:Lies Tb) (p m n:Nat) (D:DataW Unit) (x s:ByteArray) (gs:List StgF) (c:Nat) (w:World) (hs:s.size≤140737488355328) (hx:x.size≤140737488355328) (hst:StoAt w p m n D) (hT:Tb w) (h0:eJ s=0) (hp:PpSaid Tb (tJ s) gs) (hc:atK D x=.lit (.int .i64 c)) :
  Calls Tryz.prog 39 #[.pointer (some ⟨p,0,none⟩),.string x,.string s,.func (Fn.func 40) #[] #[]] w fun e w'=>Below w.heap.size w w'∧∃ A cp,e=.returned (.tuple #[.pointer (some ⟨c,0,none⟩),.slice A gs.length cp,.int .i64 0])∧StagesOk Tb w' (.slice A gs.length cp) gs:=by
 have HP:=hid (parse_ok hD hN hL s w hs hT h0)
 have HK:=hid (parsed_okA h0)
 have HSt:=hid hst
 have HT:Hid (∀ w':World,Below w.heap.size w w'→Tb w'):=fun w' hb=>hL w hT w w' hT hb
 have HF:Hid (∀ (v:Value) (w0 w1:World),At w0 13 v (tJ s)→Below w0.heap.size w0 w1→Tb w1→Calls Tryz.prog 40 #[v] w1 fun e w'=>Below w1.heap.size w1 w'∧∃ A c,e=.returned (.tuple #[.slice A gs.length c,.int .i64 0])∧Sat w0 w' (newB w1 w') (fun x=>StagesOk Tb x (.slice A gs.length c) gs)):=fun v w0 w1 ha hb ht=>pParse_any hL (tJ s) gs hp v w0 w1 ha HK.out hb ht
 have Hc:=hid hc
 clear hT hD hN hL h0 hst hp hc
 go_enter Tryz.func39,Tryz.ntmps39
 go_wp2_with fail
 refine HP.out.mono ?_
 rintro e w1 ⟨b1,A,B,C,D',rfl,ha⟩
 have HBa:Hid (Below w1.heap.size w1 (w1.alloc (.cells #[.int .i64 (kindOf (tJ s)),.int .i64 (nOf (tJ s)),.string (sOf (tJ s)),.slice A (nL (tJ s)) B,.slice C (nK (tJ s)) D'] 36))):=(Below.refl _ _).alloc (Nat.le_refl _) _
 have HB2:=hid (b1.trans (HBa.out.mono b1.size))
 have HC:=hid (HF.out _ w1 _ ha HBa.out (HT.out _ HB2.out))
 clear b1 ha HP
 go_wp2_with fail
 refine HC.out.mono ?_
 rintro e w3 ⟨b3,A3,c3,rfl,hsat⟩
 have HB3:=hid (HB2.out.trans (b3.mono HB2.out.size))
 have HG:=hid (hsat.at (HBa.out.trans (b3.mono HBa.out.size)))
 have HS3:=hid (HSt.out.keep HB3.out)
 have c0:=HS3.out.cell
 clear b3 hsat HC HBa HB2 HSt HF HT
 rcases HS3.out.look x hx with ⟨hrun,hat⟩ | ⟨c',hrun,hat⟩
 ·rw [Hc.out] at hat;cases hat
 ·rw [Hc.out] at hat
  obtain rfl:=lit_inj hat
  clear hat
  go_wp2_with fail
  refine bodyPost_ret (v:=.tuple #[.pointer (some ⟨c,0,none⟩),.slice A3 gs.length c3,.int .i64 0]) (by simp [results,Tryz.results39,go_sem, *]) rfl ?_
  exact ⟨HB3.out,A3,c3,rfl,HG.out⟩
set_option maxHeartbeats 4000000 in
set_option maxRecDepth 100000 in
theorem task_any {Tb:World→Prop} (hD:DecSaid Tb) (hN:IntSaid Tb) (hL:Lies Tb) (p m n:Nat) (D:DataW Unit) (x s:ByteArray) (gs:List StgF) (c:Nat) (w:World) (hs:s.size≤140737488355328) (hx:x.size≤140737488355328) (hst:StoAt w p m n D) (hT:Tb w) (h0:eJ s=0) (hp:PpSaid Tb (tJ s) gs) (hc:atK D x=.lit (.int .i64 c)) :
  Calls Tryz.prog 22 #[.pointer (some ⟨p,0,none⟩),.string x,.string s] w fun e w'=>Below w.heap.size w w'∧∃ A cp,e=.returned (.tuple #[.pointer (some ⟨c,0,none⟩),.slice A gs.length cp,.int .i64 0])∧StagesOk Tb w' (.slice A gs.length cp) gs:=by
 have HC:=hid (readP_ok hD hN hL p m n D x s gs c w hs hx hst hT h0 hp hc)
 clear hD hN hL hst hT hs hx h0 hp hc
 go_enter Tryz.func22,Tryz.ntmps22
 go_wp2_with fail
 refine HC.out.mono ?_
 rintro e w1 ⟨b1,A,cp,rfl,h4⟩
 have HB:=hid b1
 have H1:=hid h4
 clear b1 h4 HC
 go_wp2_with fail
 refine bodyPost_ret (v:=.tuple #[.pointer (some ⟨c,0,none⟩),.slice A gs.length cp,.int .i64 0]) (by simp [results,Tryz.results22,go_sem, *]) rfl ?_
 exact ⟨HB.out,A,cp,rfl,H1.out⟩
def RunPost (gs:List StgF) (l:List T) (w:World) (e:Ending) (w':World):Prop :=
 Below w.heap.size w w'∧((∃ (i k:Nat) (x:Int) (sv:Value),pipE gs l 0=.inl (i,k,x)∧x≠0∧e=.returned (.tuple #[sv,.int .i64 i,.int .i64 k,.int .i64 x])∧w'.ownsRow w.heap.size 9 1 sv 0 []) ∨
  ∃ r sv,pipE gs l 0=.inr r∧e=.returned (.tuple #[sv,.int .i64 0,.int .i64 0,.int .i64 0])∧w'.ownsRow w.heap.size 9 1 sv r.length (r.map fun t=>.string (prT t))∧r.length≤1000000)
set_option maxHeartbeats 8000000 in
set_option maxRecDepth 100000 in
theorem run_any {Tb:World→Prop} (hA:StoreSaid Tb) (p m n:Nat) (D:DataW Unit) (x s:ByteArray) (gs:List StgF) (c:Nat) (l:List T) (w:World) (hs:s.size≤140737488355328) (hx:x.size≤140737488355328) (hst:StoAt w p m n D) (hT:Tb w) (h0:eJ s=0) (hp:PpSaid Tb (tJ s) gs) (hc:atK D x=.lit (.int .i64 c))
  (q0:∃ dv,w.cell? ⟨c,0,none⟩=some dv∧DocsAt w dv l) (hcl:c<w.heap.size) :
  Calls Tryz.prog 10 #[.pointer (some ⟨p,0,none⟩),.string x,.string s] w (RunPost gs l w):=by
 have HC:=hid (task_any hA.dec hA.int hA.lies p m n D x s gs c w hs hx hst hT h0 hp hc)
 obtain ⟨dv,q0,hd⟩:=q0
 have Hd:=hid hd
 obtain ⟨DA,dc,hdv,_⟩:=hd
 subst hdv
 have Hq:Hid (∀ w':World,Below w.heap.size w w'→w'.cell? ⟨c,0,none⟩=some (.slice DA l.length dc)):=fun w' hb=>(hb.cell (p:=⟨c,0,none⟩) hcl).trans q0
 have HT:Hid (∀ w':World,Below w.heap.size w w'→Tb w'):=fun w' hb=>hA.lies w hT w w' hT hb
 have HRn:Hid (∀ (pv dv:Value) (w:World),StagesOk Tb w pv gs→DocsAt w dv l→Tb w→Calls Tryz.prog 23 #[pv,dv] w (RnPost gs l w)):=fun pv dv w h1 h2 h3=>pipe_any hA.lies pv dv gs l w h1 h2 h3
 have HPr:Hid (∀ (d:T) (La:Option Addr) (Lc:Nat) (w:World),ElemsAt w 13 La d→nL d≤1000000→Tb w→Calls Tryz.prog 24 #[.slice La (nL d) Lc] w fun e w'=>Below w.heap.size w w'∧∃ sv,e=.returned sv∧w'.ownsRow w.heap.size 9 1 sv (nL d) (prL d (nL d))):=fun d La Lc w h1 h2 h3=>printed_docs hA.valid hA.fmt hA.lies d 13 La Lc w h1 h2 h3
 clear hst hT hs hx hc hA h0 hp q0
 go_enter Tryz.func10,Tryz.ntmps10
 go_wp2_with fail
 refine HC.out.mono ?_
 rintro e w1 ⟨b1,A,cp,rfl,h4⟩
 have HB1:=hid b1
 have q1:=Hq.out _ b1
 have HM:=hid (HRn.out _ _ w1 h4 (Hd.out.keep b1) (HT.out _ b1))
 clear b1 h4 HC HRn
 go_wp2_with fail
 refine HM.out.mono ?_
 rintro e w2 ⟨b2,⟨i,k,er,h1,h2,rfl⟩ | ⟨r,v,h1,rfl,h3⟩⟩
 ·have HB2:=hid (HB1.out.trans (b2.mono HB1.out.size))
  have HBa:Hid (Below w2.heap.size w2 (w2.alloc (.cells #[.int .i64 (i:Nat),.int .i64 (k:Nat),.int .i64 er] 57))):=(Below.refl _ _).alloc (Nat.le_refl _) _
  have HB3:=hid (HB2.out.trans (HBa.out.mono HB2.out.size))
  have HP:Hid (Calls Tryz.prog 24 #[.slice none 0 0] (w2.alloc (.cells #[.int .i64 (i:Nat),.int .i64 (k:Nat),.int .i64 er] 57)).drew fun e w'=>Below (w2.alloc (.cells #[.int .i64 (i:Nat),.int .i64 (k:Nat),.int .i64 er] 57)).drew.heap.size (w2.alloc (.cells #[.int .i64 (i:Nat),.int .i64 (k:Nat),.int .i64 er] 57)).drew w'∧∃ sv,e=.returned sv∧w'.ownsRow (w2.alloc (.cells #[.int .i64 (i:Nat),.int .i64 (k:Nat),.int .i64 er] 57)).drew.heap.size 9 1 sv 0 []):=HPr.out (mkT 5 0 ByteArray.empty [] []) none 0 _ (fun i hi=>absurd hi (Nat.not_lt_zero i)) (Nat.zero_le _) (HT.out _ HB3.out.drew)
  have HF:=hid (And.intro h1 h2)
  have HSo:Hid (∀ wx:World,Below (w2.alloc (.cells #[.int .i64 (i:Nat),.int .i64 (k:Nat),.int .i64 er] 57)).heap.size (w2.alloc (.cells #[.int .i64 (i:Nat),.int .i64 (k:Nat),.int .i64 er] 57)) wx→(fun wx=>wx.cell? ⟨w2.heap.size,0,none⟩=some (.int .i64 (i:Nat))∧wx.cell? ⟨w2.heap.size,1,none⟩=some (.int .i64 (k:Nat))∧wx.cell? ⟨w2.heap.size,2,none⟩=some (.int .i64 er)) wx):=fun wx hb=>⟨(hb.cell (p:=⟨w2.heap.size,0,none⟩) (by simp)).trans (by simp [go_sem]),(hb.cell (p:=⟨w2.heap.size,1,none⟩) (by simp)).trans (by simp [go_sem]),(hb.cell (p:=⟨w2.heap.size,2,none⟩) (by simp)).trans (by simp [go_sem])⟩
  have HSd:=hid (HSo.out _ (below_drew _))
  clear b2 h1 h2 HM HPr
  go_wp2_with fail
  go_region_held3 (fun wx=>wx.cell? ⟨w2.heap.size,0,none⟩=some (.int .i64 (i:Nat))∧wx.cell? ⟨w2.heap.size,1,none⟩=some (.int .i64 (k:Nat))∧wx.cell? ⟨w2.heap.size,2,none⟩=some (.int .i64 er)) (first | exact hc5 | exact HSd.out) ((go_at_call 24;refine HP.out.mono ?_;rintro e5 w5 ⟨hb5,sv,rfl,ho5⟩;have hc5:=HSo.out _ ((below_drew _).trans hb5)))
  have HB5:=hid (HB3.out.trans (((below_drew _).trans hb5).mono HB3.out.size))
  have HO:=hid (row_base ho5 (HB3.out.drew.size))
  clear hb5 ho5 hc5 HSd HSo HP
  go_wp2_with fail
  refine bodyPost_ret (v:=.tuple #[sv,.int .i64 (i:Nat),.int .i64 (k:Nat),.int .i64 er]) (by simp [results,Tryz.results10,go_sem, *]) rfl ?_
  exact ⟨HB5.out,.inl ⟨i,k,er,sv,HF.out.1,HF.out.2,rfl,HO.out⟩⟩
 ·obtain ⟨RA,rc,hrv,hn,hz1,hz2,hel,hz3⟩:=h3
  subst hrv
  clear hz1 hz2 hz3
  have HB2:=hid (HB1.out.trans (b2.mono HB1.out.size))
  have HBa:Hid (Below w2.heap.size w2 (w2.alloc (.cells #[.int .i64 0,.int .i64 0,.int .i64 0] 57))):=(Below.refl _ _).alloc (Nat.le_refl _) _
  have HB3:=hid (HB2.out.trans (HBa.out.mono HB2.out.size))
  have HP:=hid (HPr.out (mkT 5 0 ByteArray.empty r []) RA rc (w2.alloc (.cells #[.int .i64 0,.int .i64 0,.int .i64 0] 57)).drew (hel.keep HBa.out.drew) (by rw [nL_mk];exact hn) (HT.out _ HB3.out.drew))
  rw [nL_mk,prL_mk _ _ _ _ _ _ (Nat.le_refl _),List.take_length] at HP
  have HF:=hid (And.intro h1 hn)
  have HSo:Hid (∀ wx:World,Below (w2.alloc (.cells #[.int .i64 0,.int .i64 0,.int .i64 0] 57)).heap.size (w2.alloc (.cells #[.int .i64 0,.int .i64 0,.int .i64 0] 57)) wx→(fun wx=>wx.cell? ⟨w2.heap.size,0,none⟩=some (.int .i64 0)∧wx.cell? ⟨w2.heap.size,1,none⟩=some (.int .i64 0)∧wx.cell? ⟨w2.heap.size,2,none⟩=some (.int .i64 0)) wx):=fun wx hb=>⟨(hb.cell (p:=⟨w2.heap.size,0,none⟩) (by simp)).trans (by simp [go_sem]),(hb.cell (p:=⟨w2.heap.size,1,none⟩) (by simp)).trans (by simp [go_sem]),(hb.cell (p:=⟨w2.heap.size,2,none⟩) (by simp)).trans (by simp [go_sem])⟩
  have HSd:=hid (HSo.out _ (below_drew _))
  clear b2 h1 hn hel HM HPr
  go_wp2_with fail
  go_region_held3 (fun wx=>wx.cell? ⟨w2.heap.size,0,none⟩=some (.int .i64 0)∧wx.cell? ⟨w2.heap.size,1,none⟩=some (.int .i64 0)∧wx.cell? ⟨w2.heap.size,2,none⟩=some (.int .i64 0)) (first | exact hc5 | exact HSd.out) ((go_at_call 24;refine HP.out.mono ?_;rintro e5 w5 ⟨hb5,sv,rfl,ho5⟩;have hc5:=HSo.out _ ((below_drew _).trans hb5)))
  have HB5:=hid (HB3.out.trans (((below_drew _).trans hb5).mono HB3.out.size))
  have HO:=hid (row_base ho5 (HB3.out.drew.size))
  clear hb5 ho5 hc5 HSd HSo HP
  go_wp2_with fail
  refine bodyPost_ret (v:=.tuple #[sv,.int .i64 0,.int .i64 0,.int .i64 0]) (by simp [results,Tryz.results10,go_sem, *]) rfl ?_
  exact ⟨HB5.out,.inr ⟨r,sv,HF.out.1,rfl,HO.out,HF.out.2⟩⟩
end Go.Proofs.YtknakfpciccoaabGreatDoor
/- Run, of a store as names and documents. -/
namespace Go.Proofs.YtknakfpciccoaabGreatDoor
open Go.RowKit Go.Maps Go.WideMaps
theorem row_cap {w:World} {lo:Nat} {e:TypeId} {s n c:Nat} {A:Option Addr} {xs:List Value} (h:w.ownsRow lo e s (.slice A n c) n xs):n≤c∧c≤9223372036854775807:=by
 rcases h.2 with ⟨h1,h2⟩ | ⟨g,cap,cur,h1,_,_,h2,h3,_⟩
 ·simp only [Value.slice.injEq] at h1
  omega
 ·simp only [Value.slice.injEq] at h1
  unfold maxLen at h3
  omega
theorem run_st {Tb:World→Prop} (hA:StoreSaid Tb) {B:Nat} {w:World} {p n:Nat} {S:ByteArray→Option (List T)} (h:StP B w p n S) (x s:ByteArray) (l:List T) (gs:List StgF) (hx:x.size≤140737488355328) (hs:s.size≤140737488355328) (hS:S x=some l) (hl:l.length≤1000000) (he:eJ s=0) (hp:PpSaid Tb (tJ s) gs) (hT:Tb w) :
  Calls Tryz.prog 10 #[.pointer (some ⟨p,0,none⟩),.string x,.string s] w (RunPost gs l w):=by
 obtain ⟨L,m,D,lf,vf,xf,h1,h2,h3,h4⟩:=h
 obtain ⟨c,hc,hlc⟩:∃ c:Nat,atK D x=.lit (.int .i64 c)∧lf c=l:=by
  rcases h4 x with ⟨h,_⟩ | ⟨c,hc,h⟩
  ·rw [hS] at h;cases h
  ·rw [hS] at h;exact ⟨c,hc,(Option.some.inj h).symm⟩
 have hco:=h1.col x c hc
 have hto:=h1.toCol hc
 obtain ⟨La,Lc,hv,hel⟩:=hto.elems
 have hrow:=hto.row
 rw [hv,hlc] at hrow
 have hcp:=row_cap hrow
 have hcell:=hto.cell
 rw [hv,hlc] at hcell
 rw [hlc] at hel
 have hdoc:=hco.doc
 rw [hlc] at hdoc
 exact run_any hA p m n D x s gs c l w hs hx h1.sto hT he hp hc ⟨_,hcell,La,Lc,rfl,hl,hcp.1,hcp.2,hel,fun i hi=>(hdoc i hi).1⟩ hto.low
end Go.Proofs.YtknakfpciccoaabGreatDoor
/- The walk of filled. -/
namespace Go.Proofs.YtknakfpciccoaabGreatDoor
open Go.RowKit
set_option maxHeartbeats 8000000 in
set_option maxRecDepth 100000 in
theorem filled_any {Tb:World→Prop} (hA:StoreSaid Tb) (v:Value) (n:Nat) (w:World) (hv:RawAt w v n) (hT:Tb w) :
  Calls Tryz.prog 7 #[v] w fun e w'=>∃ p l,e=.returned (.tuple #[.pointer (some ⟨p,0,none⟩),.int .i64 (l.length:Nat)])∧Below w.heap.size w w'∧DocsOf l∧l.length≤30∧StP w.heap.size w' p 2 (two (some l) (some l)):=by
 obtain ⟨A,cp,rfl,hn,hr⟩:=hv
 have HR:=hid hr
 have HA:=hid hA
 have HN:=hid (new_any w)
 have HT:Hid (∀ w':World,Below w.heap.size w w'→Tb w'):=fun w' hb=>hA.lies w hT w w' hT hb
 have HD:Hid (∀ (id c d:Int) (w:World),0≤id→id<30→-9223372036854775808≤c→c≤9223372036854775807→-9223372036854775808≤d→d≤9223372036854775807→Tb w→Calls Tryz.prog 20 #[.int .i64 id,.int .i64 c,.int .i64 d] w fun e w'=>Below w.heap.size w w'∧∃ i o,i<36∧(∀ j,o=some j→j<36)∧e=.returned (.string (docS id i o))):=fun id c d w h1 h2 h3 h4 h5 h6 h7=>document_any hA.itoa hA.lies id c d w h1 h2 h3 h4 h5 h6 h7
 have HS0:=hid (StP.new w)
 have HB0:Hid (Below w.heap.size w ((w.alloc (.map #[] 0)).alloc (.cells #[.map (some w.heap.size)] 76))):=((Below.refl _ _).alloc (Nat.le_refl _) _).alloc (by simp) _
 clear hr hA hT
 go_enter Tryz.func7,Tryz.ntmps7
 go_wp2_with fail
 refine HN.out.mono ?_
 rintro e w1 ⟨rfl,rfl⟩
 generalize (w.alloc (.map #[] 0)).alloc (.cells #[.map (some w.heap.size)] 76)=w1 at HS0 HB0 ⊢
 generalize w.heap.size+1=p at HS0 ⊢
 have HC1:=hid (create_st HS0.out nX (by decide) (by omega) (by kernel_rfl) rfl)
 clear HN
 go_wp2_with fail
 refine HC1.out.mono ?_
 rintro e w2 ⟨rfl,b2,s2⟩
 have HB2:=hid (HB0.out.trans b2)
 have HC2:=hid (create_st s2 nY (by decide) (by omega) (by kernel_rfl) rfl)
 clear HC1 b2 s2 HS0 HB0
 go_wp2_with fail
 refine HC2.out.mono ?_
 rintro e w3 ⟨rfl,b3,s3⟩
 rw [one_two] at s3
 have HB3:=hid (HB2.out.trans b3)
 have HS3:=hid s3
 clear HC2 b3 s3 HB2
 go_wp2_with fail
 go_loopg [7,8] 30 (fun g a i wr=>∃ (k q:Nat),g=30 - k∧k≤30∧Hid (q=2*k)∧a=.int .i64 k∧i=.int .i64 q∧Hid (Below w.heap.size w wr)∧Hid (∃ l:List T,l.length=k∧DocsOf l∧StP w.heap.size wr p 2 (two (some l) (some l))))
 case atStart=>exact ⟨0,0,rfl,Nat.zero_le _,rfl,rfl,rfl,HB3,[],rfl,DocsOf.nil,HS3.out⟩
 case round =>
  clear HS3 HB3
  obtain ⟨k,q,rfl,hk,HQ,rfl,rfl,HB,HL⟩:=hrel
  have hq:=HQ.out
  by_cases hlt:q+1<n∧k<30
  ·obtain ⟨h1,h2⟩:=hlt
   obtain ⟨b,o,z,hAe,hbl,c1,z0,z1⟩:=HR.out q (by omega)
   obtain ⟨b',o',z',hAe',_,c2,z0',z1'⟩:=HR.out (q+1) (by omega)
   subst hAe
   simp only [Option.some.injEq,Addr.mk.injEq,and_true] at hAe'
   obtain ⟨rfl,rfl⟩:=hAe'
   have HSw:Hid (∀ w5:World,Below wr.heap.size wr w5→(w5.cell? ⟨b,o+q,none⟩=some (.int .i64 z)∧w5.cell? ⟨b,o+(q+1),none⟩=some (.int .i64 z'))):=by
    intro w5 hh
    have hbw:b<wr.heap.size:=Nat.lt_of_lt_of_le hbl HB.out.size
    exact ⟨(hh.cell (p:=⟨b,_,none⟩) hbw).trans ((HB.out.cell (p:=⟨b,_,none⟩) hbl).trans c1),(hh.cell (p:=⟨b,_,none⟩) hbw).trans ((HB.out.cell (p:=⟨b,_,none⟩) hbl).trans c2)⟩
   have HSd:=hid (HSw.out wr.drew (below_drew wr))
   have HDk:Hid (∀ w5:World,Below wr.heap.size wr w5→Calls Tryz.prog 20 #[.int .i64 (k:Nat),.int .i64 z,.int .i64 z'] w5 fun e w'=>Below w5.heap.size w5 w'∧∃ i o,i<36∧(∀ j,o=some j→j<36)∧e=.returned (.string (docS (k:Nat) i o))):=fun w5 hh=>HD.out k z z' w5 (by omega) (by omega) z0 z1 z0' z1' (HT.out _ (HB.out.trans (hh.mono HB.out.size)))
   have x1:(q:Int)+1<(n:Int):=by omega
   have x2:(k:Int)<30:=by omega
   have hw1:IntKind.i64.wrap ((q:Int)+1)=(q:Int)+1:=by rw [IntKind.wrap_i64];omega
   have y1:(q:Int)<(n:Int):=by omega
   have y2:(0:Int)≤(q:Int)+1:=by omega
   have y3:((q:Int)+1).toNat=q+1:=by omega
   have HX:=hid (And.intro h1 h2)
   clear c1 c2 z0 z1 z0' z1' h1 h2 hq hbl
   go_wp2_with fail
   go_region_held3 (fun wx=>wx.cell? ⟨b,o+q,none⟩=some (.int .i64 z)∧wx.cell? ⟨b,o+(q+1),none⟩=some (.int .i64 z')) (first | exact hc5 | exact HSd.out) ((go_at_call 20;refine (HDk.out _ (below_drew wr)).mono ?_;rintro e5 w5 ⟨hb5,di,dq,hdi,hdq,rfl⟩;have hc5:=HSw.out _ ((below_drew wr).trans hb5)))
   have HB5:=hid (HB.out.trans (((below_drew wr).trans hb5).mono HB.out.size))
   have hkq:(k:Int)<30:=x2
   obtain ⟨l,hll,hdo,hst⟩:=HL.out
   have HDo:=hid hdo
   have Hll:=hid hll
   have hz:=docS_size (id:=(k:Int)) (by omega) (by omega) hdi hdq
   have HPa:=hid (doc_parse (id:=(k:Int)) (by omega) (by omega) hdi hdq)
   have HIn:=hid (doc_in (id:=(k:Int)) (by omega) (by omega) hdi hdq)
   have HDi:=hid (And.intro hdi hdq)
   generalize docS (k:Int) di dq=sd at *
   have HS1:=hid (hst.keep ((below_drew wr).trans hb5))
   have HFr:Hid (anyL (sameId (idT (tJ sd))) (mkT 5 0 ByteArray.empty l []) l.length=false):=by show _=_;rw [HPa.out.2,← hll];exact hdo.fresh di dq
   have HI1:=hid (insert_st HA.out HS1.out nX sd l (by decide) (by omega) (two_x _ _) HIn.out HFr.out (by omega) (HT.out _ HB5.out))
   clear hb5 hc5 HSw HSd HDk hdo hst hll hdi hdq HL x1 y1 y2 y3 hw1 HB
   go_wp2_with fail
   refine HI1.out.mono ?_
   rintro e6 w6 ⟨rfl,b6,s6⟩
   rw [two_setx] at s6
   have HB6:=hid (HB5.out.trans b6)
   have HI2:=hid (insert_st HA.out s6 nY sd l (by decide) (by omega) (two_y _ _) HIn.out HFr.out (by have:=Hll.out;omega) (HT.out _ HB6.out))
   clear b6 s6 HI1 HS1 HB5
   go_wp2_with fail
   refine HI2.out.mono ?_
   rintro e7 w7 ⟨rfl,b7,s7⟩
   rw [two_sety] at s7
   have HB7:=hid (HB6.out.trans b7)
   have HS7:=hid s7
   clear b7 s7 HI2 HB6
   have hq2:(q:Int)+2<9223372036854775807:=by have:=HX.out;omega
   go_wp2_with fail
   go_roundg (30 - (k+1))
   case rel =>
    refine ⟨k+1,q+2,rfl,by omega,(by show _=_;have:=HQ.out;omega),by go_num,by go_num,HB7,l++[tJ sd],by rw [List.length_append,Hll.out];rfl,?_,HS7.out⟩
    rw [HPa.out.2,← Hll.out]
    exact HDo.out.snoc HDi.out.1 HDi.out.2
   case measure=>omega
  ·obtain ⟨l,hll,hdo,hst⟩:=HL.out
   have Hll:=hid hll
   have HDo:=hid hdo
   have HSt:=hid hst
   have Hlen:=hid hk
   have HF1:=hid (find_st HA.out hst nX allS l (by decide) (by decide) (two_x _ _) (by omega) allS_e allS_ok (HT.out _ HB.out))
   rw [all_filter,hll] at HF1
   clear hdo hst HL HD HR hll
   have hw1:IntKind.i64.wrap ((q:Int)+1)=(q:Int)+1:=by rw [IntKind.wrap_i64];omega
   by_cases x1:q+1<n
   ·have x1':(q:Int)+1<(n:Int):=by omega
    obtain rfl:k=30:=by omega
    clear hlt hq x1
    go_wp2_with fail
    refine HF1.out.mono ?_
    rintro e8 w8 ⟨b8,A8,c8,rfl,_⟩
    have HB8:=hid (HB.out.trans (b8.mono HB.out.size))
    have HS8:=hid (HSt.out.keep b8)
    have HF2:=hid (find_none HA.out HS8.out ⟨#[122]⟩ allS (by decide) (by decide) (two_none _ _ (by decide) (by decide)) allS_e allS_ok (HT.out _ HB8.out))
    clear b8 HF1
    go_wp2_with fail
    refine HF2.out.mono ?_
    rintro e9 w9 ⟨b9,rfl⟩
    have HB9:=hid (HB8.out.trans (b9.mono HB8.out.size))
    have HS9:=hid (HS8.out.keep b9)
    clear b9 HF2
    go_wp2_with fail
    refine bodyPost_ret (v:=.tuple #[.pointer (some ⟨p,0,none⟩),.int .i64 ((30:Nat):Int)]) (by simp [results,Tryz.results7,go_sem, *]) rfl ?_
    exact ⟨p,l,by rw [Hll.out],HB9.out,HDo.out,by rw [Hll.out];exact Hlen.out,HS9.out⟩
   ·have x1':¬ ((q:Int)+1<(n:Int)):=by omega
    clear hlt hq x1
    go_wp2_with fail
    refine HF1.out.mono ?_
    rintro e8 w8 ⟨b8,A8,c8,rfl,_⟩
    have HB8:=hid (HB.out.trans (b8.mono HB.out.size))
    have HS8:=hid (HSt.out.keep b8)
    have HF2:=hid (find_none HA.out HS8.out ⟨#[122]⟩ allS (by decide) (by decide) (two_none _ _ (by decide) (by decide)) allS_e allS_ok (HT.out _ HB8.out))
    clear b8 HF1
    go_wp2_with fail
    refine HF2.out.mono ?_
    rintro e9 w9 ⟨b9,rfl⟩
    have HB9:=hid (HB8.out.trans (b9.mono HB8.out.size))
    have HS9:=hid (HS8.out.keep b9)
    clear b9 HF2
    go_wp2_with fail
    refine bodyPost_ret (v:=.tuple #[.pointer (some ⟨p,0,none⟩),.int .i64 (k:Nat)]) (by simp [results,Tryz.results7,go_sem, *]) rfl ?_
    exact ⟨p,l,by rw [Hll.out],HB9.out,HDo.out,by rw [Hll.out];exact Hlen.out,HS9.out⟩
end Go.Proofs.YtknakfpciccoaabGreatDoor
/- The walk of Summed. -/
namespace Go.Proofs.YtknakfpciccoaabGreatDoor
open Go.RowKit
theorem elem_n {w:World} {f:Nat} {La:Option Addr} {t:T} (h:ElemsAt w f La t) {i:Nat} (hi:i<nL t) {x:T} (hx:elt t i=x):∃ b o,La=some ⟨b,o,none⟩∧b<w.heap.size∧w.cell? ⟨b,o+i*5+1,none⟩=some (.int .i64 (nOf x)):=by
 obtain ⟨bb,oo,A,B,C,D,h0,hbl,p0,p1,p2,p3,p4,Ha⟩:=h.shape (Below.refl _ _) i hi
 exact ⟨bb,oo,h0,hbl,by rw [← hx];exact p1⟩
end Go.Proofs.YtknakfpciccoaabGreatDoor
/- sameTexts of the statements. -/
namespace Go.Proofs.YtknakfpciccoaabGreatDoor
open Go.RowKit
def TyAt (w:World) (v:Value) (l:List ByteArray):Prop:=∃ A c,v=.slice A l.length c∧l.length≤1000000∧∀ i,(h:i<l.length)→∃ b o,A=some ⟨b,o,none⟩∧b<w.heap.size∧w.cell? ⟨b,o+i,none⟩=some (.string l[i])
theorem TyAt.keep {w w':World} {v:Value} {l:List ByteArray} (h:TyAt w v l) (hb:Below w.heap.size w w'):TyAt w' v l:=by
 obtain ⟨A,c,hv,hn,h⟩:=h
 refine ⟨A,c,hv,hn,fun i hi=>?_⟩
 obtain ⟨b,o,h0,hl,q⟩:=h i hi
 exact ⟨b,o,h0,Nat.lt_of_lt_of_le hl hb.size,(hb.cell (p:=⟨b,_,none⟩) hl).trans q⟩
theorem TyAt.of_row {w:World} {lo:Nat} {A:Option Addr} {c:Nat} {l:List T} (h:w.ownsRow lo 9 1 (.slice A l.length c) l.length (l.map fun t=>.string (prT t))) (hn:l.length≤1000000):TyAt w (.slice A l.length c) (l.map prT):=by
 refine ⟨A,c,by rw [List.length_map],by rw [List.length_map];exact hn,fun i hi=>?_⟩
 rw [List.length_map] at hi
 rcases h.2 with ⟨h',h0⟩ | ⟨g',cap',cur,h',_⟩
 ·omega
 ·simp only [Value.slice.injEq,true_and] at h'
  obtain ⟨rfl,rfl⟩:=h'
  refine ⟨g',0,rfl,(h.lt g' rfl).2,?_⟩
  rw [Nat.zero_add,h.cellAt i (by omega)]
  simp [hi]
set_option maxHeartbeats 4000000 in
set_option maxRecDepth 100000 in
theorem sameTextsY_eq (l:List ByteArray) (va vb:Value) (w:World) (ha:TyAt w va l) (hb:TyAt w vb l) :
  Calls Tryz.prog 13 #[va,vb] w fun e w'=>e=.returned (.bool true)∧Below w.heap.size w w':=by
 obtain ⟨A,c,rfl,hn,Ha⟩:=ha
 obtain ⟨B,d,rfl,_,Hb⟩:=hb
 have HA:=hid Ha
 have HB:=hid Hb
 have Hlen:Hid (∀ k,k<l.length→∃ h:k<l.length,True):=fun k h=>⟨h,trivial⟩
 obtain ⟨n,hl⟩:∃ n,l.length=n:=⟨_,rfl⟩
 have Hl:=hid hl
 rw [hl] at hn ⊢
 clear Ha Hb hl
 go_enter Tryz.func13,Tryz.ntmps13
 go_wp2_with fail
 go_loopg [5] n (fun g i wr=>∃ k:Nat,g=n - k∧k≤n∧i=.int .i64 k∧Hid (Below w.heap.size w wr))
 case atStart=>exact ⟨0,rfl,Nat.zero_le _,rfl,Below.refl _ _⟩
 case round =>
  obtain ⟨k,rfl,hk,rfl,HW⟩:=hrel
  by_cases hlt:k<n
  ·have hkl:k<l.length:=by rw [Hl.out];exact hlt
   obtain ⟨ba,oa,rfl,hba,p0⟩:=HA.out k hkl
   obtain ⟨bb,ob,rfl,hbb,r0⟩:=HB.out k hkl
   generalize l[k]=s at p0 r0
   have n0:=(HW.out.cell (p:=⟨ba,_,none⟩) hba).trans p0
   have m0:=(HW.out.cell (p:=⟨bb,_,none⟩) hbb).trans r0
   have x3:(k:Int)<(n:Int):=by omega
   clear p0 r0
   go_wp2_with fail
   go_quiet (fail)
   go_wp2_with fail
   go_roundg (n - (k+1))
   case rel=>exact ⟨k+1,rfl,by omega,by go_num,below_drewN HW.out _⟩
   case measure=>omega
  ·have x3:¬ (k:Int)<(n:Int):=by omega
   go_wp2_with fail
   go_ret
   exact ⟨rfl,HW.out⟩
end Go.Proofs.YtknakfpciccoaabGreatDoor
/- What the pipelines of Sorted make, without the program. -/
namespace Go.Proofs.YtknakfpciccoaabGreatDoor
open Go.RowKit
def kO (v:T):T:=mkT 6 0 ByteArray.empty [v] [⟨#[107]⟩]
theorem kO_good {v:T} (hv:Sm v):Good 12 (kO v):=by
 refine .inr ⟨rfl,noText_mk _ _ _ _,fun i hi=>?_,.inr ⟨rfl,rfl,by kernel_rfl,by kernel_rfl⟩⟩
 have hi':i<1:=hi
 obtain rfl:i=0:=by omega
 exact hv.good
theorem kO_bytes {v:T} (hv:Sm v):bytesT 12 (kO v)≤200:=by
 have e:bytesT 12 (kO v)=5+sumK (kO v) 1+(0+bytesT 11 v):=rfl
 have k:sumK (kO v) 1≤50:=by
  have:sumK (kO v) 1=sumK (kO nullT) 1:=rfl
  rw [this];decide
 have:=hv.bytes
 rw [e]
 omega
theorem kO_isV {v:T} (hv:Sm v):isV (kO v)=true:=(isV_iff _).2 ⟨kO_good hv,by have:=kO_bytes hv;omega⟩
theorem kO_small {v:T} (hv:Sm v):tooBig (kO v)=false:=by
 unfold tooBig
 rw [kO_isV hv]
 have h1:=encT_len 12 _ (kO_good hv)
 have h2:=kO_bytes hv
 have h3:(encS true (encT 12 (kO v))).size=(encT 12 (kO v)).length:=baL_size _
 rw [h3]
 simp
 omega
theorem kO_fit {v:T} (hv:Sm v):FitT 5 (kO v):=by
 refine ⟨⟨by show (-9223372036854775808:Int)≤6;omega,by show (6:Int)≤9223372036854775807;omega,by show (-9223372036854775808:Int)≤0;omega,by show (0:Int)≤9223372036854775807;omega,by show (0:Nat)≤_;omega,by show (1:Nat)≤_;omega,by show (1:Nat)≤_;omega⟩,fun i hi=>?_,fun i hi=>?_⟩
 ·have hi':i<1:=hi
  obtain rfl:i=0:=by omega
  exact hv.fit
 ·have hi':i<1:=hi
  obtain rfl:i=0:=by omega
  show (1:Nat)≤_
  omega
theorem kO_can {v:T} (hv:Sm v):canT 12 (kO v)=kO v:=by
 show mkT 6 0 ByteArray.empty [canT 11 v] [⟨#[107]⟩]=_
 rw [hv.can]
 rfl
theorem kO_wr {v:T} (hv:Sm v):(wrT 12 (kO v)).length≤2000:=by
 have e:wrT 12 (kO v)=123::(([]++([]++(quoL ⟨#[107]⟩++(58::wrT 11 v))))++[125]):=rfl
 have h1:=hv.wr
 have h2:(quoL ⟨#[107]⟩).length=3:=by kernel_rfl
 rw [e]
 simp only [List.length_cons,List.length_append,List.length_nil]
 omega
theorem kO_parse {v:T} (hv:Sm v):eJ (prT (kO v))=0∧tJ (prT (kO v))=kO v∧(prT (kO v)).size≤2000:=by
 have hw:=kO_wr hv
 have hp:=parse_tree (kO_fit hv) (kO_good hv) (by omega)
 rw [kO_can hv] at hp
 have e:prT (kO v)=baL (wrT 12 (kO v)):=by
  unfold prT
  rw [kO_isV hv]
  rfl
 rw [e]
 exact ⟨hp.1,hp.2,by rw [baL_size];exact hw⟩
theorem kO_cmp (a b:T):cmpT 13 (kO a) (kO b)=cmpT 12 a b:=by
 have hn:cmpS (nam (kO a) 0) (nam (kO b) 0)=0:=by
  show cmpS ⟨#[107]⟩ ⟨#[107]⟩=0
  kernel_rfl
 have h1:ordL (cmpT 12) (kO a) (kO b) 1=cmpT 12 a b:=by
  rw [ordL_step (by rfl),if_neg (fun h=>h.2 hn)]
  rfl
 have h2:cmpT 13 (kO a) (kO b)=ordE (cmpT 12) (kO a) (kO b):=by
  rw [cmpT]
  rw [if_neg (by simp [kO,kindOf_mk]),if_neg (by simp [kO,kindOf_mk]),if_neg (by simp [kO,kindOf_mk]),if_pos (by rfl)]
 rw [h2,ordE]
 have h3:min (nL (kO a)) (nL (kO b))=1:=rfl
 rw [h3,h1]
 have h4:cmpI (nL (kO a)) (nL (kO b))=0:=rfl
 rw [h4]
 split
 ·rfl
 ·rename_i h
  simp only [ne_eq,Decidable.not_not] at h
  exact h.symm
theorem doc_text {d:T} (h:IsDoc d):eJ (prT d)=0∧tJ (prT d)=d∧(prT d).size≤2000:=by
 obtain ⟨id,i,o,h0,h1,h2,h3,rfl⟩:=h
 have e:prT (docT id i o)=docS id i o:=by
  unfold prT
  rw [docT_isV h2 h3,docS_wr h2 h3]
  rfl
 rw [e]
 have:=doc_parse h0 h1 h2 h3
 exact ⟨this.1,this.2,by have:=docS_size h0 h1 h2 h3;omega⟩
theorem doc_key {k:Nat} (hk:k<6) {d:T} (h:IsDoc d):Sm (orNull (pthP k) d):=by
 obtain ⟨id,i,o,h0,h1,h2,h3,rfl⟩:=h
 exact by_sm hk h0 h1 h2 h3
theorem prj_docs {k:Nat} (hk:k<6):∀ (l:List T) (j:Nat) (s:List T),(∀ d ∈ l,IsDoc d)→eachE (prjE [keyE k] [⟨#[107]⟩]) l j s=.inr (s++l.map fun d=>kO (orNull (pthP k) d))
 | [],j,s,_=>by simp [eachE]
 | d::r,j,s,h=>by
  have e:prjE [keyE k] [⟨#[107]⟩] s d=.inr (s++[kO (orNull (pthP k) d)]):=by
   have e1:evL [keyE k] d=.inr [orNull (pthP k) d]:=rfl
   have e2:tooBig (mkT 6 0 ByteArray.empty [orNull (pthP k) d] [⟨#[107]⟩])=false:=kO_small (doc_key hk (h d (by simp)))
   unfold prjE
   rw [e1]
   dsimp only
   rw [e2]
   rfl
  rw [eachE,e]
  dsimp only
  rw [prj_docs hk r (j+1) _ fun x hx=>h x (by simp [hx])]
  simp
theorem sort_all {k:Nat} (hk:k<6) {l:List T} (h:DocsOf l) (hl:l.length≤30):∃ sl:List T,sl.length=l.length∧(∀ d ∈ sl,IsDoc d)∧sl.Pairwise (ltD k)∧pipE [srtS [(pthP k,1)]] l 0=.inr sl∧pipE (so3G k) l 0=.inr (sl.map fun d=>kO (orNull (pthP k) d))∧∀ a b fr tz:Nat,fr=min a l.length→tz=min (fr+b) l.length→pipE [srtS [(pthP k,1)],skpS a,limS b] l 0=.inr ((sl.drop fr).take (tz - fr)):=by
 obtain ⟨h1,h2,h3⟩:=sorted_docs hk h hl
 refine ⟨_,h1,h2,h3,rfl,?_,fun a b fr tz hf ht=>?_⟩
 ·show pipE [prjS [keyE k] [⟨#[107]⟩]] (sortL (cmpO [(pthP k,1)]) l.length l) 1=_
  rw [pipE,prjS,prj_docs hk _ 0 [] h2]
  rfl
 ·show pipE [skpS a,limS b] (sortL (cmpO [(pthP k,1)]) l.length l) 1=_
  generalize sortL (cmpO [(pthP k,1)]) l.length l=sl at *
  show pipE [limS b] (sl.drop (cntOf a sl.length)) 2=_
  show Sum.inr ((sl.drop (cntOf a sl.length)).take (cntOf b (sl.drop (cntOf a sl.length)).length))=_
  have e1:cntOf a sl.length=fr:=by unfold cntOf;rw [h1];split<;>omega
  have e2:cntOf b (sl.drop fr).length=tz - fr:=by unfold cntOf;rw [List.length_drop,h1];split<;>omega
  rw [e1,e2]
theorem TyAt.sub {w:World} {b o n c:Nat} {l:List ByteArray} (h:TyAt w (.slice (some ⟨b,o,none⟩) n c) l) {fr tz o' c':Nat} (hft:fr≤tz) (ht:tz≤n) (ho:fr<tz→o'=o+fr):TyAt w (.slice (some ⟨b,o',none⟩) (tz - fr) c') ((l.drop fr).take (tz - fr)):=by
 obtain ⟨A,c2,hv,hn,h⟩:=h
 simp only [Value.slice.injEq] at hv
 obtain ⟨rfl,rfl,rfl⟩:=hv
 have hl:((l.drop fr).take (tz - fr)).length=tz - fr:=by rw [List.length_take,List.length_drop];omega
 refine ⟨_,c',by rw [hl],by rw [hl];omega,fun i hi=>?_⟩
 rw [hl] at hi
 obtain ⟨b',o2,e,hb,hc⟩:=h (fr+i) (by omega)
 simp only [Option.some.injEq,Addr.mk.injEq,and_true] at e
 obtain ⟨rfl,rfl⟩:=e
 refine ⟨b,o',rfl,hb,?_⟩
 rw [ho (by omega),List.getElem_take,List.getElem_drop,show o+fr+i=o+(fr+i) by omega]
 exact hc
theorem parseD {Tb:World→Prop} (hA:StoreSaid Tb) {d:T} (hd:IsDoc d) {w:World} (hT:Tb w) :
  Calls Tryz.prog 14 #[.string (prT d)] w fun e w'=>Below w.heap.size w w'∧∃ eb eo m Lc Ka Kc,e=.returned (.tuple #[.agg #[.int .i64 6,.int .i64 0,.string ByteArray.empty,.slice (some ⟨eb,eo,none⟩) m Lc,.slice Ka m Kc],.int .i64 0])∧0<m∧eb<w'.heap.size∧w'.cell? ⟨eb,eo+1,none⟩=some (.int .i64 (idD d)):=by
 obtain ⟨p1,p2,p3⟩:=doc_text hd
 refine (parse_ok hA.dec hA.int hA.lies (prT d) w (by omega) hT p1).mono ?_
 rintro e w' ⟨hb,A,B,C,D',rfl,ha⟩
 rw [p2] at ha ⊢
 obtain ⟨id,i,o,h0,h1,h2,h3,rfl⟩:=hd
 obtain ⟨g1,La,Ka,Lc,Kc,_,hx,_,hel,_⟩:=ha.open
 simp only [Value.agg.injEq,Array.mk.injEq,List.cons.injEq,Value.slice.injEq,and_true,true_and] at hx
 obtain ⟨⟨rfl,rfl⟩,rfl,rfl⟩:=hx
 have hn:0<nL (docT id i o):=by cases o<;>exact Nat.succ_pos _
 obtain ⟨b,oo,rfl,hbl,hc⟩:=elem_n hel.out hn rfl
 rw [show oo+0*5+1=oo+1 by omega] at hc
 have hK:nK (docT id i o)=nL (docT id i o):=by cases o<;>rfl
 have e1:kindOf (docT id i o)=6:=by cases o<;>rfl
 have e2:nOf (docT id i o)=0:=by cases o<;>rfl
 have e3:sOf (docT id i o)=ByteArray.empty:=by cases o<;>rfl
 refine ⟨hb,b,oo,nL (docT id i o),B,C,D',?_,hn,hbl,hc⟩
 rw [e1,e2,e3,hK]
theorem parseK {Tb:World→Prop} (hA:StoreSaid Tb) {v:T} (hv:Sm v) {w:World} (hT:Tb w) :
  Calls Tryz.prog 14 #[.string (prT (kO v))] w fun e w'=>Below w.heap.size w w'∧∃ A B C D,e=.returned (.tuple #[.agg #[.int .i64 6,.int .i64 0,.string ByteArray.empty,.slice A 1 B,.slice C 1 D],.int .i64 0])∧At w' 13 (.agg #[.int .i64 6,.int .i64 0,.string ByteArray.empty,.slice A 1 B,.slice C 1 D]) (kO v):=by
 obtain ⟨p1,p2,p3⟩:=kO_parse hv
 refine (parse_ok hA.dec hA.int hA.lies (prT (kO v)) w (by omega) hT p1).mono ?_
 rintro e w' ⟨hb,A,B,C,D',rfl,ha⟩
 rw [p2] at ha ⊢
 exact ⟨hb,A,B,C,D',rfl,ha⟩
end Go.Proofs.YtknakfpciccoaabGreatDoor
