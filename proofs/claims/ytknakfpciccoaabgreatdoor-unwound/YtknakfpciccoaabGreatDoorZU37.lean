import Derived.Test.YtknakfpciccoaabGreatDoorZU36
/- Unwound: the walk. -/
namespace Go.Proofs.YtknakfpciccoaabGreatDoor
open Go.RowKit
theorem unA_app : (⟨([91,123,34,36,109,97,116,99,104,34,58,123,34,97,34,58,123,34,36,107,105,110,100,34,58,53,125,125,125,44,123,34,36,117,110,119,105,110,100,34,58,34,97,34,125,44,123,34,36].append [103,114,111,117,112,34,58,123,34,98,121,34,58,34,36,95,105,100,34,44,34,109,97,107,101,34,58,123,34,97,34,58,123,34,36,108,105,115,116,34,58,34,36,97,34,125,125,125,125,93]).toArray⟩ : ByteArray)=unA:=by kernel_rfl
theorem unB_app : (⟨([91,123,34,36,109,97,116,99,104,34,58,123,34,97,34,58,123,34,36,107,105,110,100,34,58,53,44,34,36,110,101,34,58,91,93,125,125,125].append [44,123,34,36,112,114,111,106,101,99,116,34,58,123,34,95,105,100,34,58,34,36,95,105,100,34,44,34,97,34,58,34,36,97,34,125,125,93]).toArray⟩ : ByteArray)=unB:=by kernel_rfl
set_option maxHeartbeats 8000000 in
set_option maxRecDepth 100000 in
theorem Unwound_any {Tb : World→Prop} (hA : StoreSaid Tb) (v : Value) (n : Nat) (w : World) (hv : RawAt w v n) (hT : Tb w) :
  Calls Tryz.prog 6 #[v] w fun e w'=>e=.returned (.bool true)∧Below w.heap.size w w':=by
 have HFi:=hid (filled_any hA v n w hv hT)
 have HT : Hid (∀ w' : World,Below w.heap.size w w'→Tb w'):=fun w' hb=>hA.lies w hT w w' hT hb
 have HA:=hid hA
 clear hv hT hA
 go_enter Tryz.func6,Tryz.ntmps6
 go_wp2_with fail
 refine HFi.out.mono ?_
 rintro e w1 ⟨p,l,rfl,b1,hdo,hl,hst⟩
 have HB1:=hid b1
 obtain ⟨R,hR,hRa,hRb⟩:=un_same hdo hl
 have HRun : Hid (∀ (s : ByteArray) (t : T) (gs : List StgF) (w2 : World),Below w1.heap.size w1 w2→s.size≤1000→tJ s=t∧eJ s=0→PpSaid Tb t gs→pipE gs l 0=.inr R→Calls Tryz.prog 10 #[.pointer (some ⟨p,0,none⟩),.string nX,.string s] w2 fun e w'=>Below w2.heap.size w2 w'∧∃ A c,e=.returned (.tuple #[.slice A R.length c,.int .i64 0,.int .i64 0,.int .i64 0])∧TyAt w' (.slice A R.length c) (R.map prT)):=by
  intro s t gs w2 hb hs ⟨h1,h2⟩ hp hpe
  subst h1
  refine (run_st HA.out (hst.keep hb) nX s l gs (by decide) (by omega) (two_x _ _) (by omega) h2 hp (HT.out _ (b1.trans (hb.mono b1.size)))).mono ?_
  rintro e w' ⟨h3,⟨i,kk,x,sv,h4,_⟩ | ⟨r,sv,h4,rfl,h5,h6⟩⟩
  ·rw [hpe] at h4; cases h4
  ·rw [hpe] at h4
   simp only [Sum.inr.injEq] at h4
   subst h4
   obtain ⟨A,c,rfl⟩:=row_slice h5
   exact ⟨h3,A,c,rfl,TyAt.of_row h5 h6⟩
 have HR1 : Hid (∀ w2 : World,Below w1.heap.size w1 w2→_):=fun w2 hb=>HRun.out unA unTA _ w2 hb (by decide) unA_at (unA_read HA.out) hRa
 have HR2 : Hid (∀ w2 : World,Below w1.heap.size w1 w2→_):=fun w2 hb=>HRun.out unB unTB _ w2 hb (by decide) unB_at (unB_read HA.out) hRb
 have HF : Hid (∀ w2 : World,Below w1.heap.size w1 w2→Calls Tryz.prog 17 #[.pointer (some ⟨p,0,none⟩),.string nX,.string allS] w2 fun e w'=>Below w2.heap.size w2 w'∧∃ A c,e=.returned (.tuple #[.slice A l.length c,.int .i64 0])):=by
  intro w2 hb
  refine (find_st HA.out (hst.keep hb) nX allS l (by decide) (by decide) (two_x _ _) (by omega) allS_e allS_ok (HT.out _ (b1.trans (hb.mono b1.size)))).mono ?_
  rintro e w' ⟨h3,A,c,rfl,_⟩
  rw [all_filter]
  exact ⟨h3,A,c,rfl⟩
 rw [← unA_app] at HR1
 rw [← unB_app] at HR2
 have hRn : R.length≤1000000:=by omega
 generalize R.length=rn at HR1 HR2 hRn
 obtain ⟨ln,hln⟩ : ∃ ln,l.length=ln:=⟨_,rfl⟩
 rw [hln] at HF hl ⊢
 clear hst hdo b1 HFi hRa hRb hR HRun hln
 go_wp2_with fail
 refine (HR1.out _ (Below.refl _ _)).mono ?_
 rintro e w2 ⟨b2,A1,c1,rfl,ht1⟩
 have HB2:=hid b2
 have HT1:=hid ht1
 clear b2 ht1 HR1
 go_wp2_with fail
 refine (HR2.out _ HB2.out).mono ?_
 rintro e w3 ⟨b3,A2,c2,rfl,ht2⟩
 have HB3:=hid (HB2.out.trans (b3.mono HB2.out.size))
 have HT1b:=hid (HT1.out.keep b3)
 have HT2:=hid ht2
 clear b3 ht2 HR2 HT1
 go_wp2_with fail
 refine (HF.out _ HB3.out).mono ?_
 rintro e w4 ⟨b4,A3,c3,rfl⟩
 have HB4:=hid (HB3.out.trans (b4.mono HB3.out.size))
 have HS:=hid (sameTextsY_eq _ _ _ w4 (HT1b.out.keep b4) (HT2.out.keep b4))
 clear b4 HF HT1b HT2
 go_wp2_with fail
 refine HS.out.mono ?_
 rintro e w5 ⟨rfl,b5⟩
 have HB5:=hid ((HB1.out.trans (HB4.out.mono HB1.out.size)).trans (b5.mono (HB1.out.trans (HB4.out.mono HB1.out.size)).size))
 clear b5 HS
 go_wp2_with fail
 go_ret
 exact ⟨rfl,HB5.out⟩
end Go.Proofs.YtknakfpciccoaabGreatDoor
