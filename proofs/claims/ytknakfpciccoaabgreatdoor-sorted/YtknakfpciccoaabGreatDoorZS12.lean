import Derived.Test.YtknakfpciccoaabGreatDoorZS11
import Derived.Lib.Split
/- The walks of tests: allHoldOf, holdsOf of $any, holds. -/
namespace Go.Proofs.YtknakfpciccoaabGreatDoor
open Go.RowKit
def HoldSaid (m:Nat):Prop:=∀ (tv:Value) (ps:List (ByteArray×T)) (f:Nat) (x:Value) (v:T) (there:Bool) (w:World),TestsAt w m tv ps→At w f x v→f≤16→okA v →
  Calls Tryz.prog 263 #[tv,x,.bool there] w fun e w'=>e=.returned (.bool (evA m ps v there))∧Below w.heap.size w w'
set_option maxHeartbeats 4000000 in
set_option maxRecDepth 100000 in
theorem allHoldOf_any (m:Nat) (ih:HoldSaid m) (op:ByteArray) (j:T) (inn:Value) (f:Nat) (x:Value) (v:T) (w:World) (hi:TestsAt w m inn (prs j)) (hv:At w f x v) (hf:f≤16) (kv:okA v) :
  Calls Tryz.prog 269 #[.agg #[.string op,.int .i64 0,.int .i64 0,.string ⟨#[]⟩,.slice none 0 0,.slice none 0 0,inn],x] w fun e w'=>e=.returned (.bool (evA m (prs j) v true))∧Below w.heap.size w w':=by
 obtain ⟨g1,La,Ka,Lc,Kc,hg1,rfl,_,_,_⟩:=hv.open
 have HB:Hid (Below w.heap.size w ((w.alloc (.cells #[.string op,.int .i64 0,.int .i64 0,.string ⟨#[]⟩,.slice none 0 0,.slice none 0 0,inn] 233)).alloc (.cells #[.int .i64 (kindOf v),.int .i64 (nOf v),.string (sOf v),.slice La (nL v) Lc,.slice Ka (nK v) Kc] 36))):=((Below.refl _ _).alloc (Nat.le_refl _) _).alloc (by simp) _
 have HC:=hid (ih inn (prs j) f _ v true ((w.alloc (.cells #[.string op,.int .i64 0,.int .i64 0,.string ⟨#[]⟩,.slice none 0 0,.slice none 0 0,inn] 233)).alloc (.cells #[.int .i64 (kindOf v),.int .i64 (nOf v),.string (sOf v),.slice La (nL v) Lc,.slice Ka (nK v) Kc] 36)) (hi.keep HB.out) (hv.keep HB.out) hf kv)
 clear hi hv ih kv hg1
 generalize evA m (prs j) v true=r at HC
 go_enter Tryz.func269,Tryz.ntmps269
 go_wp2_with fail
 refine HC.out.mono ?_
 rintro e w2 ⟨rfl,b2⟩
 have HB3:=hid (HB.out.trans (b2.mono HB.out.size))
 clear b2
 go_wp2_with fail
 go_ret
 exact ⟨rfl,HB3.out⟩
set_option maxHeartbeats 4000000 in
set_option maxRecDepth 100000 in
theorem holdsOf_inn (m:Nat) (ih:HoldSaid m) (op:ByteArray) (j:T) (inn:Value) (f:Nat) (x:Value) (v:T) (w:World) (gAny:op=opAny) (hi:TestsAt w m inn (prs j)) (hv:At w f x v) (hf:f≤16) (kv:okA v) :
  Calls Tryz.prog 267 #[.agg #[.string op,.int .i64 0,.int .i64 0,.string ⟨#[]⟩,.slice none 0 0,.slice none 0 0,inn],x] w fun e w'=>e=.returned (.bool (evO m (op,j) v))∧Below w.heap.size w w':=by
 obtain ⟨g1,La,Ka,Lc,Kc,hg1,rfl,hfv,hel,_⟩:=hv.open
 have hnl:=hfv.l1
 have HB:Hid (Below w.heap.size w ((w.alloc (.cells #[.string op,.int .i64 0,.int .i64 0,.string ⟨#[]⟩,.slice none 0 0,.slice none 0 0,inn] 233)).alloc (.cells #[.int .i64 (kindOf v),.int .i64 (nOf v),.string (sOf v),.slice La (nL v) Lc,.slice Ka (nK v) Kc] 36))):=((Below.refl _ _).alloc (Nat.le_refl _) _).alloc (by simp) _
 have gEq:¬ op=opEq:=by rw [gAny];decide
 have gIn:¬ op=opIn:=by rw [gAny];decide
 have gSize:¬ op=opSize:=by rw [gAny];decide
 have gKind:¬ op=opKind:=by rw [gAny];decide
 have HR:Hid (evO m (op,j) v=(kindOf v==5&&anyL (fun e=>evA m (prs j) e true) v (nL v))):=by show _=_;unfold evO;rw [if_neg gEq,if_neg gIn,if_neg gSize,if_neg gKind,if_pos gAny];rfl
 have eEq:(op.toList==[36,101,113])=false:=lit_no gEq
 have eIn:(op.toList==[36,105,110])=false:=lit_no gIn
 have eSize:(op.toList==[36,115,105,122,101])=false:=lit_no gSize
 have eKind:(op.toList==[36,107,105,110,100])=false:=lit_no gKind
 have eAny:(op.toList==[36,97,110,121])=true:=lit_is gAny
 have HC:=hid (containsFuncB_any (fun e=>evA m (prs j) e true) 269 (fun _ _=>rfl) (.agg #[.string op,.int .i64 0,.int .i64 0,.string ⟨#[]⟩,.slice none 0 0,.slice none 0 0,inn]) g1 La Lc v ((w.alloc (.cells #[.string op,.int .i64 0,.int .i64 0,.string ⟨#[]⟩,.slice none 0 0,.slice none 0 0,inn] 233)).alloc (.cells #[.int .i64 (kindOf v),.int .i64 (nOf v),.string (sOf v),.slice La (nL v) Lc,.slice Ka (nK v) Kc] 36)) (hel.out.keep HB.out) hfv.l1 (fun k hk wr y hb ha=>allHoldOf_any m ih op j inn g1 y (elt v k) wr (hi.keep (HB.out.trans (hb.mono HB.out.size))) ha (by omega) (kv.elt hk)))
 clear gEq gIn gSize gKind gAny hi hv hel kv ih hfv hg1
 generalize anyL (fun e=>evA m (prs j) e true) v (nL v)=r at HC HR
 cases h5:kindOf v==5 with
 | true =>
  have H5:=hid h5
  go_enter Tryz.func267,Tryz.ntmps267
  go_wp2_with fail
  refine HC.out.mono ?_
  rintro e w2 ⟨rfl,b2⟩
  have HB3:=hid (HB.out.trans (b2.mono HB.out.size))
  clear b2
  go_wp2_with fail
  go_ret
  exact ⟨ret_bool (by rw [HR.out,H5.out];rfl),HB3.out⟩
 | false =>
  have H5:=hid h5
  go_enter Tryz.func267,Tryz.ntmps267
  go_wp2_with fail
  go_ret
  exact ⟨ret_bool (by rw [HR.out,H5.out];rfl),HB.out⟩
theorem evT_other {m:Nat} {op:ByteArray} {j v:T} {there:Bool} (h1:¬ op=opNe) (h2:¬ op=opNin) (h3:¬ op=opNot) (h4:¬ op=opExists):evT (m+1) (op,j) v there=(there&&evO m (op,j) v):=by
 rw [evT,if_neg h1,if_neg h2,if_neg h3,if_neg h4]
 rfl
set_option maxHeartbeats 4000000 in
set_option maxRecDepth 100000 in
theorem holds_leaf (m:Nat) (op:ByteArray) (j:T) (A C:Option Addr) (B D:Nat) (gj f:Nat) (x:Value) (v:T) (there:Bool) (w:World) (hop:¬ isInn op) (hj:At w gj (.agg #[.int .i64 (kindOf j),.int .i64 (nOf j),.string (sOf j),.slice A (nL j) B,.slice C (nK j) D]) j) (hv:At w f x v) (hf:f≤16) (kj:okA j) (kv:okA v) :
  Calls Tryz.prog 265 #[.agg #[.string op,.int .i64 (kindOf j),.int .i64 (nOf j),.string (sOf j),.slice A (nL j) B,.slice C (nK j) D,.slice none 0 0],x,.bool there] w fun e w'=>e=.returned (.bool (evT (m+1) (op,j) v there))∧Below w.heap.size w w':=by
 obtain ⟨g1,La,Ka,Lc,Kc,hg1,rfl,_,_,_⟩:=hv.open
 have HB:Hid (Below w.heap.size w ((w.alloc (.cells #[.string op,.int .i64 (kindOf j),.int .i64 (nOf j),.string (sOf j),.slice A (nL j) B,.slice C (nK j) D,.slice none 0 0] 233)).alloc (.cells #[.int .i64 (kindOf v),.int .i64 (nOf v),.string (sOf v),.slice La (nL v) Lc,.slice Ka (nK v) Kc] 36))):=((Below.refl _ _).alloc (Nat.le_refl _) _).alloc (by simp) _
 have HJ:=hid (hj.keep HB.out)
 have HV:=hid (hv.keep HB.out)
 have HKj:=hid kj
 have HKv:=hid kv
 have HOp:=hid hop
 have gNot:¬ op=opNot:=fun h=>hop (.inl h)
 clear hj hv kj kv hg1 hop
 by_cases gNe:op=opNe
 ·have eNe:(op.toList==[36,110,101])=true:=lit_is gNe
  have HR:Hid (evT (m+1) (op,j) v there=!(there&&eqT v j)):=by show _=_;rw [evT,if_pos gNe]
  have HC:=hid (equal16 HV.out HJ.out hf HKv.out HKj.out)
  generalize eqT v j=r at HC HR
  clear gNe gNot
  cases there with
  | true =>
   go_enter Tryz.func265,Tryz.ntmps265
   go_wp2_with fail
   refine HC.out.mono ?_
   rintro e w2 ⟨rfl,b2⟩
   have HB3:=hid (HB.out.trans (b2.mono HB.out.size))
   clear b2
   go_wp2_with fail
   go_ret
   exact ⟨ret_bool (by rw [HR.out];rfl),HB3.out⟩
  | false =>
   go_enter Tryz.func265,Tryz.ntmps265
   go_wp2_with fail
   go_ret
   exact ⟨ret_bool (by rw [HR.out];rfl),HB.out⟩
 have eNe:(op.toList==[36,110,101])=false:=lit_no gNe
 by_cases gNin:op=opNin
 ·have eNin:(op.toList==[36,110,105,110])=true:=lit_is gNin
  have HR:Hid (evT (m+1) (op,j) v there=!(there&&anyL (eqT v) j (nL j))):=by show _=_;rw [evT,if_neg gNe,if_pos gNin]
  have HC:=hid (among_any op j A C B D gj f _ v ((w.alloc (.cells #[.string op,.int .i64 (kindOf j),.int .i64 (nOf j),.string (sOf j),.slice A (nL j) B,.slice C (nK j) D,.slice none 0 0] 233)).alloc (.cells #[.int .i64 (kindOf v),.int .i64 (nOf v),.string (sOf v),.slice La (nL v) Lc,.slice Ka (nK v) Kc] 36)) HJ.out HV.out hf HKj.out HKv.out)
  generalize anyL (eqT v) j (nL j)=r at HC HR
  clear gNe gNot gNin
  cases there with
  | true =>
   go_enter Tryz.func265,Tryz.ntmps265
   go_wp2_with fail
   refine HC.out.mono ?_
   rintro e w2 ⟨rfl,b2⟩
   have HB3:=hid (HB.out.trans (b2.mono HB.out.size))
   clear b2
   go_wp2_with fail
   go_ret
   exact ⟨ret_bool (by rw [HR.out];rfl),HB3.out⟩
  | false =>
   go_enter Tryz.func265,Tryz.ntmps265
   go_wp2_with fail
   go_ret
   exact ⟨ret_bool (by rw [HR.out];rfl),HB.out⟩
 have eNin:(op.toList==[36,110,105,110])=false:=lit_no gNin
 have eNot:(op.toList==[36,110,111,116])=false:=lit_no gNot
 by_cases gExists:op=opExists
 ·have eExists:(op.toList==[36,101,120,105,115,116,115])=true:=lit_is gExists
  have HR:Hid (evT (m+1) (op,j) v there=(there==(nOf j==1))):=by show _=_;rw [evT,if_neg gNe,if_neg gNin,if_neg gNot,if_pos gExists]
  clear gNe gNot gNin gExists
  go_enter Tryz.func265,Tryz.ntmps265
  go_wp2_with fail
  go_ret
  exact ⟨ret_bool (by rw [HR.out]),HB.out⟩
 have eExists:(op.toList==[36,101,120,105,115,116,115])=false:=lit_no gExists
 have HR:=hid (evT_other (m:=m) (j:=j) (v:=v) (there:=there) gNe gNin gNot gExists)
 have HC:=hid (holdsOf_leaf m op j A C B D gj f _ v ((w.alloc (.cells #[.string op,.int .i64 (kindOf j),.int .i64 (nOf j),.string (sOf j),.slice A (nL j) B,.slice C (nK j) D,.slice none 0 0] 233)).alloc (.cells #[.int .i64 (kindOf v),.int .i64 (nOf v),.string (sOf v),.slice La (nL v) Lc,.slice Ka (nK v) Kc] 36)) HOp.out HJ.out HV.out hf HKj.out HKv.out)
 generalize evO m (op,j) v=r at HC HR
 clear gNe gNot gNin gExists
 cases there with
 | true =>
  go_enter Tryz.func265,Tryz.ntmps265
  go_wp2_with fail
  refine HC.out.mono ?_
  rintro e w2 ⟨rfl,b2⟩
  have HB3:=hid (HB.out.trans (b2.mono HB.out.size))
  clear b2
  go_wp2_with fail
  go_ret
  exact ⟨ret_bool (by rw [HR.out];rfl),HB3.out⟩
 | false =>
  go_enter Tryz.func265,Tryz.ntmps265
  go_wp2_with fail
  go_ret
  exact ⟨ret_bool (by rw [HR.out];rfl),HB.out⟩
set_option maxHeartbeats 4000000 in
set_option maxRecDepth 100000 in
theorem holds_inn (m:Nat) (ih:HoldSaid m) (op:ByteArray) (j:T) (inn:Value) (f:Nat) (x:Value) (v:T) (there:Bool) (w:World) (hop:isInn op) (hi:TestsAt w m inn (prs j)) (hv:At w f x v) (hf:f≤16) (kv:okA v) :
  Calls Tryz.prog 265 #[.agg #[.string op,.int .i64 0,.int .i64 0,.string ⟨#[]⟩,.slice none 0 0,.slice none 0 0,inn],x,.bool there] w fun e w'=>e=.returned (.bool (evT (m+1) (op,j) v there))∧Below w.heap.size w w':=by
 obtain ⟨g1,La,Ka,Lc,Kc,hg1,rfl,_,_,_⟩:=hv.open
 have HB:Hid (Below w.heap.size w ((w.alloc (.cells #[.string op,.int .i64 0,.int .i64 0,.string ⟨#[]⟩,.slice none 0 0,.slice none 0 0,inn] 233)).alloc (.cells #[.int .i64 (kindOf v),.int .i64 (nOf v),.string (sOf v),.slice La (nL v) Lc,.slice Ka (nK v) Kc] 36))):=((Below.refl _ _).alloc (Nat.le_refl _) _).alloc (by simp) _
 have HI:=hid (hi.keep HB.out)
 have HV:=hid (hv.keep HB.out)
 have HKv:=hid kv
 have HIh:=hid ih
 clear hi hv kv hg1 ih
 have gNe:¬ op=opNe:=by rcases hop with h | h<;>(rw [h];decide)
 have gNin:¬ op=opNin:=by rcases hop with h | h<;>(rw [h];decide)
 have gExists:¬ op=opExists:=by rcases hop with h | h<;>(rw [h];decide)
 have eNe:(op.toList==[36,110,101])=false:=lit_no gNe
 have eNin:(op.toList==[36,110,105,110])=false:=lit_no gNin
 have eExists:(op.toList==[36,101,120,105,115,116,115])=false:=lit_no gExists
 by_cases gNot:op=opNot
 ·have eNot:(op.toList==[36,110,111,116])=true:=lit_is gNot
  have HR:Hid (evT (m+1) (op,j) v there=!(evA m (prs j) v there)):=by show _=_;rw [evT,if_neg gNe,if_neg gNin,if_pos gNot];rfl
  have HC:=hid (HIh.out inn (prs j) f _ v there ((w.alloc (.cells #[.string op,.int .i64 0,.int .i64 0,.string ⟨#[]⟩,.slice none 0 0,.slice none 0 0,inn] 233)).alloc (.cells #[.int .i64 (kindOf v),.int .i64 (nOf v),.string (sOf v),.slice La (nL v) Lc,.slice Ka (nK v) Kc] 36)) HI.out HV.out hf HKv.out)
  generalize evA m (prs j) v there=r at HC HR
  clear gNe gNot gNin gExists hop
  go_enter Tryz.func265,Tryz.ntmps265
  go_wp2_with fail
  refine HC.out.mono ?_
  rintro e w2 ⟨rfl,b2⟩
  have HB3:=hid (HB.out.trans (b2.mono HB.out.size))
  clear b2
  go_wp2_with fail
  go_ret
  exact ⟨ret_bool (by rw [HR.out]),HB3.out⟩
 have eNot:(op.toList==[36,110,111,116])=false:=lit_no gNot
 have gAny:op=opAny:=hop.resolve_left gNot
 have HR:=hid (evT_other (m:=m) (j:=j) (v:=v) (there:=there) gNe gNin gNot gExists)
 have HC:=hid (holdsOf_inn m HIh.out op j inn f _ v ((w.alloc (.cells #[.string op,.int .i64 0,.int .i64 0,.string ⟨#[]⟩,.slice none 0 0,.slice none 0 0,inn] 233)).alloc (.cells #[.int .i64 (kindOf v),.int .i64 (nOf v),.string (sOf v),.slice La (nL v) Lc,.slice Ka (nK v) Kc] 36)) gAny HI.out HV.out hf HKv.out)
 generalize evO m (op,j) v=r at HC HR
 clear gNe gNot gNin gExists hop gAny
 cases there with
 | true =>
  go_enter Tryz.func265,Tryz.ntmps265
  go_wp2_with fail
  refine HC.out.mono ?_
  rintro e w2 ⟨rfl,b2⟩
  have HB3:=hid (HB.out.trans (b2.mono HB.out.size))
  clear b2
  go_wp2_with fail
  go_ret
  exact ⟨ret_bool (by rw [HR.out];rfl),HB3.out⟩
 | false =>
  go_enter Tryz.func265,Tryz.ntmps265
  go_wp2_with fail
  go_ret
  exact ⟨ret_bool (by rw [HR.out];rfl),HB.out⟩
end Go.Proofs.YtknakfpciccoaabGreatDoor
/- The walk of tests.hold. -/
namespace Go.Proofs.YtknakfpciccoaabGreatDoor
open Go.RowKit
theorem all_take {α:Type} {p:α→Bool} {l:List α} {k:Nat} (h:k<l.length) (ht:(l.take k).all p=true):(l.take (k+1)).all p=p l[k]:=by
 rw [List.take_succ_eq_append_getElem h,List.all_append,ht]
 simp
theorem all_no {α:Type} {p:α→Bool} {l:List α} {k:Nat} (h:k<l.length) (hp:p l[k]=false):l.all p=false:=by
 rw [List.all_eq_false]
 exact ⟨l[k],List.getElem_mem h,by rw [hp];simp⟩
theorem holds_at (m:Nat) (ih:HoldSaid m) (c0 c1 c2 c3 c4 c5 c6:Value) (p:ByteArray×T) (f:Nat) (x:Value) (v:T) (there:Bool) (w:World) (ht:TestAt w (m+1) c0 c1 c2 c3 c4 c5 c6 p) (hv:At w f x v) (hf:f≤16) (kv:okA v) :
  Calls Tryz.prog 265 #[.agg #[c0,c1,c2,c3,c4,c5,c6],x,.bool there] w fun e w'=>e=.returned (.bool (evT (m+1) p v there))∧Below w.heap.size w w':=by
 obtain ⟨op,j⟩:=p
 obtain ⟨rfl,_,⟨hi,rfl,rfl,rfl,rfl,rfl,hr⟩ | ⟨hi,rfl,g,A,B,C,D,hg,rfl,rfl,rfl,rfl,rfl,ha,hk⟩⟩:=ht
 ·exact holds_inn m ih op j c6 f x v there w hi hr hv hf kv
 ·exact holds_leaf m op j A C B D g f x v there w hi ha hv hf hk kv
theorem TestAt.shape {w:World} {m:Nat} {c0 c1 c2 c3 c4 c5 c6:Value} {p:ByteArray×T} (h:TestAt w m c0 c1 c2 c3 c4 c5 c6 p):∃ s0 n1 n2 s3 A4 l4 k4 A5 l5 k5 A6 l6 k6,c0=.string s0∧c1=.int .i64 n1∧c2=.int .i64 n2∧c3=.string s3∧c4=.slice A4 l4 k4∧c5=.slice A5 l5 k5∧c6=.slice A6 l6 k6:=by
 cases m with
 | zero=>exact h.elim
 | succ m =>
  obtain ⟨h0,_,⟨_,h1,h2,h3,h4,h5,A,c,h6,_⟩ | ⟨_,h6,g,A,B,C,D,_,h1,h2,h3,h4,h5,_⟩⟩:=h
  ·exact ⟨_,_,_,_,_,_,_,_,_,_,_,_,_,h0,h1,h2,h3,h4,h5,h6⟩
  ·exact ⟨_,_,_,_,_,_,_,_,_,_,_,_,_,h0,h1,h2,h3,h4,h5,h6⟩
set_option maxHeartbeats 4000000 in
set_option maxRecDepth 100000 in
theorem hold_step (m:Nat) (ih:HoldSaid m):HoldSaid (m+1):=by
 intro tv ps f x v there w ht hv hf kv
 obtain ⟨g1,La,Ka,Lc,Kc,hg1,rfl,_,_,_⟩:=hv.open
 obtain ⟨A,c,rfl,hn,hrow⟩:=ht
 have HRow:=hid hrow
 have HV:=hid hv
 have HKv:=hid kv
 have HIh:=hid ih
 clear hrow hv kv ih hg1
 go_enter Tryz.func263,Tryz.ntmps263
 go_wp2_with fail
 go_loopg [11] (ps.length) (fun g' i wr=>∃ k:Nat,g'=ps.length - k∧k≤ps.length∧i=.int .i64 k∧Hid (Below (w.heap.size+1) (w.alloc (.cells #[.int .i64 (kindOf v),.int .i64 (nOf v),.string (sOf v),.slice La (nL v) Lc,.slice Ka (nK v) Kc] 36)) wr)∧Hid ((ps.take k).all (fun q=>evT (m+1) q v there)=true))
 case atStart=>exact ⟨0,rfl,Nat.zero_le _,rfl,Below.refl _ _,rfl⟩
 case round =>
  obtain ⟨k,rfl,hk,rfl,HB,HN⟩:=hrel
  obtain ⟨q0,q1,q2,q3,q4,hz,hbw⟩:=box_facts HB.out
  have Hbw:=hid hbw
  clear hbw
  by_cases hlt:k<ps.length
  ·obtain ⟨b,o,c0,c1,c2,c3,c4,c5,c6,rfl,hbl,p0,p1,p2,p3,p4,p5,p6,hr⟩:=HRow.out k hlt
   have HT:=hid hr
   obtain ⟨s0,n1,n2,s3,A4,l4,k4,A5,l5,k5,A6,l6,k6,rfl,rfl,rfl,rfl,rfl,rfl,rfl⟩:=hr.shape
   replace p0:=(Hbw.out.cell (p:=⟨b,o+k*7,none⟩) hbl).trans p0
   replace p1:=(Hbw.out.cell (p:=⟨b,o+k*7+1,none⟩) hbl).trans p1
   replace p2:=(Hbw.out.cell (p:=⟨b,o+k*7+2,none⟩) hbl).trans p2
   replace p3:=(Hbw.out.cell (p:=⟨b,o+k*7+3,none⟩) hbl).trans p3
   replace p4:=(Hbw.out.cell (p:=⟨b,o+k*7+4,none⟩) hbl).trans p4
   replace p5:=(Hbw.out.cell (p:=⟨b,o+k*7+5,none⟩) hbl).trans p5
   replace p6:=(Hbw.out.cell (p:=⟨b,o+k*7+6,none⟩) hbl).trans p6
   have HB2:Hid (Below wr.heap.size wr (wr.alloc (.cells #[.string s0,.int .i64 n1,.int .i64 n2,.string s3,.slice A4 l4 k4,.slice A5 l5 k5,.slice A6 l6 k6] 233))):=(Below.refl _ _).alloc (Nat.le_refl _) _
   have HB3:=hid (Hbw.out.trans (HB2.out.mono Hbw.out.size))
   have HC:=hid (holds_at m HIh.out _ _ _ _ _ _ _ ps[k] f _ v there _ (TestAt.keep HB3.out _ _ _ _ _ _ _ _ _ HT.out) (HV.out.keep HB3.out) hf HKv.out)
   have HA:=hid (all_take (p:=fun q=>evT (m+1) q v there) hlt HN.out)
   have HA2:=hid (fun h=>all_no (p:=fun q=>evT (m+1) q v there) hlt h)
   clear hr HT
   generalize evT (m+1) ps[k] v there=r at HC HA HA2
   go_wp2_with fail
   refine HC.out.mono ?_
   rintro e w2 ⟨rfl,b2⟩
   have HB4:=hid (HB.out.trans ((HB2.out.trans (b2.mono HB2.out.size)).mono (by omega)))
   clear b2 HC
   cases r with
   | true =>
    go_wp2_with fail
    go_roundg (ps.length - (k+1))
    case rel=>exact ⟨k+1,rfl,by omega,by go_num,HB4,HA⟩
    case measure=>omega
   | false =>
    have HA3:=hid (HA2.out rfl)
    clear HA2
    have HB5:=hid (((Below.refl w.heap.size w).alloc (Nat.le_refl _) (.cells #[.int .i64 (kindOf v),.int .i64 (nOf v),.string (sOf v),.slice La (nL v) Lc,.slice Ka (nK v) Kc] 36)).trans (HB4.out.mono (by omega)))
    go_wp2_with fail
    go_ret
    exact ⟨ret_bool (by rw [evA,HA3.out]),HB5.out⟩
  ·obtain rfl:k=ps.length:=by omega
   have HR:Hid (evA (m+1) ps v there=true):=by have:=HN.out;rw [List.take_length] at this;exact this
   go_wp2_with fail
   go_ret
   exact ⟨ret_bool (by rw [HR.out]),Hbw.out⟩
set_option maxHeartbeats 4000000 in
set_option maxRecDepth 100000 in
theorem hold_zero:HoldSaid 0:=by
 intro tv ps f x v there w ht hv hf kv
 obtain ⟨g1,La,Ka,Lc,Kc,hg1,rfl,_,_,_⟩:=hv.open
 obtain ⟨A,c,rfl,hn,hrow⟩:=ht
 have h0:ps=[]:=by
  cases ps with
  | nil=>rfl
  | cons p ps =>
   obtain ⟨b,o,c0,c1,c2,c3,c4,c5,c6,_,_,_,_,_,_,_,_,_,hr⟩:=hrow 0 (by simp)
   exact hr.elim
 subst h0
 have HB:Hid (Below w.heap.size w (w.alloc (.cells #[.int .i64 (kindOf v),.int .i64 (nOf v),.string (sOf v),.slice La (nL v) Lc,.slice Ka (nK v) Kc] 36))):=(Below.refl _ _).alloc (Nat.le_refl _) _
 clear hrow hv kv hg1 hn
 simp only [List.length_nil]
 go_enter Tryz.func263,Tryz.ntmps263
 go_wp2_with fail
 go_loopg [11] 1 (fun g' i wr=>i=.int .i64 0∧wr=w.alloc (.cells #[.int .i64 (kindOf v),.int .i64 (nOf v),.string (sOf v),.slice La (nL v) Lc,.slice Ka (nK v) Kc] 36))
 case atStart=>exact ⟨rfl,rfl⟩
 case round =>
  obtain ⟨rfl,rfl⟩:=hrel
  go_wp2_with fail
  go_ret
  exact ⟨rfl,HB.out⟩
theorem hold_any:∀ m,HoldSaid m
 | 0=>hold_zero
 | m+1=>hold_step m (hold_any m)
end Go.Proofs.YtknakfpciccoaabGreatDoor
/- Filters: what they say, how they lie in memory. -/
namespace Go.Proofs.YtknakfpciccoaabGreatDoor
open Go.RowKit
def opAnd:ByteArray:=⟨#[36,97,110,100]⟩
def opOr:ByteArray:=⟨#[36,111,114]⟩
def opNor:ByteArray:=⟨#[36,110,111,114]⟩
def splitP (x:ByteArray):List ByteArray:=Lib.splitB ⟨#[46]⟩ 0 (Lib.countB x ⟨#[46]⟩) x
def isOp (x:ByteArray):Bool:=Lib.hasPrefix x.data.toList [36]
def exps (j:T):List (ByteArray×T):=if kindOf j=6∧0<nK j∧isOp (nam j 0)=true then prs j else [(opEq,j)]
def zeroT:T:=leafT 0 0 ByteArray.empty
def evP (p:List ByteArray) (ps:List (ByteArray×T)) (doc:T):Bool:=match fromP p doc with
 | some r=>evA 16 ps r true
 | none=>evA 16 ps zeroT false
theorem evP_some {p:List ByteArray} {ps:List (ByteArray×T)} {doc r:T} (h:fromP p doc=some r):evP p ps doc=evA 16 ps r true:=by unfold evP;rw [h]
theorem evP_none {p:List ByteArray} {ps:List (ByteArray×T)} {doc:T} (h:fromP p doc=none):evP p ps doc=evA 16 ps zeroT false:=by unfold evP;rw [h]
def evC (g:T→T→Bool) (x:ByteArray) (j doc:T):Bool :=
 if x=opAnd then allL (fun y=>g y doc) j (nL j) else if x=opOr then anyL (fun y=>g y doc) j (nL j) else if x=opNor then !(anyL (fun y=>g y doc) j (nL j))
 else evP (splitP x) (exps j) doc
def allN (p:Nat→Bool):Nat→Bool
 | 0=>true
 | k+1=>allN p k&&p k
def evF:Nat→T→T→Bool
 | 0,_,_=>true
 | m+1,t,doc=>allN (fun i=>evC (evF m) (nam t i) (elt t i) doc) (nK t)
def RowF (w:World) (R:Value→T→Prop) (v:Value) (j:T):Prop :=
 ∃ (A:Option Addr) (c:Nat),v=.slice A (nL j) c∧nL j≤1000000000∧∀ i,i<nL j→∃ b o u,A=some ⟨b,o,none⟩∧b<w.heap.size∧w.cell? ⟨b,o+i,none⟩=some u∧R u (elt j i)
theorem RowF.keep {w w':World} {R R':Value→T→Prop} {v:Value} {j:T} (h:RowF w R v j) (hb:Below w.heap.size w w') (hR:∀ u y,R u y→R' u y):RowF w' R' v j:=by
 obtain ⟨A,c,hv,hn,h⟩:=h
 refine ⟨A,c,hv,hn,fun i hi=>?_⟩
 obtain ⟨b,o,u,h0,hl,q,hr⟩:=h i hi
 exact ⟨b,o,u,h0,Nat.lt_of_lt_of_le hl hb.size,(hb.cell (p:=⟨b,_,none⟩) hl).trans q,hR _ _ hr⟩
def plainN (x:ByteArray):Prop:=¬ x=opAnd∧¬ x=opOr∧¬ x=opNor
def CondAt (w:World) (R:Value→T→Prop) (u:Value) (x:ByteArray) (j:T):Prop :=
 (x=opAnd∧∃ v,u=.iface 203 v∧RowF w R v j)∨(x=opOr∧∃ v,u=.iface 205 v∧RowF w R v j)∨(x=opNor∧∃ v,u=.iface 206 v∧RowF w R v j) ∨
 (plainN x∧∃ pv tv,u=.iface 213 (.agg #[pv,tv])∧StrsAt w pv (splitP x)∧TestsAt w 16 tv (exps j))
theorem CondAt.keep {w w':World} {R R':Value→T→Prop} {u:Value} {x:ByteArray} {j:T} (h:CondAt w R u x j) (hb:Below w.heap.size w w') (hR:∀ u y,R u y→R' u y):CondAt w' R' u x j:=by
 rcases h with ⟨h1,v,h2,h3⟩ | ⟨h1,v,h2,h3⟩ | ⟨h1,v,h2,h3⟩ | ⟨h1,pv,tv,h2,h3,h4⟩
 ·exact .inl ⟨h1,v,h2,h3.keep hb hR⟩
 ·exact .inr (.inl ⟨h1,v,h2,h3.keep hb hR⟩)
 ·exact .inr (.inr (.inl ⟨h1,v,h2,h3.keep hb hR⟩))
 ·exact .inr (.inr (.inr ⟨h1,pv,tv,h2,h3.keep hb,h4.keep hb⟩))
def FilAt (w:World):Nat→Value→T→Prop
 | 0,_,_=>False
 | m+1,v,t=>∃ (A:Option Addr) (c:Nat),v=.slice A (nK t) c∧nK t≤1000000000∧∀ i,i<nK t→∃ b o u,A=some ⟨b,o,none⟩∧b<w.heap.size∧w.cell? ⟨b,o+i,none⟩=some u∧CondAt w (FilAt w m) u (nam t i) (elt t i)
theorem FilAt.keep {w w':World} (hb:Below w.heap.size w w'):∀ (m:Nat) (v:Value) (t:T),FilAt w m v t→FilAt w' m v t
 | 0,_,_,h=>h
 | m+1,v,t,h=>by
  obtain ⟨A,c,hv,hn,h⟩:=h
  refine ⟨A,c,hv,hn,fun i hi=>?_⟩
  obtain ⟨b,o,u,h0,hl,q,hr⟩:=h i hi
  exact ⟨b,o,u,h0,Nat.lt_of_lt_of_le hl hb.size,(hb.cell (p:=⟨b,_,none⟩) hl).trans q,hr.keep hb (FilAt.keep hb m)⟩
def FilSaid (Tb:World→Prop) (m:Nat):Prop:=∀ (fv:Value) (t:T) (f:Nat) (x:Value) (doc:T) (w:World),FilAt w m fv t→At w f x doc→f≤16→okA doc→Tb w →
  Calls Tryz.prog 56 #[fv,x] w fun e w'=>e=.returned (.bool (evF m t doc))∧Below w.heap.size w w'
theorem zero_at (w:World):At w 1 (.agg #[.int .i64 0,.int .i64 0,.string ⟨#[]⟩,.slice none 0 0,.slice none 0 0]) zeroT:=by
 refine ⟨none,none,0,0,rfl,⟨by decide,by decide,by decide,by decide,?_,?_,?_⟩,fun i hi=>absurd hi (Nat.not_lt_zero i),fun i hi=>absurd hi (Nat.not_lt_zero i)⟩
 ·show (ByteArray.empty).size≤_;simp
 ·show 0≤_;omega
 ·show 0≤_;omega
theorem zero_ok:okA zeroT:=⟨fun f=>by
  cases f with
  | zero=>trivial
  | succ f=>exact ⟨fun h=>(by cases h),fun i hi=>absurd hi (Nat.not_lt_zero i)⟩,fun f=>by
  cases f with
  | zero=>trivial
  | succ f=>exact ⟨Nat.zero_le _,Nat.zero_le _,fun i hi=>absurd hi (Nat.not_lt_zero i),fun i hi=>absurd hi (Nat.not_lt_zero i)⟩⟩
set_option maxHeartbeats 4000000 in
set_option maxRecDepth 100000 in
theorem valueHas_any {Tb:World→Prop} (hA:AtoiSaid Tb) (hI:ItoaSaid Tb) (hL:Lies Tb) (y:ByteArray) (j:T) (pv tv:Value) (f:Nat) (x:Value) (doc:T) (w:World) (hp:StrsAt w pv (splitP y)) (ht:TestsAt w 16 tv (exps j)) (hv:At w f x doc) (hf:f≤16) (kv:okA doc) (hT:Tb w) :
  Calls Tryz.prog 264 #[.agg #[pv,tv],x] w fun e w'=>e=.returned (.bool (evP (splitP y) (exps j) doc))∧Below w.heap.size w w':=by
 obtain ⟨g1,La,Ka,Lc,Kc,hg1,rfl,_,_,_⟩:=hv.open
 obtain ⟨A1,cp,rfl,hp1,hp2⟩:=hp
 obtain ⟨A2,ct,rfl,ht1,ht2⟩:=ht
 have HB:Hid (Below w.heap.size w ((w.alloc (.cells #[.slice A1 (splitP y).length cp,.slice A2 (exps j).length ct] 213)).alloc (.cells #[.int .i64 (kindOf doc),.int .i64 (nOf doc),.string (sOf doc),.slice La (nL doc) Lc,.slice Ka (nK doc) Kc] 36))):=((Below.refl _ _).alloc (Nat.le_refl _) _).alloc (by simp) _
 have HP:Hid (StrsAt w (.slice A1 (splitP y).length cp) (splitP y)):=⟨A1,cp,rfl,hp1,hp2⟩
 have HTs:Hid (TestsAt w 16 (.slice A2 (exps j).length ct) (exps j)):=⟨A2,ct,rfl,ht1,ht2⟩
 have HC:=hid (from_any hA hI hL _ _ f _ doc _ _ (Below.refl _ _) (HP.out.keep HB.out) (hv.keep HB.out) kv (hL w hT _ _ hT HB.out))
 clear hp1 hp2 ht1 ht2 hv kv hT hA hI hL hg1
 go_enter Tryz.func264,Tryz.ntmps264
 go_wp2_with fail
 refine HC.out.mono ?_
 rintro e w2 ⟨b2,⟨r,g,A,B,C,D,hr,hg,rfl,ha,hk⟩ | ⟨hr,rfl⟩⟩
 ·have HR:=hid (evP_some (ps:=exps j) hr)
  have HB2:=hid (HB.out.trans (b2.mono HB.out.size))
  have q0:w2.cell? ⟨w.heap.size,1,none⟩=some (.slice A2 (exps j).length ct):=by rw [b2.cell (p:=⟨w.heap.size,1,none⟩) (by simp;omega)];simp [go_sem]
  have HB3:Hid (Below w2.heap.size w2 (w2.alloc (.cells #[.int .i64 (kindOf r),.int .i64 (nOf r),.string (sOf r),.slice A (nL r) B,.slice C (nK r) D] 36))):=(Below.refl _ _).alloc (Nat.le_refl _) _
  have HB4:=hid (HB2.out.trans (HB3.out.mono HB2.out.size))
  have HH:=hid (hold_any 16 _ _ g _ r true _ (HTs.out.keep HB4.out) (ha.keep ((b2.trans (HB3.out.mono b2.size)))) (by omega) hk)
  have hlt:w.heap.size<w2.heap.size:=by have:=b2.size;simp at this;omega
  clear b2 ha hk hr HC
  go_wp2_with fail
  refine HH.out.mono ?_
  rintro e w5 ⟨rfl,b5⟩
  have HB5:=hid (HB4.out.trans (b5.mono HB4.out.size))
  clear b5
  go_wp2_with fail
  go_ret
  exact ⟨ret_bool (by rw [HR.out]),HB5.out⟩
 ·have HR:=hid (evP_none (ps:=exps j) hr)
  have HB2:=hid (HB.out.trans (b2.mono HB.out.size))
  have q0:w2.cell? ⟨w.heap.size,1,none⟩=some (.slice A2 (exps j).length ct):=by rw [b2.cell (p:=⟨w.heap.size,1,none⟩) (by simp;omega)];simp [go_sem]
  have HB3:Hid (Below w2.heap.size w2 (w2.alloc (.cells #[.int .i64 0,.int .i64 0,.string ⟨#[]⟩,.slice none 0 0,.slice none 0 0] 36))):=(Below.refl _ _).alloc (Nat.le_refl _) _
  have HB4:=hid (HB2.out.trans (HB3.out.mono HB2.out.size))
  have HH:=hid (hold_any 16 _ _ 1 _ zeroT false _ (HTs.out.keep HB4.out) (zero_at _) (by omega) zero_ok)
  have hlt:w.heap.size<w2.heap.size:=by have:=b2.size;simp at this;omega
  clear b2 hr HC
  go_wp2_with fail
  refine HH.out.mono ?_
  rintro e w5 ⟨rfl,b5⟩
  have HB5:=hid (HB4.out.trans (b5.mono HB4.out.size))
  clear b5
  go_wp2_with fail
  go_ret
  exact ⟨ret_bool (by rw [HR.out]),HB5.out⟩
end Go.Proofs.YtknakfpciccoaabGreatDoor
/- The walks of allHold, oneHolds, noneHold. -/
namespace Go.Proofs.YtknakfpciccoaabGreatDoor
open Go.RowKit
theorem allL_no {f:T→Bool} {t:T} {j k:Nat} (h:j<k) (hd:f (elt t j)=false):allL f t k=false:=allL_at h hd
set_option maxHeartbeats 4000000 in
set_option maxRecDepth 100000 in
theorem allHold_any {Tb:World→Prop} (hL:Lies Tb) (m:Nat) (ih:FilSaid Tb m) (l:Value) (j:T) (f:Nat) (x:Value) (v:T) (w:World) (hl:RowF w (FilAt w m) l j) (hv:At w f x v) (hf:f≤16) (kv:okA v) (hT:Tb w) :
  Calls Tryz.prog 257 #[l,x] w fun e w'=>e=.returned (.bool (allL (fun y=>evF m y v) j (nL j)))∧Below w.heap.size w w':=by
 obtain ⟨g1,La,Ka,Lc,Kc,hg1,rfl,_,_,_⟩:=hv.open
 obtain ⟨A,c,rfl,hn,hrow⟩:=hl
 have HRow:=hid hrow
 have HT:Hid (∀ w':World,Below w.heap.size w w'→Tb w'):=fun w' hb=>hL w hT w w' hT hb
 have HV:=hid hv
 have HKv:=hid kv
 have HIh:=hid ih
 clear hrow hv kv ih hg1 hT hL
 go_enter Tryz.func257,Tryz.ntmps257
 go_wp2_with fail
 go_loopg [9] (nL j) (fun g' i wr=>∃ k:Nat,g'=nL j - k∧k≤nL j∧i=.int .i64 k∧Hid (Below (w.heap.size+1) (w.alloc (.cells #[.int .i64 (kindOf v),.int .i64 (nOf v),.string (sOf v),.slice La (nL v) Lc,.slice Ka (nK v) Kc] 36)) wr)∧Hid (allL (fun y=>evF m y v) j k=true))
 case atStart=>exact ⟨0,rfl,Nat.zero_le _,rfl,Below.refl _ _,rfl⟩
 case round =>
  obtain ⟨k,rfl,hk,rfl,HB,HN⟩:=hrel
  obtain ⟨q0,q1,q2,q3,q4,hz,hbw⟩:=box_facts HB.out
  have Hbw:=hid hbw
  clear hbw
  by_cases hlt:k<nL j
  ·obtain ⟨b,o,u,rfl,hbl,p0,hr⟩:=HRow.out k hlt
   replace p0:=(Hbw.out.cell (p:=⟨b,o+k,none⟩) hbl).trans p0
   have HC:=hid (HIh.out u (elt j k) f _ v wr (FilAt.keep Hbw.out m _ _ hr) (HV.out.keep Hbw.out) hf HKv.out (HT.out wr Hbw.out))
   have HA:Hid (allL (fun y=>evF m y v) j (k+1)=evF m (elt j k) v):=by show _=_;rw [allL,HN.out];simp
   have HA2:Hid (evF m (elt j k) v=false→allL (fun y=>evF m y v) j (nL j)=false):=fun h=>allL_no hlt h
   clear hr
   generalize evF m (elt j k) v=r at HC HA HA2
   go_wp2_with fail
   refine HC.out.mono ?_
   rintro e w2 ⟨rfl,b2⟩
   have HB4:=hid (HB.out.trans (b2.mono (by omega)))
   clear b2 HC
   cases r with
   | true =>
    go_wp2_with fail
    go_roundg (nL j - (k+1))
    case rel=>exact ⟨k+1,rfl,by omega,by go_num,HB4,HA⟩
    case measure=>omega
   | false =>
    have HA3:=hid (HA2.out rfl)
    have HB5:=hid (((Below.refl w.heap.size w).alloc (Nat.le_refl _) (.cells #[.int .i64 (kindOf v),.int .i64 (nOf v),.string (sOf v),.slice La (nL v) Lc,.slice Ka (nK v) Kc] 36)).trans (HB4.out.mono (by omega)))
    clear HA2
    go_wp2_with fail
    go_ret
    exact ⟨ret_bool (by rw [HA3.out]),HB5.out⟩
  ·obtain rfl:k=nL j:=by omega
   go_wp2_with fail
   go_ret
   exact ⟨ret_bool (by rw [HN.out]),Hbw.out⟩
set_option maxHeartbeats 4000000 in
set_option maxRecDepth 100000 in
theorem one1_any {Tb:World→Prop} (m:Nat) (ih:FilSaid Tb m) (b:Nat) (f:Nat) (fv:Value) (y v:T) (A C:Option Addr) (B D:Nat) (w:World) (h0:w.cell? ⟨b,0,none⟩=some (.int .i64 (kindOf v))) (h1:w.cell? ⟨b,1,none⟩=some (.int .i64 (nOf v))) (h2:w.cell? ⟨b,2,none⟩=some (.string (sOf v))) (h3:w.cell? ⟨b,3,none⟩=some (.slice A (nL v) B)) (h4:w.cell? ⟨b,4,none⟩=some (.slice C (nK v) D)) (hy:FilAt w m fv y)
  (ha:At w f (.agg #[.int .i64 (kindOf v),.int .i64 (nOf v),.string (sOf v),.slice A (nL v) B,.slice C (nK v) D]) v) (hf:f≤16) (ka:okA v) (hT:Tb w) :
  Calls Tryz.prog 260 #[fv,.pointer (some ⟨b,0,none⟩)] w fun e w'=>e=.returned (.bool (evF m y v))∧Below w.heap.size w w':=by
 have HC:=hid (ih fv y f _ v w hy ha hf ka hT)
 generalize evF m y v=r at HC
 clear ha hy ka ih hT
 go_enter Tryz.func260,Tryz.ntmps260
 go_wp2_with fail
 refine HC.out.mono ?_
 rintro e w2 ⟨rfl,b2⟩
 have HB2:=hid b2
 clear b2
 go_wp2_with fail
 go_ret
 exact ⟨rfl,HB2.out⟩
set_option maxHeartbeats 4000000 in
set_option maxRecDepth 100000 in
theorem indexFil_any (P:T→Bool) (g:FuncId) (hg:∀ (a:Array Value) (w:World),(callFunc g a).run Tryz.prog w=.ok (.enter g a) w) (p:Value) (R:World→Value→T→Prop) (hR:∀ w w' u y,Below w.heap.size w w'→R w u y→R w' u y) (l:Value) (t:T) (w:World) (hl:RowF w (R w) l t)
  (hP:∀ k,k<nL t→∀ (wr:World) (u:Value),Below w.heap.size w wr→R wr u (elt t k)→Calls Tryz.prog g #[u,p] wr fun e w'=>e=.returned (.bool (P (elt t k)))∧Below wr.heap.size wr w') :
  Calls Tryz.prog 261 #[l,.func (Fn.func g) #[] #[p]] w fun e w'=>Below w.heap.size w w'∧∃ n:Int,e=.returned (.int .i64 n)∧((n=-1∧anyL P t (nL t)=false)∨∃ k:Nat,n=(k:Int)∧k<nL t∧P (elt t k)=true):=by
 obtain ⟨A,c,rfl,hn,hrow⟩:=hl
 have HRow:=hid hrow
 have HR:=hid hR
 have HP:=hid hP
 clear hrow hP hR
 go_enter Tryz.func261,Tryz.ntmps261
 go_wp2_with fail
 go_loopg [8] (nL t) (fun g' i wr=>∃ k:Nat,g'=nL t - k∧k≤nL t∧i=.int .i64 k∧Hid (Below w.heap.size w wr)∧Hid (anyL P t k=false))
 case atStart=>exact ⟨0,rfl,Nat.zero_le _,rfl,Below.refl _ _,rfl⟩
 case round =>
  obtain ⟨k,rfl,hk,rfl,HB,HN⟩:=hrel
  by_cases hlt:k<nL t
  ·obtain ⟨b,o,u,rfl,hbl,p0,hr⟩:=HRow.out k hlt
   replace p0:=(HB.out.cell (p:=⟨b,o+k,none⟩) hbl).trans p0
   have HC:=hid (HP.out k hlt wr u HB.out (HR.out _ _ _ _ HB.out hr))
   clear hr
   cases hp:P (elt t k) with
   | true =>
    rw [hp] at HC
    have Hp:=hid hp
    clear hp
    go_wp2_with fail
    refine HC.out.mono ?_
    rintro e w2 ⟨rfl,b2⟩
    have HB2:=hid (HB.out.trans (b2.mono HB.out.size))
    clear b2
    go_wp2_with fail
    go_ret
    exact ⟨HB2.out,_,rfl,.inr ⟨k,rfl,hlt,Hp.out⟩⟩
   | false =>
    rw [hp] at HC
    have HN2:Hid (anyL P t (k+1)=false):=by show _=_;rw [anyL,HN.out,hp];rfl
    clear hp
    go_wp2_with fail
    refine HC.out.mono ?_
    rintro e w2 ⟨rfl,b2⟩
    have HB2:=hid (HB.out.trans (b2.mono HB.out.size))
    clear b2
    go_wp2_with fail
    go_roundg (nL t - (k+1))
    case rel=>exact ⟨k+1,rfl,by omega,by go_num,HB2,HN2⟩
    case measure=>omega
  ·obtain rfl:k=nL t:=by omega
   go_wp2_with fail
   go_ret
   exact ⟨HB.out,_,rfl,.inl ⟨rfl,HN.out⟩⟩
set_option maxHeartbeats 4000000 in
set_option maxRecDepth 100000 in
theorem containsFil_any (P:T→Bool) (g:FuncId) (hg:∀ (a:Array Value) (w:World),(callFunc g a).run Tryz.prog w=.ok (.enter g a) w) (p:Value) (R:World→Value→T→Prop) (hR:∀ w w' u y,Below w.heap.size w w'→R w u y→R w' u y) (l:Value) (t:T) (w:World) (hl:RowF w (R w) l t)
  (hP:∀ k,k<nL t→∀ (wr:World) (u:Value),Below w.heap.size w wr→R wr u (elt t k)→Calls Tryz.prog g #[u,p] wr fun e w'=>e=.returned (.bool (P (elt t k)))∧Below wr.heap.size wr w') :
  Calls Tryz.prog 259 #[l,.func (Fn.func g) #[] #[p]] w fun e w'=>e=.returned (.bool (anyL P t (nL t)))∧Below w.heap.size w w':=by
 have HC:=hid (indexFil_any P g hg p R hR l t w hl hP)
 clear hl hP hR
 go_enter Tryz.func259,Tryz.ntmps259
 go_wp2_with fail
 refine HC.out.mono ?_
 rintro e w2 ⟨b2,n,rfl,⟨rfl,hn⟩ | ⟨k,rfl,hk,hp⟩⟩
 ·have HB:=hid b2
  have HN:=hid hn
  clear b2 hn
  go_wp2_with fail
  go_ret
  exact ⟨ret_bool HN.out.symm,HB.out⟩
 ·have HB:=hid b2
  have HN:=hid (anyL_at hk hp)
  clear b2 hp
  go_wp2_with fail
  go_ret
  exact ⟨ret_bool HN.out.symm,HB.out⟩
set_option maxHeartbeats 4000000 in
set_option maxRecDepth 100000 in
theorem oneHolds_any {Tb:World→Prop} (hL:Lies Tb) (m:Nat) (ih:FilSaid Tb m) (l:Value) (j:T) (f:Nat) (x:Value) (v:T) (w:World) (hl:RowF w (FilAt w m) l j) (hv:At w f x v) (hf:f≤16) (kv:okA v) (hT:Tb w) :
  Calls Tryz.prog 258 #[l,x] w fun e w'=>e=.returned (.bool (anyL (fun y=>evF m y v) j (nL j)))∧Below w.heap.size w w':=by
 obtain ⟨g1,La,Ka,Lc,Kc,hg1,rfl,_,_,_⟩:=hv.open
 have HB:Hid (Below w.heap.size w (w.alloc (.cells #[.int .i64 (kindOf v),.int .i64 (nOf v),.string (sOf v),.slice La (nL v) Lc,.slice Ka (nK v) Kc] 36))):=(Below.refl _ _).alloc (Nat.le_refl _) _
 have HX:Hid (BoxAt w.heap.size (.int .i64 (kindOf v)) (.int .i64 (nOf v)) (.string (sOf v)) (.slice La (nL v) Lc) (.slice Ka (nK v) Kc) (w.alloc (.cells #[.int .i64 (kindOf v),.int .i64 (nOf v),.string (sOf v),.slice La (nL v) Lc,.slice Ka (nK v) Kc] 36))):=by
  constructor<;>simp [go_sem]
 have HC:=hid (containsFil_any (fun y=>evF m y v) 260 (fun _ _=>rfl) (.pointer (some ⟨w.heap.size,0,none⟩)) (fun w=>FilAt w m) (fun w w' u y hb h=>FilAt.keep hb m u y h) l j _ (hl.keep HB.out (FilAt.keep HB.out m)) (fun k hk wr u hb hu=>by
   have hbx:=HX.out.stay hb
   have hbw:=HB.out.trans (hb.mono HB.out.size)
   exact one1_any m ih w.heap.size f u (elt j k) v La Ka Lc Kc wr hbx.q0 hbx.q1 hbx.q2 hbx.q3 hbx.q4 hu (hv.keep hbw) hf kv (hL w hT _ _ hT hbw)))
 generalize anyL (fun y=>evF m y v) j (nL j)=r at HC
 clear hv kv hl ih hT hL hg1
 go_enter Tryz.func258,Tryz.ntmps258
 go_wp2_with fail
 refine HC.out.mono ?_
 rintro e w2 ⟨rfl,b2⟩
 have HB3:=hid (HB.out.trans (b2.mono HB.out.size))
 clear b2
 go_wp2_with fail
 go_ret
 exact ⟨rfl,HB3.out⟩
set_option maxHeartbeats 4000000 in
set_option maxRecDepth 100000 in
theorem noneHold_any {Tb:World→Prop} (hL:Lies Tb) (m:Nat) (ih:FilSaid Tb m) (l:Value) (j:T) (f:Nat) (x:Value) (v:T) (w:World) (hl:RowF w (FilAt w m) l j) (hv:At w f x v) (hf:f≤16) (kv:okA v) (hT:Tb w) :
  Calls Tryz.prog 262 #[l,x] w fun e w'=>e=.returned (.bool (!(anyL (fun y=>evF m y v) j (nL j))))∧Below w.heap.size w w':=by
 obtain ⟨g1,La,Ka,Lc,Kc,hg1,rfl,_,_,_⟩:=hv.open
 have HB:Hid (Below w.heap.size w (w.alloc (.cells #[.int .i64 (kindOf v),.int .i64 (nOf v),.string (sOf v),.slice La (nL v) Lc,.slice Ka (nK v) Kc] 36))):=(Below.refl _ _).alloc (Nat.le_refl _) _
 have HC:=hid (oneHolds_any hL m ih l j f _ v _ (hl.keep HB.out (FilAt.keep HB.out m)) (hv.keep HB.out) hf kv (hL w hT _ _ hT HB.out))
 generalize anyL (fun y=>evF m y v) j (nL j)=r at HC
 clear hv kv hl ih hT hL hg1
 go_enter Tryz.func262,Tryz.ntmps262
 go_wp2_with fail
 refine HC.out.mono ?_
 rintro e w2 ⟨rfl,b2⟩
 have HB3:=hid (HB.out.trans (b2.mono HB.out.size))
 clear b2
 go_wp2_with fail
 go_ret
 exact ⟨rfl,HB3.out⟩
end Go.Proofs.YtknakfpciccoaabGreatDoor
/- The walk of Filter.Holds. -/
namespace Go.Proofs.YtknakfpciccoaabGreatDoor
open Go.RowKit
theorem allN_no {p:Nat→Bool} {i:Nat} (hp:p i=false):∀ n,i<n→allN p n=false
 | 0,h=>by omega
 | n+1,h=>by
  rw [allN]
  by_cases e:i=n
  ·subst e;rw [hp];simp
  ·rw [allN_no hp n (by omega)];rfl
theorem meth_all (l:Value) (w:World):(method 319 203 l "sheaf/filter.holds").run Tryz.prog w=.ok (257,l) w:=by kernel_rfl
theorem meth_one (l:Value) (w:World):(method 319 205 l "sheaf/filter.holds").run Tryz.prog w=.ok (258,l) w:=by kernel_rfl
theorem meth_none (l:Value) (w:World):(method 319 206 l "sheaf/filter.holds").run Tryz.prog w=.ok (262,l) w:=by kernel_rfl
theorem meth_has (l:Value) (w:World):(method 319 213 l "sheaf/filter.holds").run Tryz.prog w=.ok (264,l) w:=by kernel_rfl
set_option maxHeartbeats 4000000 in
set_option maxRecDepth 100000 in
theorem fil_step {Tb:World→Prop} (hA:AtoiSaid Tb) (hI:ItoaSaid Tb) (hL:Lies Tb) (m:Nat) (ih:FilSaid Tb m):FilSaid Tb (m+1):=by
 intro fv t f x v w hfl hv hf kv hT
 obtain ⟨g1,La,Ka,Lc,Kc,hg1,rfl,_,_,_⟩:=hv.open
 obtain ⟨A,c,rfl,hn,hrow⟩:=hfl
 have HRow:=hid hrow
 have HT:Hid (∀ w':World,Below w.heap.size w w'→Tb w'):=fun w' hb=>hL w hT w w' hT hb
 have HV:=hid hv
 have HKv:=hid kv
 have HIh:=hid ih
 have HL:=hid hL
 have HAt:=hid hA
 have HIt:=hid hI
 clear hrow hv kv ih hg1 hT hL hA hI
 go_enter Tryz.func56,Tryz.ntmps56
 go_wp2_with fail
 go_loopg [9] (nK t) (fun g' i wr=>∃ k:Nat,g'=nK t - k∧k≤nK t∧i=.int .i64 k∧Hid (Below (w.heap.size+1) (w.alloc (.cells #[.int .i64 (kindOf v),.int .i64 (nOf v),.string (sOf v),.slice La (nL v) Lc,.slice Ka (nK v) Kc] 36)) wr)∧Hid (allN (fun i=>evC (evF m) (nam t i) (elt t i) v) k=true))
 case atStart=>exact ⟨0,rfl,Nat.zero_le _,rfl,Below.refl _ _,rfl⟩
 case round =>
  obtain ⟨k,rfl,hk,rfl,HB,HN⟩:=hrel
  obtain ⟨q0,q1,q2,q3,q4,hz,hbw⟩:=box_facts HB.out
  have Hbw:=hid hbw
  clear hbw
  by_cases hlt:k<nK t
  ·obtain ⟨b,o,u,rfl,hbl,p0,hr⟩:=HRow.out k hlt
   replace p0:=(Hbw.out.cell (p:=⟨b,o+k,none⟩) hbl).trans p0
   have HA:Hid (allN (fun i=>evC (evF m) (nam t i) (elt t i) v) (k+1)=evC (evF m) (nam t k) (elt t k) v):=by show _=_;rw [allN,HN.out];simp
   have HA2:Hid (evC (evF m) (nam t k) (elt t k) v=false→evF (m+1) t v=false):=fun h=>allN_no (p:=fun i=>evC (evF m) (nam t i) (elt t i) v) h _ hlt
   have HVr:=hid (HV.out.keep Hbw.out)
   have HTr:=hid (HT.out wr Hbw.out)
   rcases hr with ⟨hx,l,rfl,hl⟩ | ⟨hx,l,rfl,hl⟩ | ⟨hx,l,rfl,hl⟩ | ⟨hx,pv,tv,rfl,hpv,htv⟩
   ·have HC:=hid (allHold_any HL.out m HIh.out l (elt t k) f _ v wr (hl.keep Hbw.out (FilAt.keep Hbw.out m)) HVr.out hf HKv.out HTr.out)
    have HE:Hid (evC (evF m) (nam t k) (elt t k) v=allL (fun y=>evF m y v) (elt t k) (nL (elt t k))):=by show _=_;unfold evC;rw [if_pos hx]
    rw [← HE.out] at HC
    have hm:=meth_all l wr
    clear hl hx HE
    generalize evC (evF m) (nam t k) (elt t k) v=r at HC HA HA2
    go_wp2_with fail
    refine HC.out.mono ?_
    rintro e w2 ⟨rfl,b2⟩
    have HB4:=hid (HB.out.trans (b2.mono (by omega)))
    clear b2 HC
    cases r with
    | true =>
     go_wp2_with fail
     go_roundg (nK t - (k+1))
     case rel=>exact ⟨k+1,rfl,by omega,by go_num,HB4,HA⟩
     case measure=>omega
    | false =>
     have HA3:=hid (HA2.out rfl)
     have HB5:=hid (((Below.refl w.heap.size w).alloc (Nat.le_refl _) (.cells #[.int .i64 (kindOf v),.int .i64 (nOf v),.string (sOf v),.slice La (nL v) Lc,.slice Ka (nK v) Kc] 36)).trans (HB4.out.mono (by omega)))
     clear HA2
     go_wp2_with fail
     go_ret
     exact ⟨ret_bool (by rw [HA3.out]),HB5.out⟩
   ·have HC:=hid (oneHolds_any HL.out m HIh.out l (elt t k) f _ v wr (hl.keep Hbw.out (FilAt.keep Hbw.out m)) HVr.out hf HKv.out HTr.out)
    have HE:Hid (evC (evF m) (nam t k) (elt t k) v=anyL (fun y=>evF m y v) (elt t k) (nL (elt t k))):=by show _=_;unfold evC;rw [if_neg (by rw [hx];decide),if_pos hx]
    rw [← HE.out] at HC
    have hm:=meth_one l wr
    clear hl hx HE
    generalize evC (evF m) (nam t k) (elt t k) v=r at HC HA HA2
    go_wp2_with fail
    refine HC.out.mono ?_
    rintro e w2 ⟨rfl,b2⟩
    have HB4:=hid (HB.out.trans (b2.mono (by omega)))
    clear b2 HC
    cases r with
    | true =>
     go_wp2_with fail
     go_roundg (nK t - (k+1))
     case rel=>exact ⟨k+1,rfl,by omega,by go_num,HB4,HA⟩
     case measure=>omega
    | false =>
     have HA3:=hid (HA2.out rfl)
     have HB5:=hid (((Below.refl w.heap.size w).alloc (Nat.le_refl _) (.cells #[.int .i64 (kindOf v),.int .i64 (nOf v),.string (sOf v),.slice La (nL v) Lc,.slice Ka (nK v) Kc] 36)).trans (HB4.out.mono (by omega)))
     clear HA2
     go_wp2_with fail
     go_ret
     exact ⟨ret_bool (by rw [HA3.out]),HB5.out⟩
   ·have HC:=hid (noneHold_any HL.out m HIh.out l (elt t k) f _ v wr (hl.keep Hbw.out (FilAt.keep Hbw.out m)) HVr.out hf HKv.out HTr.out)
    have HE:Hid (evC (evF m) (nam t k) (elt t k) v=!(anyL (fun y=>evF m y v) (elt t k) (nL (elt t k)))):=by show _=_;unfold evC;rw [if_neg (by rw [hx];decide),if_neg (by rw [hx];decide),if_pos hx]
    rw [← HE.out] at HC
    have hm:=meth_none l wr
    clear hl hx HE
    generalize evC (evF m) (nam t k) (elt t k) v=r at HC HA HA2
    go_wp2_with fail
    refine HC.out.mono ?_
    rintro e w2 ⟨rfl,b2⟩
    have HB4:=hid (HB.out.trans (b2.mono (by omega)))
    clear b2 HC
    cases r with
    | true =>
     go_wp2_with fail
     go_roundg (nK t - (k+1))
     case rel=>exact ⟨k+1,rfl,by omega,by go_num,HB4,HA⟩
     case measure=>omega
    | false =>
     have HA3:=hid (HA2.out rfl)
     have HB5:=hid (((Below.refl w.heap.size w).alloc (Nat.le_refl _) (.cells #[.int .i64 (kindOf v),.int .i64 (nOf v),.string (sOf v),.slice La (nL v) Lc,.slice Ka (nK v) Kc] 36)).trans (HB4.out.mono (by omega)))
     clear HA2
     go_wp2_with fail
     go_ret
     exact ⟨ret_bool (by rw [HA3.out]),HB5.out⟩
   ·have HC:=hid (valueHas_any HAt.out HIt.out HL.out (nam t k) (elt t k) pv tv f _ v wr (hpv.keep Hbw.out) (htv.keep Hbw.out) HVr.out hf HKv.out HTr.out)
    have HE:Hid (evC (evF m) (nam t k) (elt t k) v=evP (splitP (nam t k)) (exps (elt t k)) v):=by show _=_;unfold evC;rw [if_neg hx.1,if_neg hx.2.1,if_neg hx.2.2]
    rw [← HE.out] at HC
    have hm:=meth_has (.agg #[pv,tv]) wr
    clear hpv htv hx HE
    generalize evC (evF m) (nam t k) (elt t k) v=r at HC HA HA2
    go_wp2_with fail
    refine HC.out.mono ?_
    rintro e w2 ⟨rfl,b2⟩
    have HB4:=hid (HB.out.trans (b2.mono (by omega)))
    clear b2 HC
    cases r with
    | true =>
     go_wp2_with fail
     go_roundg (nK t - (k+1))
     case rel=>exact ⟨k+1,rfl,by omega,by go_num,HB4,HA⟩
     case measure=>omega
    | false =>
     have HA3:=hid (HA2.out rfl)
     have HB5:=hid (((Below.refl w.heap.size w).alloc (Nat.le_refl _) (.cells #[.int .i64 (kindOf v),.int .i64 (nOf v),.string (sOf v),.slice La (nL v) Lc,.slice Ka (nK v) Kc] 36)).trans (HB4.out.mono (by omega)))
     clear HA2
     go_wp2_with fail
     go_ret
     exact ⟨ret_bool (by rw [HA3.out]),HB5.out⟩
  ·obtain rfl:k=nK t:=by omega
   go_wp2_with fail
   go_ret
   exact ⟨ret_bool (by rw [evF,HN.out]),Hbw.out⟩
theorem fil_any {Tb:World→Prop} (hA:AtoiSaid Tb) (hI:ItoaSaid Tb) (hL:Lies Tb):∀ m,FilSaid Tb m
 | 0=>fun _ _ _ _ _ _ h=>h.elim
 | m+1=>fil_step hA hI hL m (fil_any hA hI hL m)
end Go.Proofs.YtknakfpciccoaabGreatDoor
