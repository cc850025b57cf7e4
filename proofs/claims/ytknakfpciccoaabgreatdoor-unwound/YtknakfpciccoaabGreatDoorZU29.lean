import Derived.Test.YtknakfpciccoaabGreatDoorZU25
/- What groups gather: sums; what replaces what. -/
namespace Go.Proofs.YtknakfpciccoaabGreatDoor
open Go.RowKit
def fits64 (n:Int):Prop:=-9223372036854775808≤n∧n≤9223372036854775807
instance (n : Int) : Decidable (fits64 n) := by unfold fits64; infer_instance
theorem wrap_out {a b:Int} (h0:fits64 a) (h1:fits64 b) (h:¬ fits64 (a+b)):(0<b∧IntKind.i64.wrap (a+b)<a)∨(b<0∧a<IntKind.i64.wrap (a+b)):=by
 rw [IntKind.wrap_i64]
 unfold fits64 at *
 omega
set_option maxHeartbeats 4000000 in
set_option maxRecDepth 100000 in
theorem add64_any (a b:Int) (w:World) (h0:fits64 a) (h1:fits64 b):Calls Tryz.prog 194 #[.int .i64 a,.int .i64 b] w fun e w'=>w'=w∧∃ s,e=.returned (.tuple #[.int .i64 s,.bool (decide (fits64 (a+b)))])∧(fits64 (a+b)→s=a+b):=by
 by_cases h:fits64 (a+b)
 ·have hw:IntKind.i64.wrap (a+b)=a+b:=by rw [IntKind.wrap_i64];unfold fits64 at *;omega
  have hd:decide (fits64 (a+b))=true:=decide_eq_true h
  rw [hd]
  clear hd h h0 h1
  by_cases hb:0<b
  ·have y1:a<a+b:=by omega
   go_enter Tryz.func194,Tryz.ntmps194
   go_wp2_with fail
   refine bodyPost_ret (v:=.tuple #[.int .i64 (a+b),.bool true]) (by simp [results,Tryz.results194,go_sem, *]) rfl ?_
   exact ⟨rfl,a+b,rfl,fun _=>rfl⟩
  ·have y1:¬ a<a+b:=by omega
   go_enter Tryz.func194,Tryz.ntmps194
   go_wp2_with fail
   refine bodyPost_ret (v:=.tuple #[.int .i64 (a+b),.bool true]) (by simp [results,Tryz.results194,go_sem, *]) rfl ?_
   exact ⟨rfl,a+b,rfl,fun _=>rfl⟩
 ·have hd:decide (fits64 (a+b))=false:=decide_eq_false h
  rw [hd]
  have Hh:=hid h
  have hww:=wrap_out h0 h1 h
  generalize hs:IntKind.i64.wrap (a+b)=s at hww
  clear hd h h0 h1
  rcases hww with ⟨hb,y1⟩ | ⟨hb,y1⟩
  ·have y2:¬ a<s:=by omega
   clear y1
   go_enter Tryz.func194,Tryz.ntmps194
   go_wp2_with fail
   refine bodyPost_ret (v:=.tuple #[.int .i64 s,.bool false]) (by simp [results,Tryz.results194,go_sem, *]) rfl ?_
   exact ⟨rfl,s,rfl,fun h=>absurd h Hh.out⟩
  ·have y2:¬ 0<b:=by omega
   clear hb
   go_enter Tryz.func194,Tryz.ntmps194
   go_wp2_with fail
   refine bodyPost_ret (v:=.tuple #[.int .i64 s,.bool false]) (by simp [results,Tryz.results194,go_sem, *]) rfl ?_
   exact ⟨rfl,s,rfl,fun h=>absurd h Hh.out⟩
def sumE (s v:T):Int⊕Int:=if kindOf v=3 then (if fits64 (nOf s+nOf v) then .inr (nOf s+nOf v) else .inl 14) else .inl 13
set_option maxHeartbeats 8000000 in
set_option maxRecDepth 100000 in
theorem sum_any (s v:T) (A C La Ka:Option Addr) (B D Lc Kc:Nat) (w:World) (h0:fits64 (nOf s)) (h1:fits64 (nOf v)) :
  Calls Tryz.prog 244 #[.agg #[.int .i64 (kindOf s),.int .i64 (nOf s),.string (sOf s),.slice A (nL s) B,.slice C (nK s) D],.agg #[.int .i64 (kindOf v),.int .i64 (nOf v),.string (sOf v),.slice La (nL v) Lc,.slice Ka (nK v) Kc]] w fun e w'=>Below w.heap.size w w'∧((∃ x,sumE s v=.inl x∧x≠0∧e=.returned (.tuple #[.agg #[.int .i64 0,.int .i64 0,.string ⟨#[]⟩,.slice none 0 0,.slice none 0 0],.int .i64 x]))∨∃ n,sumE s v=.inr n∧e=.returned (.tuple #[.agg #[.int .i64 3,.int .i64 n,.string ⟨#[]⟩,.slice none 0 0,.slice none 0 0],.int .i64 0])):=by
 have HB1:Hid (Below w.heap.size w (((w.alloc (.cells #[.int .i64 (kindOf s),.int .i64 (nOf s),.string (sOf s),.slice A (nL s) B,.slice C (nK s) D] 36)).alloc (.cells #[.int .i64 (kindOf v),.int .i64 (nOf v),.string (sOf v),.slice La (nL v) Lc,.slice Ka (nK v) Kc] 36)).alloc (.cells #[.int .i64 0,.int .i64 0,.string ⟨#[]⟩,.slice none 0 0,.slice none 0 0] 36))):=(((Below.refl _ _).alloc (Nat.le_refl _) _).alloc (by simp) _).alloc (by simp;omega) _
 have HC:=hid (fun w'=>add64_any (nOf s) (nOf v) w' h0 h1)
 by_cases k3:kindOf v=3
 ·have HS:Hid (sumE s v=if fits64 (nOf s+nOf v) then .inr (nOf s+nOf v) else .inl 14):=by show _=_;unfold sumE;rw [if_pos k3]
  have e3:(kindOf v==3)=true:=by simpa using k3
  clear k3 h0 h1
  by_cases hf:fits64 (nOf s+nOf v)
  ·rw [decide_eq_true hf] at HC
   have Hf:=hid hf
   have HBf:Hid (∀ n,Below w.heap.size w (((w.alloc (.cells #[.int .i64 (kindOf s),.int .i64 (nOf s),.string (sOf s),.slice A (nL s) B,.slice C (nK s) D] 36)).alloc (.cells #[.int .i64 (kindOf v),.int .i64 (nOf v),.string (sOf v),.slice La (nL v) Lc,.slice Ka (nK v) Kc] 36)).alloc (.cells #[.int .i64 3,.int .i64 n,.string ⟨#[]⟩,.slice none 0 0,.slice none 0 0] 36))):=fun n=>(((Below.refl _ _).alloc (Nat.le_refl _) _).alloc (by simp) _).alloc (by simp;omega) _
   clear hf
   go_enter Tryz.func244,Tryz.ntmps244
   go_wp2_with fail
   refine (HC.out _).mono ?_
   rintro e w2 ⟨rfl,n,rfl,hn⟩
   have Hn:=hid (hn Hf.out)
   clear hn HC
   go_wp2_with fail
   refine bodyPost_ret (v:=.tuple #[.agg #[.int .i64 3,.int .i64 n,.string ⟨#[]⟩,.slice none 0 0,.slice none 0 0],.int .i64 0]) (by simp [results,Tryz.results244,go_sem]) rfl ?_
   exact ⟨HBf.out n,.inr ⟨n,by rw [HS.out,if_pos Hf.out,Hn.out],rfl⟩⟩
  ·rw [decide_eq_false hf] at HC
   have Hf:=hid hf
   clear hf
   go_enter Tryz.func244,Tryz.ntmps244
   go_wp2_with fail
   refine (HC.out _).mono ?_
   rintro e w2 ⟨rfl,n,rfl,hn⟩
   clear hn HC
   go_wp2_with fail
   refine bodyPost_ret (v:=.tuple #[.agg #[.int .i64 0,.int .i64 0,.string ⟨#[]⟩,.slice none 0 0,.slice none 0 0],.int .i64 14]) (by simp [results,Tryz.results244,go_sem]) rfl ?_
   exact ⟨HB1.out,.inl ⟨14,by rw [HS.out,if_neg Hf.out],by omega,rfl⟩⟩
 ·have HS:Hid (sumE s v=.inl 13):=by show _=_;unfold sumE;rw [if_neg k3]
  have e3:(kindOf v==3)=false:=by simpa using k3
  clear k3 h0 h1 HC
  go_enter Tryz.func244,Tryz.ntmps244
  go_wp2_with fail
  refine bodyPost_ret (v:=.tuple #[.agg #[.int .i64 0,.int .i64 0,.string ⟨#[]⟩,.slice none 0 0,.slice none 0 0],.int .i64 13]) (by simp [results,Tryz.results244,go_sem]) rfl ?_
  exact ⟨HB1.out,.inl ⟨13,HS.out,by omega,rfl⟩⟩
end Go.Proofs.YtknakfpciccoaabGreatDoor
/- What an entry of a group makes of what was gathered and a document: all but lists. -/
namespace Go.Proofs.YtknakfpciccoaabGreatDoor
open Go.RowKit
def gSum:ByteArray:=⟨#[36,115,117,109]⟩
def gMin:ByteArray:=⟨#[36,109,105,110]⟩
def gMax:ByteArray:=⟨#[36,109,97,120]⟩
def gFirst:ByteArray:=⟨#[36,102,105,114,115,116]⟩
def gLast:ByteArray:=⟨#[36,108,97,115,116]⟩
def gList:ByteArray:=⟨#[36,108,105,115,116]⟩
def repE (op:ByteArray) (s v:T):Bool:=if op=gMin then decide (cmpT 16 v s<0) else if op=gMax then decide (0<cmpT 16 v s) else op==gLast
set_option maxHeartbeats 8000000 in
set_option maxRecDepth 100000 in
theorem replaces_any (op:ByteArray) (hop:op=gMin∨op=gMax∨op=gFirst∨op=gLast) (ty:TypeId) (p:Value) (s v:T) (A C La Ka:Option Addr) (B D Lc Kc:Nat) (w:World) (hs:At w 13 (.agg #[.int .i64 (kindOf s),.int .i64 (nOf s),.string (sOf s),.slice A (nL s) B,.slice C (nK s) D]) s) (ks:okA s) (hv:At w 13 (.agg #[.int .i64 (kindOf v),.int .i64 (nOf v),.string (sOf v),.slice La (nL v) Lc,.slice Ka (nK v) Kc]) v) (kv:okA v) :
  Calls Tryz.prog 245 #[.agg #[.string op,.iface ty p],.agg #[.int .i64 (kindOf s),.int .i64 (nOf s),.string (sOf s),.slice A (nL s) B,.slice C (nK s) D],.agg #[.int .i64 (kindOf v),.int .i64 (nOf v),.string (sOf v),.slice La (nL v) Lc,.slice Ka (nK v) Kc]] w fun e w'=>e=.returned (.bool (repE op s v))∧Below w.heap.size w w':=by
 have HB1:Hid (Below w.heap.size w (((w.alloc (.cells #[.string op,.iface ty p] 239)).alloc (.cells #[.int .i64 (kindOf s),.int .i64 (nOf s),.string (sOf s),.slice A (nL s) B,.slice C (nK s) D] 36)).alloc (.cells #[.int .i64 (kindOf v),.int .i64 (nOf v),.string (sOf v),.slice La (nL v) Lc,.slice Ka (nK v) Kc] 36))):=(((Below.refl _ _).alloc (Nat.le_refl _) _).alloc (by simp) _).alloc (by simp;omega) _
 have HC:=hid (compare16 (hv.keep HB1.out) (hs.keep HB1.out) (by omega) kv ks)
 clear hs hv ks kv
 rcases hop with h | h | h | h
 ·have HR:Hid (repE op s v=decide (cmpT 16 v s<0)):=by show _=_;unfold repE;rw [if_pos h]
  subst h
  generalize cmpT 16 v s=cc at HC HR
  unfold gMin at *
  go_enter Tryz.func245,Tryz.ntmps245
  go_wp2_with fail
  refine HC.out.mono ?_
  rintro e w2 ⟨rfl,b2⟩
  have HB2:=hid (HB1.out.trans (b2.mono HB1.out.size))
  clear b2 HC
  go_wp2_with fail
  go_ret
  exact ⟨by rw [HR.out];rfl,HB2.out⟩
 ·have HR:Hid (repE op s v=decide (0<cmpT 16 v s)):=by show _=_;unfold repE;rw [if_neg (by rw [h];decide),if_pos h]
  subst h
  generalize cmpT 16 v s=cc at HC HR
  unfold gMax at *
  go_enter Tryz.func245,Tryz.ntmps245
  go_wp2_with fail
  refine HC.out.mono ?_
  rintro e w2 ⟨rfl,b2⟩
  have HB2:=hid (HB1.out.trans (b2.mono HB1.out.size))
  clear b2 HC
  go_wp2_with fail
  go_ret
  exact ⟨by rw [HR.out];rfl,HB2.out⟩
 ·have HR:Hid (repE op s v=false):=by show _=_;unfold repE;rw [h,if_neg (by decide),if_neg (by decide)];decide
  subst h
  rw [HR.out]
  unfold gFirst at *
  clear HC
  go_enter Tryz.func245,Tryz.ntmps245
  go_wp2_with fail
  go_ret
  exact ⟨rfl,HB1.out⟩
 ·have HR:Hid (repE op s v=true):=by show _=_;unfold repE;rw [h,if_neg (by decide),if_neg (by decide)];decide
  subst h
  rw [HR.out]
  unfold gLast at *
  clear HC
  go_enter Tryz.func245,Tryz.ntmps245
  go_wp2_with fail
  go_ret
  exact ⟨rfl,HB1.out⟩
end Go.Proofs.YtknakfpciccoaabGreatDoor
/- The walk of an entry's add: sums. -/
namespace Go.Proofs.YtknakfpciccoaabGreatDoor
open Go.RowKit
def accV (op:ByteArray) (s v:T):Int⊕T :=
 if op=gSum then (match sumE s v with | .inl x=>.inl x | .inr n=>.inr (nT n)) else if kindOf s=0∨repE op s v=true then .inr v else .inr s
def accG (g:T→Int⊕T) (op:ByteArray) (s doc:T):Int⊕T:=match g doc with
 | .inl x=>.inl x
 | .inr v=>accV op s v
def AdPost (w0:World) (r:Int⊕T) (w:World) (e:Ending) (w':World):Prop :=
 Below w.heap.size w w'∧((∃ x,r=.inl x∧x≠0∧e=.returned (.tuple #[.agg #[.int .i64 0,.int .i64 0,.string ⟨#[]⟩,.slice none 0 0,.slice none 0 0],.int .i64 x]))∨∃ t A B C D,r=.inr t∧e=.returned (.tuple #[.agg #[.int .i64 (kindOf t),.int .i64 (nOf t),.string (sOf t),.slice A (nL t) B,.slice C (nK t) D],.int .i64 0])∧At w0 13 (.agg #[.int .i64 (kindOf t),.int .i64 (nOf t),.string (sOf t),.slice A (nL t) B,.slice C (nK t) D]) t∧(kindOf t≠0→okA t))
theorem num_at (w:World) {n:Int} (h:fits64 n):At w 13 (.agg #[.int .i64 3,.int .i64 n,.string ⟨#[]⟩,.slice none 0 0,.slice none 0 0]) (nT n):=by
 have h1:At w 1 (.agg #[.int .i64 3,.int .i64 n,.string ⟨#[]⟩,.slice none 0 0,.slice none 0 0]) (nT n):=by
  refine ⟨none,none,0,0,rfl,⟨by show -9223372036854775808≤(3:Int);omega,by show (3:Int)≤9223372036854775807;omega,h.1,h.2,?_,?_,?_⟩,fun i hi=>absurd hi (Nat.not_lt_zero i),fun i hi=>absurd hi (Nat.not_lt_zero i)⟩
  ·show (0:Nat)≤_;omega
  ·show (0:Nat)≤_;omega
  ·show (0:Nat)≤_;omega
 exact h1.up (by omega)
theorem num_okA (n:Int):okA (nT n):=good_okA (m:=0) (show leafGood (nT n) from ⟨rfl,rfl,.inr (.inr (.inl ⟨rfl,noText_mk 3 n [] []⟩))⟩) (by show leafBytes (nT n)≤_;unfold leafBytes;rw [if_neg (by show ¬ (3:Int)=1;omega),if_neg (by show ¬ (3:Int)=2;omega),if_pos (by rfl)];omega)
structure AdB (op:ByteArray) (ty:TypeId) (p:Value) (s:T) (A C:Option Addr) (B D:Nat) (b:Nat) (w:World):Prop where
 e0:w.cell? ⟨b,0,none⟩=some (.string op)
 e1:w.cell? ⟨b,1,none⟩=some (.iface ty p)
 s:BoxAt (b+1) (.int .i64 (kindOf s)) (.int .i64 (nOf s)) (.string (sOf s)) (.slice A (nL s) B) (.slice C (nK s) D) w
 r:BoxAt (b+3) (.int .i64 0) (.int .i64 0) (.string ⟨#[]⟩) (.slice none 0 0) (.slice none 0 0) w
theorem AdB.keep {op:ByteArray} {ty:TypeId} {p:Value} {s:T} {A C:Option Addr} {B D b:Nat} {w w':World} (h:AdB op ty p s A C B D b w) (hb:Below w.heap.size w w'):AdB op ty p s A C B D b w' :=
 have hl:b<w.heap.size:=by have:=h.s.lt;omega
 ⟨(hb.cell (p:=⟨b,0,none⟩) hl).trans h.e0,(hb.cell (p:=⟨b,1,none⟩) hl).trans h.e1,h.s.stay hb,h.r.stay hb⟩
theorem AdB.new (op:ByteArray) (ty:TypeId) (p:Value) (s doc:T) (A C La Ka:Option Addr) (B D Lc Kc:Nat) (w:World):AdB op ty p s A C B D w.heap.size ((((w.alloc (.cells #[.string op,.iface ty p] 239)).alloc (.cells #[.int .i64 (kindOf s),.int .i64 (nOf s),.string (sOf s),.slice A (nL s) B,.slice C (nK s) D] 36)).alloc (.cells #[.int .i64 (kindOf doc),.int .i64 (nOf doc),.string (sOf doc),.slice La (nL doc) Lc,.slice Ka (nK doc) Kc] 36)).alloc (.cells #[.int .i64 0,.int .i64 0,.string ⟨#[]⟩,.slice none 0 0,.slice none 0 0] 36))∧Below w.heap.size w ((((w.alloc (.cells #[.string op,.iface ty p] 239)).alloc (.cells #[.int .i64 (kindOf s),.int .i64 (nOf s),.string (sOf s),.slice A (nL s) B,.slice C (nK s) D] 36)).alloc (.cells #[.int .i64 (kindOf doc),.int .i64 (nOf doc),.string (sOf doc),.slice La (nL doc) Lc,.slice Ka (nK doc) Kc] 36)).alloc (.cells #[.int .i64 0,.int .i64 0,.string ⟨#[]⟩,.slice none 0 0,.slice none 0 0] 36)):=by
 refine ⟨⟨by simp [go_sem],by simp [go_sem],?_,?_⟩,((((Below.refl _ _).alloc (Nat.le_refl _) _).alloc (by simp) _).alloc (by simp;omega) _).alloc (by simp;omega) _⟩
 ·constructor<;>simp [go_sem]
 ·constructor<;>simp [go_sem]
set_option maxHeartbeats 8000000 in
set_option maxRecDepth 100000 in
theorem addSum_any {Tb:World→Prop} (op:ByteArray) (hop:op=gSum) (ty:TypeId) (p:Value) (fid:FuncId) (hm:∀ w':World,(method 419 ty p "Of").run Tryz.prog w'=.ok (fid,p) w') (hcall:∀ (a:Array Value) (w':World),(callFunc fid a).run Tryz.prog w'=.ok (.enter fid a) w') (g:T→Int⊕T) (w0:World)
  (hbeh:∀ (wr:World) (x:Value) (doc:T),Below w0.heap.size w0 wr→At w0 13 x doc→okA doc→Tb wr→Calls Tryz.prog fid #[p,x] wr (EvPost w0 g doc wr)) (s doc:T) (A C:Option Addr) (B D:Nat) (x:Value) (w:World) (hb0:Below w0.heap.size w0 w) (hs:At w0 13 (.agg #[.int .i64 (kindOf s),.int .i64 (nOf s),.string (sOf s),.slice A (nL s) B,.slice C (nK s) D]) s) (hd:At w0 13 x doc) (hok:okA doc) (hT:∀ w',Below w.heap.size w w'→Tb w') :
  Calls Tryz.prog 241 #[.agg #[.string op,.iface ty p],.agg #[.int .i64 (kindOf s),.int .i64 (nOf s),.string (sOf s),.slice A (nL s) B,.slice C (nK s) D],x] w (AdPost w0 (accG g op s doc) w):=by
 have Hs:=hid hs
 have h64:fits64 (nOf s):=by obtain ⟨_,_,_,_,_,_,_,hf,_,_⟩:=hs.open;exact ⟨hf.n0,hf.n1⟩
 obtain ⟨g1,La,Ka,Lc,Kc,hg1,hx,_,_,_⟩:=hd.open
 have HN:=hid (AdB.new op ty p s doc A C La Ka B D Lc Kc w)
 have HC:=hid (hbeh _ x doc (hb0.trans (HN.out.2.mono hb0.size)) hd hok (hT _ HN.out.2))
 have hmw:=hm ((((w.alloc (.cells #[.string op,.iface ty p] 239)).alloc (.cells #[.int .i64 (kindOf s),.int .i64 (nOf s),.string (sOf s),.slice A (nL s) B,.slice C (nK s) D] 36)).alloc (.cells #[.int .i64 (kindOf doc),.int .i64 (nOf doc),.string (sOf doc),.slice La (nL doc) Lc,.slice Ka (nK doc) Kc] 36)).alloc (.cells #[.int .i64 0,.int .i64 0,.string ⟨#[]⟩,.slice none 0 0,.slice none 0 0] 36))
 subst hx
 clear hd hok hg1 hm hbeh
 have Hop:=hid hop
 have HH64:=hid h64
 subst hop
 clear h64 hs
 unfold gSum at *
 go_enter Tryz.func241,Tryz.ntmps241
 go_wp2_with fail
 refine HC.out.mono ?_
 rintro e w5 ⟨b5,⟨er,hg,hne,rfl⟩ | ⟨t,A2,B2,C2,D2,hg,rfl,ha,hk⟩⟩
 ·have ez:(er==0)=false:=by simpa using hne
  have HF:Hid (accG g ⟨#[36,115,117,109]⟩ s doc=.inl er∧er≠0):=⟨by unfold accG;rw [hg],hne⟩
  have HA5:=hid (HN.out.1.keep b5)
  have HBz:Hid (Below w5.heap.size w5 (w5.alloc (.cells #[.int .i64 0,.int .i64 0,.string ⟨#[]⟩,.slice none 0 0,.slice none 0 0] 36))):=(Below.refl _ _).alloc (Nat.le_refl _) _
  have HB5:=hid (HN.out.2.trans (b5.mono HN.out.2.size))
  have HR:=hid (HA5.out.r.stay HBz.out)
  have HO:=hid (HR.out.put5 (.int .i64 0) (.int .i64 0) (.string ⟨#[]⟩) (.slice none 0 0) (.slice none 0 0))
  have HBf:=hid (below_res (HB5.out.trans (HBz.out.mono HB5.out.size)) (b:=w.heap.size+3) (by omega) (by have:=HR.out.lt;omega) (.int .i64 0) (.int .i64 0) (.string ⟨#[]⟩) (.slice none 0 0) (.slice none 0 0))
  unfold put5 at HO HBf
  clear b5 hg hne HC hmw HN
  have r0:=HR.out.q0
  have r1:=HR.out.q1
  have r2:=HR.out.q2
  have r3:=HR.out.q3
  have r4:=HR.out.q4
  have z0:=HR.out.f0
  have z1:=HR.out.f1
  have z2:=HR.out.f2
  have z3:=HR.out.f3
  have z4:=HR.out.f4
  go_wp2_with fail
  clear r0 r1 r2 r3 r4 z0 z1 z2 z3 z4
  have HO1:=hid HO.out
  have r0:=HO1.out.q0
  have r1:=HO1.out.q1
  have r2:=HO1.out.q2
  have r3:=HO1.out.q3
  have r4:=HO1.out.q4
  refine bodyPost_ret (v:=.tuple #[.agg #[.int .i64 0,.int .i64 0,.string ⟨#[]⟩,.slice none 0 0,.slice none 0 0],.int .i64 er]) (by simp [results,Tryz.results241,go_sem, *]) rfl ?_
  exact ⟨HBf.out,.inl ⟨er,HF.out.1,HF.out.2,rfl⟩⟩
 ·have HA5:=hid (HN.out.1.keep b5)
  have HBz:Hid (Below w5.heap.size w5 (w5.alloc (.cells #[.int .i64 (kindOf t),.int .i64 (nOf t),.string (sOf t),.slice A2 (nL t) B2,.slice C2 (nK t) D2] 36))):=(Below.refl _ _).alloc (Nat.le_refl _) _
  have HB5:=hid (HN.out.2.trans (b5.mono HN.out.2.size))
  have HA6:=hid (HA5.out.keep HBz.out)
  have t64:fits64 (nOf t):=by obtain ⟨_,_,_,_,_,_,_,hf,_,_⟩:=ha.open;exact ⟨hf.n0,hf.n1⟩
  have HSm:=hid (sum_any s t A C A2 C2 B D B2 D2 (w5.alloc (.cells #[.int .i64 (kindOf t),.int .i64 (nOf t),.string (sOf t),.slice A2 (nL t) B2,.slice C2 (nK t) D2] 36)) HH64.out t64)
  have HG:Hid (accG g ⟨#[36,115,117,109]⟩ s doc=match sumE s t with | .inl x=>.inl x | .inr n=>.inr (nT n)):=by show _=_;unfold accG;rw [hg];show accV _ s t=_;unfold accV;rw [if_pos (by rfl)]
  have HFit:Hid (∀ n,sumE s t=.inr n→fits64 n):=fun n hn=>by
   unfold sumE at hn
   split at hn
   ·split at hn
    ·simp only [Sum.inr.injEq] at hn;subst hn;assumption
    ·cases hn
   ·cases hn
  have e0:=HA6.out.e0
  have HS6:=hid HA6.out.s
  have y0:=HS6.out.q0
  have y1:=HS6.out.q1
  have y2:=HS6.out.q2
  have y3:=HS6.out.q3
  have y4:=HS6.out.q4
  clear b5 hg ha hk t64 HC hmw HN HA5
  go_wp2_with fail
  refine HSm.out.mono ?_
  rintro e w7 ⟨b7,⟨er,h1,hne,rfl⟩ | ⟨n,h1,rfl⟩⟩
  ·have HR:=hid (HA6.out.r.stay b7)
   have HB7:=hid ((HB5.out.trans (HBz.out.mono HB5.out.size)).trans (b7.mono (HB5.out.trans (HBz.out.mono HB5.out.size)).size))
   have HO:=hid (HR.out.put5 (.int .i64 0) (.int .i64 0) (.string ⟨#[]⟩) (.slice none 0 0) (.slice none 0 0))
   have HBf:=hid (below_res HB7.out (b:=w.heap.size+3) (by omega) (by have:=HR.out.lt;omega) (.int .i64 0) (.int .i64 0) (.string ⟨#[]⟩) (.slice none 0 0) (.slice none 0 0))
   have HF:Hid (accG g ⟨#[36,115,117,109]⟩ s doc=.inl er∧er≠0):=⟨by rw [HG.out,h1],hne⟩
   unfold put5 at HO HBf
   clear b7 h1 hne HSm e0 y0 y1 y2 y3 y4
   have r0:=HR.out.q0
   have r1:=HR.out.q1
   have r2:=HR.out.q2
   have r3:=HR.out.q3
   have r4:=HR.out.q4
   have z0:=HR.out.f0
   have z1:=HR.out.f1
   have z2:=HR.out.f2
   have z3:=HR.out.f3
   have z4:=HR.out.f4
   go_wp2_with fail
   clear r0 r1 r2 r3 r4 z0 z1 z2 z3 z4
   have HO1:=hid HO.out
   have r0:=HO1.out.q0
   have r1:=HO1.out.q1
   have r2:=HO1.out.q2
   have r3:=HO1.out.q3
   have r4:=HO1.out.q4
   refine bodyPost_ret (v:=.tuple #[.agg #[.int .i64 0,.int .i64 0,.string ⟨#[]⟩,.slice none 0 0,.slice none 0 0],.int .i64 er]) (by simp [results,Tryz.results241,go_sem, *]) rfl ?_
   exact ⟨HBf.out,.inl ⟨er,HF.out.1,HF.out.2,rfl⟩⟩
  ·have HR:=hid (HA6.out.r.stay b7)
   have HB7:=hid ((HB5.out.trans (HBz.out.mono HB5.out.size)).trans (b7.mono (HB5.out.trans (HBz.out.mono HB5.out.size)).size))
   have HO:=hid (HR.out.put5 (.int .i64 3) (.int .i64 n) (.string ⟨#[]⟩) (.slice none 0 0) (.slice none 0 0))
   have HBf:=hid (below_res HB7.out (b:=w.heap.size+3) (by omega) (by have:=HR.out.lt;omega) (.int .i64 3) (.int .i64 n) (.string ⟨#[]⟩) (.slice none 0 0) (.slice none 0 0))
   have HF:Hid (accG g ⟨#[36,115,117,109]⟩ s doc=.inr (nT n)∧fits64 n):=⟨by rw [HG.out,h1],HFit.out n h1⟩
   unfold put5 at HO HBf
   clear b7 h1 HSm e0 y0 y1 y2 y3 y4
   have r0:=HR.out.q0
   have r1:=HR.out.q1
   have r2:=HR.out.q2
   have r3:=HR.out.q3
   have r4:=HR.out.q4
   have z0:=HR.out.f0
   have z1:=HR.out.f1
   have z2:=HR.out.f2
   have z3:=HR.out.f3
   have z4:=HR.out.f4
   go_wp2_with fail
   clear r0 r1 r2 r3 r4 z0 z1 z2 z3 z4
   have HO1:=hid HO.out
   have r0:=HO1.out.q0
   have r1:=HO1.out.q1
   have r2:=HO1.out.q2
   have r3:=HO1.out.q3
   have r4:=HO1.out.q4
   refine bodyPost_ret (v:=.tuple #[.agg #[.int .i64 3,.int .i64 n,.string ⟨#[]⟩,.slice none 0 0,.slice none 0 0],.int .i64 0]) (by simp [results,Tryz.results241,go_sem, *]) rfl ?_
   exact ⟨HBf.out,.inr ⟨nT n,none,0,none,0,HF.out.1,rfl,num_at _ HF.out.2,fun _=>num_okA n⟩⟩
end Go.Proofs.YtknakfpciccoaabGreatDoor
/- The walk of an entry's add: what is replaced. -/
namespace Go.Proofs.YtknakfpciccoaabGreatDoor
open Go.RowKit
set_option maxHeartbeats 8000000 in
set_option maxRecDepth 100000 in
theorem addRep_any {Tb:World→Prop} (op:ByteArray) (hop:op=gMin∨op=gMax∨op=gFirst∨op=gLast) (ty:TypeId) (p:Value) (fid:FuncId) (hm:∀ w':World,(method 419 ty p "Of").run Tryz.prog w'=.ok (fid,p) w') (hcall:∀ (a:Array Value) (w':World),(callFunc fid a).run Tryz.prog w'=.ok (.enter fid a) w') (g:T→Int⊕T) (w0:World)
  (hbeh:∀ (wr:World) (x:Value) (doc:T),Below w0.heap.size w0 wr→At w0 13 x doc→okA doc→Tb wr→Calls Tryz.prog fid #[p,x] wr (EvPost w0 g doc wr)) (s doc:T) (A C:Option Addr) (B D:Nat) (x:Value) (w:World) (hb0:Below w0.heap.size w0 w) (hs:At w0 13 (.agg #[.int .i64 (kindOf s),.int .i64 (nOf s),.string (sOf s),.slice A (nL s) B,.slice C (nK s) D]) s) (hks:kindOf s≠0→okA s) (hd:At w0 13 x doc) (hok:okA doc) (hT:∀ w',Below w.heap.size w w'→Tb w') :
  Calls Tryz.prog 241 #[.agg #[.string op,.iface ty p],.agg #[.int .i64 (kindOf s),.int .i64 (nOf s),.string (sOf s),.slice A (nL s) B,.slice C (nK s) D],x] w (AdPost w0 (accG g op s doc) w):=by
 have Hs:=hid hs
 have HKs:=hid hks
 obtain ⟨g1,La,Ka,Lc,Kc,hg1,hx,_,_,_⟩:=hd.open
 have HN:=hid (AdB.new op ty p s doc A C La Ka B D Lc Kc w)
 have HC:=hid (hbeh _ x doc (hb0.trans (HN.out.2.mono hb0.size)) hd hok (hT _ HN.out.2))
 have hmw:=hm ((((w.alloc (.cells #[.string op,.iface ty p] 239)).alloc (.cells #[.int .i64 (kindOf s),.int .i64 (nOf s),.string (sOf s),.slice A (nL s) B,.slice C (nK s) D] 36)).alloc (.cells #[.int .i64 (kindOf doc),.int .i64 (nOf doc),.string (sOf doc),.slice La (nL doc) Lc,.slice Ka (nK doc) Kc] 36)).alloc (.cells #[.int .i64 0,.int .i64 0,.string ⟨#[]⟩,.slice none 0 0,.slice none 0 0] 36))
 subst hx
 clear hd hok hg1 hm hbeh
 have Hop:=hid hop
 have HB0:=hid hb0
 have n1:(op.toList==[36,115,117,109])=false:=lit_no (b:=gSum) (by rcases hop with h | h | h | h<;>rw [h]<;>decide)
 have n2:(op.toList==[36,108,105,115,116])=false:=lit_no (b:=gList) (by rcases hop with h | h | h | h<;>rw [h]<;>decide)
 have HV:Hid (∀ t,accV op s t=if kindOf s=0∨repE op s t=true then .inr t else .inr s):=fun t=>by unfold accV;rw [if_neg (by rcases Hop.out with h | h | h | h<;>rw [h]<;>decide)]
 clear hs hks hop hb0
 go_enter Tryz.func241,Tryz.ntmps241
 go_wp2_with fail
 refine HC.out.mono ?_
 rintro e w5 ⟨b5,⟨er,hg,hne,rfl⟩ | ⟨t,A2,B2,C2,D2,hg,rfl,ha,hk⟩⟩
 ·have ez:(er==0)=false:=by simpa using hne
  have HF:Hid (accG g op s doc=.inl er∧er≠0):=⟨by unfold accG;rw [hg],hne⟩
  have HA5:=hid (HN.out.1.keep b5)
  have HBz:Hid (Below w5.heap.size w5 (w5.alloc (.cells #[.int .i64 0,.int .i64 0,.string ⟨#[]⟩,.slice none 0 0,.slice none 0 0] 36))):=(Below.refl _ _).alloc (Nat.le_refl _) _
  have HB5:=hid (HN.out.2.trans (b5.mono HN.out.2.size))
  have HR:=hid (HA5.out.r.stay HBz.out)
  have HO:=hid (HR.out.put5 (.int .i64 0) (.int .i64 0) (.string ⟨#[]⟩) (.slice none 0 0) (.slice none 0 0))
  have HBf:=hid (below_res (HB5.out.trans (HBz.out.mono HB5.out.size)) (b:=w.heap.size+3) (by omega) (by have:=HR.out.lt;omega) (.int .i64 0) (.int .i64 0) (.string ⟨#[]⟩) (.slice none 0 0) (.slice none 0 0))
  unfold put5 at HO HBf
  clear b5 hg hne HC hmw HN
  have r0:=HR.out.q0
  have r1:=HR.out.q1
  have r2:=HR.out.q2
  have r3:=HR.out.q3
  have r4:=HR.out.q4
  have z0:=HR.out.f0
  have z1:=HR.out.f1
  have z2:=HR.out.f2
  have z3:=HR.out.f3
  have z4:=HR.out.f4
  go_wp2_with fail
  clear r0 r1 r2 r3 r4 z0 z1 z2 z3 z4
  have HO1:=hid HO.out
  have r0:=HO1.out.q0
  have r1:=HO1.out.q1
  have r2:=HO1.out.q2
  have r3:=HO1.out.q3
  have r4:=HO1.out.q4
  refine bodyPost_ret (v:=.tuple #[.agg #[.int .i64 0,.int .i64 0,.string ⟨#[]⟩,.slice none 0 0,.slice none 0 0],.int .i64 er]) (by simp [results,Tryz.results241,go_sem, *]) rfl ?_
  exact ⟨HBf.out,.inl ⟨er,HF.out.1,HF.out.2,rfl⟩⟩
 ·have HA5:=hid (HN.out.1.keep b5)
  have HBz:Hid (Below w5.heap.size w5 (w5.alloc (.cells #[.int .i64 (kindOf t),.int .i64 (nOf t),.string (sOf t),.slice A2 (nL t) B2,.slice C2 (nK t) D2] 36))):=(Below.refl _ _).alloc (Nat.le_refl _) _
  have HB5:=hid (HN.out.2.trans (b5.mono HN.out.2.size))
  have HB6:=hid (HB5.out.trans (HBz.out.mono HB5.out.size))
  have HA6:=hid (HA5.out.keep HBz.out)
  have HY6:=hid (box_new w5 (.int .i64 (kindOf t)) (.int .i64 (nOf t)) (.string (sOf t)) (.slice A2 (nL t) B2) (.slice C2 (nK t) D2))
  have HG:Hid (accG g op s doc=if kindOf s=0∨repE op s t=true then .inr t else .inr s):=by show _=_;unfold accG;rw [hg];exact HV.out t
  have HAt:=hid (And.intro ha hk)
  have e0:=HA6.out.e0
  have e1:=HA6.out.e1
  have HS6:=hid HA6.out.s
  have y0:=HS6.out.q0
  have y1:=HS6.out.q1
  have y2:=HS6.out.q2
  have y3:=HS6.out.q3
  have y4:=HS6.out.q4
  clear b5 hg ha hk HC hmw HN HA5
  by_cases h0:kindOf s=0
  ·have ez:(kindOf s==0)=true:=by simpa using h0
   have HF:Hid (accG g op s doc=.inr t):=by show _=_;rw [HG.out,if_pos (.inl h0)]
   have HR:=hid HA6.out.r
   have HO:=hid (HR.out.put5 (.int .i64 (kindOf t)) (.int .i64 (nOf t)) (.string (sOf t)) (.slice A2 (nL t) B2) (.slice C2 (nK t) D2))
   have HBf:=hid (below_res HB6.out (b:=w.heap.size+3) (by omega) (by have:=HR.out.lt;omega) (.int .i64 (kindOf t)) (.int .i64 (nOf t)) (.string (sOf t)) (.slice A2 (nL t) B2) (.slice C2 (nK t) D2))
   unfold put5 at HO HBf
   clear h0
   have r0:=HR.out.q0
   have r1:=HR.out.q1
   have r2:=HR.out.q2
   have r3:=HR.out.q3
   have r4:=HR.out.q4
   have z0:=HR.out.f0
   have z1:=HR.out.f1
   have z2:=HR.out.f2
   have z3:=HR.out.f3
   have z4:=HR.out.f4
   go_wp2_with fail
   clear r0 r1 r2 r3 r4 z0 z1 z2 z3 z4
   have HO1:=hid HO.out
   have r0:=HO1.out.q0
   have r1:=HO1.out.q1
   have r2:=HO1.out.q2
   have r3:=HO1.out.q3
   have r4:=HO1.out.q4
   refine bodyPost_ret (v:=.tuple #[.agg #[.int .i64 (kindOf t),.int .i64 (nOf t),.string (sOf t),.slice A2 (nL t) B2,.slice C2 (nK t) D2],.int .i64 0]) (by simp [results,Tryz.results241,go_sem, *]) rfl ?_
   exact ⟨HBf.out,.inr ⟨t,A2,B2,C2,D2,HF.out,rfl,HAt.out.1,fun _=>HAt.out.2⟩⟩
  ·have ez:(kindOf s==0)=false:=by simpa using h0
   have HRp:=hid (replaces_any op Hop.out ty p s t A C A2 C2 B D B2 D2 (w5.alloc (.cells #[.int .i64 (kindOf t),.int .i64 (nOf t),.string (sOf t),.slice A2 (nL t) B2,.slice C2 (nK t) D2] 36)) (Hs.out.keep (HB0.out.trans (HB6.out.mono HB0.out.size))) (HKs.out h0) (HAt.out.1.keep (HB0.out.trans (HB6.out.mono HB0.out.size))) HAt.out.2)
   have HG2:Hid (accG g op s doc=if repE op s t=true then .inr t else .inr s):=by show _=_;rw [HG.out];simp [h0]
   have HK2:=hid (HKs.out h0)
   clear h0 HG
   cases hr:repE op s t with
   | true =>
    rw [hr] at HRp HG2
    have HF:Hid (accG g op s doc=.inr t):=HG2.out
    clear hr HG2
    go_wp2_with fail
    refine HRp.out.mono ?_
    rintro e w7 ⟨rfl,b7⟩
    have HR:=hid (HA6.out.r.stay b7)
    have HY7:=hid (HY6.out.stay b7)
    have HB7:=hid (HB6.out.trans (b7.mono HB6.out.size))
    have HO:=hid (HR.out.put5 (.int .i64 (kindOf t)) (.int .i64 (nOf t)) (.string (sOf t)) (.slice A2 (nL t) B2) (.slice C2 (nK t) D2))
    have HBf:=hid (below_res HB7.out (b:=w.heap.size+3) (by omega) (by have:=HR.out.lt;omega) (.int .i64 (kindOf t)) (.int .i64 (nOf t)) (.string (sOf t)) (.slice A2 (nL t) B2) (.slice C2 (nK t) D2))
    unfold put5 at HO HBf
    clear b7 HRp y0 y1 y2 y3 y4 e0 e1
    have u0:=HY7.out.q0
    have u1:=HY7.out.q1
    have u2:=HY7.out.q2
    have u3:=HY7.out.q3
    have u4:=HY7.out.q4
    have r0:=HR.out.q0
    have r1:=HR.out.q1
    have r2:=HR.out.q2
    have r3:=HR.out.q3
    have r4:=HR.out.q4
    have z0:=HR.out.f0
    have z1:=HR.out.f1
    have z2:=HR.out.f2
    have z3:=HR.out.f3
    have z4:=HR.out.f4
    go_wp2_with fail
    clear r0 r1 r2 r3 r4 z0 z1 z2 z3 z4
    have HO1:=hid HO.out
    have r0:=HO1.out.q0
    have r1:=HO1.out.q1
    have r2:=HO1.out.q2
    have r3:=HO1.out.q3
    have r4:=HO1.out.q4
    refine bodyPost_ret (v:=.tuple #[.agg #[.int .i64 (kindOf t),.int .i64 (nOf t),.string (sOf t),.slice A2 (nL t) B2,.slice C2 (nK t) D2],.int .i64 0]) (by simp [results,Tryz.results241,go_sem, *]) rfl ?_
    exact ⟨HBf.out,.inr ⟨t,A2,B2,C2,D2,HF.out,rfl,HAt.out.1,fun _=>HAt.out.2⟩⟩
   | false =>
    rw [hr] at HRp HG2
    have HF:Hid (accG g op s doc=.inr s):=HG2.out
    clear hr HG2
    go_wp2_with fail
    refine HRp.out.mono ?_
    rintro e w7 ⟨rfl,b7⟩
    have HR:=hid (HA6.out.r.stay b7)
    have HS7:=hid (HA6.out.s.stay b7)
    have HB7:=hid (HB6.out.trans (b7.mono HB6.out.size))
    have HO:=hid (HR.out.put5 (.int .i64 (kindOf s)) (.int .i64 (nOf s)) (.string (sOf s)) (.slice A (nL s) B) (.slice C (nK s) D))
    have HBf:=hid (below_res HB7.out (b:=w.heap.size+3) (by omega) (by have:=HR.out.lt;omega) (.int .i64 (kindOf s)) (.int .i64 (nOf s)) (.string (sOf s)) (.slice A (nL s) B) (.slice C (nK s) D))
    unfold put5 at HO HBf
    clear b7 HRp y0 y1 y2 y3 y4 e0 e1
    have u0:=HS7.out.q0
    have u1:=HS7.out.q1
    have u2:=HS7.out.q2
    have u3:=HS7.out.q3
    have u4:=HS7.out.q4
    have r0:=HR.out.q0
    have r1:=HR.out.q1
    have r2:=HR.out.q2
    have r3:=HR.out.q3
    have r4:=HR.out.q4
    have z0:=HR.out.f0
    have z1:=HR.out.f1
    have z2:=HR.out.f2
    have z3:=HR.out.f3
    have z4:=HR.out.f4
    go_wp2_with fail
    clear r0 r1 r2 r3 r4 z0 z1 z2 z3 z4
    have HO1:=hid HO.out
    have r0:=HO1.out.q0
    have r1:=HO1.out.q1
    have r2:=HO1.out.q2
    have r3:=HO1.out.q3
    have r4:=HO1.out.q4
    refine bodyPost_ret (v:=.tuple #[.agg #[.int .i64 (kindOf s),.int .i64 (nOf s),.string (sOf s),.slice A (nL s) B,.slice C (nK s) D],.int .i64 0]) (by simp [results,Tryz.results241,go_sem, *]) rfl ?_
    exact ⟨HBf.out,.inr ⟨s,A,B,C,D,HF.out,rfl,Hs.out,fun _=>HK2.out⟩⟩
end Go.Proofs.YtknakfpciccoaabGreatDoor
/- The walk of an entry's add: lists. -/
namespace Go.Proofs.YtknakfpciccoaabGreatDoor
open Go.RowKit
def AlPost (w0:World) (lo:Nat) (g:T→Int⊕T) (s:T) (A:Option Addr) (B:Nat) (xs:List Value) (doc:T) (w:World) (e:Ending) (w':World):Prop :=
 (Below w.heap.size w w'∧∃ x,g doc=.inl x∧x≠0∧e=.returned (.tuple #[.agg #[.int .i64 0,.int .i64 0,.string ⟨#[]⟩,.slice none 0 0,.slice none 0 0],.int .i64 x])) ∨
 ∃ t A2 B2 C2 D2 A' B',g doc=.inr t∧e=.returned (.tuple #[.agg #[.int .i64 5,.int .i64 0,.string ⟨#[]⟩,.slice A' (nL s+1) B',.slice none 0 0],.int .i64 0])∧w.grownBy w' (Value.slice A (nL s) B).ownBlock∧w'.ownsRow lo 36 5 (.slice A' (nL s+1) B') (nL s+1) (xs++[.int .i64 (kindOf t),.int .i64 (nOf t),.string (sOf t),.slice A2 (nL t) B2,.slice C2 (nK t) D2])∧((Value.slice A' (nL s+1) B').ownBlock=(Value.slice A (nL s) B).ownBlock∨∃ b,(Value.slice A' (nL s+1) B').ownBlock=some b∧w.heap.size≤b)∧At w0 13 (.agg #[.int .i64 (kindOf t),.int .i64 (nOf t),.string (sOf t),.slice A2 (nL t) B2,.slice C2 (nK t) D2]) t∧okA t
theorem put5_row {W:World} {b lo:Nat} {v:Value} {n:Nat} {xs:List Value} (h:W.ownsRow lo 36 5 v n xs) (hb:v.ownBlock≠some b) (u0 u1 u2 u3 u4:Value):(put5 W b u0 u1 u2 u3 u4).ownsRow lo 36 5 v n xs :=
 own_move h fun k hk=>put5_other W (fun e=>hb (by rw [hk,e])) u0 u1 u2 u3 u4
theorem put5_grown {w W:World} {b:Nat} {ob:Option Nat} (h:w.grownBy W ob) (hb:w.heap.size≤b) (u0 u1 u2 u3 u4:Value):w.grownBy (put5 W b u0 u1 u2 u3 u4) ob :=
 ⟨(put5_but W b u0 u1 u2 u3 u4).os.trans h.os,(put5_but W b u0 u1 u2 u3 u4).tape.trans h.tape,(put5_but W b u0 u1 u2 u3 u4).output.trans h.output,by rw [put5_size];exact h.size,fun k hk hne=>(put5_other W (by omega) u0 u1 u2 u3 u4).trans (h.block k hk hne)⟩
set_option maxHeartbeats 8000000 in
set_option maxRecDepth 100000 in
theorem addList_any {Tb:World→Prop} (op:ByteArray) (hop:op=gList) (ty:TypeId) (p:Value) (fid:FuncId) (hm:∀ w':World,(method 419 ty p "Of").run Tryz.prog w'=.ok (fid,p) w') (hcall:∀ (a:Array Value) (w':World),(callFunc fid a).run Tryz.prog w'=.ok (.enter fid a) w') (g:T→Int⊕T) (w0:World)
  (hbeh:∀ (wr:World) (x:Value) (doc:T),Below w0.heap.size w0 wr→At w0 13 x doc→okA doc→Tb wr→Calls Tryz.prog fid #[p,x] wr (EvPost w0 g doc wr)) (s doc:T) (A C:Option Addr) (B D:Nat) (x:Value) (w:World) (hb0:Below w0.heap.size w0 w) (lo:Nat) (xs:List Value) (hrow:w.ownsRow lo 36 5 (.slice A (nL s) B) (nL s) xs) (hlo:lo≤w.heap.size) (hn:nL s≤1000000) (hd:At w0 13 x doc) (hok:okA doc) (hT:∀ w',Below w.heap.size w w'→Tb w') :
  Calls Tryz.prog 241 #[.agg #[.string op,.iface ty p],.agg #[.int .i64 (kindOf s),.int .i64 (nOf s),.string (sOf s),.slice A (nL s) B,.slice C (nK s) D],x] w (AlPost w0 lo g s A B xs doc w):=by
 obtain ⟨iV,hiV,zV0,zV1,zV2⟩:=info_parts infoV
 have Hrow:=hid hrow
 have Hlo:=hid hlo
 obtain ⟨g1,La,Ka,Lc,Kc,hg1,hx,_,_,_⟩:=hd.open
 have HN:=hid (AdB.new op ty p s doc A C La Ka B D Lc Kc w)
 have HC:=hid (hbeh _ x doc (hb0.trans (HN.out.2.mono hb0.size)) hd hok (hT _ HN.out.2))
 have hmw:=hm ((((w.alloc (.cells #[.string op,.iface ty p] 239)).alloc (.cells #[.int .i64 (kindOf s),.int .i64 (nOf s),.string (sOf s),.slice A (nL s) B,.slice C (nK s) D] 36)).alloc (.cells #[.int .i64 (kindOf doc),.int .i64 (nOf doc),.string (sOf doc),.slice La (nL doc) Lc,.slice Ka (nK doc) Kc] 36)).alloc (.cells #[.int .i64 0,.int .i64 0,.string ⟨#[]⟩,.slice none 0 0,.slice none 0 0] 36))
 subst hx
 clear hd hok hg1 hm hbeh
 have n1:(op.toList==[36,115,117,109])=false:=lit_no (b:=gSum) (by rw [hop];decide)
 have n2:(op.toList==[36,108,105,115,116])=true:=lit_is (b:=gList) hop
 clear hrow hlo hb0 hop
 go_enter Tryz.func241,Tryz.ntmps241
 go_wp2_with fail
 refine HC.out.mono ?_
 rintro e w5 ⟨b5,⟨er,hg,hne,rfl⟩ | ⟨t,A2,B2,C2,D2,hg,rfl,ha,hk⟩⟩
 ·have ez:(er==0)=false:=by simpa using hne
  have HF:Hid (g doc=.inl er∧er≠0):=⟨hg,hne⟩
  have HA5:=hid (HN.out.1.keep b5)
  have HBz:Hid (Below w5.heap.size w5 (w5.alloc (.cells #[.int .i64 0,.int .i64 0,.string ⟨#[]⟩,.slice none 0 0,.slice none 0 0] 36))):=(Below.refl _ _).alloc (Nat.le_refl _) _
  have HB5:=hid (HN.out.2.trans (b5.mono HN.out.2.size))
  have HR:=hid (HA5.out.r.stay HBz.out)
  have HO:=hid (HR.out.put5 (.int .i64 0) (.int .i64 0) (.string ⟨#[]⟩) (.slice none 0 0) (.slice none 0 0))
  have HBf:=hid (below_res (HB5.out.trans (HBz.out.mono HB5.out.size)) (b:=w.heap.size+3) (by omega) (by have:=HR.out.lt;omega) (.int .i64 0) (.int .i64 0) (.string ⟨#[]⟩) (.slice none 0 0) (.slice none 0 0))
  unfold put5 at HO HBf
  clear b5 hg hne HC hmw HN
  have r0:=HR.out.q0
  have r1:=HR.out.q1
  have r2:=HR.out.q2
  have r3:=HR.out.q3
  have r4:=HR.out.q4
  have z0:=HR.out.f0
  have z1:=HR.out.f1
  have z2:=HR.out.f2
  have z3:=HR.out.f3
  have z4:=HR.out.f4
  go_wp2_with fail
  clear r0 r1 r2 r3 r4 z0 z1 z2 z3 z4
  have HO1:=hid HO.out
  have r0:=HO1.out.q0
  have r1:=HO1.out.q1
  have r2:=HO1.out.q2
  have r3:=HO1.out.q3
  have r4:=HO1.out.q4
  refine bodyPost_ret (v:=.tuple #[.agg #[.int .i64 0,.int .i64 0,.string ⟨#[]⟩,.slice none 0 0,.slice none 0 0],.int .i64 er]) (by simp [results,Tryz.results241,go_sem, *]) rfl ?_
  exact .inl ⟨HBf.out,er,HF.out.1,HF.out.2,rfl⟩
 ·have HA5:=hid (HN.out.1.keep b5)
  have HBz:Hid (Below w5.heap.size w5 ((w5.alloc (.cells #[.int .i64 (kindOf t),.int .i64 (nOf t),.string (sOf t),.slice A2 (nL t) B2,.slice C2 (nK t) D2] 36)).alloc (.cells #[.int .i64 (kindOf t),.int .i64 (nOf t),.string (sOf t),.slice A2 (nL t) B2,.slice C2 (nK t) D2] 36))):=((Below.refl _ _).alloc (Nat.le_refl _) _).alloc (by simp) _
  have HBy:Hid (Below w5.heap.size w5 (w5.alloc (.cells #[.int .i64 (kindOf t),.int .i64 (nOf t),.string (sOf t),.slice A2 (nL t) B2,.slice C2 (nK t) D2] 36))):=(Below.refl _ _).alloc (Nat.le_refl _) _
  have HB5:=hid (HN.out.2.trans (b5.mono HN.out.2.size))
  have HB6:=hid (HB5.out.trans (HBz.out.mono HB5.out.size))
  have HA6:=hid (HA5.out.keep HBy.out)
  have HA7:=hid (HA5.out.keep HBz.out)
  have HR6:Hid (((w5.alloc (.cells #[.int .i64 (kindOf t),.int .i64 (nOf t),.string (sOf t),.slice A2 (nL t) B2,.slice C2 (nK t) D2] 36)).alloc (.cells #[.int .i64 (kindOf t),.int .i64 (nOf t),.string (sOf t),.slice A2 (nL t) B2,.slice C2 (nK t) D2] 36)).ownsRow lo 36 5 (.slice A (nL s) B) (nL s) xs):=rowH_move Hrow.out fun b _ h2=>HB6.out.block b h2
  have HSrc:Hid (Src Tryz.prog 5 34 (.slice (some ⟨w5.heap.size+1,0,none⟩) 1 1) 1 [.int .i64 (kindOf t),.int .i64 (nOf t),.string (sOf t),.slice A2 (nL t) B2,.slice C2 (nK t) D2] ((w5.alloc (.cells #[.int .i64 (kindOf t),.int .i64 (nOf t),.string (sOf t),.slice A2 (nL t) B2,.slice C2 (nK t) D2] 36)).alloc (.cells #[.int .i64 (kindOf t),.int .i64 (nOf t),.string (sOf t),.slice A2 (nL t) B2,.slice C2 (nK t) D2] 36))):=Src.ofSlice _ Tryz.underlying34 ⟨w5.heap.size+1,0,none⟩ 1 1 [.int .i64 (kindOf t),.int .i64 (nOf t),.string (sOf t),.slice A2 (nL t) B2,.slice C2 (nK t) D2] (by simp) (by have:=World.news_of_block (heap_alloc_new (w5.alloc (.cells #[.int .i64 (kindOf t),.int .i64 (nOf t),.string (sOf t),.slice A2 (nL t) B2,.slice C2 (nK t) D2] 36)) (.cells #[.int .i64 (kindOf t),.int .i64 (nOf t),.string (sOf t),.slice A2 (nL t) B2,.slice C2 (nK t) D2] 36));simpa using this) (by simp [Value.oneCell'])
  have HAt:=hid (And.intro hg (And.intro ha hk))
  have hlo6:lo≤((w5.alloc (.cells #[.int .i64 (kindOf t),.int .i64 (nOf t),.string (sOf t),.slice A2 (nL t) B2,.slice C2 (nK t) D2] 36)).alloc (.cells #[.int .i64 (kindOf t),.int .i64 (nOf t),.string (sOf t),.slice A2 (nL t) B2,.slice C2 (nK t) D2] 36)).heap.size:=Nat.le_trans Hlo.out HB6.out.size
  have e0:=HA6.out.e0
  have HS6:=hid HA6.out.s
  have y0:=HS6.out.q0
  have y1:=HS6.out.q1
  have y2:=HS6.out.q2
  have y3:=HS6.out.q3
  have y4:=HS6.out.q4
  clear b5 hg ha hk HC hmw HN HA5
  have HOb:Hid (∀ b,(Value.slice A (nL s) B).ownBlock=some b→b<w.heap.size):=fun b hb=>(Hrow.out.lt b hb).2
  have HRx:Hid (∀ w8:World,((w5.alloc (.cells #[.int .i64 (kindOf t),.int .i64 (nOf t),.string (sOf t),.slice A2 (nL t) B2,.slice C2 (nK t) D2] 36)).alloc (.cells #[.int .i64 (kindOf t),.int .i64 (nOf t),.string (sOf t),.slice A2 (nL t) B2,.slice C2 (nK t) D2] 36)).grownBy w8 (Value.slice A (nL s) B).ownBlock→BoxAt (w.heap.size+3) (.int .i64 0) (.int .i64 0) (.string ⟨#[]⟩) (.slice none 0 0) (.slice none 0 0) w8):=fun w8 hG8=>HA7.out.r.move hG8.size (hG8.block _ HA7.out.r.lt (fun e=>by have:=HOb.out _ e.symm;omega))
  go_wp2_with (at_builtin;refine wpList_append_src _ rfl (.tmp 33) (.tmp 35) 34 34 rfl lo 36 iV _ 5 80 Tryz.underlying34 hiV zV0 zV1 zV2 rfl (.slice A (nL s) B) (nL s) xs rfl HR6.out (.slice (some ⟨w5.heap.size+1,0,none⟩) 1 1) 1 [.int .i64 (kindOf t),.int .i64 (nOf t),.string (sOf t),.slice A2 (nL t) B2,.slice C2 (nK t) D2] rfl HSrc.out (by unfold maxLen;omega) (by omega) hlo6 ?_;intro v' w8 hO8 hG8 hat8;obtain ⟨A',B',rfl⟩:=own_shape hO8;have HR8:=hid (HRx.out w8 hG8);have r0:=HR8.out.q0;have r1:=HR8.out.q1;have r2:=HR8.out.q2;have r3:=HR8.out.q3;have r4:=HR8.out.q4;have z0:=HR8.out.f0;have z1:=HR8.out.f1;have z2:=HR8.out.f2;have z3:=HR8.out.f3;have z4:=HR8.out.f4)
  have hobw:=HOb.out
  have HG8:Hid (w.grownBy w8 (Value.slice A (nL s) B).ownBlock):=⟨hG8.os.trans HB6.out.os,hG8.tape.trans HB6.out.tape,hG8.output.trans HB6.out.output,Nat.le_trans HB6.out.size hG8.size,fun b hb hne=>(hG8.block b (Nat.lt_of_lt_of_le hb HB6.out.size) hne).trans (HB6.out.block b hb)⟩
  have HO:=hid (HR8.out.put5 (.int .i64 5) (.int .i64 0) (.string ⟨#[]⟩) (.slice A' (nL s+1) B') (.slice none 0 0))
  have HAp:Hid (((Value.slice A' (nL s+1) B').ownBlock=(Value.slice A (nL s) B).ownBlock∨∃ b,(Value.slice A' (nL s+1) B').ownBlock=some b∧w.heap.size≤b)∧(Value.slice A' (nL s+1) B').ownBlock≠some (w.heap.size+3)):=by
   have h7:=HA7.out.r.lt
   rcases hat8 with h | h
   ·exact ⟨.inl h,fun e=>by rw [h] at e;have:=hobw _ e;omega⟩
   ·exact ⟨.inr ⟨_,h,HB6.out.size⟩,fun e=>by rw [h] at e;simp only [Option.some.injEq] at e;omega⟩
  have HRf:=hid (put5_row hO8 HAp.out.2 (.int .i64 5) (.int .i64 0) (.string ⟨#[]⟩) (.slice A' (nL s+1) B') (.slice none 0 0))
  have HGf:=hid (put5_grown HG8.out (b:=w.heap.size+3) (by omega) (.int .i64 5) (.int .i64 0) (.string ⟨#[]⟩) (.slice A' (nL s+1) B') (.slice none 0 0))
  unfold put5 at HO HRf HGf
  clear hO8 hG8 hat8 hobw e0 y0 y1 y2 y3 y4 hlo6
  go_wp2_with fail
  clear r0 r1 r2 r3 r4 z0 z1 z2 z3 z4
  have HO1:=hid HO.out
  have r0:=HO1.out.q0
  have r1:=HO1.out.q1
  have r2:=HO1.out.q2
  have r3:=HO1.out.q3
  have r4:=HO1.out.q4
  refine bodyPost_ret (v:=.tuple #[.agg #[.int .i64 5,.int .i64 0,.string ⟨#[]⟩,.slice A' (nL s+1) B',.slice none 0 0],.int .i64 0]) (by simp [results,Tryz.results241,go_sem, *]) rfl ?_
  exact .inr ⟨t,A2,B2,C2,D2,A',B',HAt.out.1,rfl,HGf.out,HRf.out,HAp.out.1,HAt.out.2.1,HAt.out.2.2⟩
end Go.Proofs.YtknakfpciccoaabGreatDoor
