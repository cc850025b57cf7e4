import Derived.Test.YtknakfpciccoaaaGreatDoorZF4
import Derived.Test.YtknakfpciccoaaaGreatDoorProg
import Derived.WalkKit
import Derived.WalkSpells
import Derived.WalkLawsBesides
import Derived.Defers
import Derived.Recover
import Derived.BigQuiet
import Derived.Deep.QuietTactic
import Derived.Deep.LoopGhost
import Derived.Shelf.Strings.Prefix
import Derived.Shelf.Strings.BuilderK
import Derived.Shelf.Strings.BuilderRune
import Derived.Shelf.Unicode.DecodeAny
import Derived.Shelf.Strconv.ErrVarParseInt
set_option maxHeartbeats 1000000
set_option maxRecDepth 100000
namespace Go.Proofs.YtknakfpciccoaaaGreatDoor
open Go.RowKit
theorem qY (n:Int) (w:World):(Instr.typeAssert (.iface 132 (.int .i64 n)) 20 132 true).run Tryz.prog w=.ok (.tuple #[.int .i64 n,.bool true]) w:=by kernel_rfl
theorem Cw (be:Nat) (n:Int) (w:World) (x:Value) (h5:w.cell? ⟨be,0,none⟩=some x) (f5:w.frozen? ⟨be,0,none⟩=false) :
  CallsD Tryz.prog 99 #[.pointer (some ⟨be,0,none⟩)] (.panicking [{ v:=.iface 132 (.int .i64 n),recovered:=false }]) w fun e u' w' =>
   e=.returned (.tuple #[])/\u'=.panicking [{ v:=.iface 132 (.int .i64 n),recovered:=true }]/\w'=w.setCell ⟨be,0,none⟩ (.int .i64 n):=by
 refine callsD_of_wpS Tryz.func99 rfl fun c₀ cs hu=>?_;apply wpS_seq;apply wpS_region;simp [wpOpsS,go_sem,recoverD,hu,Tryz.ntmps99,Exit.thenS];refine wpS_of_wp ?_;have hta:=qY n;have e:(#[Value.pointer (some { block:=be,off:=0 })]++(Array.replicate 10 undef).setIfInBounds 3 (Value.iface 132 (Value.int IntKind.i64 n)))=#[.pointer (some ⟨be,0,none⟩),undef,undef,undef,.iface 132 (.int .i64 n),undef,undef,undef,undef,undef,undef]:=rfl;rw [e];go_wp2_with fail;simp [bodyPostS,results,Tryz.results99]
theorem Kk (be:Nat) (w:World) :
  CallsD Tryz.prog 99 #[.pointer (some ⟨be,0,none⟩)] .returning w fun e u' w'=>e=.returned (.tuple #[])/\u'=.returning/\w'=w:=by
 refine callsD_of_wpS Tryz.func99 rfl fun c₀ cs hu=>?_;apply wpS_seq;apply wpS_region;simp [wpOpsS,go_sem,recoverD,hu,Tryz.ntmps99,Exit.thenS];refine wpS_of_wp ?_;go_wp2_with fail;cases c₀
 simp_all [bodyPostS,results,Tryz.results99]
def kT:Value:=.agg #[.int .i64 0,.int .i64 0,.string ⟨#[]⟩,.slice none 0 0,.slice none 0 0]
def Zl (Q:Int->Prop) (R:Value->World->Prop) (w:World) (e:Ending) (w':World):Prop :=
 Below w.heap.size w w'/\((∃ t A B C D,e=.returned (fB t A B C D)/\R (fB t A B C D) w')\/∃ n,Q n/\e=.panicked [{ v:=.iface 132 (.int .i64 n),recovered:=false }])
structure uY (k:Nat) (w w':World):Prop where
 size:w'.heap.size=w.heap.size
 block:∀ b,k<=b->w'.heap[b]?=w.heap[b]?
theorem uY.refl (k:Nat) (w:World):uY k w w:=⟨rfl,fun _ _=>rfl⟩
theorem uY.set {k:Nat} {w w':World} (h:uY k w w') {c:Nat} (hc:c<k) (o:Nat) (u:Value):uY k w (w'.setCell ⟨c,o,none⟩ u) :=
 ⟨by simpa [World.setCell] using h.size,fun b hb=>(Below.heap_setCell _ _ _ _ (by simpa using (by omega:b≠c))).trans (h.block b hb)⟩
theorem U3 (g:Nat) (hg:∀ (a:Array Value) (w:World),(callFunc g a).run Tryz.prog w=.ok (.enter g a) w) (Q:Int->Prop) (R:Value->World->Prop) (p:Value) (w:World)
  (h:Calls Tryz.prog g #[p] ((w.alloc (.cells #[.int .i64 0,.int .i64 0,.string ⟨#[]⟩,.slice none 0 0,.slice none 0 0] 25)).alloc (.cells #[.int .i64 0] 28)) (Zl Q R ((w.alloc (.cells #[.int .i64 0,.int .i64 0,.string ⟨#[]⟩,.slice none 0 0,.slice none 0 0] 25)).alloc (.cells #[.int .i64 0] 28)))) :
  Calls Tryz.prog 55 #[.func (Fn.func g) #[] #[p]] w fun e w'=>Below w.heap.size w w'/\((∃ x w2,e=.returned (.tuple #[x,.int .i64 0])/\R x w2/\uY (w.heap.size+2) w2 w')\/∃ n,Q n/\e=.returned (.tuple #[kT,.int .i64 n])):=by
 have Zm:∀ (fn:Fn) (first cap:Array Value) (w:World),(Instr.makeFunc fn first cap).run Tryz.prog w=.ok (.func fn first cap) w:=fun _ _ _ _=>rfl;have H:=aj h;clear h;go_enter_defers Tryz.func55,Tryz.ntmps55;go_wp2_with fail
 have HC:Hid (((w.alloc (.cells #[.int .i64 0,.int .i64 0,.string ⟨#[]⟩,.slice none 0 0,.slice none 0 0] 25)).alloc (.cells #[.int .i64 0] 28)).cell? ⟨w.heap.size,0,none⟩=some (.int .i64 0)/\((w.alloc (.cells #[.int .i64 0,.int .i64 0,.string ⟨#[]⟩,.slice none 0 0,.slice none 0 0] 25)).alloc (.cells #[.int .i64 0] 28)).cell? ⟨w.heap.size,1,none⟩=some (.int .i64 0)/\((w.alloc (.cells #[.int .i64 0,.int .i64 0,.string ⟨#[]⟩,.slice none 0 0,.slice none 0 0] 25)).alloc (.cells #[.int .i64 0] 28)).cell? ⟨w.heap.size,2,none⟩=some (.string ⟨#[]⟩)/\((w.alloc (.cells #[.int .i64 0,.int .i64 0,.string ⟨#[]⟩,.slice none 0 0,.slice none 0 0] 25)).alloc (.cells #[.int .i64 0] 28)).cell? ⟨w.heap.size,3,none⟩=some (.slice none 0 0)/\((w.alloc (.cells #[.int .i64 0,.int .i64 0,.string ⟨#[]⟩,.slice none 0 0,.slice none 0 0] 25)).alloc (.cells #[.int .i64 0] 28)).cell? ⟨w.heap.size,4,none⟩=some (.slice none 0 0)/\((w.alloc (.cells #[.int .i64 0,.int .i64 0,.string ⟨#[]⟩,.slice none 0 0,.slice none 0 0] 25)).alloc (.cells #[.int .i64 0] 28)).cell? ⟨w.heap.size+1,0,none⟩=some (.int .i64 0)):=by
  refine ⟨?_,?_,?_,?_,?_,?_⟩<;>simp [go_sem]
 have HZ:Hid (((w.alloc (.cells #[.int .i64 0,.int .i64 0,.string ⟨#[]⟩,.slice none 0 0,.slice none 0 0] 25)).alloc (.cells #[.int .i64 0] 28)).frozen? ⟨w.heap.size,0,none⟩=false/\((w.alloc (.cells #[.int .i64 0,.int .i64 0,.string ⟨#[]⟩,.slice none 0 0,.slice none 0 0] 25)).alloc (.cells #[.int .i64 0] 28)).frozen? ⟨w.heap.size,1,none⟩=false/\((w.alloc (.cells #[.int .i64 0,.int .i64 0,.string ⟨#[]⟩,.slice none 0 0,.slice none 0 0] 25)).alloc (.cells #[.int .i64 0] 28)).frozen? ⟨w.heap.size,2,none⟩=false/\((w.alloc (.cells #[.int .i64 0,.int .i64 0,.string ⟨#[]⟩,.slice none 0 0,.slice none 0 0] 25)).alloc (.cells #[.int .i64 0] 28)).frozen? ⟨w.heap.size,3,none⟩=false/\((w.alloc (.cells #[.int .i64 0,.int .i64 0,.string ⟨#[]⟩,.slice none 0 0,.slice none 0 0] 25)).alloc (.cells #[.int .i64 0] 28)).frozen? ⟨w.heap.size,4,none⟩=false/\((w.alloc (.cells #[.int .i64 0,.int .i64 0,.string ⟨#[]⟩,.slice none 0 0,.slice none 0 0] 25)).alloc (.cells #[.int .i64 0] 28)).frozen? ⟨w.heap.size+1,0,none⟩=false):=by
  refine ⟨?_,?_,?_,?_,?_,?_⟩<;>simp [go_sem]
 have HB0:Hid (Below w.heap.size w ((w.alloc (.cells #[.int .i64 0,.int .i64 0,.string ⟨#[]⟩,.slice none 0 0,.slice none 0 0] 25)).alloc (.cells #[.int .i64 0] 28))):=(bG _ _).alloc (by simp) _;refine H.out.mono ?_;rintro e w1 ⟨hb,hr⟩;have l0:w.heap.size<((w.alloc (.cells #[.int .i64 0,.int .i64 0,.string ⟨#[]⟩,.slice none 0 0,.slice none 0 0] 25)).alloc (.cells #[.int .i64 0] 28)).heap.size:=by simp;omega
 have l1:w.heap.size+1<((w.alloc (.cells #[.int .i64 0,.int .i64 0,.string ⟨#[]⟩,.slice none 0 0,.slice none 0 0] 25)).alloc (.cells #[.int .i64 0] 28)).heap.size:=by simp
 have a0:=(hb.cell (p:=⟨w.heap.size,0,none⟩) l0).trans HC.out.1;have a1:=(hb.cell (p:=⟨w.heap.size,1,none⟩) l0).trans HC.out.2.1;have a2:=(hb.cell (p:=⟨w.heap.size,2,none⟩) l0).trans HC.out.2.2.1;have a3:=(hb.cell (p:=⟨w.heap.size,3,none⟩) l0).trans HC.out.2.2.2.1;have a4:=(hb.cell (p:=⟨w.heap.size,4,none⟩) l0).trans HC.out.2.2.2.2.1;have a5:=(hb.cell (p:=⟨w.heap.size+1,0,none⟩) l1).trans HC.out.2.2.2.2.2;have z0:=(hb.frozen (p:=⟨w.heap.size,0,none⟩) l0).trans HZ.out.1;have z1:=(hb.frozen (p:=⟨w.heap.size,1,none⟩) l0).trans HZ.out.2.1;have z2:=(hb.frozen (p:=⟨w.heap.size,2,none⟩) l0).trans HZ.out.2.2.1;have z3:=(hb.frozen (p:=⟨w.heap.size,3,none⟩) l0).trans HZ.out.2.2.2.1;have z4:=(hb.frozen (p:=⟨w.heap.size,4,none⟩) l0).trans HZ.out.2.2.2.2.1;have z5:=(hb.frozen (p:=⟨w.heap.size+1,0,none⟩) l1).trans HZ.out.2.2.2.2.2;have HB:=aj (HB0.out.trans (hb.mono HB0.out.size));clear hb HC HZ HB0 l0 l1 H;rcases hr with ⟨t,A,B,C,D,rfl,hR⟩ | ⟨n,hQ,rfl⟩
 ·have HR:=aj hR;clear hR;unfold fB at HR ⊢;go_wp2_with fail;refine leaves_cons (f:=99) (args:=#[.pointer (some ⟨w.heap.size+1,0,none⟩)]) (by simp) (by simp [go_sem]) ?_;refine (Kk (w.heap.size+1) _).mono ?_;rintro e u' w'' ⟨rfl,rfl,rfl⟩;simp only [Leaves,settle];refine ⟨_,by simp [results,Tryz.results55,go_sem, *],?_,Or.inl ⟨_,w1,rfl,HR.out,?_⟩⟩
  ·exact (((((HB.out.setCell (Nat.le_refl _) _).setCell (Nat.le_refl _) _).setCell (Nat.le_refl _) _).setCell (Nat.le_refl _) _).setCell (Nat.le_refl _) _).setCell (by simp) _
  ·exact ((((((uY.refl _ _).set (by omega) _ _).set (by omega) _ _).set (by omega) _ _).set (by omega) _ _).set (by omega) _ _).set (by omega) _ _
 ·have HQ:=aj hQ;clear hQ;go_wp2_with fail;refine leaves_cons (f:=99) (args:=#[.pointer (some ⟨w.heap.size+1,0,none⟩)]) (by simp) (by simp [go_sem]) ?_;refine (Cw (w.heap.size+1) n _ _ a5 z5).mono ?_;rintro e u' w'' ⟨rfl,rfl,rfl⟩;simp only [settle];refine ⟨_,by simp [results,Tryz.results55,go_sem, *];rfl,?_,Or.inr ⟨n,HQ.out,rfl⟩⟩;exact HB.out.setCell (by simp) _
abbrev fU (n:Int):Ending:=.panicked [{ v:=.iface 132 (.int .i64 n),recovered:=false }]
structure PL (c:Nat) (s:ByteArray) (i:Nat) (w:World):Prop where
 q0:w.cell? ⟨c,0,none⟩=some (.string s)
 q1:w.cell? ⟨c,1,none⟩=some (.int .i64 i)
 f1:w.frozen? ⟨c,1,none⟩=false
 lt:c<w.heap.size
theorem PL.set {c:Nat} {s:ByteArray} {i:Nat} {w:World} (h:PL c s i w) (j:Nat):PL c s j (w.setCell ⟨c,1,none⟩ (.int .i64 j)):=by
 have h0:=h.q0;have h1:=h.q1;have h2:=h.f1;refine ⟨?_,?_,?_,by simp [World.setCell];exact h.lt⟩
 ·simp [go_sem,h0]
 ·simp [go_sem,h1]
 ·simp [go_sem,h2]
theorem PL.move {c:Nat} {s:ByteArray} {i:Nat} {w w':World} (h:PL c s i w) (hs:w.heap.size<=w'.heap.size) (hb:w'.heap[c]?=w.heap[c]?):PL c s i w' :=
 ⟨(World.cell?_of_block (w:=w) (a:=⟨c,_,none⟩) hb).trans h.q0,(World.cell?_of_block (w:=w) (a:=⟨c,_,none⟩) hb).trans h.q1,(World.frozen?_of_block (w:=w) (a:=⟨c,_,none⟩) hb).trans h.f1,Nat.lt_of_lt_of_le h.lt hs⟩
theorem PL.keep {c:Nat} {s:ByteArray} {i:Nat} {w w':World} (h:PL c s i w) (hb:Below w.heap.size w w'):PL c s i w':=h.move hb.size (hb.block _ h.lt)
theorem mM {s:ByteArray} {i:Nat} (h:i<s.size):∃ z:UInt8,s[i]'h=z/\cB s i=z.toNat:=by
 refine ⟨s[i]'h,rfl,?_⟩;rw [qU h];unfold bt;cases s with
 | mk d=>exact congrArg UInt8.toNat (getElem!_pos d i h)
def pk (s:ByteArray) (i:Nat):Nat:=if i<s.size then cB s i else 0
theorem oI (c:Nat) (s:ByteArray) (i:Nat) (w:World) (h:PL c s i w) (hi:i<=s.size) :
  Calls Tryz.prog 180 #[.pointer (some ⟨c,0,none⟩)] w fun e w'=>e=.returned (.int .u8 (pk s i))/\Below w.heap.size w w':=by
 have q0:=h.q0;have q1:=h.q1;clear h;by_cases hlt:i<s.size
 ·obtain ⟨z,hz,hc⟩:=mM hlt;have HP:Hid (pk s i=z.toNat):=by show pk s i=_;unfold pk;rw [if_pos hlt,hc]
  have x1:(i:Int)<(s.size:Int):=by omega
  have x2:¬ ((i:Int)=(s.size:Int)):=by omega
  clear hc;go_in;go_wp2_with fail;go_quiet (fail);go_wp2_with fail;go_quiet (fail);go_wp2_with fail;go_ret;exact ⟨aH (by rw [HP.out]),below_drewN (below_drewN (Below.refl _ _) _) _⟩
 ·have HP:Hid (pk s i=0):=by show pk s i=_;unfold pk;rw [if_neg hlt]
  have hi2:i=s.size:=by omega
  clear hlt hi;subst hi2;go_in;go_wp2_with fail;go_quiet (fail);go_wp2_with fail;go_ret;exact ⟨aH (by rw [HP.out];rfl),below_drewN (Below.refl _ _) _⟩
def zy (c:Nat) (s:ByteArray) (b:Bool) (j:Nat) (w:World) (e:Ending) (w':World):Prop :=
 e=.returned (.bool b)/\aG c w w'/\PL c s j w'
theorem fO (c:Nat) (s:ByteArray) (i:Nat) (a:Int) (w:World) (h:PL c s i w) (hs:s.size<=4000) (ha:(cB s i:Int)=a) (hb:a<256) :
  Calls Tryz.prog 179 #[.pointer (some ⟨c,0,none⟩),.int .u8 a] w (zy c s true (i+1) w):=by
 have hlt:i<s.size:=aZ (by omega);obtain ⟨z,hz,hc⟩:=mM hlt;have HL:=aj h;have q0:=h.q0;have q1:=h.q1;have q2:=h.f1;clear h;rw [hc] at ha;subst ha;have x1:(i:Int)<(s.size:Int):=by omega
 have x2:((i:Int)==(s.size:Int))=false:=by rw [beq_eq_false_iff_ne];omega
 clear hc;go_in;go_wp2_with fail;go_quiet (fail);have HB:=aj (below_drewN (Below.refl w.heap.size w) nq);generalize w.drewN nq=w1 at HB ⊢;have aQ:=aj (HL.out.keep HB.out);have r1:=aQ.out.q1;have r2:=aQ.out.f1;clear q0 q1 q2;go_wp2_with fail;go_ret;refine ⟨rfl,(aG.of HB.out).trans (aG.set w1 c 1 _),?_⟩;have:=aQ.out.set (i+1);exact this
theorem eD (c:Nat) (s:ByteArray) (i:Nat) (a:Int) (w:World) (h:PL c s i w) (hi:i<=s.size) (ha:(cB s i:Int)≠a) :
  Calls Tryz.prog 179 #[.pointer (some ⟨c,0,none⟩),.int .u8 a] w (zy c s false i w):=by
 have HL:=aj h;have q0:=h.q0;have q1:=h.q1;clear h;by_cases hlt:i<s.size
 ·obtain ⟨z,hz,hc⟩:=mM hlt;rw [hc] at ha;have x1:(i:Int)<(s.size:Int):=by omega
  have x2:((i:Int)==(s.size:Int))=false:=by rw [beq_eq_false_iff_ne];omega
  clear hc;go_in;go_wp2_with fail;go_quiet (fail);have HB:=aj (below_drewN (Below.refl w.heap.size w) nq);generalize w.drewN nq=w1 at HB ⊢;go_wp2_with fail;go_ret;exact ⟨rfl,aG.of HB.out,HL.out.keep HB.out⟩
 ·have hi2:i=s.size:=by omega
  clear hlt hi ha;subst hi2;go_in;go_wp2_with fail;go_quiet (fail);have HB:=aj (below_drewN (Below.refl w.heap.size w) nq);generalize w.drewN nq=w1 at HB ⊢;go_wp2_with fail;go_ret;exact ⟨rfl,aG.of HB.out,HL.out.keep HB.out⟩
theorem uZ (c:Nat) (s:ByteArray) (i:Nat) (w:World) (h:PL c s i w) (hs:s.size<=4000) (hi:i<=s.size) :
  Calls Tryz.prog 249 #[.pointer (some ⟨c,0,none⟩)] w fun e w'=>aG c w w'/\((i<s.size/\e=.returned (.int .u8 (cB s i))/\PL c s (i+1) w')\/(i=s.size/\e=fU 2)):=by
 have HL:=aj h;have q0:=h.q0;have q1:=h.q1;clear h;by_cases hlt:i<s.size
 ·obtain ⟨z,hz,hc⟩:=mM hlt;have HC:=aj hc;have x1:(i:Int)<(s.size:Int):=by omega
  have x2:¬ ((i:Int)=(s.size:Int)):=by omega
  clear hc;go_in;go_wp2_with fail;go_quiet (fail);have HB:=aj (below_drewN (Below.refl w.heap.size w) nq);generalize w.drewN nq=w1 at HB ⊢;have aQ:=aj (HL.out.keep HB.out);have r1:=aQ.out.q1;have r2:=aQ.out.f1;clear q0 q1;go_wp2_with fail;have HL2:=aj (aQ.out.set (i+1));have HB2:=aj ((aG.of (c:=c) HB.out).trans (aG.set w1 c 1 (.int .i64 ((i+1:Nat):Int))));have e1:((i+1:Nat):Int)=(i:Int)+1:=by omega
  rw [e1] at HL2 HB2;have s0:=HL2.out.q0;have s1:=HL2.out.q1;clear r1 r2 aQ HB;generalize w1.setCell ⟨c,1,none⟩ (.int .i64 ((i:Int)+1))=w2 at HL2 HB2 s0 s1 ⊢;have e2:IntKind.i64.wrap ((i:Int)+1 - 1)=(i:Int):=by rw [IntKind.wrap_i64];omega
  rw [e1] at s1;go_quiet (fail);have HB3:=aj (below_drewN (Below.refl w2.heap.size w2) nq);generalize w2.drewN nq=w3 at HB3 ⊢;go_wp2_with fail;go_ret;exact ⟨HB2.out.trans (aG.of HB3.out),Or.inl ⟨hlt,aH (by rw [HC.out]),HL2.out.keep HB3.out⟩⟩
 ·have hi2:i=s.size:=by omega
  clear hlt hi;subst hi2;go_in;go_wp2_with fail;go_quiet (fail);have HB:=aj (below_drewN (Below.refl w.heap.size w) nq);generalize w.drewN nq=w1 at HB ⊢;go_wp2_with fail;exact ⟨rfl,aG.of HB.out,Or.inr ⟨trivial,rfl⟩⟩
theorem jU (c:Nat) (s:ByteArray) (i:Nat) (a:Int) (w:World) (h:PL c s i w) (hs:s.size<=4000) (ha:(cB s i:Int)=a) (hb:a<256) :
  Calls Tryz.prog 221 #[.pointer (some ⟨c,0,none⟩),.int .u8 a] w fun e w'=>e=.returned (.tuple #[])/\aG c w w'/\PL c s (i+1) w':=by
 have hlt:i<s.size:=aZ (by omega);have HN:=aj (uZ c s i w h hs (by omega));clear h;subst ha;go_in;go_wp2_with fail;refine HN.out.mono ?_;rintro e w1 ⟨hB,⟨_,rfl,hL⟩ | ⟨hh,_⟩⟩
 ·have HB:=aj hB;have HL:=aj hL;clear hB hL HN;go_wp2_with fail;refine bodyPost_end (v:=.tuple #[]) (by simp [results,Tryz.results221,go_sem]) rfl ?_;exact ⟨rfl,HB.out,HL.out⟩
 ·omega
theorem oJ (c:Nat) (s:ByteArray) (i:Nat) (a:Int) (w:World) (h:PL c s i w) (hs:s.size<=4000) (hi:i<=s.size) (ha:(cB s i:Int)≠a) :
  Calls Tryz.prog 221 #[.pointer (some ⟨c,0,none⟩),.int .u8 a] w fun e w'=>e=fU 2/\aG c w w':=by
 have HN:=aj (uZ c s i w h hs hi);clear h;go_in;go_wp2_with fail;refine HN.out.mono ?_;rintro e w1 ⟨hB,⟨_,rfl,_⟩ | ⟨_,rfl⟩⟩
 ·have HB:=aj hB;clear hB HN;go_wp2_with fail;exact ⟨rfl,rfl,HB.out⟩
 ·have HB:=aj hB;clear hB HN;go_wp2_with fail;exact ⟨rfl,rfl,HB.out⟩
theorem QL {n:Nat} (h:qV n=false):n≠32/\n≠9/\n≠10/\n≠13:=by
 unfold qV at h;simp at h;omega
theorem qZ (c:Nat) (s:ByteArray) (i:Nat) (w:World) (h:PL c s i w) (hs:s.size<=4000) (hi:i<=s.size) :
  Calls Tryz.prog 139 #[.pointer (some ⟨c,0,none⟩)] w fun e w'=>e=.returned (.tuple #[])/\aG c w w'/\PL c s (sk s i) w':=by
 have iL:=aj h;clear h;go_in;go_wp2_with fail;go_loopg [] (s.size - i) (fun g wr=>∃ k:Nat,g=s.size - k/\k<=s.size/\Hid (PL c s k wr)/\Hid (aG c w wr)/\Hid (sk s k=sk s i))
 case atStart=>exact ⟨i,rfl,hi,iL,aG.refl _ _,rfl⟩
 case round =>
  clear iL;obtain ⟨k,rfl,hk,HL,HB,HK⟩:=hrel;by_cases hb:qV (cB s k)=true
  ·have hlt:k<s.size:=by
    apply aZ (s:=s);unfold qV at hb;simp at hb;omega
   have iE:Hid (sk s (k+1)=sk s i):=by show _=_;rw [<- HK.out,zq s k,if_pos hb]
   have h4:cB s k=32\/cB s k=9\/cB s k=10\/cB s k=13:=by
    unfold qV at hb;simp at hb;omega
   clear HK hb;by_cases h1:cB s k=32
   ·go_wp2_with fail;refine (fO c s k 32 _ HL.out hs (by omega) (by omega)).mono ?_;rintro e w1 ⟨rfl,hB1,hL1⟩;have HB1:=aj (HB.out.trans hB1);have aQ:=aj hL1;clear hB1 hL1 HL HB;go_wp2_with fail;go_roundg (s.size - (k+1))
    case rel=>exact ⟨k+1,rfl,by omega,aQ,HB1,iE⟩
    case measure=>omega
   ·go_wp2_with fail;refine (eD c s k 32 _ HL.out hk (by omega)).mono ?_;rintro e w1 ⟨rfl,hB1,hL1⟩;have HB1:=aj (HB.out.trans hB1);have aQ:=aj hL1;clear hB1 hL1 HL HB;by_cases h2:cB s k=9
    ·go_wp2_with fail;refine (fO c s k 9 _ aQ.out hs (by omega) (by omega)).mono ?_;rintro e w2 ⟨rfl,hB2,hL2⟩;have HB2:=aj (HB1.out.trans hB2);have HL2:=aj hL2;clear hB2 hL2 aQ HB1;go_wp2_with fail;go_roundg (s.size - (k+1))
     case rel=>exact ⟨k+1,rfl,by omega,HL2,HB2,iE⟩
     case measure=>omega
    ·go_wp2_with fail;refine (eD c s k 9 _ aQ.out hk (by omega)).mono ?_;rintro e w2 ⟨rfl,hB2,hL2⟩;have HB2:=aj (HB1.out.trans hB2);have HL2:=aj hL2;clear hB2 hL2 aQ HB1;by_cases h3:cB s k=10
     ·go_wp2_with fail;refine (fO c s k 10 _ HL2.out hs (by omega) (by omega)).mono ?_;rintro e w3 ⟨rfl,hB3,hL3⟩;have HB3:=aj (HB2.out.trans hB3);have gF:=aj hL3;clear hB3 hL3 HL2 HB2;go_wp2_with fail;go_roundg (s.size - (k+1))
      case rel=>exact ⟨k+1,rfl,by omega,gF,HB3,iE⟩
      case measure=>omega
     ·go_wp2_with fail;refine (eD c s k 10 _ HL2.out hk (by omega)).mono ?_;rintro e w3 ⟨rfl,hB3,hL3⟩;have HB3:=aj (HB2.out.trans hB3);have gF:=aj hL3;clear hB3 hL3 HL2 HB2;go_wp2_with fail;refine (fO c s k 13 _ gF.out hs (by omega) (by omega)).mono ?_;rintro e w4 ⟨rfl,hB4,hL4⟩;have bO:=aj (HB3.out.trans hB4);have jM:=aj hL4;clear hB4 hL4 gF HB3;go_wp2_with fail;go_roundg (s.size - (k+1))
      case rel=>exact ⟨k+1,rfl,by omega,jM,bO,iE⟩
      case measure=>omega
  ·have hb2:qV (cB s k)=false:=by simpa using hb
   have iE:Hid (sk s i=k):=by show _=_;rw [<- HK.out,zq s k,if_neg hb]
   obtain ⟨h1,h2,h3,h4⟩:=QL hb2;clear hb hb2 HK;go_wp2_with fail;refine (eD c s k 32 _ HL.out hk (by omega)).mono ?_;rintro e w1 ⟨rfl,hB1,hL1⟩;have HB1:=aj (HB.out.trans hB1);have aQ:=aj hL1;clear hB1 hL1 HL HB;go_wp2_with fail;refine (eD c s k 9 _ aQ.out hk (by omega)).mono ?_;rintro e w2 ⟨rfl,hB2,hL2⟩;have HB2:=aj (HB1.out.trans hB2);have HL2:=aj hL2;clear hB2 hL2 aQ HB1;go_wp2_with fail;refine (eD c s k 10 _ HL2.out hk (by omega)).mono ?_;rintro e w3 ⟨rfl,hB3,hL3⟩;have HB3:=aj (HB2.out.trans hB3);have gF:=aj hL3;clear hB3 hL3 HL2 HB2;go_wp2_with fail;refine (eD c s k 13 _ gF.out hk (by omega)).mono ?_;rintro e w4 ⟨rfl,hB4,hL4⟩;have bO:=aj (HB3.out.trans hB4);have jM:=aj hL4;clear hB4 hL4 gF HB3;go_wp2_with fail;refine bodyPost_end (v:=.tuple #[]) (by simp [results,Tryz.results139,go_sem]) rfl ?_;refine ⟨rfl,bO.out,?_⟩;rw [iE.out];exact jM.out
theorem GN (x:Int) (w:World):Calls Tryz.prog 184 #[.int .u8 x] w fun e w'=>e=.returned (.bool (decide (48<=x)&&decide (x<=57)))/\w'=w:=by
 by_cases h1:(48:Int)<=x
 ·have h1d:decide ((48:Int)<=x)=true:=decide_eq_true h1;go_in;go_wp2_with fail;go_ret;refine ⟨?_,rfl⟩;rw [h1d,Bool.true_and];rfl
 ·have h1d:decide ((48:Int)<=x)=false:=decide_eq_false h1;go_in;go_wp2_with fail;go_ret;exact ⟨rfl,rfl⟩
theorem nH (x:Nat) (w:World):Calls Tryz.prog 184 #[.int .u8 (x:Int)] w fun e w'=>e=.returned (.bool (iM x))/\w'=w:=by
 refine (GN (x:Int) w).mono ?_;rintro e w' ⟨rfl,rfl⟩;refine ⟨av ?_,rfl⟩;unfold iM
 congr 1
 ·apply decide_eq_decide.2;omega
 ·apply decide_eq_decide.2;omega
theorem QM (x:Nat) (w:World) (hx:x<256):Calls Tryz.prog 290 #[.int .u8 (x:Int)] w fun e w'=>w'=w/\((∃ n,og x=some n/\e=.returned (.int .i32 (n:Int)))\/(og x=none/\e=fU 2)):=by
 have HD:=aj (nH x w);by_cases h1:iM x=true
 ·have hh:48<=x/\x<=57:=by unfold iM at h1;simp at h1;exact h1
  have HV:Hid (og x=some (x - 48)):=by show _=_;unfold og;rw [if_pos h1]
  go_in;go_wp2_with fail;refine HD.out.mono ?_;rintro e w1 ⟨rfl,rfl⟩;go_wp2_with fail;go_ret;refine ⟨rfl,Or.inl ⟨_,HV.out,aH ?_⟩⟩;go_num
 ·have hh:¬ (48<=x/\x<=57):=by unfold iM at h1;simp at h1;omega
  by_cases h2:97<=x/\x<=102
  ·have HV:Hid (og x=some (x - 87)):=by show _=_;unfold og;rw [if_neg h1,if_pos h2]
   have y1:decide ((97:Int)<=(x:Int))=true:=decide_eq_true (by omega);have y2:((x:Int)<=102):=by omega
   go_in;go_wp2_with fail;refine HD.out.mono ?_;rintro e w1 ⟨rfl,rfl⟩;go_wp2_with fail;go_ret;refine ⟨rfl,Or.inl ⟨_,HV.out,aH ?_⟩⟩;go_num
  ·by_cases h3:65<=x/\x<=70
   ·have HV:Hid (og x=some (x - 55)):=by show _=_;unfold og;rw [if_neg h1,if_neg h2,if_pos h3]
    have y1:decide ((97:Int)<=(x:Int))=false:=decide_eq_false (by omega);have y3:decide ((65:Int)<=(x:Int))=true:=decide_eq_true (by omega);have y4:((x:Int)<=70):=by omega
    go_in;go_wp2_with fail;refine HD.out.mono ?_;rintro e w1 ⟨rfl,rfl⟩;go_wp2_with fail;go_ret;refine ⟨rfl,Or.inl ⟨_,HV.out,aH ?_⟩⟩;go_num
   ·have HV:Hid (og x=none):=by show _=_;unfold og;rw [if_neg h1,if_neg h2,if_neg h3]
    by_cases h4:97<=x
    ·have y1:decide ((97:Int)<=(x:Int))=true:=decide_eq_true (by omega);have y2:¬ ((x:Int)<=102):=by omega
     have y3:decide ((65:Int)<=(x:Int))=true:=decide_eq_true (by omega);have y4:¬ ((x:Int)<=70):=by omega
     go_in;go_wp2_with fail;refine HD.out.mono ?_;rintro e w1 ⟨rfl,rfl⟩;go_wp2_with fail;exact ⟨rfl,rfl,Or.inr ⟨HV.out,rfl⟩⟩
    ·have y1:decide ((97:Int)<=(x:Int))=false:=decide_eq_false (by omega);by_cases h5:65<=x
     ·have y3:decide ((65:Int)<=(x:Int))=true:=decide_eq_true (by omega);have y4:¬ ((x:Int)<=70):=by omega
      go_in;go_wp2_with fail;refine HD.out.mono ?_;rintro e w1 ⟨rfl,rfl⟩;go_wp2_with fail;exact ⟨rfl,rfl,Or.inr ⟨HV.out,rfl⟩⟩
     ·have y3:decide ((65:Int)<=(x:Int))=false:=decide_eq_false (by omega);go_in;go_wp2_with fail;refine HD.out.mono ?_;rintro e w1 ⟨rfl,rfl⟩;go_wp2_with fail;exact ⟨rfl,rfl,Or.inr ⟨HV.out,rfl⟩⟩
theorem Du (c:Nat) (s:ByteArray) (i:Nat) (a b:Int) (w:World) (h:PL c s i w) (hs:s.size<=4000) (ha:(cB s i:Int)=a) (ha2:a<256) (hb2:b<256) :
  Calls Tryz.prog 224 #[.pointer (some ⟨c,0,none⟩),.int .u8 a,.int .u8 b] w fun e w'=>aG c w w'/\(((cB s (sk s (i+1)):Int)=b/\e=.returned (.bool false)/\PL c s (sk s (i+1)+1) w')\/((cB s (sk s (i+1)):Int)≠b/\e=.returned (.bool true)/\PL c s (sk s (i+1)) w')):=by
 have hlt:i<s.size:=aZ (by omega);have hle:=fu (s:=s) (i:=i+1) (by omega);have HE:=aj (jU c s i a w h hs ha ha2);clear h;go_in;go_wp2_with fail;refine HE.out.mono ?_;rintro e w1 ⟨rfl,hB1,hL1⟩;have HB1:=aj hB1;have aQ:=aj hL1;clear hB1 hL1 HE;go_wp2_with fail;refine (qZ c s (i+1) w1 aQ.out hs (by omega)).mono ?_;rintro e w2 ⟨rfl,hB2,hL2⟩;have HB2:=aj (HB1.out.trans hB2);have HL2:=aj hL2;clear hB2 hL2 HB1 aQ;by_cases hc:(cB s (sk s (i+1)):Int)=b
 ·have HA:=aj (fO c s _ b w2 HL2.out hs hc hb2);go_wp2_with fail;refine HA.out.mono ?_;rintro e w3 ⟨rfl,hB3,hL3⟩;have HB3:=aj (HB2.out.trans hB3);have gF:=aj hL3;have HC:=aj hc;clear hB3 hL3 HB2 HL2 HA hc;go_wp2_with fail;go_ret;exact ⟨HB3.out,Or.inl ⟨HC.out,rfl,gF.out⟩⟩
 ·have HA:=aj (eD c s _ b w2 HL2.out hle hc);go_wp2_with fail;refine HA.out.mono ?_;rintro e w3 ⟨rfl,hB3,hL3⟩;have HB3:=aj (HB2.out.trans hB3);have gF:=aj hL3;have HC:=aj hc;clear hB3 hL3 HB2 HL2 HA hc;go_wp2_with fail;go_ret;exact ⟨HB3.out,Or.inr ⟨HC.out,rfl,gF.out⟩⟩
theorem Ap (c:Nat) (s:ByteArray) (i:Nat) (b:Int) (w:World) (h:PL c s i w) (hs:s.size<=4000) (hi:i<=s.size) (hb2:b<256) :
  Calls Tryz.prog 225 #[.pointer (some ⟨c,0,none⟩),.int .u8 b] w fun e w'=>aG c w w'/\((cB s i=44/\e=.returned (.bool true)/\PL c s (i+1) w')\/((cB s i:Int)=b/\e=.returned (.bool false)/\PL c s (i+1) w')\/(cB s i≠44/\(cB s i:Int)≠b/\e=fU 2)):=by
 have HL:=aj h;clear h;by_cases sj:cB s i=44
 ·have HA:=aj (fO c s i 44 w HL.out hs (by omega) (by omega));have HC:=aj sj;clear sj;go_in;go_wp2_with fail;refine HA.out.mono ?_;rintro e w3 ⟨rfl,hB3,hL3⟩;have HB3:=aj hB3;have gF:=aj hL3;clear hB3 hL3 HA;go_wp2_with fail;go_ret;exact ⟨HB3.out,Or.inl ⟨HC.out,rfl,gF.out⟩⟩
 ·have HA:=aj (eD c s i 44 w HL.out hi (by omega));have HC:=aj sj;clear sj;go_in;go_wp2_with fail;refine HA.out.mono ?_;rintro e w3 ⟨rfl,hB3,hL3⟩;have HB3:=aj hB3;have gF:=aj hL3;clear hB3 hL3 HA;by_cases hc:(cB s i:Int)=b
  ·have HE:=aj (jU c s i b w3 gF.out hs hc hb2);have HD:=aj hc;clear hc;go_wp2_with fail;refine HE.out.mono ?_;rintro e w4 ⟨rfl,hB4,hL4⟩;have bO:=aj (HB3.out.trans hB4);have jM:=aj hL4;clear hB4 hL4 HE;go_wp2_with fail;go_ret;exact ⟨bO.out,Or.inr (Or.inl ⟨HD.out,rfl,jM.out⟩)⟩
  ·have HE:=aj (oJ c s i b w3 gF.out hs hi hc);have HD:=aj hc;clear hc;go_wp2_with fail;refine HE.out.mono ?_;rintro e w4 ⟨rfl,hB4⟩;have bO:=aj (HB3.out.trans hB4);clear hB4 HE;go_wp2_with fail;exact ⟨rfl,bO.out,Or.inr (Or.inr ⟨HC.out,HD.out,rfl⟩)⟩
theorem sw {s:ByteArray} {i k a b:Nat} (h:pQ s i k=some a) (hb:og (cB s (i+k))=some b):pQ s i (k+1)=some (16*a+b):=by
 rw [pQ,h];simp only [Option.bind_some];rw [hb];rfl
theorem wU {s:ByteArray} {i k a:Nat} (h:pQ s i k=some a) (hb:og (cB s (i+k))=none) (hk:k<4):lJ s i=none:=by
 refine Ot (k:=k+1) (by omega) ?_;rw [pQ,h];simp only [Option.bind_some];rw [hb];rfl
def QN (c:Nat) (s:ByteArray) (i:Nat) (w:World) (e:Ending) (w':World):Prop :=
 aG c w w'/\((∃ n,lJ s i=some n/\e=.returned (.int .i32 (n:Int))/\PL c s (i+4) w')\/(lJ s i=none/\e=fU 2))
theorem GQ (c:Nat) (s:ByteArray) (i:Nat) (w:World) (h:PL c s i w) (hs:s.size<=4000) (hi:i<=s.size) :
  Calls Tryz.prog 280 #[.pointer (some ⟨c,0,none⟩)] w (QN c s i w):=by
 have iL:=aj h;clear h;go_in;go_wp2_with fail;go_loopg [3,4] 4 (fun g r j wr=>∃ k a:Nat,g=4 - k/\k<=4/\j=.int .i64 (k:Int)/\r=.int .i32 (a:Int)/\a<16 ^ k/\i+k<=s.size/\Hid (PL c s (i+k) wr)/\Hid (aG c w wr)/\Hid (pQ s i k=some a))
 case atStart=>exact ⟨0,0,rfl,by omega,rfl,rfl,by omega,by omega,iL,aG.refl _ _,rfl⟩
 case round =>
  clear iL;obtain ⟨k,a,rfl,hk,rfl,rfl,ha,hik,HL,HB,HX⟩:=hrel;by_cases hlt:k<4
  ·have ha2:a<65536:=Nat.lt_of_lt_of_le ha (Nat.pow_le_pow_right (show 0<16 by decide) hk);have Zn:a<4096:=Nat.lt_of_lt_of_le ha (Nat.pow_le_pow_right (show 0<16 by decide) (show k<=3 by omega));have x1:(k:Int)<4:=by omega
   clear ha;go_wp2_with fail;refine (uZ c s (i+k) wr HL.out hs hik).mono ?_;rintro e w1 ⟨hB1,⟨hlt1,rfl,hL1⟩ | ⟨he1,rfl⟩⟩
   ·have HB1:=aj (HB.out.trans hB1);have aQ:=aj hL1;clear hB1 hL1 HL HB;go_wp2_with fail;refine (QM (cB s (i+k)) w1 (Wy hlt1)).mono ?_;rintro e w2 ⟨rfl,⟨n,hn,rfl⟩ | ⟨hn,rfl⟩⟩
    ·have q8:=aj (sw HX.out hn);have hn2:=MZ hn;have hx2:=eZ q8.out;clear HX hn;go_wp2_with fail;go_roundg (4 - (k+1))
     case rel=>exact ⟨k+1,16*a+n,rfl,by omega,by go_num,by go_num,hx2.1,by omega,aQ,HB1,q8⟩
     case measure=>omega
    ·have q8:=aj (wU HX.out hn hlt);clear HX hn;go_wp2_with fail;exact ⟨rfl,HB1.out,Or.inr ⟨q8.out,rfl⟩⟩
   ·have HB1:=aj (HB.out.trans hB1);have hn:og (cB s (i+k))=none:=by rw [nZ (by omega)];rfl
    have q8:=aj (wU HX.out hn hlt);clear HX hn hB1 HB;go_wp2_with fail;exact ⟨rfl,HB1.out,Or.inr ⟨q8.out,rfl⟩⟩
  ·have hk4:k=4:=by omega
   subst hk4;go_wp2_with fail;go_ret;exact ⟨HB.out,Or.inl ⟨a,HX.out,rfl,HL.out⟩⟩
end Go.Proofs.YtknakfpciccoaaaGreatDoor
/- Contracts of the library's shelf, laid at this dump: strings.HasPrefix, utf8.DecodeRuneInString, strings.Builder, strconv.ParseInt. -/
namespace Go.Proofs
open Go.Shelf
def Tryz.laysPrefix_ren:Go.Shelf.Ren:=⟨fun | 99=>255 | 206=>274 | n=>n,fun | 9=>9 | 4=>4 | 3=>3 | n=>n,fun | n=>n⟩
theorem Tryz.laysPrefix:Go.Proofs.Lays.n99 Tryz.prog Tryz.laysPrefix_ren:={
 mixed:=by kernel_rfl
 f99:=Tryz.func255.trans (congrArg some (by kernel_rfl))
 f206:=Tryz.func274.trans (congrArg some (by kernel_rfl))
 t3:=Tryz.underlying3
 a3:=Tryz.isAgg3
 z3:=Tryz.sizeOf3
 v3:=Tryz.zeroValue3
 t4:=Tryz.underlying4
 a4:=Tryz.isAgg4
 z4:=Tryz.sizeOf4
 v4:=Tryz.zeroValue4
 t9:=Tryz.underlying9
 a9:=Tryz.isAgg9
 z9:=Tryz.sizeOf9
 v9:=Tryz.zeroValue9 }
def Tryz.laysDecode_ren:Go.Shelf.Ren:=⟨fun | 197=>252 | 260=>268 | n=>n,fun | 9=>9 | 21=>21 | 3=>3 | 4=>4 | 5=>5 | 105=>287 | 119=>209 | 0=>0 | 46=>155 | 139=>212 | 138=>211 | n=>n,fun | 3=>0 | 4=>1 | n=>n⟩
theorem Tryz.laysDecode:Go.Proofs.Lays.n197 Tryz.prog Tryz.laysDecode_ren:={
 mixed:=by kernel_rfl
 f197:=Tryz.func252.trans (congrArg some (by kernel_rfl))
 f260:=Tryz.func268.trans (congrArg some (by kernel_rfl))
 t0:=Tryz.underlying0
 a0:=Tryz.isAgg0
 z0:=Tryz.sizeOf0
 v0:=Tryz.zeroValue0
 t3:=Tryz.underlying3
 a3:=Tryz.isAgg3
 z3:=Tryz.sizeOf3
 v3:=Tryz.zeroValue3
 t4:=Tryz.underlying4
 a4:=Tryz.isAgg4
 z4:=Tryz.sizeOf4
 v4:=Tryz.zeroValue4
 t5:=Tryz.underlying5
 a5:=Tryz.isAgg5
 z5:=Tryz.sizeOf5
 v5:=Tryz.zeroValue5
 t9:=Tryz.underlying9
 a9:=Tryz.isAgg9
 z9:=Tryz.sizeOf9
 v9:=Tryz.zeroValue9
 t21:=Tryz.underlying21
 a21:=Tryz.isAgg21
 z21:=Tryz.sizeOf21
 v21:=Tryz.zeroValue21
 t46:=Tryz.underlying155
 a46:=Tryz.isAgg155
 z46:=Tryz.sizeOf155
 v46:=Tryz.zeroValue155
 t105:=Tryz.underlying287
 a105:=Tryz.isAgg287
 z105:=Tryz.sizeOf287
 v105:=Tryz.zeroValue287
 t119:=Tryz.underlying209
 a119:=Tryz.isAgg209
 z119:=Tryz.sizeOf209
 t138:=Tryz.underlying211
 a138:=Tryz.isAgg211
 z138:=Tryz.sizeOf211
 v138:=Tryz.zeroValue211
 t139:=Tryz.underlying212
 a139:=Tryz.isAgg212
 z139:=Tryz.sizeOf212
 v139:=Tryz.zeroValue212
 g3:=by kernel_rfl
 g4:=by kernel_rfl }
def Tryz.laysString_ren:Go.Shelf.Ren:=⟨fun | 169=>42 | n=>n,fun | 70=>62 | 9=>9 | 0=>0 | 72=>65 | 37=>63 | 127=>123 | 3=>3 | 5=>5 | n=>n,fun | n=>n⟩
theorem Tryz.laysString:Go.Proofs.Lays.n169 Tryz.prog Tryz.laysString_ren:={
 mixed:=by kernel_rfl
 f169:=Tryz.func42.trans (congrArg some (by kernel_rfl))
 t0:=Tryz.underlying0
 a0:=Tryz.isAgg0
 z0:=Tryz.sizeOf0
 v0:=Tryz.zeroValue0
 t3:=Tryz.underlying3
 a3:=Tryz.isAgg3
 z3:=Tryz.sizeOf3
 v3:=Tryz.zeroValue3
 t9:=Tryz.underlying9
 a9:=Tryz.isAgg9
 z9:=Tryz.sizeOf9
 v9:=Tryz.zeroValue9
 t37:=Tryz.underlying63
 a37:=Tryz.isAgg63
 z37:=Tryz.sizeOf63
 v37:=Tryz.zeroValue63
 t70:=Tryz.underlying62
 a70:=Tryz.isAgg62
 z70:=Tryz.sizeOf62
 v70:=Tryz.zeroValue62
 t72:=Tryz.underlying65
 a72:=Tryz.isAgg65
 z72:=Tryz.sizeOf65
 v72:=Tryz.zeroValue65
 t127:=Tryz.underlying123
 a127:=Tryz.isAgg123
 z127:=Tryz.sizeOf123
 v127:=Tryz.zeroValue123 }
def Tryz.laysParseInt_ren:Go.Shelf.Ren:=⟨fun | 174=>226 | 247=>253 | 245=>254 | 287=>269 | 279=>270 | 280=>271 | 281=>272 | 282=>273 | 321=>281 | 322=>282 | 316=>115 | 171=>54 | 205=>283 | 243=>98 | 246=>127 | 283=>162 | 284=>163 | 285=>164 | 286=>165 | 129=>196 | 317=>195 | 318=>197 | 319=>198 | 320=>199 | 337=>240 | 338=>241 | n=>n,fun | 9=>9 | 3=>3 | 2=>2 | 75=>116 | 85=>234 | 4=>4 | 167=>304 | 5=>5 | 53=>127 | 175=>305 | 46=>155 | 168=>307 | 37=>63 | 0=>0 | 210=>320 | 21=>21 | 127=>123 | 145=>328 | 143=>326 | 171=>187 | 173=>190 | 212=>215 | 51=>216 | 20=>20 | 213=>217 | 232=>301 | 233=>302 | 80=>67 | n=>n,fun | 15=>5 | 16=>6 | 17=>2 | 18=>3 | 19=>4 | n=>n⟩
theorem Tryz.laysParseInt:Go.Proofs.LaysC.n174 Tryz.prog Tryz.laysParseInt_ren:={
 mixed:=by kernel_rfl
 f129:=Tryz.func196.trans (congrArg some (by kernel_rfl))
 f171:=Tryz.func54.trans (congrArg some (by kernel_rfl))
 f174:=Tryz.func226.trans (congrArg some (by kernel_rfl))
 f205:=Tryz.func283.trans (congrArg some (by kernel_rfl))
 f243:=Tryz.func98.trans (congrArg some (by kernel_rfl))
 f245:=Tryz.func254.trans (congrArg some (by kernel_rfl))
 f246:=Tryz.func127.trans (congrArg some (by kernel_rfl))
 f247:=Tryz.func253.trans (congrArg some (by kernel_rfl))
 f279:=Tryz.func270.trans (congrArg some (by kernel_rfl))
 f280:=Tryz.func271.trans (congrArg some (by kernel_rfl))
 f281:=Tryz.func272.trans (congrArg some (by kernel_rfl))
 f282:=Tryz.func273.trans (congrArg some (by kernel_rfl))
 f283:=Tryz.func162.trans (congrArg some (by kernel_rfl))
 f284:=Tryz.func163.trans (congrArg some (by kernel_rfl))
 f285:=Tryz.func164.trans (congrArg some (by kernel_rfl))
 f286:=Tryz.func165.trans (congrArg some (by kernel_rfl))
 f287:=Tryz.func269.trans (congrArg some (by kernel_rfl))
 f316:=Tryz.func115.trans (congrArg some (by kernel_rfl))
 f317:=Tryz.func195.trans (congrArg some (by kernel_rfl))
 f318:=Tryz.func197.trans (congrArg some (by kernel_rfl))
 f319:=Tryz.func198.trans (congrArg some (by kernel_rfl))
 f320:=Tryz.func199.trans (congrArg some (by kernel_rfl))
 f321:=Tryz.func281.trans (congrArg some (by kernel_rfl))
 f322:=Tryz.func282.trans (congrArg some (by kernel_rfl))
 f337:=Tryz.func240.trans (congrArg some (by kernel_rfl))
 f338:=Tryz.func241.trans (congrArg some (by kernel_rfl))
 t0:=Tryz.underlying0
 a0:=Tryz.isAgg0
 z0:=Tryz.sizeOf0
 v0:=Tryz.zeroValue0
 t2:=Tryz.underlying2
 a2:=Tryz.isAgg2
 z2:=Tryz.sizeOf2
 v2:=Tryz.zeroValue2
 t3:=Tryz.underlying3
 a3:=Tryz.isAgg3
 z3:=Tryz.sizeOf3
 v3:=Tryz.zeroValue3
 t4:=Tryz.underlying4
 a4:=Tryz.isAgg4
 z4:=Tryz.sizeOf4
 v4:=Tryz.zeroValue4
 t5:=Tryz.underlying5
 a5:=Tryz.isAgg5
 z5:=Tryz.sizeOf5
 v5:=Tryz.zeroValue5
 t9:=Tryz.underlying9
 a9:=Tryz.isAgg9
 z9:=Tryz.sizeOf9
 v9:=Tryz.zeroValue9
 t20:=Tryz.underlying20
 a20:=Tryz.isAgg20
 z20:=Tryz.sizeOf20
 v20:=Tryz.zeroValue20
 t21:=Tryz.underlying21
 a21:=Tryz.isAgg21
 z21:=Tryz.sizeOf21
 v21:=Tryz.zeroValue21
 t37:=Tryz.underlying63
 a37:=Tryz.isAgg63
 z37:=Tryz.sizeOf63
 v37:=Tryz.zeroValue63
 t46:=Tryz.underlying155
 a46:=Tryz.isAgg155
 z46:=Tryz.sizeOf155
 v46:=Tryz.zeroValue155
 t51:=Tryz.underlying216
 a51:=Tryz.isAgg216
 z51:=Tryz.sizeOf216
 v51:=Tryz.zeroValue216
 t53:=Tryz.underlying127
 a53:=Tryz.isAgg127
 z53:=Tryz.sizeOf127
 v53:=Tryz.zeroValue127
 t75:=Tryz.underlying116
 a75:=Tryz.isAgg116
 z75:=Tryz.sizeOf116
 v75:=Tryz.zeroValue116
 t85:=Tryz.underlying234
 a85:=Tryz.isAgg234
 z85:=Tryz.sizeOf234
 v85:=Tryz.zeroValue234
 t127:=Tryz.underlying123
 a127:=Tryz.isAgg123
 z127:=Tryz.sizeOf123
 v127:=Tryz.zeroValue123
 t143:=Tryz.underlying326
 a143:=Tryz.isAgg326
 z143:=Tryz.sizeOf326
 v143:=Tryz.zeroValue326
 t145:=Tryz.underlying328
 a145:=Tryz.isAgg328
 z145:=Tryz.sizeOf328
 v145:=Tryz.zeroValue328
 t167:=Tryz.underlying304
 a167:=Tryz.isAgg304
 z167:=Tryz.sizeOf304
 v167:=Tryz.zeroValue304
 t168:=Tryz.underlying307
 a168:=Tryz.isAgg307
 z168:=Tryz.sizeOf307
 v168:=Tryz.zeroValue307
 t171:=Tryz.underlying187
 a171:=Tryz.isAgg187
 z171:=Tryz.sizeOf187
 v171:=Tryz.zeroValue187
 t173:=Tryz.underlying190
 a173:=Tryz.isAgg190
 z173:=Tryz.sizeOf190
 v173:=Tryz.zeroValue190
 t175:=Tryz.underlying305
 a175:=Tryz.isAgg305
 z175:=Tryz.sizeOf305
 v175:=Tryz.zeroValue305
 t210:=Tryz.underlying320
 a210:=Tryz.isAgg320
 z210:=Tryz.sizeOf320
 v210:=Tryz.zeroValue320
 t212:=Tryz.underlying215
 a212:=Tryz.isAgg215
 z212:=Tryz.sizeOf215
 v212:=Tryz.zeroValue215
 t213:=Tryz.underlying217
 a213:=Tryz.isAgg217
 z213:=Tryz.sizeOf217
 t232:=Tryz.underlying301
 a232:=Tryz.isAgg301
 z232:=Tryz.sizeOf301
 v232:=Tryz.zeroValue301
 t233:=Tryz.underlying302
 a233:=Tryz.isAgg302
 z233:=Tryz.sizeOf302
 v233:=Tryz.zeroValue302
 g15:=by kernel_rfl
 g16:=by kernel_rfl
 g17:=by kernel_rfl
 g18:=by kernel_rfl
 g19:=by kernel_rfl
 t80:=Tryz.underlying67
 a80:=Tryz.isAgg67
 z80:=Tryz.sizeOf67
 v80:=Tryz.zeroValue67
 i0:=by kernel_rfl
 i2:=by kernel_rfl
 i3:=by kernel_rfl
 i4:=by kernel_rfl
 i5:=by kernel_rfl
 i9:=by kernel_rfl
 i20:=by kernel_rfl
 i21:=by kernel_rfl
 i37:=by kernel_rfl
 i46:=by kernel_rfl
 i51:=by kernel_rfl
 i53:=by kernel_rfl
 i75:=by kernel_rfl
 i80:=by kernel_rfl
 i85:=by kernel_rfl
 i127:=by kernel_rfl
 i143:=by kernel_rfl
 i145:=by kernel_rfl
 i167:=by kernel_rfl
 i168:=by kernel_rfl
 i171:=by kernel_rfl
 i173:=by kernel_rfl
 i175:=by kernel_rfl
 i210:=by kernel_rfl
 i212:=by kernel_rfl
 i232:=by kernel_rfl
 i233:=by kernel_rfl
 m15:=by kernel_rfl
 m16:=by kernel_rfl
 m17:=by kernel_rfl
 m18:=by kernel_rfl
 m19:=by kernel_rfl
 c0:=by kernel_rfl
 c2:=by kernel_rfl
 c3:=by kernel_rfl
 c4:=by kernel_rfl
 c5:=by kernel_rfl
 c9:=by kernel_rfl
 c20:=by kernel_rfl
 c21:=by kernel_rfl
 c37:=by kernel_rfl
 c46:=by kernel_rfl
 c51:=by kernel_rfl
 c53:=by kernel_rfl
 c75:=by kernel_rfl
 c80:=by kernel_rfl
 c85:=by kernel_rfl
 c127:=by kernel_rfl
 c143:=by kernel_rfl
 c145:=by kernel_rfl
 c167:=by kernel_rfl
 c168:=by kernel_rfl
 c171:=by kernel_rfl
 c173:=by kernel_rfl
 c175:=by kernel_rfl
 c210:=by kernel_rfl
 c212:=by kernel_rfl
 c213:=by kernel_rfl
 c232:=by kernel_rfl
 c233:=by kernel_rfl }
def Tryz.laysWriteRune_ren:Go.Shelf.Ren:=⟨fun | 168=>222 | 240=>125 | 242=>250 | 276=>161 | 278=>266 | n=>n,fun | 0=>0 | 3=>3 | 4=>4 | 5=>5 | 9=>9 | 20=>20 | 21=>21 | 37=>63 | 46=>155 | 51=>216 | 70=>62 | 72=>65 | 75=>116 | 164=>185 | 80=>67 | n=>n,fun | n=>n⟩
theorem Tryz.laysWriteRune:Go.Proofs.Lays.n168 Tryz.prog Tryz.laysWriteRune_ren:={
 mixed:=by kernel_rfl
 f168:=Tryz.func222.trans (congrArg some (by kernel_rfl))
 f240:=Tryz.func125.trans (congrArg some (by kernel_rfl))
 f242:=Tryz.func250.trans (congrArg some (by kernel_rfl))
 f276:=Tryz.func161.trans (congrArg some (by kernel_rfl))
 f278:=Tryz.func266.trans (congrArg some (by kernel_rfl))
 t0:=Tryz.underlying0
 a0:=Tryz.isAgg0
 z0:=Tryz.sizeOf0
 v0:=Tryz.zeroValue0
 t3:=Tryz.underlying3
 a3:=Tryz.isAgg3
 z3:=Tryz.sizeOf3
 v3:=Tryz.zeroValue3
 t4:=Tryz.underlying4
 a4:=Tryz.isAgg4
 z4:=Tryz.sizeOf4
 v4:=Tryz.zeroValue4
 t5:=Tryz.underlying5
 a5:=Tryz.isAgg5
 z5:=Tryz.sizeOf5
 v5:=Tryz.zeroValue5
 t9:=Tryz.underlying9
 a9:=Tryz.isAgg9
 z9:=Tryz.sizeOf9
 v9:=Tryz.zeroValue9
 t20:=Tryz.underlying20
 a20:=Tryz.isAgg20
 z20:=Tryz.sizeOf20
 v20:=Tryz.zeroValue20
 t21:=Tryz.underlying21
 a21:=Tryz.isAgg21
 z21:=Tryz.sizeOf21
 v21:=Tryz.zeroValue21
 t37:=Tryz.underlying63
 a37:=Tryz.isAgg63
 z37:=Tryz.sizeOf63
 v37:=Tryz.zeroValue63
 t46:=Tryz.underlying155
 a46:=Tryz.isAgg155
 z46:=Tryz.sizeOf155
 v46:=Tryz.zeroValue155
 t51:=Tryz.underlying216
 a51:=Tryz.isAgg216
 z51:=Tryz.sizeOf216
 v51:=Tryz.zeroValue216
 t70:=Tryz.underlying62
 a70:=Tryz.isAgg62
 z70:=Tryz.sizeOf62
 v70:=Tryz.zeroValue62
 t72:=Tryz.underlying65
 a72:=Tryz.isAgg65
 z72:=Tryz.sizeOf65
 v72:=Tryz.zeroValue65
 t75:=Tryz.underlying116
 a75:=Tryz.isAgg116
 z75:=Tryz.sizeOf116
 v75:=Tryz.zeroValue116
 t164:=Tryz.underlying185
 a164:=Tryz.isAgg185
 z164:=Tryz.sizeOf185
 v164:=Tryz.zeroValue185 }
theorem Tryz.extraWriteRune:Go.Proofs.Builder.Extra Tryz.prog Tryz.laysWriteRune_ren:={
 sizeBuilder:=by kernel_rfl
 liesBuilder:=by kernel_rfl
 t5:=Tryz.underlying5
 a5:=Tryz.isAgg5
 z5:=Tryz.sizeOf5
 v5:=Tryz.zeroValue5
 infoByte:=by kernel_rfl
 cellsByte:=by kernel_rfl
 sizeByte:=by kernel_rfl
 neB5:=by decide }
theorem Tryz.extraString:Go.Proofs.Builder.Extra Tryz.prog Tryz.laysString_ren:={
 sizeBuilder:=by kernel_rfl
 liesBuilder:=by kernel_rfl
 t5:=Tryz.underlying5
 a5:=Tryz.isAgg5
 z5:=Tryz.sizeOf5
 v5:=Tryz.zeroValue5
 infoByte:=by kernel_rfl
 cellsByte:=by kernel_rfl
 sizeByte:=by kernel_rfl
 neB5:=by decide }
end Go.Proofs
