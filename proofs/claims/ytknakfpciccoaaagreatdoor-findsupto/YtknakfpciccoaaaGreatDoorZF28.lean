import Derived.Test.YtknakfpciccoaaaGreatDoorZF27
import Derived.Test.YtknakfpciccoaaaGreatDoorZF20
import Derived.Test.YtknakfpciccoaaaGreatDoorZF11
/- The reference's steps. -/
set_option maxHeartbeats 8000000
set_option maxRecDepth 100000
namespace Go.Proofs.YtknakfpciccoaaaGreatDoor
open Go.RowKit
theorem xI {x:ByteArray}:∀ {l:List ByteArray},(∀ y ∈ l,x≠y)->bT x l=none
 | [],_=>rfl
 | y::l,h=>by
  rw [bT,if_neg (h y (List.mem_cons_self ..)),xI fun z hz=>h z (List.mem_cons_of_mem _ hz)];rfl
theorem xJ {x:ByteArray}:∀ {l:List ByteArray},x ∈ l->(bT x l).isSome=true
 | y::l,h=>by
  rw [bT];split
  ·rfl
  ·rename_i hne;rcases List.mem_cons.1 h with h | h
   ·exact (hne h).elim
   ·have:=xJ h;cases he:bT x l with
    | none=>rw [he] at this;cases this
    | some k=>rfl
structure tQ (x:ByteArray) (L:List ByteArray) (fr k:Nat):Prop where
 ne:∀ y ∈ L,(⟨#[]⟩:ByteArray)≠y
 go:k<=x.size->fr<=k/\aU x=L++aU (x.extract fr x.size)/\Lib.NoOccB (x.extract fr x.size) zf (k - fr)
 fin:x.size<k->aU x=L
theorem tQ.start (x:ByteArray):tQ x [] 0 0:=⟨fun y h=>(by cases h),fun _=>⟨Nat.le_refl _,by rw [List.nil_append,ByteArray.extract_zero_size],fun j h=>absurd h (Nat.not_lt_zero j)⟩,fun h=>absurd h (Nat.not_lt_zero _)⟩
theorem tQ.miss {x:ByteArray} {L:List ByteArray} {fr k:Nat} (h:tQ x L fr k) (hk:k<x.size) (hd:x[k]≠46):tQ x L fr (k+1):=by
 obtain ⟨h1,h2,h3⟩:=h.go (by omega);refine ⟨h.ne,fun _=>⟨by omega,h2,?_⟩,fun hs=>absurd hs (by omega)⟩;have e:fr+(k - fr)=k:=by omega
 have:=Tj h3 (by omega) (by simpa only [e] using hd);rw [show k+1 - fr=k - fr+1 by omega];exact this
theorem tQ.cut {x:ByteArray} {L:List ByteArray} {fr k:Nat} (h:tQ x L fr k) (hk:k<=x.size) (hd:(hk:k<x.size)->x[k]=46):x.extract fr k ∈ aU x/\(fr≠k->tQ x (L++[x.extract fr k]) (k+1) (k+1)):=by
 obtain ⟨h1,h2,h3⟩:=h.go hk;have e:fr+(k - fr)=k:=by omega
 have hne:fr≠k->∀ y ∈ L++[x.extract fr k],(⟨#[]⟩:ByteArray)≠y:=fun hn y hy=>by
  rcases List.mem_append.1 hy with hy | hy
  ·exact h.ne y hy
  ·rw [List.mem_singleton.1 hy];intro q;have:=congrArg ByteArray.size q;simp at this;have q0:(ByteArray.size ⟨#[]⟩)=0:=rfl;omega
 by_cases hz:k<x.size
 ·have:=VF h3 (by omega) (by simpa only [e] using hd hz);rw [e] at this;rw [this] at h2;refine ⟨by rw [h2];simp,fun hn=>⟨hne hn,fun hk'=>⟨Nat.le_refl _,by rw [h2,List.append_assoc];rfl,by rw [Nat.sub_self];exact fun j h=>absurd h (Nat.not_lt_zero j)⟩,fun hs=>absurd hs (by omega)⟩⟩
 ·obtain rfl:k=x.size:=by omega
  have:=VG h3 e;rw [this] at h2;exact ⟨by rw [h2];simp,fun hn=>⟨hne hn,fun hk'=>absurd hk' (by omega),fun _=>h2⟩⟩
theorem EA (x:ByteArray) (w:World) (hx:x.size<=1000000):Calls Tryz.prog 208 #[.string x] w fun e w'=>Below w.heap.size w w'/\((fD x=true/\∃ v,e=.returned (.tuple #[v,.bool true])/\w'.ownsRow w.heap.size 9 1 v (aU x).length ((aU x).map .string))\/(fD x=false/\e=.returned (.tuple #[.slice none 0 0,.bool false]))):=by
 obtain ⟨iS,Rk,Rl,Rm,Rn⟩:=info_parts Dz
 have Y8:Hid ((⟨#[]⟩:ByteArray) ∈ aU x->fD x=false):=fun h=>by
  unfold fD;have:=xJ h;cases he:bT ⟨#[]⟩ (aU x) with
  | none=>rw [he] at this;cases this
  | some k=>rfl
 have Pv:Hid ((∀ y ∈ aU x,(⟨#[]⟩:ByteArray)≠y)->fD x=true):=fun h=>by
  unfold fD;rw [xI h];rfl
 go_in;go_wp2_with fail;go_loopg [4,5,6] (x.size+1) (fun g o f i wr=>∃ (fr k:Nat) (L:List ByteArray),g=x.size+1 - k/\fr<=k/\k<=x.size+1/\L.length<=k/\f=.int .i64 fr/\i=.int .i64 k/\Hid (wr.ownsRow w.heap.size 9 1 o L.length (L.map .string))/\Hid (Below w.heap.size w wr)/\Hid (tQ x L fr k))
 case atStart=>exact ⟨0,0,[],rfl,Nat.le_refl _,Nat.zero_le _,Nat.zero_le _,rfl,rfl,World.ownsRow_nil _ _ _ _,Below.refl _ _,tQ.start x⟩
 case round =>
  obtain ⟨fr,k,L,rfl,XQ,hk,hLk,rfl,rfl,HR,HB,HI⟩:=hrel;by_cases hlt:k<=x.size
  ·have x1:(k:Int)<=(x.size:Int):=by omega
   have hend:(k=x.size\/∃ h:k<x.size,x[k]=46)\/∃ h:k<x.size,x[k]≠46:=by
    by_cases h:k<x.size
    ·by_cases h':x[k]=46
     ·exact .inl (.inr ⟨h,h'⟩)
     ·exact .inr ⟨h,h'⟩
    ·exact .inl (.inl (by omega))
   rcases hend with hd | ⟨hz,hd⟩
   ·have hcut:=HI.out.cut hlt (fun h=>by
     rcases hd with rfl | ⟨_,h'⟩
     ·exact absurd h (Nat.lt_irrefl _)
     ·exact h')
    obtain ⟨hm,hgo⟩:=hcut;by_cases hf:fr=k
    ·subst hf;have HE:Hid (fD x=false):=Y8.out (by have e:x.extract fr fr=⟨#[]⟩:=ByteArray.extract_same;rw [e] at hm;exact hm);have x2:((fr:Int)==(fr:Int))=true:=by simp
     clear hm hgo XQ HR HI;rcases hd with hs | ⟨hz,hc⟩
     ·have x3:((fr:Int)==(x.size:Int))=true:=by simp;omega
      clear hs;go_wp2_with fail;go_ret2;exact ⟨HB.out,.inr ⟨HE.out,rfl⟩⟩
     ·have x3:((fr:Int)==(x.size:Int))=false:=by simp;omega
      have x4:(fr:Int)<(x.size:Int):=by omega
      go_wp2_with fail;go_ret2;exact ⟨HB.out,.inr ⟨HE.out,rfl⟩⟩
    ·have HI2:=aj (hgo hf);have x2:((k:Int)==(fr:Int))=false:=by simp;omega
     have x5:(fr:Int)<=(k:Int):=by omega
     have YS:(L++[x.extract fr k]).length<=k+1:=by rw [List.length_append];show _+1<=_;omega
     obtain ⟨seg,hseg⟩:∃ seg,x.extract fr k=seg:=⟨_,rfl⟩;rw [hseg] at HI2 YS;have bO:=aj (HB.out.alloc HB.out.size (.cells #[.string seg] 9));have HR4:Hid ((wr.alloc (.cells #[.string seg] 9)).ownsRow w.heap.size 9 1 u4 L.length (L.map .string)):=dQ HR.out fun b _ h2=>((Below.refl wr.heap.size wr).alloc (Nat.le_refl _) (.cells #[.string seg] 9)).block b h2;have qd:Hid (Src Tryz.prog 1 23 (.slice (some ⟨wr.heap.size,0,none⟩) 1 1) 1 [.string seg] (wr.alloc (.cells #[.string seg] 9))):=Src.ofSlice _ Tryz.underlying23 ⟨wr.heap.size,0,none⟩ 1 1 [.string seg] (by simp) (World.news_of_block (heap_alloc_new wr _)) (by simp [Value.oneCell']);have hlo:=bO.out.size;clear hm hgo HR HI XQ
     have hx3:(((k:Int)==(x.size:Int))=true)\/(((k:Int)==(x.size:Int))=false/\(k:Int)<(x.size:Int)/\∃ h:k<x.size,x[k]=46):=by
      rcases hd with rfl | ⟨hz,hc⟩
      ·exact .inl (by simp)
      ·exact .inr ⟨by simp;omega,by omega,hz,hc⟩
     clear hd hf;rcases hx3 with x3 | ⟨x3,x4,hz,hc⟩
     all_goals
      go_wp2_with (at_builtin;refine ay _ rfl (.tmp 26) (.tmp 31) 23 23 rfl w.heap.size 9 iS _ 1 16 Tryz.underlying23 Rk Rl Rm Rn rfl u4 L.length (L.map .string) rfl HR4.out (.slice (some ⟨wr.heap.size,0,none⟩) 1 1) 1 [.string seg] rfl qd.out (by unfold maxLen;omega) (by omega) hlo ?_;intro v' w6 gU gQ bI);have Vu:Hid (w6.ownsRow w.heap.size 9 1 v' (L++[seg]).length ((L++[seg]).map .string)):=by show World.ownsRow _ _ _ _ _ _ _;rw [List.length_append,List.map_append];exact gU
      have pX:=aj (jo bO.out HR4.out (Nat.le_refl _) hlo gQ);clear gU gQ bI;go_wp2_with fail;go_roundg (x.size+1 - (k+1))
      case rel=>exact ⟨k+1,k+1,L++[seg],rfl,Nat.le_refl _,by omega,YS,by go_num,by go_num,Vu,pX,HI2⟩
      case measure=>omega
   ·have HI2:=aj (HI.out.miss hz hd);have x3:((k:Int)==(x.size:Int))=false:=by simp;omega
    have x4:(k:Int)<(x.size:Int):=by omega
    obtain ⟨c,hc⟩:∃ c,x[k]=c:=⟨_,rfl⟩;rw [hc] at hd
    have hn:((c.toNat:Int)==46)=false:=by
     simp only [beq_eq_false_iff_ne,ne_eq];intro h;exact hd (UInt8.toNat_inj.1 (by show c.toNat=46;omega))
    clear HI hd;go_wp2_with fail;go_roundg (x.size+1 - (k+1))
    case rel=>exact ⟨fr,k+1,L,rfl,by omega,by omega,by omega,rfl,by go_num,HR,HB,HI2⟩
    case measure=>omega
  ·have x1:¬ (k:Int)<=(x.size:Int):=by omega
   have HE:Hid (aU x=L/\fD x=true):=⟨HI.out.fin (by omega),Pv.out (by rw [HI.out.fin (by omega)];exact HI.out.ne)⟩;clear hlt;go_wp2_with fail;go_ret2;exact ⟨HB.out,.inl ⟨HE.out.2,_,rfl,by rw [HE.out.1];exact HR.out⟩⟩
end Go.Proofs.YtknakfpciccoaaaGreatDoor
/- A step of a path, as the place of an element: what the reference's place comes to. -/
namespace Go.Proofs.YtknakfpciccoaaaGreatDoor
open Go.RowKit Go.Lib
theorem VH {n d:Nat} (hn:0<n) (hd:d<10):decDigits (10*n+d)=decDigits n++[UInt8.ofNat (48+d)]:=by
 rw [decDigits,dif_neg (by omega),show (10*n+d) / 10=n by omega,show (10*n+d) % 10=d by omega]
def Pw (a:Nat) (l:List UInt8):Nat:=l.foldl (fun a c=>a*10+(c.toNat - 48)) a
theorem nS {d:Nat} (hd:d<10):(UInt8.ofNat (48+d)).toNat=48+d:=by
 rw [UInt8.toNat_ofNat'];omega
theorem NY:∀ (u:Nat) (l:List UInt8),Pw 0 (decDigits u++l)=Pw u l:=by
 intro u
 induction u using Nat.strongRecOn with
 | ind u ih =>
  intro l;by_cases h:u<10
  ·rw [decDigits,dif_pos h];show Pw (0*10+((UInt8.ofNat (48+u)).toNat - 48)) l=_;rw [nS h]
   congr 1
   omega
  ·rw [decDigits,dif_neg h,List.append_assoc,ih (u / 10) (by omega)];show Pw (u / 10*10+((UInt8.ofNat (48+u % 10)).toNat - 48)) l=_;rw [nS (by omega)]
   congr 1
   omega
theorem NZ:∀ (l:List UInt8) (a:Nat),a<=Pw a l
 | [],a=>Nat.le_refl _
 | c::l,a=>Nat.le_trans (by omega) (NZ l (a*10+(c.toNat - 48)))
theorem xK {u n:Nat} {l:List UInt8} (h:decDigits u=decDigits n++l):n<=u:=by
 have h1:=NY u [];have h2:=NY n l;rw [List.append_nil,h,h2] at h1;have h3:u=Pw n l:=h1.symm;rw [h3];exact NZ l n
theorem Yd {u n:Nat} (h:decDigits u=decDigits n):u=n:=Nat.le_antisymm (xK (l:=[]) (by rw [List.append_nil];exact h.symm)) (xK (l:=[]) (by rw [List.append_nil];exact h))
theorem Jj (u:Nat):∀ c ∈ decDigits u,48<=c.toNat/\c.toNat<=57:=by
 induction u using Nat.strongRecOn with
 | ind u ih =>
  intro c hc;by_cases h:u<10
  ·rw [decDigits,dif_pos h,List.mem_singleton] at hc;rw [hc,nS h];omega
  ·rw [decDigits,dif_neg h,List.mem_append,List.mem_singleton] at hc;rcases hc with hc | hc
   ·exact ih _ (by omega) c hc
   ·rw [hc,nS (by omega)];omega
theorem VI:∀ (u:Nat),0<u->∀ r,decDigits u≠48::r:=by
 intro u
 induction u using Nat.strongRecOn with
 | ind u ih =>
  intro hu r hr;by_cases h:u<10
  ·rw [decDigits,dif_pos h] at hr;have:=congrArg (fun l=>(l.headD 0).toNat) hr;have q:(UInt8.ofNat (48+u)).toNat=48:=this;rw [nS h] at q;omega
  ·rw [decDigits,dif_neg h] at hr;cases hd:decDigits (u / 10) with
   | nil=>have:=decDigits_length (u / 10);rw [hd] at this;have:=nDigits_pos (u / 10);simp at *;omega
   | cons c r' =>
    rw [hd] at hr;have hc:c=48:=by simpa using congrArg (fun l=>l.headD 0) hr
    subst hc;exact ih (u / 10) (by omega) (by omega) r' hd
theorem aav:∀ (u:Nat) (l:List UInt8),u<1000000000000000000->parseUint10 0 (decDigits u++l)=parseUint10 u l:=by
 intro u
 induction u using Nat.strongRecOn with
 | ind u ih =>
  intro l hu;by_cases h:u<10
  ·rw [decDigits,dif_pos h];show parseUint10 0 (UInt8.ofNat (48+u)::l)=_;rw [parseUint10,nS h,if_pos (by omega),if_neg (by omega),if_neg (by omega)]
   congr 1
   omega
  ·rw [decDigits,dif_neg h,List.append_assoc,ih (u / 10) (by omega) _ (by omega)];show parseUint10 (u / 10) (UInt8.ofNat (48+u % 10)::l)=_;rw [parseUint10,nS (by omega),if_pos (by omega),if_neg (by omega),if_neg (by omega)]
   congr 1
   omega
theorem VJ {u:Nat} (h:u<1000000000000000000):atoiAll (decDigits u)=.ok (u:Int):=by
 have hp:=aav u [] h;rw [List.append_nil] at hp;have hdg:=Jj u;cases hd:decDigits u with
 | nil=>have:=decDigits_length u;rw [hd] at this;have:=nDigits_pos u;simp at *;omega
 | cons c r =>
  rw [hd] at hp hdg;have hc:=hdg c (List.mem_cons_self ..);have h1:¬ (c.toNat=43\/c.toNat=45):=by omega
  have h2:¬ c.toNat=45:=by omega
  have hm:parseMag (c::r)=.ok u:=by unfold parseMag;rw [if_neg (by simp),hp];rfl
  unfold atoiAll;dsimp only;rw [if_neg h1,hm];dsimp only;rw [if_neg (by omega),if_neg (fun q=>h2 q.1),if_neg h2]
theorem FU {x:ByteArray} {n k:Nat} (hn:n<=1000000000):zF x n=some k ↔ k<n/\x.data.toList=decDigits k:=by
 constructor
 ·intro h;unfold zF at h;rcases ha:atoiAll x.data.toList with v | _ | _
  ·rw [ha] at h;dsimp only at h;split at h
   ·rename_i hc;have hk:=Option.some.inj h;refine ⟨by omega,?_⟩;have:=congrArg (fun b:ByteArray=>b.data.toList) hc.2.2;rw [<- this,<- hk];show (bY (Lib.itoa v)).data.toList=_;rw [kQ,Lib.itoa,if_neg (by omega)]
   ·cases h
  ·rw [ha] at h;cases h
  ·rw [ha] at h;cases h
 ·rintro ⟨h1,h2⟩;have hb:bY (Lib.itoa (k:Int))=x:=by rw [Lib.itoa,if_neg (by omega),Int.toNat_natCast,<- h2];exact ByteArray.ext (Array.ext' (kQ _))
  rw [RZ (v:=(k:Int)) (by rw [h2];exact VJ (by omega)),if_pos ⟨by omega,by omega,hb⟩,Int.toNat_natCast]
def Y9 (x:ByteArray) (k n:Nat):Prop:=(k=0/\n=0)\/(0<k/\x.data.toList.take k=decDigits n)
theorem Px {l:List UInt8} {k:Nat} (h:k<l.length):l.take (k+1)=l.take k++[l[k]]:=by
 rw [List.take_add_one,List.getElem?_eq_getElem h];rfl
theorem Y9.next {x:ByteArray} {k n:Nat} (h:Y9 x k n) (hk:k<x.size) {c:UInt8} (hc:x[k]=c) (h0:48<=c.toNat) (h1:c.toNat<=57) (hz:¬ (k=1/\x[0]=48)):Y9 x (k+1) (10*n+(c.toNat - 48)):=by
 have hl:k<x.data.toList.length:=by simpa using hk
 have hg:x.data.toList[k]=c:=by rw [<- hc];simp [ByteArray.getElem_eq_getElem_data]
 have hcc:UInt8.ofNat (48+(c.toNat - 48))=c:=UInt8.toNat_inj.1 (by rw [nS (by omega)];omega);refine .inr ⟨by omega,?_⟩;rw [Px hl,hg];rcases h with ⟨rfl,rfl⟩ | ⟨hp,ht⟩
 ·rw [List.take_zero,List.nil_append,show 10*0+(c.toNat - 48)=c.toNat - 48 by omega,decDigits_one (by omega),hcc]
 ·have hn:0<n:=by
   refine Nat.pos_of_ne_zero fun e=>?_;subst e;rw [decDigits_one (by omega)] at ht
   have hk1:k=1:=by
    have:=congrArg List.length ht;rw [List.length_take] at this;simp at this;omega
   subst hk1;refine hz ⟨rfl,?_⟩;have:=congrArg (fun l=>l.headD 0) ht;have hx0:0<x.data.toList.length:=by omega
   rw [List.take_one,List.head?_eq_getElem?,List.getElem?_eq_getElem hx0] at this;have q:x.data.toList[0]=UInt8.ofNat (48+0):=this;have q2:x[0]=x.data.toList[0]:=by simp [ByteArray.getElem_eq_getElem_data]
   rw [q2,q];rfl
  rw [ht,VH hn (by omega),hcc]
theorem Py {x:ByteArray} {m k n:Nat} (hm:m<=1000000000) (h:Y9 x k n) (hk:k<x.size) (hb:¬ (48<=x[k].toNat/\x[k].toNat<=57)\/m<n\/(k=1/\x[0]=48)):zF x m=none:=by
 cases he:zF x m with
 | none=>rfl
 | some u =>
  exfalso;obtain ⟨h1,h2⟩:=(FU hm).1 he;have hl:k<x.data.toList.length:=by simpa using hk
  have hg:x[k]=x.data.toList[k]:=by simp [ByteArray.getElem_eq_getElem_data]
  rcases hb with hb | hb | ⟨rfl,hb⟩
  ·exact hb (Jj u _ (by rw [hg,<- h2];exact List.getElem_mem hl))
  ·rcases h with ⟨_,rfl⟩ | ⟨_,ht⟩
   ·omega
   ·have:n<=u:=xK (l:=x.data.toList.drop k) (by rw [<- h2,<- ht,List.take_append_drop]);omega
  ·have hx0:x[0]=x.data.toList[0]'(by omega):=by simp [ByteArray.getElem_eq_getElem_data]
   have e:x.data.toList=48::x.data.toList.drop 1:=by
    rw [<- hb,hx0];exact (List.drop_eq_getElem_cons (i:=0) (by omega))
   by_cases hu:0<u
   ·exact VI u hu _ (h2.symm.trans e)
   ·obtain rfl:u=0:=by omega
    rw [decDigits_one (by omega)] at h2;have:=congrArg List.length h2;simp at this hl;omega
theorem Pz {x:ByteArray} {m n:Nat} (hm:m<=1000000000) (h:Y9 x x.size n) (hx:x.size≠0):zF x m=if n<m then some n else none:=by
 have ht:x.data.toList=decDigits n:=by
  rcases h with ⟨h,_⟩ | ⟨_,ht⟩
  ·exact (hx h).elim
  ·rw [<- ht,List.take_of_length_le (by simp)]
 split
 ·rename_i hlt;exact (FU hm).2 ⟨hlt,ht⟩
 ·rename_i hlt;cases he:zF x m with
  | none=>rfl
  | some u =>
   obtain ⟨h1,h2⟩:=(FU hm).1 he;have:=Yd (h2.symm.trans ht);omega
structure RL (c:Nat) (s:ByteArray) (i:Nat) (b:Bool) (w:World):Prop where
 q0:w.cell? ⟨c,0,none⟩=some (.string s)
 q1:w.cell? ⟨c,1,none⟩=some (.int .i64 i)
 q2:w.cell? ⟨c,2,none⟩=some (.bool b)
 f1:w.frozen? ⟨c,1,none⟩=false
 f2:w.frozen? ⟨c,2,none⟩=false
 lt:c<w.heap.size
theorem RL.move {c:Nat} {s:ByteArray} {i:Nat} {b:Bool} {w w':World} (h:RL c s i b w) (hs:w.heap.size<=w'.heap.size) (hb:w'.heap[c]?=w.heap[c]?):RL c s i b w' :=
 ⟨(aC hb _).trans h.q0,(aC hb _).trans h.q1,(aC hb _).trans h.q2,(World.frozen?_of_block (w:=w) (a:=⟨c,_,none⟩) hb).trans h.f1,(World.frozen?_of_block (w:=w) (a:=⟨c,_,none⟩) hb).trans h.f2,Nat.lt_of_lt_of_le h.lt hs⟩
theorem RL.keep {c:Nat} {s:ByteArray} {i:Nat} {b:Bool} {w w':World} (h:RL c s i b w) (hb:Below w.heap.size w w'):RL c s i b w':=h.move hb.size (hb.block _ h.lt)
theorem RL.set {c:Nat} {s:ByteArray} {i:Nat} {b:Bool} {w:World} (h:RL c s i b w) (j:Nat):RL c s j b (w.setCell ⟨c,1,none⟩ (.int .i64 j)):=by
 have h0:=h.q0;have h1:=h.q1;have h2:=h.q2;have h3:=h.f1;have h4:=h.f2;refine ⟨?_,?_,?_,?_,?_,by simp [World.setCell];exact h.lt⟩
 ·simp [go_sem,h0]
 ·simp [go_sem,h1]
 ·simp [go_sem,h2]
 ·simp [go_sem,h3]
 ·simp [go_sem,h4]
theorem RL.mark {c:Nat} {s:ByteArray} {i:Nat} {b:Bool} {w:World} (h:RL c s i b w) (b':Bool):RL c s i b' (w.setCell ⟨c,2,none⟩ (.bool b')):=by
 have h0:=h.q0;have h1:=h.q1;have h2:=h.q2;have h3:=h.f1;have h4:=h.f2;refine ⟨?_,?_,?_,?_,?_,by simp [World.setCell];exact h.lt⟩
 ·simp [go_sem,h0]
 ·simp [go_sem,h1]
 ·simp [go_sem,h2]
 ·simp [go_sem,h3]
 ·simp [go_sem,h4]
def RB (c:Nat) (s:ByteArray) (w:World):Prop:=∃ j,j<=s.size+1/\RL c s j true w
theorem Tk (p:Nat->Bool) {s:ByteArray} {i:Nat} (h:i<=s.size+1):uf p s i<=s.size+1:=by
 have:=Ag p s (s.size - i) i;unfold uf;omega
theorem LY {s:ByteArray} {i:Nat} (h:i<=s.size+1):sk s i<=s.size+1:=Tk _ h
theorem bL (c:Nat) (s:ByteArray) (i:Nat) (b:Bool) (w:World) (h:RL c s i b w) :
  Calls Tryz.prog 200 #[.pointer (some ⟨c,0,none⟩)] w fun e w'=>e=.returned (.int .u8 (pk s i))/\Below w.heap.size w w':=by
 have q0:=h.q0;have q1:=h.q1;clear h;by_cases hlt:i<s.size
 ·obtain ⟨z,hz,hc⟩:=mM hlt;have HP:Hid (pk s i=z.toNat):=by show pk s i=_;unfold pk;rw [if_pos hlt,hc]
  have x1:(i:Int)<(s.size:Int):=by omega
  have x2:¬ ((s.size:Int)<=(i:Int)):=by omega
  clear hc;go_in;go_wp2_with fail;go_quiet (fail);go_wp2_with fail;go_quiet (fail);go_wp2_with fail;go_ret;exact ⟨aH (by rw [HP.out]),below_drewN (below_drewN (Below.refl _ _) _) _⟩
 ·have HP:Hid (pk s i=0):=by show pk s i=_;unfold pk;rw [if_neg hlt]
  have x2:((s.size:Int)<=(i:Int)):=by omega
  clear hlt;go_in;go_wp2_with fail;go_quiet (fail);go_wp2_with fail;go_ret;exact ⟨aH (by rw [HP.out];rfl),below_drewN (Below.refl _ _) _⟩
theorem fQ (c:Nat) (s:ByteArray) (i:Nat) (b:Bool) (w:World) (h:RL c s i b w) (hs:s.size<=4000) (hi:i<=s.size+1) :
  Calls Tryz.prog 168 #[.pointer (some ⟨c,0,none⟩)] w fun e w'=>e=.returned (.tuple #[])/\aG c w w'/\RL c s (sk s i) b w':=by
 have iL:=aj h;clear h;go_in;go_wp2_with fail;go_loopg [] (s.size - i) (fun g wr=>∃ k:Nat,g=s.size - k/\k<=s.size+1/\Hid (RL c s k b wr)/\Hid (aG c w wr)/\Hid (sk s k=sk s i))
 case atStart=>exact ⟨i,rfl,hi,iL,aG.refl _ _,rfl⟩
 case round =>
  clear iL;obtain ⟨k,rfl,hk,HL,HB,HK⟩:=hrel;have q0:=HL.out.q0;have q1:=HL.out.q1;by_cases hlt:k<s.size
  ·obtain ⟨z,hz,hzc⟩:=mM hlt;have x1:(k:Int)<(s.size:Int):=by omega
   have UL:Hid (sk s i=if qV z.toNat=true then sk s (k+1) else k):=by show _=_;rw [<- HK.out,zq s k,hzc]
   clear hzc HK;have lz:z.toNat<256:=z.toNat_lt;by_cases h32:z.toNat=32
   ·have iE:Hid (sk s (k+1)=sk s i):=by show _=_;rw [UL.out,h32];rfl
    have y32:((z.toNat:Int)==32)=true:=by rw [beq_iff_eq];omega
    clear h32 UL;go_wp2_with fail;go_quiet (fail);have fI:=aj (below_drewN (Below.refl wr.heap.size wr) nq);generalize wr.drewN nq=w1 at fI ⊢;have aQ:=aj (HL.out.keep fI.out);have r1:=aQ.out.q1;have r2:=aQ.out.f1;clear q0 q1;go_wp2_with fail;go_roundg (s.size - (k+1))
    case rel=>exact ⟨k+1,rfl,by omega,aQ.out.set (k+1),(HB.out.trans (aG.of fI.out)).trans (aG.set w1 c 1 _),iE⟩
    case measure=>omega
   have y32:((z.toNat:Int)==32)=false:=by rw [beq_eq_false_iff_ne];omega
   by_cases h9:z.toNat=9
   ·have iE:Hid (sk s (k+1)=sk s i):=by show _=_;rw [UL.out,h9];rfl
    have y9:((z.toNat:Int)==9)=true:=by rw [beq_iff_eq];omega
    clear h9 UL;go_wp2_with fail;go_quiet (fail);have fI:=aj (below_drewN (Below.refl wr.heap.size wr) nq);generalize wr.drewN nq=w1 at fI ⊢;have aQ:=aj (HL.out.keep fI.out);have r1:=aQ.out.q1;have r2:=aQ.out.f1;clear q0 q1;go_wp2_with fail;go_roundg (s.size - (k+1))
    case rel=>exact ⟨k+1,rfl,by omega,aQ.out.set (k+1),(HB.out.trans (aG.of fI.out)).trans (aG.set w1 c 1 _),iE⟩
    case measure=>omega
   have y9:((z.toNat:Int)==9)=false:=by rw [beq_eq_false_iff_ne];omega
   by_cases h10:z.toNat=10
   ·have iE:Hid (sk s (k+1)=sk s i):=by show _=_;rw [UL.out,h10];rfl
    have y10:((z.toNat:Int)==10)=true:=by rw [beq_iff_eq];omega
    clear h10 UL;go_wp2_with fail;go_quiet (fail);have fI:=aj (below_drewN (Below.refl wr.heap.size wr) nq);generalize wr.drewN nq=w1 at fI ⊢;have aQ:=aj (HL.out.keep fI.out);have r1:=aQ.out.q1;have r2:=aQ.out.f1;clear q0 q1;go_wp2_with fail;go_roundg (s.size - (k+1))
    case rel=>exact ⟨k+1,rfl,by omega,aQ.out.set (k+1),(HB.out.trans (aG.of fI.out)).trans (aG.set w1 c 1 _),iE⟩
    case measure=>omega
   have y10:((z.toNat:Int)==10)=false:=by rw [beq_eq_false_iff_ne];omega
   by_cases h13:z.toNat=13
   ·have iE:Hid (sk s (k+1)=sk s i):=by show _=_;rw [UL.out,h13];rfl
    have y13:((z.toNat:Int)==13)=true:=by rw [beq_iff_eq];omega
    clear h13 UL;go_wp2_with fail;go_quiet (fail);have fI:=aj (below_drewN (Below.refl wr.heap.size wr) nq);generalize wr.drewN nq=w1 at fI ⊢;have aQ:=aj (HL.out.keep fI.out);have r1:=aQ.out.q1;have r2:=aQ.out.f1;clear q0 q1;go_wp2_with fail;go_roundg (s.size - (k+1))
    case rel=>exact ⟨k+1,rfl,by omega,aQ.out.set (k+1),(HB.out.trans (aG.of fI.out)).trans (aG.set w1 c 1 _),iE⟩
    case measure=>omega
   have y13:((z.toNat:Int)==13)=false:=by rw [beq_eq_false_iff_ne];omega
   have iE:Hid (sk s i=k):=by
    show _=_;rw [UL.out,if_neg];unfold qV;simp;omega
   clear h32 h9 h10 h13 UL;go_wp2_with fail;go_quiet (fail);have fI:=aj (below_drewN (Below.refl wr.heap.size wr) nq);generalize wr.drewN nq=w1 at fI ⊢;have aQ:=aj (HL.out.keep fI.out);clear q0 q1;go_wp2_with fail;refine bodyPost_end (v:=.tuple #[]) (by simp [results,Tryz.results168,go_sem]) rfl ?_;refine ⟨rfl,HB.out.trans (aG.of fI.out),?_⟩;rw [iE.out];exact aQ.out
  ·have x1:decide (k<s.size)=false:=decide_eq_false hlt;have iE:Hid (sk s i=k):=by show _=_;rw [<- HK.out,zq s k,nZ (by omega)];rfl
   clear hlt HK;go_wp2_with fail;go_quiet (fail);have fI:=aj (below_drewN (Below.refl wr.heap.size wr) nq);generalize wr.drewN nq=w1 at fI ⊢;have aQ:=aj (HL.out.keep fI.out);clear q0 q1;go_wp2_with fail;refine bodyPost_end (v:=.tuple #[]) (by simp [results,Tryz.results168,go_sem]) rfl ?_;refine ⟨rfl,HB.out.trans (aG.of fI.out),?_⟩;rw [iE.out];exact aQ.out
def nU (c:Nat) (s:ByteArray) (r:Bool) (j:Nat) (b:Bool) (w:World) (e:Ending) (w':World):Prop :=
 e=.returned (.bool r)/\aG c w w'/\RL c s j b w'
theorem N7 (c:Nat) (s:ByteArray) (i:Nat) (t:ByteArray) (w:World) (h:RL c s i true w) (hs:s.size<=4000) (hi:i<=s.size+1) :
  Calls Tryz.prog 204 #[.pointer (some ⟨c,0,none⟩),.string t] w (nU c s false (sk s i) true w):=by
 have HA:=aj (fQ c s i true w h hs hi);clear h;go_in;go_wp2_with fail;refine HA.out.mono ?_;rintro e w1 ⟨rfl,hB1,hL1⟩;have HB1:=aj hB1;have aQ:=aj hL1;have q2:=hL1.q2;clear hB1 hL1 HA;go_wp2_with fail;go_quiet (fail);have fI:=aj (below_drewN (Below.refl w1.heap.size w1) nq);generalize w1.drewN nq=w2 at fI ⊢;go_wp2_with fail;go_ret;exact ⟨rfl,HB1.out.trans (aG.of fI.out),aQ.out.keep fI.out⟩
theorem Tn {s:ByteArray} {i:Nat} {t:ByteArray} (h:i+t.size<=s.size):ku s i t=decide (s.extract i (i+t.size)=t):=by
 unfold ku;rw [decide_eq_true h,Bool.true_and]
theorem N8 (a b:ByteArray):(a.toList==b.toList)=decide (a=b):=by
 rw [ByteArray.toList_eq,ByteArray.toList_eq];by_cases h:a=b
 ·subst h;simp
 ·rw [decide_eq_false h];apply beq_false_of_ne;exact fun e=>h (EX e)
theorem FV (c:Nat) (s:ByteArray) (i:Nat) (t:ByteArray) (w:World) (h:RL c s i false w) (hs:s.size<=4000) (hi:i<=s.size) (ht:t.size<=100) :
  Calls Tryz.prog 204 #[.pointer (some ⟨c,0,none⟩),.string t] w (nU c s (ku s (sk s i) t) (if ku s (sk s i) t=true then sk s i+t.size else sk s i) false w):=by
 have HA:=aj (fQ c s i false w h hs (by omega));have hle:=fu hi;clear h;generalize sk s i=j at *;by_cases h1:j+t.size<=s.size
 ·have HP:=aj (Tn h1);have e1:IntKind.i64.wrap ((s.size:Int) - (j:Int))=(s.size:Int) - (j:Int):=by rw [IntKind.wrap_i64];omega
  have e2:IntKind.i64.wrap ((j:Int)+(t.size:Int))=(j:Int)+(t.size:Int):=by rw [IntKind.wrap_i64];omega
  have x1:decide ((s.size:Int) - (j:Int)<(t.size:Int))=false:=decide_eq_false (by omega);have x2:(j:Int)+(t.size:Int)<=(s.size:Int):=by omega
  have x3:(j:Int)<=(j:Int)+(t.size:Int):=by omega
  cases hp:ku s j t with
  | true =>
   have Hq:Hid (s.extract j (j+t.size)=t):=by
    show _=_;have:=hp;rw [HP.out] at this;simpa using this
   rw [if_pos rfl];clear hp HP;go_in;go_wp2_with fail;refine HA.out.mono ?_;rintro e w1 ⟨rfl,hB1,hL1⟩;have HB1:=aj hB1;have aQ:=aj hL1;have q0:=hL1.q0;have q1:=hL1.q1;have q2:=hL1.q2;clear hB1 hL1 HA;have hq:=Hq.out;go_wp2_with fail;go_quiet (fail);have fI:=aj (below_drewN (Below.refl w1.heap.size w1) nq);generalize w1.drewN nq=w2 at fI ⊢;have HL2:=aj (aQ.out.keep fI.out);have r1:=HL2.out.q1;have r2:=HL2.out.f1;clear q0 q1 q2 hq;go_wp2_with fail;go_ret;exact ⟨rfl,(HB1.out.trans (aG.of fI.out)).trans (aG.set w2 c 1 _),HL2.out.set (j+t.size)⟩
  | false =>
   have hne:s.extract j (j+t.size)≠t:=by
    have:=hp;rw [HP.out] at this;simpa using this
   have hq1:((s.extract j (j+t.size)).toList==t.toList)=false:=by rw [N8];exact decide_eq_false hne
   have hq2:((s.extract j (j+t.size)).toList != t.toList)=true:=by unfold bne;rw [hq1];rfl
   rw [if_neg (by simp)];clear hp HP;go_in;go_wp2_with fail;refine HA.out.mono ?_;rintro e w1 ⟨rfl,hB1,hL1⟩;have HB1:=aj hB1;have aQ:=aj hL1;have q0:=hL1.q0;have q1:=hL1.q1;have q2:=hL1.q2;clear hB1 hL1 HA;go_wp2_with fail;go_quiet (fail);have fI:=aj (below_drewN (Below.refl w1.heap.size w1) nq);generalize w1.drewN nq=w2 at fI ⊢;go_wp2_with fail;go_ret;exact ⟨rfl,HB1.out.trans (aG.of fI.out),aQ.out.keep fI.out⟩
 ·have hp:ku s j t=false:=by unfold ku;rw [decide_eq_false h1,Bool.false_and]
  have e1:IntKind.i64.wrap ((s.size:Int) - (j:Int))=(s.size:Int) - (j:Int):=by rw [IntKind.wrap_i64];omega
  have x1:decide ((s.size:Int) - (j:Int)<(t.size:Int))=true:=decide_eq_true (by omega);rw [hp,if_neg (by simp)];clear hp h1;go_in;go_wp2_with fail;refine HA.out.mono ?_;rintro e w1 ⟨rfl,hB1,hL1⟩;have HB1:=aj hB1;have aQ:=aj hL1;have q0:=hL1.q0;have q1:=hL1.q1;have q2:=hL1.q2;clear hB1 hL1 HA;go_wp2_with fail;go_quiet (fail);have fI:=aj (below_drewN (Below.refl w1.heap.size w1) nq);generalize w1.drewN nq=w2 at fI ⊢;go_wp2_with fail;go_ret;exact ⟨rfl,HB1.out.trans (aG.of fI.out),aQ.out.keep fI.out⟩
theorem N9 (c:Nat) (s:ByteArray) (i:Nat) (t:ByteArray) (w:World) (h:RL c s i false w) (hs:s.size<=4000) (hi:i<=s.size) (ht:t.size<=100) (hp:ku s (sk s i) t=true) :
  Calls Tryz.prog 204 #[.pointer (some ⟨c,0,none⟩),.string t] w (nU c s true (sk s i+t.size) false w):=by
 have:=FV c s i t w h hs hi ht;rw [hp,if_pos rfl] at this;exact this
theorem Tp (c:Nat) (s:ByteArray) (i:Nat) (t:ByteArray) (w:World) (h:RL c s i false w) (hs:s.size<=4000) (hi:i<=s.size) (ht:t.size<=100) (hp:ku s (sk s i) t=false) :
  Calls Tryz.prog 204 #[.pointer (some ⟨c,0,none⟩),.string t] w (nU c s false (sk s i) false w):=by
 have:=FV c s i t w h hs hi ht;rw [hp,if_neg (by simp)] at this;exact this
theorem Jk (c:Nat) (s:ByteArray) (i:Nat) (t:ByteArray) (w:World) (h:RL c s i false w) (hs:s.size<=4000) (hi:i<=s.size) (ht:t.size<=100) (hp:ku s (sk s i) t=true) :
  Calls Tryz.prog 206 #[.pointer (some ⟨c,0,none⟩),.string t] w fun e w'=>e=.returned (.tuple #[])/\aG c w w'/\RL c s (sk s i+t.size) false w':=by
 have HA:=aj (N9 c s i t w h hs hi ht hp);clear h hp;go_in;go_wp2_with fail;refine HA.out.mono ?_;rintro e w1 ⟨rfl,hB1,hL1⟩;have HB1:=aj hB1;have aQ:=aj hL1;have q2:=hL1.q2;have q3:=hL1.f2;clear hB1 hL1 HA;go_wp2_with fail;refine bodyPost_end (v:=.tuple #[]) (by simp [results,Tryz.results206,go_sem]) rfl ?_;exact ⟨rfl,HB1.out.trans (aG.set w1 c 2 _),aQ.out.mark false⟩
theorem Oa (c:Nat) (s:ByteArray) (i:Nat) (t:ByteArray) (w:World) (h:RL c s i false w) (hs:s.size<=4000) (hi:i<=s.size) (ht:t.size<=100) (hp:ku s (sk s i) t=false) :
  Calls Tryz.prog 206 #[.pointer (some ⟨c,0,none⟩),.string t] w fun e w'=>e=.returned (.tuple #[])/\aG c w w'/\RB c s w':=by
 have HA:=aj (Tp c s i t w h hs hi ht hp);have hle:=fu hi;clear h hp;go_in;go_wp2_with fail;refine HA.out.mono ?_;rintro e w1 ⟨rfl,hB1,hL1⟩;have HB1:=aj hB1;have aQ:=aj hL1;have q2:=hL1.q2;have q3:=hL1.f2;clear hB1 hL1 HA;go_wp2_with fail;refine bodyPost_end (v:=.tuple #[]) (by simp [results,Tryz.results206,go_sem]) rfl ?_;exact ⟨rfl,HB1.out.trans (aG.set w1 c 2 _),sk s i,by omega,aQ.out.mark true⟩
theorem BP (c:Nat) (s:ByteArray) (t:ByteArray) (w:World) (h:RB c s w) (hs:s.size<=4000) :
  Calls Tryz.prog 206 #[.pointer (some ⟨c,0,none⟩),.string t] w fun e w'=>e=.returned (.tuple #[])/\aG c w w'/\RB c s w':=by
 obtain ⟨i,hi,h⟩:=h;have HA:=aj (N7 c s i t w h hs hi);have hle:=LY hi;clear h;go_in;go_wp2_with fail;refine HA.out.mono ?_;rintro e w1 ⟨rfl,hB1,hL1⟩;have HB1:=aj hB1;have aQ:=aj hL1;have q2:=hL1.q2;have q3:=hL1.f2;clear hB1 hL1 HA;go_wp2_with fail;refine bodyPost_end (v:=.tuple #[]) (by simp [results,Tryz.results206,go_sem]) rfl ?_;exact ⟨rfl,HB1.out.trans (aG.set w1 c 2 _),sk s i,by omega,aQ.out.mark true⟩
theorem LZ (x:Int) (w:World):Calls Tryz.prog 202 #[.int .u8 x] w fun e w'=>e=.returned (.bool (decide (48<=x)&&decide (x<=57)))/\w'=w:=by
 by_cases h1:(48:Int)<=x
 ·have h1d:decide ((48:Int)<=x)=true:=decide_eq_true h1;go_in;go_wp2_with fail;go_ret;refine ⟨?_,rfl⟩;rw [h1d,Bool.true_and];rfl
 ·have h1d:decide ((48:Int)<=x)=false:=decide_eq_false h1;go_in;go_wp2_with fail;go_ret;exact ⟨rfl,rfl⟩
theorem jY (x:Nat) (w:World):Calls Tryz.prog 202 #[.int .u8 (x:Int)] w fun e w'=>e=.returned (.bool (iM x))/\w'=w:=by
 refine (LZ (x:Int) w).mono ?_;rintro e w' ⟨rfl,rfl⟩;refine ⟨av ?_,rfl⟩;unfold iM
 congr 1
 ·apply decide_eq_decide.2;omega
 ·apply decide_eq_decide.2;omega
end Go.Proofs.YtknakfpciccoaaaGreatDoor
/- The reference's place, step. -/
namespace Go.Proofs.YtknakfpciccoaaaGreatDoor
open Go.RowKit Go.Lib
theorem PD (x:ByteArray) (m:Nat) (w:World) (hx:x.size≠0) (hs:x.size<=1000000) (hm:m<=1048576):Calls Tryz.prog 169 #[.string x,.int .i64 m] w fun e w'=>e=.returned (.int .i64 (jN (zF x m)))/\w'=w:=by
 have Hx:=aj hx;clear hx;go_in;go_wp2_with fail;go_loopg [5,6] x.size (fun g nn i wr=>∃ (k n:Nat),g=x.size - k/\k<=x.size/\n<=20000000/\nn=.int .i64 n/\i=.int .i64 k/\wr=w/\Hid (Y9 x k n))
 case atStart=>exact ⟨0,0,rfl,Nat.zero_le _,Nat.zero_le _,rfl,rfl,rfl,.inl ⟨rfl,rfl⟩⟩
 case round =>
  obtain ⟨k,n,rfl,hk,hn,rfl,rfl,rfl,HI⟩:=hrel;by_cases hlt:k<x.size
  ·have x1:(k:Int)<(x.size:Int):=by omega
   obtain ⟨c,hc⟩:∃ c,x[k]=c:=⟨_,rfl⟩;have HC:=aj (jY c.toNat wr);have hD:iM c.toNat=decide (48<=c.toNat/\c.toNat<=57):=by unfold iM;simp
   have y0:(0:Int)<(x.size:Int):=by omega
   have hz:0<x.size:=by omega
   obtain ⟨c0,hc0⟩:∃ c0,x[0]=c0:=⟨_,rfl⟩;by_cases hb:¬ (48<=c.toNat/\c.toNat<=57)\/m<n\/(k=1/\x[0]=48)
   ·have HE:Hid (jN (zF x m)=-1):=by show _=_;rw [Py (by omega) HI.out hlt (by rw [hc];exact hb)];rfl
    have hw:iM c.toNat=false\/(iM c.toNat=true/\(m:Int)<(n:Int))\/(iM c.toNat=true/\¬ (m:Int)<(n:Int)/\((k:Int)==1)=true/\c0=48):=by
     rw [hD];by_cases h1:48<=c.toNat/\c.toNat<=57
     ·refine .inr ?_;by_cases h2:m<n
      ·exact .inl ⟨decide_eq_true h1,by omega⟩
      ·rcases hb with hb | hb | hb
       ·exact (hb h1).elim
       ·exact (h2 hb).elim
       ·exact .inr ⟨decide_eq_true h1,by omega,by rw [hb.1];rfl,by rw [<- hc0];exact hb.2⟩
     ·exact .inl (decide_eq_false h1)
    clear HI hb hD;rcases hw with h1 | ⟨h1,h2⟩ | ⟨h1,h2,h3,rfl⟩
    all_goals
     rw [h1] at HC;clear h1;go_wp2_with fail;refine HC.out.mono ?_;rintro e w2 ⟨rfl,hw2⟩;rw [hw2];clear hw2 w2 HC;go_wp2_with fail;go_ret;exact ⟨by rw [HE.out];rfl,rfl⟩
   ·have hd:48<=c.toNat/\c.toNat<=57:=Decidable.byContradiction fun h=>hb (.inl h);have hnm:¬ m<n:=fun h=>hb (.inr (.inl h));have h3:¬ (k=1/\x[0]=48):=fun h=>hb (.inr (.inr h));have HI2:=aj (HI.out.next hlt hc hd.1 hd.2 h3);rw [hD,decide_eq_true hd] at HC;have x2:¬ (m:Int)<(n:Int):=by omega
    have hw:(((k:Int)==1)=false)\/(((k:Int)==1)=true/\((c0.toNat:Int)==48)=false):=by
     by_cases h1:k=1
     ·refine .inr ⟨by rw [h1];rfl,?_⟩;simp only [beq_eq_false_iff_ne,ne_eq];intro q;exact h3 ⟨h1,by rw [hc0];exact UInt8.toNat_inj.1 (by show c0.toNat=48;omega)⟩
     ·exact .inl (by simp;omega)
    have hcl:=c.toNat_lt;have hv1:IntKind.i64.wrap (10*(n:Int))=10*(n:Int):=by rw [IntKind.wrap_i64];omega
    have hv2:IntKind.i64.wrap (10*(n:Int)+(c.toNat:Int))=10*(n:Int)+(c.toNat:Int):=by rw [IntKind.wrap_i64];omega
    have hv3:IntKind.i64.wrap (10*(n:Int)+(c.toNat:Int) - 48)=((10*n+(c.toNat - 48):Nat):Int):=by rw [IntKind.wrap_i64];omega
    have hbd:10*n+(c.toNat - 48)<=20000000:=by omega
    generalize 10*n+(c.toNat - 48)=n2 at HI2 hv3 hbd;clear HI hb hD hd hnm h3;rcases hw with h1 | ⟨h1,h2⟩
    all_goals
     go_wp2_with fail;refine HC.out.mono ?_;rintro e w2 ⟨rfl,hw2⟩;rw [hw2];clear hw2 w2 HC;go_wp2_with fail;go_roundg (x.size - (k+1))
     case rel=>exact ⟨k+1,n2,rfl,by omega,hbd,by first | rfl | go_num,by go_num,rfl,HI2⟩
     case measure=>omega
  ·obtain rfl:k=x.size:=by omega
   have x1:¬ (x.size:Int)<(x.size:Int):=by omega
   have hE:=Pz (m:=m) (by omega) HI.out Hx.out;by_cases hnm:n<m
   ·have HE:Hid (jN (zF x m)=(n:Int)):=by show _=_;rw [hE,if_pos hnm];rfl
    have x2:¬ (m:Int)<=(n:Int):=by omega
    clear hE hlt;go_wp2_with fail;go_ret;exact ⟨by rw [HE.out];rfl,rfl⟩
   ·have HE:Hid (jN (zF x m)=-1):=by show _=_;rw [hE,if_neg hnm];rfl
    have x2:(m:Int)<=(n:Int):=by omega
    clear hE hlt;go_wp2_with fail;go_ret;exact ⟨by rw [HE.out];rfl,rfl⟩
theorem xL (f:Nat) (v:Value) (t:T) (x:ByteArray) (w:World) (h:At w f v t) (hx:x.size≠0) (hs:x.size<=1000000) (hn:nL t<=1048576):Calls Tryz.prog 133 #[v,.string x] w fun e w'=>e=.returned (.int .i64 (jN (wL x t)))/\Below w.heap.size w w':=by
 obtain ⟨g,La,Ka,Lc,Kc,rfl,rfl,hf,hl,hk⟩:=h.open;have HB1:Hid (Below w.heap.size w (w.alloc (.cells #[.int .i64 (ah t),.int .i64 (aB t),.string (aF t),.slice La (nL t) Lc,.slice Ka (nK t) Kc] 25))):=(Below.refl _ _).alloc (Nat.le_refl _) _;have hk1:=hf.k1;have hkn:nK t<=8796093022208:=hf.m1;clear h hf hl;cases k6:ah t==6 with
 | true =>
  have HP:Hid (wL x t=bT x (rU t)):=by show _=_;unfold wL;rw [if_pos (by simpa using k6)]
  obtain ⟨n,hnn⟩:∃ n,nK t=n:=⟨_,rfl⟩;have Hn:Hid ((rU t).length=n):=hnn
  have HK:Hid (∀ k,k<n->∃ b o,Ka=some ⟨b,o,none⟩/\b<w.heap.size/\w.cell? ⟨b,o+k,none⟩=some (.string ((rU t).getD k ByteArray.empty))):=fun k hk'=>by
   obtain ⟨b,o,h0,h1,_,h3⟩:=hk.out k (by rw [hnn];exact hk');exact ⟨b,o,h0,h1,h3⟩
  rw [hnn] at HB1 hkn ⊢;clear hk hnn;go_in;go_wp2_with fail;go_loopg [5] n (fun g i wr=>∃ k:Nat,g=n - k/\k<=n/\i=.int .i64 k/\Hid (Below (w.heap.size+1) (w.alloc (.cells #[.int .i64 (ah t),.int .i64 (aB t),.string (aF t),.slice La (nL t) Lc,.slice Ka n Kc] 25)) wr)/\Hid (bT x (rU t)=(bT x ((rU t).drop k)).map (·+k)))
  case atStart=>exact ⟨0,rfl,Nat.zero_le _,rfl,Below.refl _ _,by show _=_;simp⟩
  case round =>
   obtain ⟨k,rfl,hkk,rfl,nA,HE⟩:=hrel;obtain ⟨q0,q1,q2,q3,q4,hz,hbw⟩:=aI nA.out;have dH:=aj hbw;by_cases hlt:k<n
   ·obtain ⟨b,o,rfl,hb,hc⟩:=HK.out k hlt;have hc':=(hbw.cell (p:=⟨b,o+k,none⟩) hb).trans hc;have x1:(k:Int)<(n:Int):=by omega
    have hl2:k<(rU t).length:=by rw [Hn.out];exact hlt
    by_cases he:x=(rU t).getD k ByteArray.empty
    ·have HR:Hid (wL x t=some k):=by show _=_;rw [HP.out,HE.out,vJ hl2 he];simp
     rw [<- he] at hc';clear he hc hl2 HE hbw;go_wp2_with fail;go_ret;exact ⟨aH (by rw [HR.out];rfl),dH.out⟩
    ·have HD:=aj (vK hl2 he);have e0:((((rU t).getD k ByteArray.empty).toList==x.toList))=false:=by rw [vL];exact decide_eq_false (fun q=>he q.symm)
     generalize (rU t).getD k ByteArray.empty=y at hc' e0;clear he hc hl2 hbw;go_wp2_with fail;go_roundg (n - (k+1))
     case rel=>exact ⟨k+1,rfl,by omega,by go_num,nA,by show _=_;rw [HE.out,HD.out,Option.map_map];congr 1;funext j;show j+1+k=j+(k+1);omega⟩
     case measure=>omega
   ·obtain rfl:k=n:=by omega
    have x1:¬ (k:Int)<(k:Int):=by omega
    have HR:Hid (wL x t=none):=by show _=_;rw [HP.out,HE.out,<- Hn.out,List.drop_length];rfl
    clear hlt hbw HE;go_wp2_with fail;go_ret;exact ⟨aH (by rw [HR.out];rfl),dH.out⟩
 | false =>
  have n6:¬ ah t=6:=by simpa using k6
  cases k5:ah t==5 with
  | true =>
   have HP:Hid (wL x t=zF x (nL t)):=by show _=_;unfold wL;rw [if_neg n6,if_pos (by simpa using k5)]
   have HC:=aj (fun w=>PD x (nL t) w hx hs hn);clear n6 hk;go_in;go_wp2_with fail;refine (HC.out _).mono ?_;rintro e w2 ⟨rfl,hw⟩;rw [hw];clear hw w2 HC;go_wp2_with fail;go_ret;exact ⟨by rw [HP.out];rfl,HB1.out⟩
  | false =>
   have HP:Hid (wL x t=none):=by show _=_;unfold wL;rw [if_neg n6,if_neg (by simpa using k5)]
   clear n6 hk;go_in;go_wp2_with fail;go_ret;exact ⟨by rw [HP.out];rfl,HB1.out⟩
end Go.Proofs.YtknakfpciccoaaaGreatDoor
