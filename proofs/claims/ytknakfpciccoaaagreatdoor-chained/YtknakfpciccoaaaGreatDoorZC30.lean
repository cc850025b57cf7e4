import Derived.Test.YtknakfpciccoaaaGreatDoorZC29
import Derived.Test.YtknakfpciccoaaaGreatDoorZC24
import Derived.Test.YtknakfpciccoaaaGreatDoorZC27
import Derived.Test.YtknakfpciccoaaaGreatDoorZC26
/- The walk of symMergeCmpFunc, whole; of stableCmpFunc, SortStableFunc. -/
set_option maxHeartbeats 8000000
set_option maxRecDepth 100000
namespace Go.Proofs.YtknakfpciccoaaaGreatDoor
open Go.RowKit
theorem QF {Tb:World->Prop} (hL:aV Tb) (w0:World) (g n cap:Nat) (c:T->T->Int) (ov:Value) (hC:tu Tb w0 ov c) (hn:n<=1000000) (hT:Tb w0):∀ (f a m b:Nat) (l:List T) (w:World),qd w0 g n cap l w->a<m->m<b->b<=n->b - a<=f ->
  Calls Tryz.prog 370 #[.slice (some ⟨g,0,none⟩) n cap,.int .i64 a,.int .i64 m,.int .i64 b,.func (Fn.func 365) #[ov] #[]] w (fJ w0 g n cap (lC c f a m b l) w)
 | 0,a,m,b,l,w,h,h1,h2,h3,h4=>by omega
 | f+1,a,m,b,l,w,h,h1,h2,h3,h4=>by
  by_cases e1:m=a+1
  ·have:=Xe hL w0 g n cap c ov a m b l w hC h e1 (by omega) h3 hn (by omega) hT;rw [lC];dsimp only;rw [if_pos e1];exact this
  ·by_cases e2:b=m+1
   ·have:=Xf hL w0 g n cap c ov a m b l w hC h (by omega) e2 h3 hn hT;rw [lC];dsimp only;rw [if_neg e1,if_pos e2];exact this
   ·exact Xi hL w0 g n cap c ov f a m b l w hC h (by omega) (by omega) h3 hn hT (fun a2 m2 b2 x w q1 q2 q3 q4 q5=>QF hL w0 g n cap c ov hC hn hT f a2 m2 b2 x w q5 q1 q2 q3 (by omega))
def zX (c:T->T->Int) (n:Nat):Nat->Nat->Nat->List T->List T
 | 0,_,_,l=>l
 | f+1,a,b,l=>if b<=n then zX c n f b (b+20) (rO c a (b - (a+1)) (a+1) l) else rO c a (n - (a+1)) (a+1) l
def zY (c:T->T->Int) (n s:Nat):Nat->Nat->Nat->List T->List T
 | 0,_,_,l=>l
 | f+1,a,b,l=>if b<=n then zY c n s f b (b+2*s) (lC c n a (a+s) b l) else if a+s<n then lC c n a (a+s) n l else l
def pY (c:T->T->Int) (n:Nat):Nat->Nat->List T->List T
 | 0,_,l=>l
 | f+1,s,l=>if s<n then pY c n f (s*2) (zY c n s (n+1) 0 (2*s) l) else l
def tC (c:T->T->Int) (n:Nat) (l:List T):List T:=pY c n (n+1) 20 (zX c n (n+1) 0 20 l)
theorem ZK {Tb:World->Prop} (hL:aV Tb) (w0:World) (g n cap:Nat) (c:T->T->Int) (ov:Value) (l:List T) (w:World) (hC:tu Tb w0 ov c) (h:qd w0 g n cap l w) (hn:n<=1000000) (hT:Tb w0) :
  Calls Tryz.prog 368 #[.slice (some ⟨g,0,none⟩) n cap,.int .i64 n,.func (Fn.func 365) #[ov] #[]] w (fJ w0 g n cap (tC c n l) w):=by
 have HI:=ak h;have HCi:Hid (∀ (a b:Nat) (l:List T) (w:World),qd w0 g n cap l w->a<=b->b<=n->Calls Tryz.prog 369 #[.slice (some ⟨g,0,none⟩) n cap,.int .i64 a,.int .i64 b,.func (Fn.func 365) #[ov] #[]] w (fJ w0 g n cap (rO c a (b - (a+1)) (a+1) l) w)):=fun a b l w h1 h2 h3=>ZE hL w0 g n cap c ov a b l w hC h1 h2 h3 hn hT;have HCs:Hid (∀ (a m b:Nat) (l:List T) (w:World),qd w0 g n cap l w->a<m->m<b->b<=n->Calls Tryz.prog 370 #[.slice (some ⟨g,0,none⟩) n cap,.int .i64 a,.int .i64 m,.int .i64 b,.func (Fn.func 365) #[ov] #[]] w (fJ w0 g n cap (lC c n a m b l) w)):=fun a m b l w h1 h2 h3 h4=>QF hL w0 g n cap c ov hC hn hT n a m b l w h1 h2 h3 h4 (by omega);clear hC h hT hL;go_in;go_wp2_with fail;go_loopg [7,8] n (fun gh aa bb wr=>∃ (a b q:Nat) (l':List T),gh=n - a/\a+20=b/\a<=n/\n - a+1<=q/\aa=.int .i64 a/\bb=.int .i64 b/\Hid (qd w0 g n cap l' wr)/\Hid (Below w0.heap.size w wr)/\Hid (zX c n (n+1) 0 20 l=zX c n q a b l'))
 case atStart=>exact ⟨0,20,n+1,l,by omega,rfl,Nat.zero_le _,by omega,rfl,rfl,HI,Below.refl _ _,rfl⟩
 case round =>
  clear HI;obtain ⟨a,b,q,l',rfl,hab,han,hqn,rfl,rfl,HS,HB,HE⟩:=hrel;obtain ⟨q,rfl⟩:∃ q',q=q'+1:=⟨q - 1,by omega⟩;by_cases hlt:b<=n
  ·have Cx:(b:Int)<=(n:Int):=by omega
   have Ua:=ak (HCi.out a b l' wr HS.out (by omega) hlt);have lF:Hid (zX c n (n+1) 0 20 l=zX c n q b (b+20) (rO c a (b - (a+1)) (a+1) l')):=by show _=_;rw [HE.out,zX,if_pos hlt]
   clear HE HS;go_wp2_with fail;refine Calls.mono Ua.out ?_;rintro e ZJ ⟨rfl,h1,h2⟩;have HS:=ak h1;have HB:=ak (HB.out.trans h2);clear h1 h2;go_wp2_with fail;go_roundg (n - b)
   case rel=>exact ⟨b,b+20,q,_,rfl,rfl,hlt,by omega,rfl,by go_num,HS,HB,lF⟩
   case measure=>omega
  ·have Cx:¬ (b:Int)<=(n:Int):=by omega
   have Ua:=ak (HCi.out a n l' wr HS.out han (Nat.le_refl _));have lF:Hid (zX c n (n+1) 0 20 l=rO c a (n - (a+1)) (a+1) l'):=by show _=_;rw [HE.out,zX,if_neg hlt]
   clear HE HS;go_wp2_with fail;refine Calls.mono Ua.out ?_;rintro e ZJ ⟨rfl,h1,h2⟩;rw [<- lF.out] at h1;have HI:=ak h1;have HB:=ak (HB.out.trans h2);clear h1 h2 lF Ua hlt Cx hab han hqn;obtain ⟨lb,hlb⟩:∃ lb,zX c n (n+1) 0 20 l=lb:=⟨_,rfl⟩;rw [hlb] at HI;have Hlb:=ak hlb;clear hlb;go_wp2_with fail;go_loopg [6] (n - 20) (fun gh ss wr=>∃ (s q:Nat) (l':List T),gh=n - s/\20<=s/\s<=2000000/\n+1<=q+s/\0<q/\ss=.int .i64 s/\Hid (qd w0 g n cap l' wr)/\Hid (Below w0.heap.size w wr)/\Hid (pY c n (n+1) 20 lb=pY c n q s l'))
   case atStart=>exact ⟨20,n+1,lb,by omega,Nat.le_refl _,by omega,by omega,by omega,rfl,HI,HB,rfl⟩
   case round =>
    clear HI HB;obtain ⟨s,q,l',rfl,hs1,hs2,hqn,hq0,rfl,HS,HB,HE⟩:=hrel;obtain ⟨q,rfl⟩:∃ q',q=q'+1:=⟨q - 1,by omega⟩;by_cases hsn:s<n
    ·have hsi:(s:Int)<(n:Int):=by omega
     obtain ⟨ds,hds⟩:∃ ds,2*s=ds:=⟨_,rfl⟩;have hwd:IntKind.i64.wrap (2*(s:Int))=(ds:Int):=by rw [IntKind.wrap_i64];omega
     have Rp:Hid (pY c n (n+1) 20 lb=pY c n q (s*2) (zY c n s (n+1) 0 ds l')):=by show _=_;rw [HE.out,pY,if_pos hsn,hds]
     clear HE;have HI:=HS;go_wp2_with fail;go_loopg [7,8] n (fun gh aa bb wr=>∃ (a b q:Nat) (l2:List T),gh=n - a/\a+ds=b/\a<=n/\n - a+1<=q/\aa=.int .i64 a/\bb=.int .i64 b/\Hid (qd w0 g n cap l2 wr)/\Hid (Below w0.heap.size w wr)/\Hid (zY c n s (n+1) 0 ds l'=zY c n s q a b l2))
     case atStart=>exact ⟨0,ds,n+1,l',by omega,by omega,Nat.zero_le _,by omega,rfl,rfl,HI,HB,rfl⟩
     case round =>
      clear HI HS HB;obtain ⟨a,b,q2,l2,rfl,hab,han,amk,rfl,rfl,HS,HB,HE⟩:=hrel;obtain ⟨q2,rfl⟩:∃ q',q2=q'+1:=⟨q2 - 1,by omega⟩;obtain ⟨aq,has⟩:∃ x,a+s=x:=⟨_,rfl⟩;have hwa:IntKind.i64.wrap ((a:Int)+(s:Int))=(aq:Int):=by rw [IntKind.wrap_i64];omega
      by_cases hlt:b<=n
      ·have Cx:(b:Int)<=(n:Int):=by omega
       have Ua:=ak (HCs.out a aq b l2 wr HS.out (by omega) (by omega) hlt);have lF:Hid (zY c n s (n+1) 0 ds l'=zY c n s q2 b (b+ds) (lC c n a aq b l2)):=by show _=_;rw [HE.out,zY,if_pos hlt,hds,has]
       have hwb:IntKind.i64.wrap ((b:Int)+(ds:Int))=((b+ds:Nat):Int):=by rw [IntKind.wrap_i64];omega
       obtain ⟨bd,hbd⟩:∃ x,b+ds=x:=⟨_,rfl⟩;rw [hbd] at lF hwb;clear HE HS;have Hz:Hid (a+ds=b/\2*s=ds/\a+s=aq):=⟨hab,hds,has⟩;clear hab hds has;go_wp2_with fail;refine Calls.mono Ua.out ?_;rintro e ZJ ⟨rfl,h1,h2⟩;have HS:=ak h1;have HB:=ak (HB.out.trans h2);clear h1 h2;go_wp2_with fail;go_roundg (n - b)
       case rel=>exact ⟨b,bd,q2,_,rfl,hbd,hlt,by have:=Hz.out;omega,rfl,rfl,HS,HB,lF⟩
       case measure=>have:=Hz.out;omega
      ·have Cx:¬ (b:Int)<=(n:Int):=by omega
       by_cases hm:aq<n
       ·have hmi:(aq:Int)<(n:Int):=by omega
        have Ua:=ak (HCs.out a aq n l2 wr HS.out (by omega) hm (Nat.le_refl _));have Dv:Hid (pY c n (n+1) 20 lb=pY c n q (s*2) (lC c n a aq n l2)):=by show _=_;rw [Rp.out,HE.out,zY,if_neg hlt,has,if_pos hm]
        have hws:IntKind.i64.wrap ((s:Int)*2)=(ds:Int):=by rw [IntKind.wrap_i64];omega
        have Hz:Hid (a+ds=b/\2*s=ds/\a+s=aq):=⟨hab,hds,has⟩;clear HE Rp HS hab hds has;go_wp2_with fail;refine Calls.mono Ua.out ?_;rintro e ZJ ⟨rfl,h1,h2⟩;have HS:=ak h1;have HB:=ak (HB.out.trans h2);clear h1 h2;go_wp2_with fail;have JE:Hid (pY c n (n+1) 20 lb=pY c n q ds (lC c n a aq n l2)):=by show _=_;rw [Dv.out,Nat.mul_comm s 2,Hz.out.2.1]
        go_roundg (n - ds)
        case rel=>exact ⟨ds,q,_,rfl,by have:=Hz.out;omega,by have:=Hz.out;omega,by have:=Hz.out;omega,by omega,rfl,HS,HB,JE⟩
        case measure=>have:=Hz.out;omega
       ·have hmi:¬ (aq:Int)<(n:Int):=by omega
        have Dv:Hid (pY c n (n+1) 20 lb=pY c n q (s*2) l2):=by show _=_;rw [Rp.out,HE.out,zY,if_neg hlt,has,if_neg hm]
        have hws:IntKind.i64.wrap ((s:Int)*2)=(ds:Int):=by rw [IntKind.wrap_i64];omega
        have Hz:Hid (a+ds=b/\2*s=ds/\a+s=aq):=⟨hab,hds,has⟩;clear HE Rp hab hds has;go_wp2_with fail;have JE:Hid (pY c n (n+1) 20 lb=pY c n q ds l2):=by show _=_;rw [Dv.out,Nat.mul_comm s 2,Hz.out.2.1]
        go_roundg (n - ds)
        case rel=>exact ⟨ds,q,_,rfl,by have:=Hz.out;omega,by have:=Hz.out;omega,by have:=Hz.out;omega,by omega,rfl,HS,HB,JE⟩
        case measure=>have:=Hz.out;omega
    ·have hsi:¬ (s:Int)<(n:Int):=by omega
     have HF:Hid (pY c n (n+1) 20 lb=l'):=by show _=_;rw [HE.out,pY,if_neg hsn]
     have HR:Hid (fJ w0 g n cap (pY c n (n+1) 20 lb) w (.returned (.tuple #[])) wr):=⟨rfl,by rw [HF.out];exact HS.out,HB.out⟩;go_wp2_with fail;refine bodyPost_end (v:=.tuple #[]) (by simp [results,Tryz.results368,go_sem]) rfl ?_;rw [tC,Hlb.out];exact HR.out
theorem Xj {Tb:World->Prop} (hL:aV Tb) (w0:World) (g n cap:Nat) (c:T->T->Int) (ov:Value) (l:List T) (w:World) (hC:tu Tb w0 ov c) (h:qd w0 g n cap l w) (hn:n<=1000000) (hT:Tb w0) :
  Calls Tryz.prog 367 #[.slice (some ⟨g,0,none⟩) n cap,.func (Fn.func 365) #[ov] #[]] w (fJ w0 g n cap (tC c n l) w):=by
 have Ua:=ak (ZK hL w0 g n cap c ov l w hC h hn hT);clear hC h hT hL;go_in;go_wp2_with fail;refine Calls.mono Ua.out ?_;rintro e ZJ ⟨rfl,h1,h2⟩;have HR:Hid (fJ w0 g n cap (tC c n l) w (.returned (.tuple #[])) ZJ):=⟨rfl,h1,h2⟩;clear h1 h2;go_wp2_with fail;refine bodyPost_end (v:=.tuple #[]) (by simp [results,Tryz.results367,go_sem]) rfl ?_;exact HR.out
def Te (os:List (List ByteArray×Int)) (l:List T):(Nat×Int)⊕List T:=.inr (tC (rM os) l.length l)
theorem Tf (c:T->T->Int):tC c 0 []=[]:=rfl
theorem qd.docs {w0:World} {g n cap:Nat} {l:List T} {w:World} (h:qd w0 g n cap l w) (hn:n<=1000000):cZ w (.slice (some ⟨g,0,none⟩) n cap) l:=by
 obtain ⟨xs,hr,ha⟩:=h.row;have hx:xs.length=n*5:=hr.1;have hl:=h.len;rcases hr.2 with ⟨h0,_⟩ | ⟨g',cap',cur,e,hb0,hg,hnc,hcm,rest⟩
 ·cases h0
 ·simp only [Value.slice.injEq,Option.some.injEq,Addr.mk.injEq,and_true,true_and] at e;obtain ⟨rfl,rfl⟩:=e;refine ⟨_,_,by rw [hl],by omega,by omega,by unfold maxLen at hcm;omega,fun i hi=>?_,fun i hi=>h.ok _ (List.getElem_mem hi)⟩;rw [aN] at hi;have hc:∀ j,j<5->w.cell? ⟨g,i*5+j,none⟩=some (cx xs (i*5+j)):=fun j hj=>aX hr (dR (by omega));refine ⟨g,0,cx xs (i*5),cx xs (i*5+1),cx xs (i*5+2),cx xs (i*5+3),cx xs (i*5+4),rfl,(Array.getElem?_eq_some_iff.1 hg).1,(by rw [Nat.zero_add];exact hc 0 (by omega)),(by rw [Nat.zero_add];exact hc 1 (by omega)),(by rw [Nat.zero_add];exact hc 2 (by omega)),(by rw [Nat.zero_add];exact hc 3 (by omega)),(by rw [Nat.zero_add];exact hc 4 (by omega)),?_⟩;rw [fC l hi];exact (ha i hi).keep h.low
theorem Xk (dv cf:Value) (w:World) :
  Calls Tryz.prog 369 #[dv,.int .i64 0,.int .i64 0,cf] w fun e w'=>e=.returned (.tuple #[])/\w'=w:=by
 go_in;go_wp2_with fail;go_loopg [8] 0 (fun gh ii wr=>gh=0/\ii=.int .i64 1/\wr=w)
 case atStart=>exact ⟨rfl,by go_num,rfl⟩
 case round =>
  obtain ⟨rfl,rfl,rfl⟩:=hrel;go_wp2_with fail;refine bodyPost_end (v:=.tuple #[]) (by simp [results,Tryz.results369,go_sem]) rfl ?_;exact ⟨rfl,rfl⟩
theorem Xl (dv cf:Value) (w:World) :
  Calls Tryz.prog 368 #[dv,.int .i64 0,cf] w fun e w'=>e=.returned (.tuple #[])/\w'=w:=by
 have HC:=ak (Xk dv cf w);go_in;go_wp2_with fail;go_loopg [7,8] 0 (fun gh aa bb wr=>gh=0/\aa=.int .i64 0/\bb=.int .i64 20/\wr=w)
 case atStart=>exact ⟨rfl,rfl,rfl,rfl⟩
 case round =>
  obtain ⟨rfl,rfl,rfl,rfl⟩:=hrel;go_wp2_with fail;refine Calls.mono HC.out ?_;rintro e ZJ ⟨rfl,rfl⟩;go_wp2_with fail;go_loopg [6] 0 (fun gh ss wr=>gh=0/\ss=.int .i64 20/\wr=ZJ)
  case atStart=>exact ⟨rfl,rfl,rfl⟩
  case round =>
   obtain ⟨rfl,rfl,rfl⟩:=hrel;go_wp2_with fail;refine bodyPost_end (v:=.tuple #[]) (by simp [results,Tryz.results368,go_sem]) rfl ?_;exact ⟨rfl,rfl⟩
theorem Tg (cf:Value) (w:World) :
  Calls Tryz.prog 367 #[.slice none 0 0,cf] w fun e w'=>e=.returned (.tuple #[])/\w'=w:=by
 have HC:=ak (Xl (.slice none 0 0) cf w);go_in;go_wp2_with fail;refine Calls.mono HC.out ?_;rintro e ZJ ⟨rfl,rfl⟩;go_wp2_with fail;refine bodyPost_end (v:=.tuple #[]) (by simp [results,Tryz.results367,go_sem]) rfl ?_;exact ⟨rfl,rfl⟩
theorem OC (A:Addr) (c:Nat) (w:World) :
  Calls Tryz.prog 356 #[.slice (some A) 0 c] w fun e w'=>Below w.heap.size w w'/\∃ v zs,e=.returned v/\w'.ownsRow w.heap.size 25 5 v 0 zs:=by
 obtain ⟨iV,Em,En,Eo,Ep⟩:=info_parts uT;have HB1:=ak (aY w (.cells #[] 25))
 have HO:Hid ((w.alloc (.cells #[] 25)).ownsRow w.heap.size 25 5 (.slice (some ⟨w.heap.size,0,none⟩) 0 0) 0 []):=by
  have:=World.ownsRow_lit (base:=w.heap.size) (e:=25) (size:=5) w #[] 0 (Nat.le_refl _) (by unfold maxLen;omega) rfl;have h5:(w.alloc (.cells #[] 25)).ownsRow w.heap.size 25 5 (.slice (some ⟨w.heap.size,0,none⟩) 0 0) 0 []:=by simpa using this
  exact h5
 have HS:Hid (Src Tryz.prog 5 22 (.slice (some A) 0 c) 0 [] (w.alloc (.cells #[] 25))):=Src.ofSlice _ Tryz.underlying22 A 0 c [] rfl (fun j u hu=>by simp at hu) (fun u hu=>by cases hu);have heq:(binOp .eql 22 (.slice (some A) 0 c) (.slice none 0 0)).run Tryz.prog w=.ok (.bool false) w:=by kernel_rfl
 go_in;go_wp2_with (at_builtin;refine aG _ rfl (.tmp 5) (.tmp 6) 22 22 rfl w.heap.size 25 iV _ 5 80 Tryz.underlying22 Em En Eo Ep rfl (.slice (some ⟨w.heap.size,0,none⟩) 0 0) 0 [] rfl HO.out (.slice (some A) 0 c) 0 [] rfl HS.out (by unfold maxLen;omega) (by omega) (by simp) ?_;intro v' w6 qX nu dV);have H6:=ak qX;have iN:=ak (dx HB1.out HO.out (Nat.le_refl _) (by simp) nu);clear qX nu dV;go_wp2_with fail;go_ret;exact ⟨iN.out,v',_,rfl,H6.out⟩
theorem OD (c:Nat) (w:World) :
  Calls Tryz.prog 356 #[.slice none 0 c] w fun e w'=>e=.returned (.slice none 0 0)/\w'=w:=by
 have heq:(binOp .eql 22 (.slice none 0 c) (.slice none 0 0)).run Tryz.prog w=.ok (.bool true) w:=by kernel_rfl
 go_in;go_wp2_with fail;go_ret;exact ⟨rfl,rfl⟩
theorem OE (dv:Value) (l:List T) (w:World) (hd:cZ w dv l) :
  Calls Tryz.prog 356 #[dv] w fun e w'=>Below w.heap.size w w'/\((∃ g cap,e=.returned (.slice (some ⟨g,0,none⟩) l.length cap)/\qd w g l.length cap l w')\/(l=[]/\e=.returned (.slice none 0 0))):=by
 obtain ⟨La,Lc,rfl,h1,h2,h3,h4,h5⟩:=hd;cases l with
 | nil =>
  cases La with
  | none =>
   refine (OD Lc w).mono ?_;rintro e w' ⟨rfl,rfl⟩;exact ⟨Below.refl _ _,.inr ⟨rfl,rfl⟩⟩
  | some A =>
   refine (OC A Lc w).mono ?_;rintro e w' ⟨hb,v,zs,rfl,ho⟩;refine ⟨hb,?_⟩;rcases ho.2 with ⟨rfl,h0⟩ | ⟨g,cap,cur,rfl,rest⟩
   ·exact .inr ⟨rfl,rfl⟩
   ·exact .inl ⟨g,cap,rfl,⟨zs,ho,fun i hi=>absurd hi (Nat.not_lt_zero i)⟩,rfl,hb,fun t ht=>by cases ht⟩
 | cons d r =>
  obtain ⟨b,o,c0,c1,c2,c3,c4,rfl,hbl,_⟩:=h4 0 (by rw [aN];simp);refine (Oe 13 b o (d::r).length Lc _ w h4 (aN ..) h1 hbl).mono ?_;rintro e w' ⟨hb,v,zs,rfl,ho,hz⟩;refine ⟨hb,.inl ?_⟩;rcases ho.2 with ⟨rfl,h0⟩ | ⟨g,cap,cur,rfl,rest⟩
  ·cases h0
  ·exact ⟨g,cap,rfl,⟨zs,ho,fun i hi=>by have:=hz i hi;rwa [fC _ hi] at this⟩,rfl,hb,fun t ht=>by obtain ⟨i,hi,rfl⟩:=List.mem_iff_getElem.mp ht;exact h5 i hi⟩
theorem Xm {Tb:World->Prop} (hA:dn Tb) (hI:bf Tb) (hL:aV Tb) (ov:Value) (os:List (List ByteArray×Int)) (dv:Value) (l:List T) (w:World) (ho:zy w ov os) (hd:cZ w dv l) (hT:Tb w) :
  Calls Tryz.prog 366 #[ov,dv] w (qK (Te os) l w):=by
 have hC:tu Tb w ov (rM os):=fun a b x y w' hb ha hb2 ka kb hT'=>W9 hA hI hL ov os a b x y w w' hb ho ha hb2 ka kb hT';have HC:=ak (OE dv l w hd);have hn:l.length<=1000000:=by obtain ⟨_,_,_,h1,_⟩:=hd;exact h1
 have HS:Hid (∀ (g cap:Nat) (w':World),qd w g l.length cap l w'->Calls Tryz.prog 367 #[.slice (some ⟨g,0,none⟩) l.length cap,.func (Fn.func 365) #[ov] #[]] w' (fJ w g l.length cap (tC (rM os) l.length l) w')):=fun g cap w' h=>Xj hL w g l.length cap (rM os) ov l w' hC h hn hT;have HF:Hid (Te os l=.inr (tC (rM os) l.length l)):=rfl;have Hz:Hid (l=[]->tC (rM os) l.length l=[]):=fun e=>by rw [e];exact Tf _
 clear hC ho hd hA hI hL hT;generalize tC (rM os) l.length l=sl at HS HF Hz;have Hn:=ak hn;clear hn;obtain ⟨n,hn⟩:∃ n,l.length=n:=⟨_,rfl⟩;rw [hn] at HC HS Hn;clear hn;go_in;go_wp2_with fail;refine HC.out.mono ?_;rintro e w1 ⟨hb,hcase⟩;have HB:=ak hb;clear hb;rcases hcase with ⟨g,cap,rfl,hs⟩ | ⟨hl,rfl⟩
 ·have Ml:=ak (HS.out g cap w1 hs);clear hs HC HS;go_wp2_with fail;refine Ml.out.mono ?_;rintro e w2 ⟨rfl,hs2,hb2⟩;have HB2:=ak (HB.out.trans hb2);have HD:=ak (hs2.docs Hn.out);clear hs2 hb2 Ml;go_wp2_with fail;refine bodyPost_ret (v:=.tuple #[.slice (some ⟨g,0,none⟩) n cap,.int .i64 0,.int .i64 0]) (by simp [results,Tryz.results366,go_sem, *]) rfl ?_;exact ⟨HB2.out,.inr ⟨_,_,HF.out,rfl,HD.out⟩⟩
 ·have Hl:=ak hl;clear hl HC HS;have Ml:=ak (Tg (.func (Fn.func 365) #[ov] #[]) w1);go_wp2_with fail;refine Ml.out.mono ?_;rintro e w2 ⟨rfl,rfl⟩;clear Ml;go_wp2_with fail;refine bodyPost_ret (v:=.tuple #[.slice none 0 0,.int .i64 0,.int .i64 0]) (by simp [results,Tryz.results366,go_sem, *]) rfl ?_;refine ⟨HB.out,.inr ⟨_,_,HF.out,rfl,?_⟩⟩;rw [Hz.out Hl.out];exact ⟨none,0,rfl,by simp,by simp,by omega,fun i hi=>absurd hi (Nat.not_lt_zero i),fun i hi=>absurd hi (Nat.not_lt_zero i)⟩
theorem Ti (p:Value) (w:World):(method 481 271 p "sheaf/pipe.run").run Tryz.prog w=.ok (366,p) w:=by kernel_rfl
theorem ZL {Tb:World->Prop} (hA:dn Tb) (hI:bf Tb) (hL:aV Tb) {w:World} {ov:Value} {os:List (List ByteArray×Int)} (h:zy w ov os):gI Tb w (.iface 271 ov) (Te os) :=
 ⟨_,_,_,rfl,Ti _,fun _ _=>rfl,fun wr dv l hb hd hT=>Xm hA hI hL ov os dv l wr (h.keep hb) hd hT⟩
theorem Cy (t:T) (k3:aj t=3) (h0:0<=av t) (v:Value) (wB w:World) (ha:At wB 13 v t):Calls Tryz.prog 239 #[v] w fun e w'=>Below w.heap.size w w'/\e=.returned (.agg #[.int .i64 (av t)]):=by
 obtain ⟨g1,La,Ka,Lc,Kc,hg1,rfl,_,_,_⟩:=ha.open;have HB1:Hid (Below w.heap.size w ((w.alloc (.cells #[.int .i64 3,.int .i64 (av t),.string (ay t),.slice La (nL t) Lc,.slice Ka (nK t) Kc] 25)).alloc (.cells #[.int .i64 (av t)] 274))):=(aY _ _).alloc (by simp) _;rw [k3];clear ha hg1;go_in;go_wp2_with fail;refine (dW _).mono ?_;rintro e w2 ⟨rfl,rfl⟩;go_wp2_with fail;refine bodyPost_ret (v:=.agg #[.int .i64 (av t)]) (by simp [results,Tryz.results239,go_sem, *]) rfl ?_;exact ⟨HB1.out,rfl⟩
def OG:ByteArray:=⟨#[36,115,111,114,116]⟩
def OH:ByteArray:=⟨#[36,115,107,105,112]⟩
def Ip:ByteArray:=⟨#[36,108,105,109,105,116]⟩
theorem Lp {Tb:World->Prop} (hA:dn Tb) (hI:bf Tb) (hSp:cK Tb) (hL:aV Tb) (es:List (List ByteArray×Int)) (t j:T) (k6:aj t=6) (k1:nK t=1) (hj:elt t 0=j) (hx:bO t 0=OG) (k6j:aj j=6) (hl:nK j=es.length) (h0:0<es.length) (hn:es.length<=100000) (hes:∀ i,(hi:i<es.length)->aj (elt j i)=3/\av (elt j i)=es[i].2/\(es[i].2=1\/es[i].2=-1)/\bW (bO j i)=es[i].1/\iW (bO j i)=true/\(bO j i).size<=1000):sZ Tb t (Te es):=by
 intro v wB w ha hk hb0 hT;have l1:nL t=1:=by have:=hk.names k6;omega
 have hkj:bM j:=by rw [<- hj];exact hk.elt (by omega)
 have Ha:=ak ha;obtain ⟨g1,La,Ka,Lc,Kc,hg1,rfl,_,_,_⟩:=ha.open;have HB1:=ak (aY w (vC t La Lc Ka Kc));have HC:=ak (mU t j OG hj hx _ wB _ Ha.out hk k6 k1 (hb0.trans (HB1.out.mono hb0.size)));have HE:Hid (∀ (v:Value) (w':World),At wB 13 v j->Below w.heap.size w w'->Calls Tryz.prog 238 #[v] w' (Xb wB es w')):=fun v w' h1 h2=>Xc hSp hL j es k6j hl h0 hn hes v wB w' h1 hkj (hb0.trans (h2.mono hb0.size)) (hL w hT w w' hT h2);clear ha hk hg1 hb0 hT k6 k1 l1 hkj Ha hj hx hes hl h0 hn k6j hSp;unfold OG at *;go_in;go_wp2_with fail;refine HC.out.mono ?_;rintro e w2 ⟨b2,A,B,C,D,rfl,hat⟩;have fT:=ak (aY w2 (vC j A B C D));have HB2:=ak (HB1.out.trans (b2.mono HB1.out.size));have HB3:=ak (HB2.out.trans (fT.out.mono HB2.out.size));have HP:=ak (HE.out _ _ hat HB3.out);have HY:=ak (aR w2 (.int .i64 (aj j)) (.int .i64 (av j)) (.string (ay j)) (.slice A (nL j) B) (.slice C (nK j) D));clear b2 hat HC HE;have y0:=HY.out.q0;have y1:=HY.out.q1;have y2:=HY.out.q2;have y3:=HY.out.q3;have y4:=HY.out.q4;go_wp2_with fail;refine HP.out.mono ?_;rintro e w5 ⟨b5,OA,oc,rfl,hs⟩;have eF:=ak (HB3.out.trans (b5.mono HB3.out.size));have HS:=ak ((hs.later (wa:=w) (Below.refl _ _) HB3.out.size).mono (Q:=fun x=>gI Tb x (.iface 271 (.slice OA es.length oc)) (Te es)) fun w' hw hh=>ZL hA hI hL hh);clear b5 hs HP y0 y1 y2 y3 y4;go_wp2_with fail;go_ret;exact ⟨eF.out,_,_,rfl,HS.out⟩
theorem Lr {Tb:World->Prop} (t j:T) (k6:aj t=6) (k1:nK t=1) (hj:elt t 0=j) (hx:bO t 0=OH) (k3:aj j=3) (h0:0<=av j):sZ Tb t (Ct (av j)):=by
 intro v wB w ha hk hb0 hT;have Ha:=ak ha;obtain ⟨g1,La,Ka,Lc,Kc,hg1,rfl,_,_,_⟩:=ha.open;have HB1:=ak (aY w (vC t La Lc Ka Kc));have HC:=ak (mU t j OH hj hx _ wB _ Ha.out hk k6 k1 (hb0.trans (HB1.out.mono hb0.size)));have HE:Hid (∀ (v:Value) (w':World),At wB 13 v j->Calls Tryz.prog 239 #[v] w' fun e w2=>Below w'.heap.size w' w2/\e=.returned (.agg #[.int .i64 (av j)])):=fun v w' h1=>Cy j k3 h0 v wB w' h1;have H0:=ak h0;clear ha hk hg1 hb0 hT k6 k1 Ha hj hx k3 h0;unfold OH at *;go_in;go_wp2_with fail;refine HC.out.mono ?_;rintro e w2 ⟨b2,A,B,C,D,rfl,hat⟩;have fT:=ak (aY w2 (vC j A B C D));have HB2:=ak (HB1.out.trans (b2.mono HB1.out.size));have HB3:=ak (HB2.out.trans (fT.out.mono HB2.out.size));have HP:=ak (HE.out _ (w2.alloc (vC j A B C D)) hat);have HY:=ak (aR w2 (.int .i64 (aj j)) (.int .i64 (av j)) (.string (ay j)) (.slice A (nL j) B) (.slice C (nK j) D));clear b2 hat HC HE;have y0:=HY.out.q0;have y1:=HY.out.q1;have y2:=HY.out.q2;have y3:=HY.out.q3;have y4:=HY.out.q4;go_wp2_with fail;refine HP.out.mono ?_;rintro e w5 ⟨b5,rfl⟩;have eF:=ak (HB3.out.trans (b5.mono HB3.out.size));have HS:Hid (gW wB w5 (aS w w5) (fun x=>gI Tb x (.iface 277 (.agg #[.int .i64 (av j)])) (Ct (av j)))):=gW.all fun w' _=>ZB Tb H0.out;clear b5 HP y0 y1 y2 y3 y4;go_wp2_with fail;go_ret;exact ⟨eF.out,_,_,rfl,HS.out⟩
theorem Iq {Tb:World->Prop} (t j:T) (k6:aj t=6) (k1:nK t=1) (hj:elt t 0=j) (hx:bO t 0=Ip) (k3:aj j=3) (h0:0<=av j):sZ Tb t (SV (av j)):=by
 intro v wB w ha hk hb0 hT;have Ha:=ak ha;obtain ⟨g1,La,Ka,Lc,Kc,hg1,rfl,_,_,_⟩:=ha.open;have HB1:=ak (aY w (vC t La Lc Ka Kc));have HC:=ak (mU t j Ip hj hx _ wB _ Ha.out hk k6 k1 (hb0.trans (HB1.out.mono hb0.size)));have HE:Hid (∀ (v:Value) (w':World),At wB 13 v j->Calls Tryz.prog 239 #[v] w' fun e w2=>Below w'.heap.size w' w2/\e=.returned (.agg #[.int .i64 (av j)])):=fun v w' h1=>Cy j k3 h0 v wB w' h1;have H0:=ak h0;clear ha hk hg1 hb0 hT k6 k1 Ha hj hx k3 h0;unfold Ip at *;go_in;go_wp2_with fail;refine HC.out.mono ?_;rintro e w2 ⟨b2,A,B,C,D,rfl,hat⟩;have fT:=ak (aY w2 (vC j A B C D));have HB2:=ak (HB1.out.trans (b2.mono HB1.out.size));have HB3:=ak (HB2.out.trans (fT.out.mono HB2.out.size));have HP:=ak (HE.out _ (w2.alloc (vC j A B C D)) hat);have HY:=ak (aR w2 (.int .i64 (aj j)) (.int .i64 (av j)) (.string (ay j)) (.slice A (nL j) B) (.slice C (nK j) D));clear b2 hat HC HE;have y0:=HY.out.q0;have y1:=HY.out.q1;have y2:=HY.out.q2;have y3:=HY.out.q3;have y4:=HY.out.q4;go_wp2_with fail;refine HP.out.mono ?_;rintro e w5 ⟨b5,rfl⟩;have eF:=ak (HB3.out.trans (b5.mono HB3.out.size));have HS:Hid (gW wB w5 (aS w w5) (fun x=>gI Tb x (.iface 278 (.agg #[.int .i64 (av j)])) (SV (av j)))):=gW.all fun w' _=>WY Tb H0.out;clear b5 HP y0 y1 y2 y3 y4;go_wp2_with fail;go_ret;exact ⟨eF.out,_,_,rfl,HS.out⟩
end Go.Proofs.YtknakfpciccoaaaGreatDoor
/- What groups gather: sums; what replaces what. -/
namespace Go.Proofs.YtknakfpciccoaaaGreatDoor
open Go.RowKit
def eU (n:Int):Prop:=-9223372036854775808<=n/\n<=9223372036854775807
instance (n : Int) : Decidable (eU n) := by unfold eU; infer_instance
theorem Xn {a b:Int} (h0:eU a) (h1:eU b) (h:¬ eU (a+b)):(0<b/\IntKind.i64.wrap (a+b)<a)\/(b<0/\a<IntKind.i64.wrap (a+b)):=by
 rw [IntKind.wrap_i64];unfold eU at *;omega
theorem Tj (a b:Int) (w:World) (h0:eU a) (h1:eU b):Calls Tryz.prog 303 #[.int .i64 a,.int .i64 b] w fun e w'=>w'=w/\∃ s,e=.returned (.tuple #[.int .i64 s,.bool (decide (eU (a+b)))])/\(eU (a+b)->s=a+b):=by
 by_cases h:eU (a+b)
 ·have hw:IntKind.i64.wrap (a+b)=a+b:=by rw [IntKind.wrap_i64];unfold eU at *;omega
  have hd:decide (eU (a+b))=true:=decide_eq_true h;rw [hd];clear hd h h0 h1;by_cases hb:0<b
  ·have y1:a<a+b:=by omega
   go_in;go_wp2_with fail;refine bodyPost_ret (v:=.tuple #[.int .i64 (a+b),.bool true]) (by simp [results,Tryz.results303,go_sem, *]) rfl ?_;exact ⟨rfl,a+b,rfl,fun _=>rfl⟩
  ·have y1:¬ a<a+b:=by omega
   go_in;go_wp2_with fail;refine bodyPost_ret (v:=.tuple #[.int .i64 (a+b),.bool true]) (by simp [results,Tryz.results303,go_sem, *]) rfl ?_;exact ⟨rfl,a+b,rfl,fun _=>rfl⟩
 ·have hd:decide (eU (a+b))=false:=decide_eq_false h;rw [hd];have Hh:=ak h;have hww:=Xn h0 h1 h;generalize hs:IntKind.i64.wrap (a+b)=s at hww;clear hd h h0 h1;rcases hww with ⟨hb,y1⟩ | ⟨hb,y1⟩
  ·have y2:¬ a<s:=by omega
   clear y1;go_in;go_wp2_with fail;refine bodyPost_ret (v:=.tuple #[.int .i64 s,.bool false]) (by simp [results,Tryz.results303,go_sem, *]) rfl ?_;exact ⟨rfl,s,rfl,fun h=>absurd h Hh.out⟩
  ·have y2:¬ 0<b:=by omega
   clear hb;go_in;go_wp2_with fail;refine bodyPost_ret (v:=.tuple #[.int .i64 s,.bool false]) (by simp [results,Tryz.results303,go_sem, *]) rfl ?_;exact ⟨rfl,s,rfl,fun h=>absurd h Hh.out⟩
def DX (s v:T):Int⊕Int:=if aj v=3 then (if eU (av s+av v) then .inr (av s+av v) else .inl 14) else .inl 13
theorem ZM (s v:T) (A C La Ka:Option Addr) (B D Lc Kc:Nat) (w:World) (h0:eU (av s)) (h1:eU (av v)) :
  Calls Tryz.prog 363 #[.agg #[.int .i64 (aj s),.int .i64 (av s),.string (ay s),.slice A (nL s) B,.slice C (nK s) D],.agg #[.int .i64 (aj v),.int .i64 (av v),.string (ay v),.slice La (nL v) Lc,.slice Ka (nK v) Kc]] w fun e w'=>Below w.heap.size w w'/\((∃ x,DX s v=.inl x/\x≠0/\e=.returned (.tuple #[.agg #[.int .i64 0,.int .i64 0,.string ⟨#[]⟩,.slice none 0 0,.slice none 0 0],.int .i64 x]))\/∃ n,DX s v=.inr n/\e=.returned (.tuple #[.agg #[.int .i64 3,.int .i64 n,.string ⟨#[]⟩,.slice none 0 0,.slice none 0 0],.int .i64 0])):=by
 have HB1:Hid (Below w.heap.size w (((w.alloc (vC s A B C D)).alloc (vC v La Lc Ka Kc)).alloc (.cells #[.int .i64 0,.int .i64 0,.string ⟨#[]⟩,.slice none 0 0,.slice none 0 0] 25))):=((aY _ _).alloc (by simp) _).alloc (by simp;omega) _;have HC:=ak (fun w'=>Tj (av s) (av v) w' h0 h1);by_cases k3:aj v=3
 ·have HS:Hid (DX s v=if eU (av s+av v) then .inr (av s+av v) else .inl 14):=by show _=_;unfold DX;rw [if_pos k3]
  have e3:(aj v==3)=true:=by simpa using k3
  clear k3 h0 h1;by_cases hf:eU (av s+av v)
  ·rw [decide_eq_true hf] at HC;have Hf:=ak hf;have fI:Hid (∀ n,Below w.heap.size w (((w.alloc (vC s A B C D)).alloc (vC v La Lc Ka Kc)).alloc (.cells #[.int .i64 3,.int .i64 n,.string ⟨#[]⟩,.slice none 0 0,.slice none 0 0] 25))):=fun n=>((aY _ _).alloc (by simp) _).alloc (by simp;omega) _;clear hf;go_in;go_wp2_with fail;refine (HC.out _).mono ?_;rintro e w2 ⟨rfl,n,rfl,hn⟩;have Hn:=ak (hn Hf.out);clear hn HC;go_wp2_with fail;refine bodyPost_ret (v:=.tuple #[.agg #[.int .i64 3,.int .i64 n,.string ⟨#[]⟩,.slice none 0 0,.slice none 0 0],.int .i64 0]) (by simp [results,Tryz.results363,go_sem]) rfl ?_;exact ⟨fI.out n,.inr ⟨n,by rw [HS.out,if_pos Hf.out,Hn.out],rfl⟩⟩
  ·rw [decide_eq_false hf] at HC;have Hf:=ak hf;clear hf;go_in;go_wp2_with fail;refine (HC.out _).mono ?_;rintro e w2 ⟨rfl,n,rfl,hn⟩;clear hn HC;go_wp2_with fail;refine bodyPost_ret (v:=.tuple #[.agg #[.int .i64 0,.int .i64 0,.string ⟨#[]⟩,.slice none 0 0,.slice none 0 0],.int .i64 14]) (by simp [results,Tryz.results363,go_sem]) rfl ?_;exact ⟨HB1.out,.inl ⟨14,by rw [HS.out,if_neg Hf.out],by omega,rfl⟩⟩
 ·have HS:Hid (DX s v=.inl 13):=by show _=_;unfold DX;rw [if_neg k3]
  have e3:(aj v==3)=false:=by simpa using k3
  clear k3 h0 h1 HC;go_in;go_wp2_with fail;refine bodyPost_ret (v:=.tuple #[.agg #[.int .i64 0,.int .i64 0,.string ⟨#[]⟩,.slice none 0 0,.slice none 0 0],.int .i64 13]) (by simp [results,Tryz.results363,go_sem]) rfl ?_;exact ⟨HB1.out,.inl ⟨13,HS.out,by omega,rfl⟩⟩
def Ir:ByteArray:=⟨#[36,115,117,109]⟩
def Cz:ByteArray:=⟨#[36,109,105,110]⟩
def CB:ByteArray:=⟨#[36,109,97,120]⟩
def oU:ByteArray:=⟨#[36,102,105,114,115,116]⟩
def tF:ByteArray:=⟨#[36,108,97,115,116]⟩
def fD:ByteArray:=⟨#[36,108,105,115,116]⟩
def rQ (op:ByteArray) (s v:T):Bool:=if op=Cz then decide (bQ 16 v s<0) else if op=CB then decide (0<bQ 16 v s) else op==tF
theorem Iu (op:ByteArray) (hop:op=Cz\/op=CB\/op=oU\/op=tF) (ty:TypeId) (p:Value) (s v:T) (A C La Ka:Option Addr) (B D Lc Kc:Nat) (w:World) (hs:At w 13 (.agg #[.int .i64 (aj s),.int .i64 (av s),.string (ay s),.slice A (nL s) B,.slice C (nK s) D]) s) (ks:bM s) (hv:At w 13 (.agg #[.int .i64 (aj v),.int .i64 (av v),.string (ay v),.slice La (nL v) Lc,.slice Ka (nK v) Kc]) v) (kv:bM v) :
  Calls Tryz.prog 364 #[.agg #[.string op,.iface ty p],.agg #[.int .i64 (aj s),.int .i64 (av s),.string (ay s),.slice A (nL s) B,.slice C (nK s) D],.agg #[.int .i64 (aj v),.int .i64 (av v),.string (ay v),.slice La (nL v) Lc,.slice Ka (nK v) Kc]] w fun e w'=>e=.returned (.bool (rQ op s v))/\Below w.heap.size w w':=by
 have HB1:Hid (Below w.heap.size w (((w.alloc (.cells #[.string op,.iface ty p] 316)).alloc (vC s A B C D)).alloc (vC v La Lc Ka Kc))):=((aY _ _).alloc (by simp) _).alloc (by simp;omega) _;have HC:=ak (yg (hv.keep HB1.out) (hs.keep HB1.out) (by omega) kv ks);clear hs hv ks kv;rcases hop with h | h | h | h
 ·have HR:Hid (rQ op s v=decide (bQ 16 v s<0)):=by show _=_;unfold rQ;rw [if_pos h]
  subst h;generalize bQ 16 v s=cc at HC HR;unfold Cz at *;go_in;go_wp2_with fail;refine HC.out.mono ?_;rintro e w2 ⟨rfl,b2⟩;have HB2:=ak (HB1.out.trans (b2.mono HB1.out.size));clear b2 HC;go_wp2_with fail;go_ret;exact ⟨by rw [HR.out];rfl,HB2.out⟩
 ·have HR:Hid (rQ op s v=decide (0<bQ 16 v s)):=by show _=_;unfold rQ;rw [if_neg (by rw [h];decide),if_pos h]
  subst h;generalize bQ 16 v s=cc at HC HR;unfold CB at *;go_in;go_wp2_with fail;refine HC.out.mono ?_;rintro e w2 ⟨rfl,b2⟩;have HB2:=ak (HB1.out.trans (b2.mono HB1.out.size));clear b2 HC;go_wp2_with fail;go_ret;exact ⟨by rw [HR.out];rfl,HB2.out⟩
 ·have HR:Hid (rQ op s v=false):=by show _=_;unfold rQ;rw [h,if_neg (by decide),if_neg (by decide)];decide
  subst h;rw [HR.out];unfold oU at *;clear HC;go_in;go_wp2_with fail;go_ret;exact ⟨rfl,HB1.out⟩
 ·have HR:Hid (rQ op s v=true):=by show _=_;unfold rQ;rw [h,if_neg (by decide),if_neg (by decide)];decide
  subst h;rw [HR.out];unfold tF at *;clear HC;go_in;go_wp2_with fail;go_ret;exact ⟨rfl,HB1.out⟩
end Go.Proofs.YtknakfpciccoaaaGreatDoor
