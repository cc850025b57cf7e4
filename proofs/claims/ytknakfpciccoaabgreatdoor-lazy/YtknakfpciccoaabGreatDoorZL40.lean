import Derived.Test.YtknakfpciccoaabGreatDoorZL39
import Derived.Test.YtknakfpciccoaabGreatDoorZL37
import Derived.Test.YtknakfpciccoaabGreatDoorZL38
/- What the pipelines of Lazy make, without the program. -/
set_option maxHeartbeats 8000000
set_option maxRecDepth 100000
namespace Go.Proofs.YtknakfpciccoaabGreatDoor
open Go.RowKit
def xD:T:=aX 6 0 ByteArray.empty [nT 1] [Yy]
theorem X5:bZ xD=false:=by kernel_rfl
theorem aav:(List.range 6).map (fun k=>d9 (Dp k) xD)=(List.range 6).map (fun _=>bW):=by kernel_rfl
theorem Qu {k:Nat} (h:k<6):d9 (Dp k) xD=bW:=by
 have:=congrArg (fun l=>l[k]?) aav;simpa [h] using this
theorem agv:Fv xD=.inr bW:=by kernel_rfl
theorem ajc:aE xD=.inr bW:=by kernel_rfl
theorem agw:cE xD=.inr bW:=by kernel_rfl
theorem Qv (gs:List (T->Int⊕T)) (ks:List ByteArray) {d:T} {l:List T} (h:mI gs d=.inr l) (ht:bZ (aX 6 0 ByteArray.empty l ks)=false):∀ (m j:Nat) (s:List T),dz (uq gs ks) (List.replicate m d) j s=.inr (s++List.replicate m (aX 6 0 ByteArray.empty l ks))
 | 0,j,s=>by simp [dz]
 | m+1,j,s=>by
  have e:uq gs ks s d=.inr (s++[aX 6 0 ByteArray.empty l ks]):=by
   unfold uq;rw [h];dsimp only;rw [ht];rfl
  rw [List.replicate_succ,dz,e];dsimp only;rw [Qv gs ks h ht m (j+1)];simp [List.replicate_succ]
def stL (L:List T):List (T×List T):=[(bW,[aX 5 0 ByteArray.empty L [],bW])]
theorem Td {gb:T->Int⊕T} (h:gb xD=.inr bW) (m:Int):nP gb (XH (IG m)) [] xD=.inr (stL [bW]):=by
 unfold nP;rw [h];rcases Cm m with e | e | e | e<;>rw [e]<;>kernel_rfl
theorem X6 {gb:T->Int⊕T} (h:gb xD=.inr bW) (m:Int) (L:List T):nP gb (XH (IG m)) (stL L) xD=.inr (stL (L++[bW])):=by
 unfold nP;rw [h];rcases Cm m with e | e | e | e<;>rw [e]<;>kernel_rfl
theorem Qw {gb:T->Int⊕T} (h:gb xD=.inr bW) (m:Int):∀ (n k:Nat) (L:List T),dz (nP gb (XH (IG m))) (List.replicate n xD) k (stL L)=.inr (stL (L++List.replicate n bW))
 | 0,k,L=>by simp [dz]
 | n+1,k,L=>by
  rw [List.replicate_succ,dz,X6 h m L];dsimp only;rw [Qw h m n (k+1) (L++[bW])];simp [List.replicate_succ]
theorem aaw:((List.range 31).all fun m=>!bZ (aX 6 0 ByteArray.empty [bW,aX 5 0 ByteArray.empty (List.replicate m bW) [],bW] [⟨#[95,105,100]⟩,⟨#[97]⟩,⟨#[99]⟩]))=true:=by kernel_rfl
theorem agx {gb:T->Int⊕T} (h:gb xD=.inr bW) (q:Int) {m:Nat} (hm:m<=30):∃ r,Ce gb (XH (IG q)) [⟨#[95,105,100]⟩,⟨#[97]⟩,⟨#[99]⟩] (List.replicate m xD)=.inr r:=by
 cases m with
 | zero=>exact ⟨[],rfl⟩
 | succ m =>
  have e:dz (nP gb (XH (IG q))) (List.replicate (m+1) xD) 0 []=.inr (stL (List.replicate (m+1) bW)):=by
   rw [List.replicate_succ,dz,Td h q];dsimp only;rw [Qw h q m 1 [bW]];rfl
  have hb:=List.all_eq_true.1 aaw (m+1) (List.mem_range.2 (by omega));simp only [Bool.not_eq_true'] at hb;unfold Ce;rw [e];dsimp only;have e2:(stL (List.replicate (m+1) bW)).map (gU [⟨#[95,105,100]⟩,⟨#[97]⟩,⟨#[99]⟩])=[aX 6 0 ByteArray.empty [bW,aX 5 0 ByteArray.empty (List.replicate (m+1) bW) [],bW] [⟨#[95,105,100]⟩,⟨#[97]⟩,⟨#[99]⟩]]:=rfl;rw [e2,XB _ 0 [] (fun t ht=>by simp only [List.mem_singleton] at ht;rw [ht];exact hb)];exact ⟨_,rfl⟩
theorem X7:((List.range 36).all fun i=>!bZ (aX 6 0 ByteArray.empty [bW,bW,tv i] [⟨#[95,105,100]⟩,⟨#[97]⟩,⟨#[99]⟩]))=true:=by kernel_rfl
theorem aax (k d:Int) {m:Nat} (hm:m<=30):∃ r,FD k d (List.replicate m xD)=.inr r:=by
 have hp:=tQ d;unfold FD;by_cases e0:k=0
 ·rw [if_pos e0];exact ⟨_,rfl⟩
 rw [if_neg e0];by_cases e1:k=1
 ·rw [if_pos e1];obtain ⟨v1,_⟩:=FB (d / 6);have hb:=List.all_eq_true.1 X7 _ (List.mem_range.2 v1);simp only [Bool.not_eq_true'] at hb;have he:mI [Fv,fun x=>.inr (d9 (Dp (gT d)) x),fun _=>.inr (tv (Dr (d / 6)))] xD=.inr [bW,bW,tv (Dr (d / 6))]:=by simp only [mI,agv,Qu hp]
  exact ⟨_,Qv _ _ he hb m 0 []⟩
 rw [if_neg e1];by_cases e2:k=2
 ·rw [if_pos e2];exact ⟨_,rfl⟩
 rw [if_neg e2];by_cases e3:k=3
 ·rw [if_pos e3];exact ⟨_,rfl⟩
 rw [if_neg e3];by_cases e4:k=4
 ·rw [if_pos e4];exact ⟨_,rfl⟩
 rw [if_neg e4];by_cases e5:k=5
 ·rw [if_pos e5];by_cases hf:gy 16 (BK d (d / 50)) xD=true
  ·have he:mI [nO (BK d (d / 50)) aE (fun _=>.inr Lh),cE] xD=.inr [bW,bW]:=by simp only [mI,nO,hf,ajc,agw,if_true]
   exact ⟨_,Qv _ _ he (by kernel_rfl) m 0 []⟩
  ·have he:mI [nO (BK d (d / 50)) aE (fun _=>.inr Lh),cE] xD=.inr [Lh,bW]:=by simp only [mI,nO,if_neg hf,agw]
   exact ⟨_,Qv _ _ he (by kernel_rfl) m 0 []⟩
 rw [if_neg e5];exact agx (by rw [Qu hp]) _ hm
def OO (j:Nat) (l:List T):Prop:=∀ p,(h:p<l.length)->∃ a o,l[p]=dY ((j+p:Nat):Int) a o
theorem OO.cons {j:Nat} {d:T} {r:List T} (h:OO j (d::r)):(∃ a o,d=dY (j:Int) a o)/\OO (j+1) r:=by
 refine ⟨h 0 (by simp),fun p hp=>?_⟩;obtain ⟨a,o,e⟩:=h (p+1) (by simp;omega);refine ⟨a,o,?_⟩;rw [show j+1+p=j+(p+1) by omega];exact e
theorem yG {l:List T} (h:kI l):OO 0 l:=fun p hp=>by
 obtain ⟨a,o,_,_,e⟩:=h p hp;exact ⟨a,o,by rw [e,Nat.zero_add]⟩
theorem aay (k:Nat) {i:Nat} (hi:i<5) (s:List T) (j a:Nat) (o:Option Nat):uq [nO (CB k) (kJ (nT 1)) (Lu i)] [Yy] s (dY (j:Int) a o)=if j<k then .inr (s++[xD]) else .inl (vN i):=by
 have hv:gy 16 (CB k) (dY (j:Int) a o)=decide ((j:Int)<(k:Int)):=abq k j a o;by_cases h:j<k
 ·rw [if_pos h]
  have he:mI [nO (CB k) (kJ (nT 1)) (Lu i)] (dY (j:Int) a o)=.inr [nT 1]:=by
   have:gy 16 (CB k) (dY (j:Int) a o)=true:=by rw [hv];exact decide_eq_true (by omega)
   simp only [mI,nO,this,kJ,if_true]
  unfold uq;rw [he];dsimp only;have ht:bZ (aX 6 0 ByteArray.empty [nT 1] [Yy])=false:=X5;rw [ht];rfl
 ·rw [if_neg h]
  have he:mI [nO (CB k) (kJ (nT 1)) (Lu i)] (dY (j:Int) a o)=.inl (vN i):=by
   have:¬ gy 16 (CB k) (dY (j:Int) a o)=true:=by rw [hv];exact fun q=>h (by have:=of_decide_eq_true q;omega)
   simp only [mI,nO,if_neg this,Tc hi]
  unfold uq;rw [he]
theorem Iq (k:Nat) {i:Nat} (hi:i<5):∀ (l:List T) (j:Nat) (s:List T),OO j l->j<=k->dz (uq [nO (CB k) (kJ (nT 1)) (Lu i)] [Yy]) l j s=if j+l.length<=k then .inr (s++List.replicate l.length xD) else .inl (k,vN i)
 | [],j,s,_,hj=>by
  rw [if_pos (by simpa using hj)];simp [dz]
 | d::r,j,s,hf,hj=>by
  obtain ⟨⟨a,o,rfl⟩,hr⟩:=hf.cons;rw [dz,aay k hi];by_cases h:j<k
  ·rw [if_pos h];dsimp only;rw [Iq k hi r (j+1) (s++[xD]) hr (by omega)];by_cases q:j+1+r.length<=k
   ·rw [if_pos q,if_pos (by rw [List.length_cons];omega)];simp [List.replicate_succ]
   ·rw [if_neg q,if_neg (by rw [List.length_cons];omega)]
  ·rw [if_neg h,if_neg (by rw [List.length_cons];omega)];obtain rfl:j=k:=by omega
   rfl
theorem FI (k:Nat):∀ (l:List T) (j:Nat),OO j l->l.filter (gy 16 (CB k))=l.take (k - j)
 | [],j,_=>by simp
 | d::r,j,hf=>by
  obtain ⟨⟨a,o,rfl⟩,hr⟩:=hf.cons;have hv:gy 16 (CB k) (dY (j:Int) a o)=decide ((j:Int)<(k:Int)):=abq k j a o;rw [List.filter_cons,hv,FI k r (j+1) hr];by_cases h:j<k
  ·rw [if_pos (by simpa using h),show k - j=(k - (j+1))+1 by omega,List.take_succ_cons]
  ·rw [if_neg (by simpa using h),show k - j=0 by omega,show k - (j+1)=0 by omega];simp
theorem X8 {l:List T} (h:kI l) (hl:l.length<=30) (k:Nat) {i:Nat} (hi:i<5) (q d:Int):ny [vI 0,Ip k i,FD q d,Dh 0] l 0=if k<l.length then .inl (1,k,vN i) else .inr []:=by
 have e0:vI 0 l=.inr l:=by
  unfold vI l7;rw [if_pos (by omega)];rfl
 have e1:Ip k i l=if l.length<=k then .inr (List.replicate l.length xD) else .inl (k,vN i):=by
  unfold Ip G5;rw [Iq k hi l 0 [] (yG h) (Nat.zero_le _),Nat.zero_add,List.nil_append]
 rw [ny,e0];dsimp only;rw [ny,e1];by_cases hk:k<l.length
 ·rw [if_neg (by omega),if_pos hk]
 ·rw [if_pos (by omega),if_neg hk];dsimp only;obtain ⟨r,hr⟩:=aax q d (m:=l.length) hl;rw [ny,hr];dsimp only;rw [ny]
  have e3:Dh 0 r=.inr []:=by
   unfold Dh l7;rw [if_pos (by omega)];rfl
  rw [e3];rfl
theorem X9 {l:List T} (h:kI l) (k:Nat) {i:Nat} (hi:i<5):ny [G7 (gy 16 (CB k)),Ip k i] l 0=.inr (List.replicate (min k l.length) xD):=by
 have hf:OO 0 (l.take k):=fun p hp=>by
  rw [List.length_take] at hp;rw [List.getElem_take];exact yG h p (by omega)
 have e1:Ip k i (l.take k)=.inr (List.replicate (min k l.length) xD):=by
  unfold Ip G5;rw [Iq k hi _ 0 [] hf (Nat.zero_le _),Nat.zero_add,List.nil_append,List.length_take,if_pos (by omega)]
 have e0:G7 (gy 16 (CB k)) l=.inr (l.take k):=by
  unfold G7;rw [FI k l 0 (yG h)];rfl
 rw [ny,e0];dsimp only;rw [ny,e1];rfl
theorem Te {Tb:World->Prop} (hI:bn Tb) (hL:aS Tb) (c:Int) (w:World) (h0:-9223372036854775808<=c) (h1:c<=9223372036854775807) (hT:Tb w) :
  Calls Tryz.prog 16 #[.int .i64 c] w fun e w'=>Below w.heap.size w w'/\e=.returned (.string (jU (bQ c % 7) (bQ c % 1099511627776 / 7))):=by
 have pE:=aj (fun w=>eO c 1099511627776 w h0 h1 (by omega) (by omega));have oO:=aj (fun w=>eO c 7 w h0 h1 (by omega) (by omega));have HT:Hid (∀ w':World,Below w.heap.size w w'->Tb w'):=fun w' hb=>hL w hT w w' hT hb;have hT0:=aj hT;have hb:=tC h0 h1;obtain ⟨P,hP⟩:∃ P,bQ c % 1099511627776=P:=⟨_,rfl⟩;obtain ⟨k,hk⟩:∃ k,bQ c % 7=k:=⟨_,rfl⟩;have p0:0<=P:=by omega
 have p1:P<=1099511627776:=by omega
 have k0:0<=k:=by omega
 have k1:k<7:=by omega
 rw [hP] at pE ⊢;rw [hk] at oO ⊢;clear h0 h1 hb hP hk;have Rn:Hid (∀ w:World,Tb w->Calls Tryz.prog 31 #[.int .i64 (P / 7),.int .i64 (P / 7 / 50)] w fun e w'=>Below w.heap.size w w'/\e=.returned (.string (sI (P / 7) (P / 7 / 50)))):=fun w ht=>KC hI hL (P / 7) (P / 7 / 50) w (by omega) (by omega) (by omega) (by omega) ht;have hzf:(sI (P / 7) (P / 7 / 50)).size<=150:=((sJ (P / 7) (P / 7 / 50)).rep 12 (by omega) (by omega)).size;have Kz:=aj (fun w=>Ku (P / 7) w (by omega) (by omega));have hpk:=tQ (P / 7);have hzp:=Ox hpk;have Sb:=aj (fun w=>vD (rC (gT (P / 7))) w (by omega));have HV:Hid (∀ w:World,Tb w->Calls Tryz.prog 32 #[.int .i64 (P / 7 / 6)] w (sG (P / 7 / 6) w)):=fun w ht=>tT hI hL (P / 7 / 6) w (by omega) (by omega) ht;have LM:Hid (∀ (m:Int) (w:World),0<=m->m<30->Tb w->Calls Tryz.prog 12 #[.int .i64 m] w fun e w'=>e=.returned (.string (aY (Lib.itoa m)))/\Below w.heap.size w w'):=fun m w q1 q2 ht=>hI m w (by omega) (by omega) ht;clear hI hL hT;obtain h | h | h | h | h | h | h:k=0\/k=1\/k=2\/k=3\/k=4\/k=5\/k=6:=by omega
 ·subst h;obtain ⟨fs,hfs⟩:∃ fs,sI (P / 7) (P / 7 / 50)=fs:=⟨_,rfl⟩;obtain ⟨a1,e1,z1,r1⟩:=aB ⟨#[123,34,36,109,97,116,99,104,34,58]⟩ fs 10 fs.size rfl rfl (by rw [<- hfs];omega);obtain ⟨a2,e2,z2,r2⟩:=aB a1 ⟨#[125]⟩ a1.size 1 rfl rfl (by rw [z1,<- hfs];omega);have HE:Hid (a2=jU 0 (P / 7)):=by show _=_;rw [jU,if_pos rfl];rw [e2,e1,hfs]
  rw [hfs] at Rn;clear e1 z1 e2 z2 hfs hzf Kz Sb HV LM hpk hzp k0 k1;go_in;go_wp2_with fail;refine (pE.out w).mono ?_;rintro e w ⟨rfl,rfl⟩;go_wp2_with fail;refine (oO.out _).mono ?_;rintro e w ⟨rfl,rfl⟩;go_wp2_with fail;refine (Rn.out _ hT0.out).mono ?_;rintro e w1 ⟨b1,rfl⟩;have HB1:=aj b1;clear b1;go_wp2_with fail;go_ret;exact ⟨HB1.out,by rw [HE.out];rfl⟩
 ·subst h;obtain ⟨px,hpx⟩:∃ px,rC (gT (P / 7))=px:=⟨_,rfl⟩;obtain ⟨sv,hsv⟩:∃ sv,mZ (P / 7 / 6)=sv:=⟨_,rfl⟩;have hzv:sv.size<=10:=by obtain ⟨i,hi,hiv⟩:=p8 (P / 7 / 6);rw [<- hsv,hiv];exact lY hi
  obtain ⟨a1,e1,z1,r1⟩:=aB ⟨#[123,34,36,112,114,111,106,101,99,116,34,58,123,34,95,105,100,34,58,34,36,95,105,100,34,44,34,97,34,58,34,36]⟩ px 32 px.size rfl rfl (by rw [<- hpx];omega);obtain ⟨a2,e2,z2,r2⟩:=aB a1 ⟨#[34,44,34,99,34,58,123,34,36,108,105,116,34,58]⟩ a1.size 14 rfl rfl (by rw [z1,<- hpx];omega);obtain ⟨a3,e3,z3,r3⟩:=aB a2 sv a2.size sv.size rfl rfl (by rw [z2,z1,<- hpx];omega);obtain ⟨a4,e4,z4,r4⟩:=aB a3 ⟨#[125,125,125]⟩ a3.size 3 rfl rfl (by rw [z3,z2,z1,<- hpx];omega);have HE:Hid (a4=jU 1 (P / 7)):=by show _=_;rw [jU,if_neg (by decide),if_pos rfl];rw [e4,e3,e2,e1,hpx,hsv]
  have HVs:Hid (∀ w:World,Tb w->Calls Tryz.prog 32 #[.int .i64 (P / 7 / 6)] w fun e w'=>e=.returned (.string sv)/\Below w.heap.size w w'):=fun w ht=>(HV.out w ht).mono fun e w' hh=>by obtain ⟨s,⟨_,hs⟩,he,hb⟩:=hh;rw [hsv] at hs;subst hs;exact ⟨he,hb⟩
  rw [hpx] at Kz;clear e1 z1 e2 z2 e3 z3 e4 z4 hpx hsv hzv hzf Rn Sb HV LM hpk hzp k0 k1;go_in;go_wp2_with fail;refine (pE.out w).mono ?_;rintro e w ⟨rfl,rfl⟩;go_wp2_with fail;refine (oO.out _).mono ?_;rintro e w ⟨rfl,rfl⟩;go_wp2_with fail;refine (Kz.out _).mono ?_;rintro e w1 ⟨rfl,b1⟩;have HB1:=aj b1;clear b1;go_wp2_with fail;refine (HVs.out _ (HT.out _ HB1.out)).mono ?_;rintro e w3 ⟨rfl,b3⟩;have HB3:=aj (HB1.out.trans (b3.mono HB1.out.size));clear b3;go_wp2_with fail;go_ret;exact ⟨HB3.out,by rw [HE.out];rfl⟩
 ·subst h;obtain ⟨px,hpx⟩:∃ px,rC (gT (P / 7))=px:=⟨_,rfl⟩;rw [hpx] at Kz Sb hzp;obtain ⟨qp,hqp⟩:∃ qp,(⟨#[34]⟩++px)++⟨#[34]⟩=qp:=⟨_,rfl⟩;rw [hqp] at Sb
  have hzq:qp.size<=12:=by
   rw [<- hqp,ByteArray.size_append,ByteArray.size_append];show 1+px.size+1<=_;omega
  have oz:Hid (Below w.heap.size w w.drew):=ak w;have Qh:Hid (Below w.heap.size w (w.drew.alloc (.cells #[.string ⟨#[49]⟩,.string ⟨#[45,49]⟩] 9))):=oz.out.trans ((aQ _ _).mono oz.out.size)
  have jW:Hid (∀ w4:World,Below (w.drew.alloc (.cells #[.string ⟨#[49]⟩,.string ⟨#[45,49]⟩] 9)).heap.size (w.drew.alloc (.cells #[.string ⟨#[49]⟩,.string ⟨#[45,49]⟩] 9)) w4->w4.cell? ⟨w.heap.size,0,none⟩=some (.string ⟨#[49]⟩)/\w4.cell? ⟨w.heap.size,1,none⟩=some (.string ⟨#[45,49]⟩)):=fun w4 hb=>by
   have hlt:w.heap.size<(w.drew.alloc (.cells #[.string ⟨#[49]⟩,.string ⟨#[45,49]⟩] 9)).heap.size:=by simp
   refine ⟨?_,?_⟩
   all_goals
    rw [hb.cell (p:=⟨w.heap.size,_,none⟩) hlt];simp [go_sem]
  obtain ⟨sg,hsg⟩:∃ sg:ByteArray,(if P / 7 / 6 % 2=0 then (⟨#[49]⟩:ByteArray) else ⟨#[45,49]⟩)=sg:=⟨_,rfl⟩
  have hsx:(P / 7 / 6 % 2=0/\sg=⟨#[49]⟩)\/(P / 7 / 6 % 2=1/\sg=⟨#[45,49]⟩):=by
   rw [<- hsg];rcases (by omega:P / 7 / 6 % 2=0\/P / 7 / 6 % 2=1) with q | q<;>rw [q]<;>simp
  have hzs:sg.size<=2:=by rcases hsx with ⟨_,h⟩ | ⟨_,h⟩<;>rw [h]<;>decide
  obtain ⟨a1,e1,z1,r1⟩:=aB ⟨#[123,34,36,115,111,114,116,34,58,123]⟩ qp 10 qp.size rfl rfl (by omega);obtain ⟨a2,e2,z2,r2⟩:=aB a1 ⟨#[58]⟩ a1.size 1 rfl rfl (by omega);obtain ⟨a3,e3,z3,r3⟩:=aB a2 sg a2.size sg.size rfl rfl (by omega);obtain ⟨a4,e4,z4,r4⟩:=aB a3 ⟨#[125,125]⟩ a3.size 2 rfl rfl (by omega)
  have HE:Hid (a4=jU 2 (P / 7)):=by
   show _=_;rw [jU,if_neg (by decide),if_neg (by decide),if_pos rfl];rw [hsg,e4,e3,e2,e1,Z7,hpx,hqp]
  have hr1:IntKind.i64.wrap ((P / 7).tdiv 6)=P / 7 / 6:=by rw [Int.tdiv_eq_ediv_of_nonneg (by omega),IntKind.wrap_i64];omega
  have hr2:(P / 7 / 6).tmod 2=P / 7 / 6 % 2:=Int.tmod_eq_emod_of_nonneg (by omega);clear e1 z1 e2 z2 e3 z3 e4 z4 hpx hzf Rn HV LM hpk hzp k0 k1 hqp hzq hsg hzs;obtain ⟨q,rfl⟩ | ⟨q,rfl⟩:=hsx
  all_goals
   rw [q] at hr2;clear q;go_in;go_wp2_with fail;refine (pE.out w).mono ?_;rintro e w ⟨rfl,rfl⟩;go_wp2_with fail;refine (oO.out _).mono ?_;rintro e w ⟨rfl,rfl⟩;go_wp2_with fail;go_region_law (first | (go_simp;go_wp2_with (go_at_call 9;refine (Kz.out _).mono ?_;rintro e4 w4 ⟨rfl,b4⟩;(first | (obtain ⟨x0,x1⟩:=jW.out w4 b4;have bT:=aj (Qh.out.trans (b4.mono Qh.out.size))) | (have bT:=aj (oz.out.trans (b4.mono oz.out.size))));have nC:=aj trivial;clear b4);clear nC) | (go_simp;go_wp2_with (go_at_call 8;refine (Sb.out _).mono ?_;rintro e5 w5 ⟨rfl,hw5⟩;rw [hw5];clear hw5;have nC:=aj trivial);clear nC))
   all_goals
    go_wp2_with fail;go_ret
    first
     | exact ⟨bT.out,by rw [HE.out];rfl⟩
     | exact ⟨bT.out.trans ((aQ _ _).mono bT.out.size),by rw [HE.out];rfl⟩
 ·subst h;obtain ⟨m,hm⟩:∃ m,P / 7 % 6=m:=⟨_,rfl⟩;have m0:0<=m:=by omega
  have m1:m<30:=by omega
  obtain ⟨is,his⟩:∃ x,aY (Lib.itoa m)=x:=⟨_,rfl⟩;have hzi:is.size<=2:=by rw [<- his];exact vB m0 m1
  have HI:=aj (fun w ht=>LM.out m w m0 m1 ht);rw [his] at HI;obtain ⟨a1,e1,z1,r1⟩:=aB ⟨#[123,34,36,115,107,105,112,34,58]⟩ is 9 is.size rfl rfl (by omega);obtain ⟨a2,e2,z2,r2⟩:=aB a1 ⟨#[125]⟩ a1.size 1 rfl rfl (by omega);have HE:Hid (a2=jU 3 (P / 7)):=by show _=_;rw [jU,if_neg (by decide),if_neg (by decide),if_neg (by decide),if_pos rfl];rw [e2,e1,hm,his]
  clear e1 z1 e2 z2 his hzi hzf Rn Kz Sb HV LM hpk hzp k0 k1;go_in;go_wp2_with fail;refine (pE.out w).mono ?_;rintro e w ⟨rfl,rfl⟩;go_wp2_with fail;refine (oO.out _).mono ?_;rintro e w ⟨rfl,rfl⟩;go_wp2_with fail;refine (HI.out _ hT0.out).mono ?_;rintro e w1 ⟨rfl,b1⟩;have HB1:=aj b1;clear b1;go_wp2_with fail;go_ret;exact ⟨HB1.out,by rw [HE.out];rfl⟩
 ·subst h;obtain ⟨m,hm⟩:∃ m,P / 7 % 20=m:=⟨_,rfl⟩;have m0:0<=m:=by omega
  have m1:m<30:=by omega
  obtain ⟨is,his⟩:∃ x,aY (Lib.itoa m)=x:=⟨_,rfl⟩;have hzi:is.size<=2:=by rw [<- his];exact vB m0 m1
  have HI:=aj (fun w ht=>LM.out m w m0 m1 ht);rw [his] at HI;obtain ⟨a1,e1,z1,r1⟩:=aB ⟨#[123,34,36,108,105,109,105,116,34,58]⟩ is 10 is.size rfl rfl (by omega);obtain ⟨a2,e2,z2,r2⟩:=aB a1 ⟨#[125]⟩ a1.size 1 rfl rfl (by omega);have HE:Hid (a2=jU 4 (P / 7)):=by show _=_;rw [jU,if_neg (by decide),if_neg (by decide),if_neg (by decide),if_neg (by decide),if_pos rfl];rw [e2,e1,hm,his]
  clear e1 z1 e2 z2 his hzi hzf Rn Kz Sb HV LM hpk hzp k0 k1;go_in;go_wp2_with fail;refine (pE.out w).mono ?_;rintro e w ⟨rfl,rfl⟩;go_wp2_with fail;refine (oO.out _).mono ?_;rintro e w ⟨rfl,rfl⟩;go_wp2_with fail;refine (HI.out _ hT0.out).mono ?_;rintro e w1 ⟨rfl,b1⟩;have HB1:=aj b1;clear b1;go_wp2_with fail;go_ret;exact ⟨HB1.out,by rw [HE.out];rfl⟩
 ·subst h;obtain ⟨fs,hfs⟩:∃ fs,sI (P / 7) (P / 7 / 50)=fs:=⟨_,rfl⟩;obtain ⟨a1,e1,z1,r1⟩:=aB ⟨#[123,34,36,112,114,111,106,101,99,116,34,58,123,34,97,34,58,123,34,36,105,102,34,58,91]⟩ fs 25 fs.size rfl rfl (by rw [<- hfs];omega);obtain ⟨a2,e2,z2,r2⟩:=aB a1 ⟨#[44,34,36,97,34,44,123,34,36,108,105,116,34,58,91,49,44,50,93,125,93,125,44,34,99,34,58,34,36,99,34,125,125]⟩ a1.size 33 rfl rfl (by rw [z1,<- hfs];omega);have HE:Hid (a2=jU 5 (P / 7)):=by show _=_;rw [jU,if_neg (by decide),if_neg (by decide),if_neg (by decide),if_neg (by decide),if_neg (by decide),if_pos rfl];rw [e2,e1,hfs]
  rw [hfs] at Rn;clear e1 z1 e2 z2 hfs hzf Kz Sb HV LM hpk hzp k0 k1;go_in;go_wp2_with fail;refine (pE.out w).mono ?_;rintro e w ⟨rfl,rfl⟩;go_wp2_with fail;refine (oO.out _).mono ?_;rintro e w ⟨rfl,rfl⟩;go_wp2_with fail;refine (Rn.out _ hT0.out).mono ?_;rintro e w1 ⟨b1,rfl⟩;have HB1:=aj b1;clear b1;go_wp2_with fail;go_ret;exact ⟨HB1.out,by rw [HE.out];rfl⟩
 ·subst h;obtain ⟨px,hpx⟩:∃ px,rC (gT (P / 7))=px:=⟨_,rfl⟩;rw [hpx] at Kz Sb hzp;have oz:Hid (Below w.heap.size w w.drew):=ak w;have Qh:Hid (Below w.heap.size w (w.drew.alloc (.cells #[.string ⟨#[109,105,110]⟩,.string ⟨#[109,97,120]⟩,.string ⟨#[102,105,114,115,116]⟩,.string ⟨#[108,97,115,116]⟩] 9))):=oz.out.trans ((aQ _ _).mono oz.out.size)
  have jW:Hid (∀ w4:World,Below (w.drew.alloc (.cells #[.string ⟨#[109,105,110]⟩,.string ⟨#[109,97,120]⟩,.string ⟨#[102,105,114,115,116]⟩,.string ⟨#[108,97,115,116]⟩] 9)).heap.size (w.drew.alloc (.cells #[.string ⟨#[109,105,110]⟩,.string ⟨#[109,97,120]⟩,.string ⟨#[102,105,114,115,116]⟩,.string ⟨#[108,97,115,116]⟩] 9)) w4->w4.cell? ⟨w.heap.size,0,none⟩=some (.string ⟨#[109,105,110]⟩)/\w4.cell? ⟨w.heap.size,1,none⟩=some (.string ⟨#[109,97,120]⟩)/\w4.cell? ⟨w.heap.size,2,none⟩=some (.string ⟨#[102,105,114,115,116]⟩)/\w4.cell? ⟨w.heap.size,3,none⟩=some (.string ⟨#[108,97,115,116]⟩)):=fun w4 hb=>by
   have hlt:w.heap.size<(w.drew.alloc (.cells #[.string ⟨#[109,105,110]⟩,.string ⟨#[109,97,120]⟩,.string ⟨#[102,105,114,115,116]⟩,.string ⟨#[108,97,115,116]⟩] 9)).heap.size:=by simp
   refine ⟨?_,?_,?_,?_⟩
   all_goals
    rw [hb.cell (p:=⟨w.heap.size,_,none⟩) hlt];simp [go_sem]
  obtain ⟨sg,hsg⟩:∃ sg:ByteArray,(if P / 7 / 6 % 4=0 then (⟨#[109,105,110]⟩:ByteArray) else if P / 7 / 6 % 4=1 then ⟨#[109,97,120]⟩ else if P / 7 / 6 % 4=2 then ⟨#[102,105,114,115,116]⟩ else ⟨#[108,97,115,116]⟩)=sg:=⟨_,rfl⟩
  have hsx:(P / 7 / 6 % 4=0/\sg=⟨#[109,105,110]⟩)\/(P / 7 / 6 % 4=1/\sg=⟨#[109,97,120]⟩)\/(P / 7 / 6 % 4=2/\sg=⟨#[102,105,114,115,116]⟩)\/(P / 7 / 6 % 4=3/\sg=⟨#[108,97,115,116]⟩):=by
   rw [<- hsg];rcases (by omega:P / 7 / 6 % 4=0\/P / 7 / 6 % 4=1\/P / 7 / 6 % 4=2\/P / 7 / 6 % 4=3) with q | q | q | q<;>rw [q]<;>simp
  have hzs:sg.size<=5:=by rcases hsx with ⟨_,h⟩ | ⟨_,h⟩ | ⟨_,h⟩ | ⟨_,h⟩<;>rw [h]<;>decide
  obtain ⟨a1,e1,z1,r1⟩:=aB ⟨#[123,34,36,103,114,111,117,112,34,58,123,34,98,121,34,58,34,36]⟩ px 18 px.size rfl rfl (by omega);obtain ⟨a2,e2,z2,r2⟩:=aB a1 ⟨#[34,44,34,109,97,107,101,34,58,123,34,97,34,58,123,34,36,108,105,115,116,34,58,34,36,95,105,100,34,125,44,34,99,34,58,123,34,36]⟩ a1.size 38 rfl rfl (by omega);obtain ⟨a3,e3,z3,r3⟩:=aB a2 sg a2.size sg.size rfl rfl (by omega);obtain ⟨a4,e4,z4,r4⟩:=aB a3 ⟨#[34,58,34,36,99,34,125,125,125,125]⟩ a3.size 10 rfl rfl (by omega)
  have HE:Hid (a4=jU 6 (P / 7)):=by
   show _=_;rw [jU,if_neg (by decide),if_neg (by decide),if_neg (by decide),if_neg (by decide),if_neg (by decide),if_neg (by decide)];rw [hsg,e4,e3,e2,e1,hpx]
  have hr1:IntKind.i64.wrap ((P / 7).tdiv 6)=P / 7 / 6:=by rw [Int.tdiv_eq_ediv_of_nonneg (by omega),IntKind.wrap_i64];omega
  have hr2:(P / 7 / 6).tmod 4=P / 7 / 6 % 4:=Int.tmod_eq_emod_of_nonneg (by omega);clear e1 z1 e2 z2 e3 z3 e4 z4 hpx hzf Rn HV LM hpk hzp k0 k1 hsg hzs;obtain ⟨q,rfl⟩ | ⟨q,rfl⟩ | ⟨q,rfl⟩ | ⟨q,rfl⟩:=hsx
  all_goals
   rw [q] at hr2;clear q;go_in;go_wp2_with fail;refine (pE.out w).mono ?_;rintro e w ⟨rfl,rfl⟩;go_wp2_with fail;refine (oO.out _).mono ?_;rintro e w ⟨rfl,rfl⟩;go_wp2_with fail;go_region_law (first | (go_simp;go_wp2_with (go_at_call 9;refine (Kz.out _).mono ?_;rintro e4 w4 ⟨rfl,b4⟩;(first | (obtain ⟨x0,x1,x2,x3⟩:=jW.out w4 b4;have bT:=aj (Qh.out.trans (b4.mono Qh.out.size))) | (have bT:=aj (oz.out.trans (b4.mono oz.out.size))));have nC:=aj trivial;clear b4);clear nC))
   all_goals
    go_wp2_with fail;go_ret
    first
     | exact ⟨bT.out,by rw [HE.out];rfl⟩
     | exact ⟨bT.out.trans ((aQ _ _).mono bT.out.size),by rw [HE.out];rfl⟩
theorem Tf (w:World) {i:Nat} (h:i<5):∀ wx:World,Below ((w.alloc (.cells #[.string ⟨#[123,34,36,97,100,100,34,58,91,34,36,95,105,100,34,44,123,34,36,108,105,116,34,58,110,117,108,108,125,93,125]⟩,.string ⟨#[123,34,36,109,117,108,34,58,91,57,50,50,51,51,55,50,48,51,54,56,53,52,55,55,53,56,48,55,44,50,93,125]⟩,.string ⟨#[123,34,36,106,111,105,110,34,58,91,34,36,95,105,100,34,93,125]⟩,.string ⟨#[123,34,36,115,105,122,101,34,58,34,36,95,105,100,34,125]⟩,.string ⟨#[123,34,36,115,117,98,34,58,91,45,57,50,50,51,51,55,50,48,51,54,56,53,52,55,55,53,56,48,55,44,50,93,125]⟩] 9)).alloc (.cells #[.int .i64 13,.int .i64 14,.int .i64 13,.int .i64 13,.int .i64 14] 29)).heap.size ((w.alloc (.cells #[.string ⟨#[123,34,36,97,100,100,34,58,91,34,36,95,105,100,34,44,123,34,36,108,105,116,34,58,110,117,108,108,125,93,125]⟩,.string ⟨#[123,34,36,109,117,108,34,58,91,57,50,50,51,51,55,50,48,51,54,56,53,52,55,55,53,56,48,55,44,50,93,125]⟩,.string ⟨#[123,34,36,106,111,105,110,34,58,91,34,36,95,105,100,34,93,125]⟩,.string ⟨#[123,34,36,115,105,122,101,34,58,34,36,95,105,100,34,125]⟩,.string ⟨#[123,34,36,115,117,98,34,58,91,45,57,50,50,51,51,55,50,48,51,54,56,53,52,55,55,53,56,48,55,44,50,93,125]⟩] 9)).alloc (.cells #[.int .i64 13,.int .i64 14,.int .i64 13,.int .i64 13,.int .i64 14] 29)) wx->wx.cell? ⟨w.heap.size,i,none⟩=some (.string (uy i))/\wx.cell? ⟨w.heap.size+1,i,none⟩=some (.int .i64 (vN i)):=by
 intro wx hb;have l1:w.heap.size<((w.alloc (.cells #[.string ⟨#[123,34,36,97,100,100,34,58,91,34,36,95,105,100,34,44,123,34,36,108,105,116,34,58,110,117,108,108,125,93,125]⟩,.string ⟨#[123,34,36,109,117,108,34,58,91,57,50,50,51,51,55,50,48,51,54,56,53,52,55,55,53,56,48,55,44,50,93,125]⟩,.string ⟨#[123,34,36,106,111,105,110,34,58,91,34,36,95,105,100,34,93,125]⟩,.string ⟨#[123,34,36,115,105,122,101,34,58,34,36,95,105,100,34,125]⟩,.string ⟨#[123,34,36,115,117,98,34,58,91,45,57,50,50,51,51,55,50,48,51,54,56,53,52,55,55,53,56,48,55,44,50,93,125]⟩] 9)).alloc (.cells #[.int .i64 13,.int .i64 14,.int .i64 13,.int .i64 13,.int .i64 14] 29)).heap.size:=by simp;omega
 have l2:w.heap.size+1<((w.alloc (.cells #[.string ⟨#[123,34,36,97,100,100,34,58,91,34,36,95,105,100,34,44,123,34,36,108,105,116,34,58,110,117,108,108,125,93,125]⟩,.string ⟨#[123,34,36,109,117,108,34,58,91,57,50,50,51,51,55,50,48,51,54,56,53,52,55,55,53,56,48,55,44,50,93,125]⟩,.string ⟨#[123,34,36,106,111,105,110,34,58,91,34,36,95,105,100,34,93,125]⟩,.string ⟨#[123,34,36,115,105,122,101,34,58,34,36,95,105,100,34,125]⟩,.string ⟨#[123,34,36,115,117,98,34,58,91,45,57,50,50,51,51,55,50,48,51,54,56,53,52,55,55,53,56,48,55,44,50,93,125]⟩] 9)).alloc (.cells #[.int .i64 13,.int .i64 14,.int .i64 13,.int .i64 13,.int .i64 14] 29)).heap.size:=by simp
 rw [hb.cell (p:=⟨w.heap.size,i,none⟩) l1,hb.cell (p:=⟨w.heap.size+1,i,none⟩) l2]
 match i,h with
 | 0,_=>exact ⟨by simp [go_sem,uy],by simp [go_sem,vN]⟩
 | 1,_=>exact ⟨by simp [go_sem,uy],by simp [go_sem,vN]⟩
 | 2,_=>exact ⟨by simp [go_sem,uy],by simp [go_sem,vN]⟩
 | 3,_=>exact ⟨by simp [go_sem,uy],by simp [go_sem,vN]⟩
 | 4,_=>exact ⟨by simp [go_sem,uy],by simp [go_sem,vN]⟩
theorem adN {i:Nat} (h:i<5):(uy i).size<=40:=(Qs h).size
theorem Ya {Tb:World->Prop} (hA:bP Tb) (v:Value) (n:Nat) (a b c:Int) (w:World) (hv:Xl w v n) (a0:-9223372036854775808<=a) (a1:a<=9223372036854775807) (b0:-9223372036854775808<=b) (b1:b<=9223372036854775807) (c0:-9223372036854775808<=c) (c1:c<=9223372036854775807) (hT:Tb w) :
  Calls Tryz.prog 5 #[v,.int .i64 a,.int .i64 b,.int .i64 c] w fun e w'=>e=.returned (.bool true)/\Below w.heap.size w w':=by
 have HFi:=aj (OG hA v n w hv hT);have HT:Hid (∀ w':World,Below w.heap.size w w'->Tb w'):=fun w' hb=>hA.lies w hT w w' hT hb;have adO:=aj (fun w=>eO a 30 w a0 a1 (by omega) (by omega));have HP5:=aj (fun w=>eO b 5 w b0 b1 (by omega) (by omega));obtain ⟨kN,hkN⟩:∃ kN:Nat,bQ a % 30=(kN:Int):=⟨(bQ a % 30).toNat,by omega⟩;obtain ⟨iN,hiN⟩:∃ iN:Nat,bQ b % 5=(iN:Int):=⟨(bQ b % 5).toNat,by omega⟩;have agy:kN<30:=by omega
 have hi5:iN<5:=by omega
 rw [hkN] at adO;rw [hiN] at HP5;have LM:Hid (∀ w':World,Below w.heap.size w w'->Calls Tryz.prog 12 #[.int .i64 (kN:Int)] w' fun e w2=>e=.returned (.string (aY (Lib.itoa (kN:Int))))/\Below w'.heap.size w' w2):=fun w' h=>hA.itoa kN w' (by omega) (by omega) (HT.out _ h);have sw:Hid (∀ w':World,Below w.heap.size w w'->Calls Tryz.prog 16 #[.int .i64 c] w' fun e w2=>Below w'.heap.size w' w2/\e=.returned (.string (jU (bQ c % 7) (bQ c % 1099511627776 / 7)))):=fun w' h=>Te hA.itoa hA.lies c w' c0 c1 (HT.out _ h);have hd0:0<=bQ c % 1099511627776 / 7:=by omega
 generalize bQ c % 7=qq at sw;generalize bQ c % 1099511627776 / 7=dd at sw hd0;have hrs:=aae qq dd hd0;have Hrs:=aj hrs;have hzs:=hrs.size;have Hrd:Hid (nA Tb (FC qq dd) (FD qq dd)):=XI hA qq dd hd0;have hzi:(aY (Lib.itoa (kN:Int))).size<=2:=vB (by omega) (by omega);have hzb:=adN hi5;have HA:=aj hA;obtain ⟨is,his⟩:∃ x,aY (Lib.itoa (kN:Int))=x:=⟨_,rfl⟩;obtain ⟨bs,hbs⟩:∃ x,uy iN=x:=⟨_,rfl⟩;obtain ⟨ss,hss⟩:∃ x,jU qq dd=x:=⟨_,rfl⟩;rw [his] at hzi LM;rw [hbs] at hzb;rw [hss] at hzs sw Hrs;obtain ⟨x1,e1,z1,r1⟩:=aB lzA is 39 is.size (by decide) rfl (by omega);obtain ⟨x2,e2,z2,r2⟩:=aB x1 lzB x1.size 5 rfl (by decide) (by omega);obtain ⟨x3,e3,z3,r3⟩:=aB x2 bs x2.size bs.size rfl rfl (by omega);obtain ⟨x4,e4,z4,r4⟩:=aB x3 lzC x3.size 4 rfl (by decide) (by omega);obtain ⟨y1,f1,t1,s1⟩:=aB aap x4 13 x4.size (by decide) rfl (by omega);obtain ⟨y2,f2,t2,s2⟩:=aB y1 ⟨#[44]⟩ y1.size 1 rfl rfl (by omega);obtain ⟨y3,f3,t3,s3⟩:=aB y2 ss y2.size ss.size rfl rfl (by omega);obtain ⟨y4,f4,t4,s4⟩:=aB y3 aaq y3.size 14 rfl (by decide) (by omega);obtain ⟨u1,g1,v1,m1⟩:=aB aas is 25 is.size (by decide) rfl (by omega);obtain ⟨u2,g2,v2,m2⟩:=aB u1 aat u1.size 4 rfl (by decide) (by omega);obtain ⟨u3,g3,v3,m3⟩:=aB u2 x4 u2.size x4.size rfl rfl (by omega);obtain ⟨u4,g4,v4,m4⟩:=aB u3 ⟨#[93]⟩ u3.size 1 rfl rfl (by omega);have HP:Hid (x4=lzP kN iN):=by show _=_;rw [e4,e3,e2,e1,<- his,<- hbs];rfl
 have H1:Hid (y4=lz1 kN iN ss):=by show _=_;rw [f4,f3,f2,f1,HP.out];rfl
 have H2:Hid (u4=lz2 kN iN):=by show _=_;rw [g4,g3,g2,g1,HP.out,<- his];rfl
 have Hbs:=aj hbs;unfold lzA at r1;unfold lzB at r2;unfold lzC at r4;unfold aap at s1;unfold aaq at s4;unfold aas at m1;unfold aat at m2;have ana:=aj agy;have Hi5:=aj hi5;clear hv hT a0 a1 b0 b1 c0 c1 hA e1 e2 e3 e4 f1 f2 f3 f4 g1 g2 g3 g4 z1 z2 z3 z4 t1 t2 t3 t4 v1 v2 v3 v4 his hbs hss hzi hzb hzs hkN hiN hrs hd0 HP;go_in;go_wp2_with fail;refine HFi.out.mono ?_;rintro e w1 ⟨p,l,rfl,b1,hdo,hl,hst⟩;have HB1:=aj b1;obtain ⟨ln,hln⟩:∃ ln,l.length=ln:=⟨_,rfl⟩;obtain ⟨mn,hmn⟩:∃ mn,min kN ln=mn:=⟨_,rfl⟩
 have adP:Hid (∀ (s:ByteArray) (t:T) (gs:List rD) (w2:World),Below w1.heap.size w1 w2->s.size<=1000->tJ s=t/\eJ s=0->qL Tb t gs->Calls Tryz.prog 10 #[.pointer (some ⟨p,0,none⟩),.string nX,.string s] w2 (Io gs l w2)):=by
  intro s t gs w2 hb hs ⟨h1,h2⟩ hp;subst h1;exact adC HA.out (hst.keep hb) nX s l gs (by decide) (by omega) (Xm _ _) (by omega) h2 hp (HT.out _ (b1.trans (hb.mono b1.size)))
 obtain ⟨av,dv,ev,hcase⟩:∃ (av dv:Nat) (ev:Int),(kN<ln/\av=1/\dv=kN/\ev=vN iN)\/(¬ kN<ln/\av=0/\dv=0/\ev=0):=by
  by_cases h:kN<ln
  ·exact ⟨1,kN,vN iN,.inl ⟨h,rfl,rfl,rfl⟩⟩
  ·exact ⟨0,0,0,.inr ⟨h,rfl,rfl,rfl⟩⟩
 have HR1:Hid (∀ w2:World,Below w1.heap.size w1 w2->Calls Tryz.prog 10 #[.pointer (some ⟨p,0,none⟩),.string nX,.string y4] w2 fun e w'=>Below w2.heap.size w2 w'/\∃ A c,e=.returned (.tuple #[.slice A 0 c,.int .i64 av,.int .i64 dv,.int .i64 ev])):=fun w2 hb=>by
  have h:=adI (k:=kN) (by omega) (by omega) hi5 Hrs.out;have hp:=X8 hdo hl kN hi5 qq dd;rw [hln] at hp;rw [H1.out];refine (adP.out (lz1 kN iN ss) (aar kN iN (FC qq dd)) _ w2 hb (by omega) h.1 (X3 HA.out kN hi5 Hrd.out)).mono ?_;rintro e w' ⟨q1,⟨i,k,x,sv,q2,_,rfl,q4⟩ | ⟨r,sv,q2,rfl,q4,_⟩⟩
  ·rw [hp] at q2;rcases hcase with ⟨hk,rfl,rfl,rfl⟩ | ⟨hk,rfl,rfl,rfl⟩
   ·rw [if_pos hk] at q2;simp only [Sum.inl.injEq,Prod.mk.injEq] at q2;obtain ⟨rfl,rfl,rfl⟩:=q2;obtain ⟨A,c,rfl⟩:=gY q4;exact ⟨q1,A,c,rfl⟩
   ·rw [if_neg hk] at q2;cases q2
  ·rw [hp] at q2;rcases hcase with ⟨hk,rfl,rfl,rfl⟩ | ⟨hk,rfl,rfl,rfl⟩
   ·rw [if_pos hk] at q2;cases q2
   ·rw [if_neg hk] at q2;simp only [Sum.inr.injEq] at q2;subst q2;obtain ⟨A,c,rfl⟩:=gY q4;exact ⟨q1,A,c,rfl⟩
 have HR2:Hid (∀ w2:World,Below w1.heap.size w1 w2->Calls Tryz.prog 10 #[.pointer (some ⟨p,0,none⟩),.string nX,.string u4] w2 fun e w'=>Below w2.heap.size w2 w'/\∃ A c,e=.returned (.tuple #[.slice A mn c,.int .i64 0,.int .i64 0,.int .i64 0])):=fun w2 hb=>by
  have h:=adK (k:=kN) (by omega) (by omega) hi5;have hp:=X9 hdo kN hi5;rw [hln,hmn] at hp;rw [H2.out];refine (adP.out (lz2 kN iN) (aau kN iN) _ w2 hb (by omega) h.1 (X4 HA.out kN hi5)).mono ?_;rintro e w' ⟨q1,⟨i,k,x,sv,q2,_⟩ | ⟨r,sv,q2,rfl,q4,_⟩⟩
  ·rw [hp] at q2;cases q2
  ·rw [hp] at q2;simp only [Sum.inr.injEq] at q2;subst q2;obtain ⟨A,c,rfl⟩:=gY q4;rw [List.length_replicate];exact ⟨q1,A,c,rfl⟩
 have Qx:=aj hcase;have hmin:min (kN:Int) (ln:Int)=(mn:Int):=by omega
 obtain ⟨be,hbe⟩:∃ be,vN iN=be:=⟨_,rfl⟩;obtain ⟨W2,hW2⟩:∃ W,(w1.alloc (.cells #[.string ⟨#[123,34,36,97,100,100,34,58,91,34,36,95,105,100,34,44,123,34,36,108,105,116,34,58,110,117,108,108,125,93,125]⟩,.string ⟨#[123,34,36,109,117,108,34,58,91,57,50,50,51,51,55,50,48,51,54,56,53,52,55,55,53,56,48,55,44,50,93,125]⟩,.string ⟨#[123,34,36,106,111,105,110,34,58,91,34,36,95,105,100,34,93,125]⟩,.string ⟨#[123,34,36,115,105,122,101,34,58,34,36,95,105,100,34,125]⟩,.string ⟨#[123,34,36,115,117,98,34,58,91,45,57,50,50,51,51,55,50,48,51,54,56,53,52,55,55,53,56,48,55,44,50,93,125]⟩] 9)).alloc (.cells #[.int .i64 13,.int .i64 14,.int .i64 13,.int .i64 13,.int .i64 14] 29)=W:=⟨_,rfl⟩
 have oQ:Hid (∀ wx:World,Below W2.heap.size W2 wx->wx.cell? ⟨w1.heap.size,iN,none⟩=some (.string bs)/\wx.cell? ⟨w1.heap.size+1,iN,none⟩=some (.int .i64 be)):=by
  have h:=Tf w1 hi5;rw [hW2,Hbs.out,hbe] at h;exact h
 rw [hbe] at Qx;have xL:Hid (Below w1.heap.size w1 W2):=by rw [<- hW2];exact (aQ _ _).alloc (by simp) _
 rw [hln];have hii:(iN:Int)<5:=by omega
 clear hst hdo hl b1 HFi hln hcase adP hmn hbe H1 H2 Hrs Hrd Hbs agy hi5;go_wp2_with fail;refine (adO.out _).mono ?_;rintro e w1 ⟨rfl,rfl⟩;go_wp2_with fail;refine (HP5.out _).mono ?_;rintro e W2 ⟨rfl,rfl⟩;have oz:=aj xL.out.drew;have pF:=aj (oQ.out _ (ak W2)).1;have HC:=aj (LM.out W2.drew (HB1.out.trans (oz.out.mono HB1.out.size)));have hi6:iN<5:=Hi5.out;go_wp2_with fail;go_region_held3 (fun wx=>wx.cell? ⟨w1.heap.size,iN,none⟩=some (.string bs)) (first | exact rV | exact pF.out) ((go_at_call 12;refine HC.out.mono ?_;rintro e5 w5 ⟨rfl,hb5⟩;have rV:=(oQ.out _ ((ak W2).trans hb5)).1));have eU:=aj (oz.out.trans (hb5.mono oz.out.size));have bf:=aj ((ak W2).trans hb5);have HC6:=aj (sw.out w5 (HB1.out.trans (eU.out.mono HB1.out.size)));clear rV hb5 pF HC oz;go_wp2_with fail;refine HC6.out.mono ?_;rintro e w6 ⟨b6,rfl⟩;have iq:=aj (eU.out.trans (b6.mono eU.out.size));have QT:=aj (bf.out.trans (b6.mono bf.out.size));have HC7:=aj (HR1.out w6 iq.out);clear b6 HC6 eU bf;go_wp2_with fail;refine HC7.out.mono ?_;rintro e w7 ⟨b7,A1,c1,rfl⟩;have pq:=aj (iq.out.trans (b7.mono iq.out.size));have AP:=aj (QT.out.trans (b7.mono QT.out.size));have HC8:=aj (LM.out w7 (HB1.out.trans (pq.out.mono HB1.out.size)));clear b7 HC7 iq QT;go_wp2_with fail;refine HC8.out.mono ?_;rintro e w8 ⟨rfl,b8⟩;have LU:=aj (pq.out.trans (b8.mono pq.out.size));have HX8:=aj (AP.out.trans (b8.mono AP.out.size))
 have HC9:=aj (HR2.out w8 LU.out);clear b8 HC8 pq AP;go_wp2_with fail;refine HC9.out.mono ?_;rintro e w9 ⟨b9,A2,c2,rfl⟩;have Yv:=aj (LU.out.trans (b9.mono LU.out.size));have HX9:=aj (HX8.out.trans (b9.mono HX8.out.size));have dF:=aj (HB1.out.trans (Yv.out.mono HB1.out.size));have hce:=(oQ.out w9 HX9.out).2;clear b9 HC9 LU HX8 oQ HR1 HR2 LM sw adO HP5;rcases Qx.out with ⟨hk,rfl,rfl,rfl⟩ | ⟨hk,rfl,rfl,rfl⟩
 ·have hge:¬ (ln:Int)<=(dv:Int):=by omega
  clear hk Qx;go_wp2_with fail;go_ret;exact ⟨rfl,dF.out⟩
 ·have hge:(ln:Int)<=(kN:Int):=by omega
  clear hk Qx;go_wp2_with fail;go_ret;exact ⟨rfl,dF.out⟩
end Go.Proofs.YtknakfpciccoaabGreatDoor
