import Derived.Test.YtknakfpciccoaaaGreatDoorZF40
import Derived.Deep.DeepCutAuto
/- The walk of the reference's Insert. -/
set_option maxHeartbeats 8000000
set_option maxRecDepth 100000
namespace Go.Proofs.YtknakfpciccoaaaGreatDoor
open Go.RowKit
theorem yK {Q:Nat->Prop} {w:World} {p:Nat} {S:fH} (h:wu Q w p S) (hQ:∀ b,w.heap.size<=b->Q b) (hn:S.length<=6) (hm:∀ r ∈ S,r.2.length<=60) (hd:∀ r ∈ S,∀ t ∈ r.2,QB t) (x s:ByteArray) :
  Calls Tryz.prog 91 #[.pointer (some ⟨p,0,none⟩),.string x,.string s] w fun e w'=>e=.returned (.int .i64 (je S x s))/\aP Q w w'/\wu Q w' p (xG S x s):=by
 obtain ⟨iV,G8,G9,Hf,Ho⟩:=info_parts yg;have H:=aj h;obtain ⟨L,v,l,hI,xQ,rfl⟩:=h;have Yh:l.length<=6:=by rw [List.length_map] at hn;exact hn
 have HI:=aj hI;have UM:=aj xQ;have HQ:=aj hQ;have Hm:Hid (∀ r ∈ l,r.docs.length<=60):=fun r hr=>hm _ (List.mem_map_of_mem hr);have Hd:Hid (∀ r ∈ l,∀ t ∈ r.docs,QB t):=fun r hr=>hd _ (List.mem_map_of_mem hr);have HP:=aj (Ch s w)
 have xR:Hid (∀ (k:Int) (w':World),je (l.map gN) x s=k->k≠0->Below w.heap.size w w'->Ending.returned (.int .i64 k)=.returned (.int .i64 (je (l.map gN) x s))/\aP Q w w'/\wu Q w' p (xG (l.map gN) x s)):=fun k w' e hk hb=>⟨by rw [e],aP.of hb,by
  have:xG (l.map gN) x s=l.map gN:=if_neg (by rw [e];exact hk);rw [this];exact H.out.move hb.size fun b hb1 _=>hb.block b hb1⟩
 clear hI xQ hQ hn hm hd;go_in;go_wp2_with fail;refine HP.out.mono ?_;rintro e w1 ⟨b1,A,B,C,D,rfl,ha⟩;have HB1:=aj b1;have HB2:=aj (b1.alloc b1.size (.cells #[.int .i64 (ah (tJ s)),.int .i64 (aB (tJ s)),.string (aF (tJ s)),.slice A (nL (tJ s)) B,.slice C (nK (tJ s)) D] 25));have HA:=aj ha;clear b1 ha HP;by_cases he:eJ s=0
 ·have hok:=gZ he;have hV:=qo he;have HV:=aj hV;have WZ:=aj hok;have HBz:=aj (YA hV);have YE:Hid (jq s=if iG (tJ s)=false then some 7 else if jI (tJ s)=true then some 15 else none):=by show _=_;unfold jq;rw [if_neg (by rw [he];simp)]
  have HGd:=aj (EM he);have HtJ:Hid (xG (l.map gN) x s=if je (l.map gN) x s=0 then qx (l.map gN) x ((iA (l.map gN) x).getD []++[tJ s]) else l.map gN):=rfl;have aa3:Hid (∀ l,FR s l=bg (iK (Gs (tJ s))) (dU 5 0 ByteArray.empty l []) l.length):=fun _=>rfl;have hnl:nL (tJ s)<=1048576:=hok.small.2;rw [he];generalize tJ s=t at *;have zJ:=aj (xL 13 _ t Y6 _ (HA.out.at.keep (bJ w1 (.cells #[.int .i64 (ah t),.int .i64 (aB t),.string (aF t),.slice A (nL t) B,.slice C (nK t) D] 25))) (by decide) (by decide) hnl);clear he hok hV;go_wp2_with fail;refine zJ.out.mono ?_;rintro e w2 ⟨rfl,b2⟩;have HB3:Hid (Below (w1.heap.size+1) (w1.alloc (.cells #[.int .i64 (ah t),.int .i64 (aB t),.string (aF t),.slice A (nL t) B,.slice C (nK t) D] 25)) w2):=b2.mono (by simp);obtain ⟨r0,r1,r2,r3,r4,rz,hb2⟩:=aI HB3.out;have YF:=aj (HB1.out.trans (hb2.mono HB1.out.size));clear b2 zJ;cases xH:iG t with
  | false =>
   have HE:Hid (je (l.map gN) x s=7):=by show _=_;unfold je;rw [YE.out,if_pos xH]
   cases k6:ah t==6 with
   | false =>
    have UK:(ah t != 6)=true:=by rw [bne,k6];rfl
    clear hb2 xH k6;go_wp2_with fail;go_ret;exact xR.out 7 _ HE.out (by decide) YF.out
   | true =>
    have UK:(ah t != 6)=false:=by rw [bne,k6];rfl
    have e6:ah t=6:=by simpa using k6
    rw [Gi e6];cases Wq:Qz t with
    | none =>
     unfold jN;dsimp only;clear hb2 xH k6 e6 Wq;go_wp2_with fail;go_ret;exact xR.out 7 _ HE.out (by decide) YF.out
    | some k =>
     have hkl:k<nL t:=by have h1:=WZ.out.names e6;have h2:k<(rU t).length:=vI Wq;unfold nK at h1;omega
     have adF:(ah (elt t k) != 3)=true/\(ah (elt t k) != 4)=true:=by
      unfold iG at xH;rw [Wq,k6] at xH;simpa using xH
     obtain ⟨u3,u4⟩:=adF;obtain ⟨_,LA,_,LB,_,hg,hag,_,hl,_⟩:=HA.out.at.open;simp only [Value.agg.injEq,Array.mk.injEq,List.cons.injEq,Value.slice.injEq,and_true,true_and] at hag;obtain ⟨⟨rfl,rfl⟩,_⟩:=hag;obtain ⟨bb,oo,A9,B9,C9,D9,rfl,hbl,p0,p1,p2,p3,p4,Ha⟩:=hl.out.shape hb2 k hkl;have z1:(k:Int)<(nL t:Int):=by omega
     have z2:¬ (k:Int)<0:=by omega
     unfold jN;dsimp only;clear hb2 xH k6 e6 Wq Ha hl hbl hkl p1 p2 p3 p4;go_wp2_with fail;go_ret;exact xR.out 7 _ HE.out (by decide) YF.out
  | true =>
   obtain ⟨kt,hkt,h6,x9⟩:=Ul xH
   obtain ⟨Ws,aa4⟩:kt<nL t/\Gs t=elt t kt:=by
    obtain ⟨k',h1,h2,h3⟩:=QB.id ⟨WZ.out,HV.out,xH⟩;rw [Gi h6,hkt] at h1;cases h1;exact ⟨h2,h3⟩
   rw [Gi h6,hkt];unfold jN;dsimp only;have UK:(ah t != 6)=false:=by rw [h6];rfl
   obtain ⟨gA,LA,KA,LB,KB,hg,hag,_,hl,_⟩:=HA.out.at.open;obtain rfl:gA=12:=by omega
   simp only [Value.agg.injEq,Array.mk.injEq,List.cons.injEq,Value.slice.injEq,and_true,true_and] at hag;obtain ⟨⟨hA1,hA2⟩,hA3,hA4⟩:=hag;subst hA1 hA2 hA3 hA4;obtain ⟨bb,oo,A9,B9,C9,D9,rfl,hbl,p0,p1,p2,p3,p4,Ha⟩:=hl.out.shape (Below.refl _ _) kt Ws;have xu:=aj Ha.out;have z1:(kt:Int)<(nL t:Int):=by omega
   have z2:¬ (kt:Int)<0:=by omega
   have HvE:Hid (∀ wy:World,Below w1.heap.size w1 wy->wy.cell? ⟨bb,oo+kt*5,none⟩=some (.int .i64 (ah (elt t kt)))/\wy.cell? ⟨bb,oo+kt*5+1,none⟩=some (.int .i64 (aB (elt t kt)))/\wy.cell? ⟨bb,oo+kt*5+2,none⟩=some (.string (aF (elt t kt)))/\wy.cell? ⟨bb,oo+kt*5+3,none⟩=some (.slice A9 (nL (elt t kt)) B9)/\wy.cell? ⟨bb,oo+kt*5+4,none⟩=some (.slice C9 (nK (elt t kt)) D9)):=fun wy hb=>⟨(hb.cell (p:=⟨bb,oo+kt*5,none⟩) hbl).trans p0,(hb.cell (p:=⟨bb,oo+kt*5+1,none⟩) hbl).trans p1,(hb.cell (p:=⟨bb,oo+kt*5+2,none⟩) hbl).trans p2,(hb.cell (p:=⟨bb,oo+kt*5+3,none⟩) hbl).trans p3,(hb.cell (p:=⟨bb,oo+kt*5+4,none⟩) hbl).trans p4⟩;have NV:=aj (wH 12 13 _ t w2 (HA.out.at.keep hb2) ((kr _).1 HV.out).1 (by have h1:=Br 12 t ((kr _).1 HV.out).1;have h2:=((kr _).1 HV.out).2;omega));have aa5:=aj (And.intro (WZ.out.elt Ws) (HGd.out.elt Ws));have aa6:=aj xH;have adH:=aj aa4;have Hb2:=aj hb2;obtain ⟨q0,_,_,_,_⟩:=HvE.out w2 hb2;clear hkt h6 hl hbl p0 p1 p2 p3 p4 Ha hb2 xH Ws aa4 hg
   have hu:(ah (elt t kt) != 3)=false\/((ah (elt t kt) != 3)=true/\(ah (elt t kt) != 4)=false):=by
    rcases x9 with h3 | h4
    ·exact .inl (by rw [h3];rfl)
    ·exact .inr ⟨by rw [h4];rfl,by rw [h4];rfl⟩
   clear x9;go_upto_region 5 with fail;go_cut [47] (fun s47 wx=>s47=.bool false/\w2=wx)
   case first =>
    rcases hu with u3 | ⟨u3,u4⟩
    all_goals
     go_wp2_with fail;go_meet;exact ⟨rfl,rfl⟩
   case rest =>
    obtain ⟨rfl,rfl⟩:=hcut;clear hu;go_wp2_with fail;refine NV.out.mono ?_;rintro e w3 ⟨rfl,b3⟩;have bO:=aj (HB3.out.trans (b3.mono (by have:=HB3.out.size;simp at this;omega)));clear b3 NV q0 r0 r1 r2 r3 r4 rz;obtain ⟨r0,r1,r2,r3,r4,rz,hb3⟩:=aI bO.out;have Hb3:=aj hb3;have Ql:=aj (HB1.out.trans (hb3.mono HB1.out.size));cases htb:jI t with
    | true =>
     have HE:Hid (je (l.map gN) x s=15):=by show _=_;unfold je;rw [YE.out,if_neg (by rw [aa6.out];simp),if_pos htb]
     have v1:(1000:Int)<((bY (bK 12 t)).size:Int):=by rw [HBz.out] at htb;simpa using htb
     clear htb hb3;go_wp2_with fail;go_ret;exact xR.out 15 _ HE.out (by decide) Ql.out
    | false =>
     have aa7:Hid (jq s=none):=by show _=_;rw [YE.out,if_neg (by rw [aa6.out];simp),if_neg (by rw [htb];simp)]
     have v1:¬ (1000:Int)<((bY (bK 12 t)).size:Int):=by rw [HBz.out] at htb;simpa using htb
     have HF:=aj (o9 (HI.out.keep Ql.out) (by omega) x);clear htb hb3;cases hi:bT x (l.map (·.nm)) with
     | none =>
      have HE:Hid (je (l.map gN) x s=10):=by show _=_;unfold je;rw [aa7.out];simp only;rw [xP hi]
      rw [hi] at HF;unfold jN at HF;dsimp only at HF;clear hi;go_wp2_with fail;refine HF.out.mono ?_;rintro e w4 ⟨rfl,hw4⟩;subst w4;go_wp2_with fail;go_ret;exact xR.out 10 _ HE.out (by decide) Ql.out
     | some i =>
      obtain ⟨r,hr,hrn,hlk⟩:=xO hi;have hmem:r ∈ l:=List.mem_of_getElem? hr;have HE:Hid (je (l.map gN) x s=if FR s r.docs then 11 else if 60<=r.docs.length then 12 else 0):=by show _=_;unfold je;rw [aa7.out];simp only;rw [hlk]
      have hdn:=Hm.out r hmem;have Hdd:=aj (Hd.out r hmem);have MF:=aj (HI.out.col r hmem);have HUp:Hid (∀ dv dx,(l.set i ⟨r.nm,r.docs++[t],dv,dx⟩).map gN=qx (l.map gN) x (r.docs++[t])):=fun dv dx=>FX (r':=⟨r.nm,r.docs++[t],dv,dx⟩) hrn hi;have Hlk:=aj hlk;have Hr:=aj hr;rw [hi] at HF;unfold jN at HF;dsimp only at HF;obtain ⟨g,cap,hv,hg,hil,_,q1⟩:=HI.out.cells hr;subst hv;obtain ⟨La,Lc,hdv⟩:=aJ MF.out.row;rw [hdv] at q1;have EN:Hid (∀ wy:World,Below w.heap.size w wy->wy.cell? ⟨p,0,none⟩=some (.slice (some ⟨g,0,none⟩) l.length cap)/\wy.cell? ⟨g,i*2+1,none⟩=some (.slice La r.docs.length Lc)):=fun wy hb=>⟨(hb.cell (p:=⟨p,0,none⟩) (HI.out.low p (by rw [HI.out.lp];omega))).trans HI.out.cell,(hb.cell (p:=⟨g,i*2+1,none⟩) hg).trans q1⟩;have Hdv:=aj hdv;have y0:¬ (i:Int)<0:=by omega
      have y1:(i:Int)<(l.length:Int):=by omega
      obtain ⟨dn,hdl⟩:∃ dn,r.docs.length=dn:=⟨_,rfl⟩;rw [hdl] at EN hdn HE;have Qe:=aj hdl;clear hi hlk hr hrn q1 hdv hmem hdl hg hil;go_wp2_with fail;refine HF.out.mono ?_;rintro e w4 ⟨rfl,hw4⟩;subst w4;clear HF r0 r1 r2 r3 r4 rz;obtain ⟨m0,m1⟩:=EN.out w3 Ql.out;go_wp2_with fail;go_loopg [11] dn (fun gh z wr=>∃ k:Nat,gh=dn - k/\k<=dn/\z=.int .i64 k/\Hid (bg (iK (Gs t)) (dU 5 0 ByteArray.empty r.docs []) k=false)/\Hid (Below w3.heap.size w3 wr))
      case atStart=>exact ⟨0,rfl,Nat.zero_le _,rfl,rfl,Below.refl _ _⟩
      case round =>
       clear m0 m1;obtain ⟨k,rfl,hk,rfl,HN,nA⟩:=hrel;have pG:=aj (Ql.out.trans (nA.out.mono Ql.out.size));have zi:=aj (Hb3.out.trans (nA.out.mono Hb3.out.size));obtain ⟨m0,m1⟩:=EN.out wr pG.out;by_cases hlt:k<dn
       ·have hkl:k<r.docs.length:=by rw [Qe.out];exact hlt
        obtain ⟨dg,nC,DA,DB,DC,DD,hdv,hdg,e0,e1,e2,e3,e4,Xl⟩:=MF.out.elem hkl;have YU:La=some ⟨dg,0,none⟩:=by have:=Hdv.out.symm.trans hdv;simp only [Value.slice.injEq] at this;exact this.1
        subst YU;have OP:Hid (elt (dU 5 0 ByteArray.empty r.docs []) k=r.docs[k]):=by show _=_;rw [pO,List.getD_eq_getElem?_getD,List.getElem?_eq_getElem hkl];rfl
        have Zi:=Hdd.out _ (List.getElem_mem hkl);generalize r.docs[k]=d at e0 e1 e2 e3 e4 Xl OP Zi;obtain ⟨kd,hpd,hkd,aa8⟩:=Zi.id;have hnd:=Zi.1.small.2;obtain ⟨gD,DLA,DKA,DLB,DKB,hgD,hag,_,hl',_⟩:=Xl.at.open;obtain rfl:gD=12:=by omega
        simp only [Value.agg.injEq,Array.mk.injEq,List.cons.injEq,Value.slice.injEq,and_true,true_and] at hag;obtain ⟨⟨hA1,hA2⟩,hA3,hA4⟩:=hag;subst hA1 hA2 hA3 hA4;obtain ⟨db,oq,E1,E2,E3,E4,hDA,Qm,f0,f1,f2,f3,f4,Hae⟩:=hl'.out.shape (Below.refl _ _) kd hkd;subst hDA;have HAd:=aj Xl.at;have sG:=aj (bJ wr (.cells #[.int .i64 (ah d),.int .i64 (aB d),.string (aF d),.slice (some ⟨db,oq,none⟩) (nL d) DB,.slice DC (nK d) DD] 25))
        have iX:Hid (∀ wy:World,Below (wr.heap.size+1) (wr.alloc (.cells #[.int .i64 (ah d),.int .i64 (aB d),.string (aF d),.slice (some ⟨db,oq,none⟩) (nL d) DB,.slice DC (nK d) DD] 25)) wy->(wy.cell? ⟨wr.heap.size,0,none⟩=some (.int .i64 (ah d))/\wy.cell? ⟨wr.heap.size,1,none⟩=some (.int .i64 (aB d))/\wy.cell? ⟨wr.heap.size,2,none⟩=some (.string (aF d))/\wy.cell? ⟨wr.heap.size,3,none⟩=some (.slice (some ⟨db,oq,none⟩) (nL d) DB)/\wy.cell? ⟨wr.heap.size,4,none⟩=some (.slice DC (nK d) DD)/\wy.cell? ⟨w1.heap.size,3,none⟩=some (.slice (some ⟨bb,oo,none⟩) (nL t) B)/\wy.cell? ⟨db,oq+kd*5,none⟩=some (.int .i64 (ah (elt d kd)))/\wy.cell? ⟨db,oq+kd*5+1,none⟩=some (.int .i64 (aB (elt d kd)))/\wy.cell? ⟨db,oq+kd*5+2,none⟩=some (.string (aF (elt d kd)))/\wy.cell? ⟨db,oq+kd*5+3,none⟩=some (.slice E1 (nL (elt d kd)) E2)/\wy.cell? ⟨db,oq+kd*5+4,none⟩=some (.slice E3 (nK (elt d kd)) E4)/\wy.cell? ⟨bb,oo+kt*5,none⟩=some (.int .i64 (ah (elt t kt)))/\wy.cell? ⟨bb,oo+kt*5+1,none⟩=some (.int .i64 (aB (elt t kt)))/\wy.cell? ⟨bb,oo+kt*5+2,none⟩=some (.string (aF (elt t kt)))/\wy.cell? ⟨bb,oo+kt*5+3,none⟩=some (.slice A9 (nL (elt t kt)) B9)/\wy.cell? ⟨bb,oo+kt*5+4,none⟩=some (.slice C9 (nK (elt t kt)) D9))):=fun wy hb=>by
         obtain ⟨a0,a1,a2,a3,a4,_,hbr⟩:=aI hb;have hb1:=zi.out.trans (hbr.mono zi.out.size);have hbw:=pG.out.trans (hbr.mono pG.out.size);obtain ⟨_,_,_,b3,_,_,_⟩:=aI (bO.out.trans ((nA.out.trans (hbr.mono nA.out.size)).mono (by have:=bO.out.size;simp at this;omega)));obtain ⟨v0,v1,v2,v3,v4⟩:=HvE.out wy hb1;exact ⟨a0,a1,a2,a3,a4,b3,(hbw.cell (p:=⟨db,oq+kd*5,none⟩) Qm).trans f0,(hbw.cell (p:=⟨db,oq+kd*5+1,none⟩) Qm).trans f1,(hbw.cell (p:=⟨db,oq+kd*5+2,none⟩) Qm).trans f2,(hbw.cell (p:=⟨db,oq+kd*5+3,none⟩) Qm).trans f3,(hbw.cell (p:=⟨db,oq+kd*5+4,none⟩) Qm).trans f4,v0,v1,v2,v3,v4⟩
        have WR:Hid (Below (wr.heap.size+1) (wr.alloc (.cells #[.int .i64 (ah d),.int .i64 (aB d),.string (aF d),.slice (some ⟨db,oq,none⟩) (nL d) DB,.slice DC (nK d) DD] 25)) (wr.alloc (.cells #[.int .i64 (ah d),.int .i64 (aB d),.string (aF d),.slice (some ⟨db,oq,none⟩) (nL d) DB,.slice DC (nK d) DD] 25)).drew):=(Below.refl _ _).drew;have HDl:Hid (∀ w5:World,Below (wr.alloc (.cells #[.int .i64 (ah d),.int .i64 (aB d),.string (aF d),.slice (some ⟨db,oq,none⟩) (nL d) DB,.slice DC (nK d) DD] 25)).drew.heap.size (wr.alloc (.cells #[.int .i64 (ah d),.int .i64 (aB d),.string (aF d),.slice (some ⟨db,oq,none⟩) (nL d) DB,.slice DC (nK d) DD] 25)).drew w5->Below (wr.heap.size+1) (wr.alloc (.cells #[.int .i64 (ah d),.int .i64 (aB d),.string (aF d),.slice (some ⟨db,oq,none⟩) (nL d) DB,.slice DC (nK d) DD] 25)) w5):=fun w5 hb=>WR.out.trans (hb.mono (by show _<=(wr.alloc _).heap.size;simp));have HDm:Hid (∀ w5 w6:World,Below (wr.heap.size+1) (wr.alloc (.cells #[.int .i64 (ah d),.int .i64 (aB d),.string (aF d),.slice (some ⟨db,oq,none⟩) (nL d) DB,.slice DC (nK d) DD] 25)) w5->Below w5.heap.size w5 w6->Below (wr.heap.size+1) (wr.alloc (.cells #[.int .i64 (ah d),.int .i64 (aB d),.string (aF d),.slice (some ⟨db,oq,none⟩) (nL d) DB,.slice DC (nK d) DD] 25)) w6):=fun w5 w6 h1 h2=>h1.trans (h2.mono (by have:=h1.size;simp at this;omega));have qH:=aj (iX.out _ WR.out)
        have HCs:Hid (Calls Tryz.prog 133 #[.agg #[.int .i64 (ah d),.int .i64 (aB d),.string (aF d),.slice (some ⟨db,oq,none⟩) (nL d) DB,.slice DC (nK d) DD],.string ⟨#[95,105,100]⟩] (wr.alloc (.cells #[.int .i64 (ah d),.int .i64 (aB d),.string (aF d),.slice (some ⟨db,oq,none⟩) (nL d) DB,.slice DC (nK d) DD] 25)).drew fun e w'=>e=.returned (.int .i64 (kd:Int))/\Below (wr.alloc (.cells #[.int .i64 (ah d),.int .i64 (aB d),.string (aF d),.slice (some ⟨db,oq,none⟩) (nL d) DB,.slice DC (nK d) DD] 25)).drew.heap.size (wr.alloc (.cells #[.int .i64 (ah d),.int .i64 (aB d),.string (aF d),.slice (some ⟨db,oq,none⟩) (nL d) DB,.slice DC (nK d) DD] 25)).drew w'):=(xL 13 _ d Y6 _ (HAd.out.keep (pG.out.trans (sG.out.drew.mono pG.out.size))) (by decide) (by decide) hnd).mono fun e w' hh=>⟨by rw [hh.1,hpd];rfl,hh.2⟩;have HCo:Hid (∀ wy:World,Below wr.heap.size wr wy->_):=fun wy hb=>sJ (Hae.out.keep (pG.out.trans (hb.mono pG.out.size))) (xu.out.keep (zi.out.trans (hb.mono zi.out.size))) (by omega) (Zi.1.elt hkd) aa5.out.1 (Zi.gd.elt hkd) aa5.out.2
        have zC:Hid (bg (iK (Gs t)) (dU 5 0 ByteArray.empty r.docs []) (k+1)=(bq 16 (elt d kd) (elt t kt)==0)):=by
         show (bg _ _ k || iK (Gs t) _)=_;rw [HN.out,OP.out,Bool.false_or];unfold iK;rw [aa8,adH.out]
        have g0:=(pG.out.cell (p:=⟨dg,k*5,none⟩) hdg).trans e0;have g1:=(pG.out.cell (p:=⟨dg,k*5+1,none⟩) hdg).trans e1;have g2:=(pG.out.cell (p:=⟨dg,k*5+2,none⟩) hdg).trans e2;have g3:=(pG.out.cell (p:=⟨dg,k*5+3,none⟩) hdg).trans e3;have g4:=(pG.out.cell (p:=⟨dg,k*5+4,none⟩) hdg).trans e4;have x1:(k:Int)<(dn:Int):=by omega
        have x2:(kd:Int)<(nL d:Int):=by omega
        have x3:¬ (kd:Int)<0:=by omega
        have Hdt:Hid (bg (iK (Gs t)) (dU 5 0 ByteArray.empty r.docs []) (k+1)=true->FR s r.docs=true):=fun h=>by rw [aa3.out];exact wN _ _ (by rw [Qe.out];omega) h
        generalize bq 16 (elt d kd) (elt t kt)=cc at HCo zC;clear hkl hdv hdg e0 e1 e2 e3 e4 Xl OP Zi hpd hkd aa8 hnd hgD hl' Qm f0 f1 f2 f3 f4 Hae hlt;go_wp2_with fail
        go_region_held3 (fun wy=>wy.cell? ⟨wr.heap.size,0,none⟩=some (.int .i64 (ah d))/\wy.cell? ⟨wr.heap.size,1,none⟩=some (.int .i64 (aB d))/\wy.cell? ⟨wr.heap.size,2,none⟩=some (.string (aF d))/\wy.cell? ⟨wr.heap.size,3,none⟩=some (.slice (some ⟨db,oq,none⟩) (nL d) DB)/\wy.cell? ⟨wr.heap.size,4,none⟩=some (.slice DC (nK d) DD)/\wy.cell? ⟨w1.heap.size,3,none⟩=some (.slice (some ⟨bb,oo,none⟩) (nL t) B)/\wy.cell? ⟨db,oq+kd*5,none⟩=some (.int .i64 (ah (elt d kd)))/\wy.cell? ⟨db,oq+kd*5+1,none⟩=some (.int .i64 (aB (elt d kd)))/\wy.cell? ⟨db,oq+kd*5+2,none⟩=some (.string (aF (elt d kd)))/\wy.cell? ⟨db,oq+kd*5+3,none⟩=some (.slice E1 (nL (elt d kd)) E2)/\wy.cell? ⟨db,oq+kd*5+4,none⟩=some (.slice E3 (nK (elt d kd)) E4)/\wy.cell? ⟨bb,oo+kt*5,none⟩=some (.int .i64 (ah (elt t kt)))/\wy.cell? ⟨bb,oo+kt*5+1,none⟩=some (.int .i64 (aB (elt t kt)))/\wy.cell? ⟨bb,oo+kt*5+2,none⟩=some (.string (aF (elt t kt)))/\wy.cell? ⟨bb,oo+kt*5+3,none⟩=some (.slice A9 (nL (elt t kt)) B9)/\wy.cell? ⟨bb,oo+kt*5+4,none⟩=some (.slice C9 (nK (elt t kt)) D9)) (first | exact hc6 | exact kD | exact qH.out) (first | (go_at_call 133;refine HCs.out.mono ?_;rintro e5 w5 ⟨rfl,hb5⟩;have hd5:=HDl.out w5 hb5;have kD:=iX.out _ hd5) | (go_at_call 134;refine (HCo.out w5 (sG.out.trans (hd5.mono (Nat.le_succ _)))).mono ?_;rintro e6 w6 ⟨rfl,hb6⟩;have hd6:=HDm.out w5 w6 hd5 hb6;have hc6:=iX.out _ hd6));have aa9:=aj (sG.out.trans (hd6.mono (Nat.le_succ _)))
        have LW:=aj (nA.out.trans (aa9.out.mono nA.out.size));have adK:=aj (pG.out.trans (aa9.out.mono pG.out.size));clear hb5 hb6 hd5 hd6 kD hc6 qH iX HDl HDm WR HCs HCo g0 g1 g2 g3 g4;cases hcc:cc==0 with
        | true =>
         have HE2:Hid (je (l.map gN) x s=11):=by show _=_;rw [HE.out,Hdt.out (zC.out.trans hcc)];rfl
         clear m0 m1 zC Hdt;go_wp2_with fail;go_ret;exact xR.out 11 _ HE2.out (by decide) adK.out
        | false =>
         have Hs2:=aj (zC.out.trans hcc);clear m0 m1 zC Hdt;go_wp2_with fail;go_roundg (dn - (k+1))
         case rel=>exact ⟨k+1,rfl,by omega,by go_num,Hs2,LW⟩
         case measure=>omega
       ·obtain rfl:k=dn:=by omega
        have x1:¬ (k:Int)<(k:Int):=by omega
        have Hnd:Hid (FR s r.docs=false):=by show _=_;rw [aa3.out,Qe.out];exact HN.out
        clear hlt;by_cases X8:60<=k
        ·have e60:(60:Int)<=(k:Int):=by omega
         have HE2:Hid (je (l.map gN) x s=12):=by show _=_;rw [HE.out,Hnd.out,if_neg (by simp),if_pos X8]
         clear X8;go_wp2_with fail;go_ret;exact xR.out 12 _ HE2.out (by decide) pG.out
        ·have e60:¬ (60:Int)<=(k:Int):=by omega
         have HE2:Hid (je (l.map gN) x s=0):=by show _=_;rw [HE.out,Hnd.out,if_neg (by simp),if_neg X8]
         clear X8
         have HvX:Hid (∀ wy:World,Below wr.heap.size wr wy->wy.cell? ⟨w1.heap.size,0,none⟩=some (.int .i64 (ah t))/\wy.cell? ⟨w1.heap.size,1,none⟩=some (.int .i64 (aB t))/\wy.cell? ⟨w1.heap.size,2,none⟩=some (.string (aF t))/\wy.cell? ⟨w1.heap.size,3,none⟩=some (.slice (some ⟨bb,oo,none⟩) (nL t) B)/\wy.cell? ⟨w1.heap.size,4,none⟩=some (.slice C (nK t) D)):=fun wy hb=>by
          obtain ⟨b0,b1,b2,b3,b4,_,_⟩:=aI (bO.out.trans ((nA.out.trans (hb.mono nA.out.size)).mono (by have:=bO.out.size;simp at this;omega)));exact ⟨b0,b1,b2,b3,b4⟩
         have hmem:r ∈ l:=List.mem_of_getElem? Hr.out;have Zj:Hid (r.dx.length=k*5):=by have:=MF.out.row.1;rw [Qe.out] at this;exact this
         have Xm:Hid (∀ wy:World,Below w.heap.size w wy->wy.ownsRow 0 25 5 (.slice La k Lc) k r.dx):=fun wy hb=>by
          have h1:=((HI.out.keep hb).col r hmem).row;rw [Hdv.out,Qe.out] at h1;exact h1
         have Hap:Hid (∀ b,(Value.slice La k Lc).ownBlock=some b->L b=4):=fun b e=>MF.out.fP b (by rw [Hdv.out,Qe.out];exact e)
         have HGg:Hid (∀ (wx w6:World) (gd H:Nat),Below w.heap.size w wx->wx.grownBy w6 (Value.slice La k Lc).ownBlock->((Value.slice La k Lc).ownBlock=some gd\/gd=H)->w.heap.size<=H->Below wr.heap.size wr wx->gd≠g/\g≠gd/\Hid ((w6.cell? ⟨p,0,none⟩=some (.slice (some ⟨g,0,none⟩) l.length cap)/\w6.cell? ⟨w1.heap.size,0,none⟩=some (.int .i64 (ah t))/\w6.cell? ⟨w1.heap.size,1,none⟩=some (.int .i64 (aB t))/\w6.cell? ⟨w1.heap.size,2,none⟩=some (.string (aF t))/\w6.cell? ⟨w1.heap.size,3,none⟩=some (.slice (some ⟨bb,oo,none⟩) (nL t) B)/\w6.cell? ⟨w1.heap.size,4,none⟩=some (.slice C (nK t) D))/\w6.cell? ⟨g,i*2+1,none⟩=some (.slice La k Lc)/\w6.frozen? ⟨g,i*2+1,none⟩=false/\w6.ownsRow 0 159 2 (.slice (some ⟨g,0,none⟩) l.length cap) l.length (l.flatMap tT))):=fun wx w6 gd H hb hG hat hH hbr=>by
          have hgl:L g=3:=HI.out.fP g rfl;have hg:=HI.out.low g (by omega)
          have hne:gd≠g:=fun e=>by
           rcases hat with h | h
           ·have:=Hap.out gd h;rw [e] at this;omega
           ·omega
          have hbl:w6.heap[g]?=wx.heap[g]?:=hG.block g (Nat.lt_of_lt_of_le hg hb.size) (fun e=>by have:=Hap.out g e.symm;omega);have hpl:=HI.out.low p (by rw [HI.out.lp];omega);have hbp:w6.heap[p]?=wx.heap[p]?:=hG.block p (Nat.lt_of_lt_of_le hpl hb.size) (fun e=>by have:=Hap.out p e.symm;have:=HI.out.lp;omega);have hbv:w6.heap[w1.heap.size]?=wx.heap[w1.heap.size]?:=hG.block _ (by have h1:=bO.out.size;have h2:=nA.out.size;have h3:=hbr.size;simp at h1;omega) (fun e=>by have:=HI.out.low _ (by rw [Hap.out _ e.symm];omega);have:=HB1.out.size;omega);obtain ⟨b0,b1,b2,b3,b4⟩:=HvX.out wx hbr;refine ⟨hne,Ne.symm hne,⟨(World.cell?_of_block (a:=⟨p,0,none⟩) hbp).trans (EN.out wx hb).1,(World.cell?_of_block (a:=⟨w1.heap.size,0,none⟩) hbv).trans b0,(World.cell?_of_block (a:=⟨w1.heap.size,1,none⟩) hbv).trans b1,(World.cell?_of_block (a:=⟨w1.heap.size,2,none⟩) hbv).trans b2,(World.cell?_of_block (a:=⟨w1.heap.size,3,none⟩) hbv).trans b3,(World.cell?_of_block (a:=⟨w1.heap.size,4,none⟩) hbv).trans b4⟩,(World.cell?_of_block (a:=⟨g,i*2+1,none⟩) hbl).trans (EN.out wx hb).2,?_,bP (HI.out.keep hb).row fun b e=>?_⟩
          ·exact (World.frozen?_of_block (a:=⟨g,i*2+1,none⟩) hbl).trans ((HI.out.keep hb).row.frozenAt _)
          ·obtain rfl:g=b:=by simpa [Value.ownBlock] using e
           exact hbl
         have hkk:(k:Int)<(k:Int)+1:=by omega
         clear hmem m0 m1 HN Hnd;obtain ⟨m0,m1⟩:=EN.out wr pG.out;go_wp2_with fail;go_region_law (fail)
         all_goals clear m0 m1
         ·obtain ⟨X,hX⟩:∃ X,(wr.alloc (.cells #[.bool false] 4)).drew=X:=⟨_,rfl⟩;have JO:Hid (Below wr.heap.size wr X):=by show Below _ _ _;rw [<- hX];exact (bJ wr _).drew
          rw [hX];clear hX;have Wt:=aj (pG.out.trans (JO.out.mono pG.out.size));have HXa:=aj (Wt.out.alloc Wt.out.size (.cells #[.int .i64 (ah t),.int .i64 (aB t),.string (aF t),.slice (some ⟨bb,oo,none⟩) (nL t) B,.slice C (nK t) D] 25));have HXd:=aj HXa.out.drew;have YG:=aj (JO.out.alloc JO.out.size (.cells #[.int .i64 (ah t),.int .i64 (aB t),.string (aF t),.slice (some ⟨bb,oo,none⟩) (nL t) B,.slice C (nK t) D] 25)).drew;have q8:=aj ((zi.out.trans (JO.out.mono zi.out.size)).alloc (zi.out.trans (JO.out.mono zi.out.size)).size (.cells #[.int .i64 (ah t),.int .i64 (aB t),.string (aF t),.slice (some ⟨bb,oo,none⟩) (nL t) B,.slice C (nK t) D] 25)).drew;obtain ⟨n0,n1⟩:=EN.out X Wt.out;obtain ⟨j0,j1,j2,j3,j4⟩:=HvX.out X JO.out;obtain ⟨n2,n3⟩:=EN.out _ HXa.out;obtain ⟨j5,j6,j7,j8,j9⟩:=HvX.out _ (JO.out.alloc JO.out.size (.cells #[.int .i64 (ah t),.int .i64 (aB t),.string (aF t),.slice (some ⟨bb,oo,none⟩) (nL t) B,.slice C (nK t) D] 25));go_wp2_with fail
          go_region_law (refine step_append_lies _ (by rfl) _ _ _ (by rfl) 0 25 iV _ 5 80 Tryz.underlying22 G8 G9 Hf Ho rfl (by omega) (.slice La k Lc) k r.dx (by rfl) (Xm.out _ HXd.out) ⟨X.heap.size,0,none⟩ 1 1 [.int .i64 (ah t),.int .i64 (aB t),.string (aF t),.slice (some ⟨bb,oo,none⟩) (nL t) B,.slice C (nK t) D] (by rfl) (by rfl) (World.news_of_block (cs:=#[.int .i64 (ah t),.int .i64 (aB t),.string (aF t),.slice (some ⟨bb,oo,none⟩) (nL t) B,.slice C (nK t) D]) (t:=25) (fr:=(0,0)) (heap_alloc_new X _)) (by simp [Value.oneCell']) (by omega) (by unfold maxLen;omega) (by omega) (Nat.zero_le _) (X.heap.size+1) (by simp) ?_;intro gd nC w6 hown6 cu bI Cz;have DI:=aj (And.intro hown6 (And.intro cu bI));obtain ⟨hgc,hcg,HC6⟩:=HGg.out _ w6 gd _ HXd.out cu bI (by have:=Wt.out.size;omega) YG.out;obtain ⟨⟨p6,l0,l1,l2,l3,l4⟩,c6,f6,_⟩:=HC6.out;clear hown6 cu bI)
          all_goals
           go_wp2_with fail;go_ret;obtain ⟨hown6,cu,bI⟩:=DI.out;have hIn:=aaZ (o:=i*2+1) (xs:=l.flatMap tT) (n:=l.length) (cap:=cap) hgc hown6 HC6.out.2.2.2;obtain ⟨k1,k2⟩:=JK HI.out rfl UM.out HQ.out Hr.out HB1.out q8.out HA.out Qe.out (Hdv.out.trans (by rw [Qe.out])) cu bI (by simp) hIn HUp.out;rw [HtJ.out,if_pos HE2.out,Hlk.out,Option.getD_some];exact ⟨by rw [HE2.out];rfl,k1,k2⟩
         ·obtain ⟨X,hX⟩:∃ X,(wr.alloc (.cells #[.bool true] 4)).drew=X:=⟨_,rfl⟩;have JO:Hid (Below wr.heap.size wr X):=by show Below _ _ _;rw [<- hX];exact (bJ wr _).drew
          rw [hX];clear hX;have Wt:=aj (pG.out.trans (JO.out.mono pG.out.size));have HXa:=aj (Wt.out.alloc Wt.out.size (.cells #[.int .i64 0,.int .i64 0,.string ⟨#[]⟩,.slice none 0 0,.slice none 0 0] 25));have HXd:=aj HXa.out.drew;have YG:=aj (JO.out.alloc JO.out.size (.cells #[.int .i64 0,.int .i64 0,.string ⟨#[]⟩,.slice none 0 0,.slice none 0 0] 25)).drew;have q8:=aj ((zi.out.trans (JO.out.mono zi.out.size)).alloc (zi.out.trans (JO.out.mono zi.out.size)).size (.cells #[.int .i64 0,.int .i64 0,.string ⟨#[]⟩,.slice none 0 0,.slice none 0 0] 25)).drew;obtain ⟨n0,n1⟩:=EN.out X Wt.out;obtain ⟨j0,j1,j2,j3,j4⟩:=HvX.out X JO.out;obtain ⟨n2,n3⟩:=EN.out _ HXa.out;obtain ⟨j5,j6,j7,j8,j9⟩:=HvX.out _ (JO.out.alloc JO.out.size (.cells #[.int .i64 0,.int .i64 0,.string ⟨#[]⟩,.slice none 0 0,.slice none 0 0] 25));go_wp2_with fail
          go_region_law (refine step_append_lies _ (by rfl) _ _ _ (by rfl) 0 25 iV _ 5 80 Tryz.underlying22 G8 G9 Hf Ho rfl (by omega) (.slice La k Lc) k r.dx (by rfl) (Xm.out _ HXd.out) ⟨X.heap.size,0,none⟩ 1 1 [.int .i64 0,.int .i64 0,.string ⟨#[]⟩,.slice none 0 0,.slice none 0 0] (by rfl) (by rfl) (World.news_of_block (cs:=#[.int .i64 0,.int .i64 0,.string ⟨#[]⟩,.slice none 0 0,.slice none 0 0]) (t:=25) (fr:=(0,0)) (heap_alloc_new X _)) (by simp [Value.oneCell']) (by omega) (by unfold maxLen;omega) (by omega) (Nat.zero_le _) (X.heap.size+1) (by simp) ?_;intro gd nC w6 hown6 cu bI Cz;have DI:=aj (And.intro hown6 (And.intro cu bI));obtain ⟨hgc,hcg,HC6⟩:=HGg.out _ w6 gd _ HXd.out cu bI (by have:=Wt.out.size;omega) YG.out;obtain ⟨⟨p6,l0,l1,l2,l3,l4⟩,c6,f6,_⟩:=HC6.out;have y0:w6.cell? ⟨gd,k*5,none⟩=some (.int .i64 0):=iR hown6 Zj.out 0 (by omega) rfl;have z0':w6.frozen? ⟨gd,k*5,none⟩=false:=hown6.frozenAt _;have y1:w6.cell? ⟨gd,k*5+1,none⟩=some (.int .i64 0):=iR hown6 Zj.out 1 (by omega) rfl;have z1':w6.frozen? ⟨gd,k*5+1,none⟩=false:=hown6.frozenAt _;have y2:w6.cell? ⟨gd,k*5+2,none⟩=some (.string ⟨#[]⟩):=iR hown6 Zj.out 2 (by omega) rfl;have z2':w6.frozen? ⟨gd,k*5+2,none⟩=false:=hown6.frozenAt _;have y3:w6.cell? ⟨gd,k*5+3,none⟩=some (.slice none 0 0):=iR hown6 Zj.out 3 (by omega) rfl;have z3':w6.frozen? ⟨gd,k*5+3,none⟩=false:=hown6.frozenAt _;have y4:w6.cell? ⟨gd,k*5+4,none⟩=some (.slice none 0 0):=iR hown6 Zj.out 4 (by omega) rfl;have z4':w6.frozen? ⟨gd,k*5+4,none⟩=false:=hown6.frozenAt _;clear hown6 cu bI)
          all_goals
           go_wp2_with fail;go_ret;obtain ⟨hown6,cu,bI⟩:=DI.out;have hIn:=adB (o:=i*2+1) (xs:=l.flatMap tT) (n:=l.length) (cap:=cap) hgc Zj.out hown6 HC6.out.2.2.2 (.int .i64 (ah t)) (.int .i64 (aB t)) (.string (aF t)) (.slice (some ⟨bb,oo,none⟩) (nL t) B) (.slice C (nK t) D);obtain ⟨k1,k2⟩:=JK HI.out rfl UM.out HQ.out Hr.out HB1.out q8.out HA.out Qe.out (Hdv.out.trans (by rw [Qe.out])) cu bI (by simp) hIn HUp.out;unfold eu at k1 k2;rw [HtJ.out,if_pos HE2.out,Hlk.out,Option.getD_some];refine ⟨by rw [HE2.out];rfl,?_,?_⟩
           ·with_reducible exact k1
           ·with_reducible exact k2
 ·have hz:(eJ s != 0)=true:=by simpa using he
  have HE:Hid (je (l.map gN) x s=eJ s):=by show _=_;unfold je jq;rw [if_pos he]
  have He:=aj he;clear he;go_wp2_with fail;go_ret;exact xR.out _ _ HE.out He.out HB2.out
end Go.Proofs.YtknakfpciccoaaaGreatDoor
