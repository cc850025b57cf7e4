import Derived.Test.YtknakfpciccoaaaGreatDoorZF25
import Derived.Test.YtknakfpciccoaaaGreatDoorZF44
import Derived.Test.YtknakfpciccoaaaGreatDoorRows
/- A script that is handed in. -/
set_option maxRecDepth 100000
namespace Go.Proofs.YtknakfpciccoaaaGreatDoor
open Go.ChangeShapes Go.WideShapes Go.ChangeAt Go.RowKit Go.Lib Go.Shelf Go.Deep
theorem Ux {H:Type} (d:DataW H):1<=Rows.uptoBulk d:=by
 cases d with
 | lit l=>cases l<;>simp [Rows.uptoBulk]
 | nil=>simp [Rows.uptoBulk]
 | ptr d=>simp [Rows.uptoBulk]
 | slice elems spare=>simp [Rows.uptoBulk]
 | agg parts=>simp [Rows.uptoBulk]
 | iface t d=>simp [Rows.uptoBulk]
 | map entries=>simp [Rows.uptoBulk]
 | held h=>simp [Rows.uptoBulk]
theorem Qq {H:Type} {d:DataW H} {l:List (DataW H)} (h:d ∈ l):Rows.uptoBulk d<=Rows.uptoBulkAll l:=by
 induction l with
 | nil=>cases h
 | cons x r ih =>
  simp only [Rows.uptoBulkAll];rcases List.mem_cons.1 h with e | e
  ·subst e;omega
  ·have:=ih e;omega
theorem Uy {H:Type} (l:List (DataW H)):l.length<=Rows.uptoBulkAll l:=by
 induction l with
 | nil=>simp [Rows.uptoBulkAll]
 | cons x r ih=>have:=Ux x;simp only [Rows.uptoBulkAll,List.length_cons];omega
theorem Wu:∃ f0 f1 f2 f3:Field,Tryz.prog.underlying 82=some (.struct #[f0,f1,f2,f3])/\(f0.type=3/\f0.offset=0)/\(f1.type=4/\f1.offset=1)/\(f2.type=9/\f2.offset=2)/\(f3.type=9/\f3.offset=3):=by
 exact ⟨_,_,_,_,Tryz.underlying82,⟨rfl,rfl⟩,⟨rfl,rfl⟩,⟨rfl,rfl⟩,⟨rfl,rfl⟩⟩
theorem Gn:Tryz.prog.cellsOf 82=4:=by kernel_rfl
theorem YL:Tryz.prog.cellsOf 4=1:=by kernel_rfl
section
variable {H : Type} {enc : TypeId × Value -> H} {W : World}
theorem abv {fuel:Nat} {cs:List Value} {x:DataW H×List MemPlace} (h:DataW.trod enc Tryz.prog W 0 (fun _=>true) true fuel 82 cs=some x) (hb:Rows.uptoBulk x.1<=1048576) :
  ∃ (kd:Int) (ot:Bool) (nm tx:ByteArray),cs=[.int .i64 kd,.bool ot,.string nm,.string tx]/\nm.size<=140737488355328/\tx.size<=140737488355328:=by
 obtain ⟨f0,f1,f2,f3,hu,⟨a0,b0⟩,⟨a1,b1⟩,⟨a2,b2⟩,⟨a3,b3⟩⟩:=Wu;obtain ⟨xs,n,hn,rfl,hl,hlen,hf⟩:=DataW.trod_struct hu h;rw [Gn] at hl
 match cs,hl,xs,hlen with
 | [c0,c1,c2,c3],_,[y0,y1,y2,y3],_ =>
  have h0:DataW.trod enc Tryz.prog W 0 (fun _=>true) true n 3 [c0]=some y0:=by have:=hf 0 f0 rfl;rw [a0,b0,Xo] at this;simpa using this
  have h1:DataW.trod enc Tryz.prog W 0 (fun _=>true) true n 4 [c1]=some y1:=by have:=hf 1 f1 rfl;rw [a1,b1,YL] at this;simpa using this
  have h2:DataW.trod enc Tryz.prog W 0 (fun _=>true) true n 9 [c2]=some y2:=by have:=hf 2 f2 rfl;rw [a2,b2,QC] at this;simpa using this
  have h3:DataW.trod enc Tryz.prog W 0 (fun _=>true) true n 9 [c3]=some y3:=by have:=hf 3 f3 rfl;rw [a3,b3,QC] at this;simpa using this
  obtain ⟨k,e0,_,_⟩:=DataW.trod_int Tryz.underlying3 h0;obtain ⟨b,e1,_⟩:=DataW.trod_bool Tryz.underlying4 h1;obtain ⟨s,e2,r2,_⟩:=DataW.trod_string Tryz.underlying9 h2;obtain ⟨t,e3,r3,_⟩:=DataW.trod_string Tryz.underlying9 h3;simp only [List.cons.injEq,and_true] at e0 e1 e2 e3;subst e0 e1 e2 e3;rw [r2,r3] at hb;simp only [List.map_cons,List.map_nil,Rows.uptoBulk,Rows.uptoBulkAll] at hb;have zs:s.size=s.data.toList.length:=rfl;have zt:t.size=t.data.toList.length:=rfl;exact ⟨k,b,s,t,rfl,by omega,by omega⟩
theorem Qr {fuel:Nat} {c:Value} {y:DataW H×List MemPlace} (h:DataW.trod enc Tryz.prog W 0 (fun _=>true) true fuel 34 [c]=some y) (hb:Rows.uptoBulk y.1<=1048576):∃ ops,YK W c ops:=by
 rcases DataW.trod_slice Tryz.underlying34 h with ⟨hc,rfl⟩ | ⟨a,len,cap,elems,rest,m,hn,hc,rfl,_,hl,_,hlen,hel,_,_⟩
 ·simp only [List.cons.injEq,and_true] at hc;exact ⟨[],none,0,hc,by simp,fun i hi=>absurd hi (Nat.not_lt_zero _)⟩
 ·simp only [List.cons.injEq,and_true] at hc;have hb':Rows.uptoBulkAll (elems.map (·.1))<=1048576:=by simp only [Rows.uptoBulk] at hb;omega
  have abw:∀ i,i<len->∃ op:Int×Bool×ByteArray×ByteArray,a=⟨a.block,a.off,none⟩/\a.block<W.heap.size/\W.cell? ⟨a.block,a.off+i*4,none⟩=some (.int .i64 op.1)/\W.cell? ⟨a.block,a.off+i*4+1,none⟩=some (.bool op.2.1)/\W.cell? ⟨a.block,a.off+i*4+2,none⟩=some (.string op.2.2.1)/\W.cell? ⟨a.block,a.off+i*4+3,none⟩=some (.string op.2.2.2)/\op.2.2.1.size<=140737488355328/\op.2.2.2.size<=140737488355328:=by
   intro i hi;have he:=hel i hi;rw [Gn] at he;have hi2:i<elems.length:=by omega
   rw [List.getElem?_eq_getElem hi2] at he;obtain ⟨cs,hcs,htr⟩:=Option.bind_eq_some_iff.1 he;obtain ⟨_,hcl,hcell⟩:=World.cells?_some hcs;obtain ⟨kd,ot,nm,tx,rfl,s1,s2⟩:=abv htr (Nat.le_trans (Qq (List.mem_map.2 ⟨elems[i],List.getElem_mem hi2,rfl⟩)) hb');have e0:=hcell 0 (by omega);have e1:=hcell 1 (by omega);have e2:=hcell 2 (by omega);have e3:=hcell 3 (by omega);simp only [List.getElem?_cons_zero,List.getElem?_cons_succ] at e0 e1 e2 e3
   have ha:a=⟨a.block,a.off,none⟩:=by
    by_cases h0:i=0
    ·subst h0;have:=Dh e0;simpa [Addr.add] using this
    ·obtain ⟨cs0,adQ,ahb⟩:∃ cs0,W.cells? 0 (a.add (0*4)) 4=some cs0/\True:=by
      have he0:=hel 0 (by omega);rw [Gn,List.getElem?_eq_getElem (by omega)] at he0;obtain ⟨cs0,h1,_⟩:=Option.bind_eq_some_iff.1 he0;exact ⟨cs0,h1,trivial⟩
     obtain ⟨_,hcl0,hcell0⟩:=World.cells?_some adQ;have g0:=hcell0 0 (by omega);rw [List.getElem?_eq_getElem (by omega)] at g0;have:=Dh g0;simpa [Addr.add] using this
   rw [ha,Lib.add_plain,Lib.add_plain] at e0 e1 e2 e3;exact ⟨(kd,ot,nm,tx),ha,z8 (a:=⟨a.block,_,none⟩) e0,e0,e1,e2,e3,s1,s2⟩
  obtain ⟨f,hf⟩:=choose_lt (α:=Int×Bool×ByteArray×ByteArray) abw;have hfl:((List.range len).map f).length=len:=by simp
  refine ⟨(List.range len).map f,some a,cap,by rw [hfl];exact hc,?_,fun i hi=>?_⟩
  ·have:=Uy (elems.map (·.1));rw [List.length_map] at this;rw [hfl];omega
  ·have hi':i<len:=by rw [hfl] at hi;exact hi
   obtain ⟨ha,hbl,q0,q1,q2,q3,s1,s2⟩:=hf i hi';have e:((List.range len).map f)[i]=f i:=by simp
   rw [e];exact ⟨a.block,a.off,by rw [<- ha],hbl,q0,q1,q2,q3,s1,s2⟩
end
end Go.Proofs.YtknakfpciccoaaaGreatDoor
