import Derived.Test.YtnndoagpbcacdabGreatDoorLiftCode
import Derived.Test.YtnndoagpbcacdabGreatDoorLiftLaid
import Derived.Test.YtnndoagpbcacdabGreatDoorMZ4
namespace Go.Proofs.YtnndoagpbcacdabGreatDoor
open Go.ChangeShapes Go.WideShapes Go.ChangeAt Go.RowKit
theorem LD {H:Type} (d:DataW H):1<=Rows.uptoBulk d:=by
 cases d with
 |lit l=>cases l<;>simp [Rows.uptoBulk]
 |nil=>simp [Rows.uptoBulk]
 |ptr d=>simp [Rows.uptoBulk]
 |slice elems spare=>simp [Rows.uptoBulk]
 |agg parts=>simp [Rows.uptoBulk]
 |iface t d=>simp [Rows.uptoBulk]
 |map entries=>simp [Rows.uptoBulk]
 |held h=>simp [Rows.uptoBulk]
theorem tV {H:Type} {d:DataW H} {l:List (DataW H)} (h:d∈l):Rows.uptoBulk d<=Rows.uptoBulkAll l:=by
 induction l with
 |nil=>cases h
 |cons x r ih=>
  simp only [Rows.uptoBulkAll];cases aK.1 h with
  |inl e=>subst e;omega
  |inr e=>have:=ih e;omega
theorem LE {H:Type} (l:List (DataW H)):l.length<=Rows.uptoBulkAll l:=by
 induction l with
 |nil=>simp [Rows.uptoBulkAll]
 |cons x r ih=>have:=LD x;simp only [Rows.uptoBulkAll,aD];omega
theorem kr {H:Type} {n:Nat} {D:Nat->DataW H} {sp:List (DataW H)}:n<=Rows.uptoBulk (.slice ((List.range n).map D) sp)/\∀i,i<n->Rows.uptoBulk (D i)<=Rows.uptoBulk (.slice ((List.range n).map D) sp):=by
 have h1:=LE ((List.range n).map D);rw [bK,List.length_range] at h1;simp only [Rows.uptoBulk];refine ⟨by omega,fun i hi=>?_⟩
 have:=tV (d:=D i) (l:=(List.range n).map D) (bZ.2 ⟨i,go.2 hi,rfl⟩);omega
theorem xc {H:Type} {d:DataW H} {l:List (DataW H)} (h:d∈l):Rows.uptoBulk d<=Rows.uptoBulk (.agg l):=by
 have:=tV h;simp only [Rows.uptoBulk];omega
section
variable {H:Type} {enc:TypeId×Value->H} {W:World} {base fuel:Nat} {spare:Nat->Bool} {lZ:Bool}
theorem LF {v:Value} {x:DataW H×List MemPlace} (h:DataW.trod enc Tryz.prog W base spare lZ fuel 100 [v]=some x):∃l:Ln,eL W W.heap.size v l/\l.length<=Rows.uptoBulk x.1:=by
 obtain ⟨l,hl,_⟩:=LG h;refine ⟨l,hl,?_⟩
 obtain ⟨a,cap,rfl,_⟩:=hl;rcases Deep.open_slice Tryz.underlying100 h with ⟨hv,_⟩|⟨a',len,cap',m,n,D,Pl,hv,_,_,_,_,rfl,_⟩
 ·simp at hv;omega
 ·simp at hv;rw [hv.2.1];exact kr.1
theorem J1 {v:Value} {x:DataW H×List MemPlace} (h:DataW.trod enc Tryz.prog W base spare lZ fuel 56 [v]=some x):∃L:List Ln,gd W W.heap.size v L/\L.length<=Rows.uptoBulk x.1/\∀l∈L,l.length<=Rows.uptoBulk x.1:=by
 rcases Deep.open_slice1 Tryz.underlying56 Tryz.cLine h with ⟨hv,_⟩|⟨a,len,cap,m,n,V,D,Pl,hv,_,hl,hm,yw,rfl,hx⟩
 ·simp only [List.cons.injEq,kQ] at hv;exact ⟨[],⟨none,0,hv,ah _,by unfold maxLen;omega,.inl rfl⟩,aF _,fun a ha=>by simp at ha⟩
 simp only [List.cons.injEq,kQ] at hv;have P8:len<=m:=by rw [yw];split<;>omega
 obtain ⟨f,hf⟩:=Deep.choose_lt (α:=Ln) (n:=len) (p:=fun i l=>eL W W.heap.size (V i) l/\l.length<=Rows.uptoBulk (D i)) (fun i hi=>LF (hx i (by omega)).2);have ez:((List.range len).map f).length=len:=by simp
 refine ⟨(List.range len).map f,⟨some a,cap,by rw [ez];exact hv,by rw [ez];exact hl,hm,?_⟩,by rw [ez];exact kr.1,fun q hq=>?_⟩
 ·by_cases h0:len=0
  ·left;rw [ez];exact h0
  ·right
   obtain ⟨c0,_⟩:=hx 0 (by omega);obtain ⟨ha,hb⟩:=Bc c0;refine ⟨a.block,a.off,by rw [<-ha],hb,fun j hj=>?_⟩
   rw [ez] at hj;obtain ⟨c0,_⟩:=hx j (by omega);rw [ha,p7] at c0;simp only [jE,iS];exact ⟨_,c0,(hf j hj).1⟩
 ·obtain ⟨i,hi,rfl⟩:=bZ.1 hq;exact aJ (hf i (go.1 hi)).2 (kr.2 i (go.1 hi))
theorem Ri {v:Value} {x:DataW H×List MemPlace} (h:DataW.trod enc Tryz.prog W base spare lZ fuel 61 [v]=some x):∃F:List Tp,dS W W.heap.size v F/\F.length<=Rows.uptoBulk x.1/\∀t∈F,t.ls.length<=Rows.uptoBulk x.1/\∀l∈t.ls,l.length<=Rows.uptoBulk x.1:=by
 rcases Deep.open_slice_pairs Tryz.underlying61 Tryz.underlying79 Tryz.cTemplate rfl rfl Tryz.cInt Tryz.cLines h with ⟨hv,_⟩|⟨a,len,cap,m,n,V0,V1,D0,D1,P0,P1,hv,_,hl,hm,yw,rfl,hx⟩
 ·simp only [List.cons.injEq,kQ] at hv;exact ⟨[],⟨none,0,hv,ah _,by unfold maxLen;omega,.inl rfl⟩,aF _,fun a ha=>by simp at ha⟩
 simp only [List.cons.injEq,kQ] at hv;have P8:len<=m:=by rw [yw];split<;>omega
 haveI:Inhabited Tp:=⟨⟨0,[]⟩⟩
 obtain ⟨f,hf⟩:=Deep.choose_lt (α:=Tp) (n:=len) (p:=fun i t=>V0 i=.int .i64 t.ar/\gd W W.heap.size (V1 i) t.ls/\t.ls.length<=Rows.uptoBulk (D1 i)/\∀l∈t.ls,l.length<=Rows.uptoBulk (D1 i)) (fun i hi=>by
  obtain ⟨_,_,g0,g1⟩:=hx i (by omega);obtain ⟨n0,e0,w0⟩:=Gb g0;obtain ⟨L,e1,w1⟩:=J1 g1;exact ⟨⟨n0,L⟩,e0,e1,w1⟩)
 have ez:((List.range len).map f).length=len:=by simp
 refine ⟨(List.range len).map f,⟨some a,cap,by rw [ez];exact hv,by rw [ez];exact hl,hm,?_⟩,by rw [ez];exact kr.1,fun q hq=>?_⟩
 ·by_cases h0:len=0
  ·left;rw [ez];exact h0
  ·right
   obtain ⟨c0,_,_,_⟩:=hx 0 (by omega);obtain ⟨ha,hb⟩:=Bc c0;refine ⟨a.block,a.off,by rw [<-ha],hb,fun j hj=>?_⟩
   rw [ez] at hj;obtain ⟨c0,c1,_,_⟩:=hx j (by omega);rw [ha,p7] at c0 c1;obtain ⟨e0,e1,_,_⟩:=hf j hj;rw [e0] at c0;simp only [jE,iS];exact ⟨V1 j,c0,by rw [jG];exact c1,e1⟩
 ·obtain ⟨i,hi,rfl⟩:=bZ.1 hq;have pL:=go.1 hi;have hb:Rows.uptoBulk (D1 i)<=Rows.uptoBulk (.slice ((List.range len).map fun i=>.agg [D0 i,D1 i]) ((List.range (m-len)).map fun j=>.agg [D0 (len+j),D1 (len+j)])):=
   aJ (xc (l:=[D0 i,D1 i]) (by simp)) (kr (D:=fun i=>.agg [D0 i,D1 i]).2 i pL)
  obtain ⟨_,_,g1,g2⟩:=hf i pL;exact ⟨aJ g1 hb,fun l hl=>aJ (g2 l hl) hb⟩
theorem TO {a:Option Addr} {len cap:Nat} {x:DataW H×List MemPlace}
 (h:DataW.trod enc Tryz.prog W base spare lZ fuel 40 [.slice a len cap]=some x) (hN:Rows.uptoBulk x.1<=1048576):
 len<=1048576/\∀(b off i:Nat) (c:Int) (fo:Option Addr) (fl fc:Nat),a=some ⟨b,off,none⟩->i<len->W.cell? ⟨b,off+i*6+4,none⟩=some (.int .i64 c)->W.cell? ⟨b,off+i*6+5,none⟩=some (.slice fo fl fc)->∃fs,dS W W.heap.size (.slice fo fl fc) fs/\tZ fs:=by
 rcases Deep.open_slice Tryz.underlying40 h with ⟨jA,_⟩|⟨ad,l,c,m,n,D,Pl,jA,hb,hl,hm,yw,rfl,hx⟩
 ·simp at jA;exact ⟨by omega,fun b off i c fo fl fc ha=>by rw [jA.1] at ha;cases ha⟩
 ·simp at jA;obtain ⟨rfl,rfl,rfl⟩:=jA;have Jj:=kr (n:=len) (D:=D) (sp:=(List.range (m-len)).map fun j=>D (len+j));refine ⟨aJ Jj.1 hN,fun b off i c fo fl fc ha hi h4 h5=>?_⟩
  have P8:len<=m:=by rw [yw];split<;>omega
  obtain rfl:ad=⟨b,off,none⟩:=by simpa using ha
  rw [Tryz.cellsOp] at hx;obtain ⟨cs',h1,h2⟩:=hx i (by omega);obtain ⟨_,ez,cJ⟩:=World.cells?_some h1;obtain ⟨v0,v1,v2,v3,v4,v5,rfl⟩:=Fh ez;rw [su] at cJ;have e5:=cJ 5 (by omega);simp only [su,aq,ap] at e5;rw [h5] at e5;obtain ⟨ys,kf,_,hye,_,Zj,hf⟩:=DataW.trod_struct Tryz.underlying65 h2;have g4:DataW.trod enc Tryz.prog W base spare lZ kf 63 (([v0,v1,v2,v3,v4,v5].drop 4).take (Tryz.prog.cellsOf 63))=ys[4]?:=hf 4 _ rfl;rw [Tryz.cellsCode] at g4;simp only [dw,dg,ei,du] at g4;have Uh:4<ys.length:=by rw [Zj];decide
  rw [aj Uh] at g4;obtain ⟨zs,kz,_,hze,_,X2,hz⟩:=DataW.trod_struct Tryz.underlying63 g4;have z1:DataW.trod enc Tryz.prog W base spare lZ kz 61 (([v4,v5].drop 1).take (Tryz.prog.cellsOf 61))=zs[1]?:=hz 1 _ rfl;rw [Tryz.cellsFuns] at z1;simp only [dw,dg,ei,du] at z1;have Uf:1<zs.length:=by rw [X2];decide
  rw [aj Uf] at z1;have Zo:v5=.slice fo fl fc:=(Option.some.inj e5).symm;subst Zo;obtain ⟨F,hF,f1,f2⟩:=Ri z1;have bB:Rows.uptoBulk zs[1].1<=1048576:=by
   have q1:Rows.uptoBulk zs[1].1<=Rows.uptoBulk ys[4].1:=by
    rw [hze];exact xc (bZ.2 ⟨zs[1],aE Uf,rfl⟩)
   have q2:Rows.uptoBulk ys[4].1<=Rows.uptoBulk (D i):=by
    have he:D i=.agg (ys.map (·.1)):=by have:=congrArg Prod.fst hye;exact this
    rw [he];exact xc (bZ.2 ⟨ys[4],aE Uh,rfl⟩)
   exact aJ q1 (aJ q2 (aJ (Jj.2 i hi) hN))
  exact ⟨F,hF,aJ f1 bB,fun t ht=>⟨aJ (f2 t ht).1 bB,fun l hl=>aJ ((f2 t ht).2 l hl) bB⟩⟩
end
end Go.Proofs.YtnndoagpbcacdabGreatDoor
