import Derived.Test.YtnndoagpbcacdabGreatDoorLiftBase
import Derived.Test.YtnndoagpbcacdabGreatDoorMF9
import Derived.ProofKit
import Derived.OpenShut
import Derived.ShutString
import Derived.ChangeOld
import Derived.Below
import Derived.Deep.Slices
import Derived.Lib.SmallJoins
namespace Go.Proofs.YtnndoagpbcacdabGreatDoor
open Go.ChangeShapes Go.WideShapes Go.ChangeAt Go.RowKit
theorem Tryz.cellsOp:Tryz.prog.cellsOf 65=6:=by kernel_rfl
theorem Tryz.cellsInt:Tryz.prog.cellsOf 3=1:=by kernel_rfl
theorem Tryz.cellsStr:Tryz.prog.cellsOf 9=1:=by kernel_rfl
theorem Tryz.cellsCode:Tryz.prog.cellsOf 63=2:=by kernel_rfl
theorem Tryz.cellsFuns:Tryz.prog.cellsOf 61=1:=by kernel_rfl
section
variable {H:Type} {enc:TypeId×Value->H}
theorem Fh {l:List Value} (h:l.length=6):∃a b c d e f,l=[a,b,c,d,e,f]:=by
 match l,h with
 |[a,b,c,d,e,f],_=>exact ⟨a,b,c,d,e,f,rfl⟩
theorem su {b off i:Nat}:((⟨b,off,none⟩:Addr).add i)=⟨b,off+i,none⟩:=by
 unfold Addr.add;split<;>simp_all
theorem TP {W:World} {base fuel:Nat} {spare:Nat->Bool} {lZ:Bool} {a:Option Addr} {len cap:Nat} {x:DataW H×List MemPlace}
 (h:DataW.trod enc Tryz.prog W base spare lZ fuel 40 [.slice a len cap]=some x):LP W a len cap:=by
 rcases Deep.open_slice Tryz.underlying40 h with ⟨jA,_⟩|⟨ad,l,c,m,n,D,Pl,jA,hb,hl,hm,yw,_,hx⟩
 ·simp at jA;exact .inl jA.2.1
 ·simp at jA;obtain ⟨rfl,rfl,rfl⟩:=jA;by_cases h0:len=0
  ·exact .inl h0
  ·right
   have P8:len<=m:=by rw [yw];split<;>omega
   rw [Tryz.cellsOp] at hx;obtain ⟨b,off,spot⟩:=ad;have Zz:spot=none/\b<W.heap.size:=by
    obtain ⟨cs',h1,h2⟩:=hx 0 (by omega);obtain ⟨_,ez,cJ⟩:=World.cells?_some h1;have h3:=cJ 0 (by omega);obtain ⟨v0,v1,v2,v3,v4,v5,rfl⟩:=Fh ez;have h4:W.cell? ⟨b,off,spot⟩=some v0:=by simpa [Addr.add] using h3
    exact ⟨World.cell?_spot h4,World.block_lt_of_cell? W _ h4⟩
   obtain ⟨rfl,iB⟩:=Zz;refine ⟨b,off,rfl,iB,hl,hm,?_⟩
   intro i hi;obtain ⟨cs',h1,h2⟩:=hx i (by omega);obtain ⟨_,ez,cJ⟩:=World.cells?_some h1;obtain ⟨v0,v1,v2,v3,v4,v5,rfl⟩:=Fh ez;rw [su] at cJ;have e0:=cJ 0 (by omega);have e1:=cJ 1 (by omega);have e2:=cJ 2 (by omega);have e3:=cJ 3 (by omega);have e4:=cJ 4 (by omega);have e5:=cJ 5 (by omega);simp only [su,cy,aq,ap] at e0 e1 e2 e3 e4 e5;obtain ⟨ys,kf,_,_,_,Zj,hf⟩:=DataW.trod_struct Tryz.underlying65 h2;have g0:DataW.trod enc Tryz.prog W base spare lZ kf 3 (([v0,v1,v2,v3,v4,v5].drop 0).take (Tryz.prog.cellsOf 3))=ys[0]?:=hf 0 _ rfl;have g1:DataW.trod enc Tryz.prog W base spare lZ kf 3 (([v0,v1,v2,v3,v4,v5].drop 1).take (Tryz.prog.cellsOf 3))=ys[1]?:=hf 1 _ rfl;have g2:DataW.trod enc Tryz.prog W base spare lZ kf 3 (([v0,v1,v2,v3,v4,v5].drop 2).take (Tryz.prog.cellsOf 3))=ys[2]?:=hf 2 _ rfl;have g3:DataW.trod enc Tryz.prog W base spare lZ kf 9 (([v0,v1,v2,v3,v4,v5].drop 3).take (Tryz.prog.cellsOf 9))=ys[3]?:=hf 3 _ rfl;have g4:DataW.trod enc Tryz.prog W base spare lZ kf 63 (([v0,v1,v2,v3,v4,v5].drop 4).take (Tryz.prog.cellsOf 63))=ys[4]?:=hf 4 _ rfl;rw [Tryz.cellsInt] at g0 g1 g2;rw [Tryz.cellsStr] at g3;rw [Tryz.cellsCode] at g4;simp only [dw,dg,ei,du] at g0 g1 g2 g3 g4;have hy:∀i,i<5->∃y,ys[i]?=some y:=fun i hi=>⟨ys[i]'(by rw [Zj];exact hi),aj _⟩
   obtain ⟨y0,I4⟩:=hy 0 (by omega);obtain ⟨y1,Ca⟩:=hy 1 (by omega);obtain ⟨y2,B9⟩:=hy 2 (by omega);obtain ⟨y3,hy3⟩:=hy 3 (by omega);obtain ⟨y4,hy4⟩:=hy 4 (by omega);rw [I4] at g0;rw [Ca] at g1;rw [B9] at g2;rw [hy3] at g3;rw [hy4] at g4;obtain ⟨k0,q0,_,_⟩:=DataW.trod_int Tryz.underlying3 g0;obtain ⟨k1,q1,_,_⟩:=DataW.trod_int Tryz.underlying3 g1;obtain ⟨k2,q2,_,_⟩:=DataW.trod_int Tryz.underlying3 g2;obtain ⟨s,q3,_,hs⟩:=DataW.trod_string Tryz.underlying9 g3;obtain ⟨zs,kz,_,_,_,X2,hz⟩:=DataW.trod_struct Tryz.underlying63 g4;have z0:DataW.trod enc Tryz.prog W base spare lZ kz 3 (([v4,v5].drop 0).take (Tryz.prog.cellsOf 3))=zs[0]?:=hz 0 _ rfl;have z1:DataW.trod enc Tryz.prog W base spare lZ kz 61 (([v4,v5].drop 1).take (Tryz.prog.cellsOf 61))=zs[1]?:=hz 1 _ rfl;rw [Tryz.cellsInt] at z0;rw [Tryz.cellsFuns] at z1;simp only [dw,dg,ei,du] at z0 z1;have ME:∀i,i<2->∃y,zs[i]?=some y:=fun i hi=>⟨zs[i]'(by rw [X2];exact hi),aj _⟩
   obtain ⟨u0,Ai⟩:=ME 0 (by omega);obtain ⟨u1,zm⟩:=ME 1 (by omega);rw [Ai] at z0;rw [zm] at z1;obtain ⟨k4,q4,_,_⟩:=DataW.trod_int Tryz.underlying3 z0;obtain ⟨fo,fl,fc,q5⟩:=Joins.slice_form Tryz.underlying61 z1;simp only [List.cons.injEq,kQ] at q0 q1 q2 q3 q4 q5;subst q0 q1 q2 q3 q4 q5;exact ⟨k0,k1,k2,s,k4,fo,fl,fc,hs,e0,e1,e2,e3,e4,e5⟩
end
end Go.Proofs.YtnndoagpbcacdabGreatDoor
