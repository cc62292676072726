import Derived.Test.YtnndoagpbcacdabGreatDoorMW5
import Derived.Test.YtnndoagpbcacdabGreatDoorLiftBase
namespace Go.Proofs.YtnndoagpbcacdabGreatDoor
open Go.ChangeShapes Go.WideShapes Go.ChangeAt Go.RowKit
theorem Tryz.gPow:Tryz.prog.globalNamed (Rows.onceRow.named.headD default)=some 0:=BP
theorem Tryz.tPow:(Tryz.prog.globals[0]?).map (·.type)=some 267:=by kernel_rfl
theorem Tg {W:World} (h:laidMetH Tryz.prog Rows.onceRow.laid W):Tab W:=by
 rw [MakeChecks.laidMetH_plain _ _ _ (by kernel_rfl)] at h;obtain ⟨ps,⟨g0,t0,cs0,f0,p0,q0,hg0,X8,Ph,mz,⟨g1,t1,cs1,f1,p1,q1,qX,ul,ry,mu,⟨g2,t2,cs2,f2,p2,q2,qj,Pk,pD,jz,_,_⟩,_⟩,_⟩,_,_⟩:=h;obtain rfl:=Option.some.inj (Tryz.gPow.symm.trans qj);obtain rfl:=Option.some.inj (Tryz.tPow.symm.trans Pk);unfold Tab Lib.TabIs;have hc:cs2.toList=Lib.pow10Tab.map fun z=>Value.int .u64 z:=Lib.cells_of_tab (n:=20) (zs:=Lib.pow10Tab) Tryz.underlying267 Tryz.underlying254 (by kernel_rfl) (by kernel_rfl) jz
 rw [<-hc];exact pD
end Go.Proofs.YtnndoagpbcacdabGreatDoor
