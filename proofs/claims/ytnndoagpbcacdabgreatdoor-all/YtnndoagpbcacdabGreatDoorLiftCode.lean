import Derived.Test.YtnndoagpbcacdabGreatDoorMN18
import Derived.ProofKit
import Derived.OpenShut
import Derived.ShutString
import Derived.ChangeOld
import Derived.Below
import Derived.Deep.SlicePairs
import Derived.Lib.SmallJoins
namespace Go.Proofs.YtnndoagpbcacdabGreatDoor
open Go.ChangeShapes Go.WideShapes Go.ChangeAt Go.RowKit
theorem Tryz.cInt:Tryz.prog.cellsOf 3=1:=by kernel_rfl
theorem Tryz.cAtom:Tryz.prog.cellsOf 99=2:=by kernel_rfl
theorem Tryz.cLine:Tryz.prog.cellsOf 100=1:=by kernel_rfl
theorem Tryz.cLines:Tryz.prog.cellsOf 56=1:=by kernel_rfl
theorem Tryz.cTemplate:Tryz.prog.cellsOf 79=2:=by kernel_rfl
section
variable {H:Type} {enc:TypeId×Value->H} {W:World} {base fuel:Nat} {spare:Nat->Bool} {lZ:Bool}
theorem p7 {b off i:Nat}:((⟨b,off,none⟩:Addr).add i)=⟨b,off+i,none⟩:=by
 unfold Addr.add;split<;>simp_all
theorem Bc {a:Addr} {v:Value} (h:W.cell? (a.add 0)=some v):a=⟨a.block,a.off,none⟩/\a.block<W.heap.size:=by
 obtain ⟨b,off,spot⟩:=a;have h1:=World.cell?_spot h;have h2:=World.block_lt_of_cell? W _ h;cases spot with
 |none=>exact ⟨rfl,by simpa [p7] using h2⟩
 |some s=>simp [Addr.add] at h1
theorem YV {n:Int} (h:(Lit.int .i64 n).wf=true):I3 n:=by
 simp only [Lit.wf,aN,aL] at h;have e1:IntKind.min .i64= -9223372036854775808:=by decide
 have e2:IntKind.max .i64=9223372036854775807:=by decide
 rw [e1,e2] at h;exact h
theorem Gb {v:Value} {x:DataW H×List MemPlace} (h:DataW.trod enc Tryz.prog W base spare lZ fuel 3 [v]=some x):∃n,v=.int .i64 n/\I3 n:=by
 obtain ⟨n,q,_,hw⟩:=DataW.trod_int Tryz.underlying3 h;simp only [List.cons.injEq,kQ] at q;exact ⟨n,q,YV hw⟩
theorem LG {v:Value} {x:DataW H×List MemPlace} (h:DataW.trod enc Tryz.prog W base spare lZ fuel 100 [v]=some x):∃l:Ln,eL W W.heap.size v l/\∀a∈l,I3 a.1/\I3 a.2:=by
 rcases Deep.open_slice_pairs Tryz.underlying100 Tryz.underlying99 Tryz.cAtom rfl rfl Tryz.cInt Tryz.cInt h with ⟨hv,_⟩|⟨a,len,cap,m,n,V0,V1,D0,D1,P0,P1,hv,_,hl,hm,yw,_,hx⟩
 ·simp only [List.cons.injEq,kQ] at hv;exact ⟨[],⟨none,0,hv,ah _,by unfold maxLen;omega,.inl rfl⟩,fun a ha=>by simp at ha⟩
 simp only [List.cons.injEq,kQ] at hv;have P8:len<=m:=by rw [yw];split<;>omega
 obtain ⟨f,hf⟩:=Deep.choose_lt (α:=Int×Int) (n:=len) (p:=fun i q=>V0 i=.int .i64 q.1/\V1 i=.int .i64 q.2/\I3 q.1/\I3 q.2) (fun i hi=>by
  obtain ⟨_,_,g0,g1⟩:=hx i (by omega);obtain ⟨n0,e0,w0⟩:=Gb g0;obtain ⟨n1,e1,w1⟩:=Gb g1;exact ⟨(n0,n1),e0,e1,w0,w1⟩)
 have ez:((List.range len).map f).length=len:=by simp
 refine ⟨(List.range len).map f,⟨some a,cap,by rw [ez];exact hv,by rw [ez];exact hl,hm,?_⟩,fun q hq=>?_⟩
 ·by_cases h0:len=0
  ·left;rw [ez];exact h0
  ·right
   obtain ⟨c0,_,_,_⟩:=hx 0 (by omega);obtain ⟨ha,hb⟩:=Bc c0;refine ⟨a.block,a.off,by rw [<-ha],hb,fun j hj=>?_⟩
   rw [ez] at hj;obtain ⟨c0,c1,_,_⟩:=hx j (by omega);rw [ha,p7] at c0 c1;obtain ⟨e0,e1,_,_⟩:=hf j hj;rw [e0] at c0;rw [e1] at c1;simp only [jE,iS];exact ⟨c0,by rw [jG];exact c1⟩
 ·obtain ⟨i,hi,rfl⟩:=bZ.1 hq;exact (hf i (go.1 hi)).2.2
end
end Go.Proofs.YtnndoagpbcacdabGreatDoor
