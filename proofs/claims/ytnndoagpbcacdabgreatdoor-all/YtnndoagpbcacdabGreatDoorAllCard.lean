import Derived.Test.YtnndoagpbcacdabGreatDoorML3
import Derived.Test.YtnndoagpbcacdabGreatDoorLiftOps
import Derived.Test.YtnndoagpbcacdabGreatDoorLiftTab
import Derived.Test.YtnndoagpbcacdabGreatDoorLiftBulk
import Derived.Deep.DeepHandedRow
import Derived.Deep.DeepWitnessRowRef
namespace Go.Proofs.YtnndoagpbcacdabGreatDoor
set_option maxRecDepth 100000
open Go.ChangeShapes Go.WideShapes Go.ChangeAt Go.RowKit
theorem II (os:Os) {H:Type} (enc:TypeId×Value->H):∃places,DataW.whole enc Tryz.prog ((World.doorLaid Tryz.prog 400 os).forCall (fun _ _=>0) ⟨#[],#[.slice none 0 0],[]⟩).memory Tryz.f6.params.toList Rows.allSpec.vars false #[Value.slice none 0 0].toList 8=some ([.nil],[],places):=
 ⟨[],by kernel_rfl⟩
theorem Ea (os:Os) (started:os.Started) (H:Type) (enc:TypeId×Value->H) (F:Stop.Interp):
 ReturnsInHanded {} Tryz.checked os 6 .any ((Rows.OpenSpec.upto Rows.allSpec).preRow enc Tryz.prog Tryz.f6 Rows.allUptoRow.domain false Rows.allUptoRow.laid) (((Rows.OpenSpec.upto Rows.allSpec).at F).post enc Tryz.prog Tryz.f6 false true false false):=by
 obtain ⟨places,hx⟩:=II os enc;refine returnsInHanded_of_row (C:=Tryz.checked) (s:=Rows.OpenSpec.upto Rows.allSpec) Tryz.own started (by kernel_rfl) Tryz.func6
  (witness_row_atRef (enc:=enc) (C:=Tryz.checked) false (World.doorLaid Tryz.prog 400 os) #[.slice none 0 0] rfl (by kernel_rfl) (by kernel_rfl) (by kernel_rfl)
   (OpenSpec.preRow_of_cond 8 hx (by kernel_rfl) (fun k hk=>by cases hk;kernel_rfl) (by kernel_rfl) (Li os _))) ?_
 intro W base args ds gs before Cb hW _ VZ _ hL _ _;have Zv:Tab W:=Tg hL;clear hL;have mP:∀(j:Nat) t v,Tryz.f6.params[j]?=some t->args[j]?=some v->Value.okWide Tryz.prog W .any base t v:=Cb;have hW':=hW;obtain ⟨p,q,rg,hV,rfl,hfz,lx⟩:=hW;have hA:DataW.TrodAll enc Tryz.prog W 0 (fun _=>true) true Tryz.f6.params.toList args.toList ds p:=rg;rw [Tryz.params6] at hA mP;obtain ⟨v0,vs0,d0,ds0,p0,q0,aeC,rfl,rfl,h0,r0⟩:=trodAll_cons hA;obtain ⟨rfl,rfl,rfl⟩:=trodAll_nil r0;obtain rfl:args=#[v0]:=by cases args;simp_all
 obtain ⟨rfl,rfl⟩:=trodVars_none hV;obtain ⟨a0,len0,cap0,rfl⟩:=okWide_slice Tryz.underlying40 (mP 0 40 v0 rfl rfl);have k0:=h0;have lt0:∀x∈p0,x.block<W.heap.size:=by obtain ⟨m,hm⟩:=k0;exact DataW.trod_lt m _ _ _ hm
 have Nh:Rows.uptoBulkAll [d0]<=1048576:=by
  have h:=of_decide_eq_true (VZ _ rfl);simpa using h
 have aa6:Rows.uptoBulk d0<=1048576:=by
  have h:=tV (d:=d0) (l:=[d0]) (by simp);omega
 have w0:LP W a0 len0 cap0:=by
  obtain ⟨fuel,hf⟩:=h0;exact TP hf
 have w1:len0<=1048576/\∀(b off i:Nat) (c:Int) (fo:Option Addr) (fl fc:Nat),a0=some ⟨b,off,none⟩->i<len0->W.cell? ⟨b,off+i*6+4,none⟩=some (.int .i64 c)->W.cell? ⟨b,off+i*6+5,none⟩=some (.slice fo fl fc)->∃fs,dS W W.heap.size (.slice fo fl fc) fs/\tZ fs:=by
  obtain ⟨fuel,hf⟩:=h0;exact TO hf aa6
 clear rg Cb;refine (O3 a0 len0 cap0 W w0 w1.1 Zv w1.2).mono fun e W' ⟨he,bel⟩=>?_
 subst he;exact ⟨_,rfl,_,_,_,[],_,[],hW',trodAll_mk1 (shut_bool Tryz.underlying4 _),(trodAll_cons_mk (Below.trod Tryz.laidOut (by kernel_rfl) (of_decide_eq_true (by kernel_rfl)) k0 bel lt0) trodAll_mk0),rfl,bel.frame _,fun h=>by cases h⟩
theorem xe:Rows.AllUptoSaid:=
 OpenClaim.holds_of_cond 6 Tryz.f6 rfl rfl rfl rfl rfl rfl rfl ⟨rfl,rfl,rfl,rfl,rfl⟩ rfl rfl rfl rfl rfl (by kernel_rfl) Tryz.func6 (by kernel_rfl)
  (of_decide_eq_true (by kernel_rfl)) (by unfold Func.isWrapper;first|(rw [aA (by decide+kernel)];kernel_rfl)|(rw [ay (by decide+kernel)];exact ⟨rfl,rfl⟩))
  (fun os started H enc _ F=>by rw [OpenClaim.pre_eq_preRow];exact Ea os started H enc F)
theorem all_holds:Rows.AllUptoCardSaid:=
 Claim7.holds_tied_plain_at .later [] _ _ _ _ xe (fun _ h=>by cases h) (by kernel_rfl) (fun _ h=>by cases h) allUpto_row_tie rfl ⟨rfl,rfl⟩ (by kernel_rfl) rfl
  (fun f fn hf xt=>by
   obtain rfl:f=6:=Option.some.inj ((show Tryz.prog.funcNamed Rows.allUptoRow.func=some 6 by kernel_rfl).symm.trans hf)|>.symm
   obtain rfl:fn=Tryz.f6:=(Option.some.inj (Tryz.func6.symm.trans xt)).symm;exact ⟨by kernel_rfl,fun j t ht=>by
    rw [Tryz.params6] at ht;have hm:t∈[40]:=by simpa using Array.mem_of_getElem? ht
    have ip:([40].all fun u=>!Tryz.prog.wantsStandIn u)=true:=by kernel_rfl
    exact (show Tryz.prog.wantsStandIn t=false by simpa using b8.1 ip t hm)⟩)
  (by kernel_rfl)
#print axioms all_holds
end Go.Proofs.YtnndoagpbcacdabGreatDoor
