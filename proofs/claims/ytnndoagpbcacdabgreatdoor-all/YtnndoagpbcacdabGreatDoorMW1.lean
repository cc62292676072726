import Derived.Test.YtnndoagpbcacdabGreatDoorMD0
import Derived.Deep.RegionWith
namespace Go.Proofs.YtnndoagpbcacdabGreatDoor
set_option maxHeartbeats 8000000
open Go.RowKit
def pA (nf ar inn num:Int) (a:Int×Int):Bool:=
 if a.1=1 then decide (0<=a.2) && decide (a.2<=999999) else if a.1=2 then decide (0<=a.2) && decide (a.2<ar) else if a.1=3 then decide (0<=a.2) && decide (a.2<nf) else if a.1=4 then decide (0<=a.2) && decide (a.2<=4) else if a.1=5 then decide (num<=a.2) && decide (a.2<inn) else false
theorem BR (nf:Nat) (ar:Int) (nl j:Nat) (a:Int×Int):pA nf ar ((nl:Int)-1) j a=g7 nf ar nl j a:=by
 obtain ⟨k,n⟩:=a;unfold pA g7 j0;simp only;by_cases h1:k=1
 ·subst h1;simp;rw [fm];simp;omega
 by_cases h2:k=2
 ·subst h2;simp
 by_cases h3:k=3
 ·subst h3;simp
 by_cases h4:k=4
 ·subst h4;simp;rw [fm];simp;omega
 by_cases h5:k=5
 ·subst h5;simp;rw [fm];simp;omega
 simp [h1,h2,h3,h4,h5]
theorem uR (nf ar inn num k n:Int) (w:World):
 Calls Tryz.prog 168 #[.agg #[.int .i64 nf,.int .i64 ar,.int .i64 inn],.int .i64 num,.agg #[.int .i64 k,.int .i64 n]] w fun e w'=>e=.returned (.bool (pA nf ar inn num (k,n)))/\Below w.heap.size w w':=by
 by_cases h1:k=1
 ·subst h1;by_cases p1:0<=n
  ·by_cases p2:n<=999999
   ·have HE:Hid (true=pA nf ar inn num (1,n)):=by simp [Hid,pA,p1,p2]
    go_enter Tryz.func168,Tryz.ntmps168
    go_wp2_with fail
    go_ret
    exact ⟨bL HE.out,((ai _ _).alloc (ah _) _).alloc (by simp) _⟩
   ·have HE:Hid (false=pA nf ar inn num (1,n)):=by simp [Hid,pA];omega
    go_enter Tryz.func168,Tryz.ntmps168
    go_wp2_with fail
    go_ret
    exact ⟨bL HE.out,((ai _ _).alloc (ah _) _).alloc (by simp) _⟩
  ·have HE:Hid (false=pA nf ar inn num (1,n)):=by simp [Hid,pA];omega
   go_enter Tryz.func168,Tryz.ntmps168
   go_wp2_with fail
   go_ret
   exact ⟨bL HE.out,((ai _ _).alloc (ah _) _).alloc (by simp) _⟩
 by_cases h2:k=2
 ·subst h2;by_cases p1:0<=n
  ·by_cases p2:n<ar
   ·have HE:Hid (true=pA nf ar inn num (2,n)):=by simp [Hid,pA,p1,p2]
    go_enter Tryz.func168,Tryz.ntmps168
    go_wp2_with fail
    go_ret
    exact ⟨bL HE.out,((ai _ _).alloc (ah _) _).alloc (by simp) _⟩
   ·have HE:Hid (false=pA nf ar inn num (2,n)):=by simp [Hid,pA];omega
    go_enter Tryz.func168,Tryz.ntmps168
    go_wp2_with fail
    go_ret
    exact ⟨bL HE.out,((ai _ _).alloc (ah _) _).alloc (by simp) _⟩
  ·have HE:Hid (false=pA nf ar inn num (2,n)):=by simp [Hid,pA];omega
   go_enter Tryz.func168,Tryz.ntmps168
   go_wp2_with fail
   go_ret
   exact ⟨bL HE.out,((ai _ _).alloc (ah _) _).alloc (by simp) _⟩
 by_cases h3:k=3
 ·subst h3;by_cases p1:0<=n
  ·by_cases p2:n<nf
   ·have HE:Hid (true=pA nf ar inn num (3,n)):=by simp [Hid,pA,p1,p2]
    go_enter Tryz.func168,Tryz.ntmps168
    go_wp2_with fail
    go_ret
    exact ⟨bL HE.out,((ai _ _).alloc (ah _) _).alloc (by simp) _⟩
   ·have HE:Hid (false=pA nf ar inn num (3,n)):=by simp [Hid,pA];omega
    go_enter Tryz.func168,Tryz.ntmps168
    go_wp2_with fail
    go_ret
    exact ⟨bL HE.out,((ai _ _).alloc (ah _) _).alloc (by simp) _⟩
  ·have HE:Hid (false=pA nf ar inn num (3,n)):=by simp [Hid,pA];omega
   go_enter Tryz.func168,Tryz.ntmps168
   go_wp2_with fail
   go_ret
   exact ⟨bL HE.out,((ai _ _).alloc (ah _) _).alloc (by simp) _⟩
 by_cases h4:k=4
 ·subst h4;by_cases p1:0<=n
  ·by_cases p2:n<=4
   ·have HE:Hid (true=pA nf ar inn num (4,n)):=by simp [Hid,pA,p1,p2]
    go_enter Tryz.func168,Tryz.ntmps168
    go_wp2_with fail
    go_ret
    exact ⟨bL HE.out,((ai _ _).alloc (ah _) _).alloc (by simp) _⟩
   ·have HE:Hid (false=pA nf ar inn num (4,n)):=by simp [Hid,pA];omega
    go_enter Tryz.func168,Tryz.ntmps168
    go_wp2_with fail
    go_ret
    exact ⟨bL HE.out,((ai _ _).alloc (ah _) _).alloc (by simp) _⟩
  ·have HE:Hid (false=pA nf ar inn num (4,n)):=by simp [Hid,pA];omega
   go_enter Tryz.func168,Tryz.ntmps168
   go_wp2_with fail
   go_ret
   exact ⟨bL HE.out,((ai _ _).alloc (ah _) _).alloc (by simp) _⟩
 by_cases h5:k=5
 ·subst h5;by_cases p1:num<=n
  ·by_cases p2:n<inn
   ·have HE:Hid (true=pA nf ar inn num (5,n)):=by simp [Hid,pA,p1,p2]
    go_enter Tryz.func168,Tryz.ntmps168
    go_wp2_with fail
    go_ret
    exact ⟨bL HE.out,((ai _ _).alloc (ah _) _).alloc (by simp) _⟩
   ·have HE:Hid (false=pA nf ar inn num (5,n)):=by simp [Hid,pA];omega
    go_enter Tryz.func168,Tryz.ntmps168
    go_wp2_with fail
    go_ret
    exact ⟨bL HE.out,((ai _ _).alloc (ah _) _).alloc (by simp) _⟩
  ·have HE:Hid (false=pA nf ar inn num (5,n)):=by simp [Hid,pA];omega
   go_enter Tryz.func168,Tryz.ntmps168
   go_wp2_with fail
   go_ret
   exact ⟨bL HE.out,((ai _ _).alloc (ah _) _).alloc (by simp) _⟩
 have HE:Hid (false=pA nf ar inn num (k,n)):=by simp [Hid,pA,h1,h2,h3,h4,h5]
 have g1:(k==1)=false:=by simpa using h1
 have g2:(k==2)=false:=by simpa using h2
 have g3:(k==3)=false:=by simpa using h3
 have g4:(k==4)=false:=by simpa using h4
 have g5:(k==5)=false:=by simpa using h5
 go_enter Tryz.func168,Tryz.ntmps168
 go_wp2_with fail
 go_ret
 exact ⟨bL HE.out,((ai _ _).alloc (ah _) _).alloc (by simp) _⟩
set_option maxRecDepth 100000
def ms (nf:Nat) (ar:Int) (nl j:Nat) (l:Ln) (i:Nat):Bool:=(decide (0<i)||decide ((l[0]?.getD (0,0)).1≠5)) && (l.drop i).all (g7 nf ar nl j)
theorem uL (nf:Nat) (ar:Int) (nl j:Nat) (l:Ln) (i:Nat) (h:i<l.length) (h0:i=0->l[i].1≠5):ms nf ar nl j l i=(g7 nf ar nl j l[i] && ms nf ar nl j l (i+1)):=by
 unfold ms;rw [IJ _ l i h];by_cases hi:i=0
 ·subst hi;simp [List.getElem?_eq_getElem h,h0 rfl]
 ·simp [show 0<i by omega]
theorem uM (nf:Nat) (ar:Int) (nl j:Nat) (l:Ln) (h:0<l.length) (h0:l[0].1=5):ms nf ar nl j l 0=false:=by
 unfold ms;simp [List.getElem?_eq_getElem h,h0]
theorem DO (nf:Nat) (ar:Int) (nl j:Nat) (l:Ln) (h1:(if j=0 then 1 else 2)<=l.length) (h8:l.length<=8):fy nf ar nl j l=ms nf ar nl j l 0:=by
 have h2:1<=l.length:=by split at h1<;>omega
 have h3:(decide (0<j) && decide (l.length<2))=false:=by
  by_cases hj:j=0
  ·simp [hj]
  ·rw [ay hj] at h1;simp;omega
 unfold fy ms;rw [h3];simp [h8,h2]
theorem Hw (nf:Nat) (ar:Int) (nl j:Nat) (l:Ln) (h:l.length<(if j=0 then 1 else 2)\/8<l.length):fy nf ar nl j l=false:=by
 unfold fy;rcases h with h|h
 ·by_cases hj:j=0
  ·rw [aA hj] at h;simp [show ¬1<=l.length by omega]
  ·rw [ay hj] at h;simp [show 0<j by omega,show l.length<2 by omega]
 ·simp [show ¬l.length<=8 by omega]
theorem uQ (nf:Nat) (ar:Int) (nl j:Nat) (l:Ln) (v:Value) (T:Nat) (w:World) (hT:T<=w.heap.size) (hv:eL w T v l):
 Calls Tryz.prog 129 #[.agg #[.int .i64 nf,.int .i64 ar,.int .i64 ((nl:Int)-1)],.int .i64 j,v] w fun e w'=>e=.returned (.bool (fy nf ar nl j l))/\Below w.heap.size w w':=by
 obtain ⟨ad,cap,rfl,lk,kT,jA⟩:=hv;unfold maxLen at kT;generalize hR:fy nf ar nl j l=R;have HR:Hid (fy nf ar nl j l=R):=hR;clear hR;generalize hI:(nl:Int)-1=inn;have HI:Hid ((nl:Int)-1=inn):=hI;clear hI;have hj:j=0\/0<j:=by omega
 have key:∀(least:Nat),least=(if j=0 then 1 else 2)->least<=l.length->l.length<=8->Hid (ms nf ar nl j l 0=R):=fun least h1 h2 h3=>(DO nf ar nl j l (h1 ▸ h2) h3).symm.trans HR.out
 have bad:∀(least:Nat),least=(if j=0 then 1 else 2)->l.length<least\/8<l.length->Hid (false=R):=fun least h1 h2=>(Hw nf ar nl j l (h1 ▸ h2)).symm.trans HR.out
 clear HR;rcases hj with hj|hj
 ·have sd:(if j=0 then 1 else 2)=1:=aA hj;have key1:=key 1 sd.symm;have bad1:=bad 1 sd.symm;clear sd key bad;have hjj:((j:Int)==0)=true:=by simp [hj]
  have HJ:Hid (j=0):=hj;clear hj;by_cases q1:l.length<1
  ·have HF:=bad1 (.inl q1);go_enter Tryz.func129,Tryz.ntmps129
   go_wp2_with fail
   go_ret
   exact ⟨bL HF.out,(ai _ _).alloc (ah _) _⟩
  have q1':¬(l.length:Int)<1:=by omega
  by_cases q2:8<l.length
  ·have HF:=bad1 (.inr q2);go_enter Tryz.func129,Tryz.ntmps129
   go_wp2_with fail
   go_ret
   exact ⟨bL HF.out,(ai _ _).alloc (ah _) _⟩
  have HK:=key1 (by omega) (by omega);clear key1 bad1;rcases jA with h0|⟨b,off,rfl,gZ,cJ⟩
  ·omega
  go_enter Tryz.func129,Tryz.ntmps129
  go_wp2_with fail
  go_loopw [23] (fun x wr=>∃(i:Nat),i<=l.length/\x=.int .i64 i/\Hid (ms nf ar nl j l i=R)/\Below w.heap.size w wr/\wr.heap[w.heap.size]?=some (.cells #[.int .i64 nf,.int .i64 ar,.int .i64 inn] 149 (0,0))) (fun x _=>l.length-(intOf x).toNat)
  case atStart=>exact ⟨0,aF _,rfl,HK,(ai _ _).alloc (ah _) _,az w _⟩
  case round=>
   obtain ⟨i,hi,rfl,HG,hb,wQ⟩:=hrel;have dk:=hb.size;have fG:w.heap.size<wr.heap.size:=(ae.1 wQ).1;by_cases bF:i<l.length
   ·have S0:=al wr w.heap.size 0 _ _ _ wQ;have S1:=al wr w.heap.size 1 _ _ _ wQ;have S2:=al wr w.heap.size 2 _ _ _ wQ;simp only [ax,ap,aq] at S0 S1 S2;obtain ⟨c0,c1⟩:=cJ i bF;rw [<-hb.cell (p:=⟨b,off+i*2,none⟩) (show b<_ by omega)] at c0;rw [<-hb.cell (p:=⟨b,off+i*2+1,none⟩) (show b<_ by omega)] at c1;have HN:Hid (i=0->l[i].1=5->false=R):=fun h0 h5=>by subst h0;rw [<-HG.out];exact (uM nf ar nl j l bF h5).symm
    have HS:Hid ((i=0->l[i].1≠5)->(g7 nf ar nl j l[i] && ms nf ar nl j l (i+1))=R):=fun h=>(uL nf ar nl j l i bF h).symm.trans HG.out
    have HP:Hid (pA nf ar inn j l[i]=g7 nf ar nl j l[i]):=by rw [<-HI.out];exact BR nf ar nl j l[i]
    have HC:Hid _:=fun w=>uR nf ar inn j l[i].1 l[i].2 w
    rw [HP.out] at HC;clear HG;generalize hg:g7 nf ar nl j l[i]=g at*;clear hg;generalize l[i].1=ak at*;generalize l[i].2=av at*;by_cases tv:i=0
    ·have uu:((i:Int)==0)=true:=by simp [tv]
     have HI0:Hid (i=0):=tv;clear tv;by_cases h5:ak=5
     ·have HF:Hid (false=R):=HN.out HI0.out h5;subst h5;go_wp2_with fail
      go_ret
      exact ⟨bL HF.out,hb.alloc hb.size _⟩
     ·have yP:(ak==5)=false:=by simpa using h5
      have rL:Hid _:=HS.out (fun _=>h5);clear HN HS;cases g
      ·have HF:Hid (false=R):=by rw [<-rL.out];rfl
       go_wp2_with fail
       refine (show Calls _ _ _ _ _ from HC.out _).mono ?_
       rintro e w1 ⟨rfl,bB⟩
       go_wp2_with fail
       go_ret
       exact ⟨bL HF.out,(hb.alloc hb.size _).trans (bB.mono (by simp;omega))⟩
      ·have uc:Hid (ms nf ar nl j l (i+1)=R):=by rw [<-rL.out];simp [Hid]
       go_wp2_with fail
       refine (show Calls _ _ _ _ _ from HC.out _).mono ?_
       rintro e w1 ⟨rfl,bB⟩
       go_wp2_with fail
       go_roundw
       case rel=>exact ⟨i+1,bF,by go_num,uc,(hb.alloc hb.size _).trans (bB.mono (by simp;omega)),(bB.block _ (by simp;omega)).trans ((aO wr _ _ fG).trans wQ)⟩
       case measure=>simp [intOf];omega
    ·have uu:((i:Int)==0)=false:=by simp;omega
     have rL:Hid _:=HS.out (fun h=>absurd h tv);clear HN HS tv;cases g
     ·have HF:Hid (false=R):=by rw [<-rL.out];rfl
      go_wp2_with fail
      refine (show Calls _ _ _ _ _ from HC.out _).mono ?_
      rintro e w1 ⟨rfl,bB⟩
      go_wp2_with fail
      go_ret
      exact ⟨bL HF.out,(hb.alloc hb.size _).trans (bB.mono (by simp;omega))⟩
     ·have uc:Hid (ms nf ar nl j l (i+1)=R):=by rw [<-rL.out];simp [Hid]
      go_wp2_with fail
      refine (show Calls _ _ _ _ _ from HC.out _).mono ?_
      rintro e w1 ⟨rfl,bB⟩
      go_wp2_with fail
      go_roundw
      case rel=>exact ⟨i+1,bF,by go_num,uc,(hb.alloc hb.size _).trans (bB.mono (by simp;omega)),(bB.block _ (by simp;omega)).trans ((aO wr _ _ fG).trans wQ)⟩
      case measure=>simp [intOf];omega
   ·have HE:Hid (true=R):=by rw [<-HG.out,show i=l.length by omega];simp [Hid,ms];omega
    go_wp2_with fail
    go_ret
    exact ⟨bL HE.out,hb⟩
 ·have sd:(if j=0 then 1 else 2)=2:=ay (by omega);have key1:=key 2 sd.symm;have bad1:=bad 2 sd.symm;clear sd key bad;have hjj:((j:Int)==0)=false:=by simp;omega
  by_cases q1:l.length<2
  ·have HF:=bad1 (.inl q1);go_enter Tryz.func129,Tryz.ntmps129
   go_wp2_with fail
   go_ret
   exact ⟨bL HF.out,(ai _ _).alloc (ah _) _⟩
  have q1':¬(l.length:Int)<2:=by omega
  by_cases q2:8<l.length
  ·have HF:=bad1 (.inr q2);go_enter Tryz.func129,Tryz.ntmps129
   go_wp2_with fail
   go_ret
   exact ⟨bL HF.out,(ai _ _).alloc (ah _) _⟩
  have HK:=key1 (by omega) (by omega);clear key1 bad1;rcases jA with h0|⟨b,off,rfl,gZ,cJ⟩
  ·omega
  go_enter Tryz.func129,Tryz.ntmps129
  go_wp2_with fail
  go_loopw [23] (fun x wr=>∃(i:Nat),i<=l.length/\x=.int .i64 i/\Hid (ms nf ar nl j l i=R)/\Below w.heap.size w wr/\wr.heap[w.heap.size]?=some (.cells #[.int .i64 nf,.int .i64 ar,.int .i64 inn] 149 (0,0))) (fun x _=>l.length-(intOf x).toNat)
  case atStart=>exact ⟨0,aF _,rfl,HK,(ai _ _).alloc (ah _) _,az w _⟩
  case round=>
   obtain ⟨i,hi,rfl,HG,hb,wQ⟩:=hrel;have dk:=hb.size;have fG:w.heap.size<wr.heap.size:=(ae.1 wQ).1;by_cases bF:i<l.length
   ·have S0:=al wr w.heap.size 0 _ _ _ wQ;have S1:=al wr w.heap.size 1 _ _ _ wQ;have S2:=al wr w.heap.size 2 _ _ _ wQ;simp only [ax,ap,aq] at S0 S1 S2;obtain ⟨c0,c1⟩:=cJ i bF;rw [<-hb.cell (p:=⟨b,off+i*2,none⟩) (show b<_ by omega)] at c0;rw [<-hb.cell (p:=⟨b,off+i*2+1,none⟩) (show b<_ by omega)] at c1;have HN:Hid (i=0->l[i].1=5->false=R):=fun h0 h5=>by subst h0;rw [<-HG.out];exact (uM nf ar nl j l bF h5).symm
    have HS:Hid ((i=0->l[i].1≠5)->(g7 nf ar nl j l[i] && ms nf ar nl j l (i+1))=R):=fun h=>(uL nf ar nl j l i bF h).symm.trans HG.out
    have HP:Hid (pA nf ar inn j l[i]=g7 nf ar nl j l[i]):=by rw [<-HI.out];exact BR nf ar nl j l[i]
    have HC:Hid _:=fun w=>uR nf ar inn j l[i].1 l[i].2 w
    rw [HP.out] at HC;clear HG;generalize hg:g7 nf ar nl j l[i]=g at*;clear hg;generalize l[i].1=ak at*;generalize l[i].2=av at*;by_cases tv:i=0
    ·have uu:((i:Int)==0)=true:=by simp [tv]
     have HI0:Hid (i=0):=tv;clear tv;by_cases h5:ak=5
     ·have HF:Hid (false=R):=HN.out HI0.out h5;subst h5;go_wp2_with fail
      go_ret
      exact ⟨bL HF.out,hb.alloc hb.size _⟩
     ·have yP:(ak==5)=false:=by simpa using h5
      have rL:Hid _:=HS.out (fun _=>h5);clear HN HS;cases g
      ·have HF:Hid (false=R):=by rw [<-rL.out];rfl
       go_wp2_with fail
       refine (show Calls _ _ _ _ _ from HC.out _).mono ?_
       rintro e w1 ⟨rfl,bB⟩
       go_wp2_with fail
       go_ret
       exact ⟨bL HF.out,(hb.alloc hb.size _).trans (bB.mono (by simp;omega))⟩
      ·have uc:Hid (ms nf ar nl j l (i+1)=R):=by rw [<-rL.out];simp [Hid]
       go_wp2_with fail
       refine (show Calls _ _ _ _ _ from HC.out _).mono ?_
       rintro e w1 ⟨rfl,bB⟩
       go_wp2_with fail
       go_roundw
       case rel=>exact ⟨i+1,bF,by go_num,uc,(hb.alloc hb.size _).trans (bB.mono (by simp;omega)),(bB.block _ (by simp;omega)).trans ((aO wr _ _ fG).trans wQ)⟩
       case measure=>simp [intOf];omega
    ·have uu:((i:Int)==0)=false:=by simp;omega
     have rL:Hid _:=HS.out (fun h=>absurd h tv);clear HN HS tv;cases g
     ·have HF:Hid (false=R):=by rw [<-rL.out];rfl
      go_wp2_with fail
      refine (show Calls _ _ _ _ _ from HC.out _).mono ?_
      rintro e w1 ⟨rfl,bB⟩
      go_wp2_with fail
      go_ret
      exact ⟨bL HF.out,(hb.alloc hb.size _).trans (bB.mono (by simp;omega))⟩
     ·have uc:Hid (ms nf ar nl j l (i+1)=R):=by rw [<-rL.out];simp [Hid]
      go_wp2_with fail
      refine (show Calls _ _ _ _ _ from HC.out _).mono ?_
      rintro e w1 ⟨rfl,bB⟩
      go_wp2_with fail
      go_roundw
      case rel=>exact ⟨i+1,bF,by go_num,uc,(hb.alloc hb.size _).trans (bB.mono (by simp;omega)),(bB.block _ (by simp;omega)).trans ((aO wr _ _ fG).trans wQ)⟩
      case measure=>simp [intOf];omega
   ·have HE:Hid (true=R):=by rw [<-HG.out,show i=l.length by omega];simp [Hid,ms];omega
    go_wp2_with fail
    go_ret
    exact ⟨bL HE.out,hb⟩
theorem zU (nf:Nat) (ar:Int) (nl:Nat) (L:List Ln) (v:Value) (T:Nat) (w:World) (hT:T<=w.heap.size) (hv:gd w T v L):
 Calls Tryz.prog 87 #[.agg #[.int .i64 nf,.int .i64 ar,.int .i64 ((nl:Int)-1)],v] w fun e w'=>e=.returned (.bool (dM nf ar nl 0 L))/\Below w.heap.size w w':=by
 have Ph:=hv;obtain ⟨ad,cap,rfl,lk,kT,jA⟩:=hv;have Cm:=kT;unfold maxLen at Cm;generalize hR:dM nf ar nl 0 L=R;have HR:Hid (dM nf ar nl 0 (L.drop 0)=R):=hR;clear hR;have HC:Hid (∀(j:Nat) (l:Ln) (v:Value) (w:World),T<=w.heap.size->eL w T v l->Calls Tryz.prog 129 #[.agg #[.int .i64 nf,.int .i64 ar,.int .i64 ((nl:Int)-1)],.int .i64 j,v] w fun e w'=>e=.returned (.bool (fy nf ar nl j l))/\Below w.heap.size w w'):=fun j l v w h1 h2=>uQ nf ar nl j l v T w h1 h2
 generalize hI:(nl:Int)-1=inn at*;clear hI;go_enter Tryz.func87,Tryz.ntmps87
 go_wp2_with fail
 go_loopw [9] (fun x wr=>∃(j:Nat),j<=L.length/\x=.int .i64 j/\Hid (dM nf ar nl j (L.drop j)=R)/\Below w.heap.size w wr/\wr.heap[w.heap.size]?=some (.cells #[.int .i64 nf,.int .i64 ar,.int .i64 inn] 149 (0,0))) (fun x _=>L.length-(intOf x).toNat)
 case atStart=>exact ⟨0,aF _,rfl,HR,(ai _ _).alloc (ah _) _,az w _⟩
 case round=>
  obtain ⟨j,hj,rfl,HG,hb,wQ⟩:=hrel;have dk:=hb.size;have fG:w.heap.size<wr.heap.size:=(ae.1 wQ).1;by_cases bF:j<L.length
  ·have S0:=al wr w.heap.size 0 _ _ _ wQ;have S1:=al wr w.heap.size 1 _ _ _ wQ;have S2:=al wr w.heap.size 2 _ _ _ wQ;simp only [ax,ap,aq] at S0 S1 S2;rcases jA with h0|⟨b,off,rfl,gZ,cJ⟩
   ·omega
   obtain ⟨lv,c0,dt⟩:=cJ j bF;rw [<-hb.cell (p:=⟨b,off+j,none⟩) (show b<_ by omega)] at c0;have HA:Hid (eL wr T lv L[j]):=dt.keep (hb.mono hT);have Hk:=dt;obtain ⟨la,lc,rfl,kV,gS,_⟩:=Hk;unfold maxLen at gS;have HS:Hid ((fy nf ar nl j L[j] && dM nf ar nl (j+1) (L.drop (j+1)))=R):=(yQ nf ar nl L j bF).symm.trans HG.out;have fE:Hid _:=HC.out j L[j] _ wr (by omega) HA.out;clear HG cJ dt HA HC;cases hg:fy nf ar nl j L[j]
   ·have HF:Hid (false=R):=by rw [<-HS.out,hg];rfl
    rw [hg] at fE;clear hg;go_wp2_with fail
    refine (show Calls _ _ _ _ _ from fE.out).mono ?_
    rintro e w1 ⟨rfl,bB⟩
    go_wp2_with fail
    go_ret
    exact ⟨bL HF.out,hb.trans (bB.mono dk)⟩
   ·have uc:Hid (dM nf ar nl (j+1) (L.drop (j+1))=R):=by rw [<-HS.out,hg];simp [Hid]
    rw [hg] at fE;clear hg;go_wp2_with fail
    refine (show Calls _ _ _ _ _ from fE.out).mono ?_
    rintro e w1 ⟨rfl,bB⟩
    go_wp2_with fail
    go_roundw
    case rel=>exact ⟨j+1,bF,by go_num,uc,hb.trans (bB.mono dk),(bB.block _ fG).trans wQ⟩
    case measure=>simp [intOf];omega
  ·have HE:Hid (true=R):=by rw [<-HG.out,bj (by omega)];rfl
   go_wp2_with fail
   go_ret
   exact ⟨bL HE.out,hb⟩
def iX (ar inn:Int) (m:Bool):Bool:=decide (0<=ar) && (decide (ar<=6) && (!(m && decide (0<ar)) && (decide (0<=inn) && decide (inn<=12))))
theorem sS (nf ar inn:Int) (m:Bool) (w:World):
 Calls Tryz.prog 86 #[.agg #[.int .i64 nf,.int .i64 ar,.int .i64 inn],.bool m] w fun e w'=>e=.returned (.bool (iX ar inn m))/\Below w.heap.size w w':=by
 by_cases g1:ar<0
 ·have HF:Hid (false=iX ar inn m):=by simp [Hid,iX];omega
  go_enter Tryz.func86,Tryz.ntmps86
  go_wp2_with fail
  go_ret
  exact ⟨bL HF.out,(ai _ _).alloc (ah _) _⟩
 have g1':decide (ar<0)=false:=by simpa using g1
 by_cases g2:6<ar
 ·have HF:Hid (false=iX ar inn m):=by simp [Hid,iX];omega
  go_enter Tryz.func86,Tryz.ntmps86
  go_wp2_with fail
  go_ret
  exact ⟨bL HF.out,(ai _ _).alloc (ah _) _⟩
 have g2':decide (6<ar)=false:=by simpa using g2
 by_cases g3:m=true/\0<ar
 ·obtain ⟨rfl,g4⟩:=g3;have HF:Hid (false=iX ar inn true):=by simp [Hid,iX];omega
  go_enter Tryz.func86,Tryz.ntmps86
  go_wp2_with fail
  go_ret
  exact ⟨bL HF.out,(ai _ _).alloc (ah _) _⟩
 have HS:Hid (iX ar inn m=(decide (0<=inn) && decide (inn<=12))):=by
  have:(m && decide (0<ar))=false:=by
   cases m
   ·rfl
   ·simp at g3 ⊢;omega
  simp [Hid,iX,this,show 0<=ar by omega,show ar<=6 by omega]
 have gm:m=false\/(m=true/\¬0<ar):=by
  cases m
  ·exact .inl rfl
  ·exact .inr ⟨rfl,fun h=>g3 ⟨rfl,h⟩⟩
 clear g3;rcases gm with rfl|⟨rfl,g4⟩
 all_goals
  by_cases g5:0<=inn
  ·by_cases g6:inn<=12
   ·have HF:Hid (true=(decide (0<=inn) && decide (inn<=12))):=by simp [Hid,g5,g6]
    go_enter Tryz.func86,Tryz.ntmps86
    go_wp2_with fail
    go_ret
    exact ⟨bL (HF.out.trans HS.out.symm),(ai _ _).alloc (ah _) _⟩
   ·have HF:Hid (false=(decide (0<=inn) && decide (inn<=12))):=by simp [Hid,g5,g6]
    go_enter Tryz.func86,Tryz.ntmps86
    go_wp2_with fail
    go_ret
    exact ⟨bL (HF.out.trans HS.out.symm),(ai _ _).alloc (ah _) _⟩
  ·have HF:Hid (false=(decide (0<=inn) && decide (inn<=12))):=by simp [Hid,g5]
   go_enter Tryz.func86,Tryz.ntmps86
   go_wp2_with fail
   go_ret
   exact ⟨bL (HF.out.trans HS.out.symm),(ai _ _).alloc (ah _) _⟩
def gg (mn fn:Int):Bool:=decide (1<=fn) && (decide (fn<=16) && (decide (0<=mn) && decide (mn<fn)))
theorem sU (mn fn:Int) (w:World):
 Calls Tryz.prog 85 #[.int .i64 mn,.int .i64 fn] w fun e w'=>e=.returned (.bool (gg mn fn))/\w'=w:=by
 by_cases g1:fn<1
 ·have HF:Hid (false=gg mn fn):=by simp [Hid,gg];omega
  go_enter Tryz.func85,Tryz.ntmps85
  go_wp2_with fail
  go_ret
  exact ⟨bL HF.out,rfl⟩
 have g1':decide (fn<1)=false:=by simpa using g1
 by_cases g2:16<fn
 ·have HF:Hid (false=gg mn fn):=by simp [Hid,gg];omega
  go_enter Tryz.func85,Tryz.ntmps85
  go_wp2_with fail
  go_ret
  exact ⟨bL HF.out,rfl⟩
 have g2':decide (16<fn)=false:=by simpa using g2
 by_cases g3:0<=mn
 ·by_cases g4:mn<fn
  ·have HF:Hid (true=gg mn fn):=by simp [Hid,gg];omega
   go_enter Tryz.func85,Tryz.ntmps85
   go_wp2_with fail
   go_ret
   exact ⟨bL HF.out,rfl⟩
  ·have HF:Hid (false=gg mn fn):=by simp [Hid,gg];omega
   go_enter Tryz.func85,Tryz.ntmps85
   go_wp2_with fail
   go_ret
   exact ⟨bL HF.out,rfl⟩
 ·have HF:Hid (false=gg mn fn):=by simp [Hid,gg];omega
  go_enter Tryz.func85,Tryz.ntmps85
  go_wp2_with fail
  go_ret
  exact ⟨bL HF.out,rfl⟩
def kM (nf:Nat) (mn:Int):Nat->List Tp->Bool
 |_,[]=>true
 |j,t::r=>iX t.ar ((t.ls.length:Int)-1) ((j:Int)==mn) && (dM nf t.ar t.ls.length 0 t.ls && kM nf mn (j+1) r)
theorem vr (nf:Nat) (mn:Int):∀(r:List Tp) (j:Nat),kM nf mn j r=true↔(∀t∈r,kl nf t=true)/\(∀i (h:i<r.length),((j+i:Nat):Int)=mn->r[i].ar=0)
 |[],j=>by simp [kM]
 |t::r,j=>by
  have ih:=vr nf mn r (j+1);rw [kM,aN,aN,ih];constructor
  ·rintro ⟨h1,h2,h3,h4⟩
   simp only [iX,aN,aL,fW,cC] at h1;refine ⟨?_,?_⟩
   ·intro x hx;rcases aK.1 hx with rfl|hx
    ·simp only [kl,aN,aL];exact ⟨h1.1,h1.2.1,by omega,by omega,h2⟩
    ·exact h3 x hx
   ·intro i hi he;cases i with
    |zero=>
     simp only [bQ];rcases h1.2.2.1 with h|h
     ·simp at h;exact absurd (by simpa using he) h
     ·simp at h;omega
    |succ i=>
     simp only [dJ];exact h4 i (by simpa using hi) (by rw [<-he];congr 1;omega)
  ·rintro ⟨h1,h2⟩
   have ht:=h1 t (by simp);simp only [kl,aN,aL] at ht;refine ⟨?_,ht.2.2.2.2,fun x hx=>h1 x (by simp [hx]),fun i hi he=>?_⟩
   ·simp only [iX,aN,aL,fW,cC];refine ⟨ht.1,ht.2.1,?_,by omega,by omega⟩
    by_cases hm:(j:Int)=mn
    ·right
     have:=h2 0 (by simp) (by simpa using hm);simp only [bQ] at this;simp;omega
    ·left;simpa using hm
   ·have:=h2 (i+1) (by simpa using hi) (by rw [<-he];congr 1;omega);simpa using this
theorem Cq (c:Cd):jK c=(gg c.mn c.fs.length && kM c.fs.length c.mn 0 c.fs):=by
 rw [fm,aN,vr];simp only [jK,gg,aN,aL,b8];constructor
 ·rintro ⟨h1,h2,h3,h4,h5,h6⟩
  refine ⟨⟨by omega,by omega,h3,h4⟩,h5,?_⟩
  intro i hi he;have:c.mn.toNat=i:=by omega
  rw [this,aj hi] at h6;exact h6
 ·rintro ⟨⟨h1,h2,h3,h4⟩,h5,h6⟩
  refine ⟨by omega,by omega,h3,h4,h5,?_⟩
  have hi:c.mn.toNat<c.fs.length:=by omega
  rw [aj hi];exact h6 _ hi (by omega)
theorem Hv (nf:Nat) (mn:Int) (F:List Tp) (j:Nat) (h:j<F.length):kM nf mn j (F.drop j)=(iX F[j].ar ((F[j].ls.length:Int)-1) ((j:Int)==mn) && (dM nf F[j].ar F[j].ls.length 0 F[j].ls && kM nf mn (j+1) (F.drop (j+1)))):=by
 rw [aW h,kM]
theorem gW {w w1:World} {o o2:Obj} (hb:Below ((w.alloc o).alloc o2).heap.size ((w.alloc o).alloc o2) w1):w1.heap[w.heap.size]?=some o/\w1.heap[w.heap.size+1]?=some o2:=by
 refine ⟨(hb.block w.heap.size (by simp;omega)).trans ((aO _ _ _ (by simp)).trans (az w o)),?_⟩
 have:=az (w.alloc o) o2;simp only [bT] at this;exact (hb.block (w.heap.size+1) (by simp)).trans this
theorem Oo (c:Cd) (fv:Value) (T:Nat) (w:World) (hT:T<=w.heap.size) (hf:dS w T fv c.fs):
 Calls Tryz.prog 52 #[.agg #[.int .i64 c.mn,fv]] w fun e w'=>e=.returned (.bool (jK c))/\Below w.heap.size w w':=by
 rw [Cq];obtain ⟨mn,fs⟩:=c;obtain ⟨fo,fcap,wJ,lk,kT,jA⟩:=hf;simp only at*;subst wJ;have Cm:=kT;unfold maxLen at Cm;cases jB:gg mn fs.length
 ·have HB:Hid _:=sU mn fs.length (w.alloc (Obj.cells #[.int .i64 mn,.slice fo fs.length fcap] 63));rw [jB] at HB;clear jB;go_enter Tryz.func52,Tryz.ntmps52
  go_wp2_with fail
  refine (show Calls _ _ _ _ _ from HB.out).mono ?_
  rintro e w1 ⟨rfl,rfl⟩
  go_wp2_with fail
  go_ret
  exact ⟨rfl,(ai _ _).alloc (ah _) _⟩
 have HB:Hid _:=sU mn fs.length (w.alloc (Obj.cells #[.int .i64 mn,.slice fo fs.length fcap] 63));rw [jB] at HB;simp only [gg,aN,aL] at jB;have oS:1<=fs.length:=by omega
 have ahd:fs.length<=16:=by omega
 clear jB;rw [dp];generalize hR:kM fs.length mn 0 fs=R;have HR:Hid (kM fs.length mn 0 (fs.drop 0)=R):=hR;clear hR;rcases jA with h0|⟨b,off,rfl,gZ,cJ⟩
 ·omega
 go_enter Tryz.func52,Tryz.ntmps52
 go_wp2_with fail
 refine (show Calls _ _ _ _ _ from HB.out).mono ?_
 rintro e w1 ⟨rfl,rfl⟩
 clear HB;go_wp2_with fail
 go_loopw [18] (fun x wr=>∃(j:Nat),j<=fs.length/\x=.int .i64 j/\Hid (kM fs.length mn j (fs.drop j)=R)/\Below w.heap.size w wr/\wr.heap[w.heap.size]?=some (.cells #[.int .i64 mn,.slice (some ⟨b,off,none⟩) fs.length fcap] 63 (0,0))) (fun x _=>fs.length-(intOf x).toNat)
 case atStart=>exact ⟨0,aF _,rfl,HR,(ai _ _).alloc (ah _) _,az w _⟩
 case round=>
  obtain ⟨j,hj,rfl,HG,hb,oI⟩:=hrel;have dk:=hb.size;have fG:w.heap.size<wr.heap.size:=(ae.1 oI).1;by_cases bF:j<fs.length
  ·have C0:=al wr w.heap.size 0 _ _ _ oI;have C1:=al wr w.heap.size 1 _ _ _ oI;simp only [ax,ap,aq] at C0 C1;obtain ⟨lv,e0,e1,gV⟩:=cJ j bF;rw [<-hb.cell (p:=⟨b,off+j*2,none⟩) (show b<_ by omega)] at e0;rw [<-hb.cell (p:=⟨b,off+j*2+1,none⟩) (show b<_ by omega)] at e1;have HS:Hid _:=(Hv fs.length mn fs j bF).symm.trans HG.out;have HL:Hid (gd wr T lv fs[j].ls):=gV.keep (hb.mono hT);have Aw:=gV;obtain ⟨la,lc,rfl,kV,gS,_⟩:=Aw;unfold maxLen at gS;have ju:Hid _:=fun w'=>sS fs.length fs[j].ar ((fs[j].ls.length:Int)-1) ((j:Int)==mn) w'
   have En:Hid _:=fun w' (h:Below T wr w') (h2:T<=w'.heap.size)=>zU fs.length fs[j].ar fs[j].ls.length fs[j].ls _ T w' h2 (HL.out.keep h)
   clear HG cJ gV HL;generalize hP:fs[j]=P at*;clear hP;obtain ⟨ar,ls⟩:=P;simp only at*;cases fZ:iX ar ((ls.length:Int)-1) ((j:Int)==mn)
   ·have HF:Hid (false=R):=by rw [<-HS.out,fZ];rfl
    rw [fZ] at ju;clear fZ En;cases Du:((j:Int)==mn)
    ·rw [Du] at ju;have Dt:¬(j:Int)=mn:=by simpa using Du
     go_wp2_with fail
     refine (show Calls _ _ _ _ _ from ju.out _).mono ?_
     rintro e w1 ⟨rfl,bB⟩
     go_wp2_with fail
     go_ret
     exact ⟨bL HF.out,((hb.alloc hb.size _).alloc (by simp;omega) _).trans (bB.mono (by simp;omega))⟩
    ·rw [Du] at ju;have Dt:(j:Int)=mn:=by simpa using Du
     have HJ:Hid ((j:Int)=mn):=Dt;clear Dt;go_wp2_with fail
     refine (show Calls _ _ _ _ _ from ju.out _).mono ?_
     rintro e w1 ⟨rfl,bB⟩
     go_wp2_with fail
     go_ret
     exact ⟨bL HF.out,((hb.alloc hb.size _).alloc (by simp;omega) _).trans (bB.mono (by simp;omega))⟩
   ·rw [fZ] at ju;cases Du:((j:Int)==mn)
    ·rw [Du] at ju;have Dt:¬(j:Int)=mn:=by simpa using Du
     go_wp2_with fail
     refine (show Calls _ _ _ _ _ from ju.out _).mono ?_
     rintro e w1 ⟨rfl,bB⟩
     obtain ⟨x1,x2⟩:=gW bB;have jq:Below w.heap.size w w1:=((hb.alloc hb.size _).alloc (by simp;omega) _).trans (bB.mono (by simp;omega));have QX:=(bB.block w.heap.size (by simp;omega)).trans ((aO _ _ _ (by simp;omega)).trans ((aO wr _ _ fG).trans oI));have ix:Hid _:=En.out w1 ((((ai T wr).alloc (by omega) _).alloc (by simp;omega) _).trans (bB.mono (by simp;omega))) (by have:=jq.size;omega);have y1:=al w1 wr.heap.size 1 _ _ _ x1;have z0:=al w1 (wr.heap.size+1) 0 _ _ _ x2;have z1:=al w1 (wr.heap.size+1) 1 _ _ _ x2;have z2:=al w1 (wr.heap.size+1) 2 _ _ _ x2;simp only [ax,ap,aq] at y1 z0 z1 z2;clear En ju C0 C1 e0 e1;cases hg:dM fs.length ar ls.length 0 ls
     ·have HF:Hid (false=R):=by rw [<-HS.out,fZ,hg];rfl
      rw [hg] at ix;clear hg fZ HS;go_wp2_with fail
      refine (show Calls _ _ _ _ _ from ix.out).mono ?_
      rintro e w2 ⟨rfl,bX⟩
      go_wp2_with fail
      go_ret
      exact ⟨bL HF.out,jq.trans (bX.mono jq.size)⟩
     ·have uc:Hid (kM fs.length mn (j+1) (fs.drop (j+1))=R):=by rw [<-HS.out,fZ,hg];simp [Hid]
      rw [hg] at ix;clear hg fZ HS;go_wp2_with fail
      refine (show Calls _ _ _ _ _ from ix.out).mono ?_
      rintro e w2 ⟨rfl,bX⟩
      go_wp2_with fail
      go_roundw
      case rel=>exact ⟨j+1,bF,by go_num,uc,jq.trans (bX.mono jq.size),(bX.block _ (by have:=bB.size;simp at this;omega)).trans QX⟩
      case measure=>simp [intOf];omega
    ·rw [Du] at ju;go_wp2_with fail
     refine (show Calls _ _ _ _ _ from ju.out _).mono ?_
     rintro e w1 ⟨rfl,bB⟩
     obtain ⟨x1,x2⟩:=gW bB;have jq:Below w.heap.size w w1:=((hb.alloc hb.size _).alloc (by simp;omega) _).trans (bB.mono (by simp;omega));have QX:=(bB.block w.heap.size (by simp;omega)).trans ((aO _ _ _ (by simp;omega)).trans ((aO wr _ _ fG).trans oI));have ix:Hid _:=En.out w1 ((((ai T wr).alloc (by omega) _).alloc (by simp;omega) _).trans (bB.mono (by simp;omega))) (by have:=jq.size;omega);have y1:=al w1 wr.heap.size 1 _ _ _ x1;have z0:=al w1 (wr.heap.size+1) 0 _ _ _ x2;have z1:=al w1 (wr.heap.size+1) 1 _ _ _ x2;have z2:=al w1 (wr.heap.size+1) 2 _ _ _ x2;simp only [ax,ap,aq] at y1 z0 z1 z2;clear En ju C0 C1 e0 e1;cases hg:dM fs.length ar ls.length 0 ls
     ·have HF:Hid (false=R):=by rw [<-HS.out,fZ,hg];rfl
      rw [hg] at ix;clear hg fZ HS;go_wp2_with fail
      refine (show Calls _ _ _ _ _ from ix.out).mono ?_
      rintro e w2 ⟨rfl,bX⟩
      go_wp2_with fail
      go_ret
      exact ⟨bL HF.out,jq.trans (bX.mono jq.size)⟩
     ·have uc:Hid (kM fs.length mn (j+1) (fs.drop (j+1))=R):=by rw [<-HS.out,fZ,hg];simp [Hid]
      rw [hg] at ix;clear hg fZ HS;go_wp2_with fail
      refine (show Calls _ _ _ _ _ from ix.out).mono ?_
      rintro e w2 ⟨rfl,bX⟩
      go_wp2_with fail
      go_roundw
      case rel=>exact ⟨j+1,bF,by go_num,uc,jq.trans (bX.mono jq.size),(bX.block _ (by have:=bB.size;simp at this;omega)).trans QX⟩
      case measure=>simp [intOf];omega
  ·have HE:Hid (true=R):=by rw [<-HG.out,bj (by omega)];rfl
   go_wp2_with fail
   go_ret
   exact ⟨bL HE.out,hb⟩
end Go.Proofs.YtnndoagpbcacdabGreatDoor
