import Derived.Test.YtnndoagpbcacdabGreatDoorMW5
import Derived.Test.YtnndoagpbcacdabGreatDoorMS1
import Derived.Test.YtnndoagpbcacdabGreatDoorMD0
import Derived.Deep.QuietTactic
import Derived.BigQuiet
import Derived.Deep.DeepCutAuto
namespace Go.Proofs.YtnndoagpbcacdabGreatDoor
set_option maxHeartbeats 8000000
open Go.RowKit
theorem Fu (s:ByteArray) (w:World) (hs:s.size<=6) (hd:mB s.data.toList):
 Calls Tryz.prog 83 #[.string s] w fun e w'=>e=.returned (.int .i64 (jW s.data.toList))/\w'=w:=by
 have qm:Hid (s.size=s.data.toList.length):=cg s;go_enter Tryz.func83,Tryz.ntmps83
 go_wp2_with fail
 go_loop [3,4] (fun a b=>∃k:Nat,k<=s.size/\b=.int .i64 k/\a=.int .i64 (jW (s.data.toList.take k))) (fun _ b=>s.size-(intOf b).toNat)
 case atStart=>exact ⟨0,aF _,rfl,rfl⟩
 case round=>
  obtain ⟨k,hk,rfl,rfl⟩:=hrel;by_cases bF:k<s.size
  ·have jk:k<s.data.toList.length:=by rw [<-qm.out];exact bF
   have Nh:=kO s k bF;have jB:=nY s k jk;have EH:=hd _ (aE jk);have bB:48<=bt s k:=by rw [jB];omega
   have bX:bt s k<=57:=by rw [jB];omega
   have hv:=lQ (s.data.toList.take k) (fun c hc=>hd c (cS hc));have Ph:=hv.1;have ry:jW (s.data.toList.take k)<=99999:=by
    have h1:=hv.2;have h2:(s.data.toList.take k).length<=5:=by rw [cF];omega
    have h3:(10:Int)^(s.data.toList.take k).length<=10^5:=by exact_mod_cast dW (by decide) h2
    have h4:(10:Int)^5=100000:=by decide
    omega
   have HN:Hid (jW (s.data.toList.take (k+1))=10*jW (s.data.toList.take k)+(bt s k-48)):=by
    show _=_
    rw [aT jk,lB,jB]
   clear hv jB EH;go_wp2_with fail
   go_round
   case rel=>exact ⟨k+1,bF,by go_num,by rw [HN.out]⟩
   case measure=>simp [intOf];omega
  ·have eh:k=s.size:=by omega
   have HE:Hid (s.data.toList.take k=s.data.toList):=bN (by rw [<-qm.out];omega);rw [HE.out];go_wp2_with fail
   go_ret
   exact ⟨rfl,rfl⟩
def nG (l:List UInt8):Int:=if l==[43] then 0 else if l==[45] then 1 else if l==[42] then 2 else if l==[60] then 3 else 4
theorem N3 (s:ByteArray) (w:World):
 Calls Tryz.prog 84 #[.string s] w fun e w'=>e=.returned (.int .i64 (nG s.toList))/\w'=w:=by
 cases h1:(s.toList==[43])
 ·cases h2:(s.toList==[45])
  ·cases h3:(s.toList==[42])
   ·cases h4:(s.toList==[60])
    ·have HE:Hid ((4:Int)=nG s.toList):=by simp [Hid,nG,h1,h2,h3,h4]
     go_enter Tryz.func84,Tryz.ntmps84
     go_wp2_with fail
     go_ret
     exact ⟨ee HE.out,rfl⟩
    ·have HE:Hid ((3:Int)=nG s.toList):=by simp [Hid,nG,h1,h2,h3,h4]
     go_enter Tryz.func84,Tryz.ntmps84
     go_wp2_with fail
     go_ret
     exact ⟨ee HE.out,rfl⟩
   ·have HE:Hid ((2:Int)=nG s.toList):=by simp [Hid,nG,h1,h2,h3]
    go_enter Tryz.func84,Tryz.ntmps84
    go_wp2_with fail
    go_ret
    exact ⟨ee HE.out,rfl⟩
  ·have HE:Hid ((1:Int)=nG s.toList):=by simp [Hid,nG,h1,h2]
   go_enter Tryz.func84,Tryz.ntmps84
   go_wp2_with fail
   go_ret
   exact ⟨ee HE.out,rfl⟩
 ·have HE:Hid ((0:Int)=nG s.toList):=by simp [Hid,nG,h1]
  go_enter Tryz.func84,Tryz.ntmps84
  go_wp2_with fail
  go_ret
  exact ⟨ee HE.out,rfl⟩
def gN (ps:List Tk) (ds:List Df) (t:Tk):Int×Int:=
 if bf t.txt=2 then (1,jW t.txt.data.toList) else if bf t.txt=3 then (4,nG t.txt.toList) else if 0<=whr ps t.txt then (2,whr ps t.txt) else (3,fnd ds t.txt)
theorem sE {w w1:World} {o o2 o3:Obj} (hb:Below (((w.alloc o).alloc o2).alloc o3).heap.size (((w.alloc o).alloc o2).alloc o3) w1):w1.heap[w.heap.size]?=some o/\w1.heap[w.heap.size+1]?=some o2/\w1.heap[w.heap.size+2]?=some o3:=by
 have h:=gW (w:=w) (o:=o) (o2:=o2) (w1:=(w.alloc o).alloc o2) (ai _ _);refine ⟨(hb.block w.heap.size (by simp;omega)).trans ((aO _ _ _ (by simp;omega)).trans h.1),(hb.block (w.heap.size+1) (by simp)).trans ((aO _ _ _ (by simp)).trans h.2),?_⟩
 have:=az ((w.alloc o).alloc o2) o3;simp only [bT] at this;exact (hb.block (w.heap.size+2) (by simp)).trans this
theorem zL (ds:List Df) (xs:List Value) (lv:Value) (T:Nat) (d:Df) (pv bv:Value) (t:Tk) (w:World) (hl:ds.length<=1000) (oD:d.ps.length<=1000) (hv:DR w lv ds xs T) (hT:T<=w.heap.size) (ew:DOk w T d pv bv)
 (gB:bf t.txt=2->t.txt.size<=6/\mB t.txt.data.toList):
 Calls Tryz.prog 51 #[lv,.agg #[.int .i64 (bf d.name.txt),.int .i64 d.name.pos,.string d.name.txt,pv,bv],.agg #[.int .i64 (bf t.txt),.int .i64 t.pos,.string t.txt]] w fun e w'=>e=.returned (.agg #[.int .i64 (gN d.ps ds t).1,.int .i64 (gN d.ps ds t).2])/\Below w.heap.size w w':=by
 obtain ⟨lo,lcap,rfl⟩:=aU hv.row;obtain ⟨po,pcap,rfl⟩:=aU ew.1;obtain ⟨bo,bcap,rfl⟩:=aU ew.2.1;have df:Below w.heap.size w (((w.alloc (Obj.cells #[.int .i64 (bf d.name.txt),.int .i64 d.name.pos,.string d.name.txt,.slice po d.ps.length pcap,.slice bo d.body.length bcap] 76)).alloc (Obj.cells #[.int .i64 (bf t.txt),.int .i64 t.pos,.string t.txt] 73)).alloc (Obj.cells #[.int .i64 0,.int .i64 0] 99)):=(((ai _ _).alloc (ah _) _).alloc (by simp) _).alloc (by simp;omega) _;by_cases h2:bf t.txt=2
 ·have HK:Hid (gN d.ps ds t=(1,jW t.txt.data.toList)):=by simp [Hid,gN,h2]
  rw [HK.out];obtain ⟨h6,KH⟩:=gB h2;have HC:Hid _:=fun w=>Fu t.txt w h6 KH
  rw [h2];clear gB;go_enter Tryz.func51,Tryz.ntmps51
  go_wp2_with fail
  refine (show Calls _ _ _ _ _ from HC.out _).mono ?_
  rintro e w1 ⟨rfl,rfl⟩
  go_wp2_with fail
  exact aS (v:=.agg #[.int .i64 1,.int .i64 (jW t.txt.data.toList)]) (by simp [results,Tryz.results51,go_sem]) rfl ⟨rfl,(((ai _ _).alloc (ah _) _).alloc (by simp) _).alloc (by simp;omega) _⟩
 by_cases h3:bf t.txt=3
 ·have HK:Hid (gN d.ps ds t=(4,nG t.txt.toList)):=by simp [Hid,gN,h3]
  rw [HK.out];have HC:Hid _:=fun w=>N3 t.txt w
  rw [h3];clear gB;go_enter Tryz.func51,Tryz.ntmps51
  go_wp2_with fail
  refine (show Calls _ _ _ _ _ from HC.out _).mono ?_
  rintro e w1 ⟨rfl,rfl⟩
  go_wp2_with fail
  exact aS (v:=.agg #[.int .i64 4,.int .i64 (nG t.txt.toList)]) (by simp [results,Tryz.results51,go_sem]) rfl ⟨rfl,(((ai _ _).alloc (ah _) _).alloc (by simp) _).alloc (by simp;omega) _⟩
 have zr:(bf t.txt==2)=false:=by simpa using h2
 have WK:(bf t.txt==3)=false:=by simpa using h3
 have HP:Hid _:=iI _ d.ps t.txt _ (by omega) (aQ ew.1 df);by_cases h4:0<=whr d.ps t.txt
 ·have HK:Hid (gN d.ps ds t=(2,whr d.ps t.txt)):=by simp [Hid,gN,h2,h3,h4]
  rw [HK.out];go_enter Tryz.func51,Tryz.ntmps51
  go_wp2_with fail
  refine (show Calls _ _ _ _ _ from HP.out).mono ?_
  rintro e w1 ⟨rfl,bB⟩
  obtain ⟨x1,x2,x3⟩:=sE bB;have y0:=al w1 (w.heap.size+2) 0 _ _ _ x3;have y1:=al w1 (w.heap.size+2) 1 _ _ _ x3;simp only [ax,ap,aq] at y0 y1;have q0:(w1.setCell ⟨w.heap.size+1+1,0,none⟩ (.int .i64 2)).cell? ⟨w.heap.size+1+1,0,none⟩=some (.int .i64 2):=by rw [al _ _ _ _ _ _ (bk _ x3)];rfl
  have q1:((w1.setCell ⟨w.heap.size+1+1,0,none⟩ (.int .i64 2)).setCell ⟨w.heap.size+1+1,1,none⟩ (.int .i64 (whr d.ps t.txt))).cell? ⟨w.heap.size+1+1,1,none⟩=some (.int .i64 (whr d.ps t.txt)):=by rw [al _ _ _ _ _ _ (bk _ (bk _ x3))];rfl
  have f0:=aG w1 (w.heap.size+2) 0 _ _ x3;have f1:=aG w1 (w.heap.size+2) 1 _ _ x3;go_wp2_with fail
  exact aS (v:=.agg #[.int .i64 2,.int .i64 (whr d.ps t.txt)]) (by simp [results,Tryz.results51,go_sem,q0,q1]) rfl ⟨rfl,((df.trans (bB.mono df.size)).setCell (by show _<=w.heap.size+1+1;omega) _).setCell (by show _<=w.heap.size+1+1;omega) _⟩
 ·have HK:Hid (gN d.ps ds t=(3,fnd ds t.txt)):=by simp [Hid,gN,h2,h3,h4]
  rw [HK.out];have Nl:decide (0<=whr d.ps t.txt)=false:=by simpa using h4
  go_enter Tryz.func51,Tryz.ntmps51
  go_wp2_with fail
  refine (show Calls _ _ _ _ _ from HP.out).mono ?_
  rintro e w1 ⟨rfl,bB⟩
  obtain ⟨x1,x2,x3⟩:=sE bB;have kH:=df.trans (bB.mono df.size);have z2:=al w1 (w.heap.size+1) 2 _ _ _ x2;simp only [ax,ap,aq] at z2;have HF:Hid _:=ig _ ds xs T t.txt w1 (by omega) (hv.old hT kH) (aJ hT kH.size);have iG:=(ae.1 x3).1;go_wp2_with fail
  refine (show Calls _ _ _ _ _ from HF.out).mono ?_
  rintro e w2 ⟨rfl,bX⟩
  have x4:=(bX.block (w.heap.size+2) iG).trans x3;have y0:=al w2 (w.heap.size+2) 0 _ _ _ x4;have y1:=al w2 (w.heap.size+2) 1 _ _ _ x4;simp only [ax,ap,aq] at y0 y1;have q0:(w2.setCell ⟨w.heap.size+1+1,0,none⟩ (.int .i64 3)).cell? ⟨w.heap.size+1+1,0,none⟩=some (.int .i64 3):=by rw [al _ _ _ _ _ _ (bk _ x4)];rfl
  have q1:((w2.setCell ⟨w.heap.size+1+1,0,none⟩ (.int .i64 3)).setCell ⟨w.heap.size+1+1,1,none⟩ (.int .i64 (fnd ds t.txt))).cell? ⟨w.heap.size+1+1,1,none⟩=some (.int .i64 (fnd ds t.txt)):=by rw [al _ _ _ _ _ _ (bk _ (bk _ x4))];rfl
  have f0:=aG w2 (w.heap.size+2) 0 _ _ x4;have f1:=aG w2 (w.heap.size+2) 1 _ _ x4;clear z2;go_wp2_with fail
  exact aS (v:=.agg #[.int .i64 3,.int .i64 (fnd ds t.txt)]) (by simp [results,Tryz.results51,go_sem,q0,q1]) rfl ⟨rfl,((kH.trans (bX.mono kH.size)).setCell (by show _<=w.heap.size+1+1;omega) _).setCell (by show _<=w.heap.size+1+1;omega) _⟩
def zW (l:List Nat):List Value:=l.map fun (n:Nat)=>.int .i64 (n:Int)
theorem xU (l:List Nat) (n:Nat):zW (l++[n])=zW l++[.int .i64 n]:=by simp [zW]
structure Lay (w:World) (b:Nat) (lv ov:Value) (L:List Ln) (vs:List Value) (op:List Nat):Prop where
 box:w.heap[b]?=some (.cells #[lv,ov] 107 (0,0))
 lrow:w.ownsRow (b+1) 100 1 lv L.length vs
 orow:w.ownsRow (b+1) 3 1 ov op.length (zW op)
 rows:∀j (h:j<L.length),∃v,vs[j]?=some v/\w.ownsRow (b+1) 99 2 v L[j].length (acs L[j])
 ne:∀(i j:Nat) (vi vj:Value) (k:Nat),i≠j->vs[i]?=some vi->vs[j]?=some vj->vi.ownBlock=some k->vj.ownBlock≠some k
 lt:∀n∈op,n<L.length
theorem Lay.len {w:World} {b:Nat} {lv ov:Value} {L:List Ln} {vs:List Value} {op:List Nat} (h:Lay w b lv ov L vs op):vs.length=L.length:=by have:=h.lrow.1;simpa using this
theorem Lay.blt {w:World} {b:Nat} {lv ov:Value} {L:List Ln} {vs:List Value} {op:List Nat} (h:Lay w b lv ov L vs op):b<w.heap.size:=(ae.1 h.box).1
theorem Lay.old {w w':World} {b:Nat} {lv ov:Value} {L:List Ln} {vs:List Value} {op:List Nat} (h:Lay w b lv ov L vs op) (hb:Below w.heap.size w w'):Lay w' b lv ov L vs op:=
 ⟨(hb.block b h.blt).trans h.box,aQ h.lrow hb,aQ h.orow hb,fun j hj=>by obtain ⟨v,h1,h2⟩:=h.rows j hj;exact ⟨v,h1,aQ h2 hb⟩,h.ne,h.lt⟩
theorem Lay.alloc {w:World} {b:Nat} {lv ov:Value} {L:List Ln} {vs:List Value} {op:List Nat} (h:Lay w b lv ov L vs op) (o:Obj):Lay (w.alloc o) b lv ov L vs op:=h.old ((ai _ _).alloc (ah _) _)
theorem Lay.drew {w:World} {b:Nat} {lv ov:Value} {L:List Ln} {vs:List Value} {op:List Nat} (h:Lay w b lv ov L vs op):Lay w.drew b lv ov L vs op:=h.old (aR (ai _ _))
theorem Lay.pushO {w w2:World} {b n:Nat} {lv ov nv:Value} {L:List Ln} {vs:List Value} {op:List Nat} (h:Lay w b lv ov L vs op) (_hn:n<L.length+1)
 (hown:w2.ownsRow (b+1) 3 1 nv (op.length+1) (zW op++[.int .i64 n])) (bD:w.grownBy w2 ov.ownBlock):
 w2.heap[b]?=some (.cells #[lv,ov] 107 (0,0))/\Below b w w2/\((w2.setCell ⟨b,1,none⟩ nv).heap[b]?=some (.cells #[lv,nv] 107 (0,0))/\(w2.setCell ⟨b,1,none⟩ nv).ownsRow (b+1) 100 1 lv L.length vs/\(w2.setCell ⟨b,1,none⟩ nv).ownsRow (b+1) 3 1 nv (op++[n]).length (zW (op++[n]))/\(∀j (h:j<L.length),∃v,vs[j]?=some v/\(w2.setCell ⟨b,1,none⟩ nv).ownsRow (b+1) 99 2 v L[j].length (acs L[j]))):=by
 have bX:=br h.orow bD (by decide) h.box;refine ⟨bX,(ai b w).grown bD (iq h.blt) (fun k hk=>by have:=(h.orow.lt k hk).1;omega),bk _ bX,aB (aY h.orow bD (by decide) h.lrow) bX (by decide),?_,?_⟩
 ·rw [xU,au];exact aB hown bX (by decide)
 ·intro j hj;obtain ⟨v,h1,h2⟩:=h.rows j hj;exact ⟨v,h1,aB (aY h.orow bD (by decide) h2) bX (by decide)⟩
theorem Lay.pushL {w w2:World} {b:Nat} {lv ov nv:Value} {L:List Ln} {vs:List Value} {op:List Nat}
 (ef:w.heap[b]?=some (.cells #[lv,ov] 107 (0,0))) (hl:w.ownsRow (b+1) 100 1 lv L.length vs) (ho:w.ownsRow (b+1) 3 1 ov op.length (zW op)) (hr:∀j (h:j<L.length),∃v,vs[j]?=some v/\w.ownsRow (b+1) 99 2 v L[j].length (acs L[j]))
 (dI:∀(i j:Nat) (vi vj:Value) (k:Nat),i≠j->vs[i]?=some vi->vs[j]?=some vj->vi.ownBlock=some k->vj.ownBlock≠some k) (bF:∀n∈op,n<L.length+1)
 (hown:w2.ownsRow (b+1) 100 1 nv (L.length+1) (vs++[.slice none 0 0])) (bD:w.grownBy w2 lv.ownBlock):
 w2.heap[b]?=some (.cells #[lv,ov] 107 (0,0))/\Below b w w2/\Lay (w2.setCell ⟨b,0,none⟩ nv) b nv ov (L++[[]]) (vs++[.slice none 0 0]) op:=by
 have bX:=br hl bD (by decide) ef;have qh:vs.length=L.length:=by have:=hl.1;simpa using this
 have iB:b<w.heap.size:=(ae.1 ef).1;refine ⟨bX,(ai b w).grown bD (iq iB) (fun k hk=>by have:=(hl.lt k hk).1;omega),bk _ bX,?_,aB (aY hl bD (by decide) ho) bX (by decide),?_,?_,fun n hn=>by rw [au];exact bF n hn⟩
 ·rw [au];exact aB hown bX (by decide)
 ·intro j hj;rw [au] at hj;simp only [aD,bp] at hj;by_cases dG:j<L.length
  ·obtain ⟨v,h1,h2⟩:=hr j dG;refine ⟨v,by rw [aI (by omega)];exact h1,?_⟩
   rw [dd dG];exact aB (aY hl bD (by decide) h2) bX (by decide)
  ·have e:j=L.length:=by omega
   subst e;refine ⟨.slice none 0 0,by rw [aC (by omega)];simp [qh],?_⟩
   rw [cN (ah _)];simp only [ct,bQ];exact aM _ _ _ _
 ·intro i j vi vj k xr h1 h2 h3;have nil:∀(m:Nat) (v:Value),(vs++[Value.slice none 0 0])[m]?=some v->vs[m]?=some v\/v.ownBlock=none:=by
   intro m v hm;by_cases yx:m<vs.length
   ·left;rw [aI yx] at hm;exact hm
   ·right
    rw [aC (by omega)] at hm;cases hd:m-vs.length with
    |zero=>rw [hd] at hm;simp at hm;subst hm;rfl
    |succ q=>rw [hd] at hm;simp at hm
  rcases nil i vi h1 with nO|nO
  ·rcases nil j vj h2 with zr|zr
   ·exact dI i j vi vj k xr nO zr h3
   ·rw [zr];simp
  ·rw [nO] at h3;cases h3
theorem Lay.pushA {w w2:World} {b n q cap g cap2 H:Nat} {ov v:Value} {L:List Ln} {vs:List Value} {op:List Nat} {a:Int×Int} (h:Lay w b (.slice (some ⟨q,0,none⟩) L.length cap) ov L vs op) (hn:n<L.length) (hv:vs[n]?=some v)
 (hown:w2.ownsRow (b+1) 99 2 (.slice (some ⟨g,0,none⟩) (L[n].length+1) cap2) (L[n].length+1) (acs L[n]++[.int .i64 a.1,.int .i64 a.2])) (bD:w.grownBy w2 v.ownBlock) (dt:v.ownBlock=some g\/g=H) (hH:w.heap.size=H):
 Below b w w2/\w2.ownsRow (b+1) 100 1 (.slice (some ⟨q,0,none⟩) L.length cap) L.length vs/\w2.heap[b]?=some (.cells #[.slice (some ⟨q,0,none⟩) L.length cap,ov] 107 (0,0))/\Lay (w2.setCell ⟨q,n,none⟩ (.slice (some ⟨g,0,none⟩) (L[n].length+1) cap2)) b (.slice (some ⟨q,0,none⟩) L.length cap) ov (L.set n (L[n]++[a])) (vs.set n (.slice (some ⟨g,0,none⟩) (L[n].length+1) cap2)) op:=by
 obtain ⟨v',hv',bW⟩:=h.rows n hn;rw [hv] at hv';cases hv'
 have gS:=aY bW bD (by decide) h.lrow;have mT:=aY bW bD (by decide) h.orow;have bX:=br bW bD (by decide) h.box;have aa7:Below b w w2:=(ai b w).grown bD (iq h.blt) (fun k hk=>by have:=(bW.lt k hk).1;omega);obtain ⟨q',cap',hq,vg,dX⟩:=gS.form (by omega);cases hq
 have Gx:∃cs,w2.heap[q]?=some (.cells cs 100 (0,0)):=by
  rcases gS.2 with ⟨h0,_⟩|⟨g',cap',cur,h0,hg,hh,_⟩
  ·cases h0
  ·cases h0;exact ⟨cur,hh⟩
 obtain ⟨cs,Jb⟩:=Gx;have ZM:b≠q:=by have:=(gS.lt q rfl).1;omega
 refine ⟨aa7,gS,bX,?_,?_,aB mT Jb (by decide),?_,?_,fun m hm=>by rw [bJ];exact h.lt m hm⟩
 ·rw [bi _ ZM];exact bX
 ·rw [bJ];exact i8 _ gS
 ·intro j hj;have Qg:j<L.length:=by rw [bJ] at hj;exact hj
  by_cases Dt:j=n
  ·subst Dt;refine ⟨_,bR (by rw [h.len];exact Qg),?_⟩
   rw [List.getElem_set_self,au,jF];exact aB hown Jb (by decide)
  ·obtain ⟨u,h1,h2⟩:=h.rows j Qg;refine ⟨u,by rw [b9 (by omega)];exact h1,?_⟩
   rw [List.getElem_set_ne (by omega)];refine aB (h2.kept bD ?_) Jb (by decide)
   cases hq:u.ownBlock with
   |none=>exact .inl rfl
   |some k=>right;intro e;exact h.ne j n u v k Dt h1 hv hq e.symm
 ·intro i j vi vj k xr h1 h2 h3 h4;by_cases hi:i=n
  ·subst hi;rw [bR (by rw [h.len];exact hn)] at h1;rw [b9 (by omega)] at h2;cases h1
   simp only [Value.ownBlock,Option.some.injEq] at h3;subst h3;rcases dt with dt|dt
   ·exact h.ne i j v vj _ xr hv h2 dt h4
   ·have dG:j<L.length:=by rw [<-h.len];exact (aP.1 h2).1
    obtain ⟨u,e1,e2⟩:=h.rows j dG;rw [h2] at e1;cases e1
    have:=(e2.lt _ h4).2;omega
  ·rw [b9 (by omega)] at h1;by_cases hj:j=n
   ·subst hj;rw [bR (by rw [h.len];exact hn)] at h2;cases h2
    simp only [Value.ownBlock,Option.some.injEq] at h4;subst h4;rcases dt with dt|dt
    ·exact h.ne i j vi v _ xr h1 hv h3 dt
    ·have ly:i<L.length:=by rw [<-h.len];exact (aP.1 h1).1
     obtain ⟨u,e1,e2⟩:=h.rows i ly;rw [h1] at e1;cases e1
     have:=(e2.lt _ h3).2;omega
   ·rw [b9 (by omega)] at h2;exact h.ne i j vi vj k xr h1 h2 h3 h4
set_option maxRecDepth 100000
theorem uK (b:Nat) (lv ov:Value) (L:List Ln) (vs:List Value) (op:List Nat) (w:World) (h:Lay w b lv ov L vs op) (hL:L.length<=2000) (ho:op.length<=2000):
 Calls Tryz.prog 47 #[.pointer (some ⟨b,0,none⟩)] w fun e w'=>(∃v,e=.returned v)/\Below b w w'/\∃lv' ov',Lay w' b lv' ov' (L++[[]]) (vs++[.slice none 0 0]) (op++[L.length]):=by
 obtain ⟨i,hi,fp,dQ,eF⟩:=bE Tryz.infoInt;obtain ⟨i2,lj,I4,Ca,B9⟩:=bE Tryz.infoLine;obtain ⟨lo,lcap,rfl⟩:=aU h.lrow;obtain ⟨oo,ocap,rfl⟩:=aU h.orow;have c0:=al w b 0 _ _ _ h.box;have c1:=al w b 1 _ _ _ h.box;simp only [ax,ap,aq] at c0 c1;have f1:=aG w b 1 _ _ h.box;have iB:=h.blt;go_enter Tryz.func47,Tryz.ntmps47
 go_wp2_with fail
 go_region_law ((refine step_append_lies _ (by rfl) _ _ _ (by rfl) (b+1) 3 i _ 1 8 Tryz.underlying22 hi fp dQ eF rfl (by omega) (.slice oo op.length ocap) op.length (zW op) (by rfl) (by exact World.ownsRow.drew (h.orow.alloc _)) _ 1 _ [.int .i64 L.length] (by rfl) rfl (by exact World.news_of_block (az w _)) (by simp [Value.oneCell']) (by omega) (by unfold maxLen;omega) (by omega) (by simp;omega) _ rfl ?_;intro q cap w2 b7 bD dt cV;have RW:Hid _:=Lay.pushO ((h.alloc _).drew) (n:=L.length) (eM _) b7 bD;have c1b:=al w2 b 1 _ _ _ RW.out.1;simp only [ax,ap,aq] at c1b;have f1b:=aG w2 b 1 _ _ RW.out.1;clear dt cV bD b7))
 all_goals
  obtain ⟨bX,Ni,Ng,zo,PJ,ld⟩:=RW.out;clear RW c0 c1 f1 c1b f1b;have tn:b<w2.heap.size:=(ae.1 bX).1;have c0:=al _ b 0 _ _ _ Ng;simp only [ax,aq] at c0;have HB:Hid _:=Ni;have IT:Hid _:=h.ne;have Xr:Hid _:=h.lt;have HW:Hid (w2.heap.size=(w2.setCell ⟨b,1,none⟩ (.slice (some ⟨q,0,none⟩) (op.length+1) cap)).heap.size):=by simp [Hid,World.setCell]
  generalize kB:w2.setCell ⟨b,1,none⟩ (.slice (some ⟨q,0,none⟩) (op.length+1) cap)=w3 at*;have lu:Hid (Below b w w3):=by rw [<-kB];exact ((aR ((ai b w).alloc (iq iB) _)).trans HB.out).setCell (ah _) _
  clear kB Ni HB bX;have rA:=HW.out;clear HW;go_wp2_with (at_builtin;go_must (refine wpList_append_lies _ rfl _ _ _ rfl (b+1) 100 i2 _ 1 24 Tryz.underlying56 lj I4 Ca B9 rfl (by omega) (.slice lo L.length lcap) L.length vs rfl ?hown _ 1 _ [.slice none 0 0] rfl rfl ?dA ?h1 (by omega) ?kj ?cP ?cX _ rfl ?_))
  case hown=>exact zo.alloc _
  case dA=>exact World.news_of_block (az w3 _)
  case h1=>simp [Value.oneCell']
  case kj=>unfold maxLen;omega
  case cP=>omega
  case cX=>simp;omega
  intro g2 cap2 w4 jy ga yN yy;have hA:∀o,Below b w3 (w3.alloc o):=fun o=>(ai b w3).alloc (by omega) o
  obtain ⟨dU,Hg,ut⟩:=Lay.pushL (w:=w3.alloc _) ((aO w3 _ b (by omega)).trans Ng) (zo.alloc _) (PJ.alloc _) (fun j hj=>by obtain ⟨v,e1,e2⟩:=ld j hj;exact ⟨v,e1,e2.alloc _⟩) IT.out (fun n hn=>by rcases be.1 hn with hn|hn;exact Nat.lt_succ_of_lt (Xr.out n hn);simp at hn;omega) jy ga;have c0b:=al w4 b 0 _ _ _ dU;simp only [ax,aq] at c0b;have f0b:=aG w4 b 0 _ _ dU;go_wp2_with fail
  refine bH (v:=.tuple #[]) (by simp [results,Tryz.results47,go_sem]) rfl ⟨⟨_,rfl⟩,?_,_,_,ut⟩
  exact (lu.out.trans ((hA _).trans Hg)).setCell (ah _) _
theorem JC (b:Nat) (lv ov:Value) (L:List Ln) (vs:List Value) (op:List Nat) (w:World) (h:Lay w b lv ov L vs op) (ho:op.length<=2000):
 Calls Tryz.prog 50 #[.pointer (some ⟨b,0,none⟩)] w fun e w'=>(∃v,e=.returned v)/\Below b w w'/\∃ov',Lay w' b lv ov' L vs op.dropLast:=by
 obtain ⟨oo,ocap,rfl⟩:=aU h.orow;have c1:=al w b 1 _ _ _ h.box;simp only [ax,ap,aq] at c1;have f1:=aG w b 1 _ _ h.box;have iB:=h.blt;by_cases h0:op.length=0
 ·have vq:op=[]:=ch.1 h0;have hcz:¬(0:Int)<=(op.length:Int)-1:=by omega
  have aho:decide ((0:Int)<=(op.length:Int)-1)=false:=by simpa using hcz
  have HE:Hid (op.dropLast=op):=by rw [vq];exact rfl
  clear h0 vq;go_enter Tryz.func50,Tryz.ntmps50
  go_wp2_with fail
  refine bH (v:=.tuple #[]) (by simp [results,Tryz.results50,go_sem]) rfl ⟨⟨_,rfl⟩,ai _ _,.slice oo op.length ocap,?_⟩
  rw [HE.out];exact h
 ·obtain ⟨q,cap',hq,_,dX⟩:=h.orow.form (by omega);cases hq
  have jb:=fY h.orow;obtain ⟨m,hm⟩:∃m:Nat,op.length=m+1:=⟨op.length-1,by omega⟩;have HD:Hid (zW op.dropLast=(zW op).take m/\op.dropLast.length=m):=by
   refine ⟨?_,by rw [List.length_dropLast];omega⟩
   unfold zW;rw [List.dropLast_eq_take,dY,hm];rfl
  have HR:Hid (w.ownsRow (b+1) 3 1 (.slice (some ⟨q,0,none⟩) m ocap) m (zW op.dropLast)):=by
   have:=mK h.orow (m:=m) (by omega);rw [HD.out.1];rw [iW] at this;exact this
  rw [hm] at c1 jb;have HL:Hid (∀n∈op.dropLast,n<L.length):=fun n hn=>h.lt n (List.dropLast_subset _ hn)
  have gK:m<=2000:=by omega
  clear hm h0;go_enter Tryz.func50,Tryz.ntmps50
  go_wp2_with fail
  refine bH (v:=.tuple #[]) (by simp [results,Tryz.results50,go_sem]) rfl ⟨⟨_,rfl⟩,?_,.slice (some ⟨q,0,none⟩) m ocap,?_⟩
  ·exact (ai b w).setCell (by exact ah b) _
  ·refine ⟨bk _ h.box,aB h.lrow h.box (by decide),?_,fun j hj=>?_,h.ne,HL.out⟩
   ·rw [HD.out.2];exact aB HR.out h.box (by decide)
   ·obtain ⟨v,e1,e2⟩:=h.rows j hj;exact ⟨v,e1,aB e2 h.box (by decide)⟩
theorem Oq (op:List Nat) (n:Nat):(zW (op++[n]))[op.length]?=some (.int .i64 n):=by
 rw [xU,aC (by simp [zW])];simp [zW]
theorem Ot (w:World) (o o2:Obj) (k:Nat):(((w.alloc o).drewN k).alloc o2).heap[w.heap.size+1]?=some o2:=by
 have e:((w.alloc o).drewN k).heap.size=w.heap.size+1:=by show (w.alloc o).heap.size=_;simp
 rw [<-e];exact az _ _
theorem nz {w:World} {base:Nat} {e:TypeId} {size n q m cap:Nat} {xs:List Value} (h:w.ownsRow base e size (.slice (some ⟨q,0,none⟩) m cap) n xs) (i:Nat):w.frozen? ⟨q,i,none⟩=false:=by
 rcases h.2 with ⟨h0,_⟩|⟨g',cap',cur,h0,hg,hh,_⟩
 ·cases h0
 ·cases h0;exact aG w q i _ _ hh
theorem afP (b:Nat) (lv ov:Value) (L:List Ln) (vs:List Value) (op:List Nat) (n:Nat) (a:Int×Int) (w:World) (h:Lay w b lv ov L vs (op++[n])) (hn:n<L.length) (hL:L.length<=2000) (ho:op.length<=2000) (hl:L[n].length<=2000):
 Calls Tryz.prog 49 #[.pointer (some ⟨b,0,none⟩),.agg #[.int .i64 a.1,.int .i64 a.2]] w fun e w'=>(∃v,e=.returned v)/\Below b w w'/\∃vs',Lay w' b lv ov (L.set n (L[n]++[a])) vs' (op++[n]):=by
 obtain ⟨i,hi,fp,dQ,eF⟩:=bE Tryz.infoAtom;obtain ⟨lo,lcap,rfl⟩:=aU h.lrow;obtain ⟨oo,ocap,rfl⟩:=aU h.orow;have ZW:(op++[n]).length=op.length+1:=by simp
 obtain ⟨q,cap',hq,vg,dX⟩:=h.lrow.form (by omega);cases hq
 obtain ⟨qo,cap',hq,ZI,adV⟩:=h.orow.form (by omega);cases hq
 have c0:=al w b 0 _ _ _ h.box;have c1:=al w b 1 _ _ _ h.box;simp only [ax,ap,aq] at c0 c1;have HOC:Hid _:=aH h.orow op.length _ (Oq op n);obtain ⟨v,hv,bW⟩:=h.rows n hn;have HVC:Hid _:=aH h.lrow n _ hv;have iB:=h.blt;rw [ZW] at c1;obtain ⟨vo,vcap,rfl⟩:=aU bW;obtain ⟨a1,a2⟩:=a;simp only at*;have k0:w.cell? ⟨qo,op.length,none⟩=some (.int .i64 n):=HOC.out;have k1:w.cell? ⟨q,n,none⟩=some (.slice vo L[n].length vcap):=HVC.out;clear HOC HVC;go_enter Tryz.func49,Tryz.ntmps49
 go_wp2_with fail
 have g0:decide ((op.length:Int)<0)=false:=by simp
 have g1:decide ((L.length:Int)<=(n:Int))=false:=by simp;omega
 have g1n:¬(L.length:Int)<=(n:Int):=by omega
 go_quiet (fail)
 go_wp2_with fail
 have HQ:Hid (Lay (((w.alloc (Obj.cells #[.int .i64 a1,.int .i64 a2] 99)).drewN (nq+1)).alloc (Obj.cells #[.int .i64 a1,.int .i64 a2] 99)) b (.slice (some ⟨q,0,none⟩) L.length lcap) (.slice (some ⟨qo,0,none⟩) (op++[n]).length ocap) L vs (op++[n])):=((h.alloc _).old (bY (ai _ _) _)).alloc _;have rx:Hid _:=Ot w (Obj.cells #[.int .i64 a1,.int .i64 a2] 99) (Obj.cells #[.int .i64 a1,.int .i64 a2] 99) (nq+1);have Ee:Hid _:=(aQ (bW.alloc (Obj.cells #[.int .i64 a1,.int .i64 a2] 99)) (bY (ai _ _) (nq+1))).alloc (Obj.cells #[.int .i64 a1,.int .i64 a2] 99);have Bu:Hid (Below b w (((w.alloc (Obj.cells #[.int .i64 a1,.int .i64 a2] 99)).drewN (nq+1)).alloc (Obj.cells #[.int .i64 a1,.int .i64 a2] 99))):=(bY ((ai b w).alloc (iq iB) _) _).alloc (by show b<=(w.alloc _).heap.size;simp;omega) _;have HV:Hid _:=hv
 go_region_law ((refine step_append_lies _ (by rfl) _ _ _ (by rfl) (b+1) 99 i _ 2 16 Tryz.underlying100 hi fp dQ eF rfl (by omega) (.slice vo L[n].length vcap) L[n].length (acs L[n]) (by rfl) (by exact Ee.out) _ 1 _ [.int .i64 a1,.int .i64 a2] (by rfl) rfl (by exact World.news_of_block rx.out) (by simp [Value.oneCell']) (by omega) (by unfold maxLen;omega) (by omega) (by simp;omega) _ rfl ?_;intro g cap2 w2 b7 bD dt cV;have xh:Hid _:=Lay.pushA (a:=(a1,a2)) HQ.out hn HV.out b7 bD dt rfl;have kc:=aH xh.out.2.1 n _ HV.out;have kf:=nz xh.out.2.1 n;have kb:=al w2 b 0 _ _ _ xh.out.2.2.1;simp only [ax,aq] at kb;clear b7 bD dt cV))
 all_goals
  refine bH (v:=.tuple #[]) (by simp [results,Tryz.results49,go_sem]) rfl ⟨⟨_,rfl⟩,?_,_,xh.out.2.2.2⟩
  exact (Bu.out.trans xh.out.1).setCell (by show b<=q;omega) _
theorem N2 (b:Nat) (lv ov:Value) (L:List Ln) (vs:List Value) (a:Int×Int) (w:World) (h:Lay w b lv ov L vs []):
 Calls Tryz.prog 49 #[.pointer (some ⟨b,0,none⟩),.agg #[.int .i64 a.1,.int .i64 a.2]] w fun e w'=>(∃v,e=.returned v)/\Below b w w'/\Lay w' b lv ov L vs []:=by
 obtain ⟨oo,ocap,rfl⟩:=aU h.orow;have c1:=al w b 1 _ _ _ h.box;simp only [ax,ap,aq,bp] at c1;have iB:=h.blt;go_enter Tryz.func49,Tryz.ntmps49
 go_wp2_with fail
 go_quiet (fail)
 go_wp2_with fail
 refine aS (v:=.tuple #[]) (by simp [results,Tryz.results49,go_sem]) rfl ?_
 exact ⟨⟨_,rfl⟩,bY ((ai b w).alloc (iq iB) _) _,(h.alloc _).old (bY (ai _ _) _)⟩
theorem Tryz.infoItem:(Tryz.prog.info? 90).map (fun i=>(i.zero,i.size,i.bytes))=some (some (.agg #[.int .i64 0,.int .i64 0]),2,16):=by kernel_rfl
theorem Tryz.infoFrame:(Tryz.prog.info? 164).map (fun i=>(i.zero,i.size,i.bytes))=some (some (.agg #[.int .i64 0,.int .i64 0,.int .i64 0,.int .i64 0,.int .i64 0]),5,40):=by kernel_rfl
theorem Tryz.infoNode:(Tryz.prog.info? 161).map (fun i=>(i.zero,i.size,i.bytes))=some (some (.agg #[.slice none 0 0,.bool false]),2,32):=by kernel_rfl
section
variable {w w' w2:World} {B mb:Nat} {fv:Value} {c:Cf} {s:Ms} {K:Nat->Prop} {sv rv nv ev:Value} {vs:List Value}
theorem MSt.c0 (h:MSt w B mb fv c s K sv rv nv ev vs):w.cell? ⟨mb,0,none⟩=some fv:=by rw [al w mb 0 _ _ _ h.blk];rfl
theorem MSt.c1 (h:MSt w B mb fv c s K sv rv nv ev vs):w.cell? ⟨mb,1,none⟩=some (.int .i64 c.bud):=by rw [al w mb 1 _ _ _ h.blk];rfl
theorem MSt.c2 (h:MSt w B mb fv c s K sv rv nv ev vs):w.cell? ⟨mb,2,none⟩=some (.int .i64 c.hp):=by rw [al w mb 2 _ _ _ h.blk];rfl
theorem MSt.c3 (h:MSt w B mb fv c s K sv rv nv ev vs):w.cell? ⟨mb,3,none⟩=some sv:=by rw [al w mb 3 _ _ _ h.blk];rfl
theorem MSt.c4 (h:MSt w B mb fv c s K sv rv nv ev vs):w.cell? ⟨mb,4,none⟩=some rv:=by rw [al w mb 4 _ _ _ h.blk];rfl
theorem MSt.c5 (h:MSt w B mb fv c s K sv rv nv ev vs):w.cell? ⟨mb,5,none⟩=some nv:=by rw [al w mb 5 _ _ _ h.blk];rfl
theorem MSt.c6 (h:MSt w B mb fv c s K sv rv nv ev vs):w.cell? ⟨mb,6,none⟩=some ev:=by rw [al w mb 6 _ _ _ h.blk];rfl
theorem MSt.c7 (h:MSt w B mb fv c s K sv rv nv ev vs):w.cell? ⟨mb,7,none⟩=some (.int .i64 s.stp):=by rw [al w mb 7 _ _ _ h.blk];rfl
theorem MSt.c8 (h:MSt w B mb fv c s K sv rv nv ev vs):w.cell? ⟨mb,8,none⟩=some (.int .i64 s.out):=by rw [al w mb 8 _ _ _ h.blk];rfl
theorem MSt.c9 (h:MSt w B mb fv c s K sv rv nv ev vs):w.cell? ⟨mb,9,none⟩=some (.int .i64 s.val):=by rw [al w mb 9 _ _ _ h.blk];rfl
theorem MSt.fz (h:MSt w B mb fv c s K sv rv nv ev vs) (i:Nat):w.frozen? ⟨mb,i,none⟩=false:=aG w mb i _ _ h.blk
end
theorem qK (f:Fr) (r:List Fr) (i:Nat) (u:Value) (h:(rG f)[i]?=some u):(fcs (f::r).reverse)[r.length*5+i]?=some u:=by
 rw [wX,aC (by rw [qL,cB];omega),qL,cB];rw [show r.length*5+i-r.length*5=i by omega];exact h
theorem IK (x:Int×Int) (r:Ln):(acs (x::r).reverse)[r.length*2]?=some (.int .i64 x.1)/\(acs (x::r).reverse)[r.length*2+1]?=some (.int .i64 x.2):=by
 rw [xf];constructor
 ·rw [aC (by rw [iV,cB];omega),iV,cB,ct];rfl
 ·rw [aC (by rw [iV,cB];omega),iV,cB,show r.length*2+1-r.length*2=1 by omega];rfl
theorem My (w:World) (o o2:Obj):((w.alloc o).alloc o2).drew.heap[w.heap.size+1]?=some o2:=by
 have e:(w.alloc o).heap.size=w.heap.size+1:=by simp
 rw [<-e];exact az _ _
theorem nD (w:World) (o o2:Obj):Below w.heap.size w ((w.alloc o).alloc o2).drew:=aR (((ai _ w).alloc (ah _) _).alloc (by simp) _)
theorem MB (B mb:Nat) (fv:Value) (c:Cf) (s:Ms) (K:Nat->Prop) (sv rv nv ev:Value) (vs:List Value) (w:World) (h:MSt w B mb fv c s K sv rv nv ev vs) (hf:s.frs.length<=1099511627776):
 Calls Tryz.prog 92 #[.pointer (some ⟨mb,0,none⟩)] w fun e w'=>e=.returned (.int .i64 (flr s))/\∃m,w'=w.drewN m:=by
 obtain ⟨ro,rc,rfl⟩:=aU h.rr;have c4:=h.c4;have pK:=h.lt;cases mo:s.frs with
 |nil=>
  rw [mo] at c4;simp only [bp] at c4;have e0:flr s=0:=by unfold flr;rw [mo];rfl
  rw [e0];clear h mo hf e0;go_enter Tryz.func92,Tryz.ntmps92
  go_wp2_with fail
  go_ret
  exact ⟨rfl,0,rfl⟩
 |cons f r=>
  have hl:s.frs.length=r.length+1:=by rw [mo];rfl
  obtain ⟨q,cap',hq,_,dX⟩:=h.rr.form (by omega);cases hq
  have k1:=aH h.rr (r.length*5+1) (.int .i64 (f.h:Int)) (by rw [mo];exact qK f r 1 _ rfl);have e0:flr s=f.h:=by unfold flr;rw [mo];rfl
  rw [e0];rw [hl] at c4 hf;have g1:((r.length:Int)+1==0)=false:=by simp;omega
  have g2:¬(r.length:Int)+1=0:=by omega
  clear h mo e0 hl;go_enter Tryz.func92,Tryz.ntmps92
  go_wp2_with fail
  go_quiet (fail)
  go_wp2_with fail
  go_ret
  exact ⟨rfl,_,rfl⟩
theorem Dd (x:Int×Int) (B mb:Nat) (fv:Value) (c:Cf) (s:Ms) (K:Nat->Prop) (w:World) (h:MP w B mb fv c s K) (hl:s.stk.length<=1099511627776):
 Calls Tryz.prog 30 #[.pointer (some ⟨mb,0,none⟩),.agg #[.int .i64 x.1,.int .i64 x.2]] w fun e w'=>(∃v,e=.returned v)/\Below B w w'/\dm K w w'/\MP w' B mb fv c (lT x s) K:=by
 obtain ⟨sv,rv,nv,ev,vs,h⟩:=h;obtain ⟨i,hi,fp,dQ,eF⟩:=bE Tryz.infoItem;obtain ⟨so,sc,rfl⟩:=aU h.rs;have c3:=h.c3;have pK:=h.lt;have jN:=h.lo;have HM:Hid (∀w',Below w.heap.size w w'->MSt w' B mb fv c s K (.slice so s.stk.length sc) rv nv ev vs):=fun w' hb=>h.old hb
 obtain ⟨x1,x2⟩:=x;clear h;go_enter Tryz.func30,Tryz.ntmps30
 go_wp2_with fail
 have HA:Hid _:=nD w (Obj.cells #[.int .i64 x1,.int .i64 x2] 90) (Obj.cells #[.int .i64 x1,.int .i64 x2] 90);have HN:Hid _:=My w (Obj.cells #[.int .i64 x1,.int .i64 x2] 90) (Obj.cells #[.int .i64 x1,.int .i64 x2] 90)
 go_region_law ((refine step_append_lies _ (by rfl) _ _ _ (by rfl) B 90 i _ 2 16 Tryz.underlying83 hi fp dQ eF rfl (by omega) (.slice so s.stk.length sc) s.stk.length (acs s.stk.reverse) (by rfl) (by exact (HM.out _ HA.out).rs) _ 1 _ [.int .i64 x1,.int .i64 x2] (by rfl) rfl (by exact World.news_of_block HN.out) (by simp [Value.oneCell']) (by omega) (by unfold maxLen;omega) (by omega) (by have:=HA.out.size;omega) _ rfl ?_;intro g cap2 w2 b7 bD dt cV;have xh:Hid _:=MSt.pushS (x:=(x1,x2)) (HM.out _ HA.out) b7 bD dt;have kb:=al w2 mb 3 _ _ _ (br (HM.out _ HA.out).rs bD (by decide) (HM.out _ HA.out).blk);simp only [ax,ap,aq] at kb;have kf:=aG w2 mb 3 _ _ (br (HM.out _ HA.out).rs bD (by decide) (HM.out _ HA.out).blk);clear b7 bD dt cV))
 all_goals
  refine bH (v:=.tuple #[]) (by simp [results,Tryz.results30,go_sem]) rfl ⟨⟨_,rfl⟩,(HA.out.mono (by omega)).trans xh.out.1,(dm.old HA.out).trans xh.out.2.1 HA.out.size,_,_,_,_,_,xh.out.2.2⟩
end Go.Proofs.YtnndoagpbcacdabGreatDoor
