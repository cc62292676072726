import Derived.Test.YtnndoagpbcacdabGreatDoorMI5
import Derived.Test.YtnndoagpbcacdabGreatDoorMK5
import Derived.Test.YtnndoagpbcacdabGreatDoorMW5
import Derived.Test.YtnndoagpbcacdabGreatDoorMD0
import Derived.Test.YtnndoagpbcacdabGreatDoorMAl
import Derived.Test.YtnndoagpbcacdabGreatDoorMA9
import Derived.Test.YtnndoagpbcacdabGreatDoorMA5
namespace Go.Proofs.YtnndoagpbcacdabGreatDoor
set_option maxHeartbeats 8000000
open Go.RowKit
theorem CE {s x:ByteArray} {cd:Cd} (hc:(chk s).2=0) (QF:dL (eT (ci s 0)).ds=cd) (hg:jK cd=true) (hx:x.data.toList=y8 s) (kA:x.size<=20000):rdC x=some cd/\rdE x=0:=by
 have hl:y8 s=cdL cd:=by unfold y8;rw [aA hc,QF];unfold wrL;rw [aA hg]
 have hr:=tT cd hg x (hx.trans hl);have hb:¬30000<x.size:=by omega
 exact ⟨by rw [rdC,ay hb,hr],by rw [rdE,ay hb,hr];rfl⟩
theorem Ns {s:ByteArray} {cd:Cd} (hc:(chk s).2=0) (QF:dL (eT (ci s 0)).ds=cd) (hg:jK cd=true):xy s=0:=by
 unfold xy;rw [aA hc,QF];unfold wrE;rw [aA hg]
theorem Md (s:ByteArray) (bud:Int) (cd:Cd) (w:World) (hs:s.size<=maxLen) (ht:Tab w) (hc:(chk s).2=0) (QF:dL (eT (ci s 0)).ds=cd) (hg:jK cd=true) (jZ:0<=bud) (bB:bud<=2000):
 Calls Tryz.prog 7 #[.string s,.int .i64 bud] w fun e w'=>e=.returned (.tuple #[.agg #[.int .i64 (mI ⟨cd.fs,bud,24000⟩ cd.mn).out,.int .i64 (mI ⟨cd.fs,bud,24000⟩ cd.mn).val,.int .i64 (mI ⟨cd.fs,bud,24000⟩ cd.mn).stp],.int .i64 0])/\Below w.heap.size w w':=by
 have qZ:Below w.heap.size w (w.alloc (Obj.cells #[.int .i64 0,.int .i64 0,.int .i64 0] 24)):=(ai _ w).alloc (ah _) _;have HC:Hid _:=rU s (w.alloc (Obj.cells #[.int .i64 0,.int .i64 0,.int .i64 0] 24)) hs (ht.below qZ) (fun h=>⟨(jH s h).2.2.2,(jH s h).2.2.1⟩);rw [Ns hc QF hg] at HC;have j7:Hid (∀x:ByteArray,x.data.toList=y8 s->x.size<=20000->rdC x=some cd/\rdE x=0):=fun x hx kA=>CE hc QF hg hx kA
 have HG:Hid _:=hg;generalize fZ:mI ⟨cd.fs,bud,24000⟩ cd.mn=st at*;have Ed:Hid (mI ⟨cd.fs,bud,24000⟩ cd.mn=st):=fZ;clear hc QF hg fZ ht;go_enter Tryz.func7,Tryz.ntmps7
 go_wp2_with fail
 refine (show Calls _ _ _ _ _ from HC.out).mono ?_
 rintro e w1 ⟨x,rfl,hx,kA,eQ⟩
 clear HC;obtain ⟨eu,zn⟩:=j7.out x hx kA;have fE:Hid _:=Y5 x bud 24000 cd w1 (by unfold maxLen;omega) eu zn jZ bB (by omega) (by omega) HG.out;rw [Ed.out] at fE;have qO:Hid (w1.heap[w.heap.size]?=some (Obj.cells #[.int .i64 0,.int .i64 0,.int .i64 0] 24)):=(eQ.block w.heap.size (by simp)).trans (az w _);have eI:Hid (Below w.heap.size w w1):=qZ.trans (eQ.mono (by simp));clear eu zn hx eQ j7 qZ;go_wp2_with fail
 refine (show Calls _ _ _ _ _ from fE.out).mono ?_
 rintro e w2 ⟨rfl,bX⟩
 clear fE;have Et:w.heap.size<w1.heap.size:=(ae.1 qO.out).1;have hX:=(bX.block w.heap.size Et).trans qO.out;have oz:w.heap.size<w2.heap.size:=(ae.1 hX).1;have r0:=al w2 w.heap.size 0 _ _ _ hX;have r1:=al w2 w.heap.size 1 _ _ _ hX;have r2:=al w2 w.heap.size 2 _ _ _ hX;simp only [ax,ap,aq] at r0 r1 r2;have z0:=aG w2 w.heap.size 0 _ _ hX;have z1:=aG w2 w.heap.size 1 _ _ hX;have z2:=aG w2 w.heap.size 2 _ _ hX;have jm:Hid _:=hX;have gj:Hid (Below w.heap.size w w2):=eI.out.trans (bX.mono (by omega));clear hX bX;go_wp2_with fail
 obtain ⟨q0,q1,q2⟩:=gb w2 w.heap.size _ _ _ _ (.int .i64 st.out) (.int .i64 st.val) (.int .i64 st.stp) jm.out;refine aS (v:=.tuple #[.agg #[.int .i64 st.out,.int .i64 st.val,.int .i64 st.stp],.int .i64 0]) (by simp [results,Tryz.results7,go_sem,q0,q1,q2]) rfl ⟨rfl,?_⟩
 exact ((gj.out.setCell (by exact ah _) _).setCell (by exact ah _) _).setCell (by exact ah _) _
def At.isNil:At->Bool
 | .nil=>true
 |_=>false
theorem At.isNil_ne {a:At} (h:a≠.nil):a.isNil=false:=by cases a<;>simp_all [At.isNil]
def unT:At->Nat
 | .nil=>0
 | .sim _ r=>unT r
 | .par _ _ _ ag r=>if ag.isNil then unT r else 1+unT ag+unT r
def gx (f:Tk->Int×Int):At->Nat->Ln
 | .nil,_=>[]
 | .sim t r,k=>f t::gx f r k
 | .par _ h _ ag r,k=>if ag.isNil then f h::gx f r k else (5,(k:Int))::gx f r (k+1+unT ag)
def dC (f:Tk->Int×Int):At->Nat->List Ln
 | .nil,_=>[]
 | .sim _ r,k=>dC f r k
 | .par _ h _ ag r,k=>if ag.isNil then dC f r k else (f h::gx f ag (k+1))::(dC f ag (k+1)++dC f r (k+1+unT ag))
theorem gy (f:Tk->Int×Int) (a:At):∀k,(dC f a k).length=unT a:=by
 induction a with
 |nil=>intro k;rfl
 |sim t r ih=>intro k;exact ih k
 |par o h c ag r ih1 ih2=>
  intro k;by_cases hn:ag.isNil=true
  ·simp [dC,unT,hn,ih2]
  ·simp [dC,unT,hn,ih1,ih2];omega
theorem mJ (c:Int) (w:World):
 Calls Tryz.prog 173 #[.int .u8 c] w fun e w'=>e=.returned (.bool (isL c))/\w'=w:=by
 by_cases h1:97<=c
 ·by_cases h2:c<=122
  all_goals
   go_enter Tryz.func173,Tryz.ntmps173
   go_wp2
   go_ret
   exact ⟨bL (by simp [isL, *]),rfl⟩
 ·go_enter Tryz.func173,Tryz.ntmps173
  go_wp2
  go_ret
  exact ⟨bL (by simp [isL];omega),rfl⟩
theorem pf (c:Int) (w:World):
 Calls Tryz.prog 174 #[.int .u8 c] w fun e w'=>e=.returned (.bool (isD c))/\w'=w:=by
 by_cases h1:48<=c
 ·by_cases h2:c<=57
  all_goals
   go_enter Tryz.func174,Tryz.ntmps174
   go_wp2
   go_ret
   exact ⟨bL (by simp [isD, *]),rfl⟩
 ·go_enter Tryz.func174,Tryz.ntmps174
  go_wp2
  go_ret
  exact ⟨bL (by simp [isD];omega),rfl⟩
theorem Of (s:ByteArray) (i:Nat) (w:World) (hs:s.size<=1000) (hi:i<s.size):
 Calls Tryz.prog 143 #[.string s,.int .i64 i] w fun e w'=>e=.returned (.int .i64 ((lM s i (i+1)-i:Nat):Int))/\w'=w:=by
 have rF:=kO s i hi;cases Yd:isL (bt s i)<;>cases QB:isD (bt s i)
 all_goals
  go_enter Tryz.func143,Tryz.ntmps143
  go_wp2_with (first|(go_at_call 173;refine (mJ _ _).mono ?_;rintro e w' ⟨rfl,rfl⟩)|(go_at_call 174;refine (pf _ _).mono ?_;rintro e w' ⟨rfl,rfl⟩))
  go_loop [5] (fun n=>∃m:Nat,1<=m/\i+m<=s.size/\n=.int .i64 m/\Hid (lM s i (i+m)=lM s i (i+1))) (fun n=>s.size-(intOf n).toNat)
  case atStart=>exact ⟨1,ah _,by omega,rfl,rfl⟩
  case round=>
   obtain ⟨m,fR,gK,rfl,HE⟩:=hrel;by_cases bF:i+m<s.size
   ·have Ck:=kO s (i+m) bF;have HN:Hid (oL (bt s i) (bt s (i+m))=true->lM s i (i+(m+1))=lM s i (i+1)):=fun h=>by
     rw [<-HE.out,Ib s i (i+m) bF h];rfl
    have HS:Hid (oL (bt s i) (bt s (i+m))=false->lM s i (i+1)-i=m):=fun h=>by
     rw [<-HE.out,pU s i (i+m) bF h];omega
    clear HE;cases ur:isL (bt s (i+m))<;>cases yJ:isD (bt s (i+m))
    all_goals
     have HG:Hid (oL (bt s i) (bt s (i+m))=(if isL (bt s i) then isL (bt s (i+m))||isD (bt s (i+m)) else isD (bt s i) && isD (bt s (i+m)))):=rfl;go_wp2_with (first|(go_at_call 173;refine (mJ _ _).mono ?_;rintro e w' ⟨rfl,rfl⟩)|(go_at_call 174;refine (pf _ _).mono ?_;rintro e w' ⟨rfl,rfl⟩))
     first
      |(go_ret
        exact ⟨ee (by rw [HS.out (by rw [HG.out,Yd,QB,ur,yJ];rfl)]),rfl⟩)
      |(go_round
        case rel=>exact ⟨m+1,by omega,by omega,by go_num,HN.out (by rw [HG.out,Yd,QB,ur,yJ];rfl)⟩
        case measure=>simp [intOf];omega)
   ·have HS:Hid (lM s i (i+1)-i=m):=by rw [<-HE.out,sm s i (i+m) bF];show _=_;omega
    go_wp2_with fail
    go_ret
    exact ⟨ee (by rw [HS.out]),rfl⟩
def nT (t:Tk):List Value:=[.string t.txt,.int .i64 t.pos]
def rcs (ts:List Tk):List Value:=ts.flatMap nT
theorem rW (ts:List Tk) (t:Tk):rcs (ts++[t])=rcs ts++nT t:=by simp [rcs]
theorem ny (t:Tk):∀u∈nT t,u.oneCell'=true:=by
 intro u hu;simp only [nT,aK,ck,dV] at hu;rcases hu with rfl|rfl<;>rfl
theorem Tryz.infoRTok:(Tryz.prog.info? 212).map (fun i=>(i.zero,i.size,i.bytes))=some (some (.agg #[.string ByteArray.empty,.int .i64 0]),2,24):=by kernel_rfl
def km (s:ByteArray):Tk:=⟨s.size,⟨#[]⟩⟩
theorem DU (s:ByteArray) (i:Nat) (hb:isB (bt s i)=true):lM s i (i+1)=i+1:=by
 have h1:isL (bt s i)=false/\isD (bt s i)=false:=by
  simp only [isB,isL,isD,aL,cw] at hb ⊢;omega
 by_cases h:i+1<s.size
 ·exact pU s i (i+1) h (by simp [oL,h1.1,h1.2])
 ·exact sm s i (i+1) h
theorem FB (s:ByteArray) (w:World) (hs:s.size<=1000):
 Calls Tryz.prog 107 #[.string s] w fun e w'=>∃v,e=.returned v/\w'.ownsRow w.heap.size 212 2 v ((ci s 0).length+1) (rcs (ci s 0++[km s]))/\Below w.heap.size w w':=by
 obtain ⟨i,hi,fp,dQ,eF⟩:=bE Tryz.infoRTok;go_enter Tryz.func107,Tryz.ntmps107
 go_wp2_with fail
 go_loopw [3,4] (fun v a wr=>∃(k:Nat) (ts:List Tk),k<=s.size/\a=.int .i64 k/\ts.length<=k/\Hid (ts++ci s k=ci s 0)/\wr.ownsRow w.heap.size 212 2 v ts.length (rcs ts)/\Below w.heap.size w wr) (fun _ a _=>s.size-(intOf a).toNat)
 case atStart=>exact ⟨0,[],aF _,rfl,ah _,rfl,aM _ _ _ _,ai _ _⟩
 case round=>
  obtain ⟨k,ts,hk,rfl,ez,HT,hown,hb⟩:=hrel;by_cases bF:k<s.size
  ·have hck:=kO s k bF;have dk:=hb.size;cases gZ:isB (bt s k)
   ·have Nm:(bt s k==32)=false:=by rw [cE];intro e;simp [isB,e] at gZ
    have Ht:(bt s k==10)=false:=by rw [cE];intro e;simp [isB,e] at gZ
    have h1:=tP s k (k+1);have h2:=wY s k (k+1) (by omega);have Bj:Hid ((ts++[⟨k,s.extract k (lM s k (k+1))⟩])++ci s (lM s k (k+1))=ci s 0):=by
     have h:=HT.out;rw [sC s k bF gZ] at h;show _=_
     rw [<-h];simp
    have HL:Hid (k+(lM s k (k+1)-k)=lM s k (k+1)):=by show _=_;omega
    obtain ⟨n,hn⟩:∃n,lM s k (k+1)-k=n:=⟨_,rfl⟩;rw [show lM s k (k+1)=k+n by omega] at h1 h2 Bj;have HN:Hid (lM s k (k+1)-k=n):=hn;clear hn HL HT;go_wp2_with fail
    refine (Of s k _ hs bF).mono ?_
    rintro e w' ⟨rfl,rfl⟩
    rw [HN.out];go_wp2_with (at_builtin;go_must (refine wpList_append_lies _ rfl _ _ _ rfl w.heap.size 212 i _ 2 24 Tryz.underlying172 hi fp dQ eF rfl (by omega) u3 ts.length (rcs ts) rfl ?hown _ 1 _ (nT ⟨k,s.extract k (k+n)⟩) rfl rfl ?dA ?h1 (by omega) ?kj ?cP ?cX _ rfl ?_))
    case hown=>exact hown.alloc _
    case dA=>exact World.news_of_block (az w' _)
    case h1=>exact ny _
    case kj=>unfold maxLen;omega
    case cP=>omega
    case cX=>simp;omega
    intro g cap w1 dR bD dt um;go_wp2_with fail
    go_roundw
    case rel=>
     refine ⟨k+n,ts++[⟨k,s.extract k (k+n)⟩],h2,by go_num,by simp;omega,Bj,?_,?_⟩
     ·rw [rW,au];exact dR
     ·exact (hb.alloc hb.size _).grown bD (by simp;omega) (fun q hq=>(hown.lt q hq).1)
    case measure=>simp [intOf];omega
   ·have Bj:Hid (ts++ci s (k+1)=ci s 0):=by
     have h:=HT.out;rw [oa s k bF gZ,DU s k gZ] at h;exact h
    clear HT;by_cases Nm:(bt s k==32)=true
    ·go_wp2_with fail
     go_roundw
     case rel=>exact ⟨k+1,ts,by omega,by go_num,by omega,Bj,hown,hb⟩
     case measure=>simp [intOf];omega
    ·have WJ:(bt s k==32)=false:=by simpa using Nm
     have Ht:(bt s k==10)=true:=by simp at WJ ⊢;simp [isB,WJ] at gZ;exact gZ
     clear Nm;go_wp2_with fail
     go_roundw
     case rel=>exact ⟨k+1,ts,by omega,by go_num,by omega,Bj,hown,hb⟩
     case measure=>simp [intOf];omega
  ·have e1:ts=ci s 0:=by rw [<-HT.out,xG s k (by omega),cA]
   subst e1;have dk:=hb.size;go_wp2_with (at_builtin;go_must (refine wpList_append_lies _ rfl _ _ _ rfl w.heap.size 212 i _ 2 24 Tryz.underlying172 hi fp dQ eF rfl (by omega) u3 (ci s 0).length (rcs (ci s 0)) rfl ?b7 _ 1 _ (nT (km s)) rfl rfl ?tj ?K6 (by omega) ?Hq ?pP ?tG _ rfl ?_))
   case b7=>exact hown.alloc _
   case tj=>exact World.news_of_block (az wr _)
   case K6=>exact ny _
   case Hq=>unfold maxLen;omega
   case pP=>omega
   case tG=>simp;omega
   intro g cap w1 dR bD dt um;go_wp2_with fail
   go_ret
   refine ⟨_,rfl,?_,?_⟩
   ·rw [rW];exact dR
   ·exact (hb.alloc hb.size _).grown bD (by simp;omega) (fun q hq=>(hown.lt q hq).1)
def Bh (t:ByteArray) (k:Nat):Prop:=
 (0<k->(t.toList==[43])=false)/\(1<k->(t.toList==[45])=false)/\(2<k->(t.toList==[42])=false)/\(3<k->(t.toList==[60])=false)/\(4<k->(t.toList==[63])=false)
def fM (l:List UInt8):Int:=if l==[43] then 0 else if l==[45] then 1 else if l==[42] then 2 else if l==[60] then 3 else if l==[63] then 4 else-1
theorem gJ (t:ByteArray) (w:World):
 Calls Tryz.prog 175 #[.string t] w fun e w'=>e=.returned (.int .i64 (fM t.toList))/\w'=w:=by
 have x0:((⟨#[43,45,42,60,63]⟩:ByteArray).extract 0 1).toList=[43]:=by decide+kernel
 have x1:((⟨#[43,45,42,60,63]⟩:ByteArray).extract 1 2).toList=[45]:=by decide+kernel
 have x2:((⟨#[43,45,42,60,63]⟩:ByteArray).extract 2 3).toList=[42]:=by decide+kernel
 have x3:((⟨#[43,45,42,60,63]⟩:ByteArray).extract 3 4).toList=[60]:=by decide+kernel
 have x4:((⟨#[43,45,42,60,63]⟩:ByteArray).extract 4 5).toList=[63]:=by decide+kernel
 go_enter Tryz.func175,Tryz.ntmps175
 go_wp2_with fail
 go_loop [3] (fun n=>∃k:Nat,k<=5/\n=.int .i64 k/\Bh t k) (fun n=>5-(intOf n).toNat)
 case atStart=>exact ⟨0,by omega,rfl,⟨fun h=>by omega,fun h=>by omega,fun h=>by omega,fun h=>by omega,fun h=>by omega⟩⟩
 case round=>
  obtain ⟨k,hk,rfl,HH⟩:=hrel;have hk6:k=0\/k=1\/k=2\/k=3\/k=4\/k=5:=by omega
  have HM:Bh t k:=HH;clear HH;rcases hk6 with rfl|rfl|rfl|rfl|rfl|rfl
  ·cases he:(t.toList==[43])
   ·have oP:Bh t 1:=by
     obtain ⟨m0,m1,m2,m3,m4⟩:=HM;exact ⟨fun h=>by first|exact he|exact m0 (by omega),fun h=>by first|exact he|exact m1 (by omega)|omega,fun h=>by first|exact he|exact m2 (by omega)|omega,fun h=>by first|exact he|exact m3 (by omega)|omega,fun h=>by first|exact he|exact m4 (by omega)|omega⟩
    go_wp2_with fail
    go_round
    case rel=>exact ⟨1,by omega,rfl,oP⟩
    case measure=>simp [intOf]
   ·have HV:Hid (fM t.toList=0):=by
     obtain ⟨m0,m1,m2,m3,m4⟩:=HM;show fM _=_
     unfold fM;rw [he];rfl
    go_wp2_with fail
    go_ret
    exact ⟨ee HV.out.symm,rfl⟩
  ·cases he:(t.toList==[45])
   ·have oP:Bh t 2:=by
     obtain ⟨m0,m1,m2,m3,m4⟩:=HM;exact ⟨fun h=>by first|exact he|exact m0 (by omega),fun h=>by first|exact he|exact m1 (by omega)|omega,fun h=>by first|exact he|exact m2 (by omega)|omega,fun h=>by first|exact he|exact m3 (by omega)|omega,fun h=>by first|exact he|exact m4 (by omega)|omega⟩
    go_wp2_with fail
    go_round
    case rel=>exact ⟨2,by omega,rfl,oP⟩
    case measure=>simp [intOf]
   ·have HV:Hid (fM t.toList=1):=by
     obtain ⟨m0,m1,m2,m3,m4⟩:=HM;show fM _=_
     unfold fM;rw [m0 (by omega),he];rfl
    go_wp2_with fail
    go_ret
    exact ⟨ee HV.out.symm,rfl⟩
  ·cases he:(t.toList==[42])
   ·have oP:Bh t 3:=by
     obtain ⟨m0,m1,m2,m3,m4⟩:=HM;exact ⟨fun h=>by first|exact he|exact m0 (by omega),fun h=>by first|exact he|exact m1 (by omega)|omega,fun h=>by first|exact he|exact m2 (by omega)|omega,fun h=>by first|exact he|exact m3 (by omega)|omega,fun h=>by first|exact he|exact m4 (by omega)|omega⟩
    go_wp2_with fail
    go_round
    case rel=>exact ⟨3,by omega,rfl,oP⟩
    case measure=>simp [intOf]
   ·have HV:Hid (fM t.toList=2):=by
     obtain ⟨m0,m1,m2,m3,m4⟩:=HM;show fM _=_
     unfold fM;rw [m0 (by omega),m1 (by omega),he];rfl
    go_wp2_with fail
    go_ret
    exact ⟨ee HV.out.symm,rfl⟩
  ·cases he:(t.toList==[60])
   ·have oP:Bh t 4:=by
     obtain ⟨m0,m1,m2,m3,m4⟩:=HM;exact ⟨fun h=>by first|exact he|exact m0 (by omega),fun h=>by first|exact he|exact m1 (by omega)|omega,fun h=>by first|exact he|exact m2 (by omega)|omega,fun h=>by first|exact he|exact m3 (by omega)|omega,fun h=>by first|exact he|exact m4 (by omega)|omega⟩
    go_wp2_with fail
    go_round
    case rel=>exact ⟨4,by omega,rfl,oP⟩
    case measure=>simp [intOf]
   ·have HV:Hid (fM t.toList=3):=by
     obtain ⟨m0,m1,m2,m3,m4⟩:=HM;show fM _=_
     unfold fM;rw [m0 (by omega),m1 (by omega),m2 (by omega),he];rfl
    go_wp2_with fail
    go_ret
    exact ⟨ee HV.out.symm,rfl⟩
  ·cases he:(t.toList==[63])
   ·have oP:Bh t 5:=by
     obtain ⟨m0,m1,m2,m3,m4⟩:=HM;exact ⟨fun h=>by first|exact he|exact m0 (by omega),fun h=>by first|exact he|exact m1 (by omega)|omega,fun h=>by first|exact he|exact m2 (by omega)|omega,fun h=>by first|exact he|exact m3 (by omega)|omega,fun h=>by first|exact he|exact m4 (by omega)|omega⟩
    go_wp2_with fail
    go_round
    case rel=>exact ⟨5,by omega,rfl,oP⟩
    case measure=>simp [intOf]
   ·have HV:Hid (fM t.toList=4):=by
     obtain ⟨m0,m1,m2,m3,m4⟩:=HM;show fM _=_
     unfold fM;rw [m0 (by omega),m1 (by omega),m2 (by omega),m3 (by omega),he];rfl
    go_wp2_with fail
    go_ret
    exact ⟨ee HV.out.symm,rfl⟩
  ·have HV:Hid (fM t.toList= -1):=by
    obtain ⟨m0,m1,m2,m3,m4⟩:=HM;show fM _=_
    unfold fM;rw [m0 (by omega),m1 (by omega),m2 (by omega),m3 (by omega),m4 (by omega)];rfl
   go_wp2_with fail
   go_ret
   exact ⟨ee HV.out.symm,rfl⟩
def el (k:Int):Int:=if k=1 then 1 else if k=2\/k=3 then 2 else if k=4 then 3 else if k=5 then 4 else if k=6 then 5 else if k=7 then 6 else 7
theorem kx (t:ByteArray) (h:∀c:Int,c=43\/c=45\/c=42\/c=60\/c=63->bt t 0≠c):fM t.toList= -1:=by
 unfold fM;rw [eS t 43 (h _ (by decide)),eS t 45 (h _ (by decide)),eS t 42 (h _ (by decide)),eS t 60 (h _ (by decide)),eS t 63 (h _ (by decide))];rfl
theorem sP (t:ByteArray) (h1:t.size=1) (h:bt t 0=43\/bt t 0=45\/bt t 0=42\/bt t 0=60\/bt t 0=63):0<=fM t.toList:=by
 unfold fM;rcases h with h|h|h|h|h
 ·rw [gl t 43 h1 h];simp
 ·rw [gl t 45 h1 h];split<;>simp
 ·rw [gl t 42 h1 h];split<;>(try split)<;>simp
 ·rw [gl t 60 h1 h];split<;>(try split)<;>(try split)<;>simp
 ·rw [gl t 63 h1 h];split<;>(try split)<;>(try split)<;>(try split)<;>simp
theorem FD (w:World):
 Calls Tryz.prog 144 #[.string ⟨#[]⟩] w fun e w'=>e=.returned (.int .i64 0)/\w'=w:=by
 go_enter Tryz.func144,Tryz.ntmps144
 go_wp2_with fail
 go_ret
 exact ⟨rfl,rfl⟩
theorem C5 (t:ByteArray) (w:World) (h:WT t):
 Calls Tryz.prog 144 #[.string t] w fun e w'=>e=.returned (.int .i64 (el (bf t)))/\w'=w:=by
 obtain ⟨h0,hm,h1⟩:=h;have dI:=oi t h0;have hc:=kO t 0 h0;by_cases EG:isL (bt t 0)=true\/isD (bt t 0)=true
 ·have hb:∀c:Int,(c=61\/c=59\/c=40\/c=41\/c=43\/c=45\/c=42\/c=60\/c=63)->bt t 0≠c:=by
   intro c hc e;rw [e] at EG;rcases hc with rfl|rfl|rfl|rfl|rfl|rfl|rfl|rfl|rfl<;>revert EG<;>decide
  have e1:=eS t 61 (hb _ (by decide));have e2:=eS t 59 (hb _ (by decide));have e3:=eS t 40 (hb _ (by decide));have e4:=eS t 41 (hb _ (by decide));have hp:=kx t (fun c hc=>hb c (by omega));clear hb h1;unfold bf;generalize bt t 0=c at*;cases hl:isL c
  ·have hd:isD c=true:=by simpa [hl] using EG
   clear EG;by_cases h6:6<t.size
   ·rw [show el (iL c t.size)=7 by simp [iL,hl,hd,h6,el]];go_enter Tryz.func144,Tryz.ntmps144
    go_wp2_with (first|(go_at_call 173;refine (mJ _ _).mono ?_;rintro e w' ⟨rfl,rfl⟩)|(go_at_call 174;refine (pf _ _).mono ?_;rintro e w' ⟨rfl,rfl⟩)|(go_at_call 175;refine (gJ _ _).mono ?_;rintro e w' ⟨rfl,rfl⟩))
    go_ret
    exact ⟨rfl,rfl⟩
   ·rw [show el (iL c t.size)=2 by simp [iL,hl,hd,h6,el]];go_enter Tryz.func144,Tryz.ntmps144
    go_wp2_with (first|(go_at_call 173;refine (mJ _ _).mono ?_;rintro e w' ⟨rfl,rfl⟩)|(go_at_call 174;refine (pf _ _).mono ?_;rintro e w' ⟨rfl,rfl⟩)|(go_at_call 175;refine (gJ _ _).mono ?_;rintro e w' ⟨rfl,rfl⟩))
    go_ret
    exact ⟨rfl,rfl⟩
  ·have hd:isD c=false:=by
    simp only [isL,isD,aL,cw] at hl ⊢;omega
   clear EG;by_cases h8:8<t.size
   ·rw [show el (iL c t.size)=7 by simp [iL,hl,h8,el]];go_enter Tryz.func144,Tryz.ntmps144
    go_wp2_with (first|(go_at_call 173;refine (mJ _ _).mono ?_;rintro e w' ⟨rfl,rfl⟩)|(go_at_call 174;refine (pf _ _).mono ?_;rintro e w' ⟨rfl,rfl⟩)|(go_at_call 175;refine (gJ _ _).mono ?_;rintro e w' ⟨rfl,rfl⟩))
    go_ret
    exact ⟨rfl,rfl⟩
   ·rw [show el (iL c t.size)=1 by simp [iL,hl,h8,el]];go_enter Tryz.func144,Tryz.ntmps144
    go_wp2_with (first|(go_at_call 173;refine (mJ _ _).mono ?_;rintro e w' ⟨rfl,rfl⟩)|(go_at_call 174;refine (pf _ _).mono ?_;rintro e w' ⟨rfl,rfl⟩)|(go_at_call 175;refine (gJ _ _).mono ?_;rintro e w' ⟨rfl,rfl⟩))
    go_ret
    exact ⟨rfl,rfl⟩
 ·have hl:isL (bt t 0)=false:=by simpa using fun h=>EG (.inl h)
  have hd:isD (bt t 0)=false:=by simpa using fun h=>EG (.inr h)
  have fH:=h1 hl hd;clear EG h1;by_cases b61:bt t 0=61
  ·have e1:=gl t 61 fH b61;rw [show el (bf t)=3 by rw [bf,iL,hl,hd,b61];rfl];go_enter Tryz.func144,Tryz.ntmps144
   go_wp2_with fail
   go_ret
   exact ⟨rfl,rfl⟩
  ·have e1:=eS t 61 b61;by_cases b59:bt t 0=59
   ·have e2:=gl t 59 fH b59;rw [show el (bf t)=4 by rw [bf,iL,hl,hd,b59];rfl];clear b61;go_enter Tryz.func144,Tryz.ntmps144
    go_wp2_with fail
    go_ret
    exact ⟨rfl,rfl⟩
   ·have e2:=eS t 59 b59;by_cases b40:bt t 0=40
    ·have e3:=gl t 40 fH b40;rw [show el (bf t)=5 by rw [bf,iL,hl,hd,b40];rfl];clear b61 b59;go_enter Tryz.func144,Tryz.ntmps144
     go_wp2_with fail
     go_ret
     exact ⟨rfl,rfl⟩
    ·have e3:=eS t 40 b40;by_cases b41:bt t 0=41
     ·have e4:=gl t 41 fH b41;rw [show el (bf t)=6 by rw [bf,iL,hl,hd,b41];rfl];clear b61 b59 b40;go_enter Tryz.func144,Tryz.ntmps144
      go_wp2_with fail
      go_ret
      exact ⟨rfl,rfl⟩
     ·have e4:=eS t 41 b41;by_cases jD:bt t 0=43\/bt t 0=45\/bt t 0=42\/bt t 0=60\/bt t 0=63
      ·have hp:=sP t fH jD;rw [show el (bf t)=2 by rw [bf,iL,hl,hd];simp [jD,el]];clear b61 b59 b40 b41 jD;go_enter Tryz.func144,Tryz.ntmps144
       go_wp2_with (first|(go_at_call 173;refine (mJ _ _).mono ?_;rintro e w' ⟨rfl,rfl⟩)|(go_at_call 174;refine (pf _ _).mono ?_;rintro e w' ⟨rfl,rfl⟩)|(go_at_call 175;refine (gJ _ _).mono ?_;rintro e w' ⟨rfl,rfl⟩))
       go_ret
       exact ⟨rfl,rfl⟩
      ·have hp:=kx t (fun c hc e=>jD (by omega));rw [show el (bf t)=7 by rw [bf,iL,hl,hd];simp only [cm,dc];rw [ay jD,ay b61,ay b59,ay b40,ay b41];rfl];clear b61 b59 b40 b41 jD;go_enter Tryz.func144,Tryz.ntmps144
       go_wp2_with (first|(go_at_call 173;refine (mJ _ _).mono ?_;rintro e w' ⟨rfl,rfl⟩)|(go_at_call 174;refine (pf _ _).mono ?_;rintro e w' ⟨rfl,rfl⟩)|(go_at_call 175;refine (gJ _ _).mono ?_;rintro e w' ⟨rfl,rfl⟩))
       go_ret
       exact ⟨rfl,rfl⟩
structure Wk where
 st:Int
 fu:Int
 pa:Int
 inn:Int
 parts:List Int
def fO (g:Wk) (l:List Int) (x:Int):Bool×Wk:=
 if x=8 then (false,g)
 else if l≠[]/\x=1 then (decide (g.inn+1<=12),{g with inn:=g.inn+1,parts:=l++[x+1]})
 else (decide (g.inn<=12),{g with parts:=l++[x+1]})
def ub (w:World) (b:Nat) (g:Wk) (av:Value):Prop:=
 w.heap[b]?=some (.cells #[.int .i64 g.st,.int .i64 g.fu,.int .i64 g.pa,.int .i64 g.inn,av] 215 (0,0))
theorem ub.c0 {w:World} {b:Nat} {g:Wk} {av:Value} (h:ub w b g av):w.cell? ⟨b,0,none⟩=some (.int .i64 g.st):=by rw [al w b 0 _ _ _ h];rfl
theorem ub.c1 {w:World} {b:Nat} {g:Wk} {av:Value} (h:ub w b g av):w.cell? ⟨b,1,none⟩=some (.int .i64 g.fu):=by rw [al w b 1 _ _ _ h];rfl
theorem ub.c2 {w:World} {b:Nat} {g:Wk} {av:Value} (h:ub w b g av):w.cell? ⟨b,2,none⟩=some (.int .i64 g.pa):=by rw [al w b 2 _ _ _ h];rfl
theorem ub.c3 {w:World} {b:Nat} {g:Wk} {av:Value} (h:ub w b g av):w.cell? ⟨b,3,none⟩=some (.int .i64 g.inn):=by rw [al w b 3 _ _ _ h];rfl
theorem ub.c4 {w:World} {b:Nat} {g:Wk} {av:Value} (h:ub w b g av):w.cell? ⟨b,4,none⟩=some av:=by rw [al w b 4 _ _ _ h];rfl
theorem ub.fz {w:World} {b:Nat} {g:Wk} {av:Value} (h:ub w b g av) (j:Nat):w.frozen? ⟨b,j,none⟩=false:=aG w b j _ _ h
def Otw (w0 w:World):Prop:=∀(k:Nat) (cs:Array Value) (t:TypeId) (fr:Nat×Nat),t≠215->t≠3->w0.heap[k]?=some (.cells cs t fr)->w.heap[k]?=some (.cells cs t fr)
theorem Otw.refl (w:World):Otw w w:=fun _ _ _ _ _ _ h=>h
theorem Otw.alloc {w0 w:World} (h:Otw w0 w) (o:Obj):Otw w0 (w.alloc o):=by
 intro k cs t fr h1 h2 h3;have h4:=h k cs t fr h1 h2 h3;exact (aO w o k (ae.1 h4).1).trans h4
theorem Otw.set {w0 w:World} {b i:Nat} {cs:Array Value} (u:Value) (h:Otw w0 w) (hb:w.heap[b]?=some (.cells cs 215 (0,0))):Otw w0 (w.setCell ⟨b,i,none⟩ u):=by
 intro k cs' t fr h1 h2 h3;have h4:=h k cs' t fr h1 h2 h3;rw [fL _ _ _ _ (by intro e;simp only at e;subst e;rw [hb] at h4;simp at h4;exact h1 h4.2.1.symm)];exact h4
theorem Otw.setRow {w0 w:World} {b i:Nat} {cs:Array Value} (u:Value) (h:Otw w0 w) (hb:w.heap[b]?=some (.cells cs 3 (0,0))):Otw w0 (w.setCell ⟨b,i,none⟩ u):=by
 intro k cs' t fr h1 h2 h3;have h4:=h k cs' t fr h1 h2 h3;rw [fL _ _ _ _ (by intro e;simp only at e;subst e;rw [hb] at h4;simp at h4;exact h2 h4.2.1.symm)];exact h4
structure WRep (B:Nat) (w0 w:World) (b:Nat) (g:Wk) (av:Value):Prop where
 blk:ub w b g av
 lo:B<=b
 row:w.ownsRow B 3 1 av g.parts.length (jp g.parts)
 bel:Below B w0 w
 oth:Otw w0 w
theorem WRep.set0 {B:Nat} {w0 w:World} {b:Nat} {g:Wk} {av:Value} (h:WRep B w0 w b g av) (x:Int):WRep B w0 (w.setCell ⟨b,0,none⟩ (.int .i64 x)) b {g with st:=x} av:=
 ⟨bk _ h.blk,h.lo,aB h.row h.blk (by decide),h.bel.setCell h.lo _,h.oth.set _ h.blk⟩
theorem WRep.set1 {B:Nat} {w0 w:World} {b:Nat} {g:Wk} {av:Value} (h:WRep B w0 w b g av) (x:Int):WRep B w0 (w.setCell ⟨b,1,none⟩ (.int .i64 x)) b {g with fu:=x} av:=
 ⟨bk _ h.blk,h.lo,aB h.row h.blk (by decide),h.bel.setCell h.lo _,h.oth.set _ h.blk⟩
theorem WRep.set2 {B:Nat} {w0 w:World} {b:Nat} {g:Wk} {av:Value} (h:WRep B w0 w b g av) (x:Int):WRep B w0 (w.setCell ⟨b,2,none⟩ (.int .i64 x)) b {g with pa:=x} av:=
 ⟨bk _ h.blk,h.lo,aB h.row h.blk (by decide),h.bel.setCell h.lo _,h.oth.set _ h.blk⟩
theorem WRep.set3 {B:Nat} {w0 w:World} {b:Nat} {g:Wk} {av:Value} (h:WRep B w0 w b g av) (x:Int):WRep B w0 (w.setCell ⟨b,3,none⟩ (.int .i64 x)) b {g with inn:=x} av:=
 ⟨bk _ h.blk,h.lo,aB h.row h.blk (by decide),h.bel.setCell h.lo _,h.oth.set _ h.blk⟩
theorem WRep.lt {B:Nat} {w0 w:World} {b:Nat} {g:Wk} {av:Value} (h:WRep B w0 w b g av):b<w.heap.size:=(ae.1 h.blk).1
theorem pw {w:World} {base:Nat} {e:TypeId} {size n q m cap:Nat} {xs:List Value} (h:w.ownsRow base e size (.slice (some ⟨q,0,none⟩) m cap) n xs):∃cur,w.heap[q]?=some (.cells cur e (0,0)):=by
 rcases h.2 with ⟨h0,_⟩|⟨g,cap',cur,h0,_,hh,_⟩
 ·cases h0
 ·cases h0;exact ⟨cur,hh⟩
theorem WRep.store {B:Nat} {w0 w:World} {b:Nat} {st fu pa inn x:Int} {l:List Int} {q cap:Nat} (h:WRep B w0 w b ⟨st,fu,pa,inn,l++[x]⟩ (.slice (some ⟨q,0,none⟩) (l.length+1) cap)) (y:Int):
 WRep B w0 (w.setCell ⟨q,l.length,none⟩ (.int .i64 y)) b ⟨st,fu,pa,inn,l++[y]⟩ (.slice (some ⟨q,0,none⟩) (l.length+1) cap):=by
 have hr:=h.row;simp only [jp,cz,cW,fB,au,aD,bp] at hr;obtain ⟨cur,hq⟩:=pw hr;have dI:q≠b:=by
  intro e;have:=h.blk;unfold ub at this;rw [<-e,hq] at this;simp at this
 refine ⟨?_,h.lo,?_,h.bel.setCell (hr.lt q rfl).1 _,h.oth.setRow _ hq⟩
 ·unfold ub;rw [fL _ _ _ _ (by intro e;exact dI e.symm)];exact h.blk
 ·simp only [jp,cz,cW,fB,au,aD,bp];have:=i8 (j:=l.length) (.int .i64 y) hr;simpa using this
theorem JI (B b:Nat) (st fu pa inn x:Int) (l:List Int) (av:Value) (w0 w:World) (h:WRep B w0 w b ⟨st,fu,pa,inn,l++[x]⟩ av) (tv:0<=inn) (uu:inn<=1000000) (Uj:0<=x) (mN:x<=8) (hn:l.length<=1000000):
 Calls Tryz.prog 177 #[.pointer (some ⟨b,0,none⟩)] w fun e w'=>e=.returned (.bool (fO ⟨st,fu,pa,inn,l++[x]⟩ l x).1)/\WRep B w0 w' b (fO ⟨st,fu,pa,inn,l++[x]⟩ l x).2 av:=by
 have c0:=h.blk.c0;have c1:=h.blk.c1;have c2:=h.blk.c2;have c3:=h.blk.c3;have c4:=h.blk.c4;have f0:=h.blk.fz 0;have f1:=h.blk.fz 1;have f2:=h.blk.fz 2;have f3:=h.blk.fz 3;have f4:=h.blk.fz 4;obtain ⟨q,cap,rfl,_,_⟩:=h.row.form (by simp);simp only [au,aD,bp,cr] at*;have jb:l.length+1<=cap:=fY h.row;have bW:=h.row;simp only [jp,cz,cW,fB,au,aD,bp] at bW;have cq:w.cell? ⟨q,l.length,none⟩=some (.int .i64 x):=by
  have:=bW.cells (g:=q) rfl l.length (.int .i64 x) (by simp);simpa [Addr.add_lit] using this
 obtain ⟨cur,hq⟩:=pw bW;have fq:=aG w q l.length _ _ hq;have vg:¬q=b:=by
  intro e;have:=h.blk;unfold ub at this;rw [<-e,hq] at this;simp at this
 have tE:¬b=q:=fun e=>vg e.symm
 clear bW hq;by_cases h8:x=8
 ·subst h8;rw [show fO ⟨st,fu,pa,inn,l++[8]⟩ l 8=(false,⟨st,fu,pa,inn,l++[8]⟩) by simp [fO]];go_enter Tryz.func177,Tryz.ntmps177
  go_wp2
  go_ret
  exact ⟨rfl,h⟩
 ·have h8':(x==8)=false:=by simpa using h8
  by_cases hl:l=[]
  ·rw [show fO ⟨st,fu,pa,inn,l++[x]⟩ l x=(decide (inn<=12),⟨st,fu,pa,inn,l++[x+1]⟩) by simp [fO,h8,hl]];have tt:¬(0:Int)<(l.length:Int):=by simp [hl]
   have hd:decide ((0:Int)<(l.length:Int))=false:=by simp [hl]
   clear h8 hl;go_enter Tryz.func177,Tryz.ntmps177
   go_wp2
   go_ret
   exact ⟨rfl,h.store _⟩
  ·have tt:(0:Int)<(l.length:Int):=by cases l with|nil=>exact absurd rfl hl|cons _ _=>simp
   by_cases h1:x=1
   ·subst h1;rw [show fO ⟨st,fu,pa,inn,l++[1]⟩ l 1=(decide (inn+1<=12),⟨st,fu,pa,inn+1,l++[2]⟩) by simp [fO,hl]];clear h8 hl;go_enter Tryz.func177,Tryz.ntmps177
    go_wp2
    go_ret
    exact ⟨rfl,WRep.store (x:=1) (h.set3 _) 2⟩
   ·have nO:(x==1)=false:=by simpa using h1
    rw [show fO ⟨st,fu,pa,inn,l++[x]⟩ l x=(decide (inn<=12),⟨st,fu,pa,inn,l++[x+1]⟩) by simp [fO,h8,h1]];clear h8 hl h1;go_enter Tryz.func177,Tryz.ntmps177
    go_wp2
    go_ret
    exact ⟨rfl,h.store _⟩
def dH (g:Wk) (s:Int):Int×Wk:=
 if g.st=0 then (if s=1 then (if g.fu=16 then (3,g) else (0,{g with fu:=g.fu+1,pa:=0,inn:=0,st:=1})) else (2,g))
 else (if s=1 then (if g.pa=6 then (3,g) else (0,{g with pa:=g.pa+1})) else if s=3 then (0,{g with parts:=[0],st:=2}) else (2,g))
theorem WRep.single {B:Nat} {w0 w:World} {b:Nat} {g:Wk} {av:Value} (h:WRep B w0 w b g av) (hB:B<=w.heap.size):
 WRep B w0 (((w.setCell ⟨b,4,none⟩ (.slice (some ⟨w.heap.size,0,none⟩) 1 1)).setCell ⟨b,0,none⟩ (.int .i64 2)).alloc (.cells #[.int .i64 0] 3)) b {g with parts:=[0],st:=2} (.slice (some ⟨w.heap.size,0,none⟩) 1 1):=by
 have bB:=bk (i:=4) (.slice (some ⟨w.heap.size,0,none⟩) 1 1) h.blk;have bX:=bk (i:=0) (.int .i64 2) bB;have hz:((w.setCell ⟨b,4,none⟩ (.slice (some ⟨w.heap.size,0,none⟩) 1 1)).setCell ⟨b,0,none⟩ (.int .i64 2)).heap.size=w.heap.size:=by simp [World.setCell]
 refine ⟨(aO _ _ b (by rw [hz];exact h.lt)).trans bX,h.lo,?_,?_,?_⟩
 ·refine ⟨rfl,.inr ⟨w.heap.size,1,#[.int .i64 0],rfl,hB,?_,ah 1,by decide,rfl,rfl⟩⟩
  have:=az ((w.setCell ⟨b,4,none⟩ (.slice (some ⟨w.heap.size,0,none⟩) 1 1)).setCell ⟨b,0,none⟩ (.int .i64 2)) (.cells #[.int .i64 0] 3);rw [hz] at this;exact this
 ·exact ((h.bel.setCell h.lo _).setCell h.lo _).alloc (by rw [hz];exact hB) _
 ·exact ((h.oth.set _ h.blk).set _ bB).alloc _
theorem Ob (B b:Nat) (g:Wk) (av:Value) (s:Int) (w0 w:World) (h:WRep B w0 w b g av) (fZ:g.st=0\/g.st=1) (Jh:0<=g.fu) (oS:g.fu<=16) (lK:0<=g.pa) (An:g.pa<=1000000):
 Calls Tryz.prog 176 #[.pointer (some ⟨b,0,none⟩),.int .i64 s] w fun e w'=>e=.returned (.int .i64 (dH g s).1)/\∃av',WRep B w0 w' b (dH g s).2 av':=by
 obtain ⟨st,fu,pa,inn,parts⟩:=g;have c0:=h.blk.c0;have c1:=h.blk.c1;have c2:=h.blk.c2;have c3:=h.blk.c3;have c4:=h.blk.c4;have f0:=h.blk.fz 0;have f1:=h.blk.fz 1;have f2:=h.blk.fz 2;have f3:=h.blk.fz 3;have f4:=h.blk.fz 4;have jN:=h.lo;have iB:=h.lt;simp only at*;rcases fZ with rfl|rfl
 ·by_cases h1:s=1
  ·subst h1;by_cases SU:fu=16
   ·subst SU;rw [show dH ⟨0,16,pa,inn,parts⟩ 1=(3,⟨0,16,pa,inn,parts⟩) by simp [dH]];go_enter Tryz.func176,Tryz.ntmps176
    go_wp2
    go_ret
    exact ⟨rfl,_,h⟩
   ·have aiI:(fu==16)=false:=by simpa using SU
    rw [show dH ⟨0,fu,pa,inn,parts⟩ 1=(0,⟨1,fu+1,0,0,parts⟩) by simp [dH,SU]];clear SU;go_enter Tryz.func176,Tryz.ntmps176
    go_wp2
    go_ret
    exact ⟨rfl,_,(((h.set1 _).set2 _).set3 _).set0 _⟩
  ·have nO:(s==1)=false:=by simpa using h1
   rw [show dH ⟨0,fu,pa,inn,parts⟩ s=(2,⟨0,fu,pa,inn,parts⟩) by simp [dH,h1]];clear h1;go_enter Tryz.func176,Tryz.ntmps176
   go_wp2
   go_ret
   exact ⟨rfl,_,h⟩
 ·by_cases h1:s=1
  ·subst h1;by_cases h6:pa=6
   ·subst h6;rw [show dH ⟨1,fu,6,inn,parts⟩ 1=(3,⟨1,fu,6,inn,parts⟩) by simp [dH]];go_enter Tryz.func176,Tryz.ntmps176
    go_wp2
    go_ret
    exact ⟨rfl,_,h⟩
   ·have Rg:(pa==6)=false:=by simpa using h6
    rw [show dH ⟨1,fu,pa,inn,parts⟩ 1=(0,⟨1,fu,pa+1,inn,parts⟩) by simp [dH,h6]];clear h6;go_enter Tryz.func176,Tryz.ntmps176
    go_wp2
    go_ret
    exact ⟨rfl,_,h.set2 _⟩
  ·have nO:(s==1)=false:=by simpa using h1
   by_cases h3:s=3
   ·subst h3;rw [show dH ⟨1,fu,pa,inn,parts⟩ 3=(0,⟨2,fu,pa,inn,[0]⟩) by simp [dH]];clear h1 nO;go_enter Tryz.func176,Tryz.ntmps176
    go_wp2
    go_ret
    exact ⟨rfl,_,h.single (by omega)⟩
   ·have WK:(s==3)=false:=by simpa using h3
    rw [show dH ⟨1,fu,pa,inn,parts⟩ s=(2,⟨1,fu,pa,inn,parts⟩) by simp [dH,h1,h3]];clear h1 h3;go_enter Tryz.func176,Tryz.ntmps176
    go_wp2
    go_ret
    exact ⟨rfl,_,h⟩
def jI (s:Int):Bool:=decide (s=1\/s=2)
def CQ (g:Wk) (l:List Int) (s:Int):Int×Wk:=if jI s then (0,{g with st:=3,parts:=l++[1]}) else (2,g)
def rP (g:Wk) (l:List Int) (x s:Int):Int×Wk:=
 if jI s=true\/s=5 then (if (fO g l x).1 then (if s=5 then (0,{(fO g l x).2 with st:=2,parts:=(fO g l x).2.parts++[0]}) else (0,(fO g l x).2)) else (3,(fO g l x).2))
 else if s=6 then (if l=[] then (2,g) else (0,{g with parts:=l}))
 else if s=4 then (if l=[] then (0,{g with st:=0}) else (2,g))
 else (2,g)
theorem JJ (B b:Nat) (g:Wk) (av:Value) (s:Int) (w0 w:World) (h:WRep B w0 w b g av) (fZ:g.st=0\/g.st=1) (Jh:0<=g.fu) (oS:g.fu<=16) (lK:0<=g.pa) (An:g.pa<=1000000):
 Calls Tryz.prog 145 #[.pointer (some ⟨b,0,none⟩),.int .i64 s] w fun e w'=>e=.returned (.int .i64 (dH g s).1)/\∃av',WRep B w0 w' b (dH g s).2 av':=by
 have c0:=h.blk.c0;have Zy:=fZ;rcases fZ with h0|h1
 all_goals
  go_enter Tryz.func145,Tryz.ntmps145
  go_wp2_with (go_at_call 176;refine (Ob B b g av s w0 w h Zy Jh oS lK An).mono ?_;rintro e w1 ⟨rfl,av1,hg⟩)
  go_ret
  exact ⟨rfl,_,hg⟩
theorem ady (B b:Nat) (fu pa inn x:Int) (l:List Int) (av:Value) (s:Int) (w0 w:World) (h:WRep B w0 w b ⟨2,fu,pa,inn,l++[x]⟩ av) (hn:l.length<=1000000):
 Calls Tryz.prog 145 #[.pointer (some ⟨b,0,none⟩),.int .i64 s] w fun e w'=>e=.returned (.int .i64 (CQ ⟨2,fu,pa,inn,l++[x]⟩ l s).1)/\∃av',WRep B w0 w' b (CQ ⟨2,fu,pa,inn,l++[x]⟩ l s).2 av':=by
 have c0:=h.blk.c0;have c1:=h.blk.c1;have c2:=h.blk.c2;have c3:=h.blk.c3;have c4:=h.blk.c4;have f0:=h.blk.fz 0;have f1:=h.blk.fz 1;have f2:=h.blk.fz 2;have f3:=h.blk.fz 3;have f4:=h.blk.fz 4;have jN:=h.lo;have iB:=h.lt;simp only at*;obtain ⟨q,cap,rfl,_,_⟩:=h.row.form (by simp);simp only [au,aD,bp,cr] at*;have jb:l.length+1<=cap:=fY h.row;have bW:=h.row;simp only [jp,cz,cW,fB,au,aD,bp] at bW;have cq:w.cell? ⟨q,l.length,none⟩=some (.int .i64 x):=by
  have:=bW.cells (g:=q) rfl l.length (.int .i64 x) (by simp);simpa [Addr.add_lit] using this
 obtain ⟨cur,hq⟩:=pw bW;have fq:=aG w q l.length _ _ hq;have vg:¬q=b:=by
  intro e;have:=h.blk;unfold ub at this;rw [<-e,hq] at this;simp at this
 have tE:¬b=q:=fun e=>vg e.symm
 clear bW hq;by_cases h1:s=1\/s=2
 ·rw [show CQ ⟨2,fu,pa,inn,l++[x]⟩ l s=(0,⟨3,fu,pa,inn,l++[1]⟩) by simp [CQ,jI,h1]];rcases h1 with rfl|rfl
  all_goals
   go_enter Tryz.func145,Tryz.ntmps145
   go_wp2
   go_ret
   exact ⟨rfl,_,(h.store 1).set0 3⟩
 ·rw [show CQ ⟨2,fu,pa,inn,l++[x]⟩ l s=(2,⟨2,fu,pa,inn,l++[x]⟩) by simp [CQ,jI,h1]];have e1:(s==1)=false:=by rw [cE];omega
  have e2:(s==2)=false:=by rw [cE];omega
  clear h1;go_enter Tryz.func145,Tryz.ntmps145
  go_wp2
  go_ret
  exact ⟨rfl,_,h⟩
theorem WRep.cut {B:Nat} {w0 w:World} {b:Nat} {st fu pa inn x:Int} {l:List Int} {q cap:Nat} (h:WRep B w0 w b ⟨st,fu,pa,inn,l++[x]⟩ (.slice (some ⟨q,0,none⟩) (l.length+1) cap)):
 WRep B w0 (w.setCell ⟨b,4,none⟩ (.slice (some ⟨q,0,none⟩) l.length cap)) b ⟨st,fu,pa,inn,l⟩ (.slice (some ⟨q,0,none⟩) l.length cap):=by
 refine ⟨bk _ h.blk,h.lo,?_,h.bel.setCell h.lo _,h.oth.set _ h.blk⟩
 have hr:=h.row;simp only [jp,cz,cW,fB,au,aD,bp] at hr;exact aB (ownsRow_pop (by simp [jp]) hr) h.blk (by decide)
end Go.Proofs.YtnndoagpbcacdabGreatDoor
