import Derived.Test.YtnndoagpbcacdabGreatDoorMC2
import Derived.Test.YtnndoagpbcacdabGreatDoorMP3
namespace Go.Proofs.YtnndoagpbcacdabGreatDoor
set_option maxHeartbeats 8000000
set_option maxRecDepth 100000
open Go.RowKit
theorem vS (w:World) (a b:Array Value) (s t:TypeId):
 ((w.alloc (.cells a s)).alloc (.cells b t)).heap[w.heap.size]?=some (.cells a s (0,0))/\
 ((w.alloc (.cells a s)).alloc (.cells b t)).heap[w.heap.size+1]?=some (.cells b t (0,0))/\
 Below w.heap.size w ((w.alloc (.cells a s)).alloc (.cells b t)):=
 ⟨(gW (ai _ _)).1,(gW (ai _ _)).2,((ai _ _).alloc (ah _) _).alloc (by simp) _⟩
theorem Nd {c:UInt8} {ws:List ByteArray} (h:uw c ws=true):0<=hdA c ws/\0<=hdB c ws:=by
 simp only [uw,aN] at h;obtain ⟨o1,o2,o3,o4⟩:=h;unfold hdA hdB;simp only [o1,o2,Bool.and_self,cQ,oU,o3,o4];exact ⟨(wu _).1,(wu _).1⟩
theorem TA (r:ByteArray) (a:Option Addr) (cap:Nat) (LS:List (List UInt8)) (w:World) (gV:spL 10 r.data.toList=LS) (hs:r.size<=30000) (hl:LS.length<=30001) (bW:w.ownsRow 0 9 1 (.slice a LS.length cap) LS.length (sts (LS.map ba))):
 Calls Tryz.prog 115 #[.slice a LS.length cap] w fun e w'=>∃mn fo fl fc,e=.returned (.tuple #[.agg #[.int .i64 mn,.slice fo fl fc],.int .i64 (iC r).2,.bool (iC r).1.isSome])/\Below w.heap.size w w'/\∀c,(iC r).1=some c->mn=c.mn/\gR w' (.slice fo fl fc) c.fs:=by
 have qF:0<LS.length:=by rw [<-gV];exact fw.2 (nS _ _)
 have ES:Hid (∀(i:Nat) (h:i<LS.length),(ba LS[i]).size<=30000):=fun i h=>by
  have:=sG 10 r.data.toList LS[i] (by rw [gV];exact aE h);rw [<-cg] at this;rw [cg,IE];omega
 obtain ⟨q,cap',hq,_,dX⟩:=bW.form qF;cases hq
 have CN:Hid (∀wr:World,Below w.heap.size w wr->∀(i:Nat) (h:i<LS.length),wr.cell? ⟨q,i,none⟩=some (.string (ba LS[i]))):=fun wr hb i h=>by
  refine aH (aQ bW hb) i _ ?_
  unfold sts;rw [ji,cH,aj h];rfl
 clear bW;generalize hX:iC r=X;have HX:Hid (iC r=X):=hX;clear hX;have L8:Hid (AG LS qF=false->X=(none,1)):=fun h=>by rw [<-HX.out];exact Ls gV qF h
 have IV:Hid _:=fun h=>It gV qF h
 rw [HX.out] at IV;clear HX;have HD:Hid (AG LS qF=(decide (2<=LS.length) && (uw 77 (wsB (ba LS[0])) && gg (hdA 77 (wsB (ba LS[0]))) (hdB 77 (wsB (ba LS[0])))))):=rfl;have HC:Hid _:=fun w=>FH 77 (ba LS[0]) w (ES.out 0 qF)
 have HW:Hid _:=vS w #[.int .i64 0,.slice none 0 0] #[.int .i64 0,.slice none 0 0] 63 63;have c0:=CN.out _ HW.out.2.2 0 qF;have xh:Hid (uw 77 (wsB (ba LS[0]))=true->0<=hdA 77 (wsB (ba LS[0]))):=fun h=>(Nd h).1
 generalize uw 77 (wsB (ba LS[0]))=ok at*;generalize hdA 77 (wsB (ba LS[0]))=PA at*;generalize hdB 77 (wsB (ba LS[0]))=PB at*;generalize AG LS qF=G at*;have Do:q<w.heap.size+1:=by omega
 go_enter Tryz.func115,Tryz.ntmps115
 go_wp2_with fail
 refine (show Calls _ _ _ _ _ from HC.out _).mono ?_
 rintro e w1 ⟨rfl,bB⟩
 clear HC c0;have mA:=(bB.block _ (by simp;omega)).trans HW.out.1;have vp:=(bB.block _ (by simp)).trans HW.out.2.1;have mW:Below w.heap.size w w1:=HW.out.2.2.trans (bB.mono (by simp;omega));have AN:=mW.size;have Q8:w.heap.size+1<w1.heap.size:=(ae.1 vp).1;clear bB HW;obtain ⟨Bd,ST⟩:∃Bd,Bd= !G:=⟨_,rfl⟩;have jM:Hid (Bd= !G):=ST;clear ST
 go_upto_region 3 with fail
 go_cut [45] (fun v wc=>v=.bool Bd/\wc=w1)
 case first=>
  cases ok with
  |false=>
   go_wp2_with fail
   go_meet
   case rel=>exact ⟨congrArg Value.bool (by rw [jM.out,HD.out];simp),rfl⟩
  |true=>
   by_cases h2:2<=LS.length
   ·have zr:¬(LS.length:Int)<2:=by omega
    have h2d:decide ((LS.length:Int)<2)=false:=by simp;omega
    by_cases p1:1<=PB
    ·have p1':decide (PB<1)=false:=by simp;omega
     by_cases p2:PB<=16
     ·have p2':decide (16<PB)=false:=by simp;omega
      have X0:Hid (0<=PA):=xh.out rfl;by_cases p3:PA<PB
      ·have p3':decide (PB<=PA)=false:=by simp;omega
       go_wp2_with fail
       go_meet
       case rel=>exact ⟨congrArg Value.bool (by rw [jM.out,HD.out];simp [gg,h2,p1,p2,p3,X0.out]),rfl⟩
      ·have p3':decide (PB<=PA)=true:=by simp;omega
       go_wp2_with fail
       go_meet
       case rel=>exact ⟨congrArg Value.bool (by rw [jM.out,HD.out];simp [gg,p3]),rfl⟩
     ·have p2':decide (16<PB)=true:=by simp;omega
      go_wp2_with fail
      go_meet
      case rel=>exact ⟨congrArg Value.bool (by rw [jM.out,HD.out];simp [gg,p2]),rfl⟩
    ·have p1':decide (PB<1)=true:=by simp;omega
     go_wp2_with fail
     go_meet
     case rel=>exact ⟨congrArg Value.bool (by rw [jM.out,HD.out];simp [gg,p1]),rfl⟩
   ·have zr:(LS.length:Int)<2:=by omega
    go_wp2_with fail
    go_meet
    case rel=>exact ⟨congrArg Value.bool (by rw [jM.out,HD.out];simp [h2]),rfl⟩
 case rest=>
  obtain ⟨rfl,rfl⟩:=hcut;cases Bd with
  |true=>
   have gp:Hid _:=L8.out (by have:=jM.out;simpa using this.symm);obtain ⟨x0,x1,f0,f1⟩:=bS mA;obtain ⟨y0,y1,_,_⟩:=bS vp;obtain ⟨q0,q1⟩:=od (a:=.int .i64 0) (c:=.slice none 0 0) mA;have AX:w.heap.size<wc.heap.size:=by omega
   go_wp2_with fail
   refine aS (v:=.tuple #[.agg #[.int .i64 0,.slice none 0 0],.int .i64 1,.bool false]) (by simp [results,Tryz.results115,go_sem,q0,q1]) rfl ⟨0,_,_,_,by rw [gp.out];rfl,?_,fun c hc=>by rw [gp.out] at hc;cases hc⟩
   exact (mW.setCell (by exact ah _) _).setCell (by exact ah _) _
  |false=>
   obtain ⟨hXX,yk,h2,jB⟩:=IV.out (by have:=jM.out;simpa using this.symm);clear IV L8 HD xh jM;simp only [gg,aN,aL] at jB;obtain ⟨p1,p2,p3,p4⟩:=jB;obtain ⟨n,rfl⟩:=aZ (show 0<=PB by omega);have U9:n<=16:=by omega
   rw [bC] at hXX;generalize dz r=RF at*;generalize hY:ey n PA n 0 RF=Y at*;have qO:Hid _:=hXX;have HY:Hid (ey n PA (n-0) 0 RF=Y):=hY;have HR:Hid (spL 10 RF.data.toList=LS.drop 1):=yk;clear hXX hY yk gV p1 p2;obtain ⟨y0,y1,g0,g1⟩:=bS vp;obtain ⟨i2,lj,Zi,Zh,Zg⟩:=bE Tryz.infoLine;obtain ⟨i,hi,fp,dQ,eF⟩:=bE Tryz.infoTemplate;have AX:w.heap.size<wc.heap.size:=by omega
   go_wp2_with fail
   go_loopw [9,10] (fun x y wr=>∃(k:Nat) (F:List Tp) (rj:ByteArray) (t:Nat) (fv:Value) (ys:List Value) (T:Nat),k<=n/\y=.int .i64 k/\x=.int .i64 t/\Hid (Y=((ey n PA (n-k) k rj).1.map (F++·),(ey n PA (n-k) k rj).2.1,(ey n PA (n-k) k rj).2.2+(t-1)))/\Hid (F.length=k)/\F.length<=16/\1<=t/\t<LS.length/\Hid (spL 10 rj.data.toList=LS.drop t)/\Below w.heap.size w wr/\wr.heap[w.heap.size]?=some (.cells #[.int .i64 0,.slice none 0 0] 63 (0,0))/\wr.heap[w.heap.size+1]?=some (.cells #[.int .i64 PA,fv] 63 (0,0))/\wr.ownsRow (w.heap.size+1+1) 79 2 fv F.length ys/\w.heap.size+1<T/\T<=wr.heap.size/\iy wr T F ys) (fun _ y _=>n-(intOf y).toNat)
   case atStart=>
    refine ⟨0,[],RF,1,.slice none 0 0,[],w.heap.size+1+1,aF _,rfl,rfl,?_,rfl,by simp,ah _,by omega,HR.out,mW.setCell (by show w.heap.size<=w.heap.size+1;omega) _,(bi _ (by omega)).trans mA,bk _ vp,aM _ _ _ _,by omega,by simp [World.setCell];omega,rfl⟩
    rw [HY.out];simp [Hid]
   case round=>
    clear mA vp y0 y1 g0 g1 HY HR mW AN Q8 AX;obtain ⟨k,F,rj,t,fv,ys,T,hk,rfl,rfl,qn,XD,ah9,ul,ja,HLJ,hb,mA,DK,bW,abt,AU,pN⟩:=hrel;obtain ⟨W,hW⟩:∃W,W=wr:=⟨wr,rfl⟩;subst hW;have Jj:=hb.size;have hCl:w.heap.size+1<W.heap.size:=(ae.1 DK).1;obtain ⟨fo,fcap,rfl⟩:=aU bW;by_cases bF:k<n
    ·have HC:Hid _:=fun w=>FH 70 (ba LS[t]) w (ES.out t ja)
     have HBT:Hid (AF LS t ja ((k:Int)==PA)=false->X=(none,t+1)):=fun hf=>by
      have h:=qn.out;rw [show n-k=(n-(k+1))+1 by omega] at h;unfold ey at h;rw [Jz n ja HLJ.out hf] at h;simp only [gG] at h;have h1:=qO.out;rw [h] at h1;simp only at h1;rw [h1];congr 1
      omega
     have HGT:Hid _:=fun hf=>E8 n ja HLJ.out (m:=((k:Int)==PA)) hf
     have Xz:Hid (∀tp,(dO n ((k:Int)==PA) rj).1=some tp->Y=((ey n PA (n-(k+1)) (k+1) (dO n ((k:Int)==PA) rj).2.1).1.map ((F++[tp])++·),(ey n PA (n-(k+1)) (k+1) (dO n ((k:Int)==PA) rj).2.1).2.1,(ey n PA (n-(k+1)) (k+1) (dO n ((k:Int)==PA) rj).2.1).2.2+((dO n ((k:Int)==PA) rj).2.2+(t-1)))):=fun tp hT=>by
      have h:=qn.out;rw [show n-k=(n-(k+1))+1 by omega] at h;unfold ey at h;rw [hT] at h;simp only [Option.map_map] at h;rw [h];congr 1
      ·congr 1
       funext M
       simp
      ·congr 1
       omega
     have R7:Hid ((dO n ((k:Int)==PA) rj).1=none->X=(none,(dO n ((k:Int)==PA) rj).2.2+(t-1)+1)):=fun hT=>by
      have h:=qn.out;rw [show n-k=(n-(k+1))+1 by omega] at h;unfold ey at h;rw [hT] at h;simp only [gG] at h;have h1:=qO.out;rw [h] at h1;simp only at h1;exact h1
     have HD:Hid (AF LS t ja ((k:Int)==PA)=(decide (t+1<LS.length) && (uw 70 (wsB (ba LS[t])) && iX (hdA 70 (wsB (ba LS[t]))) (hdB 70 (wsB (ba LS[t]))) ((k:Int)==PA)))):=rfl;have xh:Hid (uw 70 (wsB (ba LS[t]))=true->0<=hdA 70 (wsB (ba LS[t]))/\0<=hdB 70 (wsB (ba LS[t]))):=fun h=>Nd h
     have c0:=CN.out _ hb t ja;have hqW:q<W.heap.size:=by omega
     clear qn;generalize uw 70 (wsB (ba LS[t]))=ok at*;generalize hdA 70 (wsB (ba LS[t]))=A at*;generalize hdB 70 (wsB (ba LS[t]))=B at*;generalize AF LS t ja ((k:Int)==PA)=G at*;go_wp2_with fail
     refine (show Calls _ _ _ _ _ from HC.out _).mono ?_
     rintro e w2 ⟨rfl,bX⟩
     clear HC c0;have Q0:=bX.size;have je:Below w.heap.size w w2:=hb.trans (bX.mono Jj);have oK:=(bX.block _ (by omega)).trans mA;have tK:=(bX.block _ (by omega)).trans DK;obtain ⟨Bd,ST⟩:∃Bd,Bd= !G:=⟨_,rfl⟩;have jM:Hid (Bd= !G):=ST;clear ST
     go_upto_region 11 with fail
     go_cut [88] (fun v wc=>v=.bool Bd/\wc=w2)
     case first=>
      cases ok with
      |false=>
       go_wp2_with fail
       go_meet
       case rel=>exact ⟨congrArg Value.bool (by rw [jM.out,HD.out];simp),rfl⟩
      |true=>
       obtain ⟨rg,pS⟩:=xh.out rfl;by_cases h2:t+1<LS.length
       ·have zr:¬(LS.length:Int)<=(t:Int)+1:=by omega
        have h2d:decide ((LS.length:Int)<=(t:Int)+1)=false:=by simp;omega
        by_cases p1:A<=6
        ·have p1':decide (6<A)=false:=by simp;omega
         by_cases p2:B<=12
         ·have p2':decide (12<B)=false:=by simp;omega
          cases hm:((k:Int)==PA)
          ·go_wp2_with fail
           go_meet
           case rel=>exact ⟨congrArg Value.bool (by rw [jM.out,HD.out,hm];simp [iX,h2,p1,p2,rg,pS]),rfl⟩
          ·by_cases p5:0<A
           ·have p5':decide (0<A)=true:=by simpa using p5
            go_wp2_with fail
            go_meet
            case rel=>exact ⟨congrArg Value.bool (by rw [jM.out,HD.out,hm];simp [iX,p5]),rfl⟩
           ·have p5':decide (0<A)=false:=by simpa using p5
            go_wp2_with fail
            go_meet
            case rel=>exact ⟨congrArg Value.bool (by rw [jM.out,HD.out,hm];simp [iX,h2,p1,p2,p5,rg,pS]),rfl⟩
         ·have p2':decide (12<B)=true:=by simp;omega
          go_wp2_with fail
          go_meet
          case rel=>exact ⟨congrArg Value.bool (by rw [jM.out,HD.out];simp [iX,p2]),rfl⟩
        ·have p1':decide (6<A)=true:=by simp;omega
         go_wp2_with fail
         go_meet
         case rel=>exact ⟨congrArg Value.bool (by rw [jM.out,HD.out];simp [iX,p1]),rfl⟩
       ·have zr:(LS.length:Int)<=(t:Int)+1:=by omega
        go_wp2_with fail
        go_meet
        case rel=>exact ⟨congrArg Value.bool (by rw [jM.out,HD.out];simp [h2]),rfl⟩
     case rest=>
      obtain ⟨rfl,rfl⟩:=hcut;cases Bd with
      |true=>
       have gp:Hid _:=HBT.out (by have:=jM.out;simpa using this.symm);obtain ⟨x0,x1,f0,f1⟩:=bS oK;obtain ⟨y0,y1,_,_⟩:=bS tK;obtain ⟨q0,q1⟩:=od (a:=.int .i64 PA) (c:=.slice fo F.length fcap) oK;have AX:w.heap.size<wc.heap.size:=(ae.1 oK).1;have Ho:w.heap.size+1<wc.heap.size:=(ae.1 tK).1;go_wp2_with fail
       refine aS (v:=.tuple #[.agg #[.int .i64 PA,.slice fo F.length fcap],.int .i64 ((t:Int)+1),.bool false]) (by simp [results,Tryz.results115,go_sem,q0,q1]) rfl ⟨PA,_,_,_,by rw [gp.out];rfl,?_,fun c hc=>by rw [gp.out] at hc;cases hc⟩
       exact (je.setCell (by exact ah _) _).setCell (by exact ah _) _
      |false=>
       obtain ⟨zq,yk,h2,UC⟩:=HGT.out (by have:=jM.out;simpa using this.symm);clear HGT HBT HD xh jM;simp only [iX,aN,aL] at UC;obtain ⟨rg,hA6,_,pS,aik⟩:=UC;obtain ⟨x,rfl⟩:=aZ pS;have afX:x<=12:=by omega
       rw [bC] at zq;generalize dz rj=RF2 at*;have IN:Hid (spL 10 RF2.data.toList=LS.drop (t+1)):=yk;have Bo:Hid ((cU n A (x+1) (x+1) 0 RF2).1=none->X=(none,(cU n A (x+1) (x+1) 0 RF2).2.2+1+(t-1)+1)):=fun h=>by
        have h1:=R7.out;rw [zq] at h1;exact h1 (by simp [h])
       have Xs:Hid (∀L,(cU n A (x+1) (x+1) 0 RF2).1=some L->Y=((ey n PA (n-(k+1)) (k+1) (cU n A (x+1) (x+1) 0 RF2).2.1).1.map ((F++[⟨A,L⟩])++·),(ey n PA (n-(k+1)) (k+1) (cU n A (x+1) (x+1) 0 RF2).2.1).2.1,(ey n PA (n-(k+1)) (k+1) (cU n A (x+1) (x+1) 0 RF2).2.1).2.2+((cU n A (x+1) (x+1) 0 RF2).2.2+1+(t-1)))):=fun L h=>by
        have h1:=Xz.out;rw [zq] at h1;exact h1 ⟨A,L⟩ (by simp [h])
       clear zq R7 Xz yk;generalize Wq:cU n A (x+1) (x+1) 0 RF2=Y2 at*;have HY2:Hid (cU n A (x+1) (x+1-0) 0 RF2=Y2):=Wq;clear Wq;have ir:=aQ bW bX;have GX:iy wc T F ys:=pN.keep (bX.mono AU);obtain ⟨TB,Hm⟩:∃TB,TB=wc.heap.size:=⟨_,rfl⟩;have qP:Hid ((wc.alloc (Obj.cells #[.int .i64 A,.slice none 0 0] 79)).heap[TB]?=some (.cells #[.int .i64 A,.slice none 0 0] 79 (0,0))):=by rw [Hm];exact az wc _
       have abx:TB<=wc.heap.size:=by omega
       have abw:wc.heap.size<=TB:=by omega
       have abv:T<=TB:=by omega
       have ahy:=je.size;go_wp2_with fail
       rw [<-Hm];clear Hm;have qe:Hid (Below TB wc (wc.alloc (Obj.cells #[.int .i64 A,.slice none 0 0] 79))):=(ai _ _).alloc abx _
       go_loopw [9,15] (fun a y wr=>∃(j:Nat) (L:List Ln) (rl:ByteArray) (u:Nat) (lv:Value),j<=x+1/\y=.int .i64 j/\a=.int .i64 u/\Hid (u=t+1+j)/\Hid (Y2=((cU n A (x+1) (x+1-j) j rl).1.map (L++·),(cU n A (x+1) (x+1-j) j rl).2.1,(cU n A (x+1) (x+1-j) j rl).2.2+j))/\Hid (L.length=j)/\L.length<=13/\u<LS.length/\Hid (spL 10 rl.data.toList=LS.drop u)/\Below TB wc wr/\wr.heap[TB]?=some (.cells #[.int .i64 A,lv] 79 (0,0))/\j3 wr (TB+1) lv L) (fun _ y _=>x+2-(intOf y).toNat)
       case atStart=>
        refine ⟨0,[],RF2,t+1,.slice none 0 0,aF _,rfl,by go_num,rfl,?_,rfl,by simp,h2,IN.out,qe.out,qP.out,[],aM _ _ _ _,fun j hj=>by simp at hj⟩
        rw [HY2.out];simp [Hid]
       case round=>
        clear qe qP HY2 IN;obtain ⟨j,L,rl,u,lv,hj,rfl,rfl,HU,zi,Jp,ah3,Dm,R2,df,zq,KY⟩:=hrel;have abd:=df.size;have hTl:TB<wr.heap.size:=(ae.1 zq).1;have kX:Below w.heap.size w wr:=je.trans (df.mono (by omega));have Q9:=(df.block _ (by omega)).trans oK;have K0:=(df.block _ (by omega)).trans tK;by_cases cV:j<x+1
        ·have iH:(j:Int)<=(x:Int):=by omega
         have HC:Hid _:=fun w=>TM (ba LS[u]) w (ES.out u Dm)
         have L7:Hid (xZ LS u Dm n A (x+1) j=false->X=(none,u+1)):=fun hf=>by
          have h:=zi.out;rw [show x+1-j=(x-j)+1 by omega,F5 Dm R2.out hf] at h;simp only [gG] at h;have h1:=Bo.out;rw [h] at h1;simp only at h1;rw [h1 (by simp)];congr 1
          have:=HU.out;omega
         have HGL:Hid (xZ LS u Dm n A (x+1) j=true->Y2=((cU n A (x+1) (x+1-(j+1)) (j+1) (dz rl)).1.map ((L++[(wsB (ba LS[u])).map atV])++·),(cU n A (x+1) (x+1-(j+1)) (j+1) (dz rl)).2.1,(cU n A (x+1) (x+1-(j+1)) (j+1) (dz rl)).2.2+(j+1))/\spL 10 (dz rl).data.toList=LS.drop (u+1)):=fun hf=>by
          have h:=zi.out;obtain ⟨g1,g2,_⟩:=Dh (m:=x-j) Dm R2.out hf;rw [show x+1-j=(x-j)+1 by omega,g1] at h;refine ⟨?_,g2⟩
          simp only [Option.map_map] at h;rw [h,show x+1-(j+1)=x-j by omega];congr 1
          ·congr 1
           funext M
           simp
          ·congr 1
           omega
         have HD:Hid (xZ LS u Dm n A (x+1) j=(decide (u+1<LS.length) && (nh (wsB (ba LS[u])) && fy n A (x+1) j ((wsB (ba LS[u])).map atV)))):=rfl;have c0:=CN.out _ kX u Dm;have hqr:q<wr.heap.size:=by omega
         clear zi;generalize zl:wsB (ba LS[u])=ws at*;clear zl;generalize dz rl=RL at*;generalize xZ LS u Dm n A (x+1) j=G2 at*;cases zp:nh ws
         ·rw [zp] at HC HD;have gp:Hid _:=L7.out (by rw [HD.out];simp);go_wp2_with fail
          refine (show Calls _ _ _ _ _ from HC.out _).mono ?_
          rintro e w5 ⟨va,vn,vc,rfl,dB,_⟩
          have EJ:Below w.heap.size w w5:=kX.trans (dB.mono (by omega));have oK:=(dB.block _ (by omega)).trans Q9;have tK:=(dB.block _ (by omega)).trans K0;clear HC c0;obtain ⟨x0,x1,f0,f1⟩:=bS oK;obtain ⟨y0,y1,_,_⟩:=bS tK;obtain ⟨q0,q1⟩:=od (a:=.int .i64 PA) (c:=.slice fo F.length fcap) oK;have AX:w.heap.size<w5.heap.size:=(ae.1 oK).1;have Ho:w.heap.size+1<w5.heap.size:=(ae.1 tK).1;go_wp2_with fail
          refine aS (v:=.tuple #[.agg #[.int .i64 PA,.slice fo F.length fcap],.int .i64 ((u:Int)+1),.bool false]) (by simp [results,Tryz.results115,go_sem,q0,q1]) rfl ⟨PA,_,_,_,by rw [gp.out];rfl,?_,fun c hc=>by rw [gp.out] at hc;cases hc⟩
          exact (EJ.setCell (by exact ah _) _).setCell (by exact ah _) _
         ·rw [zp] at HC HD;go_wp2_with fail
          refine (show Calls _ _ _ _ _ from HC.out _).mono ?_
          rintro e w5 ⟨va,vn,vc,rfl,dB,hown⟩
          obtain ⟨Si,fd⟩:=hown (by simp);subst Si;clear HC c0 hown;have abc:=dB.size;have Wy:(ws.map atV).length=ws.length:=by simp
          rw [<-Wy] at fd;have HL:Hid _:=TH (ws.map atV) (.slice va (ws.map atV).length vc) j (x+1) n A w5 (nE fd) rg hA6 (by omega) cV U9;rw [Wy,show ((x+1:Nat):Int)=(x:Int)+1 by omega] at HL;rw [Wy] at fd;have HO5:Hid _:=fd;have YK:Hid ((ws.map atV).length=ws.length):=Wy;clear Wy fd;generalize mx:ws.map atV=l' at*;clear mx;generalize fy n A (x+1) j l'=GL at*;have yK:Below w.heap.size w w5:=kX.trans (dB.mono (by omega));go_wp2_with fail
          refine (show Calls _ _ _ _ _ from HL.out).mono ?_
          rintro e w6 ⟨rfl,js⟩
          clear HL;have ahF:=js.size;have EJ:Below w.heap.size w w6:=yK.trans (js.mono (by omega));have oK:=(js.block _ (by omega)).trans ((dB.block _ (by omega)).trans Q9);have tK:=(js.block _ (by omega)).trans ((dB.block _ (by omega)).trans K0);cases GL with
          |false=>
           have gp:Hid _:=L7.out (by rw [HD.out];simp);obtain ⟨x0,x1,f0,f1⟩:=bS oK;obtain ⟨y0,y1,_,_⟩:=bS tK;obtain ⟨q0,q1⟩:=od (a:=.int .i64 PA) (c:=.slice fo F.length fcap) oK;have AX:w.heap.size<w6.heap.size:=(ae.1 oK).1;have Ho:w.heap.size+1<w6.heap.size:=(ae.1 tK).1;go_wp2_with fail
           refine aS (v:=.tuple #[.agg #[.int .i64 PA,.slice fo F.length fcap],.int .i64 ((u:Int)+1),.bool false]) (by simp [results,Tryz.results115,go_sem,q0,q1]) rfl ⟨PA,_,_,_,by rw [gp.out];rfl,?_,fun c hc=>by rw [gp.out] at hc;cases hc⟩
           exact (EJ.setCell (by exact ah _) _).setCell (by exact ah _) _
          |true=>
           by_cases Dn:u+1<LS.length
           ·have Zt:¬(LS.length:Int)<=(u:Int)+1:=by omega
            have af9:decide ((LS.length:Int)<=(u:Int)+1)=false:=by simp;omega
            obtain ⟨SL,hJ3⟩:=HGL.out (by rw [HD.out];simp [Dn]);have HY3:Hid _:=SL;have Xv:Hid _:=hJ3;clear SL hJ3 HGL L7;have tJ:=(js.block _ (by omega)).trans ((dB.block _ (by omega)).trans zq);have abI:=(KY.old dB).old js;have Zp:=aQ HO5.out js;have dU:Below TB wc w6:=df.trans ((dB.mono (by omega)).trans (js.mono (by omega)));have Zo:w6.ownsRow wr.heap.size 99 2 (.slice va ws.length vc) l'.length (acs l'):=by rw [YK.out];exact Zp
            obtain ⟨vs,li,Ps⟩:=abI;obtain ⟨t0,t1,_,ft1⟩:=bS tJ;have aby:TB<w6.heap.size:=(ae.1 tJ).1;obtain ⟨lo,lcap,rfl⟩:=aU li;have K4:Below w6.heap.size w6 (w6.alloc (Obj.cells #[.slice va ws.length vc] 100)):=(ai _ _).alloc (ah _) _;go_wp2_with (at_builtin;go_must (refine wpList_append_lies _ rfl _ _ _ rfl (TB+1) 100 i2 _ 1 24 Tryz.underlying56 lj Zi Zh Zg rfl (by omega) (.slice lo L.length lcap) L.length vs rfl ?hown _ 1 _ [.slice va ws.length vc] rfl rfl ?dA ?h1 (by omega) ?kj ?cP ?cX _ rfl ?_))
            case hown=>exact li.alloc _
            try case dA=>exact World.news_of_block (az w6 _)
            case h1=>simp [Value.oneCell']
            case kj=>unfold maxLen;omega
            case cP=>omega
            case cX=>first|omega|(simp;omega)
            intro g cap2 w7 GD tw abh agN;have Yq:=br (li.alloc _) tw (by decide) ((K4.block _ aby).trans tJ);have AS:Below TB wc w7:=(dU.alloc (by omega) _).grown tw (by simp;omega) (fun k hk=>aJ (gr _) (li.lt k hk).1);have abH:j3 w7 (TB+1) (.slice (some ⟨g,0,none⟩) (L.length+1) cap2) (L++[l']):=by
             refine ⟨vs++[.slice va ws.length vc],by rw [au];exact GD,gn.app (by have:=li.1;simpa using this) ((Ps.old K4 (fun _ _ h=>h)).type (li.alloc _) tw (fun _ h=>h)) ?_⟩
             intro z hz;have fp:z=0:=by simpa using hz
             subst fp;exact ⟨_,rfl,aY (li.alloc _) tw (by decide) ((pj Zo (by omega)).alloc _),fun _ _=>trivial⟩
            obtain ⟨z0,z1,_,fz1⟩:=bS Yq;have ahU:TB<w7.heap.size:=(ae.1 Yq).1;clear tw abh t0 t1 ft1;go_wp2_with fail
            go_roundw
            case rel=>exact ⟨j+1,L++[l'],RL,u+1,_,cV,by go_num,by go_num,by have:=HU.out;show _=_;omega,HY3,by have:=Jp.out;simp [Hid,this],by have:=Jp.out;simp;omega,Dn,Xv,AS.setCell (by exact ah _) _,bk _ Yq,abH.set Yq⟩
            case measure=>simp [intOf];omega
           ·have Zt:(LS.length:Int)<=(u:Int)+1:=by omega
            have gp:Hid _:=L7.out (by rw [HD.out];simp [Dn]);obtain ⟨x0,x1,f0,f1⟩:=bS oK;obtain ⟨y0,y1,_,_⟩:=bS tK;obtain ⟨q0,q1⟩:=od (a:=.int .i64 PA) (c:=.slice fo F.length fcap) oK;have AX:w.heap.size<w6.heap.size:=(ae.1 oK).1;have Ho:w.heap.size+1<w6.heap.size:=(ae.1 tK).1;go_wp2_with fail
            refine aS (v:=.tuple #[.agg #[.int .i64 PA,.slice fo F.length fcap],.int .i64 ((u:Int)+1),.bool false]) (by simp [results,Tryz.results115,go_sem,q0,q1]) rfl ⟨PA,_,_,_,by rw [gp.out];rfl,?_,fun c hc=>by rw [gp.out] at hc;cases hc⟩
            exact (EJ.setCell (by exact ah _) _).setCell (by exact ah _) _
        ·have nV:j=x+1:=by omega
         have iH:¬(j:Int)<=(x:Int):=by omega
         have HYF:Hid (Y=((ey n PA (n-(k+1)) (k+1) rl).1.map ((F++[⟨A,L⟩])++·),(ey n PA (n-(k+1)) (k+1) rl).2.1,(ey n PA (n-(k+1)) (k+1) rl).2.2+(u-1))):=by
          show _=_
          have h:=zi.out;rw [nV,ct] at h;simp only [cU,gF,cA,cr] at h;have h1:=Xs.out L;rw [h] at h1;rw [h1 (by simp)];congr 2
          have:=HU.out;simp only;omega
         have hbV:=df;have hTV:=zq;have abG:=KY;have aa9:Below wc.heap.size wc wr:=hbV.mono abw;have yj:=aQ ir aa9;have VD:iy wr wr.heap.size F ys:=(GX.keep (hbV.mono abv)).up (by omega);have Ez:=abG.ow;obtain ⟨lo3,lc3,tm⟩:∃a c,lv=.slice a L.length c:=by obtain ⟨vs,h1,_⟩:=Ez;obtain ⟨a,c,e⟩:=aU h1;exact ⟨a,c,e⟩
         subst tm;obtain ⟨t0,t1,_,_⟩:=bS hTV;obtain ⟨s0,s1,_,fs1⟩:=bS K0;have aii:w.heap.size+1<wr.heap.size:=by omega
         have AY:Below wr.heap.size wr (wr.alloc (Obj.cells #[.int .i64 A,.slice lo3 L.length lc3] 79)):=(ai _ _).alloc (ah _) _;go_wp2_with (at_builtin;go_must (refine wpList_append_lies _ rfl _ _ _ rfl (w.heap.size+1+1) 79 i _ 2 32 Tryz.underlying61 hi fp dQ eF rfl (by omega) (.slice fo F.length fcap) F.length ys rfl ?mR _ 1 _ [.int .i64 A,.slice lo3 L.length lc3] rfl rfl ?kC ?Hr (by omega) ?tL ?jc ?kI _ rfl ?_))
         case mR=>exact yj.alloc _
         try case kC=>exact World.news_of_block (az wr _)
         case Hr=>simp [Value.oneCell']
         case tL=>unfold maxLen;omega
         case jc=>omega
         case kI=>first|omega|(simp;omega)
         intro g cap2 w5 fd co kZ nL;have abE:=br (yj.alloc _) co (by decide) ((AY.block _ (by omega)).trans Q9);have DL:=br (yj.alloc _) co (by decide) ((AY.block _ (by omega)).trans K0);have dB:Below w.heap.size w w5:=(kX.trans (AY.mono (by omega))).grown co (by simp;omega) (fun k hk=>aJ (by omega) (yj.lt k hk).1);have Qp:iy w5 wr.heap.size (F++[⟨A,L⟩]) (ys++[.int .i64 A,.slice lo3 L.length lc3]):=iy.type (yj.alloc _) co ((iy.snoc (t:=⟨A,L⟩) Ez VD).keep AY);have ve:=co.size;simp only [bT] at ve;obtain ⟨z0,z1,_,fz1⟩:=bS DL;have aij:w.heap.size+1<w5.heap.size:=(ae.1 DL).1;clear co kZ t0 t1 s0 s1 fs1;go_wp2_with fail
         go_roundw
         case rel=>exact ⟨k+1,F++[⟨A,L⟩],rl,u,_,_,wr.heap.size,bF,by go_num,rfl,HYF,by have:=XD.out;simp [Hid,this],by have:=XD.out;simp;omega,by have:=HU.out;omega,Dm,R2,dB.setCell (by show w.heap.size<=w.heap.size+1;omega) _,(bi _ (by omega)).trans abE,bk _ DL,by rw [au];exact aB fd DL (by decide),by omega,by simp [World.setCell];omega,iy.set DL Qp⟩
         case measure=>simp [intOf];omega
    ·have eh:k=n:=by omega
     have Qd:¬(k:Int)<(n:Int):=by omega
     have gp:Hid (X=(if rj.size=0 then some ⟨PA,F⟩ else none,t+1)):=by
      show _=_
      have h:=qn.out;rw [eh,ct] at h;simp only [ey,gF,cA,cr] at h;have h1:=qO.out;rw [h] at h1;simp only at h1;rw [h1,show t-1+2=t+1 by omega]
     have un:=F8 ja HLJ.out;obtain ⟨x0,x1,f0,f1⟩:=bS mA;obtain ⟨y0,y1,_,_⟩:=bS DK;have c0:=CN.out _ hb t ja;have AX:w.heap.size<W.heap.size:=by omega
     have hqW:q<W.heap.size:=by omega
     have HQ:Hid _:=od (a:=.int .i64 PA) (c:=.slice fo F.length fcap) mA;have HFO:Hid (gR ((W.setCell ⟨w.heap.size,0,none⟩ (.int .i64 PA)).setCell ⟨w.heap.size,1,none⟩ (.slice fo F.length fcap)) (.slice fo F.length fcap) F):=(gR.set ⟨ys,bO bW (aF _),pN.up AU⟩ mA).set (bk _ mA);have I1:Hid (Below w.heap.size w ((W.setCell ⟨w.heap.size,0,none⟩ (.int .i64 PA)).setCell ⟨w.heap.size,1,none⟩ (.slice fo F.length fcap))):=(hb.setCell (by exact ah _) _).setCell (by exact ah _) _;have gZ:(ba LS[t]).toList=LS[t]:=by rw [bU];rfl
     by_cases e1:t+1=LS.length
     ·have e1':((t:Int)+1==(LS.length:Int))=true:=by simp;omega
      by_cases e2:LS[t]=[]
      ·have e2':((ba LS[t]).toList==[])=true:=by rw [gZ,e2];rfl
       have zt:Hid (X=(some ⟨PA,F⟩,t+1)):=by rw [gp.out,aA (un.2 ⟨e1,e2⟩)];rfl
       clear un gp e1 e2 gZ;go_wp2_with fail
       go_region
       all_goals
        go_wp2_with fail
        obtain ⟨q0,q1⟩:=HQ.out;exact aS (v:=.tuple #[.agg #[.int .i64 PA,.slice fo F.length fcap],.int .i64 ((t:Int)+1),.bool true]) (by simp [results,Tryz.results115,go_sem,q0,q1]) rfl ⟨PA,_,_,_,by rw [zt.out];rfl,aR I1.out,fun c hc=>by rw [zt.out] at hc;cases hc;exact ⟨rfl,gR.old HFO.out (aR (ai _ _))⟩⟩
      ·have e2':((ba LS[t]).toList==[])=false:=by rw [gZ];simpa using e2
       have zt:Hid (X=(none,t+1)):=by rw [gp.out,ay (fun h=>e2 (un.1 h).2)];rfl
       clear un gp e1 e2 gZ;go_wp2_with fail
       go_region
       all_goals
        go_wp2_with fail
        obtain ⟨q0,q1⟩:=HQ.out;exact aS (v:=.tuple #[.agg #[.int .i64 PA,.slice fo F.length fcap],.int .i64 ((t:Int)+1),.bool false]) (by simp [results,Tryz.results115,go_sem,q0,q1]) rfl ⟨PA,_,_,_,by rw [zt.out];rfl,aR I1.out,fun c hc=>by rw [zt.out] at hc;cases hc⟩
     ·have e1':((t:Int)+1==(LS.length:Int))=false:=by simp;omega
      have e1n:¬(t:Int)+1=(LS.length:Int):=by omega
      have zt:Hid (X=(none,t+1)):=by rw [gp.out,ay (fun h=>e1 (un.1 h).1)];rfl
      clear un gp e1 gZ;go_wp2_with fail
      go_region
      all_goals
       go_wp2_with fail
       obtain ⟨q0,q1⟩:=HQ.out;exact aS (v:=.tuple #[.agg #[.int .i64 PA,.slice fo F.length fcap],.int .i64 ((t:Int)+1),.bool false]) (by simp [results,Tryz.results115,go_sem,q0,q1]) rfl ⟨PA,_,_,_,by rw [zt.out];rfl,aR I1.out,fun c hc=>by rw [zt.out] at hc;cases hc⟩
theorem JH (s:ByteArray) (w:World) (hs:s.size<=maxLen):
 Calls Tryz.prog 69 #[.string s] w fun e w'=>∃mn fo fl fc,e=.returned (.tuple #[.agg #[.int .i64 mn,.slice fo fl fc],.int .i64 (rdL s),.int .i64 (rdE s)])/\Below w.heap.size w w'/\(rdC s=none->mn=0/\Value.slice fo fl fc=.slice none 0 0)/\∀c,rdC s=some c->mn=c.mn/\gR w' (.slice fo fl fc) c.fs:=by
 unfold maxLen at hs;by_cases kY:30000<s.size
 ·have HV:Hid (rdL s=0/\rdE s=1/\rdC s=none):=by simp [Hid,rdL,rdE,rdC,kY]
  rw [HV.out.1,HV.out.2.1,HV.out.2.2];have oT:(30000:Int)<(s.size:Int):=by omega
  go_enter Tryz.func69,Tryz.ntmps69
  go_wp2_with fail
  exact aS (v:=.tuple #[.agg #[.int .i64 0,.slice none 0 0],.int .i64 0,.int .i64 1]) (by simp [results,Tryz.results69,go_sem]) rfl ⟨0,_,_,_,rfl,(ai _ _).alloc (ah _) _,fun _=>⟨rfl,rfl⟩,fun c hc=>by cases hc⟩
 have rA:s.size<=30000:=by omega
 have HV:Hid (rdL s=(if (iC s).1.isSome then 0 else (iC s).2:Int)/\rdE s=(if (iC s).1.isSome then 0 else 7)/\rdC s=(iC s).1):=by simp [Hid,rdL,rdE,rdC,kY]
 rw [HV.out.1,HV.out.2.1,HV.out.2.2];clear HV;have HS:Hid _:=FC s 10 (w.alloc (Obj.cells #[.int .i64 0,.slice none 0 0] 63)) rA;have j7:Hid _:=fun (a:Option Addr) (cap:Nat) (LS:List (List UInt8)) (w:World) (h:spL 10 s.data.toList=LS)=>TA s a cap LS w h rA
 generalize hLS:spL 10 s.data.toList=LS at*;have Xs:Hid (spL 10 s.data.toList=LS):=hLS;clear hLS;generalize iC s=X at*;obtain ⟨o,lnn⟩:=X;simp only at j7 ⊢;have hbn:¬(30000:Int)<(s.size:Int):=by omega
 go_enter Tryz.func69,Tryz.ntmps69
 go_wp2_with fail
 refine (show Calls _ _ _ _ _ from HS.out).mono ?_
 rintro e w1 ⟨a,cap,rfl,bB,bW,oz⟩
 clear HS;have vp:=dx bB;have mW:Below w.heap.size w w1:=((ai _ _).alloc (ah _) _).trans (bB.mono (by simp));have AN:=mW.size;have Q8:w.heap.size<w1.heap.size:=(ae.1 vp).1;have HC:Hid _:=j7.out a cap LS w1 rfl oz (bO bW (aF _));clear j7 bW;go_wp2_with fail
 refine (show Calls _ _ _ _ _ from HC.out).mono ?_
 rintro e w2 ⟨mn,fo,fl,fc,rfl,bX,ip⟩
 clear HC;have adv:Hid _:=ip;clear ip;have Q0:=bX.size;have je:Below w.heap.size w w2:=mW.trans (bX.mono AN);have AW:=(bX.block _ Q8).trans vp;have ahZ:w.heap.size<w2.heap.size:=(ae.1 AW).1;obtain ⟨x0,x1,f0,f1⟩:=bS AW;cases o with
 |none=>
  simp only [Option.isSome_none];have qD:((w2.setCell ⟨w.heap.size,0,none⟩ (.int .i64 0)).setCell ⟨w.heap.size,1,none⟩ (.slice none 0 0)).heap.size=w2.heap.size:=by simp [World.setCell]
  have si:=(aO ((w2.setCell ⟨w.heap.size,0,none⟩ (.int .i64 0)).setCell ⟨w.heap.size,1,none⟩ (.slice none 0 0)) (Obj.cells #[.int .i64 mn,.slice fo fl fc] 63) w.heap.size (by rw [qD];omega)).trans (bk _ (bk _ AW));have IQ:Hid _:=al _ _ 0 _ _ _ si;have sw:Hid _:=al _ _ 1 _ _ _ si;have I1:Hid (Below w.heap.size w (((w2.setCell ⟨w.heap.size,0,none⟩ (.int .i64 0)).setCell ⟨w.heap.size,1,none⟩ (.slice none 0 0)).alloc (Obj.cells #[.int .i64 mn,.slice fo fl fc] 63))):=(((je.setCell (by exact ah _) _).setCell (by exact ah _) _).alloc (by rw [qD];omega) _);clear si;go_wp2_with fail
  have q0:=IQ.out;have q1:=sw.out;refine aS (v:=.tuple #[.agg #[.int .i64 0,.slice none 0 0],.int .i64 lnn,.int .i64 7]) (by simp [results,Tryz.results69,go_sem,q0,q1]) rfl ⟨0,none,0,0,rfl,I1.out,?_⟩
  simp
 |some c=>
  simp only [Option.isSome_some];have qD:((w2.setCell ⟨w.heap.size,0,none⟩ (.int .i64 mn)).setCell ⟨w.heap.size,1,none⟩ (.slice fo fl fc)).heap.size=w2.heap.size:=by simp [World.setCell]
  have si:=(aO ((w2.setCell ⟨w.heap.size,0,none⟩ (.int .i64 mn)).setCell ⟨w.heap.size,1,none⟩ (.slice fo fl fc)) (Obj.cells #[.int .i64 mn,.slice fo fl fc] 63) w.heap.size (by rw [qD];omega)).trans (bk _ (bk _ AW));have IQ:Hid _:=al _ _ 0 _ _ _ si;have sw:Hid _:=al _ _ 1 _ _ _ si;have I1:Hid (Below w.heap.size w (((w2.setCell ⟨w.heap.size,0,none⟩ (.int .i64 mn)).setCell ⟨w.heap.size,1,none⟩ (.slice fo fl fc)).alloc (Obj.cells #[.int .i64 mn,.slice fo fl fc] 63))):=(((je.setCell (by exact ah _) _).setCell (by exact ah _) _).alloc (by rw [qD];omega) _);clear si;go_wp2_with fail
  have q0:=IQ.out;have q1:=sw.out;refine aS (v:=.tuple #[.agg #[.int .i64 mn,.slice fo fl fc],.int .i64 0,.int .i64 0]) (by simp [results,Tryz.results69,go_sem,q0,q1]) rfl ⟨mn,fo,fl,fc,rfl,I1.out,?_⟩
  have h:=adv.out c rfl;exact ⟨h.1,((gR.set h.2 AW).set (bk _ AW)).old ((ai _ _).alloc (ah _) _)⟩
theorem YZ (s:ByteArray) (bud hp:Int) (w:World) (hs:s.size<=maxLen) (he:rdC s=none):
 Calls Tryz.prog 75 #[.string s,.int .i64 bud,.int .i64 hp] w fun e w'=>e=.returned (.tuple #[.agg #[.int .i64 0,.int .i64 0,.int .i64 0],.int .i64 (rdE s)])/\Below w.heap.size w w':=by
 have dI:=BJ he;have HC:Hid _:=JH s (w.alloc (Obj.cells #[.int .i64 0,.int .i64 0,.int .i64 0] 24)) hs;generalize rdE s=er at*;generalize rdL s=rl at*;have pJ:(er==0)=false:=by simpa using dI
 have HN:Hid (rdC s=none):=he;clear he;go_enter Tryz.func75,Tryz.ntmps75
 go_wp2_with fail
 refine (show Calls _ _ _ _ _ from HC.out).mono ?_
 rintro e w1 ⟨mn,fo,fl,fc,rfl,bB,hz,_⟩
 clear HC;have hX:=(bB.block w.heap.size (by simp)).trans (az w _);have oz:w.heap.size<w1.heap.size:=(ae.1 hX).1;have r0:=al w1 w.heap.size 0 _ _ _ hX;have r1:=al w1 w.heap.size 1 _ _ _ hX;have r2:=al w1 w.heap.size 2 _ _ _ hX;simp only [ax,ap,aq] at r0 r1 r2;have z0:=aG w1 w.heap.size 0 _ _ hX;have z1:=aG w1 w.heap.size 1 _ _ hX;have z2:=aG w1 w.heap.size 2 _ _ hX;have jm:Hid _:=hX;have eI:Hid (Below w.heap.size w w1):=(bM w _).trans (bB.mono (by simp));clear hX bB;go_wp2_with fail
 obtain ⟨q0,q1,q2,q3⟩:=iJ w w1 _ _ _ (.int .i64 0) (.int .i64 0) (.int .i64 0) _ jm.out eI.out;exact aS (v:=.tuple #[.agg #[.int .i64 0,.int .i64 0,.int .i64 0],.int .i64 er]) (by simp [results,Tryz.results75,go_sem,q0,q1,q2]) rfl ⟨rfl,q3 _⟩
theorem Y0 (s:ByteArray) (bud hp:Int) (cd:Cd) (w:World) (hs:s.size<=maxLen) (eu:rdC s=some cd) (hb:zQ bud hp):
 Calls Tryz.prog 75 #[.string s,.int .i64 bud,.int .i64 hp] w fun e w'=>e=.returned (.tuple #[.agg #[.int .i64 0,.int .i64 0,.int .i64 0],.int .i64 8])/\Below w.heap.size w w':=by
 have HC:Hid _:=JH s (w.alloc (Obj.cells #[.int .i64 0,.int .i64 0,.int .i64 0] 24)) hs;rw [pd eu] at HC;generalize rdL s=rl at*;have j7:Hid (rdC s=some cd):=eu;clear eu;unfold zQ at hb;go_enter Tryz.func75,Tryz.ntmps75
 go_wp2_with fail
 refine (show Calls _ _ _ _ _ from HC.out).mono ?_
 rintro e w1 ⟨mn,fo,fl,fc,rfl,bB,hz,_⟩
 clear HC;have hX:=(bB.block w.heap.size (by simp)).trans (az w _);have oz:w.heap.size<w1.heap.size:=(ae.1 hX).1;have r0:=al w1 w.heap.size 0 _ _ _ hX;have r1:=al w1 w.heap.size 1 _ _ _ hX;have r2:=al w1 w.heap.size 2 _ _ _ hX;simp only [ax,ap,aq] at r0 r1 r2;have z0:=aG w1 w.heap.size 0 _ _ hX;have z1:=aG w1 w.heap.size 1 _ _ hX;have z2:=aG w1 w.heap.size 2 _ _ hX;have jm:Hid _:=hX;have eI:Hid (Below w.heap.size w w1):=(bM w _).trans (bB.mono (by simp));clear hX bB;by_cases h1:bud<0
 ·have mu:decide (bud<0)=true:=bG h1;go_wp2_with fail
  obtain ⟨q0,q1,q2,q3⟩:=iJ w w1 _ _ _ (.int .i64 0) (.int .i64 0) (.int .i64 0) _ jm.out eI.out;exact aS (v:=.tuple #[.agg #[.int .i64 0,.int .i64 0,.int .i64 0],.int .i64 8]) (by simp [results,Tryz.results75,go_sem,q0,q1,q2]) rfl ⟨rfl,q3 _⟩
 ·have mu:decide (bud<0)=false:=bn h1;by_cases h2:2000<bud
  ·have jz:decide (2000<bud)=true:=bG h2;go_wp2_with fail
   obtain ⟨q0,q1,q2,q3⟩:=iJ w w1 _ _ _ (.int .i64 0) (.int .i64 0) (.int .i64 0) _ jm.out eI.out;exact aS (v:=.tuple #[.agg #[.int .i64 0,.int .i64 0,.int .i64 0],.int .i64 8]) (by simp [results,Tryz.results75,go_sem,q0,q1,q2]) rfl ⟨rfl,q3 _⟩
  ·have jz:decide (2000<bud)=false:=bn h2;by_cases h3:hp<0
   ·have mV:decide (hp<0)=true:=bG h3;go_wp2_with fail
    obtain ⟨q0,q1,q2,q3⟩:=iJ w w1 _ _ _ (.int .i64 0) (.int .i64 0) (.int .i64 0) _ jm.out eI.out;exact aS (v:=.tuple #[.agg #[.int .i64 0,.int .i64 0,.int .i64 0],.int .i64 8]) (by simp [results,Tryz.results75,go_sem,q0,q1,q2]) rfl ⟨rfl,q3 _⟩
   ·have mV:decide (hp<0)=false:=bn h3;have QC:decide (24000<hp)=true:=bG (by omega);go_wp2_with fail
    obtain ⟨q0,q1,q2,q3⟩:=iJ w w1 _ _ _ (.int .i64 0) (.int .i64 0) (.int .i64 0) _ jm.out eI.out;exact aS (v:=.tuple #[.agg #[.int .i64 0,.int .i64 0,.int .i64 0],.int .i64 8]) (by simp [results,Tryz.results75,go_sem,q0,q1,q2]) rfl ⟨rfl,q3 _⟩
end Go.Proofs.YtnndoagpbcacdabGreatDoor
