import Derived.Test.YtnndoagpbcacdabGreatDoorMM10
import Derived.Test.YtnndoagpbcacdabGreatDoorMW5
namespace Go.Proofs.YtnndoagpbcacdabGreatDoor
set_option maxHeartbeats 8000000
set_option maxRecDepth 100000
open Go.RowKit
theorem MP.fresh {w w1:World} {B mb:Nat} {fv:Value} {c:Cf} {s:Ms} {K:Nat->Prop} (h:MP w B mb fv c s K) (hb:Below w.heap.size w w1):MP w1 B mb fv c s (fun k=>K k\/(w.heap.size<=k/\k<w1.heap.size)):=by
 obtain ⟨sv,rv,nv,ev,vs,h⟩:=h;exact ⟨_,_,_,_,_,(h.old hb).fromT h.mlt⟩
theorem gd.below {w w':World} {T:Nat} {v:Value} {L:List Ln} (h:gd w T v L) (hb:Below T w w'):gd w' T v L:=gd.keep h hb
theorem xH:∀(n:Nat) (s:Ms),(hZ n s).stk=s.stk
 |0,_=>rfl
 |n+1,s=>by
  rw [hZ,xH n (jO s)];unfold jO;split<;>rfl
theorem Zb (t:Tp) (lo:Option Addr) (lc:Nat) (T B mb:Nat) (fv:Value) (c:Cf) (s:Ms) (K:Nat->Prop) (w:World) (h:MP w B mb fv c s K) (bd:Bd s) (Hm:T<=B) (j9:gd w T (.slice lo t.ls.length lc) t.ls) (SK:0<=t.ar) (SI:t.ar<=100) (Dq:1<=t.ls.length) (wH:t.ls.length<=100) (yz:∀l∈t.ls,l.length<=1000) (Cj:0<=c.hp) (Kz:c.hp<=1099511627770):
 Calls Tryz.prog 59 #[.pointer (some ⟨mb,0,none⟩),.agg #[.int .i64 t.ar,.slice lo t.ls.length lc]] w fun e w'=>(∃v,e=.returned v)/\Below B w w'/\dm K w w'/\MP w' B mb fv c (rI c t s) K:=by
 have pS:B<=w.heap.size:=by have:=h.lt;have:=h.lo;omega
 obtain ⟨ar,ls⟩:=t;simp only at*;obtain ⟨na,rfl⟩:=aZ SK;have zw:Hid _:=BX B mb fv c s _ _ (h.box (Obj.cells #[.int .i64 (na:Int),.slice lo ls.length lc] 79));have zi:Hid (∀w',Below B w w'->gd w' T (.slice lo ls.length lc) ls):=fun w' hb=>j9.below (hb.mono Hm)
 have jM:Hid (Bd s):=bd;clear h j9 bd;by_cases iH:c.bud<=s.stp
 ·have hd:decide (s.stp<c.bud)=false:=by simp;omega
  have HE:Hid (rI c ⟨(na:Int),ls⟩ s={s with out:=5}):=aA iH;rw [HE.out];rw [hd,aA iH] at zw;clear HE;go_enter Tryz.func59,Tryz.ntmps59
  go_wp2_with fail
  refine (show Calls _ _ _ _ _ from zw.out).mono ?_
  rintro e w0 ⟨rfl,jZ,qi,lX⟩
  have HM:Hid _:=lX;clear lX zw;go_wp2_with fail
  exact aS (v:=.tuple #[]) (by simp [results,Tryz.results59,go_sem]) rfl ⟨⟨_,rfl⟩,((ai B w).alloc pS _).trans jZ,(dm.old (bM w _)).trans (qi.less fun k hk=>.inl hk) (by simp),MP.less HM.out fun k hk=>.inl hk⟩
 ·have hd:decide (s.stp<c.bud)=true:=by simp;omega
  rw [hd,ay iH] at zw;have HIN:Hid ((ls.length:Int)-1=((ls.length-1:Nat):Int)):=by show _=_;omega
  have HE:Hid (rI c ⟨(na:Int),ls⟩ s=if ((ls.length-1:Nat):Int)<=lD c (gh c ((ls.length-1:Nat):Int) s) then mh (qy na (gh c ((ls.length-1:Nat):Int) s).stk.tail) (takeL (ls.length-1) {gh c ((ls.length-1:Nat):Int) s with stp:=(gh c ((ls.length-1:Nat):Int) s).stp+1,stk:=(gh c ((ls.length-1:Nat):Int) s).stk.tail.drop na}) 0 ls (hZ (ls.length-1) {gh c ((ls.length-1:Nat):Int) s with stp:=(gh c ((ls.length-1:Nat):Int) s).stp+1,stk:=(gh c ((ls.length-1:Nat):Int) s).stk.tail.drop na}) else {gh c ((ls.length-1:Nat):Int) s with out:=6}):=by
   show _=_
   unfold rI;rw [ay iH];simp only [HIN.out,bC]
  rw [HE.out];clear HE;have EE:(gh c ((ls.length-1:Nat):Int) s).stk=s.stk/\(gh c ((ls.length-1:Nat):Int) s).stp=s.stp/\(gh c ((ls.length-1:Nat):Int) s).frs=s.frs/\(gh c ((ls.length-1:Nat):Int) s).nds=s.nds/\(gh c ((ls.length-1:Nat):Int) s).fre.length<=1099511620000:=by
   unfold gh;split
   ·exact ⟨rfl,rfl,rfl,rfl,aJ (wV s) jM.out.l3⟩
   ·exact ⟨rfl,rfl,rfl,rfl,jM.out.l4⟩
  have Bn:Hid _:=EE;clear EE;have kp:Hid (∀w1 K1,MP w1 B mb fv c s K1->Calls Tryz.prog 97 #[.pointer (some ⟨mb,0,none⟩),.int .i64 ((ls.length-1:Nat):Int)] w1 fun e w'=>e=.returned (.bool (decide (((ls.length-1:Nat):Int)<=lD c (gh c ((ls.length-1:Nat):Int) s))))/\Below B w1 w'/\dm K1 w1 w'/\MP w' B mb fv c (gh c ((ls.length-1:Nat):Int) s) K1):=fun w1 K1 hm=>FZ _ B mb fv c s K1 w1 hm (by have:=jM.out.l3;omega) (by have:=jM.out.l1;omega) (by have:=jM.out.l2;omega) (fun n hn=>by have:=jM.out.l5 n hn;omega) (by have:=jM.out.l4;omega) (by have:=wV s;have:=jM.out.l3;omega) Cj Kz
  generalize gh c ((ls.length-1:Nat):Int) s=s1 at*;generalize yE:ls.length-1=n at*;have oC:n+1=ls.length:=by omega
  have NC:Hid (n+1=ls.length):=oC;have ag5:(ls.length:Int)-1=(n:Int):=by omega
  clear yE HIN;go_enter Tryz.func59,Tryz.ntmps59
  go_wp2_with fail
  refine (show Calls _ _ _ _ _ from zw.out).mono ?_
  rintro e w0 ⟨rfl,jZ,qi,lX⟩
  have uD:Hid _:=qi.blk (.inr rfl) (az w _);have aab:w.heap.size<w0.heap.size:=(ae.1 uD.out).1;obtain ⟨p0,p1⟩:=iM uD.out;have qe:Hid (Below B w w0):=((ai B w).alloc pS _).trans jZ;have El:Hid (dm K w w0):=(dm.old (bM w _)).trans (qi.less fun k hk=>.inl hk) (by simp);have HC:Hid _:=kp.out w0 _ lX;clear zw kp jZ qi lX;go_wp2_with fail
  refine (show Calls _ _ _ _ _ from HC.out).mono ?_
  rintro e w1 ⟨rfl,bB,eA,fR⟩
  have xl:Hid _:=eA.blk (.inr rfl) uD.out;have um:w.heap.size<w1.heap.size:=(ae.1 xl.out).1;have eI:Hid (Below B w w1):=qe.out.trans bB;have mr:Hid (dm K w w1):=El.out.trans (eA.less fun k hk=>.inl hk) qe.out.size;obtain ⟨sv,rv,nv,ev,vs,fR⟩:=fR;have c7:=fR.c7;have f7:=fR.fz 7;have c8:=fR.c8;have f8:=fR.fz 8;have pK:=fR.lt;have jN:=fR.lo;have GJ:=fR.noK;have nF:Hid _:=fR;clear HC bB eA fR qe El uD p0 p1 aab;by_cases oF:(n:Int)<=lD c s1
  ·have hdf:decide ((n:Int)<=lD c s1)=true:=by simpa using oF
   have Zw:=Bn.out.2.1;have fH:=jM.out.s1;have k9:=jM.out.s2;have adT:0<=s1.stp:=by omega
   have adS:s1.stp<=1000000:=by omega
   have RO:Hid (s1.stk.length<=1099511620000):=by have:=jM.out.l1;rw [<-Bn.out.1] at this;exact this
   clear Zw fH k9;have HF:Hid (MP (w1.setCell ⟨mb,7,none⟩ (.int .i64 (s1.stp+1))) B mb fv c {s1 with stp:=s1.stp+1} (fun k=>K k\/k=w.heap.size)):=⟨_,_,_,_,_,nF.out.field rfl rfl rfl rfl rfl⟩;have gj:Hid (Below B w (w1.setCell ⟨mb,7,none⟩ (.int .i64 (s1.stp+1)))):=eI.out.setCell (by exact jN) _;have uC:Hid (dm K w (w1.setCell ⟨mb,7,none⟩ (.int .i64 (s1.stp+1)))):=mr.out.trans (dm.set fun hk=>GJ (.inl hk)) eI.out.size;have xk:Hid _:=(dm.set (K:=fun k=>K k\/k=w.heap.size) (w:=w1) (i:=7) (u:=.int .i64 (s1.stp+1)) GJ).blk (.inr rfl) xl.out;have ix:Hid _:=JY B mb fv c {s1 with stp:=s1.stp+1} _ _ HF.out (by show s1.stk.length<=_;have:=RO.out;omega);generalize hdI ({s1 with stp:=s1.stp+1}:Ms).stk=x0 at*;clear eI mr xl HF nF c8 f8 GJ;go_wp2_with fail
   refine (show Calls _ _ _ _ _ from ix.out).mono ?_
   rintro e w3 ⟨rfl,df,my,⟨sv3,rv3,nv3,ev3,vs3,mt⟩⟩
   have zk:Hid _:=my.blk (.inr rfl) xk.out;have tn:w.heap.size<w3.heap.size:=(ae.1 zk.out).1;obtain ⟨p0,p1⟩:=iM zk.out;have lu:Hid (Below B w w3):=gj.out.trans df;have xB:Hid (dm K w w3):=uC.out.trans (my.less fun k hk=>.inl hk) gj.out.size;have zu:Hid _:=mt.mlt;have zv:Hid _:=JX na B mb fv c (fX {s1 with stp:=s1.stp+1}) _ sv3 rv3 nv3 ev3 vs3 w3 mt (by show s1.stk.tail.length<=_;rw [ce];have:=RO.out;omega) (by omega);have HP4:Hid (({fX {s1 with stp:=s1.stp+1} with stk:=(fX {s1 with stp:=s1.stp+1}).stk.drop na}:Ms)={s1 with stp:=s1.stp+1,stk:=s1.stk.tail.drop na}/\qy na (fX {s1 with stp:=s1.stp+1}).stk=qy na s1.stk.tail):=⟨rfl,rfl⟩;rw [HP4.out.1,HP4.out.2] at zv;clear ix df my mt gj uC xk HP4 c7 f7 pK;go_wp2_with fail
   refine (show Calls _ _ _ _ _ from zv.out).mono ?_
   rintro e w4 ⟨av,rfl,dU,tu,s9,sv4,sa,xq⟩
   have qD:=dU.size;have XV:Hid _:=tu.blk (.inr rfl) zk.out;have ni:Hid (Below B w w4):=lu.out.trans dU;have CM:Hid (dm K w w4):=xB.out.trans (tu.less fun k hk=>.inl hk) lu.out.size;have zh:Hid _:=sa.fromT (T:=w3.heap.size) ⟨zu.out.m,by rw [xq];exact zu.out.s,zu.out.r,zu.out.n,zu.out.e,zu.out.v⟩;have nQ:Hid (w4.ownsRow w3.heap.size 90 2 av na (acs (qy na s1.stk.tail))):=s9;obtain ⟨ao,ac,rfl⟩:=aU s9;have Z3:s1.nds.length<=1099511627000:=by have:=jM.out.l3;rw [<-Bn.out.2.2.2.1] at this;omega
   have aaB:s1.fre.length<=1099511627770:=by have:=Bn.out.2.2.2.2;omega
   have xC:Hid _:=z8 n B mb fv c {s1 with stp:=s1.stp+1,stk:=s1.stk.tail.drop na} _ sv4 rv3 nv3 ev3 vs3 w4 zh.out (by omega) Z3 aaB;clear zv dU tu s9 sa xq lu xB zk zu zh p0 p1;go_wp2_with fail
   refine (show Calls _ _ _ _ _ from xC.out).mono ?_
   rintro e w5 ⟨pv,rfl,dB,wI,pF,Vh⟩
   have ve:=dB.size;have XU:Hid _:=wI.blk (.inl (.inr rfl)) XV.out;have nL:w.heap.size<w5.heap.size:=(ae.1 XU.out).1;obtain ⟨p0,p1⟩:=iM XU.out;have xm:Hid (Below B w w5):=ni.out.trans dB;have HK5:Hid (dm K w w5):=CM.out.trans (wI.less fun k hk=>.inl (.inl hk)) ni.out.size;have LY:Hid (w5.ownsRow w3.heap.size 90 2 (.slice ao na ac) na (acs (qy na s1.stk.tail))):=j8 nQ.out wI (fun k hk=>.inr (nQ.out.lt k hk));have NH:Hid (∀k,(Value.slice ao na ac).ownBlock=some k->w3.heap.size<=k/\k<w4.heap.size):=fun k hk=>nQ.out.lt k hk
   obtain ⟨po,pc,rfl⟩:=aU pF;have HRP:Hid (w5.ownsRow w4.heap.size 3 1 (.slice po n pc) n (jp (takeL n {s1 with stp:=s1.stp+1,stk:=s1.stk.tail.drop na}))):=pF;have YG:Hid _:=Vh;have gU:Hid ((qy na s1.stk.tail).length=na):=BQ _ _;have i5:Hid ((takeL n {s1 with stp:=s1.stp+1,stk:=s1.stk.tail.drop na}).length=n):=xI _ _;have Xe:Hid ((hZ n {s1 with stp:=s1.stp+1,stk:=s1.stk.tail.drop na}).nds.length<=1099511627200/\(hZ n {s1 with stp:=s1.stp+1,stk:=s1.stk.tail.drop na}).stk.length<=1099511620000):=by
    refine ⟨?_,?_⟩
    ·have h:=(sF n {s1 with stp:=s1.stp+1,stk:=s1.stk.tail.drop na}).1;simp only at h;omega
    ·rw [xH];show (s1.stk.tail.drop na).length<=_
     rw [cI,ce];have:=RO.out;omega
   generalize Do:hZ n {s1 with stp:=s1.stp+1,stk:=s1.stk.tail.drop na}=st0 at*;generalize r9:takeL n {s1 with stp:=s1.stp+1,stk:=s1.stk.tail.drop na}=PS at*;generalize Sl:qy na s1.stk.tail=AR at*;have sw:Hid _:=Do;have LZ:Hid _:=r9;have HQ3:Hid _:=Sl;clear Do r9 Sl;have YL:Hid (∀k,K k->(((K k\/k=w.heap.size)\/(w3.heap.size<=k/\k<w4.heap.size))\/(Value.slice po n pc).ownBlock=some k)):=fun k hk=>.inl (.inl (.inl hk))
   clear xC dB wI pF Vh ni CM XV nQ;go_wp2_with fail
   go_loopw [47] (fun y wr=>∃(j:Nat) (st:Ms),j<=ls.length/\y=.int .i64 j/\w5.heap.size<=wr.heap.size/\Hid (Below B w5 wr)/\Hid (dm (fun k=>((K k\/k=w.heap.size)\/(w3.heap.size<=k/\k<w4.heap.size))\/(Value.slice po n pc).ownBlock=some k) w5 wr)/\Hid (MP wr B mb fv c st (fun k=>((K k\/k=w.heap.size)\/(w3.heap.size<=k/\k<w4.heap.size))\/(Value.slice po n pc).ownBlock=some k))/\Hid (mh AR PS j (ls.drop j) st=mh AR PS 0 ls st0)/\st.nds.length<=1099511627200/\st.stk.length<=1099511620000+1000*j) (fun y _=>ls.length-(intOf y).toNat)
   case atStart=>exact ⟨0,st0,aF _,rfl,ah _,ai _ _,dm.refl _ _,YG.out,rfl,Xe.out.1,Xe.out.2⟩
   case round=>
    clear YG Xe p0 p1 nL;obtain ⟨j,st,hj,rfl,iG,HBr,Xu,YD,HLr,lx,fZ⟩:=hrel;have XT:Hid (Below B w wr):=xm.out.trans HBr.out;by_cases dG:j<ls.length
    ·obtain ⟨lo',lc',aae,yB,uq,jA⟩:=zi.out wr XT.out;cases aae
     unfold maxLen at uq;rcases jA with hz|⟨lb,off,rfl,ur,cJ⟩
     ·omega
     obtain ⟨lv,u0,dt⟩:=cJ j dG;have Qa:lb<wr.heap.size:=by have:=XT.out.size;omega
     have un:=yz ls[j] (aE dG);have hTr:T<=wr.heap.size:=by have:=XT.out.size;omega
     have HC6:Hid _:=Za ls[j] AR PS lv (.slice ao na ac) (.slice po n pc) T w3.heap.size w4.heap.size wr hTr dt (by rw [gU.out];exact j8 LY.out Xu.out (fun k hk=>.inl (.inr (NH.out k hk)))) (by rw [i5.out];exact j8 HRP.out Xu.out (fun k hk=>.inr hk)) un (by rw [gU.out];omega) (by rw [i5.out];omega);have R3:Hid ((cL ls[j] AR PS).length=ls[j].length):=by show _=_;simp [cL]
     have HD:Hid (ls.drop j=ls[j]::ls.drop (j+1)):=aW dG;have abf:∃lo2 lc2,lv=.slice lo2 ls[j].length lc2:=by obtain ⟨a,cp,e,_⟩:=dt;exact ⟨a,cp,e⟩
     obtain ⟨lo2,lc2,mx⟩:=abf;subst mx;generalize ls[j]=l at*;clear dt cJ;go_wp2_with fail
     refine (show Calls _ _ _ _ _ from HC6.out).mono ?_
     rintro e w6 ⟨v,rfl,js,MV⟩
     have vd:=js.size;have YF:Hid _:=YD.out.fresh js;have HV6:Hid (∀k,v.ownBlock=some k->wr.heap.size<=k/\k<w6.heap.size):=fun k hk=>MV.lt k hk
     have SS:B<=wr.heap.size:=by have:=XT.out.size;omega
     have HB6:Hid (Below B w5 w6):=HBr.out.trans (js.mono SS);have IU:Hid (dm (fun k=>((K k\/k=w.heap.size)\/(w3.heap.size<=k/\k<w4.heap.size))\/(Value.slice po n pc).ownBlock=some k) w5 w6):=Xu.out.trans (dm.old js) iG;have ud:Hid (w6.ownsRow B 90 2 v (cL l AR PS).length (acs (cL l AR PS))):=by rw [R3.out];exact bO MV SS
     have ly:(cL l AR PS).length<=1000:=by rw [R3.out];exact un
     obtain ⟨vo,vc,rfl⟩:=aU MV;clear HC6 MV js YD HBr Xu u0;by_cases sd:j=0
     ·subst sd;have Bq:Hid (mh AR PS 1 (ls.drop 1) (qS (cL l AR PS) st)=mh AR PS 0 ls st0):=by rw [<-HLr.out,HD.out];rfl
      have XS:Hid _:=Y7 (cL l AR PS) (.slice vo l.length vc) B B mb fv c st _ w6 YF.out ud.out (fun k hk=>.inr (HV6.out k hk)) (by omega);clear YF ud;go_wp2_with fail
      refine (show Calls _ _ _ _ _ from XS.out).mono ?_
      rintro e w7 ⟨⟨v7,rfl⟩,AS,Vt,Vg⟩
      have hs7:=AS.size;have S6:Hid (Below B w5 w7):=HB6.out.trans AS;have HK7:Hid _:=IU.out.trans (Vt.less fun k hk=>.inl hk) (by omega);have HM7:Hid _:=Vg.less fun k hk=>.inl hk
      have Po:(qS (cL l AR PS) st).stk.length<=1099511620000+1000*(0+1):=by show (cL l AR PS++st.stk).length<=_;rw [au];omega
      clear XS AS Vt Vg;go_wp2_with fail
      go_roundw
      case rel=>exact ⟨0+1,_,dG,by go_num,by omega,S6.out,HK7.out,HM7.out,Bq.out,lx,Po⟩
      case measure=>simp [intOf];omega
     ·obtain ⟨i,rfl⟩:∃i,j=i+1:=⟨j-1,by omega⟩;have yE:i<n:=by have:=NC.out;omega
      have hip:i<PS.length:=by rw [i5.out];exact yE
      have Bq:Hid (mh AR PS (i+1+1) (ls.drop (i+1+1)) (xn PS[i] (cL l AR PS,false) st)=mh AR PS 0 ls st0):=by
       rw [<-HLr.out,HD.out];show _=mh AR PS (i+2) _ (if i<PS.length then xn (PS[i]?.getD 0) (cL l AR PS,false) st else st)
       rw [aA hip,aj hip];rfl
      have ZE:=j8 HRP.out IU.out (fun k hk=>.inr hk);obtain ⟨pq,cap',hq,yp,dX⟩:=ZE.form (by omega);cases hq
      have n0:=aH ZE i _ (Ac PS i hip);generalize PS[i]=pi at*;have XS:Hid _:=adz pi (.slice vo l.length vc) (cL l AR PS) false B mb fv c st _ w6 YF.out ud.out (fun k hk=>.inr (HV6.out k hk)) (by omega);have e1:(((i+1:Nat):Int)-1)=(i:Int):=by omega
      have g0:(((i+1:Nat):Int)==0)=false:=by simp;omega
      have g0':((i:Int)+1==0)=false:=by simp;omega
      have g0'':¬(i:Int)+1=0:=by omega
      have g1:decide (((i+1:Nat):Int)<=(n:Int))=true:=by simp;omega
      have g1':decide ((i:Int)+1<=(n:Int))=true:=by simp;omega
      clear ZE YF ud;go_wp2_with fail
      refine (show Calls _ _ _ _ _ from XS.out).mono ?_
      rintro e w7 ⟨⟨v7,rfl⟩,AS,Vt,Vg⟩
      have hs7:=AS.size;have S6:Hid (Below B w5 w7):=HB6.out.trans AS;have HK7:Hid _:=IU.out.trans (Vt.less fun k hk=>.inl hk) (by omega);have HM7:Hid _:=Vg.less fun k hk=>.inl hk
      have P9:(xn pi (cL l AR PS,false) st).nds.length=st.nds.length/\(xn pi (cL l AR PS,false) st).stk=st.stk:=by
       unfold xn;split
       ·exact ⟨by simp,rfl⟩
       ·exact ⟨rfl,rfl⟩
      have Z2:(xn pi (cL l AR PS,false) st).nds.length<=1099511627200:=by rw [P9.1];exact lx
      have Po:(xn pi (cL l AR PS,false) st).stk.length<=1099511620000+1000*(i+1+1):=by rw [P9.2];omega
      clear XS AS Vt Vg n0 P9;go_wp2_with fail
      go_roundw
      case rel=>exact ⟨i+1+1,_,dG,by go_num,by omega,S6.out,HK7.out,HM7.out,Bq.out,Z2,Po⟩
      case measure=>simp [intOf];omega
    ·have hdj:decide ((j:Int)<(ls.length:Int))=false:=by simp;omega
     have aaM:¬(j:Int)<(ls.length:Int):=by omega
     have HF:Hid (st=mh AR PS 0 ls st0):=by rw [<-HLr.out,show ls.drop j=[] from bj (by omega)];cases j<;>rfl
     have L3:Hid (MP wr B mb fv c (mh AR PS 0 ls st0) K):=by rw [<-HF.out];exact MP.less YD.out YL.out
     clear HF YD;go_wp2_with fail
     refine bH (v:=.tuple #[]) (by simp [results,Tryz.results59,go_sem]) rfl ⟨⟨_,rfl⟩,XT.out,HK5.out.trans (Xu.out.less YL.out) xm.out.size,?_⟩
     have e:List.drop (na+1) s1.stk=s1.stk.tail.drop na:=by simp
     rw [e,sw.out,LZ.out,HQ3.out];exact L3.out
  ·have hdf:decide ((n:Int)<=lD c s1)=false:=by simpa using oF
   have HF:Hid (MP (w1.setCell ⟨mb,8,none⟩ (.int .i64 6)) B mb fv c {s1 with out:=6} (fun k=>K k\/k=w.heap.size)):=⟨_,_,_,_,_,nF.out.field rfl rfl rfl rfl rfl⟩;clear nF;go_wp2_with fail
   exact aS (v:=.tuple #[]) (by simp [results,Tryz.results59,go_sem]) rfl ⟨⟨_,rfl⟩,eI.out.setCell (by exact jN) _,mr.out.trans (dm.set fun hk=>GJ (.inl hk)) eI.out.size,MP.less HF.out fun k hk=>.inl hk⟩
def eP (s:ByteArray):Bool:=decide (1<=s.size) && (decide (s.size<=6) && (!(decide (bt s 0=48) && decide (1<s.size)) && s.data.toList.all fun c=>decide (48<=c.toNat) && decide (c.toNat<=57)))
def qg (s:ByteArray):Int:=if eP s then jW s.data.toList else 0
theorem wu (s:ByteArray):0<=qg s/\qg s<=999999:=by
 unfold qg;split
 ·rename_i h;simp only [eP,aN,aL,b8] at h;obtain ⟨_,h6,_,hd⟩:=h;have h1:=lQ s.data.toList hd;rw [cg] at h6;have h3:(10:Int)^s.data.toList.length<=10^6:=by exact_mod_cast dW (by decide) h6
  have h4:(10:Int)^6=1000000:=by decide
  omega
 ·omega
theorem tX {l:List UInt8} {f:UInt8->Bool} (k:Nat) (h:k<l.length) (hf:f l[k]=false):l.all f=false:=by
 rw [List.all_eq_false];exact ⟨l[k],aE h,by rw [hf];simp⟩
theorem og (s:ByteArray) (w:World):
 Calls Tryz.prog 133 #[.string s] w fun e w'=>e=.returned (.tuple #[.int .i64 (qg s),.bool (eP s)])/\w'=w:=by
 have bad:eP s=false->Hid (qg s=0/\eP s=false):=fun h=>⟨by unfold qg;rw [h];rfl,h⟩
 by_cases h0:s.size=0
 ·have HB:=bad (by simp [eP,h0]);rw [HB.out.1,HB.out.2];have he:s.toList=[]:=by
   have:s.data.toList=[]:=ch.1 (by rw [<-cg];exact h0);rw [bU];exact this
  have AH:(s.toList==[])=true:=by rw [he];rfl
  clear he bad HB h0;go_enter Tryz.func133,Tryz.ntmps133
  go_wp2_with fail
  go_ret2
  exact ⟨rfl,rfl⟩
 have dI:(s.toList==[])=false:=by
  rw [cE];intro e;rw [bU] at e;have:=cg s;rw [e] at this;exact h0 this
 by_cases h6:6<s.size
 ·have HB:=bad (by simp [eP];omega);rw [HB.out.1,HB.out.2];go_enter Tryz.func133,Tryz.ntmps133
  go_wp2_with fail
  go_ret2
  exact ⟨rfl,rfl⟩
 have jZ:=kO s 0 (by omega);by_cases hz:bt s 0=48
 ·by_cases h1:1<s.size
  ·have HB:=bad (by simp [eP,hz,h1]);rw [HB.out.1,HB.out.2];go_enter Tryz.func133,Tryz.ntmps133
   go_wp2_with fail
   go_ret2
   exact ⟨rfl,rfl⟩
  have nO:¬(1:Int)<(s.size:Int):=by omega
  have qm:Hid (s.size=s.data.toList.length):=cg s;go_enter Tryz.func133,Tryz.ntmps133
  go_wp2_with fail
  clear jZ
  go_loop [4,5] (fun a b=>∃k:Nat,k<=s.size/\b=.int .i64 k/\a=.int .i64 (jW (s.data.toList.take k))/\Hid (mB (s.data.toList.take k))) (fun _ b=>s.size-(intOf b).toNat)
  case atStart=>exact ⟨0,aF _,rfl,rfl,fun c hc=>by simp at hc⟩
  case round=>
   obtain ⟨k,hk,rfl,rfl,HD⟩:=hrel;by_cases bF:k<s.size
   ·have jk:k<s.data.toList.length:=by rw [<-qm.out];exact bF
    have Nh:=kO s k bF;have jB:=nY s k jk;by_cases q1:bt s k<48
    ·have HB:=bad (by unfold eP;rw [tX k jk (by rw [jB] at q1;rw [cC];left;exact bn (by omega))];simp);clear jB;go_wp2_with fail
     go_ret2
     exact ⟨by rw [HB.out.1,HB.out.2];rfl,rfl⟩
    have q1':decide (bt s k<48)=false:=by simpa using q1
    by_cases q2:57<bt s k
    ·have HB:=bad (by unfold eP;rw [tX k jk (by rw [jB] at q2;rw [cC];right;exact bn (by omega))];simp);clear jB;go_wp2_with fail
     go_ret2
     exact ⟨by rw [HB.out.1,HB.out.2];rfl,rfl⟩
    have q2':decide (57<bt s k)=false:=by simpa using q2
    have bB:48<=bt s k:=by omega
    have bX:bt s k<=57:=by omega
    have hv:=lQ (s.data.toList.take k) HD.out;have Ph:=hv.1;have ry:jW (s.data.toList.take k)<=99999:=by
     have h1:=hv.2;have h2:(s.data.toList.take k).length<=5:=by rw [cF];omega
     have h3:(10:Int)^(s.data.toList.take k).length<=10^5:=by exact_mod_cast dW (by decide) h2
     have h4:(10:Int)^5=100000:=by decide
     omega
    have HN:Hid (jW (s.data.toList.take (k+1))=10*jW (s.data.toList.take k)+(bt s k-48)):=by
     show _=_
     rw [aT jk,lB,jB]
    have EV:Hid (mB (s.data.toList.take (k+1))):=by
     intro c hc;rw [aT jk] at hc;rcases be.1 hc with hc|hc
     ·exact HD.out c hc
     ·simp only [aK,ck,dV] at hc;subst hc;rw [jB] at bB bX;omega
    clear hv jB;go_wp2_with fail
    go_round
    case rel=>exact ⟨k+1,bF,by go_num,by rw [HN.out],EV⟩
    case measure=>simp [intOf];omega
   ·have HE:Hid (s.data.toList.take k=s.data.toList):=bN (by rw [<-qm.out];omega);rw [HE.out] at HD ⊢;have Ei:Hid (eP s=true/\qg s=jW s.data.toList):=by
     have:eP s=true:=by
      simp only [eP,aN,aL,b8];refine ⟨by omega,by omega,by simp [hz];omega,fun c hc=>HD.out c hc⟩
     exact ⟨this,by unfold qg;rw [this];rfl⟩
    go_wp2_with fail
    go_ret2
    exact ⟨by rw [Ei.out.1,Ei.out.2];rfl,rfl⟩
 have X3:(bt s 0==48)=false:=by simpa using hz
 have qm:Hid (s.size=s.data.toList.length):=cg s;go_enter Tryz.func133,Tryz.ntmps133
 go_wp2_with fail
 clear jZ
 go_loop [4,5] (fun a b=>∃k:Nat,k<=s.size/\b=.int .i64 k/\a=.int .i64 (jW (s.data.toList.take k))/\Hid (mB (s.data.toList.take k))) (fun _ b=>s.size-(intOf b).toNat)
 case atStart=>exact ⟨0,aF _,rfl,rfl,fun c hc=>by simp at hc⟩
 case round=>
  obtain ⟨k,hk,rfl,rfl,HD⟩:=hrel;by_cases bF:k<s.size
  ·have jk:k<s.data.toList.length:=by rw [<-qm.out];exact bF
   have Nh:=kO s k bF;have jB:=nY s k jk;by_cases q1:bt s k<48
   ·have HB:=bad (by unfold eP;rw [tX k jk (by rw [jB] at q1;rw [cC];left;exact bn (by omega))];simp);clear jB;go_wp2_with fail
    go_ret2
    exact ⟨by rw [HB.out.1,HB.out.2];rfl,rfl⟩
   have q1':decide (bt s k<48)=false:=by simpa using q1
   by_cases q2:57<bt s k
   ·have HB:=bad (by unfold eP;rw [tX k jk (by rw [jB] at q2;rw [cC];right;exact bn (by omega))];simp);clear jB;go_wp2_with fail
    go_ret2
    exact ⟨by rw [HB.out.1,HB.out.2];rfl,rfl⟩
   have q2':decide (57<bt s k)=false:=by simpa using q2
   have bB:48<=bt s k:=by omega
   have bX:bt s k<=57:=by omega
   have hv:=lQ (s.data.toList.take k) HD.out;have Ph:=hv.1;have ry:jW (s.data.toList.take k)<=99999:=by
    have h1:=hv.2;have h2:(s.data.toList.take k).length<=5:=by rw [cF];omega
    have h3:(10:Int)^(s.data.toList.take k).length<=10^5:=by exact_mod_cast dW (by decide) h2
    have h4:(10:Int)^5=100000:=by decide
    omega
   have HN:Hid (jW (s.data.toList.take (k+1))=10*jW (s.data.toList.take k)+(bt s k-48)):=by
    show _=_
    rw [aT jk,lB,jB]
   have EV:Hid (mB (s.data.toList.take (k+1))):=by
    intro c hc;rw [aT jk] at hc;rcases be.1 hc with hc|hc
    ·exact HD.out c hc
    ·simp only [aK,ck,dV] at hc;subst hc;rw [jB] at bB bX;omega
   clear hv jB;go_wp2_with fail
   go_round
   case rel=>exact ⟨k+1,bF,by go_num,by rw [HN.out],EV⟩
   case measure=>simp [intOf];omega
  ·have HE:Hid (s.data.toList.take k=s.data.toList):=bN (by rw [<-qm.out];omega);rw [HE.out] at HD ⊢;have Ei:Hid (eP s=true/\qg s=jW s.data.toList):=by
    have:eP s=true:=by
     simp only [eP,aN,aL,b8];refine ⟨by omega,by omega,by simp [hz],fun c hc=>HD.out c hc⟩
    exact ⟨this,by unfold qg;rw [this];rfl⟩
   go_wp2_with fail
   go_ret2
   exact ⟨by rw [Ei.out.1,Ei.out.2];rfl,rfl⟩
def kL (c:Int):Int:=if c=110 then 1 else if c=97 then 2 else if c=102 then 3 else if c=112 then 4 else if c=120 then 5 else 0
theorem Om (c:Int) (w:World):
 Calls Tryz.prog 194 #[.int .u8 c] w fun e w'=>e=.returned (.int .i64 (kL c))/\w'=w:=by
 by_cases h1:c=110
 ·subst h1;go_enter Tryz.func194,Tryz.ntmps194
  go_wp2_with fail
  go_ret
  exact ⟨rfl,rfl⟩
 by_cases h2:c=97
 ·subst h2;go_enter Tryz.func194,Tryz.ntmps194
  go_wp2_with fail
  go_ret
  exact ⟨rfl,rfl⟩
 by_cases h3:c=102
 ·subst h3;go_enter Tryz.func194,Tryz.ntmps194
  go_wp2_with fail
  go_ret
  exact ⟨rfl,rfl⟩
 by_cases h4:c=112
 ·subst h4;go_enter Tryz.func194,Tryz.ntmps194
  go_wp2_with fail
  go_ret
  exact ⟨rfl,rfl⟩
 by_cases h5:c=120
 ·subst h5;go_enter Tryz.func194,Tryz.ntmps194
  go_wp2_with fail
  go_ret
  exact ⟨rfl,rfl⟩
 have HK:Hid (kL c=0):=by simp [Hid,kL,h1,h2,h3,h4,h5]
 rw [HK.out];have g1:(c==110)=false:=by simpa using h1
 have g2:(c==97)=false:=by simpa using h2
 have g3:(c==102)=false:=by simpa using h3
 have g4:(c==112)=false:=by simpa using h4
 have g5:(c==120)=false:=by simpa using h5
 go_enter Tryz.func194,Tryz.ntmps194
 go_wp2_with fail
 go_ret
 exact ⟨rfl,rfl⟩
def atV (s:ByteArray):Int×Int:=if s.size=0 then (0,0) else (kL (bt s 0),qg (s.extract 1 s.size))
def atK (s:ByteArray):Bool:=decide (s.size≠0) && eP (s.extract 1 s.size)
theorem FP (s:ByteArray) (w:World) (hs:s.size<=1000000):
 Calls Tryz.prog 170 #[.string s] w fun e w'=>e=.returned (.tuple #[.agg #[.int .i64 (atV s).1,.int .i64 (atV s).2],.bool (atK s)])/\Below w.heap.size w w':=by
 by_cases h0:s.size=0
 ·have HB:Hid (atV s=(0,0)/\atK s=false):=by simp [Hid,atV,atK,h0]
  rw [HB.out.1,HB.out.2];have he:s.toList=[]:=by
   have:s.data.toList=[]:=ch.1 (by rw [<-cg];exact h0);rw [bU];exact this
  have AH:(s.toList==[])=true:=by rw [he];rfl
  clear he HB h0;go_enter Tryz.func170,Tryz.ntmps170
  go_wp2_with fail
  exact aS (v:=.tuple #[.agg #[.int .i64 0,.int .i64 0],.bool false]) (by simp [results,Tryz.results170,go_sem]) rfl ⟨rfl,(ai _ _).alloc (ah _) _⟩
 have dI:(s.toList==[])=false:=by
  rw [cE];intro e;rw [bU] at e;have:=cg s;rw [e] at this;exact h0 this
 have HB:Hid (atV s=(kL (bt s 0),qg (s.extract 1 s.size))/\atK s=eP (s.extract 1 s.size)):=by simp [Hid,atV,atK,h0]
 rw [HB.out.1,HB.out.2];have jZ:=kO s 0 (by omega);have HN:Hid _:=fun w=>og (s.extract 1 s.size) w
 have HK:Hid _:=fun w=>Om (bt s 0) w
 generalize hT:s.extract 1 s.size=t at*;go_enter Tryz.func170,Tryz.ntmps170
 go_wp2_with fail
 refine (show Calls _ _ _ _ _ from HN.out _).mono ?_
 rintro e w1 ⟨rfl,rfl⟩
 go_wp2_with fail
 refine (show Calls _ _ _ _ _ from HK.out _).mono ?_
 rintro e w1 ⟨rfl,rfl⟩
 go_wp2_with fail
 exact aS (v:=.tuple #[.agg #[.int .i64 (kL (bt s 0)),.int .i64 (qg t)],.bool (eP t)]) (by simp [results,Tryz.results170,go_sem]) rfl ⟨rfl,(ai _ _).alloc (ah _) _⟩
def iF (w:World) (b:Nat) (r:ByteArray) (ln:Int):Prop:=w.heap[b]?=some (.cells #[.string r,.int .i64 ln] 115 (0,0))
structure But (b:Nat) (w w':World):Prop where
 bel:Below b w w'
 oth:∀k,k<w.heap.size->k≠b->w'.heap[k]?=w.heap[k]?
theorem But.refl (b:Nat) (w:World):But b w w:=⟨ai _ _,fun _ _ _=>rfl⟩
theorem But.size {b:Nat} {w w':World} (h:But b w w'):w.heap.size<=w'.heap.size:=h.bel.size
theorem But.trans {b:Nat} {w w' w'':World} (h:But b w w') (h':But b w' w''):But b w w'':=
 ⟨h.bel.trans h'.bel,fun k hk hn=>(h'.oth k (bq hk h.size) hn).trans (h.oth k hk hn)⟩
theorem But.of {b:Nat} {w w':World} (h:Below w.heap.size w w') (hb:b<=w.heap.size):But b w w':=⟨h.mono hb,fun k hk _=>h.block k hk⟩
theorem But.set {b i:Nat} {w w':World} {v:Value} (h:But b w w'):But b w (w'.setCell ⟨b,i,none⟩ v):=
 ⟨h.bel.setCell (by exact ah b) _,fun k hk hn=>(bi _ hn).trans (h.oth k hk hn)⟩
theorem But.grown {b:Nat} {w w' w'':World} {base n size:Nat} {e:TypeId} {v:Value} {xs:List Value} (h:But b w w') (hr:w'.ownsRow base e size v n xs) (hg:w'.grownBy w'' v.ownBlock) (hb:w.heap.size<=base) (We:b<=w.heap.size):But b w w'':=
 ⟨h.bel.grown hg (aJ We h.size) (fun k hk=>by have:=(hr.lt k hk).1;omega),fun k hk hn=>(hg.block k (bq hk h.size) (fun e1=>by have:=(hr.lt k e1.symm).1;omega)).trans (h.oth k hk hn)⟩
theorem But.below {b:Nat} {w w':World} (h:But b w w') {B:Nat} (hB:B<=b):Below B w w':=h.bel.mono hB
theorem iO {b:Nat} {w w':World} {base n size:Nat} {e:TypeId} {v:Value} {xs:List Value} {r:ByteArray} {ln:Int} (h:w.ownsRow base e size v n xs) (hb:But b w w') (hr:iF w b r ln) (dI:e≠115):w'.ownsRow base e size v n xs:=by
 refine ⟨h.1,?_⟩
 rcases h.2 with hn|⟨g,cap,cur,hv,hg,hh,q⟩
 ·exact .inl hn
 ·refine .inr ⟨g,cap,cur,hv,hg,?_,q⟩
  rw [hb.oth g (ae.1 hh).1 (fun e1=>by subst e1;unfold iF at hr;rw [hr] at hh;simp at hh;exact dI hh.2.symm)];exact hh
def wrd (r:ByteArray) (b i:Nat) (acc:List ByteArray):Option (List ByteArray×Nat):=
 if h:i<r.size then (if bt r i=10 then some (acc++[r.extract b i],i+1) else if bt r i=32 then wrd r (i+1) (i+1) (acc++[r.extract b i]) else wrd r b (i+1) acc) else none
termination_by r.size-i
theorem E3 (r:ByteArray) (b i:Nat) (acc:List ByteArray) (h:¬i<r.size):wrd r b i acc=none:=by rw [wrd,dif_neg h]
theorem E0 (r:ByteArray) (b i:Nat) (acc:List ByteArray) (h:i<r.size) (h1:bt r i=10):wrd r b i acc=some (acc++[r.extract b i],i+1):=by rw [wrd,mf h,aA h1]
theorem EZ (r:ByteArray) (b i:Nat) (acc:List ByteArray) (h:i<r.size) (h1:bt r i=32):wrd r b i acc=wrd r (i+1) (i+1) (acc++[r.extract b i]):=by rw [wrd,mf h,ay (by omega),aA h1]
theorem E2 (r:ByteArray) (b i:Nat) (acc:List ByteArray) (h:i<r.size) (h1:bt r i≠10) (h2:bt r i≠32):wrd r b i acc=wrd r b (i+1) acc:=by rw [wrd,mf h,ay h1,ay h2]
def sts (l:List ByteArray):List Value:=l.map fun s=>.string s
theorem rR (l:List ByteArray) (s:ByteArray):sts (l++[s])=sts l++[.string s]:=by simp [sts]
theorem uP (b:Nat) (r:ByteArray) (ln:Int) (w:World) (h:iF w b r ln) (hr:r.size<=30000) (tt:0<=ln) (kV:ln<=100000):
 Calls Tryz.prog 132 #[.pointer (some ⟨b,0,none⟩)] w fun e w'=>∃v,e=.returned v/\But b w w'/\((wrd r 0 0 []=none/\v=.slice none 0 0/\iF w' b r (ln+1))\/∃ws k,wrd r 0 0 []=some (ws,k)/\w'.ownsRow w.heap.size 9 1 v ws.length (sts ws)/\iF w' b (r.extract k r.size) (ln+1)/\k<=r.size/\ws.length<=30001/\∀s∈ws,s.size<=30000):=by
 obtain ⟨i,hi,fp,dQ,eF⟩:=bE Tryz.infoStr;have iB:b<w.heap.size:=(ae.1 h).1;have c1:=al w b 1 _ _ _ h;simp only [ax,ap,aq] at c1;have f1:=aG w b 1 _ _ h;have eI:Hid (iF (w.setCell ⟨b,1,none⟩ (.int .i64 (ln+1))) b r (ln+1)):=bk _ h;generalize hR:wrd r 0 0 []=R;have HR:Hid (wrd r 0 0 []=R):=hR;clear hR;go_enter Tryz.func132,Tryz.ntmps132
 go_wp2_with fail
 go_loopw [3,4,5] (fun x y z wr=>∃(bg k:Nat) (acc:List ByteArray),bg<=k/\k<=r.size/\y=.int .i64 bg/\z=.int .i64 k/\Hid (wrd r bg k acc=R)/\acc.length<=k/\Hid (∀s∈acc,s.size<=30000)/\wr.ownsRow w.heap.size 9 1 x acc.length (sts acc)/\iF wr b r (ln+1)/\But b w wr) (fun _ _ z _=>r.size-(intOf z).toNat)
 case atStart=>exact ⟨0,0,[],ah _,aF _,rfl,rfl,HR,ah _,fun s hs=>by simp at hs,aM _ _ _ _,eI.out,(But.refl b w).set⟩
 case round=>
  obtain ⟨bg,k,acc,jB,hk,rfl,rfl,HW,qZ,HAS,bW,eu,dD⟩:=hrel;clear c1 f1;have dk:=dD.size;have kH:b<wr.heap.size:=by omega
  have c0:=al wr b 0 _ _ _ eu;simp only [ax,aq] at c0;have f0:=aG wr b 0 _ _ eu;obtain ⟨ao,cap,hx⟩:=aU bW;subst hx;by_cases bF:k<r.size
  ·have Nh:=kO r k bF;by_cases q1:bt r k=10
   ·have HE:Hid (some (acc++[r.extract bg k],k+1)=R):=(E0 r bg k acc bF q1).symm.trans HW.out;have q1b:(bt r k==10)=true:=by simp [q1]
    have q1n:(bt r k !=10)=false:=by simp [q1]
    have q2n:(bt r k !=32)=true:=by simp [q1]
    have HES:Hid ((r.extract bg k).size<=30000):=by show _<=_;rw [cR];omega
    clear q1 HW;go_wp2_with (at_builtin;go_must (refine wpList_append_lies _ rfl _ _ _ rfl w.heap.size 9 i _ 1 16 Tryz.underlying43 hi fp dQ eF rfl (by omega) (.slice ao acc.length cap) acc.length (sts acc) rfl ?hown _ 1 _ [.string (r.extract bg k)] rfl rfl ?dA ?h1 (by omega) ?kj ?cP ?cX _ rfl ?_))
    case hown=>exact bW.alloc _
    case dA=>exact World.news_of_block (az wr _)
    case h1=>simp [Value.oneCell']
    case kj=>unfold maxLen;omega
    case cP=>omega
    case cX=>simp;omega
    intro g cap2 w2 b7 bD dt cV;have qE:iF w2 b r (ln+1):=br (bW.alloc _) bD (by decide) ((aO wr _ b kH).trans eu);have Hb:But b w w2:=(dD.trans (But.of ((ai _ _).alloc (ah _) _) (by omega))).grown (bW.alloc _) bD (ah _) (by omega);clear dt bD c0 f0;have c0:=al w2 b 0 _ _ _ qE;simp only [ax,aq] at c0;have f0:=aG w2 b 0 _ _ qE;go_wp2_with fail
    go_ret
    refine ⟨_,rfl,Hb.set,.inr ⟨acc++[r.extract bg k],k+1,HE.out.symm,?_,bk _ qE,bF,by simp;omega,?_⟩⟩
    ·rw [au,rR];exact aB b7 qE (by decide)
    ·intro s hs;rcases be.1 hs with hs|hs
     ·exact HAS.out s hs
     ·simp only [aK,ck,dV] at hs;rw [hs];exact HES.out
   ·have q1b:(bt r k==10)=false:=by simpa using q1
    have q1n:(bt r k !=10)=true:=by simpa using q1
    by_cases q2:bt r k=32
    ·have HE:Hid (wrd r (k+1) (k+1) (acc++[r.extract bg k])=R):=(EZ r bg k acc bF q2).symm.trans HW.out;have q2n:(bt r k !=32)=false:=by simp [q2]
     have HES:Hid ((r.extract bg k).size<=30000):=by show _<=_;rw [cR];omega
     clear q1 q2 HW;go_wp2_with (at_builtin;go_must (refine wpList_append_lies _ rfl _ _ _ rfl w.heap.size 9 i _ 1 16 Tryz.underlying43 hi fp dQ eF rfl (by omega) (.slice ao acc.length cap) acc.length (sts acc) rfl ?hown _ 1 _ [.string (r.extract bg k)] rfl rfl ?dA ?h1 (by omega) ?kj ?cP ?cX _ rfl ?_))
     case hown=>exact bW.alloc _
     case dA=>exact World.news_of_block (az wr _)
     case h1=>simp [Value.oneCell']
     case kj=>unfold maxLen;omega
     case cP=>omega
     case cX=>simp;omega
     intro g cap2 w2 b7 bD dt cV;have qE:iF w2 b r (ln+1):=br (bW.alloc _) bD (by decide) ((aO wr _ b kH).trans eu);have Hb:But b w w2:=(dD.trans (But.of ((ai _ _).alloc (ah _) _) (by omega))).grown (bW.alloc _) bD (ah _) (by omega);clear dt bD c0 f0;go_wp2_with fail
     go_roundw
     case rel=>
      refine ⟨k+1,k+1,acc++[r.extract bg k],ah _,bF,by go_num,by go_num,HE,by simp;omega,?_,by rw [au,rR];exact b7,qE,Hb⟩
      intro s hs;rcases be.1 hs with hs|hs
      ·exact HAS.out s hs
      ·simp only [aK,ck,dV] at hs;rw [hs];exact HES.out
     case measure=>simp [intOf];omega
    ·have HE:Hid (wrd r bg (k+1) acc=R):=(E2 r bg k acc bF q1 q2).symm.trans HW.out;have q2n:(bt r k !=32)=true:=by simpa using q2
     clear HW;go_wp2_with fail
     go_roundw
     case rel=>exact ⟨bg,k+1,acc,by omega,bF,rfl,by go_num,HE,by omega,HAS,bW,eu,dD⟩
     case measure=>simp [intOf];omega
  ·have HE:Hid (none=R):=(E3 r bg k acc bF).symm.trans HW.out;go_wp2_with fail
   go_ret
   exact ⟨_,rfl,dD,.inl ⟨HE.out.symm,rfl,eu⟩⟩
end Go.Proofs.YtnndoagpbcacdabGreatDoor
