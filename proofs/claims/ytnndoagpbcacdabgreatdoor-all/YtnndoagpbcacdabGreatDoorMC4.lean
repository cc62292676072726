import Derived.Test.YtnndoagpbcacdabGreatDoorMZ4
import Derived.Test.YtnndoagpbcacdabGreatDoorMW5
import Derived.Test.YtnndoagpbcacdabGreatDoorMN18
import Derived.Test.YtnndoagpbcacdabGreatDoorMQ7
namespace Go.Proofs.YtnndoagpbcacdabGreatDoor
set_option maxHeartbeats 8000000
set_option maxRecDepth 100000
open Go.RowKit
theorem zG:(strOfNums [10]).data.toList=[10]:=by rfl
theorem k7:(strOfNums [10]).size=1:=by rfl
theorem Mj (c:Cd) (fv:Value) (T:Nat) (w:World) (hT:T<=w.heap.size) (hf:dS w T fv c.fs):
 Calls Tryz.prog 74 #[.agg #[.int .i64 c.mn,fv]] w fun e w'=>∃x:ByteArray,e=.returned (.tuple #[.string x,.int .i64 (wrE c)])/\x.data.toList=wrL c/\x.size<=20000/\Below w.heap.size w w':=by
 have HG:Hid _:=Y1 c fv T (w.alloc (Obj.cells #[.int .i64 c.mn,fv] 63)) (by simp;omega) (hf.keep ((ai _ _).alloc hT _));cases hg:jK c
 ·have lN:Hid (wrE c=7):=by simp [Hid,wrE,hg]
  have gT:Hid (wrL c=[]):=by simp [Hid,wrL,hg]
  rw [lN.out];rw [hg] at HG;clear hg lN;obtain ⟨fo,fcap,wJ,lk,kT,jA⟩:=hf;subst wJ;unfold maxLen at kT;go_enter Tryz.func74,Tryz.ntmps74
  go_wp2_with fail
  refine (show Calls _ _ _ _ _ from HG.out).mono ?_
  rintro e w1 ⟨rfl,bB⟩
  go_wp2_with fail
  go_ret2
  exact ⟨_,rfl,gT.out.symm,by decide,((ai _ _).alloc (ah _) _).trans (bB.mono (by simp))⟩
 have lN:Hid (wrE c=0):=by simp [Hid,wrE,hg]
 have gT:Hid (wrL c=cdL c):=by simp [Hid,wrL,hg]
 rw [lN.out];rw [hg] at HG;obtain ⟨k1,k2,k3,k4,k5⟩:=wU hg;clear hg lN;obtain ⟨mn,fs⟩:=c;obtain ⟨fo,fcap,wJ,lk,kT,jA⟩:=hf;simp only at*;subst wJ;unfold maxLen at kT;have HK:Hid _:=k5;clear k5;obtain ⟨m,rfl⟩:=aZ k3;have hm:m<fs.length:=by omega
 rcases jA with h0|⟨b,off,rfl,gZ,cJ⟩
 ·omega
 have HDM:Hid _:=fun w=>lS m m w (ah _) (by omega)
 have zj:Hid _:=fun w=>lS fs.length fs.length w (ah _) (by omega)
 have YH:Hid _:=gC m (by omega);have Bo:Hid _:=gC fs.length (by omega);have kc:=pV;have ks:=k7;clear k3 k4;go_enter Tryz.func74,Tryz.ntmps74
 go_wp2_with fail
 refine (show Calls _ _ _ _ _ from HG.out).mono ?_
 rintro e w1 ⟨rfl,bB⟩
 clear HG;have fe:=dx bB;have kH:Below w.heap.size w w1:=((ai _ _).alloc (ah _) _).trans (bB.mono (by simp));have fG:w.heap.size<w1.heap.size:=(ae.1 fe).1;have B0:=al w1 w.heap.size 0 _ _ _ fe;simp only [ax,aq] at B0;go_wp2_with fail
 refine (show Calls _ _ _ _ _ from HDM.out _).mono ?_
 rintro e w2 ⟨x,rfl,hx,bX⟩
 clear HDM B0;have kA:x.size<=6:=by rw [cg,hx];exact YH.out
 have HX:Hid _:=hx;clear hx YH;have oH:=(bX.block w.heap.size fG).trans fe;have je:Below w.heap.size w w2:=kH.trans (bX.mono kH.size);have ye:w.heap.size<w2.heap.size:=(ae.1 oH).1;have B1:=al w2 w.heap.size 1 _ _ _ oH;simp only [ax,ap,aq] at B1;clear fe kH bB fG bX;go_wp2_with fail
 refine (show Calls _ _ _ _ _ from zj.out _).mono ?_
 rintro e w3 ⟨y,rfl,hy,df⟩
 clear zj B1;have mj:y.size<=6:=by rw [cg,hy];exact Bo.out
 have HY:Hid _:=hy;clear hy Bo;have DD:=(df.block w.heap.size ye).trans oH;have kX:Below w.heap.size w w3:=je.trans (df.mono je.size);have MH:w.heap.size<w3.heap.size:=(ae.1 DD).1;clear oH je ye df;go_wp2_with fail
 go_loopw [8,9] (fun x y wr=>∃(k:Nat) (sx:ByteArray),k<=fs.length/\y=.int .i64 k/\x=.string sx/\Hid (sx.data.toList=hdL 77 m fs.length++(fs.take k).flatMap tpL)/\sx.size<=16+861*k/\Below w.heap.size w wr/\wr.heap[w.heap.size]?=some (.cells #[.int .i64 m,.slice (some ⟨b,off,none⟩) fs.length fcap] 63 (0,0))) (fun _ y _=>fs.length-(intOf y).toNat)
 case atStart=>
  refine ⟨0,_,aF _,rfl,rfl,?_,?_,kX.alloc kX.size _,(aO w3 _ _ MH).trans DD⟩
  ·show _=_
   simp only [cK];rw [HX.out,HY.out];simp [hdL,zG]
  ·simp only [bw,k7];simp only [ByteArray.size];simp;have:x.data.size=x.size:=rfl;have:y.data.size=y.size:=rfl;omega
 case round=>
  clear DD kX MH HX HY kA mj;obtain ⟨k,sx,hk,rfl,rfl,oO,Sj,hb,oI⟩:=hrel;have dk:=hb.size;have fG:w.heap.size<wr.heap.size:=(ae.1 oI).1;have C1:=al wr w.heap.size 1 _ _ _ oI;simp only [ax,ap,aq] at C1;by_cases bF:k<fs.length
  ·obtain ⟨lv,c0,c1,dt⟩:=cJ k bF;have kp:Hid _:=c1;rw [<-hb.cell (p:=⟨b,off+k*2,none⟩) (show b<_ by omega)] at c0;obtain ⟨o1,o2,o3,o4,o5⟩:=HK.out fs[k] (aE bF);have HA:Hid _:=pT tpL fs k bF;have p8:Hid (tpL fs[k]=hdL 70 fs[k].ar.toNat (fs[k].ls.length-1)++fs[k].ls.flatMap lnT):=rfl;obtain ⟨la,lc,rfl,kV,gS,gV⟩:=dt;unfold maxLen at gS;have HO5:Hid _:=o5;clear cJ o5;generalize hF:fs[k]=F at*;clear hF;obtain ⟨ar,ls⟩:=F;simp only at*;obtain ⟨an,rfl⟩:=aZ o1;have HDA:Hid _:=fun w=>lS an an w (ah _) (by omega)
   have HDK:Hid _:=fun w=>lS (ls.length-1) (ls.length-1) w (ah _) (by omega)
   have XI:Hid (((ls.length-1:Nat):Int)=(ls.length:Int)-1):=by show _=_;omega
   rw [XI.out] at HDK;have YJ:Hid _:=gC an (by omega);have HLK:Hid _:=gC (ls.length-1) (by omega);clear o1;go_wp2_with fail
   refine (show Calls _ _ _ _ _ from HDA.out _).mono ?_
   rintro e w2 ⟨x,rfl,hx,bX⟩
   clear HDA c0 C1 c1;have kA:x.size<=6:=by rw [cg,hx];exact YJ.out
   have HX:Hid _:=hx;clear hx YJ;have AQ:=(bX.block w.heap.size fG).trans oI;have je:Below w.heap.size w w2:=hb.trans (bX.mono dk);have ye:w.heap.size<w2.heap.size:=(ae.1 AQ).1;have C1:=al w2 w.heap.size 1 _ _ _ AQ;simp only [ax,ap,aq] at C1;have c1:=kp.out;rw [<-je.cell (p:=⟨b,off+k*2+1,none⟩) (show b<_ by omega)] at c1;go_wp2_with fail
   refine (show Calls _ _ _ _ _ from HDK.out _).mono ?_
   rintro e w3 ⟨y,rfl,hy,df⟩
   clear HDK C1 c1;have mj:y.size<=6:=by rw [cg,hy];exact HLK.out
   have HY:Hid _:=hy;clear hy HLK;have Wg:=(df.block w.heap.size ye).trans AQ;have kX:Below w.heap.size w w3:=je.trans (df.mono je.size);clear AQ je ye df bX oI hb fG dk;go_wp2_with fail
   go_loopw [8,12] (fun u v wx=>∃(j:Nat) (sy:ByteArray),j<=ls.length/\v=.int .i64 j/\u=.string sy/\Hid (sy.data.toList=hdL 77 m fs.length++((fs.take k).flatMap tpL++(hdL 70 an (ls.length-1)++(ls.take j).flatMap lnT)))/\sy.size<=16+861*k+16+65*j/\Below w.heap.size w wx/\wx.heap[w.heap.size]?=some (.cells #[.int .i64 m,.slice (some ⟨b,off,none⟩) fs.length fcap] 63 (0,0))) (fun _ v _=>ls.length-(intOf v).toNat)
   case atStart=>
    refine ⟨0,_,aF _,rfl,rfl,?_,?_,kX,Wg⟩
    ·show _=_
     simp only [cK];rw [HX.out,HY.out,oO.out];simp [hdL,zG]
    ·simp only [bw,k7];simp only [ByteArray.size];simp;have:x.data.size=x.size:=rfl;have:y.data.size=y.size:=rfl;have:sx.data.size=sx.size:=rfl;omega
   case round=>
    clear Wg kX HX HY kA mj oO Sj;obtain ⟨j,sy,hj,rfl,rfl,ET,Kg,hb,oI⟩:=hrel;have dk:=hb.size;have fG:w.heap.size<wr.heap.size:=(ae.1 oI).1;have C1:=al wr w.heap.size 1 _ _ _ oI;simp only [ax,ap,aq] at C1;have c1:=kp.out;rw [<-hb.cell (p:=⟨b,off+k*2+1,none⟩) (show b<_ by omega)] at c1;by_cases dG:j<ls.length
    ·rcases gV with h0|⟨bl,lf,rfl,ahB,tq⟩
     ·omega
     obtain ⟨av,a0,AT⟩:=tq j dG;rw [<-hb.cell (p:=⟨bl,lf+j,none⟩) (show bl<_ by omega)] at a0;have Dr:=HO5.out ls[j] (aE dG);have HAJ:Hid _:=pT lnT ls j dG;have HN:Hid _:=z9 Dr;have Bo:Hid (lnT ls[j]=lnL ls[j]++[10]):=rfl;have HC:Hid _:=Tw ls[j] av T wr (by have:=Dr.1;omega) Dr.2 (by omega) (AT.keep (hb.mono hT));obtain ⟨aa,ac,rfl,SI,Wp,_⟩:=AT;unfold maxLen at Wp;clear tq Dr;go_wp2_with fail
     refine (show Calls _ _ _ _ _ from HC.out).mono ?_
     rintro e w2 ⟨z,rfl,hz,bX⟩
     clear HC C1 c1 a0;have hzs:z.size+1<=65:=by have:=HN.out;rw [Bo.out,au] at this;rw [cg,hz];simpa using this
     have HZ:Hid _:=hz;clear hz;go_wp2_with fail
     go_roundw
     case rel=>
      refine ⟨j+1,_,dG,by go_num,rfl,?_,?_,hb.trans (bX.mono dk),(bX.block _ fG).trans oI⟩
      ·show _=_
       simp only [cK];rw [ET.out,HZ.out,HAJ.out,Bo.out];simp [zG]
      ·simp only [bw,k7];omega
     case measure=>simp [intOf];omega
    ·have nV:j=ls.length:=by omega
     subst nV;rw [bA] at ET;go_wp2_with fail
     go_roundw
     case rel=>
      refine ⟨k+1,sy,bF,by go_num,rfl,?_,by omega,hb,oI⟩
      show _=_
      rw [ET.out,HA.out,p8.out,bC]
     case measure=>simp [intOf];omega
  ·have eh:k=fs.length:=by omega
   subst eh;rw [bA] at oO;go_wp2_with fail
   go_ret2
   exact ⟨sx,rfl,oO.out.trans gT.out.symm,by omega,hb⟩
def A8:ByteArray:=⟨#[77,32,48,32,49,10,70,32,48,32,48,10,110,53,10]⟩
theorem Lt:A8.data.toList=cdL ⟨0,[⟨0,[[(1,5)]]⟩]⟩:=by decide+kernel
theorem CA:rdC A8=some ⟨0,[⟨0,[[(1,5)]]⟩]⟩/\rdE A8=0:=by
 have h:=tT ⟨0,[⟨0,[[(1,5)]]⟩]⟩ (by decide+kernel) A8 Lt;have hs:¬30000<A8.size:=by decide
 exact ⟨by rw [rdC,ay hs,h],by rw [rdE,ay hs,h];rfl⟩
theorem OX (w:World):
 Calls Tryz.prog 22 #[.int .i64 4] w fun e w'=>e=.returned (.bool true)/\Below w.heap.size w w':=by
 have HC:Hid _:=Tc A8 w (by decide);rw [CA.1,CA.2] at HC;generalize rdL A8=rl at*;go_enter Tryz.func22,Tryz.ntmps22
 go_wp2_with fail
 refine (show Calls _ _ _ _ _ from HC.out).mono ?_
 rintro e w1 ⟨mn,fo,fl,fc,rfl,bB,_,ip⟩
 clear HC;obtain ⟨_,qI,_⟩:=ip _ rfl;have kG:fl=1:=by
  obtain ⟨ys,h1,_⟩:=qI;obtain ⟨a,c,e⟩:=aU h1;cases e
  rfl
 subst kG;clear ip qI;have wR:=bB.size;go_wp2_with fail
 go_ret
 exact ⟨rfl,bB.alloc wR _⟩
theorem OW (w:World) (ht:Tab w):
 Calls Tryz.prog 22 #[.int .i64 5] w fun e w'=>e=.returned (.bool true)/\Below w.heap.size w w':=by
 have HZ:Hid _:=o6 w #[.int .i64 1,.int .i64 5] #[.slice (some ⟨w.heap.size,0,none⟩) 1 1] #[.int .i64 0,.slice (some ⟨w.heap.size+1,0,none⟩) 1 1] 99 100 79;have HW:Hid (∀w3:World,w3.heap[w.heap.size]?=some (.cells #[.int .i64 1,.int .i64 5] 99 (0,0))->w3.heap[w.heap.size+1]?=some (.cells #[.slice (some ⟨w.heap.size,0,none⟩) 1 1] 100 (0,0))->w3.heap[w.heap.size+1+1]?=some (.cells #[.int .i64 0,.slice (some ⟨w.heap.size+1,0,none⟩) 1 1] 79 (0,0))->dS w3 w3.heap.size (.slice (some ⟨w.heap.size+1+1,0,none⟩) 1 1) [⟨0,[[(1,5)]]⟩]):=fun w3 h0 h1 h2=>by
  have l2:=(ae.1 h2).1;obtain ⟨a0,a1,_,_⟩:=bS h0;obtain ⟨t0,t1,_,_⟩:=bS h2;refine ⟨_,_,rfl,ah _,by decide,.inr ⟨_,0,rfl,l2,fun j hj=>?_⟩⟩
  obtain rfl:j=0:=by simpa using hj
  refine ⟨_,t0,t1,_,_,rfl,ah _,by decide,.inr ⟨_,0,rfl,by omega,fun j hj=>?_⟩⟩
  obtain rfl:j=0:=by simpa using hj
  refine ⟨_,by rw [al w3 _ _ _ _ _ h1];rfl,_,_,rfl,ah _,(by show 1<=maxLen;decide),.inr ⟨_,0,rfl,by omega,fun j hj=>?_⟩⟩
  obtain rfl:j=0:=by simpa using hj
  exact ⟨a0,a1⟩
 have HC:Hid _:=Mb ⟨0,[⟨0,[[(1,5)]]⟩]⟩ (some ⟨w.heap.size+1+1,0,none⟩) 1 1 _ _ (ah _) (HW.out _ HZ.out.1 HZ.out.2.1 HZ.out.2.2.1) (ht.below HZ.out.2.2.2);have hE:wrE ⟨0,[⟨0,[[(1,5)]]⟩]⟩=0:=by decide+kernel
 have hL:wrL ⟨0,[⟨0,[[(1,5)]]⟩]⟩=[77,32,48,32,49,10,70,32,48,32,48,10,110,53,10]:=by decide+kernel
 rw [hE,hL] at HC;have HB:Hid _:=HZ.out.2.2.2;clear hE hL HW HZ;go_enter Tryz.func22,Tryz.ntmps22
 go_wp2_with fail
 refine (show Calls _ _ _ _ _ from HC.out).mono ?_
 rintro e w1 ⟨x,rfl,hx,kA,bB⟩
 clear HC;have xp:x=⟨#[77,32,48,32,49,10,70,32,48,32,48,10,110,53,10]⟩:=xd hx;subst xp;have Hi:Below w.heap.size w w1:=HB.out.trans (bB.mono (by simp;omega));clear hx kA bB;go_wp2_with fail
 go_ret
 exact ⟨rfl,Hi⟩
theorem O1 (h:Value) (n m:Int) (s:ByteArray) (c:Cd) (fo:Option Addr) (fl fc:Nat) (w:World) (hf:dS w w.heap.size (.slice fo fl fc) c.fs) (nB:tZ c.fs) (ht:Tab w):
 Calls Tryz.prog 39 #[h,opV 5 n m s c.mn fo fl fc] w fun e w'=>e=.returned (.bool true)/\Below w.heap.size w w':=by
 unfold opV;have hA:Below w.heap.size w (w.alloc (Obj.cells #[.int .i64 5,.int .i64 n,.int .i64 m,.string s,.int .i64 c.mn,.slice fo fl fc] 65)):=(ai _ _).alloc (ah _) _;have kp:Hid _:=Zd c.mn c.fs (.slice fo fl fc) (w.alloc (Obj.cells #[.int .i64 5,.int .i64 n,.int .i64 m,.string s,.int .i64 c.mn,.slice fo fl fc] 65)) ((hf.keep hA).upZ hA.size) nB;have HF:Hid (dS w w.heap.size (.slice fo fl fc) c.fs):=hf;have HT:Hid (∀w':World,Below w.heap.size w w'->Tab w'):=fun w' h=>ht.below h
 clear hf nB ht;go_enter Tryz.func39,Tryz.ntmps39
 go_wp2_with fail
 refine (show Calls _ _ _ _ _ from kp.out).mono ?_
 rintro e w1 ⟨eb,k1,c1,rfl,kV,bB⟩
 clear kp;have q9:=dx bB;have mW:Below w.heap.size w w1:=hA.trans (bB.mono (by simp));have AN:=mW.size;have Jm:Below w1.heap.size w1 (w1.alloc (Obj.cells #[.int .i64 c.mn,.slice (some ⟨eb,0,none⟩) k1 c1] 63)):=(ai _ _).alloc (ah _) _;have fE:Hid _:=Mb c (some ⟨eb,0,none⟩) k1 c1 _ _ (ah _) (dS.upZ (dS.keep kV.rd Jm) Jm.size) (HT.out _ (mW.trans (Jm.mono AN)));have YK:Hid (np w1 (.slice (some ⟨eb,0,none⟩) k1 c1) c.fs):=kV;clear kV bB;go_wp2_with fail
 refine (show Calls _ _ _ _ _ from fE.out).mono ?_
 rintro e w2 ⟨x,rfl,hx,kA,bX⟩
 clear fE;have Wq:=dx bX;have Q1:Below w1.heap.size w1 w2:=Jm.trans (bX.mono Jm.size);have je:Below w.heap.size w w2:=mW.trans (Q1.mono AN);have KS:=je.size;have pR:=(Q1.block _ (by have:=(ae.1 q9).1;exact this)).trans q9;have abr:w.heap.size<w2.heap.size:=(ae.1 pR).1;have ahJ:w1.heap.size<w2.heap.size:=(ae.1 Wq).1;have g4:=al w2 w.heap.size 4 _ _ _ pR;have g5:=al w2 w.heap.size 5 _ _ _ pR;simp only [ax,ap,aq] at g4 g5;obtain ⟨y0,y1,_,_⟩:=bS Wq;have ix:Hid _:=Ze c.mn c.fs (.slice (some ⟨eb,0,none⟩) k1 c1) (.slice fo fl fc) w2 (np.keep YK.out Q1) ((dS.keep HF.out je).upZ KS);have HX:Hid _:=hx;clear hx bX;go_wp2_with fail
 refine (show Calls _ _ _ _ _ from ix.out).mono ?_
 rintro e w3 ⟨rfl,df⟩
 clear ix g4 g5 y0 y1;have kX:Below w.heap.size w w3:=je.trans (df.mono KS);have Wb:=kX.size;have Wr:=(df.block _ abr).trans pR;have ahM:w.heap.size<w3.heap.size:=(ae.1 Wr).1;have g4:=al w3 w.heap.size 4 _ _ _ Wr;have g5:=al w3 w.heap.size 5 _ _ _ Wr;simp only [ax,ap,aq] at g4 g5;have zv:Hid _:=Mj c (.slice fo fl fc) w.heap.size w3 Wb (dS.keep HF.out kX);go_wp2_with fail
 refine (show Calls _ _ _ _ _ from zv.out).mono ?_
 rintro e w4 ⟨y,rfl,hy,mj,dU⟩
 clear zv g4 g5;have aa4:Below w.heap.size w w4:=kX.trans (dU.mono Wb);have MF:y=x:=by rw [xd hy,xd HX.out]
 subst MF;clear hy HX;generalize wrE c=er at*;have hp:(y.toList==y.toList)=true:=by simp
 have nX:(er==er)=true:=by simp
 go_wp2_with (go_at_call 66;refine (OT _ _).mono ?_;rintro e w5 ⟨rfl,rfl⟩)
 go_ret
 exact ⟨rfl,aa4⟩
theorem TZ (I:World->Nat->Nat->Prop) (C:World->Int->Option Addr->Nat->Nat->Prop) (lo hi:Int) (Wz:1<=lo) (hlh:lo<=hi) (hK7:hi<=7)
 (w:World) (a:Option Addr) (len cap:Nat)
 (GS:∀(k:Int) (wr:World),lo<=k->k<=hi->Below w.heap.size w wr->Calls Tryz.prog 22 #[.int .i64 k] wr fun e w'=>e=.returned (.bool true)/\Below wr.heap.size wr w')
 (M8:∀(wr:World) (bh:Nat),Below w.heap.size w wr->w.heap.size<=bh->RD wr bh->I wr bh 0)
 (M0:∀(wr:World) (bh i:Nat) (o:Obj),Below w.heap.size w wr->I wr bh i->I (wr.alloc o) bh i)
 (MZ:∀(wr:World) (bh i:Nat),I wr bh i->I wr bh (i+1))
 (bF:∀(wr:World) (bh i:Nat),I wr bh i->bh<wr.heap.size)
 (GB:∀(bh i:Nat) (k n m:Int) (s:ByteArray) (c:Int) (fo:Option Addr) (fl fc:Nat) (wr:World),i<len->lo<=k->k<=hi->s.size<=maxLen->C w c fo fl fc->Below w.heap.size w wr->I wr bh i->Calls Tryz.prog 23 #[.pointer (some ⟨bh,0,none⟩),opV k n m s c fo fl fc] wr fun e w'=>e=.returned (.bool true)/\Below w.heap.size w w'/\I w' bh (i+1))
 (Gk:∀(bh i:Nat) (wr:World),I wr bh i->Calls Tryz.prog 24 #[.pointer (some ⟨bh,0,none⟩)] wr fun e w'=>e=.returned (.bool true)/\w'=wr)
 (rC:LP w a len cap)
 (hC:∀(b off i:Nat) (c:Int) (fo:Option Addr) (fl fc:Nat),a=some ⟨b,off,none⟩->i<len->w.cell? ⟨b,off+i*6+4,none⟩=some (.int .i64 c)->w.cell? ⟨b,off+i*6+5,none⟩=some (.slice fo fl fc)->C w c fo fl fc):
 Calls Tryz.prog 15 #[.slice a len cap,.int .i64 lo,.int .i64 hi] w fun e w'=>e=.returned (.int .i64 (-1))/\Below w.heap.size w w':=by
 have HH:Hid _:=GS;have HI:Hid _:=M8;have HM:Hid _:=M0;have HMO:Hid _:=MZ;have Xr:Hid _:=bF;have i5:Hid _:=GB;have Ed:Hid _:=Gk;have HCC:Hid _:=hC;clear GS M8 M0 MZ bF GB Gk hC;have ez:len<=9223372036854775807:=by
  rcases rC with rfl|⟨b,off,_,_,h1,h2,_⟩
  ·omega
  ·unfold maxLen at h2;omega
 go_enter Tryz.func15,Tryz.ntmps15
 go_wp2_with fail
 go_loopw [7] (fun v wr=>∃k:Int,lo<=k/\k<=hi+1/\v=.int .i64 k/\Below w.heap.size w wr) (fun v _=>(hi+1-intOf v).toNat)
 case atStart=>exact ⟨lo,Int.le_refl _,by omega,rfl,ai _ _⟩
 case round=>
  obtain ⟨k,eA,eh,rfl,hb⟩:=hrel;by_cases jk:k<=hi
  ·have EU:Hid _:=HH.out k wr eA jk hb;have Xp:Hid ((hi+1-(k+1)).toNat<(hi+1-k).toNat):=by show _<_;omega
   go_wp2_with fail
   refine (show Calls _ _ _ _ _ from EU.out).mono ?_
   rintro e w1 ⟨rfl,bB⟩
   go_wp2_with fail
   go_roundw
   case rel=>exact ⟨k+1,by omega,by omega,rfl,hb.trans (bB.mono hb.size)⟩
   case measure=>simpa [intOf] using Xp.out
  ·have M7:decide (k<=hi)=false:=by simpa using jk
   go_wp2_with fail
   obtain ⟨bh,Yo⟩:∃bh,wr.heap.size=bh:=⟨_,rfl⟩;have dk:=hb.size;have hH0:RD (wr.alloc (Obj.cells #[.slice none 0 0,.slice none 0 0,.slice none 0 0] 60)) bh:=by rw [<-Yo];exact az wr _
   have jZ:Below w.heap.size w (wr.alloc (Obj.cells #[.slice none 0 0,.slice none 0 0,.slice none 0 0] 60)):=hb.alloc dk _;have hI0:=HI.out _ bh jZ (by omega) hH0;rw [Yo];clear Yo hb dk hH0
   go_loopw [10] (fun v wx=>∃i:Nat,i<=len/\v=.int .i64 i/\Below w.heap.size w wx/\I wx bh i) (fun v _=>len-(intOf v).toNat)
   case atStart=>exact ⟨0,aF _,rfl,jZ,hI0⟩
   case round=>
    clear jZ hI0;obtain ⟨i,pL,rfl,hb,hI⟩:=hrel;by_cases bF:i<len
    ·rcases rC with h0|⟨b,off,rfl,gZ,jb,yx,G8⟩
     ·omega
     ·obtain ⟨k2,n,m,s,c,fo,fl,fc,hs,x0,x1,x2,x3,x4,x5⟩:=G8 i bF;have DK:=HCC.out b off i c fo fl fc rfl bF x4 x5;rw [<-hb.cell (p:=⟨b,off+i*6,none⟩) gZ] at x0;rw [<-hb.cell (p:=⟨b,off+i*6+1,none⟩) gZ] at x1;rw [<-hb.cell (p:=⟨b,off+i*6+2,none⟩) gZ] at x2;rw [<-hb.cell (p:=⟨b,off+i*6+3,none⟩) gZ] at x3;rw [<-hb.cell (p:=⟨b,off+i*6+4,none⟩) gZ] at x4;rw [<-hb.cell (p:=⟨b,off+i*6+5,none⟩) gZ] at x5;have Yo:bh<wr.heap.size:=Xr.out _ _ _ hI;have dk:=hb.size;clear G8;by_cases Qf:lo<=k2
      ·by_cases Vu:k2<=hi
       ·have vH:Hid _:=i5.out bh i k2 n m s c fo fl fc (wr.alloc (Obj.cells #[.int .i64 k2,.int .i64 n,.int .i64 m,.string s,.int .i64 c,.slice fo fl fc] 65)) bF Qf Vu hs DK (hb.alloc dk _) (HM.out _ _ _ _ hb hI);go_wp2_with fail
        refine (show Calls _ _ _ _ _ from vH.out).mono ?_
        clear vH;rintro e w1 ⟨rfl,bB,hI1⟩
        have rL:Hid _:=Ed.out bh (i+1) w1 hI1;clear x0 x1 x2 x3 x4 x5;go_wp2_with fail
        refine (show Calls _ _ _ _ _ from rL.out).mono ?_
        rintro e w2 ⟨rfl,rfl⟩
        go_wp2_with fail
        go_roundw
        case rel=>exact ⟨i+1,by omega,by go_num,bB,hI1⟩
        case measure=>simp [intOf];omega
       ·have hd:decide (k2<=hi)=false:=by simpa using Vu
        have hI2:=HMO.out _ _ _ (HM.out wr bh i (Obj.cells #[.int .i64 k2,.int .i64 n,.int .i64 m,.string s,.int .i64 c,.slice fo fl fc] 65) hb hI);go_wp2_with fail
        go_roundw
        case rel=>exact ⟨i+1,by omega,by go_num,hb.alloc dk _,hI2⟩
        case measure=>simp [intOf];omega
      ·have hd:decide (lo<=k2)=false:=by simpa using Qf
       have hI2:=HMO.out _ _ _ (HM.out wr bh i (Obj.cells #[.int .i64 k2,.int .i64 n,.int .i64 m,.string s,.int .i64 c,.slice fo fl fc] 65) hb hI);go_wp2_with fail
       go_roundw
       case rel=>exact ⟨i+1,by omega,by go_num,hb.alloc dk _,hI2⟩
       case measure=>simp [intOf];omega
    ·go_wp2_with fail
     go_ret
     exact ⟨rfl,hb⟩
def Ju (w:World) (M i:Nat) (v:Value):Prop:=∃a n,v=.slice a n n/\n<=maxLen/\(n=0\/∃b cur,a=some ⟨b,0,none⟩/\b<M/\w.heap[b]?=some (.cells cur 99 (0,0))/\∀k,k<n->cur[k*2]?=some (.int .i64 ((i:Int)+1))/\cur[k*2+1]?=some (.int .i64 0))
def Jn (w:World) (M i:Nat) (v:Value):Prop:=∃a n,v=.slice a n n/\n<=maxLen/\(n=0/\a=none\/∃b cur,a=some ⟨b,0,none⟩/\b<M/\w.heap[b]?=some (.cells cur 100 (0,0))/\∀k,k<n->∃a' c',cur[k]?=some (.slice a' (i+1) c'))
def Jt (w:World) (M i:Nat) (v:Value):Prop:=∃a n,v=.slice a n n/\n<=maxLen/\(n=0\/∃b cur,a=some ⟨b,0,none⟩/\b<M/\w.heap[b]?=some (.cells cur 79 (0,0))/\∀k,k<n->cur[k*2]?=some (.int .i64 ((i:Int)+1))/\cur[k*2+1]?=some (.slice none 0 0))
structure HoldB (w:World) (B0 hb T0 T1 Ma Ml:Nat) (av lv fv:Value) (NA NL NF EA EL EF:List Value):Prop where
 blk:w.heap[hb]?=some (.cells #[av,lv,fv] 60 (0,0))
 ra:w.ownsRow B0 100 1 av (NA++EA).length (NA++EA)
 rl:w.ownsRow B0 56 1 lv (NL++EL).length (NL++EL)
 rf:w.ownsRow B0 61 1 fv (NF++EF).length (NF++EF)
 out:∀k,av.ownBlock=some k->k<T0\/T1<=k
 fa:∀i (h:i<NA.length),Ju w Ma i NA[i]
 fl:∀i (h:i<NL.length),Jn w Ml i NL[i]
 ff:∀i (h:i<NF.length),Jt w T0 i NF[i]
 sep:∀v∈NL,∀k,av.ownBlock=some k->v.ownBlock≠some k
theorem Ju.full {w:World} {M i:Nat} {v:Value} (h:Ju w M i v):NJ w i v:=by
 obtain ⟨a,n,h1,h2,h3⟩:=h;refine ⟨a,n,h1,h2,?_⟩
 rcases h3 with h3|⟨b,cur,rfl,_,hh,hc⟩
 ·exact .inl h3
 ·exact .inr ⟨b,rfl,fun k hk=>⟨by rw [al w b _ _ _ _ hh];exact (hc k hk).1,by rw [al w b _ _ _ _ hh];exact (hc k hk).2⟩⟩
theorem Jn.full {w:World} {M i:Nat} {v:Value} (h:Jn w M i v):Nw w i v:=by
 obtain ⟨a,n,h1,h2,h3⟩:=h;refine ⟨a,n,h1,h2,?_⟩
 rcases h3 with h3|⟨b,cur,rfl,_,hh,hc⟩
 ·exact .inl h3.1
 ·refine .inr ⟨b,rfl,fun k hk=>?_⟩
  obtain ⟨a',c',e⟩:=hc k hk;exact ⟨a',c',by rw [al w b _ _ _ _ hh];exact e⟩
theorem Jt.full {w:World} {M i:Nat} {v:Value} (h:Jt w M i v):NI w i v:=by
 obtain ⟨a,n,h1,h2,h3⟩:=h;refine ⟨a,n,h1,h2,?_⟩
 rcases h3 with h3|⟨b,cur,rfl,_,hh,hc⟩
 ·exact .inl h3
 ·exact .inr ⟨b,rfl,fun k hk=>⟨by rw [al w b _ _ _ _ hh];exact (hc k hk).1,by rw [al w b _ _ _ _ hh];exact (hc k hk).2⟩⟩
theorem HoldB.st {w:World} {B0 hb T0 T1 Ma Ml:Nat} {av lv fv:Value} {NA NL NF:List Value} (h:HoldB w B0 hb T0 T1 Ma Ml av lv fv NA NL NF [] [] []):HoldSt w hb av lv fv NA NL NF:=
 ⟨h.blk,bO (by simpa using h.ra) (aF _),bO (by simpa using h.rl) (aF _),bO (by simpa using h.rf) (aF _),fun i hi=>(h.fa i hi).full,fun i hi=>(h.fl i hi).full,fun i hi=>(h.ff i hi).full⟩
theorem Ju.same {w w':World} {M i:Nat} {v:Value} (h:Ju w M i v) (hs:∀b cur,b<M->w.heap[b]?=some (.cells cur 99 (0,0))->w'.heap[b]?=w.heap[b]?):Ju w' M i v:=by
 obtain ⟨a,n,h1,h2,h3⟩:=h;refine ⟨a,n,h1,h2,?_⟩
 rcases h3 with h3|⟨b,cur,rfl,hb,hh,hc⟩
 ·exact .inl h3
 ·exact .inr ⟨b,cur,rfl,hb,(hs b cur hb hh).trans hh,hc⟩
theorem Jn.same {w w':World} {M i:Nat} {v:Value} (h:Jn w M i v) (hs:∀b cur,b<M->v.ownBlock=some b->w.heap[b]?=some (.cells cur 100 (0,0))->w'.heap[b]?=w.heap[b]?):Jn w' M i v:=by
 obtain ⟨a,n,h1,h2,h3⟩:=h;refine ⟨a,n,h1,h2,?_⟩
 rcases h3 with h3|⟨b,cur,rfl,hb,hh,hc⟩
 ·exact .inl h3
 ·exact .inr ⟨b,cur,rfl,hb,(hs b cur hb (by rw [h1];rfl) hh).trans hh,hc⟩
theorem Jt.same {w w':World} {M i:Nat} {v:Value} (h:Jt w M i v) (hs:∀b cur,b<M->w.heap[b]?=some (.cells cur 79 (0,0))->w'.heap[b]?=w.heap[b]?):Jt w' M i v:=by
 obtain ⟨a,n,h1,h2,h3⟩:=h;refine ⟨a,n,h1,h2,?_⟩
 rcases h3 with h3|⟨b,cur,rfl,hb,hh,hc⟩
 ·exact .inl h3
 ·exact .inr ⟨b,cur,rfl,hb,(hs b cur hb hh).trans hh,hc⟩
theorem ku {w:World} {b x:Nat} {c1 c2:Array Value} {t1 t2:TypeId} (h1:w.heap[b]?=some (.cells c1 t1 (0,0))) (h2:w.heap[x]?=some (.cells c2 t2 (0,0))) (dI:t1≠t2):b≠x:=by
 intro e;subst e;rw [h1] at h2;simp at h2;exact dI h2.2
theorem HoldB.old {w w':World} {B0 hb T0 T1 Ma Ml:Nat} {av lv fv:Value} {NA NL NF EA EL EF:List Value} (h:HoldB w B0 hb T0 T1 Ma Ml av lv fv NA NL NF EA EL EF) (gZ:Below w.heap.size w w'):HoldB w' B0 hb T0 T1 Ma Ml av lv fv NA NL NF EA EL EF:=
 ⟨(gZ.block hb (ae.1 h.blk).1).trans h.blk,aQ h.ra gZ,aQ h.rl gZ,aQ h.rf gZ,h.out,
   fun i hi=>(h.fa i hi).same (fun b _ _ hh=>gZ.block b (ae.1 hh).1),fun i hi=>(h.fl i hi).same (fun b _ _ _ hh=>gZ.block b (ae.1 hh).1),fun i hi=>(h.ff i hi).same (fun b _ _ hh=>gZ.block b (ae.1 hh).1),h.sep⟩
theorem HoldB.putA {w:World} {B0 hb T0 T1 Ma Ml x i:Nat} {av lv fv u:Value} {NA NL NF EA EL EF:List Value} {cur:Array Value} (h:HoldB w B0 hb T0 T1 Ma Ml av lv fv NA NL NF EA EL EF) (hx:w.heap[x]?=some (.cells cur 99 (0,0))) (hM:Ma<=x):HoldB (w.setCell ⟨x,i,none⟩ u) B0 hb T0 T1 Ma Ml av lv fv NA NL NF EA EL EF:=
 ⟨(bi _ (ku h.blk hx (by decide))).trans h.blk,aB h.ra hx (by decide),aB h.rl hx (by decide),aB h.rf hx (by decide),h.out,
   fun i hi=>(h.fa i hi).same (fun b _ hb _=>bi _ (by omega)),fun i hi=>(h.fl i hi).same (fun b _ _ _ hh=>bi _ (ku hh hx (by decide))),fun i hi=>(h.ff i hi).same (fun b _ _ hh=>bi _ (ku hh hx (by decide))),h.sep⟩
theorem C7 {w:World} {base size n b i:Nat} {e:TypeId} {v u:Value} {xs:List Value} (h:w.ownsRow base e size v n xs) (dI:v.ownBlock≠some b):(w.setCell ⟨b,i,none⟩ u).ownsRow base e size v n xs:=by
 refine ⟨h.1,?_⟩
 rcases h.2 with hn|⟨g,cap,cur,hv,hg,hh,q⟩
 ·exact .inl hn
 ·refine .inr ⟨g,cap,cur,hv,hg,?_,q⟩
  rw [bi _ (fun e1=>dI (by rw [hv,<-e1];rfl))];exact hh
theorem HoldB.putL {w:World} {B0 hb T0 T1 Ma Ml x i:Nat} {av lv fv u:Value} {NA NL NF EA EL EF:List Value} {cur:Array Value} (h:HoldB w B0 hb T0 T1 Ma Ml av lv fv NA NL NF EA EL EF) (hx:w.heap[x]?=some (.cells cur 100 (0,0))) (hM:Ml<=x) (h0:T0<=x) (h1:x<T1):HoldB (w.setCell ⟨x,i,none⟩ u) B0 hb T0 T1 Ma Ml av lv fv NA NL NF EA EL EF:=
 ⟨(bi _ (ku h.blk hx (by decide))).trans h.blk,C7 h.ra (fun e=>by have:=h.out x e;omega),aB h.rl hx (by decide),aB h.rf hx (by decide),h.out,
   fun i hi=>(h.fa i hi).same (fun b _ _ hh=>bi _ (ku hh hx (by decide))),fun i hi=>(h.fl i hi).same (fun b _ hb _ _=>bi _ (by omega)),fun i hi=>(h.ff i hi).same (fun b _ _ hh=>bi _ (ku hh hx (by decide))),h.sep⟩
theorem HoldB.putF {w:World} {B0 hb T0 T1 Ma Ml x i:Nat} {av lv fv u:Value} {NA NL NF EA EL EF:List Value} {cur:Array Value} (h:HoldB w B0 hb T0 T1 Ma Ml av lv fv NA NL NF EA EL EF) (hx:w.heap[x]?=some (.cells cur 79 (0,0))) (h0:T0<=x):HoldB (w.setCell ⟨x,i,none⟩ u) B0 hb T0 T1 Ma Ml av lv fv NA NL NF EA EL EF:=
 ⟨(bi _ (ku h.blk hx (by decide))).trans h.blk,aB h.ra hx (by decide),aB h.rl hx (by decide),aB h.rf hx (by decide),h.out,
   fun i hi=>(h.fa i hi).same (fun b _ _ hh=>bi _ (ku hh hx (by decide))),fun i hi=>(h.fl i hi).same (fun b _ _ _ hh=>bi _ (ku hh hx (by decide))),fun i hi=>(h.ff i hi).same (fun b _ hb _=>bi _ (by omega)),h.sep⟩
theorem HoldB.takeA {w w5:World} {B0 hb T0 T1 Ma Ml g cap:Nat} {av lv fv f:Value} {NA NL NF EL EF:List Value} {o:Obj} (h:HoldB w B0 hb T0 T1 Ma Ml av lv fv NA NL NF [] EL EF) (hT:T1<=w.heap.size)
 (hown:w5.ownsRow B0 100 1 (.slice (some ⟨g,0,none⟩) (NA.length+1) cap) (NA.length+1) (NA++[f])) (iQ:(w.alloc o).grownBy w5 av.ownBlock) (dt:av.ownBlock=some g\/g=(w.alloc o).heap.size):
 HoldB (w5.setCell ⟨hb,0,none⟩ (.slice (some ⟨g,0,none⟩) (NA.length+1) cap)) B0 hb T0 T1 Ma Ml (.slice (some ⟨g,0,none⟩) (NA.length+1) cap) lv fv NA NL NF [f] EL EF:=by
 have h1:=h.old ((ai w.heap.size w).alloc (ah _) o);have kU:(w.alloc o).ownsRow B0 100 1 av NA.length NA:=by simpa using h1.ra
 have dB:=br kU iQ (by decide) h1.blk;have iG:(w.alloc o).heap.size=w.heap.size+1:=by simp
 have kG:∀i (hi:i<NL.length),Jn w5 Ml i NL[i]:=fun i hi=>(h1.fl i hi).same (fun b _ _ ho hh=>iQ.block b (ae.1 hh).1 (fun e=>h1.sep NL[i] (aE hi) b e.symm ho))
 have Qt:∀i (hi:i<NA.length),Ju w5 Ma i NA[i]:=fun i hi=>(h1.fa i hi).same (fun b _ _ hh=>(br kU iQ (by decide) hh).trans hh.symm)
 have Qr:∀i (hi:i<NF.length),Jt w5 T0 i NF[i]:=fun i hi=>(h1.ff i hi).same (fun b _ _ hh=>(br kU iQ (by decide) hh).trans hh.symm)
 refine ⟨bk _ dB,?_,aB (aY kU iQ (by decide) h1.rl) dB (by decide),aB (aY kU iQ (by decide) h1.rf) dB (by decide),?_,fun i hi=>(Qt i hi).same (fun b _ _ hh=>bi _ (ku hh dB (by decide))),fun i hi=>(kG i hi).same (fun b _ _ _ hh=>bi _ (ku hh dB (by decide))),fun i hi=>(Qr i hi).same (fun b _ _ hh=>bi _ (ku hh dB (by decide))),?_⟩
 ·rw [au];exact aB hown dB (by decide)
 ·intro k hk;obtain rfl:g=k:=by simpa [Value.ownBlock] using hk
  rcases dt with dt|dt
  ·exact h.out _ dt
  ·right;omega
 ·intro v hv k hk ho;obtain rfl:g=k:=by simpa [Value.ownBlock] using hk
  rcases dt with dt|dt
  ·exact h.sep v hv _ dt ho
  ·obtain ⟨i,hi,rfl⟩:=cl.1 hv;obtain ⟨a,n,e1,_,e3⟩:=h.fl i hi;rcases e3 with e3|⟨b,cur,rfl,_,hh,_⟩
   ·rw [e1,e3.2] at ho;simp [Value.ownBlock] at ho
   ·rw [e1] at ho;have:b=g:=by simpa [Value.ownBlock] using ho
    have:=(ae.1 hh).1;omega
theorem HoldB.takeL {w w5:World} {B0 hb T0 T1 Ma Ml g cap:Nat} {av lv fv f:Value} {NA NL NF EA EF:List Value} {o:Obj} (h:HoldB w B0 hb T0 T1 Ma Ml av lv fv NA NL NF EA [] EF)
 (hown:w5.ownsRow B0 56 1 (.slice (some ⟨g,0,none⟩) (NL.length+1) cap) (NL.length+1) (NL++[f])) (iQ:(w.alloc o).grownBy w5 lv.ownBlock):
 HoldB (w5.setCell ⟨hb,1,none⟩ (.slice (some ⟨g,0,none⟩) (NL.length+1) cap)) B0 hb T0 T1 Ma Ml av (.slice (some ⟨g,0,none⟩) (NL.length+1) cap) fv NA NL NF EA [f] EF:=by
 have h1:=h.old ((ai w.heap.size w).alloc (ah _) o);have lV:(w.alloc o).ownsRow B0 56 1 lv NL.length NL:=by simpa using h1.rl
 have dB:=br lV iQ (by decide) h1.blk;have kG:∀i (hi:i<NL.length),Jn w5 Ml i NL[i]:=fun i hi=>(h1.fl i hi).same (fun b _ _ _ hh=>(br lV iQ (by decide) hh).trans hh.symm)
 have Qt:∀i (hi:i<NA.length),Ju w5 Ma i NA[i]:=fun i hi=>(h1.fa i hi).same (fun b _ _ hh=>(br lV iQ (by decide) hh).trans hh.symm)
 have Qr:∀i (hi:i<NF.length),Jt w5 T0 i NF[i]:=fun i hi=>(h1.ff i hi).same (fun b _ _ hh=>(br lV iQ (by decide) hh).trans hh.symm)
 refine ⟨bk _ dB,aB (aY lV iQ (by decide) h1.ra) dB (by decide),?_,aB (aY lV iQ (by decide) h1.rf) dB (by decide),h.out,fun i hi=>(Qt i hi).same (fun b _ _ hh=>bi _ (ku hh dB (by decide))),fun i hi=>(kG i hi).same (fun b _ _ _ hh=>bi _ (ku hh dB (by decide))),fun i hi=>(Qr i hi).same (fun b _ _ hh=>bi _ (ku hh dB (by decide))),h.sep⟩
 rw [au];exact aB hown dB (by decide)
theorem HoldB.takeF {w w5:World} {B0 hb T0 T1 Ma Ml g cap:Nat} {av lv fv f:Value} {NA NL NF EA EL:List Value} {o:Obj} (h:HoldB w B0 hb T0 T1 Ma Ml av lv fv NA NL NF EA EL [])
 (hown:w5.ownsRow B0 61 1 (.slice (some ⟨g,0,none⟩) (NF.length+1) cap) (NF.length+1) (NF++[f])) (iQ:(w.alloc o).grownBy w5 fv.ownBlock):
 HoldB (w5.setCell ⟨hb,2,none⟩ (.slice (some ⟨g,0,none⟩) (NF.length+1) cap)) B0 hb T0 T1 Ma Ml av lv (.slice (some ⟨g,0,none⟩) (NF.length+1) cap) NA NL NF EA EL [f]:=by
 have h1:=h.old ((ai w.heap.size w).alloc (ah _) o);have Ak:(w.alloc o).ownsRow B0 61 1 fv NF.length NF:=by simpa using h1.rf
 have dB:=br Ak iQ (by decide) h1.blk;have kG:∀i (hi:i<NL.length),Jn w5 Ml i NL[i]:=fun i hi=>(h1.fl i hi).same (fun b _ _ _ hh=>(br Ak iQ (by decide) hh).trans hh.symm)
 have Qt:∀i (hi:i<NA.length),Ju w5 Ma i NA[i]:=fun i hi=>(h1.fa i hi).same (fun b _ _ hh=>(br Ak iQ (by decide) hh).trans hh.symm)
 have Qr:∀i (hi:i<NF.length),Jt w5 T0 i NF[i]:=fun i hi=>(h1.ff i hi).same (fun b _ _ hh=>(br Ak iQ (by decide) hh).trans hh.symm)
 refine ⟨bk _ dB,aB (aY Ak iQ (by decide) h1.ra) dB (by decide),aB (aY Ak iQ (by decide) h1.rl) dB (by decide),?_,h.out,fun i hi=>(Qt i hi).same (fun b _ _ hh=>bi _ (ku hh dB (by decide))),fun i hi=>(kG i hi).same (fun b _ _ _ hh=>bi _ (ku hh dB (by decide))),fun i hi=>(Qr i hi).same (fun b _ _ hh=>bi _ (ku hh dB (by decide))),h.sep⟩
 rw [au];exact aB hown dB (by decide)
theorem HoldB.fullA {w:World} {B0 hb T0 T1 Ma Ml:Nat} {av lv fv f:Value} {NA NL NF EL EF:List Value} {M:Nat} (h:HoldB w B0 hb T0 T1 Ma Ml av lv fv NA NL NF [f] EL EF) (hM:Ma<=M) (hf:Ju w M NA.length f):HoldB w B0 hb T0 T1 M Ml av lv fv (NA++[f]) NL NF [] EL EF:=by
 refine ⟨h.blk,by simpa using h.ra,h.rl,h.rf,h.out,fun i hi=>?_,h.fl,h.ff,h.sep⟩
 by_cases hl:i<NA.length
 ·rw [dd hl];obtain ⟨a,n,h1,h2,h3⟩:=h.fa i hl;refine ⟨a,n,h1,h2,?_⟩
  rcases h3 with h3|⟨b,cur,rfl,hb,hh,hc⟩
  ·exact .inl h3
  ·exact .inr ⟨b,cur,rfl,bq hb hM,hh,hc⟩
 ·have lj:i=NA.length:=by rw [au] at hi;simp at hi;omega
  subst lj;rw [cN (ah _)];simpa using hf
theorem HoldB.fullL {w:World} {B0 hb T0 T1 Ma Ml:Nat} {av lv fv f:Value} {NA NL NF EA EF:List Value} {M:Nat} (h:HoldB w B0 hb T0 T1 Ma Ml av lv fv NA NL NF EA [f] EF) (hM:Ml<=M) (hf:Jn w M NL.length f) (hs:∀k,av.ownBlock=some k->f.ownBlock≠some k):HoldB w B0 hb T0 T1 Ma M av lv fv NA (NL++[f]) NF EA [] EF:=by
 refine ⟨h.blk,h.ra,by simpa using h.rl,h.rf,h.out,h.fa,fun i hi=>?_,h.ff,fun v hv=>?_⟩
 ·by_cases hl:i<NL.length
  ·rw [dd hl];obtain ⟨a,n,h1,h2,h3⟩:=h.fl i hl;refine ⟨a,n,h1,h2,?_⟩
   rcases h3 with h3|⟨b,cur,rfl,hb,hh,hc⟩
   ·exact .inl h3
   ·exact .inr ⟨b,cur,rfl,bq hb hM,hh,hc⟩
  ·have lj:i=NL.length:=by rw [au] at hi;simp at hi;omega
   subst lj;rw [cN (ah _)];simpa using hf
 ·rcases be.1 hv with hv|hv
  ·exact h.sep v hv
  ·rw [dE.1 hv];exact hs
theorem HoldB.fullF {w:World} {B0 hb T0 T1 Ma Ml:Nat} {av lv fv f:Value} {NA NL NF EA EL:List Value} {M:Nat} (h:HoldB w B0 hb T0 T1 Ma Ml av lv fv NA NL NF EA EL [f]) (hM:T0<=M) (hf:Jt w M NF.length f) (ho:∀k,av.ownBlock=some k->k<M\/T1<=k):HoldB w B0 hb M T1 Ma Ml av lv fv NA NL (NF++[f]) EA EL []:=by
 refine ⟨h.blk,h.ra,h.rl,by simpa using h.rf,ho,h.fa,h.fl,fun i hi=>?_,h.sep⟩
 by_cases hl:i<NF.length
 ·rw [dd hl];obtain ⟨a,n,h1,h2,h3⟩:=h.ff i hl;refine ⟨a,n,h1,h2,?_⟩
  rcases h3 with h3|⟨b,cur,rfl,hb,hh,hc⟩
  ·exact .inl h3
  ·exact .inr ⟨b,cur,rfl,bq hb hM,hh,hc⟩
 ·have lj:i=NF.length:=by rw [au] at hi;simp at hi;omega
  subst lj;rw [cN (ah _)];simpa using hf
theorem HoldB.next {w:World} {B0 hb T0 T1 Ma Ml T:Nat} {av lv fv:Value} {NA NL NF:List Value} (h:HoldB w B0 hb T0 T1 Ma Ml av lv fv NA NL NF [] [] []) (hT:w.heap.size<=T) (T2:Nat):HoldB w B0 hb T T2 T T av lv fv NA NL NF [] [] []:=by
 refine ⟨h.blk,h.ra,h.rl,h.rf,fun k hk=>.inl (by have:=(h.ra.lt k hk).2;omega),fun i hi=>?_,fun i hi=>?_,fun i hi=>?_,h.sep⟩
 ·obtain ⟨a,n,h1,h2,h3⟩:=h.fa i hi;refine ⟨a,n,h1,h2,?_⟩
  rcases h3 with h3|⟨b,cur,rfl,_,hh,hc⟩
  ·exact .inl h3
  ·exact .inr ⟨b,cur,rfl,by have:=(ae.1 hh).1;omega,hh,hc⟩
 ·obtain ⟨a,n,h1,h2,h3⟩:=h.fl i hi;refine ⟨a,n,h1,h2,?_⟩
  rcases h3 with h3|⟨b,cur,rfl,_,hh,hc⟩
  ·exact .inl h3
  ·exact .inr ⟨b,cur,rfl,by have:=(ae.1 hh).1;omega,hh,hc⟩
 ·obtain ⟨a,n,h1,h2,h3⟩:=h.ff i hi;refine ⟨a,n,h1,h2,?_⟩
  rcases h3 with h3|⟨b,cur,rfl,_,hh,hc⟩
  ·exact .inl h3
  ·exact .inr ⟨b,cur,rfl,by have:=(ae.1 hh).1;omega,hh,hc⟩
theorem OO (h:Value) (n m:Int) (s:ByteArray) (c:Cd) (fo:Option Addr) (fl fc:Nat) (w:World) (hf:dS w w.heap.size (.slice fo fl fc) c.fs) (nB:tZ c.fs) (ht:Tab w):
 Calls Tryz.prog 23 #[h,opV 5 n m s c.mn fo fl fc] w fun e w'=>e=.returned (.bool true)/\Below w.heap.size w w':=by
 have hA:Below w.heap.size w (w.alloc (Obj.cells #[.int .i64 5,.int .i64 n,.int .i64 m,.string s,.int .i64 c.mn,.slice fo fl fc] 65)):=(ai _ _).alloc (ah _) _;have HC:Hid _:=O1 h n m s c fo fl fc (w.alloc (Obj.cells #[.int .i64 5,.int .i64 n,.int .i64 m,.string s,.int .i64 c.mn,.slice fo fl fc] 65)) ((hf.keep hA).upZ hA.size) nB (ht.alloc _);unfold opV at HC ⊢;clear hf nB ht;go_enter Tryz.func23,Tryz.ntmps23
 go_wp2_with fail
 refine (show Calls _ _ _ _ _ from HC.out).mono ?_
 rintro e w1 ⟨rfl,bB⟩
 have eQ:Below w.heap.size w w1:=hA.trans (bB.mono (by simp));clear bB HC;go_wp2_with fail
 go_ret
 exact ⟨rfl,eQ⟩
end Go.Proofs.YtnndoagpbcacdabGreatDoor
