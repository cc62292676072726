import Derived.Test.YtnndoagpbcacdabGreatDoorMN14
import Derived.Test.YtnndoagpbcacdabGreatDoorMQ7
import Derived.Test.YtnndoagpbcacdabGreatDoorMI5
import Derived.Test.YtnndoagpbcacdabGreatDoorMF9
import Derived.Test.YtnndoagpbcacdabGreatDoorMX7
import Derived.Test.YtnndoagpbcacdabGreatDoorMW5
import Derived.Test.YtnndoagpbcacdabGreatDoorMR9
import Derived.Test.YtnndoagpbcacdabGreatDoorMK5
import Derived.Deep.QuietTactic
import Derived.BigQuiet
namespace Go.Proofs.YtnndoagpbcacdabGreatDoor
set_option maxHeartbeats 8000000
set_option maxRecDepth 100000
open Go.RowKit
theorem Tz (s:ByteArray) (bud hp:Int) (cd:Cd) (w:World) (hs:s.size<=maxLen) (eu:rdC s=some cd) (jZ:0<=bud) (bB:bud<=2000) (Jf:0<=hp) (Cj:hp<=24000):
 Calls Tryz.prog 75 #[.string s,.int .i64 bud,.int .i64 hp] w fun e w'=>e=.returned (.tuple #[.agg #[.int .i64 (mI ⟨cd.fs,bud,hp⟩ cd.mn).out,.int .i64 (mI ⟨cd.fs,bud,hp⟩ cd.mn).val,.int .i64 (mI ⟨cd.fs,bud,hp⟩ cd.mn).stp],.int .i64 0])/\Below w.heap.size w w':=by
 have nW:=rV eu;obtain ⟨lW,mQ,_,_⟩:=o7 (bud:=bud) (hp:=hp) nW;have yh:=BA nW;obtain ⟨n,U,he,hg,hz,dI,r1,r2,r3⟩:=Fz ⟨cd.fs,bud,hp⟩ cd.mn lW mQ yh jZ bB;rw [r1,r2,r3];obtain ⟨ra,kU⟩:∃ra:Int,ra=(if U.out=0 then (if (hdI U.cur).1=1 then 1 else 2) else U.out):=⟨_,rfl⟩;obtain ⟨rb,yn⟩:∃rb:Int,rb=(if U.out=0 then (if (hdI U.cur).1=1 then (hdI U.cur).2 else 0) else 0):=⟨_,rfl⟩;obtain ⟨us,Pi⟩:∃us:Int,us=U.stp:=⟨_,rfl⟩;rw [<-kU,<-yn,<-Pi];have LY:Hid _:=kU;have LX:Hid _:=yn;have RM:Hid _:=Pi;clear kU yn Pi;have HC:Hid _:=JH s (w.alloc (Obj.cells #[.int .i64 0,.int .i64 0,.int .i64 0] 24)) hs;rw [pd eu] at HC;have Eb:Hid (∀T g fv,SV T g fv cd.mn ⟨cd.fs,bud,hp⟩ n):=fun T g fv=>Tt T g fv cd.mn ⟨cd.fs,bud,hp⟩ mQ yh bB ⟨Jf,Cj⟩ n
 have HE:Hid _:=he;have HG:Hid _:=hg;have HZ:Hid _:=hz;have IT:Hid _:=dI;have j7:Hid _:=eu;generalize rdL s=rl at*;clear r1 r2 r3 he hg hz dI lW mQ yh nW eu;go_enter Tryz.func75,Tryz.ntmps75
 go_wp2_with fail
 refine (show Calls _ _ _ _ _ from HC.out).mono ?_
 rintro e w1 ⟨mn,fo,fl,fc,rfl,eQ,_,ip⟩
 clear HC;obtain ⟨rfl,qI⟩:=ip _ j7.out;have hX:=(eQ.block w.heap.size (by simp)).trans (az w _);have oz:w.heap.size<w1.heap.size:=(ae.1 hX).1;have jm:Hid _:=hX;have eI:Hid (Below w.heap.size w w1):=(bM w _).trans (eQ.mono (by simp));have mo:=qI.rd;have mu:decide (bud<0)=false:=by simp;omega
 have jz:decide (2000<bud)=false:=by simp;omega
 have mV:decide (hp<0)=false:=by simp;omega
 have QC:decide (24000<hp)=false:=by simp;omega
 have gU:Hid (Below w1.heap.size w1 (((w1.alloc (Obj.cells #[.int .i64 cd.mn,.slice fo fl fc] 63)).alloc (Obj.cells #[.int .i64 cd.mn,.slice fo fl fc,.int .i64 bud,.int .i64 hp,.int .i64 0,.slice none 0 0,.slice none 0 0,.slice none 0 0,.int .i64 0] 192)).alloc (Obj.cells #[.int .i64 3,.int .i64 cd.mn] 99))):=(eU _ _ _).alloc (by simp;omega) _;have mY:(((w1.alloc (Obj.cells #[.int .i64 cd.mn,.slice fo fl fc] 63)).alloc (Obj.cells #[.int .i64 cd.mn,.slice fo fl fc,.int .i64 bud,.int .i64 hp,.int .i64 0,.slice none 0 0,.slice none 0 0,.slice none 0 0,.int .i64 0] 192)).alloc (Obj.cells #[.int .i64 3,.int .i64 cd.mn] 99)).heap[w1.heap.size+1]?=some (.cells #[.int .i64 cd.mn,.slice fo fl fc,.int .i64 bud,.int .i64 hp,.int .i64 0,.slice none 0 0,.slice none 0 0,.slice none 0 0,.int .i64 0] 192 (0,0)):=by
  refine (aO _ _ _ (by simp)).trans ?_
  have:=az (w1.alloc (Obj.cells #[.int .i64 cd.mn,.slice fo fl fc] 63)) (Obj.cells #[.int .i64 cd.mn,.slice fo fl fc,.int .i64 bud,.int .i64 hp,.int .i64 0,.slice none 0 0,.slice none 0 0,.slice none 0 0,.int .i64 0] 192);rw [bT] at this;exact this
 have Jo:Hid (Rd (((w1.alloc (Obj.cells #[.int .i64 cd.mn,.slice fo fl fc] 63)).alloc (Obj.cells #[.int .i64 cd.mn,.slice fo fl fc,.int .i64 bud,.int .i64 hp,.int .i64 0,.slice none 0 0,.slice none 0 0,.slice none 0 0,.int .i64 0] 192)).alloc (Obj.cells #[.int .i64 3,.int .i64 cd.mn] 99)) w1.heap.size (.slice (some ⟨w1.heap.size+1+1,0,none⟩) 1 1) [(3,cd.mn)]):=by
  have:=fg ((w1.alloc (Obj.cells #[.int .i64 cd.mn,.slice fo fl fc] 63)).alloc (Obj.cells #[.int .i64 cd.mn,.slice fo fl fc,.int .i64 bud,.int .i64 hp,.int .i64 0,.slice none 0 0,.slice none 0 0,.slice none 0 0,.int .i64 0] 192)) #[.int .i64 3,.int .i64 cd.mn] 1 (e:=99) (base:=0) (size:=2) (aF _) (by unfold maxLen;omega) rfl;rw [bT,bT] at this;exact Rd.own (l:=[(3,cd.mn)]) this
 have XO:Hid _:=Eb.out w1.heap.size (w1.heap.size+1) (.slice fo fl fc) (gY cd.mn) U _ _ HE.out HG.out HZ.out ⟨_,_,_,[],[],mY,by omega,mo.keep gU.out,aM _ _ _ _,rfl,fun j v n hj=>by simp at hj,aM _ _ _ _,fun j v n hj=>by simp at hj,aM _ _ _ _⟩ Jo.out;clear hX eQ ip qI mo mY Jo HE HG HZ Eb;go_wp2_with fail
 refine (show Calls _ _ _ _ _ from XO.out).mono ?_
 rintro e w4 ⟨v,rfl,tA,jR,l,yC,_,Kr⟩
 clear XO;have lO:Hid (Fx w1.heap.size w1 w4):=(Fx.of gU.out (ah _)).trans tA;have zd:Hid _:=(lO.out.bel.block w.heap.size oz).trans jm.out;have ni:Hid (Below w.heap.size w w4):=eI.out.trans (lO.out.bel.mono (by omega));obtain ⟨av,bv,ov,vs,bs,jR⟩:=jR;obtain ⟨_,_,_,_,c4,_,_,_,c8⟩:=jR.cells;have Yj:=jR.lt;have HR:Hid _:=FE U.out U.stp l w1.heap.size v w4.drew (yC.old (aR (ai _ _))) (fun h=>by rw [Kr h];exact IT.out h);have e1:(if U.out=0 then (if (hdI l).1=1 then 1 else 2) else U.out:Int)=(if U.out=0 then (if (hdI U.cur).1=1 then 1 else 2) else U.out):=by
  by_cases h:U.out=0
  ·rw [Kr h]
  ·rw [ay h,ay h]
 have e2:(if U.out=0 then (if (hdI l).1=1 then (hdI l).2 else 0) else 0:Int)=(if U.out=0 then (if (hdI U.cur).1=1 then (hdI U.cur).2 else 0) else 0):=by
  by_cases h:U.out=0
  ·rw [Kr h]
  ·rw [ay h,ay h]
 rw [e1,e2,<-LY.out,<-LX.out,<-RM.out] at HR;rw [<-RM.out] at c4;obtain ⟨vo,vc,rfl⟩:=yC.form;clear e1 e2 yC Kr jR tA IT;clear LY LX RM;generalize U.out=uo at*;generalize l.length=ll at*;have Pe:w.heap.size<w4.heap.size:=(ae.1 zd.out).1;go_wp2_with fail
 go_region_with (go_at_call 120;go_must (refine (show Calls _ _ _ _ _ from HR.out).mono ?_);rintro e w5 ⟨rfl,dB⟩;have LQ:Hid (w5.heap[w.heap.size]?=some (Obj.cells #[.int .i64 0,.int .i64 0,.int .i64 0] 24)):=(dB.block w.heap.size Pe).trans zd.out;have xm:Hid (Below w.heap.size w w5):=ni.out.trans ((aR (ai _ _)).trans (dB.mono (by show w.heap.size<=w4.heap.size;omega)));clear dB;obtain ⟨r0,r1,r2,z0,z1,z2,Qc⟩:=i7 LQ.out)
 all_goals
  go_wp2_with fail
  obtain ⟨q0,q1,q2⟩:=gb w5 w.heap.size _ _ _ _ (.int .i64 ra) (.int .i64 rb) (.int .i64 us) LQ.out;exact aS (v:=.tuple #[.agg #[.int .i64 ra,.int .i64 rb,.int .i64 us],.int .i64 0]) (by simp [results,Tryz.results75,go_sem,q0,q1,q2]) rfl ⟨rfl,((xm.out.setCell (by exact ah _) _).setCell (by exact ah _) _).setCell (by exact ah _) _⟩
theorem Mc (s:ByteArray) (bud hp a b c er:Int) (h:∀w,Calls Tryz.prog 17 #[.string s,.int .i64 bud,.int .i64 hp] w fun e w'=>e=.returned (.tuple #[.agg #[.int .i64 a,.int .i64 b,.int .i64 c],.int .i64 er])/\Below w.heap.size w w') (w:World):
 Calls Tryz.prog 12 #[.string s,.int .i64 bud,.int .i64 hp] w fun e w'=>e=.returned (.tuple #[.agg #[.int .i64 a,.int .i64 b,.int .i64 c],.int .i64 er])/\Below w.heap.size w w':=by
 have HC:Hid _:=h (w.alloc (Obj.cells #[.int .i64 0,.int .i64 0,.int .i64 0] 24));clear h;go_enter Tryz.func12,Tryz.ntmps12
 go_wp2_with fail
 refine (show Calls _ _ _ _ _ from HC.out).mono ?_
 rintro e w1 ⟨rfl,bB⟩
 clear HC;have hX:=(bB.block w.heap.size (by simp)).trans (az w _);obtain ⟨r0,r1,r2,z0,z1,z2,oz⟩:=i7 hX;have jm:Hid _:=hX;have eI:Hid (Below w.heap.size w w1):=(bM w _).trans (bB.mono (by simp));clear hX bB;go_wp2_with fail
 obtain ⟨q0,q1,q2⟩:=gb w1 w.heap.size _ _ _ _ (.int .i64 a) (.int .i64 b) (.int .i64 c) jm.out;refine aS (v:=.tuple #[.agg #[.int .i64 a,.int .i64 b,.int .i64 c],.int .i64 er]) (by simp [results,Tryz.results12,go_sem,q0,q1,q2]) rfl ⟨rfl,?_⟩
 exact ((eI.out.setCell (by exact ah _) _).setCell (by exact ah _) _).setCell (by exact ah _) _
theorem JD (s:ByteArray) (bud hp:Int) (hs:s.size<=maxLen):∃a b c er:Int,
 (∀w,Calls Tryz.prog 12 #[.string s,.int .i64 bud,.int .i64 hp] w fun e w'=>e=.returned (.tuple #[.agg #[.int .i64 a,.int .i64 b,.int .i64 c],.int .i64 er])/\Below w.heap.size w w')/\
 (∀w,Calls Tryz.prog 75 #[.string s,.int .i64 bud,.int .i64 hp] w fun e w'=>e=.returned (.tuple #[.agg #[.int .i64 a,.int .i64 b,.int .i64 c],.int .i64 er])/\Below w.heap.size w w'):=by
 cases eu:rdC s with
 |none=>exact ⟨0,0,0,rdE s,Mc s bud hp 0 0 0 _ (fun w=>Y6 s bud hp w hs eu),fun w=>YZ s bud hp w hs eu⟩
 |some cd=>
  by_cases hb:zQ bud hp
  ·exact ⟨0,0,0,8,Mc s bud hp 0 0 0 _ (fun w=>TU s bud hp cd w hs eu hb),fun w=>Y0 s bud hp cd w hs eu hb⟩
  ·unfold zQ at hb;exact ⟨_,_,_,0,fun w=>Tb s bud hp cd w hs eu (pd eu) (by omega) (by omega) (by omega) (by omega) (rV eu),fun w=>Tz s bud hp cd w hs eu (by omega) (by omega) (by omega) (by omega)⟩
theorem T6 (n m:Int) (s:ByteArray) (c:Int) (fo:Option Addr) (fl fc:Nat) (w:World) (hs:s.size<=maxLen):
 Calls Tryz.prog 40 #[opV 6 n m s c fo fl fc] w fun e w'=>e=.returned (.bool true)/\Below w.heap.size w w':=by
 unfold opV;obtain ⟨ra,rb,rc,er,h1,h2⟩:=JD s n m hs;have HC:Hid _:=h1 (w.alloc (Obj.cells #[.int .i64 6,.int .i64 n,.int .i64 m,.string s,.int .i64 c,.slice fo fl fc] 65));have HR:Hid _:=h2;clear h1 h2;go_enter Tryz.func40,Tryz.ntmps40
 go_wp2_with fail
 refine (show Calls _ _ _ _ _ from HC.out).mono ?_
 rintro e w1 ⟨rfl,bB⟩
 clear HC;have fe:=dx bB;have g1:=al w1 w.heap.size 1 _ _ _ fe;have g2:=al w1 w.heap.size 2 _ _ _ fe;have g3:=al w1 w.heap.size 3 _ _ _ fe;simp only [ax,ap,aq] at g1 g2 g3;have oz:w.heap.size<w1.heap.size:=(ae.1 fe).1;have eI:Hid (Below w.heap.size w w1):=(bM w _).trans (bB.mono (by simp));clear bB fe;go_wp2_with fail
 refine (show Calls _ _ _ _ _ from HR.out (w1.alloc (Obj.cells #[.int .i64 ra,.int .i64 rb,.int .i64 rc] 24))).mono ?_
 rintro e w2 ⟨rfl,bX⟩
 clear HR;have gp:Hid (w2.heap[w1.heap.size]?=some (Obj.cells #[.int .i64 ra,.int .i64 rb,.int .i64 rc] 24)):=dx bX;have gj:Hid (Below w.heap.size w w2):=(eI.out.alloc (by omega) _).trans (bX.mono (by simp;omega));obtain ⟨r0,r1,r2,_,_,_,gS⟩:=i7 gp.out;clear bX g1 g2 g3;have p1:(ra==ra)=true:=by simp
 have p2:(rb==rb)=true:=by simp
 have p3:(rc==rc)=true:=by simp
 have p4:(er==er)=true:=by simp
 go_wp2_with (go_at_call 66;refine (OT _ _).mono ?_;rintro e w3 ⟨rfl,rfl⟩)
 go_ret
 exact ⟨rfl,gj.out.alloc (by have:=gj.out.size;omega) _⟩
theorem ON (h:Value) (n m:Int) (s:ByteArray) (c:Int) (fo:Option Addr) (fl fc:Nat) (w:World) (hs:s.size<=maxLen):
 Calls Tryz.prog 23 #[h,opV 6 n m s c fo fl fc] w fun e w'=>e=.returned (.bool true)/\Below w.heap.size w w':=by
 unfold opV;go_enter Tryz.func23,Tryz.ntmps23
 go_wp2_with fail
 refine (T6 n m s c fo fl fc _ hs).mono ?_
 rintro e w1 ⟨rfl,bB⟩
 have eQ:Below w.heap.size w w1:=((ai _ _).alloc (ah _) _).trans (bB.mono (by simp));clear bB;go_wp2_with fail
 go_ret
 exact ⟨rfl,eQ⟩
def KG:ByteArray:=⟨#[77,32,48,32,49,10,70,32,48,32,48,10,110,53,10]⟩
theorem zS:rdC KG=some ⟨0,[⟨0,[[(1,5)]]⟩]⟩:=by
 have h:=tT ⟨0,[⟨0,[[(1,5)]]⟩]⟩ (by decide+kernel) KG (by decide+kernel);unfold rdC;rw [ay (by decide),h]
theorem vY:(mI ⟨[⟨0,[[(1,5)]]⟩],1,0⟩ 0).out=1/\(mI ⟨[⟨0,[[(1,5)]]⟩],1,0⟩ 0).val=5/\(mI ⟨[⟨0,[[(1,5)]]⟩],1,0⟩ 0).stp=1:=by decide+kernel
theorem OV (w:World):
 Calls Tryz.prog 22 #[.int .i64 6] w fun e w'=>e=.returned (.bool true)/\Below w.heap.size w w':=by
 have HC:Hid _:=Tb KG 1 0 _ w (by decide) zS (pd zS) (by omega) (by omega) (by omega) (by omega) (rV zS);rw [vY.1,vY.2.1,vY.2.2] at HC;unfold KG at HC;go_enter Tryz.func22,Tryz.ntmps22
 go_wp2_with fail
 refine (show Calls _ _ _ _ _ from HC.out).mono ?_
 clear HC;rintro e w1 ⟨rfl,bB⟩
 have eI:Hid _:=bB;have fH:=bB.size;clear bB;go_wp2_with fail
 go_ret
 exact ⟨rfl,eI.out.alloc fH _⟩
def I3 (n:Int):Prop:= -9223372036854775808<=n/\n<=9223372036854775807
def aki (mn:Int) (fs:List Tp):Prop:=I3 mn/\∀t∈fs,I3 t.ar/\∀l∈t.ls,∀a∈l,I3 a.1/\I3 a.2
theorem Tc (s:ByteArray) (w:World) (hs:s.size<=maxLen):
 Calls Tryz.prog 36 #[.string s] w fun e w'=>∃mn fo fl fc,e=.returned (.tuple #[.agg #[.int .i64 mn,.slice fo fl fc],.int .i64 (rdL s),.int .i64 (rdE s)])/\Below w.heap.size w w'/\(rdC s=none->mn=0/\Value.slice fo fl fc=.slice none 0 0)/\∀c,rdC s=some c->mn=c.mn/\gR w' (.slice fo fl fc) c.fs/\nj w' w.heap.size (.slice fo fl fc) c.fs:=by
 have HC:Hid _:=JL s (w.alloc (Obj.cells #[.int .i64 0,.slice none 0 0] 63)) hs;generalize rdL s=rl at*;generalize rdE s=re at*;go_enter Tryz.func36,Tryz.ntmps36
 go_wp2_with fail
 refine (show Calls _ _ _ _ _ from HC.out).mono ?_
 rintro e w1 ⟨mn,fv,rfl,bB,Sr,UG⟩
 clear HC;have hX:=dx bB;obtain ⟨fo,fl,fc,rfl⟩:∃fo fl fc,fv=.slice fo fl fc:=by
  cases hc:rdC s with
  |none=>exact ⟨none,0,0,(Sr hc).2⟩
  |some c=>
   obtain ⟨ys,h1,_⟩:=(UG c hc).2.1;obtain ⟨a,cp,e⟩:=aU h1;exact ⟨a,_,cp,e⟩
 have kH:Below w.heap.size w w1:=((ai _ _).alloc (ah _) _).trans (bB.mono (by simp));obtain ⟨x0,x1,f0,f1⟩:=bS hX;obtain ⟨q0,q1⟩:=od (a:=.int .i64 mn) (c:=.slice fo fl fc) hX;have hXl:w.heap.size<w1.heap.size:=(ae.1 hX).1;have HN:Hid _:=Sr;have HS:Hid _:=UG;clear Sr UG;go_wp2_with fail
 refine aS (v:=.tuple #[.agg #[.int .i64 mn,.slice fo fl fc],.int .i64 rl,.int .i64 re]) (by simp [results,Tryz.results36,go_sem,q0,q1]) rfl ⟨mn,fo,fl,fc,rfl,?_,HN.out,fun c hc=>⟨(HS.out c hc).1,?_,?_⟩⟩
 ·exact (kH.setCell (by exact ah _) _).setCell (by exact ah _) _
 ·exact ((HS.out c hc).2.1.set hX).set (bk _ hX)
 ·exact (((HS.out c hc).2.2.set hX).set (bk _ hX)).base (by simp)
theorem Mb (c:Cd) (fo:Option Addr) (fl fc T:Nat) (w:World) (hT:T<=w.heap.size) (hf:dS w T (.slice fo fl fc) c.fs) (ht:Tab w):
 Calls Tryz.prog 37 #[.agg #[.int .i64 c.mn,.slice fo fl fc]] w fun e w'=>∃x:ByteArray,e=.returned (.tuple #[.string x,.int .i64 (wrE c)])/\x.data.toList=wrL c/\x.size<=20000/\Below w.heap.size w w':=by
 have HC:Hid _:=Mw c (.slice fo fl fc) T (w.alloc (Obj.cells #[.int .i64 c.mn,.slice fo fl fc] 63)) (by simp;omega) (hf.keep ((ai _ _).alloc hT _)) (ht.alloc _);generalize wrE c=er at*;go_enter Tryz.func37,Tryz.ntmps37
 go_wp2_with fail
 refine (show Calls _ _ _ _ _ from HC.out).mono ?_
 rintro e w1 ⟨x,rfl,hx,kA,bB⟩
 have kH:Below w.heap.size w w1:=((ai _ _).alloc (ah _) _).trans (bB.mono (by simp));go_wp2_with fail
 go_ret2
 exact ⟨x,rfl,hx,kA,kH⟩
theorem OL (n m:Int) (s:ByteArray) (c:Int) (fo:Option Addr) (fl fc:Nat) (w:World) (hs:s.size<=maxLen):
 Calls Tryz.prog 38 #[opV 1 n m s c fo fl fc] w fun e w'=>e=.returned (.bool true)/\Below w.heap.size w w':=by
 unfold opV;go_enter Tryz.func38,Tryz.ntmps38
 go_wp2_with fail
 refine (Me s _ hs).mono ?_
 rintro e w1 ⟨rfl,bB⟩
 have fe:=dx bB;have g3:=al w1 w.heap.size 3 _ _ _ fe;simp only [ax,ap,aq] at g3;have eQ:Below w.heap.size w w1:=((ai _ _).alloc (ah _) _).trans (bB.mono (by simp));clear bB fe;go_wp2_with fail
 refine (qR s _ hs).mono ?_
 rintro e w2 ⟨rfl,bX⟩
 have ik:=eQ.trans (bX.mono eQ.size);clear bX eQ g3;generalize (chk s).1=p;generalize (chk s).2=er;have hp:(p==p)=true:=by simp
 have nX:(er==er)=true:=by simp
 go_wp2_with (go_at_call 66;refine (OT _ _).mono ?_;rintro e w3 ⟨rfl,rfl⟩)
 go_ret
 exact ⟨rfl,ik⟩
theorem OS (h:Value) (n m:Int) (s:ByteArray) (c:Int) (fo:Option Addr) (fl fc:Nat) (w:World) (hs:s.size<=maxLen):
 Calls Tryz.prog 23 #[h,opV 1 n m s c fo fl fc] w fun e w'=>e=.returned (.bool true)/\Below w.heap.size w w':=by
 unfold opV;go_enter Tryz.func23,Tryz.ntmps23
 go_wp2_with fail
 refine (OL n m s c fo fl fc _ hs).mono ?_
 rintro e w1 ⟨rfl,bB⟩
 have eQ:Below w.heap.size w w1:=((ai _ _).alloc (ah _) _).trans (bB.mono (by simp));clear bB;go_wp2_with fail
 go_ret
 exact ⟨rfl,eQ⟩
theorem O0 (w:World):
 Calls Tryz.prog 22 #[.int .i64 1] w fun e w'=>e=.returned (.bool true)/\Below w.heap.size w w':=by
 go_enter Tryz.func22,Tryz.ntmps22
 go_wp2_with fail
 refine (Me _ _ (by decide)).mono ?_
 rw [Lu];rintro e w1 ⟨rfl,bB⟩
 go_wp2_with fail
 go_ret
 exact ⟨rfl,bB⟩
def NJ (w:World) (i:Nat) (v:Value):Prop:=∃a n,v=.slice a n n/\n<=maxLen/\(n=0\/∃b,a=some ⟨b,0,none⟩/\∀k,k<n->w.cell? ⟨b,k*2,none⟩=some (.int .i64 ((i:Int)+1))/\w.cell? ⟨b,k*2+1,none⟩=some (.int .i64 0))
def Nw (w:World) (i:Nat) (v:Value):Prop:=∃a n,v=.slice a n n/\n<=maxLen/\(n=0\/∃b,a=some ⟨b,0,none⟩/\∀k,k<n->∃a' c',w.cell? ⟨b,k,none⟩=some (.slice a' (i+1) c'))
def NI (w:World) (i:Nat) (v:Value):Prop:=∃a n,v=.slice a n n/\n<=maxLen/\(n=0\/∃b,a=some ⟨b,0,none⟩/\∀k,k<n->w.cell? ⟨b,k*2,none⟩=some (.int .i64 ((i:Int)+1))/\w.cell? ⟨b,k*2+1,none⟩=some (.slice none 0 0))
structure HoldSt (w:World) (hb:Nat) (av lv fv:Value) (NA NL NF:List Value):Prop where
 blk:w.heap[hb]?=some (.cells #[av,lv,fv] 60 (0,0))
 ra:w.ownsRow 0 100 1 av NA.length NA
 rl:w.ownsRow 0 56 1 lv NL.length NL
 rf:w.ownsRow 0 61 1 fv NF.length NF
 fa:∀i (h:i<NA.length),NJ w i NA[i]
 fl:∀i (h:i<NL.length),Nw w i NL[i]
 ff:∀i (h:i<NF.length),NI w i NF[i]
theorem zP {w:World} {e:TypeId} {v:Value} {n:Nat} {xs:List Value} (h:w.ownsRow 0 e 1 v n xs):n<=maxLen:=by
 rcases h.2 with ⟨_,rfl⟩|⟨_,_,_,_,_,_,h1,h2,_⟩
 ·unfold maxLen;omega
 ·omega
theorem T3 (hb:Nat) (av lv fv:Value) (NA NL NF:List Value) (w:World) (h:HoldSt w hb av lv fv NA NL NF):
 Calls Tryz.prog 24 #[.pointer (some ⟨hb,0,none⟩)] w fun e w'=>e=.returned (.bool true)/\w'=w:=by
 obtain ⟨mY,kU,lV,Ak,Qt,kG,Qr⟩:=h;have la:=zP kU;have ll:=zP lV;have lf:=zP Ak;unfold maxLen at la ll lf;obtain ⟨g0,g1,g2⟩:=eK mY;obtain ⟨ao,ac,rfl⟩:=aU kU;obtain ⟨lo,lc,rfl⟩:=aU lV;obtain ⟨fo,fc,rfl⟩:=aU Ak;go_enter Tryz.func24,Tryz.ntmps24
 go_wp2_with fail
 go_loopw [3] (fun y wr=>∃i:Nat,i<=NA.length/\y=.int .i64 i/\wr=w) (fun y _=>NA.length-(intOf y).toNat)
 case atStart=>exact ⟨0,aF _,rfl,rfl⟩
 case round=>
  obtain ⟨i,hi,rfl,rfl⟩:=hrel;by_cases bF:i<NA.length
  ·obtain ⟨q,cap',hq,_,dX⟩:=kU.form (by omega);cases hq
   have c0:=aH kU i _ (aj bF);have HF:Hid _:=Qt i bF;generalize NA[i]=v at*;obtain ⟨a,n,rfl,hn,jA⟩:=HF.out;unfold maxLen at hn;clear HF;go_wp2_with fail
   go_loopw [4] (fun y wr'=>∃k:Nat,k<=n/\y=.int .i64 k/\wr'=wr) (fun y _=>n-(intOf y).toNat)
   case atStart=>exact ⟨0,aF _,rfl,rfl⟩
   case round=>
    obtain ⟨k,hk,rfl,rfl⟩:=hrel;by_cases jk:k<n
    ·rcases jA with h0|⟨b,rfl,hc⟩
     ·omega
     obtain ⟨d0,d1⟩:=hc k jk;have m1:(((i:Int)+1)==((i:Int)+1))=true:=by simp
     have m2:((0:Int)==0)=true:=rfl;go_wp2_with fail
     go_roundw
     case rel=>exact ⟨k+1,jk,by go_num,trivial⟩
     case measure=>simp [intOf];omega
    ·have Vq:¬(k:Int)<(n:Int):=by omega
     go_wp2_with fail
     go_roundw
     case rel=>exact ⟨i+1,bF,by go_num,trivial⟩
     case measure=>simp [intOf];omega
  ·have Ks:¬(i:Int)<(NA.length:Int):=by omega
   go_wp2_with fail
   go_loopw [5] (fun y wr'=>∃i:Nat,i<=NL.length/\y=.int .i64 i/\wr'=wr) (fun y _=>NL.length-(intOf y).toNat)
   case atStart=>exact ⟨0,aF _,rfl,rfl⟩
   case round=>
    obtain ⟨i,hi,rfl,rfl⟩:=hrel;by_cases bF:i<NL.length
    ·obtain ⟨q,cap',hq,_,dX⟩:=lV.form (by omega);cases hq
     have c0:=aH lV i _ (aj bF);have HF:Hid _:=kG i bF;generalize NL[i]=v at*;obtain ⟨a,n,rfl,hn,jA⟩:=HF.out;unfold maxLen at hn;clear HF;go_wp2_with fail
     go_loopw [6] (fun y wr'=>∃k:Nat,k<=n/\y=.int .i64 k/\wr'=wr) (fun y _=>n-(intOf y).toNat)
     case atStart=>exact ⟨0,aF _,rfl,rfl⟩
     case round=>
      obtain ⟨k,hk,rfl,rfl⟩:=hrel;by_cases jk:k<n
      ·rcases jA with h0|⟨b,rfl,hc⟩
       ·omega
       obtain ⟨a',c',d0⟩:=hc k jk;have m1:(((i+1:Nat):Int)==((i:Int)+1))=true:=by simp
       have m2:(((i+1:Nat):Int) !=((i:Int)+1))=false:=by simp
       go_wp2_with fail
       go_roundw
       case rel=>exact ⟨k+1,jk,by go_num,trivial⟩
       case measure=>simp [intOf];omega
      ·have Vq:¬(k:Int)<(n:Int):=by omega
       go_wp2_with fail
       go_roundw
       case rel=>exact ⟨i+1,bF,by go_num,trivial⟩
       case measure=>simp [intOf];omega
    ·have Ks:¬(i:Int)<(NL.length:Int):=by omega
     go_wp2_with fail
     go_loopw [7] (fun y wr'=>∃i:Nat,i<=NF.length/\y=.int .i64 i/\wr'=wr) (fun y _=>NF.length-(intOf y).toNat)
     case atStart=>exact ⟨0,aF _,rfl,rfl⟩
     case round=>
      obtain ⟨i,hi,rfl,rfl⟩:=hrel;by_cases bF:i<NF.length
      ·obtain ⟨q,cap',hq,_,dX⟩:=Ak.form (by omega);cases hq
       have c0:=aH Ak i _ (aj bF);have HF:Hid _:=Qr i bF;generalize NF[i]=v at*;obtain ⟨a,n,rfl,hn,jA⟩:=HF.out;unfold maxLen at hn;clear HF;go_wp2_with fail
       go_loopw [8] (fun y wr'=>∃k:Nat,k<=n/\y=.int .i64 k/\wr'=wr) (fun y _=>n-(intOf y).toNat)
       case atStart=>exact ⟨0,aF _,rfl,rfl⟩
       case round=>
        obtain ⟨k,hk,rfl,rfl⟩:=hrel;by_cases jk:k<n
        ·rcases jA with h0|⟨b,rfl,hc⟩
         ·omega
         obtain ⟨d0,d1⟩:=hc k jk;have m1:(((i:Int)+1)==((i:Int)+1))=true:=by simp
         have m2:(((i:Int)+1) !=((i:Int)+1))=false:=by simp
         go_wp2_with fail
         go_roundw
         case rel=>exact ⟨k+1,jk,by go_num,trivial⟩
         case measure=>simp [intOf];omega
        ·have Vq:¬(k:Int)<(n:Int):=by omega
         go_wp2_with fail
         go_roundw
         case rel=>exact ⟨i+1,bF,by go_num,trivial⟩
         case measure=>simp [intOf];omega
      ·have Ks:¬(i:Int)<(NF.length:Int):=by omega
       go_wp2_with fail
       go_ret
       exact ⟨rfl,rfl⟩
theorem T4 (mn:Int) (fs:List Tp) (fv1 fv2:Value) (w:World) (h1:dS w w.heap.size fv1 fs) (h2:dS w w.heap.size fv2 fs):
 Calls Tryz.prog 70 #[.agg #[.int .i64 mn,fv1],.agg #[.int .i64 mn,fv2]] w fun e w'=>e=.returned (.bool true)/\Below w.heap.size w w':=by
 obtain ⟨o1,c1,rfl,ahv,aa1,aaW⟩:=h1;obtain ⟨o2,c2,rfl,ahu,aaZ,aaV⟩:=h2;unfold maxLen at aa1 aaZ;have hA:(((w.alloc (Obj.cells #[.int .i64 mn,.slice o1 fs.length c1] 63)).alloc (Obj.cells #[.int .i64 mn,.slice o2 fs.length c2] 63))).heap[w.heap.size]?=some (.cells #[.int .i64 mn,.slice o1 fs.length c1] 63 (0,0))/\(((w.alloc (Obj.cells #[.int .i64 mn,.slice o1 fs.length c1] 63)).alloc (Obj.cells #[.int .i64 mn,.slice o2 fs.length c2] 63))).heap[w.heap.size+1]?=some (.cells #[.int .i64 mn,.slice o2 fs.length c2] 63 (0,0)):=gW (ai _ _);have m1:(mn==mn)=true:=by simp
 have m2:(mn !=mn)=false:=by simp
 go_enter Tryz.func70,Tryz.ntmps70
 go_wp2_with fail
 go_loopw [5] (fun x wr=>∃j:Nat,j<=fs.length/\x=.int .i64 j/\Below w.heap.size w wr/\wr.heap[w.heap.size]?=some (.cells #[.int .i64 mn,.slice o1 fs.length c1] 63 (0,0))/\wr.heap[w.heap.size+1]?=some (.cells #[.int .i64 mn,.slice o2 fs.length c2] 63 (0,0))) (fun x _=>fs.length-(intOf x).toNat)
 case atStart=>exact ⟨0,aF _,rfl,((ai _ _).alloc (ah _) _).alloc (by simp) _,hA.1,hA.2⟩
 case round=>
  clear hA;obtain ⟨j,hj,rfl,hb,q9,pR⟩:=hrel;have dk:=hb.size;have l2:w.heap.size+1<wr.heap.size:=(ae.1 pR).1;have l1:w.heap.size<wr.heap.size:=by omega
  obtain ⟨_,a1,_,_⟩:=bS q9;obtain ⟨_,a2,_,_⟩:=bS pR;by_cases bF:j<fs.length
  ·rcases aaW with h0|⟨b1,f1,rfl,bB,AM⟩
   ·omega
   rcases aaV with h0|⟨b2,f2,rfl,bX,QE⟩
   ·omega
   obtain ⟨lv1,e10,e11,kV⟩:=AM j bF;obtain ⟨lv2,e20,e21,gS⟩:=QE j bF;rw [<-hb.cell (p:=⟨b1,f1+j*2,none⟩) (show b1<_ by omega)] at e10;rw [<-hb.cell (p:=⟨b1,f1+j*2+1,none⟩) (show b1<_ by omega)] at e11;rw [<-hb.cell (p:=⟨b2,f2+j*2,none⟩) (show b2<_ by omega)] at e20;rw [<-hb.cell (p:=⟨b2,f2+j*2+1,none⟩) (show b2<_ by omega)] at e21;have lb1:b1<wr.heap.size:=by omega
   have lb2:b2<wr.heap.size:=by omega
   generalize fs[j]=t at*;obtain ⟨ar,ls⟩:=t;simp only at*;obtain ⟨p1,d1,rfl,aaS,QD,P5⟩:=kV;obtain ⟨p2,d2,rfl,ahn,aaR,Vj⟩:=gS;unfold maxLen at QD aaR;have n1:(ar==ar)=true:=by simp
   have n2:(ar !=ar)=false:=by simp
   obtain ⟨B,hB⟩:∃B,B=wr.heap.size:=⟨_,rfl⟩;have hT:((wr.alloc (Obj.cells #[.int .i64 ar,.slice p1 ls.length d1] 79)).alloc (Obj.cells #[.int .i64 ar,.slice p2 ls.length d2] 79)).heap[B]?=some (.cells #[.int .i64 ar,.slice p1 ls.length d1] 79 (0,0))/\((wr.alloc (Obj.cells #[.int .i64 ar,.slice p1 ls.length d1] 79)).alloc (Obj.cells #[.int .i64 ar,.slice p2 ls.length d2] 79)).heap[B+1]?=some (.cells #[.int .i64 ar,.slice p2 ls.length d2] 79 (0,0)):=by rw [hB];exact gW (ai _ _)
   have SE:Below w.heap.size w ((wr.alloc (Obj.cells #[.int .i64 ar,.slice p1 ls.length d1] 79)).alloc (Obj.cells #[.int .i64 ar,.slice p2 ls.length d2] 79)):=(hb.alloc dk _).alloc (by simp;omega) _;have Wt:=(aO (wr.alloc (Obj.cells #[.int .i64 ar,.slice p1 ls.length d1] 79)) (Obj.cells #[.int .i64 ar,.slice p2 ls.length d2] 79) w.heap.size (by simp;omega)).trans ((aO wr (Obj.cells #[.int .i64 ar,.slice p1 ls.length d1] 79) _ l1).trans q9);have Ws:=(aO (wr.alloc (Obj.cells #[.int .i64 ar,.slice p1 ls.length d1] 79)) (Obj.cells #[.int .i64 ar,.slice p2 ls.length d2] 79) (w.heap.size+1) (by simp;omega)).trans ((aO wr (Obj.cells #[.int .i64 ar,.slice p1 ls.length d1] 79) _ l2).trans pR);go_wp2_with fail
   rw [<-hB];have hBl:w.heap.size<=B:=by omega
   clear hB
   go_loopw [8] (fun x wx=>∃i:Nat,i<=ls.length/\x=.int .i64 i/\Below w.heap.size w wx/\wx.heap[w.heap.size]?=some (.cells #[.int .i64 mn,.slice (some ⟨b1,f1,none⟩) fs.length c1] 63 (0,0))/\wx.heap[w.heap.size+1]?=some (.cells #[.int .i64 mn,.slice (some ⟨b2,f2,none⟩) fs.length c2] 63 (0,0))/\wx.heap[B]?=some (.cells #[.int .i64 ar,.slice p1 ls.length d1] 79 (0,0))/\wx.heap[B+1]?=some (.cells #[.int .i64 ar,.slice p2 ls.length d2] 79 (0,0))) (fun x _=>ls.length-(intOf x).toNat)
   case atStart=>exact ⟨0,aF _,rfl,SE,Wt,Ws,hT.1,hT.2⟩
   case round=>
    clear Wt Ws SE hT e10 e11 e20 e21 a1 a2 q9 pR hb dk l1 l2 lb1 lb2;obtain ⟨i,hi,rfl,hb,q9,pR,Q4,Hn⟩:=hrel;obtain ⟨_,t1,_,_⟩:=bS Q4;obtain ⟨_,t2,_,_⟩:=bS Hn;by_cases ly:i<ls.length
    ·rcases P5 with h0|⟨q1,g1,rfl,Do,yB⟩
     ·omega
     rcases Vj with h0|⟨q2,g2,rfl,r9,uq⟩
     ·omega
     obtain ⟨av1,u1,abi⟩:=yB i ly;obtain ⟨av2,u2,gi⟩:=uq i ly;have HU1:Hid _:=u1;have xz:Hid _:=u2;rw [<-hb.cell (p:=⟨q1,g1+i,none⟩) (show q1<_ by omega)] at u1;rw [<-hb.cell (p:=⟨q2,g2+i,none⟩) (show q2<_ by omega)] at u2;generalize ls[i]=l at*;obtain ⟨s1,k1,rfl,ag0,aal,Wn⟩:=abi;obtain ⟨s2,k2,rfl,agZ,aak,Q2⟩:=gi;unfold maxLen at aal aak;have v1:(((l.length:Nat):Int)==(l.length:Int))=true:=by simp
     have v2:(((l.length:Nat):Int) !=(l.length:Int))=false:=by simp
     go_wp2_with fail
     go_quiet (fail)
     go_wp2_with fail
     have tE:=bY hb nq
     go_loopw [9] (fun x wx=>∃k:Nat,k<=l.length/\x=.int .i64 k/\Below w.heap.size w wx/\wx.heap[w.heap.size]?=some (.cells #[.int .i64 mn,.slice (some ⟨b1,f1,none⟩) fs.length c1] 63 (0,0))/\wx.heap[w.heap.size+1]?=some (.cells #[.int .i64 mn,.slice (some ⟨b2,f2,none⟩) fs.length c2] 63 (0,0))/\wx.heap[B]?=some (.cells #[.int .i64 ar,.slice (some ⟨q1,g1,none⟩) ls.length d1] 79 (0,0))/\wx.heap[B+1]?=some (.cells #[.int .i64 ar,.slice (some ⟨q2,g2,none⟩) ls.length d2] 79 (0,0))) (fun x _=>l.length-(intOf x).toNat)
     case atStart=>exact ⟨0,aF _,rfl,tE,q9,pR,Q4,Hn⟩
     case round=>
      clear tE hb q9 pR Q4 Hn t1 t2 u1 u2;obtain ⟨k,hk,rfl,hb,q9,pR,Q4,Hn⟩:=hrel;obtain ⟨_,t1,_,_⟩:=bS Q4;obtain ⟨_,t2,_,_⟩:=bS Hn;have u1:=HU1.out;have u2:=xz.out;rw [<-hb.cell (p:=⟨q1,g1+i,none⟩) (show q1<_ by omega)] at u1;rw [<-hb.cell (p:=⟨q2,g2+i,none⟩) (show q2<_ by omega)] at u2;by_cases jk:k<l.length
      ·rcases Wn with h0|⟨r1,y1,rfl,pG,aa2⟩
       ·omega
       rcases Q2 with h0|⟨r2,y2,rfl,tb,aa0⟩
       ·omega
       obtain ⟨z10,z11⟩:=aa2 k jk;obtain ⟨z20,z21⟩:=aa0 k jk;rw [<-hb.cell (p:=⟨r1,y1+k*2,none⟩) (show r1<_ by omega)] at z10;rw [<-hb.cell (p:=⟨r1,y1+k*2+1,none⟩) (show r1<_ by omega)] at z11;rw [<-hb.cell (p:=⟨r2,y2+k*2,none⟩) (show r2<_ by omega)] at z20;rw [<-hb.cell (p:=⟨r2,y2+k*2+1,none⟩) (show r2<_ by omega)] at z21;generalize l[k].1=ka at*;generalize l[k].2=na at*;go_wp2_with fail
       go_quiet (fail)
       go_wp2_with fail
       go_roundw
       case rel=>exact ⟨k+1,jk,by go_num,bY hb _,q9,pR,Q4,Hn⟩
       case measure=>simp [intOf];omega
      ·go_wp2_with fail
       go_roundw
       case rel=>exact ⟨i+1,ly,by go_num,hb,q9,pR,Q4,Hn⟩
       case measure=>simp [intOf];omega
    ·go_wp2_with fail
     go_roundw
     case rel=>exact ⟨j+1,bF,by go_num,hb,q9,pR⟩
     case measure=>simp [intOf];omega
  ·go_wp2_with fail
   go_ret
   exact ⟨rfl,hb⟩
def t8 (w:World) (v:Value) (l:Ln):Prop:=∃e,v=.slice (some ⟨e,0,none⟩) l.length (l.length+1)/\l.length+1<=maxLen/\e<w.heap.size/\(∀j (h:j<l.length),w.cell? ⟨e,j*2,none⟩=some (.int .i64 l[j].1)/\w.cell? ⟨e,j*2+1,none⟩=some (.int .i64 l[j].2))/\w.cell? ⟨e,l.length*2,none⟩=some (.int .i64 77)/\w.cell? ⟨e,l.length*2+1,none⟩=some (.int .i64 0)
def t6 (w:World) (v:Value) (L:List Ln):Prop:=∃e d,v=.slice (some ⟨e,0,none⟩) L.length (L.length+1)/\L.length+1<=maxLen/\e<w.heap.size/\(∀j (h:j<L.length),∃u,w.cell? ⟨e,j,none⟩=some u/\t8 w u L[j])/\w.cell? ⟨e,L.length,none⟩=some (.slice (some ⟨d,0,none⟩) 1 1)/\d<w.heap.size/\w.cell? ⟨d,0,none⟩=some (.int .i64 77)/\w.cell? ⟨d,1,none⟩=some (.int .i64 0)
def np (w:World) (v:Value) (F:List Tp):Prop:=∃e,v=.slice (some ⟨e,0,none⟩) F.length (F.length+1)/\F.length+1<=maxLen/\e<w.heap.size/\(∀j (h:j<F.length),∃u,w.cell? ⟨e,j*2,none⟩=some (.int .i64 F[j].ar)/\w.cell? ⟨e,j*2+1,none⟩=some u/\t6 w u F[j].ls)/\w.cell? ⟨e,F.length*2,none⟩=some (.int .i64 77)/\w.cell? ⟨e,F.length*2+1,none⟩=some (.slice none 0 0)
theorem fS {w w':World} {b k:Nat} {v:Value} (h:w.cell? ⟨b,k,none⟩=some v) (hb:Below w.heap.size w w'):w'.cell? ⟨b,k,none⟩=some v:=by
 have bF:=World.block_lt_of_cell? w _ h;rw [hb.cell (p:=⟨b,k,none⟩) bF];exact h
theorem t8.keep {w w':World} {v:Value} {l:Ln} (h:t8 w v l) (hb:Below w.heap.size w w'):t8 w' v l:=by
 obtain ⟨e,h1,h2,h3,h4,h5,h6⟩:=h;exact ⟨e,h1,h2,by have:=hb.size;omega,fun j hj=>⟨fS (h4 j hj).1 hb,fS (h4 j hj).2 hb⟩,fS h5 hb,fS h6 hb⟩
theorem t6.keep {w w':World} {v:Value} {L:List Ln} (h:t6 w v L) (hb:Below w.heap.size w w'):t6 w' v L:=by
 obtain ⟨e,d,h1,h2,h3,h4,h5,h6,h7,h8⟩:=h;refine ⟨e,d,h1,h2,by have:=hb.size;omega,fun j hj=>?_,fS h5 hb,by have:=hb.size;omega,fS h7 hb,fS h8 hb⟩
 obtain ⟨u,g1,g2⟩:=h4 j hj;exact ⟨u,fS g1 hb,g2.keep hb⟩
theorem np.keep {w w':World} {v:Value} {F:List Tp} (h:np w v F) (hb:Below w.heap.size w w'):np w' v F:=by
 obtain ⟨e,h1,h2,h3,h4,h5,h6⟩:=h;refine ⟨e,h1,h2,by have:=hb.size;omega,fun j hj=>?_,fS h5 hb,fS h6 hb⟩
 obtain ⟨u,g1,g2,g3⟩:=h4 j hj;exact ⟨u,fS g1 hb,fS g2 hb,g3.keep hb⟩
theorem t8.rd {w:World} {v:Value} {l:Ln} (h:t8 w v l):eL w w.heap.size v l:=by
 obtain ⟨e,h1,h2,h3,h4,_,_⟩:=h;exact ⟨_,_,h1,by omega,h2,.inr ⟨e,0,rfl,h3,fun j hj=>by rw [cr];exact h4 j hj⟩⟩
theorem t6.rd {w:World} {v:Value} {L:List Ln} (h:t6 w v L):gd w w.heap.size v L:=by
 obtain ⟨e,d,h1,h2,h3,h4,_⟩:=h;refine ⟨_,_,h1,by omega,h2,.inr ⟨e,0,rfl,h3,fun j hj=>?_⟩⟩
 obtain ⟨u,g1,g2⟩:=h4 j hj;exact ⟨u,by rw [cr];exact g1,g2.rd⟩
theorem np.rd {w:World} {v:Value} {F:List Tp} (h:np w v F):dS w w.heap.size v F:=by
 obtain ⟨e,h1,h2,h3,h4,_⟩:=h;refine ⟨_,_,h1,by omega,h2,.inr ⟨e,0,rfl,h3,fun j hj=>?_⟩⟩
 obtain ⟨u,g1,g2,g3⟩:=h4 j hj;exact ⟨u,by rw [cr];exact g1,by rw [cr];exact g2,g3.rd⟩
theorem dS.upZ {w:World} {T T':Nat} {v:Value} {F:List Tp} (h:dS w T v F) (hT:T<=T'):dS w T' v F:=by
 obtain ⟨a,cap,h1,h2,h3,h4⟩:=h;refine ⟨a,cap,h1,h2,h3,?_⟩
 rcases h4 with h4|⟨b,off,rfl,gZ,hc⟩
 ·exact .inl h4
 ·refine .inr ⟨b,off,rfl,by omega,fun j hj=>?_⟩
  obtain ⟨lv,e1,e2,e3⟩:=hc j hj;refine ⟨lv,e1,e2,?_⟩
  obtain ⟨a,cap,g1,g2,g3,g4⟩:=e3;refine ⟨a,cap,g1,g2,g3,?_⟩
  rcases g4 with g4|⟨b,off,rfl,gbl,gc⟩
  ·exact .inl g4
  ·refine .inr ⟨b,off,rfl,by omega,fun j hj=>?_⟩
   obtain ⟨lv,k1,k2⟩:=gc j hj;refine ⟨lv,k1,?_⟩
   obtain ⟨a,cap,q1,q2,q3,q4⟩:=k2;refine ⟨a,cap,q1,q2,q3,?_⟩
   rcases q4 with q4|⟨b,off,rfl,qbl,qc⟩
   ·exact .inl q4
   ·exact .inr ⟨b,off,rfl,by omega,qc⟩
theorem Ze (mn:Int) (fs:List Tp) (fv1 fv2:Value) (w:World) (h1:np w fv1 fs) (h2:dS w w.heap.size fv2 fs):
 Calls Tryz.prog 73 #[.agg #[.int .i64 mn,fv1],.agg #[.int .i64 mn,fv2]] w fun e w'=>e=.returned (.bool true)/\Below w.heap.size w w':=by
 have rg:Below w.heap.size w ((w.alloc (Obj.cells #[.int .i64 mn,fv1] 63)).alloc (Obj.cells #[.int .i64 mn,fv2] 63)):=((ai _ _).alloc (ah _) _).alloc (by simp) _;have HC:Hid _:=T4 mn fs fv1 fv2 ((w.alloc (Obj.cells #[.int .i64 mn,fv1] 63)).alloc (Obj.cells #[.int .i64 mn,fv2] 63)) ((dS.keep h1.rd rg).upZ rg.size) ((h2.keep rg).upZ rg.size);have HF:Hid (np w fv1 fs):=h1;obtain ⟨e,rfl,yx,ahf,_,_,_⟩:=h1;obtain ⟨o2,c2,rfl,_,_,_⟩:=h2;unfold maxLen at yx;go_enter Tryz.func73,Tryz.ntmps73
 go_wp2_with fail
 refine (show Calls _ _ _ _ _ from HC.out).mono ?_
 rintro e' w1 ⟨rfl,bB⟩
 clear HC;obtain ⟨q9,_⟩:=gW bB;have Hi:Below w.heap.size w w1:=rg.trans (bB.mono rg.size);have hF1:=np.keep HF.out Hi;have AN:=Hi.size;clear bB rg HF;obtain ⟨e2,AH,_,ahg,cJ,fp,dQ⟩:=hF1;cases AH
 obtain ⟨_,a1,_,_⟩:=bS q9;have hXl:w.heap.size<w1.heap.size:=(ae.1 q9).1;have En:Hid _:=cJ;clear cJ;go_wp2_with fail
 go_loopw [8] (fun y wr=>∃i:Nat,i<=fs.length/\y=.int .i64 i/\wr=w1) (fun y _=>fs.length-(intOf y).toNat)
 case atStart=>exact ⟨0,aF _,rfl,rfl⟩
 case round=>
  obtain ⟨i,hi,rfl,rfl⟩:=hrel;by_cases bF:i<fs.length
  ·obtain ⟨u,g0,g1,hL⟩:=En.out i bF;generalize fs[i]=t at*;obtain ⟨ar,ls⟩:=t;simp only at*;obtain ⟨b,d,rfl,hm,gZ,hlc,tt,oG,mz,mu⟩:=hL;unfold maxLen at hm;have HLC:Hid _:=hlc;clear hlc;have m1:((77:Int)==77)=true:=rfl;have m2:((0:Int)==0)=true:=rfl;go_wp2_with fail
   go_loopw [11] (fun y wr'=>∃j:Nat,j<=ls.length/\y=.int .i64 j/\wr'=wr) (fun y _=>ls.length-(intOf y).toNat)
   case atStart=>exact ⟨0,aF _,rfl,rfl⟩
   case round=>
    obtain ⟨j,hj,rfl,rfl⟩:=hrel;by_cases dG:j<ls.length
    ·obtain ⟨v,x0,hA⟩:=HLC.out j dG;generalize ls[j]=l at*;obtain ⟨q,rfl,hk,Ex,_,y0,y1⟩:=hA;unfold maxLen at hk;go_wp2_with fail
     go_roundw
     case rel=>exact ⟨j+1,dG,by go_num,trivial⟩
     case measure=>simp [intOf];omega
    ·have GR:¬(j:Int)<(ls.length:Int):=by omega
     go_wp2_with fail
     go_roundw
     case rel=>exact ⟨i+1,bF,by go_num,trivial⟩
     case measure=>simp [intOf];omega
  ·have Ks:¬(i:Int)<(fs.length:Int):=by omega
   go_wp2_with fail
   go_ret
   exact ⟨rfl,Hi⟩
end Go.Proofs.YtnndoagpbcacdabGreatDoor
