import Derived.Test.YtnndoagpbcacdabGreatDoorMF8
import Derived.Test.YtnndoagpbcacdabGreatDoorMP3
import Derived.Test.YtnndoagpbcacdabGreatDoorMR9
import Derived.Test.YtnndoagpbcacdabGreatDoorMW5
import Derived.Test.YtnndoagpbcacdabGreatDoorMJ1b
import Derived.Test.YtnndoagpbcacdabGreatDoorMF3b
import Derived.Test.YtnndoagpbcacdabGreatDoorMN3
namespace Go.Proofs.YtnndoagpbcacdabGreatDoor
set_option maxHeartbeats 8000000
set_option maxRecDepth 100000
open Go.RowKit
theorem TD (s:ByteArray) (bud:Int) (w:World) (hs:s.size<=maxLen) (he:(chk s).2≠0):
 Calls Tryz.prog 76 #[.string s,.int .i64 bud] w fun e w'=>e=.returned (.tuple #[.agg #[.int .i64 0,.int .i64 0,.int .i64 0],.int .i64 (chk s).2])/\Below w.heap.size w w':=by
 have HC:Hid _:=qR s (w.alloc (Obj.cells #[.int .i64 0,.int .i64 0,.int .i64 0] 24)) hs;generalize (chk s).2=er at*;generalize (chk s).1=ea at*;have pJ:(er==0)=false:=by simpa using he
 go_enter Tryz.func76,Tryz.ntmps76
 go_wp2_with fail
 refine (show Calls _ _ _ _ _ from HC.out).mono ?_
 rintro e w1 ⟨rfl,bB⟩
 clear HC;have hX:=(bB.block w.heap.size (by simp)).trans (az w _);obtain ⟨r0,r1,r2,z0,z1,z2,oz⟩:=i7 hX;have jm:Hid _:=hX;have eI:Hid (Below w.heap.size w w1):=(bM w _).trans (bB.mono (by simp));clear hX bB;go_wp2_with fail
 obtain ⟨q0,q1,q2⟩:=gb w1 w.heap.size _ _ _ _ (.int .i64 0) (.int .i64 0) (.int .i64 0) jm.out;exact aS (v:=.tuple #[.agg #[.int .i64 0,.int .i64 0,.int .i64 0],.int .i64 er]) (by simp [results,Tryz.results76,go_sem,q0,q1,q2]) rfl ⟨rfl,((eI.out.setCell (by exact ah _) _).setCell (by exact ah _) _).setCell (by exact ah _) _⟩
theorem TE (s:ByteArray) (bud:Int) (w:World) (hs:s.size<=maxLen) (he:(chk s).2=0) (hb:bud<0\/2000<bud):
 Calls Tryz.prog 76 #[.string s,.int .i64 bud] w fun e w'=>e=.returned (.tuple #[.agg #[.int .i64 0,.int .i64 0,.int .i64 0],.int .i64 8])/\Below w.heap.size w w':=by
 have HC:Hid _:=qR s (w.alloc (Obj.cells #[.int .i64 0,.int .i64 0,.int .i64 0] 24)) hs;rw [he] at HC;generalize (chk s).1=ea at*;go_enter Tryz.func76,Tryz.ntmps76
 go_wp2_with fail
 refine (show Calls _ _ _ _ _ from HC.out).mono ?_
 rintro e w1 ⟨rfl,bB⟩
 clear HC;have hX:=(bB.block w.heap.size (by simp)).trans (az w _);obtain ⟨r0,r1,r2,z0,z1,z2,oz⟩:=i7 hX;have jm:Hid _:=hX;have eI:Hid (Below w.heap.size w w1):=(bM w _).trans (bB.mono (by simp));clear hX bB;by_cases h1:bud<0
 case' pos=>have mu:decide (bud<0)=true:=bG h1
 case' neg=>
  have mu:decide (bud<0)=false:=bn h1;have jz:decide (2000<bud)=true:=bG (by omega)
 all_goals
  go_wp2_with fail
  obtain ⟨q0,q1,q2⟩:=gb w1 w.heap.size _ _ _ _ (.int .i64 0) (.int .i64 0) (.int .i64 0) jm.out;exact aS (v:=.tuple #[.agg #[.int .i64 0,.int .i64 0,.int .i64 0],.int .i64 8]) (by simp [results,Tryz.results76,go_sem,q0,q1,q2]) rfl ⟨rfl,((eI.out.setCell (by exact ah _) _).setCell (by exact ah _) _).setCell (by exact ah _) _⟩
theorem acb (s:ByteArray) (bud:Int) (hb:bud<=2000) (h:(chk s).2=0):Cx ((eT (ci s 0)).ds.map (·.name)) (eT (ci s 0)).ds ⟨(dL (eT (ci s 0)).ds).fs,bud,24000⟩:=by
 obtain ⟨_,jD,_,_,oG⟩:=iA s h;have Kj:=(sO s h).1;have rF:=l8 (ci s 0);refine ⟨rfl,hb,by simp [dL],oG,fun F d t hd ht=>?_⟩
 have xu:=bm hd;have bF:=jD.lt;have dU:=rF.i4 d xu;have Zu:t=CU (eT (ci s 0)).ds d:=by
  simp only [dL,cH,hd] at ht;exact (Option.some.inj ht).symm
 subst Zu;exact ⟨rfl,by omega,by omega,fun hh a fN rA ew=>(Kj d xu hh a fN rA ew).symm⟩
theorem Oe (s:ByteArray) (bud:Int) (w:World) (hs:s.size<=maxLen) (hc:(chk s).2=0) (jZ:0<=bud) (bB:bud<=2000):
 Calls Tryz.prog 76 #[.string s,.int .i64 bud] w fun e w'=>e=.returned (.tuple #[.agg #[.int .i64 (mI ⟨(dL (eT (ci s 0)).ds).fs,bud,24000⟩ (dL (eT (ci s 0)).ds).mn).out,.int .i64 (mI ⟨(dL (eT (ci s 0)).ds).fs,bud,24000⟩ (dL (eT (ci s 0)).ds).mn).val,.int .i64 (mI ⟨(dL (eT (ci s 0)).ds).fs,bud,24000⟩ (dL (eT (ci s 0)).ds).mn).stp],.int .i64 0])/\Below w.heap.size w w':=by
 have nW:=xa s hc;have Dz:=acb s bud bB hc;obtain ⟨k9,jD,_,_,_⟩:=iA s hc;obtain ⟨lW,mQ,_,_⟩:=o7 (bud:=bud) (hp:=24000) nW;have yh:=BA nW;obtain ⟨n,U,he,hg,hz,dI,r1,r2,r3⟩:=Fz ⟨(dL (eT (ci s 0)).ds).fs,bud,24000⟩ (dL (eT (ci s 0)).ds).mn lW mQ yh jZ bB;rw [r1,r2,r3];obtain ⟨ra,kU⟩:∃ra:Int,ra=(if U.out=0 then (if (hdI U.cur).1=1 then 1 else 2) else U.out):=⟨_,rfl⟩;obtain ⟨rb,yn⟩:∃rb:Int,rb=(if U.out=0 then (if (hdI U.cur).1=1 then (hdI U.cur).2 else 0) else 0):=⟨_,rfl⟩;obtain ⟨us,Pi⟩:∃us:Int,us=U.stp:=⟨_,rfl⟩;rw [<-kU,<-yn,<-Pi];have LY:Hid _:=kU;have LX:Hid _:=yn;have RM:Hid _:=Pi;have HC:Hid _:=qR s (w.alloc (Obj.cells #[.int .i64 0,.int .i64 0,.int .i64 0] 24)) hs;rw [hc] at HC;have HP:Hid _:=fun w'=>wa s (eT (ci s 0)).ds w' k9 jD
 have Eb:Hid _:=fun T g fv=>WR T g fv ((eT (ci s 0)).ds.map (·.name)) (eT (ci s 0)).ds ⟨(dL (eT (ci s 0)).ds).fs,bud,24000⟩ Dz mQ yh n
 have HE:Hid _:=he;have HG:Hid _:=hg;have HZ:Hid _:=hz;have IT:Hid _:=dI;have ND:Hid ((dL (eT (ci s 0)).ds).mn=fnd (eT (ci s 0)).ds lH):=rfl;have mu:decide (bud<0)=false:=by simp;omega
 have jz:decide (2000<bud)=false:=by simp;omega
 rw [ND.out] at HE HG HZ;clear r1 r2 r3 he hg hz dI lW mQ yh nW kU yn Pi Dz jD hc ND;generalize (chk s).1=ea at*;obtain ⟨cf,SA⟩:∃cf:Cf,cf=⟨(dL (eT (ci s 0)).ds).fs,bud,24000⟩:=⟨_,rfl⟩;rw [<-SA] at Eb HE HG HZ;have Js:Hid (cf.bud=bud):=by show _=_;rw [SA]
 clear SA;generalize (eT (ci s 0)).ds=ds at*;go_enter Tryz.func76,Tryz.ntmps76
 go_wp2_with fail
 refine (show Calls _ _ _ _ _ from HC.out).mono ?_
 rintro e w0 ⟨rfl,Hj⟩
 clear HC;go_wp2_with fail
 refine (show Calls _ _ _ _ _ from HP.out _).mono ?_
 rintro e w1 ⟨fv,m,rfl,eQ,hm,xs,bW,kG⟩
 clear HP;subst hm;have hX:=((eQ.block w.heap.size (by have:=Hj.size;simp at this;omega)).trans (Hj.block w.heap.size (by simp))).trans (az w _);have oz:w.heap.size<w1.heap.size:=(ae.1 hX).1;have jm:Hid _:=hX;have eI:Hid (Below w.heap.size w w1):=((bM w _).trans (Hj.mono (by simp))).trans (eQ.mono (by have:=Hj.size;simp at this;omega));obtain ⟨fo,fc,rfl⟩:=aU bW;have hfb:∀k,(Value.slice fo ds.length fc).ownBlock=some k->k<w1.heap.size:=fun k hk=>(World.ownsRow.lt bW k hk).2
 generalize yw:fnd ds lH=m at*;have gU:Hid (Below w1.heap.size w1 ((w1.alloc (Obj.cells #[.slice fo ds.length fc,.int .i64 bud,.int .i64 0,.slice none 0 0,.int .i64 0] 198)).alloc (Obj.cells #[.int .i64 3,.int .i64 m] 99))):=eU _ _ _;have mY:((w1.alloc (Obj.cells #[.slice fo ds.length fc,.int .i64 bud,.int .i64 0,.slice none 0 0,.int .i64 0] 198)).alloc (Obj.cells #[.int .i64 3,.int .i64 m] 99)).heap[w1.heap.size]?=some (.cells #[.slice fo ds.length fc,.int .i64 bud,.int .i64 0,.slice none 0 0,.int .i64 0] 198 (0,0)):=(aO _ _ _ (by simp)).trans (az w1 _);have Jo:Hid (Rd ((w1.alloc (Obj.cells #[.slice fo ds.length fc,.int .i64 bud,.int .i64 0,.slice none 0 0,.int .i64 0] 198)).alloc (Obj.cells #[.int .i64 3,.int .i64 m] 99)) w1.heap.size (.slice (some ⟨w1.heap.size+1,0,none⟩) 1 1) [(3,m)]):=by
  have:=fg (w1.alloc (Obj.cells #[.slice fo ds.length fc,.int .i64 bud,.int .i64 0,.slice none 0 0,.int .i64 0] 198)) #[.int .i64 3,.int .i64 m] 1 (e:=99) (base:=0) (size:=2) (aF _) (by unfold maxLen;omega) rfl;rw [bT] at this;exact Rd.own (l:=[(3,m)]) this
 have XO:Hid _:=Eb.out w1.heap.size w1.heap.size (.slice fo ds.length fc) (gY m) U _ _ [(3,m)] [] [] HE.out HG.out HZ.out ⟨_,[],by rw [Js.out];exact mY,ah _,⟨xs,aQ bW gU.out,hfb,kG.keep gU.out⟩,aM _ _ _ _,rfl,fun j v d hj=>by simp at hj,fun d hd=>by simp at hd⟩ ⟨rfl,fun i j d e p q h=>by simp at h,fun i d p h=>by simp at h,fun d hd=>by simp at hd,fun i d p h=>by simp at h,fun i d p h=>by simp at h,fun i d p h=>by simp at h⟩ (vL.cons (fun h=>by simp at h) (vL.nil _)) rfl Jo.out;clear hX eQ Hj bW kG hfb mY Jo HE HG HZ Eb;go_wp2_with fail
 refine (show Calls _ _ _ _ _ from XO.out).mono ?_
 rintro e w4 ⟨v,D4,ρ4,l,rfl,tA,jR,_,yC,_,Kr⟩
 clear XO;have lO:Hid (Fx w1.heap.size w1 w4):=(Fx.of gU.out (ah _)).trans tA;have zd:Hid _:=(lO.out.bel.block w.heap.size oz).trans jm.out;have ni:Hid (Below w.heap.size w w4):=eI.out.trans (lO.out.bel.mono (by omega));obtain ⟨av,vs,jR⟩:=jR;obtain ⟨_,_,c2,_,c4⟩:=jR.cells;have Yj:=jR.lt;have HR:Hid _:=FE U.out U.stp l w1.heap.size v w4.drew (yC.old (aR (ai _ _))) (fun h e=>IT.out h (by rw [<-(Kr h).1,e];rfl));have ek:U.out=0->hdI U.cur=imA ρ4 (hdI l):=fun h=>by
  rw [<-(Kr h).1];exact aaP ρ4 (fun e=>IT.out h (by rw [<-(Kr h).1,e];rfl))
 have e1:(if U.out=0 then (if (hdI l).1=1 then 1 else 2) else U.out:Int)=(if U.out=0 then (if (hdI U.cur).1=1 then 1 else 2) else U.out):=by
  by_cases h:U.out=0
  ·rw [aA h,aA h,ek h,J8]
  ·rw [ay h,ay h]
 have e2:(if U.out=0 then (if (hdI l).1=1 then (hdI l).2 else 0) else 0:Int)=(if U.out=0 then (if (hdI U.cur).1=1 then (hdI U.cur).2 else 0) else 0):=by
  by_cases h:U.out=0
  ·rw [aA h,aA h,ek h,J8];by_cases h1:(hdI l).1=1
   ·rw [aA h1,aA h1,yd (by rw [h1];decide)]
   ·rw [ay h1,ay h1]
  ·rw [ay h,ay h]
 rw [e1,e2,<-LY.out,<-LX.out,<-RM.out] at HR;rw [<-RM.out] at c2;obtain ⟨vo,vc,rfl⟩:=yC.form;clear e1 e2 ek yC Kr jR tA IT LY LX RM;generalize U.out=uo at*;generalize l.length=ll at*;have Pe:w.heap.size<w4.heap.size:=(ae.1 zd.out).1;go_wp2_with fail
 go_region_with (go_at_call 120;go_must (refine (show Calls _ _ _ _ _ from HR.out).mono ?_);rintro e w5 ⟨rfl,dB⟩;have LQ:Hid (w5.heap[w.heap.size]?=some (Obj.cells #[.int .i64 0,.int .i64 0,.int .i64 0] 24)):=(dB.block w.heap.size Pe).trans zd.out;have xm:Hid (Below w.heap.size w w5):=ni.out.trans ((aR (ai _ _)).trans (dB.mono (by show w.heap.size<=w4.heap.size;omega)));clear dB;obtain ⟨r0,r1,r2,z0,z1,z2,Qc⟩:=i7 LQ.out)
 all_goals
  go_wp2_with fail
  obtain ⟨q0,q1,q2⟩:=gb w5 w.heap.size _ _ _ _ (.int .i64 ra) (.int .i64 rb) (.int .i64 us) LQ.out;exact aS (v:=.tuple #[.agg #[.int .i64 ra,.int .i64 rb,.int .i64 us],.int .i64 0]) (by simp [results,Tryz.results76,go_sem,q0,q1,q2]) rfl ⟨rfl,((xm.out.setCell (by exact ah _) _).setCell (by exact ah _) _).setCell (by exact ah _) _⟩
theorem OT (e:Int) (w:World):
 Calls Tryz.prog 66 #[.int .i64 e] w fun r w'=>r=.returned (.int .i64 e)/\w'=w:=by
 go_enter Tryz.func66,Tryz.ntmps66
 go_wp2
 go_ret
 exact ⟨rfl,rfl⟩
def opV (k n m:Int) (s:ByteArray) (c:Int) (fo:Option Addr) (fl fc:Nat):Value:=.agg #[.int .i64 k,.int .i64 n,.int .i64 m,.string s,.int .i64 c,.slice fo fl fc]
def RD (w:World) (b:Nat):Prop:=w.heap[b]?=some (.cells #[.slice none 0 0,.slice none 0 0,.slice none 0 0] 60 (0,0))
def LP (w:World) (a:Option Addr) (len cap:Nat):Prop:=
 len=0\/
 ∃b off,a=some ⟨b,off,none⟩/\b<w.heap.size/\len<=cap/\cap<=maxLen/\∀i,i<len->∃(k n m:Int) (s:ByteArray) (c:Int) (fo:Option Addr) (fl fc:Nat),
  s.size<=maxLen/\w.cell? ⟨b,off+i*6,none⟩=some (.int .i64 k)/\w.cell? ⟨b,off+i*6+1,none⟩=some (.int .i64 n)/\w.cell? ⟨b,off+i*6+2,none⟩=some (.int .i64 m)/\w.cell? ⟨b,off+i*6+3,none⟩=some (.string s)/\w.cell? ⟨b,off+i*6+4,none⟩=some (.int .i64 c)/\w.cell? ⟨b,off+i*6+5,none⟩=some (.slice fo fl fc)
theorem NK (s:ByteArray) (bud a b c er:Int) (w:World) (hs:s.size<=maxLen) (ht:Tab w) (EI:xy s=0)
 (UN:∀(x:ByteArray) (w':World),x.data.toList=y8 s->x.size<=20000->Calls Tryz.prog 17 #[.string x,.int .i64 bud,.int .i64 24000] w' fun e w''=>e=.returned (.tuple #[.agg #[.int .i64 a,.int .i64 b,.int .i64 c],.int .i64 er])/\Below w'.heap.size w' w''):
 Calls Tryz.prog 7 #[.string s,.int .i64 bud] w fun e w'=>e=.returned (.tuple #[.agg #[.int .i64 a,.int .i64 b,.int .i64 c],.int .i64 er])/\Below w.heap.size w w':=by
 have qZ:Below w.heap.size w (w.alloc (Obj.cells #[.int .i64 0,.int .i64 0,.int .i64 0] 24)):=(ai _ w).alloc (ah _) _;have HC:Hid _:=rU s (w.alloc (Obj.cells #[.int .i64 0,.int .i64 0,.int .i64 0] 24)) hs (ht.below qZ) (fun h=>⟨(jH s h).2.2.2,(jH s h).2.2.1⟩);rw [EI] at HC;have Xj:Hid _:=UN;clear UN ht EI;go_enter Tryz.func7,Tryz.ntmps7
 go_wp2_with fail
 refine (show Calls _ _ _ _ _ from HC.out).mono ?_
 rintro e w1 ⟨x,rfl,hx,kA,eQ⟩
 clear HC;have fE:Hid _:=Xj.out x w1 hx kA;have qO:Hid (w1.heap[w.heap.size]?=some (Obj.cells #[.int .i64 0,.int .i64 0,.int .i64 0] 24)):=(eQ.block w.heap.size (by simp)).trans (az w _);have eI:Hid (Below w.heap.size w w1):=qZ.trans (eQ.mono (by simp));clear hx eQ qZ Xj;go_wp2_with fail
 refine (show Calls _ _ _ _ _ from fE.out).mono ?_
 rintro e w2 ⟨rfl,bX⟩
 clear fE;have Et:w.heap.size<w1.heap.size:=(ae.1 qO.out).1;have hX:=(bX.block w.heap.size Et).trans qO.out;obtain ⟨r0,r1,r2,z0,z1,z2,oz⟩:=i7 hX;have jm:Hid _:=hX;have gj:Hid (Below w.heap.size w w2):=eI.out.trans (bX.mono (by omega));clear hX bX;go_wp2_with fail
 obtain ⟨q0,q1,q2⟩:=gb w2 w.heap.size _ _ _ _ (.int .i64 a) (.int .i64 b) (.int .i64 c) jm.out;refine aS (v:=.tuple #[.agg #[.int .i64 a,.int .i64 b,.int .i64 c],.int .i64 er]) (by simp [results,Tryz.results7,go_sem,q0,q1,q2]) rfl ⟨rfl,?_⟩
 exact ((gj.out.setCell (by exact ah _) _).setCell (by exact ah _) _).setCell (by exact ah _) _
theorem Td (s:ByteArray) (bud:Int) (w:World) (hs:s.size<=maxLen) (ht:Tab w) (hc:(chk s).2≠0):
 Calls Tryz.prog 7 #[.string s,.int .i64 bud] w fun e w'=>e=.returned (.tuple #[.agg #[.int .i64 0,.int .i64 0,.int .i64 0],.int .i64 (chk s).2])/\Below w.heap.size w w':=by
 have qZ:Below w.heap.size w (w.alloc (Obj.cells #[.int .i64 0,.int .i64 0,.int .i64 0] 24)):=(ai _ w).alloc (ah _) _;have HC:Hid _:=rU s (w.alloc (Obj.cells #[.int .i64 0,.int .i64 0,.int .i64 0] 24)) hs (ht.below qZ) (fun h=>⟨(jH s h).2.2.2,(jH s h).2.2.1⟩);have EI:xy s=(chk s).2:=by unfold xy;rw [ay hc]
 rw [EI] at HC;clear EI ht;generalize (chk s).2=er at*;have pJ:(er==0)=false:=by simpa using hc
 go_enter Tryz.func7,Tryz.ntmps7
 go_wp2_with fail
 refine (show Calls _ _ _ _ _ from HC.out).mono ?_
 rintro e w1 ⟨x,rfl,hx,kA,eQ⟩
 clear HC;have hX:w1.heap[w.heap.size]?=some (Obj.cells #[.int .i64 0,.int .i64 0,.int .i64 0] 24):=(eQ.block w.heap.size (by simp)).trans (az w _);have eI:Hid (Below w.heap.size w w1):=qZ.trans (eQ.mono (by simp));obtain ⟨r0,r1,r2,z0,z1,z2,oz⟩:=i7 hX;have jm:Hid _:=hX;clear hX hx eQ qZ;go_wp2_with fail
 obtain ⟨q0,q1,q2⟩:=gb w1 w.heap.size _ _ _ _ (.int .i64 0) (.int .i64 0) (.int .i64 0) jm.out;refine aS (v:=.tuple #[.agg #[.int .i64 0,.int .i64 0,.int .i64 0],.int .i64 er]) (by simp [results,Tryz.results7,go_sem,q0,q1,q2]) rfl ⟨rfl,?_⟩
 exact ((eI.out.setCell (by exact ah _) _).setCell (by exact ah _) _).setCell (by exact ah _) _
theorem H7 (s:ByteArray) (bud:Int) (hs:s.size<=maxLen):∃a b c er:Int,
 (∀w,Tab w->Calls Tryz.prog 7 #[.string s,.int .i64 bud] w fun e w'=>e=.returned (.tuple #[.agg #[.int .i64 a,.int .i64 b,.int .i64 c],.int .i64 er])/\Below w.heap.size w w')/\
 (∀w,Calls Tryz.prog 76 #[.string s,.int .i64 bud] w fun e w'=>e=.returned (.tuple #[.agg #[.int .i64 a,.int .i64 b,.int .i64 c],.int .i64 er])/\Below w.heap.size w w'):=by
 by_cases hc:(chk s).2=0
 ·have hg:=xa s hc;by_cases hb:bud<0\/2000<bud
  ·exact ⟨0,0,0,8,fun w ht=>NK s bud 0 0 0 8 w hs ht (Ns hc rfl hg) (fun x w' hx kA=>TU x bud 24000 _ w' (by unfold maxLen;omega) (CE hc rfl hg hx kA).1 (by unfold zQ;omega)),fun w=>TE s bud w hs hc hb⟩
  ·exact ⟨_,_,_,0,fun w ht=>Md s bud _ w hs ht hc rfl hg (by omega) (by omega),fun w=>Oe s bud w hs hc (by omega) (by omega)⟩
 ·exact ⟨0,0,0,_,fun w ht=>Td s bud w hs ht hc,fun w=>TD s bud w hs hc⟩
theorem T5 (n m:Int) (s:ByteArray) (c:Int) (fo:Option Addr) (fl fc:Nat) (w:World) (hs:s.size<=maxLen) (ht:Tab w):
 Calls Tryz.prog 40 #[opV 7 n m s c fo fl fc] w fun e w'=>e=.returned (.bool true)/\Below w.heap.size w w':=by
 unfold opV;obtain ⟨ra,rb,rc,er,h1,h2⟩:=H7 s n hs;have HC:Hid _:=h1 (w.alloc (Obj.cells #[.int .i64 7,.int .i64 n,.int .i64 m,.string s,.int .i64 c,.slice fo fl fc] 65)) (ht.alloc _);have HR:Hid _:=h2;clear h1 h2 ht;go_enter Tryz.func40,Tryz.ntmps40
 go_wp2_with fail
 refine (show Calls _ _ _ _ _ from HC.out).mono ?_
 rintro e w1 ⟨rfl,bB⟩
 clear HC;have fe:=dx bB;have g1:=al w1 w.heap.size 1 _ _ _ fe;have g3:=al w1 w.heap.size 3 _ _ _ fe;simp only [ax,ap,aq] at g1 g3;have oz:w.heap.size<w1.heap.size:=(ae.1 fe).1;have eI:Hid (Below w.heap.size w w1):=(bM w _).trans (bB.mono (by simp));clear bB fe;go_wp2_with fail
 refine (show Calls _ _ _ _ _ from HR.out (w1.alloc (Obj.cells #[.int .i64 ra,.int .i64 rb,.int .i64 rc] 24))).mono ?_
 rintro e w2 ⟨rfl,bX⟩
 clear HR;have gp:Hid (w2.heap[w1.heap.size]?=some (Obj.cells #[.int .i64 ra,.int .i64 rb,.int .i64 rc] 24)):=dx bX;have gj:Hid (Below w.heap.size w w2):=(eI.out.alloc (by omega) _).trans (bX.mono (by simp;omega));obtain ⟨r0,r1,r2,_,_,_,gS⟩:=i7 gp.out;clear bX g1 g3;have p1:(ra==ra)=true:=by simp
 have p2:(rb==rb)=true:=by simp
 have p3:(rc==rc)=true:=by simp
 have p4:(er==er)=true:=by simp
 go_wp2_with (go_at_call 66;refine (OT _ _).mono ?_;rintro e w3 ⟨rfl,rfl⟩)
 go_ret
 exact ⟨rfl,gj.out.alloc (by have:=gj.out.size;omega) _⟩
theorem OM (h:Value) (n m:Int) (s:ByteArray) (c:Int) (fo:Option Addr) (fl fc:Nat) (w:World) (hs:s.size<=maxLen) (ht:Tab w):
 Calls Tryz.prog 23 #[h,opV 7 n m s c fo fl fc] w fun e w'=>e=.returned (.bool true)/\Below w.heap.size w w':=by
 unfold opV;go_enter Tryz.func23,Tryz.ntmps23
 go_wp2_with fail
 refine (T5 n m s c fo fl fc _ hs (ht.alloc _)).mono ?_
 rintro e w1 ⟨rfl,bB⟩
 have eQ:Below w.heap.size w w1:=((ai _ _).alloc (ah _) _).trans (bB.mono (by simp));clear bB;go_wp2_with fail
 go_ret
 exact ⟨rfl,eQ⟩
def wM:ByteArray:=⟨#[109,97,105,110,32,61,32,100,32,40,43,32,49,32,50,41,59,32,100,32,120,32,61,32,42,32,120,32,120,59]⟩
theorem y9:(chk wM).2=0:=by decide+kernel
theorem sL:(mI ⟨(dL (eT (ci wM 0)).ds).fs,2000,24000⟩ (dL (eT (ci wM 0)).ds).mn).out=1/\(mI ⟨(dL (eT (ci wM 0)).ds).fs,2000,24000⟩ (dL (eT (ci wM 0)).ds).mn).val=9/\(mI ⟨(dL (eT (ci wM 0)).ds).fs,2000,24000⟩ (dL (eT (ci wM 0)).ds).mn).stp=4:=by decide+kernel
theorem OU (w:World) (ht:Tab w):
 Calls Tryz.prog 22 #[.int .i64 7] w fun e w'=>e=.returned (.bool true)/\Below w.heap.size w w':=by
 have HC:Hid _:=Md wM 2000 _ w (by decide) ht y9 rfl (xa _ y9) (by omega) (by omega);rw [sL.1,sL.2.1,sL.2.2] at HC;unfold wM at HC;clear ht;go_enter Tryz.func22,Tryz.ntmps22
 go_wp2_with fail
 refine (show Calls _ _ _ _ _ from HC.out).mono ?_
 clear HC;rintro e w1 ⟨rfl,bB⟩
 have eI:Hid _:=bB;have fH:=bB.size;clear bB;go_wp2_with fail
 go_ret
 exact ⟨rfl,eI.out.alloc fH _⟩
structure WB (w:World) (T g:Nat) (fv:Value) (mn:Int) (c:Cf) (nds:List (Ln×Bool)) (stp out:Int) (bys:List Ln) (ops:List Int) (av bv ov:Value) (vs bs:List Value):Prop where
 blk:w.heap[g]?=some (.cells #[.int .i64 mn,fv,.int .i64 c.bud,.int .i64 c.hp,.int .i64 stp,av,bv,ov,.int .i64 out] 192 (0,0))
 lo:T<=g
 fu:dS w T fv c.fs
 ra:w.ownsRow T 247 2 av nds.length (ncs vs nds)
 vl:vs.length=nds.length
 rv:∀(j:Nat) (v:Value) (n:Ln×Bool),vs[j]?=some v->nds[j]?=some n->Rd w T v n.1
 rb:w.ownsRow T 100 1 bv bys.length bs
 rl:∀(j:Nat) (v:Value) (l:Ln),bs[j]?=some v->bys[j]?=some l->Rd w T v l
 ro:w.ownsRow T 3 1 ov ops.length (jp ops)
def WP (w:World) (T g:Nat) (fv:Value) (mn:Int) (c:Cf) (nds:List (Ln×Bool)) (stp out:Int) (bys:List Ln) (ops:List Int):Prop:=∃av bv ov vs bs,WB w T g fv mn c nds stp out bys ops av bv ov vs bs
section
variable {w w' w2:World} {T g:Nat} {fv:Value} {mn:Int} {c:Cf} {nds:List (Ln×Bool)} {stp out:Int} {bys:List Ln} {ops:List Int} {av bv ov:Value} {vs bs:List Value}
theorem WB.lt (h:WB w T g fv mn c nds stp out bys ops av bv ov vs bs):g<w.heap.size:=(ae.1 h.blk).1
theorem WB.bl (h:WB w T g fv mn c nds stp out bys ops av bv ov vs bs):bs.length=bys.length:=by have:=h.rb.1;omega
theorem WB.hT (h:WB w T g fv mn c nds stp out bys ops av bv ov vs bs):T<=w.heap.size:=by have:=h.lt;have:=h.lo;omega
theorem WB.old (h:WB w T g fv mn c nds stp out bys ops av bv ov vs bs) (hb:Below w.heap.size w w'):WB w' T g fv mn c nds stp out bys ops av bv ov vs bs:=
 ⟨(hb.block g h.lt).trans h.blk,h.lo,h.fu.keep (hb.mono h.hT),aQ h.ra hb,h.vl,fun j v n a b=>(h.rv j v n a b).old hb,aQ h.rb hb,fun j v n a b=>(h.rl j v n a b).old hb,aQ h.ro hb⟩
theorem WB.field (h:WB w T g fv mn c nds stp out bys ops av bv ov vs bs) {i:Nat} {u:Value} {stp' out':Int} (he:(#[.int .i64 mn,fv,.int .i64 c.bud,.int .i64 c.hp,.int .i64 stp,av,bv,ov,.int .i64 out]:Array Value).setIfInBounds i u=#[.int .i64 mn,fv,.int .i64 c.bud,.int .i64 c.hp,.int .i64 stp',av,bv,ov,.int .i64 out']):
 Fx T w (w.setCell ⟨g,i,none⟩ u)/\WB (w.setCell ⟨g,i,none⟩ u) T g fv mn c nds stp' out' bys ops av bv ov vs bs:=by
 have fx:Fx T w (w.setCell ⟨g,i,none⟩ u):=Fx.set h.blk (by decide) h.lo;exact ⟨fx,by rw [bk _ h.blk,he],h.lo,h.fu.keep fx.bel,aB h.ra h.blk (by decide),h.vl,fun j v n a b=>(h.rv j v n a b).keep fx,aB h.rb h.blk (by decide),fun j v n a b=>(h.rl j v n a b).keep fx,aB h.ro h.blk (by decide)⟩
theorem WB.setStp (h:WB w T g fv mn c nds stp out bys ops av bv ov vs bs) (m:Int):Fx T w (w.setCell ⟨g,4,none⟩ (.int .i64 m))/\WB (w.setCell ⟨g,4,none⟩ (.int .i64 m)) T g fv mn c nds m out bys ops av bv ov vs bs:=h.field rfl
theorem WB.setOut (h:WB w T g fv mn c nds stp out bys ops av bv ov vs bs) (m:Int):Fx T w (w.setCell ⟨g,8,none⟩ (.int .i64 m))/\WB (w.setCell ⟨g,8,none⟩ (.int .i64 m)) T g fv mn c nds stp m bys ops av bv ov vs bs:=h.field rfl
theorem WB.pushN (h:WB w T g fv mn c nds stp out bys ops av bv ov vs bs) {q cap:Nat} {v:Value} {l:Ln} {b:Bool} (hr:Rd w T v l) (hown:w2.ownsRow T 247 2 (.slice (some ⟨q,0,none⟩) (nds.length+1) cap) (nds.length+1) (ncs vs nds++[v,.bool b])) (hg:w.grownBy w2 av.ownBlock):
 Fx T w (w2.setCell ⟨g,5,none⟩ (.slice (some ⟨q,0,none⟩) (nds.length+1) cap))/\WB (w2.setCell ⟨g,5,none⟩ (.slice (some ⟨q,0,none⟩) (nds.length+1) cap)) T g fv mn c (nds++[(l,b)]) stp out bys ops (.slice (some ⟨q,0,none⟩) (nds.length+1) cap) bv ov (vs++[v]) bs:=by
 have bX:=br h.ra hg (by decide) h.blk;have fx:Fx T w (w2.setCell ⟨g,5,none⟩ (.slice (some ⟨q,0,none⟩) (nds.length+1) cap)):=(Fx.grown h.ra hg (by decide) h.hT).trans (Fx.set bX (by decide) h.lo);refine ⟨fx,bk _ bX,h.lo,h.fu.keep fx.bel,?_,by simp [h.vl],fun j u n hu hn=>?_,aB (aY h.ra hg (by decide) h.rb) bX (by decide),fun j u n hu hn=>(h.rl j u n hu hn).keep fx,aB (aY h.ra hg (by decide) h.ro) bX (by decide)⟩
 ·rw [au,wy _ _ _ _ h.vl];exact aB hown bX (by decide)
 ·by_cases hj:j<nds.length
  ·rw [aI (by rw [h.vl];exact hj)] at hu;rw [aI hj] at hn;exact (h.rv j u n hu hn).keep fx
  ·rw [aC (by rw [h.vl];omega)] at hu;rw [aC (by omega)] at hn;rw [h.vl] at hu;have sd:j-nds.length=0:=by
    have:=(aP.1 hn).1;simp at this;omega
   rw [sd] at hu hn;simp at hu hn;subst hu hn;exact hr.keep fx
theorem WB.layN (h:WB w T g fv mn c nds stp out bys ops av bv ov vs bs) {q m cap p:Nat} {v:Value} {l:Ln} {b:Bool} (ha:av=.slice (some ⟨q,0,none⟩) m cap) (hr:Rd w T v l) (hp:p<nds.length):
 Fx T w ((w.setCell ⟨q,p*2,none⟩ v).setCell ⟨q,p*2+1,none⟩ (.bool b))/\WB ((w.setCell ⟨q,p*2,none⟩ v).setCell ⟨q,p*2+1,none⟩ (.bool b)) T g fv mn c (nds.set p (l,b)) stp out bys ops av bv ov (vs.set p v) bs:=by
 subst ha;have kU:=h.ra;obtain ⟨q',cap',hq,vg,dX⟩:=kU.form (by omega);cases hq
 obtain ⟨cs,hg⟩:=JF kU;have qj:=bk (i:=p*2) v hg;have fx:Fx T w ((w.setCell ⟨q,p*2,none⟩ v).setCell ⟨q,p*2+1,none⟩ (.bool b)):=(Fx.set hg (by decide) vg).trans (Fx.set qj (by decide) vg);refine ⟨fx,?_,h.lo,h.fu.keep fx.bel,?_,by simp [h.vl],fun j u n hu hn=>?_,aB (aB h.rb hg (by decide)) qj (by decide),fun j u n hu hn=>(h.rl j u n hu hn).keep fx,aB (aB h.ro hg (by decide)) qj (by decide)⟩
 ·rw [bi _ (xD h.blk hg (by decide)),bi _ (xD h.blk hg (by decide))];exact h.blk
 ·rw [<-z5 vs nds p v l b h.vl hp,bJ];exact lG (lG kU _ _) _ _
 ·by_cases Kw:p=j
  ·subst Kw;rw [bR (by rw [h.vl];exact hp)] at hu;rw [bR hp] at hn;cases hu;cases hn
   exact hr.keep fx
  ·rw [b9 Kw] at hu hn;exact (h.rv j u n hu hn).keep fx
theorem WB.pushB (h:WB w T g fv mn c nds stp out bys ops av bv ov vs bs) {q cap:Nat} {v:Value} {l:Ln} (hr:Rd w T v l) (hown:w2.ownsRow T 100 1 (.slice (some ⟨q,0,none⟩) (bys.length+1) cap) (bys.length+1) (bs++[v])) (hg:w.grownBy w2 bv.ownBlock):
 Fx T w (w2.setCell ⟨g,6,none⟩ (.slice (some ⟨q,0,none⟩) (bys.length+1) cap))/\WB (w2.setCell ⟨g,6,none⟩ (.slice (some ⟨q,0,none⟩) (bys.length+1) cap)) T g fv mn c nds stp out (bys++[l]) ops av (.slice (some ⟨q,0,none⟩) (bys.length+1) cap) ov vs (bs++[v]):=by
 have bX:=br h.rb hg (by decide) h.blk;have fx:Fx T w (w2.setCell ⟨g,6,none⟩ (.slice (some ⟨q,0,none⟩) (bys.length+1) cap)):=(Fx.grown h.rb hg (by decide) h.hT).trans (Fx.set bX (by decide) h.lo);refine ⟨fx,bk _ bX,h.lo,h.fu.keep fx.bel,aB (aY h.rb hg (by decide) h.ra) bX (by decide),h.vl,fun j u n hu hn=>(h.rv j u n hu hn).keep fx,?_,fun j u n hu hn=>?_,aB (aY h.rb hg (by decide) h.ro) bX (by decide)⟩
 ·rw [au];exact aB hown bX (by decide)
 ·have gZ:=h.bl;by_cases hj:j<bys.length
  ·rw [aI (by omega)] at hu;rw [aI hj] at hn;exact (h.rl j u n hu hn).keep fx
  ·rw [aC (by omega)] at hu;rw [aC (by omega)] at hn;rw [gZ] at hu;have sd:j-bys.length=0:=by
    have:=(aP.1 hn).1;simp at this;omega
   rw [sd] at hu hn;simp at hu hn;subst hu hn;exact hr.keep fx
theorem WB.popB {l:Ln} (h:WB w T g fv mn c nds stp out (bys++[l]) ops av bv ov vs bs) {q m cap:Nat} (hb:bv=.slice (some ⟨q,0,none⟩) m cap):
 Fx T w (w.setCell ⟨g,6,none⟩ (.slice (some ⟨q,0,none⟩) bys.length cap))/\WB (w.setCell ⟨g,6,none⟩ (.slice (some ⟨q,0,none⟩) bys.length cap)) T g fv mn c nds stp out bys ops av (.slice (some ⟨q,0,none⟩) bys.length cap) ov vs (bs.take bys.length):=by
 subst hb;have fx:Fx T w (w.setCell ⟨g,6,none⟩ (.slice (some ⟨q,0,none⟩) bys.length cap)):=Fx.set h.blk (by decide) h.lo;have yn:=h.rb;rw [au] at yn;obtain ⟨q',cap',hq,_,_⟩:=yn.form (by simp);cases hq
 have h2:=pl yn (m:=bys.length) (by simp);rw [iW] at h2;refine ⟨fx,bk _ h.blk,h.lo,h.fu.keep fx.bel,aB h.ra h.blk (by decide),h.vl,fun j u n hu hn=>(h.rv j u n hu hn).keep fx,aB h2 h.blk (by decide),fun j u n hu hn=>?_,aB h.ro h.blk (by decide)⟩
 have hj:=(aP.1 hn).1;rw [List.getElem?_take,aA hj] at hu;exact (h.rl j u n hu (by rw [aI hj];exact hn)).keep fx
theorem WB.pushO (h:WB w T g fv mn c nds stp out bys ops av bv ov vs bs) {q cap:Nat} {p:Int} (hown:w2.ownsRow T 3 1 (.slice (some ⟨q,0,none⟩) (ops.length+1) cap) (ops.length+1) (jp ops++[.int .i64 p])) (hg:w.grownBy w2 ov.ownBlock):
 Fx T w (w2.setCell ⟨g,7,none⟩ (.slice (some ⟨q,0,none⟩) (ops.length+1) cap))/\WB (w2.setCell ⟨g,7,none⟩ (.slice (some ⟨q,0,none⟩) (ops.length+1) cap)) T g fv mn c nds stp out bys (ops++[p]) av bv (.slice (some ⟨q,0,none⟩) (ops.length+1) cap) vs bs:=by
 have bX:=br h.ro hg (by decide) h.blk;have fx:Fx T w (w2.setCell ⟨g,7,none⟩ (.slice (some ⟨q,0,none⟩) (ops.length+1) cap)):=(Fx.grown h.ro hg (by decide) h.hT).trans (Fx.set bX (by decide) h.lo);refine ⟨fx,bk _ bX,h.lo,h.fu.keep fx.bel,aB (aY h.ro hg (by decide) h.ra) bX (by decide),h.vl,fun j u n hu hn=>(h.rv j u n hu hn).keep fx,aB (aY h.ro hg (by decide) h.rb) bX (by decide),fun j u n hu hn=>(h.rl j u n hu hn).keep fx,?_⟩
 rw [au,show jp (ops++[p])=jp ops++[.int .i64 p] by simp [jp]];exact aB hown bX (by decide)
theorem WB.popO {p:Int} (h:WB w T g fv mn c nds stp out bys (ops++[p]) av bv ov vs bs) {q m cap:Nat} (hb:ov=.slice (some ⟨q,0,none⟩) m cap):
 Fx T w (w.setCell ⟨g,7,none⟩ (.slice (some ⟨q,0,none⟩) ops.length cap))/\WB (w.setCell ⟨g,7,none⟩ (.slice (some ⟨q,0,none⟩) ops.length cap)) T g fv mn c nds stp out bys ops av bv (.slice (some ⟨q,0,none⟩) ops.length cap) vs bs:=by
 subst hb;have fx:Fx T w (w.setCell ⟨g,7,none⟩ (.slice (some ⟨q,0,none⟩) ops.length cap)):=Fx.set h.blk (by decide) h.lo;have yn:=h.ro;rw [au] at yn;obtain ⟨q',cap',hq,_,_⟩:=yn.form (by simp);cases hq
 have h2:=pl yn (m:=ops.length) (by simp);rw [iW,show jp (ops++[p])=jp ops++[.int .i64 p] by simp [jp],List.take_left' (by simp [jp])] at h2;exact ⟨fx,bk _ h.blk,h.lo,h.fu.keep fx.bel,aB h.ra h.blk (by decide),h.vl,fun j u n hu hn=>(h.rv j u n hu hn).keep fx,aB h.rb h.blk (by decide),fun j u n hu hn=>(h.rl j u n hu hn).keep fx,aB h2 h.blk (by decide)⟩
theorem WB.cells (h:WB w T g fv mn c nds stp out bys ops av bv ov vs bs):w.cell? ⟨g,0,none⟩=some (.int .i64 mn)/\w.cell? ⟨g,1,none⟩=some fv/\w.cell? ⟨g,2,none⟩=some (.int .i64 c.bud)/\w.cell? ⟨g,3,none⟩=some (.int .i64 c.hp)/\w.cell? ⟨g,4,none⟩=some (.int .i64 stp)/\w.cell? ⟨g,5,none⟩=some av/\w.cell? ⟨g,6,none⟩=some bv/\w.cell? ⟨g,7,none⟩=some ov/\w.cell? ⟨g,8,none⟩=some (.int .i64 out):=by
 refine ⟨?_,?_,?_,?_,?_,?_,?_,?_,?_⟩<;>rw [al _ _ _ _ _ _ h.blk]<;>rfl
theorem WB.fz (h:WB w T g fv mn c nds stp out bys ops av bv ov vs bs) (i:Nat):w.frozen? ⟨g,i,none⟩=false:=aG _ _ _ _ _ h.blk
end
theorem Mo (w:World) (T g:Nat) (fv:Value) (mn:Int) (c:Cf) (nds:List (Ln×Bool)) (stp out:Int) (bys:List Ln) (ops:List Int) (h:WP w T g fv mn c nds stp out bys ops) (hs:0<=stp) (hb:c.bud<=2000) (cV:stp<c.bud):
 Calls Tryz.prog 183 #[.pointer (some ⟨g,0,none⟩)] w fun e w'=>e=.returned (.bool true)/\Fx T w w'/\But g w w'/\WP w' T g fv mn c nds (stp+1) out bys ops:=by
 obtain ⟨av,bv,ov,vs,bs,hw⟩:=h;obtain ⟨_,_,c2,_,c4,_,_,_,c8⟩:=hw.cells;have f4:=hw.fz 4;have f8:=hw.fz 8;have bF:=hw.lt;have H1:Hid _:=hw.setStp (stp+1);have hd:decide (c.bud<=stp)=false:=bn (by omega);have jz:¬c.bud<=stp:=by omega
 go_enter Tryz.func183,Tryz.ntmps183
 go_wp2_with fail
 go_region
 all_goals
  go_wp2_with fail
  go_ret
  exact ⟨rfl,H1.out.1.drew,(But.refl g w).set.trans (But.of (aR (ai _ _)) (by rw [gX];omega)),_,_,_,_,_,H1.out.2.old (aR (ai _ _))⟩
theorem Mp (w:World) (T g:Nat) (fv:Value) (mn:Int) (c:Cf) (nds:List (Ln×Bool)) (stp out:Int) (bys:List Ln) (ops:List Int) (h:WP w T g fv mn c nds stp out bys ops) (cV:c.bud<=stp):
 Calls Tryz.prog 183 #[.pointer (some ⟨g,0,none⟩)] w fun e w'=>e=.returned (.bool false)/\Fx T w w'/\But g w w'/\WP w' T g fv mn c nds stp 5 bys ops:=by
 obtain ⟨av,bv,ov,vs,bs,hw⟩:=h;obtain ⟨_,_,c2,_,c4,_,_,_,c8⟩:=hw.cells;have f4:=hw.fz 4;have f8:=hw.fz 8;have bF:=hw.lt;have H1:Hid _:=hw.setOut 5;have hd:decide (c.bud<=stp)=true:=bG cV;go_enter Tryz.func183,Tryz.ntmps183
 go_wp2_with fail
 go_region
 all_goals
  go_wp2_with fail
  go_ret
  exact ⟨rfl,H1.out.1.drew,(But.refl g w).set.trans (But.of (aR (ai _ _)) (by rw [gX];omega)),_,_,_,_,_,H1.out.2.old (aR (ai _ _))⟩
end Go.Proofs.YtnndoagpbcacdabGreatDoor
