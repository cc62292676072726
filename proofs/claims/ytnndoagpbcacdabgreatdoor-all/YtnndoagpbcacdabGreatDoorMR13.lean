import Derived.Test.YtnndoagpbcacdabGreatDoorMR8
import Derived.Test.YtnndoagpbcacdabGreatDoorMS1
namespace Go.Proofs.YtnndoagpbcacdabGreatDoor
open Go.RowKit
def I2 (ps:List Tk):List Value:=ps.map fun p=>.string p.txt
structure FOk (w:World) (T:Nat) (names:List Tk) (d:Df) (psv bv:Value):Prop where
 prow:w.ownsRow 0 9 1 psv d.ps.length (I2 d.ps)
 plt:∀k,psv.ownBlock=some k->k<T
 body:∃h a xs,d.body=h::At.toks a/\dZ h/\a.ok/\w.ownsRow 0 223 3 bv (a.cnt+1) xs/\ER w (fun k=>k<T) d.ps names (.sim h a) xs
 blt:∀k,bv.ownBlock=some k->k<T
def rh (d:Df) (psv bv:Value):List Value:=[.string d.name.txt,psv,bv]
def gO (w:World) (T:Nat) (names:List Tk):List Df->List Value->Prop
 |[],xs=>xs=[]
 |d::ds,xs=>∃psv bv r,xs=rh d psv bv++r/\FOk w T names d psv bv/\gO w T names ds r
theorem FOk.keep {w w':World} {T:Nat} {names:List Tk} {d:Df} {psv bv:Value} (h:FOk w T names d psv bv) (hb:Below T w w'):FOk w' T names d psv bv:=by
 obtain ⟨hh,a,xs,h1,h2,h3,h4,h5⟩:=h.body;exact ⟨cM h.prow hb h.plt,h.plt,⟨hh,a,xs,h1,h2,h3,cM h4 hb h.blt,ER.keep (fun k hk=>hb.block k hk) (fun _ h=>h) h5⟩,h.blt⟩
theorem FOk.up {w:World} {T T':Nat} {names:List Tk} {d:Df} {psv bv:Value} (hT:T<=T') (h:FOk w T names d psv bv):FOk w T' names d psv bv:=by
 obtain ⟨hh,a,xs,h1,h2,h3,h4,h5⟩:=h.body;exact ⟨h.prow,fun k hk=>bq (h.plt k hk) hT,⟨hh,a,xs,h1,h2,h3,h4,ER.keep (fun _ _=>rfl) (fun k hk=>bq hk hT) h5⟩,fun k hk=>bq (h.blt k hk) hT⟩
theorem ER.type {w w':World} {base size n:Nat} {t:TypeId} {v:Value} {xs0:List Value} {S:Nat->Prop} {ps names:List Tk} (hr:w.ownsRow base t size v n xs0) (hg:w.grownBy w' v.ownBlock) (ht:223≠t):∀{a:At} {xs:List Value},ER w S ps names a xs->ER w' S ps names a xs
 | .nil,_,h=>h
 | .sim _ _,_,⟨r',h1,h2⟩=>⟨r',h1,ER.type hr hg ht h2⟩
 | .par _ _ _ _ _,_,.inl ⟨h0,r',h1,h2⟩=>.inl ⟨h0,r',h1,ER.type hr hg ht h2⟩
 | .par _ _ _ _ _,_,.inr ⟨h0,pv,ys,r',h1,h2,h3,h4,h5⟩=>.inr ⟨h0,pv,ys,r',h1,aY hr hg ht h2,h3,ER.type hr hg ht h4,ER.type hr hg ht h5⟩
theorem FOk.type {w w':World} {base size n T:Nat} {names:List Tk} {v:Value} {xs0:List Value} {d:Df} {psv bv:Value} (hr:w.ownsRow base 183 size v n xs0) (hg:w.grownBy w' v.ownBlock) (h:FOk w T names d psv bv):FOk w' T names d psv bv:=by
 obtain ⟨hh,a,xs,h1,h2,h3,h4,h5⟩:=h.body;exact ⟨aY hr hg (by decide) h.prow,h.plt,⟨hh,a,xs,h1,h2,h3,aY hr hg (by decide) h4,ER.type hr hg (by decide) h5⟩,h.blt⟩
theorem gO.keep {w w':World} {T:Nat} {names:List Tk} (hb:Below T w w'):∀{ds:List Df} {xs:List Value},gO w T names ds xs->gO w' T names ds xs
 |[],_,h=>h
 |_::_,_,⟨a,b,r,h1,h2,h3⟩=>⟨a,b,r,h1,h2.keep hb,gO.keep hb h3⟩
theorem gO.up {w:World} {T T':Nat} {names:List Tk} (hT:T<=T'):∀{ds:List Df} {xs:List Value},gO w T names ds xs->gO w T' names ds xs
 |[],_,h=>h
 |_::_,_,⟨a,b,r,h1,h2,h3⟩=>⟨a,b,r,h1,h2.up hT,gO.up hT h3⟩
theorem gO.type {w w':World} {base size n T:Nat} {names:List Tk} {v:Value} {xs0:List Value} (hr:w.ownsRow base 183 size v n xs0) (hg:w.grownBy w' v.ownBlock):∀{ds:List Df} {xs:List Value},gO w T names ds xs->gO w' T names ds xs
 |[],_,h=>h
 |_::_,_,⟨a,b,r,h1,h2,h3⟩=>⟨a,b,r,h1,h2.type hr hg,gO.type hr hg h3⟩
theorem gO.snoc {w:World} {T:Nat} {names:List Tk} {d:Df} {psv bv:Value} (hd:FOk w T names d psv bv):∀{ds:List Df} {xs:List Value},gO w T names ds xs->gO w T names (ds++[d]) (xs++rh d psv bv)
 |[],_,h=>by rw [show _=([]:List Value) from h];exact ⟨psv,bv,[],by simp,hd,rfl⟩
 |_::_,_,⟨p,b,r,h1,h2,h3⟩=>⟨p,b,r++rh d psv bv,by rw [h1];simp,h2,gO.snoc hd h3⟩
theorem DS (d:Df) (psv bv:Value) (h1:psv.oneCell'=true) (h2:bv.oneCell'=true):∀u∈rh d psv bv,u.oneCell'=true:=by
 intro u hu;simp only [rh,aK,ck,dV] at hu;rcases hu with rfl|rfl|rfl<;>first|rfl|assumption
theorem Tryz.infoFun:(Tryz.prog.info? 183).map (fun i=>(i.zero,i.size,i.bytes))=some (some (.agg #[.string ByteArray.empty,.slice none 0 0,.slice none 0 0]),3,64):=by kernel_rfl
structure Prog (ts:List Tk) (ds:List Df):Prop where
 shq:Shq ts ds
 wt:∀t∈ts,WT t.txt
 lt:ts.length<=1000
 num:∀d∈ds,∀t∈ts,dZ t->t∈d.body->(aX d.ps (ds.map (·.name)) t).1=1->t.txt.size<=6/\mB t.txt.data.toList
set_option maxHeartbeats 8000000
set_option maxRecDepth 100000
theorem Fc (ps:List Tk) (k:Nat) (h:k<ps.length):I2 (ps.take (k+1))=I2 (ps.take k)++[.string ps[k].txt]:=by
 unfold I2;rw [aT h,cz];rfl
theorem Shq.at {ts:List Tk} {ds:List Df} (h:Shq ts ds):∀d∈ds,∃hd a,d.body=hd::At.toks a/\dZ hd/\a.ok:=by
 induction h with
 |nil=>intro d hd;simp at hd
 |cons n ps e h a m r ds hn hp he hh ha hm hr ih=>
  intro d hd;rcases aK.1 hd with rfl|hd
  ·exact ⟨h,a,rfl,hh,ha⟩
  ·exact ih d hd
theorem wa (s:ByteArray) (ds:List Df) (w:World) (k9:s.size<=1000) (hp:Prog (ci s 0) ds):
 Calls Tryz.prog 111 #[.string s] w fun e w'=>∃v m,e=.returned (.tuple #[v,.int .i64 m])/\Below w.heap.size w w'/\m=fnd ds lH/\∃xs,w'.ownsRow 0 183 3 v ds.length xs/\gO w' w'.heap.size (ds.map (·.name)) ds xs:=by
 have rF:=l8 (ci s 0);have EI:=ss hp.shq.shp;have ja:=hp.lt;have oG:ds.length<=1000:=by rw [<-EI];exact aJ rF.i1 ja
 have VU:∀d∈ds,d.ps.length<=1000:=fun d hd=>aJ (rF.i4 d (by rw [EI];exact hd)).1 ja
 clear EI;go_enter Tryz.func111,Tryz.ntmps111
 go_wp2_with fail
 refine (FB s _ k9).mono ?_
 rintro e w1 ⟨v1,rfl,mU,bB⟩
 have th:=bO mU (aF _);clear mU;generalize MM:ci s 0=ts at*;clear MM rF;go_wp2_with fail
 refine (TK s v1 ts ds _ ja hp.wt hp.shq.shp th).mono ?_
 rintro e w2 ⟨lv,rfl,bX,zs,tb,jz⟩
 have mT:=aQ th bX;have ik:=bB.trans (bX.mono bB.size);clear bB bX th;go_wp2_with fail
 refine (Mt lv ts ds zs _ _ (by omega) tb jz (ah _)).mono ?_
 rintro e w3 ⟨fv,rfl,df,mq⟩
 have PJ:=aQ mT df;have ld:=aQ tb df;have mV:=jz.keep df;have xw:=df.size;have Qu:=bO mq (aF _);have tH:=ik.trans (df.mono ik.size);clear df ik mT tb jz mq;have aaQ:=mV.up xw;clear mV xw;obtain ⟨q,cap,rfl,_,_⟩:=PJ.form (by omega);obtain ⟨lo,lcap,rfl⟩:=aU ld;obtain ⟨fo,fcap,rfl⟩:=aU Qu;go_wp2_with fail
 go_loopw [7,8] (fun v x wr=>∃(k:Nat) (xs:List Value),k<=ds.length/\x=.int .i64 k/\Below w3.heap.size w3 wr/\wr.ownsRow w3.heap.size 183 3 v k xs/\gO wr wr.heap.size (ds.map (·.name)) (ds.take k) xs) (fun _ x _=>ds.length-(intOf x).toNat)
 case atStart=>exact ⟨0,[],aF _,rfl,ai _ _,aM _ _ _ _,by simp [gO]⟩
 case round=>
  obtain ⟨k,xs,hk,rfl,hb,bW,kG⟩:=hrel;have dk:=hb.size;by_cases bF:k<ds.length
  ·obtain ⟨qd,cd,Gw,_,_⟩:=ld.form (by omega);cases Gw
   have xu:=aE bF;have oD:=VU ds[k] xu;obtain ⟨mz,a0,fN,wF,zp⟩:=hp.shq.at ds[k] xu;have s9:=aQ ld hb;obtain ⟨pv,a,b,t0,t1,t2,t3,t4,ew⟩:=(aaQ.keep hb).at k bF;have d0:=aH s9 _ _ t0;have d1:=aH s9 _ _ t1;have d2:=aH s9 _ _ t2;have d3:=aH s9 _ _ t3;have d4:=aH s9 _ _ t4;obtain ⟨po,pcap,rfl⟩:=aU ew.row;obtain ⟨cc,rr,tB,QG⟩:=ew.semi;have V9:∀t∈ds[k].body,t∈ts:=by
    intro t ht;have:t∈ts.drop a:=by rw [tB];simp [ht]
    exact dr this
   have gB:∀t∈ds[k].body,dZ t->(aX ds[k].ps (ds.map (·.name)) t).1=1->t.txt.size<=6/\mB t.txt.data.toList:=fun t h1 h2 h3=>hp.num ds[k] xu t (V9 t h1) h2 h1 h3
   have gZ:ds[k].body.length<=1000:=by have:=ew.tq;have:=ew.le;omega
   have L7:Hid _:=gZ;have uB:Hid _:=gB;have XM:Hid _:=tB;have CP:Hid _:=fN;have PC:=ew.row;have qZ:a<=1000:=by have:=ew.tq;have:=ew.le;omega
   clear t0 t1 t2 t3 t4 s9 gB tB fN ew V9 gZ;obtain ⟨wo,rfl⟩:∃wo:World,wo=wr:=⟨_,rfl⟩;have VV:(ds.map (·.name)).length<=1000000:=by simp;omega
   have NC:Hid _:=VV;clear VV;go_wp2_with fail
   go_loopw [11] (fun x wx=>∃(j:Nat) (psv:Value),j<=ds[k].ps.length/\x=.int .i64 j/\Below wo.heap.size wo wx/\wx.heap[wo.heap.size]?=some (.cells #[.string ds[k].name.txt,.int .i64 ds[k].name.pos,.slice po ds[k].ps.length pcap,.int .i64 a,.int .i64 b] 219 (0,0))/\wx.heap[wo.heap.size+1]?=some (.cells #[.string ds[k].name.txt,psv,.slice none 0 0] 183 (0,0))/\wx.ownsRow (wo.heap.size+2) 9 1 psv j (I2 (ds[k].ps.take j))) (fun x _=>ds[k].ps.length-(intOf x).toNat)
   case atStart=>
    refine ⟨0,.slice none 0 0,aF _,rfl,((ai _ _).alloc (ah _) _).alloc (by simp) _,(aO _ _ _ (by simp)).trans (az wo _),?_,aM _ _ _ _⟩
    have:=az (wo.alloc (.cells #[.string ds[k].name.txt,.int .i64 ds[k].name.pos,.slice po ds[k].ps.length pcap,.int .i64 a,.int .i64 b] 219)) (.cells #[.string ds[k].name.txt,.slice none 0 0,.slice none 0 0] 183);simpa using this
   case round=>
    obtain ⟨j,psv,hj,rfl,fe,SG,EJ,fU⟩:=hrel;have fG:wo.heap.size+1<wr.heap.size:=(ae.1 EJ).1;have D0:=al wr wo.heap.size 0 _ _ _ SG;have D1:=al wr wo.heap.size 1 _ _ _ SG;have D2:=al wr wo.heap.size 2 _ _ _ SG;have D3:=al wr wo.heap.size 3 _ _ _ SG;have D4:=al wr wo.heap.size 4 _ _ _ SG;have F0:=al wr (wo.heap.size+1) 0 _ _ _ EJ;have F1:=al wr (wo.heap.size+1) 1 _ _ _ EJ;have F2:=al wr (wo.heap.size+1) 2 _ _ _ EJ;have fz:=fun j=>aG wr (wo.heap.size+1) j _ _ EJ
    simp only [ax,ap,aq] at D0 D1 D2 D3 D4 F0 F1 F2;by_cases dG:j<ds[k].ps.length
    ·obtain ⟨i,hi,fp,dQ,eF⟩:=bE Tryz.infoStr;obtain ⟨qp,cp,UQ,_,_⟩:=PC.form (by omega);cases UQ
     have et:=aQ PC fe;have ⟨t0,t1⟩:=pe ds[k].ps j dG;have x0:=aH et _ _ t0;have x1:=aH et _ _ t1;clear t0 t1 et;go_wp2_with fail
     go_region_law ((refine step_append_lies _ (by rfl) _ _ _ (by rfl) (wo.heap.size+2) 9 i _ 1 16 Tryz.underlying43 hi fp dQ eF rfl (by omega) psv j (I2 (ds[k].ps.take j)) (by rfl) (by exact fU.alloc _) _ 1 _ [.string ds[k].ps[j].txt] (by rfl) rfl (by exact World.news_of_block (az wr _)) (by intro u hu;simp only [dE] at hu;rw [hu];rfl) (by omega) (by unfold maxLen;omega) (by omega) (by simp;omega) _ rfl ?_;intro g cap1 w2 b7 bD dt cV;have KV:=br (World.ownsRow.drew (fU.alloc _)) bD (by decide) ((aO wr _ (wo.heap.size+1) fG).trans EJ);have aba:=br (World.ownsRow.drew (fU.alloc _)) bD (by decide) ((aO wr _ wo.heap.size (by omega)).trans SG);have z2:=al w2 (wo.heap.size+1) 1 _ _ _ KV;have zz:=aG w2 (wo.heap.size+1) 1 _ _ KV;simp only [ax,ap,aq] at z2))
     all_goals
      have bX:Below wo.heap.size wo w2:=(aR (fe.alloc (by omega) _)).grown bD (by simp [heap_drew];omega) (fun k hk=>by have:=(fU.lt k hk).1;omega);go_wp2_with fail
      go_roundw
      case rel=>
       refine ⟨j+1,_,by omega,by go_num,bX.setCell (gr _) _,(bi _ (by omega)).trans aba,bk _ KV,?_⟩
       rw [Fc _ _ dG];exact aB b7 KV (by decide)
      case measure=>simp [intOf];omega
    ·have Vw:j=ds[k].ps.length:=by omega
     subst Vw;rw [bA] at fU;go_wp2_with fail
     have ZR:PR wr q cap ts s (.slice po ds[k].ps.length pcap) (.slice fo (ds.map (·.name)).length fcap) ds[k].ps (ds.map (·.name)):=by
      have js:=hb.trans (fe.mono dk);refine ⟨aQ PJ js,aQ PC fe,?_⟩
      have:=aQ Qu js;simpa using this
     have HC:=TC s ts ds[k].ps (ds.map (·.name)) q cap po fo pcap fcap ds[k].name a b ja (by omega) NC.out hp.wt 1000 (.sim mz a0) a cc rr wr (by rw [show (At.sim mz a0).toks=ds[k].body from CP.out.symm];exact L7.out) ⟨wF,zp⟩ (by rw [show (At.sim mz a0).toks=ds[k].body from CP.out.symm];exact uB.out) (by rw [show (At.sim mz a0).toks=ds[k].body from CP.out.symm];exact XM.out) (.inr QG) ZR;simp only [bK] at HC;refine (show Calls _ _ _ _ _ from HC).mono ?_
     clear HC;rintro e w4 ⟨bv,ys,rfl,dU,Hc,nX⟩
     have qD:=dU.size;obtain ⟨bo,bcap,rfl⟩:=aU Hc;have DF:=(dU.block (wo.heap.size+1) fG).trans EJ;have G0:=al w4 (wo.heap.size+1) 0 _ _ _ DF;have G1:=al w4 (wo.heap.size+1) 1 _ _ _ DF;have G2:=al w4 (wo.heap.size+1) 2 _ _ _ DF;have gz:=fun j=>aG w4 (wo.heap.size+1) j _ _ DF
     simp only [ax,ap,aq] at G0 G1 G2;clear D0 D1 D2 D3 D4 F0 F1 F2 fz;obtain ⟨i,hi,fp,dQ,eF⟩:=bE Tryz.infoFun;have dB:Below wo.heap.size wo (w4.setCell ⟨wo.heap.size+1,2,none⟩ (.slice bo (At.sim mz a0).cnt bcap)):=(fe.trans (dU.mono fe.size)).setCell (gr _) _;have pF:=aQ bW dB;have Pm:(w4.setCell ⟨wo.heap.size+1,2,none⟩ (.slice bo (At.sim mz a0).cnt bcap)).heap.size=w4.heap.size:=by simp [World.setCell]
     have ahC:=dB.size;have qI:FOk (w4.setCell ⟨wo.heap.size+1,2,none⟩ (.slice bo (At.sim mz a0).cnt bcap)) w4.heap.size (ds.map (·.name)) ds[k] psv (.slice bo (At.sim mz a0).cnt bcap):=by
      refine ⟨aB (bO (aQ fU dU) (aF _)) DF (by decide),fun k hk=>by have:=(fU.lt k hk).2;omega,⟨mz,a0,ys,CP.out,wF,zp,aB (bO Hc (aF _)) DF (by decide),ER.keep (fun k hk=>bi _ (by omega)) (fun k hk=>hk.2.1) nX⟩,fun k hk=>(Hc.lt k hk).2⟩
     have xt:gO (w4.setCell ⟨wo.heap.size+1,2,none⟩ (.slice bo (At.sim mz a0).cnt bcap)) w4.heap.size (ds.map (·.name)) (ds.take (k+1)) (xs++rh ds[k] psv (.slice bo (At.sim mz a0).cnt bcap)):=by
      rw [aT bF];exact gO.snoc qI ((kG.keep dB).up (by omega))
     have mU:=wh fU;have CK:Hid (psv.oneCell'=true):=mU;have HS5:Hid _:=Pm;have xm:Hid _:=dB;have R7:Hid _:=xt;clear mU qI xt Pm dB;go_wp2_with (at_builtin;go_must (refine wpList_append_lies _ rfl _ _ _ rfl w3.heap.size 183 i _ 3 64 Tryz.underlying178 hi fp dQ eF rfl (by omega) u7 k xs rfl ?hown _ 1 _ (rh ds[k] psv (.slice bo (At.sim mz a0).cnt bcap)) rfl rfl ?dA ?h1 (by omega) ?kj ?cP ?cX _ rfl ?_))
     case hown=>exact pF.alloc _
     case dA=>exact World.news_of_block (by have:=az (w4.setCell ⟨wo.heap.size+1,2,none⟩ (.slice bo (At.sim mz a0).cnt bcap)) (.cells #[.string ds[k].name.txt,psv,.slice bo (At.sim mz a0).cnt bcap] 183);rw [HS5.out] at this;exact this)
     case h1=>exact DS _ _ _ CK.out rfl
     case kj=>unfold maxLen;omega
     case cP=>omega
     case cX=>first|omega|(simp;omega)
     intro g cap1 w2 b7 bD dt cV;have Pm:=HS5.out;have dB:=xm.out;have xt:=R7.out;clear HS5 xm R7;generalize (w4.setCell ⟨wo.heap.size+1,2,none⟩ (.slice bo (At.sim mz a0).cnt bcap))=W5 at*;generalize (Obj.cells #[.string ds[k].name.txt,psv,.slice bo (At.sim mz a0).cnt bcap] 183)=O at bD;have js:Below w3.heap.size w3 w2:=((hb.trans (dB.mono dk)).alloc (by omega) _).grown bD (by simp;omega) (fun k hk=>(pF.lt k hk).1);have KD:gO w2 w2.heap.size (ds.map (·.name)) (ds.take (k+1)) (xs++rh ds[k] psv (.slice bo (At.sim mz a0).cnt bcap)):=by
      have h1:=xt.keep ((ai w4.heap.size W5).alloc (by omega) O);have h2:=bD.size;simp at h2;exact (h1.type (pF.alloc O) bD).up (by omega)
     clear hi fp dQ eF xt dB;go_wp2_with fail
     go_roundw
     case rel=>exact ⟨k+1,_,by omega,by go_num,js,b7,KD⟩
     case measure=>simp [intOf];omega
  ·have eh:k=ds.length:=by omega
   subst eh;rw [bA] at kG;go_wp2_with fail
   have HW:=gP (.slice fo ds.length fcap) (ds.map (·.name)) ds.length ⟨#[109,97,105,110]⟩ wr (by simp;omega) (by simp) (by have:=aQ Qu hb;rw [bK];exact this);have hw:whr ((ds.map (·.name)).take ds.length) ⟨#[109,97,105,110]⟩=fnd ds lH:=by rw [bN (by simp)];rfl
   rw [hw] at HW;obtain ⟨mm,yw⟩:∃mm,mm=fnd ds lH:=⟨_,rfl⟩;rw [<-yw] at HW;have Xp:Hid (mm=fnd ds lH):=yw;clear yw hw;refine (show Calls _ _ _ _ _ from HW).mono ?_
   clear HW;rintro e w1 ⟨rfl,rfl⟩
   go_wp2_with fail
   go_ret2
   exact ⟨_,_,rfl,tH.trans (hb.mono tH.size),Xp.out,xs,bO bW (aF _),kG⟩
def wL (ps names:List Tk) (t:Tk):List UInt8:=if (aX ps names t).1=1 then jt t.txt.data.toList else t.txt.data.toList
theorem l9 {a b:ByteArray} (h:a.toList=b.toList):a=b:=by
 rw [bU,bU] at h;cases a;cases b
 congr
 exact Array.toList_inj.1 h
theorem n8 {ts:List Tk} {s:ByteArray} (h:0<=whr ts s):∃(i:Nat) (hi:i<ts.length),whr ts s=i/\ts[i].txt=s:=by
 unfold whr at h ⊢;cases hf:ts.findIdx? (fun t=>t.txt.toList==s.toList) with
 |none=>rw [hf] at h;simp at h
 |some i=>
  obtain ⟨hi,h1,_⟩:=cY.1 hf;exact ⟨i,hi,rfl,l9 (by simpa using h1)⟩
theorem BN {t:ByteArray} (h:0<=fM t.toList):∃c:UInt8,t.toList=[c]/\((fM t.toList=0/\c=43)\/(fM t.toList=1/\c=45)\/(fM t.toList=2/\c=42)\/(fM t.toList=3/\c=60)\/(fM t.toList=4/\c=63)):=by
 generalize t.toList=l at*;unfold fM at h ⊢
 repeat' split at h
 all_goals simp_all
theorem gO.at {w:World} {T:Nat} {names:List Tk}:∀{ds:List Df} {xs:List Value},gO w T names ds xs->∀(i:Nat) (h:i<ds.length),∃psv bv,xs[i*3]?=some (.string (ds[i]'h).name.txt)/\xs[i*3+1]?=some psv/\xs[i*3+2]?=some bv/\FOk w T names (ds[i]'h) psv bv
 |[],_,_,i,h=>by simp at h
 |d::ds,_,⟨pv,bv,r,rfl,h2,h3⟩,0,_=>⟨pv,bv,rfl,rfl,rfl,h2⟩
 |d::ds,_,⟨pv,bv,r,rfl,h2,h3⟩,i+1,h=>by
  obtain ⟨p,b,e0,e1,e2,e5⟩:=gO.at h3 i (by simpa using h);refine ⟨p,b,?_,?_,?_,e5⟩
  ·rw [show (i+1)*3=i*3+1+1+1 by omega];exact e0
  ·rw [show (i+1)*3+1=(i*3+1)+1+1+1 by omega];exact e1
  ·rw [show (i+1)*3+2=(i*3+2)+1+1+1 by omega];exact e2
theorem Tu (t:Tk) (nm:ByteArray) (ps names:List Tk) (ds:List Df) (psv bv allv:Value) (xs:List Value) (T:Nat) (w:World) (oD:ps.length<=1000) (EG:ds.length<=1000) (Ap:names=ds.map (·.name)) (hw:WT t.txt)
 (gB:(aX ps names t).1=1->t.txt.size<=6/\mB t.txt.data.toList) (hp:w.ownsRow 0 9 1 psv ps.length (I2 ps)) (ha:w.ownsRow 0 183 3 allv ds.length xs) (hf:gO w T names ds xs):
 Calls Tryz.prog 149 #[.agg #[.int .i64 (aX ps names t).1,.int .i64 (aX ps names t).2,.slice none 0 0],.agg #[.string nm,psv,bv],allv] w fun e w'=>∃x:ByteArray,e=.returned (.string x)/\x.data.toList=wL ps names t/\x.size<=1000/\Below w.heap.size w w':=by
 obtain ⟨po,pcap,rfl⟩:=aU hp;obtain ⟨ao,acap,rfl⟩:=aU ha;have zl:=hw.2.1;by_cases p0:0<=fM t.txt.toList
 ·have HK:Hid (aX ps names t=(4,fM t.txt.toList)):=by show _=_;unfold aX;rw [aA p0]
  have HL:Hid (wL ps names t=t.txt.data.toList):=by show _=_;unfold wL;rw [HK.out];rfl
  rw [HK.out,HL.out];obtain ⟨c,hc,jA⟩:=BN p0;have HT:Hid (t.txt=⟨#[c]⟩):=l9 (by rw [hc,bU]);clear gB hc;go_enter Tryz.func149,Tryz.ntmps149
  rcases jA with ⟨h1,rfl⟩|⟨h1,rfl⟩|⟨h1,rfl⟩|⟨h1,rfl⟩|⟨h1,rfl⟩
  all_goals
   rw [h1];go_wp2_with fail
   go_ret
   refine ⟨_,rfl,?_,?_,(((ai _ _).alloc (ah _) _).alloc (by simp) _)⟩
   ·rw [HT.out];rfl
   ·decide
 ·by_cases p1:0<=whr ps t.txt
  ·have HK:Hid (aX ps names t=(2,whr ps t.txt)):=by show _=_;unfold aX;rw [ay p0,aA p1]
   have HL:Hid (wL ps names t=t.txt.data.toList):=by show _=_;unfold wL;rw [HK.out];rfl
   rw [HK.out,HL.out];obtain ⟨i,hi,Ul,Uy⟩:=n8 p1;rw [Ul];obtain ⟨q,cp,hq,_,_⟩:=hp.form (by omega);cases hq
   have x0:=aH hp i (.string t.txt) (by rw [<-Uy];unfold I2;rw [cH,aj hi];rfl);clear gB p0 p1 Ul Uy HK HL;go_enter Tryz.func149,Tryz.ntmps149
   go_wp2_with fail
   go_ret
   exact ⟨_,rfl,rfl,zl,(((ai _ _).alloc (ah _) _).alloc (by simp) _)⟩
  ·by_cases p2:0<=whr names t.txt
   ·have HK:Hid (aX ps names t=(3,whr names t.txt)):=by show _=_;unfold aX;rw [ay p0,ay p1,aA p2]
    have HL:Hid (wL ps names t=t.txt.data.toList):=by show _=_;unfold wL;rw [HK.out];rfl
    rw [HK.out,HL.out];obtain ⟨i,hi,Ul,Uy⟩:=n8 p2;rw [Ul];have lj:i<ds.length:=by rw [Ap] at hi;simpa using hi
    have Ux:ds[i].name.txt=t.txt:=by rw [<-Uy];simp [Ap]
    obtain ⟨q,cp,hq,_,_⟩:=ha.form (by omega);cases hq
    obtain ⟨_,_,e0,_⟩:=hf.at i lj;rw [Ux] at e0;have x0:=aH ha _ _ e0;clear gB p0 p1 p2 Ul Uy Ux hi e0 HK HL Ap hf;go_enter Tryz.func149,Tryz.ntmps149
    go_wp2_with fail
    go_ret
    exact ⟨_,rfl,rfl,zl,(((ai _ _).alloc (ah _) _).alloc (by simp) _)⟩
   ·have HK:Hid (aX ps names t=(1,jW t.txt.data.toList)):=by show _=_;unfold aX;rw [ay p0,ay p1,ay p2]
    have HL:Hid (wL ps names t=jt t.txt.data.toList):=by show _=_;unfold wL;rw [HK.out];rfl
    obtain ⟨vd,KH⟩:=gB (by rw [HK.out]);rw [HK.out,HL.out];have hv:=lQ _ KH;have hv6:jW t.txt.data.toList<1000000:=by
     have h1:=hv.2;have h2:t.txt.data.toList.length<=6:=by rw [<-cg];exact vd
     have h3:(10:Int)^t.txt.data.toList.length<=10^6:=by exact_mod_cast dW (by decide) h2
     have h4:(10:Int)^6=1000000:=by decide
     omega
    obtain ⟨m,hm⟩:=aZ hv.1;have hd:iY m=jt t.txt.data.toList:=by
     have:=Rs _ KH (fun e=>by have h:=hw.1;rw [cg,e] at h;simp at h);rw [hm] at this;exact this
    have HD:Hid _:=hd;have yI:(jt t.txt.data.toList).length<=6:=aJ (wZ _) (by rw [<-cg];exact vd);rw [hm] at hv6 ⊢;clear gB p0 p1 p2 HK HL hv hd hm;go_enter Tryz.func149,Tryz.ntmps149
    go_wp2_with fail
    refine (lS m m _ (ah _) (by omega)).mono ?_
    rintro e w1 ⟨x,rfl,hx,bB⟩
    have kA:x.size<=1000:=by rw [cg,hx,HD.out];omega
    have HX:Hid _:=hx;clear hx;go_wp2_with fail
    go_ret
    exact ⟨x,rfl,by rw [HX.out,HD.out],kA,(((ai _ _).alloc (ah _) _).alloc (by simp) _).trans (bB.mono (by simp;omega))⟩
end Go.Proofs.YtnndoagpbcacdabGreatDoor
