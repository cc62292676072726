import Derived.Test.YtnndoagpbcacdabGreatDoorMM12
import Derived.Test.YtnndoagpbcacdabGreatDoorMD0
namespace Go.Proofs.YtnndoagpbcacdabGreatDoor
set_option maxHeartbeats 8000000
set_option maxRecDepth 100000
open Go.RowKit
def dz (r:ByteArray):ByteArray:=match wrd r 0 0 [] with
 |none=>r
 |some (_,k)=>r.extract k r.size
def jX (c:UInt8) (r:ByteArray):Bool:=match wrd r 0 0 [] with
 |none=>false
 |some (ws,_)=>decide (ws.length=3) && (((ws[0]?.getD default).toList==[c]) && (eP (ws[1]?.getD default) && eP (ws[2]?.getD default)))
def jo (c:UInt8) (r:ByteArray):Int:=match wrd r 0 0 [] with
 |none=>0
 |some (ws,_)=>if decide (ws.length=3) && (((ws[0]?.getD default).toList==[c]) && eP (ws[1]?.getD default)) then qg (ws[1]?.getD default) else 0
def iK (c:UInt8) (r:ByteArray):Int:=match wrd r 0 0 [] with
 |none=>0
 |some (ws,_)=>if decide (ws.length=3) && (((ws[0]?.getD default).toList==[c]) && eP (ws[1]?.getD default)) then qg (ws[2]?.getD default) else 0
def gw (r:ByteArray):Bool:=match wrd r 0 0 [] with
 |none=>true
 |some (ws,_)=>ws.all atK
def gE (r:ByteArray):Ln:=match wrd r 0 0 [] with
 |none=>[]
 |some (ws,_)=>if ws.all atK then ws.map atV else []
theorem lF (r:ByteArray):(dz r).size<=r.size:=by
 unfold dz;split
 ·exact ah _
 ·rw [cR];omega
theorem xT (c:UInt8) (b:Nat) (r:ByteArray) (ln:Int) (w:World) (h:iF w b r ln) (hr:r.size<=30000) (tt:0<=ln) (kV:ln<=100000):
 Calls Tryz.prog 90 #[.pointer (some ⟨b,0,none⟩),.string ⟨#[c]⟩] w fun e w'=>e=.returned (.tuple #[.int .i64 (jo c r),.int .i64 (iK c r),.bool (jX c r)])/\But b w w'/\iF w' b (dz r) (ln+1):=by
 have HC:Hid _:=uP b r ln w h hr tt kV;generalize hA:jo c r=PA;generalize hB:iK c r=PB;generalize hO:jX c r=PO;generalize hF:dz r=RF;have HV:Hid (jo c r=PA/\iK c r=PB/\jX c r=PO/\dz r=RF):=⟨hA,hB,hO,hF⟩;clear hA hB hO hF;unfold jo iK jX dz at HV;cases hw:wrd r 0 0 [] with
 |none=>
  rw [hw] at HC HV;have ze:Hid (PA=0/\PB=0/\PO=false/\RF=r):=⟨HV.out.1.symm,HV.out.2.1.symm,HV.out.2.2.1.symm,HV.out.2.2.2.symm⟩;clear HV hw;go_enter Tryz.func90,Tryz.ntmps90
  go_wp2_with fail
  refine (show Calls _ _ _ _ _ from HC.out).mono ?_
  rintro e w1 ⟨v,rfl,dD,hx⟩
  rcases hx with ⟨_,rfl,eu⟩|⟨ws,k,he,_⟩
  ·go_wp2_with fail
   go_ret3
   exact ⟨by rw [ze.out.1,ze.out.2.1,ze.out.2.2.1];rfl,dD,by rw [ze.out.2.2.2];exact eu⟩
  ·cases he
 |some p=>
  obtain ⟨ws,k⟩:=p;rw [hw] at HC HV;simp only at HV;clear hw;go_enter Tryz.func90,Tryz.ntmps90
  go_wp2_with fail
  refine (show Calls _ _ _ _ _ from HC.out).mono ?_
  rintro e w1 ⟨v,rfl,dD,hx⟩
  rcases hx with ⟨he,_⟩|⟨ws',k',he,bW,eu,hk,oz,zl⟩
  ·cases he
  cases he
  clear HC;rw [HV.out.2.2.2] at eu;obtain ⟨ao,cap,rfl⟩:=aU bW;by_cases h3:ws.length=3
  ·match ws,h3 with
   |[s0,s1,s2],_=>
    obtain ⟨q,cap',hq,_,dX⟩:=bW.form (by simp);cases hq
    have c0:w1.cell? ⟨q,0,none⟩=some (.string s0):=aH bW 0 _ rfl;have c1:w1.cell? ⟨q,1,none⟩=some (.string s1):=aH bW 1 _ rfl;have c2:w1.cell? ⟨q,2,none⟩=some (.string s2):=aH bW 2 _ rfl;have Ej:Hid _:=fun w=>og s1 w
    have xi:Hid _:=fun w=>og s2 w
    have oW:Hid ((if ((s0.toList==[c]) && eP s1) then qg s1 else 0)=PA/\(if ((s0.toList==[c]) && eP s1) then qg s2 else 0)=PB/\((s0.toList==[c]) && (eP s1 && eP s2))=PO):=by
     have h:=HV.out;simp only [aD,bp,aq,ap,b6,Nat.reduceAdd,eV,dp] at h;exact ⟨h.1,h.2.1,h.2.2.1⟩
    clear HV;simp only [aD,bp] at bW;clear zl oz;cases hc:(s0.toList==[c])
    ·have DA:(s0.toList !=[c])=true:=by simpa using hc
     have nP:Hid (PA=0/\PB=0/\PO=false):=by rw [hc] at oW;exact ⟨oW.out.1.symm,oW.out.2.1.symm,oW.out.2.2.symm⟩
     go_wp2_with fail
     go_ret3
     exact ⟨by rw [nP.out.1,nP.out.2.1,nP.out.2.2];rfl,dD,eu⟩
    ·have DA:(s0.toList !=[c])=false:=by simpa using hc
     cases h1:eP s1
     ·have nP:Hid (PA=0/\PB=0/\PO=false):=by rw [hc,h1] at oW;exact ⟨oW.out.1.symm,oW.out.2.1.symm,oW.out.2.2.symm⟩
      rw [h1] at Ej;go_wp2_with fail
      refine (show Calls _ _ _ _ _ from Ej.out _).mono ?_
      rintro e w2 ⟨rfl,rfl⟩
      go_wp2_with fail
      go_ret3
      exact ⟨by rw [nP.out.1,nP.out.2.1,nP.out.2.2];rfl,dD,eu⟩
     ·have nP:Hid (PA=qg s1/\PB=qg s2/\PO=eP s2):=by rw [hc,h1] at oW;exact ⟨oW.out.1.symm,oW.out.2.1.symm,oW.out.2.2.symm⟩
      rw [h1] at Ej;generalize qg s1=n1 at*;generalize qg s2=n2 at*;generalize eP s2=o2 at*;go_wp2_with fail
      refine (show Calls _ _ _ _ _ from Ej.out _).mono ?_
      rintro e w2 ⟨rfl,rfl⟩
      go_wp2_with fail
      refine (show Calls _ _ _ _ _ from xi.out _).mono ?_
      rintro e w2 ⟨rfl,rfl⟩
      go_wp2_with fail
      go_ret3
      exact ⟨by rw [nP.out.1,nP.out.2.1,nP.out.2.2];rfl,dD,eu⟩
  ·have WK:((ws.length:Int) !=3)=true:=by simp;omega
   have h3n:¬(ws.length:Int)=3:=by omega
   have nP:Hid (PA=0/\PB=0/\PO=false):=by
    have h:=HV.out;rw [bn h3] at h;exact ⟨h.1.symm,h.2.1.symm,h.2.2.1.symm⟩
   clear HV;go_wp2_with fail
   go_ret3
   exact ⟨by rw [nP.out.1,nP.out.2.1,nP.out.2.2];rfl,dD,eu⟩
theorem p6 {α:Type} (f:α->Bool) (l:List α) (k:Nat) (h:k<l.length) (h1:(l.take k).all f=true) (h2:f l[k]=true):(l.take (k+1)).all f=true:=by
 rw [aT h,List.all_append,h1];simp [h2]
theorem C6 (b:Nat) (r:ByteArray) (ln:Int) (w:World) (h:iF w b r ln) (hr:r.size<=30000) (tt:0<=ln) (kV:ln<=100000):
 Calls Tryz.prog 134 #[.pointer (some ⟨b,0,none⟩)] w fun e w'=>∃v,e=.returned (.tuple #[v,.bool (gw r)])/\But b w w'/\iF w' b (dz r) (ln+1)/\w'.ownsRow w.heap.size 99 2 v (gE r).length (acs (gE r)):=by
 have HC:Hid _:=uP b r ln w h hr tt kV;obtain ⟨i,hi,fp,dQ,eF⟩:=bE Tryz.infoAtom;have iB:b<w.heap.size:=(ae.1 h).1;generalize hA:gE r=PA;generalize hO:gw r=PO;generalize hF:dz r=RF;have HV:Hid (gE r=PA/\gw r=PO/\dz r=RF):=⟨hA,hO,hF⟩;clear hA hO hF;unfold gE gw dz at HV;cases hw:wrd r 0 0 [] with
 |none=>
  rw [hw] at HC HV;have ze:Hid (PA=[]/\PO=true/\RF=r):=⟨HV.out.1.symm,HV.out.2.1.symm,HV.out.2.2.symm⟩;clear HV hw;go_enter Tryz.func134,Tryz.ntmps134
  go_wp2_with fail
  refine (show Calls _ _ _ _ _ from HC.out).mono ?_
  rintro e w1 ⟨v,rfl,dD,hx⟩
  rcases hx with ⟨_,rfl,eu⟩|⟨ws,k,he,_⟩
  ·clear HC;go_wp2_with fail
   go_loopw [5,14] (fun x y wr=>x=.slice none 0 0/\y=.int .i64 0/\wr=w1) (fun _ _ _=>0)
   case atStart=>exact ⟨rfl,rfl,rfl⟩
   case round=>
    obtain ⟨rfl,rfl,rfl⟩:=hrel;go_wp2_with fail
    go_ret2
    exact ⟨_,by rw [ze.out.2.1];rfl,dD,by rw [ze.out.2.2];exact eu,by rw [ze.out.1];exact aM _ _ _ _⟩
  ·cases he
 |some p=>
  obtain ⟨ws,k⟩:=p;rw [hw] at HC HV;simp only at HV;clear hw;go_enter Tryz.func134,Tryz.ntmps134
  go_wp2_with fail
  refine (show Calls _ _ _ _ _ from HC.out).mono ?_
  rintro e w1 ⟨v,rfl,dD,hx⟩
  rcases hx with ⟨he,_⟩|⟨ws',k',he,bW,eu,hk,oz,zl⟩
  ·cases he
  cases he
  clear HC;rw [HV.out.2.2] at eu;have HWS:Hid _:=zl;clear zl;obtain ⟨ao,cap,rfl⟩:=aU bW;have Gj:=dD.size;go_wp2_with fail
  go_loopw [5,14] (fun x y wr=>∃j:Nat,j<=ws.length/\y=.int .i64 j/\Hid ((ws.take j).all atK=true)/\wr.ownsRow w1.heap.size 99 2 x j (acs ((ws.take j).map atV))/\Below w1.heap.size w1 wr) (fun _ y _=>ws.length-(intOf y).toNat)
  case atStart=>exact ⟨0,aF _,rfl,by simp [Hid],aM _ _ _ _,ai _ _⟩
  case round=>
   obtain ⟨j,hj,rfl,NH,EC,hb⟩:=hrel;have dk:=hb.size;obtain ⟨xo,xcap,hx⟩:=aU EC;subst hx;by_cases bF:j<ws.length
   ·have I8:=aQ bW hb;obtain ⟨q,cap',hq,_,dX⟩:=I8.form (by omega);cases hq
    have c0:wr.cell? ⟨q,j,none⟩=some (.string ws[j]):=aH I8 j _ (by unfold sts;rw [cH,aj bF];rfl);have HC:Hid _:=FP ws[j] wr (by have:=HWS.out ws[j] (aE bF);omega);have S5:Hid _:=r8 atV ws j bF;have Bn:Hid (atK ws[j]=true->(ws.take (j+1)).all atK=true):=p6 atK ws j bF NH.out;have YE:Hid (atK ws[j]=false->PA=[]/\PO=false):=fun hf=>by
     have:ws.all atK=false:=by rw [List.all_eq_false];exact ⟨ws[j],aE bF,by rw [hf];simp⟩
     have hv:=HV.out;rw [this] at hv;exact ⟨hv.1.symm,hv.2.1.symm⟩
    have hjj:((ws.take j).map atV).length=j:=by simp;omega
    generalize AT:atV ws[j]=av at*;generalize hak:atK ws[j]=ak at*;clear AT hak;obtain ⟨a1,a2⟩:=av;simp only at HC;cases ak
    ·have gj:Hid (PA=[]/\PO=false):=YE.out rfl;go_wp2_with fail
     refine (show Calls _ _ _ _ _ from HC.out).mono ?_
     rintro e w2 ⟨rfl,bX⟩
     go_wp2_with fail
     go_ret2
     refine ⟨_,by rw [gj.out.2];rfl,dD.trans (But.of ((hb.trans (bX.mono dk)).alloc (by have:=bX.size;omega) _) (by omega)),?_,by rw [gj.out.1];exact aM _ _ _ _⟩
     exact (aO w2 _ b (by have:=bX.size;omega)).trans ((bX.block b (by omega)).trans ((hb.block b (by omega)).trans eu))
    ·have Se:Hid _:=Bn.out rfl;go_wp2_with fail
     refine (show Calls _ _ _ _ _ from HC.out).mono ?_
     rintro e w2 ⟨rfl,bX⟩
     have Kn:=aQ EC bX;have k9:=bX.size;go_wp2_with (at_builtin;go_must (refine wpList_append_lies _ rfl _ _ _ rfl w1.heap.size 99 i _ 2 16 Tryz.underlying100 hi fp dQ eF rfl (by omega) (.slice xo j xcap) j (acs ((ws.take j).map atV)) rfl ?hown _ 1 _ [.int .i64 a1,.int .i64 a2] rfl rfl ?dA ?h1 (by omega) ?kj ?cP ?cX _ rfl ?_))
     case hown=>exact (Kn.alloc _).alloc _
     case dA=>exact World.news_of_block (by have:=az (w2.alloc (Obj.cells #[.int .i64 a1,.int .i64 a2] 99)) (Obj.cells #[.int .i64 a1,.int .i64 a2] 99);simpa using this)
     case h1=>simp [Value.oneCell']
     case kj=>unfold maxLen;omega
     case cP=>omega
     case cX=>simp;omega
     intro g cap2 w3 Ch bD dt tn;have df:Below w1.heap.size w1 w3:=(((hb.trans (bX.mono dk)).alloc (by omega) _).alloc (by simp;omega) _).grown bD (by simp;omega) (fun k hk=>(Kn.lt k hk).1);clear bD dt;go_wp2_with fail
     go_roundw
     case rel=>exact ⟨j+1,bF,by go_num,Se,by rw [S5.out,jF,dY];exact Ch,df⟩
     case measure=>simp [intOf];omega
   ·have nV:j=ws.length:=by omega
    subst nV;rw [bA] at EC NH;have gj:Hid (PA=ws.map atV/\PO=true):=by
     have hv:=HV.out;rw [NH.out] at hv;exact ⟨hv.1.symm,hv.2.1.symm⟩
    go_wp2_with fail
    go_ret2
    exact ⟨_,by rw [gj.out.2];rfl,dD.trans (But.of hb (by omega)),(hb.block b (by omega)).trans eu,by rw [gj.out.1,bK];exact bO EC Gj⟩
def cU (nf:Nat) (ar:Int) (nl:Nat):Nat->Nat->ByteArray->Option (List Ln)×ByteArray×Nat
 |0,_,r=>(some [],r,0)
 |m+1,j,r=>if gw r && fy nf ar nl j (gE r) then ((cU nf ar nl m (j+1) (dz r)).1.map (gE r::·),(cU nf ar nl m (j+1) (dz r)).2.1,(cU nf ar nl m (j+1) (dz r)).2.2+1) else (none,dz r,1)
def dO (nf:Nat) (m:Bool) (r:ByteArray):Option Tp×ByteArray×Nat:=
 if jX 70 r && iX (jo 70 r) (iK 70 r) m then ((cU nf (jo 70 r) ((iK 70 r).toNat+1) ((iK 70 r).toNat+1) 0 (dz r)).1.map (fun L=>⟨jo 70 r,L⟩),(cU nf (jo 70 r) ((iK 70 r).toNat+1) ((iK 70 r).toNat+1) 0 (dz r)).2.1,(cU nf (jo 70 r) ((iK 70 r).toNat+1) ((iK 70 r).toNat+1) 0 (dz r)).2.2+1) else (none,dz r,1)
theorem j3.old {w w':World} {B:Nat} {lv:Value} {L:List Ln} (h:j3 w B lv L) (hb:Below w.heap.size w w'):j3 w' B lv L:=by
 obtain ⟨vs,h1,h2⟩:=h;exact ⟨vs,aQ h1 hb,h2.old hb (fun _ _ h=>h)⟩
theorem j3.set {w:World} {B k i:Nat} {lv u:Value} {L:List Ln} {cs:Array Value} (h:j3 w B lv L) (hb:w.heap[k]?=some (.cells cs 79 (0,0))):j3 (w.setCell ⟨k,i,none⟩ u) B lv L:=by
 obtain ⟨vs,h1,h2⟩:=h;refine ⟨vs,aB h1 hb (by decide),fun j hj=>?_⟩
 obtain ⟨v,e1,e2,e3⟩:=h2 j hj;exact ⟨v,e1,aB e2 hb (by decide),e3⟩
def Nx (vs:List Value):Prop:=∀(i j:Nat) (u v:Value) (a b:Nat),i<j->vs[i]?=some u->vs[j]?=some v->u.ownBlock=some a->v.ownBlock=some b->a<b
theorem Nx.nil:Nx []:=by intro i j u v a b _ h;simp at h
theorem Nx.snoc {vs:List Value} {x:Value} {T:Nat} (h:Nx vs) (hb:∀u∈vs,∀a,u.ownBlock=some a->a<T) (hx:∀b,x.ownBlock=some b->T<=b):Nx (vs++[x]):=by
 intro i j u v a b xr hi hj ha oT;by_cases dG:j<vs.length
 ·rw [aI (by omega)] at hi;rw [aI dG] at hj;exact h i j u v a b xr hi hj ha oT
 ·have nV:j=vs.length:=by
   have:=(aP.1 hj).1;simp at this;omega
  subst nV;rw [aI (by omega)] at hi;rw [aC (ah _)] at hj;simp at hj;subst hj;have h1:=hb u (bm hi) a ha;have h2:=hx b oT;omega
def fD (w:World) (B:Nat) (lv:Value) (L:List Ln) (vs:List Value):Prop:=w.ownsRow B 100 1 lv L.length vs/\gn w B (fun _=>True) vs L/\Nx vs
theorem fD.lb {w:World} {B:Nat} {lv:Value} {L:List Ln} {vs:List Value} (h:fD w B lv L vs):j3 w B lv L:=⟨vs,h.1,h.2.1⟩
theorem fD.lt {w:World} {B:Nat} {lv:Value} {L:List Ln} {vs:List Value} (h:fD w B lv L vs):∀u∈vs,∀a,u.ownBlock=some a->a<w.heap.size:=by
 intro u hu a ha;obtain ⟨j,hj,rfl⟩:=cl.1 hu;have hl:vs.length=L.length:=by have:=h.1.1;simpa using this
 obtain ⟨v,e1,e2,_⟩:=h.2.1 j (by omega);rw [aj hj] at e1;cases e1
 exact (e2.lt a ha).2
theorem fD.but {b:Nat} {w w':World} {B:Nat} {lv:Value} {L:List Ln} {vs:List Value} {r:ByteArray} {ln:Int} (h:fD w B lv L vs) (hb:But b w w') (hr:iF w b r ln):fD w' B lv L vs:=by
 refine ⟨iO h.1 hb hr (by decide),fun j hj=>?_,h.2.2⟩
 obtain ⟨v,e1,e2,e3⟩:=h.2.1 j hj;exact ⟨v,e1,iO e2 hb hr (by decide),e3⟩
theorem fD.old {w w':World} {B:Nat} {lv:Value} {L:List Ln} {vs:List Value} (h:fD w B lv L vs) (hb:Below w.heap.size w w'):fD w' B lv L vs:=⟨aQ h.1 hb,h.2.1.old hb (fun _ _ h=>h),h.2.2⟩
theorem fD.set {w:World} {B k i:Nat} {lv u:Value} {L:List Ln} {vs:List Value} {cs:Array Value} (h:fD w B lv L vs) (hb:w.heap[k]?=some (.cells cs 79 (0,0))):fD (w.setCell ⟨k,i,none⟩ u) B lv L vs:=by
 refine ⟨aB h.1 hb (by decide),fun j hj=>?_,h.2.2⟩
 obtain ⟨v,e1,e2,e3⟩:=h.2.1 j hj;exact ⟨v,e1,aB e2 hb (by decide),e3⟩
theorem nE {w:World} {B:Nat} {v:Value} {l:Ln} (h:w.ownsRow B 99 2 v l.length (acs l)):eL w w.heap.size v l:=CG (bO h (aF _)) (fun k hk=>(h.lt k hk).2)
theorem od {w:World} {k:Nat} {u v a c:Value} {t:TypeId} (h:w.heap[k]?=some (.cells #[u,v] t (0,0))):(w.setCell ⟨k,0,none⟩ a).cell? ⟨k,0,none⟩=some a/\((w.setCell ⟨k,0,none⟩ a).setCell ⟨k,1,none⟩ c).cell? ⟨k,1,none⟩=some c:=
 ⟨by rw [al _ _ _ _ _ _ (bk _ h)];rfl,by rw [al _ _ _ _ _ _ (bk _ (bk _ h))];rfl⟩
theorem bS {w:World} {k:Nat} {u v:Value} {t:TypeId} (h:w.heap[k]?=some (.cells #[u,v] t (0,0))):w.cell? ⟨k,0,none⟩=some u/\w.cell? ⟨k,1,none⟩=some v/\w.frozen? ⟨k,0,none⟩=false/\w.frozen? ⟨k,1,none⟩=false:=
 ⟨by rw [al w k 0 _ _ _ h];rfl,by rw [al w k 1 _ _ _ h];rfl,aG w k 0 _ _ h,aG w k 1 _ _ h⟩
theorem eK {w:World} {k:Nat} {u v x:Value} {t:TypeId} (h:w.heap[k]?=some (.cells #[u,v,x] t (0,0))):w.cell? ⟨k,0,none⟩=some u/\w.cell? ⟨k,1,none⟩=some v/\w.cell? ⟨k,2,none⟩=some x:=
 ⟨by rw [al w k 0 _ _ _ h];rfl,by rw [al w k 1 _ _ _ h];rfl,by rw [al w k 2 _ _ _ h];rfl⟩
theorem pj {w:World} {base base':Nat} {e:TypeId} {size n:Nat} {v:Value} {xs:List Value} (h:w.ownsRow base e size v n xs) (hb:base'<=base):w.ownsRow base' e size v n xs:=bO h hb
theorem But.keep {b k:Nat} {w w':World} {o:Obj} (h:But b w w') (hk:w.heap[k]?=some o) (hn:k≠b):w'.heap[k]?=some o:=(h.oth k (ae.1 hk).1 hn).trans hk
theorem But.put {b k i:Nat} {w w':World} {v:Value} (h:But b w w') (hb:b<=w.heap.size) (hk:w.heap.size<=k):But b w (w'.setCell ⟨k,i,none⟩ v):=
 ⟨h.bel.setCell (by show b<=k;omega) _,fun j hj hn=>(bi _ (show j≠k by omega)).trans (h.oth j hj hn)⟩
theorem iF.put {b k i:Nat} {w:World} {v:Value} {r:ByteArray} {ln:Int} (h:iF w b r ln) (hk:b≠k):iF (w.setCell ⟨k,i,none⟩ v) b r ln:=(bi _ hk).trans h
theorem iF.old {b:Nat} {w w':World} {r:ByteArray} {ln:Int} (h:iF w b r ln) (hb:Below w.heap.size w w'):iF w' b r ln:=(hb.block b (ae.1 h).1).trans h
def YW (w':World) (B:Nat) (o:Option Tp) (v:Value):Prop:=match o with
 |none=>v=.agg #[.int .i64 0,.slice none 0 0]
 |some t=>∃lv vs,v=.agg #[.int .i64 t.ar,lv]/\fD w' B lv t.ls vs
theorem wg (nf:Nat) (m:Bool) (b:Nat) (r:ByteArray) (ln:Int) (w:World) (h:iF w b r ln) (hr:r.size<=30000) (tt:0<=ln) (kV:ln<=90000):
 Calls Tryz.prog 91 #[.pointer (some ⟨b,0,none⟩),.int .i64 nf,.bool m] w fun e w'=>∃v,e=.returned (.tuple #[v,.bool (dO nf m r).1.isSome])/\But b w w'/\iF w' b (dO nf m r).2.1 (ln+(dO nf m r).2.2)/\YW w' w.heap.size (dO nf m r).1 v:=by
 have iB:b<w.heap.size:=(ae.1 h).1;have Hh:But b w (w.alloc (Obj.cells #[.int .i64 0,.slice none 0 0] 79)):=But.of ((ai _ _).alloc (ah _) _) (by omega);have HC:Hid _:=xT 70 b r ln (w.alloc (Obj.cells #[.int .i64 0,.slice none 0 0] 79)) (h.old ((ai _ _).alloc (ah _) _)) hr tt (by omega);have HR:Hid (dO nf m r=dO nf m r):=rfl;generalize hX:dO nf m r=X;have HX:Hid (dO nf m r=X):=hX;clear hX HR;unfold dO at HX;have Ak:=lF r;obtain ⟨i2,lj,I4,Ca,B9⟩:=bE Tryz.infoLine;generalize jo 70 r=PA at*;generalize iK 70 r=PB at*;generalize dz r=RF at*;cases ew:jX 70 r
 ·rw [ew] at HC HX;have gp:Hid (X=(none,RF,1)):=HX.out.symm;rw [gp.out];clear HX ew;go_enter Tryz.func91,Tryz.ntmps91
  go_wp2_with fail
  refine (show Calls _ _ _ _ _ from HC.out).mono ?_
  rintro e w1 ⟨rfl,dD,eu⟩
  clear HC;have bB:=Hh.trans dD;have mA:=dD.keep (az w _) (by omega);have fH:=bB.size;have yO:w.heap.size<w1.heap.size:=(ae.1 mA).1;obtain ⟨x0,x1,f0,f1⟩:=bS mA;have rA:((w1.setCell ⟨w.heap.size,0,none⟩ (.int .i64 0)).setCell ⟨w.heap.size,1,none⟩ (.slice none 0 0)).heap.size=w1.heap.size:=by simp [World.setCell]
  have xx:=(aO ((w1.setCell ⟨w.heap.size,0,none⟩ (.int .i64 0)).setCell ⟨w.heap.size,1,none⟩ (.slice none 0 0)) (Obj.cells #[.int .i64 nf,.int .i64 PA,.int .i64 PB] 149) w.heap.size (by rw [rA];exact yO)).trans (bk _ (bk _ mA));have IQ:Hid _:=al _ _ 0 _ _ _ xx;have sw:Hid _:=al _ _ 1 _ _ _ xx;clear xx;go_wp2_with fail
  have q0:=IQ.out;have q1:=sw.out;refine aS (v:=.tuple #[.agg #[.int .i64 0,.slice none 0 0],.bool false]) (by simp [results,Tryz.results91,go_sem,q0,q1]) rfl ⟨_,rfl,?_,?_,rfl⟩
  ·exact ((bB.put (by omega) (ah _)).put (by omega) (ah _)).trans (But.of ((ai _ _).alloc (ah _) _) (by rw [rA];omega))
  ·exact ((eu.put (by omega)).put (by omega)).old ((ai _ _).alloc (ah _) _)
 rw [ew] at HC HX;clear ew;cases fZ:iX PA PB m
 ·rw [fZ] at HX;have gp:Hid (X=(none,RF,1)):=HX.out.symm;rw [gp.out];have HM:Hid _:=fun w=>sS nf PA PB m w
  rw [fZ] at HM;clear HX fZ;go_enter Tryz.func91,Tryz.ntmps91
  go_wp2_with fail
  refine (show Calls _ _ _ _ _ from HC.out).mono ?_
  rintro e w1 ⟨rfl,dD,eu⟩
  clear HC;have bB:=Hh.trans dD;have mA:=dD.keep (az w _) (by omega);have fH:=bB.size;have yO:w.heap.size<w1.heap.size:=(ae.1 mA).1;go_wp2_with fail
  refine (show Calls _ _ _ _ _ from HM.out _).mono ?_
  rintro e w2 ⟨rfl,SD⟩
  have bX:Below w1.heap.size w1 w2:=((ai _ _).alloc (ah _) _).trans (SD.mono (by simp));clear HM SD;have AW:=(bX.block _ yO).trans mA;obtain ⟨x0,x1,f0,f1⟩:=bS AW;obtain ⟨q0,q1⟩:=od (a:=.int .i64 0) (c:=.slice none 0 0) AW;go_wp2_with fail
  refine aS (v:=.tuple #[.agg #[.int .i64 0,.slice none 0 0],.bool false]) (by simp [results,Tryz.results91,go_sem,q0,q1]) rfl ⟨_,rfl,?_,?_,rfl⟩
  ·exact ((bB.trans (But.of bX (by omega))).put (by omega) (ah _)).put (by omega) (ah _)
  ·exact ((eu.old bX).put (by omega)).put (by omega)
 rw [fZ] at HX;have HM:Hid _:=fun w=>sS nf PA PB m w
 rw [fZ] at HM;simp only [iX,aN,aL] at fZ;obtain ⟨p1,p2,_,p3,p4⟩:=fZ;obtain ⟨n,rfl⟩:=aZ p3;have Va:n<=12:=by omega
 rw [bC] at HX;have qO:Hid (((cU nf PA (n+1) (n+1) 0 RF).1.map (fun L=>(⟨PA,L⟩:Tp)),(cU nf PA (n+1) (n+1) 0 RF).2.1,(cU nf PA (n+1) (n+1) 0 RF).2.2+1)=X):=by show _=_;have:=HX.out;simpa using this
 clear HX p3 p4;have hRF:RF.size<=30000:=by omega
 generalize hY:cU nf PA (n+1) (n+1) 0 RF=Y at*;have HY:Hid (cU nf PA (n+1) (n+1-0) 0 RF=Y):=hY;clear hY Ak;have Ej:Hid (((n+1:Nat):Int)-1=(n:Int)):=by show _=_;omega
 go_enter Tryz.func91,Tryz.ntmps91
 go_wp2_with fail
 refine (show Calls _ _ _ _ _ from HC.out).mono ?_
 rintro e w1 ⟨rfl,dD,eu⟩
 clear HC;have bB:=Hh.trans dD;have mA:=dD.keep (az w _) (by omega);have fH:=bB.size;have yO:w.heap.size<w1.heap.size:=(ae.1 mA).1;go_wp2_with fail
 refine (show Calls _ _ _ _ _ from HM.out _).mono ?_
 rintro e w2 ⟨rfl,SD⟩
 have Yr:=dx SD;have bX:Below w1.heap.size w1 w2:=((ai _ _).alloc (ah _) _).trans (SD.mono (by simp));clear HM SD;have AW:=(bX.block _ yO).trans mA;have ahX:w1.heap.size<w2.heap.size:=(ae.1 Yr).1;have je:=bB.trans (But.of bX (by omega));have qE:=eu.old bX;clear mA eu dD;obtain ⟨SB,hSB⟩:∃SB,SB=w1.heap.size:=⟨_,rfl⟩;obtain ⟨TB,Hm⟩:∃TB,TB=w2.heap.size:=⟨_,rfl⟩;have AV:w.heap.size<SB:=by omega
 have ahT:SB<TB:=by omega
 rw [<-hSB] at Yr;have qP:Hid ((w2.alloc (Obj.cells #[.int .i64 PA,.slice none 0 0] 79)).heap[TB]?=some (.cells #[.int .i64 PA,.slice none 0 0] 79 (0,0))):=by rw [Hm];exact az w2 _
 have hSw:SB<w2.heap.size:=by omega
 have mZ:TB<=w2.heap.size:=by omega
 go_wp2_with fail
 rw [<-hSB,<-Hm];clear hSB Hm
 go_loopw [13] (fun y wr=>∃(j:Nat) (L:List Ln) (rj:ByteArray) (lv:Value),j<=n+1/\y=.int .i64 j/\Hid (Y=((cU nf PA (n+1) (n+1-j) j rj).1.map (L++·),(cU nf PA (n+1) (n+1-j) j rj).2.1,(cU nf PA (n+1) (n+1-j) j rj).2.2+j))/\Hid (L.length=j)/\rj.size<=30000/\But b w wr/\iF wr b rj (ln+1+j)/\wr.heap[w.heap.size]?=some (.cells #[.int .i64 0,.slice none 0 0] 79 (0,0))/\wr.heap[SB]?=some (.cells #[.int .i64 nf,.int .i64 PA,.int .i64 n] 149 (0,0))/\wr.heap[TB]?=some (.cells #[.int .i64 PA,lv] 79 (0,0))/\∃vs,fD wr (TB+1) lv L vs) (fun y _=>n+2-(intOf y).toNat)
 case atStart=>
  refine ⟨0,[],RF,.slice none 0 0,aF _,rfl,?_,rfl,hRF,je.trans (But.of ((ai _ _).alloc (ah _) _) (by omega)),?_,(aO w2 _ _ (by omega)).trans AW,(aO w2 _ _ (by omega)).trans Yr,qP.out,[],aM _ _ _ _,fun j hj=>by simp at hj,Nx.nil⟩
  ·rw [HY.out];simp [Hid]
  ·have:=qE.old ((ai w2.heap.size w2).alloc (ah _) (Obj.cells #[.int .i64 PA,.slice none 0 0] 79));simpa using this
 case round=>
  clear je qE AW Yr qP HY bX bB;obtain ⟨j,L,rj,lv,hj,rfl,zi,Jp,ZH,kH,eu,hR,hS,zq,vs,KY⟩:=hrel;have dk:=kH.size;have Ww:w.heap.size<wr.heap.size:=(ae.1 hR).1;have hSl:SB<wr.heap.size:=(ae.1 hS).1;have hTl:TB<wr.heap.size:=(ae.1 zq).1;by_cases bF:j<n+1
  ·have iH:(j:Int)<=(n:Int):=by omega
   have HC:Hid _:=C6 b rj (ln+1+j) wr eu ZH (by omega) (by omega);have Ek:Hid (Y=((if gw rj && fy nf PA (n+1) j (gE rj) then ((cU nf PA (n+1) (n-j) (j+1) (dz rj)).1.map (gE rj::·),(cU nf PA (n+1) (n-j) (j+1) (dz rj)).2.1,(cU nf PA (n+1) (n-j) (j+1) (dz rj)).2.2+1) else (none,dz rj,1)).1.map (L++·),(if gw rj && fy nf PA (n+1) j (gE rj) then ((cU nf PA (n+1) (n-j) (j+1) (dz rj)).1.map (gE rj::·),(cU nf PA (n+1) (n-j) (j+1) (dz rj)).2.1,(cU nf PA (n+1) (n-j) (j+1) (dz rj)).2.2+1) else (none,dz rj,1)).2.1,(if gw rj && fy nf PA (n+1) j (gE rj) then ((cU nf PA (n+1) (n-j) (j+1) (dz rj)).1.map (gE rj::·),(cU nf PA (n+1) (n-j) (j+1) (dz rj)).2.1,(cU nf PA (n+1) (n-j) (j+1) (dz rj)).2.2+1) else (none,dz rj,1)).2.2+j)):=by
    have h:=zi.out;rw [show n+1-j=(n-j)+1 by omega] at h;exact h
   have HRS:Hid _:=lF rj;have NE:Hid _:=fun v T w (h1:T<=w.heap.size) (h2:eL w T v (gE rj))=>uQ nf PA (n+1) j (gE rj) v T w h1 h2
   rw [Ej.out] at NE;clear zi;generalize dz rj=RJ at*;generalize gE rj=l at*;have bad:(gw rj && fy nf PA (n+1) j l)=false->Hid (X=(none,RJ,j+1+1)):=fun hf=>by
    show _=_
    have h:=Ek.out;rw [hf] at h;simp only [cm,dc,gG] at h;rw [<-qO.out,h];simp only [gG];rw [Nat.add_comm 1 j]
   have BAD:Hid _:=bad;clear bad;cases ew:gw rj
   ·have gp:=BAD.out (by rw [ew];rfl);rw [ew] at HC;have agB:gw rj=false:=ew;clear ew Ek NE BAD;go_wp2_with fail
    refine (show Calls _ _ _ _ _ from HC.out).mono ?_
    rintro e w3 ⟨v,rfl,dD,wG,et⟩
    clear HC;obtain ⟨vo,vcap,rfl⟩:=aU et;have xx:=dD.keep hR (by omega);obtain ⟨x0,x1,f0,f1⟩:=bS xx;obtain ⟨q0,q1⟩:=od (a:=.int .i64 0) (c:=.slice none 0 0) xx;go_wp2_with fail
    refine aS (v:=.tuple #[.agg #[.int .i64 0,.slice none 0 0],.bool false]) (by simp [results,Tryz.results91,go_sem,q0,q1]) rfl ⟨_,by rw [gp.out];rfl,?_,?_,?_⟩
    ·exact ((kH.trans dD).put (by omega) (ah _)).put (by omega) (ah _)
    ·rw [gp.out];have:=(wG.put (k:=w.heap.size) (i:=0) (v:=.int .i64 0) (by omega)).put (k:=w.heap.size) (i:=1) (v:=.slice none 0 0) (by omega);rw [show ln+((j+1+1:Nat):Int)=ln+1+(j:Int)+1 by omega];exact this
    ·rw [gp.out];exact rfl
   ·rw [ew] at HC Ek BAD;clear ew;cases qH:fy nf PA (n+1) j l
    ·have gp:=BAD.out (by rw [qH];rfl);rw [qH] at NE;clear Ek BAD qH;go_wp2_with fail
     refine (show Calls _ _ _ _ _ from HC.out).mono ?_
     rintro e w3 ⟨v,rfl,dD,wG,et⟩
     clear HC;have EU:Hid _:=NE.out v w3.heap.size w3 (ah _) (nE et);obtain ⟨vo,vcap,rfl⟩:=aU et;have xx:=dD.keep hR (by omega);have Q7:=dD.keep hS (by omega);obtain ⟨y0,y1,y2⟩:=eK Q7;have rA:=dD.size;clear NE;go_wp2_with fail
     refine (show Calls _ _ _ _ _ from EU.out).mono ?_
     rintro e w4 ⟨rfl,dU⟩
     clear EU y0 y1 y2;have si:=(dU.block _ (by omega)).trans xx;obtain ⟨x0,x1,f0,f1⟩:=bS si;obtain ⟨q0,q1⟩:=od (a:=.int .i64 0) (c:=.slice none 0 0) si;go_wp2_with fail
     refine aS (v:=.tuple #[.agg #[.int .i64 0,.slice none 0 0],.bool false]) (by simp [results,Tryz.results91,go_sem,q0,q1]) rfl ⟨_,by rw [gp.out];rfl,?_,?_,?_⟩
     ·exact (((kH.trans dD).trans (But.of dU (by omega))).put (by omega) (ah _)).put (by omega) (ah _)
     ·rw [gp.out];have:=((wG.old dU).put (k:=w.heap.size) (i:=0) (v:=.int .i64 0) (by omega)).put (k:=w.heap.size) (i:=1) (v:=.slice none 0 0) (by omega);rw [show ln+((j+1+1:Nat):Int)=ln+1+(j:Int)+1 by omega];exact this
     ·rw [gp.out];exact rfl
    ·have acS:Hid (Y=((cU nf PA (n+1) (n+1-(j+1)) (j+1) RJ).1.map ((L++[l])++·),(cU nf PA (n+1) (n+1-(j+1)) (j+1) RJ).2.1,(cU nf PA (n+1) (n+1-(j+1)) (j+1) RJ).2.2+(j+1))):=by
      show _=_
      have h:=Ek.out;rw [qH] at h;simp only [Bool.and_self,cQ,Option.map_map] at h;rw [h,show n+1-(j+1)=n-j by omega];congr 1
      ·congr 1
       funext M
       simp
      ·congr 1
       omega
     rw [qH] at NE;clear Ek BAD qH;go_wp2_with fail
     refine (show Calls _ _ _ _ _ from HC.out).mono ?_
     rintro e w3 ⟨v,rfl,dD,wG,et⟩
     clear HC;have EU:Hid _:=NE.out v w3.heap.size w3 (ah _) (nE et);obtain ⟨vo,vcap,rfl⟩:=aU et;have xx:=dD.keep hR (by omega);have Q7:=dD.keep hS (by omega);have xw:=dD.keep zq (by omega);have abJ:=KY.but dD eu;obtain ⟨y0,y1,y2⟩:=eK Q7;have rA:=dD.size;clear NE;go_wp2_with fail
     refine (show Calls _ _ _ _ _ from EU.out).mono ?_
     rintro e w4 ⟨rfl,dU⟩
     clear EU y0 y1 y2;have si:=(dU.block _ (by omega)).trans xx;have Q6:=(dU.block _ (by omega)).trans Q7;have tJ:=(dU.block _ (by omega)).trans xw;have Kk:=wG.old dU;have Zp:=aQ et dU;have Zm:=KY.lt;obtain ⟨li,Ps,aap⟩:=abJ.old dU;have qD:=dU.size;obtain ⟨t0,t1,_,ft1⟩:=bS tJ;obtain ⟨lo,lcap,rfl⟩:=aU li;have hLl:L.length<=20:=by have:=Jp.out;omega
     go_wp2_with (at_builtin;go_must (refine wpList_append_lies _ rfl _ _ _ rfl (TB+1) 100 i2 _ 1 24 Tryz.underlying56 lj I4 Ca B9 rfl (by omega) (.slice lo L.length lcap) L.length vs rfl ?hown _ 1 _ [.slice vo l.length vcap] rfl rfl ?dA ?h1 (by omega) ?kj ?cP ?cX _ rfl ?_))
     case hown=>exact li.alloc _
     case dA=>exact World.news_of_block (az w4 _)
     case h1=>simp [Value.oneCell']
     case kj=>unfold maxLen;omega
     case cP=>omega
     case cX=>simp;omega
     intro g cap2 w5 fd co kZ nL;have K4:Below w4.heap.size w4 (w4.alloc (Obj.cells #[.slice vo l.length vcap] 100)):=(ai _ _).alloc (ah _) _;have hR5:=br (li.alloc _) co (by decide) ((K4.block _ (by omega)).trans si);have Jl:=br (li.alloc _) co (by decide) ((K4.block _ (by omega)).trans Q6);have DJ:=br (li.alloc _) co (by decide) ((K4.block _ (by omega)).trans tJ);have Px:iF w5 b RJ (ln+1+j+1):=br (li.alloc _) co (by decide) ((K4.block b (by omega)).trans Kk);have yK:But b w w5:=(((kH.trans dD).trans (But.of dU (by omega))).trans (But.of K4 (by omega))).grown (li.alloc _) co (by omega) (by omega);have Rb:fD w5 (TB+1) (.slice (some ⟨g,0,none⟩) (L.length+1) cap2) (L++[l]) (vs++[.slice vo l.length vcap]):=by
      refine ⟨by rw [au];exact fd,gn.app (by have:=li.1;simpa using this) ((Ps.old K4 (fun _ _ h=>h)).type (li.alloc _) co (fun _ h=>h)) ?_,aap.snoc Zm (fun b hb=>(et.lt b hb).1)⟩
      intro q hq;have Sm:q=0:=by simpa using hq
      subst Sm;exact ⟨_,rfl,aY (li.alloc _) co (by decide) ((pj Zp (by omega)).alloc _),fun _ _=>trivial⟩
     obtain ⟨z0,z1,_,fz1⟩:=bS DJ;clear co kZ t0 t1 ft1;go_wp2_with fail
     go_roundw
     case rel=>
      refine ⟨j+1,L++[l],RJ,_,bF,by go_num,acS,by have:=Jp.out;simp [Hid,this],by have:=HRS.out;omega,yK.put (by omega) (by omega),?_,(bi _ (by omega)).trans hR5,(bi _ (by omega)).trans Jl,bk _ DJ,_,Rb.set DJ⟩
      have:=Px.put (k:=TB) (i:=1) (v:=.slice (some ⟨g,0,none⟩) (L.length+1) cap2) (by omega);rw [show ln+1+((j+1:Nat):Int)=ln+1+(j:Int)+1 by omega];exact this
     case measure=>simp [intOf];omega
  ·have nV:j=n+1:=by omega
   have iH:¬(j:Int)<=(n:Int):=by omega
   have gp:Hid (X=(some ⟨PA,L⟩,rj,n+1+1)):=by
    show _=_
    have h:=zi.out;rw [nV,ct] at h;simp only [cU,gF,cA,cr] at h;rw [<-qO.out,h];rfl
   obtain ⟨x0,x1,f0,f1⟩:=bS hR;obtain ⟨t0,t1,_,_⟩:=bS zq;obtain ⟨lo,lcap,mx⟩:∃a c,lv=.slice a L.length c:=by obtain ⟨h1,_⟩:=KY;obtain ⟨a,c,e⟩:=aU h1;exact ⟨a,c,e⟩
   subst mx;obtain ⟨q0,q1⟩:=od (a:=.int .i64 PA) (c:=.slice lo L.length lcap) hR;have dI:TB≠w.heap.size:=by omega
   go_wp2_with fail
   refine aS (v:=.tuple #[.agg #[.int .i64 PA,.slice lo L.length lcap],.bool true]) (by simp [results,Tryz.results91,go_sem,q0,q1]) rfl ⟨_,by rw [gp.out];rfl,?_,?_,?_⟩
   ·exact (kH.put (by omega) (ah _)).put (by omega) (ah _)
   ·rw [gp.out];have:=(eu.put (k:=w.heap.size) (i:=0) (v:=.int .i64 PA) (by omega)).put (k:=w.heap.size) (i:=1) (v:=.slice lo L.length lcap) (by omega);rw [show ln+((n+1+1:Nat):Int)=ln+1+(j:Int) by omega];exact this
   ·rw [gp.out];refine ⟨_,vs,rfl,?_⟩
    obtain ⟨e1,e2,e3⟩:=(KY.set hR).set (bk _ hR);exact ⟨bO e1 (by omega),fun q hq=>by obtain ⟨v,a1,a2,a3⟩:=e2 q hq;exact ⟨v,a1,bO a2 (by omega),a3⟩,e3⟩
end Go.Proofs.YtnndoagpbcacdabGreatDoor
