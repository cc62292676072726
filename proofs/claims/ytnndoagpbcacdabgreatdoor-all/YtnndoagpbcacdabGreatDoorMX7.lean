import Derived.Test.YtnndoagpbcacdabGreatDoorMX4
import Derived.Test.YtnndoagpbcacdabGreatDoorMM12
namespace Go.Proofs.YtnndoagpbcacdabGreatDoor
set_option maxHeartbeats 8000000
set_option maxRecDepth 100000
open Go.RowKit
def ey (nf:Nat) (mn:Int):Nat->Nat->ByteArray->Option (List Tp)×ByteArray×Nat
 |0,_,r=>(some [],r,0)
 |m+1,j,r=>match (dO nf ((j:Int)==mn) r).1 with
  |none=>(none,(dO nf ((j:Int)==mn) r).2)
  |some t=>((ey nf mn m (j+1) (dO nf ((j:Int)==mn) r).2.1).1.map (t::·),(ey nf mn m (j+1) (dO nf ((j:Int)==mn) r).2.1).2.1,(ey nf mn m (j+1) (dO nf ((j:Int)==mn) r).2.1).2.2+(dO nf ((j:Int)==mn) r).2.2)
def iC (r:ByteArray):Option Cd×Nat:=
 if jX 77 r && gg (jo 77 r) (iK 77 r) then
  match (ey (iK 77 r).toNat (jo 77 r) (iK 77 r).toNat 0 (dz r)).1 with
  |none=>(none,(ey (iK 77 r).toNat (jo 77 r) (iK 77 r).toNat 0 (dz r)).2.2+1)
  |some F=>(if (ey (iK 77 r).toNat (jo 77 r) (iK 77 r).toNat 0 (dz r)).2.1.size=0 then some ⟨jo 77 r,F⟩ else none,(ey (iK 77 r).toNat (jo 77 r) (iK 77 r).toNat 0 (dz r)).2.2+2)
 else (none,1)
theorem eg.but {b T:Nat} {w w':World} {lv:Value} {L:List Ln} {r:ByteArray} {ln:Int} (h:eg w T lv L) (hb:But b w w') (hr:iF w b r ln):eg w' T lv L:=by
 obtain ⟨vs,h1,h2,h3⟩:=h;refine ⟨vs,iO h1 hb hr (by decide),h2,fun j hj=>?_⟩
 obtain ⟨v,e1,e2,e3⟩:=h3 j hj;exact ⟨v,e1,iO e2 hb hr (by decide),e3⟩
theorem iy.but {b T:Nat} {w w':World} {r:ByteArray} {ln:Int} (hb:But b w w') (hr:iF w b r ln):∀{F:List Tp} {xs:List Value},iy w T F xs->iy w' T F xs
 |[],_,h=>h
 |_::_,_,⟨lv,ys,h1,h2,h3⟩=>⟨lv,ys,h1,h2.but hb hr,iy.but hb hr h3⟩
def gR (w:World) (fv:Value) (F:List Tp):Prop:=∃ys,w.ownsRow 0 79 2 fv F.length ys/\iy w w.heap.size F ys
theorem gR.rd {w:World} {fv:Value} {F:List Tp} (h:gR w fv F):dS w w.heap.size fv F:=by
 obtain ⟨ys,h1,h2⟩:=h;exact iy.rd h1 (fun k hk=>(h1.lt k hk).2) h2
theorem gR.set {w:World} {fv u:Value} {F:List Tp} {b i:Nat} {cs:Array Value} (h:gR w fv F) (hb:w.heap[b]?=some (.cells cs 63 (0,0))):gR (w.setCell ⟨b,i,none⟩ u) fv F:=by
 obtain ⟨ys,h1,h2⟩:=h;refine ⟨ys,aB h1 hb (by decide),?_⟩
 have e:(w.setCell ⟨b,i,none⟩ u).heap.size=w.heap.size:=by simp [World.setCell]
 rw [e];exact iy.set hb h2
theorem gR.old {w w':World} {fv:Value} {F:List Tp} (h:gR w fv F) (hb:Below w.heap.size w w'):gR w' fv F:=by
 obtain ⟨ys,h1,h2⟩:=h;exact ⟨ys,aQ h1 hb,(h2.keep hb).up hb.size⟩
def FuI (w:World):Nat->List Tp->List Value->Nat->Prop
 |lo,[],xs,hi=>xs=[]/\lo<=hi
 |lo,t::r,xs,hi=>∃lv ys vs mid,xs=.int .i64 t.ar::lv::ys/\fD w lo lv t.ls vs/\(∀k,lv.ownBlock=some k->k<mid)/\(∀u∈vs,∀k,u.ownBlock=some k->k<mid)/\lo<=mid/\FuI w mid r ys hi
theorem fD.base {w:World} {B B':Nat} {lv:Value} {L:List Ln} {vs:List Value} (h:fD w B lv L vs) (hB:B'<=B):fD w B' lv L vs:=
 ⟨bO h.1 hB,fun j hj=>by obtain ⟨v,e1,e2,e3⟩:=h.2.1 j hj;exact ⟨v,e1,bO e2 hB,e3⟩,h.2.2⟩
theorem fD.type {w w':World} {B base size n:Nat} {lv v0:Value} {L:List Ln} {vs xs0:List Value} (hr:w.ownsRow base 79 size v0 n xs0) (hg:w.grownBy w' v0.ownBlock) (h:fD w B lv L vs):fD w' B lv L vs:=
 ⟨aY hr hg (by decide) h.1,fun j hj=>by obtain ⟨v,e1,e2,e3⟩:=h.2.1 j hj;exact ⟨v,e1,aY hr hg (by decide) e2,e3⟩,h.2.2⟩
theorem fD.setC {w:World} {B k i:Nat} {lv u:Value} {L:List Ln} {vs:List Value} {cs:Array Value} (h:fD w B lv L vs) (hb:w.heap[k]?=some (.cells cs 63 (0,0))):fD (w.setCell ⟨k,i,none⟩ u) B lv L vs:=
 ⟨aB h.1 hb (by decide),fun j hj=>by obtain ⟨v,e1,e2,e3⟩:=h.2.1 j hj;exact ⟨v,e1,aB e2 hb (by decide),e3⟩,h.2.2⟩
theorem FuI.map {w w':World} (f:∀{B lv L vs},fD w B lv L vs->fD w' B lv L vs):∀{F:List Tp} {lo hi:Nat} {xs:List Value},FuI w lo F xs hi->FuI w' lo F xs hi
 |[],_,_,_,h=>h
 |_::_,_,_,_,⟨lv,ys,vs,mid,h1,h2,h3,h4,h5,h6⟩=>⟨lv,ys,vs,mid,h1,f h2,h3,h4,h5,FuI.map f h6⟩
theorem FuI.up {w:World}:∀{F:List Tp} {lo hi pL:Nat} {xs:List Value},FuI w lo F xs hi->hi<=pL->FuI w lo F xs pL
 |[],_,_,_,_,h,hh=>⟨h.1,aJ h.2 hh⟩
 |_::_,_,_,_,_,⟨lv,ys,vs,mid,h1,h2,h3,h4,h5,h6⟩,hh=>⟨lv,ys,vs,mid,h1,h2,h3,h4,h5,FuI.up h6 hh⟩
theorem FuI.snoc {w:World} {t:Tp} {lv:Value} {vs:List Value} {hi pL:Nat} (ht:fD w hi lv t.ls vs) (h1:∀k,lv.ownBlock=some k->k<pL) (h2:∀u∈vs,∀k,u.ownBlock=some k->k<pL) (hh:hi<=pL):∀{F:List Tp} {lo:Nat} {xs:List Value},FuI w lo F xs hi->FuI w lo (F++[t]) (xs++[.int .i64 t.ar,lv]) pL
 |[],lo,xs,h=>by rw [h.1];exact ⟨lv,[],vs,pL,rfl,ht.base h.2,h1,h2,aJ h.2 hh,rfl,ah _⟩
 |_::_,_,_,⟨l,ys,us,mid,g1,g2,g3,g4,g5,g6⟩=>⟨l,ys++[.int .i64 t.ar,lv],us,mid,by rw [g1];simp,g2,g3,g4,g5,FuI.snoc ht h1 h2 hh g6⟩
def nj (w:World) (B:Nat) (fv:Value) (F:List Tp):Prop:=∃ys,w.ownsRow B 79 2 fv F.length ys/\FuI w B F ys w.heap.size
theorem nj.set {w:World} {B:Nat} {fv u:Value} {F:List Tp} {b i:Nat} {cs:Array Value} (h:nj w B fv F) (hb:w.heap[b]?=some (.cells cs 63 (0,0))):nj (w.setCell ⟨b,i,none⟩ u) B fv F:=by
 obtain ⟨ys,h1,h2⟩:=h;have e:(w.setCell ⟨b,i,none⟩ u).heap.size=w.heap.size:=by simp [World.setCell]
 refine ⟨ys,aB h1 hb (by decide),?_⟩
 rw [e];exact h2.map (fun h=>h.setC hb)
theorem nj.old {w w':World} {B:Nat} {fv:Value} {F:List Tp} (h:nj w B fv F) (hb:Below w.heap.size w w'):nj w' B fv F:=by
 obtain ⟨ys,h1,h2⟩:=h;exact ⟨ys,aQ h1 hb,(h2.map (fun h=>h.old hb)).up hb.size⟩
theorem FuI.base {w:World}:∀{F:List Tp} {lo lo' hi:Nat} {xs:List Value},FuI w lo F xs hi->lo'<=lo->FuI w lo' F xs hi
 |[],_,_,_,_,h,hh=>⟨h.1,aJ hh h.2⟩
 |_::_,_,_,_,_,⟨lv,ys,vs,mid,h1,h2,h3,h4,h5,h6⟩,hh=>⟨lv,ys,vs,mid,h1,h2.base hh,h3,h4,aJ hh h5,h6⟩
theorem nj.base {w:World} {B B':Nat} {fv:Value} {F:List Tp} (h:nj w B fv F) (hB:B'<=B):nj w B' fv F:=by
 obtain ⟨ys,h1,h2⟩:=h;exact ⟨ys,bO h1 hB,h2.base hB⟩
theorem CV (nf:Nat) (m:Bool) (r:ByteArray):(dO nf m r).2.1.size<=r.size/\(dO nf m r).2.2<=20:=by
 have hl:∀(ar:Int) (nl k j:Nat) (r:ByteArray),(cU nf ar nl k j r).2.1.size<=r.size/\(cU nf ar nl k j r).2.2<=k:=by
  intro ar nl k;induction k with
  |zero=>intro j r;exact ⟨ah _,ah _⟩
  |succ k ih=>
   intro j r;have h1:=lF r;have h2:=ih (j+1) (dz r);unfold cU;split
   ·exact ⟨aJ h2.1 h1,Nat.succ_le_succ h2.2⟩
   ·exact ⟨h1,by simp⟩
 have h1:=lF r;unfold dO;split
 ·rename_i hc;have h2:=hl (jo 70 r) ((iK 70 r).toNat+1) ((iK 70 r).toNat+1) 0 (dz r);simp only [aN,iX,aL] at hc;exact ⟨aJ h2.1 h1,by have:=h2.2;simp only;omega⟩
 ·exact ⟨h1,by simp⟩
theorem FO (b:Nat) (r:ByteArray) (w:World) (h:iF w b r 0) (hr:r.size<=30000):
 Calls Tryz.prog 55 #[.pointer (some ⟨b,0,none⟩)] w fun e w'=>∃mn fv,e=.returned (.tuple #[.agg #[.int .i64 mn,fv],.bool (iC r).1.isSome])/\But b w w'/\(∃r2,iF w' b r2 (iC r).2)/\(∃fo fl fc,fv=.slice fo fl fc)/\∀c,(iC r).1=some c->mn=c.mn/\gR w' fv c.fs/\nj w' w.heap.size fv c.fs:=by
 have iB:b<w.heap.size:=(ae.1 h).1;have Hh:But b w (w.alloc (Obj.cells #[.int .i64 0,.slice none 0 0] 63)):=But.of ((ai _ _).alloc (ah _) _) (by omega);have HC:Hid _:=xT 77 b r 0 (w.alloc (Obj.cells #[.int .i64 0,.slice none 0 0] 63)) (h.old ((ai _ _).alloc (ah _) _)) hr (by omega) (by omega);generalize hX:iC r=X;have HX:Hid (iC r=X):=hX;clear hX;unfold iC at HX;have Ak:=lF r;obtain ⟨i,hi,fp,dQ,eF⟩:=bE Tryz.infoTemplate;generalize jo 77 r=PA at*;generalize iK 77 r=PB at*;generalize dz r=RF at*;cases ew:jX 77 r
 ·rw [ew] at HC HX;have gp:Hid (X=(none,1)):=HX.out.symm;rw [gp.out];clear HX ew;go_enter Tryz.func55,Tryz.ntmps55
  go_wp2_with fail
  refine (show Calls _ _ _ _ _ from HC.out).mono ?_
  rintro e w1 ⟨rfl,dD,eu⟩
  clear HC;have bB:=Hh.trans dD;have mA:=dD.keep (az w _) (by omega);have yO:w.heap.size<w1.heap.size:=(ae.1 mA).1;obtain ⟨x0,x1,f0,f1⟩:=bS mA;obtain ⟨q0,q1⟩:=od (a:=.int .i64 0) (c:=.slice none 0 0) mA;go_wp2_with fail
  refine aS (v:=.tuple #[.agg #[.int .i64 0,.slice none 0 0],.bool false]) (by simp [results,Tryz.results55,go_sem,q0,q1]) rfl ⟨0,_,rfl,?_,⟨RF,?_⟩,⟨_,_,_,rfl⟩,fun c hc=>by simp at hc⟩
  ·exact (bB.put (by omega) (ah _)).put (by omega) (ah _)
  ·exact (eu.put (by omega)).put (by omega)
 rw [ew] at HC HX;clear ew;have HM:Hid _:=fun w=>sU PA PB w
 cases fZ:gg PA PB
 ·rw [fZ] at HX HM;have gp:Hid (X=(none,1)):=HX.out.symm;rw [gp.out];clear HX fZ;go_enter Tryz.func55,Tryz.ntmps55
  go_wp2_with fail
  refine (show Calls _ _ _ _ _ from HC.out).mono ?_
  rintro e w1 ⟨rfl,dD,eu⟩
  clear HC;have bB:=Hh.trans dD;have mA:=dD.keep (az w _) (by omega);have yO:w.heap.size<w1.heap.size:=(ae.1 mA).1;obtain ⟨x0,x1,f0,f1⟩:=bS mA;obtain ⟨q0,q1⟩:=od (a:=.int .i64 0) (c:=.slice none 0 0) mA;go_wp2_with fail
  refine (show Calls _ _ _ _ _ from HM.out _).mono ?_
  rintro e w2 ⟨rfl,rfl⟩
  go_wp2_with fail
  refine aS (v:=.tuple #[.agg #[.int .i64 0,.slice none 0 0],.bool false]) (by simp [results,Tryz.results55,go_sem,q0,q1]) rfl ⟨0,_,rfl,?_,⟨RF,?_⟩,⟨_,_,_,rfl⟩,fun c hc=>by simp at hc⟩
  ·exact (bB.put (by omega) (ah _)).put (by omega) (ah _)
  ·exact (eu.put (by omega)).put (by omega)
 rw [fZ] at HX HM;simp only [gg,aN,aL] at fZ;obtain ⟨p1,p2,p3,p4⟩:=fZ;obtain ⟨n,rfl⟩:=aZ (show 0<=PB by omega);have U9:n<=16:=by omega
 rw [bC] at HX;have hRF:RF.size<=30000:=by omega
 have qO:Hid ((match (ey n PA n 0 RF).1 with
  |none=>(none,(ey n PA n 0 RF).2.2+1)
  |some F=>(if (ey n PA n 0 RF).2.1.size=0 then some (⟨PA,F⟩:Cd) else none,(ey n PA n 0 RF).2.2+2))=X):=by show _=_;have:=HX.out;simpa using this
 clear HX;generalize hY:ey n PA n 0 RF=Y at*;have HY:Hid (ey n PA (n-0) 0 RF=Y):=hY;clear hY Ak p1 p2;go_enter Tryz.func55,Tryz.ntmps55
 go_wp2_with fail
 refine (show Calls _ _ _ _ _ from HC.out).mono ?_
 rintro e w1 ⟨rfl,dD,eu⟩
 clear HC;have bB:=Hh.trans dD;have mA:=dD.keep (az w _) (by omega);have yO:w.heap.size<w1.heap.size:=(ae.1 mA).1;go_wp2_with fail
 refine (show Calls _ _ _ _ _ from HM.out _).mono ?_
 rintro e w2 ⟨rfl,rfl⟩
 clear HM dD;obtain ⟨CB,Rc⟩:∃CB,CB=w2.heap.size:=⟨_,rfl⟩;have hCl:w.heap.size<CB:=by omega
 have hCw:CB<=w2.heap.size:=by omega
 have qP:Hid ((w2.alloc (Obj.cells #[.int .i64 PA,.slice none 0 0] 63)).heap[CB]?=some (.cells #[.int .i64 PA,.slice none 0 0] 63 (0,0))):=by rw [Rc];exact az w2 _
 have ju:Hid (CB<(w2.alloc (Obj.cells #[.int .i64 PA,.slice none 0 0] 63)).heap.size):=by simp [Hid];omega
 go_wp2_with fail
 rw [<-Rc];clear Rc
 go_loopw [8] (fun y wr=>∃(j:Nat) (F:List Tp) (rj:ByteArray) (c:Nat) (fv:Value) (ys:List Value) (T:Nat),j<=n/\y=.int .i64 j/\Hid (Y=((ey n PA (n-j) j rj).1.map (F++·),(ey n PA (n-j) j rj).2.1,(ey n PA (n-j) j rj).2.2+c))/\Hid (F.length=j)/\rj.size<=30000/\c<=20*j/\But b w wr/\iF wr b rj (1+c)/\wr.heap[w.heap.size]?=some (.cells #[.int .i64 0,.slice none 0 0] 63 (0,0))/\wr.heap[CB]?=some (.cells #[.int .i64 PA,fv] 63 (0,0))/\wr.ownsRow (CB+1) 79 2 fv F.length ys/\CB<T/\T<=wr.heap.size/\iy wr T F ys/\FuI wr (CB+1) F ys T) (fun y _=>n-(intOf y).toNat)
 case atStart=>
  refine ⟨0,[],RF,0,.slice none 0 0,[],CB+1,aF _,rfl,?_,rfl,hRF,by omega,bB.trans (But.of ((ai _ _).alloc (ah _) _) (by omega)),?_,(aO w2 _ _ (by omega)).trans mA,qP.out,aM _ _ _ _,by omega,ju.out,rfl,rfl,ah _⟩
  ·rw [HY.out];simp [Hid]
  ·have:=eu.old ((ai w2.heap.size w2).alloc (ah _) (Obj.cells #[.int .i64 PA,.slice none 0 0] 63));simpa using this
 case round=>
  clear eu mA qP ju HY bB;obtain ⟨j,F,rj,cn,fv,ys,T,hj,rfl,qn,XD,ZH,DA,kH,eu,hR,DK,bW,abt,AU,pN,Jg⟩:=hrel;have dk:=kH.size;have Ww:w.heap.size<wr.heap.size:=(ae.1 hR).1;have aih:CB<wr.heap.size:=(ae.1 DK).1;by_cases bF:j<n
  ·have HC:Hid _:=wg n ((j:Int)==PA) b rj (1+cn) wr eu ZH (by omega) (by omega);have L4:Hid (Y=((match (dO n ((j:Int)==PA) rj).1 with
    |none=>(none,(dO n ((j:Int)==PA) rj).2)
    |some t=>((ey n PA (n-(j+1)) (j+1) (dO n ((j:Int)==PA) rj).2.1).1.map (t::·),(ey n PA (n-(j+1)) (j+1) (dO n ((j:Int)==PA) rj).2.1).2.1,(ey n PA (n-(j+1)) (j+1) (dO n ((j:Int)==PA) rj).2.1).2.2+(dO n ((j:Int)==PA) rj).2.2):Option (List Tp)×ByteArray×Nat).1.map (F++·),(match (dO n ((j:Int)==PA) rj).1 with
    |none=>(none,(dO n ((j:Int)==PA) rj).2)
    |some t=>((ey n PA (n-(j+1)) (j+1) (dO n ((j:Int)==PA) rj).2.1).1.map (t::·),(ey n PA (n-(j+1)) (j+1) (dO n ((j:Int)==PA) rj).2.1).2.1,(ey n PA (n-(j+1)) (j+1) (dO n ((j:Int)==PA) rj).2.1).2.2+(dO n ((j:Int)==PA) rj).2.2):Option (List Tp)×ByteArray×Nat).2.1,(match (dO n ((j:Int)==PA) rj).1 with
    |none=>(none,(dO n ((j:Int)==PA) rj).2)
    |some t=>((ey n PA (n-(j+1)) (j+1) (dO n ((j:Int)==PA) rj).2.1).1.map (t::·),(ey n PA (n-(j+1)) (j+1) (dO n ((j:Int)==PA) rj).2.1).2.1,(ey n PA (n-(j+1)) (j+1) (dO n ((j:Int)==PA) rj).2.1).2.2+(dO n ((j:Int)==PA) rj).2.2):Option (List Tp)×ByteArray×Nat).2.2+cn)):=by
    have h:=qn.out;rw [show n-j=(n-(j+1))+1 by omega] at h;exact h
   clear qn;cases hT:(dO n ((j:Int)==PA) rj).1 with
   |none=>
    have gp:Hid (X=(none,(dO n ((j:Int)==PA) rj).2.2+cn+1)):=by
     show _=_
     have h:=L4.out;rw [hT] at h;simp only [gG] at h;rw [<-qO.out,h]
    rw [hT] at HC;clear L4;generalize (dO n ((j:Int)==PA) rj).2.2=tc at*;generalize (dO n ((j:Int)==PA) rj).2.1=tr at*;go_wp2_with fail
    refine (show Calls _ _ _ _ _ from HC.out).mono ?_
    rintro e w3 ⟨v,rfl,dD,wG,hv⟩
    clear HC;have pD:v=.agg #[.int .i64 0,.slice none 0 0]:=hv;subst pD;clear hv;have xx:=dD.keep hR (by omega);have rA:=dD.size;have ahY:w.heap.size<w3.heap.size:=by omega
    have qD:((w3.setCell ⟨w.heap.size,0,none⟩ (.int .i64 0)).setCell ⟨w.heap.size,1,none⟩ (.slice none 0 0)).heap.size=w3.heap.size:=by simp [World.setCell]
    have si:=(aO ((w3.setCell ⟨w.heap.size,0,none⟩ (.int .i64 0)).setCell ⟨w.heap.size,1,none⟩ (.slice none 0 0)) (Obj.cells #[.int .i64 0,.slice none 0 0] 79) w.heap.size (by rw [qD];omega)).trans (bk _ (bk _ xx));have IQ:Hid _:=al _ _ 0 _ _ _ si;have sw:Hid _:=al _ _ 1 _ _ _ si;obtain ⟨x0,x1,f0,f1⟩:=bS xx;clear si;go_wp2_with fail
    have q0:=IQ.out;have q1:=sw.out;refine aS (v:=.tuple #[.agg #[.int .i64 0,.slice none 0 0],.bool false]) (by simp [results,Tryz.results55,go_sem,q0,q1]) rfl ⟨0,_,by rw [gp.out];rfl,?_,⟨tr,?_⟩,⟨_,_,_,rfl⟩,fun c hc=>by rw [gp.out] at hc;simp at hc⟩
    ·exact (((kH.trans dD).put (by omega) (ah _)).put (by omega) (ah _)).trans (But.of ((ai _ _).alloc (ah _) _) (by rw [qD];omega))
    ·rw [gp.out];have:=((wG.put (k:=w.heap.size) (i:=0) (v:=.int .i64 0) (by omega)).put (k:=w.heap.size) (i:=1) (v:=.slice none 0 0) (by omega)).old ((ai _ _).alloc (ah _) (Obj.cells #[.int .i64 0,.slice none 0 0] 79));rw [show ((tc+cn+1:Nat):Int)=1+(cn:Int)+(tc:Int) by omega];exact this
   |some t=>
    have ac7:Hid (Y=((ey n PA (n-(j+1)) (j+1) (dO n ((j:Int)==PA) rj).2.1).1.map ((F++[t])++·),(ey n PA (n-(j+1)) (j+1) (dO n ((j:Int)==PA) rj).2.1).2.1,(ey n PA (n-(j+1)) (j+1) (dO n ((j:Int)==PA) rj).2.1).2.2+(cn+(dO n ((j:Int)==PA) rj).2.2))):=by
     show _=_
     have h:=L4.out;rw [hT] at h;simp only [Option.map_map] at h;rw [h];congr 1
     ·congr 1
      funext M
      simp
     ·congr 1
      omega
    rw [hT] at HC;have MM:=CV n ((j:Int)==PA) rj;clear L4;generalize (dO n ((j:Int)==PA) rj).2.2=tc at*;generalize (dO n ((j:Int)==PA) rj).2.1=tr at*;go_wp2_with fail
    refine (show Calls _ _ _ _ _ from HC.out).mono ?_
    rintro e w3 ⟨v,rfl,dD,wG,hv⟩
    clear HC;obtain ⟨lv,vsI,pD,mx⟩:∃lv vs,v=.agg #[.int .i64 t.ar,lv]/\fD w3 wr.heap.size lv t.ls vs:=hv;have ur:=mx.lb;subst pD;have Ez:=ur.ow;obtain ⟨lo3,lc3,tm⟩:∃a c,lv=.slice a t.ls.length c:=by obtain ⟨vs,h1,_⟩:=Ez;obtain ⟨a,c,e⟩:=aU h1;exact ⟨a,c,e⟩
    subst tm;have xx:=dD.keep hR (by omega);have hC3:=dD.keep DK (by omega);have rA:=dD.size;have aig:CB<w3.heap.size:=by omega
    have qV:=iO bW dD eu (by decide);have aaA:=(iy.but dD eu pN).up (aJ AU rA);obtain ⟨t0,t1,_,ft1⟩:=bS hC3;obtain ⟨fo,fcap,rfl⟩:=aU qV;have Cp:F.length<=16:=by have:=XD.out;omega
    have AY:Below w3.heap.size w3 ((w3.alloc (Obj.cells #[.int .i64 t.ar,.slice lo3 t.ls.length lc3] 79)).alloc (Obj.cells #[.int .i64 t.ar,.slice lo3 t.ls.length lc3] 79)):=((ai _ _).alloc (ah _) _).alloc (by simp) _;go_wp2_with (at_builtin;go_must (refine wpList_append_lies _ rfl _ _ _ rfl (CB+1) 79 i _ 2 32 Tryz.underlying61 hi fp dQ eF rfl (by omega) (.slice fo F.length fcap) F.length ys rfl ?hown _ 1 _ [.int .i64 t.ar,.slice lo3 t.ls.length lc3] rfl rfl ?dA ?h1 (by omega) ?kj ?cP ?cX _ rfl ?_))
    case hown=>exact (qV.alloc _).alloc _
    case dA=>exact World.news_of_block (by have:=az (w3.alloc (Obj.cells #[.int .i64 t.ar,.slice lo3 t.ls.length lc3] 79)) (Obj.cells #[.int .i64 t.ar,.slice lo3 t.ls.length lc3] 79);simpa using this)
    case h1=>simp [Value.oneCell']
    case kj=>unfold maxLen;omega
    case cP=>omega
    case cX=>simp;omega
    intro g cap2 w5 fd co kZ nL;have hR5:=br ((qV.alloc _).alloc _) co (by decide) ((AY.block _ (by omega)).trans xx);have DL:=br ((qV.alloc _).alloc _) co (by decide) ((AY.block _ (by omega)).trans hC3);have Px:iF w5 b tr (1+cn+tc):=br ((qV.alloc _).alloc _) co (by decide) ((AY.block b (by omega)).trans wG);have yK:But b w w5:=((kH.trans dD).trans (But.of AY (by omega))).grown ((qV.alloc _).alloc _) co (by omega) (by omega);have Qp:iy w5 w3.heap.size (F++[t]) (ys++[.int .i64 t.ar,.slice lo3 t.ls.length lc3]):=iy.type ((qV.alloc _).alloc _) co ((iy.snoc Ez aaA).keep AY);have aaE:FuI w5 (CB+1) (F++[t]) (ys++[.int .i64 t.ar,.slice lo3 t.ls.length lc3]) w3.heap.size:=FuI.map (fun h=>fD.type ((qV.alloc _).alloc _) co (h.old AY)) (FuI.snoc mx (fun k hk=>(mx.1.lt k hk).2) mx.lt rA ((Jg.map (fun h=>h.but dD eu)).up AU));have ve:=co.size;simp only [bT] at ve;obtain ⟨z0,z1,_,fz1⟩:=bS DL;clear co kZ t0 t1 ft1;go_wp2_with fail
    go_roundw
    case rel=>
     refine ⟨j+1,F++[t],tr,cn+tc,_,_,w3.heap.size,bF,by go_num,ac7,by have:=XD.out;simp [Hid,this],by omega,by omega,yK.put (by omega) (by omega),?_,(bi _ (by omega)).trans hR5,bk _ DL,by rw [au];exact aB fd DL (by decide),by omega,by simp [World.setCell];omega,iy.set DL Qp,aaE.map (fun h=>h.setC DL)⟩
     have:=Px.put (k:=CB) (i:=1) (v:=.slice (some ⟨g,0,none⟩) (F.length+1) cap2) (by omega);rw [show (1:Int)+((cn+tc:Nat):Int)=1+(cn:Int)+(tc:Int) by omega];exact this
    case measure=>simp [intOf];omega
  ·have nV:j=n:=by omega
   have iH:¬(j:Int)<(n:Int):=by omega
   have gp:Hid (X=(if rj.size=0 then some ⟨PA,F⟩ else none,cn+2)):=by
    show _=_
    have h:=qn.out;rw [nV,ct] at h;simp only [ey,gF,cA,cr] at h;rw [<-qO.out,h]
   obtain ⟨r0,r1,fr0,fr1⟩:=bS eu;obtain ⟨x0,x1,f0,f1⟩:=bS hR;obtain ⟨t0,t1,_,_⟩:=bS DK;obtain ⟨fo,fcap,wJ⟩:=aU bW;subst wJ;have aa3:b<wr.heap.size:=by omega
   have As:b≠w.heap.size:=by omega
   have pJ:b≠CB:=by omega
   have P2:w.heap.size≠CB:=by omega
   have ahq:cn<=400:=by omega
   have Wv:But b wr (wr.setCell ⟨b,1,none⟩ (.int .i64 (1+(cn:Int)+1))):=(But.refl b wr).set;have j7:Hid (iF (wr.setCell ⟨b,1,none⟩ (.int .i64 (1+(cn:Int)+1))) b rj (1+(cn:Int)+1)):=bk _ eu;have eI:Hid (But b w (wr.setCell ⟨b,1,none⟩ (.int .i64 (1+(cn:Int)+1)))):=kH.set;have lN:Hid ((wr.setCell ⟨b,1,none⟩ (.int .i64 (1+(cn:Int)+1))).heap[w.heap.size]?=some (.cells #[.int .i64 0,.slice none 0 0] 63 (0,0))):=(bi _ (by omega)).trans hR;have kp:Hid ((wr.setCell ⟨b,1,none⟩ (.int .i64 (1+(cn:Int)+1))).heap[CB]?=some (.cells #[.int .i64 PA,.slice fo F.length fcap] 63 (0,0))):=(bi _ (by omega)).trans DK;have L5:Hid (iy (wr.setCell ⟨b,1,none⟩ (.int .i64 (1+(cn:Int)+1))) T F ys):=iy.but Wv eu pN;have ac9:Hid (FuI (wr.setCell ⟨b,1,none⟩ (.int .i64 (1+(cn:Int)+1))) (CB+1) F ys T):=Jg.map (fun h=>h.but Wv eu);have t7:Hid ((wr.setCell ⟨b,1,none⟩ (.int .i64 (1+(cn:Int)+1))).ownsRow (CB+1) 79 2 (.slice fo F.length fcap) F.length ys):=iO bW Wv eu (by decide);have CK:Hid ((wr.setCell ⟨b,1,none⟩ (.int .i64 (1+(cn:Int)+1))).ownsRow 0 79 2 (.slice fo F.length fcap) F.length ys):=bO (iO bW Wv eu (by decide)) (aF _);have ES:Hid ((wr.setCell ⟨b,1,none⟩ (.int .i64 (1+(cn:Int)+1))).heap.size=wr.heap.size):=by simp [Hid,World.setCell]
   go_wp2_with fail
   generalize hW:wr.setCell ⟨b,1,none⟩ (.int .i64 (1+(cn:Int)+1))=W at*;clear hW r0 r1 fr0 fr1 x0 x1 f0 f1 t0 t1 Wv bW pN Jg;obtain ⟨r0,_,_,_⟩:=bS j7.out;obtain ⟨x0,x1,f0,f1⟩:=bS lN.out;obtain ⟨t0,t1,_,_⟩:=bS kp.out;have jm:Hid ((rj.toList==[])=X.1.isSome/\∀c,X.1=some c->c=⟨PA,F⟩):=by
    rw [gp.out];by_cases h0:rj.size=0
    ·have he:rj.toList=[]:=by
      have:rj.data.toList=[]:=ch.1 (by rw [<-cg];exact h0);rw [bU];exact this
     refine ⟨by rw [he,aA h0];rfl,fun c hc=>?_⟩
     simp only [aA h0,Option.some.injEq] at hc;exact hc.symm
    ·have dI:(rj.toList==[])=false:=by
      rw [cE];intro e;rw [bU] at e;have:=cg rj;rw [e] at this;exact h0 this
     refine ⟨by rw [dI,ay h0];rfl,fun c hc=>?_⟩
     simp only [ay h0] at hc;cases hc
   have HD:Hid (W.drew.heap[w.heap.size]?=some (.cells #[.int .i64 0,.slice none 0 0] 63 (0,0))):=lN.out;have HQ:Hid _:=od (a:=.int .i64 PA) (c:=.slice fo F.length fcap) lN.out;have IX:Hid (But b w ((W.drew.setCell ⟨w.heap.size,0,none⟩ (.int .i64 PA)).setCell ⟨w.heap.size,1,none⟩ (.slice fo F.length fcap))/\iF ((W.drew.setCell ⟨w.heap.size,0,none⟩ (.int .i64 PA)).setCell ⟨w.heap.size,1,none⟩ (.slice fo F.length fcap)) b rj X.2/\gR ((W.drew.setCell ⟨w.heap.size,0,none⟩ (.int .i64 PA)).setCell ⟨w.heap.size,1,none⟩ (.slice fo F.length fcap)) (.slice fo F.length fcap) F/\nj ((W.drew.setCell ⟨w.heap.size,0,none⟩ (.int .i64 PA)).setCell ⟨w.heap.size,1,none⟩ (.slice fo F.length fcap)) w.heap.size (.slice fo F.length fcap) F):=by
    have UA:((W.drew.setCell ⟨w.heap.size,0,none⟩ (.int .i64 PA)).setCell ⟨w.heap.size,1,none⟩ (.slice fo F.length fcap)).heap.size=wr.heap.size:=by
     rw [<-ES.out];simp [World.setCell,heap_drew]
    refine ⟨((eI.out.trans (But.of (aR (ai _ _)) (by rw [ES.out];omega))).put (by omega) (ah _)).put (by omega) (ah _),?_,?_,?_⟩
    ·rw [gp.out];have:=(iF.old j7.out (aR (ai _ _))).put (k:=w.heap.size) (i:=0) (v:=.int .i64 PA) (by omega);have:=this.put (k:=w.heap.size) (i:=1) (v:=.slice fo F.length fcap) (by omega);rw [show ((cn+2:Nat):Int)=1+(cn:Int)+1 by omega];exact this
    ·refine ⟨ys,aB (aB (World.ownsRow.drew CK.out) HD.out (by decide)) (bk _ HD.out) (by decide),?_⟩
     rw [UA];exact iy.up AU (iy.set (bk _ HD.out) (iy.set HD.out (iy.keep (aR (ai _ _)) L5.out)))
    ·refine ⟨ys,bO (aB (aB (World.ownsRow.drew t7.out) HD.out (by decide)) (bk _ HD.out) (by decide)) (by omega),?_⟩
     rw [UA];exact (FuI.up (((FuI.map (fun h=>h.old (aR (ai _ _))) ac9.out).map (fun h=>h.setC HD.out)).map (fun h=>h.setC (bk _ HD.out))) AU).base (by omega)
   go_region
   all_goals
    go_wp2_with fail
    obtain ⟨q0,q1⟩:=HQ.out;refine aS (v:=.tuple #[.agg #[.int .i64 PA,.slice fo F.length fcap],.bool (rj.toList==[])]) (by simp [results,Tryz.results55,go_sem,q0,q1]) rfl ⟨PA,_,by rw [jm.out.1],IX.out.1,⟨rj,IX.out.2.1⟩,⟨_,_,_,rfl⟩,fun c hc=>by rw [jm.out.2 c hc];exact ⟨rfl,IX.out.2.2⟩⟩
def rdC (s:ByteArray):Option Cd:=if 30000<s.size then none else (iC s).1
def rdL (s:ByteArray):Int:=if 30000<s.size then 0 else if (iC s).1.isSome then 0 else (iC s).2
def rdE (s:ByteArray):Int:=if 30000<s.size then 1 else if (iC s).1.isSome then 0 else 7
theorem JL (s:ByteArray) (w:World) (hs:s.size<=maxLen):
 Calls Tryz.prog 29 #[.string s] w fun e w'=>∃mn fv,e=.returned (.tuple #[.agg #[.int .i64 mn,fv],.int .i64 (rdL s),.int .i64 (rdE s)])/\Below w.heap.size w w'/\(rdC s=none->mn=0/\fv=.slice none 0 0)/\∀c,rdC s=some c->mn=c.mn/\gR w' fv c.fs/\nj w' w.heap.size fv c.fs:=by
 unfold maxLen at hs;by_cases kY:30000<s.size
 ·have HV:Hid (rdL s=0/\rdE s=1/\rdC s=none):=by simp [Hid,rdL,rdE,rdC,kY]
  rw [HV.out.1,HV.out.2.1,HV.out.2.2];go_enter Tryz.func29,Tryz.ntmps29
  go_wp2_with fail
  exact aS (v:=.tuple #[.agg #[.int .i64 0,.slice none 0 0],.int .i64 0,.int .i64 1]) (by simp [results,Tryz.results29,go_sem]) rfl ⟨0,_,rfl,(ai _ _).alloc (ah _) _,fun _=>⟨rfl,rfl⟩,fun c hc=>by cases hc⟩
 have rA:s.size<=30000:=by omega
 have HV:Hid (rdL s=(if (iC s).1.isSome then 0 else (iC s).2:Int)/\rdE s=(if (iC s).1.isSome then 0 else 7)/\rdC s=(iC s).1):=by simp [Hid,rdL,rdE,rdC,kY]
 have hB:(((w.alloc (Obj.cells #[.int .i64 0,.slice none 0 0] 63)).alloc (Obj.cells #[.string s,.int .i64 0] 115))).heap[w.heap.size+1]?=some (.cells #[.string s,.int .i64 0] 115 (0,0)):=by
  have:=az (w.alloc (Obj.cells #[.int .i64 0,.slice none 0 0] 63)) (Obj.cells #[.string s,.int .i64 0] 115);simpa using this
 have HC:Hid _:=FO (w.heap.size+1) s ((w.alloc (Obj.cells #[.int .i64 0,.slice none 0 0] 63)).alloc (Obj.cells #[.string s,.int .i64 0] 115)) hB rA;clear hB;have hA:Below w.heap.size w ((w.alloc (Obj.cells #[.int .i64 0,.slice none 0 0] 63)).alloc (Obj.cells #[.string s,.int .i64 0] 115)):=((ai _ _).alloc (ah _) _).alloc (by simp) _;have mA:(((w.alloc (Obj.cells #[.int .i64 0,.slice none 0 0] 63)).alloc (Obj.cells #[.string s,.int .i64 0] 115))).heap[w.heap.size]?=some (.cells #[.int .i64 0,.slice none 0 0] 63 (0,0)):=(aO _ _ _ (by simp)).trans (az w _);rw [HV.out.1,HV.out.2.1,HV.out.2.2];clear HV hs kY;generalize iC s=X at*;obtain ⟨o,lnn⟩:=X;simp only at HC ⊢;cases o with
 |none=>
  simp only [Option.isSome_none,cm,dc] at HC ⊢;go_enter Tryz.func29,Tryz.ntmps29
  go_wp2_with fail
  refine (show Calls _ _ _ _ _ from HC.out).mono ?_
  rintro e w1 ⟨mn,fv,rfl,dD,⟨r2,eu⟩,⟨fo,FL,fcap,rfl⟩,_⟩
  clear HC;have vp:=dD.keep mA (by omega);obtain ⟨r0,r1,_,_⟩:=bS eu;have Ww:w.heap.size<w1.heap.size:=(ae.1 vp).1;have Nj:w.heap.size+1<w1.heap.size:=(ae.1 eu).1;obtain ⟨x0,x1,f0,f1⟩:=bS vp;have qD:((w1.setCell ⟨w.heap.size,0,none⟩ (.int .i64 0)).setCell ⟨w.heap.size,1,none⟩ (.slice none 0 0)).heap.size=w1.heap.size:=by simp [World.setCell]
  have si:=(aO ((w1.setCell ⟨w.heap.size,0,none⟩ (.int .i64 0)).setCell ⟨w.heap.size,1,none⟩ (.slice none 0 0)) (Obj.cells #[.int .i64 mn,.slice fo FL fcap] 63) w.heap.size (by rw [qD];omega)).trans (bk _ (bk _ vp));have IQ:Hid _:=al _ _ 0 _ _ _ si;have sw:Hid _:=al _ _ 1 _ _ _ si;have I1:Hid (Below w.heap.size w (((w1.setCell ⟨w.heap.size,0,none⟩ (.int .i64 0)).setCell ⟨w.heap.size,1,none⟩ (.slice none 0 0)).alloc (Obj.cells #[.int .i64 mn,.slice fo FL fcap] 63)).drew):=aR ((((hA.trans (dD.below (by omega))).setCell (by exact ah _) _).setCell (by exact ah _) _).alloc (by rw [qD];omega) _);clear si;go_wp2_with fail
  go_region
  all_goals
   go_wp2_with fail
   have q0:=IQ.out;have q1:=sw.out;exact aS (v:=.tuple #[.agg #[.int .i64 0,.slice none 0 0],.int .i64 lnn,.int .i64 7]) (by simp [results,Tryz.results29,go_sem,q0,q1]) rfl ⟨0,_,rfl,I1.out,fun _=>⟨rfl,rfl⟩,fun c hc=>by cases hc⟩
 |some c=>
  simp only [Option.isSome_some,cQ] at HC ⊢;go_enter Tryz.func29,Tryz.ntmps29
  go_wp2_with fail
  refine (show Calls _ _ _ _ _ from HC.out).mono ?_
  rintro e w1 ⟨mn,fv,rfl,dD,⟨r2,eu⟩,_,ip⟩
  clear HC;obtain ⟨lW,mo,xt⟩:=ip c rfl;have R7:Hid _:=xt;clear xt;clear ip;have qn:Hid _:=mo;have ND:Hid (mn=c.mn):=lW;obtain ⟨fo,fcap,wJ⟩:∃a c2,fv=.slice a c.fs.length c2:=by obtain ⟨ys,h1,_⟩:=mo;exact aU h1
  subst wJ;clear lW mo;have vp:=dD.keep mA (by omega);have Ww:w.heap.size<w1.heap.size:=(ae.1 vp).1;obtain ⟨x0,x1,f0,f1⟩:=bS vp;have qD:((w1.setCell ⟨w.heap.size,0,none⟩ (.int .i64 mn)).setCell ⟨w.heap.size,1,none⟩ (.slice fo c.fs.length fcap)).heap.size=w1.heap.size:=by simp [World.setCell]
  have si:=(aO ((w1.setCell ⟨w.heap.size,0,none⟩ (.int .i64 mn)).setCell ⟨w.heap.size,1,none⟩ (.slice fo c.fs.length fcap)) (Obj.cells #[.int .i64 mn,.slice fo c.fs.length fcap] 63) w.heap.size (by rw [qD];omega)).trans (bk _ (bk _ vp));have IQ:Hid _:=al _ _ 0 _ _ _ si;have sw:Hid _:=al _ _ 1 _ _ _ si;have I1:Hid (Below w.heap.size w (((w1.setCell ⟨w.heap.size,0,none⟩ (.int .i64 mn)).setCell ⟨w.heap.size,1,none⟩ (.slice fo c.fs.length fcap)).alloc (Obj.cells #[.int .i64 mn,.slice fo c.fs.length fcap] 63))):=((((hA.trans (dD.below (by omega))).setCell (by exact ah _) _).setCell (by exact ah _) _).alloc (by rw [qD];omega) _);clear si;go_wp2_with fail
  have q0:=IQ.out;have q1:=sw.out;refine aS (v:=.tuple #[.agg #[.int .i64 mn,.slice fo c.fs.length fcap],.int .i64 0,.int .i64 0]) (by simp [results,Tryz.results29,go_sem,q0,q1]) rfl ⟨mn,_,rfl,I1.out,(fun h=>by cases h),fun c' hc=>?_⟩
  cases hc
  exact ⟨ND.out,((gR.set qn.out vp).set (bk _ vp)).old ((ai _ _).alloc (ah _) _),(((nj.set R7.out vp).set (bk _ vp)).old ((ai _ _).alloc (ah _) _)).base (by simp;omega)⟩
structure CfB (c:Cf):Prop where
 h0:0<=c.hp
 h1:c.hp<=1000000
 ts:∀t∈c.fs,0<=t.ar/\t.ar<=100/\1<=t.ls.length/\t.ls.length<=100/\∀l∈t.ls,l.length<=1000
structure Ok (c:Cf) (s:Ms):Prop where
 bd:Bd s
 tp:(hdI s.stk).1=3->0<=(hdI s.stk).2/\(hdI s.stk).2<c.fs.length
theorem NS {c:Cf} {n:Int} (h0:0<=n) (h1:n<c.fs.length):jx c n∈c.fs:=by
 unfold jx;rw [aA ⟨h0,h1⟩];have bF:n.toNat<c.fs.length:=by omega
 rw [aj bF];exact aE bF
theorem Y8 (T B mb:Nat) (fv:Value) (c:Cf) (s:Ms) (K:Nat->Prop) (w:World) (h:MP w B mb fv c s K) (ok:Ok c s) (hc:CfB c) (Hm:T<=B) (hf:dS w T fv c.fs):
 Calls Tryz.prog 31 #[.pointer (some ⟨mb,0,none⟩)] w fun e w'=>(∃v,e=.returned v)/\Below B w w'/\dm K w w'/\MP w' B mb fv c (qA c s) K:=by
 have pS:B<=w.heap.size:=by have:=h.lt;have:=h.lo;omega
 have HM:Hid (∀w',Below w.heap.size w w'->MP w' B mb fv c s K):=fun w' hb=>h.old hb
 have qn:Hid (∀w',Below w.heap.size w w'->dS w' T fv c.fs):=fun w' hb=>dS.keep hf (hb.mono (by omega))
 have jN:=h.lo;have kp:Hid (Calls Tryz.prog 56 #[.pointer (some ⟨mb,0,none⟩)] w fun e w'=>e=.returned (.tuple #[.agg #[.int .i64 (hdI s.stk).1,.int .i64 (hdI s.stk).2],.int .i64 (ql s)])/\Below w.heap.size w w'):=by
  obtain ⟨sv,rv,nv,ev,vs,h⟩:=h;exact Y9 B mb fv c s K sv rv nv ev vs w h (by have:=ok.bd.l1;omega) (by have:=ok.bd.l2;omega) (by have:=ok.bd.l1;have:=ok.bd.fl;omega)
 have Xe:Hid ((hdI s.stk).1=1->-1000000000<=(hdI s.stk).2/\(hdI s.stk).2<=1000000000):=by
  intro h1;cases hs:s.stk with
  |nil=>rw [hs] at h1;simp [hdI] at h1
  |cons x r=>
   rw [hs] at h1;exact ok.bd.nb x (by rw [hs];simp) h1
 have p8:Hid _:=ok.tp;have jM:Hid _:=ok.bd;have HE:Hid (qA c s=if (hdI s.stk).1=5 then jg s else if (hdI s.stk).1=3 then (if (jx c (hdI s.stk).2).ar<=ql s then rI c (jx c (hdI s.stk).2) s else w9 c (hdI s.stk) s) else if (hdI s.stk).1=4 then (if eR (hdI s.stk).2<=ql s then IH (hdI s.stk).2 s else w9 c (hdI s.stk) s) else if 0<ql s then {s with out:=3} else w9 c (hdI s.stk) s):=rfl;rw [HE.out];clear HE h ok hf;generalize hdI s.stk=t at*;obtain ⟨t1,t2⟩:=t;generalize ql s=an at*;simp only at*;generalize hT:jx c t2=tp at*;generalize hW:eR t2=wn at*;have SX:Hid (jx c t2=tp):=hT;have SW:Hid (eR t2=wn):=hW;clear hT hW;go_enter Tryz.func31,Tryz.ntmps31
 go_wp2_with fail
 refine (show Calls _ _ _ _ _ from kp.out).mono ?_
 rintro e w1 ⟨rfl,bB⟩
 clear kp;have fH:=bB.size;have Bu:Hid (Below w.heap.size w (w1.alloc (Obj.cells #[.int .i64 t1,.int .i64 t2] 90))):=bB.trans ((bM w1 _).mono fH);have eI:Hid (Below B w (w1.alloc (Obj.cells #[.int .i64 t1,.int .i64 t2] 90))):=Bu.out.mono pS;have mr:Hid (dm K w (w1.alloc (Obj.cells #[.int .i64 t1,.int .i64 t2] 90))):=dm.old Bu.out;have zg:Hid (MP (w1.alloc (Obj.cells #[.int .i64 t1,.int .i64 t2] 90)) B mb fv c s K):=HM.out _ Bu.out;have Sa:Hid _:=BY (t1,t2) Xe.out B mb fv c s K _ zg.out jM.out;simp only at Sa;by_cases h5:t1=5
 ·subst h5;have fE:Hid _:=TX B mb fv c s K _ zg.out (by have:=jM.out.l1;omega) (by have:=jM.out.l2;omega) (by have:=jM.out.l3;omega) (fun n hn=>by have:=jM.out.l5 n hn;have:=jM.out.l1;omega);clear Sa zg HM qn bB;go_wp2_with fail
  refine (show Calls _ _ _ _ _ from fE.out).mono ?_
  rintro e w2 ⟨⟨v2,rfl⟩,bX,eh,gK⟩
  have oP:Hid _:=gK;clear gK fE;go_wp2_with fail
  exact bH (v:=.tuple #[]) (by simp [results,Tryz.results31,go_sem]) rfl ⟨⟨_,rfl⟩,eI.out.trans bX,mr.out.trans eh eI.out.size,oP.out⟩
 ·have h5b:(t1==5)=false:=by simpa using h5
  by_cases h3:t1=3
  ·subst h3;obtain ⟨v0,v1⟩:=p8.out rfl;have qP:Hid _:=hc.ts _ (NS v0 v1);have fE:Hid _:=FY t2 T B mb fv c s K _ zg.out (by have:=Bu.out.size;omega) (qn.out _ Bu.out);rw [SX.out] at qP fE;clear v0 v1 bB;go_wp2_with fail
   refine (show Calls _ _ _ _ _ from fE.out).mono ?_
   rintro e w2 ⟨lo,lc,rfl,bX,j9⟩
   clear fE;have k9:=bX.size;have fe:=(bX.block w1.heap.size (by simp)).trans (az w1 _);obtain ⟨q0,q1⟩:=iM fe;have cV:w1.heap.size<w2.heap.size:=by simp at k9;omega
   have Sc:Hid (Below w.heap.size w (w2.alloc (Obj.cells #[.int .i64 tp.ar,.slice lo tp.ls.length lc] 79))):=(Bu.out.trans (bX.mono Bu.out.size)).trans ((bM w2 _).mono (by have:=Bu.out.size;omega));have gj:Hid (Below B w (w2.alloc (Obj.cells #[.int .i64 tp.ar,.slice lo tp.ls.length lc] 79))):=Sc.out.mono pS;have uC:Hid (dm K w (w2.alloc (Obj.cells #[.int .i64 tp.ar,.slice lo tp.ls.length lc] 79))):=dm.old Sc.out;have L2:Hid (MP (w2.alloc (Obj.cells #[.int .i64 tp.ar,.slice lo tp.ls.length lc] 79)) B mb fv c s K):=HM.out _ Sc.out;have Bq:Hid (gd (w2.alloc (Obj.cells #[.int .i64 tp.ar,.slice lo tp.ls.length lc] 79)) T (.slice lo tp.ls.length lc) tp.ls):=j9.below ((bX.mono (by have:=Bu.out.size;omega)).trans ((bM w2 _).mono (by have:=Bu.out.size;omega)));have UR:=fe;clear Sa zg HM fe j9 bX;by_cases iH:tp.ar<=an
   ·have hd:decide (tp.ar<=an)=true:=by simpa using iH
    have ix:Hid _:=Zb tp lo lc T B mb fv c s K _ L2.out jM.out Hm Bq.out qP.out.1 qP.out.2.1 qP.out.2.2.1 qP.out.2.2.2.1 qP.out.2.2.2.2 hc.h0 (by have:=hc.h1;omega);clear L2 Bq UR;go_wp2_with fail
    refine (show Calls _ _ _ _ _ from ix.out).mono ?_
    rintro e w3 ⟨⟨v3,rfl⟩,df,my,mt⟩
    have xj:Hid _:=mt;clear mt ix q0 q1;go_wp2_with fail
    exact bH (v:=.tuple #[]) (by simp [results,Tryz.results31,go_sem]) rfl ⟨⟨_,rfl⟩,gj.out.trans df,uC.out.trans my gj.out.size,xj.out⟩
   ·have hd:decide (tp.ar<=an)=false:=by simpa using iH
    have ix:Hid _:=BY (3,t2) (by intro h;simp at h) B mb fv c s K _ L2.out jM.out;simp only at ix;have oH:=(bM w2 (Obj.cells #[.int .i64 tp.ar,.slice lo tp.ls.length lc] 79)).block w1.heap.size cV;clear L2 Bq UR oH;go_wp2_with fail
    refine (show Calls _ _ _ _ _ from ix.out).mono ?_
    rintro e w3 ⟨⟨v3,rfl⟩,df,my,mt⟩
    have xj:Hid _:=mt;clear mt ix q0 q1;go_wp2_with fail
    exact bH (v:=.tuple #[]) (by simp [results,Tryz.results31,go_sem]) rfl ⟨⟨_,rfl⟩,gj.out.trans df,uC.out.trans my gj.out.size,xj.out⟩
  ·have h3b:(t1==3)=false:=by simpa using h3
   by_cases h4:t1=4
   ·subst h4;have fE:Hid (∀w',Calls Tryz.prog 61 #[.int .i64 t2] w' fun e w''=>e=.returned (.int .i64 (eR t2))/\w''=w'):=fun w'=>Ow t2 w'
    have ix:Hid _:=F3 t2 B mb fv c s K _ zg.out (by have:=jM.out.l1;omega) (by have:=jM.out.l2;omega);rw [SW.out] at fE;clear zg HM bB;by_cases iH:wn<=an
    ·have hd:decide (wn<=an)=true:=by simpa using iH
     go_wp2_with fail
     refine (show Calls _ _ _ _ _ from fE.out _).mono ?_
     rintro e w2 ⟨rfl,rfl⟩
     clear fE;go_wp2_with fail
     refine (show Calls _ _ _ _ _ from ix.out).mono ?_
     rintro e w3 ⟨⟨v3,rfl⟩,df,my,mt⟩
     have xj:Hid _:=mt;clear mt ix;go_wp2_with fail
     exact bH (v:=.tuple #[]) (by simp [results,Tryz.results31,go_sem]) rfl ⟨⟨_,rfl⟩,eI.out.trans df,mr.out.trans my eI.out.size,xj.out⟩
    ·have hd:decide (wn<=an)=false:=by simpa using iH
     go_wp2_with fail
     refine (show Calls _ _ _ _ _ from fE.out _).mono ?_
     rintro e w2 ⟨rfl,rfl⟩
     clear fE;go_wp2_with fail
     refine (show Calls _ _ _ _ _ from Sa.out).mono ?_
     rintro e w3 ⟨⟨v3,rfl⟩,df,my,mt⟩
     have xj:Hid _:=mt;clear mt ix;go_wp2_with fail
     exact bH (v:=.tuple #[]) (by simp [results,Tryz.results31,go_sem]) rfl ⟨⟨_,rfl⟩,eI.out.trans df,mr.out.trans my eI.out.size,xj.out⟩
   ·have h4b:(t1==4)=false:=by simpa using h4
    by_cases qF:0<an
    ·have hd:decide (0<an)=true:=by simpa using qF
     obtain ⟨sv,rv,nv,ev,vs,Ss⟩:=HM.out w1 bB;have cc8:=Ss.c8;have ff8:=Ss.fz 8;have agJ:=Ss.lt;have HK:Hid (¬K mb):=Ss.noK;have HF:Hid (MSt (w1.setCell ⟨mb,8,none⟩ (.int .i64 3)) B mb fv c {s with out:=3} K sv rv nv ev vs):=Ss.field rfl rfl rfl rfl rfl;have gj:Hid (Below B w w1):=bB.mono pS;have HKF:Hid (dm K w ((w1.setCell ⟨mb,8,none⟩ (.int .i64 3)).alloc (Obj.cells #[.int .i64 t1,.int .i64 t2] 90))):=((dm.old bB).trans (dm.set HK.out) fH).trans (dm.old (bM _ _)) (by rw [eY];exact fH);clear Ss HM zg Sa bB;go_wp2_with fail
     exact bH (v:=.tuple #[]) (by simp [results,Tryz.results31,go_sem]) rfl ⟨⟨_,rfl⟩,(gj.out.setCell (by exact jN) _).trans ((bM _ _).mono (by rw [eY];omega)),HKF.out,_,_,_,_,_,HF.out.old (bM _ _)⟩
    ·have hd:decide (0<an)=false:=by simpa using qF
     clear HM zg bB;go_wp2_with fail
     refine (show Calls _ _ _ _ _ from Sa.out).mono ?_
     rintro e w3 ⟨⟨v3,rfl⟩,df,my,mt⟩
     have xj:Hid _:=mt;clear mt Sa;go_wp2_with fail
     exact bH (v:=.tuple #[]) (by simp [results,Tryz.results31,go_sem]) rfl ⟨⟨_,rfl⟩,eI.out.trans df,mr.out.trans my eI.out.size,xj.out⟩
end Go.Proofs.YtnndoagpbcacdabGreatDoor
