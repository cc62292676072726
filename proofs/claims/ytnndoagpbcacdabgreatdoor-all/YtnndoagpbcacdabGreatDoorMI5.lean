import Derived.Test.YtnndoagpbcacdabGreatDoorMI3
import Derived.Test.YtnndoagpbcacdabGreatDoorMM14
namespace Go.Proofs.YtnndoagpbcacdabGreatDoor
theorem BI (rk:Int->Nat):∀n:Nat,∃M,∀p:Int,0<=p->p<n->rk p<M
 |0=>⟨0,fun p h0 h1=>by omega⟩
 |n+1=>by
  obtain ⟨M,hM⟩:=BI rk n;refine ⟨M+rk n+1,fun p h0 h1=>?_⟩
  by_cases e:p=n
  ·subst e;omega
  ·have:=hM p h0 (by omega);omega
def Da (rk:Int->Nat) (a k r0:Nat) (p:Int):Nat:=if (a:Int)<=p then r0+(k-1-(p.toNat-a)) else if r0<=rk p then rk p+k else rk p
theorem BU {rk:Int->Nat} {a k r0:Nat} {p q:Int} (hp:p<a) (hq:q<a) (h:rk p<rk q):Da rk a k r0 p<Da rk a k r0 q:=by
 have n1:¬(a:Int)<=p:=by omega
 have n2:¬(a:Int)<=q:=by omega
 unfold Da;rw [ay n1,ay n2];split<;>split<;>omega
theorem zZ {rk:Int->Nat} {a k r0:Nat} {p:Int}:∀{ks:List Kf},(∀f∈ks,f.k=1->f.nd<a)->p<a->Bl rk ks p->Bl (Da rk a k r0) ks p:=by
 intro ks hk hp hb n hn;have h1:=hb n hn;have h2:n<a:=by
  clear h1 hb;induction ks with
  |nil=>simp [nxO] at hn
  |cons f ks ih=>
   rw [nxO] at hn;split at hn
   ·next e=>cases hn;exact hk f (by simp) e
   ·exact ih (fun g hg=>hk g (by simp [hg])) hn
 exact BU hp h2 h1
theorem BT {rk:Int->Nat} {a k r0:Nat}:∀{ks:List Kf},(∀f∈ks,(f.k=1->f.nd<a)/\∀x∈f.rs,x.1=5->x.2<a)->RkK rk ks->RkK (Da rk a k r0) ks
 |[],_,_=>trivial
 |f::ks,h,hk=>by
  have h1:=h f (by simp);have h2:∀g∈ks,(g.k=1->g.nd<a)/\∀x∈g.rs,x.1=5->x.2<a:=fun g hg=>h g (by simp [hg])
  exact ⟨fun x hx h5=>zZ (fun g hg=>(h2 g hg).1) (h1.2 x hx h5) (hk.1 x hx h5),fun e=>zZ (fun g hg=>(h2 g hg).1) (h1.1 e) (hk.2.1 e),BT h2 hk.2.2⟩
theorem B8 {l ar:Ln} {a k:Nat} {x:Int×Int} (hg:∀y∈l,y.1=5->0<=y.2/\y.2<k) (hx:x∈cL l ar (idP a k)):(∃y∈l,y.1=5/\x=(5,(a:Int)+y.2))\/x∈ar\/(x∈l/\x.1≠5):=by
 unfold cL at hx;obtain ⟨y,hy,rfl⟩:=bZ.1 hx;unfold iP;have ez:(idP a k).length=k:=by simp [idP]
 by_cases Dk:y.1=5
 ·have hb:=hg y hy Dk;rw [aA ⟨Dk,by rw [ez];exact hb⟩]
  left
  refine ⟨y,hy,Dk,?_⟩
  have bF:y.2.toNat<k:=by omega
  simp [idP,List.getElem?_range bF];omega
 ·rw [ay (fun e=>Dk e.1)];by_cases h2:y.1=2/\0<=y.2/\y.2<ar.length
  ·rw [aA h2]
   right;left
   have bF:y.2.toNat<ar.length:=by omega
   simp only [aj bF,b6];exact aE bF
  ·rw [ay h2];exact .inr (.inr ⟨hy,Dk⟩)
theorem Pb {c:Cf} {rk:Int->Nat} {s:Im} {f:Int} {r:Ln} {t:Tp} (h:Ii c rk s) (hc:s.cur=(3,f)::r) (ht:TGo c t) (ho:(eX c t r s).out=0):
 (∃rk',Ii c rk' (eX c t r s))/\pot (eX c t r s)+1<=pot s+138/\(eX c t r s).stp=s.stp+1/\s.stp<c.bud/\(eX c t r s).nds.length<=s.nds.length+12:=by
 have t2:=ht.tg.n0;have t3:=ht.tg.n1;unfold eX at ho ⊢;by_cases hb:c.bud<=s.stp
 ·rw [aA hb] at ho;simp at ho
 rw [ay hb] at ho ⊢;by_cases hf:c.hp<(mM s:Int)+((t.ls.length:Int)-1)
 ·rw [aA hf] at ho;simp at ho
 rw [ay hf] at ho ⊢;clear ho;cases gV:t.ls with
 |nil=>rw [gV] at t2;simp at t2
 |cons l0 lr=>
  have hk:t.ls.length=lr.length+1:=by rw [gV];rfl
  simp only [db,cO,aD,Nat.add_sub_cancel];generalize Sq:lr.map (fun l=>(cL l (r.take t.ar.toNat) (idP s.nds.length lr.length),false))=ns;have oC:ns.length=lr.length:=by rw [<-Sq];simp
  have I9:∀x∈r,GI c s.nds.length x:=fun x hx=>h.it x (by rw [hc];simp [hx])
  have MU:∀x∈r,x.1=5->Bl rk s.ks x.2:=fun x hx=>h.cb x (by rw [hc];simp [hx])
  obtain ⟨r0,pG,tb⟩:∃r0,(∀n,nxO s.ks=some n->rk n=r0)/\(∀p:Int,0<=p->p<s.nds.length->Bl rk s.ks p->rk p<r0):=by
   cases hn:nxO s.ks with
   |none=>
    obtain ⟨M,hM⟩:=BI rk s.nds.length;exact ⟨M,fun n e=>by simp at e,fun p h0 h1 _=>hM p h0 h1⟩
   |some n=>exact ⟨rk n,fun m e=>by cases e;rfl,fun p _ _ hb=>hb n hn⟩
  have Dx:∀g∈s.ks,g.k=1->g.nd<s.nds.length:=fun g hg e=>((h.fr g hg).2.1 e).2
  have ZX:∀n,nxO s.ks=some n->n<(s.nds.length:Int):=by
   intro n hn
   revert Dx hn
   generalize s.ks=ks;intro Dx hn;induction ks with
   |nil=>simp [nxO] at hn
   |cons g ks ih=>
    rw [nxO] at hn;split at hn
    ·next e=>cases hn;exact Dx g (by simp) e
    ·exact ih (fun g' Nb=>Dx g' (by simp [Nb])) hn
  have hg:∀(j:Nat) (l:Ln),t.ls[j]?=some l->∀y∈l,y.1=5->0<=y.2/\y.2<lr.length:=fun j l hl y hy h5=>by
   have:=((ht.tg.ln l (bm hl)).2.2 y hy).2.2 h5;omega
  have hgi:∀(j:Nat) (l:Ln),t.ls[j]?=some l->∀x∈cL l (r.take t.ar.toNat) (idP s.nds.length lr.length),GI c (s.nds++ns).length x:=by
   intro j l hl x hx;rw [au,oC];rcases B8 (hg j l hl) hx with ⟨y,hy,h5,rfl⟩|hx|⟨hx,h5⟩
   ·have:=hg j l hl y hy h5;exact ⟨fun e=>by simp at e,fun e=>by simp at e,fun _=>by simp only;omega⟩
   ·exact (I9 x (cS hx)).up (by omega)
   ·have Yi:=(ht.tg.ln l (bm hl)).2.2 x hx;exact ⟨fun e=>by have:=Yi.1 e;omega,Yi.2.1,fun e=>absurd e h5⟩
  have UP:∀(j:Nat) (l:Ln),t.ls[j]?=some l->∀x∈cL l (r.take t.ar.toNat) (idP s.nds.length lr.length),x.1=5->Da rk s.nds.length lr.length r0 x.2<r0+(lr.length-j):=by
   intro j l hl x hx h5;rcases B8 (hg j l hl) hx with ⟨y,hy,Dk,rfl⟩|hx|⟨hx,hn5⟩
   ·have h1:=hg j l hl y hy Dk;have h2:=ht.lt j l hl y hy Dk;unfold Da;simp only;rw [aA (by omega)];omega
   ·have MG:=cS hx;have hv:=(I9 x MG).2.2 h5;have:=tb x.2 hv.1 hv.2 (MU x MG h5);unfold Da;rw [ay (by omega),ay (by omega)];omega
   ·exact absurd h5 hn5
  have yA:∀l∈t.ls,∀ar ps,cL l ar ps≠[]:=fun l hl ar ps e=>by
   have:=(ht.tg.ln l hl).1;have h2:(cL l ar ps).length=0:=by rw [e];rfl
   simp [cL] at h2;rw [h2] at this;simp at this
  have h00:t.ls[0]?=some l0:=by rw [gV];rfl
  have Pp:∀n,nxO s.ks=some n->Da rk s.nds.length lr.length r0 n=r0+lr.length:=by
   intro n hn;have:=ZX n hn;unfold Da;rw [ay (by omega),aA (by rw [pG n hn];omega),pG n hn]
  refine ⟨⟨Da rk s.nds.length lr.length r0,?_,?_,?_,?_,?_,?_,?_⟩,?_,by simp,by omega,?_⟩
  ·intro e;exact yA l0 (by rw [gV];simp) _ _ (List.append_eq_nil_iff.1 e).1
  ·intro x hx;rcases be.1 hx with hx|hx
   ·exact hgi 0 l0 h00 x hx
   ·simp only [au];exact (I9 x (dr hx)).up (by omega)
  ·intro g Nb;obtain ⟨a1,a2,a3,a4⟩:=h.fr g Nb;refine ⟨a1,fun e=>?_,fun x hx=>?_,a4⟩
   ·have:=a2 e;simp only [au];omega
   ·simp only [au];exact (a3 x hx).up (by omega)
  ·intro n hn;simp only [au];rcases be.1 hn with hn|hn
   ·obtain ⟨a1,a2,a3⟩:=h.nd n hn;exact ⟨a1,fun x hx=>(a2 x hx).up (by omega),a3⟩
   ·rw [<-Sq] at hn;obtain ⟨l,hl,rfl⟩:=bZ.1 hn;obtain ⟨j,hj,dG⟩:=cl.1 hl;have GR:t.ls[j+1]?=some l:=by rw [gV,ap,aj hj,dG]
    refine ⟨yA l (by rw [gV];simp [hl]) _ _,fun x hx=>?_,fun e=>by simp at e⟩
    have:=hgi (j+1) l GR x hx;rw [au] at this;exact this
  ·intro p h0 h1 x hx h5;simp only [au,oC] at h1;by_cases hp:p<(s.nds.length:Int)
   ·have e:ndI {s with stp:=s.stp+1,cur:=cL l0 (r.take t.ar.toNat) (idP s.nds.length lr.length)++r.drop t.ar.toNat,nds:=s.nds++ns} p=ndI s p:=by
     unfold ndI;simp only;rw [aI (by omega)]
    rw [e] at hx;have bF:=h.ord p h0 hp x hx h5;have hv:=((h.nd _ (FV h0 hp)).2.1 x hx).2.2 h5;exact BU hv.2 hp bF
   ·obtain ⟨j,rfl⟩:∃j:Nat,p=((s.nds.length+j:Nat):Int):=⟨p.toNat-s.nds.length,by omega⟩;have hj:j<lr.length:=by omega
    have e:ndI {s with stp:=s.stp+1,cur:=cL l0 (r.take t.ar.toNat) (idP s.nds.length lr.length)++r.drop t.ar.toNat,nds:=s.nds++ns} ((s.nds.length+j:Nat):Int)=(cL lr[j] (r.take t.ar.toNat) (idP s.nds.length lr.length),false):=by
     unfold ndI;simp only;rw [show ((s.nds.length+j:Nat):Int).toNat=s.nds.length+j by omega,aC (by omega),show s.nds.length+j-s.nds.length=j by omega,<-Sq,cH,aj hj];rfl
    rw [e] at hx;have GR:t.ls[j+1]?=some lr[j]:=by rw [gV,ap,aj hj]
    have h2:=UP (j+1) lr[j] GR x hx h5;have h3:Da rk s.nds.length lr.length r0 ((s.nds.length+j:Nat):Int)=r0+(lr.length-1-j):=by
     unfold Da;rw [aA (by omega)];congr 2
     omega
    rw [h3];omega
  ·intro x hx h5 n hn;rcases be.1 hx with hx|hx
   ·have h2:=UP 0 l0 h00 x hx h5;have h3:=Pp n hn;rw [h3];omega
   ·have MG:=dr hx;have hv:=(I9 x MG).2.2 h5;exact zZ Dx hv.2 (MU x MG h5) n hn
  ·exact BT (fun g Nb=>⟨Dx g Nb,fun x hx h5=>(((h.fr g Nb).2.2.1 x hx).2.2 h5).2⟩) h.kb
  ·unfold pot;simp only;have h1:=CD (gA s.ks) s.nds ns 0;have h2:=vQ (cL l0 (r.take t.ar.toNat) (idP s.nds.length lr.length)++r.drop t.ar.toNat);omega
  ·simp only [au];omega
structure Mv (c:Cf) (s s':Im):Prop where
 iv:∃rk',Ii c rk' s'
 pt:pot s'+1<=pot s+138*(s'.stp-s.stp).toNat
 st:s.stp<=s'.stp
 sb:s.stp<s'.stp->s.stp<c.bud/\s'.stp=s.stp+1
 nl:s'.nds.length<=s.nds.length+12*(s'.stp-s.stp).toNat
theorem E6 {c:Cf} {n:Int} (ht:∀t∈c.fs,TGo c t) (hv:0<=n/\n<c.fs.length):TGo c (jx c n):=by
 refine ht _ ?_
 have bF:n.toNat<c.fs.length:=by omega
 unfold jx;rw [aA hv,aj bF];exact aE bF
theorem Ae {c:Cf} {rk:Int->Nat} {s:Im} (h:Ii c rk s) (ht:∀t∈c.fs,TGo c t) (ho:(dP c s).out=0):Mv c s (dP c s):=by
 have dI:=h.ne;obtain ⟨x,r,hc⟩:∃x r,s.cur=x::r:=by
  cases hq:s.cur with
  |nil=>exact absurd hq dI
  |cons a b=>exact ⟨a,b,rfl⟩
 have oE:hdI s.cur=x:=by rw [hc];rfl
 have ja:s.cur.tail=r:=by rw [hc];rfl
 have oG:nJ c s.cur->(lz c x s).out=0->Mv c s (lz c x s):=by
  intro hv ho;rw [<-oE] at ho ⊢;obtain ⟨d1,d2,d3,d4⟩:=Uc h hv ho;refine ⟨⟨rk,d1⟩,d2,by omega,d4,?_⟩
  have:(lz c (hdI s.cur) s).nds.length=s.nds.length:=by
   unfold lz;split
   ·split<;>rfl
   ·repeat' split
    all_goals simp
  omega
 unfold dP at ho ⊢;simp only [oE,ja] at ho ⊢;by_cases h5:x.1=5
 ·rw [aA h5] at ho ⊢;obtain ⟨x1,x2⟩:=x;simp only at h5;subst h5;obtain ⟨e1,e2⟩:=J9 h hc;simp only at e1 e2 ⊢;cases hd:(ndI s x2).2
  ·rw [hd] at e1 e2;simp only [cm,dc] at e1 e2 ⊢;exact ⟨⟨rk,e1⟩,by simp only;omega,by simp,fun e=>by simp at e,by simp only;omega⟩
  ·rw [hd] at e1 e2;simp only [cQ] at e1 e2 ⊢;exact ⟨⟨rk,e1⟩,by simp only;omega,by simp,fun e=>by simp at e,by simp only;omega⟩
 ·rw [ay h5] at ho ⊢;by_cases h3:x.1=3
  ·rw [aA h3] at ho ⊢;have hv:=(h.it x (by rw [hc];simp)).2.1 h3;by_cases iH:(jx c x.2).ar<=(r.length:Int)
   ·rw [aA iH] at ho ⊢;obtain ⟨x1,x2⟩:=x;simp only at h3;subst h3;obtain ⟨a1,a2,a3,a4,a5⟩:=Pb h hc (E6 ht hv) ho;have e1:(s.stp+1-s.stp).toNat=1:=by omega
    exact ⟨a1,by rw [a3,e1];omega,by omega,fun _=>⟨a4,a3⟩,by rw [a3,e1];omega⟩
   ·rw [ay iH] at ho ⊢;refine oG ⟨by rw [oE];exact h5,fun _=>by rw [oE,ja];omega,fun e=>by rw [oE] at e;omega,fun e=>by rw [oE] at e;omega⟩ ho
  ·rw [ay h3] at ho ⊢;by_cases h4:x.1=4
   ·rw [aA h4] at ho ⊢;by_cases iH:eR x.2<=(r.length:Int)
    ·rw [aA iH] at ho ⊢;obtain ⟨x1,x2⟩:=x;simp only at h4;subst h4;obtain ⟨e1,e2⟩:=Ud h hc iH;exact ⟨⟨rk,e1⟩,by simp only at e2 ⊢;omega,by simp,fun e=>by simp at e,by simp only;omega⟩
    ·rw [ay iH] at ho ⊢;refine oG ⟨by rw [oE];exact h5,fun e=>by rw [oE] at e;omega,fun _=>by rw [oE,ja];omega,fun _ e=>by rw [oE] at e;omega⟩ ho
   ·rw [ay h4] at ho ⊢;by_cases hp:0<r.length
    ·rw [aA hp] at ho;simp at ho
    ·rw [ay hp] at ho ⊢;refine oG ⟨by rw [oE];exact h5,fun e=>by rw [oE] at e;omega,fun e=>by rw [oE] at e;omega,fun _ _=>by rw [ja];omega⟩ ho
theorem lI (c:Cf):∀(n:Nat) (s:Im),s.out≠0->fi c n s=s
 |0,_,_=>rfl
 |n+1,s,h=>by rw [fi,ay h]
theorem s5 (c:Cf):∀(n:Nat) (s:Im),(fi c n s).out=0->fi c (n+1) s=dP c (fi c n s)
 |0,s,h=>by
  have h':s.out=0:=h;simp [fi,h']
 |n+1,s,h=>by
  by_cases hs:s.out=0
  ·have h2:(fi c n (dP c s)).out=0:=by rw [fi,aA hs] at h;exact h
   rw [fi,aA hs,s5 c n (dP c s) h2,fi,aA hs]
  ·rw [lI c (n+1) s hs] at h;exact absurd h hs
theorem s4 (c:Cf):∀(n m:Nat) (s:Im),n<=m->(fi c n s).out≠0->fi c m s=fi c n s
 |0,m,s,_,h=>lI c m s h
 |n+1,0,_,hm,_=>by omega
 |n+1,m+1,s,hm,h=>by
  by_cases hs:s.out=0
  ·rw [fi,aA hs] at h ⊢;rw [fi,aA hs];exact s4 c n m _ (by omega) h
  ·rw [lI c _ s hs,lI c _ s hs]
theorem Di (c:Cf) (n:Nat) (s:Im) (h:(fi c (n+1) s).out=0):(fi c n s).out=0:=by
 apply Classical.byContradiction
 intro hn;rw [s4 c n (n+1) _ (by omega) hn] at h;exact hn h
theorem Ag (c:Cf) (mn:Int) (h:0<=mn/\mn<c.fs.length):Ii c (fun _=>0) (gY mn):=by
 refine ⟨by simp [gY],fun x hx=>?_,fun f hf=>by simp [gY] at hf,fun n hn=>by simp [gY] at hn,fun p h0 h1=>by simp [gY] at h1;omega,fun x hx h5=>?_,trivial⟩
 ·simp [gY] at hx;subst hx;exact ⟨fun e=>by simp at e,fun _=>h,fun e=>by simp at e⟩
 ·simp [gY] at hx;subst hx;simp at h5
theorem Af {c:Cf} (ht:∀t∈c.fs,TGo c t) {s:Im} {rk:Int->Nat} (h:Ii c rk s) (hs:s.stp<=c.bud):∀i,(fi c i s).out=0->(∃rk',Ii c rk' (fi c i s))/\pot (fi c i s)+i<=pot s+138*((fi c i s).stp-s.stp).toNat/\s.stp<=(fi c i s).stp/\(fi c i s).stp<=c.bud/\(fi c i s).nds.length<=s.nds.length+12*((fi c i s).stp-s.stp).toNat
 |0,_=>⟨⟨rk,h⟩,by simp [fi],by simp [fi],hs,by simp [fi]⟩
 |i+1,ho=>by
  have ED:=Di c i s ho;obtain ⟨⟨rk',h1⟩,h2,h3,h4,h5⟩:=Af ht h hs i ED;rw [s5 c i s ED] at ho ⊢;obtain ⟨m1,m2,m3,m4,m5⟩:=Ae h1 ht ho;refine ⟨m1,?_,by omega,?_,?_⟩
  ·by_cases e:(fi c i s).stp<(dP c (fi c i s)).stp
   ·have:=(m4 e).2;omega
   ·omega
  ·by_cases e:(fi c i s).stp<(dP c (fi c i s)).stp
   ·have:=m4 e;omega
   ·omega
  ·by_cases e:(fi c i s).stp<(dP c (fi c i s)).stp
   ·have:=(m4 e).2;omega
   ·omega
theorem vZ (c:Cf) (mn:Int) (lW:0<=mn/\mn<c.fs.length) (ht:∀t∈c.fs,TGo c t) (jZ:0<=c.bud) (hb:c.bud<=2000):(fi c 276001 (gY mn)).out≠0:=by
 intro ho;obtain ⟨_,h2,h3,h4,_⟩:=Af ht (Ag c mn lW) (by exact jZ) 276001 ho;have e:pot (gY mn)=0:=by simp [pot,gY,qk,Fb,BD,hdI,gA]
 have e2:(gY mn).stp=0:=rfl;rw [e,e2] at h2;omega
theorem N8 (mn:Int):Rm (fun p=>p) (fun _=>False) (ep mn) (gY mn):=
 ⟨rfl,trivial,fun x hx h5=>by simp [ep] at hx;subst hx;simp at h5,fun f hf=>by simp [ep] at hf,fun _ h=>h.elim,fun _ _ h=>h.elim,fun p hp=>by simp [ep] at hp,by simp [ep],rfl,rfl,rfl⟩
theorem adA {c:Cf} (ht:∀t∈c.fs,TG c t):∀(n i:Nat) (φ:Int->Int) (L:Int->Prop) (m:Ms) (s:Im),Rm φ L m s->(m.out=0->Iv c m/\Ct i m)->
 (fF c n m).out=(fi c n s).out/\(fF c n m).val=(fi c n s).val/\(fF c n m).stp=(fi c n s).stp
 |0,_,_,_,_,_,h,_=>⟨h.out,h.val,h.stp⟩
 |n+1,i,φ,L,m,s,h,hi=>by
  rw [fF,fi];by_cases ho:m.out=0
  ·rw [aA ho,aA (by rw [<-h.out];exact ho)];obtain ⟨h1,h2⟩:=hi ho;obtain ⟨φ',L',h3⟩:=N6 h h1 ht;exact adA ht n (i+1) φ' L' _ _ h3 (fun ED=>F9 h1 h2 ht (fun s=>by have:=vB s;omega) (fun s p hp=>by have:=(Cr s p).1 hp;exact ⟨this.1,this.2.1⟩) ED)
  ·rw [ay ho,ay (by rw [<-h.out];exact ho)];exact ⟨h.out,h.val,h.stp⟩
def mI (c:Cf) (mn:Int):Im:=fi c 276001 (gY mn)
theorem BH (c:Cf) (mn:Int) (lW:0<=mn/\mn<c.fs.length) (ht:∀t∈c.fs,TG c t):
 (fF c 276001 (ep mn)).out=(mI c mn).out/\(fF c 276001 (ep mn)).val=(mI c mn).val/\(fF c 276001 (ep mn)).stp=(mI c mn).stp:=by
 refine adA ht 276001 0 _ _ _ _ (N8 mn) (fun _=>?_)
 refine ⟨⟨by simp [ep,flr],trivial,fun f hf=>by simp [ep] at hf,fun x hx=>?_,fun n hn=>by simp [ep] at hn,fun p hp=>by simp [ep] at hp⟩,⟨by simp [ep],by simp [ep],by simp [ep],by simp [ep],by simp [ep],by simp [ep]⟩⟩
 simp [ep] at hx;subst hx;exact ⟨fun e=>by simp at e,fun _=>lW,fun e=>by simp at e⟩
theorem FA (c:Cf) (mn:Int) (n:Nat) (h:(fi c n (gY mn)).out≠0) (hn:n<=276001):mI c mn=fi c n (gY mn):=s4 c n _ _ hn h
theorem AZ (nf:Nat) (ar:Int) (nl:Nat):∀(L:List Ln) (j:Nat),dM nf ar nl j L=true->∀(i:Nat) (l:Ln),L[i]?=some l->fy nf ar nl (j+i) l=true
 |[],_,_,i,l,h=>by simp at h
 |m::L,j,hg,i,l,h=>by
  rw [dM,aN] at hg;cases i with
  |zero=>simp at h;subst h;exact hg.1
  |succ i=>
   have:=AZ nf ar nl L (j+1) hg.2 i l (by simpa using h);rw [show j+(i+1)=j+1+i by omega];exact this
theorem o7 {cd:Cd} {bud hp:Int} (h:jK cd=true):(0<=cd.mn/\cd.mn<cd.fs.length)/\(∀t∈cd.fs,TGo ⟨cd.fs,bud,hp⟩ t)/\(cd.fs[cd.mn.toNat]?.getD ⟨0,[]⟩).ar=0/\∀t∈cd.fs,∀l∈t.ls,(hdI l).1≠5/\∀a∈l,(a.1=1\/a.1=2\/a.1=3\/a.1=4\/a.1=5)/\0<=a.2/\(a.1=2->a.2<t.ar)/\(a.1=4->a.2<5)/\(a.1=1->a.2<=999999):=by
 simp only [jK,aN,aL,b8] at h;obtain ⟨h1,h2,h3,h4,h5,h6⟩:=h;refine ⟨⟨h3,h4⟩,fun t ht=>?_,h6,fun t ht l hl=>?_⟩
 ·have g:=h5 t ht;simp only [kl,aN,aL] at g;obtain ⟨g1,g2,g3,g4,g5⟩:=g;have dt:=AZ cd.fs.length t.ar t.ls.length t.ls 0 g5;refine ⟨⟨g1,g2,g3,g4,fun l hl=>?_⟩,fun j l dG a ha e=>?_⟩
  ·obtain ⟨i,hi,rfl⟩:=cl.1 hl;have hi:=dt i _ (aj hi);simp only [fy,aN,aL,b8] at hi;obtain ⟨k1,k2,_,_,k5⟩:=hi;refine ⟨k2,k1,fun a ha=>?_⟩
   have q:=k5 a ha;simp only [g7,aN,aL] at q;obtain ⟨q1,q2,_⟩:=q;unfold j0 at q2;refine ⟨fun e=>?_,fun e=>?_,fun e=>?_⟩
   ·rw [aA e] at q2;omega
   ·rw [ay (by omega),ay (by omega),aA e] at q2;exact ⟨q1,q2⟩
   ·rw [ay (by omega),ay (by omega),ay (by omega),ay (by omega),aA e] at q2;exact ⟨q1,by omega⟩
  ·have hi:=dt j l dG;simp only [fy,aN,aL,b8] at hi;obtain ⟨_,_,_,_,k5⟩:=hi;have q:=k5 a ha;simp only [g7,aN,aL] at q;obtain ⟨_,_,q3⟩:=q;simp [e] at q3;omega
 ·have g:=h5 t ht;simp only [kl,aN,aL] at g;obtain ⟨g1,g2,g3,g4,g5⟩:=g;obtain ⟨i,hi,rfl⟩:=cl.1 hl;have hi:=AZ cd.fs.length t.ar t.ls.length t.ls 0 g5 i _ (aj hi);simp only [fy,aN,aL,b8] at hi;obtain ⟨k1,k2,_,k4,k5⟩:=hi;refine ⟨?_,fun a ha=>?_⟩
  ·cases hq:t.ls[i] with
   |nil=>simp [hdI]
   |cons a b=>rw [hq] at k4;simpa [hdI] using k4
  ·have q:=k5 a ha;simp only [g7,aN,aL] at q;obtain ⟨q1,q2,_⟩:=q;unfold j0 at q2;refine ⟨?_,q1,fun e=>?_,fun e=>?_,fun e=>?_⟩
   ·by_cases e1:a.1=1
    ·exact .inl e1
    by_cases e2:a.1=2
    ·exact .inr (.inl e2)
    by_cases e3:a.1=3
    ·exact .inr (.inr (.inl e3))
    by_cases e4:a.1=4
    ·exact .inr (.inr (.inr (.inl e4)))
    by_cases e5:a.1=5
    ·exact .inr (.inr (.inr (.inr e5)))
    rw [ay e1,ay e2,ay e3,ay e4,ay e5] at q2;omega
   ·rw [ay (by omega),aA e] at q2;exact q2
   ·rw [ay (by omega),ay (by omega),ay (by omega),aA e] at q2;exact q2
   ·rw [aA e] at q2;omega
theorem NY {c:Cf} (h:∀t∈c.fs,TGo c t):∀t∈c.fs,TG c t:=fun t ht=>(h t ht).tg
theorem FU (s:Im):mM s<=s.nds.length:=(oj (asM s)).le
structure M1 (c:Cf) (s s':Im):Prop where
 st:s'.stp=s.stp\/(s'.stp=s.stp+1/\s.stp<c.bud)
 ou:s'.out=0\/s'.out=1\/s'.out=2\/s'.out=3\/(s'.out=4/\s'.stp=s.stp+1)\/(s'.out=5/\c.bud<=s.stp/\s'={s with out:=5})\/(s'.out=6/\s.stp<c.bud/\s'={s with out:=6}/\∃t:Tp,c.hp<(mM s:Int)+((t.ls.length:Int)-1)/\(hdI s.cur).1=3/\t=jx c (hdI s.cur).2)
 vl:s'.val=s.val\/s'.out=1
theorem Ik (c:Cf) (t:Int×Int) (s:Im) (h0:s.out=0):M1 c s (lz c t s):=by
 unfold lz;split
 ·split
  ·exact ⟨.inl rfl,.inr (.inl rfl),.inr rfl⟩
  ·exact ⟨.inl rfl,.inr (.inr (.inl rfl)),.inl rfl⟩
 ·next f ks hk=>
  split
  ·exact ⟨.inl rfl,.inl h0,.inl rfl⟩
  ·split
   ·exact ⟨.inl rfl,.inr (.inr (.inr (.inl rfl))),.inl rfl⟩
   ·split
    ·exact ⟨.inl rfl,.inl h0,.inl rfl⟩
    ·split
     ·next hb=>exact ⟨.inl rfl,.inr (.inr (.inr (.inr (.inr (.inl ⟨rfl,hb,by rw [hk]⟩))))),.inl rfl⟩
     ·next hb=>
      have oT:s.stp<c.bud:=by omega
      split
      ·exact ⟨.inr ⟨rfl,oT⟩,.inl h0,.inl rfl⟩
      ·split
       ·exact ⟨.inr ⟨rfl,oT⟩,.inr (.inr (.inr (.inr (.inl ⟨rfl,rfl⟩)))),.inl rfl⟩
       ·exact ⟨.inr ⟨rfl,oT⟩,.inl h0,.inl rfl⟩
theorem Rw (c:Cf) (r:Ln) (s:Im) (h0:s.out=0) (h3:(hdI s.cur).1=3):M1 c s (eX c (jx c (hdI s.cur).2) r s):=by
 unfold eX;split
 ·next hb=>exact ⟨.inl rfl,.inr (.inr (.inr (.inr (.inr (.inl ⟨rfl,hb,rfl⟩))))),.inl rfl⟩
 ·next hb=>
  have oT:s.stp<c.bud:=by omega
  split
  ·next hf=>exact ⟨.inl rfl,.inr (.inr (.inr (.inr (.inr (.inr ⟨rfl,oT,rfl,_,hf,h3,rfl⟩))))),.inl rfl⟩
  ·exact ⟨.inr ⟨rfl,oT⟩,.inl h0,.inl rfl⟩
theorem Ou (c:Cf) (s:Im) (h0:s.out=0):M1 c s (dP c s):=by
 unfold dP;simp only;split
 ·split<;>exact ⟨.inl rfl,.inl h0,.inl rfl⟩
 ·split
  ·next h3=>
   split
   ·exact Rw c _ s h0 h3
   ·exact Ik c _ s h0
  ·split
   ·split
    ·exact ⟨.inl rfl,.inl h0,.inl rfl⟩
    ·exact Ik c _ s h0
   ·split
    ·exact ⟨.inl rfl,.inr (.inr (.inr (.inl rfl))),.inl rfl⟩
    ·exact Ik c _ s h0
theorem B6 (c:Cf):∀(n:Nat) (s:Im),s.out=0->(fi c n s).val=s.val\/(fi c n s).out=1
 |0,s,_=>.inl rfl
 |n+1,s,h0=>by
  rw [fi,aA h0];have h1:=Ou c s h0;by_cases ho:(dP c s).out=0
  ·rcases B6 c n _ ho with h|h
   ·rcases h1.vl with h2|h2
    ·exact .inl (h.trans h2)
    ·omega
   ·exact .inr h
  ·rw [lI c n _ ho];exact h1.vl
structure Rn (c:Cf) (s:Im):Prop where
 iv:∃rk,Ii c rk s
 s0:0<=s.stp
 s1:s.stp<=c.bud
 nl:s.nds.length<=12*s.stp.toNat
structure Fin1 (c:Cf) (s:Im):Prop where
 ou:s.out=1\/s.out=2\/s.out=3\/s.out=4\/s.out=5\/s.out=6
 vl:s.out≠1->s.val=0
 sp:s.out=5->s.stp=c.bud
 s0:0<=s.stp
 s1:s.stp<=c.bud
 one:s.out≠5->s.out≠6->1<=s.stp
 fu:12*c.bud<=c.hp->s.out≠6
def Ev (c:Cf) (ks:List Kf):Nat->Im->Im->Prop
 |0,s,T=>T=s/\(s.out≠0\/(s.ks=ks/\nJ c s.cur))
 |n+1,s,T=>s.out=0/\¬(s.ks=ks/\nJ c s.cur)/\Ev c ks n (dP c s) T
theorem A3 {c:Cf} {ks:List Kf}:∀{n:Nat} {s T:Im},Ev c ks n s T->T=fi c n s/\(T.out≠0\/(T.ks=ks/\nJ c T.cur))
 |0,s,T,h=>by obtain ⟨rfl,h⟩:=h;exact ⟨rfl,h⟩
 |n+1,s,T,h=>by
  obtain ⟨h1,_,h3⟩:=h;obtain ⟨e,h4⟩:=A3 h3;exact ⟨by rw [fi,aA h1];exact e,h4⟩
theorem yY (c:Cf) (ks:List Kf):∀(N:Nat) (s:Im),(fi c N s).out≠0->∃n T,n<=N/\Ev c ks n s T
 |0,s,h=>⟨0,s,ah _,rfl,.inl h⟩
 |N+1,s,h=>by
  by_cases h0:s.out=0
  ·by_cases hv:s.ks=ks/\nJ c s.cur
   ·exact ⟨0,s,by omega,rfl,.inr hv⟩
   ·rw [fi,aA h0] at h;obtain ⟨n,T,hn,he⟩:=yY c ks N (dP c s) h;exact ⟨n+1,T,by omega,h0,hv,he⟩
  ·exact ⟨0,s,by omega,rfl,.inl h0⟩
theorem kq (c:Cf) (s:Im):
 ((hdI s.cur).1=5/\dP c s=(if (ndI s (hdI s.cur).2).2 then {s with cur:=(ndI s (hdI s.cur).2).1++s.cur.tail} else {s with cur:=(ndI s (hdI s.cur).2).1,ks:=⟨1,(hdI s.cur).2,0,0,s.cur.tail⟩::s.ks}))\/
 ((hdI s.cur).1=3/\(jx c (hdI s.cur).2).ar<=(s.cur.tail.length:Int)/\dP c s=eX c (jx c (hdI s.cur).2) s.cur.tail s)\/
 ((hdI s.cur).1=4/\eR (hdI s.cur).2<=(s.cur.tail.length:Int)/\dP c s={s with cur:=[hdI s.cur.tail],ks:=⟨2,0,(hdI s.cur).2,0,s.cur.tail.tail⟩::s.ks})\/
 ((hdI s.cur).1≠5/\(hdI s.cur).1≠3/\(hdI s.cur).1≠4/\0<s.cur.tail.length/\dP c s={s with out:=3})\/
 (nJ c s.cur/\dP c s=lz c (hdI s.cur) s):=by
 unfold dP;simp only;by_cases h5:(hdI s.cur).1=5
 ·rw [aA h5];exact .inl ⟨h5,rfl⟩
 rw [ay h5];by_cases h3:(hdI s.cur).1=3
 ·rw [aA h3];by_cases hl:(jx c (hdI s.cur).2).ar<=(s.cur.tail.length:Int)
  ·rw [aA hl];exact .inr (.inl ⟨h3,hl,rfl⟩)
  ·rw [ay hl];exact .inr (.inr (.inr (.inr ⟨⟨h5,fun _=>by omega,fun e=>by omega,fun e=>by omega⟩,rfl⟩)))
 rw [ay h3];by_cases h4:(hdI s.cur).1=4
 ·rw [aA h4];by_cases hl:eR (hdI s.cur).2<=(s.cur.tail.length:Int)
  ·rw [aA hl];exact .inr (.inr (.inl ⟨h4,hl,rfl⟩))
  ·rw [ay hl];exact .inr (.inr (.inr (.inr ⟨⟨h5,fun e=>by omega,fun _=>by omega,fun _ e=>by omega⟩,rfl⟩)))
 rw [ay h4];by_cases hl:0<s.cur.tail.length
 ·rw [aA hl];exact .inr (.inr (.inr (.inl ⟨h5,h3,h4,hl,rfl⟩)))
 ·rw [ay hl];exact .inr (.inr (.inr (.inr ⟨⟨h5,fun e=>by omega,fun e=>by omega,fun _ _=>by omega⟩,rfl⟩)))
theorem xb (c:Cf) (t:Tp) (r:Ln) (s:Im):(eX c t r s).ks=s.ks:=by
 unfold eX;split
 ·rfl
 ·split<;>rfl
theorem JU {c:Cf} {s:Im} {f:Kf} {pre ks:List Kf} (hk:s.ks=pre++f::ks) (hv:¬(s.ks=f::ks/\nJ c s.cur)):∃pre',(dP c s).ks=pre'++f::ks:=by
 rcases kq c s with ⟨_,e⟩|⟨_,_,e⟩|⟨_,_,e⟩|⟨_,_,_,_,e⟩|⟨mP,e⟩
 ·rw [e];split
  ·exact ⟨pre,hk⟩
  ·exact ⟨⟨1,(hdI s.cur).2,0,0,s.cur.tail⟩::pre,by simp [hk]⟩
 ·rw [e];exact ⟨pre,by rw [xb];exact hk⟩
 ·rw [e];exact ⟨⟨2,0,(hdI s.cur).2,0,s.cur.tail.tail⟩::pre,by simp [hk]⟩
 ·rw [e];exact ⟨pre,hk⟩
 ·rw [e];cases pre with
  |nil=>exact absurd ⟨hk,mP⟩ hv
  |cons g pre=>
   unfold lz;rw [hk];simp only [eO]
   repeat' split
   all_goals first
    |exact ⟨pre,rfl⟩
    |exact ⟨⟨3,0,g.pr,(hdI s.cur).2,g.rs.tail⟩::pre,rfl⟩
    |exact ⟨g::pre,rfl⟩
theorem sl {c:Cf} (ht:∀t∈c.fs,TGo c t) {f:Kf} {ks:List Kf}:∀(n:Nat) (s T:Im) (pre:List Kf) (rk:Int->Nat),Ii c rk s->s.ks=pre++f::ks->Ev c ks n s T->∃n1 n2 T1,n1+n2=n/\Ev c (f::ks) n1 s T1/\Ev c ks n2 T1 T
 |0,s,T,pre,rk,hi,hk,he=>by
  obtain ⟨rfl,h⟩:=he;rcases h with h|⟨h,_⟩
  ·exact ⟨0,0,T,rfl,⟨rfl,.inl h⟩,rfl,.inl h⟩
  ·have:=congrArg List.length (hk.symm.trans h);simp at this;omega
 |n+1,s,T,pre,rk,hi,hk,he=>by
  by_cases hv:s.ks=f::ks/\nJ c s.cur
  ·exact ⟨0,n+1,s,by omega,⟨rfl,.inr hv⟩,he⟩
  ·obtain ⟨h0,h1,h2⟩:=he;by_cases ho:(dP c s).out=0
   ·obtain ⟨pre',vk⟩:=JU hk hv;obtain ⟨rk',pL⟩:=(Ae hi ht ho).iv;obtain ⟨n1,n2,T1,e,e1,e2⟩:=sl ht n (dP c s) T pre' rk' pL vk h2;exact ⟨n1+1,n2,T1,by omega,⟨h0,hv,e1⟩,e2⟩
   ·exact ⟨1,n,dP c s,by omega,⟨h0,hv,rfl,.inl ho⟩,h2⟩
theorem WN (c:Cf) (mn:Int) (lW:0<=mn/\mn<c.fs.length) (ht:∀t∈c.fs,TGo c t) (jZ:0<=c.bud) (hb:c.bud<=2000):
 ∃n T,n<=276001/\Ev c [] n (gY mn) T/\(T.out≠0->mI c mn=T)/\(T.out=0->(mI c mn).stp=T.stp/\(mI c mn).out=(if (hdI T.cur).1=1 then 1 else 2)/\(mI c mn).val=(if (hdI T.cur).1=1 then (hdI T.cur).2 else 0)):=by
 have Dy:=vZ c mn lW ht jZ hb;obtain ⟨n,T,hn,he⟩:=yY c [] 276001 (gY mn) Dy;obtain ⟨e,hT⟩:=A3 he;refine ⟨n,T,hn,he,fun h=>by rw [e] at h ⊢;exact FA c mn n h hn,fun h=>?_⟩
 have hv:=hT.resolve_left (fun g=>g h);have bF:n<276001:=by
  rcases Nat.lt_or_eq_of_le hn with g|g
  ·exact g
  ·subst g;rw [e] at h;exact absurd h Dy
 obtain ⟨⟨rk,hi⟩,_⟩:=Af ht (Ag c mn lW) (by exact jZ) n (by rw [<-e];exact h);rw [<-e] at hi;have Cb:T.val=0:=by
  rcases B6 c n (gY mn) rfl with g|g
  ·rw [<-e] at g;exact g
  ·rw [<-e] at g;omega
 have hm:dP c T=lz c (hdI T.cur) T:=by
  rcases kq c T with ⟨g,_⟩|⟨g,g2,_⟩|⟨g,g2,_⟩|⟨g1,g2,g3,g4,_⟩|⟨_,g⟩
  ·exact absurd g hv.2.1
  ·have:=hv.2.2.1 g;omega
  ·have:=hv.2.2.2.1 g;omega
  ·have:=hv.2.2.2.2 g2 g3;omega
  ·exact g
 have e2:fi c (n+1) (gY mn)=lz c (hdI T.cur) T:=by rw [s5 c n _ (by rw [<-e];exact h),<-e,hm]
 have e3:lz c (hdI T.cur) T=if (hdI T.cur).1=1 then {T with out:=1,val:=(hdI T.cur).2} else {T with out:=2}:=by
  unfold lz;rw [hv.1]
 have e4:mI c mn=lz c (hdI T.cur) T:=by
  rw [<-e2];refine FA c mn (n+1) ?_ (by omega)
  rw [e2,e3];split<;>simp
 rw [e4,e3];split
 ·exact ⟨rfl,rfl,rfl⟩
 ·exact ⟨rfl,rfl,Cb⟩
open Go.RowKit
theorem Tb (s:ByteArray) (bud hp:Int) (cd:Cd) (w:World) (hs:s.size<=maxLen) (eu:rdC s=some cd) (zn:rdE s=0) (jZ:0<=bud) (bB:bud<=2000) (Jf:0<=hp) (Cj:hp<=24000) (hg:jK cd=true):
 Calls Tryz.prog 12 #[.string s,.int .i64 bud,.int .i64 hp] w fun e w'=>e=.returned (.tuple #[.agg #[.int .i64 (mI ⟨cd.fs,bud,hp⟩ cd.mn).out,.int .i64 (mI ⟨cd.fs,bud,hp⟩ cd.mn).val,.int .i64 (mI ⟨cd.fs,bud,hp⟩ cd.mn).stp],.int .i64 0])/\Below w.heap.size w w':=by
 obtain ⟨lW,mQ,_,_⟩:=o7 (bud:=bud) (hp:=hp) hg;obtain ⟨e1,e2,e3⟩:=BH ⟨cd.fs,bud,hp⟩ cd.mn lW (NY mQ);have Dy:=vZ ⟨cd.fs,bud,hp⟩ cd.mn lW mQ jZ bB;have h:=Ta s bud hp cd 276001 w hs eu zn jZ bB Jf Cj lW (fun t ht=>(mQ t ht).tg) (by omega) (by rw [e1];exact Dy);rw [e1,e2,e3] at h;exact h
theorem Y5 (s:ByteArray) (bud hp:Int) (cd:Cd) (w:World) (hs:s.size<=maxLen) (eu:rdC s=some cd) (zn:rdE s=0) (jZ:0<=bud) (bB:bud<=2000) (Jf:0<=hp) (Cj:hp<=24000) (hg:jK cd=true):
 Calls Tryz.prog 17 #[.string s,.int .i64 bud,.int .i64 hp] w fun e w'=>e=.returned (.tuple #[.agg #[.int .i64 (mI ⟨cd.fs,bud,hp⟩ cd.mn).out,.int .i64 (mI ⟨cd.fs,bud,hp⟩ cd.mn).val,.int .i64 (mI ⟨cd.fs,bud,hp⟩ cd.mn).stp],.int .i64 0])/\Below w.heap.size w w':=by
 obtain ⟨lW,mQ,_,_⟩:=o7 (bud:=bud) (hp:=hp) hg;obtain ⟨e1,e2,e3⟩:=BH ⟨cd.fs,bud,hp⟩ cd.mn lW (NY mQ);have Dy:=vZ ⟨cd.fs,bud,hp⟩ cd.mn lW mQ jZ bB;have h:=Mz s bud hp cd 276001 w hs eu zn jZ bB Jf Cj ⟨Jf,by show hp<=_;omega,fun t ht=>by have h:=(mQ t ht).tg;exact ⟨h.a0,by have:=h.a1;omega,h.n0,by have:=h.n1;omega,fun l hl=>by have:=(h.ln l hl).2.1;omega⟩⟩
  (fun i hi ho=>by
   obtain ⟨h1,h2⟩:=Ab ⟨cd.fs,bud,hp⟩ cd.mn lW (NY mQ) i ho;exact TQ h1 h2 (by omega)) (by rw [e1];exact Dy)
 rw [e1,e2,e3] at h;exact h
end Go.Proofs.YtnndoagpbcacdabGreatDoor
