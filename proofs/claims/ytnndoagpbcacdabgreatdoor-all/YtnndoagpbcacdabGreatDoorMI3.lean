import Derived.Test.YtnndoagpbcacdabGreatDoorMI1
namespace Go.Proofs.YtnndoagpbcacdabGreatDoor
theorem N5 {φ:Int->Int} {L:Int->Prop} {m:Ms} {s:Im} (h:Rm φ L m s):
 (∀p∈(eD m).2,L p)/\(eD m).2.length=mM s/\(∀x∈m.stk,x.1=5->x.2∈(eD m).2)/\(∀f∈m.frs,f.k=1->f.nd∈(eD m).2)/\∀p∈(eD m).2,∀x∈(ndA m p).1,x.1=5->x.2∈(eD m).2:=by
 have k1:=mL (s:=m) (R:=L) (fun p hp=>(h.ndL p hp).2.2.2) h.stL h.frL;obtain ⟨r1,r2,r3,r4,r5⟩:=k1;have q3:∀x∈m.stk,x.1=5->x.2∈(eD m).2:=fun x hx h5=>by
  have:=(h.ndL _ (h.stL x hx h5)).1;exact r3 x hx h5 this.1 this.2
 have q4:∀f∈m.frs,f.k=1->f.nd∈(eD m).2:=fun f hf h1=>by
  have:=(h.ndL _ (h.frL f hf h1)).1;exact r4 f hf h1 this.1 this.2
 have q5:∀p∈(eD m).2,∀x∈(ndA m p).1,x.1=5->x.2∈(eD m).2:=fun p hp x hx h5=>by
  have:=(h.ndL _ ((h.ndL p (r2 p hp)).2.2.2 x hx h5)).1;exact r5 p hp x hx h5 this.1 this.2
 refine ⟨r2,?_,q3,q4,q5⟩
 have mo:∀(l:List Fr) (ks:List Kf),FrR φ l ks->∀g∈ks,g.k=1->∃f∈l,f.k=1/\φ f.nd=g.nd:=by
  intro l;induction l with
  |nil=>intro ks hk g hg;cases ks with
   |nil=>simp at hg
   |cons a b=>exact hk.elim
  |cons f l ih=>intro ks hk g hg h1;cases ks with
   |nil=>exact hk.elim
   |cons a b=>
    rcases aK.1 hg with rfl|hg
    ·exact ⟨f,by simp,by rw [hk.1.1];exact h1,hk.1.2.2.1 (by rw [hk.1.1];exact h1)⟩
    ·obtain ⟨f',wK,e⟩:=ih b hk.2 g hg h1;exact ⟨f',by simp [wK],e⟩
 have Qq:∀(l:List Fr) (ks:List Kf),FrR φ l ks->∀f∈l,f.k=1->∃g∈ks,g.k=1/\φ f.nd=g.nd:=by
  intro l;induction l with
  |nil=>intro ks hk f hf;simp at hf
  |cons f0 l ih=>intro ks hk f hf h1;cases ks with
   |nil=>exact hk.elim
   |cons a b=>
    rcases aK.1 hf with rfl|hf
    ·exact ⟨a,by simp,by rw [<-hk.1.1];exact h1,hk.1.2.2.1 h1⟩
    ·obtain ⟨g,hg,e⟩:=ih b hk.2 f hf h1;exact ⟨g,by simp [hg],e⟩
 have cX:∀x∈(asM s).stk,x.1=5->∃p∈(eD m).2,φ p=x.2:=by
  intro x hx h5;have hx':x∈m.stk.map (mp φ):=by rw [h.stk];exact hx
  obtain ⟨y,hy,rfl⟩:=bZ.1 hx';rw [z6] at h5;refine ⟨y.2,q3 y hy h5,?_⟩
  unfold mp;rw [aA h5]
 have QL:∀f∈(asM s).frs,f.k=1->∃p∈(eD m).2,φ p=f.nd:=by
  intro f hf h1;obtain ⟨g,hg,rfl⟩:=bZ.1 hf;obtain ⟨f',wK,e1,e2⟩:=mo _ _ h.frs g hg h1;exact ⟨f'.nd,q4 f' wK e1,e2⟩
 have lx:∀p,ndA (asM s) p=ndI s p:=fun _=>rfl
 have xv:∀p,(∃q∈(eD m).2,φ q=p)->∀x∈(ndA (asM s) p).1,x.1=5->∃q∈(eD m).2,φ q=x.2:=by
  rintro p ⟨q,hq,rfl⟩ x hx h5
  rw [lx,(h.ndL q (r2 q hq)).2.2.1] at hx;obtain ⟨y,hy,rfl⟩:=bZ.1 hx;rw [z6] at h5;refine ⟨y.2,q5 q hq y hy h5,?_⟩
  unfold mp;rw [aA h5]
 have k2:=mL (s:=asM s) (R:=fun p=>∃q∈(eD m).2,φ q=p) xv cX QL;obtain ⟨t1,t2,t3,t4,t5⟩:=k2;have mP:∀q∈(eD m).2,0<=φ q/\φ q<(asM s).nds.length:=fun q hq=>(h.ndL q (r2 q hq)).2.1
 have k3:=mL (s:=m) (R:=fun p=>L p/\φ p∈(eD (asM s)).2)
  (fun p hp x hx h5=>by
   have h1:=h.ndL p hp.1;refine ⟨h1.2.2.2 x hx h5,?_⟩
   have h2:=h.ndL _ (h1.2.2.2 x hx h5);refine t5 (φ p) hp.2 (5,φ x.2) ?_ rfl h2.2.1.1 h2.2.1.2
   rw [lx,h1.2.2.1];refine bZ.2 ⟨x,hx,?_⟩
   unfold mp;rw [aA h5])
  (fun x hx h5=>by
   have h2:=h.ndL _ (h.stL x hx h5);refine ⟨h.stL x hx h5,t3 (5,φ x.2) ?_ rfl h2.2.1.1 h2.2.1.2⟩
   show _∈s.cur++flK s.ks
   rw [<-h.stk];refine bZ.2 ⟨x,hx,?_⟩
   unfold mp;rw [aA h5])
  (fun f hf h1=>by
   have h2:=h.ndL _ (h.frL f hf h1);obtain ⟨g,hg,e1,e2⟩:=Qq _ _ h.frs f hf h1;refine ⟨h.frL f hf h1,?_⟩
   have:=t4 ⟨g.k,0,g.nd,g.pr,g.nu⟩ (bZ.2 ⟨g,hg,rfl⟩) e1 (by simp only;rw [<-e2];exact h2.2.1.1) (by simp only;rw [<-e2];exact h2.2.1.2);rw [e2];exact this)
 unfold mM;rw [<-bK φ];refine JO _ _ (xV φ _ (qz m) (fun x hx y hy e=>h.inj _ _ (r2 x hx) (r2 y hy) e)) (qz _) (fun x=>?_)
 constructor
 ·intro hx;obtain ⟨q,hq,rfl⟩:=bZ.1 hx;exact (k3.2.1 q hq).2
 ·intro hx;obtain ⟨q,hq,rfl⟩:=t2 x hx;exact bZ.2 ⟨q,hq,rfl⟩
theorem N7 {φ:Int->Int} {L:Int->Prop} {c:Cf} {m:Ms} {s:Im} (h:Rm φ L m s) (n:Int):
 (∃L',Rm φ L' (gh c n m) s)/\(n<=lD c (gh c n m)↔¬c.hp<(mM s:Int)+n):=by
 obtain ⟨n1,n2,n3,n4,n5⟩:=N5 h;unfold gh;by_cases hr:lD c m<n
 ·rw [aA hr];refine ⟨⟨fun p=>p∈(eD m).2,h.stk,h.frs,n3,n4,fun p hp=>?_,fun p q hp hq=>h.inj p q (n1 p hp) (n1 q hq),fun p hp=>?_,DQ m,h.stp,h.out,h.val⟩,?_⟩
  ·obtain ⟨a,b,d,_⟩:=h.ndL p (n1 p hp);exact ⟨a,b,d,n5 p hp⟩
  ·have:=(Cr m p).1 hp;exact ⟨⟨this.1,this.2.1⟩,this.2.2⟩
  ·have hf:=vB m;unfold lD;have hl:(lL m).nds.length=m.nds.length:=rfl;rw [hl];omega
 ·rw [ay hr];refine ⟨⟨L,h⟩,?_⟩
  have hb:(eD m).2.length+m.fre.length<=m.nds.length:=by
   rw [<-au];refine zX _ _ (List.nodup_append.2 ⟨qz m,h.nod,fun a ha b hb e=>(h.fre b hb).2 (e ▸ n1 a ha)⟩) (fun x hx=>?_)
   rcases be.1 hx with hx|hx
   ·exact (h.ndL x (n1 x hx)).1
   ·exact (h.fre x hx).1
  unfold lD at hr ⊢;omega
theorem ww {α:Type}:∀{l:List α} {i j:Nat} {p:α},l.Nodup->l[i]?=some p->l[j]?=some p->i=j
 |[],i,j,p,_,h,_=>by simp at h
 |a::l,0,0,p,_,_,_=>rfl
 |a::l,0,j+1,p,hn,h1,h2=>by
  simp at h1 h2;exact absurd (bm h2) (h1 ▸ (dh.1 hn).1)
 |a::l,i+1,0,p,hn,h1,h2=>by
  simp at h1 h2;exact absurd (bm h1) (h2 ▸ (dh.1 hn).1)
 |a::l,i+1,j+1,p,hn,h1,h2=>by
  have nO:l[i]?=some p:=by simpa using h1
  have zr:l[j]?=some p:=by simpa using h2
  have:=ww (dh.1 hn).2 nO zr;omega
structure TkD (m m':Ms) (ps:List Int):Prop where
 nod:ps.Nodup
 src:∀p∈ps,p∈m.fre\/(m.nds.length:Int)<=p
 fre:∀p∈m'.fre,p∈m.fre/\p∉ps
 fnd:m'.fre.Nodup
theorem Fa:∀(n:Nat) (m:Ms),(∀p∈m.fre,0<=p/\p<m.nds.length)->m.fre.Nodup->TkD m (hZ n m) (takeL n m)
 |0,m,_,hn=>⟨by simp [takeL],fun p hp=>by simp [takeL] at hp,fun p hp=>⟨hp,by simp [takeL]⟩,hn⟩
 |n+1,m,hv,hn=>by
  rw [hZ,takeL];cases hf:m.fre with
  |nil=>
   have e1:jO m={m with nds:=m.nds++[([],false)]}:=by unfold jO;rw [hf]
   have e2:mG m=m.nds.length:=by unfold mG;rw [hf]
   rw [e1,e2];have ih:=Fa n {m with nds:=m.nds++[([],false)]} (fun p hp=>by simp only [hf] at hp;simp at hp) hn;have xt:∀p,p∉({m with nds:=m.nds++[([],false)]}:Ms).fre:=fun p hp=>by simp only [hf] at hp;simp at hp
   refine ⟨dh.2 ⟨fun hm=>?_,ih.nod⟩,fun p hp=>?_,fun p hp=>absurd (ih.fre p hp).1 (xt p),ih.fnd⟩
   ·rcases ih.src _ hm with h|h
    ·exact xt _ h
    ·simp at h;omega
   ·rcases aK.1 hp with rfl|hp
    ·exact .inr (by omega)
    ·rcases ih.src p hp with h|h
     ·exact absurd h (xt p)
     ·simp at h;exact .inr (by omega)
  |cons x r=>
   have e1:jO m={m with fre:=r}:=by unfold jO;rw [hf]
   have e2:mG m=x:=by unfold mG;rw [hf]
   rw [e1,e2];rw [hf] at hn;have hx:=hv x (by rw [hf];simp);have ih:=Fa n {m with fre:=r} (fun p hp=>hv p (by rw [hf];exact cu _ hp)) (dh.1 hn).2;have MG:=(dh.1 hn).1;refine ⟨dh.2 ⟨fun hm=>?_,ih.nod⟩,fun p hp=>?_,fun p hp=>?_,ih.fnd⟩
   ·rcases ih.src _ hm with h|h
    ·exact MG h
    ·simp at h;omega
   ·rcases aK.1 hp with rfl|hp
    ·exact .inl (by rw [hf];simp)
    ·rcases ih.src p hp with h|h
     ·exact .inl (by rw [hf];exact cu _ h)
     ·exact .inr h
   ·obtain ⟨a,b⟩:=ih.fre p hp;have jD:p∈r:=a;exact ⟨by rw [hf];simp [jD],fun hm=>by
     rcases aK.1 hm with rfl|hm
     ·exact MG jD
     ·exact b hm⟩
theorem BE:∀(n:Nat) (m:Ms),(takeL n m).length=n
 |0,_=>rfl
 |n+1,m=>by rw [takeL,aD,BE n]
theorem MD (ar:Ln) (ps:List Int):∀(ls:List Ln) (i:Nat) (m:Ms),i+ls.length=ps.length->ps.Nodup->(∀p∈ps,0<=p/\p<m.nds.length)->
 (∀(j:Nat) (hj:j<ls.length),∃p,ps[i+j]?=some p/\ndA (mh ar ps (i+1) ls m) p=(cL ls[j] ar ps,false))/\
 (∀p:Int,0<=p->(∀q:Nat,i<=q->ps[q]?≠some p)->ndA (mh ar ps (i+1) ls m) p=ndA m p)/\
 (mh ar ps (i+1) ls m).stk=m.stk/\(mh ar ps (i+1) ls m).frs=m.frs/\(mh ar ps (i+1) ls m).fre=m.fre/\(mh ar ps (i+1) ls m).stp=m.stp/\(mh ar ps (i+1) ls m).out=m.out/\(mh ar ps (i+1) ls m).val=m.val/\(mh ar ps (i+1) ls m).nds.length=m.nds.length
 |[],i,m,_,_,_=>⟨fun j hj=>by simp at hj,fun _ _ _=>rfl,rfl,rfl,rfl,rfl,rfl,rfl,rfl⟩
 |l::ls,i,m,hl,hn,hv=>by
  have hi:i<ps.length:=by simp at hl;omega
  have Sp:=hv ps[i] (aE hi);have e:mh ar ps (i+1) (l::ls) m=mh ar ps (i+1+1) ls {m with nds:=m.nds.set ps[i].toNat (cL l ar ps,false)}:=by
   rw [mh,aA hi,aj hi,b6,xn,aA Sp]
  rw [e];obtain ⟨a1,a2,a3,a4,a5,a6,a7,a8,a9⟩:=MD ar ps ls (i+1) {m with nds:=m.nds.set ps[i].toNat (cL l ar ps,false)} (by simp at hl;omega) hn (fun p hp=>by simp only [bJ];exact hv p hp);have aaN:∀q:Nat,i+1<=q->ps[q]?≠some ps[i]:=by
   intro q hq he;have:=ww hn he (aj hi);omega
  refine ⟨fun j hj=>?_,fun p lK hp=>?_,a3,a4,a5,a6,a7,a8,by rw [a9];simp⟩
  ·cases j with
   |zero=>
    refine ⟨ps[i],by rw [cy,aj hi],?_⟩
    rw [a2 _ Sp.1 aaN];show ndA {m with nds:=m.nds.set ps[i].toNat (cL l ar ps,false)} ps[i]=_
    unfold ndA;simp only;rw [bR (by omega)];rfl
   |succ j=>
    obtain ⟨p,e1,e2⟩:=a1 j (by simpa using hj);exact ⟨p,by rw [<-e1];congr 1;omega,e2⟩
  ·rw [a2 p lK (fun q hq=>hp q (by omega))];have dI:ps[i]≠p:=fun e=>hp i (ah _) (by rw [aj hi,e])
   unfold ndA;simp only;rw [b9 (by omega)]
def ixP (p:Int):List Int->Nat->Option Nat
 |[],_=>none
 |q::l,i=>if q=p then some i else ixP p l (i+1)
theorem B5 (p:Int):∀(l:List Int) (i k:Nat),ixP p l i=some k->i<=k/\l[k-i]?=some p
 |[],_,_,h=>by simp [ixP] at h
 |q::l,i,k,h=>by
  rw [ixP] at h;split at h
  ·next e=>cases h;simp [e]
  ·obtain ⟨h1,h2⟩:=B5 p l (i+1) k h;refine ⟨by omega,?_⟩
   rw [show k-i=(k-(i+1))+1 by omega];simpa using h2
theorem wC (p:Int):∀(l:List Int) (i:Nat),ixP p l i=none↔p∉l
 |[],_=>by simp [ixP]
 |q::l,i=>by
  rw [ixP];split
  ·next e=>simp [e]
  ·next e=>rw [wC p l (i+1)];simp [Ne.symm e]
theorem T8 {l:List Int} (hn:l.Nodup) {k:Nat} {p:Int} (h:l[k]?=some p):ixP p l 0=some k:=by
 cases hx:ixP p l 0 with
 |none=>exact absurd (bm h) ((wC p l 0).1 hx)
 |some j=>
  have:=(B5 p l 0 j hx).2;rw [Nat.sub_zero] at this;rw [ww hn h this]
def zY (φ:Int->Int) (ps:List Int) (a:Nat) (p:Int):Int:=match ixP p ps 0 with
 |some k=>((a+k:Nat):Int)
 |none=>φ p
theorem k8 {φ:Int->Int} {ps:List Int} {a:Nat} {p:Int} (h:p∉ps):zY φ ps a p=φ p:=by
 unfold zY;rw [(wC p ps 0).2 h]
theorem py {φ:Int->Int} {ps:List Int} {a k:Nat} {p:Int} (hn:ps.Nodup) (h:ps[k]?=some p):zY φ ps a p=((a+k:Nat):Int):=by
 unfold zY;rw [T8 hn h]
theorem JP {φ:Int->Int} {ps:List Int} {a:Nat} (hn:ps.Nodup):ps.map (zY φ ps a)=idP a ps.length:=by
 refine List.ext_getElem (by simp [idP]) (fun i h1 h2=>?_)
 simp only [jE,idP,iS];rw [bK] at h1;exact py hn (aj h1)
theorem J7 (φ:Int->Int) (l ar:Ln) (ps:List Int) (h:∀x∈l,x.1=5->0<=x.2/\x.2<ps.length):(cL l ar ps).map (mp φ)=cL l (ar.map (mp φ)) (ps.map φ):=by
 unfold cL;rw [ji];refine ft (fun x hx=>?_)
 show mp φ (iP ar ps x)=iP (ar.map (mp φ)) (ps.map φ) x
 unfold iP;by_cases h5:x.1=5
 ·have hb:=h x hx h5;rw [aA ⟨h5,hb⟩,aA ⟨h5,by simpa using hb⟩,FX];have bF:x.2.toNat<ps.length:=by omega
  simp [List.getElem?_eq_getElem bF]
 ·have n1:¬(x.1=5/\0<=x.2/\x.2<ps.length):=fun e=>h5 e.1
  have n2:¬(x.1=5/\0<=x.2/\x.2<(ps.map φ).length):=fun e=>h5 e.1
  rw [ay n1,ay n2];by_cases h2:x.1=2/\0<=x.2/\x.2<ar.length
  ·rw [aA h2,aA (by simpa using h2)];have bF:x.2.toNat<ar.length:=by omega
   simp [List.getElem?_eq_getElem bF]
  ·rw [ay h2,ay (by simpa using h2),xW φ x h5]
theorem N9 {φ:Int->Int} {L:Int->Prop} {c:Cf} {m:Ms} {s:Im} {f:Int} {rm r:Ln} {t:Tp} (h:Rm φ L m s) (hm:m.stk=(3,f)::rm) (hr:rm.map (mp φ)=r++flK s.ks) (ht:TG c t) (hw:t.ar<=(r.length:Int)):
 ∃φ' L',Rm φ' L' (rI c t m) (eX c t r s):=by
 have t0:=ht.a0;have t2:=ht.n0;unfold rI eX;rw [h.stp];by_cases hb:c.bud<=s.stp
 ·rw [aA hb,aA hb];exact ⟨φ,L,h.outs rfl rfl rfl rfl rfl rfl rfl rfl rfl h.val⟩
 ·rw [ay hb,ay hb];obtain ⟨⟨L1,h1⟩,oF⟩:=N7 (c:=c) h ((t.ls.length:Int)-1);obtain ⟨m1,m2,m3,m4,m5⟩:=xX c ((t.ls.length:Int)-1) m;by_cases kG:c.hp<(mM s:Int)+((t.ls.length:Int)-1)
  ·rw [aA kG,ay (fun e=>oF.1 e kG)];exact ⟨φ,L1,h1.outs rfl rfl rfl rfl rfl rfl rfl (by show (gh _ _ _).stp=_;rw [m4,h.stp]) rfl (by show (gh _ _ _).val=_;exact h1.val)⟩
  ·rw [ay kG,aA (oF.2 kG)];simp only;generalize gh c ((t.ls.length:Int)-1) m=s1 at*;clear oF kG;have ez:rm.length=r.length+(flK s.ks).length:=by have:=congrArg List.length hr;simpa using this
   have Gy:qy t.ar.toNat s1.stk.tail=rm.take t.ar.toNat:=by rw [m1,hm,cO,sQ _ _ (by omega)]
   have Pn:s1.stk.tail.drop t.ar.toNat=rm.drop t.ar.toNat:=by rw [m1,hm,cO]
   rw [Gy,Pn];have VF:∀p∈({s1 with stp:=s1.stp+1,stk:=rm.drop t.ar.toNat}:Ms).fre,0<=p/\p<({s1 with stp:=s1.stp+1,stk:=rm.drop t.ar.toNat}:Ms).nds.length:=fun p hp=>(h1.fre p hp).1
   have tk:=vT (t.ls.length-1) {s1 with stp:=s1.stp+1,stk:=rm.drop t.ar.toNat} VF;have td:=Fa (t.ls.length-1) {s1 with stp:=s1.stp+1,stk:=rm.drop t.ar.toNat} VF h1.nod;have tl:=BE (t.ls.length-1) {s1 with stp:=s1.stp+1,stk:=rm.drop t.ar.toNat};generalize takeL (t.ls.length-1) {s1 with stp:=s1.stp+1,stk:=rm.drop t.ar.toNat}=ps at*;generalize hZ (t.ls.length-1) {s1 with stp:=s1.stp+1,stk:=rm.drop t.ar.toNat}=s3 at*;obtain ⟨⟨k1,k2,k3,k4,k5⟩,kle,kln,kold,knew,kval,kfr,kfl⟩:=tk;obtain ⟨dn,dsrc,dfre,dfnd⟩:=td;simp only at k1 k2 k3 k4 k5 kle kln kold knew kfr kfl dsrc dfre;cases gV:t.ls with
   |nil=>rw [gV] at t2;simp at t2
   |cons l0 lr=>
    have j9:t.ls.length=lr.length+1:=by rw [gV];rfl
    rw [mh];obtain ⟨a1,a2,a3,a4,a5,a6,a7,a8,a9⟩:=MD (rm.take t.ar.toNat) ps lr 0 (qS (cL l0 (rm.take t.ar.toNat) ps) s3) (by omega) dn kval;generalize mh (rm.take t.ar.toNat) ps (0+1) lr (qS (cL l0 (rm.take t.ar.toNat) ps) s3)=m' at*;have PL:(qS (cL l0 (rm.take t.ar.toNat) ps) s3).nds.length=s3.nds.length:=rfl;have Zx:(qS (cL l0 (rm.take t.ar.toNat) ps) s3).stk=cL l0 (rm.take t.ar.toNat) ps++rm.drop t.ar.toNat:=by show _++s3.stk=_;rw [k1]
    have Z4:∀p,ndA (qS (cL l0 (rm.take t.ar.toNat) ps) s3) p=ndA s3 p:=fun _=>rfl
    rw [Zx] at a3;rw [PL] at a9;have ZU:∀p,0<=p->p<(s1.nds.length:Int)->ndA s3 p=ndA s1 p:=fun p h0 h1=>by
     unfold ndA;rw [kold p.toNat (by omega)]
    have KX:∀p,L1 p->p∉ps:=by
     intro p hp hm';rcases dsrc p hm' with hx|hx
     ·exact (h1.fre p hx).2 hp
     ·have:=(h1.ndL p hp).1.2;omega
    have MO:lr.length=ps.length:=by omega
    have Cg:(s.nds.length:Nat)+ps.length=(s.nds++lr.map (fun l=>(cL l (r.take t.ar.toNat) (idP s.nds.length ps.length),false))).length:=by simp [MO]
    have eA:t.ls.length-1=ps.length:=tl.symm;have nW:∀l∈t.ls,∀x∈l,x.1=5->0<=x.2/\x.2<ps.length:=fun l hl x hx h5=>by
     have:=((ht.ln l hl).2.2 x hx).2.2 h5;omega
    have ZD:(rm.take t.ar.toNat).map (mp (zY φ ps s.nds.length))=r.take t.ar.toNat:=by
     have e1:(rm.take t.ar.toNat).map (mp (zY φ ps s.nds.length))=(rm.take t.ar.toNat).map (mp φ):=
      z7 _ (fun x hx h5=>k8 (KX x.2 (h1.stL x (by rw [m1,hm];exact cu _ (cS hx)) h5)))
     rw [e1,dY,hr,List.take_append_of_le_length (by omega)]
    have eu:(rm.drop t.ar.toNat).map (mp (zY φ ps s.nds.length))=r.drop t.ar.toNat++flK s.ks:=by
     have e1:(rm.drop t.ar.toNat).map (mp (zY φ ps s.nds.length))=(rm.drop t.ar.toNat).map (mp φ):=
      z7 _ (fun x hx h5=>k8 (KX x.2 (h1.stL x (by rw [m1,hm];exact cu _ (dr hx)) h5)))
     rw [e1,List.map_drop,hr,List.drop_append_of_le_length (by omega)]
    have yD:∀l∈t.ls,(cL l (rm.take t.ar.toNat) ps).map (mp (zY φ ps s.nds.length))=cL l (r.take t.ar.toNat) (idP s.nds.length ps.length):=fun l hl=>by
     rw [J7 _ _ _ _ (nW l hl),ZD,JP dn]
    have US:∀l∈t.ls,∀x∈cL l (rm.take t.ar.toNat) ps,x.1=5->L1 x.2\/x.2∈ps:=by
     intro l hl x hx h5;unfold cL at hx;obtain ⟨y,hy,rfl⟩:=bZ.1 hx;unfold iP at h5 ⊢;by_cases Dk:y.1=5
     ·have hb:=nW l hl y hy Dk;rw [aA ⟨Dk,hb⟩]
      right
      have bF:y.2.toNat<ps.length:=by omega
      simp only [aj bF,b6];exact aE bF
     ·rw [ay (fun e=>Dk e.1)] at h5 ⊢;by_cases h2:y.1=2/\0<=y.2/\y.2<(rm.take t.ar.toNat).length
      ·rw [aA h2] at h5 ⊢
       left
       have bF:y.2.toNat<(rm.take t.ar.toNat).length:=by omega
       simp only [aj bF,b6] at h5 ⊢;refine h1.stL _ ?_ h5
       rw [m1,hm];exact cu _ (cS (aE bF))
      ·rw [ay h2] at h5;exact absurd h5 Dk
    refine ⟨zY φ ps s.nds.length,fun p=>L1 p\/p∈ps,?_⟩
    simp only [db,cO,aD,Nat.add_sub_cancel];rw [MO];refine ⟨?_,?_,?_,?_,?_,?_,?_,?_,?_,?_,?_⟩
    ·rw [a3,cz,yD l0 (by rw [gV];simp),eu];show _=_++_++flK s.ks
     rw [bI]
    ·rw [a4];show FrR _ s3.frs s.ks
     rw [k2];exact H4 _ _ h1.frs (fun f' wK nO=>(k8 (KX _ (h1.frL f' wK nO))).symm)
    ·rw [a3];intro x hx h5;rcases be.1 hx with hx|hx
     ·exact US l0 (by rw [gV];simp) x hx h5
     ·exact .inl (h1.stL x (by rw [m1,hm];exact cu _ (dr hx)) h5)
    ·rw [a4];intro f' wK nO;exact .inl (h1.frL f' (by rw [<-k2];exact wK) nO)
    ·intro p hp;by_cases qW:p∈ps
     ·obtain ⟨k,hk,rfl⟩:=cl.1 qW;obtain ⟨p',e1,e2⟩:=a1 k (by omega);rw [cr,aj hk] at e1;cases e1
      have P8:lr[k]'(by omega)∈t.ls:=by rw [gV];exact cu _ (aE _)
      have e3:zY φ ps s.nds.length ps[k]=((s.nds.length+k:Nat):Int):=py dn (aj hk);rw [e2,e3];refine ⟨by rw [a9];exact kval _ (aE hk),⟨by omega,by simp only;rw [<-Cg];omega⟩,?_,US _ P8⟩
      unfold ndI;simp only;rw [show ((s.nds.length+k:Nat):Int).toNat=s.nds.length+k by omega,aC (by omega),show s.nds.length+k-s.nds.length=k by omega,cH,aj (by omega:k<lr.length)];simp only [gF,b6];rw [yD _ P8]
     ·have An:L1 p:=by
       rcases hp with hp|hp
       ·exact hp
       ·exact absurd hp qW
      obtain ⟨w1,w2,w3,w4⟩:=h1.ndL p An;have e1:ndA m' p=ndA s1 p:=by
       rw [a2 p w1.1 (fun q _ hq=>qW (bm hq)),Z4,ZU p w1.1 w1.2]
      rw [e1,k8 qW];refine ⟨by rw [a9];omega,⟨w2.1,by simp only [au];omega⟩,?_,fun x hx h5=>.inl (w4 x hx h5)⟩
      have e2:ndI {s with stp:=s.stp+1,cur:=cL l0 (r.take t.ar.toNat) (idP s.nds.length ps.length)++r.drop t.ar.toNat,nds:=s.nds++lr.map (fun l=>(cL l (r.take t.ar.toNat) (idP s.nds.length ps.length),false))} (φ p)=ndI s (φ p):=by
       unfold ndI;simp only;rw [aI (by omega)]
      rw [e2,w3];rw [z7 (φ:=φ) (ψ:=zY φ ps s.nds.length) _ (fun x hx h5=>(k8 (KX x.2 (w4 x hx h5))).symm)]
    ·intro p q hp hq e;have key:∀p q,L1 p->p∉ps->q∈ps->zY φ ps s.nds.length p=zY φ ps s.nds.length q->False:=by
      intro p q hp PD Gv e;obtain ⟨k,hk,rfl⟩:=cl.1 Gv;rw [k8 PD,py dn (aj hk)] at e;have:=(h1.ndL p hp).2.1.2;omega
     by_cases qW:p∈ps
     ·by_cases Gv:q∈ps
      ·obtain ⟨k,hk,rfl⟩:=cl.1 qW;obtain ⟨j,hj,rfl⟩:=cl.1 Gv;rw [py dn (aj hk),py dn (aj hj)] at e;have:k=j:=by omega
       subst this;rfl
      ·exact (key q p (hq.resolve_right Gv) Gv qW e.symm).elim
     ·by_cases Gv:q∈ps
      ·exact (key p q (hp.resolve_right qW) qW Gv e).elim
      ·rw [k8 qW,k8 Gv] at e;exact h1.inj p q (hp.resolve_right qW) (hq.resolve_right Gv) e
    ·rw [a5];intro p hp;obtain ⟨d1,d2⟩:=dfre p hp;have:=h1.fre p d1;exact ⟨by rw [a9];omega,fun e=>by
      rcases e with e|e
      ·exact this.2 e
      ·exact d2 e⟩
    ·rw [a5];exact dfnd
    ·rw [a6];show s3.stp=_;rw [k3,m4,h.stp]
    ·rw [a7];show s3.out=_;rw [k4,m5,h.out]
    ·rw [a8];show s3.val=_;rw [k5];exact h1.val
theorem N6 {φ:Int->Int} {L:Int->Prop} {c:Cf} {m:Ms} {s:Im} (h:Rm φ L m s) (hi:Iv c m) (ht:∀t∈c.fs,TG c t):∃φ' L',Rm φ' L' (qA c m) (dP c s):=by
 obtain ⟨x,rm,r,hm,hc,hr,qZ⟩:=Tq h hi;have oE:hdI m.stk=x:=by rw [hm];rfl
 have aas:hdI s.cur=mp φ x:=by rw [hc];rfl
 have ja:s.cur.tail=r:=by rw [hc];rfl
 unfold qA dP;simp only [oE,aas,ja];rw [z6,qZ];by_cases h5:x.1=5
 ·rw [aA h5,aA h5];obtain ⟨x1,x2⟩:=x;simp only at h5;subst h5;rw [FX];exact ⟨φ,L,JG h hm hr⟩
 ·rw [ay h5,ay h5];have hx:=xW φ x h5;have QA:(x.1=1->r=[])->∃φ' L',Rm φ' L' (w9 c x m) (lz c (mp φ x) s):=fun h1=>⟨φ,L,Tr h hi hm hc hr h5 h1⟩
  by_cases h3:x.1=3
  ·rw [aA h3,aA h3];have hv:=(hi.it x (by rw [hm];simp)).2.1 h3;have bF:x.2.toNat<c.fs.length:=by omega
   have yh:jx c x.2∈c.fs:=by
    unfold jx;rw [aA hv,aj bF];exact aE bF
   rw [hx];by_cases iH:(jx c x.2).ar<=(r.length:Int)
   ·rw [aA iH,aA iH];obtain ⟨x1,x2⟩:=x;simp only at h3;subst h3;exact N9 h hm hr (ht _ yh) iH
   ·rw [ay iH,ay iH];have:=QA (fun e=>by omega);rw [hx] at this;exact this
  ·rw [ay h3,ay h3];by_cases h4:x.1=4
   ·rw [aA h4,aA h4,hx];by_cases iH:eR x.2<=(r.length:Int)
    ·rw [aA iH,aA iH];obtain ⟨x1,x2⟩:=x;simp only at h4 iH;subst h4;exact ⟨φ,L,Ts h hm hr (by have:=i6 x2;omega)⟩
    ·rw [ay iH,ay iH];have:=QA (fun e=>by omega);rw [hx] at this;exact this
   ·rw [ay h4,ay h4];by_cases hp:0<r.length
    ·rw [aA (by omega),aA hp];exact ⟨φ,L,h.outs rfl rfl rfl rfl rfl rfl rfl h.stp rfl h.val⟩
    ·rw [ay (by omega),ay hp];exact QA (fun _=>by cases r with
      |nil=>rfl
      |cons a b=>simp at hp)
def nJ (c:Cf) (l:Ln):Prop:=(hdI l).1≠5/\((hdI l).1=3->(l.tail.length:Int)<(jx c (hdI l).2).ar)/\((hdI l).1=4->(l.tail.length:Int)<eR (hdI l).2)/\((hdI l).1≠3->(hdI l).1≠4->l.tail.length=0)
def nxO:List Kf->Option Int
 |[]=>none
 |f::ks=>if f.k=1 then some f.nd else nxO ks
def Bl (rk:Int->Nat) (ks:List Kf) (p:Int):Prop:=∀n,nxO ks=some n->rk p<rk n
def RkK (rk:Int->Nat):List Kf->Prop
 |[]=>True
 |f::ks=>(∀x∈f.rs,x.1=5->Bl rk ks x.2)/\(f.k=1->Bl rk ks f.nd)/\RkK rk ks
def afa (f:Kf):Prop:=f.k=1\/(f.k=2/\eR f.pr-1<=(f.rs.length:Int))\/(f.k=3/\eR f.pr-2<=(f.rs.length:Int))
structure Ii (c:Cf) (rk:Int->Nat) (s:Im):Prop where
 ne:s.cur≠[]
 it:∀x∈s.cur,GI c s.nds.length x
 fr:∀f∈s.ks,afa f/\(f.k=1->0<=f.nd/\f.nd<s.nds.length)/\(∀x∈f.rs,GI c s.nds.length x)/\-1000000000<=f.nu/\f.nu<=1000000000
 nd:∀n∈s.nds,n.1≠[]/\(∀x∈n.1,GI c s.nds.length x)/\(n.2=true->nJ c n.1)
 ord:∀p:Int,0<=p->p<s.nds.length->∀x∈(ndI s p).1,x.1=5->rk x.2<rk p
 cb:∀x∈s.cur,x.1=5->Bl rk s.ks x.2
 kb:RkK rk s.ks
structure TGo (c:Cf) (t:Tp):Prop where
 tg:TG c t
 lt:∀(j:Nat) (l:Ln),t.ls[j]?=some l->∀a∈l,a.1=5->(j:Int)<=a.2
def gA (ks:List Kf):List Int:=ks.flatMap (fun f=>if f.k=1 then [f.nd] else [])
def qk:Nat->List (Ln×Bool)->List Int->Nat
 |_,[],_=>0
 |i,n::l,op=>(if n.2=false/\(i:Int)∉op then 1 else 0)+qk (i+1) l op
def frW (f:Kf):Nat:=if f.k=1 then 5 else if f.k=2 then 2 else 0
def Fb:List Kf->Nat
 |[]=>0
 |f::ks=>frW f+Fb ks
def BD (l:Ln):Nat:=if (hdI l).1=5 then (if l.tail.length=0 then 1 else 5) else if (hdI l).1=4 then (if eR (hdI l).2<=(l.tail.length:Int) then 4 else 0) else 0
def pot (s:Im):Nat:=11*qk 0 s.nds (gA s.ks)+Fb s.ks+BD s.cur
theorem vQ (l:Ln):BD l<=5:=by
 unfold BD;split
 ·split<;>omega
 ·split
  ·split<;>omega
  ·omega
theorem E7 {l:Ln} (h:(hdI l).1≠5):BD l<=4:=by
 unfold BD;rw [ay h];split
 ·split<;>omega
 ·omega
theorem BC (x:Int×Int):BD [x]<=1:=by
 unfold BD;split
 ·simp
 ·split
  ·have:=i6 (hdI [x]).2;rw [ay (by simp;omega)];omega
  ·omega
theorem BB {c:Cf} {l:Ln} (h:nJ c l):BD l=0:=by
 unfold BD;rw [ay h.1];split
 ·next h4=>rw [ay (by have:=h.2.2.1 h4;omega)]
 ·rfl
theorem y7 (op op':List Int):∀(l:List (Ln×Bool)) (i:Nat),(∀p∈op,p∈op')->qk i l op'<=qk i l op
 |[],_,_=>ah _
 |n::l,i,h=>by
  have ih:=y7 op op' l (i+1) h;rw [qk,qk];by_cases h1:n.2=false/\(i:Int)∉op'
  ·rw [aA h1,aA ⟨h1.1,fun e=>h1.2 (h _ e)⟩];omega
  ·rw [ay h1];omega
theorem y6 (op:List Int) (p:Nat):∀(l:List (Ln×Bool)) (i:Nat) (n:Ln×Bool),i<=p->l[p-i]?=some n->n.2=false->(p:Int)∉op->qk i l ((p:Int)::op)+1<=qk i l op
 |[],i,n,_,h,_,_=>by simp at h
 |m::l,i,n,hi,h,hn,hp=>by
  rw [qk,qk];by_cases e:i=p
  ·subst e;simp at h;subst h;have:=y7 op ((i:Int)::op) l (i+1) (fun q hq=>by simp [hq]);rw [ay (by simp),aA ⟨hn,hp⟩];omega
  ·have ih:=y6 op p l (i+1) n (by omega) (by rw [show p-i=(p-(i+1))+1 by omega] at h;simpa using h) hn hp;by_cases h1:m.2=false/\(i:Int)∉op
   ·rw [aA h1,aA ⟨h1.1,by simp [h1.2];omega⟩];omega
   ·rw [ay h1,ay (fun e=>h1 ⟨e.1,fun h=>e.2 (by simp [h])⟩)];omega
theorem CD (op:List Int):∀(l m:List (Ln×Bool)) (i:Nat),qk i (l++m) op<=qk i l op+m.length
 |[],m,i=>by
  induction m generalizing i with
  |nil=>simp [qk]
  |cons n m ih=>have:=ih (i+1);simp only [di,qk,aD] at this ⊢;split<;>omega
 |n::l,m,i=>by
  have:=CD op l m (i+1);simp only [eO,qk];omega
theorem CC (op:List Int) (p:Nat) (v:Ln):∀(l:List (Ln×Bool)) (i:Nat),i<=p->qk i (l.set (p-i) (v,true)) op<=qk i l ((p:Int)::op)
 |[],i,_=>by simp [qk]
 |m::l,i,hi=>by
  by_cases e:i=p
  ·subst e;rw [ct,List.set_cons_zero,qk,qk,ay (by simp),ay (by simp)];have h:∀(l:List (Ln×Bool)) (j:Nat),i<j->qk j l op<=qk j l ((i:Int)::op):=by
    intro l;induction l with
    |nil=>intro j _;simp [qk]
    |cons n l ih=>
     intro j hj;have:=ih (j+1) (by omega);rw [qk,qk];by_cases h1:n.2=false/\(j:Int)∉op
     ·rw [aA h1,aA ⟨h1.1,by simp [h1.2];omega⟩];omega
     ·rw [ay h1];omega
   have:=h l (i+1) (by omega);omega
  ·have ih:=CC op p v l (i+1) (by omega);rw [show p-i=(p-(i+1))+1 by omega,List.set_cons_succ,qk,qk];by_cases h1:m.2=false/\(i:Int)∉op
   ·rw [aA h1,aA ⟨h1.1,by simp [h1.2];omega⟩];omega
   ·rw [ay h1];omega
theorem FV {s:Im} {p:Int} (h0:0<=p) (h1:p<s.nds.length):ndI s p∈s.nds:=by
 have bF:p.toNat<s.nds.length:=by omega
 unfold ndI;rw [aj bF];exact aE bF
theorem Bl.not_open {rk:Int->Nat}:∀{ks:List Kf} {p:Int},Bl rk ks p->RkK rk ks->p∉gA ks
 |[],p,_,_=>by simp [gA]
 |f::ks,p,hb,hk=>by
  obtain ⟨k1,k2,k3⟩:=hk;have Yc:gA (f::ks)=(if f.k=1 then [f.nd] else [])++gA ks:=rfl;rw [Yc];by_cases h1:f.k=1
  ·rw [aA h1];have h2:rk p<rk f.nd:=hb f.nd (by rw [nxO,aA h1]);intro hm;rcases be.1 hm with hm|hm
   ·simp at hm;subst hm;omega
   ·exact Bl.not_open (p:=p) (fun n hn=>by have:=k2 h1 n hn;omega) k3 hm
  ·rw [ay h1,di];exact Bl.not_open (fun n hn=>hb n (by rw [nxO,ay h1];exact hn)) k3
theorem Bl.le {rk:Int->Nat} {ks:List Kf} {p q:Int} (h:Bl rk ks p) (hq:rk q<rk p):Bl rk ks q:=fun n hn=>by have:=h n hn;omega
theorem J9 {c:Cf} {rk:Int->Nat} {s:Im} {p:Int} {r:Ln} (h:Ii c rk s) (hc:s.cur=(5,p)::r):
 Ii c rk (if (ndI s p).2 then {s with cur:=(ndI s p).1++r} else {s with cur:=(ndI s p).1,ks:=⟨1,p,0,0,r⟩::s.ks})/\pot (if (ndI s p).2 then {s with cur:=(ndI s p).1++r} else {s with cur:=(ndI s p).1,ks:=⟨1,p,0,0,r⟩::s.ks})+1<=pot s:=by
 have hv:=(h.it (5,p) (by rw [hc];simp)).2.2 rfl;have hb:=h.cb (5,p) (by rw [hc];simp) rfl;simp only at hv hb;have hn:=h.nd _ (FV hv.1 hv.2);have ho:=h.ord p hv.1 hv.2;have I9:∀x∈r,GI c s.nds.length x:=fun x hx=>h.it x (by rw [hc];simp [hx])
 have MU:∀x∈r,x.1=5->Bl rk s.ks x.2:=fun x hx=>h.cb x (by rw [hc];simp [hx])
 have ML:BD s.cur=if r.length=0 then 1 else 5:=by rw [hc];simp [BD,hdI]
 cases hd:(ndI s p).2
 ·simp only [cm,dc];refine ⟨⟨hn.1,hn.2.1,?_,h.nd,h.ord,?_,⟨MU,fun _=>hb,h.kb⟩⟩,?_⟩
  ·intro f hf;rcases aK.1 hf with rfl|hf
   ·exact ⟨.inl rfl,fun _=>hv,I9,by simp⟩
   ·exact h.fr f hf
  ·intro x hx h5 n hn';rw [nxO,aA rfl] at hn';cases hn'
   exact ho x hx h5
  ·unfold pot;rw [ML];simp only;have h1:=vQ (ndI s p).1;have h2:gA (⟨1,p,0,0,r⟩::s.ks)=p::gA s.ks:=rfl;have h3:Fb (⟨1,p,0,0,r⟩::s.ks)=5+Fb s.ks:=rfl;have bF:p.toNat<s.nds.length:=by omega
   have h4:=y6 (gA s.ks) p.toNat s.nds 0 s.nds[p.toNat] (by omega) (by rw [Nat.sub_zero,aj bF]) (by
    have:ndI s p=s.nds[p.toNat]:=by unfold ndI;rw [aj bF];rfl
    rw [<-this];exact hd) (by rw [show ((p.toNat:Nat):Int)=p by omega];exact hb.not_open h.kb)
   rw [show ((p.toNat:Nat):Int)=p by omega] at h4;rw [h2,h3];split<;>omega
 ·simp only [cQ];have mP:=hn.2.2 hd;refine ⟨⟨?_,?_,h.fr,h.nd,h.ord,?_,h.kb⟩,?_⟩
  ·intro e;have:=(List.append_eq_nil_iff.1 e).1;exact hn.1 this
  ·intro x hx;rcases be.1 hx with hx|hx
   ·exact hn.2.1 x hx
   ·exact I9 x hx
  ·intro x hx h5;rcases be.1 hx with hx|hx
   ·exact hb.le (ho x hx h5)
   ·exact MU x hx h5
  ·unfold pot;rw [ML];simp only;cases hr:r with
   |nil=>
    rw [cA,BB mP];simp
   |cons y r1=>
    have hh:hdI ((ndI s p).1++y::r1)=hdI (ndI s p).1:=by
     cases hq:(ndI s p).1 with
     |nil=>exact absurd hq hn.1
     |cons a b=>rfl
    have:=E7 (l:=(ndI s p).1++y::r1) (by rw [hh];exact mP.1);simp;omega
theorem Ud {c:Cf} {rk:Int->Nat} {s:Im} {p:Int} {r:Ln} (h:Ii c rk s) (hc:s.cur=(4,p)::r) (hw:eR p<=(r.length:Int)):
 Ii c rk {s with cur:=[hdI r],ks:=⟨2,0,p,0,r.tail⟩::s.ks}/\pot {s with cur:=[hdI r],ks:=⟨2,0,p,0,r.tail⟩::s.ks}+1<=pot s:=by
 have lw:=i6 p;cases hr:r with
 |nil=>rw [hr] at hw;simp at hw;omega
 |cons y r1=>
  have I9:∀x∈y::r1,GI c s.nds.length x:=fun x hx=>h.it x (by rw [hc,hr];simp at hx ⊢;right;exact hx)
  have MU:∀x∈y::r1,x.1=5->Bl rk s.ks x.2:=fun x hx=>h.cb x (by rw [hc,hr];simp at hx ⊢;right;exact hx)
  refine ⟨⟨by simp,?_,?_,h.nd,h.ord,?_,⟨fun x hx=>MU x (by simp at hx ⊢;right;exact hx),fun e=>by simp at e,h.kb⟩⟩,?_⟩
  ·intro x hx;simp [hdI] at hx;subst hx;exact I9 x (by simp)
  ·intro f hf;rcases aK.1 hf with rfl|hf
   ·refine ⟨.inr (.inl ⟨rfl,?_⟩),fun e=>by simp at e,fun x hx=>I9 x (by simp at hx ⊢;right;exact hx),by simp⟩
    rw [hr] at hw;simp at hw ⊢;omega
   ·exact h.fr f hf
  ·intro x hx h5 n hn;simp [hdI] at hx;subst hx;rw [nxO,ay (by simp)] at hn;exact MU x (by simp) h5 n hn
  ·unfold pot;simp only;have h1:=BC (hdI (y::r1));have h2:gA (⟨2,0,p,0,(y::r1).tail⟩::s.ks)=gA s.ks:=rfl;have h3:Fb (⟨2,0,p,0,(y::r1).tail⟩::s.ks)=2+Fb s.ks:=rfl;have h4:BD s.cur=4:=by
    unfold BD;rw [hc,ay (by simp [hdI]),aA (by simp [hdI]),aA (by simpa [hdI] using hw)]
   rw [h2,h3,h4];omega
theorem Uc {c:Cf} {rk:Int->Nat} {s:Im} (h:Ii c rk s) (hv:nJ c s.cur) (ho:(lz c (hdI s.cur) s).out=0):
 Ii c rk (lz c (hdI s.cur) s)/\pot (lz c (hdI s.cur) s)+1<=pot s+138*((lz c (hdI s.cur) s).stp-s.stp).toNat/\(0:Int)<=(lz c (hdI s.cur) s).stp-s.stp/\(s.stp<(lz c (hdI s.cur) s).stp->s.stp<c.bud/\(lz c (hdI s.cur) s).stp=s.stp+1):=by
 have ML:=BB hv;have hhm:hdI s.cur∈s.cur:=VW h.ne;unfold lz at ho ⊢;cases hk:s.ks with
 |nil=>
  rw [hk] at ho;simp only at ho;split at ho<;>simp at ho
 |cons f ks=>
  rw [hk] at ho;simp only at ho ⊢;obtain ⟨f1,f2,f3,f4⟩:=h.fr f (by rw [hk];simp);have Vr:=h.kb;rw [hk] at Vr;obtain ⟨g1,g2,g3⟩:=Vr;have KC:∀g∈ks,afa g/\(g.k=1->0<=g.nd/\g.nd<s.nds.length)/\(∀x∈g.rs,GI c s.nds.length x)/\-1000000000<=g.nu/\g.nu<=1000000000:=fun g hg=>h.fr g (by rw [hk];simp [hg])
  have X9:Fb s.ks=frW f+Fb ks:=by rw [hk];rfl
  have GG:gA s.ks=(if f.k=1 then [f.nd] else [])++gA ks:=by rw [hk];rfl
  by_cases eA:f.k=1
  ·rw [aA eA] at ho ⊢;obtain ⟨v0,v1⟩:=f2 eA;have V2:∀x∈s.cur,x.1=5->rk x.2<rk f.nd:=fun x hx h5=>h.cb x hx h5 f.nd (by rw [hk,nxO,aA eA])
   have bF:f.nd.toNat<s.nds.length:=by omega
   refine ⟨⟨?_,?_,?_,?_,?_,?_,g3⟩,?_,by simp,fun e=>by simp at e⟩
   ·intro e;exact h.ne (List.append_eq_nil_iff.1 e).1
   ·simp only [bJ];intro x hx;rcases be.1 hx with hx|hx
    ·exact h.it x hx
    ·exact f3 x hx
   ·simp only [bJ];exact KC
   ·simp only [bJ];intro n hn;rcases List.mem_or_eq_of_mem_set hn with hn|rfl
    ·exact h.nd n hn
    ·exact ⟨h.ne,h.it,fun _=>hv⟩
   ·intro p h0 h1 x hx h5;simp only [bJ] at h1;by_cases Yb:f.nd=p
    ·subst Yb;have q1:ndI {s with cur:=s.cur++f.rs,ks:=ks,nds:=s.nds.set f.nd.toNat (s.cur,true)} f.nd=(s.cur,true):=by
      unfold ndI;simp only;rw [bR bF];rfl
     rw [q1] at hx;exact V2 x hx h5
    ·have q1:ndI {s with cur:=s.cur++f.rs,ks:=ks,nds:=s.nds.set f.nd.toNat (s.cur,true)} p=ndI s p:=by
      unfold ndI;simp only;rw [b9 (by omega)]
     rw [q1] at hx;exact h.ord p h0 h1 x hx h5
   ·intro x hx h5;rcases be.1 hx with hx|hx
    ·exact (g2 eA).le (V2 x hx h5)
    ·exact g1 x hx h5
   ·unfold pot;simp only;rw [ML,X9,GG,aA eA];have hh:hdI (s.cur++f.rs)=hdI s.cur:=by
     cases hq:s.cur with
     |nil=>exact absurd hq h.ne
     |cons a b=>rfl
    have h1:=E7 (l:=s.cur++f.rs) (by rw [hh];exact hv.1);have h2:=CC (gA ks) f.nd.toNat s.cur s.nds 0 (by omega);rw [Nat.sub_zero,show ((f.nd.toNat:Nat):Int)=f.nd by omega] at h2;have h3:frW f=5:=by unfold frW;rw [aA eA]
    rw [h3,eJ];omega
  ·rw [ay eA] at ho ⊢;by_cases mN:(hdI s.cur).1≠1
   ·rw [aA mN] at ho;simp at ho
   ·rw [ay mN] at ho ⊢;rw [ay eA,di] at GG;have ZY:nxO s.ks=nxO ks:=by rw [hk,nxO,ay eA]
    by_cases eh:f.k=2
    ·rw [aA eh] at ho ⊢;have hl:eR f.pr-1<=(f.rs.length:Int):=by
      rcases f1 with e|e|e
      ·omega
      ·exact e.2
      ·omega
     have mO:=i6 f.pr;have hx:=Decidable.not_not.1 mN;have gB:=(h.it _ hhm).1 hx;cases qU:f.rs with
     |nil=>rw [qU] at hl;simp at hl;omega
     |cons y r1=>
      refine ⟨⟨by simp,?_,?_,h.nd,h.ord,?_,⟨fun x hx=>g1 x (by rw [qU];simp at hx ⊢;right;exact hx),fun e=>by simp at e,g3⟩⟩,?_,by simp,fun e=>by simp at e⟩
      ·intro x hx;simp [hdI] at hx;subst hx;exact f3 x (by rw [qU];simp)
      ·intro g hg;rcases aK.1 hg with rfl|hg
       ·refine ⟨.inr (.inr ⟨rfl,?_⟩),fun e=>by simp at e,fun x hx=>f3 x (by rw [qU];simp at hx ⊢;right;exact hx),gB⟩
        rw [qU] at hl;simp at hl ⊢;omega
       ·exact KC g hg
      ·intro x hx h5 n hn;simp [hdI] at hx;subst hx;rw [nxO,ay (by simp)] at hn;exact g1 x (by rw [qU];simp) h5 n hn
      ·unfold pot;simp only;have h1:=BC (hdI (y::r1));have h2:gA (⟨3,0,f.pr,(hdI s.cur).2,(y::r1).tail⟩::ks)=gA ks:=rfl;have h3:Fb (⟨3,0,f.pr,(hdI s.cur).2,(y::r1).tail⟩::ks)=0+Fb ks:=rfl;have h4:frW f=2:=by unfold frW;rw [ay eA,aA eh]
       rw [h2,h3,ML,X9,GG,h4];omega
    ·rw [ay eh] at ho ⊢;have my:f.k=3/\eR f.pr-2<=(f.rs.length:Int):=by
      rcases f1 with e|e|e
      ·omega
      ·omega
      ·exact e
     by_cases hb:c.bud<=s.stp
     ·rw [aA hb] at ho;simp at ho
     ·rw [ay hb] at ho ⊢;have e1:(s.stp+1-s.stp).toNat=1:=by omega
      by_cases hp:f.pr=3\/f.pr=4
      ·rw [aA hp] at ho ⊢;have mO:eR f.pr=4:=by unfold eR;rw [aA hp]
       have hl:=my.2;cases qU:f.rs with
       |nil=>rw [qU] at hl;simp at hl;omega
       |cons y r1=>
        cases UO:r1 with
        |nil=>rw [qU,UO] at hl;simp at hl;omega
        |cons y2 r2=>
         have nK:∀x∈(if sR f.pr f.nu (hdI s.cur).2=true then hdI (y::y2::r2) else hdI (y::y2::r2).tail)::(y::y2::r2).drop 2,x∈f.rs:=by
          intro x hx;rw [qU,UO];rcases aK.1 hx with hx|hx
          ·split at hx<;>simp [hdI] at hx<;>simp [hx]
          ·simp at hx;simp [hx]
         refine ⟨⟨by simp,fun x hx=>f3 x (nK x hx),KC,h.nd,h.ord,fun x hx=>g1 x (nK x hx),g3⟩,?_,by simp only;omega,fun _=>⟨by omega,rfl⟩⟩
         unfold pot;simp only;rw [e1,X9,GG];have:=vQ ((if sR f.pr f.nu (hdI s.cur).2=true then hdI (y::y2::r2) else hdI (y::y2::r2).tail)::(y::y2::r2).drop 2);omega
      ·rw [ay hp] at ho ⊢;by_cases nU:oh (iD f.pr f.nu (hdI s.cur).2)=true
       ·rw [aA nU] at ho;simp at ho
       ·rw [ay nU] at ho ⊢;have Km:¬(1000000000<iD f.pr f.nu (hdI s.cur).2\/iD f.pr f.nu (hdI s.cur).2< -1000000000):=fun e=>nU ((wl _).2 e)
        refine ⟨⟨by simp,?_,KC,h.nd,h.ord,?_,g3⟩,?_,by simp only;omega,fun _=>⟨by omega,rfl⟩⟩
        ·intro x hx;rcases aK.1 hx with rfl|hx
         ·exact ⟨fun _=>by simp only;omega,fun e=>by simp at e,fun e=>by simp at e⟩
         ·exact f3 x hx
        ·intro x hx h5;rcases aK.1 hx with rfl|hx
         ·simp at h5
         ·exact g1 x hx h5
        ·unfold pot;simp only;rw [e1,X9,GG];have:=vQ ((1,iD f.pr f.nu (hdI s.cur).2)::f.rs);omega
end Go.Proofs.YtnndoagpbcacdabGreatDoor
