import Derived.Test.YtnndoagpbcacdabGreatDoorMM14
namespace Go.Proofs.YtnndoagpbcacdabGreatDoor
structure Kf where
 k:Int
 nd:Int
 pr:Int
 nu:Int
 rs:Ln
structure Im where
 cur:Ln
 ks:List Kf
 nds:List (Ln×Bool)
 stp:Int
 out:Int
 val:Int
def flK (ks:List Kf):Ln:=ks.flatMap (·.rs)
def ndI (s:Im) (p:Int):Ln×Bool:=s.nds[p.toNat]?.getD ([],false)
def asM (s:Im):Ms:=⟨s.cur++flK s.ks,s.ks.map (fun f=>⟨f.k,0,f.nd,f.pr,f.nu⟩),s.nds,[],s.stp,s.out,s.val⟩
def mM (s:Im):Nat:=(eD (asM s)).2.length
def idP (a k:Nat):List Int:=(List.range k).map (fun i=>((a+i:Nat):Int))
def eX (c:Cf) (t:Tp) (r:Ln) (s:Im):Im:=
 if c.bud<=s.stp then {s with out:=5}
 else if c.hp<(mM s:Int)+((t.ls.length:Int)-1) then {s with out:=6}
 else {s with stp:=s.stp+1,cur:=cL (t.ls.headD []) (r.take t.ar.toNat) (idP s.nds.length (t.ls.length-1))++r.drop t.ar.toNat,nds:=s.nds++t.ls.tail.map (fun l=>(cL l (r.take t.ar.toNat) (idP s.nds.length (t.ls.length-1)),false))}
def oh (v:Int):Bool:=decide (1000000000<v)||decide (v< -1000000000)
def sR (p x y:Int):Bool:=if p=3 then decide (x<y) else decide (x=y)
def lz (c:Cf) (t:Int×Int) (s:Im):Im:=
 match s.ks with
 |[]=>if t.1=1 then {s with out:=1,val:=t.2} else {s with out:=2}
 |f::ks=>
  if f.k=1 then {s with cur:=s.cur++f.rs,ks:=ks,nds:=s.nds.set f.nd.toNat (s.cur,true)}
  else if t.1≠1 then {s with out:=3}
  else if f.k=2 then {s with cur:=[hdI f.rs],ks:=⟨3,0,f.pr,t.2,f.rs.tail⟩::ks}
  else if c.bud<=s.stp then {s with out:=5}
  else if f.pr=3\/f.pr=4 then {s with stp:=s.stp+1,ks:=ks,cur:=(if sR f.pr f.nu t.2 then hdI f.rs else hdI f.rs.tail)::f.rs.drop 2}
  else if oh (iD f.pr f.nu t.2) then {s with stp:=s.stp+1,ks:=ks,cur:=f.rs,out:=4}
  else {s with stp:=s.stp+1,ks:=ks,cur:=(1,iD f.pr f.nu t.2)::f.rs}
def dP (c:Cf) (s:Im):Im:=
 let t:=hdI s.cur
 let r:=s.cur.tail
 if t.1=5 then (if (ndI s t.2).2 then {s with cur:=(ndI s t.2).1++r} else {s with cur:=(ndI s t.2).1,ks:=⟨1,t.2,0,0,r⟩::s.ks})
 else if t.1=3 then (if (jx c t.2).ar<=(r.length:Int) then eX c (jx c t.2) r s else lz c t s)
 else if t.1=4 then (if eR t.2<=(r.length:Int) then {s with cur:=[hdI r],ks:=⟨2,0,t.2,0,r.tail⟩::s.ks} else lz c t s)
 else if 0<r.length then {s with out:=3} else lz c t s
def fi (c:Cf):Nat->Im->Im
 |0,s=>s
 |n+1,s=>if s.out=0 then fi c n (dP c s) else s
def gY (mn:Int):Im:=⟨[(3,mn)],[],[],0,0,0⟩
theorem px {α:Type} [DecidableEq α]:∀(a b:List α),a.Nodup->(∀x∈a,x∈b)->a.length<=b.length
 |[],b,_,_=>by simp
 |x::a,b,h,hs=>by
  have hx:=hs x (by simp);have h1:=px a (b.erase x) (dh.1 h).2 (fun y hy=>by
   have dI:y≠x:=fun e=>(dh.1 h).1 (e ▸ hy)
   exact (List.mem_erase_of_ne dI).2 (hs y (by simp [hy])))
  rw [List.length_erase_of_mem hx] at h1;have:0<b.length:=List.length_pos_of_mem hx;rw [aD];omega
theorem JO {α:Type} [DecidableEq α] (a b:List α) (ha:a.Nodup) (hb:b.Nodup) (h:∀x,x∈a↔x∈b):a.length=b.length:=
 Nat.le_antisymm (px a b ha (fun x hx=>(h x).1 hx)) (px b a hb (fun x hx=>(h x).2 hx))
theorem zX (a:List Int) (n:Nat) (ha:a.Nodup) (h:∀x∈a,0<=x/\x<n):a.length<=n:=by
 have h1:=px a ((List.range n).map (fun i:Nat=>(i:Int))) ha (fun x hx=>by
  have:=h x hx;exact bZ.2 ⟨x.toNat,go.2 (by omega),by omega⟩)
 simpa using h1
theorem xV {α β:Type} (f:α->β):∀(a:List α),a.Nodup->(∀x∈a,∀y∈a,f x=f y->x=y)->(a.map f).Nodup
 |[],_,_=>by simp
 |x::a,h,hf=>by
  rw [cW];refine dh.2 ⟨fun hm=>?_,xV f a (dh.1 h).2 (fun y hy z hz=>hf y (by simp [hy]) z (by simp [hz]))⟩
  obtain ⟨y,hy,e⟩:=bZ.1 hm;have:=hf y (by simp [hy]) x (by simp) e;exact (dh.1 h).1 (this ▸ hy)
theorem xO {n:Nat} {x:List Bool×List Int} (h:RI n x) (hn:x.2.Nodup) (p:Int):(rch p x).2.Nodup:=by
 unfold rch;by_cases hc:p<0\/(x.1.length:Int)<=p\/x.1[p.toNat]?.getD false=true
 ·rw [aA hc];exact hn
 ·rw [ay hc];refine List.nodup_append.2 ⟨hn,by simp,?_⟩
  intro a ha b hb e;simp at hb;subst hb;subst e;obtain ⟨_,h2⟩:=(h.iff a).1 ha;exact hc (.inr (.inr (by rw [h2];rfl)))
theorem nx {n:Nat}:∀(l:Ln) (x:List Bool×List Int),RI n x->x.2.Nodup->(rX l x).2.Nodup
 |[],_,_,h=>h
 |a::l,x,h,hn=>by
  rw [rX];split
  ·exact nx l _ (h.rch a.2).1 (xO h hn a.2)
  ·exact nx l _ h hn
theorem qx {n:Nat}:∀(l:List Fr) (x:List Bool×List Int),RI n x->x.2.Nodup->(C4 l x).2.Nodup
 |[],_,_,h=>h
 |a::l,x,h,hn=>by
  rw [C4];split
  ·exact qx l _ (h.rch a.nd).1 (xO h hn a.nd)
  ·exact qx l _ h hn
theorem tW {n:Nat} (s:Ms):∀(f i:Nat) (x:List Bool×List Int),RI n x->x.2.Nodup->(bfs s f i x).2.Nodup
 |0,_,_,_,h=>h
 |f+1,i,x,h,hn=>by
  rw [bfs];split
  ·split
   ·exact tW s f (i+1) _ (lR (R:=fun _=>True) _ x h (fun _ _ _=>trivial)).1.ri (nx _ x h hn)
   ·exact tW s f (i+1) _ h hn
  ·exact hn
theorem qz (s:Ms):(eD s).2.Nodup:=by
 unfold eD;have h0:=RI.init s.nds.length;have h1:=(lR (R:=fun _=>True) s.stk.reverse _ h0 (fun _ _ _=>trivial)).1.ri;have h2:=(v9 (R:=fun _=>True) s.frs.reverse _ h1 (fun _ _ _=>trivial)).1.ri;exact tW s _ _ _ h2 (qx _ _ h1 (nx _ _ h0 (by simp)))
theorem oj (s:Ms):RI s.nds.length (eD s):=(mL (R:=fun _=>True) (fun _ _ _ _ _=>trivial) (fun _ _ _=>trivial) (fun _ _ _=>trivial)).1
theorem FT:∀(l:List Bool) (i:Nat) (acc:List Int),(uS i l acc).length+cT l=acc.length+l.length
 |[],_,_=>by simp [uS,cT]
 |b::l,i,acc=>by
  rw [uS,cT];have:=FT l (i+1) (if b then acc else (i:Int)::acc);cases b<;>simp at this ⊢<;>omega
theorem vB (s:Ms):(lL s).fre.length+(eD s).2.length=s.nds.length:=by
 have h1:=FT (eD s).1 0 [];have h2:=(oj s).cnt;have h3:=(oj s).len;show (uS 0 (eD s).1 []).length+_=_
 rw [h2];simp at h1;omega
theorem Cr (s:Ms) (p:Int):p∈(lL s).fre↔0<=p/\p<s.nds.length/\p∉(eD s).2:=by
 have h3:=(oj s).len;show p∈uS 0 (eD s).1 []↔_
 rw [wz];constructor
 ·rintro (h|⟨j,e,h⟩)
  ·simp at h
  ·have hj:=(aP.1 h).1;refine ⟨by omega,by omega,fun hm=>?_⟩
   have:=((oj s).iff p).1 hm;rw [show p.toNat=j by omega,h] at this;simp at this
 ·rintro ⟨h1,h2,h⟩
  refine .inr ⟨p.toNat,by omega,?_⟩
  have bF:p.toNat<(eD s).1.length:=by omega
  cases hb:(eD s).1[p.toNat]? with
  |none=>rw [aj bF] at hb;simp at hb
  |some b=>
   cases b
   ·rfl
   ·exact absurd (((oj s).iff p).2 ⟨h1,hb⟩) h
theorem DQ (s:Ms):(lL s).fre.Nodup:=uT _ _ _ (by simp) (by simp)
theorem JQ (s:Ms) (hv:∀a∈s.stk,a.1=5->0<=a.2/\a.2<s.nds.length) (hf:∀f∈s.frs,f.k=1->0<=f.nd/\f.nd<s.nds.length) (hn:∀p:Int,0<=p->p<s.nds.length->p∈(eD s).2->∀a∈(ndA s p).1,a.1=5->0<=a.2/\a.2<s.nds.length) (p:Int):
 p∈(eD s).2↔∀R:Int->Prop,(∀p,R p->∀a∈(ndA s p).1,a.1=5->R a.2)->(∀a∈s.stk,a.1=5->R a.2)->(∀f∈s.frs,f.k=1->R f.nd)->R p:=by
 constructor
 ·intro h R h1 h2 h3;exact (mL h1 h2 h3).2.1 p h
 ·intro h;have k:=mL (s:=s) (R:=fun _=>True) (fun _ _ _ _ _=>trivial) (fun _ _ _=>trivial) (fun _ _ _=>trivial);refine h (fun p=>p∈(eD s).2) ?_ ?_ ?_
  ·intro q hq a ha h5;have Ya:=k.1.val hq;have:=hn q Ya.1 Ya.2 hq a ha h5;exact k.2.2.2.2 q hq a ha h5 this.1 this.2
  ·intro a ha h5;exact k.2.2.1 a ha h5 (hv a ha h5).1 (hv a ha h5).2
  ·intro f wK h5;exact k.2.2.2.1 f wK h5 (hf f wK h5).1 (hf f wK h5).2
def mp (φ:Int->Int) (x:Int×Int):Int×Int:=if x.1=5 then (5,φ x.2) else x
def FrR (φ:Int->Int):List Fr->List Kf->Prop
 |[],[]=>True
 |f::l,g::m=>(f.k=g.k/\f.h=(flK (g::m)).length/\(f.k=1->φ f.nd=g.nd)/\f.pr=g.pr/\f.nu=g.nu)/\FrR φ l m
 |[],_::_=>False
 |_::_,[]=>False
structure Rm (φ:Int->Int) (L:Int->Prop) (m:Ms) (s:Im):Prop where
 stk:m.stk.map (mp φ)=s.cur++flK s.ks
 frs:FrR φ m.frs s.ks
 stL:∀x∈m.stk,x.1=5->L x.2
 frL:∀f∈m.frs,f.k=1->L f.nd
 ndL:∀p,L p->(0<=p/\p<m.nds.length)/\(0<=φ p/\φ p<s.nds.length)/\ndI s (φ p)=((ndA m p).1.map (mp φ),(ndA m p).2)/\∀x∈(ndA m p).1,x.1=5->L x.2
 inj:∀p q,L p->L q->φ p=φ q->p=q
 fre:∀p∈m.fre,(0<=p/\p<m.nds.length)/\¬L p
 nod:m.fre.Nodup
 stp:m.stp=s.stp
 out:m.out=s.out
 val:m.val=s.val
theorem Rm.outs {φ:Int->Int} {L:Int->Prop} {m m':Ms} {s s':Im} (h:Rm φ L m s) (e1:m'.stk=m.stk) (e2:m'.frs=m.frs) (e3:m'.nds=m.nds) (e4:m'.fre=m.fre) (f1:s'.cur=s.cur) (f2:s'.ks=s.ks) (f3:s'.nds=s.nds) (g1:m'.stp=s'.stp) (g2:m'.out=s'.out) (g3:m'.val=s'.val):Rm φ L m' s':=by
 obtain ⟨a1,a2,a3,a4,a5,a6,a7,a8,_,_,_⟩:=h;cases m
 cases m'
 cases s
 cases s'
 simp only at*;subst e1 e2 e3 e4 f1 f2 f3;exact ⟨a1,a2,a3,a4,a5,a6,a7,a8,g1,g2,g3⟩
theorem z6 (φ:Int->Int) (x:Int×Int):(mp φ x).1=x.1:=by unfold mp;split<;>simp_all
theorem FX (φ:Int->Int) (p:Int):mp φ (5,p)=(5,φ p):=by unfold mp;rw [aA rfl]
theorem xW (φ:Int->Int) (x:Int×Int) (h:x.1≠5):mp φ x=x:=by unfold mp;rw [ay h]
theorem H3 (φ:Int->Int):∀(l:List Fr) (ks:List Kf),FrR φ l ks->hdH l=(flK ks).length
 |[],[],_=>rfl
 |f::l,g::m,h=>by show f.h=_;exact h.1.2.1
 |[],_::_,h=>h.elim
 |_::_,[],h=>h.elim
theorem H4 {φ ψ:Int->Int}:∀(l:List Fr) (ks:List Kf),FrR φ l ks->(∀f∈l,f.k=1->φ f.nd=ψ f.nd)->FrR ψ l ks
 |[],[],_,_=>trivial
 |f::l,g::m,h,he=>⟨⟨h.1.1,h.1.2.1,fun e=>by rw [<-he f (by simp) e];exact h.1.2.2.1 e,h.1.2.2.2⟩,H4 l m h.2 (fun x hx=>he x (by simp [hx]))⟩
 |[],_::_,h,_=>h.elim
 |_::_,[],h,_=>h.elim
theorem z7 {φ ψ:Int->Int} (l:Ln) (h:∀x∈l,x.1=5->φ x.2=ψ x.2):l.map (mp φ)=l.map (mp ψ):=by
 refine ft (fun x hx=>?_)
 unfold mp;by_cases h5:x.1=5
 ·rw [aA h5,aA h5,h x hx h5]
 ·rw [ay h5,ay h5]
theorem Tq {φ:Int->Int} {L:Int->Prop} {c:Cf} {m:Ms} {s:Im} (h:Rm φ L m s) (hi:Iv c m):
 ∃x rm r,m.stk=x::rm/\s.cur=mp φ x::r/\rm.map (mp φ)=r++flK s.ks/\ql m=(r.length:Int):=by
 have h1:=h.stk;have h2:=H3 φ _ _ h.frs;have h3:=hi.ne;rw [tN,h2] at h3;cases hm:m.stk with
 |nil=>rw [hm] at h3;simp at h3
 |cons x rm=>
  rw [hm,cW] at h1;cases hc:s.cur with
  |nil=>
   rw [hc] at h1;have:(mp φ x::rm.map (mp φ)).length=(flK s.ks).length:=by rw [h1];rfl
   rw [hm] at h3;simp at this h3;omega
  |cons y r=>
   rw [hc,eO] at h1;obtain ⟨e1,e2⟩:=List.cons.inj h1;refine ⟨x,rm,r,rfl,by rw [e1],e2,?_⟩
   unfold ql;rw [hm,ay (by simp),tN,h2];have:(rm.map (mp φ)).length=(r++flK s.ks).length:=by rw [e2]
   simp at this ⊢;omega
theorem JG {φ:Int->Int} {L:Int->Prop} {m:Ms} {s:Im} {p:Int} {rm r:Ln} (h:Rm φ L m s) (hm:m.stk=(5,p)::rm) (hr:rm.map (mp φ)=r++flK s.ks):
 Rm φ L (jg m) (if (ndI s (φ p)).2 then {s with cur:=(ndI s (φ p)).1++r} else {s with cur:=(ndI s (φ p)).1,ks:=⟨1,φ p,0,0,r⟩::s.ks}):=by
 have hp:=h.stL (5,p) (by rw [hm];simp) rfl;obtain ⟨hv,_,hn,oC⟩:=h.ndL p hp;have ZY:∀x∈(ndA m p).1++rm,x.1=5->L x.2:=by
  intro x hx h5;rcases be.1 hx with hx|hx
  ·exact oC x hx h5
  ·exact h.stL x (by rw [hm];simp [hx]) h5
 have e:jg m=(if (ndA m p).2 then {m with stk:=(ndA m p).1++rm} else {m with stk:=(ndA m p).1++rm,frs:=⟨1,rm.length,p,0,0⟩::m.frs}):=by
  unfold jg;have hh:hdI m.stk=(5,p):=by rw [hm];rfl
  rw [hh,aA hv];show qS (ndA m p).1 (if (ndA m p).2=true then fX m else lA 1 p 0 0 (fX m))=_
  unfold qS lA fX;rw [hm];cases (ndA m p).2<;>rfl
 rw [e,hn];simp only;cases (ndA m p).2
 ·simp only [cm,dc];refine ⟨?_,⟨⟨rfl,?_,fun _=>rfl,rfl,rfl⟩,h.frs⟩,ZY,?_,h.ndL,h.inj,h.fre,h.nod,h.stp,h.out,h.val⟩
  ·show ((ndA m p).1++rm).map (mp φ)=(ndA m p).1.map (mp φ)++(r++flK s.ks)
   rw [cz,hr]
  ·show rm.length=(r++flK s.ks).length
   rw [<-hr,bK]
  ·intro f hf h1;rcases aK.1 hf with rfl|hf
   ·exact hp
   ·exact h.frL f hf h1
 ·simp only [cQ];refine ⟨?_,h.frs,ZY,h.frL,h.ndL,h.inj,h.fre,h.nod,h.stp,h.out,h.val⟩
  show ((ndA m p).1++rm).map (mp φ)=(ndA m p).1.map (mp φ)++r++flK s.ks
  rw [cz,hr,bI]
theorem VW {l:Ln} (h:l≠[]):hdI l∈l:=by
 cases l with
 |nil=>exact absurd rfl h
 |cons a l=>simp [hdI]
theorem Ts {φ:Int->Int} {L:Int->Prop} {m:Ms} {s:Im} {p:Int} {rm r:Ln} (h:Rm φ L m s) (hm:m.stk=(4,p)::rm) (hr:rm.map (mp φ)=r++flK s.ks) (hl:0<r.length):
 Rm φ L (IH p m) {s with cur:=[hdI r],ks:=⟨2,0,p,0,r.tail⟩::s.ks}:=by
 cases Cc:rm with
 |nil=>rw [Cc] at hr;have:=congrArg List.length hr;simp at this;omega
 |cons x rm1=>
  cases kS:r with
  |nil=>rw [kS] at hl;simp at hl
  |cons y r1=>
   rw [Cc,kS] at hr;obtain ⟨e1,e2⟩:=List.cons.inj (show mp φ x::rm1.map (mp φ)=y::(r1++flK s.ks) from hr);have e:IH p m={m with stk:=x::rm1,frs:=⟨2,rm1.length,0,p,0⟩::m.frs}:=by
    unfold IH lT lA fX;rw [hm,Cc];rfl
   rw [e];refine ⟨?_,⟨⟨rfl,?_,fun e=>by simp at e,rfl,rfl⟩,h.frs⟩,?_,?_,h.ndL,h.inj,h.fre,h.nod,h.stp,h.out,h.val⟩
   ·show mp φ x::rm1.map (mp φ)=[y]++(r1++flK s.ks)
    rw [e1,e2];rfl
   ·show rm1.length=(r1++flK s.ks).length
    rw [<-e2,bK]
   ·intro z hz h5;exact h.stL z (by rw [hm,Cc];exact cu _ hz) h5
   ·intro f hf h1;rcases aK.1 hf with rfl|hf
    ·simp at h1
    ·exact h.frL f hf h1
theorem wl (v:Int):oh v=true↔(1000000000<v\/v< -1000000000):=by unfold oh;simp
theorem Tr {φ:Int->Int} {L:Int->Prop} {c:Cf} {m:Ms} {s:Im} {x:Int×Int} {rm r:Ln} (h:Rm φ L m s) (hi:Iv c m) (hm:m.stk=x::rm) (hc:s.cur=mp φ x::r) (hr:rm.map (mp φ)=r++flK s.ks) (h5:x.1≠5) (h1:x.1=1->r=[]):
 Rm φ L (w9 c x m) (lz c (mp φ x) s):=by
 rw [xW φ x h5] at hc ⊢;have mo:=h.frs;cases hf:m.frs with
 |nil=>
  cases hk:s.ks with
  |cons g gs=>rw [hf,hk] at mo;exact mo.elim
  |nil=>
   unfold w9 lz;rw [hf,hk];simp only [Ro];by_cases h1:x.1=1
   ·rw [aA h1,aA h1];exact h.outs rfl rfl rfl rfl rfl hk.symm rfl h.stp rfl rfl
   ·rw [ay h1,ay h1];exact h.outs rfl rfl rfl rfl rfl hk.symm rfl h.stp rfl h.val
 |cons f fl=>
  cases hk:s.ks with
  |nil=>rw [hf,hk] at mo;exact mo.elim
  |cons g gs=>
   rw [hf,hk] at mo;obtain ⟨⟨f1,f2,f3,f4,f5⟩,f6⟩:=mo;have kG:(flK (g::gs))=g.rs++flK gs:=rfl;rw [hk,kG] at hr;have aaD:flr m=(g.rs++flK gs).length:=by rw [tN,hf];show f.h=_;rw [f2,kG]
   unfold w9 lz;rw [hf,hk];simp only;rw [<-f1];by_cases eA:f.k=1
   ·rw [aA eA,aA eA];have hLf:=h.frL f (by rw [hf];simp) eA;obtain ⟨hv,pD,hn,oC⟩:=h.ndL f.nd hLf;have DI:rq m=x::rm.take r.length:=by
     unfold rq;rw [aaD,hm];have:rm.length=r.length+(g.rs++flK gs).length:=by
      have:=congrArg List.length hr;simpa using this
     rw [aD,this,show r.length+(g.rs++flK gs).length+1-(g.rs++flK gs).length=r.length+1 by omega,ei]
    have Wm:(rq m).map (mp φ)=s.cur:=by
     rw [DI,hc,cW,xW φ x h5,dY,hr,List.take_left]
    have e:NP f.nd m={m with frs:=fl,nds:=m.nds.set f.nd.toNat (rq m,true)}:=by
     unfold NP xn gv;rw [aA (by exact hv),hf];rfl
    rw [e,<-f3 eA];refine ⟨?_,f6,h.stL,fun f' wK nO=>h.frL f' (by rw [hf];simp [wK]) nO,?_,h.inj,?_,h.nod,h.stp,h.out,h.val⟩
    ·show m.stk.map (mp φ)=s.cur++g.rs++flK gs
     rw [h.stk,hk,kG,bI]
    ·intro p hp;obtain ⟨w1,w2,w3,w4⟩:=h.ndL p hp;have pJ:f.nd≠p->(f.nd).toNat≠p.toNat:=by intro h1 h2;omega
     refine ⟨by simpa using w1,by simpa using w2,?_⟩
     by_cases Yb:f.nd=p
     ·subst Yb;have q1:ndI {s with cur:=s.cur++g.rs,ks:=gs,nds:=s.nds.set (φ f.nd).toNat (s.cur,true)} (φ f.nd)=(s.cur,true):=by
       unfold ndI;simp only;rw [bR (by omega)];rfl
      have q2:ndA {m with frs:=fl,nds:=m.nds.set f.nd.toNat (rq m,true)} f.nd=(rq m,true):=by
       unfold ndA;simp only;rw [bR (by omega)];rfl
      rw [q1,q2,Wm];refine ⟨rfl,fun y hy=>h.stL y ?_⟩
      simp only [DI] at hy;rw [hm];rcases aK.1 hy with rfl|hy
      ·simp
      ·exact cu _ (cS hy)
     ·have P2:φ f.nd≠φ p:=fun e=>Yb (h.inj _ _ hLf hp e)
      have q1:ndI {s with cur:=s.cur++g.rs,ks:=gs,nds:=s.nds.set (φ f.nd).toNat (s.cur,true)} (φ p)=ndI s (φ p):=by
       unfold ndI;simp only;rw [b9 (by omega)]
      have q2:ndA {m with frs:=fl,nds:=m.nds.set f.nd.toNat (rq m,true)} p=ndA m p:=by
       unfold ndA;simp only;rw [b9 (by omega)]
      rw [q1,q2];exact ⟨w3,w4⟩
    ·intro p hp;simpa using h.fre p hp
   ·rw [ay eA,ay eA];by_cases mN:x.1≠1
    ·rw [aA mN,aA mN];exact h.outs rfl hf.symm rfl rfl rfl hk.symm rfl h.stp rfl h.val
    ·have hx:x.1=1:=Decidable.not_not.1 mN;have Gu:=h1 hx;subst Gu;rw [ay mN,ay mN];have VA:=hi.gap;rw [hf] at VA;obtain ⟨qX,_⟩:=VA;rw [H3 φ _ _ f6,f2,kG] at qX;simp only [au] at qX;have mO:=i6 f.pr;have oB:rm.map (mp φ)=g.rs++flK gs:=hr;have rz:∀y∈rm,y.1=5->L y.2:=fun y hy h5=>h.stL y (by rw [hm];simp [hy]) h5
     by_cases eh:f.k=2
     ·rw [aA eh,aA eh];have qH:1<=g.rs.length:=by simp [nH,eh] at qX;omega
      cases hg:g.rs with
      |nil=>rw [hg] at qH;simp at qH
      |cons y g1=>
       rw [hg] at oB;cases Cc:rm with
       |nil=>rw [Cc] at oB;simp at oB
       |cons z rm1=>
        rw [Cc] at oB;obtain ⟨e1,e2⟩:=List.cons.inj (show mp φ z::rm1.map (mp φ)=y::(g1++flK gs) from oB);have e:zb f.pr x.2 m={m with stk:=z::rm1,frs:=⟨3,rm1.length,0,f.pr,x.2⟩::fl}:=by
         unfold zb lT lA fX gv;rw [hm,Cc,hf];rfl
        rw [e];refine ⟨?_,⟨⟨rfl,?_,fun e=>by simp at e,f4,rfl⟩,f6⟩,?_,?_,h.ndL,h.inj,h.fre,h.nod,h.stp,h.out,h.val⟩
        ·show mp φ z::rm1.map (mp φ)=[y]++(g1++flK gs)
         rw [e1,e2];rfl
        ·show rm1.length=(g1++flK gs).length
         rw [<-e2,bK]
        ·intro u hu yP;exact rz u (by rw [Cc];exact hu) yP
        ·intro f' wK nO;rcases aK.1 wK with rfl|wK
         ·simp at nO
         ·exact h.frL f' (by rw [hf];simp [wK]) nO
     ·rw [ay eh,ay eh];have my:f.k=3:=by have:=(hi.kd f (by rw [hf];simp)).1;omega
      unfold A7;rw [h.stp];by_cases hb:c.bud<=s.stp
      ·rw [aA hb,aA hb];exact h.outs rfl rfl rfl rfl rfl hk.symm rfl rfl rfl h.val
      ·rw [ay hb,ay hb];have es:fX (gv {m with stp:=s.stp+1})={m with stp:=s.stp+1,stk:=rm,frs:=fl}:=by
        unfold fX gv;rw [hm,hf];rfl
       have KB:∀f'∈fl,f'.k=1->L f'.nd:=fun f' wK nO=>h.frL f' (by rw [hf];simp [wK]) nO
       simp only [es];rw [f4,f5];have Na:nH f=eR f.pr-2:=by simp [nH,my]
       by_cases Am:g.pr=3\/g.pr=4
       ·rw [aA Am];have qH:2<=g.rs.length:=by
         have:eR f.pr=4:=by unfold eR;rw [f4,aA Am]
         omega
        have key:∀b:Bool,Rm φ L (kN b {m with stp:=s.stp+1,stk:=rm,frs:=fl}) {s with stp:=s.stp+1,ks:=gs,cur:=(if b then hdI g.rs else hdI g.rs.tail)::g.rs.drop 2}:=by
         intro b;cases hg:g.rs with
         |nil=>rw [hg] at qH;simp at qH
         |cons y g1=>
          cases VB:g1 with
          |nil=>rw [hg,VB] at qH;simp at qH
          |cons y2 g2=>
           rw [hg,VB] at oB;cases Cc:rm with
           |nil=>rw [Cc] at oB;simp at oB
           |cons z rm1=>
            cases Pt:rm1 with
            |nil=>rw [Cc,Pt] at oB;simp at oB
            |cons z2 rm2=>
             rw [Cc,Pt] at oB;obtain ⟨e1,e2⟩:=List.cons.inj (show mp φ z::mp φ z2::rm2.map (mp φ)=y::y2::(g2++flK gs) from oB);obtain ⟨e3,e4⟩:=List.cons.inj e2;have yi:∀(u:Int×Int),u=z\/u=z2->∀v∈u::rm2,v.1=5->L v.2:=by
              intro u hu v hv;refine rz v ?_
              rw [Cc,Pt];rcases aK.1 hv with rfl|hv
              ·rcases hu with rfl|rfl<;>simp
              ·simp [hv]
             cases b
             ·refine ⟨?_,f6,yi z2 (.inr rfl),KB,h.ndL,h.inj,h.fre,h.nod,rfl,h.out,h.val⟩
              show mp φ z2::rm2.map (mp φ)=y2::(g2++flK gs)
              rw [e3,e4]
             ·refine ⟨?_,f6,yi z (.inl rfl),KB,h.ndL,h.inj,h.fre,h.nod,rfl,h.out,h.val⟩
              show mp φ z::rm2.map (mp φ)=y::(g2++flK gs)
              rw [e1,e4]
        by_cases pH:g.pr=3
        ·rw [aA pH];have:=key (decide (g.nu<x.2));unfold sR;rw [aA pH];exact this
        ·have vh:g.pr=4:=by omega
         rw [ay pH,aA vh];have:=key (decide (g.nu=x.2));unfold sR;rw [ay pH];exact this
       ·have pH:¬g.pr=3:=fun e=>Am (.inl e)
        have vh:¬g.pr=4:=fun e=>Am (.inr e)
        rw [ay pH,ay vh,ay Am];unfold D6;by_cases ho:1000000000<iD g.pr g.nu x.2\/iD g.pr g.nu x.2< -1000000000
        ·rw [aA ho,aA ((wl _).2 ho)];exact ⟨oB,f6,rz,KB,h.ndL,h.inj,h.fre,h.nod,rfl,rfl,h.val⟩
        ·rw [ay ho,ay (fun e=>ho ((wl _).1 e))];refine ⟨?_,f6,?_,KB,h.ndL,h.inj,h.fre,h.nod,rfl,h.out,h.val⟩
         ·show mp φ (1,_)::rm.map (mp φ)=(1,_)::(g.rs++flK gs)
          rw [oB,xW φ _ (by simp)]
         ·intro y hy yP;rcases aK.1 hy with rfl|hy
          ·simp at yP
          ·exact rz y hy yP
end Go.Proofs.YtnndoagpbcacdabGreatDoor
