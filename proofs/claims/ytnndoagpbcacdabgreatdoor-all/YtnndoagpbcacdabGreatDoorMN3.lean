import Derived.Test.YtnndoagpbcacdabGreatDoorMI5
import Derived.Test.YtnndoagpbcacdabGreatDoorMF1
import Derived.Test.YtnndoagpbcacdabGreatDoorMM3
namespace Go.Proofs.YtnndoagpbcacdabGreatDoor
def n9 (s:Im):Nat:=s.cur.length+(flK s.ks).length
def NdB (s:Im):Prop:=∀n∈s.nds,n.1.length<=8
theorem nC (f:Kf) (ks:List Kf):flK (f::ks)=f.rs++flK ks:=rfl
theorem NN {c:Cf} {l:Ln} {n:Nat} (hv:nJ c l) (hg:∀x∈l,GI c n x) (ht:∀t∈c.fs,TGo c t):l.length<=8:=by
 cases l with
 |nil=>simp
 |cons x r=>
  obtain ⟨_,h2,h3,h4⟩:=hv;have hx:=hg x (by simp);have hh:hdI (x::r)=x:=rfl;rw [hh,cO] at h2 h3 h4;rw [aD];by_cases e3:x.1=3
  ·have h:=h2 e3;have hb:=(E6 ht (hx.2.1 e3)).tg.a1;omega
  ·by_cases e4:x.1=4
   ·have h:=h3 e4;have:=i6 x.2;omega
   ·have:=h4 e3 e4;omega
theorem TR {s:Im} (hn:NdB s) (p:Int):(ndI s p).1.length<=8:=by
 unfold ndI;cases h:s.nds[p.toNat]? with
 |none=>simp
 |some x=>exact hn x (bm h)
theorem Lz {c:Cf} {s:Im} {t:Tp} {x:Int×Int} {r:Ln} (ht:TG c t) (hc:s.cur=x::r) (hn:NdB s):n9 (eX c t r s)<=n9 s+8/\NdB (eX c t r s):=by
 unfold eX;split
 ·exact ⟨by unfold n9;simp only;omega,hn⟩
 split
 ·exact ⟨by unfold n9;simp only;omega,hn⟩
 obtain ⟨l,L,hl⟩:∃l L,t.ls=l::L:=by
  cases h:t.ls with
  |nil=>have:=ht.n0;rw [h] at this;simp at this
  |cons l L=>exact ⟨l,L,rfl⟩
 have h8:=(ht.ln l (by rw [hl];simp)).2.1;refine ⟨?_,fun n hm=>?_⟩
 ·unfold n9;simp only;have xv:s.cur.length=r.length+1:=by rw [hc];rfl
  rw [hl,xv,db,au,cI];unfold cL;rw [bK];omega
 ·rcases be.1 hm with hm|hm
  ·exact hn n hm
  ·obtain ⟨m,gK,rfl⟩:=bZ.1 hm;simp only [cL,bK];exact (ht.ln m (eW gK)).2.1
theorem Jx {c:Cf} {rk:Int->Nat} {s:Im} (h:Ii c rk s) (ht:∀t∈c.fs,TGo c t) (hn:NdB s):n9 (dP c s)<=n9 s+8/\NdB (dP c s)/\(dP c s).ks.length<=s.ks.length+1:=by
 have dI:=h.ne;obtain ⟨x,r,hc⟩:∃x r,s.cur=x::r:=by
  cases hq:s.cur with
  |nil=>exact absurd hq dI
  |cons a b=>exact ⟨a,b,rfl⟩
 have oE:hdI s.cur=x:=by rw [hc];rfl
 have ja:s.cur.tail=r:=by rw [hc];rfl
 have xv:s.cur.length=r.length+1:=by rw [hc];rfl
 have hx:=h.it x (by rw [hc];simp);rcases kq c s with ⟨_,e⟩|⟨e1,e2,e⟩|⟨e1,e2,e⟩|⟨_,_,_,_,e⟩|⟨mP,e⟩
 ·rw [e,oE,ja];have:=TR hn x.2;split
  ·refine ⟨?_,hn,by simp⟩
   unfold n9;simp only [au];omega
  ·refine ⟨?_,hn,by simp⟩
   unfold n9;simp only [nC,au];omega
 ·rw [e,ja];rw [oE] at e1 e2 ⊢;obtain ⟨q1,q2⟩:=Lz (t:=jx c x.2) (E6 ht (hx.2.1 e1)).tg hc hn;exact ⟨q1,q2,by rw [xb];omega⟩
 ·rw [e,ja];refine ⟨?_,hn,by simp⟩
  have:r.tail.length<=r.length:=by simp
  unfold n9;simp only [nC,au,List.length_singleton];omega
 ·rw [e];exact ⟨by unfold n9;simp only;omega,hn,by simp⟩
 ·rw [e];have h8:=NN mP h.it ht;unfold lz;cases hk:s.ks with
  |nil=>
   simp only;split
   ·exact ⟨by unfold n9;simp only [hk];omega,hn,by simp⟩
   ·exact ⟨by unfold n9;simp only [hk];omega,hn,by simp⟩
  |cons f ks=>
   have kG:(flK s.ks).length=f.rs.length+(flK ks).length:=by rw [hk,nC,au]
   have KD:(flK (f::ks)).length=f.rs.length+(flK ks).length:=by rw [nC,au]
   have agb:f.rs.tail.length<=f.rs.length:=by simp
   have hT:n9 s=s.cur.length+(f.rs.length+(flK ks).length):=by unfold n9;rw [kG]
   simp only;split
   ·refine ⟨?_,fun n hm=>?_,by simp only [aD];omega⟩
    ·rw [hT];unfold n9;simp only [au];omega
    ·rcases List.mem_or_eq_of_mem_set hm with hm|rfl
     ·exact hn n hm
     ·exact h8
   split
   ·exact ⟨by rw [hT];unfold n9;simp only [KD];omega,hn,by simp⟩
   split
   ·refine ⟨?_,hn,by simp⟩
    rw [hT];unfold n9;simp only [nC,au,List.length_singleton];omega
   split
   ·exact ⟨by rw [hT];unfold n9;simp only [KD];omega,hn,by simp⟩
   split
   ·refine ⟨?_,hn,by simp only [aD];omega⟩
    rw [hT];unfold n9;simp only [aD,cI];omega
   split
   ·refine ⟨?_,hn,by simp only [aD];omega⟩
    rw [hT];unfold n9;simp only;omega
   ·refine ⟨?_,hn,by simp only [aD];omega⟩
    rw [hT];unfold n9;simp only [aD];omega
def PI (x:Int×Int):Prop:=x.1=1\/x.1=3\/(x.1=4/\0<=x.2/\x.2<=4)\/x.1=5
def TPg (t:Tp):Prop:=∀l∈t.ls,∀a∈l,PI a\/(a.1=2/\0<=a.2/\a.2<t.ar)
structure PG (s:Im):Prop where
 cur:∀x∈s.cur,PI x
 fr:∀f∈s.ks,(∀x∈f.rs,PI x)/\(f.k=1\/(0<=f.pr/\f.pr<=4))
 nd:∀n∈s.nds,∀x∈n.1,PI x
theorem BA {cd:Cd} (h:jK cd=true):∀t∈cd.fs,TPg t:=by
 obtain ⟨_,_,_,h4⟩:=o7 (bud:=0) (hp:=0) h;intro t ht l hl a ha;obtain ⟨h1,h2,h3,h5,_⟩:=(h4 t ht l hl).2 a ha;unfold PI;rcases h1 with e|e|e|e|e
 ·exact .inl (.inl e)
 ·exact .inr ⟨e,h2,h3 e⟩
 ·exact .inl (.inr (.inl e))
 ·exact .inl (.inr (.inr (.inl ⟨e,h2,by have:=h5 e;omega⟩)))
 ·exact .inl (.inr (.inr (.inr e)))
theorem Ge {t:Tp} (ht:TPg t) {l:Ln} (hl:l∈t.ls) {ar:Ln} (oJ:(ar.length:Int)=t.ar) (hp:∀x∈ar,PI x) (ps:List Int):∀x∈cL l ar ps,PI x:=by
 intro x hx;obtain ⟨a,ha,rfl⟩:=bZ.1 hx;unfold iP;split
 ·exact .inr (.inr (.inr rfl))
 ·rename_i h5;split
  ·rename_i h2;have bF:a.2.toNat<ar.length:=by omega
   rw [aj bF];exact hp _ (aE bF)
  ·rename_i h2;rcases ht l hl a ha with h|⟨h,h0,h1⟩
   ·exact h
   ·exact absurd ⟨h,h0,by omega⟩ h2
theorem Ol {c:Cf} {s:Im} {t:Tp} {x:Int×Int} {r:Ln} (h:PG s) (ht:TPg t) (hg:TG c t) (hc:s.cur=x::r) (oJ:t.ar<=(r.length:Int)):PG (eX c t r s):=by
 have hr:∀y∈r,PI y:=fun y hy=>h.cur y (by rw [hc];simp [hy])
 unfold eX;split
 ·exact ⟨h.cur,h.fr,h.nd⟩
 split
 ·exact ⟨h.cur,h.fr,h.nd⟩
 have SK:=hg.a0;have qZ:((r.take t.ar.toNat).length:Int)=t.ar:=by rw [cF];omega
 have SH:∀y∈r.take t.ar.toNat,PI y:=fun y hy=>hr y (cS hy)
 obtain ⟨l,L,hl⟩:∃l L,t.ls=l::L:=by
  cases h:t.ls with
  |nil=>have:=hg.n0;rw [h] at this;simp at this
  |cons l L=>exact ⟨l,L,rfl⟩
 refine ⟨fun y hy=>?_,h.fr,fun n hn y hy=>?_⟩
 ·rcases be.1 hy with hy|hy
  ·rw [hl,db] at hy;exact Ge ht (l:=l) (by rw [hl];simp) qZ SH _ y hy
  ·exact hr y (dr hy)
 ·rcases be.1 hn with hn|hn
  ·exact h.nd n hn y hy
  ·obtain ⟨m,hm,rfl⟩:=bZ.1 hn;exact Ge ht (eW hm) qZ SH _ y hy
theorem Oj {c:Cf} {rk:Int->Nat} {s:Im} (hi:Ii c rk s) (h:PG s) (ht:∀t∈c.fs,TGo c t) (hp:∀t∈c.fs,TPg t):PG (dP c s):=by
 obtain ⟨x,r,hc⟩:∃x r,s.cur=x::r:=by
  cases hq:s.cur with
  |nil=>exact absurd hq hi.ne
  |cons a b=>exact ⟨a,b,rfl⟩
 have oE:hdI s.cur=x:=by rw [hc];rfl
 have ja:s.cur.tail=r:=by rw [hc];rfl
 have hx:=hi.it x (by rw [hc];simp);have hxp:=h.cur x (by rw [hc];simp);have hr:∀y∈r,PI y:=fun y hy=>h.cur y (by rw [hc];simp [hy])
 have lx:∀p:Int,∀y∈(ndI s p).1,PI y:=by
  intro p y hy;unfold ndI at hy;cases hq:s.nds[p.toNat]? with
  |none=>rw [hq] at hy;simp at hy
  |some n=>rw [hq] at hy;exact h.nd n (bm hq) y hy
 have hd:∀l:Ln,(∀y∈l,PI y)->l≠[]->PI (hdI l):=by
  intro l hl dI;cases l with
  |nil=>exact absurd rfl dI
  |cons a b=>exact hl a (by simp)
 rcases kq c s with ⟨_,e⟩|⟨e1,e2,e⟩|⟨e1,e2,e⟩|⟨_,_,_,_,e⟩|⟨mP,e⟩
 ·rw [e,oE,ja];split
  ·refine ⟨fun y hy=>?_,h.fr,h.nd⟩
   rcases be.1 hy with hy|hy
   ·exact lx _ y hy
   ·exact hr y hy
  ·refine ⟨fun y hy=>lx _ y hy,fun f hf=>?_,h.nd⟩
   rcases aK.1 hf with rfl|hf
   ·exact ⟨hr,.inl rfl⟩
   ·exact h.fr f hf
 ·rw [e,ja];rw [oE] at e1 e2 ⊢;rw [ja] at e2;have hv:=hx.2.1 e1;have hm:jx c x.2∈c.fs:=by
   unfold jx;rw [aA hv,aj (by omega)];exact aE _
  exact Ol h (hp _ hm) (ht _ hm).tg hc e2
 ·rw [e,ja];rw [oE] at e1 e2 ⊢;have hw:=i6 x.2;rw [ja] at e2;refine ⟨fun y hy=>?_,fun f hf=>?_,h.nd⟩
  ·simp only [dE] at hy;subst hy;exact hd r hr (by intro e;rw [e] at e2;simp at e2;omega)
  ·rcases aK.1 hf with rfl|hf
   ·refine ⟨fun y hy=>hr y (eW hy),.inr ?_⟩
    rcases hxp with e|e|⟨_,h0,h4⟩|e
    ·omega
    ·omega
    ·exact ⟨h0,h4⟩
    ·omega
   ·exact h.fr f hf
 ·rw [e];exact ⟨h.cur,h.fr,h.nd⟩
 ·rw [e];unfold lz;cases hk:s.ks with
  |nil=>
   simp only;split
   ·exact ⟨h.cur,fun f hf=>by simp at hf,h.nd⟩
   ·exact ⟨h.cur,fun f hf=>by simp at hf,h.nd⟩
  |cons f ks=>
   have hf:=h.fr f (by rw [hk];simp);have Jg:=hi.fr f (by rw [hk];simp);have nM:∀g∈ks,(∀x∈g.rs,PI x)/\(g.k=1\/(0<=g.pr/\g.pr<=4)):=fun g hg=>h.fr g (by rw [hk];simp [hg])
   have hw:=i6 f.pr;simp only;split
   ·refine ⟨fun y hy=>?_,nM,fun n hn y hy=>?_⟩
    ·rcases be.1 hy with hy|hy
     ·exact h.cur y hy
     ·exact hf.1 y hy
    ·rcases List.mem_or_eq_of_mem_set hn with hn|rfl
     ·exact h.nd n hn y hy
     ·exact h.cur y hy
   rename_i eA;split
   ·exact ⟨h.cur,fun g hg=>h.fr g (by rw [hk];exact hg),h.nd⟩
   split
   ·rename_i eh;have ez:0<f.rs.length:=by
     rcases Jg.1 with g|⟨_,g⟩|⟨g,_⟩
     ·exact absurd g eA
     ·omega
     ·omega
    refine ⟨fun y hy=>?_,fun g hg=>?_,h.nd⟩
    ·simp only [dE] at hy;subst hy;exact hd _ hf.1 (by intro e;rw [e] at ez;simp at ez)
    ·rcases aK.1 hg with rfl|hg
     ·exact ⟨fun y hy=>hf.1 y (eW hy),.inr (hf.2.resolve_left eA)⟩
     ·exact nM g hg
   rename_i eh;split
   ·exact ⟨h.cur,fun g hg=>h.fr g (by rw [hk];exact hg),h.nd⟩
   split
   ·rename_i Am;have ez:2<=f.rs.length:=by
     rcases Jg.1 with g|⟨g,_⟩|⟨_,g⟩
     ·exact absurd g eA
     ·exact absurd g eh
     ·unfold eR at g;rw [aA Am] at g;omega
    refine ⟨fun y hy=>?_,nM,h.nd⟩
    rcases aK.1 hy with rfl|hy
    ·split
     ·exact hd _ hf.1 (by intro e;rw [e] at ez;simp at ez)
     ·refine hd _ (fun y hy=>hf.1 y (eW hy)) ?_
      intro e;have:=congrArg List.length e;rw [ce] at this;simp at this;omega
    ·exact hf.1 y (dr hy)
   split
   ·exact ⟨hf.1,nM,h.nd⟩
   ·refine ⟨fun y hy=>?_,nM,h.nd⟩
    rcases aK.1 hy with rfl|hy
    ·exact .inl rfl
    ·exact hf.1 y hy
open Go.RowKit
def jV (ks:List Kf):List Ln:=(ks.map (·.rs)).reverse
def iZ (ks:List Kf):List Int:=(gA ks).reverse
theorem pY (f:Kf) (ks:List Kf):jV (f::ks)=jV ks++[f.rs]:=by simp [jV]
theorem zV {f:Kf} (ks:List Kf) (h:f.k≠1):iZ (f::ks)=iZ ks:=by unfold iZ gA;rw [dy,ay h];rfl
theorem wm {f:Kf} (ks:List Kf) (h:f.k=1):iZ (f::ks)=iZ ks++[f.nd]:=by unfold iZ gA;rw [dy,aA h];simp
structure Sz (c:Cf) (n:Nat) (s:Im):Prop where
 st:0<=s.stp
 tot:n9 s+8*n<=8000000
 ks:s.ks.length+n<=800000
 nd:(s.nds.length:Int)<=12*s.stp
 sb:s.stp<=c.bud
structure Gd (c:Cf) (s:Im):Prop where
 ii:∃rk,Ii c rk s
 nb:NdB s
 pg:PG s
 out:s.out=0
theorem kK {c:Cf} (ht:∀t∈c.fs,TGo c t) (hp:∀t∈c.fs,TPg t) {n:Nat} {s:Im} (hg:Gd c s) (hs:Sz c (n+1) s) (ho:(dP c s).out=0):Gd c (dP c s)/\Sz c n (dP c s):=by
 obtain ⟨⟨rk,hi⟩,hn,hpg,_⟩:=hg;have hm:=Ae hi ht ho;obtain ⟨t1,t2,t3⟩:=Jx hi ht hn;have h1:=hs.st;have h2:=hs.tot;have h3:=hs.ks;have h4:=hs.nd;have h5:=hs.sb;have m1:=hm.st;have m2:=hm.sb;have m3:=hm.nl;refine ⟨⟨hm.iv,t2,Oj hi hpg ht hp,ho⟩,by omega,by omega,by omega,by omega,?_⟩
 by_cases h:s.stp<(dP c s).stp
 ·have:=m2 h;omega
 ·omega
theorem DM {c:Cf} (ht:∀t∈c.fs,TGo c t) (hp:∀t∈c.fs,TPg t) {ks:List Kf}:∀{n1 n2:Nat} {s U:Im},Ev c ks n1 s U->Gd c s->Sz c (n1+n2) s->U.out=0->Gd c U/\Sz c n2 U
 |0,n2,s,U,he,hg,hs,_=>by
  obtain ⟨rfl,_⟩:=he;rw [cr] at hs;exact ⟨hg,hs⟩
 |n1+1,n2,s,U,he,hg,hs,ho=>by
  obtain ⟨_,_,h3⟩:=he;have Z7:(dP c s).out=0:=by
   cases n1 with
   |zero=>obtain ⟨rfl,_⟩:=h3;exact ho
   |succ n=>exact h3.1
  obtain ⟨g1,g2⟩:=kK ht hp hg (n:=n1+n2) (by rw [show n1+n2+1=n1+1+n2 by omega];exact hs) Z7;exact DM ht hp h3 g1 g2 ho
def jJ (U:Im):Int:=if U.out=0 then (if (hdI U.cur).1=1 then 0 else 3) else U.out
def A0 (p:Nat) (U:Im):List (Ln×Bool):=if U.out=0 then U.nds.set p (U.cur,true) else U.nds
theorem uz {w:World} {b k i j:Nat} {v:Value} (h:b≠k):(w.setCell ⟨k,i,none⟩ v).cell? ⟨b,j,none⟩=w.cell? ⟨b,j,none⟩:=jL (bi _ h)
theorem gX (w:World) (a:Addr) (v:Value):(w.setCell a v).heap.size=w.heap.size:=by simp [World.setCell]
theorem Rd.from {w:World} {T b off n cap:Nat} {l:Ln} (h:Rd w T (.slice (some ⟨b,off,none⟩) n cap) l) (k:Nat) (hk:k<=n):Rd w T (.slice (some ⟨b,off+k*2,none⟩) (n-k) (cap-k)) (l.drop k)/\(cap=k->Rd w T (.slice (some ⟨b,off,none⟩) (n-k) 0) (l.drop k)):=by
 obtain ⟨e1,e2,e3⟩:=h.cap;constructor
 ·have q:=Rd.part (k:=k) (m:=n-k) (c:=cap-k) h (by omega) (by omega) (by omega);rw [bN (by rw [cI];omega)] at q;exact q
 ·intro hc;have q:=Rd.part (k:=0) (m:=n-k) (c:=0) h (by omega) (by omega) (by unfold maxLen;omega);have hd:l.drop k=[]:=bj (by omega);rw [show n-k=0 by omega,du] at q;rw [hd,show n-k=0 by omega];exact q
theorem yZ {c:Cf} {U:Im} {p va vb:Int} {r:Ln} {ks:List Kf} (hk:U.ks=⟨3,0,p,va,r⟩::ks) (h1:(hdI U.cur).1=1) (h2:vb=(hdI U.cur).2):lz c (hdI U.cur) U=if c.bud<=U.stp then {U with out:=5} else if p=3\/p=4 then {U with stp:=U.stp+1,ks:=ks,cur:=(if sR p va vb then hdI r else hdI r.tail)::r.drop 2} else if oh (iD p va vb) then {U with stp:=U.stp+1,ks:=ks,cur:=r,out:=4} else {U with stp:=U.stp+1,ks:=ks,cur:=(1,iD p va vb)::r}:=by
 unfold lz;rw [hk];simp only;rw [ay (by decide),ay (by simpa using h1),ay (by decide),h2]
def m9 (c:Cf) (U1 U2:Im):Im:=if jJ U1≠0 then {U1 with out:=jJ U1} else if jJ U2≠0 then {U2 with out:=jJ U2} else lz c (hdI U2.cur) U2
set_option maxHeartbeats 8000000
def PO (w:World) (T:Nat) (nm:List Tk) (d:Dl) (pv:Value):Prop:=
 ∃xs,w.ownsRow 0 223 3 pv d.b.cnt xs/\(∀k,pv.ownBlock=some k->k<T)/\ER w (fun k=>k<T) d.ps nm d.b xs
theorem PO.keep {w w':World} {T:Nat} {nm:List Tk} {d:Dl} {pv:Value} (h:PO w T nm d pv) (hb:Below T w w'):PO w' T nm d pv:=by
 obtain ⟨xs,h1,h2,h3⟩:=h;exact ⟨xs,cM h1 hb h2,h2,ER.keep (fun k hk=>hb.block k hk) (fun _ h=>h) h3⟩
def dcs (vs:List (Value×Value×Value)):List Value:=vs.flatMap (fun v=>[v.1,v.2.1,v.2.2])
theorem Lq (vs:List (Value×Value×Value)) (v:Value×Value×Value):dcs (vs++[v])=dcs vs++[v.1,v.2.1,v.2.2]:=by simp [dcs]
theorem Cv:∀(vs:List (Value×Value×Value)) (j:Nat) (v:Value×Value×Value),vs[j]?=some v->(dcs vs)[j*3]?=some v.1/\(dcs vs)[j*3+1]?=some v.2.1/\(dcs vs)[j*3+2]?=some v.2.2
 |[],j,v,h=>by simp at h
 |u::vs,0,v,h=>by simp at h;subst h;exact ⟨rfl,rfl,rfl⟩
 |u::vs,j+1,v,h=>by
  have:=Cv vs j v (by simpa using h);have e:∀k,(dcs (u::vs))[(j+1)*3+k]?=(dcs vs)[j*3+k]?:=fun k=>by
   show (u.1::u.2.1::u.2.2::dcs vs)[(j+1)*3+k]?=_
   rw [show (j+1)*3+k=j*3+k+1+1+1 by omega];rfl
  exact ⟨(e 0).trans this.1,(e 1).trans this.2.1,(e 2).trans this.2.2⟩
theorem In:∀(vs:List (Value×Value×Value)) (j:Nat) (v:Value×Value×Value) (x:Value),vs[j]?=some v->dcs (vs.set j (v.1,v.2.1,x))=(dcs vs).set (j*3+2) x
 |[],j,v,x,h=>by simp at h
 |u::vs,0,v,x,h=>by simp at h;subst h;rfl
 |u::vs,j+1,v,x,h=>by
  have:=In vs j v x (by simpa using h);show u.1::u.2.1::u.2.2::dcs (vs.set j (v.1,v.2.1,x))=(u.1::u.2.1::u.2.2::dcs vs).set ((j+1)*3+2) x
  rw [this,show (j+1)*3+2=j*3+2+1+1+1 by omega];rfl
structure SB (w:World) (T g:Nat) (fv:Value) (nm:List Tk) (ds:List Df) (bud:Int) (D:List Dl) (stp out:Int) (av:Value) (vs:List (Value×Value×Value)):Prop where
 blk:w.heap[g]?=some (.cells #[fv,.int .i64 bud,.int .i64 stp,av,.int .i64 out] 198 (0,0))
 lo:T<=g
 fu:∃xs,w.ownsRow 0 183 3 fv ds.length xs/\(∀k,fv.ownBlock=some k->k<T)/\gO w T nm ds xs
 ra:w.ownsRow T 250 3 av D.length (dcs vs)
 vl:vs.length=D.length
 rv:∀(j:Nat) (v:Value×Value×Value) (d:Dl),vs[j]?=some v->D[j]?=some d->PO w T nm d v.1/\Rd w T v.2.1 d.env/\Rd w T v.2.2 d.val
 ev:∀d∈D,d.env.length=d.ps.length/\d.b.toks.length<=1000
structure SQ (w0 w:World) (T g:Nat) (fv:Value) (nm:List Tk) (ds:List Df) (bud:Int) (D:List Dl) (stp out:Int) (av:Value) (vs:List (Value×Value×Value)):Prop where
 blk:w.heap[g]?=some (.cells #[fv,.int .i64 bud,.int .i64 stp,av,.int .i64 out] 198 (0,0))
 lo:T<=g
 fu:∃xs,w0.ownsRow 0 183 3 fv ds.length xs/\(∀k,fv.ownBlock=some k->k<T)/\gO w0 T nm ds xs
 ra:w.ownsRow T 250 3 av D.length (dcs vs)
 vl:vs.length=D.length
 rv:∀(j:Nat) (v:Value×Value×Value) (d:Dl),vs[j]?=some v->D[j]?=some d->PO w0 T nm d v.1/\Rd w0 T v.2.1 d.env/\Rd w0 T v.2.2 d.val
 ev:∀d∈D,d.env.length=d.ps.length/\d.b.toks.length<=1000
def SnP (w:World) (T g:Nat) (fv:Value) (nm:List Tk) (ds:List Df) (bud:Int) (D:List Dl) (stp out:Int):Prop:=∃av vs,SB w T g fv nm ds bud D stp out av vs
theorem Fx.set2 {T b i:Nat} {w w3:World} {u:Value} (hf:Fx T w w3) (hb:w.heap.size<=b) (hT:T<=b):Fx T w (w3.setCell ⟨b,i,none⟩ u):=
 ⟨hf.bel.setCell hT u,fun k hk=>by rw [bi _ (by have:=hk.lt;omega)];exact hf.ab k hk⟩
theorem Fx.grow2 {T:Nat} {w W w2:World} {blk:Option Nat} (hf:Fx T w W) (hg:W.grownBy w2 blk) (hk:∀k,blk=some k->w.heap.size<=k) (hT:T<=w.heap.size):Fx T w w2:=by
 have hb:Below w.heap.size W w2:=(ai _ W).grown hg hf.size hk;exact ⟨hf.bel.trans (hb.mono hT),fun b oT=>(hb.block b oT.lt).trans (hf.ab b oT)⟩
section
variable {w w' w2:World} {T g:Nat} {fv:Value} {nm:List Tk} {ds:List Df} {bud:Int} {D:List Dl} {stp out:Int} {av:Value} {vs:List (Value×Value×Value)}
theorem SB.lt (h:SB w T g fv nm ds bud D stp out av vs):g<w.heap.size:=(ae.1 h.blk).1
theorem SB.hT (h:SB w T g fv nm ds bud D stp out av vs):T<=w.heap.size:=by have:=h.lt;have:=h.lo;omega
theorem SB.fuk (h:SB w T g fv nm ds bud D stp out av vs) (hb:Below T w w'):∃xs,w'.ownsRow 0 183 3 fv ds.length xs/\(∀k,fv.ownBlock=some k->k<T)/\gO w' T nm ds xs:=by
 obtain ⟨xs,h1,h2,h3⟩:=h.fu;exact ⟨xs,cM h1 hb h2,h2,h3.keep hb⟩
theorem SB.rvk (h:SB w T g fv nm ds bud D stp out av vs) (fx:Fx T w w'):∀(j:Nat) (v:Value×Value×Value) (d:Dl),vs[j]?=some v->D[j]?=some d->PO w' T nm d v.1/\Rd w' T v.2.1 d.env/\Rd w' T v.2.2 d.val:=fun j v d a b=>
 ⟨(h.rv j v d a b).1.keep fx.bel,(h.rv j v d a b).2.1.keep fx,(h.rv j v d a b).2.2.keep fx⟩
theorem SB.old (h:SB w T g fv nm ds bud D stp out av vs) (hb:Below w.heap.size w w'):SB w' T g fv nm ds bud D stp out av vs:=
 ⟨(hb.block g h.lt).trans h.blk,h.lo,h.fuk (hb.mono h.hT),aQ h.ra hb,h.vl,h.rvk (Fx.of hb h.hT),h.ev⟩
theorem SnP.old (h:SnP w T g fv nm ds bud D stp out) (hb:Below w.heap.size w w'):SnP w' T g fv nm ds bud D stp out:=by
 obtain ⟨av,vs,h⟩:=h;exact ⟨av,vs,h.old hb⟩
theorem SB.field (h:SB w T g fv nm ds bud D stp out av vs) {i:Nat} {u:Value} {stp' out':Int} (he:(#[fv,.int .i64 bud,.int .i64 stp,av,.int .i64 out]:Array Value).setIfInBounds i u=#[fv,.int .i64 bud,.int .i64 stp',av,.int .i64 out']):
 Fx T w (w.setCell ⟨g,i,none⟩ u)/\SB (w.setCell ⟨g,i,none⟩ u) T g fv nm ds bud D stp' out' av vs:=by
 have fx:Fx T w (w.setCell ⟨g,i,none⟩ u):=Fx.set h.blk (by decide) h.lo;exact ⟨fx,by rw [bk _ h.blk,he],h.lo,h.fuk fx.bel,aB h.ra h.blk (by decide),h.vl,h.rvk fx,h.ev⟩
theorem SB.setStp (h:SB w T g fv nm ds bud D stp out av vs) (m:Int):Fx T w (w.setCell ⟨g,2,none⟩ (.int .i64 m))/\SB (w.setCell ⟨g,2,none⟩ (.int .i64 m)) T g fv nm ds bud D m out av vs:=h.field rfl
theorem SB.setOut (h:SB w T g fv nm ds bud D stp out av vs) (m:Int):Fx T w (w.setCell ⟨g,4,none⟩ (.int .i64 m))/\SB (w.setCell ⟨g,4,none⟩ (.int .i64 m)) T g fv nm ds bud D stp m av vs:=h.field rfl
theorem SB.cells (h:SB w T g fv nm ds bud D stp out av vs):w.cell? ⟨g,0,none⟩=some fv/\w.cell? ⟨g,1,none⟩=some (.int .i64 bud)/\w.cell? ⟨g,2,none⟩=some (.int .i64 stp)/\w.cell? ⟨g,3,none⟩=some av/\w.cell? ⟨g,4,none⟩=some (.int .i64 out):=by
 refine ⟨?_,?_,?_,?_,?_⟩<;>rw [al _ _ _ _ _ _ h.blk]<;>rfl
theorem SB.fz (h:SB w T g fv nm ds bud D stp out av vs) (i:Nat):w.frozen? ⟨g,i,none⟩=false:=aG _ _ _ _ _ h.blk
theorem SB.pushD (h:SB w T g fv nm ds bud D stp out av vs) {q cap:Nat} {pv ev:Value} {d:Dl} (hp:PO w T nm d pv) (he:Rd w T ev d.env) (hv:d.val=[]) (hd:d.env.length=d.ps.length/\d.b.toks.length<=1000) (hown:w2.ownsRow T 250 3 (.slice (some ⟨q,0,none⟩) (D.length+1) cap) (D.length+1) (dcs vs++[pv,ev,.slice none 0 0])) (hg:w.grownBy w2 av.ownBlock):
 Fx T w (w2.setCell ⟨g,3,none⟩ (.slice (some ⟨q,0,none⟩) (D.length+1) cap))/\SB (w2.setCell ⟨g,3,none⟩ (.slice (some ⟨q,0,none⟩) (D.length+1) cap)) T g fv nm ds bud (D++[d]) stp out (.slice (some ⟨q,0,none⟩) (D.length+1) cap) (vs++[(pv,ev,.slice none 0 0)]):=by
 have bX:=br h.ra hg (by decide) h.blk;have fx:Fx T w (w2.setCell ⟨g,3,none⟩ (.slice (some ⟨q,0,none⟩) (D.length+1) cap)):=(Fx.grown h.ra hg (by decide) h.hT).trans (Fx.set bX (by decide) h.lo);refine ⟨fx,bk _ bX,h.lo,h.fuk fx.bel,?_,by simp [h.vl],fun j u n hu hn=>?_,fun e he=>?_⟩
 ·rw [au,Lq];exact aB hown bX (by decide)
 ·by_cases hj:j<D.length
  ·rw [aI (by rw [h.vl];exact hj)] at hu;rw [aI hj] at hn;exact h.rvk fx j u n hu hn
  ·rw [aC (by rw [h.vl];omega)] at hu;rw [aC (by omega)] at hn;rw [h.vl] at hu;have sd:j-D.length=0:=by
    have:=(aP.1 hn).1;simp at this;omega
   rw [sd] at hu hn;simp at hu hn;subst hu hn;exact ⟨hp.keep fx.bel,he.keep fx,by rw [hv];exact Rd.nil _ _⟩
 ·rcases be.1 he with k|k
  ·exact h.ev e k
  ·simp at k;subst k;exact hd
theorem SB.sq (h:SB w T g fv nm ds bud D stp out av vs):SQ w w T g fv nm ds bud D stp out av vs:=⟨h.blk,h.lo,h.fu,h.ra,h.vl,h.rv,h.ev⟩
theorem SQ.sb {w0:World} (h:SQ w0 w T g fv nm ds bud D stp out av vs) (fx:Fx T w0 w):SB w T g fv nm ds bud D stp out av vs:=by
 obtain ⟨xs,h1,h2,h3⟩:=h.fu;exact ⟨h.blk,h.lo,⟨xs,cM h1 fx.bel h2,h2,h3.keep fx.bel⟩,h.ra,h.vl,fun j v d a b=>⟨(h.rv j v d a b).1.keep fx.bel,(h.rv j v d a b).2.1.keep fx,(h.rv j v d a b).2.2.keep fx⟩,h.ev⟩
theorem SQ.push {w0 w4:World} {d:Dl} {pv ev av3:Value} (h:SQ w0 w T g fv nm ds bud D stp out av vs) (hp:PO w0 T nm d pv) (he:Rd w0 T ev d.env) (hv:d.val=[]) (hd:d.env.length=d.ps.length/\d.b.toks.length<=1000) (hb:w4.heap[g]?=some (.cells #[fv,.int .i64 bud,.int .i64 stp,av3,.int .i64 out] 198 (0,0))) (ra:w4.ownsRow T 250 3 av3 (D++[d]).length (dcs (vs++[(pv,ev,.slice none 0 0)]))):
 SQ w0 w4 T g fv nm ds bud (D++[d]) stp out av3 (vs++[(pv,ev,.slice none 0 0)]):=by
 refine ⟨hb,h.lo,h.fu,ra,by simp [h.vl],fun j u n hu hn=>?_,fun e he=>?_⟩
 ·by_cases hj:j<D.length
  ·rw [aI (by rw [h.vl];exact hj)] at hu;rw [aI hj] at hn;exact h.rv j u n hu hn
  ·rw [aC (by rw [h.vl];omega)] at hu;rw [aC (by omega)] at hn;rw [h.vl] at hu;have sd:j-D.length=0:=by
    have:=(aP.1 hn).1;simp at this;omega
   rw [sd] at hu hn;simp at hu hn;subst hu hn;exact ⟨hp,he,by rw [hv];exact Rd.nil _ _⟩
 ·rcases be.1 he with k|k
  ·exact h.ev e k
  ·simp at k;subst k;exact hd
theorem SQ.grow {w0:World} {size n base:Nat} {v:Value} {xs0:List Value} (h:SQ w0 w T g fv nm ds bud D stp out av vs) (hr:w.ownsRow base 99 size v n xs0) (hg:w.grownBy w2 v.ownBlock):SQ w0 w2 T g fv nm ds bud D stp out av vs:=
 ⟨br hr hg (by decide) h.blk,h.lo,h.fu,aY hr hg (by decide) h.ra,h.vl,h.rv,h.ev⟩
theorem SQ.old {w0:World} (h:SQ w0 w T g fv nm ds bud D stp out av vs) (hb:Below w.heap.size w w'):SQ w0 w' T g fv nm ds bud D stp out av vs:=
 ⟨(hb.block g (ae.1 h.blk).1).trans h.blk,h.lo,h.fu,aQ h.ra hb,h.vl,h.rv,h.ev⟩
theorem SB.layV (h:SB w T g fv nm ds bud D stp out av vs) {q m cap n st:Nat} {v:Value} {l:Ln} {d:Dl} (ha:av=.slice (some ⟨q,0,none⟩) m cap) (hr:Rd w T v l) (hd:D[n]?=some d):
 ∃vs',Fx T w (w.setCell ⟨q,n*3+2,none⟩ v)/\SB (w.setCell ⟨q,n*3+2,none⟩ v) T g fv nm ds bud (D.set n {d with val:=l,st:=st}) stp out av vs':=by
 subst ha;have hn:=(aP.1 hd).1;have kU:=h.ra;obtain ⟨q',cap',hq,vg,dX⟩:=kU.form (by omega);cases hq
 obtain ⟨cs,hg⟩:=JF kU;have PK:n<vs.length:=by rw [h.vl];exact hn
 have Ai:vs[n]?=some vs[n]:=aj PK;have fx:Fx T w (w.setCell ⟨q,n*3+2,none⟩ v):=Fx.set hg (by decide) vg;refine ⟨vs.set n (vs[n].1,vs[n].2.1,v),fx,?_,h.lo,h.fuk fx.bel,?_,by simp [h.vl],fun j u e hu he=>?_,fun e he=>?_⟩
 ·rw [bi _ (xD h.blk hg (by decide))];exact h.blk
 ·rw [In vs n _ v Ai,bJ];exact lG kU _ _
 ·by_cases Kw:n=j
  ·subst Kw;rw [bR PK] at hu;rw [bR hn] at he;cases hu;cases he
   obtain ⟨a,b,_⟩:=h.rvk fx n _ d Ai hd;exact ⟨a,b,hr.keep fx⟩
  ·rw [b9 Kw] at hu he;exact h.rvk fx j u e hu he
 ·obtain ⟨i,hi⟩:=List.getElem?_of_mem he;rcases gM hi with ⟨rfl,rfl⟩|⟨n1,k1⟩
  ·exact h.ev d (bm hd)
  ·exact h.ev e (bm k1)
theorem SB.take (h:SB w T g fv nm ds bud D stp out av vs) {n st:Nat} {d:Dl} (hd:D[n]?=some d):SB w T g fv nm ds bud (D.set n {d with st:=st}) stp out av vs:=by
 have hn:=(aP.1 hd).1;refine ⟨h.blk,h.lo,h.fu,by rw [bJ];exact h.ra,by simp [h.vl],fun j u e hu he=>?_,fun e he=>?_⟩
 ·rcases gM he with ⟨rfl,rfl⟩|⟨n1,k1⟩
  ·exact h.rv _ u d hu hd
  ·exact h.rv j u e hu k1
 ·obtain ⟨i,hi⟩:=List.getElem?_of_mem he;rcases gM hi with ⟨rfl,rfl⟩|⟨n1,k1⟩
  ·exact h.ev d (bm hd)
  ·exact h.ev e (bm k1)
end
theorem Tryz.infoDelay:(Tryz.prog.info? 250).map (fun i=>(i.zero,i.size,i.bytes))=some (some (.agg #[.slice none 0 0,.slice none 0 0,.slice none 0 0]),3,72):=by kernel_rfl
theorem No (w:World) (T g:Nat) (fv:Value) (nm:List Tk) (ds:List Df) (bud:Int) (D:List Dl) (stp out:Int) (h:SnP w T g fv nm ds bud D stp out) (hs:0<=stp) (hb:bud<=2000) (cV:stp<bud):
 Calls Tryz.prog 188 #[.pointer (some ⟨g,0,none⟩)] w fun e w'=>e=.returned (.bool true)/\Fx T w w'/\But g w w'/\SnP w' T g fv nm ds bud D (stp+1) out:=by
 obtain ⟨av,vs,hw⟩:=h;obtain ⟨_,c1,c2,_,c4⟩:=hw.cells;have f2:=hw.fz 2;have f4:=hw.fz 4;have bF:=hw.lt;have H1:Hid _:=hw.setStp (stp+1);have hd:decide (bud<=stp)=false:=bn (by omega);have jz:¬bud<=stp:=by omega
 go_enter Tryz.func188,Tryz.ntmps188
 go_wp2_with fail
 go_region
 all_goals
  go_wp2_with fail
  go_ret
  exact ⟨rfl,H1.out.1.drew,(But.refl g w).set.trans (But.of (aR (ai _ _)) (by rw [gX];omega)),_,_,H1.out.2.old (aR (ai _ _))⟩
theorem Np (w:World) (T g:Nat) (fv:Value) (nm:List Tk) (ds:List Df) (bud:Int) (D:List Dl) (stp out:Int) (h:SnP w T g fv nm ds bud D stp out) (cV:bud<=stp):
 Calls Tryz.prog 188 #[.pointer (some ⟨g,0,none⟩)] w fun e w'=>e=.returned (.bool false)/\Fx T w w'/\But g w w'/\SnP w' T g fv nm ds bud D stp 5:=by
 obtain ⟨av,vs,hw⟩:=h;obtain ⟨_,c1,c2,_,c4⟩:=hw.cells;have f2:=hw.fz 2;have f4:=hw.fz 4;have bF:=hw.lt;have H1:Hid _:=hw.setOut 5;have hd:decide (bud<=stp)=true:=bG cV;go_enter Tryz.func188,Tryz.ntmps188
 go_wp2_with fail
 go_region
 all_goals
  go_wp2_with fail
  go_ret
  exact ⟨rfl,H1.out.1.drew,(But.refl g w).set.trans (But.of (aR (ai _ _)) (by rw [gX];omega)),_,_,H1.out.2.old (aR (ai _ _))⟩
theorem Ih (ps:List Tk) (E:Ln) (a b:At):dls ps E (a.app b)=dls ps E a++dls ps E b:=by
 induction a with
 |nil=>rfl
 |sim t r ih=>exact ih
 |par o h c ag r ih1 ih2=>
  by_cases hn:ag.isNil=true
  ·simp [At.app,dls,hn,ih2]
  ·simp [At.app,dls,hn,ih2]
theorem Op (ps:List Tk) (f:Tk->Int×Int) (E:Ln) (a b:At):∀k,ous f E (a.app b) k=ous f E a k++ous f E b (k+(dls ps E a).length):=by
 induction a with
 |nil=>intro k;rfl
 |sim t r ih=>intro k;simp [At.app,ous,dls,ih]
 |par o h c ag r ih1 ih2=>
  intro k;by_cases hn:ag.isNil=true
  ·simp [At.app,ous,dls,hn,ih2]
  ·simp only [At.app,ous,dls,hn,cm,dc,ih2,eO,aD];rw [show k+1+(dls ps E r).length=k+((dls ps E r).length+1) by omega]
theorem Nr (ps:List Tk) (E:Ln) (a:At):(dls ps E a).length<=a.toks.length:=by
 induction a with
 |nil=>exact ah _
 |sim t r ih=>simp [dls,At.toks];omega
 |par o h c ag r ih1 ih2=>
  by_cases hn:ag.isNil=true
  ·simp [dls,hn,At.toks];omega
  ·simp [dls,hn,At.toks];omega
theorem x8 {ps nm:List Tk} {t:Tk} (h:(aX ps nm t).1=2):0<=(aX ps nm t).2/\(aX ps nm t).2<ps.length:=by
 unfold aX at h ⊢;split at h
 ·simp at h
 ·split at h
  ·rename_i h1 h2;rw [ay h1,aA h2];obtain ⟨i,hi,he,_⟩:=n8 h2;simp only;omega
  ·split at h<;>simp at h
theorem WO {w:World} {T:Nat} {ps nm:List Tk} {E:Ln} {rest:At} {suf:List Value} (h:ER w (fun k=>k<T) ps nm rest suf) (dI:rest≠.nil) (ht:rest.toks.length<=1000):
 ∃(one r':At) (k n:Int) (pv:Value) (suf':List Value),rest=one.app r'/\one.cnt=1/\suf=eC k n pv++suf'/\ER w (fun k=>k<T) ps nm r' suf'/\(∃a c p,pv=.slice a c p)/\
  ((k≠5/\dls ps E one=[]/\(∀K,ous (aX ps nm) E one K=[sbA E (k,n)])/\(k=2->0<=n/\n<ps.length))\/
    (k=5/\∃d,dls ps E one=[d]/\(∀K,ous (aX ps nm) E one K=[(5,(K:Int))])/\PO w T nm d pv/\d.env=E/\d.val=[]/\d.ps=ps/\d.b.toks.length<=1000)):=by
 cases rest with
 |nil=>exact absurd rfl dI
 |sim t r=>
  obtain ⟨r',h1,h2⟩:=h;exact ⟨.sim t .nil,r,_,_,_,r',rfl,rfl,h1,h2,⟨_,_,_,rfl⟩,.inl ⟨eZ ps nm t,rfl,fun _=>rfl,x8⟩⟩
 |par o x c ag r=>
  rcases h with ⟨h0,r',h1,h2⟩|⟨h0,pv,ys,r',h1,h2,h3,h4,h5⟩
  ·subst h0;exact ⟨.par o x c .nil .nil,r,_,_,_,r',rfl,rfl,h1,h2,⟨_,_,_,rfl⟩,.inl ⟨eZ ps nm x,rfl,fun _=>rfl,x8⟩⟩
  ·have hn:=At.isNil_ne h0;obtain ⟨ao,cap,Kl⟩:=aU h2;refine ⟨.par o x c ag .nil,r,_,_,pv,r',rfl,rfl,h1,h5,⟨_,_,_,Kl⟩,.inr ⟨rfl,⟨ps,.sim x ag,E,[],0⟩,?_,fun K=>?_,⟨_,h2,h3,ys,rfl,h4⟩,rfl,rfl,rfl,?_⟩⟩
   ·simp [dls,hn]
   ·simp [ous,hn]
   ·simp [At.toks] at ht ⊢;omega
theorem Fx.own {w w':World} {T B n:Nat} {v:Value} {xs:List Value} (hf:Fx T w w') (h:w.ownsRow B 99 2 v n xs):w'.ownsRow B 99 2 v n xs:=by
 refine ⟨h.1,?_⟩
 rcases h.2 with hn|⟨g,cap,cur,hv,hg,hh,r⟩
 ·exact .inl hn
 ·exact .inr ⟨g,cap,cur,hv,hg,(hf.ab g ⟨cur,hh⟩).trans hh,r⟩
theorem WU (w:World) (T g:Nat) (k n:Int) (pv ev:Value) (E:Ln) (hp:∃a c p,pv=.slice a c p) (he:Rd w T ev E) (hk:k≠5) (h2:k=2->0<=n/\n<E.length):
 Calls Tryz.prog 201 #[.pointer (some ⟨g,0,none⟩),.agg #[.int .i64 k,.int .i64 n,pv],ev] w fun e w'=>e=.returned (.agg #[.int .i64 (sbA E (k,n)).1,.int .i64 (sbA E (k,n)).2])/\Below w.heap.size w w':=by
 obtain ⟨pa,pc,pp,rfl⟩:=hp;obtain ⟨eo,ec,rfl⟩:=he.form;obtain ⟨_,Ji,AH⟩:=he.cap;unfold maxLen at AH;have wI:(k==5)=false:=by simpa using hk
 by_cases e2:k=2
 ·subst e2;obtain ⟨h0,h1⟩:=h2 rfl;obtain ⟨m,rfl⟩:=aZ h0;have hm:m<E.length:=by omega
  obtain ⟨ab,aoff,ac',e,Wo⟩:=he.isSome (by omega);cases e
  obtain ⟨n0,n1⟩:=Rd.at he m hm;have hx:sbA E (2,(m:Int))=E[m]:=by unfold sbA;rw [aA ⟨rfl,by simp,by simpa using h1⟩];simp [hm]
  rw [hx];generalize E[m]=x at*;clear he hx;go_enter Tryz.func201,Tryz.ntmps201
  go_wp2_with fail
  exact aS (v:=.agg #[.int .i64 x.1,.int .i64 x.2]) (by simp [results,Tryz.results201,go_sem]) rfl ⟨rfl,eU _ _ _⟩
 ·have e2':(k==2)=false:=by simpa using e2
  have hx:sbA E (k,n)=(k,n):=by unfold sbA;rw [ay (fun h=>e2 h.1)]
  rw [hx];clear he hx;go_enter Tryz.func201,Tryz.ntmps201
  go_wp2_with fail
  exact aS (v:=.agg #[.int .i64 k,.int .i64 n]) (by simp [results,Tryz.results201,go_sem]) rfl ⟨rfl,eU _ _ _⟩
theorem Lw (W:World) (b:Nat) (a0 a1:Value) (t:TypeId) (x0 x1:Value) (h:W.heap[b]?=some (.cells #[a0,a1] t (0,0))):((W.setCell ⟨b,0,none⟩ x0).setCell ⟨b,1,none⟩ x1).cell? ⟨b,0,none⟩=some x0/\((W.setCell ⟨b,0,none⟩ x0).setCell ⟨b,1,none⟩ x1).cell? ⟨b,1,none⟩=some x1:=by
 have h2:=bk (i:=1) x1 (bk (i:=0) x0 h);exact ⟨by rw [al _ b 0 _ _ _ h2];rfl,by rw [al _ b 1 _ _ _ h2];rfl⟩
theorem WS (w0 w:World) (T g:Nat) (fv:Value) (nm:List Tk) (ds:List Df) (bud:Int) (D:List Dl) (stp out n:Int) (pv ev:Value) (d:Dl) (av:Value) (vs:List (Value×Value×Value)) (h:SQ w0 w T g fv nm ds bud D stp out av vs) (Jh:Fx T w0 w) (lK:PO w0 T nm d pv) (he0:Rd w0 T ev d.env) (hv:d.val=[]) (hd:d.env.length=d.ps.length/\d.b.toks.length<=1000) (hl:D.length<=100000):
 Calls Tryz.prog 201 #[.pointer (some ⟨g,0,none⟩),.agg #[.int .i64 5,.int .i64 n,pv],ev] w fun e w'=>e=.returned (.agg #[.int .i64 5,.int .i64 D.length])/\Fx T w w'/\∃av' vs',SQ w0 w' T g fv nm ds bud (D++[d]) stp out av' vs':=by
 obtain ⟨it,Je,tv,uu,lj⟩:=bE Tryz.infoDelay;have hw:=h.sb Jh;have hp:=lK.keep Jh.bel;have he:=he0.keep Jh;obtain ⟨pa,pc,pp,rfl⟩:∃a c p,pv=.slice a c p:=by obtain ⟨xs,h1,_⟩:=hp;obtain ⟨ao,cap,e⟩:=aU h1;exact ⟨_,_,_,e⟩
 obtain ⟨eo,ec,rfl⟩:=he.form;obtain ⟨ao,ac,rfl⟩:=aU hw.ra;obtain ⟨_,_,_,c3,_⟩:=hw.cells;have f3:=hw.fz 3;have qH:=hw.lt;have mZ:=hw.hT;have oX:Hid (Below w.heap.size w ((w.alloc (Obj.cells #[.int .i64 5,.int .i64 n,.slice pa pc pp] 223)).alloc (Obj.cells #[.int .i64 0,.int .i64 0] 99))):=eU _ _ _;have lJ:((w.alloc (Obj.cells #[.int .i64 5,.int .i64 n,.slice pa pc pp] 223)).alloc (Obj.cells #[.int .i64 0,.int .i64 0] 99)).heap.size=w.heap.size+1+1:=by simp
 have HR0:Hid (((w.alloc (Obj.cells #[.int .i64 5,.int .i64 n,.slice pa pc pp] 223)).alloc (Obj.cells #[.int .i64 0,.int .i64 0] 99)).heap[w.heap.size+1]?=some (Obj.cells #[.int .i64 0,.int .i64 0] 99)):=by
  have:=az (w.alloc (Obj.cells #[.int .i64 5,.int .i64 n,.slice pa pc pp] 223)) (Obj.cells #[.int .i64 0,.int .i64 0] 99);rw [bT] at this;exact this
 have gU:Hid (Below w.heap.size w (((w.alloc (Obj.cells #[.int .i64 5,.int .i64 n,.slice pa pc pp] 223)).alloc (Obj.cells #[.int .i64 0,.int .i64 0] 99)).alloc (Obj.cells #[.slice pa pc pp,.slice eo d.env.length ec,.slice none 0 0] 250)).drew):=aR (oX.out.alloc (by rw [lJ];omega) _);have rx:Hid ((((w.alloc (Obj.cells #[.int .i64 5,.int .i64 n,.slice pa pc pp] 223)).alloc (Obj.cells #[.int .i64 0,.int .i64 0] 99)).alloc (Obj.cells #[.slice pa pc pp,.slice eo d.env.length ec,.slice none 0 0] 250)).drew.heap[w.heap.size+1+1]?=some (Obj.cells #[.slice pa pc pp,.slice eo d.env.length ec,.slice none 0 0] 250)):=by
  have:=az ((w.alloc (Obj.cells #[.int .i64 5,.int .i64 n,.slice pa pc pp] 223)).alloc (Obj.cells #[.int .i64 0,.int .i64 0] 99)) (Obj.cells #[.slice pa pc pp,.slice eo d.env.length ec,.slice none 0 0] 250);rw [lJ] at this;exact this
 have xA:Hid ((((w.alloc (Obj.cells #[.int .i64 5,.int .i64 n,.slice pa pc pp] 223)).alloc (Obj.cells #[.int .i64 0,.int .i64 0] 99)).alloc (Obj.cells #[.slice pa pc pp,.slice eo d.env.length ec,.slice none 0 0] 250)).drew.heap[w.heap.size+1]?=some (Obj.cells #[.int .i64 0,.int .i64 0] 99)):=(aO ((w.alloc (Obj.cells #[.int .i64 5,.int .i64 n,.slice pa pc pp] 223)).alloc (Obj.cells #[.int .i64 0,.int .i64 0] 99)) (Obj.cells #[.slice pa pc pp,.slice eo d.env.length ec,.slice none 0 0] 250) (w.heap.size+1) (by rw [lJ];omega)).trans HR0.out;have HW:Hid _:=hw.old gU.out;have RW:Hid _:=hp.keep (gU.out.mono mZ);have j7:Hid _:=he.old gU.out;have HD:Hid _:=hd;have HW0:Hid _:=h;have acE:Hid _:=lK;have acC:Hid _:=he0;have c3y:(((w.alloc (Obj.cells #[.int .i64 5,.int .i64 n,.slice pa pc pp] 223)).alloc (Obj.cells #[.int .i64 0,.int .i64 0] 99)).alloc (Obj.cells #[.slice pa pc pp,.slice eo d.env.length ec,.slice none 0 0] 250)).cell? ⟨g,3,none⟩=some (.slice ao D.length ac):=(SB.cells HW.out).2.2.2.1;clear hw hp he hd h lK he0 Jh;go_enter Tryz.func201,Tryz.ntmps201
 go_wp2_with fail
 go_region_law ((refine step_append_lies _ (by rfl) _ _ _ (by rfl) T 250 it _ 3 72 Tryz.underlying196 Je tv uu lj rfl (by omega) (.slice ao D.length ac) D.length (dcs vs) (by rfl) (by exact SB.ra HW.out) _ 1 _ [.slice pa pc pp,.slice eo d.env.length ec,.slice none 0 0] (by rfl) rfl (by exact World.news_of_block rx.out) (by simp [Value.oneCell']) (by omega) (by unfold maxLen;omega) (by omega) (by simp;omega) _ rfl ?_;intro q cap w2 hown bD dt cV;have mY:=br (SB.ra HW.out) bD (by decide) (SB.blk HW.out);have kb:w2.cell? ⟨g,3,none⟩=some (.slice ao D.length ac):=(by rw [al _ _ 3 _ _ _ mY];rfl);have kf:=aG w2 g 3 _ _ mY;have qj:g<w2.heap.size:=(ae.1 mY).1;have HFW:Hid _:=SB.pushD HW.out RW.out j7.out hv HD.out hown bD;have gT:Hid (w2.heap[w.heap.size+1]?=some (Obj.cells #[.int .i64 0,.int .i64 0] 99)):=br (SB.ra HW.out) bD (by decide) xA.out;clear hown bD dt cV mY))
 all_goals
  obtain ⟨Sw,lw⟩:=HFW.out;have Nj:(w2.setCell ⟨g,3,none⟩ (.slice (some ⟨q,0,none⟩) (D.length+1) cap)).heap[w.heap.size+1]?=some (Obj.cells #[.int .i64 0,.int .i64 0] 99):=(bi _ (by omega)).trans gT.out;clear HFW gT kb kf qj;generalize (w2.setCell ⟨g,3,none⟩ (.slice (some ⟨q,0,none⟩) (D.length+1) cap))=w3 at*;obtain ⟨_,_,_,k3,_⟩:=lw.cells;have hg3:=lw.lt;have r0:w3.cell? ⟨w.heap.size+1,0,none⟩=some (.int .i64 0):=by rw [al _ _ 0 _ _ _ Nj];rfl
  have r1:w3.cell? ⟨w.heap.size+1,1,none⟩=some (.int .i64 0):=by rw [al _ _ 1 _ _ _ Nj];rfl
  have z0:=aG w3 (w.heap.size+1) 0 _ _ Nj;have z1:=aG w3 (w.heap.size+1) 1 _ _ Nj;have lV:w.heap.size+1<w3.heap.size:=(ae.1 Nj).1;have me:Hid (Fx T w w3):=(Fx.of gU.out mZ).trans Sw;have IM:Hid _:=lw;have LX:Hid _:=Nj;clear Sw lw Nj c3 f3 c3y HW RW j7 rx gU xA HR0 oX lJ;go_wp2_with fail
  obtain ⟨q0,q1⟩:=Lw w3 (w.heap.size+1) _ _ _ (.int .i64 5) (.int .i64 (D.length:Int)) LX.out;have fx4:Fx T w ((w3.setCell ⟨w.heap.size+1,0,none⟩ (.int .i64 5)).setCell ⟨w.heap.size+1,1,none⟩ (.int .i64 (D.length:Int))):=(me.out.set2 (by omega) (by omega)).set2 (by omega) (by omega);refine aS (v:=.agg #[.int .i64 5,.int .i64 (D.length:Int)]) (by simp [results,Tryz.results201,go_sem,q0,q1]) rfl ⟨rfl,fx4,_,_,SQ.push (av3:=.slice (some ⟨q,0,none⟩) (D.length+1) cap) HW0.out acE.out acC.out hv HD.out ?_ ?_⟩
  ·rw [bi _ (by omega),bi _ (by omega)];exact SB.blk IM.out
  ·exact aB (aB (SB.ra IM.out) LX.out (by decide)) (bk _ LX.out) (by decide)
end Go.Proofs.YtnndoagpbcacdabGreatDoor
