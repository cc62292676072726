import Derived.Test.YtnndoagpbcacdabGreatDoorMJ1b
import Derived.Test.YtnndoagpbcacdabGreatDoorR16
import Derived.Test.YtnndoagpbcacdabGreatDoorMI5
import Derived.Test.YtnndoagpbcacdabGreatDoorMD0
import Derived.Test.YtnndoagpbcacdabGreatDoorMX7
namespace Go.Proofs.YtnndoagpbcacdabGreatDoor
structure Dl where
 ps:List Tk
 b:At
 env:Ln
 val:Ln
 st:Nat
def imA (ρ:List Nat) (x:Int×Int):Int×Int:=if x.1=5 then (5,((ρ[x.2.toNat]?.getD 0:Nat):Int)) else x
def imL (ρ:List Nat) (l:Ln):Ln:=l.map (imA ρ)
def vA (n:Nat) (x:Int×Int):Prop:=x.1=5->0<=x.2/\x.2<n
def vL (n:Nat) (l:Ln):Prop:=∀x∈l,vA n x
def sbA (A:Ln) (a:Int×Int):Int×Int:=if a.1=2/\0<=a.2/\a.2<A.length then A[a.2.toNat]?.getD (0,0) else a
def sbL (A:Ln) (l:Ln):Ln:=l.map (sbA A)
def Lie (nds:List (Ln×Bool)) (A:Ln) (ls:List Ln) (p:Nat):Prop:=∀(j:Nat) (l:Ln),ls[j]?=some l->nds[p+j]?=some (sbL A l,false)
def exD (d:Dl):Nat:=if d.st=0 then unT d.b else 0
theorem vL.up {n m:Nat} {l:Ln} (h:vL n l) (hm:n<=m):vL m l:=fun x hx h5=>by have:=h x hx h5;omega
theorem vL.nil (n:Nat):vL n []:=fun x hx=>by simp at hx
theorem vL.app {n:Nat} {a b:Ln} (ha:vL n a) (hb:vL n b):vL n (a++b):=fun x hx=>by
 rcases be.1 hx with h|h
 ·exact ha x h
 ·exact hb x h
theorem vL.cons {n:Nat} {x:Int×Int} {b:Ln} (ha:vA n x) (hb:vL n b):vL n (x::b):=fun y hy=>by
 rcases aK.1 hy with h|h
 ·rw [h];exact ha
 ·exact hb y h
theorem vL.sub {n:Nat} {a b:Ln} (h:vL n b) (hs:∀x∈a,x∈b):vL n a:=fun x hx=>h x (hs x hx)
theorem Pa {ρ ρ':List Nat} {x:Int×Int} (h:vA ρ.length x):imA (ρ++ρ') x=imA ρ x:=by
 unfold imA;by_cases h5:x.1=5
 ·have:=h h5;rw [aA h5,aA h5,aI (by omega)]
 ·rw [ay h5,ay h5]
theorem qC {ρ ρ':List Nat} {l:Ln} (h:vL ρ.length l):imL (ρ++ρ') l=imL ρ l:=by
 unfold imL;exact ft fun x hx=>Pa (h x hx)
theorem Ad (ρ:List Nat) (a b:Ln):imL ρ (a++b)=imL ρ a++imL ρ b:=by unfold imL;simp
theorem ky (ρ:List Nat) (a:Ln):(imL ρ a).length=a.length:=by unfold imL;simp
theorem J8 (ρ:List Nat) (x:Int×Int):(imA ρ x).1=x.1:=by
 unfold imA;split
 ·rename_i h;exact h.symm
 ·rfl
theorem yd {ρ:List Nat} {x:Int×Int} (h:x.1≠5):imA ρ x=x:=by unfold imA;rw [ay h]
theorem Ub (ρ:List Nat) (E:Ln) {x:Int×Int} (h:x.1≠5):imA ρ (sbA E x)=sbA (imL ρ E) x:=by
 unfold sbA;rw [ky];by_cases h2:x.1=2/\0<=x.2/\x.2<E.length
 ·rw [aA h2,aA h2];have hl:x.2.toNat<E.length:=by omega
  unfold imL;rw [cH,aj hl];rfl
 ·rw [ay h2,ay h2,yd h]
theorem Te {n:Nat} {E:Ln} {x:Int×Int} (h:x.1≠5) (hE:vL n E):vA n (sbA E x):=by
 unfold sbA;by_cases h2:x.1=2/\0<=x.2/\x.2<E.length
 ·rw [aA h2];have hl:x.2.toNat<E.length:=by omega
  rw [aj hl];exact hE _ (aE hl)
 ·rw [ay h2];exact fun h5=>absurd h5 h
theorem Lie.app {nds:List (Ln×Bool)} {A:Ln} {a b:List Ln} {p:Nat} (h:Lie nds A (a++b) p):Lie nds A a p/\Lie nds A b (p+a.length):=by
 refine ⟨fun j l hj=>h j l ?_,fun j l hj=>?_⟩
 ·have:=(aP.1 hj).1;rw [aI this];exact hj
 ·have:=h (a.length+j) l (by rw [aC (by omega),Nat.add_sub_cancel_left];exact hj);rw [show p+a.length+j=p+(a.length+j) by omega];exact this
theorem Lie.cons {nds:List (Ln×Bool)} {A:Ln} {x:Ln} {b:List Ln} {p:Nat} (h:Lie nds A (x::b) p):nds[p]?=some (sbL A x,false)/\Lie nds A b (p+1):=by
 refine ⟨h 0 x rfl,fun j l hj=>?_⟩
 have:=h (j+1) l (by simpa using hj);rw [show p+1+j=p+(j+1) by omega];exact this
structure Smr (nm:List Tk) (D:List Dl) (ρ:List Nat) (nds:List (Ln×Bool)) (ops:List Int):Prop where
 len:ρ.length=D.length
 dj:∀(i j:Nat) (d e:Dl) (p q:Nat),D[i]?=some d->D[j]?=some e->ρ[i]?=some p->ρ[j]?=some q->i≠j->p+exD d<q\/q+exD e<p
 lt:∀(i:Nat) (d:Dl) (p:Nat),D[i]?=some d->ρ[i]?=some p->p+exD d<nds.length
 env:∀d∈D,vL D.length d.env/\d.st<=2
 s0:∀(i:Nat) (d:Dl) (p:Nat),D[i]?=some d->ρ[i]?=some p->d.st=0->d.val=[]/\Lie nds (imL ρ d.env) (gx (aX d.ps nm) d.b (p+1)::dC (aX d.ps nm) d.b (p+1)) p
 s1:∀(i:Nat) (d:Dl) (p:Nat),D[i]?=some d->ρ[i]?=some p->d.st=1->d.val=[]/\(p:Int)∈ops
 s2:∀(i:Nat) (d:Dl) (p:Nat),D[i]?=some d->ρ[i]?=some p->d.st=2->d.val≠[]/\vL D.length d.val/\nds[p]?=some (imL ρ d.val,true)
theorem sj {α:Type} {l:List α} {x y:α} {i:Nat} (h:(l++[x])[i]?=some y):(i<l.length/\l[i]?=some y)\/(i=l.length/\y=x):=by
 by_cases hi:i<l.length
 ·rw [aI hi] at h;exact .inl ⟨hi,h⟩
 ·have h1:=(aP.1 h).1;simp at h1;have:i=l.length:=by omega
  subst this;rw [aC (ah _),ct] at h;simp at h;exact .inr ⟨rfl,h.symm⟩
theorem Smr.push {nm:List Tk} {D:List Dl} {ρ:List Nat} {nds:List (Ln×Bool)} {ops:List Int} (h:Smr nm D ρ nds ops) {d:Dl} {p:Nat} (fZ:d.st=0) (hv:d.val=[]) (he:vL D.length d.env)
 (hl:Lie nds (imL ρ d.env) (gx (aX d.ps nm) d.b (p+1)::dC (aX d.ps nm) d.b (p+1)) p) (hd:∀(i:Nat) (e:Dl) (q:Nat),D[i]?=some e->ρ[i]?=some q->q+exD e<p\/p+exD d<q) (hp:p+exD d<nds.length):
 Smr nm (D++[d]) (ρ++[p]) nds ops:=by
 have ez:=h.len;have old:∀{l:Ln},vL D.length l->imL (ρ++[p]) l=imL ρ l:=fun hl=>qC (by rw [ez];exact hl)
 have pick:∀{i:Nat} {e:Dl} {q:Nat},(D++[d])[i]?=some e->(ρ++[p])[i]?=some q->(D[i]?=some e/\ρ[i]?=some q/\i<D.length)\/(i=D.length/\e=d/\q=p):=by
  intro i e q h1 h2;rcases sj h1 with ⟨a,b⟩|⟨a,b⟩<;>rcases sj h2 with ⟨a',b'⟩|⟨a',b'⟩
  ·exact .inl ⟨b,b',a⟩
  ·omega
  ·omega
  ·exact .inr ⟨a,b,b'⟩
 refine ⟨by simp [ez],?_,?_,?_,?_,?_,?_⟩
 ·intro i j x y a b h1 h2 h3 h4 xr;rcases pick h1 h3 with ⟨k1,k2,_⟩|⟨k1,rfl,rfl⟩<;>rcases pick h2 h4 with ⟨l1,l2,_⟩|⟨l1,rfl,rfl⟩
  ·exact h.dj i j x y a b k1 l1 k2 l2 xr
  ·exact hd i x a k1 k2
  ·exact (hd j y b l1 l2).symm
  ·omega
 ·intro i x a h1 h2;rcases pick h1 h2 with ⟨k1,k2,_⟩|⟨k1,rfl,rfl⟩
  ·exact h.lt i x a k1 k2
  ·exact hp
 ·intro x hx;rw [au];rcases be.1 hx with k|k
  ·exact ⟨(h.env x k).1.up (by simp),(h.env x k).2⟩
  ·simp at k;subst k;exact ⟨he.up (by simp),by omega⟩
 ·intro i x a h1 h2 h3;rcases pick h1 h2 with ⟨k1,k2,_⟩|⟨k1,rfl,rfl⟩
  ·rw [old (h.env x (bm k1)).1];exact h.s0 i x a k1 k2 h3
  ·rw [old he];exact ⟨hv,hl⟩
 ·intro i x a h1 h2 h3;rcases pick h1 h2 with ⟨k1,k2,_⟩|⟨k1,rfl,rfl⟩
  ·exact h.s1 i x a k1 k2 h3
  ·omega
 ·intro i x a h1 h2 h3;rcases pick h1 h2 with ⟨k1,k2,_⟩|⟨k1,rfl,rfl⟩
  ·obtain ⟨q1,q2,q3⟩:=h.s2 i x a k1 k2 h3;exact ⟨q1,q2.up (by simp),by rw [old q2];exact q3⟩
  ·omega
def dls (ps:List Tk) (E:Ln):At->List Dl
 | .nil=>[]
 | .sim _ r=>dls ps E r
 | .par _ h _ ag r=>if ag.isNil then dls ps E r else ⟨ps,.sim h ag,E,[],0⟩::dls ps E r
def bss:At->Nat->List Nat
 | .nil,_=>[]
 | .sim _ r,p=>bss r p
 | .par _ _ _ ag r,p=>if ag.isNil then bss r p else p::bss r (p+1+unT ag)
def ous (f:Tk->Int×Int) (E:Ln):At->Nat->Ln
 | .nil,_=>[]
 | .sim t r,k=>sbA E (f t)::ous f E r k
 | .par _ h _ ag r,k=>if ag.isNil then sbA E (f h)::ous f E r k else (5,(k:Int))::ous f E r (k+1)
theorem xS {nm:List Tk} {nds:List (Ln×Bool)} {ops:List Int} (ps:List Tk) (E:Ln):∀(b:At) (D:List Dl) (ρ:List Nat) (p:Nat),Smr nm D ρ nds ops->Lie nds (imL ρ E) (dC (aX ps nm) b p) p->vL D.length E->
 (∀(i:Nat) (d:Dl) (q:Nat),D[i]?=some d->ρ[i]?=some q->q+exD d<p\/p+unT b<=q)->p+unT b<=nds.length->
 Smr nm (D++dls ps E b) (ρ++bss b p) nds ops/\imL (ρ++bss b p) (ous (aX ps nm) E b D.length)=sbL (imL ρ E) (gx (aX ps nm) b p)/\vL (D++dls ps E b).length (ous (aX ps nm) E b D.length):=by
 intro b;induction b with
 |nil=>intro D ρ p h _ _ _ _;simp only [dls,bss,ous,gx,cA];exact ⟨h,rfl,vL.nil _⟩
 |sim t r ih=>
  intro D ρ p h hl hE hd hp;obtain ⟨i1,i2,i3⟩:=ih D ρ p h hl hE hd hp;refine ⟨i1,?_,?_⟩
  ·show imA (ρ++bss r p) _::imL (ρ++bss r p) _=sbA _ _::sbL _ _
   rw [i2,Ub _ _ (eZ ps nm t),qC (by rw [h.len];exact hE)]
  ·exact vL.cons (Te (eZ ps nm t) (hE.up (by simp))) i3
 |par o x c ag r ih1 ih2=>
  intro D ρ p h hl hE hd hp;by_cases hn:ag.isNil=true
  ·simp only [dls,bss,ous,gx,dC,unT,hn,cQ] at*;obtain ⟨i1,i2,i3⟩:=ih2 D ρ p h hl hE hd hp;refine ⟨i1,?_,?_⟩
   ·show imA _ _::imL _ _=sbA _ _::sbL _ _
    rw [i2,Ub _ _ (eZ ps nm x),qC (by rw [h.len];exact hE)]
   ·exact vL.cons (Te (eZ ps nm x) (hE.up (by simp))) i3
  ·simp only [dls,bss,ous,gx,dC,unT,hn,cm,dc] at*;obtain ⟨l1,l2⟩:=Lie.app (a:=(aX ps nm x::gx (aX ps nm) ag (p+1))::dC (aX ps nm) ag (p+1)) (b:=dC (aX ps nm) r (p+1+unT ag)) hl;have hpu:=h.push (d:=⟨ps,.sim x ag,E,[],0⟩) (p:=p) rfl rfl hE l1 (fun i e q h1 h2=>by
    rcases hd i e q h1 h2 with g|g
    ·exact .inl g
    ·right;show p+unT ag<q;omega) (by show p+unT ag<_;omega)
   have e1:imL (ρ++[p]) E=imL ρ E:=qC (by rw [h.len];exact hE);obtain ⟨i1,i2,i3⟩:=ih2 (D++[⟨ps,.sim x ag,E,[],0⟩]) (ρ++[p]) (p+1+unT ag) hpu (by
    rw [e1];rw [aD,gy] at l2;rw [show p+1+unT ag=p+(unT ag+1) by omega];rw [show p+1+unT ag=p+(unT ag+1) by omega] at l2;exact l2) (hE.up (by simp)) (by
    intro i d q h1 h2;rcases sj h1 with ⟨a,b⟩|⟨a,b⟩<;>rcases sj h2 with ⟨a',b'⟩|⟨a',b'⟩
    ·rcases hd i d q b b' with g|g
     ·left;omega
     ·right;omega
    ·have:=h.len;omega
    ·have:=h.len;omega
    ·left;subst b;subst b';show q+unT ag<_;omega) (by omega)
   have Gm:∀x:Dl,(D++[x]).length=D.length+1:=fun x=>by simp
   rw [Gm] at i2 i3;rw [e1] at i2;have a1:D++[⟨ps,.sim x ag,E,[],0⟩]++dls ps E r=D++⟨ps,.sim x ag,E,[],0⟩::dls ps E r:=by simp
   have a2:ρ++[p]++bss r (p+1+unT ag)=ρ++p::bss r (p+1+unT ag):=by simp
   rw [a1,a2] at i1;rw [a2] at i2;rw [a1] at i3;refine ⟨i1,?_,vL.cons (fun _=>⟨by show (0:Int)<=(D.length:Int);omega,by show (D.length:Int)<_;simp;omega⟩) i3⟩
   show imA _ _::imL _ _=sbA _ _::sbL _ _
   rw [i2];congr 1
   unfold imA sbA;rw [aA rfl,ay (by simp)];simp only [bC];rw [<-h.len,aC (ah _),ct];rfl
theorem Smr.grow {nm:List Tk} {D:List Dl} {ρ:List Nat} {nds nds':List (Ln×Bool)} {ops:List Int} (h:Smr nm D ρ nds ops) (hg:∀(k:Nat) (x:Ln×Bool),nds[k]?=some x->nds'[k]?=some x) (hl:nds.length<=nds'.length):Smr nm D ρ nds' ops:=
 ⟨h.len,h.dj,fun i d p h1 h2=>bq (h.lt i d p h1 h2) hl,h.env,fun i d p h1 h2 h3=>⟨(h.s0 i d p h1 h2 h3).1,fun j l hj=>hg _ _ ((h.s0 i d p h1 h2 h3).2 j l hj)⟩,h.s1,fun i d p h1 h2 h3=>⟨(h.s2 i d p h1 h2 h3).1,(h.s2 i d p h1 h2 h3).2.1,hg _ _ (h.s2 i d p h1 h2 h3).2.2⟩⟩
theorem gM {α:Type} {l:List α} {x y:α} {i j:Nat} (h:(l.set i x)[j]?=some y):(j=i/\y=x)\/(j≠i/\l[j]?=some y):=by
 by_cases hj:j=i
 ·subst hj;have h1:=(aP.1 h).1;rw [bJ] at h1;rw [bR h1] at h;simp at h;exact .inl ⟨rfl,h.symm⟩
 ·rw [b9 (fun e=>hj e.symm)] at h;exact .inr ⟨hj,h⟩
theorem Smr.take {nm:List Tk} {D:List Dl} {ρ:List Nat} {nds:List (Ln×Bool)} {ops:List Int} (h:Smr nm D ρ nds ops) {n p:Nat} {d:Dl} (hd:D[n]?=some d) (hp:ρ[n]?=some p) (hv:d.val=[]):
 Smr nm (D.set n {d with st:=1}) ρ nds (ops++[(p:Int)]):=by
 have xu:=bm hd;have ex1:exD {d with st:=1}=0:=rfl;refine ⟨by simp [h.len],?_,?_,?_,?_,?_,?_⟩
 ·intro i j x y a b h1 h2 h3 h4 xr;rcases gM h1 with ⟨rfl,rfl⟩|⟨n1,k1⟩<;>rcases gM h2 with ⟨rfl,rfl⟩|⟨n2,k2⟩
  ·omega
  ·have:=h.dj _ j d y a b hd k2 h3 h4 xr;rw [ex1];omega
  ·have:=h.dj i _ x d a b k1 hd h3 h4 xr;rw [ex1];omega
  ·exact h.dj i j x y a b k1 k2 h3 h4 xr
 ·intro i x a h1 h2;rcases gM h1 with ⟨rfl,rfl⟩|⟨n1,k1⟩
  ·have:=h.lt _ d a hd h2;rw [ex1];omega
  ·exact h.lt i x a k1 h2
 ·intro x hx;rw [bJ];obtain ⟨i,hi⟩:=List.getElem?_of_mem hx;rcases gM hi with ⟨rfl,rfl⟩|⟨n1,k1⟩
  ·exact ⟨(h.env d xu).1,by show (1:Nat)<=2;omega⟩
  ·exact h.env x (bm k1)
 ·intro i x a h1 h2 h3;rcases gM h1 with ⟨rfl,rfl⟩|⟨n1,k1⟩
  ·exact absurd h3 (by show (1:Nat)≠0;omega)
  ·exact h.s0 i x a k1 h2 h3
 ·intro i x a h1 h2 h3;rcases gM h1 with ⟨rfl,rfl⟩|⟨n1,k1⟩
  ·rw [hp] at h2;cases h2;exact ⟨hv,by simp⟩
  ·exact ⟨(h.s1 i x a k1 h2 h3).1,be.2 (.inl (h.s1 i x a k1 h2 h3).2)⟩
 ·intro i x a h1 h2 h3;rw [bJ];rcases gM h1 with ⟨rfl,rfl⟩|⟨n1,k1⟩
  ·exact absurd h3 (by show (1:Nat)≠2;omega)
  ·exact h.s2 i x a k1 h2 h3
theorem Smr.known {nm:List Tk} {D:List Dl} {ρ:List Nat} {nds:List (Ln×Bool)} {ops:List Int} {n p:Nat} {d:Dl} {v:Ln} (h:Smr nm D ρ nds (ops++[(p:Int)])) (hd:D[n]?=some d) (hp:ρ[n]?=some p) (fZ:d.st=1) (hv:v≠[]) (qh:vL D.length v):
 Smr nm (D.set n {d with st:=2,val:=v}) ρ (nds.set p (imL ρ v,true)) ops:=by
 have xu:=bm hd;have ex1:exD {d with st:=2,val:=v}=0:=rfl;have ex0:exD d=0:=by unfold exD;rw [fZ];rfl
 have Cg:p<nds.length:=by have:=h.lt n d p hd hp;omega
 have oth:∀(i:Nat) (x:Dl) (a k:Nat),i≠n->D[i]?=some x->ρ[i]?=some a->k<=exD x->(nds.set p (imL ρ v,true))[a+k]?=nds[a+k]?:=by
  intro i x a k hi h1 h2 hk;rw [b9];intro e;have:=h.dj i n x d a p h1 hd h2 hp hi;omega
 refine ⟨by simp [h.len],?_,?_,?_,?_,?_,?_⟩
 ·intro i j x y a b h1 h2 h3 h4 xr;rcases gM h1 with ⟨rfl,rfl⟩|⟨n1,k1⟩<;>rcases gM h2 with ⟨rfl,rfl⟩|⟨n2,k2⟩
  ·omega
  ·have:=h.dj _ j d y a b hd k2 h3 h4 xr;rw [ex1];omega
  ·have:=h.dj i _ x d a b k1 hd h3 h4 xr;rw [ex1];omega
  ·exact h.dj i j x y a b k1 k2 h3 h4 xr
 ·intro i x a h1 h2;rw [bJ];rcases gM h1 with ⟨rfl,rfl⟩|⟨n1,k1⟩
  ·have:=h.lt _ d a hd h2;rw [ex1];omega
  ·exact h.lt i x a k1 h2
 ·intro x hx;rw [bJ];obtain ⟨i,hi⟩:=List.getElem?_of_mem hx;rcases gM hi with ⟨rfl,rfl⟩|⟨n1,k1⟩
  ·exact ⟨(h.env d xu).1,by show (2:Nat)<=2;omega⟩
  ·exact h.env x (bm k1)
 ·intro i x a h1 h2 h3;rcases gM h1 with ⟨rfl,rfl⟩|⟨n1,k1⟩
  ·exact absurd h3 (by show (2:Nat)≠0;omega)
  ·obtain ⟨q1,q2⟩:=h.s0 i x a k1 h2 h3;refine ⟨q1,fun j l hj=>?_⟩
   have dG:=(aP.1 hj).1;rw [aD,gy] at dG;rw [oth i x a j n1 k1 h2 (by unfold exD;rw [aA h3];omega)];exact q2 j l hj
 ·intro i x a h1 h2 h3;rcases gM h1 with ⟨rfl,rfl⟩|⟨n1,k1⟩
  ·exact absurd h3 (by show (2:Nat)≠1;omega)
  ·obtain ⟨q1,q2⟩:=h.s1 i x a k1 h2 h3;refine ⟨q1,?_⟩
   rcases be.1 q2 with g|g
   ·exact g
   ·simp at g;have:=h.dj i n x d a p k1 hd h2 hp n1;omega
 ·intro i x a h1 h2 h3;rw [bJ];rcases gM h1 with ⟨rfl,rfl⟩|⟨n1,k1⟩
  ·rw [hp] at h2;cases h2;exact ⟨hv,qh,by rw [bR Cg]⟩
  ·obtain ⟨q1,q2,q3⟩:=h.s2 i x a k1 h2 h3;refine ⟨q1,q2,?_⟩
   have:=oth i x a 0 n1 k1 h2 (aF _);rw [cy] at this;rw [this];exact q3
theorem B7 (f:Tk->Int×Int) (hf:∀t,(f t).1≠5) (ar:Ln) (at' K:Nat) (b:At):∀k,k+unT b<=K->cL (gx f b k) ar (idP at' K)=sbL ar (gx f b (at'+k)):=by
 have one:∀t,iP ar (idP at' K) (f t)=sbA ar (f t):=fun t=>by
  unfold iP sbA;rw [ay (fun h=>hf t h.1)]
 induction b with
 |nil=>intro k _;rfl
 |sim t r ih=>intro k hk;show _::cL _ _ _=_::sbL _ _;rw [ih k hk,one]
 |par o h c ag r ih1 ih2=>
  intro k hk;by_cases hn:ag.isNil=true
  ·simp only [gx,unT,hn,cQ] at hk ⊢;show _::cL _ _ _=_::sbL _ _;rw [ih2 k hk,one]
  ·simp only [gx,unT,hn,cm,dc] at hk ⊢;show _::cL _ _ _=_::sbL _ _
   rw [ih2 (k+1+unT ag) (by omega),show at'+(k+1+unT ag)=at'+k+1+unT ag by omega];congr 1
   have hl:(idP at' K).length=K:=by unfold idP;simp
   unfold iP sbA;rw [aA ⟨rfl,by show (0:Int)<=(k:Int);omega,by rw [hl];show (k:Int)<(K:Int);omega⟩,ay (by simp)];simp only [bC];unfold idP;rw [cH,List.getElem?_range (by omega)];rfl
theorem Gc (f:Tk->Int×Int) (hf:∀t,(f t).1≠5) (ar:Ln) (at' K:Nat) (b:At):∀k,k+unT b<=K->(dC f b k).map (fun l=>cL l ar (idP at' K))=(dC f b (at'+k)).map (sbL ar):=by
 induction b with
 |nil=>intro k _;rfl
 |sim t r ih=>intro k hk;exact ih k hk
 |par o h c ag r ih1 ih2=>
  intro k hk;by_cases hn:ag.isNil=true
  ·simp only [dC,unT,hn,cQ] at hk ⊢;exact ih2 k hk
  ·simp only [dC,unT,hn,cm,dc] at hk ⊢;rw [cW,cW,cz,cz,ih1 (k+1) (by omega),ih2 (k+1+unT ag) (by omega),show at'+(k+1)=at'+k+1 by omega,show at'+(k+1+unT ag)=at'+k+1+unT ag by omega];congr 1
   exact B7 f hf ar at' K (.sim h ag) (k+1) (by show k+1+unT ag<=K;omega)
structure Exd (D D':List Dl) (ρ ρ':List Nat):Prop where
 ex:∃ρ2,ρ'=ρ++ρ2
 le:D.length<=D'.length
 o1:∀(i:Nat) (d:Dl),D[i]?=some d->d.st=1->D'[i]?=some d
theorem Exd.refl (D:List Dl) (ρ:List Nat):Exd D D ρ ρ:=⟨⟨[],by simp⟩,ah _,fun _ _ h _=>h⟩
theorem Exd.trans {D D' D'':List Dl} {ρ ρ' ρ'':List Nat} (h:Exd D D' ρ ρ') (h':Exd D' D'' ρ' ρ''):Exd D D'' ρ ρ'':=by
 obtain ⟨a,rfl⟩:=h.ex;obtain ⟨b,rfl⟩:=h'.ex;exact ⟨⟨a++b,by simp⟩,aJ h.le h'.le,fun i d h1 h2=>h'.o1 i d (h.o1 i d h1 h2) h2⟩
theorem Exd.app (D X:List Dl) (ρ Y:List Nat):Exd D (D++X) ρ (ρ++Y):=
 ⟨⟨Y,rfl⟩,by simp,fun i d h1 _=>by rw [aI (aP.1 h1).1];exact h1⟩
theorem Exd.im {D D':List Dl} {ρ ρ':List Nat} (h:Exd D D' ρ ρ') {l:Ln} (hl:ρ.length=D.length) (hv:vL D.length l):imL ρ' l=imL ρ l:=by
 obtain ⟨a,rfl⟩:=h.ex;exact qC (by rw [hl];exact hv)
theorem Exd.vl {D D':List Dl} {ρ ρ':List Nat} (h:Exd D D' ρ ρ') {l:Ln} (hv:vL D.length l):vL D'.length l:=hv.up h.le
theorem Exd.force {D D3 X:List Dl} {ρ ρ3 Y:List Nat} {n:Nat} {d:Dl} (hd:D[n]?=some d) (h0:d.st=0) (h:Exd (D.set n {d with st:=1}++X) D3 (ρ++Y) ρ3):D3[n]?=some {d with st:=1}/\∀d',Exd D (D3.set n d') ρ ρ3:=by
 have hn:=(aP.1 hd).1;have hs:(D.set n {d with st:=1}++X)[n]?=some {d with st:=1}:=by
  rw [aI (by simpa using hn),bR hn]
 refine ⟨h.o1 n _ hs rfl,fun d'=>⟨?_,?_,fun i e h1 h2=>?_⟩⟩
 ·obtain ⟨a,ha⟩:=h.ex;exact ⟨Y++a,by rw [ha];simp⟩
 ·have:=h.le;simp at this ⊢;omega
 ·have yE:n≠i:=fun e'=>by subst e';rw [hd] at h1;cases h1;omega
  rw [b9 yE];refine h.o1 i e ?_ h2
  rw [aI (by simpa using (aP.1 h1).1),b9 yE];exact h1
theorem LA {nm:List Tk} {D:List Dl} {ρ:List Nat} {nds:List (Ln×Bool)} {ops:List Int} (h:Smr nm D ρ nds ops) {t:Tp} {ps:List Tk} {b:At} (ht:t.ls=gx (aX ps nm) b 0::dC (aX ps nm) b 0) (oJ:t.ar=(ps.length:Int)) {lr:Ln} (hv:vL D.length lr):
 Smr nm (D++dls ps (lr.take ps.length) b) (ρ++bss b nds.length) (nds++t.ls.tail.map (fun l=>(cL l ((imL ρ lr).take t.ar.toNat) (idP nds.length (t.ls.length-1)),false))) ops/\
  imL (ρ++bss b nds.length) (ous (aX ps nm) (lr.take ps.length) b D.length++lr.drop ps.length)=cL (t.ls.headD []) ((imL ρ lr).take t.ar.toNat) (idP nds.length (t.ls.length-1))++(imL ρ lr).drop t.ar.toNat/\
  vL (D++dls ps (lr.take ps.length) b).length (ous (aX ps nm) (lr.take ps.length) b D.length++lr.drop ps.length):=by
 have hA:t.ar.toNat=ps.length:=by omega
 rw [hA];have hK:t.ls.length-1=unT b:=by rw [ht,aD,gy];omega
 rw [hK];have e1:(imL ρ lr).take ps.length=imL ρ (lr.take ps.length):=by unfold imL;rw [dY]
 have e2:(imL ρ lr).drop ps.length=imL ρ (lr.drop ps.length):=by unfold imL;rw [List.map_drop]
 rw [e1,e2,ht];simp only [cO,db];have wI:=eZ ps nm;have e3:=B7 (aX ps nm) wI (imL ρ (lr.take ps.length)) nds.length (unT b) b 0 (by omega);have e4:=Gc (aX ps nm) wI (imL ρ (lr.take ps.length)) nds.length (unT b) b 0 (by omega);rw [cy] at e3 e4;have e5:(dC (aX ps nm) b 0).map (fun l=>(cL l (imL ρ (lr.take ps.length)) (idP nds.length (unT b)),false))=(dC (aX ps nm) b nds.length).map (fun l=>(sbL (imL ρ (lr.take ps.length)) l,false)):=by
  have:=congrArg (List.map (fun l:Ln=>(l,false))) e4;rw [ji,ji] at this;exact this
 rw [e3,e5];have hvA:vL D.length (lr.take ps.length):=hv.sub (fun x hx=>cS hx);have hvB:vL D.length (lr.drop ps.length):=hv.sub (fun x hx=>dr hx);obtain ⟨i1,i2,i3⟩:=xS ps (lr.take ps.length) b D ρ nds.length (h.grow (nds':=nds++(dC (aX ps nm) b nds.length).map (fun l=>(sbL (imL ρ (lr.take ps.length)) l,false))) (fun k x hk=>by rw [aI (aP.1 hk).1];exact hk) (by simp)) (fun j l hj=>by
  rw [aC (by omega),Nat.add_sub_cancel_left,cH,hj];rfl) hvA (fun i d q h1 h2=>.inl (h.lt i d q h1 h2)) (by simp [gy])
 refine ⟨i1,?_,vL.app i3 (hvB.up (by simp))⟩
 rw [Ad,i2,qC (by rw [h.len];exact hvB)]
theorem yW {nm:List Tk} {D:List Dl} {ρ:List Nat} {nds:List (Ln×Bool)} {ops:List Int} (h:Smr nm D ρ nds ops) {n p:Nat} {d:Dl} (hd:D[n]?=some d) (hp:ρ[n]?=some p) (h0:d.st=0):
 nds[p]?=some (imL (ρ++bss d.b (p+1)) (ous (aX d.ps nm) d.env d.b D.length),false)/\
 Smr nm (D.set n {d with st:=1}++dls d.ps d.env d.b) (ρ++bss d.b (p+1)) nds (ops++[(p:Int)])/\
  vL (D.set n {d with st:=1}++dls d.ps d.env d.b).length (ous (aX d.ps nm) d.env d.b D.length):=by
 obtain ⟨hv,hl⟩:=h.s0 n d p hd hp h0;have bF:=h.lt n d p hd hp;have Sy:exD d=unT d.b:=by unfold exD;rw [aA h0]
 obtain ⟨l1,l2⟩:=Lie.cons hl;have hT:=h.take hd hp hv;have hE:=(h.env d (bm hd)).1;obtain ⟨i1,i2,i3⟩:=xS d.ps d.env d.b (D.set n {d with st:=1}) ρ (p+1) hT l2 (by simpa using hE) (fun i e q h1 h2=>by
  rcases gM h1 with ⟨rfl,rfl⟩|⟨n1,k1⟩
  ·rw [hp] at h2;cases h2
   left
   show p+0<p+1
   omega
  ·have:=h.dj i n e d q p k1 hd h2 hp n1;omega) (by omega)
 rw [bJ] at i2 i3;exact ⟨by rw [i2];exact l1,i1,i3⟩
def mrk (l:Ln) (S:List Bool):List Bool:=l.foldl (fun S a=>if a.1=5 then S.set a.2.toNat true else S) S
def r7 (l:List Int) (S:List Bool):List Bool:=l.foldl (fun S p=>S.set p.toNat true) S
def pas (nd:List Ln):Nat->List Bool->List Bool
 |0,S=>S
 |i+1,S=>pas nd i (if S[i]?.getD false then mrk (nd[i]?.getD []) S else S)
theorem BW (a:Int×Int) (l:Ln) (S:List Bool):mrk (a::l) S=mrk l (if a.1=5 then S.set a.2.toNat true else S):=rfl
theorem FW (a b:Ln) (S:List Bool):mrk (a++b) S=mrk b (mrk a S):=by unfold mrk;rw [fV]
theorem JT (a b:List Int) (S:List Bool):r7 (a++b) S=r7 b (r7 a S):=by unfold r7;rw [fV]
theorem lh:∀(l:Ln) (S:List Bool),(mrk l S).length=S.length
 |[],_=>rfl
 |a::l,S=>by rw [BW,lh l];split<;>simp
theorem rZ:∀(l:List Int) (S:List Bool),(r7 l S).length=S.length
 |[],_=>rfl
 |a::l,S=>by show (r7 l (S.set a.toNat true)).length=_;rw [rZ l];simp
theorem BG (S:List Bool) (k i:Nat):(S.set k true)[i]?=some true↔S[i]?=some true\/(i<S.length/\k=i):=by
 rw [List.getElem?_set];by_cases h:k=i
 ·subst h;rw [aA rfl];by_cases hl:k<S.length
  ·rw [aA hl];simp [hl]
  ·rw [ay hl];simp [hl]
 ·rw [ay h];simp [h]
theorem om:∀(l:Ln) (S:List Bool) (i:Nat),(mrk l S)[i]?=some true↔S[i]?=some true\/(i<S.length/\∃a∈l,a.1=5/\a.2.toNat=i)
 |[],S,i=>by simp [mrk]
 |a::l,S,i=>by
  rw [BW,om l];by_cases h:a.1=5
  ·rw [aA h,BG,bJ];constructor
   ·rintro ((h1|⟨h1,h2⟩)|⟨h1,b,hb,h2⟩)
    ·exact .inl h1
    ·exact .inr ⟨h1,a,by simp,h,h2⟩
    ·exact .inr ⟨h1,b,by simp [hb],h2⟩
   ·rintro (h1|⟨h1,b,hb,h2⟩)
    ·exact .inl (.inl h1)
    ·rcases aK.1 hb with rfl|hb
     ·exact .inl (.inr ⟨h1,h2.2⟩)
     ·exact .inr ⟨h1,b,hb,h2⟩
  ·rw [ay h];constructor
   ·rintro (h1|⟨h1,b,hb,h2⟩)
    ·exact .inl h1
    ·exact .inr ⟨h1,b,by simp [hb],h2⟩
   ·rintro (h1|⟨h1,b,hb,h2⟩)
    ·exact .inl h1
    ·rcases aK.1 hb with rfl|hb
     ·exact absurd h2.1 h
     ·exact .inr ⟨h1,b,hb,h2⟩
theorem r6:∀(l:List Int) (S:List Bool) (i:Nat),(r7 l S)[i]?=some true↔S[i]?=some true\/(i<S.length/\∃p∈l,p.toNat=i)
 |[],S,i=>by simp [r7]
 |a::l,S,i=>by
  show (r7 l (S.set a.toNat true))[i]?=some true↔_
  rw [r6 l,BG,bJ];constructor
  ·rintro ((h1|⟨h1,h2⟩)|⟨h1,b,hb,h2⟩)
   ·exact .inl h1
   ·exact .inr ⟨h1,a,by simp,h2⟩
   ·exact .inr ⟨h1,b,by simp [hb],h2⟩
  ·rintro (h1|⟨h1,b,hb,h2⟩)
   ·exact .inl (.inl h1)
   ·rcases aK.1 hb with rfl|hb
    ·exact .inl (.inr ⟨h1,h2⟩)
    ·exact .inr ⟨h1,b,hb,h2⟩
theorem Io:∀(S U:List Bool),S.length=U.length->(∀i:Nat,S[i]?=some true->U[i]?=some true)->cT S<=cT U/\(cT U<=cT S->U=S)
 |[],[],_,_=>⟨ah _,fun _=>rfl⟩
 |[],_::_,h,_=>by simp at h
 |_::_,[],h,_=>by simp at h
 |a::S,b::U,h,hs=>by
  obtain ⟨h1,h2⟩:=Io S U (by simpa using h) (fun i hi=>by have:=hs (i+1) (by simpa using hi);simpa using this);have h0:=hs 0;cases a<;>cases b<;>simp [cT] at h0 ⊢
  ·exact ⟨h1,h2⟩
  ·exact ⟨by omega,by omega⟩
  ·exact ⟨h1,h2⟩
section
variable {nd:List Ln}
theorem wd:∀(n:Nat) (S:List Bool),(pas nd n S).length=S.length
 |0,_=>rfl
 |n+1,S=>by rw [pas,wd n];split<;>simp [lh]
theorem wb:∀(n:Nat) (S:List Bool) (i:Nat),S[i]?=some true->(pas nd n S)[i]?=some true
 |0,_,_,h=>h
 |n+1,S,i,h=>by
  rw [pas];refine wb n _ i ?_
  split
  ·exact (om _ _ _).2 (.inl h)
  ·exact h
theorem xR {R:Nat->Prop} (hc:∀i,R i->∀a∈nd[i]?.getD [],a.1=5->R a.2.toNat):∀(n:Nat) (S:List Bool),(∀i,S[i]?=some true->R i)->∀i,(pas nd n S)[i]?=some true->R i
 |0,_,h=>h
 |n+1,S,h=>by
  rw [pas];refine xR hc n _ ?_
  split
  ·rename_i hn;intro i hi;rcases (om _ _ _).1 hi with hi|⟨_,a,ha,h5,rfl⟩
   ·exact h i hi
   ·refine hc n (h n ?_) a ha h5
    cases hq:S[n]? with
    |none=>rw [hq] at hn;simp at hn
    |some b=>rw [hq] at hn;simp at hn;rw [hn]
  ·exact h
theorem FM:∀(n:Nat) (S:List Bool),cT (pas nd n S)<=cT S->pas nd n S=S/\∀i,i<n->S[i]?=some true->mrk (nd[i]?.getD []) S=S
 |0,S,_=>⟨rfl,fun i hi=>absurd hi (by omega)⟩
 |n+1,S,h=>by
  rw [pas] at h ⊢;have rz:∀i,S[i]?=some true->(if S[n]?.getD false then mrk (nd[n]?.getD []) S else S)[i]?=some true:=fun i hi=>by
   split
   ·exact (om _ _ _).2 (.inl hi)
   ·exact hi
  have ez:S.length=(if S[n]?.getD false then mrk (nd[n]?.getD []) S else S).length:=by split<;>simp [lh]
  have e1:=Io S _ ez rz;have e2:=Io _ (pas nd n (if S[n]?.getD false then mrk (nd[n]?.getD []) S else S)) (wd n _).symm (wb n _);have e:=e1.2 (by omega);obtain ⟨h1,h2⟩:=FM n (if S[n]?.getD false then mrk (nd[n]?.getD []) S else S) (by omega);rw [h1];refine ⟨e,fun i hi ht=>?_⟩
  by_cases hn:i=n
  ·subst hn;rw [ht] at e;simpa using e
  ·rw [e] at h2;exact h2 i (by omega) ht
end
theorem JR (s:Im) (S:List Bool) (hl:S.length=s.nds.length) (ry:∀a∈s.cur++flK s.ks,a.1=5->0<=a.2/\a.2<s.nds.length) (pD:∀p∈gA s.ks,0<=p/\p<s.nds.length) (Eu:∀n∈s.nds,∀a∈n.1,a.1=5->0<=a.2/\a.2<s.nds.length)
 (pG:∀a∈s.cur++flK s.ks,a.1=5->S[a.2.toNat]?=some true) (tb:∀p∈gA s.ks,S[p.toNat]?=some true)
 (xv:∀i:Nat,S[i]?=some true->∀a∈(s.nds[i]?.getD ([],false)).1,a.1=5->S[a.2.toNat]?=some true)
 (UG:∀R:Nat->Prop,(∀a∈s.cur++flK s.ks,a.1=5->R a.2.toNat)->(∀p∈gA s.ks,R p.toNat)->(∀i,R i->∀a∈(s.nds[i]?.getD ([],false)).1,a.1=5->R a.2.toNat)->∀i,S[i]?=some true->R i):mM s=cT S:=by
 have Yc:∀f∈(asM s).frs,f.k=1->f.nd∈gA s.ks:=by
  intro f hf hk;obtain ⟨g,hg,rfl⟩:=bZ.1 hf;exact fJ.2 ⟨g,hg,by simp only at hk;rw [aA hk];simp⟩
 have Sk:=oj (asM s);have Z1:(asM s).nds.length=s.nds.length:=rfl;have lx:∀p:Int,0<=p->p<s.nds.length->ndA (asM s) p=s.nds[p.toNat]?.getD ([],false):=by
  intro p h0 h1;rfl
 have hni:=JQ (asM s) ry (fun f hf hk=>pD _ (Yc f hf hk)) (fun p h0 h1 _ a ha h5=>by
  have bF:p.toNat<s.nds.length:=by rw [Z1] at h1;omega
  rw [lx p h0 h1,aj bF] at ha;exact Eu _ (aE bF) a ha h5)
 have key:S=(eD (asM s)).1:=by
  refine List.ext_getElem? (fun i=>?_)
  have ez:(eD (asM s)).1.length=s.nds.length:=Sk.len;by_cases hi:i<s.nds.length
  ·have hm:(eD (asM s)).1[i]?=some true↔S[i]?=some true:=by
    have h1:=Sk.iff (i:Int);rw [bC] at h1;have h2:=hni (i:Int);constructor
    ·intro h;exact (h2.1 (h1.2 ⟨by omega,h⟩)) (fun p=>S[p.toNat]?=some true) (fun p hp a ha h5=>xv _ hp a ha h5) (fun a ha h5=>pG a ha h5) (fun f hf hk=>tb _ (Yc f hf hk))
    ·intro h;refine (h1.1 (h2.2 (fun R hc hs hf=>?_))).2
     refine UG (fun i=>R (i:Int)) (fun a ha h5=>?_) (fun p hp=>?_) (fun j hj a ha h5=>?_) i h
     ·have:=ry a ha h5;show R _
      rw [Int.toNat_of_nonneg this.1];exact hs a ha h5
     ·have:=pD p hp;show R _
      rw [Int.toNat_of_nonneg this.1];obtain ⟨g,hg,hq⟩:=fJ.1 hp;by_cases hk:g.k=1
      ·rw [aA hk] at hq;simp only [dE] at hq;subst hq;exact hf ⟨g.k,0,g.nd,g.pr,g.nu⟩ (bZ.2 ⟨g,hg,rfl⟩) hk
      ·rw [ay hk] at hq;simp at hq
     ·have ha':a∈(ndA (asM s) (j:Int)).1:=ha;have h0:0<=a.2:=by
       by_cases dG:j<s.nds.length
       ·rw [aj dG] at ha;exact (Eu _ (aE dG) a ha h5).1
       ·rw [List.getElem?_eq_none (by omega)] at ha;simp at ha
      show R _
      rw [Int.toNat_of_nonneg h0];exact hc (j:Int) hj a ha' h5
   cases ha:S[i]? with
   |none=>have:=List.getElem?_eq_none_iff.1 ha;omega
   |some a=>
    cases hb:(eD (asM s)).1[i]? with
    |none=>have:=List.getElem?_eq_none_iff.1 hb;omega
    |some b=>rw [ha,hb] at hm;cases a<;>cases b<;>simp at hm ⊢
  ·rw [List.getElem?_eq_none (by omega),List.getElem?_eq_none (by omega)]
 show (eD (asM s)).2.length=_
 rw [Sk.cnt,<-key]
open Go.RowKit
def AB (w:World) (b:Nat):Prop:=∃cs,w.heap[b]?=some (.cells cs 99 (0,0))
structure Fx (T:Nat) (w w':World):Prop where
 bel:Below T w w'
 ab:∀b,AB w b->w'.heap[b]?=w.heap[b]?
theorem Fx.refl (T:Nat) (w:World):Fx T w w:=⟨ai _ _,fun _ _=>rfl⟩
theorem Fx.size {T:Nat} {w w':World} (h:Fx T w w'):w.heap.size<=w'.heap.size:=h.bel.size
theorem AB.lt {w:World} {b:Nat} (h:AB w b):b<w.heap.size:=by obtain ⟨cs,h⟩:=h;exact (ae.1 h).1
theorem AB.fx {T b:Nat} {w w':World} (h:AB w b) (hf:Fx T w w'):AB w' b:=by
 have h0:=h;obtain ⟨cs,h⟩:=h;exact ⟨cs,(hf.ab b h0).trans h⟩
theorem Fx.trans {T:Nat} {w w' w'':World} (h:Fx T w w') (h':Fx T w' w''):Fx T w w'':=
 ⟨h.bel.trans h'.bel,fun b hb=>(h'.ab b (hb.fx h)).trans (h.ab b hb)⟩
theorem Fx.of {T:Nat} {w w':World} (h:Below w.heap.size w w') (hT:T<=w.heap.size):Fx T w w':=⟨h.mono hT,fun b hb=>h.block b hb.lt⟩
theorem Fx.drew {T:Nat} {w w':World} (h:Fx T w w'):Fx T w w'.drew:=⟨aR h.bel,fun b hb=>h.ab b hb⟩
theorem Fx.set {T b i:Nat} {w:World} {u:Value} {cs:Array Value} {t:TypeId} (hb:w.heap[b]?=some (.cells cs t (0,0))) (ht:t≠99) (hT:T<=b):Fx T w (w.setCell ⟨b,i,none⟩ u):=by
 refine ⟨(ai T w).setCell (by exact hT) _,fun k hk=>bi _ (fun e=>?_)⟩
 subst e;obtain ⟨ds,hk⟩:=hk;rw [hb] at hk;simp at hk;exact ht hk.2
theorem Fx.grown {T n size:Nat} {w w':World} {t:TypeId} {v:Value} {xs:List Value} (hr:w.ownsRow T t size v n xs) (hg:w.grownBy w' v.ownBlock) (ht:99≠t) (hT:T<=w.heap.size):Fx T w w':=by
 refine ⟨(ai T w).grown hg hT (fun k hk=>(hr.lt k hk).1),fun b hb=>?_⟩
 obtain ⟨cs,hb⟩:=hb;rw [br hr hg ht hb,hb]
theorem JF {w:World} {base:Nat} {e:TypeId} {size n q m cap:Nat} {xs:List Value} (h:w.ownsRow base e size (.slice (some ⟨q,0,none⟩) m cap) n xs):∃cur,w.heap[q]?=some (.cells cur e (0,0)):=by
 rcases h.2 with ⟨h0,_⟩|⟨g',cap',cur,h0,hg,hh,_⟩
 ·cases h0
 ·cases h0;exact ⟨cur,hh⟩
theorem To {w:World} {base:Nat} {e:TypeId} {size n q m cap:Nat} {xs:List Value} (h:w.ownsRow base e size (.slice (some ⟨q,0,none⟩) m cap) n xs) (i:Nat):w.frozen? ⟨q,i,none⟩=false:=by
 obtain ⟨cur,hh⟩:=JF h;exact aG _ _ _ _ _ hh
def Rd (w:World) (T:Nat) (v:Value) (l:Ln):Prop:=
 ∃a cap,v=.slice a l.length cap/\l.length<=cap/\cap<=maxLen/\(a=none->cap=0)/\(l.length=0\/∃b off,a=some ⟨b,off,none⟩/\b<w.heap.size/\(b<T\/AB w b)/\∀j (h:j<l.length),w.cell? ⟨b,off+j*2,none⟩=some (.int .i64 l[j].1)/\w.cell? ⟨b,off+j*2+1,none⟩=some (.int .i64 l[j].2))
theorem jL {w w':World} {b i:Nat} (h:w'.heap[b]?=w.heap[b]?):w'.cell? ⟨b,i,none⟩=w.cell? ⟨b,i,none⟩:=by
 unfold World.cell?;simp only [h]
theorem Rd.keep {w w':World} {T:Nat} {v:Value} {l:Ln} (h:Rd w T v l) (hf:Fx T w w'):Rd w' T v l:=by
 obtain ⟨a,cap,h1,h2,h3,h0,h4⟩:=h;refine ⟨a,cap,h1,h2,h3,h0,?_⟩
 rcases h4 with h4|⟨b,off,e,bF,hb,hc⟩
 ·exact .inl h4
 ·have hs:w'.heap[b]?=w.heap[b]?:=by
   rcases hb with hb|hb
   ·exact hf.bel.block b hb
   ·exact hf.ab b hb
  refine .inr ⟨b,off,e,bq bF hf.size,?_,fun j hj=>?_⟩
  ·rcases hb with hb|hb
   ·exact .inl hb
   ·exact .inr (hb.fx hf)
  ·rw [jL hs,jL hs];exact hc j hj
theorem Rd.old {w w':World} {T:Nat} {v:Value} {l:Ln} (h:Rd w T v l) (hf:Below w.heap.size w w'):Rd w' T v l:=by
 obtain ⟨a,cap,h1,h2,h3,h0,h4⟩:=h;refine ⟨a,cap,h1,h2,h3,h0,?_⟩
 rcases h4 with h4|⟨b,off,e,bF,hb,hc⟩
 ·exact .inl h4
 ·have hs:=hf.block b bF;refine .inr ⟨b,off,e,bq bF hf.size,?_,fun j hj=>?_⟩
  ·rcases hb with hb|⟨cs,hb⟩
   ·exact .inl hb
   ·exact .inr ⟨cs,hs.trans hb⟩
  ·rw [jL hs,jL hs];exact hc j hj
theorem Rd.own {w:World} {B T:Nat} {v:Value} {l:Ln} (h:w.ownsRow B 99 2 v l.length (acs l)):Rd w T v l:=by
 have h0:=h;rcases h.2 with ⟨rfl,hn⟩|⟨g,cap,cur,rfl,_,hh,hn,hc,_⟩
 ·exact ⟨none,0,by rw [hn],by omega,by unfold maxLen;omega,fun _=>rfl,.inl hn⟩
 ·exact ⟨some ⟨g,0,none⟩,cap,rfl,hn,hc,fun e=>(by cases e),.inr ⟨g,0,rfl,(ae.1 hh).1,.inr ⟨cur,hh⟩,fun j hj=>by rw [cr];exact ⟨aH h0 _ _ (ru l j hj).1,aH h0 _ _ (ru l j hj).2⟩⟩⟩
theorem Rd.atoms {w:World} {T:Nat} {v:Value} {l:Ln} (h:eL w T v l) (hT:T<=w.heap.size) (hl:0<l.length):Rd w T v l:=by
 obtain ⟨a,cap,h1,h2,h3,h4⟩:=h;rcases h4 with h4|⟨b,off,e,hb,hc⟩
 ·omega
 ·exact ⟨a,cap,h1,h2,h3,fun e2=>(by rw [e] at e2;cases e2),.inr ⟨b,off,e,bq hb hT,.inl hb,hc⟩⟩
theorem Rd.nil (w:World) (T:Nat):Rd w T (.slice none 0 0) []:=⟨none,0,rfl,ah _,by unfold maxLen;omega,fun _=>rfl,.inl rfl⟩
theorem Rd.form {w:World} {T:Nat} {v:Value} {l:Ln} (h:Rd w T v l):∃a cap,v=.slice a l.length cap:=by obtain ⟨a,cap,h1,_⟩:=h;exact ⟨a,cap,h1⟩
theorem Rd.part {w:World} {T:Nat} {l:Ln} {b off n cap k m c:Nat} (h:Rd w T (.slice (some ⟨b,off,none⟩) n cap) l) (hkm:k+m<=l.length) (hc:m<=c) (Ck:c<=maxLen):Rd w T (.slice (some ⟨b,off+k*2,none⟩) m c) ((l.drop k).take m):=by
 obtain ⟨a,cap',h1,h2,h3,_,h4⟩:=h;cases h1
 have hl:((l.drop k).take m).length=m:=by rw [cF,cI];omega
 refine ⟨_,c,by rw [hl],by rw [hl];exact hc,Ck,fun e=>(by cases e),?_⟩
 by_cases hm:m=0
 ·exact .inl (by rw [hl];exact hm)
 rcases h4 with h4|⟨b',off',e,bF,hb,cJ⟩
 ·omega
 cases e
 refine .inr ⟨b,off+k*2,rfl,bF,hb,fun j hj=>?_⟩
 have:=cJ (k+j) (by rw [hl] at hj;omega);simp only [List.getElem_take,List.getElem_drop];rw [show off+k*2+j*2=off+(k+j)*2 by omega];exact this
theorem xg:∀(l:Ln) (j:Nat) (u:Value),(acs l)[j]?=some u->∃m,∃h:m<l.length,(j=m*2/\u=.int .i64 l[m].1)\/(j=m*2+1/\u=.int .i64 l[m].2)
 |[],j,u,h=>by simp [acs] at h
 |a::l,0,u,h=>⟨0,by simp,.inl ⟨rfl,by simpa [acs] using h.symm⟩⟩
 |a::l,1,u,h=>⟨0,by simp,.inr ⟨rfl,by simpa [acs] using h.symm⟩⟩
 |a::l,j+2,u,h=>by
  obtain ⟨m,hm,h1⟩:=xg l j u (by simpa [acs] using h);refine ⟨m+1,by simpa using hm,?_⟩
  rcases h1 with ⟨rfl,h2⟩|⟨rfl,h2⟩
  ·exact .inl ⟨by omega,by simpa using h2⟩
  ·exact .inr ⟨by omega,by simpa using h2⟩
theorem Be (l:Ln):∀u∈acs l,u.oneCell'=true:=by
 intro u hu;obtain ⟨j,hj⟩:=List.mem_iff_getElem?.1 hu;obtain ⟨m,hm,h|h⟩:=xg l j u hj<;>rw [h.2]<;>rfl
theorem LL {b off i:Nat}:((⟨b,off,none⟩:Addr).add i)=⟨b,off+i,none⟩:=by
 simp [Addr.add]
theorem Rd.news {w:World} {T:Nat} {l:Ln} {ad:Addr} {n cap:Nat} (h:Rd w T (.slice (some ad) n cap) l):∀j u,(acs l)[j]?=some u->w.cell? (ad.add j)=some u:=by
 intro j u hu;obtain ⟨m,hm,hj⟩:=xg l j u hu;obtain ⟨a,cap',h1,_,_,_,h4⟩:=h;cases h1
 rcases h4 with h4|⟨b,off,e,_,_,hc⟩
 ·omega
 cases e
 rw [LL];rcases hj with ⟨rfl,rfl⟩|⟨rfl,rfl⟩
 ·exact (hc m hm).1
 ·exact (hc m hm).2
theorem Rd.cap {w:World} {T:Nat} {l:Ln} {a:Option Addr} {n cap:Nat} (h:Rd w T (.slice a n cap) l):n=l.length/\n<=cap/\cap<=maxLen:=by
 obtain ⟨a',cap',h1,h2,h3,_⟩:=h;cases h1
 exact ⟨rfl,h2,h3⟩
theorem Rd.isNone {w:World} {T:Nat} {l:Ln} {n cap:Nat} (h:Rd w T (.slice none n cap) l):l=[]/\n=0/\cap=0:=by
 obtain ⟨a',cap',h1,h2,h3,h0,h4⟩:=h;cases h1
 rcases h4 with h4|⟨b,off,e,_⟩
 ·exact ⟨ch.1 h4,h4,h0 rfl⟩
 ·cases e
theorem Rd.isSome {w:World} {T:Nat} {v:Value} {l:Ln} (h:Rd w T v l) (hl:0<l.length):∃b off cap,v=.slice (some ⟨b,off,none⟩) l.length cap/\b<w.heap.size:=by
 obtain ⟨a',cap',h1,h2,h3,h0,h4⟩:=h;rcases h4 with h4|⟨b,off,e,hb,_⟩
 ·omega
 ·exact ⟨b,off,cap',by rw [h1,e],hb⟩
theorem Rd.at {w:World} {T:Nat} {l:Ln} {b off n cap:Nat} (h:Rd w T (.slice (some ⟨b,off,none⟩) n cap) l) (j:Nat) (hj:j<l.length):w.cell? ⟨b,off+j*2,none⟩=some (.int .i64 l[j].1)/\w.cell? ⟨b,off+j*2+1,none⟩=some (.int .i64 l[j].2):=by
 obtain ⟨a',cap',h1,_,_,_,h4⟩:=h;cases h1
 rcases h4 with h4|⟨b',off',e,_,_,hc⟩
 ·omega
 ·cases e;exact hc j hj
end Go.Proofs.YtnndoagpbcacdabGreatDoor
