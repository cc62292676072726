import Derived.Test.YtnndoagpbcacdabGreatDoorMA9
import Derived.Test.YtnndoagpbcacdabGreatDoorMA5
namespace Go.Proofs.YtnndoagpbcacdabGreatDoor
open Go.RowKit
abbrev Ln:=List (Int×Int)
structure Tp where
 ar:Int
 ls:List Ln
structure Cd where
 mn:Int
 fs:List Tp
def eL (w:World) (T:Nat) (v:Value) (l:Ln):Prop:=
 ∃a cap,v=.slice a l.length cap/\l.length<=cap/\cap<=maxLen/\(l.length=0\/∃b off,a=some ⟨b,off,none⟩/\b<T/\∀j (h:j<l.length),w.cell? ⟨b,off+j*2,none⟩=some (.int .i64 l[j].1)/\w.cell? ⟨b,off+j*2+1,none⟩=some (.int .i64 l[j].2))
def gd (w:World) (T:Nat) (v:Value) (L:List Ln):Prop:=
 ∃a cap,v=.slice a L.length cap/\L.length<=cap/\cap<=maxLen/\(L.length=0\/∃b off,a=some ⟨b,off,none⟩/\b<T/\∀j (h:j<L.length),∃lv,w.cell? ⟨b,off+j,none⟩=some lv/\eL w T lv L[j])
def dS (w:World) (T:Nat) (v:Value) (F:List Tp):Prop:=
 ∃a cap,v=.slice a F.length cap/\F.length<=cap/\cap<=maxLen/\(F.length=0\/∃b off,a=some ⟨b,off,none⟩/\b<T/\∀j (h:j<F.length),∃lv,w.cell? ⟨b,off+j*2,none⟩=some (.int .i64 F[j].ar)/\w.cell? ⟨b,off+j*2+1,none⟩=some lv/\gd w T lv F[j].ls)
theorem eL.keep {w w':World} {T:Nat} {v:Value} {l:Ln} (h:eL w T v l) (hb:Below T w w'):eL w' T v l:=by
 obtain ⟨a,cap,h1,h2,h3,h4⟩:=h;refine ⟨a,cap,h1,h2,h3,?_⟩
 rcases h4 with h4|⟨b,off,rfl,gZ,hc⟩
 ·exact .inl h4
 ·refine .inr ⟨b,off,rfl,gZ,fun j hj=>?_⟩
  rw [hb.cell (p:=⟨b,off+j*2,none⟩) gZ,hb.cell (p:=⟨b,off+j*2+1,none⟩) gZ];exact hc j hj
theorem gd.keep {w w':World} {T:Nat} {v:Value} {L:List Ln} (h:gd w T v L) (hb:Below T w w'):gd w' T v L:=by
 obtain ⟨a,cap,h1,h2,h3,h4⟩:=h;refine ⟨a,cap,h1,h2,h3,?_⟩
 rcases h4 with h4|⟨b,off,rfl,gZ,hc⟩
 ·exact .inl h4
 ·refine .inr ⟨b,off,rfl,gZ,fun j hj=>?_⟩
  obtain ⟨lv,e1,e2⟩:=hc j hj;exact ⟨lv,by rw [hb.cell (p:=⟨b,off+j,none⟩) gZ];exact e1,e2.keep hb⟩
theorem dS.keep {w w':World} {T:Nat} {v:Value} {F:List Tp} (h:dS w T v F) (hb:Below T w w'):dS w' T v F:=by
 obtain ⟨a,cap,h1,h2,h3,h4⟩:=h;refine ⟨a,cap,h1,h2,h3,?_⟩
 rcases h4 with h4|⟨b,off,rfl,gZ,hc⟩
 ·exact .inl h4
 ·refine .inr ⟨b,off,rfl,gZ,fun j hj=>?_⟩
  obtain ⟨lv,e1,e2,e3⟩:=hc j hj;exact ⟨lv,by rw [hb.cell (p:=⟨b,off+j*2,none⟩) gZ];exact e1,by rw [hb.cell (p:=⟨b,off+j*2+1,none⟩) gZ];exact e2,e3.keep hb⟩
def Ep (k:Int):UInt8:=if k=1 then 110 else if k=2 then 97 else if k=3 then 102 else if k=4 then 112 else 120
def atL (a:Int×Int):List UInt8:=32::Ep a.1::iY a.2.toNat
def lnL (l:Ln):List UInt8:=(l.flatMap atL).drop 1
def LJ (a:Int×Int):Prop:=1<=a.1/\a.1<=5/\0<=a.2/\a.2<=999999
theorem Lg (k:Nat) (h1:1<=k) (h5:k<=5):((⟨#[110,97,102,112,120]⟩:ByteArray).extract (k-1) k).data.toList=[Ep k]:=by
 have:k=1\/k=2\/k=3\/k=4\/k=5:=by omega
 rcases this with rfl|rfl|rfl|rfl|rfl<;>decide+kernel
theorem gC (n:Nat) (h:n<=999999):(iY n).length<=6:=by
 by_cases h1:n<10
 ·rw [jh n h1];simp
 rw [m8 n h1,au];by_cases h2:n/10<10
 ·rw [jh _ h2];simp
 rw [m8 _ h2,au];by_cases h3:n/10/10<10
 ·rw [jh _ h3];simp
 rw [m8 _ h3,au];by_cases h4:n/10/10/10<10
 ·rw [jh _ h4];simp
 rw [m8 _ h4,au];by_cases h5:n/10/10/10/10<10
 ·rw [jh _ h5];simp
 rw [m8 _ h5,au,jh _ (by omega)];simp
theorem RA {a:Int×Int} (h:LJ a):(atL a).length<=8:=by
 have:=gC a.2.toNat (by have:=h.2.2.1;have:=h.2.2.2;omega);simp [atL];omega
theorem Lf (l:Ln) (h:∀a∈l,LJ a):(l.flatMap atL).length<=l.length*8:=by
 induction l with
 |nil=>simp
 |cons a l ih=>
  have h1:=RA (h a (by simp));have h2:=ih (fun x hx=>h x (by simp [hx]));rw [dy,au,aD];omega
theorem F4 (l:Ln) (k:Nat) (h:k<l.length):(l.take (k+1)).flatMap atL=(l.take k).flatMap atL++atL l[k]:=by
 rw [aT h,List.flatMap_append];simp
theorem Fd (l X:List UInt8) (h:l≠[]):(l++32::X).drop 1=l.drop 1++32::X:=by
 cases l with
 |nil=>exact absurd rfl h
 |cons a l=>simp
theorem TY (l:Ln) (k:Nat) (h0:0<k) (h:k<=l.length):(l.take k).flatMap atL≠[]:=by
 cases l with
 |nil=>simp at h;omega
 |cons a l=>
  cases k with
  |zero=>omega
  |succ k=>simp [atL]
def j0 (k:Int) (nf:Nat) (ar:Int) (nl:Nat):Int:=if k=1 then 1000000 else if k=2 then ar else if k=3 then nf else if k=4 then 5 else if k=5 then (nl:Int)-1 else 0
def g7 (nf:Nat) (ar:Int) (nl j:Nat) (a:Int×Int):Bool:=decide (0<=a.2) && (decide (a.2<j0 a.1 nf ar nl) && !(decide (a.1=5) && decide (a.2<j)))
def fy (nf:Nat) (ar:Int) (nl j:Nat) (l:Ln):Bool:=decide (l.length<=8) && (decide (1<=l.length) && (!(decide (0<j) && decide (l.length<2)) && (decide ((l[0]?.getD (0,0)).1≠5) && l.all (g7 nf ar nl j))))
def dM (nf:Nat) (ar:Int) (nl:Nat):Nat->List Ln->Bool
 |_,[]=>true
 |j,l::r=>fy nf ar nl j l && dM nf ar nl (j+1) r
def kl (nf:Nat) (t:Tp):Bool:=decide (0<=t.ar) && (decide (t.ar<=6) && (decide (1<=t.ls.length) && (decide (t.ls.length<=13) && dM nf t.ar t.ls.length 0 t.ls)))
def jK (c:Cd):Bool:=decide (1<=c.fs.length) && (decide (c.fs.length<=16) && (decide (0<=c.mn) && (decide (c.mn<c.fs.length) && (c.fs.all (kl c.fs.length) && decide ((c.fs[c.mn.toNat]?.getD ⟨0,[]⟩).ar=0)))))
theorem yQ (nf:Nat) (ar:Int) (nl:Nat) (L:List Ln) (j:Nat) (h:j<L.length):dM nf ar nl j (L.drop j)=(fy nf ar nl j L[j] && dM nf ar nl (j+1) (L.drop (j+1))):=by
 rw [aW h,dM]
theorem IJ {α:Type} (p:α->Bool) (l:List α) (j:Nat) (h:j<l.length):(l.drop j).all p=(p l[j] && (l.drop (j+1)).all p):=by
 rw [aW h,List.all_cons]
theorem LK (nf:Nat) (ar:Int) (nl j:Nat) (l:Ln) (i:Nat) (h:i<l.length) {X:Bool}:((l.drop i).all (g7 nf ar nl j) && X)=((decide (0<=l[i].2) && (decide (l[i].2<j0 l[i].1 nf ar nl) && !(decide (l[i].1=5) && decide (l[i].2<(j:Int))))) && ((l.drop (i+1)).all (g7 nf ar nl j) && X)):=by
 rw [IJ _ l i h,Bool.and_assoc];rfl
def acs (l:Ln):List Value:=l.flatMap fun a=>[.int .i64 a.1,.int .i64 a.2]
theorem jF (l:Ln) (a:Int×Int):acs (l++[a])=acs l++[.int .i64 a.1,.int .i64 a.2]:=by simp [acs]
theorem Tryz.infoAtom:(Tryz.prog.info? 99).map (fun i=>(i.zero,i.size,i.bytes))=some (some (.agg #[.int .i64 0,.int .i64 0]),2,16):=by kernel_rfl
theorem Tryz.infoLine:(Tryz.prog.info? 100).map (fun i=>(i.zero,i.size,i.bytes))=some (some (.slice none 0 0),1,24):=by kernel_rfl
theorem Tryz.infoTemplate:(Tryz.prog.info? 79).map (fun i=>(i.zero,i.size,i.bytes))=some (some (.agg #[.int .i64 0,.slice none 0 0]),2,32):=by kernel_rfl
theorem r8 {α β:Type} (f:α->β) (l:List α) (k:Nat) (h:k<l.length):(l.take (k+1)).map f=(l.take k).map f++[f l[k]]:=by
 rw [aT h,cz];simp
def eg (w:World) (T:Nat) (lv:Value) (L:List Ln):Prop:=
 ∃vs,w.ownsRow 0 100 1 lv L.length vs/\(∀k,lv.ownBlock=some k->k<T)/\∀j (h:j<L.length),∃v,vs[j]?=some v/\w.ownsRow 0 99 2 v L[j].length (acs L[j])/\∀k,v.ownBlock=some k->k<T
theorem eg.keep {w w':World} {T:Nat} {lv:Value} {L:List Ln} (h:eg w T lv L) (hb:Below T w w'):eg w' T lv L:=by
 obtain ⟨vs,h1,h2,h3⟩:=h;refine ⟨vs,cM h1 hb h2,h2,fun j hj=>?_⟩
 obtain ⟨v,e1,e2,e3⟩:=h3 j hj;exact ⟨v,e1,cM e2 hb e3,e3⟩
theorem eg.up {w:World} {T T':Nat} {lv:Value} {L:List Ln} (h:eg w T lv L) (hT:T<=T'):eg w T' lv L:=by
 obtain ⟨vs,h1,h2,h3⟩:=h;refine ⟨vs,h1,fun k hk=>bq (h2 k hk) hT,fun j hj=>?_⟩
 obtain ⟨v,e1,e2,e3⟩:=h3 j hj;exact ⟨v,e1,e2,fun k hk=>bq (e3 k hk) hT⟩
theorem eg.type {w w':World} {T base size n:Nat} {lv v0:Value} {L:List Ln} {xs0:List Value} (hr:w.ownsRow base 79 size v0 n xs0) (hg:w.grownBy w' v0.ownBlock) (h:eg w T lv L):eg w' T lv L:=by
 obtain ⟨vs,h1,h2,h3⟩:=h;refine ⟨vs,aY hr hg (by decide) h1,h2,fun j hj=>?_⟩
 obtain ⟨v,e1,e2,e3⟩:=h3 j hj;exact ⟨v,e1,aY hr hg (by decide) e2,e3⟩
theorem eg.set {w:World} {T b i:Nat} {lv u:Value} {L:List Ln} {cs:Array Value} (hb:w.heap[b]?=some (.cells cs 63 (0,0))) (h:eg w T lv L):eg (w.setCell ⟨b,i,none⟩ u) T lv L:=by
 obtain ⟨vs,h1,h2,h3⟩:=h;refine ⟨vs,aB h1 hb (by decide),h2,fun j hj=>?_⟩
 obtain ⟨v,e1,e2,e3⟩:=h3 j hj;exact ⟨v,e1,aB e2 hb (by decide),e3⟩
theorem eg.setT {w:World} {T b i:Nat} {lv u:Value} {L:List Ln} {cs:Array Value} (hb:w.heap[b]?=some (.cells cs 79 (0,0))) (h:eg w T lv L):eg (w.setCell ⟨b,i,none⟩ u) T lv L:=by
 obtain ⟨vs,h1,h2,h3⟩:=h;refine ⟨vs,aB h1 hb (by decide),h2,fun j hj=>?_⟩
 obtain ⟨v,e1,e2,e3⟩:=h3 j hj;exact ⟨v,e1,aB e2 hb (by decide),e3⟩
theorem ru (l:Ln) (j:Nat) (h:j<l.length):(acs l)[j*2]?=some (.int .i64 l[j].1)/\(acs l)[j*2+1]?=some (.int .i64 l[j].2):=by
 induction l generalizing j with
 |nil=>simp at h
 |cons a r ih=>
  cases j with
  |zero=>simp [acs]
  |succ j=>
   have:=ih j (by simpa using h);rw [show (j+1)*2=j*2+1+1 by omega];simpa [acs] using this
theorem CG {w:World} {T:Nat} {v:Value} {l:Ln} (h:w.ownsRow 0 99 2 v l.length (acs l)) (hT:∀k,v.ownBlock=some k->k<T):eL w T v l:=by
 have h0:=h;rcases h.2 with ⟨rfl,hn⟩|⟨g,cap,cur,rfl,_,_,hn,hc,_⟩
 ·exact ⟨none,0,by rw [hn],by omega,by unfold maxLen;omega,.inl hn⟩
 ·exact ⟨some ⟨g,0,none⟩,cap,rfl,hn,hc,.inr ⟨g,0,rfl,hT g rfl,fun j hj=>by rw [cr];exact ⟨aH h0 _ _ (ru l j hj).1,aH h0 _ _ (ru l j hj).2⟩⟩⟩
theorem eg.rd {w:World} {T:Nat} {lv:Value} {L:List Ln} (h:eg w T lv L):gd w T lv L:=by
 obtain ⟨vs,h1,h2,h3⟩:=h;have h0:=h1;rcases h1.2 with ⟨rfl,hn⟩|⟨g,cap,cur,rfl,_,_,hn,hc,_⟩
 ·exact ⟨none,0,by rw [hn],by omega,by unfold maxLen;omega,.inl hn⟩
 ·refine ⟨some ⟨g,0,none⟩,cap,rfl,hn,hc,.inr ⟨g,0,rfl,h2 g rfl,fun j hj=>?_⟩⟩
  obtain ⟨v,e1,e2,e3⟩:=h3 j hj;exact ⟨v,by rw [cr];exact aH h0 _ _ e1,CG e2 e3⟩
def iy (w:World) (T:Nat):List Tp->List Value->Prop
 |[],xs=>xs=[]
 |t::r,xs=>∃lv ys,xs=.int .i64 t.ar::lv::ys/\eg w T lv t.ls/\iy w T r ys
theorem iy.keep {w w':World} {T:Nat} (hb:Below T w w'):∀{F:List Tp} {xs:List Value},iy w T F xs->iy w' T F xs
 |[],_,h=>h
 |_::_,_,⟨lv,ys,h1,h2,h3⟩=>⟨lv,ys,h1,h2.keep hb,iy.keep hb h3⟩
theorem iy.up {w:World} {T T':Nat} (hT:T<=T'):∀{F:List Tp} {xs:List Value},iy w T F xs->iy w T' F xs
 |[],_,h=>h
 |_::_,_,⟨lv,ys,h1,h2,h3⟩=>⟨lv,ys,h1,h2.up hT,iy.up hT h3⟩
theorem iy.type {w w':World} {T base size n:Nat} {v0:Value} {xs0:List Value} (hr:w.ownsRow base 79 size v0 n xs0) (hg:w.grownBy w' v0.ownBlock):∀{F:List Tp} {xs:List Value},iy w T F xs->iy w' T F xs
 |[],_,h=>h
 |_::_,_,⟨lv,ys,h1,h2,h3⟩=>⟨lv,ys,h1,h2.type hr hg,iy.type hr hg h3⟩
theorem iy.set {w:World} {T b i:Nat} {u:Value} {cs:Array Value} (hb:w.heap[b]?=some (.cells cs 63 (0,0))):∀{F:List Tp} {xs:List Value},iy w T F xs->iy (w.setCell ⟨b,i,none⟩ u) T F xs
 |[],_,h=>h
 |_::_,_,⟨lv,ys,h1,h2,h3⟩=>⟨lv,ys,h1,h2.set hb,iy.set hb h3⟩
theorem iy.snoc {w:World} {T:Nat} {t:Tp} {lv:Value} (ht:eg w T lv t.ls):∀{F:List Tp} {xs:List Value},iy w T F xs->iy w T (F++[t]) (xs++[.int .i64 t.ar,lv])
 |[],_,h=>by rw [show _=([]:List Value) from h];exact ⟨lv,[],rfl,ht,rfl⟩
 |_::_,_,⟨l,ys,h1,h2,h3⟩=>⟨l,ys++[.int .i64 t.ar,lv],by rw [h1];simp,h2,iy.snoc ht h3⟩
theorem iy.at {w:World} {T:Nat}:∀{F:List Tp} {xs:List Value},iy w T F xs->∀j (h:j<F.length),∃lv,xs[j*2]?=some (.int .i64 F[j].ar)/\xs[j*2+1]?=some lv/\eg w T lv F[j].ls
 |[],_,_,j,h=>by simp at h
 |t::F,_,⟨lv,ys,rfl,h2,h3⟩,0,_=>⟨lv,rfl,rfl,h2⟩
 |t::F,_,⟨lv,ys,rfl,h2,h3⟩,j+1,h=>by
  obtain ⟨l,e1,e2,e3⟩:=iy.at h3 j (by simpa using h);refine ⟨l,?_,?_,e3⟩
  ·rw [show (j+1)*2=j*2+1+1 by omega];exact e1
  ·rw [show (j+1)*2+1=(j*2+1)+1+1 by omega];exact e2
theorem iy.rd {w:World} {T:Nat} {fv:Value} {F:List Tp} {xs:List Value} (hr:w.ownsRow 0 79 2 fv F.length xs) (hT:∀k,fv.ownBlock=some k->k<T) (h:iy w T F xs):dS w T fv F:=by
 have h0:=hr;rcases hr.2 with ⟨rfl,hn⟩|⟨g,cap,cur,rfl,_,_,hn,hc,_⟩
 ·exact ⟨none,0,by rw [hn],by omega,by unfold maxLen;omega,.inl hn⟩
 ·refine ⟨some ⟨g,0,none⟩,cap,rfl,hn,hc,.inr ⟨g,0,rfl,hT g rfl,fun j hj=>?_⟩⟩
  obtain ⟨lv,e1,e2,e3⟩:=h.at j hj;exact ⟨lv,by rw [cr];exact aH h0 _ _ e1,by rw [cr];exact aH h0 _ _ e2,e3.rd⟩
def gn (w:World) (B:Nat) (S:Nat->Prop) (vs:List Value) (L:List Ln):Prop:=
 ∀j (h:j<L.length),∃v,vs[j]?=some v/\w.ownsRow B 99 2 v L[j].length (acs L[j])/\∀k,v.ownBlock=some k->S k
def j3 (w:World) (B:Nat) (lv:Value) (L:List Ln):Prop:=
 ∃vs,w.ownsRow B 100 1 lv L.length vs/\gn w B (fun _=>True) vs L
theorem j3.ow {w:World} {B:Nat} {lv:Value} {L:List Ln} (h:j3 w B lv L):eg w w.heap.size lv L:=by
 obtain ⟨vs,h1,h2⟩:=h;refine ⟨vs,bO h1 (aF _),fun k hk=>(h1.lt k hk).2,fun j hj=>?_⟩
 obtain ⟨v,e1,e2,_⟩:=h2 j hj;exact ⟨v,e1,bO e2 (aF _),fun k hk=>(e2.lt k hk).2⟩
theorem gn.old {w w':World} {B:Nat} {S S':Nat->Prop} {vs:List Value} {L:List Ln} (h:gn w B S vs L) (hb:Below w.heap.size w w') (hS:∀k,k<w.heap.size->S k->S' k):gn w' B S' vs L:=by
 intro j hj;obtain ⟨v,e1,e2,e3⟩:=h j hj;exact ⟨v,e1,aQ e2 hb,fun k hk=>hS k (e2.lt k hk).2 (e3 k hk)⟩
theorem gn.kept {w w':World} {B:Nat} {S S':Nat->Prop} {vs:List Value} {L:List Ln} {ov:Value} (h:gn w B S vs L) (hg:w.grownBy w' ov.ownBlock) (dI:∀k,S k->ov.ownBlock≠some k) (hS:∀k,k<w.heap.size->S k->S' k):gn w' B S' vs L:=by
 intro j hj;obtain ⟨v,e1,e2,e3⟩:=h j hj;refine ⟨v,e1,e2.kept hg ?_,fun k hk=>hS k (e2.lt k hk).2 (e3 k hk)⟩
 cases hq:v.ownBlock with
 |none=>exact .inl rfl
 |some k=>right;intro e;exact dI k (e3 k hq) e.symm
theorem gn.type {w w':World} {B base size n:Nat} {S S':Nat->Prop} {vs:List Value} {L:List Ln} {v0:Value} {xs0:List Value} (hr:w.ownsRow base 100 size v0 n xs0) (hg:w.grownBy w' v0.ownBlock) (h:gn w B S vs L) (hS:∀k,S k->S' k):gn w' B S' vs L:=by
 intro j hj;obtain ⟨v,e1,e2,e3⟩:=h j hj;exact ⟨v,e1,aY hr hg (by decide) e2,fun k hk=>hS k (e3 k hk)⟩
theorem gn.app {w:World} {B:Nat} {S:Nat->Prop} {vs us:List Value} {L M:List Ln} (hl:vs.length=L.length) (h1:gn w B S vs L) (h2:gn w B S us M):gn w B S (vs++us) (L++M):=by
 intro j hj;by_cases dG:j<L.length
 ·obtain ⟨v,e1,e2,e3⟩:=h1 j dG;exact ⟨v,by rw [aI (by omega)];exact e1,by rw [dd dG];exact e2,e3⟩
 ·have nV:j-L.length<M.length:=by rw [au] at hj;omega
  obtain ⟨v,e1,e2,e3⟩:=h2 _ nV;exact ⟨v,by rw [aC (by omega),hl];exact e1,by rw [cN (by omega)];exact e2,e3⟩
theorem gn.one {w:World} {B:Nat} {S:Nat->Prop} {vs:List Value} {L:List Ln} (h:gn w B S vs L) (hl:vs.length=L.length):∀u∈vs,u.oneCell'=true:=by
 intro u hu;obtain ⟨j,hj,rfl⟩:=cl.1 hu;obtain ⟨v,e1,e2,_⟩:=h j (by omega);rw [aj hj] at e1;cases e1
 obtain ⟨a,c,e⟩:=aU e2;rw [e];rfl
structure Fr where
 k:Int
 h:Nat
 nd:Int
 pr:Int
 nu:Int
structure Ms where
 stk:Ln
 frs:List Fr
 nds:List (Ln×Bool)
 fre:List Int
 stp:Int
 out:Int
 val:Int
structure Cf where
 fs:List Tp
 bud:Int
 hp:Int
def hdI (l:Ln):Int×Int:=l.headD (0,0)
def flr (s:Ms):Nat:=(s.frs.map (·.h)).headD 0
def ql (s:Ms):Int:=if s.stk.length=0 then 0 else (s.stk.length:Int)-1-flr s
def lT (x:Int×Int) (s:Ms):Ms:={s with stk:=x::s.stk}
def qS (l:Ln) (s:Ms):Ms:={s with stk:=l++s.stk}
def fX (s:Ms):Ms:={s with stk:=s.stk.tail}
def qy:Nat->Ln->Ln
 |0,_=>[]
 |n+1,l=>hdI l::qy n l.tail
def lA (k nd pr nu:Int) (s:Ms):Ms:={s with frs:=⟨k,s.stk.length,nd,pr,nu⟩::s.frs}
def gv (s:Ms):Ms:={s with frs:=s.frs.tail}
def xn (p:Int) (n:Ln×Bool) (s:Ms):Ms:=if 0<=p/\p<s.nds.length then {s with nds:=s.nds.set p.toNat n} else s
def rq (s:Ms):Ln:=s.stk.take (s.stk.length-flr s)
def jg (s:Ms):Ms:=
 if 0<=(hdI s.stk).2/\(hdI s.stk).2<s.nds.length then
  qS (s.nds[(hdI s.stk).2.toNat]?.getD ([],false)).1 (if (s.nds[(hdI s.stk).2.toNat]?.getD ([],false)).2 then fX s else lA 1 (hdI s.stk).2 0 0 (fX s))
 else fX s
def NP (nd:Int) (s:Ms):Ms:=xn nd (rq s,true) (gv s)
def jx (c:Cf) (n:Int):Tp:=if 0<=n/\n<c.fs.length then c.fs[n.toNat]?.getD ⟨0,[]⟩ else ⟨0,[]⟩
def iP (ar:Ln) (ps:List Int) (a:Int×Int):Int×Int:=
 if a.1=5/\0<=a.2/\a.2<ps.length then (5,ps[a.2.toNat]?.getD 0)
 else if a.1=2/\0<=a.2/\a.2<ar.length then ar[a.2.toNat]?.getD (0,0) else a
def cL (l:Ln) (ar:Ln) (ps:List Int):Ln:=l.map (iP ar ps)
def jO (s:Ms):Ms:=match s.fre with
 |[]=>{s with nds:=s.nds++[([],false)]}
 |_::r=>{s with fre:=r}
def mG (s:Ms):Int:=match s.fre with
 |[]=>s.nds.length
 |p::_=>p
def hZ:Nat->Ms->Ms
 |0,s=>s
 |n+1,s=>hZ n (jO s)
def takeL:Nat->Ms->List Int
 |0,_=>[]
 |n+1,s=>mG s::takeL n (jO s)
def mh (ar:Ln) (ps:List Int):Nat->List Ln->Ms->Ms
 |_,[],s=>s
 |0,l::r,s=>mh ar ps 1 r (qS (cL l ar ps) s)
 |i+1,l::r,s=>mh ar ps (i+2) r (if i<ps.length then xn (ps[i]?.getD 0) (cL l ar ps,false) s else s)
def rch (p:Int) (x:List Bool×List Int):List Bool×List Int:=
 if p<0\/(x.1.length:Int)<=p\/x.1[p.toNat]?.getD false=true then x else (x.1.set p.toNat true,x.2++[p])
def rX:Ln->List Bool×List Int->List Bool×List Int
 |[],x=>x
 |a::l,x=>rX l (if a.1=5 then rch a.2 x else x)
def C4:List Fr->List Bool×List Int->List Bool×List Int
 |[],x=>x
 |f::l,x=>C4 l (if f.k=1 then rch f.nd x else x)
def bfs (s:Ms):Nat->Nat->List Bool×List Int->List Bool×List Int
 |0,_,x=>x
 |n+1,i,x=>if i<x.2.length then bfs s n (i+1) (if 0<=x.2[i]?.getD 0/\x.2[i]?.getD 0<s.nds.length then rX (s.nds[(x.2[i]?.getD 0).toNat]?.getD ([],false)).1 x else x) else x
def eD (s:Ms):List Bool×List Int:=bfs s s.nds.length 0 (C4 s.frs.reverse (rX s.stk.reverse (List.replicate s.nds.length false,[])))
def uS:Nat->List Bool->List Int->List Int
 |_,[],acc=>acc
 |i,b::l,acc=>uS (i+1) l (if b then acc else (i:Int)::acc)
def lL (s:Ms):Ms:={s with fre:=uS 0 (eD s).1 []}
def lD (c:Cf) (s:Ms):Int:=c.hp-s.nds.length+s.fre.length
def gh (c:Cf) (n:Int) (s:Ms):Ms:=if lD c s<n then lL s else s
def rI (c:Cf) (t:Tp) (s:Ms):Ms:=
 if c.bud<=s.stp then {s with out:=5}
 else if (t.ls.length:Int)-1<=lD c (gh c ((t.ls.length:Int)-1) s) then
  let s1:=gh c ((t.ls.length:Int)-1) s
  let s2:Ms:={s1 with stp:=s1.stp+1,stk:=s1.stk.tail.drop t.ar.toNat}
  mh (qy t.ar.toNat s1.stk.tail) (takeL (t.ls.length-1) s2) 0 t.ls (hZ (t.ls.length-1) s2)
 else {gh c ((t.ls.length:Int)-1) s with out:=6}
def eR (p:Int):Int:=if p=3\/p=4 then 4 else 2
def IH (p:Int) (s:Ms):Ms:=lT (hdI s.stk.tail) (lA 2 0 p 0 (fX (fX s)))
def zb (p n:Int) (s:Ms):Ms:=lT (hdI s.stk.tail) (lA 3 0 p n (fX (fX (gv s))))
def kN (b:Bool) (s:Ms):Ms:=lT (if b then hdI s.stk else hdI s.stk.tail) (fX (fX s))
def iD (p x y:Int):Int:=if p=0 then x+y else if p=1 then x-y else x*y
def D6 (p x y:Int) (s:Ms):Ms:=if 1000000000<iD p x y\/iD p x y< -1000000000 then {s with out:=4} else lT (1,iD p x y) s
def A7 (c:Cf) (p x y:Int) (s:Ms):Ms:=
 if c.bud<=s.stp then {s with out:=5}
 else
  let s1:=fX (gv {s with stp:=s.stp+1})
  if p=3 then kN (decide (x<y)) s1 else if p=4 then kN (decide (x=y)) s1 else D6 p x y s1
def Ro (t:Int×Int) (s:Ms):Ms:=if t.1=1 then {s with out:=1,val:=t.2} else {s with out:=2}
def w9 (c:Cf) (t:Int×Int) (s:Ms):Ms:=
 match s.frs with
 |[]=>Ro t s
 |f::_=>if f.k=1 then NP f.nd s else if t.1≠1 then {s with out:=3} else if f.k=2 then zb f.pr t.2 s else A7 c f.pr f.nu t.2 s
def qA (c:Cf) (s:Ms):Ms:=
 let t:=hdI s.stk
 if t.1=5 then jg s
 else if t.1=3 then (if (jx c t.2).ar<=ql s then rI c (jx c t.2) s else w9 c t s)
 else if t.1=4 then (if eR t.2<=ql s then IH t.2 s else w9 c t s)
 else if 0<ql s then {s with out:=3} else w9 c t s
def fF (c:Cf):Nat->Ms->Ms
 |0,s=>s
 |n+1,s=>if s.out=0 then fF c n (qA c s) else s
def ep (mn:Int):Ms:=⟨[(3,mn)],[],[],[],0,0,0⟩
def rG (f:Fr):List Value:=[.int .i64 f.k,.int .i64 (f.h:Int),.int .i64 f.nd,.int .i64 f.pr,.int .i64 f.nu]
def fcs (l:List Fr):List Value:=l.flatMap rG
def ncs:List Value->List (Ln×Bool)->List Value
 |v::vs,n::ns=>v::.bool n.2::ncs vs ns
 |_,_=>[]
structure MSt (w:World) (B mb:Nat) (fv:Value) (c:Cf) (s:Ms) (K:Nat->Prop) (sv rv nv ev:Value) (vs:List Value):Prop where
 blk:w.heap[mb]?=some (.cells #[fv,.int .i64 c.bud,.int .i64 c.hp,sv,rv,nv,ev,.int .i64 s.stp,.int .i64 s.out,.int .i64 s.val] 87 (0,0))
 lo:B<=mb
 rs:w.ownsRow B 90 2 sv s.stk.length (acs s.stk.reverse)
 rr:w.ownsRow B 164 5 rv s.frs.length (fcs s.frs.reverse)
 rn:w.ownsRow B 161 2 nv s.nds.length (ncs vs s.nds)
 re:w.ownsRow B 3 1 ev s.fre.length (jp s.fre.reverse)
 vl:vs.length=s.nds.length
 rows:∀j (h:j<s.nds.length),∃v,vs[j]?=some v/\w.ownsRow B 90 2 v s.nds[j].1.length (acs s.nds[j].1)/\∀k,v.ownBlock=some k->sv.ownBlock≠some k
 klt:∀k,K k->k<w.heap.size
 sep:∀k,K k->k≠mb/\sv.ownBlock≠some k/\rv.ownBlock≠some k/\nv.ownBlock≠some k/\ev.ownBlock≠some k
def dm (K:Nat->Prop) (w w':World):Prop:=∀k,K k->k<w.heap.size->w'.heap[k]?=w.heap[k]?
theorem dm.refl (K:Nat->Prop) (w:World):dm K w w:=fun _ _ _=>rfl
theorem dm.trans {K:Nat->Prop} {w w' w'':World} (h1:dm K w w') (h2:dm K w' w'') (hs:w.heap.size<=w'.heap.size):dm K w w'':=
 fun k hk hl=>(h2 k hk (bq hl hs)).trans (h1 k hk hl)
theorem dm.old {K:Nat->Prop} {w w':World} (h:Below w.heap.size w w'):dm K w w':=fun k _ hl=>h.block k hl
theorem dm.set {K:Nat->Prop} {w:World} {x i:Nat} {u:Value} (h:¬K x):dm K w (w.setCell ⟨x,i,none⟩ u):=fun _ hk _=>bi _ (fun e=>h (e ▸ hk))
def MP (w:World) (B mb:Nat) (fv:Value) (c:Cf) (s:Ms) (K:Nat->Prop):Prop:=∃sv rv nv ev vs,MSt w B mb fv c s K sv rv nv ev vs
theorem xD {w:World} {b x:Nat} {c1 c2:Array Value} {t1 t2:TypeId} (h1:w.heap[b]?=some (.cells c1 t1 (0,0))) (h2:w.heap[x]?=some (.cells c2 t2 (0,0))) (dI:t1≠t2):b≠x:=by
 intro e;subst e;rw [h1] at h2;simp at h2;exact dI h2.2
section
variable {w w' w2:World} {B mb:Nat} {fv:Value} {c:Cf} {s:Ms} {K:Nat->Prop} {sv rv nv ev:Value} {vs:List Value}
theorem MSt.lt (h:MSt w B mb fv c s K sv rv nv ev vs):mb<w.heap.size:=(ae.1 h.blk).1
theorem MSt.old (h:MSt w B mb fv c s K sv rv nv ev vs) (hb:Below w.heap.size w w'):MSt w' B mb fv c s K sv rv nv ev vs:=
 ⟨(hb.block mb h.lt).trans h.blk,h.lo,aQ h.rs hb,aQ h.rr hb,aQ h.rn hb,aQ h.re hb,h.vl,
   fun j hj=>by obtain ⟨v,h1,h2,h3⟩:=h.rows j hj;exact ⟨v,h1,aQ h2 hb,h3⟩,fun k hk=>bq (h.klt k hk) hb.size,h.sep⟩
theorem MSt.noK (h:MSt w B mb fv c s K sv rv nv ev vs):¬K mb:=fun hk=>(h.sep mb hk).1 rfl
theorem MSt.field (h:MSt w B mb fv c s K sv rv nv ev vs) {i:Nat} {u:Value} {s':Ms} (e1:s'.stk=s.stk) (e2:s'.frs=s.frs) (e3:s'.nds=s.nds) (e4:s'.fre=s.fre)
 (he:(#[fv,.int .i64 c.bud,.int .i64 c.hp,sv,rv,nv,ev,.int .i64 s.stp,.int .i64 s.out,.int .i64 s.val]:Array Value).setIfInBounds i u=#[fv,.int .i64 c.bud,.int .i64 c.hp,sv,rv,nv,ev,.int .i64 s'.stp,.int .i64 s'.out,.int .i64 s'.val]):MSt (w.setCell ⟨mb,i,none⟩ u) B mb fv c s' K sv rv nv ev vs:=by
 refine ⟨?_,h.lo,?_,?_,?_,?_,?_,?_,?_,h.sep⟩
 ·rw [bk _ h.blk,he]
 ·rw [e1];exact aB h.rs h.blk (by decide)
 ·rw [e2];exact aB h.rr h.blk (by decide)
 ·rw [e3];exact aB h.rn h.blk (by decide)
 ·rw [e4];exact aB h.re h.blk (by decide)
 ·rw [e3];exact h.vl
 ·rw [e3];exact fun j hj=>by obtain ⟨v,h1,h2,h3⟩:=h.rows j hj;exact ⟨v,h1,aB h2 h.blk (by decide),h3⟩
 ·intro k hk;have:=h.klt k hk;simp [World.setCell];exact this
theorem xf (x:Int×Int) (l:Ln):acs (x::l).reverse=acs l.reverse++[.int .i64 x.1,.int .i64 x.2]:=by simp [acs]
theorem wX (x:Fr) (l:List Fr):fcs (x::l).reverse=fcs l.reverse++rG x:=by simp [fcs]
theorem s6 (x:Int) (l:List Int):jp (x::l).reverse=jp l.reverse++[.int .i64 x]:=by simp [jp]
theorem wy:∀(vs:List Value) (ns:List (Ln×Bool)) (v:Value) (n:Ln×Bool),vs.length=ns.length->ncs (vs++[v]) (ns++[n])=ncs vs ns++[v,.bool n.2]
 |[],[],_,_,_=>rfl
 |_::vs,_::ns,v,n,h=>by simp [ncs,wy vs ns v n (by simpa using h)]
theorem j8 {base size n:Nat} {e:TypeId} {v:Value} {xs:List Value} (h:w.ownsRow base e size v n xs) (hk:dm K w w') (hv:∀k,v.ownBlock=some k->K k):w'.ownsRow base e size v n xs:=by
 refine ⟨h.1,?_⟩
 rcases h.2 with hn|⟨g,cap,cur,rfl,hg,hh,q⟩
 ·exact .inl hn
 ·exact .inr ⟨g,cap,cur,rfl,hg,(hk g (hv g rfl) (ae.1 hh).1).trans hh,q⟩
theorem nA {ov:Value} (iQ:w.grownBy w2 ov.ownBlock) (hK:∀k,K k->ov.ownBlock≠some k):dm K w w2:=
 fun k hk hl=>iQ.block k hl (fun e=>hK k hk e.symm)
theorem MSt.pushS {g cap:Nat} {x:Int×Int} (h:MSt w B mb fv c s K sv rv nv ev vs) (hown:w2.ownsRow B 90 2 (.slice (some ⟨g,0,none⟩) (s.stk.length+1) cap) (s.stk.length+1) (acs s.stk.reverse++[.int .i64 x.1,.int .i64 x.2])) (iQ:w.grownBy w2 sv.ownBlock) (dt:sv.ownBlock=some g\/g=w.heap.size):
 Below B w (w2.setCell ⟨mb,3,none⟩ (.slice (some ⟨g,0,none⟩) (s.stk.length+1) cap))/\dm K w (w2.setCell ⟨mb,3,none⟩ (.slice (some ⟨g,0,none⟩) (s.stk.length+1) cap))/\MSt (w2.setCell ⟨mb,3,none⟩ (.slice (some ⟨g,0,none⟩) (s.stk.length+1) cap)) B mb fv c (lT x s) K (.slice (some ⟨g,0,none⟩) (s.stk.length+1) cap) rv nv ev vs:=by
 have bX:=br h.rs iQ (by decide) h.blk;have bF:=h.lt;have iG:=iQ.size;have Na:∀k,K k->g≠k:=by
  intro k hk e;rcases dt with dt|dt
  ·exact (h.sep k hk).2.1 (e ▸ dt)
  ·have:=h.klt k hk;omega
 refine ⟨((ai B w).grown iQ (by have:=h.lo;omega) (fun k hk=>(h.rs.lt k hk).1)).setCell (by exact h.lo) _,(nA iQ (fun k hk=>(h.sep k hk).2.1)).trans (dm.set h.noK) iG,bk _ bX,h.lo,?_,aB (aY h.rs iQ (by decide) h.rr) bX (by decide),aB (aY h.rs iQ (by decide) h.rn) bX (by decide),aB (aY h.rs iQ (by decide) h.re) bX (by decide),h.vl,?_,?_,?_⟩
 ·show World.ownsRow _ _ _ _ _ (x::s.stk).length (acs (x::s.stk).reverse)
  rw [xf];exact aB hown bX (by decide)
 ·intro j hj;obtain ⟨v,h1,h2,h3⟩:=h.rows j hj;refine ⟨v,h1,aB (h2.kept iQ ?_) bX (by decide),?_⟩
  ·cases hq:v.ownBlock with
   |none=>exact .inl rfl
   |some k=>right;exact fun e=>h3 k hq e.symm
  ·intro k hk e;have hgk:g=k:=by simpa [Value.ownBlock] using e
   rcases dt with dt|dt
   ·exact h3 k hk (by rw [<-hgk];exact dt)
   ·have:=(h2.lt k hk).2;omega
 ·intro k hk;have:=h.klt k hk;simp [World.setCell];omega
 ·intro k hk;obtain ⟨a,_,d⟩:=h.sep k hk;exact ⟨a,fun e=>Na k hk (by simpa [Value.ownBlock] using e),d⟩
theorem MSt.pushR {g cap:Nat} {f:Fr} (h:MSt w B mb fv c s K sv rv nv ev vs) (hown:w2.ownsRow B 164 5 (.slice (some ⟨g,0,none⟩) (s.frs.length+1) cap) (s.frs.length+1) (fcs s.frs.reverse++rG f)) (iQ:w.grownBy w2 rv.ownBlock) (dt:rv.ownBlock=some g\/g=w.heap.size):
 Below B w (w2.setCell ⟨mb,4,none⟩ (.slice (some ⟨g,0,none⟩) (s.frs.length+1) cap))/\dm K w (w2.setCell ⟨mb,4,none⟩ (.slice (some ⟨g,0,none⟩) (s.frs.length+1) cap))/\MSt (w2.setCell ⟨mb,4,none⟩ (.slice (some ⟨g,0,none⟩) (s.frs.length+1) cap)) B mb fv c {s with frs:=f::s.frs} K sv (.slice (some ⟨g,0,none⟩) (s.frs.length+1) cap) nv ev vs:=by
 have bX:=br h.rr iQ (by decide) h.blk;have bF:=h.lt;have iG:=iQ.size;have Na:∀k,K k->g≠k:=by
  intro k hk e;rcases dt with dt|dt
  ·exact (h.sep k hk).2.2.1 (e ▸ dt)
  ·have:=h.klt k hk;omega
 refine ⟨((ai B w).grown iQ (by have:=h.lo;omega) (fun k hk=>(h.rr.lt k hk).1)).setCell (by exact h.lo) _,(nA iQ (fun k hk=>(h.sep k hk).2.2.1)).trans (dm.set h.noK) iG,bk _ bX,h.lo,aB (aY h.rr iQ (by decide) h.rs) bX (by decide),?_,aB (aY h.rr iQ (by decide) h.rn) bX (by decide),aB (aY h.rr iQ (by decide) h.re) bX (by decide),h.vl,?_,?_,?_⟩
 ·show World.ownsRow _ _ _ _ _ (f::s.frs).length (fcs (f::s.frs).reverse)
  rw [wX];exact aB hown bX (by decide)
 ·intro j hj;obtain ⟨v,h1,h2,h3⟩:=h.rows j hj;exact ⟨v,h1,aB (aY h.rr iQ (by decide) h2) bX (by decide),h3⟩
 ·intro k hk;have:=h.klt k hk;simp [World.setCell];omega
 ·intro k hk;obtain ⟨a,b,_,d⟩:=h.sep k hk;exact ⟨a,b,fun e=>Na k hk (by simpa [Value.ownBlock] using e),d⟩
theorem MSt.pushN {g cap:Nat} (h:MSt w B mb fv c s K sv rv nv ev vs) (hown:w2.ownsRow B 161 2 (.slice (some ⟨g,0,none⟩) (s.nds.length+1) cap) (s.nds.length+1) (ncs vs s.nds++[.slice none 0 0,.bool false])) (iQ:w.grownBy w2 nv.ownBlock) (dt:nv.ownBlock=some g\/g=w.heap.size):
 Below B w (w2.setCell ⟨mb,5,none⟩ (.slice (some ⟨g,0,none⟩) (s.nds.length+1) cap))/\dm K w (w2.setCell ⟨mb,5,none⟩ (.slice (some ⟨g,0,none⟩) (s.nds.length+1) cap))/\MSt (w2.setCell ⟨mb,5,none⟩ (.slice (some ⟨g,0,none⟩) (s.nds.length+1) cap)) B mb fv c {s with nds:=s.nds++[([],false)]} K sv rv (.slice (some ⟨g,0,none⟩) (s.nds.length+1) cap) ev (vs++[.slice none 0 0]):=by
 have bX:=br h.rn iQ (by decide) h.blk;have bF:=h.lt;have iG:=iQ.size;have Na:∀k,K k->g≠k:=by
  intro k hk e;rcases dt with dt|dt
  ·exact (h.sep k hk).2.2.2.1 (e ▸ dt)
  ·have:=h.klt k hk;omega
 refine ⟨((ai B w).grown iQ (by have:=h.lo;omega) (fun k hk=>(h.rn.lt k hk).1)).setCell (by exact h.lo) _,(nA iQ (fun k hk=>(h.sep k hk).2.2.2.1)).trans (dm.set h.noK) iG,bk _ bX,h.lo,aB (aY h.rn iQ (by decide) h.rs) bX (by decide),aB (aY h.rn iQ (by decide) h.rr) bX (by decide),?_,aB (aY h.rn iQ (by decide) h.re) bX (by decide),by simp [h.vl],?_,?_,?_⟩
 ·show World.ownsRow _ _ _ _ _ (s.nds++[([],false)]).length (ncs (vs++[.slice none 0 0]) (s.nds++[([],false)]))
  rw [wy _ _ _ _ h.vl,au];exact aB hown bX (by decide)
 ·intro j hj;have Qg:j<s.nds.length+1:=by simpa using hj
  by_cases dG:j<s.nds.length
  ·obtain ⟨v,h1,h2,h3⟩:=h.rows j dG;refine ⟨v,by rw [aI (by rw [h.vl];exact dG)];exact h1,?_,h3⟩
   simp only [dd dG];exact aB (aY h.rn iQ (by decide) h2) bX (by decide)
  ·have e:j=s.nds.length:=by omega
   subst e;refine ⟨.slice none 0 0,by rw [aC (by rw [h.vl];exact ah _)];simp [h.vl],?_,fun k hk=>by simp [Value.ownBlock] at hk⟩
   simp only [cN (ah _),ct,bQ];exact aM _ _ _ _
 ·intro k hk;have:=h.klt k hk;simp [World.setCell];omega
 ·intro k hk;obtain ⟨a,b,b2,_,d⟩:=h.sep k hk;exact ⟨a,b,b2,fun e=>Na k hk (by simpa [Value.ownBlock] using e),d⟩
theorem MSt.pushE {g cap:Nat} {x:Int} (h:MSt w B mb fv c s K sv rv nv ev vs) (hown:w2.ownsRow B 3 1 (.slice (some ⟨g,0,none⟩) (s.fre.length+1) cap) (s.fre.length+1) (jp s.fre.reverse++[.int .i64 x])) (iQ:w.grownBy w2 ev.ownBlock) (dt:ev.ownBlock=some g\/g=w.heap.size):
 Below B w (w2.setCell ⟨mb,6,none⟩ (.slice (some ⟨g,0,none⟩) (s.fre.length+1) cap))/\dm K w (w2.setCell ⟨mb,6,none⟩ (.slice (some ⟨g,0,none⟩) (s.fre.length+1) cap))/\MSt (w2.setCell ⟨mb,6,none⟩ (.slice (some ⟨g,0,none⟩) (s.fre.length+1) cap)) B mb fv c {s with fre:=x::s.fre} K sv rv nv (.slice (some ⟨g,0,none⟩) (s.fre.length+1) cap) vs:=by
 have bX:=br h.re iQ (by decide) h.blk;have bF:=h.lt;have iG:=iQ.size;have Na:∀k,K k->g≠k:=by
  intro k hk e;rcases dt with dt|dt
  ·exact (h.sep k hk).2.2.2.2 (e ▸ dt)
  ·have:=h.klt k hk;omega
 refine ⟨((ai B w).grown iQ (by have:=h.lo;omega) (fun k hk=>(h.re.lt k hk).1)).setCell (by exact h.lo) _,(nA iQ (fun k hk=>(h.sep k hk).2.2.2.2)).trans (dm.set h.noK) iG,bk _ bX,h.lo,aB (aY h.re iQ (by decide) h.rs) bX (by decide),aB (aY h.re iQ (by decide) h.rr) bX (by decide),aB (aY h.re iQ (by decide) h.rn) bX (by decide),?_,h.vl,?_,?_,?_⟩
 ·show World.ownsRow _ _ _ _ _ (x::s.fre).length (jp (x::s.fre).reverse)
  rw [s6];exact aB hown bX (by decide)
 ·intro j hj;obtain ⟨v,h1,h2,h3⟩:=h.rows j hj;exact ⟨v,h1,aB (aY h.re iQ (by decide) h2) bX (by decide),h3⟩
 ·intro k hk;have:=h.klt k hk;simp [World.setCell];omega
 ·intro k hk;obtain ⟨a,b,b2,b3,_⟩:=h.sep k hk;exact ⟨a,b,b2,b3,fun e=>Na k hk (by simpa [Value.ownBlock] using e)⟩
theorem lG {base size n q cap:Nat} {e:TypeId} {xs:List Value} (h:w.ownsRow base e size (.slice (some ⟨q,0,none⟩) n cap) n xs) (j:Nat) (u:Value):(w.setCell ⟨q,j,none⟩ u).ownsRow base e size (.slice (some ⟨q,0,none⟩) n cap) n (xs.set j u):=by
 obtain ⟨h1,h2⟩:=h;refine ⟨by rw [bJ];exact h1,?_⟩
 rcases h2 with ⟨h0,_⟩|⟨g',cap',cur,h0,hg,hh,c1,c2,c3,c4⟩
 ·cases h0
 ·cases h0
  refine .inr ⟨q,cap,cur.setIfInBounds j u,rfl,hg,bk _ hh,c1,c2,by rw [de];exact c3,?_⟩
  rw [Array.toList_setIfInBounds,List.take_set,c4]
theorem pl {base size n m q cap:Nat} {e:TypeId} {xs:List Value} (h:w.ownsRow base e size (.slice (some ⟨q,0,none⟩) n cap) n xs) (hm:m<=n):w.ownsRow base e size (.slice (some ⟨q,0,none⟩) m cap) m (xs.take (m*size)):=by
 obtain ⟨h1,h2⟩:=h;have lW:m*size<=n*size:=dq _ hm;refine ⟨by rw [cF];omega,?_⟩
 rcases h2 with ⟨h0,_⟩|⟨g',cap',cur,h0,hg,hh,c1,c2,c3,c4⟩
 ·cases h0
 ·cases h0
  refine .inr ⟨q,cap,cur,rfl,hg,hh,by omega,c2,c3,?_⟩
  rw [<-c4,List.take_take,gH lW]
theorem iV (l:Ln):(acs l).length=l.length*2:=by
 induction l with
 |nil=>rfl
 |cons a l ih=>simp [acs] at ih ⊢;omega
theorem qL (l:List Fr):(fcs l).length=l.length*5:=by
 induction l with
 |nil=>rfl
 |cons a l ih=>simp [fcs,rG] at ih ⊢;omega
theorem MSt.popS {g cap:Nat} {x:Int×Int} {r:Ln} (h:MSt w B mb fv c s K (.slice (some ⟨g,0,none⟩) (r.length+1) cap) rv nv ev vs) (hs:s.stk=x::r):
 MSt (w.setCell ⟨mb,3,none⟩ (.slice (some ⟨g,0,none⟩) r.length cap)) B mb fv c {s with stk:=r} K (.slice (some ⟨g,0,none⟩) r.length cap) rv nv ev vs:=by
 have qU:=h.rs;rw [hs,xf] at qU;have h2:=pl qU (gr r.length);rw [List.take_left' (by rw [iV,cB])] at h2;exact ⟨bk _ h.blk,h.lo,aB h2 h.blk (by decide),aB h.rr h.blk (by decide),aB h.rn h.blk (by decide),aB h.re h.blk (by decide),h.vl,
  fun j hj=>by obtain ⟨v,h1,h2,h3⟩:=h.rows j hj;exact ⟨v,h1,aB h2 h.blk (by decide),h3⟩,fun k hk=>by have:=h.klt k hk;simp [World.setCell];exact this,h.sep⟩
theorem MSt.popR {g cap:Nat} {x:Fr} {r:List Fr} (h:MSt w B mb fv c s K sv (.slice (some ⟨g,0,none⟩) (r.length+1) cap) nv ev vs) (hs:s.frs=x::r):
 MSt (w.setCell ⟨mb,4,none⟩ (.slice (some ⟨g,0,none⟩) r.length cap)) B mb fv c {s with frs:=r} K sv (.slice (some ⟨g,0,none⟩) r.length cap) nv ev vs:=by
 have qU:=h.rr;rw [hs,wX] at qU;have h2:=pl qU (gr r.length);rw [List.take_left' (by rw [qL,cB])] at h2;exact ⟨bk _ h.blk,h.lo,aB h.rs h.blk (by decide),aB h2 h.blk (by decide),aB h.rn h.blk (by decide),aB h.re h.blk (by decide),h.vl,
  fun j hj=>by obtain ⟨v,h1,h2,h3⟩:=h.rows j hj;exact ⟨v,h1,aB h2 h.blk (by decide),h3⟩,fun k hk=>by have:=h.klt k hk;simp [World.setCell];exact this,h.sep⟩
theorem MSt.popE {g cap:Nat} {x:Int} {r:List Int} (h:MSt w B mb fv c s K sv rv nv (.slice (some ⟨g,0,none⟩) (r.length+1) cap) vs) (hs:s.fre=x::r):
 MSt (w.setCell ⟨mb,6,none⟩ (.slice (some ⟨g,0,none⟩) r.length cap)) B mb fv c {s with fre:=r} K sv rv nv (.slice (some ⟨g,0,none⟩) r.length cap) vs:=by
 have qU:=h.re;rw [hs,s6] at qU;have h2:=pl qU (gr r.length);rw [List.take_left' (by simp [jp])] at h2;exact ⟨bk _ h.blk,h.lo,aB h.rs h.blk (by decide),aB h.rr h.blk (by decide),aB h.rn h.blk (by decide),aB h2 h.blk (by decide),h.vl,
  fun j hj=>by obtain ⟨v,h1,h2,h3⟩:=h.rows j hj;exact ⟨v,h1,aB h2 h.blk (by decide),h3⟩,fun k hk=>by have:=h.klt k hk;simp [World.setCell];exact this,h.sep⟩
theorem z5:∀(vs:List Value) (ns:List (Ln×Bool)) (p:Nat) (v:Value) (l:Ln) (b:Bool),vs.length=ns.length->p<ns.length->((ncs vs ns).set (p*2) v).set (p*2+1) (.bool b)=ncs (vs.set p v) (ns.set p (l,b))
 |[],[],p,_,_,_,_,h=>by simp at h
 |_::vs,_::ns,0,v,l,b,_,_=>by simp [ncs]
 |_::vs,_::ns,p+1,v,l,b,h,hp=>by
  have:=z5 vs ns p v l b (by simpa using h) (by simpa using hp);simp only [ncs,List.set_cons_succ,<-this,show (p+1)*2=p*2+1+1 by omega]
theorem pz:∀(vs:List Value) (ns:List (Ln×Bool)) (p:Nat) (v:Value) (n:Ln×Bool),vs[p]?=some v->ns[p]?=some n->(ncs vs ns)[p*2]?=some v/\(ncs vs ns)[p*2+1]?=some (.bool n.2)
 |[],_,p,_,_,h,_=>by simp at h
 |_::_,[],p,_,_,_,h=>by simp at h
 |_::vs,_::ns,0,v,n,h,hn=>by simp at h hn;subst h;subst hn;simp [ncs]
 |_::vs,_::ns,p+1,v,n,h,hn=>by
  have:=pz vs ns p v n (by simpa using h) (by simpa using hn);rw [show (p+1)*2=p*2+1+1 by omega];simpa [ncs] using this
theorem MSt.layN {g cap m p:Nat} {v:Value} {l:Ln} {b:Bool} (h:MSt w B mb fv c s K sv rv (.slice (some ⟨g,0,none⟩) m cap) ev vs) (hp:p<s.nds.length) (hv:w.ownsRow B 90 2 v l.length (acs l)) (Ki:∀k,v.ownBlock=some k->sv.ownBlock≠some k):
 Below B w ((w.setCell ⟨g,p*2,none⟩ v).setCell ⟨g,p*2+1,none⟩ (.bool b))/\dm K w ((w.setCell ⟨g,p*2,none⟩ v).setCell ⟨g,p*2+1,none⟩ (.bool b))/\MSt ((w.setCell ⟨g,p*2,none⟩ v).setCell ⟨g,p*2+1,none⟩ (.bool b)) B mb fv c {s with nds:=s.nds.set p (l,b)} K sv rv (.slice (some ⟨g,0,none⟩) m cap) ev (vs.set p v):=by
 obtain ⟨q,cap',hq,vg,dX⟩:=h.rn.form (by omega);cases hq
 have mY:∃cs,w.heap[g]?=some (.cells cs 161 (0,0)):=by
  rcases h.rn.2 with ⟨h0,_⟩|⟨g',cap',cur,h0,hg,hh,_⟩
  ·cases h0
  ·cases h0;exact ⟨cur,hh⟩
 obtain ⟨cs,hg⟩:=mY;have qj:=bk (i:=p*2) v hg;have hnK:¬K g:=fun hk=>(h.sep g hk).2.2.2.1 rfl
 refine ⟨((ai B w).setCell (by exact vg) _).setCell (by exact vg) _,(dm.set hnK).trans (dm.set hnK) (by simp [World.setCell]),?_,h.lo,aB (aB h.rs hg (by decide)) qj (by decide),aB (aB h.rr hg (by decide)) qj (by decide),?_,aB (aB h.re hg (by decide)) qj (by decide),by simp [h.vl],?_,?_,h.sep⟩
 ·rw [bi _ (xD h.blk hg (by decide)),bi _ (xD h.blk hg (by decide))];exact h.blk
 ·show World.ownsRow _ _ _ _ _ (s.nds.set p (l,b)).length (ncs (vs.set p v) (s.nds.set p (l,b)))
  rw [<-z5 vs s.nds p v l b h.vl hp,bJ];exact lG (lG h.rn _ _) _ _
 ·intro j hj;have Qg:j<s.nds.length:=by simpa using hj
  by_cases Kw:p=j
  ·subst Kw;refine ⟨v,bR (by rw [h.vl];exact hp),?_,Ki⟩
   simp only [List.getElem_set_self];exact aB (aB hv hg (by decide)) qj (by decide)
  ·obtain ⟨u,h1,h2,h3⟩:=h.rows j Qg;refine ⟨u,by rw [b9 Kw];exact h1,?_,h3⟩
   simp only [List.getElem_set_ne Kw];exact aB (aB h2 hg (by decide)) qj (by decide)
 ·intro k hk;have:=h.klt k hk;simp [World.setCell];exact this
end
end Go.Proofs.YtnndoagpbcacdabGreatDoor
