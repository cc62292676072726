import Derived.Test.YtnndoagpbcacdabGreatDoorMF8
import Derived.Test.YtnndoagpbcacdabGreatDoorMR9
import Derived.Test.YtnndoagpbcacdabGreatDoorMK5
import Derived.Test.YtnndoagpbcacdabGreatDoorMN3
import Derived.Test.YtnndoagpbcacdabGreatDoorMM3
import Derived.Test.YtnndoagpbcacdabGreatDoorMI5
import Derived.Test.YtnndoagpbcacdabGreatDoorMX7
import Derived.Test.YtnndoagpbcacdabGreatDoorMM14
namespace Go.Proofs.YtnndoagpbcacdabGreatDoor
open Go.RowKit
theorem Oh {t:ByteArray} (h:0<=fM t.toList):nG t.toList=fM t.toList:=by
 unfold fM at h ⊢;unfold nG;split
 ·rfl
 split
 ·rfl
 split
 ·rfl
 split
 ·rfl
 split
 ·rfl
 rename_i a b c d e;simp only [a,b,c,d,e] at h;simp at h
theorem D9 {ds:List Df} {d:Df} {t:Tk} (hw:WT t.txt) (hs:dZ t) (Z0:∀p∈d.ps,bf p.txt=1) (GH:∀e∈ds,bf e.name.txt=1) (hu:uF ds d.ps t=false):gN d.ps ds t=aX d.ps (ds.map (·.name)) t:=by
 have hk:=x7 hw hs Z0 GH hu;unfold gN;by_cases h2:bf t.txt=2
 ·rw [aA h2];have h1:=hk.2 h2;unfold aX at h1 ⊢;split
  ·rename_i q;rw [aA q] at h1;simp at h1
  rename_i q;rw [ay q] at h1;split
  ·rename_i q2;rw [aA q2] at h1;simp at h1
  rename_i q2;rw [ay q2] at h1;split
  ·rename_i q3;rw [aA q3] at h1;simp at h1
  rfl
 rw [ay h2];by_cases h3:bf t.txt=3
 ·rw [aA h3];have jD:=x9 h3;have lK:0<=fM t.txt.toList:=by
   refine sP t.txt (hw.2.2 ?_ ?_) jD
   ·simp only [isL,cw];omega
   ·simp only [isD,cw];omega
  unfold aX;rw [aA lK,Oh lK]
 rw [ay h3];have h1:bf t.txt=1:=by unfold dZ at hs;omega
 have GO:=ya h1;have lK:¬0<=fM t.txt.toList:=by
  rw [kx t.txt (fun c hc e=>by rw [e] at GO;simp only [isL,aL] at GO;omega)];decide
 unfold aX;rw [ay lK];by_cases hq:0<=whr d.ps t.txt
 ·rw [aA hq,aA hq]
 rw [ay hq,ay hq];unfold uF at hu;rw [h1] at hu;simp only [eV,dp,cC,Bool.not_eq_false'] at hu;rcases hu with hu|hu
 ·exact absurd (lP hu) hq
 ·rw [<-iU] at hu;rw [aA (lP hu)];rfl
theorem C9 {f g:Tk->Int×Int} {a:At} (ho:a.ok) (h:∀t∈a.toks,dZ t->f t=g t):(∀k,gx f a k=gx g a k)/\∀k,dC f a k=dC g a k:=by
 induction a with
 |nil=>exact ⟨fun _=>rfl,fun _=>rfl⟩
 |sim t r ih=>
  obtain ⟨i1,i2⟩:=ih ho.2 (fun t ht=>h t (by simp [At.toks,ht]));have e:=h t (by simp [At.toks]) ho.1;exact ⟨fun k=>by rw [gx,gx,e,i1],fun k=>by rw [dC,dC,i2]⟩
 |par o x c ag r ih1 ih2=>
  obtain ⟨_,hx,_,sf,hr⟩:=ho;obtain ⟨i1,i2⟩:=ih1 sf (fun t ht=>h t (by simp [At.toks,ht]));obtain ⟨j1,j2⟩:=ih2 hr (fun t ht=>h t (by simp [At.toks,ht]));have e:=h x (by simp [At.toks]) hx;exact ⟨fun k=>by simp only [gx,e,j1],fun k=>by simp only [dC,e,i1,i2,j2]⟩
def Bg (ds:List Df):Prop:=∀d∈ds,∀hd a,d.body=hd::At.toks a->dZ hd->a.ok->gx (aX d.ps (ds.map (·.name))) (.sim hd a) 0::dC (aX d.ps (ds.map (·.name))) (.sim hd a) 0=uy d.ps ds d.body
theorem sO (s:ByteArray) (h:(chk s).2=0):Bg (eT (ci s 0)).ds/\∀d∈(eT (ci s 0)).ds,DfOk d/\∀t∈d.body,bf t.txt=2->t.txt.size<=6/\mB t.txt.data.toList:=by
 have ip:=iA s h;obtain ⟨k9,jD,_,AJ,_⟩:=ip;have G4:=sD s 0;have hu:mE (eT (ci s 0)).ds (eT (ci s 0)).ds=none:=by
  unfold chk at h;rw [ay (by omega)] at h;split at h
  ·rename_i hg;exact absurd h hg
  split at h
  ·rename_i hg;exact absurd h hg
  split at h
  ·rename_i hg;exact absurd h hg
  rename_i hg;cases hu:mE (eT (ci s 0)).ds (eT (ci s 0)).ds with
  |some p=>rw [hu] at hg;simp [gL] at hg
  |none=>rfl
 generalize (eT (ci s 0)).ds=ds at*;have pE:=jD.shq;have mO:=jD.wt;generalize ci s 0=ts at*;have Zr:=vO hu;have Ap:=pE.names;refine ⟨?_,fun d hd=>⟨AJ d hd,fun t ht h2=>⟨(lU h2).2,G4 t (pE.mem d hd t ht) (lU h2).1⟩⟩⟩
 intro d hd x a hb hs ha;have hk:∀t∈d.body,dZ t->gN d.ps ds t=aX d.ps (ds.map (·.name)) t:=fun t ht hs=>
  D9 (mO t (pE.mem d hd t ht)) hs (Ap d hd).2.1 (fun e he=>(Ap e he).1) (Zr d hd t ht)
 rw [hb] at hk;have hc:=C9 (f:=gN d.ps ds) (g:=aX d.ps (ds.map (fun e:Df=>e.name))) (a:=.sim x a) ⟨hs,ha⟩ hk;rw [hb,Lr d.ps ds hs ha,hc.1,hc.2]
def wdA:At->Prop
 | .nil=>True
 | .sim _ r=>wdA r
 | .par _ _ _ ag r=>ag.cnt<=7/\wdA ag/\wdA r
theorem md {n:Nat} {g:Gr} {t:Tk} {r:List Tk} (h:(jT n g (t::r)).2=0):(cZ g (bf t.txt)).1=0/\(jT n (cZ g (bf t.txt)).2 r).2=0:=by
 unfold jT at h;split at h
 ·rename_i he;exact ⟨he,h⟩
 ·rename_i he;exact absurd h he
def sec (g:Gr):Int:=if g.wi=1/\g.ar≠[] then 1 else 0
theorem Cz {g:Gr} (h:(cG g).1=0):g.wi<8/\(cG g).2={g with wi:=g.wi+1,no:=g.no+sec g}/\(g.no<=12->g.no+sec g<=12):=by
 unfold cG at h ⊢;by_cases h1:8<=g.wi
 ·rw [aA h1] at h;simp at h
 ·rw [ay h1] at h ⊢;by_cases h2:g.wi+1≠2\/g.ar=[]
  ·rw [aA h2] at h ⊢;have:sec g=0:=by
    unfold sec;rw [ay];rintro ⟨a,b⟩
    rcases h2 with h2|h2
    ·omega
    ·exact b h2
   rw [this];exact ⟨by omega,by simp,by omega⟩
  ·rw [ay h2] at h ⊢;have hs:sec g=1:=by
    unfold sec;rw [aA];refine ⟨?_,fun e=>h2 (.inr e)⟩
    by_cases hw:g.wi=1
    ·exact hw
    ·exact absurd (.inl (by omega)) h2
   by_cases h3:12<=g.no
   ·rw [aA h3] at h;simp at h
   ·rw [ay h3] at h ⊢;rw [hs];exact ⟨by omega,rfl,by omega⟩
theorem zF {g:Gr} {k:Int} (h3:g.aw=3) (hk:k=1\/k=2\/k=3):cZ g k=cG g:=by
 unfold cZ gq;rw [ay (by omega),ay (by omega),ay (by omega),ay (by omega),ay (by omega),ay (by omega),aA (by simpa [fP] using hk)]
structure GOn (a:At) (g g':Gr):Prop where
 aw:g'.aw=3
 ar:g'.ar=g.ar
 fn:g'.fn=g.fn
 wi:g'.wi=g.wi+a.cnt
 no:g'.no=g.no+unT a+(if a.isNil then 0 else sec g)
 le:g.no<=12->g'.no<=12
theorem ace (n:Nat):∀(a:At) (g:Gr) (rest:List Tk),a.ok->g.aw=3->1<=g.wi->g.wi<=8->(jT n g (a.toks++rest)).2=0->wdA a/\g.wi+a.cnt<=8/\∃g',(jT n g' rest).2=0/\GOn a g g':=by
 intro a;induction a with
 |nil=>
  intro g rest _ h3 _ h8 h;exact ⟨trivial,by simpa [At.cnt] using h8,g,h,h3,rfl,rfl,by simp [At.cnt],by simp [unT,At.isNil],fun h=>h⟩
 |sim t r ih=>
  intro g rest ew h3 h1 _ h;obtain ⟨k1,k2⟩:=md h;rw [zF h3 ew.1] at k1 k2;obtain ⟨c1,c2,c3⟩:=Cz k1;rw [c2] at k2;obtain ⟨i1,i2,g',i3,i4⟩:=ih {g with wi:=g.wi+1,no:=g.no+sec g} rest ew.2 h3 (by simp only;omega) (by simp only;omega) k2;have hs:sec {g with wi:=g.wi+1,no:=g.no+sec g}=0:=by
   unfold sec;rw [ay];rintro ⟨a,_⟩;simp only at a;omega
  have j4:=i4.wi;have j5:=i4.no;simp only [hs,ite_self] at i2 j4 j5;refine ⟨i1,by simp only [At.cnt];omega,g',i3,i4.aw,i4.ar,i4.fn,by simp only [At.cnt];omega,?_,fun hl=>i4.le (c3 hl)⟩
  simp only [unT,At.isNil,cm,dc];omega
 |par o x c ag r ih1 ih2=>
  intro g rest ew h3 h1 _ h;obtain ⟨ho,hx,hc,sf,hr⟩:=ew;rw [show (At.par o x c ag r).toks++rest=o::x::(ag.toks++(c::(r.toks++rest))) by simp [At.toks]] at h;obtain ⟨k1,k2⟩:=md h;rw [ho] at k1 k2;have e6:cZ g 6=iw g:=by
   unfold cZ gq;rw [ay (by omega),ay (by omega),ay (by omega),ay (by decide),ay (by decide),aA rfl]
  rw [e6] at k1 k2;have V8:(cG g).1=0:=by
   unfold iw at k1;by_cases hq:(cG g).1=0
   ·exact hq
   ·rw [ay hq] at k1;exact absurd k1 hq
  obtain ⟨c1,c2,c3⟩:=Cz V8;have eB:(iw g).2={g with wi:=g.wi+1,no:=g.no+sec g,ar:=g.ar++[g.wi+1],aw:=2}:=by
   unfold iw;rw [aA V8,c2]
  rw [eB] at k2;obtain ⟨l1,l2⟩:=md k2;have eH:cZ {g with wi:=g.wi+1,no:=g.no+sec g,ar:=g.ar++[g.wi+1],aw:=2} (bf x.txt)=(0,{g with wi:=1,no:=g.no+sec g,ar:=g.ar++[g.wi+1],aw:=3}):=by
   unfold cZ mw;rw [ay (by simp),ay (by simp),aA rfl,aA (by unfold dZ at hx;simpa [fP] using hx)]
  rw [eH] at l2;obtain ⟨i1,i2,g1,i3,i4⟩:=ih1 {g with wi:=1,no:=g.no+sec g,ar:=g.ar++[g.wi+1],aw:=3} (c::(r.toks++rest)) sf rfl (by simp only;omega) (by simp only;omega) l2;obtain ⟨m1,m2⟩:=md i3;rw [hc] at m1 m2;have e7:cZ g1 7=eG g1:=by
   unfold cZ gq;have:=i4.aw;rw [ay (by omega),ay (by omega),ay (by omega),ay (by decide),aA rfl]
  have ear:=i4.ar;simp only at ear;have eE:eG g1=(0,{g1 with wi:=g.wi+1,ar:=g.ar}):=by
   unfold eG;rw [ay (by rw [ear];simp),ear];simp
  rw [e7,eE] at m2;have jw:=i4.wi;have jn:=i4.no;have jl:=i4.le;have jf:=i4.fn;have s1:sec {g with wi:=1,no:=g.no+sec g,ar:=g.ar++[g.wi+1],aw:=3}=1:=by
   unfold sec;rw [aA];exact ⟨rfl,by simp⟩
  simp only [s1] at jw jn jl jf i2;obtain ⟨o1,o2,g',o3,o4⟩:=ih2 {g1 with wi:=g.wi+1,ar:=g.ar} rest hr i4.aw (by simp only;omega) (by simp only;omega) m2;have hs:sec {g1 with wi:=g.wi+1,ar:=g.ar}=0:=by
   unfold sec;rw [ay];rintro ⟨a,_⟩;simp only at a;omega
  have j4:=o4.wi;have j5:=o4.no;have j6:=o4.le;simp only [hs,ite_self] at o2 j4 j5 j6;refine ⟨⟨by omega,i1,o1⟩,by simp only [At.cnt];omega,g',o3,o4.aw,o4.ar,o4.fn.trans jf,by simp only [At.cnt];omega,?_,fun hl=>j6 (jl (c3 hl))⟩
  have e1:(At.par o x c ag r).isNil=false:=rfl;rw [e1];simp only [unT,cm,dc];by_cases hn:ag.isNil=true
  ·have:ag=.nil:=by cases ag<;>simp_all [At.isNil]
   subst this;simp [At.isNil,unT] at jn ⊢;omega
  ·simp [hn] at jn ⊢;omega
theorem TN (n:Nat):∀(ps:List Tk) (g:Gr) (rest:List Tk),(∀p∈ps,bf p.txt=1)->g.aw=1->0<=g.pa->g.pa<=6->(jT n g (ps++rest)).2=0->g.pa+ps.length<=6/\(jT n {g with pa:=g.pa+ps.length} rest).2=0:=by
 intro ps;induction ps with
 |nil=>intro g rest _ h1 _ h6 h;exact ⟨by simpa using h6,by simpa using h⟩
 |cons p ps ih=>
  intro g rest hp h1 h0 _ h;obtain ⟨k1,k2⟩:=md h;have e:cZ g (bf p.txt)=da g 1:=by
   unfold cZ;rw [hp p (by simp),ay (by omega),aA h1]
  rw [e] at k1 k2;unfold da at k1 k2;rw [ay (by decide),ay (by simp)] at k1 k2;by_cases h6:6<=g.pa
  ·rw [aA h6] at k1;simp at k1
  ·rw [ay h6] at k2;obtain ⟨i1,i2⟩:=ih {g with pa:=g.pa+1} rest (fun q hq=>hp q (by simp [hq])) h1 (by simp only;omega) (by simp only;omega) k2;simp only at i1 i2;rw [aD];refine ⟨by omega,?_⟩
   rw [show g.pa+((ps.length+1:Nat):Int)=g.pa+1+(ps.length:Int) by omega];exact i2
def DfW (d:Df):Prop:=d.ps.length<=6/\∃h a,d.body=h::At.toks a/\dZ h/\a.ok/\a.cnt<=7/\wdA a/\unT a<=12
theorem Rr (n:Nat) {ts:List Tk} {ds:List Df} (hq:Shq ts ds):∀g:Gr,g.aw=0->g.ar=[]->(jT n g ts).2=0->(∀d∈ds,DfW d)/\(ds≠[]->g.fn+ds.length<=16)/\(ds=[]->g.fn≠0):=by
 induction hq with
 |nil=>
  intro g ha hr h;refine ⟨fun d hd=>by simp at hd,fun h=>absurd rfl h,fun _ hf=>?_⟩
  unfold jT at h;rw [aA (.inl hf)] at h;simp at h
 |cons nn ps e x a m r ds hn hp he hh ew hm hr ih=>
  intro g ha oJ h;obtain ⟨k1,k2⟩:=md h;have e1:cZ g (bf nn.txt)=dN g 1:=by unfold cZ;rw [hn,aA ha]
  rw [e1] at k1 k2;unfold dN at k1 k2;rw [ay (by simp)] at k1 k2;by_cases hf:16<=g.fn
  ·rw [aA hf] at k1;simp at k1
  ·rw [ay hf] at k2;obtain ⟨l1,l2⟩:=TN n ps {g with fn:=g.fn+1,pa:=0,aw:=1} _ hp rfl (by simp) (by simp) k2;simp only at l1 l2;obtain ⟨m1,m2⟩:=md l2;rw [he] at m1 m2;have e2:cZ {g with fn:=g.fn+1,pa:=0+(ps.length:Int),aw:=1} 4=(0,{g with fn:=g.fn+1,pa:=0+(ps.length:Int),no:=0,aw:=2}):=by
    unfold cZ da;rw [ay (by simp),aA rfl,aA rfl]
   rw [e2] at m2;obtain ⟨n1,n2⟩:=md m2;have e3:cZ {g with fn:=g.fn+1,pa:=0+(ps.length:Int),no:=0,aw:=2} (bf x.txt)=(0,{g with fn:=g.fn+1,pa:=0+(ps.length:Int),no:=0,wi:=1,aw:=3}):=by
    unfold cZ mw;rw [ay (by simp),ay (by simp),aA rfl,aA (by unfold dZ at hh;simpa [fP] using hh)]
   rw [e3] at n2;obtain ⟨i1,i2,g',i3,i4⟩:=ace n a {g with fn:=g.fn+1,pa:=0+(ps.length:Int),no:=0,wi:=1,aw:=3} (m::r) ew rfl (by simp) (by simp) n2;have jn:=i4.no;have jl:=i4.le;have jf:=i4.fn;have jr:=i4.ar;have s0:sec {g with fn:=g.fn+1,pa:=0+(ps.length:Int),no:=0,wi:=1,aw:=3}=0:=by
    unfold sec;rw [ay];rintro ⟨_,b⟩;exact b oJ
   simp only [s0,ite_self] at jn jl jf jr i2;obtain ⟨o1,o2⟩:=md i3;have e4:cZ g' (bf m.txt)=(0,{g' with aw:=0}):=by
    unfold cZ gq iR;have:=i4.aw;rw [hm,ay (by omega),ay (by omega),ay (by omega),aA rfl,aA (by rw [jr,oJ])]
   rw [e4] at o2;obtain ⟨q1,q2,q3⟩:=ih {g' with aw:=0} rfl (by simp only;rw [jr,oJ]) o2;simp only at q2 q3;refine ⟨fun d hd=>?_,fun _=>?_,fun h=>by simp at h⟩
   ·rcases aK.1 hd with rfl|hd
    ·exact ⟨by simp only;omega,x,a,rfl,hh,ew,by omega,i1,by have:=jl (by omega);omega⟩
    ·exact q1 d hd
   ·by_cases hd:ds=[]
    ·subst hd;simp;omega
    ·have:=q2 hd;rw [aD];omega
theorem Mx (f:Tk->Int×Int) (P:Int×Int->Prop) (N:Nat) (b:At):∀k,(∀t∈b.toks,dZ t->P (f t))->b.ok->k+unT b<=N->(∀i:Nat,k<=i->i<N->P (5,(i:Int)))->∀x∈gx f b k,P x:=by
 induction b with
 |nil=>intro k _ _ _ _ x hx;simp [gx] at hx
 |sim t r ih=>
  intro k h1 ew hk h5 x hx;simp only [gx,aK] at hx;rcases hx with rfl|hx
  ·exact h1 t (by simp [At.toks]) ew.1
  ·exact ih k (fun u hu hs=>h1 u (by simp [At.toks,hu]) hs) ew.2 hk h5 x hx
 |par o h c ag r ih1 ih2=>
  intro k h1 ew hk h5 x hx;by_cases hn:ag.isNil=true
  ·simp only [gx,unT,hn,cQ,aK] at hx hk;rcases hx with rfl|hx
   ·exact h1 h (by simp [At.toks]) ew.2.1
   ·exact ih2 k (fun u hu hs=>h1 u (by simp [At.toks,hu]) hs) ew.2.2.2.2 hk h5 x hx
  ·simp only [gx,unT,hn,cm,dc,aK] at hx hk;rcases hx with rfl|hx
   ·exact h5 k (ah _) (by omega)
   ·exact ih2 (k+1+unT ag) (fun u hu hs=>h1 u (by simp [At.toks,hu]) hs) ew.2.2.2.2 (by omega) (fun i a b=>h5 i (by omega) b) x hx
theorem FR (f:Tk->Int×Int) (a:At):∀k,(gx f a k).length=a.cnt:=by
 induction a with
 |nil=>intro k;rfl
 |sim t r ih=>intro k;simp [gx,At.cnt,ih]
 |par o h c ag r ih1 ih2=>
  intro k;by_cases hn:ag.isNil=true
  ·simp [gx,At.cnt,hn,ih2]
  ·simp [gx,At.cnt,hn,ih2]
theorem Oa (f:Tk->Int×Int) (Q:Nat->Ln->Prop) (b:At):∀k N,k+unT b<=N->b.ok->wdA b->(∀(h:Tk) (ag:At) (j:Nat),dZ h->ag.ok->ag≠.nil->ag.cnt<=7->(∀t∈h::ag.toks,t∈b.toks)->j+1+unT ag<=N->Q j (f h::gx f ag (j+1)))->∀(j:Nat) (l:Ln),(dC f b k)[j]?=some l->Q (k+j) l:=by
 induction b with
 |nil=>intro k N _ _ _ _ j l h;simp [dC] at h
 |sim t r ih=>
  intro k N hk ew hw hQ j l h;exact ih k N hk ew.2 hw (fun h ag j a b c d e f'=>hQ h ag j a b c d (fun t ht=>by simp [At.toks,e t ht]) f') j l h
 |par o x c ag r ih1 ih2=>
  intro k N hk ew hw hQ j l h;obtain ⟨_,hx,_,sf,hr⟩:=ew;obtain ⟨w1,w2,w3⟩:=hw;have yi:∀t∈r.toks,t∈(At.par o x c ag r).toks:=fun t ht=>by simp [At.toks,ht]
  have MQ:∀t∈ag.toks,t∈(At.par o x c ag r).toks:=fun t ht=>by simp [At.toks,ht]
  by_cases hn:ag.isNil=true
  ·simp only [dC,unT,hn,cQ] at h hk;exact ih2 k N hk hr w3 (fun h ag j a b c d e f'=>hQ h ag j a b c d (fun t ht=>yi t (e t ht)) f') j l h
  ·have dI:ag≠.nil:=fun e=>by subst e;simp [At.isNil] at hn
   simp only [dC,unT,hn,cm,dc] at h hk;cases j with
   |zero=>
    simp at h;subst h;exact hQ x ag k hx sf dI w1 (fun t ht=>by
     rcases aK.1 ht with rfl|ht
     ·simp [At.toks]
     ·exact MQ t ht) (by omega)
   |succ j=>
    rw [ap] at h;by_cases hj:j<unT ag
    ·rw [aI (by rw [gy];exact hj)] at h;have:=ih1 (k+1) N (by omega) sf w2 (fun h ag j a b c d e f'=>hQ h ag j a b c d (fun t ht=>MQ t (e t ht)) f') j l h;rw [show k+(j+1)=k+1+j by omega];exact this
    ·rw [aC (by rw [gy];omega),gy] at h;have:=ih2 (k+1+unT ag) N (by omega) hr w3 (fun h ag j a b c d e f'=>hQ h ag j a b c d (fun t ht=>yi t (e t ht)) f') (j-unT ag) l h;rw [show k+(j+1)=k+1+unT ag+(j-unT ag) by omega];exact this
theorem vv {nf:Nat} {ar:Int} {nl:Nat}:∀{L:List Ln} {j:Nat},(∀(i:Nat) (l:Ln),L[i]?=some l->fy nf ar nl (j+i) l=true)->dM nf ar nl j L=true
 |[],_,_=>rfl
 |l::r,j,h=>by
  rw [dM,aN];exact ⟨h 0 l rfl,vv (fun i x hx=>by have:=h (i+1) x (by simpa using hx);rw [show j+1+i=j+(i+1) by omega];exact this)⟩
theorem Hx {nf:Nat} {ar:Int} {nl j i:Nat} (h:i+1<nl) (hj:j<=i):g7 nf ar nl j (5,(i:Int))=true:=by
 unfold g7 j0;simp;omega
theorem DN {f:Tk->Int×Int} {nf:Nat} {ar:Int} {h:Tk} {a:At} (hh:dZ h) (ha:a.ok) (h7:a.cnt<=7) (hw:wdA a) (h5:∀t,(f t).1≠5) (hf:∀t∈h::a.toks,dZ t->0<=(f t).2/\(f t).2<j0 (f t).1 nf ar (unT a+1)):
 dM nf ar (unT a+1) 0 (gx f (.sim h a) 0::dC f (.sim h a) 0)=true:=by
 have hg:∀(j:Nat) (t:Tk),t∈h::a.toks->dZ t->g7 nf ar (unT a+1) j (f t)=true:=fun j t ht hs=>by
  obtain ⟨a1,a2⟩:=hf t ht hs;unfold g7;simp [a1,a2,h5 t]
 refine vv fun i l hl=>?_
 rw [cr];cases i with
 |zero=>
  simp at hl;subst hl;unfold fy;have ez:(gx f (.sim h a) 0).length=a.cnt+1:=FR f (.sim h a) 0;rw [ez];have ip:(gx f (.sim h a) 0).all (g7 nf ar (unT a+1) 0)=true:=by
   rw [b8];exact Mx f (fun x=>g7 nf ar (unT a+1) 0 x=true) (unT a) (.sim h a) 0 (fun t ht hs=>hg 0 t ht hs) ⟨hh,ha⟩ (by simp [unT]) (fun i _ hi=>Hx (by omega) (aF _))
  rw [ip];simp [gx,h5 h];omega
 |succ i=>
  rw [ap] at hl;have:=Oa f (fun j l=>fy nf ar (unT a+1) (j+1) l=true) (.sim h a) 0 (unT a) (by simp [unT]) ⟨hh,ha⟩ hw (fun x ag j hx sf dI hc hm hj=>by
   have ez:(f x::gx f ag (j+1)).length=ag.cnt+1:=FR f (.sim x ag) (j+1);have ip:(f x::gx f ag (j+1)).all (g7 nf ar (unT a+1) (j+1))=true:=by
    rw [b8];exact Mx f (fun x=>g7 nf ar (unT a+1) (j+1) x=true) (unT a) (.sim x ag) (j+1) (fun t ht hs=>hg (j+1) t (hm t ht) hs) ⟨hx,sf⟩ (by simp [unT];omega) (fun i h1 hi=>Hx (by omega) h1)
   have lk:1<=ag.cnt:=by cases ag<;>simp_all [At.cnt]
   unfold fy;rw [ez,ip];simp [h5 x];omega) i l hl
  rw [cr] at this;exact this
theorem Ix {s:ByteArray} (h:(chk s).2=0):(jT s.size g0 (ci s 0)).2=0/\oq (eT (ci s 0)).ds=0:=by
 unfold chk at h;split at h
 ·simp at h
 split at h
 ·rename_i hg;exact absurd h hg
 rename_i hg;split at h
 ·rename_i hg;exact absurd h hg
 split at h
 ·rename_i hg;exact absurd h hg
 exact ⟨by simpa using hg,h⟩
theorem J4 {ps nm:List Tk} {t:Tk} {nl:Nat} (gB:(aX ps nm t).1=1->t.txt.size<=6/\mB t.txt.data.toList):0<=(aX ps nm t).2/\(aX ps nm t).2<j0 (aX ps nm t).1 nm.length (ps.length:Int) nl:=by
 unfold aX at gB ⊢;by_cases h1:0<=fM t.txt.toList
 ·rw [aA h1];refine ⟨h1,?_⟩
  show _<(5:Int)
  obtain ⟨_,_,h⟩:=BN h1;simp only;omega
 ·rw [ay h1] at gB ⊢;by_cases h2:0<=whr ps t.txt
  ·rw [aA h2];obtain ⟨i,hi,he,_⟩:=n8 h2;refine ⟨h2,?_⟩
   show _<(ps.length:Int)
   simp only;omega
  ·rw [ay h2] at gB ⊢;by_cases h3:0<=whr nm t.txt
   ·rw [aA h3];obtain ⟨i,hi,he,_⟩:=n8 h3;refine ⟨h3,?_⟩
    show _<(nm.length:Int)
    simp only;omega
   ·rw [ay h3] at gB ⊢;obtain ⟨n1,n2⟩:=gB rfl;obtain ⟨v1,v2⟩:=lQ t.txt.data.toList n2;refine ⟨v1,?_⟩
    show _<(1000000:Int)
    have hl:t.txt.data.toList.length<=6:=by rw [<-cg];exact n1
    have hp:(10:Int)^t.txt.data.toList.length<=1000000:=(by decide:∀n:Nat,n<7->(10:Int)^n<=1000000) _ (by omega);simp only;omega
theorem xa (s:ByteArray) (h:(chk s).2=0):jK (dL (eT (ci s 0)).ds)=true:=by
 obtain ⟨_,jD,_,_,_⟩:=iA s h;have Kj:=(sO s h).1;obtain ⟨Yi,St⟩:=Ix h;generalize (eT (ci s 0)).ds=ds at*;obtain ⟨b1,b2,b3⟩:=Rr s.size jD.shq g0 rfl rfl Yi;have dI:ds≠[]:=fun e=>b3 e rfl
 have SU:=b2 dI;have hge:(g0:Gr).fn=0:=rfl;rw [hge] at SU;have h1:1<=ds.length:=by
  cases ds with
  |nil=>exact absurd rfl dI
  |cons a b=>simp
 unfold oq at St;by_cases lX:fnd ds lH<0
 ·rw [aA lX] at St;simp at St
 ·rw [ay lX] at St;have fR:0<=fnd ds lH:=by omega
  obtain ⟨i,hi,he,_⟩:=n8 (show 0<=whr (ds.map (·.name)) lH from fR);rw [bK] at hi;have Jg:fnd ds lH=(i:Int):=he;have qW:¬0<(ds[(fnd ds lH).toNat]?.getD df0).ps.length:=fun hq=>by rw [aA hq] at St;simp at St
  rw [Jg,bC,aj hi] at qW;unfold jK dL;simp only [bK,aN,aL,b8,bZ];refine ⟨h1,by omega,fR,by rw [Jg];omega,?_,?_⟩
  ·rintro t ⟨d,hd,rfl⟩
   obtain ⟨w1,hh,a,fN,rA,ew,h7,hw,K6⟩:=b1 d hd;have gV:=Kj d hd hh a fN rA ew;unfold kl CU;simp only [aN,aL];rw [<-gV];have ez:(gx (aX d.ps (ds.map (·.name))) (.sim hh a) 0::dC (aX d.ps (ds.map (·.name))) (.sim hh a) 0).length=unT a+1:=by rw [aD,gy];rfl
   rw [ez];refine ⟨by omega,by omega,by omega,by omega,?_⟩
   refine DN rA ew h7 hw (eZ _ _) (fun t ht hs=>?_)
   have:=J4 (ps:=d.ps) (nm:=ds.map (·.name)) (t:=t) (nl:=unT a+1) (jD.num d hd t (jD.shq.mem d hd t (by rw [fN];exact ht)) hs (by rw [fN];exact ht));rw [bK] at this;exact this
  ·rw [Jg,bC,cH,aj hi];show ((CU ds ds[i]).ar:Int)=0
   unfold CU;simp only [b6] at qW;simp only;omega
set_option maxHeartbeats 8000000
theorem FE (out stp:Int) (l:Ln) (T:Nat) (iv:Value) (w:World) (hr:Rd w T iv l) (dI:out=0->l≠[]):
 Calls Tryz.prog 120 #[.int .i64 out,iv,.int .i64 stp] w fun e w'=>e=.returned (.agg #[.int .i64 (if out=0 then (if (hdI l).1=1 then 1 else 2) else out),.int .i64 (if out=0 then (if (hdI l).1=1 then (hdI l).2 else 0) else 0),.int .i64 stp])/\Below w.heap.size w w':=by
 obtain ⟨io,ic,rfl⟩:=hr.form;by_cases ho:out=0
 ·subst ho;obtain ⟨x,r,rfl⟩:∃x r,l=x::r:=by
   cases l with
   |nil=>exact absurd rfl (dI rfl)
   |cons a b=>exact ⟨a,b,rfl⟩
  obtain ⟨ib,ioff,icap,he,Dv⟩:=hr.isSome (by simp);cases he
  obtain ⟨a0,a1⟩:=Rd.at hr 0 (by simp);obtain ⟨x1,x2⟩:=x;simp only [bQ,fA,cy,aD,hdI,db,cQ] at a0 a1 ⊢;clear hr dI;by_cases hk:x1=1
  ·subst hk;simp only [cQ];go_enter Tryz.func120,Tryz.ntmps120
   go_wp2_with fail
   exact aS (v:=.agg #[.int .i64 1,.int .i64 x2,.int .i64 stp]) (by simp [results,Tryz.results120,go_sem]) rfl ⟨rfl,eU _ _ _⟩
  ·have eh:(x1==1)=false:=by simpa using hk
   simp only [hk,dc];go_enter Tryz.func120,Tryz.ntmps120
   go_wp2_with fail
   exact aS (v:=.agg #[.int .i64 2,.int .i64 0,.int .i64 stp]) (by simp [results,Tryz.results120,go_sem]) rfl ⟨rfl,eU _ _ _⟩
 ·have mT:(out==0)=false:=by simpa using ho
  simp only [ho,dc];clear hr dI;generalize l.length=n;go_enter Tryz.func120,Tryz.ntmps120
  go_wp2_with fail
  exact aS (v:=.agg #[.int .i64 out,.int .i64 0,.int .i64 stp]) (by simp [results,Tryz.results120,go_sem]) rfl ⟨rfl,eU _ _ _⟩
theorem Lx (c:Cf) (t:Tp) (r:Ln) (s:Im):(eX c t r s).val=s.val:=by
 unfold eX;split
 ·rfl
 ·split<;>rfl
theorem H8 {c:Cf}:∀{n:Nat} {s U:Im},Ev c [] n s U->s.val=0->U.val=0
 |0,s,U,h,hv=>by obtain ⟨rfl,_⟩:=h;exact hv
 |n+1,s,U,h,hv=>by
  obtain ⟨h1,h2,h3⟩:=h;refine H8 h3 ?_
  rcases kq c s with ⟨_,e⟩|⟨_,_,e⟩|⟨_,_,e⟩|⟨_,_,_,_,e⟩|⟨mP,e⟩
  ·rw [e];split<;>exact hv
  ·rw [e,Lx];exact hv
  ·rw [e];exact hv
  ·rw [e];exact hv
  ·rw [e];unfold lz;cases hk:s.ks with
   |nil=>exact absurd ⟨hk,mP⟩ h2
   |cons f ks=>
    simp only;split
    ·exact hv
    ·split
     ·exact hv
     ·split
      ·exact hv
      ·split
       ·exact hv
       ·split
        ·exact hv
        ·split<;>exact hv
theorem Rh (c:Cf) (mn:Int) (h:0<=mn/\mn<c.fs.length) (hb:0<=c.bud) {n:Nat} (hn:n<=276001):Gd c (gY mn)/\Sz c n (gY mn):=by
 refine ⟨⟨⟨_,Ag c mn h⟩,fun n hn=>by simp [gY] at hn,⟨fun x hx=>?_,fun f hf=>by simp [gY] at hf,fun n hn=>by simp [gY] at hn⟩,rfl⟩,⟨by simp [gY],?_,by simp [gY];omega,by simp [gY],by simpa [gY] using hb⟩⟩
 ·simp [gY] at hx;subst hx;unfold PI;simp
 ·unfold n9 flK;simp [gY];omega
theorem Fz (c:Cf) (mn:Int) (lW:0<=mn/\mn<c.fs.length) (ht:∀t∈c.fs,TGo c t) (hp:∀t∈c.fs,TPg t) (jZ:0<=c.bud) (hb:c.bud<=2000):
 ∃n U,Ev c [] n (gY mn) U/\Gd c (gY mn)/\Sz c n (gY mn)/\(U.out=0->U.cur≠[])/\(mI c mn).stp=U.stp/\(mI c mn).out=(if U.out=0 then (if (hdI U.cur).1=1 then 1 else 2) else U.out)/\(mI c mn).val=(if U.out=0 then (if (hdI U.cur).1=1 then (hdI U.cur).2 else 0) else 0):=by
 obtain ⟨n,U,hn,he,h1,h2⟩:=WN c mn lW ht jZ hb;obtain ⟨g1,g2⟩:=Rh c mn lW jZ hn;refine ⟨n,U,he,g1,g2,fun ho=>?_,?_⟩
 ·obtain ⟨⟨⟨rk,hi⟩,_,_,_⟩,_⟩:=DM ht hp (n2:=0) he g1 (by rw [cy];exact g2) ho;exact hi.ne
 ·by_cases ho:U.out=0
  ·obtain ⟨a,b,d⟩:=h2 ho;rw [aA ho,aA ho];exact ⟨a,b,d⟩
  ·rw [h1 ho,ay ho,ay ho];exact ⟨rfl,rfl,H8 he rfl⟩
theorem sY {nf:Nat} {ar:Int} {nl:Nat}:∀{m j:Nat} {r:ByteArray} {L:List Ln},(cU nf ar nl m j r).1=some L->L.length=m/\dM nf ar nl j L=true
 |0,j,r,L,h=>by
  simp only [cU,Option.some.injEq] at h;subst h;exact ⟨rfl,rfl⟩
 |m+1,j,r,L,h=>by
  rw [cU] at h;split at h
  ·rename_i hc;simp only [aN] at hc;simp only [Option.map_eq_some_iff] at h;obtain ⟨L',h1,rfl⟩:=h;obtain ⟨h2,h3⟩:=sY h1;exact ⟨by simp [h2],by rw [dM,hc.2,h3];rfl⟩
  ·simp at h
theorem CW {nf:Nat} {m:Bool} {r:ByteArray} {t:Tp} (h:(dO nf m r).1=some t):kl nf t=true/\(m=true->t.ar=0):=by
 unfold dO at h;split at h
 ·rename_i hc;simp only [aN] at hc;simp only [Option.map_eq_some_iff] at h;obtain ⟨L,h1,rfl⟩:=h;obtain ⟨h2,h3⟩:=sY h1;have hs:=hc.2;simp only [iX,aN,aL,fW,cC,cw] at hs;obtain ⟨a1,a2,a3,a4,a5⟩:=hs;refine ⟨?_,fun hm=>?_⟩
  ·simp only [kl,aN,aL];refine ⟨a1,a2,by omega,by omega,?_⟩
   rw [h2];exact h3
  ·rcases a3 with a3|a3
   ·rw [hm] at a3;cases a3
   ·show jo 70 r=0
    omega
 ·simp at h
theorem vy {nf:Nat} {mn:Int}:∀{m j:Nat} {r:ByteArray} {F:List Tp},(ey nf mn m j r).1=some F->F.length=m/\(∀t∈F,kl nf t=true)/\∀(q:Nat) (t:Tp),((j+q:Nat):Int)=mn->F[q]?=some t->t.ar=0
 |0,j,r,F,h=>by
  simp only [ey,Option.some.injEq] at h;subst h;exact ⟨rfl,fun t ht=>by simp at ht,fun q t _ h=>by simp at h⟩
 |m+1,j,r,F,h=>by
  rw [ey] at h;split at h
  ·simp at h
  ·rename_i t ht;simp only [Option.map_eq_some_iff] at h;obtain ⟨F',h1,rfl⟩:=h;obtain ⟨h2,h3,h4⟩:=vy h1;obtain ⟨g1,g2⟩:=CW ht;refine ⟨by simp [h2],fun u hu=>?_,fun q u hq hu=>?_⟩
   ·rcases aK.1 hu with rfl|hu
    ·exact g1
    ·exact h3 u hu
   ·cases q with
    |zero=>
     simp at hu;subst hu;exact g2 (by simpa using hq)
    |succ q=>exact h4 q u (by rw [<-hq];congr 1;omega) (by simpa using hu)
theorem D5 {r:ByteArray} {c:Cd} (h:(iC r).1=some c):jK c=true:=by
 unfold iC at h;split at h
 ·rename_i hc;simp only [aN] at hc;have hb:=hc.2;simp only [gg,aN,aL] at hb;obtain ⟨b1,b2,b3,b4⟩:=hb;split at h
  ·simp at h
  ·rename_i F hF;simp only at h;split at h
   ·simp only [Option.some.injEq] at h;subst h;obtain ⟨h2,h3,h4⟩:=vy hF;simp only [jK,aN,aL,b8];refine ⟨by omega,by omega,b3,by omega,fun t ht=>by rw [h2];exact h3 t ht,?_⟩
    have bF:(jo 77 r).toNat<F.length:=by omega
    rw [aj bF];exact h4 _ _ (by omega) (aj bF)
   ·simp at h
 ·simp at h
theorem rV {s:ByteArray} {c:Cd} (h:rdC s=some c):jK c=true:=by
 unfold rdC at h;split at h
 ·simp at h
 ·exact D5 h
def zQ (bud hp:Int):Prop:=bud<0\/2000<bud\/hp<0\/24000<hp
theorem BJ {s:ByteArray} (he:rdC s=none):rdE s≠0:=by
 unfold rdC at he;unfold rdE;split at he
 ·rename_i h;rw [aA h];decide
 ·rename_i h;rw [ay h,he];decide
theorem pd {s:ByteArray} {c:Cd} (he:rdC s=some c):rdE s=0:=by
 unfold rdC at he;unfold rdE;split at he
 ·simp at he
 ·rename_i h;rw [ay h,he];rfl
theorem i7 {w:World} {b:Nat} {a0 a1 a2:Value} {t:TypeId} (h:w.heap[b]?=some (.cells #[a0,a1,a2] t (0,0))):w.cell? ⟨b,0,none⟩=some a0/\w.cell? ⟨b,1,none⟩=some a1/\w.cell? ⟨b,2,none⟩=some a2/\w.frozen? ⟨b,0,none⟩=false/\w.frozen? ⟨b,1,none⟩=false/\w.frozen? ⟨b,2,none⟩=false/\b<w.heap.size:=
 ⟨by rw [al _ _ 0 _ _ _ h];rfl,by rw [al _ _ 1 _ _ _ h];rfl,by rw [al _ _ 2 _ _ _ h];rfl,aG _ _ _ _ _ h,aG _ _ _ _ _ h,aG _ _ _ _ _ h,(ae.1 h).1⟩
theorem iJ (w w1:World) (a0 a1 a2 x0 x1 x2:Value) (t:TypeId) (hX:w1.heap[w.heap.size]?=some (.cells #[a0,a1,a2] t (0,0))) (hB:Below w.heap.size w w1):
 (∀o,((((w1.setCell ⟨w.heap.size,0,none⟩ x0).setCell ⟨w.heap.size,1,none⟩ x1).setCell ⟨w.heap.size,2,none⟩ x2).alloc o).cell? ⟨w.heap.size,0,none⟩=some x0)/\
 (∀o,((((w1.setCell ⟨w.heap.size,0,none⟩ x0).setCell ⟨w.heap.size,1,none⟩ x1).setCell ⟨w.heap.size,2,none⟩ x2).alloc o).cell? ⟨w.heap.size,1,none⟩=some x1)/\
 (∀o,((((w1.setCell ⟨w.heap.size,0,none⟩ x0).setCell ⟨w.heap.size,1,none⟩ x1).setCell ⟨w.heap.size,2,none⟩ x2).alloc o).cell? ⟨w.heap.size,2,none⟩=some x2)/\
 ∀o,Below w.heap.size w ((((w1.setCell ⟨w.heap.size,0,none⟩ x0).setCell ⟨w.heap.size,1,none⟩ x1).setCell ⟨w.heap.size,2,none⟩ x2).alloc o):=by
 have hl:w.heap.size<w1.heap.size:=(ae.1 hX).1;have h3:=bk (i:=2) x2 (bk (i:=1) x1 (bk (i:=0) x0 hX));have iG:(((w1.setCell ⟨w.heap.size,0,none⟩ x0).setCell ⟨w.heap.size,1,none⟩ x1).setCell ⟨w.heap.size,2,none⟩ x2).heap.size=w1.heap.size:=by rw [gX,gX,gX]
 have hb:Below w.heap.size w (((w1.setCell ⟨w.heap.size,0,none⟩ x0).setCell ⟨w.heap.size,1,none⟩ x1).setCell ⟨w.heap.size,2,none⟩ x2):=((hB.setCell (ah _) _).setCell (ah _) _).setCell (ah _) _;refine ⟨fun o=>?_,fun o=>?_,fun o=>?_,fun o=>hb.alloc (by rw [iG];omega) o⟩
 all_goals
  have h4:=(aO (((w1.setCell ⟨w.heap.size,0,none⟩ x0).setCell ⟨w.heap.size,1,none⟩ x1).setCell ⟨w.heap.size,2,none⟩ x2) o w.heap.size (by rw [iG];exact hl)).trans h3;rw [al _ _ _ _ _ _ h4];rfl
theorem Y6 (s:ByteArray) (bud hp:Int) (w:World) (hs:s.size<=maxLen) (he:rdC s=none):
 Calls Tryz.prog 17 #[.string s,.int .i64 bud,.int .i64 hp] w fun e w'=>e=.returned (.tuple #[.agg #[.int .i64 0,.int .i64 0,.int .i64 0],.int .i64 (rdE s)])/\Below w.heap.size w w':=by
 have dI:=BJ he;have HC:Hid _:=JL s (w.alloc (Obj.cells #[.int .i64 0,.int .i64 0,.int .i64 0] 24)) hs;generalize rdE s=er at*;generalize rdL s=rl at*;have pJ:(er==0)=false:=by simpa using dI
 have HN:Hid (rdC s=none):=he;clear he;go_enter Tryz.func17,Tryz.ntmps17
 go_wp2_with fail
 refine (show Calls _ _ _ _ _ from HC.out).mono ?_
 rintro e w1 ⟨mn,fv,rfl,bB,hz,_⟩
 obtain ⟨rfl,rfl⟩:=hz HN.out;clear HC;have hX:=(bB.block w.heap.size (by simp)).trans (az w _);have oz:w.heap.size<w1.heap.size:=(ae.1 hX).1;have r0:=al w1 w.heap.size 0 _ _ _ hX;have r1:=al w1 w.heap.size 1 _ _ _ hX;have r2:=al w1 w.heap.size 2 _ _ _ hX;simp only [ax,ap,aq] at r0 r1 r2;have z0:=aG w1 w.heap.size 0 _ _ hX;have z1:=aG w1 w.heap.size 1 _ _ hX;have z2:=aG w1 w.heap.size 2 _ _ hX;have jm:Hid _:=hX;have eI:Hid (Below w.heap.size w w1):=(bM w _).trans (bB.mono (by simp));clear hX bB;go_wp2_with fail
 obtain ⟨q0,q1,q2,q3⟩:=iJ w w1 _ _ _ (.int .i64 0) (.int .i64 0) (.int .i64 0) _ jm.out eI.out;exact aS (v:=.tuple #[.agg #[.int .i64 0,.int .i64 0,.int .i64 0],.int .i64 er]) (by simp [results,Tryz.results17,go_sem,q0,q1,q2]) rfl ⟨rfl,q3 _⟩
theorem TU (s:ByteArray) (bud hp:Int) (cd:Cd) (w:World) (hs:s.size<=maxLen) (eu:rdC s=some cd) (hb:zQ bud hp):
 Calls Tryz.prog 17 #[.string s,.int .i64 bud,.int .i64 hp] w fun e w'=>e=.returned (.tuple #[.agg #[.int .i64 0,.int .i64 0,.int .i64 0],.int .i64 8])/\Below w.heap.size w w':=by
 have HC:Hid _:=JL s (w.alloc (Obj.cells #[.int .i64 0,.int .i64 0,.int .i64 0] 24)) hs;rw [pd eu] at HC;generalize rdL s=rl at*;have j7:Hid (rdC s=some cd):=eu;clear eu;unfold zQ at hb;go_enter Tryz.func17,Tryz.ntmps17
 go_wp2_with fail
 refine (show Calls _ _ _ _ _ from HC.out).mono ?_
 rintro e w1 ⟨mn,fv,rfl,bB,hz,ip⟩
 obtain ⟨fo,fc,rfl,_,_,_⟩:=(ip _ j7.out).2.1.rd;clear ip;clear HC;have hX:=(bB.block w.heap.size (by simp)).trans (az w _);have oz:w.heap.size<w1.heap.size:=(ae.1 hX).1;have r0:=al w1 w.heap.size 0 _ _ _ hX;have r1:=al w1 w.heap.size 1 _ _ _ hX;have r2:=al w1 w.heap.size 2 _ _ _ hX;simp only [ax,ap,aq] at r0 r1 r2;have z0:=aG w1 w.heap.size 0 _ _ hX;have z1:=aG w1 w.heap.size 1 _ _ hX;have z2:=aG w1 w.heap.size 2 _ _ hX;have jm:Hid _:=hX;have eI:Hid (Below w.heap.size w w1):=(bM w _).trans (bB.mono (by simp));clear hX bB;by_cases h1:bud<0
 ·have mu:decide (bud<0)=true:=bG h1;go_wp2_with fail
  obtain ⟨q0,q1,q2,q3⟩:=iJ w w1 _ _ _ (.int .i64 0) (.int .i64 0) (.int .i64 0) _ jm.out eI.out;exact aS (v:=.tuple #[.agg #[.int .i64 0,.int .i64 0,.int .i64 0],.int .i64 8]) (by simp [results,Tryz.results17,go_sem,q0,q1,q2]) rfl ⟨rfl,q3 _⟩
 ·have mu:decide (bud<0)=false:=bn h1;by_cases h2:2000<bud
  ·have jz:decide (2000<bud)=true:=bG h2;go_wp2_with fail
   obtain ⟨q0,q1,q2,q3⟩:=iJ w w1 _ _ _ (.int .i64 0) (.int .i64 0) (.int .i64 0) _ jm.out eI.out;exact aS (v:=.tuple #[.agg #[.int .i64 0,.int .i64 0,.int .i64 0],.int .i64 8]) (by simp [results,Tryz.results17,go_sem,q0,q1,q2]) rfl ⟨rfl,q3 _⟩
  ·have jz:decide (2000<bud)=false:=bn h2;by_cases h3:hp<0
   ·have mV:decide (hp<0)=true:=bG h3;go_wp2_with fail
    obtain ⟨q0,q1,q2,q3⟩:=iJ w w1 _ _ _ (.int .i64 0) (.int .i64 0) (.int .i64 0) _ jm.out eI.out;exact aS (v:=.tuple #[.agg #[.int .i64 0,.int .i64 0,.int .i64 0],.int .i64 8]) (by simp [results,Tryz.results17,go_sem,q0,q1,q2]) rfl ⟨rfl,q3 _⟩
   ·have mV:decide (hp<0)=false:=bn h3;have QC:decide (24000<hp)=true:=bG (by omega);go_wp2_with fail
    obtain ⟨q0,q1,q2,q3⟩:=iJ w w1 _ _ _ (.int .i64 0) (.int .i64 0) (.int .i64 0) _ jm.out eI.out;exact aS (v:=.tuple #[.agg #[.int .i64 0,.int .i64 0,.int .i64 0],.int .i64 8]) (by simp [results,Tryz.results17,go_sem,q0,q1,q2]) rfl ⟨rfl,q3 _⟩
end Go.Proofs.YtnndoagpbcacdabGreatDoor
