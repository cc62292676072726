import Derived.Test.YtnndoagpbcacdabGreatDoorMX7
import Derived.Deep.LoopGhost
import Derived.Test.YtnndoagpbcacdabGreatDoorMM7
import Derived.Test.YtnndoagpbcacdabGreatDoorMD0
namespace Go.Proofs.YtnndoagpbcacdabGreatDoor
set_option maxHeartbeats 8000000
set_option maxRecDepth 100000
open Go.RowKit
theorem pC (c:Cf):∀(n:Nat) (s:Ms),s.out≠0->fF c n s=s
 |0,_,_=>rfl
 |n+1,s,h=>by rw [fF,ay h]
theorem wE (c:Cf):∀(n:Nat) (s:Ms),(fF c n s).out=0->fF c (n+1) s=qA c (fF c n s)
 |0,s,h=>by
  have h':s.out=0:=h;simp [fF,h']
 |n+1,s,h=>by
  by_cases hs:s.out=0
  ·have h2:(fF c n (qA c s)).out=0:=by rw [fF,aA hs] at h;exact h
   rw [fF,aA hs,wE c n (qA c s) h2,fF,aA hs]
  ·rw [pC c (n+1) s hs] at h;exact absurd h hs
theorem wD (c:Cf):∀(n m:Nat) (s:Ms),n<=m->(fF c n s).out≠0->fF c m s=fF c n s
 |0,m,s,_,h=>pC c m s h
 |n+1,0,_,hm,_=>by omega
 |n+1,m+1,s,hm,h=>by
  by_cases hs:s.out=0
  ·rw [fF,aA hs] at h ⊢;rw [fF,aA hs];exact wD c n m _ (by omega) h
  ·rw [pC c _ s hs,pC c _ s hs]
theorem gb (W:World) (b:Nat) (a0 a1 a2:Value) (t:TypeId) (x0 x1 x2:Value) (h:W.heap[b]?=some (.cells #[a0,a1,a2] t (0,0))):(((W.setCell ⟨b,0,none⟩ x0).setCell ⟨b,1,none⟩ x1).setCell ⟨b,2,none⟩ x2).cell? ⟨b,0,none⟩=some x0/\(((W.setCell ⟨b,0,none⟩ x0).setCell ⟨b,1,none⟩ x1).setCell ⟨b,2,none⟩ x2).cell? ⟨b,1,none⟩=some x1/\(((W.setCell ⟨b,0,none⟩ x0).setCell ⟨b,1,none⟩ x1).setCell ⟨b,2,none⟩ x2).cell? ⟨b,2,none⟩=some x2:=by
 have h2:=bk (i:=2) x2 (bk (i:=1) x1 (bk (i:=0) x0 h));exact ⟨by rw [al _ b 0 _ _ _ h2];rfl,by rw [al _ b 1 _ _ _ h2];rfl,by rw [al _ b 2 _ _ _ h2];rfl⟩
theorem Mz (s:ByteArray) (bud hp:Int) (cd:Cd) (N:Nat) (w:World) (hs:s.size<=maxLen) (eu:rdC s=some cd) (zn:rdE s=0) (jZ:0<=bud) (bB:bud<=2000) (Jf:0<=hp) (Cj:hp<=24000)
 (hc:CfB ⟨cd.fs,bud,hp⟩) (ew:∀i,i<N->(fF ⟨cd.fs,bud,hp⟩ i (ep cd.mn)).out=0->Ok ⟨cd.fs,bud,hp⟩ (fF ⟨cd.fs,bud,hp⟩ i (ep cd.mn))) (hN:(fF ⟨cd.fs,bud,hp⟩ N (ep cd.mn)).out≠0):
 Calls Tryz.prog 17 #[.string s,.int .i64 bud,.int .i64 hp] w fun e w'=>e=.returned (.tuple #[.agg #[.int .i64 (fF ⟨cd.fs,bud,hp⟩ N (ep cd.mn)).out,.int .i64 (fF ⟨cd.fs,bud,hp⟩ N (ep cd.mn)).val,.int .i64 (fF ⟨cd.fs,bud,hp⟩ N (ep cd.mn)).stp],.int .i64 0])/\Below w.heap.size w w':=by
 have kp:Hid _:=JL s (w.alloc (Obj.cells #[.int .i64 0,.int .i64 0,.int .i64 0] 24)) hs;rw [zn] at kp;generalize rdL s=rl at*;have j7:Hid (rdC s=some cd):=eu;have Ei:Hid _:=ew;have HNO:Hid _:=hN;have Js:Hid _:=hc;clear eu zn ew hN hc;go_enter Tryz.func17,Tryz.ntmps17
 go_wp2_with fail
 refine (show Calls _ _ _ _ _ from kp.out).mono ?_
 rintro e w1 ⟨mn,fv,rfl,QM,_,ip⟩
 clear kp;obtain ⟨lW,qI,_⟩:=ip _ j7.out;have VG:=qI.rd;obtain ⟨fo,fc,rfl,_,_,_⟩:=qI.rd;have ND:Hid (mn=cd.mn):=lW;have fH:=QM.size;have qO:Hid _:=(QM.block w.heap.size (by simp)).trans (az w _);have Et:w.heap.size<w1.heap.size:=by simp at fH;omega
 have adp:Hid (Below w.heap.size w w1):=((ai _ w).alloc (ah _) _).trans (QM.mono (by simp));have mu:decide (bud<0)=false:=by simp;omega
 have jz:decide (2000<bud)=false:=by simp;omega
 have mV:decide (hp<0)=false:=by simp;omega
 have QC:decide (24000<hp)=false:=by simp;omega
 have qn:Hid (dS w1 w1.heap.size (.slice fo cd.fs.length fc) cd.fs):=VG;obtain ⟨W3,SN⟩:∃W3,W3=(w1.alloc (Obj.cells #[.int .i64 mn,.slice fo cd.fs.length fc] 63)).alloc (Obj.cells #[.slice fo cd.fs.length fc,.int .i64 bud,.int .i64 hp,.slice none 0 0,.slice none 0 0,.slice none 0 0,.slice none 0 0,.int .i64 0,.int .i64 0,.int .i64 0] 87):=⟨_,rfl⟩;have AY:Below w1.heap.size w1 W3:=by rw [SN];exact eU _ _ _
 have hM3:MP W3 (w1.heap.size+1) (w1.heap.size+1) (.slice fo cd.fs.length fc) ⟨cd.fs,bud,hp⟩ ⟨[],[],[],[],0,0,0⟩ (fun _=>False):=by
  refine ⟨.slice none 0 0,.slice none 0 0,.slice none 0 0,.slice none 0 0,[],?_,ah _,aM _ _ _ _,aM _ _ _ _,aM _ _ _ _,aM _ _ _ _,rfl,fun j hj=>by simp at hj,fun k hk=>hk.elim,fun k hk=>hk.elim⟩
  rw [SN];have:=az (w1.alloc (Obj.cells #[.int .i64 mn,.slice fo cd.fs.length fc] 63)) (Obj.cells #[.slice fo cd.fs.length fc,.int .i64 bud,.int .i64 hp,.slice none 0 0,.slice none 0 0,.slice none 0 0,.slice none 0 0,.int .i64 0,.int .i64 0,.int .i64 0] 87);rw [bT] at this;exact this
 have fE:Hid _:=Dd (3,mn) _ _ _ _ _ _ W3 hM3 (by simp);rw [SN] at fE AY;have YU:Hid _:=AY;clear hM3 SN AY ip qI VG lW;simp only at fE;go_wp2_with fail
 refine (show Calls _ _ _ _ _ from fE.out).mono ?_
 rintro e w4 ⟨⟨v4,rfl⟩,dU,tu,sa⟩
 clear fE;have HI:Hid (lT (3,mn) ⟨[],[],[],[],0,0,0⟩=ep cd.mn):=by show _=_;rw [ND.out];rfl
 rw [HI.out] at sa;have qD:=dU.size;rw [bT,bT] at qD;have zh:Hid _:=sa;have ni:Hid (Below (w1.heap.size+1) (w1.alloc (Obj.cells #[.int .i64 mn,.slice fo cd.fs.length fc] 63)) w4):=((ai _ _).alloc (by simp) _).trans dU;have XW:Hid (Below w1.heap.size w1 w4):=((ai _ w1).alloc (ah _) _).trans (ni.out.mono (by omega));clear dU tu sa;generalize SA:(⟨cd.fs,bud,hp⟩:Cf)=cf at*;have YS:Hid ((⟨cd.fs,bud,hp⟩:Cf)=cf):=SA;clear SA;go_wp2_with fail
 go_loopg [] N (fun k wr=>k<=N/\w1.heap.size+1<wr.heap.size/\Hid (Below w1.heap.size w1 wr)/\Hid (MP wr (w1.heap.size+1) (w1.heap.size+1) (.slice fo cd.fs.length fc) cf (fF cf (N-k) (ep cd.mn)) (fun _=>False)))
 case atStart=>exact ⟨ah _,by omega,XW.out,by rw [ct];exact zh.out⟩
 case round=>
  clear zh XW ni qD;obtain ⟨hgk,iG,HB,HM⟩:=hrel;obtain ⟨sv,rv,nv,ev,vs,hm⟩:=HM.out;have c8:=hm.c8;by_cases ho:(fF cf (N-gk) (ep cd.mn)).out=0
  ·have qi:gk≠0:=by
    intro e;rw [e,Nat.sub_zero] at ho;exact HNO.out ho
   obtain ⟨k,rfl⟩:∃k,gk=k+1:=⟨gk-1,by omega⟩;have ew:=Ei.out (N-(k+1)) (by omega) ho;have HC:Hid _:=Y8 w1.heap.size (w1.heap.size+1) (w1.heap.size+1) (.slice fo cd.fs.length fc) cf (fF cf (N-(k+1)) (ep cd.mn)) (fun _=>False) wr HM.out ew Js.out (by omega) (by rw [<-YS.out];exact dS.keep qn.out HB.out);have HE:Hid (qA cf (fF cf (N-(k+1)) (ep cd.mn))=fF cf (N-k) (ep cd.mn)):=by
    rw [show N-k=(N-(k+1))+1 by omega,wE cf _ _ ho];rfl
   rw [HE.out] at HC;rw [ho] at c8;clear hm HM HE ew ho;go_wp2_with fail
   refine (show Calls _ _ _ _ _ from HC.out).mono ?_
   rintro e w5 ⟨⟨v5,rfl⟩,dB,wI,Vh⟩
   have ve:=dB.size;have YG:Hid _:=Vh;have xm:Hid (Below w1.heap.size w1 w5):=HB.out.trans (dB.mono (by omega));clear HC dB wI Vh c8;go_wp2_with fail
   go_roundg k
   case measure=>omega
   case rel=>exact ⟨by omega,by omega,xm.out,YG.out⟩
  ·have HF:Hid (fF cf N (ep cd.mn)=fF cf (N-gk) (ep cd.mn)):=wD cf _ _ _ (by omega) ho;have c7:=hm.c7;have c9:=hm.c9;have me:Hid (fF ⟨cd.fs,bud,hp⟩ N (ep cd.mn)=fF cf (N-gk) (ep cd.mn)):=by have:=HF.out;rw [<-YS.out] at this ⊢;exact this
   generalize fF cf (N-gk) (ep cd.mn)=st at*;have hob:(st.out==0)=false:=by simpa using ho
   have hX:=(HB.out.block w.heap.size Et).trans qO.out;have oz:w.heap.size<wr.heap.size:=by omega
   have r0:=al wr w.heap.size 0 _ _ _ hX;have r1:=al wr w.heap.size 1 _ _ _ hX;have r2:=al wr w.heap.size 2 _ _ _ hX;simp only [ax,ap,aq] at r0 r1 r2;have z0:=aG wr w.heap.size 0 _ _ hX;have z1:=aG wr w.heap.size 1 _ _ hX;have z2:=aG wr w.heap.size 2 _ _ hX;have jm:Hid _:=hX;clear hm HM HF hX;go_wp2_with fail
   obtain ⟨q0,q1,q2⟩:=gb wr w.heap.size _ _ _ _ (.int .i64 st.out) (.int .i64 st.val) (.int .i64 st.stp) jm.out;refine aS (v:=.tuple #[.agg #[.int .i64 st.out,.int .i64 st.val,.int .i64 st.stp],.int .i64 0]) (by simp [results,Tryz.results17,go_sem,q0,q1,q2]) rfl ⟨by rw [me.out],?_⟩
   exact (((adp.out.trans (HB.out.mono (by omega))).setCell (by exact ah _) _).setCell (by exact ah _) _).setCell (by exact ah _) _
def GI (c:Cf) (n:Nat) (x:Int×Int):Prop:=(x.1=1->-1000000000<=x.2/\x.2<=1000000000)/\(x.1=3->0<=x.2/\x.2<c.fs.length)/\(x.1=5->0<=x.2/\x.2<n)
def GA (c:Cf) (t:Tp) (a:Int×Int):Prop:=(a.1=1->0<=a.2/\a.2<=1000000000)/\(a.1=3->0<=a.2/\a.2<c.fs.length)/\(a.1=5->0<=a.2/\a.2<t.ls.length-1)
structure TG (c:Cf) (t:Tp):Prop where
 a0:0<=t.ar
 a1:t.ar<=6
 n0:1<=t.ls.length
 n1:t.ls.length<=13
 ln:∀l∈t.ls,1<=l.length/\l.length<=8/\∀a∈l,GA c t a
def nH (f:Fr):Int:=if f.k=2 then eR f.pr-1 else if f.k=3 then eR f.pr-2 else 0
def hdH (l:List Fr):Nat:=(l.map (·.h)).headD 0
def Gap:List Fr->Prop
 |[]=>True
 |f::r=>(hdH r:Int)+nH f<=f.h/\Gap r
structure Iv (c:Cf) (s:Ms):Prop where
 ne:flr s<s.stk.length
 gap:Gap s.frs
 kd:∀f∈s.frs,(f.k=1\/f.k=2\/f.k=3)/\-1000000000<=f.nu/\f.nu<=1000000000
 it:∀x∈s.stk,GI c s.nds.length x
 nd:∀n∈s.nds,1<=n.1.length/\n.1.length<=8/\∀x∈n.1,GI c s.nds.length x
 fr:∀p∈s.fre,0<=p/\p<s.nds.length
structure Ct (i:Nat) (s:Ms):Prop where
 a:s.stk.length<=8*i+1
 b:s.frs.length<=i
 d:s.nds.length<=12*i
 e:s.fre.length<=12*i
 f:0<=s.stp
 g:s.stp<=i
theorem GI.up {c:Cf} {n m:Nat} {x:Int×Int} (h:GI c n x) (hm:n<=m):GI c m x:=⟨h.1,h.2.1,fun e=>by have:=h.2.2 e;omega⟩
theorem i6 (p:Int):2<=eR p/\eR p<=4:=by unfold eR;split<;>omega
theorem tN (s:Ms):flr s=hdH s.frs:=rfl
theorem J5 {c:Cf} {s:Ms} {i:Nat} {p:Int} {r:Ln} (h:Iv c s) (hc:Ct i s) (hs:s.stk=(5,p)::r):Iv c (jg s)/\Ct (i+1) (jg s):=by
 have hp:=(h.it (5,p) (by rw [hs];simp)).2.2 rfl;have bF:p.toNat<s.nds.length:=by omega
 have oE:hdI s.stk=(5,p):=by rw [hs];rfl
 have hn:=h.nd s.nds[p.toNat] (aE bF);have dI:=h.ne;have ha:=hc.a;have hb:=hc.b;have hd:=hc.d;have he:=hc.e;have hf:=hc.f;have hg:=hc.g;rw [hs,aD] at dI ha;have e1:jg s=qS s.nds[p.toNat].1 (if s.nds[p.toNat].2 then fX s else lA 1 p 0 0 (fX s)):=by
  unfold jg;rw [oE,aA hp];simp only [aj bF,b6]
 rw [e1];have Gy:fX s={s with stk:=r}:=by unfold fX;rw [hs];rfl
 rw [Gy];have Je:∀x∈s.nds[p.toNat].1++r,GI c s.nds.length x:=by
  intro x hx;rcases be.1 hx with hx|hx
  ·exact hn.2.2 x hx
  ·exact h.it x (by rw [hs];simp [hx])
 cases s.nds[p.toNat].2
 ·refine ⟨⟨?_,⟨?_,h.gap⟩,?_,Je,h.nd,h.fr⟩,⟨?_,?_,?_,?_,hf,?_⟩⟩
  ·show r.length<(s.nds[p.toNat].1++r).length
   rw [au];omega
  ·show (hdH s.frs:Int)+nH _<=(r.length:Int)
   rw [<-tN];simp [nH];omega
  ·intro f hf;rcases aK.1 hf with rfl|hf
   ·simp
   ·exact h.kd f hf
  ·show (s.nds[p.toNat].1++r).length<=_
   rw [au];omega
  ·show (_::s.frs).length<=_
   rw [aD];omega
  ·show s.nds.length<=_;omega
  ·show s.fre.length<=_;omega
  ·show s.stp<=_;omega
 ·refine ⟨⟨?_,h.gap,h.kd,Je,h.nd,h.fr⟩,⟨?_,?_,?_,?_,hf,?_⟩⟩
  ·show flr s<(s.nds[p.toNat].1++r).length
   rw [au];omega
  ·show (s.nds[p.toNat].1++r).length<=_
   rw [au];omega
  ·show s.frs.length<=_;omega
  ·show s.nds.length<=_;omega
  ·show s.fre.length<=_;omega
  ·show s.stp<=_;omega
theorem T9 {c:Cf} {s:Ms} {i:Nat} {p:Int} {r:Ln} (h:Iv c s) (hc:Ct i s) (hs:s.stk=(4,p)::r) (hw:eR p<=ql s):Iv c (IH p s)/\Ct (i+1) (IH p s):=by
 have lw:=i6 p;have ha:=hc.a;have hb:=hc.b;have hd:=hc.d;have he:=hc.e;have hg:=hc.g;have dI:=h.ne;rw [hs,aD] at ha dI;have hl:(r.length:Int)=ql s+flr s:=by unfold ql;rw [hs,ay (by simp)];simp
 cases hr:r with
 |nil=>rw [hr] at hl;simp at hl;omega
 |cons x r1=>
  have j9:r.length=r1.length+1:=by rw [hr];rfl
  have e:IH p s={s with stk:=x::r1,frs:=⟨2,r1.length,0,p,0⟩::s.frs}:=by
   unfold IH lT lA fX;rw [hs,hr];rfl
  rw [e];refine ⟨⟨?_,⟨?_,h.gap⟩,?_,?_,h.nd,h.fr⟩,⟨?_,?_,?_,?_,hc.f,?_⟩⟩
  ·show r1.length<(x::r1).length;simp
  ·show (hdH s.frs:Int)+nH _<=(r1.length:Int)
   rw [<-tN];simp [nH];omega
  ·intro f hf;rcases aK.1 hf with rfl|hf
   ·simp
   ·exact h.kd f hf
  ·intro y hy;exact h.it y (by rw [hs,hr];exact cu _ hy)
  ·show (x::r1).length<=_;rw [aD];omega
  ·show (_::s.frs).length<=_;rw [aD];omega
  ·show s.nds.length<=_;omega
  ·show s.fre.length<=_;omega
  ·show s.stp<=_;omega
theorem Ga {c:Cf} {s:Ms} {i:Nat} {t:Int×Int} {r:Ln} (h:Iv c s) (hc:Ct i s) (hs:s.stk=t::r) (oJ:ql s<=6) (ht:t.1=1->ql s<=0) (ho:(w9 c t s).out=0):Iv c (w9 c t s)/\Ct (i+1) (w9 c t s):=by
 have ha:=hc.a;have hb:=hc.b;have hd:=hc.d;have he:=hc.e;have hg:=hc.g;have dI:=h.ne;have qZ:(r.length:Int)=ql s+flr s:=by unfold ql;rw [hs,ay (by simp)];simp
 have tt:s.stk.length=r.length+1:=by rw [hs];rfl
 unfold w9 at ho ⊢;cases hf:s.frs with
 |nil=>
  rw [hf] at ho;simp only [Ro] at ho;split at ho<;>simp at ho
 |cons f fr=>
  rw [hf] at ho;simp only at ho ⊢;have hkf:=h.kd f (by rw [hf];simp);have hgp:=h.gap;rw [hf] at hgp;obtain ⟨qX,qj⟩:=hgp;have kG:flr s=f.h:=by unfold flr;rw [hf];rfl
  have hfb:s.frs.length=fr.length+1:=by rw [hf];rfl
  by_cases h1:f.k=1
  ·rw [aA h1] at ho ⊢;have GM:nH f=0:=by unfold nH;rw [h1];simp
   have DI:(rq s).length<=8/\1<=(rq s).length/\∀x∈rq s,GI c s.nds.length x:=by
    refine ⟨?_,?_,fun x hx=>h.it x (cS hx)⟩
    ·unfold rq;rw [cF];omega
    ·unfold rq;rw [cF];omega
   have mu:gv s={s with frs:=fr}:=by unfold gv;rw [hf];rfl
   have cX:Iv c {s with frs:=fr}/\Ct (i+1) {s with frs:=fr}:=by
    refine ⟨⟨?_,qj,fun g hg=>h.kd g (by rw [hf];simp [hg]),h.it,h.nd,h.fr⟩,⟨?_,?_,?_,?_,hc.f,?_⟩⟩
    ·show hdH fr<s.stk.length;omega
    ·show s.stk.length<=_;omega
    ·show fr.length<=_;omega
    ·show s.nds.length<=_;omega
    ·show s.fre.length<=_;omega
    ·show s.stp<=_;omega
   unfold NP xn;rw [mu];split
   ·refine ⟨⟨cX.1.ne,cX.1.gap,cX.1.kd,?_,?_,?_⟩,⟨cX.2.a,cX.2.b,?_,cX.2.e,cX.2.f,cX.2.g⟩⟩
    ·show ∀x∈s.stk,GI c (s.nds.set _ _).length x
     rw [bJ];exact h.it
    ·show ∀n∈s.nds.set _ _,_/\_/\∀x∈n.1,GI c (s.nds.set _ _).length x
     rw [bJ];intro n hn;rcases List.mem_or_eq_of_mem_set hn with hn|rfl
     ·exact h.nd n hn
     ·exact ⟨DI.2.1,DI.1,DI.2.2⟩
    ·show ∀p∈s.fre,_/\p<((s.nds.set _ _).length:Int)
     rw [bJ];exact h.fr
    ·show (s.nds.set _ _).length<=_
     rw [bJ];omega
   ·exact cX
  ·rw [ay h1] at ho ⊢;by_cases ul:t.1=1
   ·rw [ay (by simpa using ul)] at ho ⊢;have Wi:=ht ul;have lV:r.length=f.h:=by omega
    have htn:=(h.it t (by rw [hs];simp)).1 ul;by_cases h2:f.k=2
    ·rw [aA h2] at ho ⊢;have lw:=i6 f.pr;have wH:nH f=eR f.pr-1:=by unfold nH;rw [aA h2]
     cases hr:r with
     |nil=>rw [hr] at lV;simp at lV;omega
     |cons y r1=>
      have j9:r.length=r1.length+1:=by rw [hr];rfl
      have e:zb f.pr t.2 s={s with stk:=y::r1,frs:=⟨3,r1.length,0,f.pr,t.2⟩::fr}:=by
       unfold zb lT lA fX gv;rw [hs,hr,hf];rfl
      rw [e];refine ⟨⟨?_,⟨?_,qj⟩,?_,?_,h.nd,h.fr⟩,⟨?_,?_,?_,?_,hc.f,?_⟩⟩
      ·show r1.length<(y::r1).length;simp
      ·show (hdH fr:Int)+nH _<=(r1.length:Int)
       simp [nH];omega
      ·intro g hg;rcases aK.1 hg with rfl|hg
       ·exact ⟨.inr (.inr rfl),htn⟩
       ·exact h.kd g (by rw [hf];simp [hg])
      ·intro z hz;exact h.it z (by rw [hs,hr];exact cu _ hz)
      ·show (y::r1).length<=_;rw [aD];omega
      ·show (_::fr).length<=_;rw [aD];omega
      ·show s.nds.length<=_;omega
      ·show s.fre.length<=_;omega
      ·show s.stp<=_;omega
    ·rw [ay h2] at ho ⊢;have h3:f.k=3:=by omega
     have lw:=i6 f.pr;have wH:nH f=eR f.pr-2:=by unfold nH;rw [ay h2,aA h3]
     unfold A7 at ho ⊢;by_cases Yp:c.bud<=s.stp
     ·rw [aA Yp] at ho;simp at ho
     ·rw [ay Yp] at ho ⊢;have hpd:fX (gv {s with stp:=s.stp+1})={s with stp:=s.stp+1,stk:=r,frs:=fr}:=by
       unfold fX gv;rw [hs,hf];rfl
      simp only [hpd] at ho ⊢;have key:∀(z:Int×Int) (q:Ln),GI c s.nds.length z->(∀x∈q,x∈s.stk)->hdH fr<q.length+1->q.length<=r.length->Iv c {s with stp:=s.stp+1,stk:=z::q,frs:=fr}/\Ct (i+1) {s with stp:=s.stp+1,stk:=z::q,frs:=fr}:=by
       intro z q hz hq hh Ex;refine ⟨⟨?_,qj,fun g hg=>h.kd g (by rw [hf];simp [hg]),?_,h.nd,h.fr⟩,⟨?_,?_,?_,?_,?_,?_⟩⟩
       ·show hdH fr<(z::q).length;rw [aD];exact hh
       ·intro x hx;rcases aK.1 hx with rfl|hx
        ·exact hz
        ·exact h.it x (hq x hx)
       ·show (z::q).length<=_;rw [aD];omega
       ·show fr.length<=_;omega
       ·show s.nds.length<=_;omega
       ·show s.fre.length<=_;omega
       ·show 0<=s.stp+1;have:=hc.f;omega
       ·show s.stp+1<=_;omega
      have hch:∀bb:Bool,eR f.pr=4->Iv c (kN bb {s with stp:=s.stp+1,stk:=r,frs:=fr})/\Ct (i+1) (kN bb {s with stp:=s.stp+1,stk:=r,frs:=fr}):=by
       intro bb hw;cases hr:r with
       |nil=>rw [hr] at lV;simp at lV;omega
       |cons y r1=>
        cases pG:r1 with
        |nil=>rw [hr,pG] at lV;simp at lV;omega
        |cons z r2=>
         have j9:r.length=r2.length+1+1:=by rw [hr,pG];rfl
         unfold kN lT fX;simp only [hdI,db,cO];refine key _ r2 ?_ (fun x hx=>by rw [hs,hr,pG];simp [hx]) (by omega) (by omega)
         cases bb
         ·exact h.it z (by rw [hs,hr,pG];simp)
         ·exact h.it y (by rw [hs,hr,pG];simp)
      by_cases pH:f.pr=3
      ·rw [aA pH] at ho ⊢;exact hch _ (by unfold eR;rw [aA (.inl pH)])
      ·rw [ay pH] at ho ⊢;by_cases vh:f.pr=4
       ·rw [aA vh] at ho ⊢;exact hch _ (by unfold eR;rw [aA (.inr vh)])
       ·rw [ay vh] at ho ⊢;unfold D6 at ho ⊢;by_cases nU:1000000000<iD f.pr f.nu t.2\/iD f.pr f.nu t.2< -1000000000
        ·rw [aA nU] at ho;simp at ho
        ·rw [ay nU];refine key _ r ⟨fun _=>by simp only;omega,fun e=>by simp at e,fun e=>by simp at e⟩ (fun x hx=>by rw [hs];simp [hx]) (by omega) (ah _)
   ·rw [aA (by simpa using ul)] at ho;simp at ho
structure Tk3 (s s':Ms) (ps:List Int):Prop where
 st:s'.stk=s.stk/\s'.frs=s.frs/\s'.stp=s.stp/\s'.out=s.out/\s'.val=s.val
 le:s.nds.length<=s'.nds.length
 ln:s'.nds.length<=s.nds.length+ps.length
 old:∀j,j<s.nds.length->s'.nds[j]?=s.nds[j]?
 new:∀j,s.nds.length<=j->j<s'.nds.length->(j:Int)∈ps
 val:∀p∈ps,0<=p/\p<s'.nds.length
 fr:∀p∈s'.fre,p∈s.fre
 fl:s'.fre.length<=s.fre.length
theorem vT:∀(n:Nat) (s:Ms),(∀p∈s.fre,0<=p/\p<s.nds.length)->Tk3 s (hZ n s) (takeL n s)
 |0,s,_=>⟨⟨rfl,rfl,rfl,rfl,rfl⟩,ah _,by simp [hZ],fun _ _=>rfl,fun j h1 h2=>by simp [hZ] at h2;omega,fun p hp=>by simp [takeL] at hp,fun _ h=>h,ah _⟩
 |n+1,s,h=>by
  rw [hZ,takeL];cases hf:s.fre with
  |nil=>
   have e1:jO s={s with nds:=s.nds++[([],false)]}:=by unfold jO;rw [hf]
   have e2:mG s=s.nds.length:=by unfold mG;rw [hf]
   rw [e1,e2];have ih:=vT n {s with nds:=s.nds++[([],false)]} (fun p hp=>by simp only [hf] at hp;simp at hp);have il:s.nds.length+1<=(hZ n {s with nds:=s.nds++[([],false)]}).nds.length:=by have:=ih.le;simpa using this
   refine ⟨ih.st,by omega,?_,?_,?_,?_,ih.fr,ih.fl⟩
   ·have:=ih.ln;simp at this ⊢;omega
   ·intro j hj;have:=ih.old j (by simp;omega);rw [this];exact aI hj
   ·intro j h1 h2;by_cases hj:j=s.nds.length
    ·subst hj;simp
    ·exact cu _ (ih.new j (by simp;omega) h2)
   ·intro p hp;rcases aK.1 hp with rfl|hp
    ·omega
    ·exact ih.val p hp
  |cons x r=>
   have e1:jO s={s with fre:=r}:=by unfold jO;rw [hf]
   have e2:mG s=x:=by unfold mG;rw [hf]
   rw [e1,e2];have hx:=h x (by rw [hf];simp);have ih:=vT n {s with fre:=r} (fun p hp=>h p (by rw [hf];exact cu _ hp));have iH:=ih.le;simp only at iH;refine ⟨ih.st,ih.le,?_,ih.old,?_,?_,?_,?_⟩
   ·have:=ih.ln;simp at this ⊢;omega
   ·intro j h1 h2;exact cu _ (ih.new j h1 h2)
   ·intro p hp;rcases aK.1 hp with rfl|hp
    ·omega
    ·exact ih.val p hp
   ·intro p hp;have:=ih.fr p hp;rw [hf];exact cu _ this
   ·have:=ih.fl;rw [hf];simp at this ⊢;omega
theorem F7 (P:Ln×Bool->Prop) (ar:Ln) (ps:List Int):∀(ls:List Ln) (i:Nat) (s:Ms),i+ls.length=ps.length->(∀p∈ps,0<=p/\p<s.nds.length)->(∀l∈ls,P (cL l ar ps,false))->(∀(j:Nat) (n:Ln×Bool),s.nds[j]?=some n->P n\/∃q,i<=q/\ps[q]?=some (j:Int))->
 (mh ar ps (i+1) ls s).stk=s.stk/\(mh ar ps (i+1) ls s).frs=s.frs/\(mh ar ps (i+1) ls s).fre=s.fre/\(mh ar ps (i+1) ls s).stp=s.stp/\(mh ar ps (i+1) ls s).out=s.out/\(mh ar ps (i+1) ls s).nds.length=s.nds.length/\∀n∈(mh ar ps (i+1) ls s).nds,P n
 |[],i,s,hl,_,_,hP=>by
  refine ⟨rfl,rfl,rfl,rfl,rfl,rfl,fun n hn=>?_⟩
  obtain ⟨j,hj,rfl⟩:=cl.1 hn;rcases hP j _ (aj hj) with h|⟨q,h1,h2⟩
  ·exact h
  ·have:=(aP.1 h2).1;simp at hl;omega
 |l::ls,i,s,hl,hv,hL,hP=>by
  have hi:i<ps.length:=by simp at hl;omega
  have Sp:=hv ps[i] (aE hi);have e:mh ar ps (i+1) (l::ls) s=mh ar ps (i+1+1) ls {s with nds:=s.nds.set ps[i].toNat (cL l ar ps,false)}:=by
   rw [mh,aA hi,aj hi,b6,xn,aA Sp]
  rw [e];have ih:=F7 P ar ps ls (i+1) {s with nds:=s.nds.set ps[i].toNat (cL l ar ps,false)} (by simp at hl;omega) (fun p hp=>by simp only [bJ];exact hv p hp) (fun m hm=>hL m (by simp [hm])) ?_
  ·obtain ⟨a1,a2,a3,a4,a5,a6,a7⟩:=ih;exact ⟨a1,a2,a3,a4,a5,by rw [a6];simp,a7⟩
  ·intro j n hj;simp only at hj;by_cases Vv:ps[i].toNat=j
   ·subst Vv;rw [bR (by omega)] at hj;cases hj
    exact .inl (hL l (by simp))
   ·rw [b9 Vv] at hj;rcases hP j n hj with h|⟨q,h1,h2⟩
    ·exact .inl h
    ·by_cases hq:q=i
     ·subst hq;rw [aj hi] at h2;simp at h2;omega
     ·exact .inr ⟨q,by omega,h2⟩
theorem sQ:∀(n:Nat) (l:Ln),n<=l.length->qy n l=l.take n
 |0,_,_=>rfl
 |n+1,[],h=>by simp at h
 |n+1,a::l,h=>by
  rw [qy,ei,cO,sQ n l (by simpa using h)];rfl
theorem xX (c:Cf) (n:Int) (s:Ms):(gh c n s).stk=s.stk/\(gh c n s).frs=s.frs/\(gh c n s).nds=s.nds/\(gh c n s).stp=s.stp/\(gh c n s).out=s.out:=by
 unfold gh;split<;>exact ⟨rfl,rfl,rfl,rfl,rfl⟩
theorem O9 {c:Cf} {t:Tp} {n:Nat} {l ar:Ln} {ps:List Int} (hl:∀a∈l,GA c t a) (oJ:∀x∈ar,GI c n x) (qW:∀p∈ps,0<=p/\p<n) (Cg:ps.length=t.ls.length-1):∀x∈cL l ar ps,GI c n x:=by
 intro x hx;unfold cL at hx;obtain ⟨a,ha,rfl⟩:=bZ.1 hx;have hg:=hl a ha;unfold iP;by_cases h5:a.1=5/\0<=a.2/\a.2<ps.length
 ·rw [aA h5];have bF:a.2.toNat<ps.length:=by omega
  refine ⟨fun e=>by simp at e,fun e=>by simp at e,fun _=>?_⟩
  simp only [aj bF,b6];exact qW _ (aE bF)
 ·rw [ay h5];by_cases h2:a.1=2/\0<=a.2/\a.2<ar.length
  ·rw [aA h2];have bF:a.2.toNat<ar.length:=by omega
   simp only [aj bF,b6];exact oJ _ (aE bF)
  ·rw [ay h2];refine ⟨fun e=>by have:=hg.1 e;omega,fun e=>hg.2.1 e,fun e=>?_⟩
   exact absurd ⟨e,(hg.2.2 e).1,by have:=(hg.2.2 e).2;omega⟩ h5
theorem O8 {c:Cf} {s:Ms} {i:Nat} {f:Int} {r:Ln} {t:Tp} (h:Iv c s) (hc:Ct i s) (hs:s.stk=(3,f)::r) (ht:TG c t) (hw:t.ar<=ql s) (kG:∀s:Ms,(lL s).fre.length<=s.nds.length) (wJ:∀s:Ms,∀p∈(lL s).fre,0<=p/\p<s.nds.length) (ho:(rI c t s).out=0):Iv c (rI c t s)/\Ct (i+1) (rI c t s):=by
 have ha:=hc.a;have hb:=hc.b;have hd:=hc.d;have he:=hc.e;have hf:=hc.f;have hg:=hc.g;have dI:=h.ne;have qZ:(r.length:Int)=ql s+flr s:=by unfold ql;rw [hs,ay (by simp)];simp
 have tt:s.stk.length=r.length+1:=by rw [hs];rfl
 have t0:=ht.a0;have t1:=ht.a1;have t2:=ht.n0;have t3:=ht.n1;obtain ⟨m1,m2,m3,m4,m5⟩:=xX c ((t.ls.length:Int)-1) s;have m6:(gh c ((t.ls.length:Int)-1) s).fre.length<=12*i/\∀p∈(gh c ((t.ls.length:Int)-1) s).fre,0<=p/\p<s.nds.length:=by
  unfold gh;split
  ·exact ⟨aJ (kG s) hd,wJ s⟩
  ·exact ⟨he,h.fr⟩
 unfold rI at ho ⊢;by_cases Yn:c.bud<=s.stp
 ·rw [aA Yn] at ho;simp at ho
 ·rw [ay Yn] at ho ⊢;by_cases oF:(t.ls.length:Int)-1<=lD c (gh c ((t.ls.length:Int)-1) s)
  ·rw [aA oF] at ho ⊢;simp only at ho ⊢;generalize gh c ((t.ls.length:Int)-1) s=s1 at*;have Gy:qy t.ar.toNat s1.stk.tail=r.take t.ar.toNat:=by rw [m1,hs,cO,sQ _ _ (by omega)]
   have Pn:s1.stk.tail.drop t.ar.toNat=r.drop t.ar.toNat:=by rw [m1,hs,cO]
   rw [Gy,Pn] at*;have tk:=vT (t.ls.length-1) {s1 with stp:=s1.stp+1,stk:=r.drop t.ar.toNat} (fun p hp=>by simp only [m3];exact m6.2 p hp);have tl:(takeL (t.ls.length-1) {s1 with stp:=s1.stp+1,stk:=r.drop t.ar.toNat}).length=t.ls.length-1:=by
    generalize ({s1 with stp:=s1.stp+1,stk:=r.drop t.ar.toNat}:Ms)=z;generalize t.ls.length-1=n;induction n generalizing z with
    |zero=>rfl
    |succ n ih=>simp [takeL,ih]
   generalize takeL (t.ls.length-1) {s1 with stp:=s1.stp+1,stk:=r.drop t.ar.toNat}=ps at*;generalize rA:hZ (t.ls.length-1) {s1 with stp:=s1.stp+1,stk:=r.drop t.ar.toNat}=s3 at*;obtain ⟨⟨k1,k2,k3,k4,k5⟩,kle,kln,kold,knew,kval,kfr,kfl⟩:=tk;simp only [m3] at kle kln kold knew;simp only at k1 k2 k3 k4 kfl kfr;have hup:∀x∈r,GI c s3.nds.length x:=fun x hx=>(h.it x (by rw [hs];simp [hx])).up kle
   cases gV:t.ls with
   |nil=>rw [gV] at t2;simp at t2
   |cons l0 lr=>
    have agW:=ht.ln l0 (by rw [gV];simp);have j9:t.ls.length=lr.length+1:=by rw [gV];rfl
    rw [mh];have yD:∀l∈t.ls,∀x∈cL l (r.take t.ar.toNat) ps,GI c s3.nds.length x:=fun l hl=>O9 (t:=t) (ht.ln l hl).2.2 (fun x hx=>hup x (cS hx)) kval tl
    obtain ⟨a1,a2,a3,a4,a5,a6,a7⟩:=F7 (fun n=>1<=n.1.length/\n.1.length<=8/\∀x∈n.1,GI c s3.nds.length x) (r.take t.ar.toNat) ps lr 0 (qS (cL l0 (r.take t.ar.toNat) ps) s3) (by omega) kval
     (fun l hl=>by
      have h1:=ht.ln l (by rw [gV];simp [hl]);have h2:=yD l (by rw [gV];simp [hl]);exact ⟨by simp only [cL,bK];exact h1.1,by simp only [cL,bK];exact h1.2.1,h2⟩)
     (fun j n hj=>by
      have dG:j<s3.nds.length:=(aP.1 hj).1;by_cases hjo:j<s.nds.length
      ·left
       have nV:s.nds[j]?=some n:=by rw [<-kold j hjo];exact hj
       have h3:=h.nd n (bm nV);exact ⟨h3.1,h3.2.1,fun x hx=>(h3.2.2 x hx).up kle⟩
      ·right
       obtain ⟨q,hq,he⟩:=cl.1 (knew j (by omega) dG);exact ⟨q,aF _,by rw [aj hq,he]⟩)
    have ZP:(qS (cL l0 (r.take t.ar.toNat) ps) s3).stk=cL l0 (r.take t.ar.toNat) ps++r.drop t.ar.toNat:=by show _++s3.stk=_;rw [k1]
    have ly:(cL l0 (r.take t.ar.toNat) ps).length=l0.length:=by simp [cL]
    have se:(r.drop t.ar.toNat).length=r.length-t.ar.toNat:=cI;have aaC:(qS (cL l0 (r.take t.ar.toNat) ps) s3).frs=s.frs:=by show s3.frs=_;rw [k2,m2]
    have PL:(qS (cL l0 (r.take t.ar.toNat) ps) s3).nds.length=s3.nds.length:=rfl;rw [ZP] at a1;rw [aaC] at a2;rw [PL] at a6;refine ⟨⟨?_,?_,?_,?_,?_,?_⟩,⟨?_,?_,?_,?_,?_,?_⟩⟩
    ·rw [tN,a2,a1,<-tN,au,ly,se];omega
    ·rw [a2];exact h.gap
    ·rw [a2];exact h.kd
    ·rw [a1,a6];intro x hx;rcases be.1 hx with hx|hx
     ·exact yD l0 (by rw [gV];simp) x hx
     ·exact hup x (dr hx)
    ·rw [a6];exact a7
    ·rw [a3,a6];intro p hp;have:=m6.2 p (kfr p hp);omega
    ·rw [a1,au,ly,se];omega
    ·rw [a2];omega
    ·rw [a6];omega
    ·rw [a3];show s3.fre.length<=_;omega
    ·rw [a4];show 0<=s3.stp;rw [k3,m4];omega
    ·rw [a4];show s3.stp<=_;rw [k3,m4];omega
  ·rw [ay oF] at ho;simp at ho
theorem F9 {c:Cf} {s:Ms} {i:Nat} (h:Iv c s) (hc:Ct i s) (ht:∀t∈c.fs,TG c t) (kG:∀s:Ms,(lL s).fre.length<=s.nds.length) (wJ:∀s:Ms,∀p∈(lL s).fre,0<=p/\p<s.nds.length) (ho:(qA c s).out=0):Iv c (qA c s)/\Ct (i+1) (qA c s):=by
 have dI:=h.ne;cases hs:s.stk with
 |nil=>rw [hs] at dI;simp at dI
 |cons t r=>
  have oE:hdI s.stk=t:=by rw [hs];rfl
  unfold qA at ho ⊢;simp only [oE] at ho ⊢;by_cases h5:t.1=5
  ·rw [aA h5] at ho ⊢;obtain ⟨t1,t2⟩:=t;simp only at h5;subst h5;exact J5 h hc hs
  ·rw [ay h5] at ho ⊢;by_cases h3:t.1=3
   ·rw [aA h3] at ho ⊢;have hv:=(h.it t (by rw [hs];simp)).2.1 h3;have bF:t.2.toNat<c.fs.length:=by omega
    have yh:jx c t.2∈c.fs:=by
     unfold jx;rw [aA hv,aj bF];exact aE bF
    have mQ:=ht _ yh;by_cases iH:(jx c t.2).ar<=ql s
    ·rw [aA iH] at ho ⊢;obtain ⟨t1,t2⟩:=t;simp only at h3;subst h3;exact O8 h hc hs mQ iH kG wJ ho
    ·rw [ay iH] at ho ⊢;exact Ga h hc hs (by have:=mQ.a1;omega) (fun e=>by omega) ho
   ·rw [ay h3] at ho ⊢;by_cases h4:t.1=4
    ·rw [aA h4] at ho ⊢;by_cases iH:eR t.2<=ql s
     ·rw [aA iH];obtain ⟨t1,t2⟩:=t;simp only at h4;subst h4;exact T9 h hc hs iH
     ·rw [ay iH] at ho ⊢;exact Ga h hc hs (by have:=i6 t.2;omega) (fun e=>by omega) ho
    ·rw [ay h4] at ho ⊢;by_cases hp:0<ql s
     ·rw [aA hp] at ho;simp at ho
     ·rw [ay hp] at ho ⊢;exact Ga h hc hs (by omega) (fun _=>by omega) ho
def cc (k:Int):List Tp:=[⟨0,[[(3,1),(1,k)]]⟩,⟨1,[[(4,4),(2,0),(1,0),(5,0),(3,1),(5,1)],[(3,2),(1,7)],[(4,1),(2,0),(1,1)]]⟩,⟨2,[[(2,0)]]⟩]
def LH (p _q:Int) (nds:List (Ln×Bool)) (stp:Int):Ms:=⟨[(3,1),(5,p)],[],nds,[],stp,0,0⟩
def Hd (m:Int) (stp:Int) (s:Ms):Prop:=∃n2 n3:Ln×Bool,
 s=LH 3 1 [n2,([(1,m)],true),n3,([(4,1),(5,1),(1,1)],false)] stp\/
 s=LH 0 3 [([(4,1),(5,3),(1,1)],false),n2,n3,([(1,m)],true)] stp\/
 s=LH 1 0 [([(1,m)],true),([(4,1),(5,0),(1,1)],false),n2,n3] stp\/
 s=LH 2 1 [n2,([(1,m)],true),([(4,1),(5,1),(1,1)],false),n3] stp\/
 s=LH 0 2 [([(4,1),(5,2),(1,1)],false),n2,([(1,m)],true),n3] stp
def akh (stp:Int) (s:Ms):Prop:=s.out=1/\s.val=7/\s.stp=stp
theorem Lc (s:Ms):∀p∈(lL s).fre,0<=p/\p<s.nds.length:=by
 intro p hp;unfold lL at hp;simp only at hp;rcases (wz _ _ _ _).1 hp with h|⟨j,e,h⟩
 ·simp at h
 ·have:=(aP.1 h).1;rw [BV] at this;omega
theorem O7 (c:Cf) (mn:Int) (h:0<=mn/\mn<c.fs.length):Iv c (ep mn)/\Ct 0 (ep mn):=by
 refine ⟨⟨by simp [ep,flr],trivial,fun f hf=>by simp [ep] at hf,fun x hx=>?_,fun n hn=>by simp [ep] at hn,fun p hp=>by simp [ep] at hp⟩,⟨by simp [ep],by simp [ep],by simp [ep],by simp [ep],by simp [ep],by simp [ep]⟩⟩
 simp [ep] at hx;subst hx;exact ⟨fun e=>by simp at e,fun _=>h,fun e=>by simp at e⟩
theorem Ab (c:Cf) (mn:Int) (lW:0<=mn/\mn<c.fs.length) (ht:∀t∈c.fs,TG c t):∀i,(fF c i (ep mn)).out=0->Iv c (fF c i (ep mn))/\Ct i (fF c i (ep mn))
 |0,_=>O7 c mn lW
 |i+1,h=>by
  have ho:(fF c i (ep mn)).out=0:=by
   apply Classical.byContradiction
   intro hn;rw [wD c i (i+1) _ (by omega) hn] at h;exact hn h
  rw [wE c i _ ho] at h ⊢;obtain ⟨h1,h2⟩:=Ab c mn lW ht i ho;exact F9 h1 h2 ht wV Lc h
theorem TQ {c:Cf} {s:Ms} {i:Nat} (h:Iv c s) (hc:Ct i s) (hi:i<=1000000):Ok c s:=by
 have ha:=hc.a;have hb:=hc.b;have hd:=hc.d;have he:=hc.e;have hg:=hc.g;have dI:=h.ne;refine ⟨⟨by omega,by omega,by omega,by omega,fun n hn=>by have:=(h.nd n hn).2.1;omega,by omega,hc.f,by omega,fun x hx e=>(h.it x hx).1 e,fun f hf=>(h.kd f hf).2⟩,fun e=>?_⟩
 cases hs:s.stk with
 |nil=>rw [hs] at dI;simp at dI
 |cons t r=>
  rw [hs] at e;exact (h.it t (by rw [hs];simp)).2.1 e
theorem Ta (s:ByteArray) (bud hp:Int) (cd:Cd) (N:Nat) (w:World) (hs:s.size<=maxLen) (eu:rdC s=some cd) (zn:rdE s=0) (jZ:0<=bud) (bB:bud<=2000) (Jf:0<=hp) (Cj:hp<=24000)
 (lW:0<=cd.mn/\cd.mn<cd.fs.length) (mQ:∀t∈cd.fs,TG ⟨cd.fs,bud,hp⟩ t) (hNb:N<=1000000) (hN:(fF ⟨cd.fs,bud,hp⟩ N (ep cd.mn)).out≠0):
 Calls Tryz.prog 12 #[.string s,.int .i64 bud,.int .i64 hp] w fun e w'=>e=.returned (.tuple #[.agg #[.int .i64 (fF ⟨cd.fs,bud,hp⟩ N (ep cd.mn)).out,.int .i64 (fF ⟨cd.fs,bud,hp⟩ N (ep cd.mn)).val,.int .i64 (fF ⟨cd.fs,bud,hp⟩ N (ep cd.mn)).stp],.int .i64 0])/\Below w.heap.size w w':=by
 have HC:Hid _:=Mz s bud hp cd N (w.alloc (Obj.cells #[.int .i64 0,.int .i64 0,.int .i64 0] 24)) hs eu zn jZ bB Jf Cj ⟨Jf,by show hp<=_;omega,fun t ht=>by have h:=mQ t ht;exact ⟨h.a0,by have:=h.a1;omega,h.n0,by have:=h.n1;omega,fun l hl=>by have:=(h.ln l hl).2.1;omega⟩⟩
  (fun i hi ho=>by
   obtain ⟨h1,h2⟩:=Ab ⟨cd.fs,bud,hp⟩ cd.mn lW mQ i ho;exact TQ h1 h2 (by omega)) hN
 clear hN mQ lW eu zn;generalize fF ⟨cd.fs,bud,hp⟩ N (ep cd.mn)=st at*;go_enter Tryz.func12,Tryz.ntmps12
 go_wp2_with fail
 refine (show Calls _ _ _ _ _ from HC.out).mono ?_
 rintro e w1 ⟨rfl,bB⟩
 clear HC;have hX:=(bB.block w.heap.size (by simp)).trans (az w _);have oz:w.heap.size<w1.heap.size:=(ae.1 hX).1;have r0:=al w1 w.heap.size 0 _ _ _ hX;have r1:=al w1 w.heap.size 1 _ _ _ hX;have r2:=al w1 w.heap.size 2 _ _ _ hX;simp only [ax,ap,aq] at r0 r1 r2;have z0:=aG w1 w.heap.size 0 _ _ hX;have z1:=aG w1 w.heap.size 1 _ _ hX;have z2:=aG w1 w.heap.size 2 _ _ hX;have jm:Hid _:=hX;have eI:Hid (Below w.heap.size w w1):=(bM w _).trans (bB.mono (by simp));clear hX bB;go_wp2_with fail
 obtain ⟨q0,q1,q2⟩:=gb w1 w.heap.size _ _ _ _ (.int .i64 st.out) (.int .i64 st.val) (.int .i64 st.stp) jm.out;refine aS (v:=.tuple #[.agg #[.int .i64 st.out,.int .i64 st.val,.int .i64 st.stp],.int .i64 0]) (by simp [results,Tryz.results12,go_sem,q0,q1,q2]) rfl ⟨rfl,?_⟩
 exact ((eI.out.setCell (by exact ah _) _).setCell (by exact ah _) _).setCell (by exact ah _) _
end Go.Proofs.YtnndoagpbcacdabGreatDoor
