import Derived.Test.YtnndoagpbcacdabGreatDoorMN3
import Derived.Test.YtnndoagpbcacdabGreatDoorMF1
import Derived.Laws.AppendOwnNone
namespace Go.Proofs.YtnndoagpbcacdabGreatDoor
set_option maxHeartbeats 8000000
set_option maxRecDepth 100000
open Go.RowKit
theorem FS (f:Tk->Int×Int) (E:Ln) (a:At):∀k,(ous f E a k).length=a.cnt:=by
 induction a with
 |nil=>intro k;rfl
 |sim t r ih=>intro k;simp [ous,At.cnt,ih]
 |par o h c ag r ih1 ih2=>
  intro k;by_cases hn:ag.isNil=true
  ·simp [ous,At.cnt,hn,ih2]
  ·simp [ous,At.cnt,hn,ih2]
theorem Nq (T g:Nat) (fv:Value) (nm:List Tk) (ds:List Df) (bud stp out:Int) (ps:List Tk) (E:Ln) (b:At) (D:List Dl) (xs:List Value) (lv ev:Value) (w:World) (h:SnP w T g fv nm ds bud D stp out) (hl:w.ownsRow 0 223 3 lv b.cnt xs) (bF:∀k,lv.ownBlock=some k->k<T) (nX:ER w (fun k=>k<T) ps nm b xs)
 (he:Rd w T ev E) (hE:E.length=ps.length) (Nf:b.toks.length<=1000) (hD:D.length+(dls ps E b).length<=100000):
 Calls Tryz.prog 187 #[.pointer (some ⟨g,0,none⟩),lv,ev] w fun e w'=>∃v,e=.returned v/\Fx T w w'/\SnP w' T g fv nm ds bud (D++dls ps E b) stp out/\Rd w' T v (ous (aX ps nm) E b D.length):=by
 obtain ⟨ii,hi,fp,dQ,eF⟩:=bE Tryz.infoAtom;obtain ⟨lo,lc,rfl⟩:=aU hl;have xv:b.cnt<=1000:=aJ (At.cnt_le b) (by omega);have hlc:=fY hl;have HTw:Hid (T<=w.heap.size):=by obtain ⟨av,vs,h⟩:=h;exact h.hT
 have HL:Hid (∀wr,Fx T w wr->wr.ownsRow 0 223 3 (.slice lo b.cnt lc) b.cnt xs):=fun wr hf=>cM hl hf.bel bF
 have HEV:Hid (∀wr,Fx T w wr->Rd wr T ev E):=fun wr hf=>he.keep hf
 obtain ⟨eo,ec,rfl⟩:=he.form;have HS:Hid _:=h;have HER:Hid _:=nX;have Xr:Hid _:=bF;have R3:Hid (E.length=ps.length):=hE;clear h hl nX he bF hE;go_enter Tryz.func187,Tryz.ntmps187
 go_wp2_with fail
 go_loopw [7,8] (fun y z wr=>∃(done rest:At) (m:Nat) (pre suf:List Value),Hid (done.app rest=b)/\m+rest.cnt=b.cnt/\z=.int .i64 m/\Hid (m=done.cnt)/\Hid (xs=pre++suf)/\Hid (pre.length=m*3)/\Hid (ER w (fun k=>k<T) ps nm rest suf)/\Hid (Fx T w wr)/\Hid (∃av vs,SQ w wr T g fv nm ds bud (D++dls ps E done) stp out av vs)/\(∃yo yc,y=.slice yo m yc)/\Hid (wr.ownsRow w.heap.size 99 2 y m (acs (ous (aX ps nm) E done D.length)))) (fun _ z _=>b.cnt-(intOf z).toNat)
 case atStart=>exact ⟨.nil,b,0,[],xs,rfl,by simp,rfl,rfl,rfl,rfl,HER.out,Fx.refl _ _,by rw [show dls ps E .nil=[] from rfl,cA];obtain ⟨av,vs,h⟩:=HS.out;exact ⟨av,vs,h.sq⟩,⟨none,0,rfl⟩,aM _ _ _ _⟩
 case round=>
  obtain ⟨done,rest,m,pre,suf,HA,ij,rfl,HM,mC,i5,oQ,HF,HSP,⟨yo,yc,rfl⟩,HR⟩:=hrel;have iG:=HF.out.size;have ML:=HTw.out;by_cases qG:rest=.nil
  ·have gK:m=b.cnt:=by rw [qG] at ij;simpa [At.cnt] using ij
   have HE:Hid (done=b):=by show _=_;rw [<-HA.out,qG,At.app_nil]
   clear ij;subst gK;go_wp2_with fail
   go_ret
   refine ⟨_,rfl,HF.out,by rw [<-HE.out];obtain ⟨av,vs,h⟩:=HSP.out;exact ⟨av,vs,h.sb HF.out⟩,?_⟩
   have:=HR.out;rw [<-HE.out,<-FS (aX ps nm) E done D.length] at this ⊢;exact Rd.own this
  ·have bF:m<b.cnt:=by have:=At.cnt_pos qG;omega
   have ja:done.toks.length+rest.toks.length=b.toks.length:=by rw [<-HA.out,At.app_toks,au]
   obtain ⟨one,r',k,n,pv,suf',pG,lk,fH,ki,Kl,V3⟩:=WO (E:=E) oQ.out qG (by omega);obtain ⟨q,cap',hq,_,dX⟩:=(HL.out wr HF.out).form (by omega);cases hq
   have bW:=HL.out wr HF.out;have c0:wr.cell? ⟨q,m*3,none⟩=some (.int .i64 k):=aH bW _ _ (by rw [mC.out,aC (by rw [i5.out];omega),i5.out,ct,fH];rfl);have c1:wr.cell? ⟨q,m*3+1,none⟩=some (.int .i64 n):=aH bW _ _ (by rw [mC.out,aC (by rw [i5.out];omega),i5.out,show m*3+1-m*3=1 by omega,fH];rfl);have c2:wr.cell? ⟨q,m*3+2,none⟩=some pv:=aH bW _ _ (by rw [mC.out,aC (by rw [i5.out];omega),i5.out,show m*3+2-m*3=2 by omega,fH];rfl);have ZN:q<T:=Xr.out q rfl;have oX:Hid ((done.app one).app r'=b):=by show _=_;rw [At.app_assoc,<-pG];exact HA.out
   have XP:Hid (m+1+r'.cnt=b.cnt):=by show _=_;rw [pG,At.app_cnt] at ij;omega
   have oP:Hid (m+1=(done.app one).cnt):=by show _=_;rw [At.app_cnt,HM.out,lk]
   have gp:Hid (xs=(pre++eC k n pv)++suf'):=by show _=_;rw [mC.out,fH,bI]
   have vH:Hid ((pre++eC k n pv).length=(m+1)*3):=by show _=_;rw [au,i5.out];simp [eC];omega
   have EV:Hid (dls ps E (done.app one)=dls ps E done++dls ps E one):=Ih _ _ _ _;have t7:Hid (ous (aX ps nm) E (done.app one) D.length=ous (aX ps nm) E done D.length++ous (aX ps nm) E one (D++dls ps E done).length):=by show _=_;rw [Op ps,au]
   have SR:(D++dls ps E done).length<=100000:=by
    have:=congrArg (fun a=>(dls ps E a).length) HA.out;simp only [Ih,au] at this ⊢;omega
   have HE3:Hid (ER w (fun k=>k<T) ps nm r' suf'):=ki;clear fH pG ij ki bW ja oQ HA mC i5 lk qG;obtain ⟨pa,pc,pp,rfl⟩:=Kl;rcases V3 with ⟨wI,mz,mU,eh⟩|⟨rfl,d,mu,mU,So,Yl,hdv,VU,yJ⟩
   ·rw [mz,cA] at EV;rw [mU] at t7;have HC:Hid _:=WU wr T g k n (.slice pa pc pp) (.slice eo E.length ec) E ⟨_,_,_,rfl⟩ (HEV.out wr HF.out) wI (fun h=>by have:=eh h;have:=R3.out;omega);clear eh wI mU mz;generalize sbA E (k,n)=x at*;obtain ⟨x1,x2⟩:=x;simp only at HC;go_wp2_with fail
    refine (show Calls _ _ _ _ _ from HC.out).mono ?_
    rintro e w1 ⟨rfl,bB⟩
    clear HC;have Zl:=bB.size;have sw:Hid (∃av vs,SQ w w1 T g fv nm ds bud (D++dls ps E (done.app one)) stp out av vs):=by rw [EV.out];obtain ⟨av,vs,h⟩:=HSP.out;exact ⟨av,vs,h.old bB⟩
    have L5:Hid (Fx T w w1):=HF.out.trans (Fx.of bB (by omega));have lN:Hid (w1.ownsRow w.heap.size 99 2 (.slice yo m yc) m (acs (ous (aX ps nm) E done D.length))):=aQ HR.out bB;clear bB;have rx:Hid (((w1.alloc (Obj.cells #[.int .i64 x1,.int .i64 x2] 99)).alloc (Obj.cells #[.int .i64 x1,.int .i64 x2] 99)).heap[w1.heap.size+1]?=some (Obj.cells #[.int .i64 x1,.int .i64 x2] 99)):=by
     have:=az (w1.alloc (Obj.cells #[.int .i64 x1,.int .i64 x2] 99)) (Obj.cells #[.int .i64 x1,.int .i64 x2] 99);rw [bT] at this;exact this
    have gU:Hid (Below w1.heap.size w1 ((w1.alloc (Obj.cells #[.int .i64 x1,.int .i64 x2] 99)).alloc (Obj.cells #[.int .i64 x1,.int .i64 x2] 99))):=eU _ _ _;have rL:Hid (acs (ous (aX ps nm) E (done.app one) D.length)=acs (ous (aX ps nm) E done D.length)++[.int .i64 x1,.int .i64 x2]):=by show _=_;rw [t7.out,jF]
    have Ee:Hid _:=aQ lN.out gU.out;generalize acs (ous (aX ps nm) E done D.length)=AC at*;go_wp2_with (at_builtin;go_must (refine wpList_append_lies _ rfl _ _ _ rfl w.heap.size 99 ii _ 2 16 Tryz.underlying100 hi fp dQ eF rfl (by omega) (.slice yo m yc) m AC rfl ?mS _ 1 _ [.int .i64 x1,.int .i64 x2] rfl rfl ?kD ?Hs (by omega) ?tM ?jd ?kJ _ rfl ?_))
    case mS=>exact Ee.out
    try case kD=>exact World.news_of_block rx.out
    case Hs=>simp [Value.oneCell']
    case tM=>unfold maxLen;omega
    case jd=>omega
    case kJ=>first|omega|(simp;omega)
    intro g2 cap2 w2 b7 cx gi cV;have me:Hid (Fx T w w2):=Fx.grow2 (L5.out.trans (Fx.of gU.out (by omega))) cx (fun k hk=>(World.ownsRow.lt Ee.out k hk).1) ML;have LZ:Hid (∃av vs,SQ w w2 T g fv nm ds bud (D++dls ps E (done.app one)) stp out av vs):=by obtain ⟨av,vs,h⟩:=sw.out;exact ⟨av,vs,(h.old gU.out).grow Ee.out cx⟩
    have gT:Hid (w2.ownsRow w.heap.size 99 2 (.slice (some ⟨g2,0,none⟩) (m+1) cap2) (m+1) (acs (ous (aX ps nm) E (done.app one) D.length))):=by rw [rL.out];exact b7
    clear b7 cx gi cV;go_wp2_with fail
    go_roundw
    case rel=>exact ⟨done.app one,r',m+1,_,suf',oX,XP.out,by go_num,oP,gp,vH,HE3,me,LZ,⟨_,_,rfl⟩,gT⟩
    case measure=>simp [intOf];omega
   ·obtain ⟨av0,vs0,Sm⟩:=HSP.out;have HC:Hid _:=WS w wr T g fv nm ds bud (D++dls ps E done) stp out n (.slice pa pc pp) (.slice eo E.length ec) d av0 vs0 Sm HF.out So (by rw [Yl];exact HEV.out w (Fx.refl _ _)) hdv ⟨by rw [Yl,VU];exact R3.out,yJ⟩ SR;rw [mu] at EV;rw [mU] at t7;rw [bI,<-EV.out] at HC;clear Sm mU mu So;generalize xp:((D++dls ps E done).length:Int)=x2 at*;generalize mN:(5:Int)=x1 at*;go_wp2_with fail
    refine (show Calls _ _ _ _ _ from HC.out).mono ?_
    rintro e w1 ⟨rfl,oS,Do⟩
    clear HC;have Zl:=oS.size;have sw:Hid (∃av vs,SQ w w1 T g fv nm ds bud (D++dls ps E (done.app one)) stp out av vs):=Do;have L5:Hid (Fx T w w1):=HF.out.trans oS;have lN:Hid (w1.ownsRow w.heap.size 99 2 (.slice yo m yc) m (acs (ous (aX ps nm) E done D.length))):=oS.own HR.out;clear oS Do;have rx:Hid (((w1.alloc (Obj.cells #[.int .i64 x1,.int .i64 x2] 99)).alloc (Obj.cells #[.int .i64 x1,.int .i64 x2] 99)).heap[w1.heap.size+1]?=some (Obj.cells #[.int .i64 x1,.int .i64 x2] 99)):=by
     have:=az (w1.alloc (Obj.cells #[.int .i64 x1,.int .i64 x2] 99)) (Obj.cells #[.int .i64 x1,.int .i64 x2] 99);rw [bT] at this;exact this
    have gU:Hid (Below w1.heap.size w1 ((w1.alloc (Obj.cells #[.int .i64 x1,.int .i64 x2] 99)).alloc (Obj.cells #[.int .i64 x1,.int .i64 x2] 99))):=eU _ _ _;have rL:Hid (acs (ous (aX ps nm) E (done.app one) D.length)=acs (ous (aX ps nm) E done D.length)++[.int .i64 x1,.int .i64 x2]):=by show _=_;rw [t7.out,jF]
    have Ee:Hid _:=aQ lN.out gU.out;generalize acs (ous (aX ps nm) E done D.length)=AC at*;go_wp2_with (at_builtin;go_must (refine wpList_append_lies _ rfl _ _ _ rfl w.heap.size 99 ii _ 2 16 Tryz.underlying100 hi fp dQ eF rfl (by omega) (.slice yo m yc) m AC rfl ?mR _ 1 _ [.int .i64 x1,.int .i64 x2] rfl rfl ?kC ?Hr (by omega) ?tL ?jc ?kI _ rfl ?_))
    case mR=>exact Ee.out
    try case kC=>exact World.news_of_block rx.out
    case Hr=>simp [Value.oneCell']
    case tL=>unfold maxLen;omega
    case jc=>omega
    case kI=>first|omega|(simp;omega)
    intro g2 cap2 w2 b7 cx gi cV;have me:Hid (Fx T w w2):=Fx.grow2 (L5.out.trans (Fx.of gU.out (by omega))) cx (fun k hk=>(World.ownsRow.lt Ee.out k hk).1) ML;have LZ:Hid (∃av vs,SQ w w2 T g fv nm ds bud (D++dls ps E (done.app one)) stp out av vs):=by obtain ⟨av,vs,h⟩:=sw.out;exact ⟨av,vs,(h.old gU.out).grow Ee.out cx⟩
    have gT:Hid (w2.ownsRow w.heap.size 99 2 (.slice (some ⟨g2,0,none⟩) (m+1) cap2) (m+1) (acs (ous (aX ps nm) E (done.app one) D.length))):=by rw [rL.out];exact b7
    clear b7 cx gi cV;go_wp2_with fail
    go_roundw
    case rel=>exact ⟨done.app one,r',m+1,_,suf',oX,XP.out,by go_num,oP,gp,vH,HE3,me,LZ,⟨_,_,rfl⟩,gT⟩
    case measure=>simp [intOf];omega
theorem vD {c:Cf} {ks:List Kf} {k:Nat} {s U:Im} (he:Ev c ks k s U) (hk:s.ks=ks) (hv:nJ c s.cur):k=0/\U=s:=by
 cases k with
 |zero=>exact ⟨rfl,he.1⟩
 |succ k=>exact absurd ⟨hk,hv⟩ he.2.1
theorem vE {c:Cf} {ks:List Kf} {k:Nat} {s U:Im} (he:Ev c ks k s U) (ho:s.out≠0):k=0/\U=s:=by
 cases k with
 |zero=>exact ⟨rfl,he.1⟩
 |succ k=>exact absurd he.1 ho
theorem jU {c:Cf} {ks:List Kf} {k:Nat} {s U:Im} (he:Ev c ks k s U) (ho:s.out=0) (hv:¬(s.ks=ks/\nJ c s.cur)):∃k',k=k'+1/\Ev c ks k' (dP c s) U:=by
 cases k with
 |zero=>rcases he.2 with h|h
        ·exact absurd ho h
        ·exact absurd h hv
 |succ k=>exact ⟨k,rfl,he.2.2⟩
theorem wv {f:Kf} {ks:List Kf}:¬(f::ks=ks):=fun h=>by have:=congrArg List.length h;simp at this
theorem zA {c:Cf} {s:Im} (hv:nJ c s.cur):dP c s=lz c (hdI s.cur) s:=by
 rcases kq c s with ⟨g,_⟩|⟨g,g2,_⟩|⟨g,g2,_⟩|⟨g1,g2,g3,g4,_⟩|⟨_,g⟩
 ·exact absurd g hv.1
 ·have:=hv.2.1 g;omega
 ·have:=hv.2.2.1 g;omega
 ·have:=hv.2.2.2 g2 g3;omega
 ·exact g
theorem Ia {c:Cf} {ks:List Kf} {n:Nat} {s U:Im} (he:Ev c ks n s U) (ho:U.out=0):U.ks=ks/\nJ c U.cur:=((A3 he).2).resolve_left (fun h=>h ho)
theorem xJ {c:Cf} {n m:Nat} {s:Im} (h:Sz c n s) (hm:m<=n):Sz c m s:=⟨h.st,by have:=h.tot;omega,by have:=h.ks;omega,h.nd,h.sb⟩
section
variable {c:Cf} (ht:∀t∈c.fs,TGo c t) (hp:∀t∈c.fs,TPg t)
include ht hp
theorem A2 (lm:c.bud<=2000) {ks:List Kf} {k:Nat} {s U:Im} {p:Nat} {l r:Ln} (he:Ev c ks k s U) (hk:s.ks=ks) (hg:Gd c s) (hs:Sz c k s) (hc:s.cur=(5,(p:Int))::r) (hn:s.nds[p]?=some (l,false)):
 ∃n1 n3 U1,n1<k/\n3<k/\Ev c (⟨1,(p:Int),0,0,r⟩::ks) n1 {s with cur:=l,ks:=⟨1,(p:Int),0,0,r⟩::ks} U1/\Gd c {s with cur:=l,ks:=⟨1,(p:Int),0,0,r⟩::ks}/\Sz c n1 {s with cur:=l,ks:=⟨1,(p:Int),0,0,r⟩::ks}/\
  (U1.out=0->Ev c ks n3 {U1 with cur:=U1.cur++r,ks:=ks,nds:=A0 p U1} U/\Gd c {U1 with cur:=U1.cur++r,ks:=ks,nds:=A0 p U1}/\Sz c n3 {U1 with cur:=U1.cur++r,ks:=ks,nds:=A0 p U1}/\p<U1.nds.length/\U1.nds.length<=900000)/\(U1.out≠0->U=U1):=by
 have hm:dP c s={s with cur:=l,ks:=⟨1,(p:Int),0,0,r⟩::ks}:=by
  unfold dP;have lx:ndI s (p:Int)=(l,false):=by unfold ndI;rw [bC,hn];rfl
  have h1:hdI s.cur=(5,(p:Int)):=by rw [hc];rfl
  have h2:s.cur.tail=r:=by rw [hc];rfl
  simp only [h1,h2,lx];rw [aA trivial,ay (by simp),hk]
 obtain ⟨k',rfl,kW⟩:=jU he hg.out (fun h=>h.2.1 (by rw [hc];rfl));rw [hm] at kW;have Z7:(dP c s).out=0:=by rw [hm];exact hg.out
 obtain ⟨qX,fH⟩:=kK ht hp hg hs Z7;rw [hm] at qX fH;obtain ⟨rk,hi⟩:=qX.ii;obtain ⟨n1,n2,U1,Va,e1,e2⟩:=sl ht k' _ U [] rk hi rfl kW;by_cases ho:U1.out=0
 ·obtain ⟨eA,ry⟩:=Ia e1 ho;obtain ⟨n3,rfl,e3⟩:=jU e2 ho (fun h=>by rw [eA] at h;exact wv h.1);obtain ⟨Qn,UM⟩:=DM ht hp e1 qX (n2:=n3+1) (by rw [Va];exact fH) ho;have gK:dP c U1={U1 with cur:=U1.cur++r,ks:=ks,nds:=A0 p U1}:=by
   rw [zA ry];unfold lz;rw [eA];simp only;rw [aA trivial];unfold A0;rw [aA ho,bC]
  rw [gK] at e3;obtain ⟨hgR,hsR⟩:=kK ht hp Qn UM (by rw [gK];exact ho);rw [gK] at hgR hsR;have Cg:p<U1.nds.length:=by
   obtain ⟨rk2,lj⟩:=Qn.ii;have:=((lj.fr ⟨1,(p:Int),0,0,r⟩ (by rw [eA];simp)).2.1 rfl).2;simp only at this;omega
  refine ⟨n1,n3,U1,by omega,by omega,e1,qX,xJ fH (by omega),fun _=>⟨e3,hgR,hsR,Cg,?_⟩,fun h=>absurd ho h⟩
  have:=UM.nd;have:=UM.sb;omega
 ·obtain ⟨h0,rfl⟩:=vE e2 ho;exact ⟨n1,0,U,by omega,by omega,e1,qX,xJ fH (by omega),fun h=>absurd h ho,fun _=>rfl⟩
theorem H9 {ks:List Kf} {k:Nat} {s U:Im} {p:Int} {x y:Int×Int} {r:Ln} (he:Ev c ks k s U) (hk:s.ks=ks) (hg:Gd c s) (hs:Sz c k s) (hc:s.cur=(4,p)::x::y::r) (hw:eR p<=((x::y::r).length:Int)):
 ∃n1 n2 n3 U1 U2,n1<k/\n2<k/\n3<k/\Ev c (⟨2,0,p,0,y::r⟩::ks) n1 {s with cur:=[x],ks:=⟨2,0,p,0,y::r⟩::ks} U1/\Gd c {s with cur:=[x],ks:=⟨2,0,p,0,y::r⟩::ks}/\Sz c n1 {s with cur:=[x],ks:=⟨2,0,p,0,y::r⟩::ks}/\(U1.out=0->Gd c U1)/\
  (jJ U1=0->Ev c (⟨3,0,p,(hdI U1.cur).2,r⟩::ks) n2 {U1 with cur:=[y],ks:=⟨3,0,p,(hdI U1.cur).2,r⟩::ks} U2/\Gd c {U1 with cur:=[y],ks:=⟨3,0,p,(hdI U1.cur).2,r⟩::ks}/\Sz c n2 {U1 with cur:=[y],ks:=⟨3,0,p,(hdI U1.cur).2,r⟩::ks}/\(U2.out=0->Gd c U2/\U2.ks=⟨3,0,p,(hdI U1.cur).2,r⟩::ks/\0<=U2.stp))/\
  Ev c ks n3 (m9 c U1 U2) U/\((m9 c U1 U2).out=0->Gd c (m9 c U1 U2)/\Sz c n3 (m9 c U1 U2)/\(m9 c U1 U2).ks=ks):=by
 have hm:dP c s={s with cur:=[x],ks:=⟨2,0,p,0,y::r⟩::ks}:=by
  unfold dP;have h1:hdI s.cur=(4,p):=by rw [hc];rfl
  have h2:s.cur.tail=x::y::r:=by rw [hc];rfl
  simp only [h1,h2];rw [ay (by decide),ay (by decide),aA trivial,aA hw,hk];rfl
 obtain ⟨k',rfl,kW⟩:=jU he hg.out (fun h=>by
  have:=h.2.2.2.1 (by rw [hc];rfl);rw [hc] at this;have h2:hdI ((4,p)::x::y::r)=(4,p):=rfl;rw [h2] at this;simp only [cO] at this;omega)
 rw [hm] at kW;obtain ⟨qX,fH⟩:=kK ht hp hg hs (by rw [hm];exact hg.out);rw [hm] at qX fH;obtain ⟨rk,hi⟩:=qX.ii;obtain ⟨n1,m1,U1,Dq,e1,e2⟩:=sl ht k' _ U [] rk hi rfl kW;by_cases ho:U1.out=0
 ·obtain ⟨eA,ry⟩:=Ia e1 ho;obtain ⟨m2,rfl,e3⟩:=jU e2 ho (fun h=>by rw [eA] at h;exact wv h.1);obtain ⟨Qn,UM⟩:=DM ht hp e1 qX (n2:=m2+1) (by rw [Dq];exact fH) ho;have hd:dP c U1=lz c (hdI U1.cur) U1:=zA ry;by_cases M7:(hdI U1.cur).1=1
  ·have hz:jJ U1=0:=by unfold jJ;rw [aA ho,aA M7]
   have gK:dP c U1={U1 with cur:=[y],ks:=⟨3,0,p,(hdI U1.cur).2,r⟩::ks}:=by
    rw [hd];unfold lz;rw [eA];simp only;rw [ay (by decide),ay (by simpa using M7),aA trivial];rfl
   obtain ⟨qj,k9⟩:=kK ht hp Qn UM (by rw [gK];exact ho);rw [gK] at e3 qj k9;obtain ⟨rk2,lj⟩:=qj.ii;obtain ⟨n2,m3,U2,wH,e4,e5⟩:=sl ht m2 _ U [] rk2 lj rfl e3;by_cases mT:U2.out=0
   ·obtain ⟨eh,pD⟩:=Ia e4 mT;obtain ⟨m4,rfl,e6⟩:=jU e5 mT (fun h=>by rw [eh] at h;exact wv h.1);obtain ⟨yF,UL⟩:=DM ht hp e4 qj (n2:=m4+1) (by rw [wH];exact k9) mT;have jz:dP c U2=lz c (hdI U2.cur) U2:=zA pD;have Ck:m9 c U1 U2=dP c U2:=by
     unfold m9;rw [ay (fun h=>h hz)];by_cases Qe:(hdI U2.cur).1=1
     ·have eF:jJ U2=0:=by unfold jJ;rw [aA mT,aA Qe]
      rw [ay (fun h=>h eF),jz]
     ·have eF:jJ U2=3:=by unfold jJ;rw [aA mT,ay Qe]
      rw [aA (by rw [eF];decide),eF,jz];unfold lz;rw [eh];simp only;rw [ay (by decide),aA Qe]
    refine ⟨n1,n2,m4,U1,U2,by omega,by omega,by omega,e1,qX,xJ fH (by omega),fun _=>Qn,fun _=>⟨e4,qj,xJ k9 (by omega),fun _=>⟨yF,eh,UL.st⟩⟩,by rw [Ck];exact e6,fun h=>?_⟩
    rw [Ck] at h ⊢;obtain ⟨q1,q2⟩:=kK ht hp yF UL h;refine ⟨q1,q2,?_⟩
    rw [jz] at h ⊢;unfold lz at h ⊢;rw [eh] at h ⊢;simp only at h ⊢;rw [ay (by decide)] at h ⊢;split at h
    ·simp at h
    ·rename_i hq;rw [ay hq,ay (by decide)];rw [ay (by decide)] at h;split at h
     ·simp at h
     ·rename_i r9;rw [ay r9];split
      ·rfl
      ·split<;>rfl
   ·obtain ⟨h0,rfl⟩:=vE e5 mT;have eF:jJ U=U.out:=by unfold jJ;rw [ay mT]
    have Ck:m9 c U1 U=U:=by
     unfold m9;rw [ay (fun h=>h hz),aA (by rw [eF];exact mT),eF]
    refine ⟨n1,n2,0,U1,U,by omega,by omega,by omega,e1,qX,xJ fH (by omega),fun _=>Qn,fun _=>⟨e4,qj,xJ k9 (by omega),fun h=>absurd h mT⟩,by rw [Ck];exact ⟨rfl,.inl mT⟩,fun h=>by rw [Ck] at h;exact absurd h mT⟩
  ·have hz:jJ U1=3:=by unfold jJ;rw [aA ho,ay M7]
   have gK:dP c U1={U1 with out:=3}:=by
    rw [hd];unfold lz;rw [eA];simp only;rw [ay (by decide),aA M7]
   have Ck:m9 c U1 U1={U1 with out:=3}:=by
    unfold m9;rw [aA (by rw [hz];decide),hz]
   rw [gK] at e3;exact ⟨n1,0,m2,U1,U1,by omega,by omega,by omega,e1,qX,xJ fH (by omega),fun _=>Qn,fun h=>by rw [hz] at h;exact absurd h (by decide),by rw [Ck];exact e3,fun h=>by rw [Ck] at h;simp at h⟩
 ·obtain ⟨h0,rfl⟩:=vE e2 ho;have hz:jJ U=U.out:=by unfold jJ;rw [ay ho]
  have Ck:m9 c U U=U:=by
   unfold m9;rw [aA (by rw [hz];exact ho),hz]
  exact ⟨n1,0,0,U,U,by omega,by omega,by omega,e1,qX,xJ fH (by omega),fun h=>absurd h ho,fun h=>by rw [hz] at h;exact absurd h ho,by rw [Ck];exact ⟨rfl,.inl ho⟩,fun h=>by rw [Ck] at h;exact absurd h ho⟩
end
theorem iz (va vb:Value) (la lb:Ln) (T:Nat) (w:World) (ha:Rd w T va la) (hb:Rd w T vb lb) (hl:la.length+lb.length<=30000000):
 Calls Tryz.prog 159 #[va,vb] w fun e w'=>∃v,e=.returned v/\Below w.heap.size w w'/\w'.ownsRow w.heap.size 99 2 v (la++lb).length (acs (la++lb)):=by
 obtain ⟨i,hi,fp,dQ,eF⟩:=bE Tryz.infoAtom;obtain ⟨aa,ca,rfl⟩:=ha.form;obtain ⟨ab,cb,rfl⟩:=hb.form;have HA:Hid _:=ha;have HB:Hid _:=hb;cases aa with
 |none=>
  obtain ⟨rfl,GM,rfl⟩:=ha.isNone;cases ab with
  |none=>
   obtain ⟨rfl,lX,rfl⟩:=hb.isNone;go_enter Tryz.func159,Tryz.ntmps159
   go_wp2_with (at_builtin;go_must (refine wpList_append_own_none rfl _ _ _ rfl w.heap.size 99 i 2 Tryz.underlying100 hi (.slice none 0 0) 0 [] rfl (aM _ _ _ _) rfl ?_))
   go_ret
   exact ⟨_,rfl,ai _ _,aM _ _ _ _⟩
  |some ad=>
   go_enter Tryz.func159,Tryz.ntmps159
   go_wp2_with (at_builtin;go_must (first|refine wpList_append_own_none rfl _ _ _ rfl w.heap.size 99 i 2 Tryz.underlying100 hi (.slice none 0 0) 0 [] rfl (aM _ _ _ _) rfl ?_|refine wpList_append_own_at _ rfl _ _ _ rfl w.heap.size 99 i _ 2 16 Tryz.underlying100 hi fp dQ eF rfl (by omega) (.slice none 0 0) 0 [] rfl (aM _ _ _ _) _ _ _ (acs lb) rfl ?gS ?tj ?K6 ?Hq ?pP ?tG ?_))
   case gS=>exact iV lb
   case tj=>exact Rd.news HB.out
   case K6=>exact Be lb
   case Hq=>unfold maxLen;simp at hl;omega
   case pP=>simp at hl;omega
   case tG=>exact ah _
   intro v1 w1 dR Qm _ _;obtain ⟨o1,c1,rfl⟩:=aU dR;have bB:Below w.heap.size w w1:=(ai _ w).grown Qm (ah _) (fun k hk=>by cases hk);go_wp2_with fail
   go_ret
   refine ⟨_,rfl,bB,?_⟩
   exact dR
 |some ad=>
  go_enter Tryz.func159,Tryz.ntmps159
  go_wp2_with (at_builtin;go_must (refine wpList_append_own_at _ rfl _ _ _ rfl w.heap.size 99 i _ 2 16 Tryz.underlying100 hi fp dQ eF rfl (by omega) (.slice none 0 0) 0 [] rfl (aM _ _ _ _) _ _ _ (acs la) rfl ?zo ?PY ?WM ?ab5 ?KR ?QW ?_))
  case zo=>exact iV la
  case PY=>exact Rd.news HA.out
  case WM=>exact Be la
  case ab5=>unfold maxLen;omega
  case KR=>omega
  case QW=>exact ah _
  intro v1 w1 dR Qm _ _;have bB:Below w.heap.size w w1:=(ai _ w).grown Qm (ah _) (fun k hk=>by cases hk);have Ao:w1.ownsRow w.heap.size 99 2 v1 la.length (acs la):=by simpa using dR
  have HO:Hid _:=Ao;obtain ⟨o1,c1,rfl⟩:=aU Ao;have YT:Hid (Rd w1 T (.slice ab lb.length cb) lb):=hb.old bB;have fH:=bB.size;clear dR Ao;cases ab with
  |none=>
   obtain ⟨rfl,lX,rfl⟩:=hb.isNone;go_wp2_with (at_builtin;go_must (refine wpList_append_own_none rfl _ _ _ rfl w.heap.size 99 i 2 Tryz.underlying100 hi (.slice o1 la.length c1) la.length (acs la) rfl HO.out rfl ?_))
   go_ret
   refine ⟨_,rfl,bB,?_⟩
   rw [cA];exact HO.out
  |some ad2=>
   go_wp2_with (at_builtin;go_must (refine wpList_append_own_at _ rfl _ _ _ rfl w.heap.size 99 i _ 2 16 Tryz.underlying100 hi fp dQ eF rfl (by omega) (.slice o1 la.length c1) la.length (acs la) rfl HO.out _ _ _ (acs lb) rfl ?yC ?PX ?h14 ?ab4 ?KQ ?QV ?_))
   case yC=>exact iV lb
   case PX=>exact Rd.news YT.out
   case h14=>exact Be lb
   case ab4=>unfold maxLen;omega
   case KQ=>omega
   case QV=>exact fH
   intro v2 w2 b7 aau _ _;have bX:Below w.heap.size w w2:=bB.grown aau fH (fun k hk=>(World.ownsRow.lt HO.out k hk).1);obtain ⟨o2,c2,rfl⟩:=aU b7;go_wp2_with fail
   go_ret
   refine ⟨_,rfl,bX,?_⟩
   rw [au,show acs (la++lb)=acs la++acs lb by simp [acs]];exact b7
theorem Mm (p:Int) (w:World) (h0:0<=p) (h4:p<=4):Calls Tryz.prog 156 #[.int .i64 p] w fun e w'=>e=.returned (.int .i64 (eR p))/\w'=w:=by
 have HW:Hid (eR p=if 2<p then 4 else 2):=by
  show _=_
  unfold eR;by_cases h:2<p
  ·rw [aA h,aA (by omega)]
  ·rw [ay h,ay (by omega)]
 rw [HW.out];by_cases h:2<p
 ·have hd:decide (2<p)=true:=by simpa using h
  rw [aA h];go_enter Tryz.func156,Tryz.ntmps156
  go_wp2_with fail
  go_ret
  exact ⟨rfl,rfl⟩
 ·have hd:decide (2<p)=false:=by simpa using h
  rw [ay h];go_enter Tryz.func156,Tryz.ntmps156
  go_wp2_with fail
  go_ret
  exact ⟨rfl,rfl⟩
theorem adw (p x y:Int) (w:World) (hx: -1000000000<=x/\x<=1000000000) (hy: -1000000000<=y/\y<=1000000000):Calls Tryz.prog 186 #[.int .i64 p,.int .i64 x,.int .i64 y] w fun e w'=>e=.returned (.int .i64 (iD p x y))/\w'=w:=by
 have hm: -1000000000000000000<=x*y/\x*y<=1000000000000000000:=by
  have h:(x*y).natAbs<=1000000000*1000000000:=by
   rw [Int.natAbs_mul];exact Nat.mul_le_mul (by omega) (by omega)
  omega
 by_cases h0:p=0
 ·subst h0;go_enter Tryz.func186,Tryz.ntmps186
  go_wp2_with fail
  go_ret
  exact ⟨rfl,rfl⟩
 ·by_cases h1:p=1
  ·subst h1;go_enter Tryz.func186,Tryz.ntmps186
   go_wp2_with fail
   go_ret
   exact ⟨rfl,rfl⟩
  ·have HV:Hid (iD p x y=x*y):=by show _=_;unfold iD;rw [ay h0,ay h1]
   have e0:(p==0)=false:=by simpa using h0
   have e1:(p==1)=false:=by simpa using h1
   rw [HV.out];go_enter Tryz.func186,Tryz.ntmps186
   go_wp2_with fail
   go_ret
   exact ⟨rfl,rfl⟩
def bls (l:List Bool):List Value:=l.map Value.bool
theorem Rx (l:List Bool) (k:Nat) (h:k<l.length):cT (l.take (k+1))=cT (l.take k)+(if l[k] then 1 else 0):=by
 rw [aT h];have app:∀a b:List Bool,cT (a++b)=cT a+cT b:=by
  intro a;induction a with
  |nil=>intro b;simp [cT]
  |cons x a ih=>intro b;rw [eO,cT,cT,ih];omega
 rw [app];simp [cT]
theorem Mu (b n cap:Nat) (S:List Bool) (w:World) (hn:n=S.length) (hr:w.ownsRow 0 4 1 (.slice (some ⟨b,0,none⟩) n cap) n (bls S)) (hl:S.length<=10000000):
 Calls Tryz.prog 200 #[.slice (some ⟨b,0,none⟩) n cap] w fun e w'=>e=.returned (.int .i64 (cT S:Nat))/\w'=w:=by
 subst hn;have jb:=fY hr;go_enter Tryz.func200,Tryz.ntmps200
 go_wp2_with fail
 go_loopw [3,4] (fun y z wr=>∃k:Nat,k<=S.length/\z=.int .i64 k/\y=.int .i64 (cT (S.take k):Nat)/\wr=w) (fun _ z _=>S.length-(intOf z).toNat)
 case atStart=>exact ⟨0,by omega,rfl,rfl,rfl⟩
 case round=>
  obtain ⟨k,hk,rfl,rfl,rfl⟩:=hrel;have hct:cT (S.take k)<=k:=aJ (LB _) (by rw [cF];omega);by_cases jk:k<S.length
  ·have hc:wr.cell? ⟨b,k,none⟩=some (.bool S[k]):=aH hr k _ (by simp [bls,jk]);have HS:Hid (cT (S.take (k+1))=cT (S.take k)+(if S[k] then 1 else 0)):=Rx S k jk;generalize cT (S.take k)=m at*;cases hb:S[k]
   ·rw [hb] at hc HS;go_wp2_with fail
    go_roundw
    case rel=>exact ⟨k+1,by omega,by go_num,by rw [HS.out];rfl,trivial⟩
    case measure=>simp [intOf];omega
   ·rw [hb] at hc HS;go_wp2_with fail
    go_roundw
    case rel=>exact ⟨k+1,by omega,by go_num,by rw [HS.out];go_num,trivial⟩
    case measure=>simp [intOf];omega
  ·have eh:k=S.length:=by omega
   have HS:Hid (cT (S.take k)=cT S):=by rw [eh,bA];exact rfl
   have HK:Hid (k=S.length):=eh;have M7:decide ((k:Int)<(S.length:Int))=false:=bn (by omega);clear eh;generalize cT (S.take k)=m at*;go_wp2_with fail
   go_ret
   exact ⟨by rw [HS.out];rfl,rfl⟩
theorem IC (S:List Bool) (k:Nat):(bls S).set k (.bool true)=bls (S.set k true):=by unfold bls;rw [List.map_set]
theorem JS (l:Ln) (S:List Bool) (k:Nat) (h:k<l.length):mrk (l.take (k+1)) S=(if l[k].1=5 then (mrk (l.take k) S).set l[k].2.toNat true else mrk (l.take k) S):=by
 rw [aT h,FW];rfl
theorem ID (S:List Bool) (k:Nat) (h:k<S.length):(bls S)[k]?=some (.bool S[k]):=by simp [bls,h]
theorem FF (lv:Value) (l:Ln) (b n cap B T:Nat) (S:List Bool) (w:World) (hl:Rd w T lv l) (hn:n=S.length) (hr:w.ownsRow B 4 1 (.slice (some ⟨b,0,none⟩) n cap) n (bls S)) (hv:∀a∈l,a.1=5->0<=a.2/\a.2<S.length) (hT:T<=b) (un:l.length<=10000000):
 Calls Tryz.prog 199 #[lv,.slice (some ⟨b,0,none⟩) n cap] w fun e w'=>e=.returned (.tuple #[])/\But b w w'/\w'.ownsRow B 4 1 (.slice (some ⟨b,0,none⟩) n cap) n (bls (mrk l S)):=by
 subst hn;have jb:=fY hr;obtain ⟨cs,We⟩:=JF hr;have gZ:=(ae.1 We).1;have HL:Hid (Rd w T lv l):=hl;obtain ⟨a,lcap,rfl⟩:=hl.form;have HN:Hid (∀lb off,a=some ⟨lb,off,none⟩->0<l.length->lb≠b):=by
  intro lb off e h0 e2;subst e2;subst e;obtain ⟨a',cap',h1,_,_,_,h4⟩:=hl;cases h1
  rcases h4 with h4|⟨b',off',e',_,hb,_⟩
  ·omega
  cases e'
  rcases hb with hb|⟨ds,hb⟩
  ·omega
  ·rw [We] at hb;simp at hb
 clear hl;go_enter Tryz.func199,Tryz.ntmps199
 go_wp2_with fail
 go_loopw [4] (fun z wr=>∃k:Nat,k<=l.length/\z=.int .i64 k/\w.heap.size<=wr.heap.size/\Hid (But b w wr)/\Hid (wr.ownsRow B 4 1 (.slice (some ⟨b,0,none⟩) S.length cap) S.length (bls (mrk (l.take k) S)))) (fun z _=>l.length-(intOf z).toNat)
 case atStart=>exact ⟨0,by omega,rfl,ah _,But.refl _ _,hr⟩
 case round=>
  obtain ⟨k,hk,rfl,iG,HB,HR⟩:=hrel;clear hr We;by_cases jk:k<l.length
  ·obtain ⟨lb,off,c2,e,ur⟩:=HL.out.isSome (by omega);cases e
   have dI:=HN.out lb off rfl (by omega);have hc:=Rd.at HL.out k jk;have MT:=HB.out.oth lb ur dI;rw [<-jL MT,<-jL MT] at hc;obtain ⟨c0,c1⟩:=hc;have Jd:lb<wr.heap.size:=by omega
   have kH:b<wr.heap.size:=by omega
   have HM:Hid _:=JS l S k jk;have zu:Hid _:=lh (l.take k) S;have hvk:=hv l[k] (aE jk);generalize l[k]=at_ at*;obtain ⟨ka,na⟩:=at_;simp only at c0 c1 hvk HM;by_cases h5:ka=5
   ·subst h5;obtain ⟨Ph,ry⟩:=hvk rfl;obtain ⟨m,rfl⟩:=aZ Ph;have hm:m<S.length:=by omega
    have d0:wr.cell? ⟨b,m,none⟩=some (.bool ((mrk (l.take k) S)[m]'(by rw [zu.out];exact hm))):=aH HR.out m _ (ID _ _ (by rw [zu.out];exact hm));have f0:=To HR.out m;have gT:Hid _:=i8 (j:=m) (.bool true) HR.out;rw [IC] at gT;rw [aA rfl,bC] at HM;generalize mrk (l.take k) S=M at*;go_wp2_with fail
    go_roundw
    case rel=>exact ⟨k+1,by omega,by go_num,by simp [World.setCell];omega,HB.out.set,by rw [HM.out];exact gT.out⟩
    case measure=>simp [intOf];omega
   ·have yP:(ka==5)=false:=by simpa using h5
    rw [ay h5] at HM;generalize mrk (l.take k) S=M at*;go_wp2_with fail
    go_roundw
    case rel=>exact ⟨k+1,by omega,by go_num,iG,HB.out,by rw [HM.out];exact HR.out⟩
    case measure=>simp [intOf];omega
  ·have HK:Hid (l.take k=l):=bN (by omega);have M7:decide ((k:Int)<(l.length:Int))=false:=bn (by omega);go_wp2_with fail
   refine bH (v:=.tuple #[]) (by simp [results,Tryz.results199,go_sem]) rfl ⟨rfl,HB.out,?_⟩
   have:=HR.out;rw [HK.out] at this;exact this
structure Cx (nm:List Tk) (ds:List Df) (c:Cf):Prop where
 hp:c.hp=24000
 bud:c.bud<=2000
 len:c.fs.length=ds.length
 dl:ds.length<=1000
 tp:∀(F:Nat) (d:Df) (t:Tp),ds[F]?=some d->c.fs[F]?=some t->t.ar=(d.ps.length:Int)/\d.ps.length<=1000/\d.body.length<=1000/\∀h a,d.body=h::At.toks a->dZ h->a.ok->t.ls=gx (aX d.ps nm) (.sim h a) 0::dC (aX d.ps nm) (.sim h a) 0
def W4 (T g:Nat) (fv:Value) (nm:List Tk) (ds:List Df) (c:Cf) (n:Nat):Prop:=∀(s U:Im) (w:World) (iv:Value) (l:Ln) (D:List Dl) (ρ:List Nat),Ev c s.ks n s U->Gd c s->Sz c n s->SnP w T g fv nm ds c.bud D s.stp 0->Smr nm D ρ s.nds (iZ s.ks)->vL D.length l->imL ρ l=s.cur->Rd w T iv l->
 Calls Tryz.prog 121 #[.pointer (some ⟨g,0,none⟩),iv] w fun e w'=>∃v D' ρ' l',e=.returned v/\Fx T w w'/\SnP w' T g fv nm ds c.bud D' U.stp U.out/\Exd D D' ρ ρ'/\Rd w' T v l'/\l'.length<=9000000/\(U.out=0->imL ρ' l'=U.cur/\vL D'.length l'/\Smr nm D' ρ' U.nds (iZ s.ks))
theorem aaP (ρ:List Nat) {l:Ln} (h:l≠[]):hdI (imL ρ l)=imA ρ (hdI l):=by
 cases l with
 |nil=>exact absurd rfl h
 |cons a b=>rfl
theorem Smr.le {nm:List Tk} {D:List Dl} {ρ:List Nat} {nds:List (Ln×Bool)} {ops:List Int} (h:Smr nm D ρ nds ops):D.length<=nds.length:=by
 have lx:ρ.Nodup:=by
  unfold List.Nodup;rw [List.pairwise_iff_getElem];intro i j hi hj xr he;have pL:i<D.length:=by have:=h.len;omega
  have Qg:j<D.length:=by have:=h.len;omega
  have:=h.dj i j _ _ ρ[i] ρ[j] (aj pL) (aj Qg) (aj hi) (aj hj) (by omega);omega
 have:=px ρ (List.range nds.length) lx (fun x hx=>by
  obtain ⟨i,hi⟩:=List.getElem?_of_mem hx;have ly:=(aP.1 hi).1;have:=h.lt i _ x (aj (by have:=h.len;omega)) hi;rw [go];omega)
 rw [List.length_range,h.len] at this;exact this
theorem Ic (T g:Nat) (fv:Value) (nm:List Tk) (ds:List Df) (c:Cf) (n:Nat) (ym:W4 T g fv nm ds c n) (s U:Im) (f:Kf) (ks:List Kf) (x:Int×Int) (w:World) (D:List Dl) (ρ:List Nat) (jS:s.cur=[imA ρ x]) (nM:s.ks=f::ks) (hf:f.k≠1) (he:Ev c s.ks n s U) (hg:Gd c s) (hs:Sz c n s)
 (hw:SnP w T g fv nm ds c.bud D s.stp 0) (nB:Smr nm D ρ s.nds (iZ ks)) (hv:vA D.length x) (I6:U.out=0->U.cur≠[]):
 Calls Tryz.prog 189 #[.pointer (some ⟨g,0,none⟩),.agg #[.int .i64 x.1,.int .i64 x.2]] w fun e w'=>∃(r:Int) (D':List Dl) (ρ':List Nat),e=.returned (.int .i64 r)/\Fx T w w'/\SnP w' T g fv nm ds c.bud D' U.stp (jJ U)/\Exd D D' ρ ρ'/\(jJ U=0->r=(hdI U.cur).2/\Smr nm D' ρ' U.nds (iZ ks)):=by
 obtain ⟨x1,x2⟩:=x;have mZ:T<=w.heap.size:=by obtain ⟨av,vs,h⟩:=hw;exact h.hT
 have gU:Hid (Below w.heap.size w ((w.alloc (Obj.cells #[.int .i64 x1,.int .i64 x2] 99)).alloc (Obj.cells #[.int .i64 x1,.int .i64 x2] 99))):=eU _ _ _;have Jo:Hid (Rd ((w.alloc (Obj.cells #[.int .i64 x1,.int .i64 x2] 99)).alloc (Obj.cells #[.int .i64 x1,.int .i64 x2] 99)) T (.slice (some ⟨w.heap.size+1,0,none⟩) 1 1) [(x1,x2)]):=by
  have:=fg (w.alloc (Obj.cells #[.int .i64 x1,.int .i64 x2] 99)) #[.int .i64 x1,.int .i64 x2] 1 (e:=99) (base:=0) (size:=2) (aF _) (by unfold maxLen;omega) rfl;rw [bT] at this;exact Rd.own (l:=[(x1,x2)]) this
 have rC:iZ s.ks=iZ ks:=by rw [nM];exact zV ks hf
 have HC:Hid _:=ym s U _ _ [(x1,x2)] D ρ he hg hs (SnP.old hw gU.out) (by rw [rC];exact nB) (vL.cons hv (vL.nil _)) (by rw [jS];rfl) Jo.out;rw [rC] at HC;clear hw;go_enter Tryz.func189,Tryz.ntmps189
 go_wp2_with fail
 refine (show Calls _ _ _ _ _ from HC.out).mono ?_
 rintro e w7 ⟨v,D',ρ',l',rfl,Sx,t9,Sy,Ja,_,hu7⟩
 clear HC;have XE:Hid (Fx T w w7):=(Fx.of gU.out mZ).trans Sx;have HEX:Hid _:=Sy;have HU7:Hid _:=hu7;obtain ⟨av7,vs7,t9⟩:=t9;obtain ⟨_,_,_,_,d4⟩:=t9.cells;have e4:=t9.fz 4;have hg7:=t9.lt;have IS:Hid _:=t9.setOut 3;have HW7:Hid _:=t9;have HUN:Hid _:=I6;obtain ⟨vo,vc,rfl⟩:=Ja.form;clear t9 Sx Sy hu7 I6;by_cases hU:U.out=0
 ·obtain ⟨h1,h2,h3⟩:=HU7.out hU;have dI:l'≠[]:=fun e=>HUN.out hU (by rw [<-h1,e];rfl)
  obtain ⟨y,r,rfl⟩:∃y r,l'=y::r:=by
   cases l' with
   |nil=>exact absurd rfl dI
   |cons a b=>exact ⟨a,b,rfl⟩
  obtain ⟨y1,y2⟩:=y;obtain ⟨ib,ioff,icap,Kx,Dv⟩:=Ja.isSome (by simp);cases Kx
  obtain ⟨a0,a1⟩:=Rd.at Ja 0 (by simp);simp only [bQ,fA,cy,aD] at a0 a1 ⊢;have oE:hdI U.cur=imA ρ' (y1,y2):=by rw [<-h1];rfl
  rw [hU] at d4;by_cases hk:y1=1
  ·subst hk;have HH:Hid (hdI U.cur=(1,y2)):=oE;have HZ:Hid (jJ U=0):=by show _=_;unfold jJ;rw [aA hU,HH.out];rfl
   have uc:Hid _:=h3;clear h1 h2 h3 oE Ja dI;go_wp2_with fail
   go_ret
   exact ⟨y2,D',ρ',rfl,XE.out,by rw [HZ.out];rw [hU] at HW7;exact ⟨_,_,HW7.out⟩,HEX.out,fun _=>⟨by rw [HH.out],uc.out⟩⟩
  ·have eh:(y1==1)=false:=by simpa using hk
   have HZ:Hid (jJ U=3):=by show _=_;unfold jJ;rw [aA hU,ay (by rw [oE,J8];exact hk)]
   clear h1 h2 h3 oE Ja dI;go_wp2_with fail
   go_ret
   exact ⟨0,D',ρ',rfl,XE.out.trans IS.out.1,by rw [HZ.out];exact ⟨_,_,IS.out.2⟩,HEX.out,fun h=>by rw [HZ.out] at h;simp at h⟩
 ·have EK:(U.out==0)=false:=by simpa using hU
  have HZ:Hid (jJ U=U.out):=by show _=_;unfold jJ;rw [ay hU]
  clear Ja;generalize l'.length=ln at*;go_wp2_with fail
  go_ret
  exact ⟨0,D',ρ',rfl,XE.out,by rw [HZ.out];exact ⟨_,_,HW7.out⟩,HEX.out,fun h=>by rw [HZ.out] at h;exact absurd h hU⟩
end Go.Proofs.YtnndoagpbcacdabGreatDoor
