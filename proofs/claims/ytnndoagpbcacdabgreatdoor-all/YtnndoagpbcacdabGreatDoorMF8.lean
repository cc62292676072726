import Derived.Test.YtnndoagpbcacdabGreatDoorMF5
import Derived.Test.YtnndoagpbcacdabGreatDoorMK5
import Derived.Test.YtnndoagpbcacdabGreatDoorMJ1b
import Derived.Test.YtnndoagpbcacdabGreatDoorMS1
namespace Go.Proofs.YtnndoagpbcacdabGreatDoor
set_option maxHeartbeats 8000000
set_option maxRecDepth 100000
open Go.RowKit
theorem A9 {rk:Int->Nat}:∀{ks:List Kf} {q:Int},RkK rk ks->Bl rk ks q->∀o∈gA ks,rk q<rk o
 |[],q,_,_,o,ho=>by simp [gA] at ho
 |f::ks,q,hk,hb,o,ho=>by
  obtain ⟨h1,h2,h3⟩:=hk;by_cases hf:f.k=1
  ·have hq:rk q<rk f.nd:=hb f.nd (by unfold nxO;rw [aA hf]);unfold gA at ho;rw [dy,aA hf,eJ] at ho;rcases aK.1 ho with rfl|ho
   ·exact hq
   ·exact Nat.lt_trans hq (A9 h3 (h2 hf) o ho)
  ·unfold gA at ho;rw [dy,ay hf,di] at ho;exact A9 h3 (fun n hn=>hb n (by unfold nxO;rw [ay hf];exact hn)) o ho
theorem not_open {c:Cf} {rk:Int->Nat} {s:Im} (hi:Ii c rk s) {p:Int} {r:Ln} (hc:s.cur=(5,p)::r):p∉iZ s.ks:=fun h=>by
 unfold iZ at h;rw [eN] at h;have:rk p<rk p:=A9 hi.kb (hi.cb (5,p) (by rw [hc];simp) rfl) p h;omega
theorem Ti {nm:List Tk} {D:List Dl} {ρ:List Nat} {nds:List (Ln×Bool)} {ops:List Int} (h:Smr nm D ρ nds ops) {x:Int} (hv:vA D.length (5,x)):∃(n p:Nat) (d:Dl),x=(n:Int)/\n<D.length/\D[n]?=some d/\ρ[n]?=some p/\imA ρ (5,x)=(5,(p:Int)):=by
 obtain ⟨h0,h1⟩:=hv rfl;simp only at h0 h1;obtain ⟨n,rfl⟩:=aZ h0;have hn:n<D.length:=by omega
 have hr:n<ρ.length:=by have:=h.len;omega
 refine ⟨n,ρ[n],D[n],rfl,hn,aj hn,aj hr,?_⟩
 unfold imA;rw [aA rfl];simp only [bC];rw [aj hr];rfl
theorem WR (T g:Nat) (fv:Value) (nm:List Tk) (ds:List Df) (c:Cf) (Dz:Cx nm ds c) (ht:∀t∈c.fs,TGo c t) (hp:∀t∈c.fs,TPg t):∀n,W4 T g fv nm ds c n:=by
 intro n;induction n using Nat.strongRecOn with
 |ind n ih=>
  intro s U w iv l D ρ he hg hs hw nB qh yx hr;have vI:Hid _:=ih;clear ih;have lm:=Dz.bud;obtain ⟨ks,nM⟩:∃ks,ks=s.ks:=⟨_,rfl⟩;rw [<-nM] at he nB ⊢;obtain ⟨io,ic,rfl⟩:=hr.form;have HE:Hid _:=he;have HG:Hid _:=hg;have HS:Hid _:=hs;have HW:Hid _:=hw;have HR:Hid _:=hr;have mD:Hid _:=nB;have Xc:Hid _:=qh;have zu:Hid _:=yx;have HK:Hid (s.ks=ks):=nM.symm;have Sb:Hid _:=Dz;obtain ⟨cn,DA⟩:∃cn,cn=l.length:=⟨_,rfl⟩;rw [<-DA];clear he hg hs hw hr nM nB qh yx Dz;have EW:Hid (cn=l.length):=DA;clear DA;go_enter Tryz.func121,Tryz.ntmps121
  go_wp2_with fail
  go_loopg [1] n (fun k y wr=>k<=n/\∃(s':Im) (l':Ln) (D':List Dl) (ρ':List Nat),Hid (Fx T w wr)/\Hid (SnP wr T g fv nm ds c.bud D' s'.stp s'.out)/\Hid (Ev c ks k s' U)/\Hid (Exd D D' ρ ρ')/\Hid (Rd wr T y l')/\Hid (s'.out=0->Gd c s'/\Sz c k s'/\s'.ks=ks/\imL ρ' l'=s'.cur/\vL D'.length l'/\Smr nm D' ρ' s'.nds (iZ ks)))
  case atStart=>exact ⟨ah _,s,l,D,ρ,Fx.refl _ _,by rw [HG.out.out];exact HW.out,HE.out,Exd.refl _ _,by rw [EW.out];exact HR.out,fun _=>⟨HG.out,HS.out,HK.out,zu.out,Xc.out,mD.out⟩⟩
  case round=>
   clear HE HG HS HW HR HK mD Xc zu EW;obtain ⟨Qd,s',l',D',ρ',HF,HW,HE,HX,j7,HI⟩:=hrel;obtain ⟨av,vs,hw⟩:=HW.out;obtain ⟨c0,_,_,_,c4⟩:=hw.cells;have e4:=hw.fz 4;have qH:=hw.lt;have mZ:=hw.hT;have pN:=hw.fu;have IS:Hid _:=hw.setOut 3;clear hw;by_cases ho:s'.out=0
   ·obtain ⟨hg,hs,hk,yx,qh,nB⟩:=HI.out ho;rw [ho] at c4;obtain ⟨rk,hi⟩:=hg.ii;obtain ⟨x,r,hl⟩:∃x r,l'=x::r:=by
     cases hq:l' with
     |nil=>rw [hq] at yx;exact absurd yx.symm hi.ne
     |cons a b=>exact ⟨a,b,rfl⟩
    subst hl;have oB:=j7.out;obtain ⟨ib,ioff,icap,hy,Dv⟩:=oB.isSome (by simp);subst hy;obtain ⟨a0,a1⟩:=Rd.at oB 0 (by simp);simp only [bQ,fA,cy,aD] at a0 a1 ⊢;obtain ⟨_,AL,wN⟩:=Rd.cap oB;simp only [aD] at AL;unfold maxLen at wN;have jS:s'.cur=imA ρ' x::imL ρ' r:=yx.symm;have MW:=hg.pg.cur (imA ρ' x) (by rw [jS];simp);have lV:r.length<=8000000:=by have:=hs.tot;unfold n9 at this;rw [jS] at this;simp [ky] at this;omega
    obtain ⟨x1,x2⟩:=x;simp only at a0 a1;have et:vL D'.length r:=qh.sub (fun z hz=>by simp [hz]);have Uo:vA D'.length (x1,x2):=qh _ (by simp);have gf:Hid (s'.cur=imA ρ' (x1,x2)::imL ρ' r):=jS;have HO:Hid (s'.out=0):=ho;have HG:Hid (Gd c s'):=hg;have HS:Hid (Sz c gk s'):=hs;have HK:Hid (s'.ks=ks):=hk;have R4:Hid (Ii c rk s'):=hi;have mD:Hid _:=nB;have Xc:Hid _:=qh;have LU:Hid _:=et;have HVX:Hid _:=Uo;have YI:Hid _:=nB.len;have IP:Hid (∀w',Fx T wr w'->Rd w' T (.slice (some ⟨ib,ioff,none⟩) (r.length+1) icap) ((x1,x2)::r)):=fun w' hf=>oB.keep hf
    have gU:Hid (Fx T wr (wr.alloc (Obj.cells #[.int .i64 x1,.int .i64 x2] 99))):=Fx.of (bM _ _) mZ;have vG:Hid (SnP (wr.alloc (Obj.cells #[.int .i64 x1,.int .i64 x2] 99)) T g fv nm ds c.bud D' s'.stp 0):=by
     have:=SnP.old HW.out (bM wr (Obj.cells #[.int .i64 x1,.int .i64 x2] 99));rw [ho] at this;exact this
    have HFV:Hid (U=s'->∀w',Fx T wr w'->SnP w' T g fv nm ds c.bud D' s'.stp 0->∃v D2 ρ2 l2,(.slice (some ⟨ib,ioff,none⟩) (r.length+1) icap:Value)=v/\Fx T w w'/\SnP w' T g fv nm ds c.bud D2 U.stp U.out/\Exd D D2 ρ ρ2/\Rd w' T v l2/\l2.length<=9000000/\(U.out=0->imL ρ2 l2=U.cur/\vL D2.length l2/\Smr nm D2 ρ2 U.nds (iZ ks))):=fun hU w' q1 q2=>⟨_,D',ρ',(x1,x2)::r,rfl,HF.out.trans q1,by rw [hU,ho];exact q2,HX.out,IP.out w' q1,by simp;omega,fun _=>by rw [hU];exact ⟨yx,Xc.out,mD.out⟩⟩
    have hpk:(imA ρ' (x1,x2)).1=x1:=J8 _ _;unfold PI at MW;rw [hpk] at MW;clear jS ho hg hs hk hi oB HI yx qh nB et Uo hpk j7;rcases MW with h1|h3|⟨h4,lK,vh⟩|h5
    ·subst h1;have ue:Hid (imA ρ' (1,x2)=(1,x2)):=yd (by simp);by_cases hz:r.length=0
     ·have HU:Hid (U=s'):=(vD HE.out HK.out (by rw [gf.out,ue.out];exact ⟨by simp [hdI],by simp [hdI],by simp [hdI],fun _ _=>by simp [ky,hz]⟩)).2;have hd:decide ((0:Int)<(r.length:Int))=false:=bn (by omega);have X3:¬(0:Int)<(r.length:Int):=by omega
      have HZ:Hid (r.length=0):=hz;clear hz;go_wp2_with fail
      go_ret
      obtain ⟨v,D2,ρ2,l2,rfl,h2⟩:=HFV.out HU.out _ gU.out vG.out
      first
       |exact ⟨_,D2,ρ2,l2,rfl,h2⟩
       |(obtain ⟨q1,q2,q3,q4,q5,q6⟩:=h2;exact ⟨_,rfl,q1,D2,q2,ρ2,q3,l2,q4,q5,q6⟩)
     ·obtain ⟨k',vk,kW⟩:=jU HE.out HO.out (fun h=>hz (by
       have:=h.2.2.2.2 (by rw [gf.out,ue.out];simp [hdI]) (by rw [gf.out,ue.out];simp [hdI]);rw [gf.out] at this;simpa [ky] using this))
      have hm:dP c s'={s' with out:=3}:=by
       unfold dP;have h1:hdI s'.cur=(1,x2):=by rw [gf.out,ue.out];rfl
       have h2:s'.cur.tail=imL ρ' r:=by rw [gf.out];rfl
       simp only [h1,h2];rw [ay (by decide),ay (by decide),ay (by decide),aA (by rw [ky];omega)]
      rw [hm] at kW;have IY:Hid _:=kW;have hd:decide ((0:Int)<(r.length:Int))=true:=bG (by omega);have Xy:Hid (Fx T wr ((wr.setCell ⟨g,4,none⟩ (.int .i64 3)).alloc (Obj.cells #[.int .i64 1,.int .i64 x2] 99))):=IS.out.1.trans (Fx.of (bM _ _) (by rw [gX];exact mZ));clear kW hm;subst vk;go_wp2_with fail
      go_roundg k'
      case measure=>omega
      case rel=>exact ⟨by omega,{s' with out:=3},(1,x2)::r,D',ρ',HF.out.trans Xy.out,SnP.old ⟨_,_,IS.out.2⟩ (bM _ _),IY.out,HX.out,IP.out _ Xy.out,fun h=>by simp at h⟩
    ·subst h3;have ue:Hid (imA ρ' (3,x2)=(3,x2)):=yd (by simp);have lY:=(R4.out.it (3,x2) (by rw [gf.out,ue.out];simp)).2.1 rfl;obtain ⟨F,rfl⟩:=aZ lY.1;have Cp:F<c.fs.length:=by have:=lY.2;omega
     have hFd:F<ds.length:=by have:=Sb.out.len;omega
     have oG:=Sb.out.dl;obtain ⟨t,Pj⟩:∃t,c.fs[F]?=some t:=⟨_,aj Cp⟩;obtain ⟨d,G6⟩:∃d,ds[F]?=some d:=⟨_,aj hFd⟩;have yg:=Tf Pj;obtain ⟨Uz,VU,_,_⟩:=Sb.out.tp F d t G6 Pj;obtain ⟨xs,oS,mq,tA⟩:=pN;have tC:ds[F]=d:=by rw [aj hFd] at G6;exact Option.some.inj G6
     obtain ⟨psv,bv,y0,y1,y2,qI⟩:=gO.at tA F hFd;rw [tC] at y0 qI;have fU:=qI.prow;obtain ⟨po,pc,rfl⟩:=aU fU;obtain ⟨qf,capf,rfl,_,ZK⟩:=oS.form (by omega);have f1:=aH oS _ _ y1;have V4:=fY oS;clear oS mq tA qI fU y0 y1 y2 tC;have p8:Hid _:=yg;have SZ:Hid _:=Uz;have HTF:Hid _:=Pj;have HDF:Hid _:=G6;clear yg Uz Pj G6;by_cases bF:(r.length:Int)<(d.ps.length:Int)
     ·have HU:Hid (U=s'):=(vD HE.out HK.out (by rw [gf.out,ue.out];exact ⟨by simp [hdI],fun _=>by simp only [hdI,db,cO];rw [p8.out,SZ.out,ky];exact bF,by simp [hdI],fun h=>by simp [hdI] at h⟩)).2;have hd:decide ((d.ps.length:Int)<=(r.length:Int))=false:=bn (by omega);go_wp2_with fail
      go_region
      all_goals
       go_wp2_with fail
       go_ret
       obtain ⟨v,D2,ρ2,l2,rfl,h2⟩:=HFV.out HU.out _ gU.out.drew (SnP.old vG.out (aR (ai _ _)))
       first
        |exact ⟨_,D2,ρ2,l2,rfl,h2⟩
        |(obtain ⟨q1,q2,q3,q4,q5,q6⟩:=h2;exact ⟨_,rfl,q1,D2,q2,ρ2,q3,l2,q4,q5,q6⟩)
     ·have hd:decide ((d.ps.length:Int)<=(r.length:Int))=true:=bG (by omega);have hm:dP c s'=eX c t (imL ρ' r) s':=by
       unfold dP;have h1:hdI s'.cur=(3,(F:Int)):=by rw [gf.out,ue.out];rfl
       have h2:s'.cur.tail=imL ρ' r:=by rw [gf.out];rfl
       simp only [h1,h2];rw [ay (by decide),aA trivial,p8.out,aA (by rw [SZ.out,ky];omega)]
      obtain ⟨k',vk,kW⟩:=jU HE.out HO.out (fun h=>by
       have:=h.2.2.1 (by rw [gf.out,ue.out];rfl);rw [gf.out,ue.out] at this;simp only [hdI,db,cO] at this;rw [p8.out,SZ.out,ky] at this;exact bF this)
      rw [hm] at kW;have IY:Hid _:=kW;have HN:Hid ((eX c t (imL ρ' r) s').out=0->Gd c (eX c t (imL ρ' r) s')/\Sz c k' (eX c t (imL ρ' r) s')):=fun h=>by
       have:=kK ht hp HG.out (n:=k') (by rw [<-vk];exact HS.out) (by rw [hm];exact h);rw [hm] at this;exact this
      have HC:Hid _:=Rq T g _ nm ds c s' (wr.alloc (Obj.cells #[.int .i64 3,.int .i64 (F:Int)] 99)).drew _ F r D' ρ' t d Sb.out HTF.out HDF.out (ht _ (bm HTF.out)) HO.out HS.out.st HS.out.nd (SnP.old vG.out (aR (ai _ _))) (by rw [HK.out];exact mD.out) LU.out (IP.out _ gU.out.drew) (by omega) (by omega);rw [HK.out] at HC;have HKC:Hid ((eX c t (imL ρ' r) s').ks=ks):=by show _=_;rw [xb];exact HK.out
      clear kW hm;generalize eX c t (imL ρ' r) s'=S2 at*;subst vk;go_wp2_with fail
      go_region
      go_wp2_with fail
      refine (show Calls _ _ _ _ _ from HC.out).mono ?_
      rintro e w3 ⟨v3,D3,ρ3,l3,rfl,mq,kB,Sh,ld,I7⟩
      clear HC;go_wp2_with fail
      go_roundg k'
      case measure=>omega
      case rel=>exact ⟨by omega,S2,l3,D3,ρ3,(HF.out.trans gU.out.drew).trans mq,kB,IY.out,HX.out.trans Sh,ld,fun h=>⟨(HN.out h).1,(HN.out h).2,HKC.out,(I7 h).1,(I7 h).2.1,(I7 h).2.2⟩⟩
    ·subst h4;have ue:Hid (imA ρ' (4,x2)=(4,x2)):=yd (by simp);rw [ue.out] at lK vh;simp only at lK vh;have Xb:Hid (∀w',Calls Tryz.prog 156 #[.int .i64 x2] w' fun e w''=>e=.returned (.int .i64 (eR x2))/\w''=w'):=fun w'=>Mm x2 w' lK vh
     by_cases bF:(r.length:Int)<eR x2
     ·have HU:Hid (U=s'):=(vD HE.out HK.out (by rw [gf.out,ue.out];exact ⟨by simp [hdI],by simp [hdI],fun _=>by simp only [hdI,db,cO];rw [ky];exact bF,fun _ h=>by simp [hdI] at h⟩)).2;have hd:decide (eR x2<=(r.length:Int))=false:=bn (by omega);go_wp2_with fail
      go_region
      go_wp2_with fail
      refine (show Calls _ _ _ _ _ from Xb.out _).mono ?_
      rintro e w3 ⟨rfl,rfl⟩
      go_wp2_with fail
      go_ret
      obtain ⟨v,D2,ρ2,l2,rfl,h2⟩:=HFV.out HU.out _ gU.out.drew (SnP.old vG.out (aR (ai _ _)))
      first
       |exact ⟨_,D2,ρ2,l2,rfl,h2⟩
       |(obtain ⟨q1,q2,q3,q4,q5,q6⟩:=h2;exact ⟨_,rfl,q1,D2,q2,ρ2,q3,l2,q4,q5,q6⟩)
     ·have hd:decide (eR x2<=(r.length:Int))=true:=bG (by omega);have lw:=i6 x2;obtain ⟨x',y',r',kS⟩:∃x' y' r',r=x'::y'::r':=by
       cases hq:r with
       |nil=>rw [hq] at bF;simp at bF;omega
       |cons a b=>
        cases r9:b with
        |nil=>rw [hq,r9] at bF;simp at bF;omega
        |cons a' b'=>exact ⟨a,a',b',rfl⟩
      have Qh:imL ρ' r=imA ρ' x'::imA ρ' y'::imL ρ' r':=by rw [kS];rfl
      obtain ⟨n1,n2,n3,U1,U2,l1,l2,l3,e1,e2,e3,e4,e5,e6,e7⟩:=H9 ht hp HE.out HK.out HG.out HS.out (by rw [gf.out,ue.out,Qh]) (by rw [<-Qh,ky];omega);have HC:Hid _:=If T g fv nm ds c n1 n2 (vI.out n1 (by omega)) (vI.out n2 (by omega)) ks x2 x' y' r' {s' with cur:=[imA ρ' x'],ks:=⟨2,0,x2,0,imA ρ' y'::imL ρ' r'⟩::ks} U1 U2 (wr.alloc (Obj.cells #[.int .i64 4,.int .i64 x2] 99)).drew (.slice (some ⟨ib,ioff,none⟩) (r.length+1) icap) D' ρ' rfl rfl e1 e2 e3 e4 e5 ⟨lK,vh⟩ (fun h=>by
       have:eR x2=4:=by unfold eR;rw [aA (by omega)]
       rw [kS] at bF;simp at bF;omega) (by rw [kS] at lV;simp at lV;omega) lm (SnP.old vG.out (aR (ai _ _))) mD.out (by rw [<-kS];exact Xc.out) (by have:=IP.out _ gU.out.drew;rw [kS] at this;rw [kS];exact this)
      have HE6:Hid _:=e6;have R9:Hid _:=e7;clear e1 e2 e3 e4 e5 e6 e7 kS Qh;generalize m9 c U1 U2=S2 at*;go_wp2_with fail
      go_region
      go_wp2_with fail
      refine (show Calls _ _ _ _ _ from Xb.out _).mono ?_
      rintro e w3 ⟨rfl,rfl⟩
      go_wp2_with fail
      refine (show Calls _ _ _ _ _ from HC.out).mono ?_
      rintro e w4 ⟨v4,D4,ρ4,l4,rfl,tA,jR,hx4,s9,Zs⟩
      clear HC;go_wp2_with fail
      go_roundg n3
      case measure=>omega
      case rel=>exact ⟨by omega,S2,l4,D4,ρ4,(HF.out.trans gU.out.drew).trans tA,jR,HE6.out,HX.out.trans hx4,s9,fun h=>⟨(R9.out h).1,(R9.out h).2.1,(R9.out h).2.2,(Zs h).1,(Zs h).2.1,(Zs h).2.2⟩⟩
    ·subst h5;obtain ⟨q,P,d,rfl,hqD,Nc,Ey,Qi⟩:=Ti mD.out HVX.out;have xC:Hid (s'.cur=(5,(P:Int))::imL ρ' r):=by show _=_;rw [gf.out,Qi]
     have lY:=(R4.out.it (5,(P:Int)) (by rw [xC.out];simp)).2.2 rfl;have hPl:P<s'.nds.length:=by have:=lY.2;omega
     have SR:D'.length<=100000:=by have:=mD.out.le;have:=HS.out.nd;have:=HS.out.sb;omega
     have qn:Hid (∀w',Fx T wr w'->(icap=1->Rd w' T (.slice (some ⟨ib,ioff,none⟩) r.length 0) r)/\Rd w' T (.slice (some ⟨ib,ioff+2,none⟩) r.length (icap-1)) r):=fun w' hf=>by
      have:=Rd.from (IP.out w' hf) 1 (by omega);exact ⟨fun h=>this.2 h,this.1⟩
     have fZ:=(mD.out.env d (bm Nc)).2;rcases (show d.st=0\/d.st=1\/d.st=2 by omega) with h0|h1|h2
     ·obtain ⟨f1,_,_⟩:=yW mD.out Nc Ey h0;obtain ⟨l0,lx⟩:∃l0,s'.nds[P]?=some (l0,false):=⟨_,f1⟩;obtain ⟨n1,n3,U1,q1,q3,e1,e2,e3,e4,e5⟩:=A2 ht hp lm HE.out HK.out HG.out HS.out xC.out lx;have HC:Hid _:=Lh T g fv nm ds c n1 (vI.out n1 (by omega)) {s' with cur:=l0,ks:=⟨1,(P:Int),0,0,imL ρ' r⟩::ks} U1 ks P (imL ρ' r) (wr.alloc (Obj.cells #[.int .i64 5,.int .i64 (q:Int)] 99)) D' ρ' q d rfl lx e1 e2 e3 vG.out mD.out Nc Ey h0 lm (fun h=>by
       obtain ⟨⟨⟨rk1,uu⟩,_,_,_⟩,_⟩:=DM ht hp (n2:=0) e1 e2 (by rw [cy];exact e3) h;exact uu.ne)
      have XL:Hid _:=e4;have XK:Hid _:=e5;clear e1 e2 e3 e4 e5 fZ h0 f1 lx Ey Nc Qi lY;go_wp2_with fail
      refine (show Calls _ _ _ _ _ from HC.out).mono ?_
      rintro e w3 ⟨v3,D3,ρ3,l3,rfl,mq,kB,Sh,ld,zo,I7⟩
      clear HC;have kt:Hid (Fx T wr w3):=gU.out.trans mq;have Xw:Hid (icap=1->_):=fun h=>iz v3 (.slice (some ⟨ib,ioff,none⟩) r.length 0) l3 r T w3 ld ((qn.out w3 kt.out).1 h) (by omega)
      have Bs:Hid _:=iz v3 (.slice (some ⟨ib,ioff+2,none⟩) r.length (icap-1)) l3 r T w3 ld (qn.out w3 kt.out).2 (by omega);have lq:Hid _:=kB;have zt:Hid _:=Sh;have HU3:Hid _:=I7;have xw:T<=w3.heap.size:=aJ mZ kt.out.size;obtain ⟨vo3,vc3,rfl⟩:=ld.form;have Qj:ib<w3.heap.size:=bq Dv kt.out.size;clear mq ld kB I7 Sh;by_cases rD:icap=1
      case' pos=>have HJ:Hid _:=Xw.out rD
      case' neg=>have HJ:Hid _:=Bs.out
      all_goals
       clear Xw Bs;go_wp2_with fail
       refine (show Calls _ _ _ _ _ from HJ.out).mono ?_
       rintro e w4 ⟨v4,rfl,dU,xq⟩
       clear HJ;have lO:Hid (Fx T w w4):=(HF.out.trans kt.out).trans (Fx.of dU xw);have oV:Hid _:=SnP.old lq.out dU;have nQ:Hid (Rd w4 T v4 (l3++r)):=Rd.own xq;clear dU xq;go_wp2_with fail
       by_cases sg:U1.out=0
       ·obtain ⟨z1,z2,z3,_,_⟩:=XL.out sg;obtain ⟨u1,u2,u3⟩:=HU3.out sg;go_roundg n3
        case measure=>omega
        case rel=>exact ⟨by omega,{U1 with cur:=U1.cur++imL ρ' r,ks:=ks,nds:=A0 P U1},l3++r,D3,ρ3,lO.out,oV.out,z1,HX.out.trans zt.out,nQ.out,fun _=>⟨z2,z3,rfl,by rw [Ad,u1,zt.out.im YI.out LU.out],vL.app u2 (zt.out.vl LU.out),u3⟩⟩
       ·go_roundg 0
        case measure=>omega
        case rel=>exact ⟨by omega,U1,l3++r,D3,ρ3,lO.out,oV.out,⟨XK.out sg,.inl sg⟩,HX.out.trans zt.out,nQ.out,fun h=>absurd h sg⟩
     ·exact absurd (mD.out.s1 q d P Nc Ey h1).2 (by rw [<-HK.out];exact not_open R4.out xC.out)
     ·obtain ⟨w1,w2,w3'⟩:=mD.out.s2 q d P Nc Ey h2;have hm:dP c s'={s' with cur:=imL ρ' d.val++imL ρ' r}:=by
       unfold dP;have wH:ndI s' (P:Int)=(imL ρ' d.val,true):=by unfold ndI;rw [bC,w3'];rfl
       have h1:hdI s'.cur=(5,(P:Int)):=by rw [xC.out];rfl
       have h2:s'.cur.tail=imL ρ' r:=by rw [xC.out];rfl
       simp only [h1,h2,wH];rw [aA trivial,aA trivial]
      obtain ⟨k',vk,kW⟩:=jU HE.out HO.out (fun h=>h.2.1 (by rw [xC.out];rfl));rw [hm] at kW;have IY:Hid _:=kW;have HN:Hid _:=kK ht hp HG.out (n:=k') (by rw [<-vk];exact HS.out) (by rw [hm];exact HO.out);rw [hm] at HN;have af4:d.val.length<=8:=by have:=HG.out.nb _ (bm w3');simpa [ky] using this
      have HC:Hid _:=Ie (wr.alloc (Obj.cells #[.int .i64 5,.int .i64 (q:Int)] 99)) T g fv nm ds c.bud D' s'.stp 0 q d vG.out Nc w1 SR;have HV8:Hid _:=w2;clear kW hm w1 w2 w3' fZ h2 Ey Nc Qi lY;subst vk;go_wp2_with fail
      refine (show Calls _ _ _ _ _ from HC.out).mono ?_
      rintro e w3 ⟨v3,rfl,df,ld⟩
      clear HC;have kt:Hid (Fx T wr w3):=gU.out.trans (Fx.of df (aJ mZ gU.out.size));have Xw:Hid (icap=1->_):=fun h=>iz v3 (.slice (some ⟨ib,ioff,none⟩) r.length 0) d.val r T w3 ld ((qn.out w3 kt.out).1 h) (by omega)
      have Bs:Hid _:=iz v3 (.slice (some ⟨ib,ioff+2,none⟩) r.length (icap-1)) d.val r T w3 ld (qn.out w3 kt.out).2 (by omega);have lq:Hid _:=SnP.old vG.out df;have xw:T<=w3.heap.size:=aJ mZ kt.out.size;obtain ⟨vo3,vc3,rfl⟩:=ld.form;have Qj:ib<w3.heap.size:=bq Dv kt.out.size;clear df ld;by_cases rD:icap=1
      case' pos=>have HJ:Hid _:=Xw.out rD
      case' neg=>have HJ:Hid _:=Bs.out
      all_goals
       clear Xw Bs;go_wp2_with fail
       refine (show Calls _ _ _ _ _ from HJ.out).mono ?_
       rintro e w4 ⟨v4,rfl,dU,xq⟩
       clear HJ;have lO:Hid (Fx T w w4):=(HF.out.trans kt.out).trans (Fx.of dU xw);have oV:Hid _:=SnP.old lq.out dU;have nQ:Hid (Rd w4 T v4 (d.val++r)):=Rd.own xq;clear dU xq;go_wp2_with fail
       go_roundg k'
       case measure=>omega
       case rel=>exact ⟨by omega,{s' with cur:=imL ρ' d.val++imL ρ' r},d.val++r,D',ρ',lO.out,by rw [HO.out];exact oV.out,IY.out,HX.out,nQ.out,fun _=>⟨HN.out.1,HN.out.2,HK.out,Ad _ _ _,vL.app HV8.out LU.out,mD.out⟩⟩
   ·obtain ⟨_,hU⟩:=vE HE.out ho;subst hU;have mT:(U.out==0)=false:=by simpa using ho
    obtain ⟨yo,yc,rfl⟩:=j7.out.form;generalize l'.length=ll at*;go_wp2_with fail
    go_ret
    exact ⟨_,D',ρ',[],rfl,HF.out,HW.out,HX.out,Rd.nil _ _,by simp,fun h=>absurd h ho⟩
def rK (L:List Ln) (n:Nat) (X:Ln):List Ln:=L.set n (L[n]?.getD []++X)
theorem lg (L:List Ln) (n:Nat) (X:Ln):(rK L n X).length=L.length:=by simp [rK]
theorem LM (L:List Ln) (n:Nat) (h:n<L.length):rK L n []=L:=by
 unfold rK;rw [aj h,b6,cA,List.set_getElem_self]
theorem tY (L:List Ln) (n:Nat) (X Y:Ln) (h:n<L.length):rK (rK L n X) n Y=rK L n (X++Y):=by
 unfold rK;rw [bR h,b6,List.set_set,bI]
theorem LN (L M:List Ln) (n:Nat) (X:Ln) (h:n<L.length):rK (L++M) n X=rK L n X++M:=by
 unfold rK;rw [aI h,List.set_append_left _ _ h]
theorem zc (L:List Ln) (x:Ln) (X:Ln):rK (L++[x]) L.length X=L++[x++X]:=by
 unfold rK;rw [aC (ah _),ct,aq,b6,List.set_append_right _ _ (ah _),ct];rfl
theorem FK (L:List Ln) (op:List Nat) (n:Nat) (a:Int×Int):putL ⟨L,op++[n]⟩ a=⟨rK L n [a],op++[n]⟩:=by
 unfold putL rK;simp
theorem zH (ps:List Tk) (ds:List Df) (t:Tk) (s:Ly) (h:dZ t):ug ps ds t s=putL s (gN ps ds t):=by
 unfold dZ at h;unfold ug;rw [ay (by omega),ay (by omega)]
theorem qM (ps:List Tk) (ds:List Df) (ts:List Tk) (L:List Ln) (op:List Nat) (n i:Nat) (h:i<ts.length) (hs:dZ ts[i]):tS ps ds ts ⟨L,op++[n]⟩ i=tS ps ds ts ⟨rK L n [gN ps ds ts[i]],op++[n]⟩ (i+1):=by
 rw [sr ps ds ts _ i h (sW ts i h hs),zH _ _ _ _ hs,FK]
theorem WX (ps:List Tk) (ds:List Df) (a:At) (h:a.ok):∀(pre post:List Tk) (L:List Ln) (op:List Nat) (n:Nat),n<L.length->tS ps ds (pre++(a.toks++post)) ⟨L,op++[n]⟩ pre.length=tS ps ds (pre++(a.toks++post)) ⟨rK L n (gx (gN ps ds) a (L.length-1))++dC (gN ps ds) a (L.length-1),op++[n]⟩ (pre.length+a.toks.length):=by
 induction a with
 |nil=>intro pre post L op n hn;simp [At.toks,gx,dC,LM L n hn]
 |sim t r ih=>
  intro pre post L op n hn;have bF:pre.length<(pre++((At.sim t r).toks++post)).length:=by simp [At.toks]
  have hg:(pre++((At.sim t r).toks++post))[pre.length]=t:=by simp [At.toks]
  have h1:=qM ps ds (pre++((At.sim t r).toks++post)) L op n pre.length bF (by rw [hg];exact h.1);rw [hg] at h1;have h2:=ih h.2 (pre++[t]) post (rK L n [gN ps ds t]) op n (by rw [lg];exact hn);have e:pre++[t]++(r.toks++post)=pre++((At.sim t r).toks++post):=by simp [At.toks]
  rw [e,lg,tY _ _ _ _ hn] at h2;simp only [au,aD,bp] at h2;rw [h1,h2];simp only [At.toks,gx,dC,aD,eJ];rw [show pre.length+(0+1)+r.toks.length=pre.length+(r.toks.length+1) by omega]
 |par o x c ag r ih1 ih2=>
  intro pre post L op n hn;obtain ⟨ho,hx,hc,sf,hr⟩:=h;generalize hT:pre++((At.par o x c ag r).toks++post)=T;have e1:T=pre++(o::x::(ag.toks++c::(r.toks++post))):=by rw [<-hT];simp [At.toks]
  have ez:T.length=pre.length+3+ag.toks.length+r.toks.length+post.length:=by rw [e1];simp;omega
  have g0:T[pre.length]?=some o:=by rw [e1];simp
  have g1:T[pre.length+1]?=some x:=by rw [e1,aC (by omega),show pre.length+1-pre.length=1 by omega];rfl
  have gc:T[pre.length+2+ag.toks.length]?=some c:=by
   rw [e1,aC (by omega),show pre.length+2+ag.toks.length-pre.length=ag.toks.length+1+1 by omega,ap,ap,aC (by omega),ct];rfl
  have l0:pre.length<T.length:=by omega
  have l1:pre.length+1<T.length:=by omega
  have lc:pre.length+2+ag.toks.length<T.length:=by omega
  have q0:T[pre.length]=o:=by rw [aj l0] at g0;exact Option.some.inj g0
  have q1:T[pre.length+1]=x:=by rw [aj l1] at g1;exact Option.some.inj g1
  have qc:T[pre.length+2+ag.toks.length]=c:=by rw [aj lc] at gc;exact Option.some.inj gc
  have k0:kAt T (pre.length:Int)=6:=by rw [uZ T _ l0,q0,ho]
  have kc:kAt T ((pre.length+2+ag.toks.length:Nat):Int)=7:=by rw [uZ T _ lc,qc,hc]
  have sx:∀(L:List Ln) (op:List Nat) (n:Nat),tS ps ds T ⟨L,op++[n]⟩ (pre.length+1)=tS ps ds T ⟨rK L n [gN ps ds x],op++[n]⟩ (pre.length+1+1):=by
   intro L op n;have:=qM ps ds T L op n (pre.length+1) l1 (by rw [q1];exact hx);rw [q1] at this;exact this
  have e2:pre++o::x::(ag.toks++[c])++(r.toks++post)=T:=by rw [e1];simp
  have el2:(pre++o::x::(ag.toks++[c])).length=pre.length+2+ag.toks.length+1:=by simp;omega
  have etot:pre.length+(At.par o x c ag r).toks.length=pre.length+2+ag.toks.length+1+r.toks.length:=by simp [At.toks];omega
  have h2:=fun L n hn=>ih2 hr (pre++o::x::(ag.toks++[c])) post L op n hn
  rw [e2,el2] at h2;rw [etot];by_cases GH:ag=.nil
  ·subst GH;simp only [At.toks,bp,cy] at kc h2 gc lc qc;have n0:i9 T pre.length=true:=by
    unfold i9;rw [k0,show ((pre.length:Int)+2)=((pre.length+2:Nat):Int) by omega,kc];simp
   have nc:i9 T (pre.length+2)=true:=by
    unfold i9;rw [kc,show (((pre.length+2:Nat):Int)-2)=(pre.length:Int) by omega,k0];simp
   rw [tR ps ds T _ pre.length l0 n0,sx,tR ps ds T _ _ lc nc,h2 _ n (by rw [lg];exact hn),lg,tY _ _ _ _ hn];simp [gx,dC,At.isNil,At.toks]
  ·have Ka:bf x.txt≠6:=by unfold dZ at hx;omega
   have dt:ag.toks≠[]:=by
    cases ag with
    |nil=>exact absurd rfl GH
    |sim t r=>simp [At.toks]
    |par o h c g r=>simp [At.toks]
   have SH:0<ag.toks.length:=fw.2 dt;have k2:kAt T ((pre.length:Int)+2)≠7:=by
    rw [show ((pre.length:Int)+2)=((pre.length+2:Nat):Int) by omega,e1,wB,ap,ap,aI SH];cases ag with
    |nil=>exact absurd rfl GH
    |sim t g=>have:=sf.1;unfold dZ at this;simp only [At.toks,aq];omega
    |par o' h' c' g' g=>have:=sf.1;simp only [At.toks,aq];omega
   have kcm:kAt T ((pre.length+2+ag.toks.length:Nat)-2:Int)≠6:=by
    have Gn:=Mi sf GH x Ka;obtain ⟨u,zm,Dn⟩:=x6 (x::ag.toks).dropLast (by rw [List.dropLast_cons_of_ne_nil dt];simp);rw [Dn] at Gn;have I7:(x::ag.toks)[ag.toks.length-1]?=some u:=by
     rw [List.length_dropLast,aD,Nat.add_sub_cancel] at zm;rw [List.getElem?_dropLast] at zm;split at zm
     ·exact zm
     ·cases zm
    have:kAt T ((pre.length+2+ag.toks.length:Nat)-2:Int)=bf u.txt:=by
     rw [show ((pre.length+2+ag.toks.length:Nat)-2:Int)=((pre.length+((ag.toks.length-1)+1):Nat):Int) by omega,e1,wB,ap,show x::(ag.toks++c::(r.toks++post))=(x::ag.toks)++c::(r.toks++post) by simp,aI (by simp;omega),I7]
    rw [this];exact Gn
   have n0:i9 T pre.length=false:=by
    unfold i9;rw [k0];simp [k2]
   have nc:i9 T (pre.length+2+ag.toks.length)=false:=by
    unfold i9;rw [kc];simp only [show ¬((7:Int)=6) by decide,decide_false,Bool.false_and,Bool.false_or,eV,dp,cw];exact kcm
   have e3:pre++[o,x]++(ag.toks++c::(r.toks++post))=T:=by rw [e1];simp
   have el3:(pre++[o,x]).length=pre.length+2:=by simp
   have h1:=fun L op n hn=>ih1 sf (pre++[o,x]) (c::(r.toks++post)) L op n hn
   rw [e3,el3] at h1;have hk:((L.length-1:Nat):Int)=(L.length:Int)-1:=by omega
   have s0:ug ps ds o ⟨L,op++[n]⟩=⟨rK L n [(5,((L.length-1:Nat):Int))]++[[]],(op++[n])++[(rK L n [(5,((L.length-1:Nat):Int))]).length]⟩:=by
    unfold ug;rw [aA ho,FK,EO,hk]
   have sc:∀(M:List Ln) (m:Nat),ug ps ds c ⟨M,(op++[n])++[m]⟩=⟨M,op++[n]⟩:=by
    intro M m;unfold ug WQ;rw [ay (by omega),aA hc];simp
   rw [sr ps ds T _ _ l0 n0,q0,s0,sx,zc,di,h1 _ _ _ (by simp),zc,sr ps ds T _ _ lc nc,qc,sc];have Vm:(rK L n [(5,((L.length-1:Nat):Int))]++[[gN ps ds x]]).length-1=(L.length-1)+1:=by simp [lg];omega
   rw [Vm,h2 _ n (by simp [lg];omega)];have Vl:(rK L n [(5,((L.length-1:Nat):Int))]++[[gN ps ds x]++gx (gN ps ds) ag (L.length-1+1)]++dC (gN ps ds) ag (L.length-1+1)).length-1=(L.length-1)+1+unT ag:=by simp [lg,gy];omega
   rw [Vl,bI,LN _ _ _ _ (by rw [lg];exact hn),tY _ _ _ _ hn];simp [gx,dC,At.isNil_ne GH]
theorem Lr (ps:List Tk) (ds:List Df) {hd:Tk} {a:At} (hs:dZ hd) (h:a.ok):uy ps ds (hd::a.toks)=gx (gN ps ds) (.sim hd a) 0::dC (gN ps ds) (.sim hd a) 0:=by
 have h1:=qM ps ds (hd::a.toks) [[]] [] 0 0 (by simp) hs;have h2:=WX ps ds a h [hd] [] [[gN ps ds hd]] [] 0 (by simp);have h3:∀s,tS ps ds (hd::a.toks) s (1+a.toks.length)=s:=fun s=>Cy ps ds (hd::a.toks) s (1+a.toks.length) (by simp;omega)
 simp only [cA,eJ,aD,bp,cr,di] at h1 h2;rw [h3] at h2;unfold uy;have hb:EO ⟨[],[]⟩=⟨[[]],[0]⟩:=rfl;rw [hb,h1];have ha:rK [[]] 0 [gN ps ds hd]=[[gN ps ds hd]]:=rfl;rw [show (hd::a.toks)[0]=hd from rfl,ha,h2];simp [rK,gx,dC]
end Go.Proofs.YtnndoagpbcacdabGreatDoor
