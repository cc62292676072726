import Derived.Test.YtnndoagpbcacdabGreatDoorMN11
import Derived.Test.YtnndoagpbcacdabGreatDoorMF3b
namespace Go.Proofs.YtnndoagpbcacdabGreatDoor
set_option maxHeartbeats 8000000
set_option maxRecDepth 100000
open Go.RowKit
theorem FJ (T g:Nat) (fv:Value) (mn:Int) (c:Cf) (n1 n2:Nat) (Gs:SV T g fv mn c n1) (Gq:SV T g fv mn c n2) (ks:List Kf) (p:Int) (x y:Int×Int) (r:Ln) (s1 U1 U2:Im) (w:World) (iv:Value)
 (lk:s1.cur=[x]) (eA:s1.ks=⟨2,0,p,0,y::r⟩::ks) (Ji:Ev c s1.ks n1 s1 U1) (qX:Gd c s1) (fH:Sz c n1 s1) (sg:U1.out=0->Gd c U1)
 (h2:jJ U1=0->Ev c (⟨3,0,p,(hdI U1.cur).2,r⟩::ks) n2 {U1 with cur:=[y],ks:=⟨3,0,p,(hdI U1.cur).2,r⟩::ks} U2/\Gd c {U1 with cur:=[y],ks:=⟨3,0,p,(hdI U1.cur).2,r⟩::ks}/\Sz c n2 {U1 with cur:=[y],ks:=⟨3,0,p,(hdI U1.cur).2,r⟩::ks}/\(U2.out=0->Gd c U2/\U2.ks=⟨3,0,p,(hdI U1.cur).2,r⟩::ks/\0<=U2.stp))
 (hp:0<=p/\p<=4) (hr:2<p->2<=r.length) (lV:r.length<=9000000) (lm:c.bud<=2000)
 (hw:WP w T g fv mn c s1.nds s1.stp 0 (jV ks) (iZ ks)) (eu:Rd w T iv ((4,p)::x::y::r)):
 Calls Tryz.prog 157 #[.pointer (some ⟨g,0,none⟩),iv] w fun e w'=>∃v,e=.returned v/\Fx T w w'/\WP w' T g fv mn c (m9 c U1 U2).nds (m9 c U1 U2).stp (m9 c U1 U2).out (jV ks) (iZ ks)/\((m9 c U1 U2).out=0->Rd w' T v (m9 c U1 U2).cur):=by
 obtain ⟨ib,ioff,icap,rfl,Dv⟩:=eu.isSome (by simp);obtain ⟨a0,a1⟩:=Rd.at eu 0 (by simp);obtain ⟨a2,a3⟩:=Rd.at eu 1 (by simp);simp only [bQ,dJ,fA,Nat.one_mul,cy] at a0 a1 a2 a3;have VX:=Rd.cap eu;simp only [aD] at VX;obtain ⟨_,AL,wN⟩:=VX;unfold maxLen at wN;have hT:T<=w.heap.size:=by obtain ⟨_,_,_,_,_,h⟩:=hw;exact h.hT
 have Ej:Hid (∀w' rv,WP w' T g fv mn c s1.nds s1.stp 0 (jV ks) (iZ ks)->Rd w' T rv (y::r)->_):=fun w' rv h1 h2=>FG T g fv mn c n1 Gs s1 U1 ⟨2,0,p,0,y::r⟩ ks x w' rv lk eA (by simp) Ji qX fH h1 h2 (fun h=>(sg h).ii.elim fun rk hi=>hi.ne)
 have j7:Hid (∀w',Fx T w w'->Rd w' T (.slice (some ⟨ib,ioff,none⟩) ((4,p)::x::y::r).length icap) ((4,p)::x::y::r)):=fun w' hf=>eu.keep hf
 obtain ⟨x1,x2⟩:=x;obtain ⟨y1,y2⟩:=y;simp only at*;generalize hR:m9 c U1 U2=R;have HR:Hid (m9 c U1 U2=R):=hR;clear hR eu;have HW:Hid _:=hw;obtain ⟨av,bv,ov,vs,bs,hw⟩:=hw;have qH:=hw.lt;clear hw;have XR:Hid _:=Ej.out w.drew _ (WP.old HW.out (aR (ai _ _))) (show Rd w.drew T (.slice (some ⟨ib,ioff+4,none⟩) (r.length+1) (icap-2)) ((y1,y2)::r) from (Rd.from (j7.out w.drew (Fx.refl _ _).drew) 2 (by simp)).1);go_enter Tryz.func157,Tryz.ntmps157
 go_wp2_with fail
 go_cut [6] (fun vx wc=>∃va:Int,vx=.int .i64 va/\Hid (Fx T w wc)/\Hid (WP wc T g fv mn c U1.nds U1.stp (jJ U1) (jV ks) (iZ ks))/\Hid (jJ U1=0->va=(hdI U1.cur).2))
 case first=>
  go_region_with (go_at_call 185;go_must (refine (show Calls _ _ _ _ _ from XR.out).mono ?_);rintro e w2 ⟨va,rfl,lY,lw,pD⟩)
  all_goals
   go_wp2_with fail
   go_meet
   case rel=>exact ⟨va,rfl,(Fx.refl T w).drew.trans lY,lw,pD⟩
 case rest=>
  obtain ⟨va,Ka,me,IM,ze⟩:=hcut;rw [Ka];clear Ka XR a0 a1 a2 a3 Dv qH;obtain ⟨av2,bv2,ov2,vs2,bs2,lw⟩:=IM.out;obtain ⟨_,_,_,_,_,_,_,_,d8⟩:=lw.cells;have qj:=lw.lt;clear lw;by_cases dQ:jJ U1=0
  ·have Ur:=ze.out dQ;obtain ⟨AH,AA,lJ,EK⟩:=h2 dQ;rw [<-Ur] at AH AA lJ EK;clear Ur;rw [dQ] at d8;have IL:Hid (WP wc T g fv mn c U1.nds U1.stp 0 (jV ks) (iZ ks)):=by have:=IM.out;rw [dQ] at this;exact this
   have xi:Hid (∀w' rv,WP w' T g fv mn c U1.nds U1.stp 0 (jV ks) (iZ ks)->Rd w' T rv r->_):=fun w' rv h1 h2=>FG T g fv mn c n2 Gq {U1 with cur:=[(y1,y2)],ks:=⟨3,0,p,va,r⟩::ks} U2 ⟨3,0,p,va,r⟩ ks (y1,y2) w' rv rfl rfl (by simp) AH AA lJ h1 h2 (fun h=>(EK h).1.ii.elim fun rk hi=>hi.ne)
   have qE:=j7.out wc me.out;obtain ⟨b4,b5⟩:=Rd.at qE 2 (by simp);simp only [bQ,dJ] at b4 b5;have Js:Hid _:=xi.out wc.drew (.slice (some ⟨ib,ioff+6,none⟩) r.length (icap-3)) (WP.old IL.out (aR (ai _ _))) (Rd.from (j7.out wc.drew me.out.drew) 3 (by simp)).1;have L6:Hid (icap=3->_):=fun h=>xi.out wc.drew (.slice (some ⟨ib,ioff,none⟩) r.length 0) (WP.old IL.out (aR (ai _ _))) ((Rd.from (j7.out wc.drew me.out.drew) 3 (by simp)).2 h)
   have Qk:ib<wc.heap.size:=by
    obtain ⟨b',o',c',e',h'⟩:=qE.isSome (by simp);cases e';exact h'
   clear qE Ej;go_wp2_with fail
   go_cut [1,7] (fun v1 vx wx=>v1=.slice (some ⟨ib,ioff,none⟩) (r.length+1+1+1) icap/\∃vb:Int,vx=.int .i64 vb/\Hid (Fx T w wx)/\Hid (WP wx T g fv mn c U2.nds U2.stp (jJ U2) (jV ks) (iZ ks))/\Hid (jJ U2=0->vb=(hdI U2.cur).2))
   case first=>
    by_cases rD:icap=3
    ·subst rD;have Gu:r=[]:=ch.1 (by omega);subst Gu;have HCC:Hid (Calls Tryz.prog 185 #[.pointer (some ⟨g,0,none⟩),.agg #[.int .i64 y1,.int .i64 y2],.slice (some ⟨ib,ioff,none⟩) 0 0] wc.drew _):=L6.out rfl;clear Js L6
     go_region_with (go_at_call 185;go_must (refine (show Calls _ _ _ _ _ from HCC.out).mono ?_);rintro e w3 ⟨vb,rfl,mq,kB,Eu⟩)
     all_goals
      go_wp2_with fail
      go_meet
      case rel=>exact ⟨rfl,vb,rfl,me.out.drew.trans mq,kB,Eu⟩
    ·clear L6
     go_region_with (go_at_call 185;go_must (refine (show Calls _ _ _ _ _ from Js.out).mono ?_);rintro e w3 ⟨vb,rfl,mq,kB,Eu⟩)
     all_goals
      go_wp2_with fail
      go_meet
      case rel=>exact ⟨rfl,vb,rfl,me.out.drew.trans mq,kB,Eu⟩
   case rest=>
    obtain ⟨mN,vb,hx7,kt,lq,oW⟩:=hcut;rw [mN,hx7];clear mN hx7 Js L6 b4 b5 d8 qj Qk;obtain ⟨av3,bv3,ov3,vs3,bs3,kB⟩:=lq.out;obtain ⟨_,_,_,_,_,_,_,_,d8⟩:=kB.cells;have hg3:=kB.lt;clear kB;by_cases ot:jJ U2=0
    ·have MK:=oW.out ot;have wS:U2.out=0:=by
      unfold jJ at ot;by_cases h:U2.out=0
      ·exact h
      ·rw [ay h] at ot;exact ot
     have wT:(hdI U2.cur).1=1:=by
      unfold jJ at ot;rw [aA wS] at ot;by_cases h:(hdI U2.cur).1=1
      ·exact h
      ·rw [ay h] at ot;simp at ot
     obtain ⟨yF,Ay,Gl⟩:=EK wS;rw [ot] at d8;have Ec:Hid (WP wc T g fv mn c U2.nds U2.stp 0 (jV ks) (iZ ks)):=by have:=lq.out;rw [ot] at this;exact this
     have HD:Hid (R=if c.bud<=U2.stp then {U2 with out:=5} else if p=3\/p=4 then {U2 with stp:=U2.stp+1,ks:=ks,cur:=(if sR p va vb then hdI r else hdI r.tail)::r.drop 2} else if oh (iD p va vb) then {U2 with stp:=U2.stp+1,ks:=ks,cur:=r,out:=4} else {U2 with stp:=U2.stp+1,ks:=ks,cur:=(1,iD p va vb)::r}):=by
      show _=_
      rw [<-HR.out];unfold m9;rw [ay (fun h=>h dQ),ay (fun h=>h ot)];exact yZ Ay wT MK
     have Gg:(-1000000000<=va/\va<=1000000000)/\-1000000000<=vb/\vb<=1000000000:=by
      obtain ⟨⟨rk,hi⟩,_⟩:=yF;refine ⟨?_,?_⟩
      ·have:=(hi.fr ⟨3,0,p,va,r⟩ (by rw [Ay];simp)).2.2.2;exact this
      ·rw [MK];obtain ⟨z,zs,Ue⟩:∃z zs,U2.cur=z::zs:=by
        cases hq:U2.cur with
        |nil=>exact absurd hq hi.ne
        |cons a b=>exact ⟨a,b,rfl⟩
       have hz:=(hi.it z (by rw [Ue];simp)).1;rw [Ue] at wT ⊢;exact hz wT
     have ju:Hid (U2.stp<c.bud->_):=fun h=>Mo wc T g fv mn c U2.nds U2.stp 0 (jV ks) (iZ ks) Ec.out Gl lm h
     have EW:Hid (c.bud<=U2.stp->_):=fun h=>Mp wc T g fv mn c U2.nds U2.stp 0 (jV ks) (iZ ks) Ec.out h
     have tI:=wS;clear yF Ay wT wS EK AH AA lJ h2 oW ze lq IM MK xi;by_cases hb:c.bud<=U2.stp
     ·rw [aA hb] at HD;have HC:Hid _:=EW.out hb;clear ju EW;go_wp2_with fail
      refine (show Calls _ _ _ _ _ from HC.out).mono ?_
      rintro e w4 ⟨rfl,tA,_,jR⟩
      clear HC;go_wp2_with fail
      go_ret
      exact ⟨_,rfl,kt.out.trans tA,by rw [HD.out];exact jR,fun h=>by rw [HD.out] at h;simp at h⟩
     ·rw [ay hb] at HD;have HC:Hid _:=ju.out (by omega);clear ju EW;go_wp2_with fail
      refine (show Calls _ _ _ _ _ from HC.out).mono ?_
      rintro e w4 ⟨rfl,tA,_,jR⟩
      clear HC;have lO:Hid (Fx T w w4):=kt.out.trans tA;have oV:Hid _:=jR;have nQ:Hid _:=j7.out w4 lO.out;have tJ:T<=w4.heap.size:=aJ hT lO.out.size;clear tA jR d8;by_cases pI:2<p
      ·have jz:decide (2<p)=true:=bG pI;have tb:=hr pI;rw [aA (by omega)] at HD;obtain ⟨r0,r1,r2,kS⟩:∃r0 r1 r2,r=r0::r1::r2:=by
        cases hq:r with
        |nil=>rw [hq] at tb;simp at tb
        |cons a b=>
         cases r9:b with
         |nil=>rw [hq,r9] at tb;simp at tb
         |cons a' b'=>exact ⟨a,a',b',rfl⟩
       have Bm:Hid (r=r0::r1::r2):=kS;have ZG:r2.length+2=r.length:=by rw [kS];rfl
       obtain ⟨Y,hY⟩:∃Y,Y=sR p va vb:=⟨_,rfl⟩;have HY:Hid (Y=sR p va vb):=hY;have hYc:(p=3/\Y=decide (va<vb))\/(p=4/\Y=decide (va=vb)):=by
        rcases (show p=3\/p=4 by omega) with h|h
        ·exact .inl ⟨h,by rw [hY,h];rfl⟩
        ·exact .inr ⟨h,by rw [hY,h];rfl⟩
       have HJ:Hid (∀vb',Rd w4 T vb' r2->Calls Tryz.prog 159 #[.slice (some ⟨ib,ioff+6,none⟩) 1 (icap-3),vb'] w4.drew fun e w'=>∃v,e=.returned v/\Below w4.heap.size w4 w'/\Rd w' T v (r0::r2)):=fun vb' hv=>by
        have q:=Rd.part (k:=3) (m:=1) (c:=icap-3) nQ.out (by simp;omega) (by omega) (by unfold maxLen;omega);rw [kS] at q;refine (iz _ _ [r0] r2 T w4.drew (Rd.old q (aR (ai _ _))) (Rd.old hv (aR (ai _ _))) (by simp;omega)).mono ?_
        rintro e w' ⟨v,rfl,oT,ED⟩
        exact ⟨v,rfl,(aR (ai _ w4)).trans oT,Rd.own ED⟩
       have Bi:Hid (Rd w4 T (.slice (some ⟨ib,ioff+10,none⟩) (r.length-2) (icap-5)) r2/\(icap=5->Rd w4 T (.slice (some ⟨ib,ioff,none⟩) (r.length-2) 0) r2)):=by
        have q:=Rd.from nQ.out 5 (by simp;omega);have e1:((4,p)::(x1,x2)::(y1,y2)::r).length-5=r.length-2:=by simp only [aD];omega
        have e2:((4,p)::(x1,x2)::(y1,y2)::r).drop 5=r2:=by rw [kS];rfl
        rw [e1,e2] at q;exact q
       have EP:Hid (Rd w4 T (.slice (some ⟨ib,ioff+8,none⟩) (r.length-1) (icap-4)) (r1::r2)):=by
        have q:=(Rd.from nQ.out 4 (by simp;omega)).1;have e1:((4,p)::(x1,x2)::(y1,y2)::r).length-4=r.length-1:=by simp only [aD];omega
        have e2:((4,p)::(x1,x2)::(y1,y2)::r).drop 4=r1::r2:=by rw [kS];rfl
        rw [e1,e2] at q;exact q
       have Eh:Hid (Y=true->R.nds=U2.nds/\R.stp=U2.stp+1/\R.out=0/\R.cur=r0::r2):=fun h=>by rw [HD.out,<-hY,h,kS];exact ⟨rfl,rfl,tI,rfl⟩
       have IR:Hid (Y=false->R.nds=U2.nds/\R.stp=U2.stp+1/\R.out=0/\R.cur=r1::r2):=fun h=>by rw [HD.out,<-hY,h,kS];exact ⟨rfl,rfl,tI,rfl⟩
       clear kS hY;rcases hYc with ⟨pH,pQ⟩|⟨vh,pQ⟩
       ·subst pH;by_cases bF:va<vb
        ·have tC:decide (va<vb)=true:=bG bF;rw [tC] at pQ;by_cases rD:icap=5
         ·have Al:r2=[]:=ch.1 (by omega);have s8:r=[r0,r1]:=by rw [Bm.out,Al]
          have Br:Hid (Calls Tryz.prog 159 #[.slice (some ⟨ib,ioff+6,none⟩) 1 2,.slice (some ⟨ib,ioff,none⟩) 0 0] w4.drew fun e w'=>∃v,e=.returned v/\Below w4.heap.size w4 w'/\Rd w' T v (r0::r2)):=by
           have:=HJ.out _ (Bi.out.2 rD);rw [rD,s8] at this;exact this
          clear HJ Bi EP j7 nQ Bm HD IR;subst rD;subst s8;go_wp2_with fail
          go_region_with (go_at_call 159;go_must (refine (show Calls _ _ _ _ _ from Br.out).mono ?_);rintro e w5 ⟨v5,rfl,dB,pF⟩)
          all_goals
           go_wp2_with fail
           go_ret
           obtain ⟨z1,z2,z3,z4⟩:=Eh.out pQ;exact ⟨_,rfl,lO.out.trans (Fx.of dB tJ),by rw [z1,z2,z3];exact WP.old oV.out dB,fun _=>by rw [z4];exact pF⟩
         ·have Br:Hid _:=HJ.out _ Bi.out.1;go_wp2_with fail
          go_region_with (go_at_call 159;go_must (refine (show Calls _ _ _ _ _ from Br.out).mono ?_);rintro e w5 ⟨v5,rfl,dB,pF⟩)
          all_goals
           go_wp2_with fail
           go_ret
           obtain ⟨z1,z2,z3,z4⟩:=Eh.out pQ;exact ⟨_,rfl,lO.out.trans (Fx.of dB tJ),by rw [z1,z2,z3];exact WP.old oV.out dB,fun _=>by rw [z4];exact pF⟩
        ·have tC:decide (va<vb)=false:=bn bF;rw [tC] at pQ;go_wp2_with fail
         go_ret
         obtain ⟨z1,z2,z3,z4⟩:=IR.out pQ;exact ⟨_,rfl,lO.out,by rw [z1,z2,z3];exact oV.out,fun _=>by rw [z4];exact EP.out⟩
       ·subst vh;by_cases bF:va=vb
        ·have tC:decide (va=vb)=true:=bG bF;have yJ:(va==vb)=true:=by simpa using bF
         rw [tC] at pQ;clear bF tC;by_cases rD:icap=5
         ·have Al:r2=[]:=ch.1 (by omega);have s8:r=[r0,r1]:=by rw [Bm.out,Al]
          have Br:Hid (Calls Tryz.prog 159 #[.slice (some ⟨ib,ioff+6,none⟩) 1 2,.slice (some ⟨ib,ioff,none⟩) 0 0] w4.drew fun e w'=>∃v,e=.returned v/\Below w4.heap.size w4 w'/\Rd w' T v (r0::r2)):=by
           have:=HJ.out _ (Bi.out.2 rD);rw [rD,s8] at this;exact this
          clear HJ Bi EP j7 nQ Bm HD IR;subst rD;subst s8;go_wp2_with fail
          go_region_with (go_at_call 159;go_must (refine (show Calls _ _ _ _ _ from Br.out).mono ?_);rintro e w5 ⟨v5,rfl,dB,pF⟩)
          all_goals
           go_wp2_with fail
           go_ret
           obtain ⟨z1,z2,z3,z4⟩:=Eh.out pQ;exact ⟨_,rfl,lO.out.trans (Fx.of dB tJ),by rw [z1,z2,z3];exact WP.old oV.out dB,fun _=>by rw [z4];exact pF⟩
         ·have Br:Hid _:=HJ.out _ Bi.out.1;go_wp2_with fail
          go_region_with (go_at_call 159;go_must (refine (show Calls _ _ _ _ _ from Br.out).mono ?_);rintro e w5 ⟨v5,rfl,dB,pF⟩)
          all_goals
           go_wp2_with fail
           go_ret
           obtain ⟨z1,z2,z3,z4⟩:=Eh.out pQ;exact ⟨_,rfl,lO.out.trans (Fx.of dB tJ),by rw [z1,z2,z3];exact WP.old oV.out dB,fun _=>by rw [z4];exact pF⟩
        ·have tC:decide (va=vb)=false:=bn bF;have yJ:(va==vb)=false:=by simpa using bF
         rw [tC] at pQ;go_wp2_with fail
         go_ret
         obtain ⟨z1,z2,z3,z4⟩:=IR.out pQ;exact ⟨_,rfl,lO.out,by rw [z1,z2,z3];exact oV.out,fun _=>by rw [z4];exact EP.out⟩
      ·have jz:decide (2<p)=false:=bn pI;rw [ay (by omega)] at HD;have mD:Hid _:=adw p va vb w4 Gg.1 Gg.2;generalize iD p va vb=V at*;obtain ⟨av4,bv4,ov4,vs4,bs4,jR⟩:=oV.out;obtain ⟨_,_,_,_,_,_,_,_,d9⟩:=jR.cells;have e9:=jR.fz 8;have Yj:=jR.lt;have HO:Hid _:=jR.setOut 4;clear jR;by_cases nU:oh V=true
       ·rw [aA nU] at HD;have Km:1000000000<V\/(¬1000000000<V/\V< -1000000000):=by
         unfold oh at nU;simp only [gI,aL] at nU;omega
        go_wp2_with fail
        refine (show Calls _ _ _ _ _ from mD.out).mono ?_
        rintro e w5 ⟨rfl,rfl⟩
        clear mD nU;rcases Km with ry|⟨ry,pD⟩
        ·have mV:decide (1000000000<V)=true:=bG ry;go_wp2_with fail
         go_ret
         exact ⟨_,rfl,lO.out.trans HO.out.1,by rw [HD.out];exact ⟨_,_,_,_,_,HO.out.2⟩,fun h=>by rw [HD.out] at h;simp at h⟩
        ·have mV:decide (1000000000<V)=false:=bn (by omega);have QC:decide (V< -1000000000)=true:=bG pD;go_wp2_with fail
         go_ret
         exact ⟨_,rfl,lO.out.trans HO.out.1,by rw [HD.out];exact ⟨_,_,_,_,_,HO.out.2⟩,fun h=>by rw [HD.out] at h;simp at h⟩
       ·rw [ay nU] at HD;have ry:¬1000000000<V:=by unfold oh at nU;simp only [gI,aL] at nU;omega
        have pD:¬V< -1000000000:=by unfold oh at nU;simp only [gI,aL] at nU;omega
        have mV:decide (1000000000<V)=false:=bn ry;have QC:decide (V< -1000000000)=false:=bn pD;go_wp2_with fail
        refine (show Calls _ _ _ _ _ from mD.out).mono ?_
        rintro e w5 ⟨rfl,rfl⟩
        clear mD nU;have EQ:Hid (Rd w5 T (.slice (some ⟨ib,ioff+6,none⟩) r.length (icap-3)) r/\(icap=3->Rd w5 T (.slice (some ⟨ib,ioff,none⟩) r.length 0) r)):=Rd.from nQ.out 3 (by simp);have Xv:Hid (∀rv,Rd w5 T rv r->Calls Tryz.prog 159 #[.slice (some ⟨w5.heap.size,0,none⟩) 1 1,rv] (w5.alloc (Obj.cells #[.int .i64 1,.int .i64 V] 99)) fun e w'=>∃v,e=.returned v/\Below w5.heap.size w5 w'/\Rd w' T v ((1,V)::r)):=fun rv hv=>by
         have q:=fg w5 #[.int .i64 1,.int .i64 V] 1 (e:=99) (base:=0) (size:=2) (aF _) (by unfold maxLen;omega) rfl;refine (iz _ _ [(1,V)] r T _ (Rd.own (l:=[(1,V)]) q) (Rd.old hv (bM _ _)) (by simp;omega)).mono ?_
         rintro e w' ⟨v,rfl,oT,ED⟩
         exact ⟨v,rfl,(bM w5 _).trans (oT.mono (by simp)),Rd.own ED⟩
        have YB:Hid (R.nds=U2.nds/\R.stp=U2.stp+1/\R.out=0/\R.cur=(1,V)::r):=by rw [HD.out];exact ⟨rfl,rfl,tI,rfl⟩
        go_wp2_with fail
        all_goals
         refine (Xv.out _ (by first|exact EQ.out.1|exact EQ.out.2 (by assumption))).mono ?_
         rintro e w6 ⟨v6,rfl,js,MV⟩
         go_wp2_with fail
         go_ret
         obtain ⟨z1,z2,z3,z4⟩:=YB.out;exact ⟨_,rfl,lO.out.trans (Fx.of js tJ),by rw [z1,z2,z3];exact WP.old oV.out js,fun _=>by rw [z4];exact MV⟩
    ·have hz4:(jJ U2==0)=false:=by simpa using ot
     have HE:Hid (R={U2 with out:=jJ U2}):=by show _=_;rw [<-HR.out];unfold m9;rw [ay (by simpa using dQ),aA ot]
     go_wp2_with fail
     go_ret
     exact ⟨_,rfl,kt.out,by rw [HE.out];exact lq.out,fun h=>by rw [HE.out] at h;exact absurd h ot⟩
  ·have eF:(jJ U1==0)=false:=by simpa using dQ
   have HE:Hid (R={U1 with out:=jJ U1}):=by show _=_;rw [<-HR.out];unfold m9;rw [aA dQ]
   go_wp2_with fail
   go_ret
   exact ⟨_,rfl,me.out,by rw [HE.out];exact IM.out,fun h=>by rw [HE.out] at h;exact absurd h dQ⟩
theorem Tt (T g:Nat) (fv:Value) (mn:Int) (c:Cf) (ht:∀t∈c.fs,TGo c t) (hp:∀t∈c.fs,TPg t) (lm:c.bud<=2000) (hhp:0<=c.hp/\c.hp<=24000):∀n,SV T g fv mn c n:=by
 intro n;induction n using Nat.strongRecOn with
 |ind n ih=>
  intro s U w iv he hg hs hw hr;have vI:Hid _:=ih;clear ih;obtain ⟨ks,nM⟩:∃ks,ks=s.ks:=⟨_,rfl⟩;rw [<-nM] at he hw ⊢;obtain ⟨io,ic,rfl⟩:=hr.form;have HE:Hid _:=he;have HG:Hid _:=hg;have HS:Hid _:=hs;have HW:Hid _:=hw;have HR:Hid _:=hr;have HK:Hid (s.ks=ks):=nM.symm;obtain ⟨cn,DA⟩:∃cn,cn=s.cur.length:=⟨_,rfl⟩;rw [<-DA];clear he hg hs hw hr nM;have EW:Hid (cn=s.cur.length):=DA;clear DA;go_enter Tryz.func119,Tryz.ntmps119
  go_wp2_with fail
  go_loopg [1] n (fun k y wr=>k<=n/\∃s':Im,Hid (Fx T w wr)/\Hid (WP wr T g fv mn c s'.nds s'.stp s'.out (jV ks) (iZ ks))/\Hid (Ev c ks k s' U)/\Hid (s'.out=0->Gd c s'/\Sz c k s'/\s'.ks=ks/\Rd wr T y s'.cur))
  case atStart=>exact ⟨ah _,s,Fx.refl _ _,by rw [HG.out.out];exact HW.out,HE.out,fun _=>⟨HG.out,HS.out,HK.out,by rw [EW.out];exact HR.out⟩⟩
  case round=>
   clear HE HG HS HW HR HK;obtain ⟨Qd,s',HF,HW,HE,HI⟩:=hrel;obtain ⟨av,bv,ov,vs,bs,hw⟩:=HW.out;obtain ⟨_,c1,_,_,_,_,_,_,c8⟩:=hw.cells;have e8:=hw.fz 8;have qH:=hw.lt;have mZ:=hw.hT;have pN:=hw.fu;have IS:Hid _:=hw.setOut 3;clear hw;by_cases ho:s'.out=0
   ·obtain ⟨hg,hs,hk,hr⟩:=HI.out ho;rw [ho] at c8;obtain ⟨rk,hi⟩:=hg.ii;obtain ⟨x,r,jS⟩:∃x r,s'.cur=x::r:=by
     cases hq:s'.cur with
     |nil=>exact absurd hq hi.ne
     |cons a b=>exact ⟨a,b,rfl⟩
    have oB:=hr;rw [jS] at oB;obtain ⟨ib,ioff,icap,rfl,Dv⟩:=oB.isSome (by simp);obtain ⟨a0,a1⟩:=Rd.at oB 0 (by simp);simp only [bQ,fA,cy,aD] at a0 a1 ⊢;obtain ⟨_,AL,wN⟩:=Rd.cap oB;simp only [aD] at AL;unfold maxLen at wN;have MW:=hg.pg.cur x (by rw [jS];simp);have lV:r.length<=8000000:=by have:=hs.tot;unfold n9 at this;rw [jS] at this;simp at this;omega
    obtain ⟨x1,x2⟩:=x;simp only at a0 a1 MW;have gf:Hid (s'.cur=(x1,x2)::r):=jS;have HO:Hid (s'.out=0):=ho;have HG:Hid (Gd c s'):=hg;have HS:Hid (Sz c gk s'):=hs;have HK:Hid (s'.ks=ks):=hk;have R4:Hid (Ii c rk s'):=hi;have j7:Hid (∀w',Fx T wr w'->Rd w' T (.slice (some ⟨ib,ioff,none⟩) (r.length+1) icap) s'.cur):=fun w' hf=>by rw [jS];exact oB.keep hf
    have gU:Hid (Fx T wr (wr.alloc (Obj.cells #[.int .i64 x1,.int .i64 x2] 99))):=Fx.of (bM _ _) mZ;have vG:Hid (WP (wr.alloc (Obj.cells #[.int .i64 x1,.int .i64 x2] 99)) T g fv mn c s'.nds s'.stp 0 (jV ks) (iZ ks)):=by
     have:=WP.old HW.out (bM wr (Obj.cells #[.int .i64 x1,.int .i64 x2] 99));rw [ho] at this;exact this
    unfold PI at MW;simp only at MW;clear jS ho hg hs hk hi hr oB HI;have ez:s'.cur.length<=9000000:=by rw [gf.out];simp;omega
    rcases MW with h1|h3|⟨h4,lK,vh⟩|h5
    ·subst h1;by_cases hz:r.length=0
     ·have HU:Hid (U=s'):=(vD HE.out HK.out (by rw [gf.out];exact ⟨by simp [hdI],by simp [hdI],by simp [hdI],fun _ _=>by simp [hz]⟩)).2;have hd:decide ((0:Int)<(r.length:Int))=false:=bn (by omega);have X3:¬(0:Int)<(r.length:Int):=by omega
      have HZ:Hid (r.length=0):=hz;clear hz;go_wp2_with fail
      go_ret
      exact ⟨_,rfl,HF.out.trans gU.out,by rw [HU.out,HO.out];exact vG.out,s'.cur,j7.out _ gU.out,ez,fun _=>by rw [HU.out]⟩
     ·have HU:Hid (U={s' with out:=3}):=by
       obtain ⟨k',_,kW⟩:=jU HE.out HO.out (fun h=>hz (by
        have:=h.2.2.2.2 (by rw [gf.out];simp [hdI]) (by rw [gf.out];simp [hdI]);rw [gf.out] at this;exact this))
       have hm:dP c s'={s' with out:=3}:=by
        unfold dP;have h1:hdI s'.cur=(1,x2):=by rw [gf.out];rfl
        have h2:s'.cur.tail=r:=by rw [gf.out];rfl
        simp only [h1,h2];rw [ay (by decide),ay (by decide),ay (by decide),aA (by omega)]
       rw [hm] at kW;exact (vE kW (by simp)).2
      have hd:decide ((0:Int)<(r.length:Int))=true:=bG (by omega);have Xy:Hid (Fx T wr ((wr.setCell ⟨g,8,none⟩ (.int .i64 3)).alloc (Obj.cells #[.int .i64 1,.int .i64 x2] 99))):=IS.out.1.trans (Fx.of (bM _ _) (by rw [gX];exact mZ));go_wp2_with fail
      go_ret
      exact ⟨_,rfl,HF.out.trans Xy.out,by rw [HU.out];exact WP.old ⟨_,_,_,_,_,IS.out.2⟩ (bM _ _),s'.cur,j7.out _ Xy.out,ez,fun h=>by rw [HU.out] at h;simp at h⟩
    ·subst h3;have lY:=(R4.out.it (3,x2) (by rw [gf.out];simp)).2.1 rfl;obtain ⟨F,rfl⟩:=aZ lY.1;have Cp:F<c.fs.length:=by have:=lY.2;omega
     have yg:jx c (F:Int)=c.fs[F]:=by unfold jx;rw [aA lY,bC,aj Cp];rfl
     obtain ⟨fa,fcap,aay,VN,GZ,GY⟩:=pN;obtain ⟨fb,foff,aaI,KE,tz⟩:=GY.resolve_left (by omega);subst aaI;subst aay;obtain ⟨lv,f0,f1,_⟩:=tz F Cp;have aaG:fb<wr.heap.size:=by omega
     unfold maxLen at GZ;have p8:Hid (jx c (F:Int)=c.fs[F]):=yg;have ahH:=(ht _ (aE Cp)).tg.a1;clear GY tz yg;generalize c.fs[F]=t at*;by_cases bF:(r.length:Int)<t.ar
     ·have HU:Hid (U=s'):=(vD HE.out HK.out (by rw [gf.out];exact ⟨by simp [hdI],fun _=>by simp only [hdI,db,cO];rw [p8.out];exact bF,by simp [hdI],fun h=>by simp [hdI] at h⟩)).2;have hd:decide ((r.length:Int)<t.ar)=true:=bG bF;go_wp2_with fail
      go_region
      all_goals
       go_wp2_with fail
       go_ret
       exact ⟨_,rfl,(HF.out.trans gU.out).drew,by rw [HU.out,HO.out];exact WP.old vG.out (aR (ai _ _)),s'.cur,j7.out _ gU.out.drew,ez,fun _=>by rw [HU.out]⟩
     ·have hd:decide ((r.length:Int)<t.ar)=false:=bn bF;have hm:dP c s'=eX c (jx c (F:Int)) r s':=by
       unfold dP;have h1:hdI s'.cur=(3,(F:Int)):=by rw [gf.out];rfl
       have h2:s'.cur.tail=r:=by rw [gf.out];rfl
       simp only [h1,h2];rw [ay (by decide),aA trivial,aA (by rw [p8.out];omega)]
      obtain ⟨k',vk,kW⟩:=jU HE.out HO.out (fun h=>by
       have:=h.2.2.1 (by rw [gf.out];rfl);rw [gf.out] at this;simp only [hdI,db,cO] at this;rw [p8.out] at this;exact bF this)
      rw [hm] at kW;have IY:Hid (Ev c ks k' (eX c (jx c (F:Int)) r s') U):=kW;have HN:Hid ((eX c (jx c (F:Int)) r s').out=0->Gd c (eX c (jx c (F:Int)) r s')/\Sz c k' (eX c (jx c (F:Int)) r s')):=fun h=>by
       have:=kK ht hp HG.out (n:=k') (by rw [<-vk];exact HS.out) (by rw [hm];exact h);rw [hm] at this;exact this
      have oC:s'.nds.length<=900000:=by have:=HS.out.nd;have:=HS.out.sb;omega
      have Gh:n9 s'<=9000000:=by have:=HS.out.tot;omega
      have aaj:s'.ks.length<=900000:=by have:=HS.out.ks;omega
      have HC:Hid _:=Og _ T g _ mn c rk s' _ (F:Int) r gf.out HO.out (by rw [HK.out];exact WP.old vG.out (aR (ai _ _))) (j7.out _ gU.out.drew) R4.out HG.out.nb ht hp (by rw [p8.out];omega) HS.out.st lm hhp oC Gh aaj;rw [HK.out] at HC;have HKC:Hid ((eX c (jx c (F:Int)) r s').ks=ks):=by show _=_;rw [xb];exact HK.out
      clear kW hm;generalize eX c (jx c (F:Int)) r s'=S2 at*;subst vk;go_wp2_with fail
      go_region
      go_wp2_with fail
      refine (show Calls _ _ _ _ _ from HC.out).mono ?_
      rintro e w3 ⟨v3,rfl,mq,kB,ld⟩
      clear HC;go_wp2_with fail
      go_roundg k'
      case measure=>omega
      case rel=>exact ⟨by omega,S2,(HF.out.trans gU.out.drew).trans mq,kB,IY.out,fun h=>⟨(HN.out h).1,(HN.out h).2,HKC.out,ld h⟩⟩
    ·subst h4;have Xb:Hid (∀w',Calls Tryz.prog 156 #[.int .i64 x2] w' fun e w''=>e=.returned (.int .i64 (eR x2))/\w''=w'):=fun w'=>Mm x2 w' lK vh
     by_cases bF:(r.length:Int)<eR x2
     ·have HU:Hid (U=s'):=(vD HE.out HK.out (by rw [gf.out];exact ⟨by simp [hdI],by simp [hdI],fun _=>by simp only [hdI,db,cO];exact bF,fun _ h=>by simp [hdI] at h⟩)).2;have hd:decide ((r.length:Int)<eR x2)=true:=bG bF;go_wp2_with fail
      refine (show Calls _ _ _ _ _ from Xb.out _).mono ?_
      rintro e w3 ⟨rfl,rfl⟩
      go_wp2_with fail
      go_ret
      exact ⟨_,rfl,HF.out.trans gU.out,by rw [HU.out,HO.out];exact vG.out,s'.cur,j7.out _ gU.out,ez,fun _=>by rw [HU.out]⟩
     ·have hd:decide ((r.length:Int)<eR x2)=false:=bn bF;have lw:=i6 x2;obtain ⟨x',y',r',kS⟩:∃x' y' r',r=x'::y'::r':=by
       cases hq:r with
       |nil=>rw [hq] at bF;simp at bF;omega
       |cons a b=>
        cases r9:b with
        |nil=>rw [hq,r9] at bF;simp at bF;omega
        |cons a' b'=>exact ⟨a,a',b',rfl⟩
      obtain ⟨n1,n2,n3,U1,U2,l1,l2,l3,e1,e2,e3,e4,e5,e6,e7⟩:=H9 ht hp HE.out HK.out HG.out HS.out (by rw [gf.out,kS]) (by rw [<-kS];omega);have HC:Hid _:=FJ T g fv mn c n1 n2 (vI.out n1 (by omega)) (vI.out n2 (by omega)) ks x2 x' y' r' {s' with cur:=[x'],ks:=⟨2,0,x2,0,y'::r'⟩::ks} U1 U2 (wr.alloc (Obj.cells #[.int .i64 4,.int .i64 x2] 99)) (.slice (some ⟨ib,ioff,none⟩) (r.length+1) icap) rfl rfl e1 e2 e3 e4 e5 ⟨lK,vh⟩ (fun h=>by
       have:eR x2=4:=by unfold eR;rw [aA (by omega)]
       rw [kS] at bF;simp at bF;omega) (by rw [kS] at lV;simp at lV;omega) lm vG.out (by have:=j7.out _ gU.out;rw [gf.out,kS] at this;rw [kS];exact this)
      have HE6:Hid _:=e6;have R9:Hid _:=e7;clear e1 e2 e3 e4 e5 e6 e7 kS;generalize m9 c U1 U2=S2 at*;go_wp2_with fail
      refine (show Calls _ _ _ _ _ from Xb.out _).mono ?_
      rintro e w3 ⟨rfl,rfl⟩
      go_wp2_with fail
      refine (show Calls _ _ _ _ _ from HC.out).mono ?_
      rintro e w4 ⟨v4,rfl,tA,jR,s9⟩
      clear HC;go_wp2_with fail
      go_roundg n3
      case measure=>omega
      case rel=>exact ⟨by omega,S2,(HF.out.trans gU.out).trans tA,jR,HE6.out,fun h=>⟨(R9.out h).1,(R9.out h).2.1,(R9.out h).2.2,s9 h⟩⟩
    ·subst h5;have lY:=(R4.out.it (5,x2) (by rw [gf.out];simp)).2.2 rfl;obtain ⟨P,rfl⟩:=aZ lY.1;have hPl:P<s'.nds.length:=by have:=lY.2;omega
     obtain ⟨l,dn,lx⟩:∃l dn,s'.nds[P]?=some (l,dn):=⟨_,_,aj hPl⟩;have hl8:l.length<=8:=HG.out.nb _ (bm lx);have oC:s'.nds.length<=900000:=by have:=HS.out.nd;have:=HS.out.sb;omega
     have qn:Hid (∀w',Fx T wr w'->(∀h:icap=1,Rd w' T (.slice (some ⟨ib,ioff,none⟩) r.length 0) r)/\Rd w' T (.slice (some ⟨ib,ioff+2,none⟩) r.length (icap-1)) r):=fun w' hf=>by
      have:=Rd.from (j7.out w' hf) 1 (by omega);rw [gf.out] at this;exact ⟨fun h=>this.2 h,this.1⟩
     by_cases rD:icap=1
     ·have Gu:r=[]:=ch.1 (by omega);subst rD;subst Gu;cases dn with
      |true=>
       have hm:dP c s'={s' with cur:=l++[]}:=by
        unfold dP;have wH:ndI s' (P:Int)=(l,true):=by unfold ndI;rw [bC,lx];rfl
        have h1:hdI s'.cur=(5,(P:Int)):=by rw [gf.out];rfl
        have h2:s'.cur.tail=[]:=by rw [gf.out];rfl
        simp only [h1,h2,wH];rw [aA trivial,aA trivial]
       obtain ⟨k',vk,kW⟩:=jU HE.out HO.out (fun h=>h.2.1 (by rw [gf.out];rfl));rw [hm] at kW;have IY:Hid _:=kW;have HN:Hid _:=kK ht hp HG.out (n:=k') (by rw [<-vk];exact HS.out) (by rw [hm];exact HO.out);rw [hm] at HN;have HC:Hid _:=BK T g fv mn c s'.nds s'.stp (jV ks) (iZ ks) P l (wr.alloc (Obj.cells #[.int .i64 5,.int .i64 (P:Int)] 99)).drew (.slice (some ⟨ib,ioff,none⟩) 0 0) lx (WP.old vG.out (aR (ai _ _))) oC ⟨_,_,_,rfl⟩;clear kW hm;subst vk;go_wp2_with fail
       go_region_with (go_at_call 158;go_must (refine (show Calls _ _ _ _ _ from HC.out).mono ?_);rintro e w3 ⟨v3,rfl,df,ld⟩;obtain ⟨vo3,vc3,rfl⟩:=ld.form)
       all_goals
        have kt:Hid (Fx T wr w3):=gU.out.drew.trans (Fx.of df (aJ mZ gU.out.drew.size));have HJ:Hid _:=iz _ _ l [] T w3 ld ((qn.out w3 kt.out).1 (by simp)) (by omega);have lq:Hid _:=WP.old (WP.old vG.out (aR (ai _ _))) df;have xw:T<=w3.heap.size:=aJ mZ kt.out.size;clear df ld;go_wp2_with fail
        refine (show Calls _ _ _ _ _ from HJ.out).mono ?_
        rintro e w4 ⟨v4,rfl,dU,xq⟩
        clear HJ;go_wp2_with fail
        go_roundg k'
        case measure=>omega
        case rel=>exact ⟨by omega,{s' with cur:=l++[]},(HF.out.trans kt.out).trans (Fx.of dU xw),by rw [HO.out];exact WP.old lq.out dU,IY.out,fun _=>⟨HN.out.1,HN.out.2,HK.out,Rd.own xq⟩⟩
      |false=>
       obtain ⟨n1,n3,U1,l1,l3,e1,e2,e3,e4,e5⟩:=A2 ht hp lm HE.out HK.out HG.out HS.out gf.out lx;have HC:Hid _:=FI T g fv mn c n1 (vI.out n1 (by omega)) {s' with cur:=l,ks:=⟨1,(P:Int),0,0,[]⟩::ks} U1 ks P l [] (wr.alloc (Obj.cells #[.int .i64 5,.int .i64 (P:Int)] 99)).drew (.slice (some ⟨ib,ioff,none⟩) 0 0) lx rfl rfl e1 e2 e3 lm (WP.old vG.out (aR (ai _ _))) ((qn.out _ gU.out.drew).1 (by simp)) (fun h=>⟨(e4 h).2.2.2.1,(e4 h).2.2.2.2⟩);have XL:Hid _:=e4;have XK:Hid _:=e5;clear e1 e2 e3 e4 e5;go_wp2_with fail
       go_region_with (go_at_call 158;go_must (refine (show Calls _ _ _ _ _ from HC.out).mono ?_);rintro e w3 ⟨v3,rfl,mq,kB,l5,ld,Qc,GN⟩;obtain ⟨vo3,vc3,rfl⟩:=ld.form)
       all_goals
        have kt:Hid (Fx T wr w3):=gU.out.drew.trans mq;have HJ:Hid _:=iz _ _ l5 [] T w3 ld ((qn.out w3 kt.out).1 (by simp)) (by simp only [bp];omega);have lq:Hid _:=kB;have HLU:Hid _:=GN;have xw:T<=w3.heap.size:=aJ mZ kt.out.size;clear mq ld kB GN Qc;go_wp2_with fail
        refine (show Calls _ _ _ _ _ from HJ.out).mono ?_
        rintro e w4 ⟨v4,rfl,dU,xq⟩
        clear HJ;go_wp2_with fail
        by_cases sg:U1.out=0
        ·obtain ⟨q1,q2,q3,_,_⟩:=XL.out sg;go_roundg n3
         case measure=>omega
         case rel=>exact ⟨by omega,{U1 with cur:=U1.cur++[],ks:=ks,nds:=A0 P U1},(HF.out.trans kt.out).trans (Fx.of dU xw),WP.old lq.out dU,q1,fun _=>⟨q2,q3,rfl,by have:=HLU.out sg;rw [this] at xq;exact Rd.own xq⟩⟩
        ·go_roundg 0
         case measure=>omega
         case rel=>exact ⟨by omega,U1,(HF.out.trans kt.out).trans (Fx.of dU xw),by have:=WP.old lq.out dU;unfold A0 at this;rw [ay sg] at this;exact this,⟨XK.out sg,.inl sg⟩,fun h=>absurd h sg⟩
     ·cases dn with
      |true=>
       have hm:dP c s'={s' with cur:=l++r}:=by
        unfold dP;have wH:ndI s' (P:Int)=(l,true):=by unfold ndI;rw [bC,lx];rfl
        have h1:hdI s'.cur=(5,(P:Int)):=by rw [gf.out];rfl
        have h2:s'.cur.tail=r:=by rw [gf.out];rfl
        simp only [h1,h2,wH];rw [aA trivial,aA trivial]
       obtain ⟨k',vk,kW⟩:=jU HE.out HO.out (fun h=>h.2.1 (by rw [gf.out];rfl));rw [hm] at kW;have IY:Hid _:=kW;have HN:Hid _:=kK ht hp HG.out (n:=k') (by rw [<-vk];exact HS.out) (by rw [hm];exact HO.out);rw [hm] at HN;have HC:Hid _:=BK T g fv mn c s'.nds s'.stp (jV ks) (iZ ks) P l (wr.alloc (Obj.cells #[.int .i64 5,.int .i64 (P:Int)] 99)).drew (.slice (some ⟨ib,ioff+2,none⟩) r.length (icap-1)) lx (WP.old vG.out (aR (ai _ _))) oC ⟨_,_,_,rfl⟩;clear kW hm;subst vk;go_wp2_with fail
       go_region_with (go_at_call 158;go_must (refine (show Calls _ _ _ _ _ from HC.out).mono ?_);rintro e w3 ⟨v3,rfl,df,ld⟩;obtain ⟨vo3,vc3,rfl⟩:=ld.form)
       all_goals
        have kt:Hid (Fx T wr w3):=gU.out.drew.trans (Fx.of df (aJ mZ gU.out.drew.size));have HJ:Hid _:=iz _ _ l r T w3 ld (qn.out w3 kt.out).2 (by omega);have lq:Hid _:=WP.old (WP.old vG.out (aR (ai _ _))) df;have xw:T<=w3.heap.size:=aJ mZ kt.out.size;clear df ld;go_wp2_with fail
        refine (show Calls _ _ _ _ _ from HJ.out).mono ?_
        rintro e w4 ⟨v4,rfl,dU,xq⟩
        clear HJ;go_wp2_with fail
        go_roundg k'
        case measure=>omega
        case rel=>exact ⟨by omega,{s' with cur:=l++r},(HF.out.trans kt.out).trans (Fx.of dU xw),by rw [HO.out];exact WP.old lq.out dU,IY.out,fun _=>⟨HN.out.1,HN.out.2,HK.out,Rd.own xq⟩⟩
      |false=>
       obtain ⟨n1,n3,U1,l1,l3,e1,e2,e3,e4,e5⟩:=A2 ht hp lm HE.out HK.out HG.out HS.out gf.out lx;have HC:Hid _:=FI T g fv mn c n1 (vI.out n1 (by omega)) {s' with cur:=l,ks:=⟨1,(P:Int),0,0,r⟩::ks} U1 ks P l r (wr.alloc (Obj.cells #[.int .i64 5,.int .i64 (P:Int)] 99)).drew (.slice (some ⟨ib,ioff+2,none⟩) r.length (icap-1)) lx rfl rfl e1 e2 e3 lm (WP.old vG.out (aR (ai _ _))) (qn.out _ gU.out.drew).2 (fun h=>⟨(e4 h).2.2.2.1,(e4 h).2.2.2.2⟩);have XL:Hid _:=e4;have XK:Hid _:=e5;clear e1 e2 e3 e4 e5;go_wp2_with fail
       go_region_with (go_at_call 158;go_must (refine (show Calls _ _ _ _ _ from HC.out).mono ?_);rintro e w3 ⟨v3,rfl,mq,kB,l5,ld,Qc,GN⟩;obtain ⟨vo3,vc3,rfl⟩:=ld.form)
       all_goals
        have kt:Hid (Fx T wr w3):=gU.out.drew.trans mq;have HJ:Hid _:=iz _ _ l5 r T w3 ld (qn.out w3 kt.out).2 (by omega);have lq:Hid _:=kB;have HLU:Hid _:=GN;have xw:T<=w3.heap.size:=aJ mZ kt.out.size;clear mq ld kB GN Qc;go_wp2_with fail
        refine (show Calls _ _ _ _ _ from HJ.out).mono ?_
        rintro e w4 ⟨v4,rfl,dU,xq⟩
        clear HJ;go_wp2_with fail
        by_cases sg:U1.out=0
        ·obtain ⟨q1,q2,q3,_,_⟩:=XL.out sg;go_roundg n3
         case measure=>omega
         case rel=>exact ⟨by omega,{U1 with cur:=U1.cur++r,ks:=ks,nds:=A0 P U1},(HF.out.trans kt.out).trans (Fx.of dU xw),WP.old lq.out dU,q1,fun _=>⟨q2,q3,rfl,by have:=HLU.out sg;rw [this] at xq;exact Rd.own xq⟩⟩
        ·go_roundg 0
         case measure=>omega
         case rel=>exact ⟨by omega,U1,(HF.out.trans kt.out).trans (Fx.of dU xw),by have:=WP.old lq.out dU;unfold A0 at this;rw [ay sg] at this;exact this,⟨XK.out sg,.inl sg⟩,fun h=>absurd h sg⟩
   ·obtain ⟨_,hU⟩:=vE HE.out ho;subst hU;have mT:(U.out==0)=false:=by simpa using ho
    go_wp2_with fail
    go_ret
    exact ⟨_,rfl,HF.out,HW.out,[],Rd.nil _ _,by simp,fun h=>absurd h ho⟩
end Go.Proofs.YtnndoagpbcacdabGreatDoor
