import Derived.Test.YtnndoagpbcacdabGreatDoorMF3b
namespace Go.Proofs.YtnndoagpbcacdabGreatDoor
set_option maxHeartbeats 8000000
set_option maxRecDepth 100000
open Go.RowKit
theorem Ie (w:World) (T g:Nat) (fv:Value) (nm:List Tk) (ds:List Df) (bud:Int) (D:List Dl) (stp out:Int) (n:Nat) (d:Dl) (h:SnP w T g fv nm ds bud D stp out) (hd:D[n]?=some d) (hv:d.val≠[]) (hl:D.length<=100000):
 Calls Tryz.prog 160 #[.pointer (some ⟨g,0,none⟩),.int .i64 (n:Int)] w fun e w'=>∃v,e=.returned v/\Below w.heap.size w w'/\Rd w' T v d.val:=by
 obtain ⟨av,vs,hw⟩:=h;have oC:=(aP.1 hd).1;have qh:=hw.vl;have PK:n<vs.length:=by omega
 have Ai:vs[n]?=some vs[n]:=aj PK;obtain ⟨_,_,eu⟩:=hw.rv n _ d Ai hd;obtain ⟨k0,k1,k2⟩:=Cv vs n _ Ai;obtain ⟨q,cap,rfl,ZN,Ex⟩:=hw.ra.form (by omega);have c0:=aH hw.ra _ _ k0;have c1:=aH hw.ra _ _ k1;have c2:=aH hw.ra _ _ k2;obtain ⟨_,_,_,c3,_⟩:=hw.cells;have jb:=fY hw.ra;have qH:=hw.lt;generalize vs[n]=v at*;obtain ⟨v1,v2,v3⟩:=v;simp only at*;obtain ⟨ao,ac,rfl⟩:=eu.form;have hz:d.val.length≠0:=fun e=>hv (ch.1 e)
 have eF:((d.val.length:Int)==0)=false:=by simpa using hz
 have ot:¬(d.val.length:Int)=0:=by omega
 have j7:Hid _:=eu;clear eu hw Ai k0 k1 k2 qh hd;go_enter Tryz.func160,Tryz.ntmps160
 go_wp2_with fail
 go_ret
 exact ⟨_,rfl,ai _ _,j7.out⟩
theorem Lh (T g:Nat) (fv:Value) (nm:List Tk) (ds:List Df) (c:Cf) (n1:Nat) (ym:W4 T g fv nm ds c n1) (s U:Im) (ks:List Kf) (p:Nat) (r:Ln) (w:World) (D:List Dl) (ρ:List Nat) (n:Nat) (d:Dl) (nM:s.ks=⟨1,(p:Int),0,0,r⟩::ks) (lx:s.nds[p]?=some (s.cur,false)) (he:Ev c s.ks n1 s U) (hg:Gd c s) (hs:Sz c n1 s)
 (hw:SnP w T g fv nm ds c.bud D s.stp 0) (nB:Smr nm D ρ s.nds (iZ ks)) (hd:D[n]?=some d) (hp:ρ[n]?=some p) (h0:d.st=0) (lm:c.bud<=2000) (I6:U.out=0->U.cur≠[]):
 Calls Tryz.prog 160 #[.pointer (some ⟨g,0,none⟩),.int .i64 (n:Int)] w fun e w'=>∃v D' ρ' l',e=.returned v/\Fx T w w'/\SnP w' T g fv nm ds c.bud D' U.stp U.out/\Exd D D' ρ ρ'/\Rd w' T v l'/\l'.length<=9000000/\(U.out=0->imL ρ' l'=U.cur/\vL D'.length l'/\Smr nm D' ρ' (A0 p U) (iZ ks)):=by
 have SR:D.length<=24000:=by have:=nB.le;have:=hs.nd;have:=hs.sb;omega
 obtain ⟨f1,f2,f3⟩:=yW nB hd hp h0;rw [lx] at f1;obtain ⟨av,vs,hw⟩:=hw;have oC:=(aP.1 hd).1;have qh:=hw.vl;have PK:n<vs.length:=by omega
 have Ai:vs[n]?=some vs[n]:=aj PK;obtain ⟨So,zn,ua⟩:=hw.rv n _ d Ai hd;obtain ⟨VQ,VP⟩:=hw.ev d (bm hd);obtain ⟨k0,k1,k2⟩:=Cv vs n _ Ai;obtain ⟨q,cap,rfl,ZN,Ex⟩:=hw.ra.form (by omega);have c0:=aH hw.ra _ _ k0;have c1:=aH hw.ra _ _ k1;have c2:=aH hw.ra _ _ k2;obtain ⟨_,_,_,c3,_⟩:=hw.cells;have jb:=fY hw.ra;have qH:=hw.lt;have mZ:=hw.hT;rw [(nB.s0 n d p hd hp h0).1] at ua;obtain ⟨xs,An,pI,pH⟩:=So;have oG:=Nr d.ps d.env d.b;have NB:Hid _:=Nq T g fv nm ds c.bud s.stp 0 d.ps d.env d.b (D.set n {d with st:=1}) xs vs[n].1 vs[n].2.1 w.drew ⟨_,_,(hw.take hd).old (aR (ai _ _))⟩ (World.ownsRow.drew An) pI (ER.keep (w:=w) (w':=w.drew) (fun _ _=>rfl) (fun _ h=>h) pH) (zn.old (aR (ai _ _))) VQ VP (by rw [bJ];omega);rw [bJ] at NB;generalize vs[n]=v at*;obtain ⟨v1,v2,v3⟩:=v;simp only at*;obtain ⟨ao,ac,rfl⟩:=ua.form;simp only [bp] at c2;obtain ⟨po,pcap,rfl⟩:=aU An;obtain ⟨eo,ecap,rfl⟩:=zn.form;have me:Hid _:=f2;have kt:Hid _:=f3;have L5:Hid (imL (ρ++bss d.b (p+1)) (ous (aX d.ps nm) d.env d.b D.length)=s.cur):=by simp at f1;exact f1.symm
 have Xl:Hid _:=ym;have HE:Hid _:=he;have HG:Hid _:=hg;have HS:Hid _:=hs;have YL:Hid _:=nM;have HD:Hid _:=hd;have HP:Hid _:=hp;have H0:Hid _:=h0;have HUN:Hid _:=I6;clear f1 f2 f3 ym he hg hs nM hd hp h0 I6 Ai k0 k1 k2 qh hw ua zn An pI pH lx VQ VP nB oG PK lm;go_enter Tryz.func160,Tryz.ntmps160
 go_wp2_with fail
 go_cut [5] (fun vx wc=>Hid (Fx T w wc)/\Hid (SnP wc T g fv nm ds c.bud (D.set n {d with st:=1}++dls d.ps d.env d.b) s.stp 0)/\Hid (Rd wc T vx (ous (aX d.ps nm) d.env d.b D.length)))
 case first=>
  go_region_with (go_at_call 187;go_must (refine (show Calls _ _ _ _ _ from NB.out).mono ?_);rintro e w1 ⟨lv,rfl,oS,Et,pG⟩)
  all_goals
   go_wp2_with fail
   go_meet
   case rel=>exact ⟨(Fx.refl T w).drew.trans oS,Et,pG⟩
 case rest=>
  obtain ⟨HFC,CI,RU⟩:=hcut;obtain ⟨lo,lcap,rfl⟩:=Rd.form RU.out;have rC:iZ s.ks=iZ ks++[(p:Int)]:=by rw [YL.out];exact wm ks rfl
  have HC:Hid _:=Xl.out s U wc _ (ous (aX d.ps nm) d.env d.b D.length) (D.set n {d with st:=1}++dls d.ps d.env d.b) (ρ++bss d.b (p+1)) HE.out HG.out HS.out CI.out (by rw [rC];exact me.out) kt.out L5.out RU.out;rw [rC] at HC;clear rC c0 c1 c2 c3 jb ZN Ex NB RU CI Xl;generalize (ous (aX d.ps nm) d.env d.b D.length).length=ln at*;go_wp2_with fail
  refine (show Calls _ _ _ _ _ from HC.out).mono ?_
  rintro e w2 ⟨v,D3,ρ3,l',rfl,lY,lw,Sy,tb,gS,Dn⟩
  clear HC;obtain ⟨mV,VO⟩:=Exd.force HD.out H0.out Sy;have Z5:=(aP.1 mV).1;obtain ⟨av3,vs3,kB⟩:=lw;obtain ⟨q3,cap3,rfl,agv,agu⟩:=kB.ra.form (by omega);have ZZ:n<vs3.length:=by rw [kB.vl];exact Z5
  obtain ⟨k0,k1,k2⟩:=Cv vs3 n _ (aj ZZ);have c2:=aH kB.ra _ _ k2;have z2:=To kB.ra (n*3+2);obtain ⟨_,_,_,c3,_⟩:=kB.cells;have jb:=fY kB.ra;have ag9:=kB.lt;obtain ⟨vs4,Qo,jR⟩:=kB.layV (st:=2) rfl tb mV;obtain ⟨vo,vc,rfl⟩:=tb.form;obtain ⟨_,_,_,e3,_⟩:=jR.cells;have agC:n<vs4.length:=by rw [jR.vl,bJ];exact Z5
  have RT:Hid _:=tb.keep Qo;have lO:Hid _:=(HFC.out.trans lY).trans Qo;have oV:Hid _:=jR;have xz:Hid _:=Dn;have zt:Hid _:=VO;have HD3:Hid _:=mV;clear lY kB Sy tb Dn Qo jR VO mV k0 k1 k2;generalize X5:vs3[n].2.2=vv3 at*;clear X5;go_wp2_with fail
  go_ret
  refine ⟨_,D3.set n {d with val:=l',st:=2},ρ3,l',rfl,lO.out,⟨_,_,oV.out⟩,zt.out _,RT.out,gS,fun hU=>?_⟩
  obtain ⟨u1,u2,u3⟩:=xz.out hU;have pH:ρ3[n]?=some p:=by
   obtain ⟨ρ2,e⟩:=(zt.out d).ex;rw [e,aI (aP.1 HP.out).1];exact HP.out
  have dI:l'≠[]:=fun e=>HUN.out hU (by rw [<-u1,e];rfl)
  have hk:=u3.known HD3.out pH rfl dI u2;refine ⟨u1,by rw [bJ];exact u2,?_⟩
  unfold A0;rw [aA hU,<-u1];exact hk
theorem Tf {c:Cf} {F:Nat} {t:Tp} (h:c.fs[F]?=some t):jx c (F:Int)=t:=by
 have hl:=(aP.1 h).1;unfold jx;rw [aA ⟨by omega,by omega⟩,bC,h];rfl
theorem C3 {w:World} {b:Nat} {a0 a1 a2:Value} {t:TypeId} (h:w.heap[b]?=some (.cells #[a0,a1,a2] t (0,0))):w.cell? ⟨b,0,none⟩=some a0/\w.cell? ⟨b,1,none⟩=some a1/\w.cell? ⟨b,2,none⟩=some a2/\w.frozen? ⟨b,0,none⟩=false/\w.frozen? ⟨b,1,none⟩=false/\w.frozen? ⟨b,2,none⟩=false/\b<w.heap.size:=
 ⟨by rw [al _ _ 0 _ _ _ h];rfl,by rw [al _ _ 1 _ _ _ h];rfl,by rw [al _ _ 2 _ _ _ h];rfl,aG _ _ _ _ _ h,aG _ _ _ _ _ h,aG _ _ _ _ _ h,(ae.1 h).1⟩
theorem Rq (T g:Nat) (fv:Value) (nm:List Tk) (ds:List Df) (c:Cf) (s:Im) (w:World) (iv:Value) (F:Nat) (lr:Ln) (D:List Dl) (ρ:List Nat) (t:Tp) (d:Df) (Dz:Cx nm ds c) (Pj:c.fs[F]?=some t) (G6:ds[F]?=some d) (mQ:TGo c t)
 (ho:s.out=0) (fZ:0<=s.stp) (lx:(s.nds.length:Int)<=12*s.stp) (hw:SnP w T g fv nm ds c.bud D s.stp 0) (nB:Smr nm D ρ s.nds (iZ s.ks)) (hv:vL D.length lr) (hr:Rd w T iv ((3,(F:Int))::lr)) (oJ:d.ps.length<=lr.length) (un:lr.length<=9000000):
 Calls Tryz.prog 161 #[.pointer (some ⟨g,0,none⟩),iv] w fun e w'=>∃v D' ρ' l',e=.returned v/\Fx T w w'/\SnP w' T g fv nm ds c.bud D' (eX c t (imL ρ lr) s).stp (eX c t (imL ρ lr) s).out/\Exd D D' ρ ρ'/\Rd w' T v l'/\((eX c t (imL ρ lr) s).out=0->imL ρ' l'=(eX c t (imL ρ lr) s).cur/\vL D'.length l'/\Smr nm D' ρ' (eX c t (imL ρ lr) s).nds (iZ s.ks)):=by
 obtain ⟨Uz,VU,yJ,gV⟩:=Dz.tp F d t G6 Pj;have Cp:=(aP.1 G6).1;have oG:=Dz.dl;obtain ⟨av,vs,hw⟩:=hw;obtain ⟨xs,oS,lY,mq⟩:=hw.fu;have tC:ds[F]=d:=by rw [aj Cp] at G6;exact Option.some.inj G6
 obtain ⟨psv,bv,y0,y1,y2,qI⟩:=gO.at mq F Cp;rw [tC] at y0 qI;obtain ⟨hh,a,zs,fN,rA,ew,DE,Wd⟩:=qI.body;have Uv:=gV hh a fN rA ew;obtain ⟨qf,capf,rfl,_,ZK⟩:=oS.form (by omega);have f0:=aH oS _ _ y0;have f1:=aH oS _ _ y1;have f2:=aH oS _ _ y2;have V4:=fY oS;have fU:=qI.prow;have Gz:=qI.plt;have iB:=qI.blt;have aa5:(At.sim hh a).toks.length<=1000:=by rw [fN] at yJ;exact yJ
 have Wa:(At.sim hh a).toks.length<=1000:=by rw [fN] at yJ;exact yJ
 obtain ⟨po,pc,rfl⟩:=aU fU;obtain ⟨bo,bc,rfl⟩:=aU DE;obtain ⟨ib,ioff,icap,rfl,Vz⟩:=hr.isSome (by simp);obtain ⟨i0,i1⟩:=Rd.at hr 0 (by simp);simp only [bQ,fA,cy,aD] at i0 i1 ⊢;obtain ⟨_,c1,c2,c3,c4⟩:=hw.cells;have c0:=hw.cells.1;have qH:=hw.lt;have mZ:=hw.hT;obtain ⟨_,AL,wN⟩:=Rd.cap hr;simp only [aD] at AL;unfold maxLen at wN;have SR:D.length<=24000\/c.bud<=s.stp:=by have:=nB.le;have:=Dz.bud;omega
 have lm:=Dz.bud;have Sb:Hid _:=Dz;have mD:Hid _:=nB;have HV:Hid _:=hv;have Xs:Hid _:=Uv;have SZ:Hid _:=Uz;have HTG:Hid _:=mQ;have HO:Hid _:=ho;have S4:Hid _:=lx;have HR:Hid (∀w',Fx T w w'->Rd w' T (.slice (some ⟨ib,ioff,none⟩) (lr.length+1) icap) ((3,(F:Int))::lr)):=fun w' hf=>hr.keep hf
 have NB:Hid (∀(w':World) (ev:Value) (E:Ln) (stp:Int),Fx T w w'->SnP w' T g (.slice (some ⟨qf,0,none⟩) ds.length capf) nm ds c.bud D stp 0->Rd w' T ev E->E.length=d.ps.length->D.length<=24000->_):=fun w' ev E stp hf Zz hev hE hD=>Nq T g (.slice (some ⟨qf,0,none⟩) ds.length capf) nm ds c.bud stp 0 d.ps E (.sim hh a) D zs (.slice bo (a.cnt+1) bc) ev w' Zz (cM DE hf.bel iB) iB (ER.keep (fun k hk=>hf.bel.block k hk) (fun _ h=>h) Wd) hev hE Wa (by have:=Nr d.ps E (.sim hh a);omega)
 have HW:Hid _:=hw;clear oS lY mq qI fN Wd DE hr nB hv Uv Uz mQ ho lx fU Gz iB hw G6 Pj tC gV Dz y0 y1 y2 ew rA Wa yJ;obtain ⟨S,hS⟩:∃S,S=eX c t (imL ρ lr) s:=⟨_,rfl⟩;rw [<-hS];have HS:Hid _:=hS;clear hS;go_enter Tryz.func161,Tryz.ntmps161
 go_wp2_with fail
 go_cut [5] (fun vx wc=>vx=.pointer (some ⟨w.heap.size,0,none⟩)/\Hid (Below w.heap.size w wc)/\Hid (wc.heap[w.heap.size]?=some (.cells #[.string d.name.txt,.slice po d.ps.length pc,.slice bo (a.cnt+1) bc] 183 (0,0))))
 case first=>
  go_region
  all_goals
   go_wp2_with fail
   go_meet
   case rel=>exact ⟨rfl,aR (bM w _),az w _⟩
 case rest=>
  obtain ⟨Sg,qe,qP⟩:=hcut;rw [Sg];clear Sg c0 c1 c2 c3 c4 i0 i1 f0 f1 f2;have Ah:=SB.old HW.out qe.out;have hgc:=Ah.lt;have CI:Hid (SnP wc T g (.slice (some ⟨qf,0,none⟩) ds.length capf) nm ds c.bud D s.stp 0):=⟨_,_,Ah⟩;have Jr:Hid (Fx T w wc):=Fx.of qe.out mZ;have oz:w.heap.size<wc.heap.size:=(ae.1 qP.out).1;clear Ah;by_cases hb:c.bud<=s.stp
  ·have HE:Hid (S={s with out:=5}):=by show _=_;rw [HS.out];unfold eX;rw [aA hb]
   have HC:Hid _:=Np wc T g _ nm ds c.bud D s.stp 0 CI.out hb;go_wp2_with fail
   refine (show Calls _ _ _ _ _ from HC.out).mono ?_
   rintro e w2 ⟨rfl,lY,_,lw⟩
   clear HC;go_wp2_with fail
   go_ret
   exact ⟨_,D,ρ,[],rfl,Jr.out.trans lY,by rw [HE.out];exact lw,Exd.refl _ _,Rd.nil _ _,fun h5=>by rw [HE.out] at h5;simp at h5⟩
  ·have WE:D.length<=24000:=SR.resolve_right hb;have hnf:¬c.hp<(mM s:Int)+((t.ls.length:Int)-1):=by
    have h1:=FU s;have h2:=HTG.out.tg.n1;have h3:=S4.out;have h4:=Sb.out.hp;omega
   have HE:Hid (S={s with stp:=s.stp+1,cur:=cL (t.ls.headD []) ((imL ρ lr).take t.ar.toNat) (idP s.nds.length (t.ls.length-1))++(imL ρ lr).drop t.ar.toNat,nds:=s.nds++t.ls.tail.map (fun l=>(cL l ((imL ρ lr).take t.ar.toNat) (idP s.nds.length (t.ls.length-1)),false))}):=by show _=_;rw [HS.out];unfold eX;rw [ay hb,ay hnf]
   have ju:Hid _:=LA mD.out Xs.out SZ.out HV.out;have rN:Hid (∀(w':World) (v:Value),SnP w' T g (.slice (some ⟨qf,0,none⟩) ds.length capf) nm ds c.bud (D++dls d.ps (lr.take d.ps.length) (.sim hh a)) (s.stp+1) 0->Fx T w w'->Rd w' T v (ous (aX d.ps nm) (lr.take d.ps.length) (.sim hh a) D.length++lr.drop d.ps.length)->∃v' D' ρ' l',v=v'/\Fx T w w'/\SnP w' T g (.slice (some ⟨qf,0,none⟩) ds.length capf) nm ds c.bud D' S.stp S.out/\Exd D D' ρ ρ'/\Rd w' T v' l'/\(S.out=0->imL ρ' l'=S.cur/\vL D'.length l'/\Smr nm D' ρ' S.nds (iZ s.ks))):=fun w' v h1 h2 h3=>⟨v,_,_,_,rfl,h2,by rw [HE.out];simp only [HO.out];exact h1,Exd.app _ _ _ _,h3,fun _=>by rw [HE.out];exact ⟨ju.out.2.1,ju.out.2.2,ju.out.1⟩⟩
   have HC:Hid _:=No wc T g _ nm ds c.bud D s.stp 0 CI.out fZ lm (by omega);have U6:(ous (aX d.ps nm) (lr.take d.ps.length) (.sim hh a) D.length).length<=1000:=by
    rw [FS];exact aJ (At.cnt_le _) aa5
   have GF:Hid _:=U6;clear U6;clear hnf ju HE HS Sb mD Xs SZ HTG HO S4 HV;go_wp2_with fail
   refine (show Calls _ _ _ _ _ from HC.out).mono ?_
   rintro e w3 ⟨rfl,mq,df,kB⟩
   clear HC;have kt:Hid (Fx T w w3):=Jr.out.trans mq;have EQ:Hid (w3.heap[w.heap.size]?=some (.cells #[.string d.name.txt,.slice po d.ps.length pc,.slice bo (a.cnt+1) bc] 183 (0,0))):=(df.oth w.heap.size oz (by omega)).trans qP.out;have lq:Hid _:=kB;obtain ⟨_,s1,s2,_,_,_,Um⟩:=C3 EQ.out;clear mq df kB qP qe CI Jr oz hgc;by_cases rD:icap=1
   ·have Gu:lr=[]:=ch.1 (by omega);subst rD;subst Gu;have rg:d.ps.length=0:=by simpa using oJ
    simp only [List.take_nil,List.drop_nil] at rN GF;have xC:Hid _:=NB.out w3.drew (.slice (some ⟨ib,ioff,none⟩) 0 0) [] (s.stp+1) kt.out.drew (SnP.old lq.out (aR (ai _ _))) (by have q:=(Rd.from (HR.out _ kt.out.drew) 1 (by simp)).2 rfl;exact q) (by rw [rg];rfl) WE;rw [rg] at s1;have Jm:Hid _:=rg;clear rg oJ;have afZ:IntKind.i64.wrap 1=1:=by decide
    have af0:IntKind.i64.wrap 0=0:=by decide
    go_wp2_with fail
    go_cut [1,8] (fun v1 vx wx=>v1=.slice (some ⟨ib,ioff,none⟩) 1 1/\(∃ao bo',vx=.slice ao (ous (aX d.ps nm) [] (.sim hh a) D.length).length bo')/\Hid (Fx T w wx)/\Hid (SnP wx T g (.slice (some ⟨qf,0,none⟩) ds.length capf) nm ds c.bud (D++dls d.ps [] (.sim hh a)) (s.stp+1) 0)/\Hid (Rd wx T vx (ous (aX d.ps nm) [] (.sim hh a) D.length)))
    case first=>
     go_region_law ((go_simp;go_at_call 187;refine (show Calls _ _ _ _ _ from xC.out).mono ?_;rintro e w5 ⟨v5,rfl,hf5,Es,pF⟩))
     all_goals
      go_wp2_with fail
      go_meet
      case rel=>exact ⟨rfl,pF.form,kt.out.drew.trans hf5,Es,pF⟩
    case rest=>
     obtain ⟨mN,⟨vo5,vc5,Pc⟩,Bt,LT,Eg⟩:=hcut;rw [Pc] at Eg;rw [mN,Pc];clear mN Pc xC NB lq s1 s2;generalize Wx:(ous (aX d.ps nm) [] (.sim hh a) D.length).length=ol at*;have YC:Hid _:=Wx;clear Wx;have U5:ol<=1000:=GF.out;have Xi:Hid (Rd wc T (.slice (some ⟨ib,ioff,none⟩) 0 0) ([]:Ln)):=by
      exact (Rd.from (HR.out wc Bt.out) 1 (by simp)).2 rfl
     have HJ:Hid _:=iz (.slice vo5 ol vc5) (.slice (some ⟨ib,ioff,none⟩) 0 0) (ous (aX d.ps nm) [] (.sim hh a) D.length) [] T wc Eg.out Xi.out (by rw [YC.out];simp;omega);go_wp2_with fail
     refine (show Calls _ _ _ _ _ from HJ.out).mono ?_
     rintro e w6 ⟨v6,rfl,js,MY⟩
     clear HJ;have HZ:Hid _:=rN.out w6 v6 (SnP.old LT.out js) (Bt.out.trans (Fx.of js (by have:=Bt.out.size;omega))) (Rd.own MY);clear js MY;obtain ⟨v7,D7,ρ7,l7,rfl,h7⟩:=HZ.out;go_wp2_with fail
     go_ret
     exact ⟨_,D7,ρ7,l7,rfl,h7⟩
   ·
    have xC:Hid _:=NB.out w3.drew (.slice (some ⟨ib,ioff+2,none⟩) d.ps.length (icap-1)) (lr.take d.ps.length) (s.stp+1) kt.out.drew (SnP.old lq.out (aR (ai _ _))) (by exact Rd.part (k:=1) (m:=d.ps.length) (c:=icap-1) (HR.out _ kt.out.drew) (by simp;omega) (by omega) (by unfold maxLen;omega)) (by rw [cF];omega) WE;have t9:IntKind.i64.wrap (1+(d.ps.length:Int))=1+(d.ps.length:Int):=Go.IntWalk.i64_in _ (by omega);have MJ:0<=1+(d.ps.length:Int)/\1+(d.ps.length:Int)<=(icap:Int):=by omega
    have MI:1<=max (1+(d.ps.length:Int)) 0:=by omega
    have oA:(1+(d.ps.length:Int)).toNat-1=d.ps.length:=by omega
    go_wp2_with fail
    go_cut [1,8] (fun v1 vx wx=>v1=.slice (some ⟨ib,ioff,none⟩) (lr.length+1) icap/\(∃ao bo',vx=.slice ao (ous (aX d.ps nm) (lr.take d.ps.length) (.sim hh a) D.length).length bo')/\Hid (Fx T w wx)/\Hid (SnP wx T g (.slice (some ⟨qf,0,none⟩) ds.length capf) nm ds c.bud (D++dls d.ps (lr.take d.ps.length) (.sim hh a)) (s.stp+1) 0)/\Hid (Rd wx T vx (ous (aX d.ps nm) (lr.take d.ps.length) (.sim hh a) D.length)))
    case first=>
     go_region_law ((go_simp;go_at_call 187;refine (show Calls _ _ _ _ _ from xC.out).mono ?_;rintro e w5 ⟨v5,rfl,hf5,Es,pF⟩))
     all_goals
      go_wp2_with fail
      go_meet
      case rel=>exact ⟨rfl,pF.form,kt.out.drew.trans hf5,Es,pF⟩
    case rest=>
     obtain ⟨mN,⟨vo5,vc5,Pc⟩,Bt,LT,Eg⟩:=hcut;rw [Pc] at Eg;rw [mN,Pc];clear mN Pc xC NB lq s1 s2;generalize Wx:(ous (aX d.ps nm) (lr.take d.ps.length) (.sim hh a) D.length).length=ol at*;have YC:Hid _:=Wx;clear Wx;have U5:ol<=1000:=GF.out;have Do:(1+(d.ps.length:Int)).toNat=1+d.ps.length:=by omega
     by_cases aaq:icap=1+d.ps.length
     ·skip
      have Xi:Hid (Rd wc T (.slice (some ⟨ib,ioff,none⟩) (lr.length+1-(1+d.ps.length)) 0) (lr.drop d.ps.length)):=by
       have q:=(Rd.from (HR.out wc Bt.out) (1+d.ps.length) (by omega)).2 aaq;rw [show 1+d.ps.length=d.ps.length+1 by omega] at q ⊢;exact q
      have HJ:Hid _:=iz (.slice vo5 ol vc5) (.slice (some ⟨ib,ioff,none⟩) (lr.length+1-(1+d.ps.length)) 0) (ous (aX d.ps nm) (lr.take d.ps.length) (.sim hh a) D.length) (lr.drop d.ps.length) T wc Eg.out Xi.out (by rw [cI,YC.out];omega);go_wp2_with fail
      refine (show Calls _ _ _ _ _ from HJ.out).mono ?_
      rintro e w6 ⟨v6,rfl,js,MY⟩
      clear HJ;have HZ:Hid _:=rN.out w6 v6 (SnP.old LT.out js) (Bt.out.trans (Fx.of js (by have:=Bt.out.size;omega))) (Rd.own MY);clear js MY;obtain ⟨v7,D7,ρ7,l7,rfl,h7⟩:=HZ.out;go_wp2_with fail
      go_ret
      exact ⟨_,D7,ρ7,l7,rfl,h7⟩
     ·skip
      have Xi:Hid (Rd wc T (.slice (some ⟨ib,ioff+(1+d.ps.length)*2,none⟩) (lr.length+1-(1+d.ps.length)) (icap-(1+d.ps.length))) (lr.drop d.ps.length)):=by
       have q:=(Rd.from (HR.out wc Bt.out) (1+d.ps.length) (by omega)).1;rw [show 1+d.ps.length=d.ps.length+1 by omega] at q ⊢;exact q
      have HJ:Hid _:=iz (.slice vo5 ol vc5) (.slice (some ⟨ib,ioff+(1+d.ps.length)*2,none⟩) (lr.length+1-(1+d.ps.length)) (icap-(1+d.ps.length))) (ous (aX d.ps nm) (lr.take d.ps.length) (.sim hh a) D.length) (lr.drop d.ps.length) T wc Eg.out Xi.out (by rw [cI,YC.out];omega);go_wp2_with fail
      refine (show Calls _ _ _ _ _ from HJ.out).mono ?_
      rintro e w6 ⟨v6,rfl,js,MY⟩
      clear HJ;have HZ:Hid _:=rN.out w6 v6 (SnP.old LT.out js) (Bt.out.trans (Fx.of js (by have:=Bt.out.size;omega))) (Rd.own MY);clear js MY;obtain ⟨v7,D7,ρ7,l7,rfl,h7⟩:=HZ.out;go_wp2_with fail
      go_ret
      exact ⟨_,D7,ρ7,l7,rfl,h7⟩
theorem If (T g:Nat) (fv:Value) (nm:List Tk) (ds:List Df) (c:Cf) (n1 n2:Nat) (Gs:W4 T g fv nm ds c n1) (Gq:W4 T g fv nm ds c n2) (ks:List Kf) (p:Int) (x y:Int×Int) (r:Ln) (s1 U1 U2:Im) (w:World) (iv:Value) (D:List Dl) (ρ:List Nat)
 (lk:s1.cur=[imA ρ x]) (eA:s1.ks=⟨2,0,p,0,imA ρ y::imL ρ r⟩::ks) (Ji:Ev c s1.ks n1 s1 U1) (qX:Gd c s1) (fH:Sz c n1 s1) (sg:U1.out=0->Gd c U1)
 (h2:jJ U1=0->Ev c (⟨3,0,p,(hdI U1.cur).2,imL ρ r⟩::ks) n2 {U1 with cur:=[imA ρ y],ks:=⟨3,0,p,(hdI U1.cur).2,imL ρ r⟩::ks} U2/\Gd c {U1 with cur:=[imA ρ y],ks:=⟨3,0,p,(hdI U1.cur).2,imL ρ r⟩::ks}/\Sz c n2 {U1 with cur:=[imA ρ y],ks:=⟨3,0,p,(hdI U1.cur).2,imL ρ r⟩::ks}/\(U2.out=0->Gd c U2/\U2.ks=⟨3,0,p,(hdI U1.cur).2,imL ρ r⟩::ks/\0<=U2.stp))
 (hp:0<=p/\p<=4) (hr:2<p->2<=r.length) (lV:r.length<=9000000) (lm:c.bud<=2000)
 (hw:SnP w T g fv nm ds c.bud D s1.stp 0) (nB:Smr nm D ρ s1.nds (iZ ks)) (hv:vL D.length ((4,p)::x::y::r)) (eu:Rd w T iv ((4,p)::x::y::r)):
 Calls Tryz.prog 162 #[.pointer (some ⟨g,0,none⟩),iv] w fun e w'=>∃v D' ρ' l',e=.returned v/\Fx T w w'/\SnP w' T g fv nm ds c.bud D' (m9 c U1 U2).stp (m9 c U1 U2).out/\Exd D D' ρ ρ'/\Rd w' T v l'/\((m9 c U1 U2).out=0->imL ρ' l'=(m9 c U1 U2).cur/\vL D'.length l'/\Smr nm D' ρ' (m9 c U1 U2).nds (iZ ks)):=by
 obtain ⟨ib,ioff,icap,rfl,Dv⟩:=eu.isSome (by simp);obtain ⟨a2,a3⟩:=Rd.at eu 1 (by simp);simp only [bQ,dJ,Nat.one_mul] at a2 a3;have VX:=Rd.cap eu;simp only [aD] at VX;obtain ⟨_,AL,wN⟩:=VX;unfold maxLen at wN;have hT:T<=w.heap.size:=by obtain ⟨_,_,h⟩:=hw;exact h.hT
 have M5:=nB.len;have Uo:vA D.length x:=hv x (by simp);have hvy:vA D.length y:=hv y (by simp);have et:vL D.length r:=hv.sub (fun z hz=>by simp [hz]);have XR:Hid _:=Ic T g fv nm ds c n1 Gs s1 U1 ⟨2,0,p,0,imA ρ y::imL ρ r⟩ ks x w D ρ lk eA (by simp) Ji qX fH hw nB Uo (fun h=>(sg h).ii.elim fun rk hi=>hi.ne);have j7:Hid (∀w',Fx T w w'->Rd w' T (.slice (some ⟨ib,ioff,none⟩) ((4,p)::x::y::r).length icap) ((4,p)::x::y::r)):=fun w' hf=>eu.keep hf
 obtain ⟨x1,x2⟩:=x;obtain ⟨y1,y2⟩:=y;simp only at*;generalize hR:m9 c U1 U2=R;have HR:Hid (m9 c U1 U2=R):=hR;have HVY:Hid _:=hvy;have LU:Hid _:=et;have YI:Hid _:=M5;have EU:Hid _:=h2;clear hR eu hw nB hv Uo hvy et M5 lk eA Ji qX fH sg h2;go_enter Tryz.func162,Tryz.ntmps162
 go_wp2_with fail
 refine (show Calls _ _ _ _ _ from XR.out).mono ?_
 rintro e w2 ⟨va,D1,ρ1,rfl,lY,lw,mN,pD⟩
 clear XR a2 a3;have me:Hid _:=lY;have qO:Hid _:=mN;have IM:Hid _:=lw;have ze:Hid _:=pD;have Qk:ib<w2.heap.size:=bq Dv lY.size;obtain ⟨av2,vs2,lw⟩:=lw;obtain ⟨_,_,_,_,d4⟩:=lw.cells;have qj:=lw.lt;clear lw lY mN pD;by_cases dQ:jJ U1=0
 ·obtain ⟨Ur,Pq⟩:=ze.out dQ;obtain ⟨AH,AA,lJ,EK⟩:=EU.out dQ;rw [<-Ur] at AH AA lJ EK;clear Ur;rw [dQ] at d4;have IL:Hid (SnP w2 T g fv nm ds c.bud D1 U1.stp 0):=by have:=IM.out;rw [dQ] at this;exact this
  have Un:vA D1.length (y1,y2):=by have:=qO.out.vl (l:=[(y1,y2)]) (vL.cons HVY.out (vL.nil _));exact this _ (by simp)
  have Vy:imA ρ1 (y1,y2)=imA ρ (y1,y2):=by
   have:=qO.out.im (l:=[(y1,y2)]) YI.out (vL.cons HVY.out (vL.nil _));unfold imL at this;simpa using this
  have Js:Hid _:=Ic T g fv nm ds c n2 Gq {U1 with cur:=[imA ρ (y1,y2)],ks:=⟨3,0,p,va,imL ρ r⟩::ks} U2 ⟨3,0,p,va,imL ρ r⟩ ks (y1,y2) w2 D1 ρ1 (by rw [Vy]) rfl (by simp) AH AA lJ IL.out Pq Un (fun h=>(EK h).1.ii.elim fun rk hi=>hi.ne);obtain ⟨b4,b5⟩:=Rd.at (j7.out w2 me.out) 2 (by simp);simp only [bQ,dJ] at b4 b5;have xz:Hid _:=EK;have W8:Hid _:=dQ;have YK:Hid _:=Pq.len;clear Pq AH AA lJ EK Vy Un dQ EU ze;go_wp2_with fail
  refine (show Calls _ _ _ _ _ from Js.out).mono ?_
  rintro e w3 ⟨vb,D2,ρ2,rfl,mq,kB,xp,Eu⟩
  clear Js b4 b5;have kt:Hid (Fx T w w3):=me.out.trans mq;have gp:Hid (Exd D D2 ρ ρ2):=qO.out.trans xp;have lq:Hid _:=kB;have oW:Hid _:=Eu;have Qj:ib<w3.heap.size:=bq Qk mq.size;obtain ⟨av3,vs3,kB⟩:=kB;obtain ⟨_,_,_,_,d4⟩:=kB.cells;have hg3:=kB.lt;clear kB mq xp Eu IL IM;by_cases ot:jJ U2=0
  ·obtain ⟨MK,UH⟩:=oW.out ot;have wS:U2.out=0:=by
    unfold jJ at ot;by_cases h:U2.out=0
    ·exact h
    ·rw [ay h] at ot;exact ot
   have wT:(hdI U2.cur).1=1:=by
    unfold jJ at ot;rw [aA wS] at ot;by_cases h:(hdI U2.cur).1=1
    ·exact h
    ·rw [ay h] at ot;simp at ot
   obtain ⟨yF,Ay,Gl⟩:=xz.out wS;rw [ot] at d4;have Ec:Hid (SnP w3 T g fv nm ds c.bud D2 U2.stp 0):=by have:=lq.out;rw [ot] at this;exact this
   have HD:Hid (R=if c.bud<=U2.stp then {U2 with out:=5} else if p=3\/p=4 then {U2 with stp:=U2.stp+1,ks:=ks,cur:=(if sR p va vb then hdI (imL ρ r) else hdI (imL ρ r).tail)::(imL ρ r).drop 2} else if oh (iD p va vb) then {U2 with stp:=U2.stp+1,ks:=ks,cur:=imL ρ r,out:=4} else {U2 with stp:=U2.stp+1,ks:=ks,cur:=(1,iD p va vb)::imL ρ r}):=by
    show _=_
    rw [<-HR.out];unfold m9;rw [ay (fun h=>h W8.out),ay (fun h=>h ot)];exact yZ Ay wT MK
   have Gg:(-1000000000<=va/\va<=1000000000)/\-1000000000<=vb/\vb<=1000000000:=by
    obtain ⟨⟨rk,hi⟩,_⟩:=yF;refine ⟨?_,?_⟩
    ·have:=(hi.fr ⟨3,0,p,va,imL ρ r⟩ (by rw [Ay];simp)).2.2.2;exact this
    ·rw [MK];obtain ⟨z,zs,Ue⟩:∃z zs,U2.cur=z::zs:=by
      cases hq:U2.cur with
      |nil=>exact absurd hq hi.ne
      |cons a b=>exact ⟨a,b,rfl⟩
     have hz:=(hi.it z (by rw [Ue];simp)).1;rw [Ue] at wT ⊢;exact hz wT
   have ju:Hid (U2.stp<c.bud->_):=fun h=>No w3 T g fv nm ds c.bud D2 U2.stp 0 Ec.out Gl lm h
   have EW:Hid (c.bud<=U2.stp->_):=fun h=>Np w3 T g fv nm ds c.bud D2 U2.stp 0 Ec.out h
   have acv:Hid _:=UH;have tI:=wS;have ue:Hid (∀l:Ln,(∀z∈l,z∈r)->imL ρ2 l=imL ρ l/\vL D2.length l):=fun l hl=>⟨gp.out.im YI.out (vL.sub LU.out hl),gp.out.vl (vL.sub LU.out hl)⟩
   clear yF Ay wT wS xz oW lq MK UH ot;by_cases hb:c.bud<=U2.stp
   ·rw [aA hb] at HD;have HC:Hid _:=EW.out hb;clear ju EW;go_wp2_with fail
    refine (show Calls _ _ _ _ _ from HC.out).mono ?_
    rintro e w4 ⟨rfl,tA,_,jR⟩
    clear HC;go_wp2_with fail
    go_ret
    exact ⟨_,D2,ρ2,[],rfl,kt.out.trans tA,by rw [HD.out];exact jR,gp.out,Rd.nil _ _,fun h=>by rw [HD.out] at h;simp at h⟩
   ·rw [ay hb] at HD;have HC:Hid _:=ju.out (by omega);clear ju EW;go_wp2_with fail
    refine (show Calls _ _ _ _ _ from HC.out).mono ?_
    rintro e w4 ⟨rfl,tA,_,jR⟩
    clear HC;have lO:Hid (Fx T w w4):=kt.out.trans tA;have oV:Hid _:=jR;have nQ:Hid _:=j7.out w4 lO.out;have tJ:T<=w4.heap.size:=aJ hT lO.out.size;have ag6:ib<w4.heap.size:=bq Qj tA.size;obtain ⟨b0,b1⟩:=Rd.at nQ.out 0 (by simp);simp only [bQ,fA,cy] at b0 b1;clear tA jR d4 Ec;have rN:Hid (∀(l:Ln) (w':World) (v:Value),imL ρ2 l=R.cur/\vL D2.length l->R.nds=U2.nds/\R.stp=U2.stp+1/\R.out=0->SnP w' T g fv nm ds c.bud D2 (U2.stp+1) 0->Fx T w w'->Rd w' T v l->∃v' D' ρ' l',v=v'/\Fx T w w'/\SnP w' T g fv nm ds c.bud D' R.stp R.out/\Exd D D' ρ ρ'/\Rd w' T v' l'/\(R.out=0->imL ρ' l'=R.cur/\vL D'.length l'/\Smr nm D' ρ' R.nds (iZ ks))):=fun l w' v q1 q2 q3 q4 q5=>⟨v,D2,ρ2,l,rfl,q4,by rw [q2.2.1,q2.2.2];exact q3,gp.out,q5,fun _=>⟨q1.1,q1.2,by rw [q2.1];exact acv.out⟩⟩
    by_cases pI:2<p
    ·have jz:decide (2<p)=true:=bG pI;have tb:=hr pI;rw [aA (by omega)] at HD;obtain ⟨r0,r1,r2,kS⟩:∃r0 r1 r2,r=r0::r1::r2:=by
      cases hq:r with
      |nil=>rw [hq] at tb;simp at tb
      |cons a b=>
       cases r9:b with
       |nil=>rw [hq,r9] at tb;simp at tb
       |cons a' b'=>exact ⟨a,a',b',rfl⟩
     have Bm:Hid (r=r0::r1::r2):=kS;have ZG:r2.length+2=r.length:=by rw [kS];rfl
     obtain ⟨Y,hY⟩:∃Y,Y=sR p va vb:=⟨_,rfl⟩;have hYc:(p=3/\Y=decide (va<vb))\/(p=4/\Y=decide (va=vb)):=by
      rcases (show p=3\/p=4 by omega) with h|h
      ·exact .inl ⟨h,by rw [hY,h];rfl⟩
      ·exact .inr ⟨h,by rw [hY,h];rfl⟩
     have HJ:Hid (∀vb',Rd w4 T vb' r2->Calls Tryz.prog 159 #[.slice (some ⟨ib,ioff+6,none⟩) 1 (icap-3),vb'] w4.drew fun e w'=>∃v,e=.returned v/\Below w4.heap.size w4 w'/\Rd w' T v (r0::r2)):=fun vb' hv=>by
      have q:=Rd.part (k:=3) (m:=1) (c:=icap-3) nQ.out (by simp;omega) (by omega) (by unfold maxLen;omega);rw [kS] at q;refine (iz _ _ [r0] r2 T w4.drew (Rd.old q (aR (ai _ _))) (Rd.old hv (aR (ai _ _))) (by simp;omega)).mono ?_
      rintro e w' ⟨v,rfl,oT,ED⟩
      exact ⟨v,rfl,(aR (ai _ w4)).trans oT,Rd.own ED⟩
     have Bi:Hid (Rd w4 T (.slice (some ⟨ib,ioff+10,none⟩) (r.length-2) (icap-5)) r2/\(icap=5->Rd w4 T (.slice (some ⟨ib,ioff,none⟩) (r.length-2) 0) r2)):=by
      have q:=Rd.from nQ.out 5 (by simp;omega);have e1:((4,p)::(x1,x2)::(y1,y2)::r).length-5=r.length-2:=by simp only [aD];omega
      have e2:((4,p)::(x1,x2)::(y1,y2)::r).drop 5=r2:=by rw [kS];rfl
      rw [e1,e2] at q;exact q
     have EP:Hid (Rd w4 T (.slice (some ⟨ib,ioff+8,none⟩) (r.length-1) (icap-4)) (r1::r2)):=by
      have q:=(Rd.from nQ.out 4 (by simp;omega)).1;have e1:((4,p)::(x1,x2)::(y1,y2)::r).length-4=r.length-1:=by simp only [aD];omega
      have e2:((4,p)::(x1,x2)::(y1,y2)::r).drop 4=r1::r2:=by rw [kS];rfl
      rw [e1,e2] at q;exact q
     have Eh:Hid (Y=true->(imL ρ2 (r0::r2)=R.cur/\vL D2.length (r0::r2))/\R.nds=U2.nds/\R.stp=U2.stp+1/\R.out=0):=fun h=>by
      obtain ⟨q1,q2⟩:=ue.out (r0::r2) (fun z hz=>by rw [kS];simp at hz ⊢;rcases hz with h|h<;>simp [h]);rw [q1,HD.out,<-hY,h,kS];exact ⟨⟨rfl,q2⟩,rfl,rfl,tI⟩
     have IR:Hid (Y=false->(imL ρ2 (r1::r2)=R.cur/\vL D2.length (r1::r2))/\R.nds=U2.nds/\R.stp=U2.stp+1/\R.out=0):=fun h=>by
      obtain ⟨q1,q2⟩:=ue.out (r1::r2) (fun z hz=>by rw [kS];simp at hz ⊢;rcases hz with h|h<;>simp [h]);rw [q1,HD.out,<-hY,h,kS];exact ⟨⟨rfl,q2⟩,rfl,rfl,tI⟩
     clear kS hY;rcases hYc with ⟨pH,pQ⟩|⟨vh,pQ⟩
     ·subst pH;by_cases bF:va<vb
      ·have tC:decide (va<vb)=true:=bG bF;rw [tC] at pQ;by_cases rD:icap=5
       ·have Al:r2=[]:=ch.1 (by omega);have s8:r=[r0,r1]:=by rw [Bm.out,Al]
        have Br:Hid (Calls Tryz.prog 159 #[.slice (some ⟨ib,ioff+6,none⟩) 1 2,.slice (some ⟨ib,ioff,none⟩) 0 0] w4.drew fun e w'=>∃v,e=.returned v/\Below w4.heap.size w4 w'/\Rd w' T v (r0::r2)):=by
         have:=HJ.out _ (Bi.out.2 rD);rw [rD,s8] at this;exact this
        clear HJ Bi EP j7 nQ Bm HD IR ue LU;subst rD;subst s8;go_wp2_with fail
        go_region_with (go_at_call 159;go_must (refine (show Calls _ _ _ _ _ from Br.out).mono ?_);rintro e w5 ⟨v5,rfl,dB,pF⟩)
        all_goals
         go_wp2_with fail
         go_ret
         obtain ⟨v7,D7,ρ7,l7,rfl,h7⟩:=rN.out _ w5 v5 (Eh.out pQ).1 (Eh.out pQ).2 (SnP.old oV.out dB) (lO.out.trans (Fx.of dB tJ)) pF;exact ⟨_,D7,ρ7,l7,rfl,h7⟩
       ·have Br:Hid _:=HJ.out _ Bi.out.1;go_wp2_with fail
        go_region_with (go_at_call 159;go_must (refine (show Calls _ _ _ _ _ from Br.out).mono ?_);rintro e w5 ⟨v5,rfl,dB,pF⟩)
        all_goals
         go_wp2_with fail
         go_ret
         obtain ⟨v7,D7,ρ7,l7,rfl,h7⟩:=rN.out _ w5 v5 (Eh.out pQ).1 (Eh.out pQ).2 (SnP.old oV.out dB) (lO.out.trans (Fx.of dB tJ)) pF;exact ⟨_,D7,ρ7,l7,rfl,h7⟩
      ·have tC:decide (va<vb)=false:=bn bF;rw [tC] at pQ;go_wp2_with fail
       go_ret
       obtain ⟨v7,D7,ρ7,l7,rfl,h7⟩:=rN.out _ w4 _ (IR.out pQ).1 (IR.out pQ).2 oV.out lO.out EP.out;exact ⟨_,D7,ρ7,l7,rfl,h7⟩
     ·subst vh;by_cases bF:va=vb
      ·have tC:decide (va=vb)=true:=bG bF;have yJ:(va==vb)=true:=by simpa using bF
       rw [tC] at pQ;clear bF tC;by_cases rD:icap=5
       ·have Al:r2=[]:=ch.1 (by omega);have s8:r=[r0,r1]:=by rw [Bm.out,Al]
        have Br:Hid (Calls Tryz.prog 159 #[.slice (some ⟨ib,ioff+6,none⟩) 1 2,.slice (some ⟨ib,ioff,none⟩) 0 0] w4.drew fun e w'=>∃v,e=.returned v/\Below w4.heap.size w4 w'/\Rd w' T v (r0::r2)):=by
         have:=HJ.out _ (Bi.out.2 rD);rw [rD,s8] at this;exact this
        clear HJ Bi EP j7 nQ Bm HD IR ue LU;subst rD;subst s8;go_wp2_with fail
        go_region_with (go_at_call 159;go_must (refine (show Calls _ _ _ _ _ from Br.out).mono ?_);rintro e w5 ⟨v5,rfl,dB,pF⟩)
        all_goals
         go_wp2_with fail
         go_ret
         obtain ⟨v7,D7,ρ7,l7,rfl,h7⟩:=rN.out _ w5 v5 (Eh.out pQ).1 (Eh.out pQ).2 (SnP.old oV.out dB) (lO.out.trans (Fx.of dB tJ)) pF;exact ⟨_,D7,ρ7,l7,rfl,h7⟩
       ·have Br:Hid _:=HJ.out _ Bi.out.1;go_wp2_with fail
        go_region_with (go_at_call 159;go_must (refine (show Calls _ _ _ _ _ from Br.out).mono ?_);rintro e w5 ⟨v5,rfl,dB,pF⟩)
        all_goals
         go_wp2_with fail
         go_ret
         obtain ⟨v7,D7,ρ7,l7,rfl,h7⟩:=rN.out _ w5 v5 (Eh.out pQ).1 (Eh.out pQ).2 (SnP.old oV.out dB) (lO.out.trans (Fx.of dB tJ)) pF;exact ⟨_,D7,ρ7,l7,rfl,h7⟩
      ·have tC:decide (va=vb)=false:=bn bF;have yJ:(va==vb)=false:=by simpa using bF
       rw [tC] at pQ;go_wp2_with fail
       go_ret
       obtain ⟨v7,D7,ρ7,l7,rfl,h7⟩:=rN.out _ w4 _ (IR.out pQ).1 (IR.out pQ).2 oV.out lO.out EP.out;exact ⟨_,D7,ρ7,l7,rfl,h7⟩
    ·have jz:decide (2<p)=false:=bn pI;have pH:(p==3)=false:=by simp;omega
     have vh:(p==4)=false:=by simp;omega
     rw [ay (by omega)] at HD;have mD:Hid _:=adw p va vb w4 Gg.1 Gg.2;generalize iD p va vb=V at*;obtain ⟨av4,vs4,jR⟩:=oV.out;obtain ⟨_,_,_,_,d9⟩:=jR.cells;have e9:=jR.fz 4;have Yj:=jR.lt;have HO:Hid _:=jR.setOut 4;clear jR;by_cases nU:oh V=true
     ·rw [aA nU] at HD;have Km:1000000000<V\/(¬1000000000<V/\V< -1000000000):=by
       unfold oh at nU;simp only [gI,aL] at nU;omega
      go_wp2_with fail
      refine (show Calls _ _ _ _ _ from mD.out).mono ?_
      rintro e w5 ⟨rfl,rfl⟩
      clear mD nU;rcases Km with ry|⟨ry,pD⟩
      ·have mV:decide (1000000000<V)=true:=bG ry;go_wp2_with fail
       go_ret
       exact ⟨_,D2,ρ2,[],rfl,lO.out.trans HO.out.1,by rw [HD.out];exact ⟨_,_,HO.out.2⟩,gp.out,Rd.nil _ _,fun h=>by rw [HD.out] at h;simp at h⟩
      ·have mV:decide (1000000000<V)=false:=bn (by omega);have QC:decide (V< -1000000000)=true:=bG pD;go_wp2_with fail
       go_ret
       exact ⟨_,D2,ρ2,[],rfl,lO.out.trans HO.out.1,by rw [HD.out];exact ⟨_,_,HO.out.2⟩,gp.out,Rd.nil _ _,fun h=>by rw [HD.out] at h;simp at h⟩
     ·rw [ay nU] at HD;have ry:¬1000000000<V:=by unfold oh at nU;simp only [gI,aL] at nU;omega
      have pD:¬V< -1000000000:=by unfold oh at nU;simp only [gI,aL] at nU;omega
      have mV:decide (1000000000<V)=false:=bn ry;have QC:decide (V< -1000000000)=false:=bn pD;go_wp2_with fail
      refine (show Calls _ _ _ _ _ from mD.out).mono ?_
      rintro e w5 ⟨rfl,rfl⟩
      clear mD nU;have EQ:Hid (Rd w5 T (.slice (some ⟨ib,ioff+6,none⟩) r.length (icap-3)) r/\(icap=3->Rd w5 T (.slice (some ⟨ib,ioff,none⟩) r.length 0) r)):=Rd.from nQ.out 3 (by simp);have Xv:Hid (∀rv,Rd w5 T rv r->Calls Tryz.prog 159 #[.slice (some ⟨w5.heap.size,0,none⟩) 1 1,rv] (w5.alloc (Obj.cells #[.int .i64 1,.int .i64 V] 99)) fun e w'=>∃v,e=.returned v/\Below w5.heap.size w5 w'/\Rd w' T v ((1,V)::r)):=fun rv hv=>by
       have q:=fg w5 #[.int .i64 1,.int .i64 V] 1 (e:=99) (base:=0) (size:=2) (aF _) (by unfold maxLen;omega) rfl;refine (iz _ _ [(1,V)] r T _ (Rd.own (l:=[(1,V)]) q) (Rd.old hv (bM _ _)) (by simp;omega)).mono ?_
       rintro e w' ⟨v,rfl,oT,ED⟩
       exact ⟨v,rfl,(bM w5 _).trans (oT.mono (by simp)),Rd.own ED⟩
      have YB:Hid ((imL ρ2 ((1,V)::r)=R.cur/\vL D2.length ((1,V)::r))/\R.nds=U2.nds/\R.stp=U2.stp+1/\R.out=0):=by
       obtain ⟨q1,q2⟩:=ue.out r (fun z hz=>hz);rw [HD.out];exact ⟨⟨by show imA ρ2 (1,V)::imL ρ2 r=_;rw [q1];rfl,vL.cons (fun h=>by simp at h) q2⟩,rfl,rfl,tI⟩
      go_wp2_with fail
      all_goals
       refine (Xv.out _ (by first|exact EQ.out.1|exact EQ.out.2 (by assumption))).mono ?_
       rintro e w6 ⟨v6,rfl,js,MV⟩
       go_wp2_with fail
       go_ret
       obtain ⟨v7,D7,ρ7,l7,rfl,h7⟩:=rN.out _ w6 v6 YB.out.1 YB.out.2 (SnP.old oV.out js) (lO.out.trans (Fx.of js tJ)) MV;exact ⟨_,D7,ρ7,l7,rfl,h7⟩
  ·have hz4:(jJ U2==0)=false:=by simpa using ot
   have HE:Hid (R={U2 with out:=jJ U2}):=by show _=_;rw [<-HR.out];unfold m9;rw [ay (by simpa using W8.out),aA ot]
   go_wp2_with fail
   go_ret
   exact ⟨_,D2,ρ2,[],rfl,kt.out,by rw [HE.out];exact lq.out,gp.out,Rd.nil _ _,fun h=>by rw [HE.out] at h;exact absurd h ot⟩
 ·have hz4:(jJ U1==0)=false:=by simpa using dQ
  have HE:Hid (R={U1 with out:=jJ U1}):=by show _=_;rw [<-HR.out];unfold m9;rw [aA dQ]
  go_wp2_with fail
  go_ret
  exact ⟨_,D1,ρ1,[],rfl,me.out,by rw [HE.out];exact IM.out,qO.out,Rd.nil _ _,fun h=>by rw [HE.out] at h;exact absurd h dQ⟩
end Go.Proofs.YtnndoagpbcacdabGreatDoor
