import Derived.Test.YtnndoagpbcacdabGreatDoorMN8
import Derived.Test.YtnndoagpbcacdabGreatDoorMN3
namespace Go.Proofs.YtnndoagpbcacdabGreatDoor
set_option maxHeartbeats 8000000
set_option maxRecDepth 100000
open Go.RowKit
theorem Ua {c:Cf} {t:Tp} (hg:TG c t) (hp:TPg t) {l:Ln} (hl:l∈t.ls) {ar:Ln} (oJ:(ar.length:Int)=t.ar) (n:Nat):l.map (mi ar n)=cL l ar (idP n (t.ls.length-1)):=by
 unfold cL;refine ft (fun a ha=>?_)
 have h5:=(((hg.ln l hl).2.2 a ha).2.2);unfold mi iP;by_cases e2:a.1=2
 ·rw [aA e2,ay (by omega)];rcases hp l hl a ha with h|⟨_,h0,h1⟩
  ·unfold PI at h;omega
  ·rw [aA ⟨e2,h0,by omega⟩]
 ·rw [ay e2];by_cases e5:a.1=5
  ·obtain ⟨q0,q1⟩:=h5 e5;have Dq:=hg.n0;rw [aA e5,aA ⟨e5,q0,by simp [idP];omega⟩];have:(idP n (t.ls.length-1))[a.2.toNat]?=some ((n+a.2.toNat:Nat):Int):=by
    unfold idP;rw [cH,List.getElem?_range (by omega)];rfl
   rw [this];show (5,a.2+(n:Int))=(5,((n+a.2.toNat:Nat):Int))
   congr 1;omega
  ·rw [ay e5,ay (fun h=>e5 h.1),ay (fun h=>e2 h.1)]
theorem WP.old {w w':World} {T g:Nat} {fv:Value} {mn:Int} {c:Cf} {nds:List (Ln×Bool)} {stp out:Int} {bys:List Ln} {ops:List Int} (h:WP w T g fv mn c nds stp out bys ops) (hb:Below w.heap.size w w'):WP w' T g fv mn c nds stp out bys ops:=by
 obtain ⟨av,bv,ov,vs,bs,h⟩:=h;exact ⟨av,bv,ov,vs,bs,h.old hb⟩
theorem sV:∀ks:List Kf,(gA ks).length<=ks.length
 |[]=>ah _
 |f::ks=>by
  have:=sV ks;show ((if f.k=1 then [f.nd] else [])++gA ks).length<=_
  rw [au,aD];split<;>simp<;>omega
theorem Nn:∀{ks:List Kf} {f:Kf},f∈ks->f.rs.length<=(flK ks).length
 |g::ks,f,h=>by
  rw [nC,au];rcases aK.1 h with rfl|h
  ·omega
  ·have:=Nn h;omega
theorem Tryz.infoThunk:(Tryz.prog.info? 247).map (fun i=>(i.zero,i.size,i.bytes))=some (some (.agg #[.slice none 0 0,.bool false]),2,32):=by kernel_rfl
theorem Og (w:World) (T g:Nat) (fv:Value) (mn:Int) (c:Cf) (rk:Int->Nat) (s:Im) (iv:Value) (f:Int) (r:Ln) (jS:s.cur=(3,f)::r) (ho:s.out=0) (h:WP w T g fv mn c s.nds s.stp 0 (s.ks.map (·.rs)).reverse (gA s.ks).reverse) (hr:Rd w T iv s.cur)
 (hI:Ii c rk s) (hN:NdB s) (ht:∀t∈c.fs,TGo c t) (hp:∀t∈c.fs,TPg t) (oJ:(jx c f).ar<=(r.length:Int)) (fZ:0<=s.stp) (lm:c.bud<=2000) (hhp:0<=c.hp/\c.hp<=24000) (oC:s.nds.length<=900000) (Gh:n9 s<=9000000) (nM:s.ks.length<=900000):
 Calls Tryz.prog 155 #[.pointer (some ⟨g,0,none⟩),iv] w fun e w'=>∃v,e=.returned v/\Fx T w w'/\WP w' T g fv mn c (eX c (jx c f) r s).nds (eX c (jx c f) r s).stp (eX c (jx c f) r s).out (s.ks.map (·.rs)).reverse (gA s.ks).reverse/\((eX c (jx c f) r s).out=0->Rd w' T v (eX c (jx c f) r s).cur):=by
 obtain ⟨it,Je,tv,uu,lj⟩:=bE Tryz.infoThunk;have hf:=(hI.it (3,f) (by rw [jS];simp)).2.1 rfl;obtain ⟨F,rfl⟩:=aZ hf.1;have Cp:F<c.fs.length:=by have:=hf.2;omega
 have yg:jx c (F:Int)=c.fs[F]:=by unfold jx;rw [aA hf,bC,aj Cp];rfl
 have yh:=hp _ (aE Cp);have mQ:=ht _ (aE Cp);rw [yg] at oJ ⊢;clear yg;obtain ⟨av,bv,ov,vs,bs,hw⟩:=h;have pN:=hw.fu;obtain ⟨fa,fcap,rfl,VN,GZ,GY⟩:=pN;obtain ⟨fb,foff,rfl,KE,tz⟩:=GY.resolve_left (by omega);obtain ⟨lv,f0,f1,aac⟩:=tz F Cp;obtain ⟨la,lcap,rfl,yB,uq,Vn⟩:=aac;have gV:=mQ.tg.n0;have Vj:=mQ.tg.n1;obtain ⟨lb,loff,rfl,aag,tq⟩:=Vn.resolve_left (by omega);obtain ⟨ib,ioff,icap,rfl,Vz⟩:=hr.isSome (by rw [jS];simp);have Gu:=Rd.at hr 0 (by rw [jS];simp);simp only [jS,bQ,fA,cy] at Gu;obtain ⟨i0,i1⟩:=Gu;obtain ⟨_,c1,c2,c3,c4,c5,c6,c7,c8⟩:=hw.cells;have qH:=hw.lt;have mZ:=hw.hT;have aaG:fb<w.heap.size:=by omega
 have agP:lb<w.heap.size:=by omega
 obtain ⟨ao,ac,rfl⟩:=aU hw.ra;have xv:s.cur.length=r.length+1:=by rw [jS];rfl
 rw [xv];unfold maxLen at GZ uq;generalize c.fs[F]=t at*;have V5:=Rd.cap hr;unfold maxLen at V5;generalize hS:eX c t r s=S';have HS:Hid (eX c t r s=S'):=hS;clear hS;go_enter Tryz.func155,Tryz.ntmps155
 go_wp2_with fail
 go_cut [5] (fun vx wc=>vx=.pointer (some ⟨w.heap.size,0,none⟩)/\Hid (Below w.heap.size w wc)/\Hid (wc.heap[w.heap.size]?=some (.cells #[.int .i64 t.ar,.slice (some ⟨lb,loff,none⟩) t.ls.length lcap] 79 (0,0))))
 case first=>
  go_region
  all_goals
   go_wp2_with fail
   go_meet
   case rel=>exact ⟨rfl,aR (bM w _),az w _⟩
 case rest=>
  obtain ⟨Sg,qe,qP⟩:=hcut;rw [Sg];clear Sg c1 c2 c3 c4 c5 c6 c7 c8 i0 i1 f0 f1;have Ah:=hw.old qe.out;obtain ⟨_,c1,c2,c3,c4,c5,c6,c7,c8⟩:=Ah.cells;have hgc:=Ah.lt;have t0:wc.cell? ⟨w.heap.size,0,none⟩=some (.int .i64 t.ar):=by rw [al _ _ 0 _ _ _ qP.out];rfl
  have t1:wc.cell? ⟨w.heap.size,1,none⟩=some (.slice (some ⟨lb,loff,none⟩) t.ls.length lcap):=by rw [al _ _ 1 _ _ _ qP.out];rfl
  have oz:w.heap.size<wc.heap.size:=(ae.1 qP.out).1;have CI:Hid (WP wc T g (.slice (some ⟨fb,foff,none⟩) c.fs.length fcap) mn c s.nds s.stp 0 (s.ks.map (·.rs)).reverse (gA s.ks).reverse):=⟨_,_,_,_,_,Ah⟩;have Jr:Hid (Fx T w wc):=Fx.of qe.out mZ;have RU:Hid (Rd wc T (.slice (some ⟨ib,ioff,none⟩) s.cur.length icap) s.cur):=hr.old qe.out;clear Ah hw hr;by_cases hb:c.bud<=s.stp
  ·have HE:Hid (S'={s with out:=5}):=by show _=_;rw [<-HS.out];unfold eX;rw [aA hb]
   have hd:decide (s.stp<c.bud)=false:=bn (by omega);have HC:Hid (∀w',WP w' T g (.slice (some ⟨fb,foff,none⟩) c.fs.length fcap) mn c s.nds s.stp 0 (s.ks.map (·.rs)).reverse (gA s.ks).reverse->_):=fun w' h=>Mp w' T g _ mn c s.nds s.stp 0 _ _ h hb
   go_wp2_with fail
   go_region
   go_wp2_with fail
   refine (show Calls _ _ _ _ _ from HC.out _ (WP.old CI.out (aR (ai _ _)))).mono ?_
   rintro e w2 ⟨rfl,lY,_,lw⟩
   clear HC;go_wp2_with fail
   go_ret
   exact ⟨_,rfl,(Jr.out.drew).trans lY,by rw [HE.out];exact lw,fun h5=>by rw [HE.out] at h5;simp at h5⟩
  ·have hd:decide (s.stp<c.bud)=true:=bG (by omega);have ad6:=FU s;have ju:Hid (∀w',WP w' T g (.slice (some ⟨fb,foff,none⟩) c.fs.length fcap) mn c s.nds s.stp 0 (s.ks.map (·.rs)).reverse (gA s.ks).reverse->_):=fun w' h=>Mo w' T g _ mn c s.nds s.stp 0 _ _ h fZ lm (by omega)
   have S4:Hid (∀w',Below wc.heap.size wc w'->Calls Tryz.prog 182 #[.pointer (some ⟨g,0,none⟩),.slice (some ⟨ib,ioff,none⟩) (r.length+1) icap] w' fun e w''=>e=.returned (.int .i64 (mM s:Nat))/\Below w'.heap.size w' w''):=fun w' oT=>by
    have eu:=Rd.old RU.out oT;rw [xv] at eu;refine (Oc w' T g _ mn c s.nds s.stp 0 (s.ks.map (·.rs)).reverse (gA s.ks).reverse (WP.old CI.out oT) _ s.cur eu (by omega) (by unfold n9 at Gh;omega) (fun l hl=>?_) (by simp;omega) (by rw [cB];exact aJ (sV s.ks) (by omega)) (fun n hn=>by have:=hN n hn;omega) (fun a ha h5=>?_) (fun p hp=>?_) (fun n hn a ha h5=>((hI.nd n hn).2.1 a ha).2.2 h5)).mono ?_
    ·rw [eN] at hl;obtain ⟨f,hf,rfl⟩:=bZ.1 hl;have:=Nn hf;unfold n9 at Gh;omega
    ·rcases be.1 ha with ha|ha
     ·exact (hI.it a ha).2.2 h5
     ·obtain ⟨l,hl,ha⟩:=List.mem_flatten.1 ha;rw [eN] at hl;obtain ⟨f,hf,rfl⟩:=bZ.1 hl;exact ((hI.fr f hf).2.2.1 a ha).2.2 h5
    ·rw [eN] at hp;obtain ⟨f,hf,hq⟩:=fJ.1 hp;by_cases hk:f.k=1
     ·rw [aA hk] at hq;simp only [dE] at hq;subst hq;exact (hI.fr f hf).2.1 hk
     ·rw [ay hk] at hq;simp at hq
    ·rintro e w'' ⟨S,h1,h2,rfl,h3⟩
     exact ⟨by rw [Ov h1 h2 hI],h3⟩
   by_cases GW:c.hp<(mM s:Int)+((t.ls.length:Int)-1)
   ·have HE:Hid (S'={s with out:=6}):=by show _=_;rw [<-HS.out];unfold eX;rw [ay hb,aA GW]
    have jz:decide (c.hp<(s.nds.length:Int)+((t.ls.length:Int)-1))=true:=bG (by omega);have mV:decide (c.hp<(mM s:Int)+((t.ls.length:Int)-1))=true:=bG GW;have HC:Hid _:=S4.out wc.drew (aR (ai _ _));clear ju S4;generalize mM s=ns at*;go_wp2_with fail
    go_region
    go_wp2_with fail
    refine (show Calls _ _ _ _ _ from HC.out).mono ?_
    rintro e w2 ⟨rfl,bX⟩
    clear HC;obtain ⟨av2,bv2,ov2,vs2,bs2,lw⟩:=WP.old (WP.old CI.out (aR (ai _ _))) bX;obtain ⟨_,_,_,d3,_,_,_,_,d8⟩:=lw.cells;have g8:=lw.fz 8;have qj:=lw.lt;have me:Hid (Fx T w w2):=Jr.out.drew.trans (Fx.of bX (by have:=Jr.out.size;show T<=wc.heap.size;omega));have HO:Hid _:=lw.setOut 6;clear lw bX;go_wp2_with fail
    go_ret
    exact ⟨_,rfl,me.out.trans HO.out.1,by rw [HE.out];exact ⟨_,_,_,_,_,HO.out.2⟩,fun h5=>by rw [HE.out] at h5;simp at h5⟩
   ·obtain ⟨A,hA⟩:=aZ mQ.tg.a0;have hAr:A<=r.length:=by omega
    have hA6:A<=6:=by have:=mQ.tg.a1;omega
    rcases Classical.em (c.hp<(s.nds.length:Int)+((t.ls.length:Int)-1)) with kY|kY
    case' inl=>
     have jz:decide (c.hp<(s.nds.length:Int)+((t.ls.length:Int)-1))=true:=bG kY;have mV:decide (c.hp<(mM s:Int)+((t.ls.length:Int)-1))=false:=bn GW;have HC:Hid _:=S4.out wc.drew (aR (ai _ _));generalize Sq:mM s=ns at*;go_wp2_with fail
     go_region
     go_wp2_with fail
     refine (show Calls _ _ _ _ _ from HC.out).mono ?_
     rintro e wq ⟨rfl,tE⟩
     clear HC;have SW:Hid _:=WP.old (WP.old CI.out (aR (ai _ _))) tE;have HFQ:Hid (Fx T w wq):=Jr.out.drew.trans (Fx.of tE (by have:=Jr.out.size;show T<=wc.heap.size;omega));have SX:Hid (wq.heap[w.heap.size]?=some (.cells #[.int .i64 t.ar,.slice (some ⟨lb,loff,none⟩) t.ls.length lcap] 79 (0,0))):=(tE.block w.heap.size oz).trans qP.out;have HRQ:Hid (Rd wq T (.slice (some ⟨ib,ioff,none⟩) s.cur.length icap) s.cur):=Rd.old (Rd.old RU.out (aR (ai _ _))) tE;obtain ⟨av2,bv2,ov2,vs2,bs2,lw⟩:=SW.out;obtain ⟨_,_,_,d3,_,_,_,_,d8⟩:=lw.cells;have qj:=lw.lt;clear lw tE;go_wp2_with fail
    case' inr=>
     have jz:decide (c.hp<(s.nds.length:Int)+((t.ls.length:Int)-1))=false:=bn kY;go_wp2_with fail
     go_region
     go_wp2_with fail
     have RG:Hid _:=WP.old CI.out (aR (ai _ wc));have R6:Hid (Fx T w wc.drew):=Jr.out.drew;have RN:Hid (wc.drew.heap[w.heap.size]?=some (.cells #[.int .i64 t.ar,.slice (some ⟨lb,loff,none⟩) t.ls.length lcap] 79 (0,0))):=qP.out;have RP:Hid (Rd wc.drew T (.slice (some ⟨ib,ioff,none⟩) s.cur.length icap) s.cur):=Rd.old RU.out (aR (ai _ _));obtain ⟨wq,hwq⟩:∃wq,wq=wc.drew:=⟨_,rfl⟩;rw [<-hwq] at RG R6 RN RP ⊢;have SW:Hid _:=RG.out;have HFQ:Hid (Fx T w wq):=R6.out;have SX:Hid (wq.heap[w.heap.size]?=some (.cells #[.int .i64 t.ar,.slice (some ⟨lb,loff,none⟩) t.ls.length lcap] 79 (0,0))):=RN.out;have HRQ:Hid (Rd wq T (.slice (some ⟨ib,ioff,none⟩) s.cur.length icap) s.cur):=RP.out;clear RG R6 RN RP hwq
    all_goals
     refine (show Calls _ _ _ _ _ from ju.out wq SW.out).mono ?_
     rintro e w3 ⟨rfl,mq,df,kB⟩
     clear ju;have kt:Hid (Fx T w w3):=HFQ.out.trans mq;have EQ:Hid (w3.heap[w.heap.size]?=some (.cells #[.int .i64 t.ar,.slice (some ⟨lb,loff,none⟩) t.ls.length lcap] 79 (0,0))):=(df.oth w.heap.size (ae.1 SX.out).1 (by omega)).trans SX.out;have lq:Hid _:=kB;have xA:Hid (Rd w3 T (.slice (some ⟨ib,ioff,none⟩) s.cur.length icap) s.cur):=Rd.keep HRQ.out mq;have s0:w3.cell? ⟨w.heap.size,0,none⟩=some (.int .i64 t.ar):=by rw [al _ _ 0 _ _ _ EQ.out];rfl
     have Um:w.heap.size<w3.heap.size:=(ae.1 EQ.out).1;clear mq df kB HFQ SX SW HRQ;rw [hA] at s0
     go_upto_region 12 with (fail)
     go_cut [1,10] (fun v1 vx wx=>wx=w3/\v1=.slice (some ⟨ib,ioff,none⟩) (r.length+1) icap/\∃a cp,vx=.slice a A cp/\Hid (Rd w3 T (.slice a A cp) (r.take A)))
     case first=>
      go_wp2_with fail
      all_goals
       go_meet
       case rel=>
        refine ⟨rfl,by first|rfl|(rw [‹icap=1›]),_,_,rfl,?_⟩
        have kS:=xA.out;rw [jS] at kS
        first
         |exact Rd.part (k:=1) (m:=A) (c:=icap-1) kS (by simp;omega) (by omega) (by unfold maxLen;omega)
         |(have hz:A=0:=by omega
           subst hz;have q:=Rd.part (l:=(3,(F:Int))::r) (k:=0) (m:=0) (c:=0) kS (by omega) (by omega) (by omega);rw [du] at q ⊢;exact q)
     case rest=>
      obtain ⟨hwx,mN,aa,acp,Ui,LY⟩:=hcut;rw [hwx,mN,Ui];clear hwx mN Ui;have WF:(((r.take A).length:Nat):Int)=t.ar:=by rw [cF];omega
      have Xx:Hid (∀l∈t.ls,l.map (mi (r.take A) s.nds.length)=cL l (r.take A) (idP s.nds.length (t.ls.length-1))):=fun l hl=>Ua mQ.tg yh hl WF _
      have HE:Hid (S'={s with stp:=s.stp+1,cur:=cL (t.ls.headD []) (r.take A) (idP s.nds.length (t.ls.length-1))++r.drop A,nds:=s.nds++t.ls.tail.map (fun l=>(cL l (r.take A) (idP s.nds.length (t.ls.length-1)),false))}):=by
       show _=_
       have hAn:t.ar.toNat=A:=by omega
       rw [<-HS.out];unfold eX;rw [ay (by omega),ay (by omega),hAn]
      have zi:Hid (∀(j:Nat) (hj:j<t.ls.length) (w':World),Fx T w w'->∃lvo lvc,w'.cell? ⟨lb,loff+j,none⟩=some (.slice lvo t.ls[j].length lvc)/\Rd w' T (.slice lvo t.ls[j].length lvc) t.ls[j]):=by
       intro j hj w' Sw;obtain ⟨lv,e1,e2⟩:=tq j hj;have e3:=Rd.atoms (e2.keep Sw.bel) (aJ mZ Sw.size) (by have:=(mQ.tg.ln _ (aE hj)).1;omega);obtain ⟨lvo,lvc,rfl⟩:=e3.form;exact ⟨lvo,lvc,by rw [jL (Sw.bel.block lb aag)];exact e1,e3⟩
      have Bo:Hid (∀(j:Nat) (hj:j<t.ls.length),t.ls[j].length<=8/\(∀a∈t.ls[j],a.1=2->0<=a.2/\a.2<(r.take A).length)/\(∀a∈t.ls[j],a.1=5->0<=a.2/\a.2<=1000)):=by
       intro j hj;have hm:=aE hj;refine ⟨(mQ.tg.ln _ hm).2.1,fun a ha e=>?_,fun a ha e=>?_⟩
       ·rcases yh _ hm a ha with h|⟨_,h0,h1⟩
        ·unfold PI at h;omega
        ·exact ⟨h0,by omega⟩
       ·have:=((mQ.tg.ln _ hm).2.2 a ha).2.2 e;omega
      have hTg:T<=g:=by obtain ⟨_,_,_,_,_,h⟩:=lq.out;exact h.lo
      clear tq tz Vn GY jz
      try clear mV
      go_wp2_with fail
      obtain ⟨K,hK⟩:∃K:Nat,K=t.ls.length-1:=⟨_,rfl⟩;have hKe:((t.ls.length:Int)-1)=(K:Int):=by omega
      rw [hKe];have Wz:K+1<=t.ls.length:=by omega
      have hK2:t.ls.length<=K+1:=by omega
      have rM:Hid (K=t.ls.length-1):=hK;clear hK hKe
      go_loopw [11] (fun y wr=>∃m:Nat,m<=K/\y=.int .i64 ((m:Int)+1)/\w.heap.size<wr.heap.size/\Hid (Fx T w wr)/\Hid (wr.heap[w.heap.size]?=some (.cells #[.int .i64 t.ar,.slice (some ⟨lb,loff,none⟩) t.ls.length lcap] 79 (0,0)))/\Hid (Rd wr T (.slice aa A acp) (r.take A))/\Hid (Rd wr T (.slice (some ⟨ib,ioff,none⟩) s.cur.length icap) s.cur)/\Hid (WP wr T g (.slice (some ⟨fb,foff,none⟩) c.fs.length fcap) mn c (s.nds++(t.ls.tail.take m).map (fun l=>(l.map (mi (r.take A) s.nds.length),false))) (s.stp+1) 0 (s.ks.map (·.rs)).reverse (gA s.ks).reverse)) (fun y _=>K+1-(intOf y).toNat)
      case atStart=>exact ⟨0,aF _,rfl,Um,kt.out,EQ.out,LY.out,xA.out,by show WP _ _ _ _ _ _ _ _ _ _ _;rw [du,fB,cA];exact lq.out⟩
      case round=>
       clear EQ lq xA s0;obtain ⟨m,hm,rfl,oR,R5,HTr,HAr,HIr,HWr⟩:=hrel;have s1:wr.cell? ⟨w.heap.size,1,none⟩=some (.slice (some ⟨lb,loff,none⟩) t.ls.length lcap):=by rw [al _ _ 1 _ _ _ HTr.out];rfl
       have agQ:lb<wr.heap.size:=by omega
       by_cases EE:m<K
       ·have fR:m+1<t.ls.length:=by omega
        obtain ⟨lvo,lvc,l0,lrd⟩:=zi.out (m+1) fR wr R5.out;obtain ⟨n1,n2,n3⟩:=Bo.out (m+1) fR;have HC:Hid _:=TJ t.ls[m+1] (r.take A) s.nds.length _ _ T wr lrd HAr.out (by omega) (by omega) n2 n3;have HTK:Hid ((t.ls.tail.take (m+1)).map (fun l=>(l.map (mi (r.take A) s.nds.length),false))=(t.ls.tail.take m).map (fun l=>(l.map (mi (r.take A) s.nds.length),false))++[(t.ls[m+1].map (mi (r.take A) s.nds.length),false)]):=by
         show _=_
         rw [aT (by rw [ce];omega),cz];simp
        have eA:decide ((m:Int)+1<=(K:Int))=true:=bG (by omega);clear lrd n2 n3;generalize t.ls[m+1]=ln at*;have ah0:(s.nds++(t.ls.tail.take m).map (fun l=>(l.map (mi (r.take A) s.nds.length),false))).length<=900020:=by simp;omega
        generalize Ra:s.nds++(t.ls.tail.take m).map (fun l=>(l.map (mi (r.take A) s.nds.length),false))=NL at*;have NC:Hid (s.nds++(t.ls.tail.take m).map (fun l=>(l.map (mi (r.take A) s.nds.length),false))=NL):=Ra;clear Ra;go_wp2_with fail
        refine (show Calls _ _ _ _ _ from HC.out).mono ?_
        rintro e w4 ⟨v,rfl,dU,jy⟩
        clear HC;have Kk:Rd w4 T v (ln.map (mi (r.take A) s.nds.length)):=Rd.own (by rw [bK];exact jy);obtain ⟨lo4,lc4,rfl⟩:=aU jy;obtain ⟨av4,bv4,ov4,vs4,bs4,jR⟩:=WP.old HWr.out dU;obtain ⟨ao4,ac4,rfl⟩:=aU jR.ra;obtain ⟨_,_,_,_,_,d5,_,_,_⟩:=jR.cells;have e5:=jR.fz 5;have Yj:=jR.lt;have gU:Hid (Below w4.heap.size w4 (w4.alloc (Obj.cells #[.slice lo4 ln.length lc4,.bool false] 247))):=bM _ _;have oV:Hid _:=jR.old gU.out;have RT:Hid _:=Rd.old Kk gU.out;have rx:Hid _:=az w4 (Obj.cells #[.slice lo4 ln.length lc4,.bool false] 247);have lO:Hid (Fx T w (w4.alloc (Obj.cells #[.slice lo4 ln.length lc4,.bool false] 247))):=(R5.out.trans (Fx.of dU (by have:=R5.out.size;omega))).trans (Fx.of gU.out (by have:=R5.out.size;have:=dU.size;omega));have EP:Hid _:=(gU.out.block w.heap.size (by have:=dU.size;omega)).trans ((dU.block w.heap.size oR).trans HTr.out);have HA4:Hid _:=Rd.old (Rd.old HAr.out dU) gU.out;have HI4:Hid _:=Rd.old (Rd.old HIr.out dU) gU.out;clear Kk jy jR;go_wp2_with (at_builtin;go_must (refine wpList_append_lies _ rfl _ _ _ rfl T 247 it _ 2 32 Tryz.underlying190 Je tv uu lj rfl (by omega) (.slice ao4 NL.length ac4) NL.length (ncs vs4 NL) rfl ?yr _ 1 _ [.slice lo4 ln.length lc4,.bool false] rfl rfl ?ti ?WL (by omega) ?Hp ?pO ?tF _ rfl ?_))
        case yr=>exact (WB.ra oV.out)
        try case ti=>exact World.news_of_block rx.out
        case WL=>simp [Value.oneCell']
        case Hp=>unfold maxLen;omega
        case pO=>omega
        case tF=>first|omega|(simp;omega)
        intro q5 cap5 w5 fd co kZ nL;obtain ⟨uv,Es⟩:=WB.pushN oV.out RT.out fd co;have gQ:=br (WB.ra oV.out) co (by decide) (WB.blk oV.out);have kb:=al w5 g 5 _ _ _ gQ;simp only [ax,ap,aq] at kb;have kf:=aG w5 g 5 _ _ gQ;have Bi:Hid _:=(bi (i:=5) (.slice (some ⟨q5,0,none⟩) (NL.length+1) cap5) (show w.heap.size≠g by omega)).trans (br (WB.ra oV.out) co (by decide) EP.out);have Bt:Hid _:=lO.out.trans uv;have HA5:Hid _:=Rd.keep HA4.out uv;have HI5:Hid _:=Rd.keep HI4.out uv;have LT:Hid _:=Es;have ve:w.heap.size<w5.heap.size:=by have:=(ae.1 EP.out).1;have:=co.size;omega
        clear fd co kZ uv Es gQ;go_wp2_with fail
        go_roundw
        case rel=>exact ⟨m+1,by omega,by go_num,by simp [World.setCell];exact ve,Bt.out,Bi.out,HA5.out,HI5.out,by rw [HTK.out,<-bI,NC.out];exact ⟨_,_,_,_,_,LT.out⟩⟩
        case measure=>simp [intOf];omega
       ·have HmK:Hid (m=K):=by show _=_;omega
        have eA:decide ((m:Int)+1<=(K:Int))=false:=bn (by omega);have Yx:0<t.ls.length:=by omega
        obtain ⟨lvo,lvc,l0,lrd⟩:=zi.out 0 Yx wr R5.out;obtain ⟨n1,n2,n3⟩:=Bo.out 0 Yx;have HC:Hid _:=TJ t.ls[0] (r.take A) s.nds.length _ _ T wr lrd HAr.out (by omega) (by omega) n2 n3;have YN:Hid (t.ls.headD []=t.ls[0]):=by
         show _=_
         rw [List.headD_eq_head?_getD,List.head?_eq_getElem?,aj Yx];rfl
        rw [cy] at l0;have aea:=n1;have Xq:Hid (t.ls[0]∈t.ls):=aE Yx;clear lrd n2 n3 n1;generalize t.ls[0]=ln at*;go_wp2_with fail
        refine (show Calls _ _ _ _ _ from HC.out).mono ?_
        rintro e w6 ⟨v,rfl,js,yu⟩
        clear HC;have acB:Hid (Rd w6 T v (ln.map (mi (r.take A) s.nds.length))):=Rd.own (by rw [bK];exact yu);have RK:Hid _:=WP.old HWr.out js;have R8:Hid (Fx T w w6):=R5.out.trans (Fx.of js (by have:=R5.out.size;omega));have ud:Hid (Rd w6 T (.slice (some ⟨ib,ioff,none⟩) s.cur.length icap) s.cur):=Rd.old HIr.out js;obtain ⟨lo6,lc6,rfl⟩:=aU yu;have HT6:Hid _:=(js.block w.heap.size oR).trans HTr.out;have u0:w6.cell? ⟨w.heap.size,0,none⟩=some (.int .i64 t.ar):=by rw [al _ _ 0 _ _ _ HT6.out];rfl
        rw [hA] at u0;have vd:w.heap.size<w6.heap.size:=(ae.1 HT6.out).1;clear yu js;have acL:Hid (s.nds++(t.ls.tail.take m).map (fun l=>(l.map (mi (r.take A) s.nds.length),false))=S'.nds):=by
         show _=_
         have ht9:t.ls.tail.take m=t.ls.tail:=bN (by rw [ce];omega);rw [HE.out,ht9];congr 1
         exact ft (fun l hl=>by rw [Xx.out l (eW hl)])
        have adk:Hid (ln.map (mi (r.take A) s.nds.length)++r.drop A=S'.cur):=by
         show _=_
         rw [HE.out,YN.out,Xx.out ln Xq.out]
        have Xg:Hid (S'.stp=s.stp+1/\S'.out=0):=by show _/\_;rw [HE.out];exact ⟨rfl,ho⟩
        have un:(ln.map (mi (r.take A) s.nds.length)).length+(r.drop A).length<=30000000:=by rw [bK,cI];unfold n9 at Gh;omega
        go_wp2_with fail
        all_goals
         refine (iz _ _ (ln.map (mi (r.take A) s.nds.length)) (r.drop A) T w6 acB.out ?yn un).mono ?_
         case yn=>
          have kS:=ud.out;rw [jS] at kS
          first
           |(have q:=Rd.part (k:=1+A) (m:=r.length+1-(1+A)) (c:=icap-(1+A)) kS (by simp;omega) (by omega) (by unfold maxLen;omega)
             rw [show 1+A=A+1 by omega,dg,bN (by rw [cI];omega)] at q;rw [show 1+A=A+1 by omega];exact q)
           |(have q:=Rd.part (k:=0) (m:=r.length+1-(1+A)) (c:=0) kS (by simp) (by omega) (by omega)
             have hz:r.length+1-(1+A)=0:=by omega
             have hd:r.drop A=[]:=bj (by omega);rw [hz,du] at q;rw [hz,hd];exact q)
         rintro e w7 ⟨v7,rfl,AS,GD⟩
         go_wp2_with fail
         go_ret
         refine ⟨_,rfl,R8.out.trans (Fx.of AS (by have:=R8.out.size;omega)),?_,fun _=>?_⟩
         ·rw [<-acL.out,Xg.out.1,Xg.out.2];exact WP.old RK.out AS
         ·rw [<-adk.out];exact Rd.own GD
def SV (T g:Nat) (fv:Value) (mn:Int) (c:Cf) (n:Nat):Prop:=∀(s U:Im) (w:World) (iv:Value),Ev c s.ks n s U->Gd c s->Sz c n s->WP w T g fv mn c s.nds s.stp 0 (jV s.ks) (iZ s.ks)->Rd w T iv s.cur->
 Calls Tryz.prog 119 #[.pointer (some ⟨g,0,none⟩),iv] w fun e w'=>∃v,e=.returned v/\Fx T w w'/\WP w' T g fv mn c U.nds U.stp U.out (jV s.ks) (iZ s.ks)/\∃l,Rd w' T v l/\l.length<=9000000/\(U.out=0->l=U.cur)
theorem FG (T g:Nat) (fv:Value) (mn:Int) (c:Cf) (n:Nat) (ym:SV T g fv mn c n) (s U:Im) (f:Kf) (ks:List Kf) (x:Int×Int) (w:World) (rv:Value) (jS:s.cur=[x]) (nM:s.ks=f::ks) (hf:f.k≠1) (he:Ev c s.ks n s U) (hg:Gd c s) (hs:Sz c n s)
 (hw:WP w T g fv mn c s.nds s.stp 0 (jV ks) (iZ ks)) (hr:Rd w T rv f.rs) (I6:U.out=0->U.cur≠[]):
 Calls Tryz.prog 185 #[.pointer (some ⟨g,0,none⟩),.agg #[.int .i64 x.1,.int .i64 x.2],rv] w fun e w'=>∃r:Int,e=.returned (.int .i64 r)/\Fx T w w'/\WP w' T g fv mn c U.nds U.stp (jJ U) (jV ks) (iZ ks)/\(jJ U=0->r=(hdI U.cur).2):=by
 obtain ⟨il,ly,tt,kV,gS⟩:=bE Tryz.infoLine;obtain ⟨x1,x2⟩:=x;obtain ⟨ro,rc,rfl⟩:=hr.form;obtain ⟨av,bv,ov,vs,bs,hw⟩:=hw;obtain ⟨bo,bc,rfl⟩:=aU hw.rb;have qH:=hw.lt;have mZ:=hw.hT;have HM:Hid (∀w',Below w.heap.size w w'->WB w' T g fv mn c s.nds s.stp 0 (jV ks) (iZ ks) av (.slice bo (jV ks).length bc) ov vs bs):=fun w' hb=>hw.old hb
 have HR:Hid (∀w',Below w.heap.size w w'->Rd w' T (.slice ro f.rs.length rc) f.rs):=fun w' hb=>hr.old hb
 obtain ⟨_,_,_,_,_,_,c6,_,_⟩:=hw.cells;have f6:=hw.fz 6;have gZ:(jV ks).length<=800000:=by have:=hs.ks;rw [nM] at this;simp [jV] at this ⊢;omega
 clear hw hr;go_enter Tryz.func185,Tryz.ntmps185
 have gU:Hid (Below w.heap.size w ((w.alloc (Obj.cells #[.int .i64 x1,.int .i64 x2] 99)).alloc (Obj.cells #[.slice ro f.rs.length rc] 100))):=eU _ _ _;have rx:Hid (((w.alloc (Obj.cells #[.int .i64 x1,.int .i64 x2] 99)).alloc (Obj.cells #[.slice ro f.rs.length rc] 100)).heap[w.heap.size+1]?=some (Obj.cells #[.slice ro f.rs.length rc] 100)):=by
  have:=az (w.alloc (Obj.cells #[.int .i64 x1,.int .i64 x2] 99)) (Obj.cells #[.slice ro f.rs.length rc] 100);rw [bT] at this;exact this
 have HX0:Hid (((w.alloc (Obj.cells #[.int .i64 x1,.int .i64 x2] 99)).alloc (Obj.cells #[.slice ro f.rs.length rc] 100)).heap[w.heap.size]?=some (Obj.cells #[.int .i64 x1,.int .i64 x2] 99)):=(aO (w.alloc (Obj.cells #[.int .i64 x1,.int .i64 x2] 99)) (Obj.cells #[.slice ro f.rs.length rc] 100) w.heap.size (by simp)).trans (az _ _);go_wp2_with (at_builtin;go_must (refine wpList_append_lies _ rfl _ _ _ rfl T 100 il _ 1 24 Tryz.underlying56 ly tt kV gS rfl (by omega) (.slice bo (jV ks).length bc) (jV ks).length bs rfl ?yr _ 1 _ [.slice ro f.rs.length rc] rfl rfl ?ti ?WL (by omega) ?Hp ?pO ?tF _ rfl ?_))
 case yr=>exact WB.rb (HM.out _ gU.out)
 try case ti=>exact World.news_of_block rx.out
 case WL=>simp [Value.oneCell']
 case Hp=>unfold maxLen;omega
 case pO=>omega
 case tF=>first|omega|(simp;omega)
 intro q5 cap5 w5 fd co kZ nL;have I5:=HM.out _ gU.out;obtain ⟨uv,Es⟩:=WB.pushB I5 (HR.out _ gU.out) fd co;have gQ:=br I5.rb co (by decide) I5.blk;have kb:=al w5 g 6 _ _ _ gQ;simp only [ax,ap,aq] at kb;have kf:=aG w5 g 6 _ _ gQ;have LQ:Hid (w5.heap[w.heap.size]?=some (.cells #[.int .i64 x1,.int .i64 x2] 99 (0,0))):=br I5.rb co (by decide) HX0.out;have m0:=al w5 w.heap.size 0 _ _ _ LQ.out;have m1:=al w5 w.heap.size 1 _ _ _ LQ.out;simp only [ax,ap,aq] at m0 m1;have hg5:g<w5.heap.size:=(ae.1 gQ).1;have Sg:w.heap.size<w5.heap.size:=(ae.1 LQ.out).1;have Dp:w.heap.size≠g:=by omega
 have Bt:Hid (Fx T w (w5.setCell ⟨g,6,none⟩ (.slice (some ⟨q5,0,none⟩) ((jV ks).length+1) cap5))):=(Fx.of gU.out mZ).trans uv;have LT:Hid _:=Es;clear fd co kZ uv Es gQ I5 c6 f6;have Sd:Hid (Below w5.heap.size (w5.setCell ⟨g,6,none⟩ (.slice (some ⟨q5,0,none⟩) ((jV ks).length+1) cap5)) ((w5.setCell ⟨g,6,none⟩ (.slice (some ⟨q5,0,none⟩) ((jV ks).length+1) cap5)).alloc (Obj.cells #[.int .i64 x1,.int .i64 x2] 99))):=by
  have:=bM (w5.setCell ⟨g,6,none⟩ (.slice (some ⟨q5,0,none⟩) ((jV ks).length+1) cap5)) (Obj.cells #[.int .i64 x1,.int .i64 x2] 99);rw [gX] at this;exact this
 have Jo:Hid (Rd ((w5.setCell ⟨g,6,none⟩ (.slice (some ⟨q5,0,none⟩) ((jV ks).length+1) cap5)).alloc (Obj.cells #[.int .i64 x1,.int .i64 x2] 99)) T (.slice (some ⟨w5.heap.size,0,none⟩) 1 1) s.cur):=by
  rw [jS];have:=fg (w5.setCell ⟨g,6,none⟩ (.slice (some ⟨q5,0,none⟩) ((jV ks).length+1) cap5)) #[.int .i64 x1,.int .i64 x2] 1 (e:=99) (base:=0) (size:=2) (aF _) (by unfold maxLen;omega) rfl;rw [gX] at this;exact Rd.own (l:=[(x1,x2)]) this
 have RK:Hid (WP ((w5.setCell ⟨g,6,none⟩ (.slice (some ⟨q5,0,none⟩) ((jV ks).length+1) cap5)).alloc (Obj.cells #[.int .i64 x1,.int .i64 x2] 99)) T g fv mn c s.nds s.stp 0 (jV s.ks) (iZ s.ks)):=by
  rw [nM,pY,zV ks hf];exact WP.old ⟨_,_,_,_,_,LT.out⟩ (by rw [gX];exact Sd.out)
 have HC:Hid _:=ym s U _ _ he hg hs RK.out Jo.out;have R8:Hid _:=Bt.out.trans (Fx.of (by rw [gX];exact Sd.out) (by rw [gX];omega));rw [nM,pY,zV ks hf] at HC;clear RK Jo Sd LT Bt;go_wp2_with fail
 refine (show Calls _ _ _ _ _ from HC.out).mono ?_
 rintro e w7 ⟨v,rfl,Sx,t9,l7,hl7,_,Vi⟩
 have Ja:U.out=0->Rd w7 T v U.cur:=fun h=>by rw [<-Vi h];exact hl7
 clear hl7 Vi;clear HC;have XE:Hid (Fx T w w7):=R8.out.trans Sx;obtain ⟨av7,bv7,ov7,vs7,bs7,t9⟩:=t9;have VH:=t9.rb.form (by simp);obtain ⟨q7,cap7,rfl,agt,ags⟩:=VH;have QK:(jV ks++[f.rs]).length=(jV ks).length+1:=by simp
 rw [QK] at t9;obtain ⟨_,_,_,_,_,_,d6,_,d8⟩:=t9.cells;have e6:=t9.fz 6;have e8:=t9.fz 8;have hg7:=t9.lt;have V6:=fY t9.rb;obtain ⟨KA,MJ⟩:=t9.popB rfl;have HF8:Hid (Fx T w (w7.setCell ⟨g,6,none⟩ (.slice (some ⟨q7,0,none⟩) (jV ks).length cap7))):=XE.out.trans KA;have Yy:Hid _:=MJ;by_cases hU:U.out=0
 ·have eu:=Ja hU;have dI:=I6 hU;obtain ⟨y,l,hUc⟩:∃y l,U.cur=y::l:=by
   cases hq:U.cur with
   |nil=>exact absurd hq dI
   |cons a b=>exact ⟨a,b,rfl⟩
  have Gt:=Rd.keep eu KA;rw [hUc] at Gt;obtain ⟨vb,voff,vcap,rfl,MK⟩:=Gt.isSome (by simp);obtain ⟨y0,y1⟩:=Rd.at Gt 0 (by simp);simp only [bQ,fA,cy] at y0 y1;have Uq:=Rd.cap Gt;simp only [aD] at Uq;rw [hU] at d8;have HO:Hid (jJ U=if y.1=1 then 0 else 3):=by show _=_;unfold jJ;rw [aA hU,hUc];rfl
  have HY:Hid ((hdI U.cur).2=y.2):=by show _=_;rw [hUc];rfl
  have IS:Hid _:=WB.setOut Yy.out 3;rw [hU] at Yy;clear t9 MJ KA eu Gt Ja Sx;by_cases eA:y.1=1
  ·rw [eA] at y0;rw [aA eA] at HO;go_wp2_with fail
   go_region
   all_goals
    go_wp2_with fail
    go_ret
    exact ⟨y.2,rfl,HF8.out.drew,by rw [HO.out];exact WP.old ⟨_,_,_,_,_,Yy.out⟩ (aR (ai _ _)),fun _=>HY.out.symm⟩
  ·have eh:(y.1==1)=false:=by simpa using eA
   rw [ay eA] at HO;go_wp2_with fail
   go_region
   all_goals
    go_wp2_with fail
    go_ret
    exact ⟨0,rfl,(HF8.out.trans IS.out.1).drew,by rw [HO.out];exact WP.old ⟨_,_,_,_,_,IS.out.2⟩ (aR (ai _ _)),fun h=>by rw [HO.out] at h;simp at h⟩
 ·have HO:Hid (jJ U=U.out):=by show _=_;unfold jJ;rw [ay hU]
  have EK:(U.out==0)=false:=by simpa using hU
  clear t9 MJ KA Ja Sx;go_wp2_with fail
  go_region
  all_goals
   go_wp2_with fail
   go_ret
   exact ⟨0,rfl,HF8.out.drew,by rw [HO.out];exact WP.old ⟨_,_,_,_,_,Yy.out⟩ (aR (ai _ _)),fun h=>by rw [HO.out] at h;exact absurd h hU⟩
theorem Tryz.infoIntN:(Tryz.prog.info? 3).map (fun i=>(i.zero,i.size,i.bytes))=some (some (.int .i64 0),1,8):=by kernel_rfl
theorem BK (T g:Nat) (fv:Value) (mn:Int) (c:Cf) (nds:List (Ln×Bool)) (stp:Int) (bys:List Ln) (ops:List Int) (p:Nat) (l:Ln) (w:World) (rv:Value) (hp:nds[p]?=some (l,true)) (hw:WP w T g fv mn c nds stp 0 bys ops) (hn:nds.length<=900000) (ua:∃a n cp,rv=.slice a n cp):
 Calls Tryz.prog 158 #[.pointer (some ⟨g,0,none⟩),.int .i64 (p:Int),rv] w fun e w'=>∃v,e=.returned v/\Below w.heap.size w w'/\Rd w' T v l:=by
 obtain ⟨av,bv,ov,vs,bs,hw⟩:=hw;obtain ⟨ra,rn,rc,rfl⟩:=ua;have Cg:=(aP.1 hp).1;obtain ⟨q,cap,hq,vg,Ex⟩:=hw.ra.form (by omega);subst hq;have qh:p<vs.length:=by rw [hw.vl];exact Cg
 obtain ⟨n0,n1⟩:=pz vs nds p _ _ (aj qh) hp;have k0:=aH hw.ra _ _ n0;have k1:=aH hw.ra _ _ n1;have eu:=hw.rv p _ _ (aj qh) hp;obtain ⟨_,_,_,_,_,c5,_,_,_⟩:=hw.cells;have qH:=hw.lt;have jb:=fY hw.ra;generalize vs[p]=v at*;obtain ⟨vo,vc,rfl⟩:=eu.form;have j7:Hid _:=eu;clear hw eu;simp only at k1;go_enter Tryz.func158,Tryz.ntmps158
 go_wp2_with fail
 go_ret
 exact ⟨_,rfl,ai _ _,j7.out⟩
theorem FI (T g:Nat) (fv:Value) (mn:Int) (c:Cf) (n:Nat) (ym:SV T g fv mn c n) (s U:Im) (ks:List Kf) (p:Nat) (l r:Ln) (w:World) (rv:Value) (hp:s.nds[p]?=some (l,false)) (jS:s.cur=l) (nM:s.ks=⟨1,(p:Int),0,0,r⟩::ks) (he:Ev c s.ks n s U) (hg:Gd c s) (hs:Sz c n s) (ahG:c.bud<=2000)
 (hw:WP w T g fv mn c s.nds s.stp 0 (jV ks) (iZ ks)) (hr:Rd w T rv r) (Dm:U.out=0->p<U.nds.length/\U.nds.length<=900000):
 Calls Tryz.prog 158 #[.pointer (some ⟨g,0,none⟩),.int .i64 (p:Int),rv] w fun e w'=>∃v,e=.returned v/\Fx T w w'/\WP w' T g fv mn c (A0 p U) U.stp U.out (jV ks) (iZ ks)/\∃l,Rd w' T v l/\l.length<=9000000/\(U.out=0->l=U.cur):=by
 obtain ⟨il,ly,tt,kV,gS⟩:=bE Tryz.infoLine;obtain ⟨ii,hii,GM,Dq,wH⟩:=bE Tryz.infoIntN;obtain ⟨ro,rc,rfl⟩:=hr.form;obtain ⟨av,bv,ov,vs,bs,hw⟩:=hw;obtain ⟨bo,bc,rfl⟩:=aU hw.rb;obtain ⟨oo,oc,rfl⟩:=aU hw.ro;have Cg:=(aP.1 hp).1;have lx:s.nds.length<=24000:=by have:=hs.nd;have:=hs.sb;omega
 obtain ⟨q,cap,hq,vg,Ex⟩:=hw.ra.form (by omega);subst hq;have qh:p<vs.length:=by rw [hw.vl];exact Cg
 obtain ⟨n0,n1⟩:=pz vs s.nds p _ _ (aj qh) hp;have k0:=aH hw.ra _ _ n0;have k1:=aH hw.ra _ _ n1;have jb:=fY hw.ra;have qH:=hw.lt;have mZ:=hw.hT;have hTg:=hw.lo;have af3:=hw.vl;obtain ⟨_,_,_,_,_,c5,c6,c7,_⟩:=hw.cells;have f6:=hw.fz 6;have f7:=hw.fz 7;have gZ:(jV ks).length<=800000:=by have:=hs.ks;rw [nM] at this;simp [jV] at this ⊢;omega
 have ZW:(iZ ks).length<=800000:=by have:=sV ks;have:=hs.ks;rw [nM] at this;simp [iZ] at this ⊢;omega
 have HM:Hid (∀w',Below w.heap.size w w'->WB w' T g fv mn c s.nds s.stp 0 (jV ks) (iZ ks) (.slice (some ⟨q,0,none⟩) s.nds.length cap) (.slice bo (jV ks).length bc) (.slice oo (iZ ks).length oc) vs bs):=fun w' hb=>hw.old hb
 have HR:Hid (∀w',Below w.heap.size w w'->Rd w' T (.slice ro r.length rc) r):=fun w' hb=>hr.old hb
 have HP:Hid (s.nds[p]?=some (l,false)):=hp;clear hw hr n0 n1 hp;simp only at k1;have gU:Hid (Below w.heap.size w (w.alloc (Obj.cells #[.slice ro r.length rc] 100))):=bM _ _;have rx:Hid _:=az w (Obj.cells #[.slice ro r.length rc] 100);go_enter Tryz.func158,Tryz.ntmps158
 go_wp2_with (at_builtin;go_must (refine wpList_append_lies _ rfl _ _ _ rfl T 100 il _ 1 24 Tryz.underlying56 ly tt kV gS rfl (by omega) (.slice bo (jV ks).length bc) (jV ks).length bs rfl ?yr _ 1 _ [.slice ro r.length rc] rfl rfl ?ti ?WL (by omega) ?Hp ?pO ?tF _ rfl ?_))
 case yr=>exact WB.rb (HM.out _ gU.out)
 try case ti=>exact World.news_of_block rx.out
 case WL=>simp [Value.oneCell']
 case Hp=>unfold maxLen;omega
 case pO=>omega
 case tF=>first|omega|(simp;omega)
 intro q5 cap5 w5 fd co kZ nL;have I5:=HM.out _ gU.out;obtain ⟨uv,Es⟩:=WB.pushB I5 (HR.out _ gU.out) fd co;have gQ:=br I5.rb co (by decide) I5.blk;have kb:=al w5 g 6 _ _ _ gQ;have kc:=al w5 g 7 _ _ _ gQ;have kd:=al w5 g 5 _ _ _ gQ;simp only [ax,ap,aq] at kb kc kd;have kf:=aG w5 g 6 _ _ gQ;have kg:=aG w5 g 7 _ _ gQ;have hg5:g<w5.heap.size:=(ae.1 gQ).1;obtain ⟨W6,SM⟩:∃W6,W6=w5.setCell ⟨g,6,none⟩ (.slice (some ⟨q5,0,none⟩) ((jV ks).length+1) cap5):=⟨_,rfl⟩;have R8:Hid (Fx T w W6):=by rw [SM];exact (Fx.of gU.out mZ).trans uv
 have RK:Hid (WB W6 T g fv mn c s.nds s.stp 0 (jV ks++[r]) (iZ ks) (.slice (some ⟨q,0,none⟩) s.nds.length cap) (.slice (some ⟨q5,0,none⟩) ((jV ks).length+1) cap5) (.slice oo (iZ ks).length oc) vs (bs++[.slice ro r.length rc])):=by rw [SM];exact Es
 clear fd co kZ uv Es gQ I5 c6 f6 c5 c7 f7 k0 k1;have L9:Hid (Below W6.heap.size W6 (W6.alloc (Obj.cells #[.int .i64 (p:Int)] 3))):=bM _ _;have RY:Hid _:=az W6 (Obj.cells #[.int .i64 (p:Int)] 3);have vd:W6.heap.size=w5.heap.size:=by rw [SM,gX]
 rw [vd] at RY;rw [SM] at RY L9;have RH:=RK;have XG:=R8;rw [SM] at RH XG;clear RK R8 vd SM W6;go_wp2_with (at_builtin;go_must (refine wpList_append_lies _ rfl _ _ _ rfl T 3 ii _ 1 8 Tryz.underlying22 hii GM Dq wH rfl (by omega) (.slice oo (iZ ks).length oc) (iZ ks).length (jp (iZ ks)) rfl ?UU _ 1 _ [.int .i64 (p:Int)] rfl rfl ?PM ?h1U (by omega) ?abW ?KI ?QN _ rfl ?_))
 case UU=>exact WB.ro (WB.old RH.out L9.out)
 try case PM=>exact World.news_of_block RY.out
 case h1U=>simp [Value.oneCell']
 case abW=>unfold maxLen;omega
 case KI=>omega
 case QN=>first|omega|(simp;omega)
 intro q8 cap8 w8 MX Az abg agM;have X4:=WB.old RH.out L9.out;obtain ⟨VC,MI⟩:=WB.pushO X4 MX Az;have yM:=br X4.ro Az (by decide) X4.blk;have ka:=al w8 g 7 _ _ _ yM;have ke:=al w8 g 5 _ _ _ yM;simp only [ax,ap,aq] at ka ke;have kh:=aG w8 g 7 _ _ yM;have hg8:g<w8.heap.size:=(ae.1 yM).1;have HF9:Hid (Fx T w (w8.setCell ⟨g,7,none⟩ (.slice (some ⟨q8,0,none⟩) ((iZ ks).length+1) cap8))):=(XG.out.trans (Fx.of L9.out (by rw [gX];omega))).trans VC;obtain ⟨n0,n1⟩:=pz vs s.nds p _ _ (aj qh) HP.out;have k0:=aH MI.ra _ _ n0;have Pw:=MI.rv p _ _ (aj qh) HP.out;have hq9:q<w8.heap.size:=by
  obtain ⟨cs,hh⟩:=JF MI.ra;have:=(ae.1 hh).1;rw [gX] at this;exact this
 have hqg:q≠g:=by
  intro e;obtain ⟨cs,hh⟩:=JF MI.ra;rw [e,MI.blk] at hh;simp at hh
 generalize X5:vs[p]=v at*;obtain ⟨vo,vc,hvf⟩:=Pw.form;have HVV:Hid _:=X5;subst hvf;have HC:Hid _:=ym s U _ _ he hg hs (by rw [nM,pY,wm ks rfl];exact ⟨_,_,_,_,_,MI⟩) (by rw [jS];exact Pw);rw [nM,pY,wm ks rfl] at HC;simp only at k0 HC;rw [uz (by exact hqg)] at k0;clear MX Az abg VC MI yM X4 kb kc kd kf kg n0 n1 Pw X5;go_wp2_with fail
 refine (show Calls _ _ _ _ _ from HC.out).mono ?_
 rintro e w10 ⟨v,rfl,Qv,oA,l10,Ku,M3,M2⟩
 have Pz:U.out=0->Rd w10 T v U.cur:=fun h=>by rw [<-M2 h];exact Ku
 clear HC;have adc:Hid (Fx T w w10):=HF9.out.trans Qv;obtain ⟨av10,bv10,ov10,vs10,bs10,oA⟩:=oA;obtain ⟨qb,capb,rfl,agn,agm⟩:=oA.rb.form (by simp);obtain ⟨qo,capo,rfl,ZI,agj⟩:=oA.ro.form (by simp);have QK:(jV ks++[r]).length=(jV ks).length+1:=by simp
 have ZV:(iZ ks++[(p:Int)]).length=(iZ ks).length+1:=by simp
 rw [QK,ZV] at oA;obtain ⟨_,_,_,_,_,d5,d6,d7,d8⟩:=oA.cells;have e6:=oA.fz 6;have e7:=oA.fz 7;have ahc:=oA.lt;have aew:=fY oA.rb;have V6:=fY oA.ro;obtain ⟨yH,Pg⟩:=oA.popB rfl;obtain ⟨yG,s7⟩:=Pg.popO rfl;have XH:Hid _:=(adc.out.trans yH).trans yG;have acm:Hid _:=s7;by_cases hU:U.out=0
 ·have Ce:=Rd.keep (Rd.keep (Pz hU) yH) yG;obtain ⟨ZS,hnU⟩:=Dm hU;rw [hU] at d8;obtain ⟨qa,capa,hqa,agp,ago⟩:=s7.ra.form (by omega);subst hqa;have aev:=fY s7.ra;have Up:p<vs10.length:=by rw [s7.vl];exact ZS
  obtain ⟨o0,o1⟩:=pz vs10 U.nds p _ _ (aj Up) (aj ZS);have y0:=aH s7.ra _ _ o0;have y1:=aH s7.ra _ _ o1;have z0:=To s7.ra (p*2);have z1:=To s7.ra (p*2+1);obtain ⟨GV,Pf⟩:=s7.layN (b:=true) rfl Ce ZS;have Xm:Hid _:=Rd.keep Ce GV;have adb:Hid _:=XH.out.trans GV;have RZ:Hid (A0 p U=U.nds.set p (U.cur,true)):=aA hU;obtain ⟨vo2,vc2,rfl⟩:=Ce.form;rw [hU] at Pf;have acl:Hid _:=Pf;clear oA Pg s7 yH yG GV Pf o0 o1 Pz Qv Ce;go_wp2_with fail
  go_region
  go_wp2_with fail
  go_region
  go_wp2_with fail
  go_ret
  refine ⟨_,rfl,adb.out.drew.drew,?_,U.cur,Rd.old Xm.out (aR (aR (ai _ _))),by rw [<-M2 hU];exact M3,fun _=>rfl⟩
  rw [RZ.out,hU];exact WP.old ⟨_,_,_,_,_,acl.out⟩ (aR (aR (ai _ _)))
 ·have EK:(U.out==0)=false:=by simpa using hU
  have RZ:Hid (A0 p U=U.nds):=ay hU;have acU:Hid _:=Rd.keep (Rd.keep Ku yH) yG;obtain ⟨vo2,vc2,rfl⟩:=Ku.form;clear oA Pg s7 yH yG Pz Qv Ku;go_wp2_with fail
  go_region
  go_wp2_with fail
  go_region
  go_wp2_with fail
  go_ret
  exact ⟨_,rfl,XH.out.drew.drew,by rw [RZ.out];exact WP.old ⟨_,_,_,_,_,acm.out⟩ (aR (aR (ai _ _))),l10,Rd.old acU.out (aR (aR (ai _ _))),M3,fun h=>absurd h hU⟩
end Go.Proofs.YtnndoagpbcacdabGreatDoor
