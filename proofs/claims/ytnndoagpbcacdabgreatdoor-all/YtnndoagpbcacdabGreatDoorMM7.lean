import Derived.Test.YtnndoagpbcacdabGreatDoorM5
import Derived.Test.YtnndoagpbcacdabGreatDoorMD0
namespace Go.Proofs.YtnndoagpbcacdabGreatDoor
set_option maxHeartbeats 8000000
open Go.RowKit
theorem adz (p:Int) (v:Value) (l:Ln) (bb:Bool) (B mb:Nat) (fv:Value) (c:Cf) (s:Ms) (K:Nat->Prop) (w:World) (h:MP w B mb fv c s K) (hv:w.ownsRow B 90 2 v l.length (acs l)) (hK:∀k,v.ownBlock=some k->K k) (hl:s.nds.length<=1099511627770):
 Calls Tryz.prog 101 #[.pointer (some ⟨mb,0,none⟩),.int .i64 p,.agg #[v,.bool bb]] w fun e w'=>(∃v,e=.returned v)/\Below B w w'/\dm K w w'/\MP w' B mb fv c (xn p (l,bb) s) K:=by
 obtain ⟨sv,rv,nv,ev,vs,h⟩:=h;obtain ⟨no,nc,rfl⟩:=aU h.rn;obtain ⟨vo,vc,rfl⟩:=aU hv;have c5:=h.c5;have pK:=h.lt;have jN:=h.lo;by_cases hp:0<=p/\p<s.nds.length
 ·have HE:Hid (xn p (l,bb) s={s with nds:=s.nds.set p.toNat (l,bb)}):=aA hp;rw [HE.out];obtain ⟨lK,An⟩:=hp;obtain ⟨j,rfl⟩:=aZ lK;have hj:j<s.nds.length:=by omega
  obtain ⟨q,cap',hq,yp,dX⟩:=h.rn.form (by omega);cases hq
  obtain ⟨u,hu,_,_⟩:=h.rows j hj;obtain ⟨n0,n1⟩:=pz vs s.nds j u _ hu (aj hj);have k0:=aH h.rn (j*2) _ n0;have k1:=aH h.rn (j*2+1) _ n1;have f0:=nz h.rn (j*2);have f1:=nz h.rn (j*2+1);have pS:B<=w.heap.size:=by omega
  have hqn:q≠w.heap.size:=by omega
  have HL:Hid _:=MSt.layN (b:=bb) h hj hv (fun k hk=>(h.sep k (hK k hk)).2.1);clear h hv hK HE n0 n1 hu;have hd:decide ((0:Int)<=(j:Int))=true:=by simp
  have jz:decide ((j:Int)<(s.nds.length:Int))=true:=by simp;omega
  go_enter Tryz.func101,Tryz.ntmps101
  go_wp2_with fail
  go_region
  all_goals
   go_wp2_with fail
   refine bH (v:=.tuple #[]) (by simp [results,Tryz.results101,go_sem]) rfl ⟨⟨_,rfl⟩,aR (HL.out.1.alloc (by rw [eY,eY];exact pS) _),?_,_,_,_,_,_,HL.out.2.2.old (aR (bM _ _))⟩
   exact HL.out.2.1.trans (dm.old (aR (bM _ _))) (by rw [eY,eY];exact ah _)
 ·have HE:Hid (xn p (l,bb) s=s):=ay hp;rw [HE.out];have HM:Hid _:=h;have pS:B<=w.heap.size:=by omega
  clear h hv hK HE;by_cases h0:0<=p
  ·have hd:decide (0<=p)=true:=by simpa using h0
   have jz:decide (p<(s.nds.length:Int))=false:=by simp;omega
   go_enter Tryz.func101,Tryz.ntmps101
   go_wp2_with fail
   exact bH (v:=.tuple #[]) (by simp [results,Tryz.results101,go_sem]) rfl ⟨⟨_,rfl⟩,(ai B w).alloc pS _,dm.old (bM w _),_,_,_,_,_,HM.out.old (bM w _)⟩
  ·have hd:decide (0<=p)=false:=by simpa using h0
   go_enter Tryz.func101,Tryz.ntmps101
   go_wp2_with fail
   exact bH (v:=.tuple #[]) (by simp [results,Tryz.results101,go_sem]) rfl ⟨⟨_,rfl⟩,(ai B w).alloc pS _,dm.old (bM w _),_,_,_,_,_,HM.out.old (bM w _)⟩
theorem Oy (fk fh nd fpr fnu:Int) (B mb:Nat) (fv:Value) (c:Cf) (s:Ms) (K:Nat->Prop) (w:World) (h:MP w B mb fv c s K) (hl:s.stk.length<=1099511627770) (gS:s.frs.length<=1099511627770) (zo:s.nds.length<=1099511627770) (hf:flr s<=s.stk.length):
 Calls Tryz.prog 103 #[.pointer (some ⟨mb,0,none⟩),.agg #[.int .i64 fk,.int .i64 fh,.int .i64 nd,.int .i64 fpr,.int .i64 fnu]] w fun e w'=>(∃v,e=.returned v)/\Below B w w'/\dm K w w'/\MP w' B mb fv c (NP nd s) K:=by
 obtain ⟨sv,rv,nv,ev,vs,h⟩:=h;have pS:B<=w.heap.size:=by have:=h.lt;have:=h.lo;omega
 have X0:Hid _:=bM w (Obj.cells #[.int .i64 fk,.int .i64 fh,.int .i64 nd,.int .i64 fpr,.int .i64 fnu] 164);have Xq:Hid _:=h.old X0.out;have qP:Hid _:=h.mlt;have HX0:Hid _:=az w (Obj.cells #[.int .i64 fk,.int .i64 fh,.int .i64 nd,.int .i64 fpr,.int .i64 fnu] 164);have hs0:w.heap.size+1=(w.alloc (Obj.cells #[.int .i64 fk,.int .i64 fh,.int .i64 nd,.int .i64 fpr,.int .i64 fnu] 164)).heap.size:=by simp
 have kp:Hid _:=OD B mb fv c s K sv rv nv ev vs _ Xq.out (by omega) (by omega) hf;have HE:Hid (NP nd s=xn nd (rq s,true) (gv s)):=rfl;rw [HE.out];clear h HE;go_enter Tryz.func103,Tryz.ntmps103
 go_wp2_with fail
 generalize hw0:w.alloc (Obj.cells #[.int .i64 fk,.int .i64 fh,.int .i64 nd,.int .i64 fpr,.int .i64 fnu] 164)=w0 at*;refine (show Calls _ _ _ _ _ from kp.out).mono ?_
 rintro e w1 ⟨v,rfl,bB,pG⟩
 clear kp;have eI:Hid (Below w.heap.size w w1):=X0.out.trans (bB.mono (by omega));have qO:Hid _:=(bB.block w.heap.size (by omega)).trans HX0.out;have nF:Hid (MSt w1 B mb fv c s (fun k=>K k\/(w.heap.size<=k/\k<w1.heap.size)) sv rv nv ev vs):=(Xq.out.old bB).fromT qP.out;have lN:Hid (w1.ownsRow w0.heap.size 90 2 v (rq s).length (acs (rq s))):=pG;have fH:=bB.size;have HV:Hid (∀k,v.ownBlock=some k->(K k\/(w.heap.size<=k/\k<w1.heap.size))):=fun k hk=>.inr ⟨by have:=(pG.lt k hk).1;omega,(pG.lt k hk).2⟩
 obtain ⟨vo,vc,rfl⟩:=aU pG;have fE:Hid _:=OB B mb fv c s _ w1 ⟨_,_,_,_,_,nF.out⟩ (by omega);clear pG bB Xq X0;go_wp2_with fail
 refine (show Calls _ _ _ _ _ from fE.out).mono ?_
 rintro e w2 ⟨⟨v2,rfl⟩,bX,eh,gK⟩
 clear fE;have pR:=eh.blk (.inr ⟨ah _,by omega⟩) qO.out;have cV:w.heap.size<w2.heap.size:=(ae.1 pR).1;obtain ⟨_,_,p2,_,_⟩:=tU pR;have gT:Hid (w2.ownsRow B 90 2 (.slice vo (rq s).length vc) (rq s).length (acs (rq s))):=bO (j8 lN.out eh HV.out) (by omega);have ix:Hid _:=adz nd (.slice vo (rq s).length vc) (rq s) true B mb fv c (gv s) _ w2 gK gT.out HV.out (by show s.nds.length<=_;omega);have gj:Hid (Below B w w2):=(eI.out.mono pS).trans bX;have uC:Hid (dm K w w2):=(dm.old eI.out).trans (eh.less fun k hk=>.inl hk) eI.out.size;clear bX eh gK pR;go_wp2_with fail
 refine (show Calls _ _ _ _ _ from ix.out).mono ?_
 rintro e w3 ⟨⟨v3,rfl⟩,df,my,mt⟩
 clear ix;have xj:Hid (MP w3 B mb fv c (xn nd (rq s,true) (gv s)) K):=mt.less fun k hk=>.inl hk
 have lu:Hid (Below B w w3):=gj.out.trans df;have xB:Hid (dm K w w3):=uC.out.trans (my.less fun k hk=>.inl hk) gj.out.size;clear df my mt p2;go_wp2_with fail
 exact bH (v:=.tuple #[]) (by simp [results,Tryz.results103,go_sem]) rfl ⟨⟨_,rfl⟩,lu.out,xB.out,xj.out⟩
theorem Ow (p:Int) (w:World):Calls Tryz.prog 61 #[.int .i64 p] w fun e w'=>e=.returned (.int .i64 (eR p))/\w'=w:=by
 unfold eR;by_cases h3:p=3
 ·subst h3;go_enter Tryz.func61,Tryz.ntmps61
  go_wp2_with fail
  go_ret
  exact ⟨rfl,rfl⟩
 ·by_cases h4:p=4
  ·subst h4;go_enter Tryz.func61,Tryz.ntmps61
   go_wp2_with fail
   go_ret
   exact ⟨rfl,rfl⟩
  ·have g3:(p==3)=false:=by simpa using h3
   have g4:(p==4)=false:=by simpa using h4
   rw [ay (by omega)];go_enter Tryz.func61,Tryz.ntmps61
   go_wp2_with fail
   go_ret
   exact ⟨rfl,rfl⟩
theorem MP.node {w:World} {B mb:Nat} {fv:Value} {c:Cf} {s:Ms} {K:Nat->Prop} (h:MP w B mb fv c s K) (j:Nat) (hj:j<s.nds.length):
 ∃q nc vo vc,w.cell? ⟨mb,5,none⟩=some (.slice (some ⟨q,0,none⟩) s.nds.length nc)/\q<w.heap.size/\s.nds.length<=nc/\nc<=9223372036854775807/\w.cell? ⟨q,j*2,none⟩=some (.slice vo s.nds[j].1.length vc)/\w.cell? ⟨q,j*2+1,none⟩=some (.bool s.nds[j].2)/\
  w.ownsRow B 90 2 (.slice vo s.nds[j].1.length vc) s.nds[j].1.length (acs s.nds[j].1)/\MP w B mb fv c s (fun k=>K k\/(Value.slice vo s.nds[j].1.length vc).ownBlock=some k):=by
 obtain ⟨sv,rv,nv,ev,vs,h⟩:=h;obtain ⟨q,nc,rfl,yp,dX⟩:=h.rn.form (by omega);obtain ⟨v,hv,bW,Ki⟩:=h.rows j hj;obtain ⟨n0,n1⟩:=pz vs s.nds j v _ hv (aj hj);obtain ⟨vo,vc,rfl⟩:=aU bW;have jb:=pu h.rn;refine ⟨q,nc,vo,vc,h.c5,dX,jb.1,jb.2,aH h.rn _ _ n0,aH h.rn _ _ n1,bW,_,_,_,_,_,h.moreK fun k hk=>?_⟩
 rcases hk with hk|hk
 ·exact .inl hk
 ·exact .inr ⟨(bW.lt k hk).2,jC bW h.blk (by decide) k hk,Ki k hk,gu bW h.rr (by decide) k hk,gu bW h.rn (by decide) k hk,gu bW h.re (by decide) k hk⟩
theorem TX (B mb:Nat) (fv:Value) (c:Cf) (s:Ms) (K:Nat->Prop) (w:World) (h:MP w B mb fv c s K) (hl:s.stk.length<=1099511627770) (gS:s.frs.length<=1099511627770) (_hl3:s.nds.length<=1099511627770) (yC:∀n∈s.nds,n.1.length+s.stk.length<=1099511627770):
 Calls Tryz.prog 57 #[.pointer (some ⟨mb,0,none⟩)] w fun e w'=>(∃v,e=.returned v)/\Below B w w'/\dm K w w'/\MP w' B mb fv c (jg s) K:=by
 have kp:Hid _:=JY B mb fv c s K w h (by omega);clear h;generalize hx:hdI s.stk=x at*;obtain ⟨x1,p⟩:=x;simp only at kp;go_enter Tryz.func57,Tryz.ntmps57
 go_wp2_with fail
 refine (show Calls _ _ _ _ _ from kp.out).mono ?_
 rintro e w1 ⟨rfl,bB,eA,fR⟩
 clear kp;have S8:Hid _:=bM w1 (Obj.cells #[.int .i64 x1,.int .i64 p] 90);have nF:Hid _:=fR.old S8.out;have EM:B<=w1.heap.size:=by have:=fR.lt;have:=fR.lo;omega
 have eI:Hid (Below B w (w1.alloc (Obj.cells #[.int .i64 x1,.int .i64 p] 90))):=bB.trans (S8.out.mono EM);have mr:Hid (dm K w (w1.alloc (Obj.cells #[.int .i64 x1,.int .i64 p] 90))):=eA.trans (dm.old S8.out) bB.size;clear fR bB eA;by_cases hp:0<=p/\p<s.nds.length
 ·obtain ⟨lK,An⟩:=hp;obtain ⟨j,rfl⟩:=aZ lK;have hj:j<s.nds.length:=by omega
  have HE:Hid (jg s=qS s.nds[j].1 (if s.nds[j].2 then fX s else lA 1 (j:Int) 0 0 (fX s))):=by
   show _=_
   unfold jg;rw [hx,aA ⟨lK,An⟩];simp [hj]
  have hn:=yC s.nds[j] (aE hj);have mu:decide ((j:Int)<0)=false:=by simp
  have jz:decide ((s.nds.length:Int)<=(j:Int))=false:=by simp;omega
  have mV:¬(s.nds.length:Int)<=(j:Int):=by omega
  have pK:mb<(w1.alloc (Obj.cells #[.int .i64 x1,.int .i64 (j:Int)] 90)).heap.size:=MP.lt nF.out;obtain ⟨q,nc,vo,vc,c5,hq,GK,P3,n0,n1,bW,EE⟩:=MP.node nF.out j hj;have PD:(fX s).nds=s.nds:=rfl;simp only [PD] at c5 n0 n1 bW EE GK;cases Qz:s.nds[j].2
  ·rw [Qz] at n1;have oQ:Hid (jg s=qS s.nds[j].1 (lA 1 (j:Int) 0 0 (fX s))):=by rw [HE.out,Qz];rfl
   have fE:Hid _:=Ox 1 0 (j:Int) 0 0 B mb fv c (fX s) K _ nF.out (by show s.frs.length<=_;omega) (by show s.stk.tail.length<=_;rw [ce];omega);clear bW EE nF HE Qz;go_wp2_with fail
   refine (show Calls _ _ _ _ _ from fE.out).mono ?_
   rintro e w2 ⟨⟨v2,rfl⟩,bX,eh,gK⟩
   clear c5 n0 n1 hq pK fE GK P3;have pK:=gK.lt;obtain ⟨q,nc,vo,vc,c5,hq,GK,P3,n0,n1,bW,EE⟩:=gK.node j hj;have PD:(lA 1 (j:Int) 0 0 (fX s)).nds=s.nds:=rfl;simp only [PD] at c5 n0 n1 bW EE GK;have ix:Hid _:=Y7 s.nds[j].1 _ B B mb fv c _ _ w2 EE bW (fun k hk=>.inr hk) (by show _+s.stk.tail.length<=_;rw [ce];omega);have gj:Hid (Below B w w2):=eI.out.trans bX;have uC:Hid (dm K w w2):=mr.out.trans eh eI.out.size;clear bW EE bX eh gK;go_wp2_with fail
   refine (show Calls _ _ _ _ _ from ix.out).mono ?_
   rintro e w3 ⟨⟨v3,rfl⟩,df,my,mt⟩
   have xj:Hid (MP w3 B mb fv c (jg s) K):=by rw [oQ.out];exact mt.less fun k hk=>.inl hk
   have lu:Hid (Below B w w3):=gj.out.trans df;have xB:Hid (dm K w w3):=uC.out.trans (my.less fun k hk=>.inl hk) gj.out.size;clear ix df my mt n0 n1 c5;go_wp2_with fail
   exact bH (v:=.tuple #[]) (by simp [results,Tryz.results57,go_sem]) rfl ⟨⟨_,rfl⟩,lu.out,xB.out,xj.out⟩
  ·rw [Qz] at n1;have oQ:Hid (jg s=qS s.nds[j].1 (fX s)):=by rw [HE.out,Qz];rfl
   have ix:Hid _:=Y7 s.nds[j].1 _ B B mb fv c _ _ _ EE bW (fun k hk=>.inr hk) (by show _+s.stk.tail.length<=_;rw [ce];omega);clear bW EE nF HE Qz;go_wp2_with fail
   refine (show Calls _ _ _ _ _ from ix.out).mono ?_
   rintro e w3 ⟨⟨v3,rfl⟩,df,my,mt⟩
   have xj:Hid (MP w3 B mb fv c (jg s) K):=by rw [oQ.out];exact mt.less fun k hk=>.inl hk
   have lu:Hid (Below B w w3):=eI.out.trans df;have xB:Hid (dm K w w3):=mr.out.trans (my.less fun k hk=>.inl hk) eI.out.size;clear ix df my mt n0 n1 c5;go_wp2_with fail
   exact bH (v:=.tuple #[]) (by simp [results,Tryz.results57,go_sem]) rfl ⟨⟨_,rfl⟩,lu.out,xB.out,xj.out⟩
 ·have HE:Hid (jg s=fX s):=by show _=_;unfold jg;rw [hx];exact ay hp
  have oP:Hid (MP (w1.alloc (Obj.cells #[.int .i64 x1,.int .i64 p] 90)) B mb fv c (jg s) K):=by rw [HE.out];exact nF.out
  obtain ⟨sv,rv,nv,ev,vs,hm⟩:=nF.out;obtain ⟨no,nc,rfl⟩:=aU hm.rn;have c5:=hm.c5;have pK:=hm.lt;have PD:(fX s).nds=s.nds:=rfl;rw [PD] at c5;clear hm nF HE;by_cases h0:0<=p
  ·have mu:decide (p<0)=false:=by simp;omega
   have jz:decide ((s.nds.length:Int)<=p)=true:=by simp;omega
   go_wp2_with fail
   exact aS (v:=.tuple #[]) (by simp [results,Tryz.results57,go_sem]) rfl ⟨⟨_,rfl⟩,eI.out,mr.out,oP.out⟩
  ·have mu:decide (p<0)=true:=by simp;omega
   go_wp2_with fail
   exact aS (v:=.tuple #[]) (by simp [results,Tryz.results57,go_sem]) rfl ⟨⟨_,rfl⟩,eI.out,mr.out,oP.out⟩
theorem FY (n:Int) (T B mb:Nat) (fv:Value) (c:Cf) (s:Ms) (K:Nat->Prop) (w:World) (h:MP w B mb fv c s K) (hT:T<=w.heap.size) (hf:dS w T fv c.fs):
 Calls Tryz.prog 58 #[.pointer (some ⟨mb,0,none⟩),.int .i64 n] w fun e w'=>∃lo lc,e=.returned (.agg #[.int .i64 (jx c n).ar,.slice lo (jx c n).ls.length lc])/\Below w.heap.size w w'/\gd w T (.slice lo (jx c n).ls.length lc) (jx c n).ls:=by
 obtain ⟨sv,rv,nv,ev,vs,h⟩:=h;have pK:=h.lt;have c0:=h.c0;obtain ⟨fo,fc,rfl,VN,GZ,jA⟩:=hf;unfold maxLen at GZ;clear h;by_cases hn:0<=n/\n<c.fs.length
 ·obtain ⟨h0,h1⟩:=hn;obtain ⟨j,rfl⟩:=aZ h0;have hj:j<c.fs.length:=by omega
  have HE:Hid (jx c (j:Int)=c.fs[j]):=by show _=_;unfold jx;rw [aA ⟨h0,h1⟩];simp [hj]
  rw [HE.out];rcases jA with hz|⟨b,off,rfl,Cn,cJ⟩
  ·omega
  obtain ⟨lv,k0,k1,j9⟩:=cJ j hj;have iB:b<w.heap.size:=by omega
  have HL:Hid _:=j9;generalize c.fs[j]=t at*;obtain ⟨ar,ls⟩:=t;simp only at*;obtain ⟨lo,lc,rfl,yB,uq,_⟩:=j9;have mu:decide ((j:Int)<0)=false:=by simp
  have jz:decide ((c.fs.length:Int)<=(j:Int))=false:=by simp;omega
  have mV:¬(c.fs.length:Int)<=(j:Int):=by omega
  clear cJ HE;go_enter Tryz.func58,Tryz.ntmps58
  go_wp2_with fail
  refine aS (v:=.agg #[.int .i64 ar,.slice lo ls.length lc]) (by simp [results,Tryz.results58,go_sem]) rfl ⟨lo,lc,rfl,?_,HL.out⟩
  exact bM _ _
 ·have HE:Hid (jx c n=⟨0,[]⟩):=by show _=_;unfold jx;exact ay hn
  rw [HE.out];clear HE jA;by_cases h0:0<=n
  ·have mu:decide (n<0)=false:=by simp;omega
   have jz:decide ((c.fs.length:Int)<=n)=true:=by simp;omega
   go_enter Tryz.func58,Tryz.ntmps58
   go_wp2_with fail
   exact aS (v:=.agg #[.int .i64 0,.slice none 0 0]) (by simp [results,Tryz.results58,go_sem]) rfl ⟨none,0,rfl,bM _ _,none,0,rfl,ah _,by unfold maxLen;omega,.inl rfl⟩
  ·have mu:decide (n<0)=true:=by simp;omega
   go_enter Tryz.func58,Tryz.ntmps58
   go_wp2_with fail
   exact aS (v:=.agg #[.int .i64 0,.slice none 0 0]) (by simp [results,Tryz.results58,go_sem]) rfl ⟨none,0,rfl,bM _ _,none,0,rfl,ah _,by unfold maxLen;omega,.inl rfl⟩
def cT:List Bool->Nat
 |[]=>0
 |b::l=>(if b then 1 else 0)+cT l
theorem LB:∀l:List Bool,cT l<=l.length
 |[]=>ah _
 |b::l=>by have:=LB l;unfold cT;rw [aD];split<;>omega
theorem Nt:∀(l:List Bool) (i:Nat),l[i]?=some false->cT (l.set i true)=cT l+1
 |[],i,h=>by simp at h
 |b::l,0,h=>by simp at h;subst h;simp [cT];omega
 |b::l,i+1,h=>by
  have:=Nt l i (by simpa using h);simp only [List.set_cons_succ,cT,this];omega
structure RI (n:Nat) (x:List Bool×List Int):Prop where
 len:x.1.length=n
 iff:∀p:Int,p∈x.2↔(0<=p/\x.1[p.toNat]?=some true)
 cnt:x.2.length=cT x.1
theorem RI.le {n:Nat} {x:List Bool×List Int} (h:RI n x):x.2.length<=n:=by rw [h.cnt,<-h.len];exact LB _
theorem RI.val {n:Nat} {x:List Bool×List Int} (h:RI n x) {p:Int} (hp:p∈x.2):0<=p/\p<n:=by
 obtain ⟨h1,h2⟩:=(h.iff p).1 hp;have:=(aP.1 h2).1;rw [h.len] at this;exact ⟨h1,by omega⟩
theorem RI.init (n:Nat):RI n (List.replicate n false,[]):=by
 refine ⟨by simp,fun p=>?_,?_⟩
 ·simp only [ck,false_iff,not_and];intro _ h;have:=bm h;simp at this
 ·induction n with
  |zero=>rfl
  |succ n ih=>simp [List.replicate_succ,cT] at ih ⊢;exact ih
theorem RI.rch {n:Nat} {x:List Bool×List Int} (h:RI n x) (p:Int):RI n (rch p x)/\(∃l,(rch p x).2=x.2++l/\∀q∈l,q=p)/\(0<=p->p<n->p∈(rch p x).2):=by
 unfold Go.Proofs.YtnndoagpbcacdabGreatDoor.rch;by_cases hc:p<0\/(x.1.length:Int)<=p\/x.1[p.toNat]?.getD false=true
 ·rw [aA hc];refine ⟨h,⟨[],by simp,by simp⟩,fun h1 h2=>?_⟩
  rcases hc with hc|hc|hc
  ·omega
  ·rw [h.len] at hc;omega
  ·refine (h.iff p).2 ⟨h1,?_⟩
   cases hx:x.1[p.toNat]? with
   |none=>rw [hx] at hc;simp at hc
   |some b=>rw [hx] at hc;simp at hc;rw [hc]
 ·rw [ay hc];have lk:0<=p:=by omega
  have kT:p<(x.1.length:Int):=by omega
  have bF:p.toNat<x.1.length:=by omega
  have hf:x.1[p.toNat]?=some false:=by
   have:¬x.1[p.toNat]?.getD false=true:=fun e=>hc (.inr (.inr e))
   rw [aj bF] at this ⊢;simpa using this
  refine ⟨⟨by simp [h.len],fun q=>?_,?_⟩,⟨[p],rfl,by simp⟩,fun _ _=>by simp⟩
  ·simp only [be,dE];constructor
   ·rintro (hq|rfl)
    ·obtain ⟨a,b⟩:=(h.iff q).1 hq;refine ⟨a,?_⟩
     rw [List.getElem?_set];split
     ·simp
     ·exact b
    ·exact ⟨lk,bR bF⟩
   ·rintro ⟨a,b⟩
    by_cases e:q=p
    ·exact .inr e
    ·rw [b9 (by omega)] at b;exact .inl ((h.iff q).2 ⟨a,b⟩)
  ·simp [Nt _ _ hf,h.cnt]
structure Mr (n:Nat) (x y:List Bool×List Int) (R:Int->Prop):Prop where
 ri:RI n y
 pre:∃l,y.2=x.2++l/\∀q∈l,R q
theorem Mr.sub {n:Nat} {x y:List Bool×List Int} {R:Int->Prop} (h:Mr n x y R) {q:Int} (hq:q∈x.2):q∈y.2:=by
 obtain ⟨l,e,_⟩:=h.pre;rw [e];simp [hq]
theorem Mr.refl {n:Nat} {x:List Bool×List Int} {R:Int->Prop} (h:RI n x):Mr n x x R:=⟨h,[],by simp,by simp⟩
theorem Mr.trans {n:Nat} {x y z:List Bool×List Int} {R:Int->Prop} (h1:Mr n x y R) (h2:Mr n y z R):Mr n x z R:=by
 obtain ⟨l,e,hl⟩:=h1.pre;obtain ⟨m,e2,hm⟩:=h2.pre;exact ⟨h2.ri,l++m,by rw [e2,e,bI],fun q hq=>by rcases be.1 hq with h|h;exact hl q h;exact hm q h⟩
theorem lR {n:Nat} {R:Int->Prop}:∀(l:Ln) (x:List Bool×List Int),RI n x->(∀a∈l,a.1=5->R a.2)->Mr n x (rX l x) R/\∀a∈l,a.1=5->0<=a.2->a.2<n->a.2∈(rX l x).2
 |[],x,h,_=>⟨Mr.refl h,by simp⟩
 |a::l,x,h,hR=>by
  rw [rX];by_cases ha:a.1=5
  ·rw [aA ha];obtain ⟨h1,⟨m,e,hm⟩,h3⟩:=h.rch a.2;have fR:Mr n x (rch a.2 x) R:=⟨h1,m,e,fun q hq=>by rw [hm q hq];exact hR a (by simp) ha⟩;obtain ⟨h4,h5⟩:=lR l (rch a.2 x) h1 (fun b hb=>hR b (by simp [hb]));refine ⟨fR.trans h4,fun b hb dB h0 hn=>?_⟩
   rcases aK.1 hb with rfl|hb
   ·exact h4.sub (h3 h0 hn)
   ·exact h5 b hb dB h0 hn
  ·rw [ay ha];obtain ⟨h4,h5⟩:=lR l x h (fun b hb=>hR b (by simp [hb]));refine ⟨h4,fun b hb dB h0 hn=>?_⟩
   rcases aK.1 hb with rfl|hb
   ·exact absurd dB ha
   ·exact h5 b hb dB h0 hn
theorem v9 {n:Nat} {R:Int->Prop}:∀(l:List Fr) (x:List Bool×List Int),RI n x->(∀a∈l,a.k=1->R a.nd)->Mr n x (C4 l x) R/\∀a∈l,a.k=1->0<=a.nd->a.nd<n->a.nd∈(C4 l x).2
 |[],x,h,_=>⟨Mr.refl h,by simp⟩
 |a::l,x,h,hR=>by
  rw [C4];by_cases ha:a.k=1
  ·rw [aA ha];obtain ⟨h1,⟨m,e,hm⟩,h3⟩:=h.rch a.nd;have fR:Mr n x (rch a.nd x) R:=⟨h1,m,e,fun q hq=>by rw [hm q hq];exact hR a (by simp) ha⟩;obtain ⟨h4,h5⟩:=v9 l (rch a.nd x) h1 (fun b hb=>hR b (by simp [hb]));refine ⟨fR.trans h4,fun b hb dB h0 hn=>?_⟩
   rcases aK.1 hb with rfl|hb
   ·exact h4.sub (h3 h0 hn)
   ·exact h5 b hb dB h0 hn
  ·rw [ay ha];obtain ⟨h4,h5⟩:=v9 l x h (fun b hb=>hR b (by simp [hb]));refine ⟨h4,fun b hb dB h0 hn=>?_⟩
   rcases aK.1 hb with rfl|hb
   ·exact absurd dB ha
   ·exact h5 b hb dB h0 hn
def ndA (s:Ms) (p:Int):Ln×Bool:=s.nds[p.toNat]?.getD ([],false)
def Cl (s:Ms) (i:Nat) (x:List Bool×List Int):Prop:=∀j p,j<i->x.2[j]?=some p->∀a∈(ndA s p).1,a.1=5->0<=a.2->a.2<s.nds.length->a.2∈x.2
theorem Nu {s:Ms} {R:Int->Prop} (hR:∀p,R p->∀a∈(ndA s p).1,a.1=5->R a.2):∀(f i:Nat) (x:List Bool×List Int),RI s.nds.length x->(∀p∈x.2,R p)->Cl s i x->s.nds.length<=f+i->Mr s.nds.length x (bfs s f i x) R/\Cl s (bfs s f i x).2.length (bfs s f i x)
 |0,i,x,h,_,hc,hf=>⟨Mr.refl h,fun j p hj=>hc j p (by have:=h.le;simp only [bfs] at hj;omega)⟩
 |f+1,i,x,h,hx,hc,hf=>by
  rw [bfs];by_cases hi:i<x.2.length
  ·rw [aA hi];have nK:x.2[i]?.getD 0∈x.2:=by rw [aj hi];exact aE hi
   have hv:=h.val nK;rw [aA hv];generalize hp:x.2[i]?.getD 0=p at*;have Sp:x.2[i]?=some p:=by rw [aj hi] at hp ⊢;simpa using hp
   obtain ⟨h1,h2⟩:=lR (n:=s.nds.length) (R:=R) (ndA s p).1 x h (hR p (hx p nK));have xp:∀q∈(rX (ndA s p).1 x).2,R q:=by
    intro q hq;obtain ⟨l,e,hl⟩:=h1.pre;rw [e] at hq;rcases be.1 hq with hq|hq
    ·exact hx q hq
    ·exact hl q hq
   have kT:Cl s (i+1) (rX (ndA s p).1 x):=by
    intro j q hj hq a ha h5 h0 hn;obtain ⟨l,e,_⟩:=h1.pre;have ZO:x.2[j]?=some q:=by rw [e,aI (by omega)] at hq;exact hq
    by_cases Vv:j=i
    ·subst Vv;rw [Sp] at ZO;cases ZO
     exact h2 a ha h5 h0 hn
    ·exact h1.sub (hc j q (by omega) ZO a ha h5 h0 hn)
   obtain ⟨h3,h4⟩:=Nu hR f (i+1) (rX (ndA s p).1 x) h1.ri xp kT (by omega);exact ⟨h1.trans h3,h4⟩
  ·rw [ay hi];exact ⟨Mr.refl h,fun j p hj=>hc j p (by omega)⟩
theorem mL {s:Ms} {R:Int->Prop} (hR:∀p,R p->∀a∈(ndA s p).1,a.1=5->R a.2) (hS:∀a∈s.stk,a.1=5->R a.2) (hF:∀f∈s.frs,f.k=1->R f.nd):
 RI s.nds.length (eD s)/\(∀p∈(eD s).2,R p)/\(∀a∈s.stk,a.1=5->0<=a.2->a.2<s.nds.length->a.2∈(eD s).2)/\(∀f∈s.frs,f.k=1->0<=f.nd->f.nd<s.nds.length->f.nd∈(eD s).2)/\
 ∀p∈(eD s).2,∀a∈(ndA s p).1,a.1=5->0<=a.2->a.2<s.nds.length->a.2∈(eD s).2:=by
 unfold eD;obtain ⟨a1,a2⟩:=lR (n:=s.nds.length) (R:=R) s.stk.reverse _ (RI.init s.nds.length) (fun a ha=>hS a (by simpa using ha));obtain ⟨b1,b2⟩:=v9 (n:=s.nds.length) (R:=R) s.frs.reverse _ a1.ri (fun a ha=>hF a (by simpa using ha));have b3:=a1.trans b1;have hx:∀q∈(C4 s.frs.reverse (rX s.stk.reverse (List.replicate s.nds.length false,[]))).2,R q:=by
  intro q hq;obtain ⟨l,e,hl⟩:=b3.pre;rw [e] at hq;exact hl q (by simpa using hq)
 obtain ⟨c1,c2⟩:=Nu hR s.nds.length 0 _ b1.ri hx (fun j p hj=>by omega) (by omega);refine ⟨c1.ri,?_,fun a ha h5 h0 hn=>c1.sub (b1.sub (a2 a (by simpa using ha) h5 h0 hn)),fun f hf h5 h0 hn=>c1.sub (b2 f (by simpa using hf) h5 h0 hn),?_⟩
 ·intro q hq;obtain ⟨l,e,hl⟩:=c1.pre;rw [e] at hq;rcases be.1 hq with hq|hq
  ·exact hx q hq
  ·exact hl q hq
 ·intro p hp a ha h5 h0 hn;obtain ⟨j,hj,rfl⟩:=cl.1 hp;exact c2 j _ hj (aj hj) a ha h5 h0 hn
theorem wz:∀(l:List Bool) (i:Nat) (acc:List Int) (p:Int),p∈uS i l acc↔p∈acc\/∃j:Nat,p=((i+j:Nat):Int)/\l[j]?=some false
 |[],i,acc,p=>by simp [uS]
 |b::l,i,acc,p=>by
  rw [uS,wz l (i+1)];constructor
  ·rintro (h|⟨j,e,h⟩)
   ·split at h
    ·exact .inl h
    ·rcases aK.1 h with h|h
     ·exact .inr ⟨0,by simpa using h,by simp_all⟩
     ·exact .inl h
   ·exact .inr ⟨j+1,by rw [e];congr 1;omega,by simpa using h⟩
  ·rintro (h|⟨j,e,h⟩)
   ·left;split<;>simp [h]
   ·cases j with
    |zero=>simp at h;subst h;left;simp [e]
    |succ j=>exact .inr ⟨j,by rw [e];congr 1;omega,by simpa using h⟩
theorem uT:∀(l:List Bool) (i:Nat) (acc:List Int),acc.Nodup->(∀p∈acc,p<(i:Int))->(uS i l acc).Nodup
 |[],i,acc,h,_=>h
 |b::l,i,acc,h,hl=>by
  rw [uS];refine uT l (i+1) _ ?_ ?_
  ·split
   ·exact h
   ·exact dh.2 ⟨fun hm=>by have:=hl _ hm;omega,h⟩
  ·intro p hp;split at hp
   ·have:=hl p hp;omega
   ·rcases aK.1 hp with rfl|hp
    ·omega
    ·have:=hl p hp;omega
end Go.Proofs.YtnndoagpbcacdabGreatDoor
