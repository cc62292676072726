import Derived.Test.YtnndoagpbcacdabGreatDoorMM7
namespace Go.Proofs.YtnndoagpbcacdabGreatDoor
set_option maxHeartbeats 8000000
set_option maxRecDepth 100000
open Go.RowKit
theorem Tryz.infoBool:(Tryz.prog.info? 4).map (fun i=>(i.zero,i.size,i.bytes))=some (some (.bool false),1,1):=by kernel_rfl
theorem Tryz.infoIntM:(Tryz.prog.info? 3).map (fun i=>(i.zero,i.size,i.bytes))=some (some (.int .i64 0),1,8):=by kernel_rfl
def rJ (l:List Bool):List Value:=l.map Value.bool
structure SSt (w:World) (T sb:Nat) (x:List Bool×List Int) (nv rv:Value):Prop where
 blk:w.heap[sb]?=some (.cells #[nv,rv] 261 (0,0))
 lo:T<=sb
 rn:w.ownsRow T 4 1 nv x.1.length (rJ x.1)
 rr:w.ownsRow T 3 1 rv x.2.length (jp x.2)
def SP (w:World) (T sb:Nat) (x:List Bool×List Int):Prop:=∃nv rv,SSt w T sb x nv rv
theorem SSt.old {w w':World} {T sb:Nat} {x:List Bool×List Int} {nv rv:Value} (h:SSt w T sb x nv rv) (hb:Below w.heap.size w w'):SSt w' T sb x nv rv:=
 ⟨(hb.block sb (ae.1 h.blk).1).trans h.blk,h.lo,aQ h.rn hb,aQ h.rr hb⟩
theorem SP.old {w w':World} {T sb:Nat} {x:List Bool×List Int} (h:SP w T sb x) (hb:Below w.heap.size w w'):SP w' T sb x:=by
 obtain ⟨nv,rv,h⟩:=h;exact ⟨_,_,h.old hb⟩
theorem Ac (l:List Int) (j:Nat) (h:j<l.length):(jp l)[j]?=some (.int .i64 l[j]):=by simp [jp,h]
theorem CF (l:List Bool) (j:Nat) (h:j<l.length):(rJ l)[j]?=some (.bool l[j]):=by simp [rJ,h]
theorem IB (l:List Bool) (j:Nat) (b:Bool):(rJ l).set j (.bool b)=rJ (l.set j b):=by simp [rJ,List.map_set]
theorem yb (l:List Int) (x:Int):jp (l++[x])=jp l++[.int .i64 x]:=by simp [jp]
theorem MA (p:Int) (T sb:Nat) (x:List Bool×List Int) (w:World) (h:SP w T sb x) (kV:x.1.length<=1099511627770) (gS:x.2.length<=1099511627770):
 Calls Tryz.prog 196 #[.pointer (some ⟨sb,0,none⟩),.int .i64 p] w fun e w'=>(∃v,e=.returned v)/\Below T w w'/\SP w' T sb (rch p x):=by
 obtain ⟨nv,rv,h⟩:=h;obtain ⟨i,hi,fp,dQ,eF⟩:=bE Tryz.infoIntM;obtain ⟨no,nc,rfl⟩:=aU h.rn;obtain ⟨ro,rc,rfl⟩:=aU h.rr;obtain ⟨k0,k1⟩:=iM h.blk;have hsb:sb<w.heap.size:=(ae.1 h.blk).1;have jN:=h.lo;have HM:Hid _:=h;by_cases hp:p<0
 ·have hd:decide (p<0)=true:=by simpa using hp
  have HE:Hid (rch p x=x):=by show _=_;unfold rch;exact aA (.inl hp)
  rw [HE.out];clear h HE;go_enter Tryz.func196,Tryz.ntmps196
  go_wp2_with fail
  exact aS (v:=.tuple #[]) (by simp [results,Tryz.results196,go_sem]) rfl ⟨⟨_,rfl⟩,ai _ _,_,_,HM.out⟩
 ·have hd:decide (p<0)=false:=by simpa using hp
  obtain ⟨j,rfl⟩:=aZ (show 0<=p by omega);by_cases hj:x.1.length<=j
  ·have jz:decide ((x.1.length:Int)<=(j:Int))=true:=by simp;omega
   have HE:Hid (rch (j:Int) x=x):=by show _=_;unfold rch;exact aA (.inr (.inl (by omega)))
   rw [HE.out];clear h HE;go_enter Tryz.func196,Tryz.ntmps196
   go_wp2_with fail
   exact aS (v:=.tuple #[]) (by simp [results,Tryz.results196,go_sem]) rfl ⟨⟨_,rfl⟩,ai _ _,_,_,HM.out⟩
  ·have dG:j<x.1.length:=by omega
   have jz:decide ((x.1.length:Int)<=(j:Int))=false:=by simp;omega
   have mV:¬(x.1.length:Int)<=(j:Int):=by omega
   obtain ⟨q,cap',hq,yp,dX⟩:=h.rn.form (by omega);cases hq
   have n0:=aH h.rn j _ (CF x.1 j dG);have f0:=nz h.rn j;cases Wc:x.1[j] with
   |true=>
    rw [Wc] at n0;have HE:Hid (rch (j:Int) x=x):=by show _=_;unfold rch;exact aA (.inr (.inr (by simp [dG,Wc])))
    rw [HE.out];clear h HE;go_enter Tryz.func196,Tryz.ntmps196
    go_wp2_with fail
    exact aS (v:=.tuple #[]) (by simp [results,Tryz.results196,go_sem]) rfl ⟨⟨_,rfl⟩,ai _ _,_,_,HM.out⟩
   |false=>
    rw [Wc] at n0;have HE:Hid (rch (j:Int) x=(x.1.set j true,x.2++[(j:Int)])):=by show _=_;unfold rch;exact ay (by simp [dG,Wc])
    rw [HE.out];have Gv:q≠sb:=jC h.rn h.blk (by decide) q rfl;have Gx:∃cs,w.heap[q]?=some (.cells cs 4 (0,0)):=by
     rcases h.rn.2 with ⟨h0,_⟩|⟨g',cap',cur,h0,hg,hh,_⟩
     ·cases h0
     ·cases h0;exact ⟨cur,hh⟩
    obtain ⟨cs,Jb⟩:=Gx;have fR:SSt (w.setCell ⟨q,j,none⟩ (.bool true)) T sb (x.1.set j true,x.2) (.slice (some ⟨q,0,none⟩) x.1.length nc) (.slice ro x.2.length rc):=by
     refine ⟨(bi _ (fun e=>Gv e.symm)).trans h.blk,h.lo,?_,aB h.rr Jb (by decide)⟩
     show World.ownsRow _ _ _ _ _ (x.1.set j true).length (rJ (x.1.set j true))
     rw [<-IB,bJ];exact lG h.rn _ _
    have nF:Hid _:=fR;have eI:Hid (Below T w (w.setCell ⟨q,j,none⟩ (.bool true))):=(ai T w).setCell (by exact yp) _;have fH:(w.setCell ⟨q,j,none⟩ (.bool true)).heap.size=w.heap.size:=eY _ _ _;clear h HE Wc Jb fR;go_enter Tryz.func196,Tryz.ntmps196
    go_wp2_with (at_builtin;go_must (refine wpList_append_lies _ rfl _ _ _ rfl T 3 i _ 1 8 Tryz.underlying22 hi fp dQ eF rfl (by omega) (.slice ro x.2.length rc) x.2.length (jp x.2) rfl ?hown _ 1 _ [.int .i64 (j:Int)] rfl rfl ?dA ?h1 (by omega) ?kj ?cP ?cX _ rfl ?_))
    case hown=>exact World.ownsRow.alloc nF.out.rr _
    case h1=>simp [Value.oneCell']
    case kj=>unfold maxLen;omega
    case cP=>omega
    case cX=>first|omega|(simp [World.setCell];omega)
    intro g cap2 w2 b7 cx gi cV;have Av:=nF.out.old (bM _ (Obj.cells #[.int .i64 (j:Int)] 3));have bX:=br Av.rr cx (by decide) Av.blk;obtain ⟨q0,q1⟩:=iM bX;have fz:=aG w2 sb 1 _ _ bX;have age:sb<w2.heap.size:=(ae.1 bX).1;have HF:Hid (SSt (w2.setCell ⟨sb,1,none⟩ (.slice (some ⟨g,0,none⟩) (x.2.length+1) cap2)) T sb (x.1.set j true,x.2++[(j:Int)]) (.slice (some ⟨q,0,none⟩) x.1.length nc) (.slice (some ⟨g,0,none⟩) (x.2.length+1) cap2)):=by
     refine ⟨bk _ bX,jN,aB (aY Av.rr cx (by decide) Av.rn) bX (by decide),?_⟩
     show World.ownsRow _ _ _ _ _ (x.2++[(j:Int)]).length (jp (x.2++[(j:Int)]))
     rw [yb,au];exact aB b7 bX (by decide)
    have gj:Hid (Below T w (w2.setCell ⟨sb,1,none⟩ (.slice (some ⟨g,0,none⟩) (x.2.length+1) cap2))):=(((eI.out.alloc (by rw [fH];omega) _).grown cx (by simp [World.setCell];omega) (fun k hk=>(nF.out.rr.lt k hk).1))).setCell (by exact jN) _;clear b7 cx gi cV Av bX k0 k1 n0 f0;go_wp2_with fail
    exact bH (v:=.tuple #[]) (by simp [results,Tryz.results196,go_sem]) rfl ⟨⟨_,rfl⟩,gj.out,_,_,HF.out⟩
theorem xY (l:Ln) (v:Value) (Bx T sb:Nat) (x:List Bool×List Int) (w:World) (h:SP w T sb x) (hv:w.ownsRow Bx 90 2 v l.length (acs l)) (Us:∀k,v.ownBlock=some k->k<T) (n:Nat) (Sk:RI n x) (hn:n<=1099511627770) (hl:l.length<=1099511627770):
 Calls Tryz.prog 195 #[.pointer (some ⟨sb,0,none⟩),v] w fun e w'=>(∃v,e=.returned v)/\Below T w w'/\SP w' T sb (rX l x):=by
 obtain ⟨vo,vc,rfl⟩:=aU hv;have HV:Hid (∀w',Below T w w'->w'.ownsRow Bx 90 2 (.slice vo l.length vc) l.length (acs l)):=fun w' hb=>cM hv hb Us
 have HM:Hid (SP w T sb x):=h;have uA:Hid (RI n x):=Sk;have mZ:T<=w.heap.size:=by obtain ⟨_,_,h⟩:=h;have:=h.lo;have:=(ae.1 h.blk).1;omega
 clear h hv Us Sk;go_enter Tryz.func195,Tryz.ntmps195
 go_wp2_with fail
 go_loopw [8] (fun y wr=>∃(j:Nat) (z:List Bool×List Int),j<=l.length/\y=.int .i64 j/\Hid (Below T w wr)/\Hid (SP wr T sb z)/\Hid (RI n z)/\Hid (rX (l.drop j) z=rX l x)) (fun y _=>l.length-(intOf y).toNat)
 case atStart=>exact ⟨0,x,aF _,rfl,ai _ _,HM.out,uA.out,rfl⟩
 case round=>
  clear HM uA;obtain ⟨j,z,hj,rfl,HB,HM,uA,HE⟩:=hrel;have iG:=HB.out.size;by_cases dG:j<l.length
  ·have bW:=HV.out wr HB.out;obtain ⟨q,cap',hq,yp,dX⟩:=bW.form (by omega);cases hq
   have k0:=aH bW (j*2) _ (oN l j dG).1;have k1:=aH bW (j*2+1) _ (oN l j dG).2;have oQ:Hid (rX (l.drop (j+1)) (if l[j].1=5 then rch l[j].2 z else z)=rX l x):=by rw [<-HE.out,aW dG];rfl
   clear bW;generalize l[j]=a at*;obtain ⟨a1,a2⟩:=a;simp only at*;have dQ:z.1.length<=1099511627770:=by rw [uA.out.len];exact hn
   have eF:z.2.length<=1099511627770:=aJ uA.out.le hn;by_cases h5:a1=5
   ·subst h5;rw [aA rfl] at oQ;have HC:Hid _:=MA a2 T sb z _ (SP.old HM.out (bM wr (Obj.cells #[.int .i64 5,.int .i64 a2] 90))) dQ eF;go_wp2_with fail
    refine (show Calls _ _ _ _ _ from HC.out).mono ?_
    rintro e w1 ⟨⟨v1,rfl⟩,bB,fR⟩
    have nF:Hid _:=fR;have eI:Hid (Below T w w1):=(HB.out.alloc (by omega) _).trans bB;clear HC fR bB k0 k1;go_wp2_with fail
    go_roundw
    case rel=>exact ⟨j+1,_,dG,by go_num,eI.out,nF.out,(uA.out.rch a2).1,oQ.out⟩
    case measure=>simp [intOf];omega
   ·have hd:(a1==5)=false:=by simpa using h5
    rw [ay h5] at oQ;go_wp2_with fail
    go_roundw
    case rel=>exact ⟨j+1,z,dG,by go_num,HB.out.alloc (by omega) _,SP.old HM.out (bM _ _),uA.out,oQ.out⟩
    case measure=>simp [intOf];omega
  ·have hd:decide ((j:Int)<(l.length:Int))=false:=by simp;omega
   have jz:¬(j:Int)<(l.length:Int):=by omega
   have HF:Hid (z=rX l x):=by rw [<-HE.out,show l.drop j=[] from bj (by omega)];rfl
   go_wp2_with fail
   exact bH (v:=.tuple #[]) (by simp [results,Tryz.results195,go_sem]) rfl ⟨⟨_,rfl⟩,HB.out,by rw [<-HF.out];exact HM.out⟩
theorem TV (B mb:Nat) (fv:Value) (c:Cf) (s:Ms) (K:Nat->Prop) (w:World) (h:MP w B mb fv c s K) (kV:s.nds.length<=1099511627770) (gS:s.fre.length<=1099511627770) (Cj:0<=c.hp) (Kz:c.hp<=1099511627770):
 Calls Tryz.prog 135 #[.pointer (some ⟨mb,0,none⟩)] w fun e w'=>e=.returned (.int .i64 (lD c s))/\∃m,w'=w.drewN m:=by
 obtain ⟨sv,rv,nv,ev,vs,h⟩:=h;obtain ⟨no,nc,rfl⟩:=aU h.rn;obtain ⟨eo,ec,rfl⟩:=aU h.re;have c2:=h.c2;have c5:=h.c5;have c6:=h.c6;have pK:=h.lt;unfold lD;clear h;generalize c.hp=hp at*;have Et:=zx (hp-(s.nds.length:Int)) (by omega) (by omega);have lw:=zx (hp-(s.nds.length:Int)+(s.fre.length:Int)) (by omega) (by omega);go_enter Tryz.func135,Tryz.ntmps135
 go_wp2_with fail
 go_quiet (fail)
 go_wp2_with fail
 go_ret
 exact ⟨rfl,_,rfl⟩
theorem yX (l:List Fr) (j:Nat) (h:j<l.length) (i:Nat) (u:Value) (hu:(rG l[j])[i]?=some u) (hi:i<5):(fcs l)[j*5+i]?=some u:=by
 induction l generalizing j with
 |nil=>simp at h
 |cons a l ih=>
  cases j with
  |zero=>
   rw [show (0:Nat)*5+i=i by omega];show (rG a++fcs l)[i]?=some u
   rw [aI (by simp [rG];omega)];exact hu
  |succ j=>
   show (rG a++fcs l)[(j+1)*5+i]?=some u
   rw [aC (by simp [rG];omega)];rw [show (j+1)*5+i-(rG a).length=j*5+i by simp [rG];omega];exact ih j (by simpa using h) (by simpa using hu)
theorem Db (n:Nat):(madeCells #[Value.bool false] n).toList=rJ (List.replicate n false):=by
 rw [toList_madeCells_one];simp [rJ]
theorem MSt.node2 {w:World} {B mb T:Nat} {fv:Value} {c:Cf} {s:Ms} {K:Nat->Prop} {sv rv nv ev:Value} {vs:List Value} (h:MSt w B mb fv c s K sv rv nv ev vs) (hT:MLt T mb sv rv nv ev vs) (j:Nat) (hj:j<s.nds.length):
 ∃q nc vo vc,w.cell? ⟨mb,5,none⟩=some (.slice (some ⟨q,0,none⟩) s.nds.length nc)/\q<w.heap.size/\s.nds.length<=nc/\nc<=9223372036854775807/\w.cell? ⟨q,j*2,none⟩=some (.slice vo s.nds[j].1.length vc)/\w.cell? ⟨q,j*2+1,none⟩=some (.bool s.nds[j].2)/\
  w.ownsRow B 90 2 (.slice vo s.nds[j].1.length vc) s.nds[j].1.length (acs s.nds[j].1)/\∀k,(Value.slice vo s.nds[j].1.length vc).ownBlock=some k->k<T:=by
 obtain ⟨q,nc,rfl,yp,dX⟩:=h.rn.form (by omega);obtain ⟨v,hv,bW,Ki⟩:=h.rows j hj;obtain ⟨n0,n1⟩:=pz vs s.nds j v _ hv (aj hj);obtain ⟨vo,vc,rfl⟩:=aU bW;have jb:=pu h.rn;exact ⟨q,nc,vo,vc,h.c5,dX,jb.1,jb.2,aH h.rn _ _ n0,aH h.rn _ _ n1,bW,hT.v _ (bm hv)⟩
theorem Oz (B mb:Nat) (fv:Value) (c:Cf) (s:Ms) (K:Nat->Prop) (sv rv nv ev:Value) (vs:List Value) (w:World) (h:MSt w B mb fv c s K sv rv nv ev vs) (kV:s.nds.length<=1099511627770) (gS:s.stk.length<=1099511627770) (zo:s.frs.length<=1099511627770) (yC:∀n∈s.nds,n.1.length<=1099511627770):
 Calls Tryz.prog 171 #[.pointer (some ⟨mb,0,none⟩)] w fun e w'=>∃v,e=.returned v/\Below w.heap.size w w'/\w'.ownsRow w.heap.size 4 1 v s.nds.length (rJ (eD s).1):=by
 obtain ⟨ib,Dv,jZ,bB,bX⟩:=bE Tryz.infoBool;have HT:Hid (MLt w.heap.size mb sv rv nv ev vs):=h.mlt;have HM:Hid (∀w',Below w.heap.size w w'->MSt w' B mb fv c s K sv rv nv ev vs):=fun w' hb=>h.old hb
 obtain ⟨no,nc,rfl⟩:=aU h.rn;obtain ⟨so,sc,rfl⟩:=aU h.rs;obtain ⟨ro,rc,rfl⟩:=aU h.rr;have c5:=h.c5;have pK:=h.lt;clear h;go_enter Tryz.func171,Tryz.ntmps171
 go_wp2_with (at_make;go_must (refine fI _ rfl _ _ 238 rfl w.heap.size 4 ib _ 1 Tryz.underlying238 Dv jZ bB _ _ _ _ s.nds.length rfl rfl (by simp) (by simp) ?mb ?ml ?mbase ?_))
 case mb=>rw [bX];omega
 case ml=>unfold maxLen;omega
 case mbase=>omega
 intro w1 dR kE;have eI:Hid (Below w.heap.size w w1):=(ai _ _).grown (row:=none) kE (ah _) (fun k hk=>by cases hk);have fH:=eI.out.size;have lN:Hid (w1.ownsRow w.heap.size 4 1 (.slice (some ⟨w.heap.size,0,none⟩) s.nds.length s.nds.length) s.nds.length (rJ (List.replicate s.nds.length false))):=by
  have e:(madeCells #[Value.bool false] s.nds.length).toList=rJ (List.replicate s.nds.length false):=Db _;rw [<-e];exact dR
 clear dR kE;have HA:Hid _:=bM w1 (Obj.cells #[.slice (some ⟨w.heap.size,0,none⟩) s.nds.length s.nds.length,.slice none 0 0] 261);have gj:Hid (Below w.heap.size w (w1.alloc (Obj.cells #[.slice (some ⟨w.heap.size,0,none⟩) s.nds.length s.nds.length,.slice none 0 0] 261))):=eI.out.trans (HA.out.mono fH);have rL:Hid (SP (w1.alloc (Obj.cells #[.slice (some ⟨w.heap.size,0,none⟩) s.nds.length s.nds.length,.slice none 0 0] 261)) w.heap.size w1.heap.size (List.replicate s.nds.length false,[])):=
  ⟨_,_,az _ _,fH,by simpa using aQ lN.out HA.out,aM _ _ _ _⟩
 have gK:=HM.out _ gj.out;have RS:Hid (RI s.nds.length (List.replicate s.nds.length false,[])):=RI.init _;have HC:Hid _:=xY s.stk.reverse (.slice so s.stk.length sc) B w.heap.size w1.heap.size _ _ rL.out (by rw [cB];exact gK.rs) HT.out.s _ RS.out kV (by rw [cB];exact gS);have c3:=gK.c3;have Kq:=gK.lt;clear gK c5;go_wp2_with fail
 refine (show Calls _ _ _ _ _ from HC.out).mono ?_
 rintro e w3 ⟨⟨v3,rfl⟩,df,Q7⟩
 have lu:Hid (Below w.heap.size w w3):=gj.out.trans df;have uc:Hid _:=Q7;have Xk:Hid (RI s.nds.length (rX s.stk.reverse (List.replicate s.nds.length false,[]))):=((lR (R:=fun _=>True) s.stk.reverse _ RS.out (fun _ _ _=>trivial)).1).ri;have HN:Hid (eD s=bfs s s.nds.length 0 (C4 s.frs.reverse (rX s.stk.reverse (List.replicate s.nds.length false,[])))):=rfl;generalize Sh:rX s.stk.reverse (List.replicate s.nds.length false,[])=x3 at*;clear Sh HC df Q7 RS rL gj HA lN eI c3 Kq;have mt:=HM.out _ lu.out;have c4:=mt.c4;have Z9:=mt.lt;clear mt;have AV:w1.heap.size<w3.heap.size:=by obtain ⟨_,_,h⟩:=uc.out;exact (ae.1 h.blk).1
 go_wp2_with fail
 clear c4 Z9;generalize hXF:C4 s.frs.reverse x3=XF at*;have HXF:Hid (C4 s.frs.reverse x3=XF):=hXF;clear hXF
 go_loopw [25] (fun y wr=>∃(j:Nat) (z:List Bool×List Int),j<=s.frs.length/\y=.int .i64 j/\w1.heap.size<wr.heap.size/\Hid (Below w.heap.size w wr)/\Hid (SP wr w.heap.size w1.heap.size z)/\Hid (RI s.nds.length z)/\Hid (C4 (s.frs.reverse.drop j) z=XF)) (fun y _=>s.frs.length-(intOf y).toNat)
 case atStart=>exact ⟨0,x3,aF _,rfl,AV,lu.out,uc.out,Xk.out,HXF.out⟩
 case round=>
  clear uc Xk HXF lu AV;obtain ⟨j,z,hj,rfl,AV,HB,HS,uA,HE⟩:=hrel;have iG:=HB.out.size;by_cases dG:j<s.frs.length
  ·have hm:=HM.out _ HB.out;obtain ⟨q,cap',hq,yp,dX⟩:=hm.rr.form (by omega);cases hq
   have Su:j<s.frs.reverse.length:=by rw [cB];exact dG
   have k0:=aH hm.rr (j*5+0) _ (yX _ j Su 0 _ rfl (by omega));have k1:=aH hm.rr (j*5+1) _ (yX _ j Su 1 _ rfl (by omega));have k2:=aH hm.rr (j*5+2) _ (yX _ j Su 2 _ rfl (by omega));have k3:=aH hm.rr (j*5+3) _ (yX _ j Su 3 _ rfl (by omega));have k4:=aH hm.rr (j*5+4) _ (yX _ j Su 4 _ rfl (by omega));rw [cy] at k0;have oQ:Hid (C4 (s.frs.reverse.drop (j+1)) (if s.frs.reverse[j].k=1 then rch s.frs.reverse[j].nd z else z)=XF):=by rw [<-HE.out,aW Su];rfl
   clear hm;generalize s.frs.reverse[j]=f at*;obtain ⟨fk,fh,fnd,fpr,fnu⟩:=f;simp only at*;have dQ:z.1.length<=1099511627770:=by rw [uA.out.len];exact kV
   have eF:z.2.length<=1099511627770:=aJ uA.out.le kV;by_cases h1:fk=1
   ·subst h1;rw [aA rfl] at oQ;have HC:Hid _:=MA fnd w.heap.size w1.heap.size z _ (SP.old HS.out (bM wr (Obj.cells #[.int .i64 1,.int .i64 (fh:Int),.int .i64 fnd,.int .i64 fpr,.int .i64 fnu] 164))) dQ eF;go_wp2_with fail
    refine (show Calls _ _ _ _ _ from HC.out).mono ?_
    rintro e w4 ⟨⟨v4,rfl⟩,dU,Q6⟩
    have HS4:Hid _:=Q6;have ni:Hid (Below w.heap.size w w4):=(HB.out.alloc iG _).trans dU;have qD:=dU.size;have Q5:w1.heap.size<w4.heap.size:=by simp at qD;omega
    clear HC Q6 dU k0 k1 k2 k3 k4 qD;go_wp2_with fail
    go_roundw
    case rel=>exact ⟨j+1,_,dG,by go_num,Q5,ni.out,HS4.out,(uA.out.rch fnd).1,oQ.out⟩
    case measure=>simp [intOf];omega
   ·have hd:(fk==1)=false:=by simpa using h1
    rw [ay h1] at oQ;go_wp2_with fail
    go_roundw
    case rel=>exact ⟨j+1,z,dG,by go_num,by simp;omega,HB.out.alloc iG _,SP.old HS.out (bM _ _),uA.out,oQ.out⟩
    case measure=>simp [intOf];omega
  ·have hd:decide ((j:Int)<(s.frs.length:Int))=false:=by simp;omega
   have jz:¬(j:Int)<(s.frs.length:Int):=by omega
   have HF:Hid (z=XF):=by rw [<-HE.out,show s.frs.reverse.drop j=[] from bj (by rw [cB];omega)];rfl
   have LW:Hid (RI s.nds.length XF):=by rw [<-HF.out];exact uA.out
   have rL:Hid (SP wr w.heap.size w1.heap.size XF):=by rw [<-HF.out];exact HS.out
   clear HS uA HE HF;go_wp2_with fail
   clear hd jz hj dG
   go_loopw [6] (fun y wx=>∃(i:Nat) (z:List Bool×List Int),i<=z.2.length/\y=.int .i64 i/\w1.heap.size<wx.heap.size/\Hid (Below w.heap.size w wx)/\Hid (SP wx w.heap.size w1.heap.size z)/\Hid (RI s.nds.length z)/\Hid (bfs s (s.nds.length-i) i z=eD s)) (fun y _=>s.nds.length+1-(intOf y).toNat)
   case atStart=>exact ⟨0,XF,aF _,rfl,AV,HB.out,rL.out,LW.out,by rw [HN.out];rfl⟩
   case round=>
    clear rL LW HB AV iG;obtain ⟨i,z,hi,rfl,AV,HB,HS,uA,HE⟩:=hrel;have iG:=HB.out.size;have X2:=uA.out.le;obtain ⟨nv2,rv2,Ew⟩:=HS.out;obtain ⟨no2,nc2,rfl⟩:=aU Ew.rn;obtain ⟨ro2,rc2,rfl⟩:=aU Ew.rr;obtain ⟨b0,b1⟩:=iM Ew.blk;by_cases ly:i<z.2.length
    ·obtain ⟨q2,cap2,r9,agw,adZ⟩:=Ew.rr.form (by omega);cases r9
     have n0:=aH Ew.rr i _ (Ac z.2 i ly);have mP:=uA.out.val (aE ly);have oQ:Hid (bfs s (s.nds.length-(i+1)) (i+1) (rX (ndA s z.2[i]).1 z)=eD s):=by
      rw [<-HE.out,show s.nds.length-i=(s.nds.length-(i+1))+1 by omega,bfs,aA ly];simp only [aj ly,b6,aA mP];rfl
     clear Ew;generalize z.2[i]=p at*;obtain ⟨j2,rfl⟩:=aZ mP.1;have nV:j2<s.nds.length:=by omega
     have lx:ndA s (j2:Int)=s.nds[j2]:=by unfold ndA;simp [nV]
     rw [lx] at oQ;have yz:=yC s.nds[j2] (aE nV);have Z6:=HM.out _ HB.out;obtain ⟨q,nc',vo,vc,c5,hq,GK,P3,m0,m1,bW,Zn⟩:=MSt.node2 Z6 HT.out j2 nV;have agK:=Z6.lt;have Us:∀k,(Value.slice vo s.nds[j2].1.length vc).ownBlock=some k->k<w.heap.size:=Zn;have HC:Hid _:=xY s.nds[j2].1 (.slice vo s.nds[j2].1.length vc) B w.heap.size w1.heap.size z wr HS.out bW Us _ uA.out kV yz;have mu:decide ((0:Int)<=(j2:Int))=true:=by simp
     have jz:decide ((j2:Int)<(s.nds.length:Int))=true:=by simp;omega
     have LW:Hid (RI s.nds.length (rX s.nds[j2].1 z)):=((lR (R:=fun _=>True) s.nds[j2].1 _ uA.out (fun _ _ _=>trivial)).1).ri;have i5:Hid (i+1<=(rX s.nds[j2].1 z).2.length):=by
      obtain ⟨l,e,_⟩:=((lR (R:=fun _=>True) s.nds[j2].1 _ uA.out (fun _ _ _=>trivial)).1).pre;show _<=_
      rw [e,au];omega
     clear Z6 bW Us lx mP;go_wp2_with fail
     refine (show Calls _ _ _ _ _ from HC.out).mono ?_
     rintro e w4 ⟨⟨v4,rfl⟩,dU,Q6⟩
     have HS4:Hid _:=Q6;have ni:Hid (Below w.heap.size w w4):=HB.out.trans dU;have qD:=dU.size;have Q5:w1.heap.size<w4.heap.size:=by omega
     clear HC Q6 dU qD m0 m1 c5 n0 b0 b1;go_wp2_with fail
     go_roundw
     case rel=>exact ⟨i+1,_,i5.out,by go_num,Q5,ni.out,HS4.out,LW.out,oQ.out⟩
     case measure=>simp [intOf];omega
    ·have hd:decide ((i:Int)<(z.2.length:Int))=false:=by simp;omega
     have jz:¬(i:Int)<(z.2.length:Int):=by omega
     have HF:Hid (z=eD s):=by
      rw [<-HE.out];cases s.nds.length-i with
      |zero=>rfl
      |succ m=>show z=_;rw [bfs,ay ly]
     have HL:Hid (z.1.length=s.nds.length):=uA.out.len;have HRN:Hid _:=Ew.rn;clear Ew;go_wp2_with fail
     go_ret
     exact ⟨_,rfl,HB.out,by rw [<-HF.out,<-HL.out];exact HRN.out⟩
section
variable {w w' w2:World} {B mb T:Nat} {fv:Value} {c:Cf} {s:Ms} {K:Nat->Prop} {sv rv nv ev:Value} {vs:List Value}
theorem MSt.nilE (h:MSt w B mb fv c s K sv rv nv ev vs):MSt (w.setCell ⟨mb,6,none⟩ (.slice none 0 0)) B mb fv c {s with fre:=[]} K sv rv nv (.slice none 0 0) vs:=
 ⟨bk _ h.blk,h.lo,aB h.rs h.blk (by decide),aB h.rr h.blk (by decide),aB h.rn h.blk (by decide),aM _ _ _ _,h.vl,
  fun j hj=>by obtain ⟨v,h1,h2,h3⟩:=h.rows j hj;exact ⟨v,h1,aB h2 h.blk (by decide),h3⟩,fun k hk=>by have:=h.klt k hk;rw [eY];exact this,fun k hk=>by obtain ⟨a,b,d,e,_⟩:=h.sep k hk;exact ⟨a,b,d,e,by simp [Value.ownBlock]⟩⟩
theorem MSt.grownI {Bx n:Nat} {pv:Value} {ys:List Value} (h:MSt w B mb fv c s K sv rv nv ev vs) (hr:w.ownsRow Bx 3 1 pv n ys) (hg:w.grownBy w2 pv.ownBlock) (dI:∀k,ev.ownBlock=some k->pv.ownBlock≠some k):MSt w2 B mb fv c s K sv rv nv ev vs:=by
 refine ⟨br hr hg (by decide) h.blk,h.lo,aY hr hg (by decide) h.rs,aY hr hg (by decide) h.rr,aY hr hg (by decide) h.rn,h.re.kept hg ?_,h.vl,fun j hj=>?_,fun k hk=>bq (h.klt k hk) hg.size,h.sep⟩
 ·cases hq:ev.ownBlock with
  |none=>exact .inl rfl
  |some k=>right;exact fun e=>dI k hq e.symm
 ·obtain ⟨v,h1,h2,h3⟩:=h.rows j hj;exact ⟨v,h1,aY hr hg (by decide) h2,h3⟩
end
theorem De (B mb:Nat) (fv:Value) (c:Cf) (s:Ms) (K:Nat->Prop) (w:World) (h:MP w B mb fv c s K) (kV:s.nds.length<=1099511627770) (gS:s.stk.length<=1099511627770) (zo:s.frs.length<=1099511627770) (yC:∀n∈s.nds,n.1.length<=1099511627770):
 Calls Tryz.prog 136 #[.pointer (some ⟨mb,0,none⟩)] w fun e w'=>(∃v,e=.returned v)/\Below B w w'/\dm K w w'/\MP w' B mb fv c (lL s) K:=by
 obtain ⟨sv,rv,nv,ev,vs,h⟩:=h;obtain ⟨ii,hi,fp,dQ,eF⟩:=bE Tryz.infoIntM;have pS:B<=w.heap.size:=by have:=h.lt;have:=h.lo;omega
 have jN:=h.lo;have HC:Hid _:=Oz B mb fv c s K sv rv nv ev vs w h kV gS zo yC;have HT:Hid _:=h.mlt;have HM:Hid _:=h;clear h;go_enter Tryz.func136,Tryz.ntmps136
 go_wp2_with fail
 refine (show Calls _ _ _ _ _ from HC.out).mono ?_
 rintro e w1 ⟨v,rfl,bB,pG⟩
 clear HC;have fR:=(HM.out.old bB).fromT HT.out;have HV:Hid (∀k,v.ownBlock=some k->(K k\/(w.heap.size<=k/\k<w1.heap.size))):=fun k hk=>.inr (pG.lt k hk)
 obtain ⟨vo,vc,rfl⟩:=aU pG;have lN:Hid _:=pG;have fH:=bB.size;have c6:=fR.c6;have f6:=fR.fz 6;have pK:=fR.lt;have nF:Hid (MP (w1.setCell ⟨mb,6,none⟩ (.slice none 0 0)) B mb fv c {s with fre:=[]} (fun k=>K k\/(w.heap.size<=k/\k<w1.heap.size))):=⟨_,_,_,_,_,fR.nilE⟩;have eI:Hid (Below B w (w1.setCell ⟨mb,6,none⟩ (.slice none 0 0))):=(bB.mono pS).setCell (by exact jN) _;have mr:Hid (dm (fun k=>K k\/(w.heap.size<=k/\k<w1.heap.size)) w1 (w1.setCell ⟨mb,6,none⟩ (.slice none 0 0))):=dm.set fR.noK;have El:Hid (dm K w w1):=dm.old bB;have Bo:Hid ((eD s).1.length=s.nds.length):=by
  obtain ⟨h,_⟩:=mL (s:=s) (R:=fun _=>True) (fun _ _ _ _ _=>trivial) (fun _ _ _=>trivial) (fun _ _ _=>trivial);exact h.len
 clear fR pG bB HM HT;go_wp2_with fail
 clear c6 f6;have HFE:Hid (lL s={s with fre:=uS 0 (eD s).1 []}):=rfl;generalize hL:(eD s).1=L at*;clear hL
 go_loopw [12] (fun y wr=>∃(i:Nat) (F:List Int),i<=s.nds.length/\F.length<=i/\y=.int .i64 i/\mb<wr.heap.size/\w1.heap.size<=wr.heap.size/\Hid (Below B w wr)/\Hid (dm (fun k=>K k\/(w.heap.size<=k/\k<w1.heap.size)) w1 wr)/\Hid (MP wr B mb fv c {s with fre:=F} (fun k=>K k\/(w.heap.size<=k/\k<w1.heap.size)))/\Hid (uS i (L.drop i) F=uS 0 L [])) (fun y _=>s.nds.length-(intOf y).toNat)
 case atStart=>exact ⟨0,[],aF _,ah _,rfl,by rw [eY];exact pK,by rw [eY];exact ah _,eI.out,mr.out,nF.out,rfl⟩
 case round=>
  clear eI mr nF pK;obtain ⟨i,F,pL,hF,rfl,pK,iG,HB,HK,HM,HE⟩:=hrel;by_cases ly:i<s.nds.length
  ·have bW:=j8 lN.out HK.out HV.out;obtain ⟨q,cap',hq,yp,dX⟩:=bW.form (by omega);cases hq
   have hiL:i<L.length:=by rw [Bo.out];exact ly
   have n0:=aH bW i _ (CF L i hiL);have oQ:Hid (uS (i+1) (L.drop (i+1)) (if L[i] then F else (i:Int)::F)=uS 0 L []):=by rw [<-HE.out,aW hiL];rfl
   clear bW;cases hb:L[i] with
   |true=>
    rw [hb] at n0 oQ;clear hb;go_wp2_with fail
    go_roundw
    case rel=>exact ⟨i+1,F,ly,by omega,by go_num,pK,iG,HB.out,HK.out,HM.out,oQ.out⟩
    case measure=>simp [intOf];omega
   |false=>
    rw [hb] at n0 oQ;clear hb;obtain ⟨sv,rv,nv,ev,vs,hm⟩:=HM.out;obtain ⟨eo,ec,rfl⟩:=aU hm.re;have c6:=hm.c6;have HMX:Hid _:=hm;simp only at c6;clear hm;go_wp2_with (at_builtin;go_must (refine wpList_append_lies _ rfl _ _ _ rfl B 3 ii _ 1 8 Tryz.underlying22 hi fp dQ eF rfl (by omega) (.slice eo F.length ec) F.length (jp F.reverse) rfl ?hown _ 1 _ [.int .i64 (i:Int)] rfl rfl ?dA ?h1 (by omega) ?kj ?cP ?cX _ rfl ?_))
    case hown=>exact World.ownsRow.alloc HMX.out.re _
    try case dA=>exact World.news_of_block (az wr _)
    case h1=>simp [Value.oneCell']
    case kj=>unfold maxLen;omega
    case cP=>omega
    case cX=>first|omega|(simp;omega)
    intro g cap2 w2 b7 cx gi cV;have Av:=HMX.out.old (bM _ (Obj.cells #[.int .i64 (i:Int)] 3));have HP:Hid _:=MSt.pushE (x:=(i:Int)) Av b7 cx (by rw [bT];exact gi);have bX:=br Av.re cx (by decide) Av.blk;have k6:=al w2 mb 6 _ _ _ bX;simp only [ax,ap,aq] at k6;have f6:=aG w2 mb 6 _ _ bX;have Kq:mb<w2.heap.size:=(ae.1 bX).1;have k9:wr.heap.size<=w2.heap.size:=by have:=cx.size;simp at this;omega
    have SS:B<=wr.heap.size:=by omega
    clear b7 cx gi cV Av bX c6;go_wp2_with fail
    go_roundw
    case rel=>exact ⟨i+1,(i:Int)::F,ly,by simp;omega,by go_num,by rw [eY];exact Kq,by rw [eY];omega,(HB.out.alloc SS _).trans HP.out.1,(HK.out.trans (dm.old (bM _ _)) iG).trans HP.out.2.1 (by simp;omega),⟨_,_,_,_,_,HP.out.2.2⟩,oQ.out⟩
    case measure=>simp [intOf];omega
  ·have hd:decide ((i:Int)<(s.nds.length:Int))=false:=by simp;omega
   have jz:¬(i:Int)<(s.nds.length:Int):=by omega
   have HF:Hid (F=uS 0 L []):=by rw [<-HE.out,show L.drop i=[] from bj (by rw [Bo.out];omega)];rfl
   go_wp2_with fail
   exact bH (v:=.tuple #[]) (by simp [results,Tryz.results136,go_sem]) rfl ⟨⟨_,rfl⟩,HB.out,El.out.trans (HK.out.less fun k hk=>.inl hk) fH,by rw [HFE.out,<-HF.out];exact MP.less HM.out fun k hk=>.inl hk⟩
theorem FZ (n:Int) (B mb:Nat) (fv:Value) (c:Cf) (s:Ms) (K:Nat->Prop) (w:World) (h:MP w B mb fv c s K) (kV:s.nds.length<=1099511627770) (gS:s.stk.length<=1099511627770) (zo:s.frs.length<=1099511627770) (yC:∀n∈s.nds,n.1.length<=1099511627770) (Qc:s.fre.length<=1099511627770) (hl6:(lL s).fre.length<=1099511627770) (Cj:0<=c.hp) (Kz:c.hp<=1099511627770):
 Calls Tryz.prog 97 #[.pointer (some ⟨mb,0,none⟩),.int .i64 n] w fun e w'=>e=.returned (.bool (decide (n<=lD c (gh c n s))))/\Below B w w'/\dm K w w'/\MP w' B mb fv c (gh c n s) K:=by
 have kp:Hid _:=TV B mb fv c s K w h kV Qc Cj Kz;have HM:Hid (∀m,MP (w.drewN m) B mb fv c s K):=fun m=>h.old (bY (ai _ _) m)
 by_cases hr:lD c s<n
 ·have hd:decide (lD c s<n)=true:=by simpa using hr
  have HE:Hid (gh c n s=lL s):=aA hr;rw [HE.out];have fE:Hid (∀m,Calls Tryz.prog 136 #[.pointer (some ⟨mb,0,none⟩)] (w.drewN m) fun e w'=>(∃v,e=.returned v)/\Below B (w.drewN m) w'/\dm K (w.drewN m) w'/\MP w' B mb fv c (lL s) K):=fun m=>De B mb fv c s K _ (HM.out m) kV gS zo yC
  generalize qU:lD c s=rs at*;clear h HE qU;go_enter Tryz.func97,Tryz.ntmps97
  go_wp2_with fail
  refine (show Calls _ _ _ _ _ from kp.out).mono ?_
  rintro e w1 ⟨rfl,m,rfl⟩
  clear kp;go_wp2_with fail
  refine (show Calls _ _ _ _ _ from fE.out m).mono ?_
  rintro e w2 ⟨⟨v2,rfl⟩,bX,eh,gK⟩
  have ix:Hid _:=TV B mb fv c (lL s) K w2 gK kV hl6 Cj Kz;have gj:Hid (Below B w w2):=(bY (ai B w) m).trans bX;have uC:Hid (dm K w w2):=(dm.old (bY (ai _ w) m)).trans eh (ah _);have oP:Hid (∀m,MP (w2.drewN m) B mb fv c (lL s) K):=fun m=>gK.old (bY (ai _ _) m)
  clear fE bX eh gK;go_wp2_with fail
  refine (show Calls _ _ _ _ _ from ix.out).mono ?_
  rintro e w3 ⟨rfl,m3,rfl⟩
  clear ix;go_wp2_with fail
  go_ret
  exact ⟨rfl,bY gj.out m3,uC.out.trans (dm.old (bY (ai _ w2) m3)) gj.out.size,oP.out m3⟩
 ·have hd:decide (lD c s<n)=false:=by simpa using hr
  have HE:Hid (gh c n s=s):=ay hr;rw [HE.out];generalize qU:lD c s=rs at*;clear h HE qU;go_enter Tryz.func97,Tryz.ntmps97
  go_wp2_with fail
  refine (show Calls _ _ _ _ _ from kp.out).mono ?_
  rintro e w1 ⟨rfl,m,rfl⟩
  clear kp;have mV:decide (n<=rs)=true:=by simp;omega
  go_wp2_with fail
  go_ret
  exact ⟨by rw [mV];rfl,bY (ai B w) m,dm.old (bY (ai _ w) m),HM.out m⟩
theorem Dc (B mb:Nat) (fv:Value) (c:Cf) (s:Ms) (K:Nat->Prop) (sv rv nv ev:Value) (vs:List Value) (w:World) (h:MSt w B mb fv c s K sv rv nv ev vs) (kV:s.nds.length<=1099511627770) (gS:s.fre.length<=1099511627770):
 Calls Tryz.prog 137 #[.pointer (some ⟨mb,0,none⟩)] w fun e w'=>e=.returned (.int .i64 (mG s))/\Below B w w'/\dm K w w'/\∃nv' ev' vs',MSt w' B mb fv c (jO s) K sv rv nv' ev' vs'/\ev'.ownBlock=ev.ownBlock:=by
 obtain ⟨eo,ec,rfl⟩:=aU h.re;have c6:=h.c6;have pK:=h.lt;have jN:=h.lo;cases hf:s.fre with
 |nil=>
  obtain ⟨ii,hi,fp,dQ,eF⟩:=bE Tryz.infoNode;obtain ⟨no,nc,rfl⟩:=aU h.rn;have Xo:Hid (mG s=s.nds.length):=by show _=_;unfold mG;rw [hf]
  have HE:Hid (jO s={s with nds:=s.nds++[([],false)]}):=by show _=_;unfold jO;rw [hf]
  rw [Xo.out,HE.out];have HM:Hid _:=h;have c5:=h.c5;rw [hf] at c6;simp only [bp] at c6;have HL:Hid (s.fre.length=0):=by rw [hf];rfl
  clear h hf HE Xo;go_enter Tryz.func137,Tryz.ntmps137
  go_wp2_with (at_builtin;go_must (refine wpList_append_lies _ rfl _ _ _ rfl B 161 ii _ 2 32 Tryz.underlying85 hi fp dQ eF rfl (by omega) (.slice no s.nds.length nc) s.nds.length (ncs vs s.nds) rfl ?hown _ 1 _ [.slice none 0 0,.bool false] rfl rfl ?dA ?h1 (by omega) ?kj ?cP ?cX _ rfl ?_))
  case hown=>exact World.ownsRow.alloc HM.out.rn _
  try case dA=>exact World.news_of_block (az w _)
  case h1=>simp [Value.oneCell']
  case kj=>unfold maxLen;omega
  case cP=>omega
  case cX=>first|omega|(simp;omega)
  intro g cap2 w2 b7 cx gi cV;have Av:=HM.out.old (bM _ (Obj.cells #[.slice none 0 0,.bool false] 161));have HP:Hid _:=MSt.pushN Av b7 cx (by rw [bT];exact gi);have bX:=br Av.rn cx (by decide) Av.blk;have k6:=al w2 mb 5 _ _ _ bX;simp only [ax,ap,aq] at k6;have f6:=aG w2 mb 5 _ _ bX;have Kq:mb<w2.heap.size:=(ae.1 bX).1;have SS:B<=w.heap.size:=by omega
  clear b7 cx gi cV Av bX c6 c5;go_wp2_with fail
  go_ret
  exact ⟨by go_num,((ai B w).alloc SS _).trans HP.out.1,(dm.old (bM _ _)).trans HP.out.2.1 (by simp),_,_,_,HP.out.2.2,by rw [HL.out]⟩
 |cons x r=>
  have hl:s.fre.length=r.length+1:=by rw [hf];rfl
  obtain ⟨q,cap',hq,yp,dX⟩:=h.re.form (by omega);cases hq
  have Xo:Hid (mG s=x):=by show _=_;unfold mG;rw [hf]
  have HE:Hid (jO s={s with fre:=r}):=by show _=_;unfold jO;rw [hf]
  rw [Xo.out,HE.out];have k0:=aH h.re r.length (.int .i64 x) (by rw [hf,s6,aC (by simp [jp])];simp [jp]);have hfz:=h.fz 6;have jb:=pu h.re;have hqm:=jC h.re h.blk (by decide) q rfl;rw [hl] at c6 gS jb;have HM:Hid (MSt (w.setCell ⟨mb,6,none⟩ (.slice (some ⟨q,0,none⟩) r.length ec)) B mb fv c {s with fre:=r} K sv rv nv (.slice (some ⟨q,0,none⟩) r.length ec) vs):=MSt.popE (by rw [hl] at h;exact h) hf;have HK:Hid (¬K mb):=h.noK;clear h hf Xo HE hl;go_enter Tryz.func137,Tryz.ntmps137
  go_wp2_with fail
  go_ret
  exact ⟨rfl,(ai B w).setCell (by exact jN) _,dm.set HK.out,_,_,_,HM.out,rfl⟩
end Go.Proofs.YtnndoagpbcacdabGreatDoor
