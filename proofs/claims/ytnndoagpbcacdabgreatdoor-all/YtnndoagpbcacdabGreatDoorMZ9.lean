import Derived.Test.YtnndoagpbcacdabGreatDoorMC4
namespace Go.Proofs.YtnndoagpbcacdabGreatDoor
open Go.RowKit
def Sh3 (lo hi:Nat) (w w':World):Prop:=∀(b:Nat) (cur:Array Value) (t:TypeId),lo<=b->b<hi->(t=99\/t=100\/t=79)->w.heap[b]?=some (.cells cur t (0,0))->∃cur',w'.heap[b]?=some (.cells cur' t (0,0))/\cur'.size=cur.size/\(t≠99->cur'=cur)
theorem Sh3.same {lo hi:Nat} {w w':World} (h:∀(b:Nat) (cur:Array Value) (t:TypeId),lo<=b->b<hi->(t=99\/t=100\/t=79)->w.heap[b]?=some (.cells cur t (0,0))->w'.heap[b]?=w.heap[b]?):Sh3 lo hi w w':=
 fun b cur t h1 h2 h3 h4=>⟨cur,(h b cur t h1 h2 h3 h4).trans h4,rfl,fun _=>rfl⟩
theorem Sh3.trans {lo hi:Nat} {w w' w'':World} (h1:Sh3 lo hi w w') (h2:Sh3 lo hi w' w''):Sh3 lo hi w w'':=by
 intro b cur t hl hh ht hb;obtain ⟨c1,e1,e2,e3⟩:=h1 b cur t hl hh ht hb;obtain ⟨c2,f1,f2,f3⟩:=h2 b c1 t hl hh ht e1;exact ⟨c2,f1,f2.trans e2,fun h=>(f3 h).trans (e3 h)⟩
theorem Sh3.mono {lo hi lo' pL:Nat} {w w':World} (h:Sh3 lo hi w w') (h1:lo<=lo') (h2:pL<=hi):Sh3 lo' pL w w':=
 fun b cur t hl hh ht hb=>h b cur t (by omega) (by omega) ht hb
theorem Sh3.below {lo hi:Nat} {w w':World} (h:Below w.heap.size w w'):Sh3 lo hi w w':=
 Sh3.same fun b _ _ _ _ _ hb=>h.block b (ae.1 hb).1
theorem Sh3.putOut {lo hi x i:Nat} {w:World} {u:Value} (h:x<lo\/hi<=x):Sh3 lo hi w (w.setCell ⟨x,i,none⟩ u):=
 Sh3.same fun b _ _ _ _ _ _=>bi _ (by omega)
theorem Sh3.putH {lo hi x i:Nat} {w:World} {u:Value} {cs:Array Value} (h:w.heap[x]?=some (.cells cs 60 (0,0))):Sh3 lo hi w (w.setCell ⟨x,i,none⟩ u):=
 Sh3.same fun b cur t _ _ ht hb=>bi _ (ku hb h (by rcases ht with rfl|rfl|rfl<;>decide))
theorem Sh3.putAt {lo hi x i:Nat} {w:World} {u:Value} {cs:Array Value} (h:w.heap[x]?=some (.cells cs 99 (0,0))):Sh3 lo hi w (w.setCell ⟨x,i,none⟩ u):=by
 intro b cur t hl hh ht hb;by_cases fe:b=x
 ·subst fe;have Pk:t=99/\cur=cs:=by rw [hb] at h;simp at h;exact ⟨h.2,h.1⟩
  obtain ⟨rfl,rfl⟩:=Pk;exact ⟨_,bk _ hb,by simp,fun h=>absurd rfl h⟩
 ·exact ⟨cur,(bi _ fe).trans hb,rfl,fun _=>rfl⟩
theorem Sh3.grown {lo hi base size n:Nat} {e:TypeId} {w w':World} {v:Value} {xs:List Value} (hr:w.ownsRow base e size v n xs) (hg:w.grownBy w' v.ownBlock) (dI:e≠99/\e≠79) (ho:e≠100\/∀k,v.ownBlock=some k->k<lo\/hi<=k):Sh3 lo hi w w':=by
 refine Sh3.same fun b cur t hl hh ht hb=>?_
 by_cases hte:t=e
 ·subst hte;have Zu:t=100:=by
   rcases ht with h|h|h
   ·exact absurd h dI.1
   ·exact h
   ·exact absurd h dI.2
  refine hg.block b (ae.1 hb).1 (fun e=>?_)
  rcases ho with ho|ho
  ·exact ho Zu
  ·have:=ho b e.symm;omega
 ·exact (br hr hg hte hb).trans hb.symm
def W7 (w:World) (lo mid:Nat) (v:Value):Prop:=∃n b c cur,v=.slice (some ⟨b,0,none⟩) n c/\n<=c/\c<=maxLen/\lo<=b/\b<mid/\w.heap[b]?=some (.cells cur 99 (0,0))/\cur.size=c*2
def Nv (w:World) (lo mid:Nat) (lv:Value) (k:Nat) (vs:List Value):Prop:=∃lb c cur,lv=.slice (some ⟨lb,0,none⟩) k c/\k<=c/\c<=maxLen/\lo<=lb/\lb<mid/\w.heap[lb]?=some (.cells cur 100 (0,0))/\cur.size=c/\vs.length=k/\(∀j,j<k->cur[j]?=vs[j]?)/\Nx vs/\∀u∈vs,W7 w lo mid u
def ShI (w:World):Nat->List Nat->List Value->Nat->Prop
 |lo,[],xs,hi=>xs=[]/\lo<=hi
 |lo,k::r,xs,hi=>∃ar lv ys vs mid,xs=.int .i64 ar::lv::ys/\Nv w lo mid lv k vs/\lo<=mid/\ShI w mid r ys hi
theorem W7.sh {w w':World} {lo mid:Nat} {v:Value} (h:W7 w lo mid v) (hs:Sh3 lo mid w w'):W7 w' lo mid v:=by
 obtain ⟨n,b,c,cur,h1,h2,h3,h4,h5,h6,h7⟩:=h;obtain ⟨cur',e1,e2,_⟩:=hs b cur _ h4 h5 (.inl rfl) h6;exact ⟨n,b,c,cur',h1,h2,h3,h4,h5,e1,e2.trans h7⟩
theorem Nv.sh {w w':World} {lo mid k:Nat} {v:Value} {vs:List Value} (h:Nv w lo mid v k vs) (hs:Sh3 lo mid w w'):Nv w' lo mid v k vs:=by
 obtain ⟨b,c,cur,h1,h2,h3,h4,h5,h6,h7,h8,h9,Ht,h11⟩:=h;obtain ⟨cur',e1,e2,e3⟩:=hs b cur _ h4 h5 (.inr (.inl rfl)) h6;obtain rfl:=e3 (by decide);exact ⟨b,c,cur',h1,h2,h3,h4,h5,e1,h7,h8,h9,Ht,fun u hu=>(h11 u hu).sh hs⟩
theorem ShI.le {w:World}:∀{F:List Nat} {lo hi:Nat} {xs:List Value},ShI w lo F xs hi->lo<=hi
 |[],_,_,_,h=>h.2
 |_::_,_,_,_,⟨_,_,_,_,_,_,_,h,h2⟩=>aJ h (ShI.le h2)
theorem ShI.sh {w w':World}:∀{F:List Nat} {lo hi:Nat} {xs:List Value},ShI w lo F xs hi->Sh3 lo hi w w'->ShI w' lo F xs hi
 |[],_,_,_,h,_=>h
 |_::_,_,_,_,⟨ar,lv,ys,vs,mid,h1,h2,h3,h4⟩,hs=>⟨ar,lv,ys,vs,mid,h1,h2.sh (hs.mono (ah _) h4.le),h3,h4.sh (hs.mono h3 (ah _))⟩
theorem OF {w:World} {lo mid:Nat} {v:Value} {l:Ln} (h:w.ownsRow lo 99 2 v l.length (acs l)) (hl:1<=l.length) (hm:∀k,v.ownBlock=some k->k<mid):W7 w lo mid v:=by
 rcases h.2 with ⟨_,h0⟩|⟨g,cap,cur,rfl,hg,hh,h1,h2,h3,_⟩
 ·omega
 ·exact ⟨_,g,cap,cur,rfl,h1,h2,hg,hm g rfl,hh,h3⟩
theorem NU {w:World} {lo mid:Nat} {v:Value} {L:List Ln} {vs:List Value} (h:fD w lo v L vs) (hl:1<=L.length) (ha:∀l∈L,1<=l.length) (hm:∀k,v.ownBlock=some k->k<mid) (gK:∀u∈vs,∀k,u.ownBlock=some k->k<mid):Nv w lo mid v L.length vs:=by
 have qh:vs.length=L.length:=by have:=h.1.1;simpa using this
 rcases h.1.2 with ⟨_,h0⟩|⟨g,cap,cur,rfl,hg,hh,h1,h2,h3,h4⟩
 ·omega
 ·refine ⟨g,cap,cur,rfl,h1,h2,hg,hm g rfl,hh,by rw [h3,iW],qh,fun j hj=>?_,h.2.2,fun u hu=>?_⟩
  ·rw [<-h4,iW,List.getElem?_take_of_lt hj,Array.getElem?_toList]
  ·obtain ⟨j,hj,rfl⟩:=cl.1 hu;obtain ⟨u,e1,e2,_⟩:=h.2.1 j (by omega);rw [aj hj] at e1;cases e1
   exact OF e2 (ha _ (aE _)) (gK _ (aE hj))
theorem Mh {w:World}:∀{F:List Tp} {lo hi:Nat} {xs:List Value},FuI w lo F xs hi->(∀t∈F,1<=t.ls.length/\∀l∈t.ls,1<=l.length)->ShI w lo (F.map (·.ls.length)) xs hi
 |[],_,_,_,h,_=>h
 |t::r,_,_,_,⟨lv,ys,vs,mid,h1,h2,h3,h4,h5,h6⟩,hq=>⟨t.ar,lv,ys,vs,mid,h1,NU h2 (hq t (by simp)).1 (hq t (by simp)).2 h3 h4,h5,Mh h6 (fun t ht=>hq t (cu _ ht))⟩
set_option maxHeartbeats 8000000
set_option maxRecDepth 100000
theorem Tryz.infoLines:(Tryz.prog.info? 56).map (fun i=>(i.zero,i.size,i.bytes))=some (some (.slice none 0 0),1,24):=by kernel_rfl
theorem Tryz.infoFuns:(Tryz.prog.info? 61).map (fun i=>(i.zero,i.size,i.bytes))=some (some (.slice none 0 0),1,24):=by kernel_rfl
structure KEnv (w0 wr:World) (B0 T0 CB:Nat) (mn:Int) (fsv:Value) (n:Nat) (xs:List Value):Prop where
 bel:Below B0 w0 wr
 box:wr.heap[CB]?=some (.cells #[.int .i64 mn,fsv] 63 (0,0))
 row:wr.ownsRow T0 79 2 fsv n xs
section
variable {w0 wr w':World} {B0 T0 CB:Nat} {mn:Int} {fsv:Value} {n:Nat} {xs:List Value}
theorem KEnv.old (h:KEnv w0 wr B0 T0 CB mn fsv n xs) (hb:Below wr.heap.size wr w') (hB:B0<=wr.heap.size):KEnv w0 w' B0 T0 CB mn fsv n xs:=
 ⟨h.bel.trans (hb.mono hB),(hb.block CB (ae.1 h.box).1).trans h.box,aQ h.row hb⟩
theorem KEnv.put {x i:Nat} {u:Value} {cs:Array Value} {t:TypeId} (h:KEnv w0 wr B0 T0 CB mn fsv n xs) (hx:wr.heap[x]?=some (.cells cs t (0,0))) (h1:63≠t) (h2:79≠t) (hB:B0<=x):KEnv w0 (wr.setCell ⟨x,i,none⟩ u) B0 T0 CB mn fsv n xs:=
 ⟨h.bel.setCell (by exact hB) _,(bi _ (ku h.box hx h1)).trans h.box,aB h.row hx h2⟩
theorem KEnv.grown {base size m:Nat} {e:TypeId} {v:Value} {ys:List Value} (h:KEnv w0 wr B0 T0 CB mn fsv n xs) (hr:wr.ownsRow base e size v m ys) (hg:wr.grownBy w' v.ownBlock) (h1:63≠e) (h2:79≠e) (hB:B0<=base) (hs:B0<=wr.heap.size):KEnv w0 w' B0 T0 CB mn fsv n xs:=
 ⟨h.bel.trans ((ai B0 wr).grown hg hs (fun k hk=>aJ hB (hr.lt k hk).1)),br hr hg h1 h.box,aY hr hg h2 h.row⟩
end
theorem HoldB.up {w:World} {B0 hb T0 T1 Ma Ml M:Nat} {av lv fv:Value} {NA NL NF EA EL EF:List Value} (h:HoldB w B0 hb T0 T1 Ma Ml av lv fv NA NL NF EA EL EF) (hM:Ma<=M):HoldB w B0 hb T0 T1 M Ml av lv fv NA NL NF EA EL EF:=by
 refine ⟨h.blk,h.ra,h.rl,h.rf,h.out,fun i hi=>?_,h.fl,h.ff,h.sep⟩
 obtain ⟨a,n,h1,h2,h3⟩:=h.fa i hi;refine ⟨a,n,h1,h2,?_⟩
 rcases h3 with h3|⟨b,cur,rfl,hb,hh,hc⟩
 ·exact .inl h3
 ·exact .inr ⟨b,cur,rfl,bq hb hM,hh,hc⟩
theorem ShI.open {w:World} {ns:List Nat} {xs:List Value} {i lo hi:Nat} (h:ShI w lo (ns.drop i) (xs.drop (i*2)) hi) (pL:i<ns.length):
 ∃lv vs mid,xs[i*2+1]?=some lv/\Nv w lo mid lv ns[i] vs/\lo<=mid/\ShI w mid (ns.drop (i+1)) (xs.drop ((i+1)*2)) hi:=by
 rw [aW pL] at h;obtain ⟨ar,lv,ys,vs,mid,h1,h2,h3,h4⟩:=h;refine ⟨lv,vs,mid,?_,h2,h3,?_⟩
 ·have:(xs.drop (i*2))[1]?=some lv:=by rw [h1];rfl
  rw [List.getElem?_drop] at this;exact this
 ·have:xs.drop ((i+1)*2)=ys:=by
   rw [show (i+1)*2=i*2+2 by omega,<-hG,h1];rfl
  rw [this];exact h4
theorem iN (w:World) (o:Obj):Below w.heap.size w (w.alloc o):=(ai _ w).alloc (ah _) _
theorem pX {w:World} {k:Nat} {u v:Value} {t:TypeId} (h:w.heap[k]?=some (.cells #[u,v] t (0,0))):w.cell? ⟨k,0,none⟩=some u/\w.cell? ⟨k,1,none⟩=some v:=
 ⟨by rw [al w k 0 _ _ _ h];rfl,by rw [al w k 1 _ _ _ h];rfl⟩
theorem Zf (hb B0 T0 T1:Nat) (mn:Int) (fo:Option Addr) (fl fc:Nat) (ns:List Nat) (xs NA NL NF:List Value) (av lv fv:Value) (w:World)
 (hH:HoldB w B0 hb T0 T1 T0 T0 av lv fv NA NL NF [] [] []) (hB:B0<=T0) (M9:B0<=hb) (hT0:T0<=T1) (hT:T1<=w.heap.size)
 (bW:w.ownsRow T0 79 2 (.slice fo fl fc) ns.length xs) (lV:∀k,(Value.slice fo fl fc).ownBlock=some k->k<T1)
 (wF:ShI w T0 ns xs T1) (Dq:ns.length<=16) (wH:∀k∈ns,k<=13)
 (Yt:NA.length<=1099511627776) (Ra:NL.length<=1099511627776) (Ys:NF.length<=1099511627776):
 Calls Tryz.prog 71 #[.pointer (some ⟨hb,0,none⟩),.agg #[.int .i64 mn,.slice fo fl fc]] w fun e w'=>(∃v,e=.returned v)/\Below B0 w w'/\∃T Ma Ml av' lv' fv' NA' NL' NF',HoldB w' B0 hb T T1 Ma Ml av' lv' fv' NA' NL' NF' [] [] []/\NA'.length<=NA.length+208/\NL'.length<=NL.length+16/\NF'.length<=NF.length+1:=by
 obtain ⟨ia,Yh,SK,SI,Wp⟩:=bE Tryz.infoAtom;obtain ⟨il,ly,tt,kV,gS⟩:=bE Tryz.infoLine;obtain ⟨im,Yg,lX,fR,gK⟩:=bE Tryz.infoLines;obtain ⟨iu,hiu,Ai,zm,Dn⟩:=bE Tryz.infoFuns;have kG:fl=ns.length:=by
  obtain ⟨a,c,e⟩:=aU bW;cases e;rfl
 subst kG;have hfc:ns.length<=fc/\fc<=9223372036854775807:=by
  rcases bW.2 with ⟨h0,h1⟩|⟨g',cap',cur,h0,hg,hh,x1,x2,_⟩
  ·simp at h0;omega
  ·simp at h0;obtain ⟨_,rfl⟩:=h0;unfold maxLen at x2;omega
 have pM:hb<w.heap.size:=(ae.1 hH.blk).1;have rg:=iN w (Obj.cells #[.int .i64 mn,.slice fo ns.length fc] 63);have El:Hid (KEnv w (w.alloc (Obj.cells #[.int .i64 mn,.slice fo ns.length fc] 63)) B0 T0 w.heap.size mn (.slice fo ns.length fc) ns.length xs):=⟨rg.mono (by omega),az w _,aQ bW rg⟩;have YN:Hid _:=hH.old rg;have HS0:Hid _:=wF.sh (Sh3.below rg);have LV:Hid _:=lV;have xi:Hid _:=wH;clear rg hH wF bW lV wH;go_enter Tryz.func71,Tryz.ntmps71
 go_wp2_with fail
 go_loopw [4] (fun y wr=>∃(i lo:Nat) (av lv:Value) (NA' NL':List Value),i<=ns.length/\y=.int .i64 i/\T0<=lo/\lo<=T1/\T1<=wr.heap.size/\w.heap.size<wr.heap.size/\Hid (KEnv w wr B0 T0 w.heap.size mn (.slice fo ns.length fc) ns.length xs)/\Hid (HoldB wr B0 hb T0 T1 lo lo av lv fv NA' NL' NF [] [] [])/\Hid (ShI wr lo (ns.drop i) (xs.drop (i*2)) T1)/\NA'.length<=NA.length+13*i/\NL'.length<=NL.length+i) (fun y _=>ns.length-(intOf y).toNat)
 case atStart=>exact ⟨0,T0,av,lv,NA,NL,aF _,rfl,ah _,hT0,by simp;omega,by simp,El.out,YN.out,HS0.out,by omega,by omega⟩
 case round=>
  clear El YN HS0 hT pM;obtain ⟨i,lo,av,lv,NA',NL',hi,rfl,Vk,agO,Jk,KZ,HK,HH,HS,Yd,un⟩:=hrel;have pM:hb<wr.heap.size:=(ae.1 HH.out.blk).1;obtain ⟨b0,b1⟩:=pX HK.out.box;by_cases yE:i<ns.length
  ·obtain ⟨lvv,vs,mid,hx,yh,Vd,wF⟩:=HS.out.open yE;have hmT:=wF.le;have Qd:=xi.out ns[i] (aE yE);obtain ⟨fb,fcap,Yk,hfB,AD⟩:=HK.out.row.form (by omega);cases Yk
   have k1:=aH HK.out.row (i*2+1) _ hx;have HX:Hid (xs[i*2+1]?=some lvv):=hx;have KE:fb<T1:=LV.out fb rfl;generalize ns[i]=kn at*;have p8:Hid _:=yh;obtain ⟨lb,lc,lcur,mx,yB,uq,aah,Qb,_⟩:=yh;subst mx;unfold maxLen at uq;have CJ:Hid _:=wF;clear wF hx HS;go_wp2_with fail
   go_loopw [5] (fun y wx=>∃(j M:Nat) (av:Value) (NA'':List Value),j<=kn/\y=.int .i64 j/\lo<=M/\M<=mid/\T1<=wx.heap.size/\w.heap.size<wx.heap.size/\Hid (KEnv w wx B0 T0 w.heap.size mn (.slice (some ⟨fb,0,none⟩) ns.length fc) ns.length xs)/\Hid (HoldB wx B0 hb T0 T1 M lo av lv fv NA'' NL' NF [] [] [])/\Hid (Nv wx lo mid (.slice (some ⟨lb,0,none⟩) kn lc) kn vs)/\Hid (ShI wx mid (ns.drop (i+1)) (xs.drop ((i+1)*2)) T1)/\Hid (∀q u b,j<=q->vs[q]?=some u->u.ownBlock=some b->M<=b)/\NA''.length<=NA.length+13*i+j) (fun y _=>kn-(intOf y).toNat)
   case atStart=>
    refine ⟨0,lo,av,NA',aF _,rfl,ah _,Vd,Jk,KZ,HK.out,HH.out,p8.out,CJ.out,?_,by omega⟩
    intro q u b _ hq hu;obtain ⟨_,_,_,_,_,_,_,_,_,_,_,_,_,yz⟩:=p8.out;obtain ⟨n,b',c,cur,e,_,_,h1,_⟩:=yz u (bm hq);subst e;simp [Value.ownBlock] at hu;omega
   case round=>
    clear HK HH p8 CJ Jk KZ pM b0 b1 k1 AD;obtain ⟨j,M,av,NA'',hj,rfl,hM1,hM2,Jk,KZ,HK,HH,p8,CJ,YE,agS⟩:=hrel;have pM:hb<wr.heap.size:=(ae.1 HH.out.blk).1;obtain ⟨b0,b1⟩:=pX HK.out.box;have k1:=aH HK.out.row (i*2+1) _ HX.out;have AD:fb<wr.heap.size:=by omega
    have Qa:lb<wr.heap.size:=by omega
    by_cases dG:j<kn
    ·obtain ⟨lb',lc',lcur,mx,Vo,_,_,_,ur,Kt,qh,hcv,Vx,yz⟩:=p8.out;cases mx
     have hjv:j<vs.length:=by omega
     have X6:vs[j]?=some vs[j]:=aj hjv;have u0:wr.cell? ⟨lb,j,none⟩=some vs[j]:=by rw [al wr lb _ _ _ _ ur,hcv j dG];exact X6
     obtain ⟨n,b,cc,cur,X7,hnc,aaX,eQ,ik,mY,jA⟩:=yz vs[j] (aE hjv);have HMb:Hid (M<=b):=YE.out j _ b (ah _) X6 (by rw [X7];rfl);have acO:Hid (∀q u b',j+1<=q->vs[q]?=some u->u.ownBlock=some b'->b+1<=b'):=fun q u b' hq hu ho=>by
      have:=Vx j q vs[j] u b b' (by omega) X6 hu (by rw [X7];rfl) ho;omega
     rw [X7] at u0;unfold maxLen at aaX;have iB:b<wr.heap.size:=by omega
     obtain ⟨av0,lv0,fv0⟩:=eK HH.out.blk;have Py:wr.ownsRow B0 100 1 av NA''.length NA'':=by have:=HH.out.ra;simpa using this
     obtain ⟨ao,ac,rfl⟩:=aU Py;have RV:Hid _:=Py;clear Py;have nZ:Hid _:=mY;have ju:Hid _:=jA;clear X7 yz hcv Vx ur mY jA X6 Kt;go_wp2_with (at_builtin;go_must (refine wpList_append_lies _ rfl _ _ _ rfl B0 100 il _ 1 24 Tryz.underlying56 ly tt kV gS rfl (by omega) (.slice ao NA''.length ac) NA''.length NA'' rfl ?mS _ 1 _ [.slice (some ⟨b,0,none⟩) cc cc] rfl rfl ?kD ?Hs (by omega) ?tM ?jd ?kJ _ rfl ?_))
     case mS=>exact World.ownsRow.alloc RV.out _
     try case kD=>exact World.news_of_block (az wr _)
     case Hs=>simp [Value.oneCell']
     case tM=>unfold maxLen;omega
     case jd=>omega
     case kJ=>first|omega|(simp;omega)
     intro g cap2 w5 fd co kZ nL;have HA:Hid _:=iN wr (Obj.cells #[.slice (some ⟨b,0,none⟩) cc cc] 100);have kU:(wr.alloc (Obj.cells #[.slice (some ⟨b,0,none⟩) cc cc] 100)).ownsRow B0 100 1 (.slice ao NA''.length ac) NA''.length NA'':=World.ownsRow.alloc RV.out _;have ve:wr.heap.size<=w5.heap.size:=by have:=co.size;simp at this;omega
     have U4:∀k,(Value.slice ao NA''.length ac).ownBlock=some k->k<T0\/T1<=k:=fun k hk=>HH.out.out k hk
     have Nk:=(HK.out.old HA.out (by omega)).grown kU co (by decide) (by decide) (ah _) (by simp;omega);have Jl:∀lo' pL,T0<=lo'->pL<=T1->Sh3 lo' pL wr w5:=fun lo' pL h1 h2=>(Sh3.below HA.out).trans (Sh3.grown kU co (by decide) (.inr fun k hk=>by have:=U4 k hk;omega))
     have Co:=HoldB.takeA (f:=.slice (some ⟨b,0,none⟩) cc cc) HH.out Jk fd co (by rw [bT];exact kZ);have dB:w5.heap[hb]?=some (.cells #[.slice ao NA''.length ac,lv,fv] 60 (0,0)):=br kU co (by decide) (HA.out.block hb pM|>.trans HH.out.blk);obtain ⟨v50,v51,v52⟩:=eK dB;have f50:=aG w5 hb 0 _ _ dB;have Dw:hb<w5.heap.size:=by omega
     have IU:Hid _:=Nk.put (i:=0) (u:=.slice (some ⟨g,0,none⟩) (NA''.length+1) cap2) dB (by decide) (by decide) M9;have Em:Hid _:=Co;have Xd:Hid _:=(p8.out.sh (Jl lo mid Vk hmT)).sh (Sh3.putH (i:=0) (u:=.slice (some ⟨g,0,none⟩) (NA''.length+1) cap2) dB);have Bk:Hid _:=(CJ.out.sh (Jl mid T1 (by omega) (ah _))).sh (Sh3.putH (i:=0) (u:=.slice (some ⟨g,0,none⟩) (NA''.length+1) cap2) dB);have gQ:=Jl lo mid Vk hmT b cur _ eQ ik (.inl rfl) nZ.out;obtain ⟨cur5,tD,G7,_⟩:=gQ;have Dp:b≠hb:=ku tD dB (by decide);have p9:Hid ((w5.setCell ⟨hb,0,none⟩ (.slice (some ⟨g,0,none⟩) (NA''.length+1) cap2)).heap[b]?=some (.cells cur5 99 (0,0))):=(bi _ Dp).trans tD;have IZ:Hid (cur5.size=cc*2):=G7.trans ju.out;have vd:(w5.setCell ⟨hb,0,none⟩ (.slice (some ⟨g,0,none⟩) (NA''.length+1) cap2)).heap.size=w5.heap.size:=by simp [World.setCell]
     clear fd co kZ nL kU U4 Nk Jl Co dB tD G7 HK HH p8 CJ nZ ju av0 lv0 fv0 u0 k1 b0 b1 RV;go_wp2_with fail
     clear v50 v51 v52 f50
     go_loopw [8] (fun y wx=>∃(q:Nat) (cur:Array Value),q<=cc/\y=.int .i64 q/\T1<=wx.heap.size/\w.heap.size<wx.heap.size/\Hid (KEnv w wx B0 T0 w.heap.size mn (.slice (some ⟨fb,0,none⟩) ns.length fc) ns.length xs)/\Hid (HoldB wx B0 hb T0 T1 M lo (.slice (some ⟨g,0,none⟩) (NA''.length+1) cap2) lv fv NA'' NL' NF [.slice (some ⟨b,0,none⟩) cc cc] [] [])/\Hid (Nv wx lo mid (.slice (some ⟨lb,0,none⟩) kn lc) kn vs)/\Hid (ShI wx mid (ns.drop (i+1)) (xs.drop ((i+1)*2)) T1)/\Hid (wx.heap[b]?=some (.cells cur 99 (0,0)))/\Hid (cur.size=cc*2)/\Hid (∀p,p<q->cur[p*2]?=some (.int .i64 ((NA''.length:Int)+1))/\cur[p*2+1]?=some (.int .i64 0))) (fun y _=>cc-(intOf y).toNat)
     case atStart=>exact ⟨0,cur5,aF _,rfl,by rw [vd];omega,by rw [vd];omega,IU.out,Em.out,Xd.out,Bk.out,p9.out,IZ.out,fun p hp=>by omega⟩
     case round=>
      clear IU Em Xd Bk p9 IZ vd ve Jk KZ pM Dw AD Qa iB;obtain ⟨q,cur,hq,rfl,Jk,KZ,HK,HH,p8,CJ,nZ,ju,zj⟩:=hrel;have pM:hb<wr.heap.size:=(ae.1 HH.out.blk).1;have iB:b<wr.heap.size:=(ae.1 nZ.out).1;obtain ⟨v50,v51,v52⟩:=eK HH.out.blk;by_cases Ex:q<cc
      ·have r9:q*2+1<cur.size:=by have:=ju.out;omega
       have d0:wr.cell? ⟨b,q*2,none⟩=some (cur[q*2]'(by omega)):=by rw [al wr b _ _ _ _ nZ.out];exact bV _
       have d1:wr.cell? ⟨b,q*2+1,none⟩=some (cur[q*2+1]'r9):=by rw [al wr b _ _ _ _ nZ.out];exact bV _
       have f0:=aG wr b (q*2) _ _ nZ.out;have f1:=aG wr b (q*2+1) _ _ nZ.out;generalize cur[q*2]'(by omega)=x0 at d0;generalize cur[q*2+1]'r9=x1 at d1;have hMb:=HMb.out;go_wp2_with fail
       go_roundw
       case rel=>
        have EM:=bk (i:=q*2) (.int .i64 ((NA''.length:Int)+1)) nZ.out;have nN:=bk (i:=q*2+1) (.int .i64 0) EM;refine ⟨q+1,(cur.setIfInBounds (q*2) (.int .i64 ((NA''.length:Int)+1))).setIfInBounds (q*2+1) (.int .i64 0),Ex,by go_num,by simp [World.setCell];omega,by simp [World.setCell];omega,(HK.out.put nZ.out (by decide) (by decide) (by omega)).put EM (by decide) (by decide) (by omega),(HH.out.putA nZ.out hMb).putA EM hMb,(p8.out.sh (Sh3.putAt nZ.out)).sh (Sh3.putAt EM),(CJ.out.sh (Sh3.putAt nZ.out)).sh (Sh3.putAt EM),nN,by have:=ju.out;simp only [Hid,de];exact this,fun p hp=>?_⟩
        by_cases Ey:p=q
        ·subst Ey;exact ⟨by rw [aV (by omega),bz (by omega)],by rw [bz (by rw [de];omega)]⟩
        ·obtain ⟨e0,e1⟩:=zj.out p (by omega);exact ⟨by rw [aV (by omega),aV (by omega)];exact e0,by rw [aV (by omega),aV (by omega)];exact e1⟩
       case measure=>simp [intOf];omega
      ·have hd:decide ((q:Int)<(cc:Int))=false:=by simp;omega
       have jz:¬(q:Int)<(cc:Int):=by omega
       have HF:Hid (HoldB wr B0 hb T0 T1 (b+1) lo (.slice (some ⟨g,0,none⟩) (NA''.length+1) cap2) lv fv (NA''++[.slice (some ⟨b,0,none⟩) cc cc]) NL' NF [] [] []):=HH.out.fullA (by have:=HMb.out;omega) ⟨some ⟨b,0,none⟩,cc,rfl,by unfold maxLen;omega,.inr ⟨b,cur,rfl,eM _,nZ.out,fun p hp=>zj.out p (by omega)⟩⟩;have aai:(NA''++[Value.slice (some ⟨b,0,none⟩) cc cc]).length<=NA.length+13*i+(j+1):=by rw [au];simp;omega
       have hMb:=HMb.out;clear HH;go_wp2_with fail
       go_roundw
       case rel=>exact ⟨j+1,b+1,_,_,dG,by go_num,by omega,by omega,Jk,KZ,HK.out,HF.out,p8.out,CJ.out,acO.out,aai⟩
       case measure=>simp [intOf];omega
    ·have Du:j=kn:=by omega
     have hdj:decide ((j:Int)<(kn:Int))=false:=by simp;omega
     have aaM:¬(j:Int)<(kn:Int):=by omega
     clear Du;obtain ⟨lb',lc',lcur,mx,Vo,_,_,_,ur,Kt,_,_,_,_⟩:=p8.out;cases mx
     obtain ⟨av0,lv0,fv0⟩:=eK HH.out.blk;have Pu:wr.ownsRow B0 56 1 lv NL'.length NL':=by have:=HH.out.rl;simpa using this
     obtain ⟨lo',lc',rfl⟩:=aU Pu;have RQ:Hid _:=Pu;have nZ:Hid _:=ur;have ju:Hid _:=Kt;clear Pu ur Kt;go_wp2_with (at_builtin;go_must (refine wpList_append_lies _ rfl _ _ _ rfl B0 56 im _ 1 24 Tryz.underlying57 Yg lX fR gK rfl (by omega) (.slice lo' NL'.length lc') NL'.length NL' rfl ?UY _ 1 _ [.slice (some ⟨lb,0,none⟩) lc lc] rfl rfl ?PT ?h1L (by omega) ?ab0 ?KM ?QR _ rfl ?_))
     case UY=>exact World.ownsRow.alloc RQ.out _
     try case PT=>exact World.news_of_block (az wr _)
     case h1L=>simp [Value.oneCell']
     case ab0=>unfold maxLen;omega
     case KM=>omega
     case QR=>first|omega|(simp;omega)
     intro g cap2 w5 fd co kZ nL;have HA:Hid _:=iN wr (Obj.cells #[.slice (some ⟨lb,0,none⟩) lc lc] 56);have kU:(wr.alloc (Obj.cells #[.slice (some ⟨lb,0,none⟩) lc lc] 56)).ownsRow B0 56 1 (.slice lo' NL'.length lc') NL'.length NL':=World.ownsRow.alloc RQ.out _;have ve:wr.heap.size<=w5.heap.size:=by have:=co.size;simp at this;omega
     have Nk:=(HK.out.old HA.out (by omega)).grown kU co (by decide) (by decide) (ah _) (by simp;omega);have Jl:∀lo' pL,Sh3 lo' pL wr w5:=fun lo' pL=>(Sh3.below HA.out).trans (Sh3.grown kU co (by decide) (.inl (by decide)))
     have Co:=HoldB.takeL (f:=.slice (some ⟨lb,0,none⟩) lc lc) HH.out fd co;have dB:w5.heap[hb]?=some (.cells #[av,.slice lo' NL'.length lc',fv] 60 (0,0)):=br kU co (by decide) (HA.out.block hb pM|>.trans HH.out.blk);obtain ⟨v50,v51,v52⟩:=eK dB;have f51:=aG w5 hb 1 _ _ dB;have Dw:hb<w5.heap.size:=by omega
     have IU:Hid _:=Nk.put (i:=1) (u:=.slice (some ⟨g,0,none⟩) (NL'.length+1) cap2) dB (by decide) (by decide) M9;have Em:Hid _:=Co;have Bk:Hid _:=(CJ.out.sh (Jl mid T1)).sh (Sh3.putH (i:=1) (u:=.slice (some ⟨g,0,none⟩) (NL'.length+1) cap2) dB);have gQ:=Jl lo mid lb lcur _ aah Qb (.inr (.inl rfl)) nZ.out;obtain ⟨cur5,tD,G7,_⟩:=gQ;have Dp:lb≠hb:=ku tD dB (by decide);have p9:Hid ((w5.setCell ⟨hb,1,none⟩ (.slice (some ⟨g,0,none⟩) (NL'.length+1) cap2)).heap[lb]?=some (.cells cur5 100 (0,0))):=(bi _ Dp).trans tD;have IZ:Hid (cur5.size=lc):=G7.trans ju.out;have vd:(w5.setCell ⟨hb,1,none⟩ (.slice (some ⟨g,0,none⟩) (NL'.length+1) cap2)).heap.size=w5.heap.size:=by simp [World.setCell]
     clear fd co kZ nL kU Nk Jl Co dB tD G7 HK HH p8 CJ nZ ju av0 lv0 fv0 k1 b0 b1 RQ YE;go_wp2_with fail
     clear v50 v51 v52 f51
     go_loopw [11] (fun y wx=>∃(q:Nat) (cur:Array Value),q<=lc/\y=.int .i64 q/\T1<=wx.heap.size/\w.heap.size<wx.heap.size/\Hid (KEnv w wx B0 T0 w.heap.size mn (.slice (some ⟨fb,0,none⟩) ns.length fc) ns.length xs)/\Hid (HoldB wx B0 hb T0 T1 M lo av (.slice (some ⟨g,0,none⟩) (NL'.length+1) cap2) fv NA'' NL' NF [] [.slice (some ⟨lb,0,none⟩) lc lc] [])/\Hid (ShI wx mid (ns.drop (i+1)) (xs.drop ((i+1)*2)) T1)/\Hid (wx.heap[lb]?=some (.cells cur 100 (0,0)))/\Hid (cur.size=lc)/\Hid (∀p,p<q->∃a' c',cur[p]?=some (.slice a' (NL'.length+1) c'))) (fun y _=>lc-(intOf y).toNat)
     case atStart=>exact ⟨0,cur5,aF _,rfl,by rw [vd];omega,by rw [vd];omega,IU.out,Em.out,Bk.out,p9.out,IZ.out,fun p hp=>by omega⟩
     case round=>
      clear IU Em Bk p9 IZ vd ve Jk KZ pM Dw AD Qa;obtain ⟨q,cur,hq,rfl,Jk,KZ,HK,HH,CJ,nZ,ju,zj⟩:=hrel;have pM:hb<wr.heap.size:=(ae.1 HH.out.blk).1;have iB:lb<wr.heap.size:=(ae.1 nZ.out).1;obtain ⟨v50,v51,v52⟩:=eK HH.out.blk;by_cases Ex:q<lc
      ·have Jb:q<cur.size:=by have:=ju.out;omega
       go_wp2_with (at_make;go_must (refine fI _ rfl _ _ 100 rfl B0 99 ia _ 2 Tryz.underlying100 Yh SK SI _ _ _ _ (NL'.length+1) rfl rfl (by simp) (by simp) ?mbM ?mlM ?mbaseM ?_))
       case mbM=>rw [Wp];omega
       case mlM=>unfold maxLen;omega
       case mbaseM=>omega
       intro w6 yu GT;have js:Below wr.heap.size wr w6:=(ai _ _).grown (row:=none) GT (ah _) (fun k hk=>by cases hk);have vd:=js.size;have p9:Hid _:=(js.block lb iB).trans nZ.out;have d0:w6.cell? ⟨lb,q,none⟩=some (cur[q]'Jb):=by rw [al w6 lb _ _ _ _ p9.out];exact bV _
       have f0:=aG w6 lb q _ _ p9.out;generalize cur[q]'Jb=x0 at d0;have IU:Hid _:=HK.out.old js (by omega);have Em:Hid _:=HH.out.old js;have Bk:Hid _:=CJ.out.sh (Sh3.below js);have agR:lb<w6.heap.size:=by omega
       clear yu GT js v50 v51 v52 HK HH CJ;go_wp2_with fail
       go_roundw
       case rel=>
        refine ⟨q+1,cur.setIfInBounds q (.slice (some ⟨wr.heap.size,0,none⟩) (NL'.length+1) (NL'.length+1)),Ex,by go_num,by simp [World.setCell];omega,by simp [World.setCell];omega,IU.out.put p9.out (by decide) (by decide) (by omega),Em.out.putL p9.out (by omega) (by omega) (by omega),Bk.out.sh (Sh3.putOut (.inl Qb)),bk _ p9.out,by have:=ju.out;simp only [Hid,de];exact this,fun p hp=>?_⟩
        by_cases Ey:p=q
        ·subst Ey;exact ⟨_,_,by rw [bz Jb]⟩
        ·obtain ⟨a',c',e0⟩:=zj.out p (by omega);exact ⟨a',c',by rw [aV (by omega)];exact e0⟩
       case measure=>simp [intOf];omega
      ·have hd:decide ((q:Int)<(lc:Int))=false:=by simp;omega
       have jz:¬(q:Int)<(lc:Int):=by omega
       have HF:Hid (HoldB wr B0 hb T0 T1 mid mid av (.slice (some ⟨g,0,none⟩) (NL'.length+1) cap2) fv NA'' (NL'++[.slice (some ⟨lb,0,none⟩) lc lc]) NF [] [] []):=
        (HH.out.fullL Vd ⟨some ⟨lb,0,none⟩,lc,rfl,by unfold maxLen;omega,.inr ⟨lb,cur,rfl,Qb,nZ.out,fun p hp=>zj.out p (by omega)⟩⟩ (fun k hk e=>by
         have h1:=HH.out.out k hk;have h2:lb=k:=by simpa [Value.ownBlock] using e
         omega)).up hM2
       have aad:(NL'++[Value.slice (some ⟨lb,0,none⟩) lc lc]).length<=NL.length+(i+1):=by rw [au];simp;omega
       clear HH;go_wp2_with fail
       go_roundw
       case rel=>exact ⟨i+1,mid,_,_,_,_,yE,by go_num,by omega,hmT,Jk,KZ,HK.out,HF.out,CJ.out,by omega,aad⟩
       case measure=>simp [intOf];omega
  ·have hdi:decide ((i:Int)<(ns.length:Int))=false:=by simp;omega
   have aaO:¬(i:Int)<(ns.length:Int):=by omega
   obtain ⟨av0,lv0,fv0⟩:=eK HH.out.blk;have Pv:wr.ownsRow B0 61 1 fv NF.length NF:=by have:=HH.out.rf;simpa using this
   obtain ⟨fo',fc',rfl⟩:=aU Pv;have Ef:Hid _:=Pv;clear Pv HS;rcases HK.out.row.2 with ⟨GM,hz⟩|⟨fb,fcap,fcur,Yk,hfB,hfh,oS,lY,mq,_⟩
   ·obtain ⟨rfl,dQ,rfl⟩:fo=none/\ns.length=0/\fc=0:=by simpa using GM
    rw [dQ] at b1;have W8:Hid (ns.length=0):=dQ;have tv:i<=0:=by omega
    clear hz dQ GM hi hdi aaO;have aar:i=0:=by omega
    subst aar;have hdz:¬((0:Nat):Int)<0:=by simp
    go_wp2_with (at_builtin;go_must (refine wpList_append_lies _ rfl _ _ _ rfl B0 61 iu _ 1 24 Tryz.underlying58 hiu Ai zm Dn rfl (by omega) (.slice fo' NF.length fc') NF.length NF rfl ?PF _ 1 _ [.slice none 0 0] rfl rfl ?Kp ?ab8 (by omega) ?WH ?Ha ?KU _ rfl ?_))
    case PF=>exact World.ownsRow.alloc Ef.out _
    try case Kp=>exact World.news_of_block (az wr _)
    case ab8=>simp [Value.oneCell']
    case WH=>unfold maxLen;omega
    case Ha=>omega
    case KU=>first|omega|(simp;omega)
    intro g cap2 w5 fd co kZ nL;have HA:Hid _:=iN wr (Obj.cells #[.slice none 0 0] 61);have kU:(wr.alloc (Obj.cells #[.slice none 0 0] 61)).ownsRow B0 61 1 (.slice fo' NF.length fc') NF.length NF:=World.ownsRow.alloc Ef.out _;have ve:wr.heap.size<=w5.heap.size:=by have:=co.size;simp at this;omega
    have Co:=HoldB.takeF (f:=.slice none 0 0) HH.out fd co;have dB:w5.heap[hb]?=some (.cells #[av,lv,.slice fo' NF.length fc'] 60 (0,0)):=br kU co (by decide) (HA.out.block hb pM|>.trans HH.out.blk);obtain ⟨v50,v51,v52⟩:=eK dB;have f52:=aG w5 hb 2 _ _ dB;have Dw:hb<w5.heap.size:=by omega
    have xm:Hid (Below B0 w (w5.setCell ⟨hb,2,none⟩ (.slice (some ⟨g,0,none⟩) (NF.length+1) cap2))):=((HK.out.bel.trans ((HA.out.mono (by omega)).grown co (by simp;omega) (fun k hk=>(kU.lt k hk).1)))).setCell (by exact M9) _;have Em:Hid _:=Co;have HF:Hid (HoldB (w5.setCell ⟨hb,2,none⟩ (.slice (some ⟨g,0,none⟩) (NF.length+1) cap2)) B0 hb T1 T1 lo lo av lv (.slice (some ⟨g,0,none⟩) (NF.length+1) cap2) NA' NL' (NF++[.slice none 0 0]) [] [] []):=Em.out.fullF hT0 ⟨none,0,rfl,by unfold maxLen;omega,.inl rfl⟩ (fun k hk=>by omega);clear fd co kZ nL kU Co dB HK HH Ef av0 lv0 fv0 b0 b1 Em;go_wp2_with fail
    clear v50 v51 v52 f52
    go_loopw [13] (fun y wx=>y=.int .i64 0/\Hid (Below B0 w wx)/\Hid (HoldB wx B0 hb T1 T1 lo lo av lv (.slice (some ⟨g,0,none⟩) (NF.length+1) cap2) NA' NL' (NF++[.slice none 0 0]) [] [] [])) (fun _ _=>0)
    case atStart=>exact ⟨rfl,xm.out,HF.out⟩
    case round=>
     clear xm HF;obtain ⟨rfl,HB,HF⟩:=hrel;go_wp2_with fail
     exact bH (v:=.tuple #[]) (by simp [results,Tryz.results71,go_sem]) rfl ⟨⟨_,rfl⟩,HB.out,T1,lo,lo,_,_,_,_,_,_,HF.out,by omega,by omega,by rw [au];simp⟩
   ·obtain ⟨rfl,rfl⟩:fo=some ⟨fb,0,none⟩/\fc=fcap:=by simpa using Yk
    have AD:fb<wr.heap.size:=(ae.1 hfh).1;have KE:fb<T1:=LV.out fb rfl;have nZ:Hid _:=hfh;have ju:Hid _:=mq;clear Yk mq hfh;go_wp2_with (at_builtin;go_must (refine wpList_append_lies _ rfl _ _ _ rfl B0 61 iu _ 1 24 Tryz.underlying58 hiu Ai zm Dn rfl (by omega) (.slice fo' NF.length fc') NF.length NF rfl ?PE _ 1 _ [.slice (some ⟨fb,0,none⟩) fc fc] rfl rfl ?Ko ?ab7 (by omega) ?WG ?G9 ?KT _ rfl ?_))
    case PE=>exact World.ownsRow.alloc Ef.out _
    try case Ko=>exact World.news_of_block (az wr _)
    case ab7=>simp [Value.oneCell']
    case WG=>unfold maxLen;omega
    case G9=>omega
    case KT=>first|omega|(simp;omega)
    intro g cap2 w5 fd co kZ nL;have HA:Hid _:=iN wr (Obj.cells #[.slice (some ⟨fb,0,none⟩) fc fc] 61);have kU:(wr.alloc (Obj.cells #[.slice (some ⟨fb,0,none⟩) fc fc] 61)).ownsRow B0 61 1 (.slice fo' NF.length fc') NF.length NF:=World.ownsRow.alloc Ef.out _;have ve:wr.heap.size<=w5.heap.size:=by have:=co.size;simp at this;omega
    have Co:=HoldB.takeF (f:=.slice (some ⟨fb,0,none⟩) fc fc) HH.out fd co;have dB:w5.heap[hb]?=some (.cells #[av,lv,.slice fo' NF.length fc'] 60 (0,0)):=br kU co (by decide) (HA.out.block hb pM|>.trans HH.out.blk);obtain ⟨v50,v51,v52⟩:=eK dB;have f52:=aG w5 hb 2 _ _ dB;have Dw:hb<w5.heap.size:=by omega
    have xm:Hid (Below B0 w (w5.setCell ⟨hb,2,none⟩ (.slice (some ⟨g,0,none⟩) (NF.length+1) cap2))):=((HK.out.bel.trans ((HA.out.mono (by omega)).grown co (by simp;omega) (fun k hk=>(kU.lt k hk).1)))).setCell (by exact M9) _;have Em:Hid _:=Co;have gQ:w5.heap[fb]?=some (.cells fcur 79 (0,0)):=br kU co (by decide) ((HA.out.block fb AD).trans nZ.out);have Dp:fb≠hb:=ku gQ dB (by decide);have p9:Hid ((w5.setCell ⟨hb,2,none⟩ (.slice (some ⟨g,0,none⟩) (NF.length+1) cap2)).heap[fb]?=some (.cells fcur 79 (0,0))):=(bi _ Dp).trans gQ;have vd:(w5.setCell ⟨hb,2,none⟩ (.slice (some ⟨g,0,none⟩) (NF.length+1) cap2)).heap.size=w5.heap.size:=by simp [World.setCell]
    clear fd co kZ nL kU Co dB HK HH Ef av0 lv0 fv0 b0 b1 gQ;go_wp2_with fail
    clear v50 v51 v52 f52
    go_loopw [13] (fun y wx=>∃(q:Nat) (cur:Array Value),q<=fc/\y=.int .i64 q/\Hid (Below B0 w wx)/\Hid (HoldB wx B0 hb T0 T1 lo lo av lv (.slice (some ⟨g,0,none⟩) (NF.length+1) cap2) NA' NL' NF [] [] [.slice (some ⟨fb,0,none⟩) fc fc])/\Hid (wx.heap[fb]?=some (.cells cur 79 (0,0)))/\Hid (cur.size=fc*2)/\Hid (∀p,p<q->cur[p*2]?=some (.int .i64 ((NF.length:Int)+1))/\cur[p*2+1]?=some (.slice none 0 0))) (fun y _=>fc-(intOf y).toNat)
    case atStart=>exact ⟨0,fcur,aF _,rfl,xm.out,Em.out,p9.out,ju.out,fun p hp=>by omega⟩
    case round=>
     clear xm Em p9 ju vd ve Dw pM AD;obtain ⟨q,cur,hq,rfl,HB,HH,nZ,ju,zj⟩:=hrel;have pM:hb<wr.heap.size:=(ae.1 HH.out.blk).1;have iB:fb<wr.heap.size:=(ae.1 nZ.out).1;obtain ⟨v50,v51,v52⟩:=eK HH.out.blk;by_cases Ex:q<fc
     ·have r9:q*2+1<cur.size:=by have:=ju.out;omega
      have d0:wr.cell? ⟨fb,q*2,none⟩=some (cur[q*2]'(by omega)):=by rw [al wr fb _ _ _ _ nZ.out];exact bV _
      have d1:wr.cell? ⟨fb,q*2+1,none⟩=some (cur[q*2+1]'r9):=by rw [al wr fb _ _ _ _ nZ.out];exact bV _
      have f0:=aG wr fb (q*2) _ _ nZ.out;have f1:=aG wr fb (q*2+1) _ _ nZ.out;generalize cur[q*2]'(by omega)=x0 at d0;generalize cur[q*2+1]'r9=x1 at d1;go_wp2_with fail
      go_roundw
      case rel=>
       have EM:=bk (i:=q*2) (.int .i64 ((NF.length:Int)+1)) nZ.out;have nN:=bk (i:=q*2+1) (.slice none 0 0) EM;refine ⟨q+1,(cur.setIfInBounds (q*2) (.int .i64 ((NF.length:Int)+1))).setIfInBounds (q*2+1) (.slice none 0 0),Ex,by go_num,(HB.out.setCell (by show B0<=fb;omega) _).setCell (by show B0<=fb;omega) _,(HH.out.putF nZ.out hfB).putF EM hfB,nN,by have:=ju.out;simp only [Hid,de];exact this,fun p hp=>?_⟩
       by_cases Ey:p=q
       ·subst Ey;exact ⟨by rw [aV (by omega),bz (by omega)],by rw [bz (by rw [de];omega)]⟩
       ·obtain ⟨e0,e1⟩:=zj.out p (by omega);exact ⟨by rw [aV (by omega),aV (by omega)];exact e0,by rw [aV (by omega),aV (by omega)];exact e1⟩
      case measure=>simp [intOf];omega
     ·have hd:decide ((q:Int)<(fc:Int))=false:=by simp;omega
      have jz:¬(q:Int)<(fc:Int):=by omega
      have HF:Hid (HoldB wr B0 hb T1 T1 lo lo av lv (.slice (some ⟨g,0,none⟩) (NF.length+1) cap2) NA' NL' (NF++[.slice (some ⟨fb,0,none⟩) fc fc]) [] [] []):=HH.out.fullF hT0 ⟨some ⟨fb,0,none⟩,fc,rfl,by unfold maxLen;omega,.inr ⟨fb,cur,rfl,KE,nZ.out,fun p hp=>zj.out p (by omega)⟩⟩ (fun k hk=>by omega);clear HH;go_wp2_with fail
      exact bH (v:=.tuple #[]) (by simp [results,Tryz.results71,go_sem]) rfl ⟨⟨_,rfl⟩,HB.out,T1,lo,lo,_,_,_,_,_,_,HF.out,by omega,by omega,by rw [au];simp⟩
end Go.Proofs.YtnndoagpbcacdabGreatDoor
