import Derived.Test.YtnndoagpbcacdabGreatDoorMF9
import Derived.Test.YtnndoagpbcacdabGreatDoorMM8
namespace Go.Proofs.YtnndoagpbcacdabGreatDoor
set_option maxHeartbeats 8000000
set_option maxRecDepth 100000
open Go.RowKit
def mi (ar:Ln) (at_:Nat) (a:Int×Int):Int×Int:=if a.1=2 then ar[a.2.toNat]?.getD (0,0) else if a.1=5 then (5,a.2+at_) else a
theorem Gf (l:Ln) (j:Nat) (h:j<l.length) (ar:Ln) (n:Nat):(l.take (j+1)).map (mi ar n)=(l.take j).map (mi ar n)++[mi ar n l[j]]:=by
 rw [aT h,cz];rfl
theorem TJ (l ar:Ln) (n:Nat) (lv av:Value) (T:Nat) (w:World) (mx:Rd w T lv l) (AT:Rd w T av ar) (hl:l.length<=1000) (hn:n<=10000000) (h2:∀a∈l,a.1=2->0<=a.2/\a.2<ar.length) (h5:∀a∈l,a.1=5->0<=a.2/\a.2<=1000):
 Calls Tryz.prog 184 #[lv,av,.int .i64 n] w fun e w'=>∃v,e=.returned v/\Below w.heap.size w w'/\w'.ownsRow w.heap.size 99 2 v l.length (acs (l.map (mi ar n))):=by
 obtain ⟨ii,hi,fp,dQ,eF⟩:=bE Tryz.infoAtom;have HLV:Hid (Rd w T lv l):=mx;have S7:Hid (Rd w T av ar):=AT;obtain ⟨lo,lc,rfl⟩:=mx.form;obtain ⟨ao,ac,rfl⟩:=AT.form;have abk:=AT.cap;obtain ⟨_,Wn,Q2⟩:=abk;unfold maxLen at Q2;have H2:Hid _:=h2;have H5:Hid _:=h5;clear mx AT h2 h5;go_enter Tryz.func184,Tryz.ntmps184
 go_wp2_with fail
 go_loopw [7,8] (fun y z wr=>∃j:Nat,j<=l.length/\z=.int .i64 j/\Hid (Below w.heap.size w wr)/\(∃yo yc,y=.slice yo j yc)/\Hid (wr.ownsRow w.heap.size 99 2 y j (acs ((l.take j).map (mi ar n))))) (fun _ z _=>l.length-(intOf z).toNat)
 case atStart=>exact ⟨0,by omega,rfl,ai _ _,⟨none,0,rfl⟩,aM _ _ _ _⟩
 case round=>
  obtain ⟨j,hj,rfl,HB,⟨yo,yc,rfl⟩,HR⟩:=hrel;have iG:=HB.out.size;by_cases dG:j<l.length
  ·obtain ⟨b,off,lc',e,iB⟩:=HLV.out.isSome (by omega);cases e
   obtain ⟨k0,k1⟩:=Rd.at (Rd.old HLV.out HB.out) j dG;have aez:b<wr.heap.size:=by omega
   have HS:Hid (acs ((l.take (j+1)).map (mi ar n))=acs ((l.take j).map (mi ar n))++[.int .i64 (mi ar n l[j]).1,.int .i64 (mi ar n l[j]).2]):=by show _=_;rw [Gf l j dG,jF]
   have h2j:=H2.out l[j] (aE dG);have h5j:=H5.out l[j] (aE dG);generalize l[j]=a at*;obtain ⟨a1,a2⟩:=a;obtain ⟨x,hx⟩:∃x:Int×Int,x=mi ar n (a1,a2):=⟨_,rfl⟩;rw [<-hx] at HS;obtain ⟨x1,x2⟩:=x;simp only at*;have HX:Hid ((x1,x2)=mi ar n (a1,a2)):=hx;clear hx;generalize acs ((l.take j).map (mi ar n))=AC at*;have rx:Hid (((wr.alloc (Obj.cells #[.int .i64 x1,.int .i64 x2] 99)).alloc (Obj.cells #[.int .i64 x1,.int .i64 x2] 99)).heap[wr.heap.size+1]?=some (Obj.cells #[.int .i64 x1,.int .i64 x2] 99)):=by
    have:=az (wr.alloc (Obj.cells #[.int .i64 x1,.int .i64 x2] 99)) (Obj.cells #[.int .i64 x1,.int .i64 x2] 99);rw [bT] at this;exact this
   have lu:Hid (Below w.heap.size w ((wr.alloc (Obj.cells #[.int .i64 x1,.int .i64 x2] 99)).alloc (Obj.cells #[.int .i64 x1,.int .i64 x2] 99))):=(HB.out.alloc iG _).alloc (by simp;omega) _;by_cases e2:a1=2
   ·subst e2;obtain ⟨h0,h1⟩:=h2j rfl;obtain ⟨m,rfl⟩:=aZ h0;have hm:m<ar.length:=by omega
    obtain ⟨ab,aoff,ac',e,Wo⟩:=S7.out.isSome (by omega);cases e
    obtain ⟨n0,n1⟩:=Rd.at (Rd.old S7.out HB.out) m hm;have abl:ab<wr.heap.size:=by omega
    have jm:x1=ar[m].1/\x2=ar[m].2:=by
     have e:mi ar n (2,(m:Int))=ar[m]:=by unfold mi;rw [aA rfl];simp [hm]
     have:=HX.out;rw [e] at this;exact ⟨congrArg Prod.fst this,congrArg Prod.snd this⟩
    rw [<-jm.1] at n0;rw [<-jm.2] at n1;clear HX jm;go_wp2_with (at_builtin;go_must (refine wpList_append_lies _ rfl _ _ _ rfl w.heap.size 99 ii _ 2 16 Tryz.underlying100 hi fp dQ eF rfl (by omega) (.slice yo j yc) j AC rfl ?mS _ 1 _ [.int .i64 x1,.int .i64 x2] rfl rfl ?kD ?Hs (by omega) ?tM ?jd ?kJ _ rfl ?_))
    case mS=>exact (World.ownsRow.alloc HR.out _).alloc _
    try case kD=>exact World.news_of_block rx.out
    case Hs=>simp [Value.oneCell']
    case tM=>unfold maxLen;omega
    case jd=>omega
    case kJ=>first|omega|(simp;omega)
    intro g cap2 w2 b7 cx gi cV;have gj:Hid (Below w.heap.size w w2):=(lu.out).grown cx (by simp;omega) (fun k hk=>((World.ownsRow.lt HR.out k hk).1));have gT:Hid (w2.ownsRow w.heap.size 99 2 (.slice (some ⟨g,0,none⟩) (j+1) cap2) (j+1) (acs ((l.take (j+1)).map (mi ar n)))):=by rw [HS.out];exact b7
    clear b7 cx gi cV;go_wp2_with fail
    go_roundw
    case rel=>exact ⟨j+1,dG,by go_num,gj.out,⟨_,_,rfl⟩,gT.out⟩
    case measure=>simp [intOf];omega
   ·have e2':(a1==2)=false:=by simpa using e2
    by_cases e5:a1=5
    ·subst e5;obtain ⟨h0,h1⟩:=h5j rfl;have jm:x1=5/\x2=a2+(n:Int):=by
      have e:mi ar n (5,a2)=(5,a2+(n:Int)):=by unfold mi;rw [ay (by simp),aA rfl]
      have:=HX.out;rw [e] at this;exact ⟨congrArg Prod.fst this,congrArg Prod.snd this⟩
     obtain ⟨e1,e3⟩:=jm;subst e1;subst e3;clear HX;go_wp2_with (at_builtin;go_must (refine wpList_append_lies _ rfl _ _ _ rfl w.heap.size 99 ii _ 2 16 Tryz.underlying100 hi fp dQ eF rfl (by omega) (.slice yo j yc) j AC rfl ?mR _ 1 _ [.int .i64 5,.int .i64 (a2+(n:Int))] rfl rfl ?kC ?Hr (by omega) ?tL ?jc ?kI _ rfl ?_))
     case mR=>exact (World.ownsRow.alloc HR.out _).alloc _
     try case kC=>exact World.news_of_block rx.out
     case Hr=>simp [Value.oneCell']
     case tL=>unfold maxLen;omega
     case jc=>omega
     case kI=>first|omega|(simp;omega)
     intro g cap2 w2 b7 cx gi cV;have gj:Hid (Below w.heap.size w w2):=(lu.out).grown cx (by simp;omega) (fun k hk=>((World.ownsRow.lt HR.out k hk).1));have gT:Hid (w2.ownsRow w.heap.size 99 2 (.slice (some ⟨g,0,none⟩) (j+1) cap2) (j+1) (acs ((l.take (j+1)).map (mi ar n)))):=by rw [HS.out];exact b7
     clear b7 cx gi cV;go_wp2_with fail
     go_roundw
     case rel=>exact ⟨j+1,dG,by go_num,gj.out,⟨_,_,rfl⟩,gT.out⟩
     case measure=>simp [intOf];omega
    ·have e5':(a1==5)=false:=by simpa using e5
     have jm:x1=a1/\x2=a2:=by
      have e:mi ar n (a1,a2)=(a1,a2):=by unfold mi;rw [ay e2,ay e5]
      have:=HX.out;rw [e] at this;exact ⟨congrArg Prod.fst this,congrArg Prod.snd this⟩
     obtain ⟨e1,e3⟩:=jm;subst e1;subst e3;clear HX;go_wp2_with (at_builtin;go_must (refine wpList_append_lies _ rfl _ _ _ rfl w.heap.size 99 ii _ 2 16 Tryz.underlying100 hi fp dQ eF rfl (by omega) (.slice yo j yc) j AC rfl ?GC _ 1 _ [.int .i64 x1,.int .i64 x2] rfl rfl ?Ar ?h1C (by omega) ?Rf ?wP ?AP _ rfl ?_))
     case GC=>exact (World.ownsRow.alloc HR.out _).alloc _
     try case Ar=>exact World.news_of_block rx.out
     case h1C=>simp [Value.oneCell']
     case Rf=>unfold maxLen;omega
     case wP=>omega
     case AP=>first|omega|(simp;omega)
     intro g cap2 w2 b7 cx gi cV;have gj:Hid (Below w.heap.size w w2):=(lu.out).grown cx (by simp;omega) (fun k hk=>((World.ownsRow.lt HR.out k hk).1));have gT:Hid (w2.ownsRow w.heap.size 99 2 (.slice (some ⟨g,0,none⟩) (j+1) cap2) (j+1) (acs ((l.take (j+1)).map (mi ar n)))):=by rw [HS.out];exact b7
     clear b7 cx gi cV;go_wp2_with fail
     go_roundw
     case rel=>exact ⟨j+1,dG,by go_num,gj.out,⟨_,_,rfl⟩,gT.out⟩
     case measure=>simp [intOf];omega
  ·have HK:Hid (j=l.length):=by show _=_;omega
   have M7:decide ((j:Int)<(l.length:Int))=false:=bn (by omega);go_wp2_with fail
   go_ret
   refine ⟨_,rfl,HB.out,?_⟩
   have:=HR.out;rw [bN (by omega)] at this;show wr.ownsRow _ _ _ (.slice yo j yc) l.length (acs (l.map (mi ar n)))
   rw [<-HK.out];exact this
theorem JW (n:Nat):(madeCells #[Value.bool false] n).toList=bls (List.replicate n false):=by
 rw [toList_madeCells_one];simp [bls]
structure Mk (nd:List Ln) (rt:Ln) (ops:List Int) (S:List Bool):Prop where
 len:S.length=nd.length
 r1:∀a∈rt,a.1=5->S[a.2.toNat]?=some true
 r2:∀p∈ops,S[p.toNat]?=some true
 so:∀R:Nat->Prop,(∀a∈rt,a.1=5->R a.2.toNat)->(∀p∈ops,R p.toNat)->(∀i,R i->∀a∈nd[i]?.getD [],a.1=5->R a.2.toNat)->∀i:Nat,S[i]?=some true->R i
theorem JV {nd:List Ln} {rt:Ln} {ops:List Int} (h1:∀a∈rt,a.1=5->0<=a.2/\a.2<nd.length) (h2:∀p∈ops,0<=p/\p<nd.length):Mk nd rt ops (r7 ops (mrk rt (List.replicate nd.length false))):=by
 refine ⟨by rw [rZ,lh];simp,fun a ha h5=>?_,fun p hp=>?_,fun R k1 k2 _ i hi=>?_⟩
 ·exact (r6 _ _ _).2 (.inl ((om _ _ _).2 (.inr ⟨by have:=h1 a ha h5;simp;omega,a,ha,h5,rfl⟩)))
 ·exact (r6 _ _ _).2 (.inr ⟨by have:=h2 p hp;rw [lh];simp;omega,p,hp,rfl⟩)
 ·rcases (r6 _ _ _).1 hi with hi|⟨_,p,hp,rfl⟩
  ·rcases (om _ _ _).1 hi with hi|⟨_,a,ha,h5,rfl⟩
   ·have:=bm hi;simp at this
   ·exact k1 a ha h5
  ·exact k2 p hp
theorem Mk.pas {nd:List Ln} {rt:Ln} {ops:List Int} {S:List Bool} (h:Mk nd rt ops S):Mk nd rt ops (pas nd S.length S):=
 ⟨by rw [wd];exact h.len,fun a ha h5=>wb _ _ _ (h.r1 a ha h5),fun p hp=>wb _ _ _ (h.r2 p hp),fun R k1 k2 k3=>xR k3 _ _ (h.so R k1 k2 k3)⟩
def ClS (nd:List Ln) (S:List Bool):Prop:=∀i:Nat,S[i]?=some true->∀a∈nd[i]?.getD [],a.1=5->S[a.2.toNat]?=some true
theorem Rv {nd:List Ln} {S:List Bool} (hl:S.length=nd.length) (hv:∀l∈nd,∀a∈l,a.1=5->0<=a.2/\a.2<nd.length) (h:cT (pas nd S.length S)<=cT S):pas nd S.length S=S/\ClS nd S:=by
 obtain ⟨h1,h2⟩:=FM _ _ h;refine ⟨h1,fun i hi a ha h5=>?_⟩
 have ly:=(aP.1 hi).1;have:=h2 i ly hi;rw [<-this];refine (om _ _ _).2 (.inr ⟨?_,a,ha,h5,rfl⟩)
 rw [aj (by omega)] at ha;have:=hv _ (aE (by omega)) a ha h5;omega
theorem Ov {s:Im} {S:List Bool} (h:Mk (s.nds.map (·.1)) (s.cur++(s.ks.map (·.rs)).reverse.flatten) (gA s.ks).reverse S) (hc:ClS (s.nds.map (·.1)) S) {c:Cf} {rk:Int->Nat} (hi:Ii c rk s):mM s=cT S:=by
 have kG:∀a:Int×Int,a∈flK s.ks↔a∈(s.ks.map (·.rs)).reverse.flatten:=by
  intro a;unfold flK;rw [fJ,List.mem_flatten];constructor
  ·rintro ⟨f,hf,ha⟩
   exact ⟨f.rs,by rw [eN];exact bZ.2 ⟨f,hf,rfl⟩,ha⟩
  ·rintro ⟨l,hl,ha⟩
   rw [eN] at hl;obtain ⟨f,hf,rfl⟩:=bZ.1 hl;exact ⟨f,hf,ha⟩
 have nK:∀a,a∈s.cur++flK s.ks↔a∈s.cur++(s.ks.map (·.rs)).reverse.flatten:=by
  intro a;rw [be,be,kG]
 have lx:∀i:Nat,(s.nds.map (·.1))[i]?.getD []=(s.nds[i]?.getD ([],false)).1:=by
  intro i;rw [cH];cases s.nds[i]?<;>rfl
 refine JR s S (by rw [h.len,bK]) (fun a ha h5=>?_) (fun p hp=>?_) (fun n hn a ha h5=>((hi.nd n hn).2.1 a ha).2.2 h5) (fun a ha h5=>h.r1 a ((nK a).1 ha) h5) (fun p hp=>h.r2 p (by rw [eN];exact hp)) (fun i lj a ha h5=>hc i lj a (by rw [lx];exact ha) h5) (fun R k1 k2 k3=>h.so R (fun a ha=>k1 a ((nK a).2 ha)) (fun p hp=>k2 p (by rw [eN] at hp;exact hp)) (fun i hR a ha=>k3 i hR a (by rw [<-lx];exact ha)))
 ·rcases be.1 ha with ha|ha
  ·exact (hi.it a ha).2.2 h5
  ·obtain ⟨f,hf,ha⟩:=fJ.1 ha;exact ((hi.fr f hf).2.2.1 a ha).2.2 h5
 ·obtain ⟨f,hf,hq⟩:=fJ.1 hp;by_cases hk:f.k=1
  ·rw [aA hk] at hq;simp only [dE] at hq;subst hq;exact (hi.fr f hf).2.1 hk
  ·rw [ay hk] at hq;simp at hq
theorem J6 (l:List Int) (m:Nat) (h:m<l.length):(jp l)[m]?=some (.int .i64 l[m]):=by simp [jp,h]
theorem LC (bys:List Ln) (j:Nat) (h:j<bys.length):(bys.take (j+1)).flatten=(bys.take j).flatten++bys[j]:=by
 rw [aT h,List.flatten_append];simp
theorem JN (l:List Int) (j:Nat) (h:j<l.length) (S:List Bool):r7 (l.take (j+1)) S=(r7 (l.take j) S).set l[j].toNat true:=by
 rw [aT h,JT];rfl
theorem Oc (w:World) (T g:Nat) (fv:Value) (mn:Int) (c:Cf) (nds:List (Ln×Bool)) (stp out:Int) (bys:List Ln) (ops:List Int) (h:WP w T g fv mn c nds stp out bys ops) (iv:Value) (cur:Ln) (hr:Rd w T iv cur)
 (hn:nds.length<=1000000) (hc:cur.length<=10000000) (gZ:∀l∈bys,l.length<=10000000) (ahx:bys.length<=1000000) (rC:ops.length<=1000000) (oC:∀n∈nds,n.1.length<=1000)
 (ry:∀a∈cur++bys.flatten,a.1=5->0<=a.2/\a.2<nds.length) (pD:∀p∈ops,0<=p/\p<nds.length) (Eu:∀n∈nds,∀a∈n.1,a.1=5->0<=a.2/\a.2<nds.length):
 Calls Tryz.prog 182 #[.pointer (some ⟨g,0,none⟩),iv] w fun e w'=>∃S:List Bool,Mk (nds.map (·.1)) (cur++bys.flatten) ops S/\ClS (nds.map (·.1)) S/\e=.returned (.int .i64 (cT S:Nat))/\Below w.heap.size w w':=by
 obtain ⟨ib,Dv,jZ,bB,bX⟩:=bE Tryz.infoBool;obtain ⟨av,bv,ov,vs,bs,hw⟩:=h;have HM:Hid (∀w',Below w.heap.size w w'->WB w' T g fv mn c nds stp out bys ops av bv ov vs bs):=fun w' hb=>hw.old hb
 have j7:Hid (∀w',Below w.heap.size w w'->Rd w' T iv cur):=fun w' hb=>hr.old hb
 obtain ⟨ao,ac,rfl⟩:=aU hw.ra;obtain ⟨bo,bc,rfl⟩:=aU hw.rb;obtain ⟨oo,oc,rfl⟩:=aU hw.ro;obtain ⟨io,ic,rfl⟩:=hr.form;obtain ⟨_,_,_,_,_,c5,_,_,_⟩:=hw.cells;have qH:=hw.lt;have mZ:=hw.hT;have HV1:Hid _:=ry;have ze:Hid _:=pD;have oW:Hid _:=Eu;have L7:Hid _:=gZ;have NC:Hid _:=oC;clear hw hr ry pD Eu gZ oC;go_enter Tryz.func182,Tryz.ntmps182
 go_wp2_with (at_make;go_must (refine fI _ rfl _ _ 238 rfl w.heap.size 4 ib _ 1 Tryz.underlying238 Dv jZ bB _ _ _ _ nds.length rfl rfl (by simp) (by simp) ?mb ?ml ?mbase ?_))
 case mb=>rw [bX];omega
 case ml=>unfold maxLen;omega
 case mbase=>omega
 intro w1 dR kE;have eI:Hid (Below w.heap.size w w1):=(ai _ _).grown (row:=none) kE (ah _) (fun k hk=>by cases hk);have lN:Hid (w1.ownsRow w.heap.size 4 1 (.slice (some ⟨w.heap.size,0,none⟩) nds.length nds.length) nds.length (bls (List.replicate nds.length false))):=by rw [<-JW];exact dR
 have HS1:Hid ((mrk (cur++bys.flatten) (List.replicate nds.length false)).length=nds.length):=by show _=_;rw [lh];simp
 have Bn:Hid (Mk (nds.map (·.1)) (cur++bys.flatten) ops (r7 ops (mrk (cur++bys.flatten) (List.replicate nds.length false)))):=by
  have:=JV (nd:=nds.map (·.1)) (rt:=cur++bys.flatten) (ops:=ops) (by rw [bK];exact HV1.out) (by rw [bK];exact ze.out);rw [bK] at this;exact this
 have kp:Hid _:=FF (.slice io cur.length ic) cur w.heap.size nds.length nds.length w.heap.size T (List.replicate nds.length false) w1 (j7.out w1 eI.out) (by simp) lN.out (fun a ha h5=>by have:=HV1.out a (by simp [ha]) h5;simpa using this) mZ hc;clear dR kE lN c5;go_wp2_with fail
 refine (show Calls _ _ _ _ _ from kp.out).mono ?_
 rintro e w2 ⟨rfl,ik,AW⟩
 clear kp;have gj:Hid (Below w.heap.size w w2):=eI.out.trans ik.bel;have gT:Hid (w2.ownsRow w.heap.size 4 1 (.slice (some ⟨w.heap.size,0,none⟩) nds.length nds.length) nds.length (bls (mrk (cur++(bys.take 0).flatten) (List.replicate nds.length false)))):=by
  rw [du,List.flatten_nil,cA];exact AW
 clear ik AW eI;go_wp2_with fail
 go_loopw [6] (fun y wr=>∃j:Nat,j<=bys.length/\y=.int .i64 j/\w.heap.size<=wr.heap.size/\Hid (Below w.heap.size w wr)/\Hid (wr.ownsRow w.heap.size 4 1 (.slice (some ⟨w.heap.size,0,none⟩) nds.length nds.length) nds.length (bls (mrk (cur++(bys.take j).flatten) (List.replicate nds.length false))))) (fun y _=>bys.length-(intOf y).toNat)
 case atStart=>exact ⟨0,aF _,rfl,gj.out.size,gj.out,gT.out⟩
 case round=>
  clear gj gT;obtain ⟨j,hj,rfl,iG,HB,HR⟩:=hrel;have oR:=HM.out wr HB.out;obtain ⟨_,_,_,_,_,c5,c6,c7,_⟩:=oR.cells;have iQ:=oR.lt;by_cases dG:j<bys.length
  ·obtain ⟨q,cap',hq,vg,dX⟩:=oR.rb.form (by omega);cases hq
   have gZ:=oR.bl;have hjb:j<bs.length:=by omega
   have xv:=aH oR.rb j _ (aj hjb);have ua:=oR.rl j _ _ (aj hjb) (aj dG);have HBV:Hid _:=LC bys j dG;have nK:=aE dG;generalize bs[j]=v at*;obtain ⟨vo,vc,rfl⟩:=ua.form;have HC:Hid _:=FF _ bys[j] w.heap.size nds.length nds.length w.heap.size T _ wr ua (by rw [lh];simp) HR.out (fun a ha h5=>by rw [lh];have:=HV1.out a (by simp only [be,List.mem_flatten];exact .inr ⟨_,nK,ha⟩) h5;simpa using this) mZ (L7.out _ nK);rw [<-FW,bI,<-HBV.out] at HC;clear ua oR;have hlj:=L7.out _ nK;generalize bys[j]=l at*;go_wp2_with fail
   refine (show Calls _ _ _ _ _ from HC.out).mono ?_
   rintro e w3 ⟨rfl,df,xx⟩
   clear HC;have lu:Hid (Below w.heap.size w w3):=HB.out.trans df.bel;have xA:Hid _:=xx;clear df xx;go_wp2_with fail
   go_roundw
   case rel=>exact ⟨j+1,dG,by go_num,lu.out.size,lu.out,xA.out⟩
   case measure=>simp [intOf];omega
  ·have Sv:decide ((j:Int)<(bys.length:Int))=false:=bn (by omega);have IN:Hid (wr.ownsRow w.heap.size 4 1 (.slice (some ⟨w.heap.size,0,none⟩) nds.length nds.length) nds.length (bls (r7 (ops.take 0) (mrk (cur++bys.flatten) (List.replicate nds.length false))))):=by
    have:=HR.out;rw [bN (by omega)] at this;exact this
   clear oR HR;go_wp2_with fail
   obtain ⟨wo,Er⟩:∃wo,wo=wr:=⟨_,rfl⟩;rw [<-Er];have I0:Hid (Below w.heap.size w wo):=by rw [Er];exact HB.out
   have Nz:Hid (wo.ownsRow w.heap.size 4 1 (.slice (some ⟨w.heap.size,0,none⟩) nds.length nds.length) nds.length (bls (r7 (ops.take 0) (mrk (cur++bys.flatten) (List.replicate nds.length false))))):=by rw [Er];exact IN.out
   clear IN HB Er iG c5 c6 c7 iQ Sv hj dG;generalize mrk (cur++bys.flatten) (List.replicate nds.length false)=S1 at*
   go_loopw [7] (fun y wx=>∃j:Nat,j<=ops.length/\y=.int .i64 j/\w.heap.size<=wx.heap.size/\Hid (Below w.heap.size w wx)/\Hid (wx.ownsRow w.heap.size 4 1 (.slice (some ⟨w.heap.size,0,none⟩) nds.length nds.length) nds.length (bls (r7 (ops.take j) S1)))) (fun y _=>ops.length-(intOf y).toNat)
   case atStart=>exact ⟨0,aF _,rfl,I0.out.size,I0.out,Nz.out⟩
   case round=>
    clear I0 Nz;obtain ⟨j,hj,rfl,iG,HB,HR⟩:=hrel;have oR:=HM.out wr HB.out;obtain ⟨_,_,_,_,_,c5,c6,c7,_⟩:=oR.cells;have iQ:=oR.lt;by_cases dG:j<ops.length
    ·obtain ⟨q,cap',hq,vg,dX⟩:=oR.ro.form (by omega);cases hq
     have xv:=aH oR.ro j _ (J6 ops j dG);obtain ⟨lK,An⟩:=ze.out _ (aE dG);have HO:Hid _:=JN ops j dG S1;have IT:Hid (q≠w.heap.size):=by
      intro e;obtain ⟨cs,hh⟩:=JF oR.ro;obtain ⟨ds,Kz⟩:=JF HR.out;rw [e,Kz] at hh;simp at hh
     have dI:=IT.out;generalize ops[j]=p at*;obtain ⟨m,rfl⟩:=aZ lK;have hm:m<nds.length:=by omega
     have yx:m<(r7 (ops.take j) S1).length:=by rw [rZ,HS1.out];exact hm
     have d0:=aH HR.out m _ (ID _ _ yx);have f0:=To HR.out m;have gT:Hid _:=i8 (j:=m) (.bool true) HR.out;rw [IC] at gT;rw [bC] at HO;have hsb:w.heap.size<wr.heap.size:=by obtain ⟨ds,Kz⟩:=JF HR.out;exact (ae.1 Kz).1
     clear oR c5 c6 IT;generalize (r7 (ops.take j) S1)[m]=bb at*;generalize r7 (ops.take j) S1=SJ at*;go_wp2_with fail
     go_roundw
     case rel=>exact ⟨j+1,dG,by go_num,by simp [World.setCell];omega,HB.out.setCell (by exact ah _) _,by rw [HO.out];exact gT.out⟩
     case measure=>simp [intOf];omega
    ·have Sv:decide ((j:Int)<(ops.length:Int))=false:=bn (by omega);have IN:Hid (wr.ownsRow w.heap.size 4 1 (.slice (some ⟨w.heap.size,0,none⟩) nds.length nds.length) nds.length (bls (r7 ops S1))):=by
      have:=HR.out;rw [bN (by omega)] at this;exact this
     have Bq:Hid ((r7 ops S1).length=nds.length):=by show _=_;rw [rZ];exact HS1.out
     have HC:Hid _:=Mu w.heap.size nds.length nds.length (r7 ops S1) wr Bq.out.symm (bO IN.out (aF _)) (by rw [Bq.out];omega);clear oR HR c5 c6;go_wp2_with fail
     refine (show Calls _ _ _ _ _ from HC.out).mono ?_
     rintro e w5 ⟨rfl,rfl⟩
     clear HC Sv c7 iQ;go_wp2_with fail
     obtain ⟨wo2,Kd⟩:∃wo2,wo2=w5:=⟨_,rfl⟩;rw [<-Kd];have I0:Hid (Below w.heap.size w wo2):=by rw [Kd];exact HB.out
     have Nz:Hid (wo2.ownsRow w.heap.size 4 1 (.slice (some ⟨w.heap.size,0,none⟩) nds.length nds.length) nds.length (bls (r7 ops S1))):=by rw [Kd];exact IN.out
     clear IN HB Kd iG hj dG Bq HS1;generalize r7 ops S1=S3 at*
     go_loopw [8,9] (fun y z wx=>∃(S:List Bool) (n:Nat),n<=nds.length/\y=.int .i64 n/\z=.int .i64 (cT S:Nat)/\w.heap.size<=wx.heap.size/\Hid (Below w.heap.size w wx)/\Hid (wx.ownsRow w.heap.size 4 1 (.slice (some ⟨w.heap.size,0,none⟩) nds.length nds.length) nds.length (bls S))/\Hid (Mk (nds.map (·.1)) (cur++bys.flatten) ops S)/\Hid (cT S<=n->ClS (nds.map (·.1)) S/\n=cT S)) (fun y _ _=>nds.length-(intOf y).toNat)
     case atStart=>
      refine ⟨S3,0,aF _,rfl,rfl,I0.out.size,I0.out,Nz.out,Bn.out,fun h0=>⟨fun i hi=>?_,by omega⟩⟩
      have hz:∀(l:List Bool) (i:Nat),cT l=0->l[i]?≠some true:=by
       intro l;induction l with
       |nil=>intro i _;simp
       |cons x l ih=>
        intro i h;rw [cT] at h;cases i with
        |zero=>intro e;simp at e;subst e;simp at h
        |succ i=>rw [ap];exact ih i (by omega)
      exact absurd hi (hz S3 i (by omega))
     case round=>
      clear I0 Nz Bn;obtain ⟨S,n,GH,rfl,rfl,iG,HB,HR,Bn,En⟩:=hrel;have qm:Hid (S.length=nds.length):=by have:=Bn.out.len;rw [bK] at this;exact this
      have hcS:cT S<=nds.length:=by have:=LB S;rw [qm.out] at this;exact this
      by_cases bF:n<cT S
      ·have Sv:decide ((n:Int)<(cT S:Int))=true:=bG (by omega);generalize hCS:cT S=CS at*;have ju:Hid (cT S=CS):=hCS;clear hCS;go_wp2_with fail
       obtain ⟨wo3,Kc⟩:∃wo3,wo3=wr:=⟨_,rfl⟩;rw [<-Kc];have I0:Hid (Below w.heap.size w wo3):=by rw [Kc];exact HB.out
       have Nz:Hid (wo3.ownsRow w.heap.size 4 1 (.slice (some ⟨w.heap.size,0,none⟩) nds.length nds.length) nds.length (bls S)):=by rw [Kc];exact HR.out
       obtain ⟨SF,hSF⟩:∃SF,SF=pas (nds.map (·.1)) nds.length S:=⟨_,rfl⟩;have HSF:Hid (SF=pas (nds.map (·.1)) nds.length S):=hSF;have Xh:Hid (SF.length=nds.length):=by show _=_;rw [hSF,wd];exact qm.out
       clear HB HR Kc iG hSF Sv
       go_loopw [10] (fun y wx=>∃(r:Nat) (S':List Bool),r<=nds.length/\y=.int .i64 ((r:Int)-1)/\w.heap.size<=wx.heap.size/\Hid (Below w.heap.size w wx)/\Hid (wx.ownsRow w.heap.size 4 1 (.slice (some ⟨w.heap.size,0,none⟩) nds.length nds.length) nds.length (bls S'))/\Hid (S'.length=nds.length)/\Hid (pas (nds.map (·.1)) r S'=SF)) (fun y _=>(intOf y+1).toNat)
       case atStart=>exact ⟨nds.length,S,ah _,by go_num,I0.out.size,I0.out,Nz.out,qm.out,HSF.out.symm⟩
       case round=>
        clear I0 Nz;obtain ⟨r,S',hr,rfl,iG,HB,HR,HL,HP⟩:=hrel;have oR:=HM.out wr HB.out;obtain ⟨_,_,_,_,_,c5,_,_,_⟩:=oR.cells;have iQ:=oR.lt;cases r with
        |zero=>
         have HC:Hid _:=Mu w.heap.size nds.length nds.length SF wr Xh.out.symm (bO (by have:=HP.out;simp only [pas] at this;rw [<-this];exact HR.out) (aF _)) (by rw [Xh.out];omega);have IN:Hid (wr.ownsRow w.heap.size 4 1 (.slice (some ⟨w.heap.size,0,none⟩) nds.length nds.length) nds.length (bls SF)):=by
          have:=HP.out;simp only [pas] at this;rw [<-this];exact HR.out
         clear oR c5;go_wp2_with fail
         refine (show Calls _ _ _ _ _ from HC.out).mono ?_
         rintro e w6 ⟨rfl,rfl⟩
         clear HC;have L3:Hid (Mk (nds.map (·.1)) (cur++bys.flatten) ops SF):=by
          have:=Bn.out.pas;rw [qm.out,<-HSF.out] at this;exact this
         have YS:Hid (cT SF<=CS->ClS (nds.map (·.1)) SF/\CS=cT SF):=by
          intro iH;have hl:S.length=(nds.map (·.1)).length:=by rw [bK];exact qm.out
          have e0:pas (nds.map (·.1)) S.length S=SF:=by rw [qm.out];exact HSF.out.symm
          obtain ⟨e1,e2⟩:=Rv hl (fun l hl a ha h5=>by
           obtain ⟨m,hm,rfl⟩:=bZ.1 hl;rw [bK];exact oW.out m hm a ha h5) (by rw [e0,ju.out];exact iH)
          rw [e0] at e1;rw [e1];exact ⟨e2,ju.out.symm⟩
         go_wp2_with fail
         go_roundw
         case rel=>exact ⟨SF,CS,hcS,rfl,rfl,iG,HB.out,IN.out,L3.out,YS.out⟩
         case measure=>simp [intOf];omega
        |succ r=>
         have er:((r+1:Nat):Int)-1=(r:Int):=by omega
         rw [er];have lV:r<nds.length:=by omega
         have qU:r<S'.length:=by rw [HL.out];exact lV
         have RX:Hid (pas (nds.map (·.1)) (r+1) S'=pas (nds.map (·.1)) r (if S'[r] then mrk nds[r].1 S' else S')):=by
          show _=_
          rw [pas,aj qU,cH,aj lV];rfl
         rw [HP.out] at RX;have d0:=aH HR.out r _ (ID _ _ qU);have Gu:decide ((0:Int)<=(r:Int))=true:=bG (by omega);cases hb:S'[r]
         ·rw [hb] at d0 RX;rw [ay (by simp)] at RX;clear oR c5 hb;go_wp2_with fail
          go_roundw
          case rel=>exact ⟨r,S',by omega,rfl,iG,HB.out,HR.out,HL.out,RX.out.symm⟩
          case measure=>simp [intOf]
         ·rw [hb] at d0 RX;rw [aA rfl] at RX;obtain ⟨q,cap',hq,vg,dX⟩:=oR.ra.form (by omega);cases hq
          have qh:r<vs.length:=by rw [oR.vl];exact lV
          obtain ⟨n0,n1⟩:=pz vs nds r _ _ (aj qh) (aj lV);have k0:=aH oR.ra _ _ n0;have ua:=oR.rv r _ _ (aj qh) (aj lV);have nK:=aE lV;generalize vs[r]=v at*;obtain ⟨vo,vc,rfl⟩:=ua.form;have HC:Hid _:=FF _ nds[r].1 w.heap.size nds.length nds.length w.heap.size T S' wr ua HL.out.symm HR.out (fun a ha h5=>by rw [HL.out];exact oW.out _ nK a ha h5) mZ (by have:=NC.out _ nK;omega);clear ua oR n0 n1 hb;have j9:=NC.out _ nK;have YH:Hid ((mrk nds[r].1 S').length=nds.length):=by show _=_;rw [lh];exact HL.out
          generalize nds[r].1=ln at*;go_wp2_with fail
          refine (show Calls _ _ _ _ _ from HC.out).mono ?_
          rintro e w7 ⟨rfl,AS,hR7⟩
          clear HC;have S6:Hid (Below w.heap.size w w7):=HB.out.trans AS.bel;have HR7:Hid _:=hR7;clear AS hR7;go_wp2_with fail
          go_roundw
          case rel=>exact ⟨r,_,by omega,rfl,S6.out.size,S6.out,HR7.out,YH.out,RX.out.symm⟩
          case measure=>simp [intOf]
      ·have Sv:decide ((n:Int)<(cT S:Int))=false:=bn (by omega);obtain ⟨xv,dI⟩:=En.out (by omega);have L5:Hid _:=xv;have me:Hid (n=cT S):=dI;clear xv dI;go_wp2_with fail
       go_ret
       exact ⟨S,Bn.out,L5.out,by rw [<-me.out];rfl,HB.out⟩
end Go.Proofs.YtnndoagpbcacdabGreatDoor
