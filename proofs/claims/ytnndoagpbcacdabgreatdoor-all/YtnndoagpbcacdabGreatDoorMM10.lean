import Derived.Test.YtnndoagpbcacdabGreatDoorMM8
namespace Go.Proofs.YtnndoagpbcacdabGreatDoor
set_option maxHeartbeats 8000000
set_option maxRecDepth 100000
open Go.RowKit
theorem uG:∀(n:Nat) (s:Ms),hZ (n+1) s=jO (hZ n s)
 |0,_=>rfl
 |n+1,s=>by rw [hZ,uG n (jO s)];rfl
theorem uH:∀(n:Nat) (s:Ms),takeL (n+1) s=takeL n s++[mG (hZ n s)]
 |0,_=>rfl
 |n+1,s=>by rw [takeL,uH n (jO s)];rfl
theorem xI:∀(n:Nat) (s:Ms),(takeL n s).length=n
 |0,_=>rfl
 |n+1,s=>by simp [takeL,xI n]
theorem sF:∀(n:Nat) (s:Ms),(hZ n s).nds.length<=s.nds.length+n/\(hZ n s).fre.length<=s.fre.length
 |0,_=>⟨ah _,ah _⟩
 |n+1,s=>by
  have h:=sF n (jO s);have h2:(jO s).nds.length<=s.nds.length+1/\(jO s).fre.length<=s.fre.length:=by
   unfold jO;split
   ·simp
   ·rename_i h;rw [h];simp
  rw [hZ];omega
theorem z8 (n:Nat) (B mb:Nat) (fv:Value) (c:Cf) (s:Ms) (K:Nat->Prop) (sv rv nv ev:Value) (vs:List Value) (w:World) (h:MSt w B mb fv c s K sv rv nv ev vs) (hn:n<=100) (kV:s.nds.length<=1099511627000) (gS:s.fre.length<=1099511627770):
 Calls Tryz.prog 99 #[.pointer (some ⟨mb,0,none⟩),.int .i64 n] w fun e w'=>∃v,e=.returned v/\Below B w w'/\dm K w w'/\w'.ownsRow w.heap.size 3 1 v n (jp (takeL n s))/\MP w' B mb fv c (hZ n s) (fun k=>K k\/v.ownBlock=some k):=by
 obtain ⟨ii,hi,fp,dQ,eF⟩:=bE Tryz.infoIntM;have hBw:B<=w.heap.size:=by have:=h.lo;have:=h.lt;omega
 have HT:Hid (∀k,ev.ownBlock=some k->k<w.heap.size):=h.mlt.e;have HM:Hid (MSt w B mb fv c s K sv rv nv ev vs):=h;have HKL:Hid (∀k,K k->k<w.heap.size):=h.klt;clear h;go_enter Tryz.func99,Tryz.ntmps99
 go_wp2_with fail
 go_loopw [5,6] (fun y z wr=>∃j:Nat,j<=n/\z=.int .i64 j/\w.heap.size<=wr.heap.size/\Hid (Below B w wr)/\Hid (dm K w wr)/\(∃yo yc,y=.slice yo j yc)/\Hid (wr.ownsRow w.heap.size 3 1 y j (jp (takeL j s)))/\Hid (∃nv' ev' vs',MSt wr B mb fv c (hZ j s) K sv rv nv' ev' vs'/\ev'.ownBlock=ev.ownBlock)) (fun _ z _=>n-(intOf z).toNat)
 case atStart=>exact ⟨0,by omega,rfl,ah _,ai _ _,dm.refl _ _,⟨none,0,rfl⟩,aM _ _ _ _,nv,ev,vs,HM.out,rfl⟩
 case round=>
  clear HM;obtain ⟨j,hj,rfl,iG,HB,HK,⟨yo,yc,rfl⟩,HR,HX⟩:=hrel;by_cases bF:j<n
  ·obtain ⟨nv1,ev1,vs1,fR,mU⟩:=HX.out;have CK:Hid (ev1.ownBlock=ev.ownBlock):=mU;have yz:=sF j s;have HC:Hid _:=Dc B mb fv c (hZ j s) (fun k=>K k\/(Value.slice yo j yc).ownBlock=some k) sv rv nv1 ev1 vs1 wr (fR.moreK fun k hk=>by
    rcases hk with hk|hk
    ·exact .inl hk
    ·exact .inr ⟨(HR.out.lt k hk).2,jC HR.out fR.blk (by decide) k hk,gu HR.out fR.rs (by decide) k hk,gu HR.out fR.rr (by decide) k hk,gu HR.out fR.rn (by decide) k hk,fun e=>by
      rw [mU] at e;have:=HT.out k e;have:=(HR.out.lt k hk).1;omega⟩) (by omega) (by omega)
   have HS:Hid (jp (takeL (j+1) s)=jp (takeL j s)++[.int .i64 (mG (hZ j s))]):=by show _=_;rw [uH,yb]
   have HP:Hid (jO (hZ j s)=hZ (j+1) s):=(uG j s).symm;rw [HP.out] at HC;clear fR mU HX yz;generalize mG (hZ j s)=p at*;go_wp2_with fail
   refine (show Calls _ _ _ _ _ from HC.out).mono ?_
   rintro e w1 ⟨rfl,bB,eA,nv2,ev2,vs2,gK,mT⟩
   clear HC;have eI:Hid (Below B w w1):=HB.out.trans bB;have fH:=bB.size;have mr:Hid (dm K w w1):=HK.out.trans (fun k hk hl=>eA k (.inl hk) hl) iG;have lN:Hid (w1.ownsRow w.heap.size 3 1 (.slice yo j yc) j (jp (takeL j s))):=j8 HR.out eA (fun k hk=>.inr hk);have oP:Hid (MSt w1 B mb fv c (hZ (j+1) s) K sv rv nv2 ev2 vs2):=gK.moreK (fun k hk=>.inl (.inl hk));have t7:Hid (ev2.ownBlock=ev.ownBlock):=mT.trans CK.out;clear bB eA gK mT HB HK HR;go_wp2_with (at_builtin;go_must (refine wpList_append_lies _ rfl _ _ _ rfl w.heap.size 3 ii _ 1 8 Tryz.underlying22 hi fp dQ eF rfl (by omega) (.slice yo j yc) j (jp (takeL j s)) rfl ?hown _ 1 _ [.int .i64 p] rfl rfl ?dA ?h1 (by omega) ?kj ?cP ?cX _ rfl ?_))
   case hown=>exact World.ownsRow.alloc lN.out _
   try case dA=>exact World.news_of_block (az w1 _)
   case h1=>simp [Value.oneCell']
   case kj=>unfold maxLen;omega
   case cP=>omega
   case cX=>first|omega|(simp;omega)
   intro g cap2 w2 b7 cx gi cV;have WF:=bM w1 (Obj.cells #[.int .i64 p] 3);have HMA:Hid (MSt w2 B mb fv c (hZ (j+1) s) K sv rv nv2 ev2 vs2):=MSt.grownI (oP.out.old WF) (aQ lN.out WF) cx (fun k hk e=>by
    rw [t7.out] at hk;have:=HT.out k hk;have:=(lN.out.lt k e).1;omega)
   have oX:Hid (Below w.heap.size w1 w2):=(WF.mono (by omega)).grown cx (by simp;omega) (fun k hk=>((lN.out.lt k hk).1));have gT:Hid (w2.ownsRow w.heap.size 3 1 (.slice (some ⟨g,0,none⟩) (j+1) cap2) (j+1) (jp (takeL (j+1) s))):=by rw [HS.out];exact b7
   clear b7 cx gi cV;have k9:=oX.out.size;go_wp2_with fail
   go_roundw
   case rel=>exact ⟨j+1,bF,by go_num,by omega,eI.out.trans (oX.out.mono hBw),mr.out.trans (fun k hk _=>oX.out.block k (HKL.out k hk)) (by omega),⟨_,_,rfl⟩,gT.out,nv2,ev2,vs2,HMA.out,t7.out⟩
   case measure=>simp [intOf];omega
  ·have Dt:j=n:=by omega
   have hd:decide ((j:Int)<(n:Int))=false:=by simp;omega
   have jz:¬(j:Int)<(n:Int):=by omega
   have HJ:Hid (j=n):=Dt;have IX:Hid (MP wr B mb fv c (hZ j s) (fun k=>K k\/(Value.slice yo j yc).ownBlock=some k)):=by
    obtain ⟨nv1,ev1,vs1,fR,mU⟩:=HX.out;exact ⟨_,_,_,_,_,fR.moreK fun k hk=>by
     rcases hk with hk|hk
     ·exact .inl hk
     ·exact .inr ⟨(HR.out.lt k hk).2,jC HR.out fR.blk (by decide) k hk,gu HR.out fR.rs (by decide) k hk,gu HR.out fR.rr (by decide) k hk,gu HR.out fR.rn (by decide) k hk,fun e=>by
       rw [mU] at e;have:=HT.out k e;have:=(HR.out.lt k hk).1;omega⟩⟩
   clear Dt;go_wp2_with fail
   go_ret
   exact ⟨_,rfl,HB.out,HK.out,by rw [<-HJ.out];exact HR.out,by rw [<-HJ.out];exact IX.out⟩
theorem Dj (l:Ln) (j:Nat) (h:j<l.length) (ar:Ln) (ps:List Int):cL (l.take (j+1)) ar ps=cL (l.take j) ar ps++[iP ar ps l[j]]:=by
 unfold cL;rw [aT h,cz];rfl
theorem Za (l ar:Ln) (ps:List Int) (lv av pv:Value) (T Ba Bp:Nat) (w:World) (hT:T<=w.heap.size) (mx:eL w T lv l) (AT:w.ownsRow Ba 90 2 av ar.length (acs ar)) (Kl:w.ownsRow Bp 3 1 pv ps.length (jp ps)) (hl:l.length<=1000) (Yd:ar.length<=1000) (oD:ps.length<=1000):
 Calls Tryz.prog 100 #[lv,av,pv] w fun e w'=>∃v,e=.returned v/\Below w.heap.size w w'/\w'.ownsRow w.heap.size 90 2 v l.length (acs (cL l ar ps)):=by
 obtain ⟨ii,hi,fp,dQ,eF⟩:=bE Tryz.infoItem;obtain ⟨lo,lc,rfl,yB,uq,jA⟩:=mx;obtain ⟨ao,ac,rfl⟩:=aU AT;obtain ⟨po,pc,rfl⟩:=aU Kl;have S7:Hid _:=AT;have HPV:Hid _:=Kl;unfold maxLen at uq;clear AT Kl;go_enter Tryz.func100,Tryz.ntmps100
 go_wp2_with fail
 go_loopw [7,13] (fun y z wr=>∃j:Nat,j<=l.length/\z=.int .i64 j/\Hid (Below w.heap.size w wr)/\(∃yo yc,y=.slice yo j yc)/\Hid (wr.ownsRow w.heap.size 90 2 y j (acs (cL (l.take j) ar ps)))) (fun _ z _=>l.length-(intOf z).toNat)
 case atStart=>exact ⟨0,by omega,rfl,ai _ _,⟨none,0,rfl⟩,aM _ _ _ _⟩
 case round=>
  obtain ⟨j,hj,rfl,HB,⟨yo,yc,rfl⟩,HR⟩:=hrel;have iG:=HB.out.size;by_cases dG:j<l.length
  ·rcases jA with hz|⟨b,off,rfl,Cn,cJ⟩
   ·omega
   obtain ⟨k0,k1⟩:=cJ j dG;rw [<-HB.out.cell (p:=⟨b,off+j*2,none⟩) (show b<_ by omega)] at k0;rw [<-HB.out.cell (p:=⟨b,off+j*2+1,none⟩) (show b<_ by omega)] at k1;have iB:b<wr.heap.size:=by omega
   have HS:Hid (acs (cL (l.take (j+1)) ar ps)=acs (cL (l.take j) ar ps)++[.int .i64 (iP ar ps l[j]).1,.int .i64 (iP ar ps l[j]).2]):=by show _=_;rw [Dj l j dG,jF]
   have hI:∃x:Int×Int,x=iP ar ps l[j]:=⟨_,rfl⟩;generalize l[j]=a at*;obtain ⟨a1,a2⟩:=a;obtain ⟨x,hx⟩:=hI;rw [<-hx] at HS;obtain ⟨x1,x2⟩:=x;simp only at*;have HX:Hid ((x1,x2)=iP ar ps (a1,a2)):=hx;clear hx cJ;have rx:Hid (((((wr.alloc (Obj.cells #[.int .i64 a1,.int .i64 a2] 99)).alloc (Obj.cells #[.int .i64 x1,.int .i64 x2] 90)).alloc (Obj.cells #[.int .i64 x1,.int .i64 x2] 90))).heap[wr.heap.size+1+1]?=some (Obj.cells #[.int .i64 x1,.int .i64 x2] 90)):=by
    have:=az ((wr.alloc (Obj.cells #[.int .i64 a1,.int .i64 a2] 99)).alloc (Obj.cells #[.int .i64 x1,.int .i64 x2] 90)) (Obj.cells #[.int .i64 x1,.int .i64 x2] 90);rw [bT,bT] at this;exact this
   have lu:Hid (Below w.heap.size w (((wr.alloc (Obj.cells #[.int .i64 a1,.int .i64 a2] 99)).alloc (Obj.cells #[.int .i64 x1,.int .i64 x2] 90)).alloc (Obj.cells #[.int .i64 x1,.int .i64 x2] 90))):=((HB.out.alloc iG _).alloc (by simp;omega) _).alloc (by simp;omega) _;by_cases h5:a1=5
   ·subst h5;by_cases h0:0<=a2
    ·obtain ⟨m,rfl⟩:=aZ h0;have mz:decide ((0:Int)<=(m:Int))=true:=by simp
     by_cases hm:m<ps.length
     ·have mu:decide ((m:Int)<(ps.length:Int))=true:=by simp;omega
      have P4:(m:Int)<(ps.length:Int):=by omega
      have bW:=aQ HPV.out HB.out;obtain ⟨q,cap',hq,yp,dX⟩:=bW.form (by omega);cases hq
      have n0:=aH bW m _ (Ac ps m hm);have jm:x1=5/\x2=ps[m]:=by
       have e:iP ar ps (5,(m:Int))=(5,ps[m]):=by unfold iP;rw [aA ⟨rfl,h0,P4⟩];simp [hm]
       have:=HX.out;rw [e] at this;simpa using this
      generalize ps[m]=pm at*;obtain ⟨e1,e2⟩:=jm;subst e1;subst e2;clear bW HX;go_wp2_with (at_builtin;go_must (refine wpList_append_lies _ rfl _ _ _ rfl w.heap.size 90 ii _ 2 16 Tryz.underlying83 hi fp dQ eF rfl (by omega) (.slice yo j yc) j (acs (cL (l.take j) ar ps)) rfl ?mS _ 1 _ [.int .i64 5,.int .i64 x2] rfl rfl ?kD ?Hs (by omega) ?tM ?jd ?kJ _ rfl ?_))
      case mS=>exact ((World.ownsRow.alloc HR.out _).alloc _).alloc _
      try case kD=>exact World.news_of_block rx.out
      case Hs=>simp [Value.oneCell']
      case tM=>unfold maxLen;omega
      case jd=>omega
      case kJ=>first|omega|(simp;omega)
      intro g cap2 w2 b7 cx gi cV;have gj:Hid (Below w.heap.size w w2):=(lu.out).grown cx (by simp;omega) (fun k hk=>((HR.out.lt k hk).1));have gT:Hid (w2.ownsRow w.heap.size 90 2 (.slice (some ⟨g,0,none⟩) (j+1) cap2) (j+1) (acs (cL (l.take (j+1)) ar ps))):=by rw [HS.out];exact b7
      clear b7 cx gi cV;go_wp2_with fail
      go_roundw
      case rel=>exact ⟨j+1,dG,by go_num,gj.out,⟨_,_,rfl⟩,gT.out⟩
      case measure=>simp [intOf];omega
     ·have mu:decide ((m:Int)<(ps.length:Int))=false:=by simp;omega
      have P4:¬(m:Int)<(ps.length:Int):=by omega
      have jm:x1=5/\x2=(m:Int):=by
       have e:iP ar ps (5,(m:Int))=(5,(m:Int)):=by unfold iP;rw [ay (fun h=>P4 h.2.2),ay (fun h=>by simp at h)]
       have:=HX.out;rw [e] at this;simpa using this
      obtain ⟨e1,e2⟩:=jm;subst e1;subst e2;clear HX;go_wp2_with (at_builtin;go_must (refine wpList_append_lies _ rfl _ _ _ rfl w.heap.size 90 ii _ 2 16 Tryz.underlying83 hi fp dQ eF rfl (by omega) (.slice yo j yc) j (acs (cL (l.take j) ar ps)) rfl ?mR _ 1 _ [.int .i64 5,.int .i64 (m:Int)] rfl rfl ?kC ?Hr (by omega) ?tL ?jc ?kI _ rfl ?_))
      case mR=>exact ((World.ownsRow.alloc HR.out _).alloc _).alloc _
      try case kC=>exact World.news_of_block rx.out
      case Hr=>simp [Value.oneCell']
      case tL=>unfold maxLen;omega
      case jc=>omega
      case kI=>first|omega|(simp;omega)
      intro g cap2 w2 b7 cx gi cV;have gj:Hid (Below w.heap.size w w2):=(lu.out).grown cx (by simp;omega) (fun k hk=>((HR.out.lt k hk).1));have gT:Hid (w2.ownsRow w.heap.size 90 2 (.slice (some ⟨g,0,none⟩) (j+1) cap2) (j+1) (acs (cL (l.take (j+1)) ar ps))):=by rw [HS.out];exact b7
      clear b7 cx gi cV;go_wp2_with fail
      go_roundw
      case rel=>exact ⟨j+1,dG,by go_num,gj.out,⟨_,_,rfl⟩,gT.out⟩
      case measure=>simp [intOf];omega
    ·have mz:decide ((0:Int)<=a2)=false:=by simpa using h0
     have jm:x1=5/\x2=a2:=by
      have e:iP ar ps (5,a2)=(5,a2):=by unfold iP;rw [ay (fun h=>h0 h.2.1),ay (fun h=>by simp at h)]
      have:=HX.out;rw [e] at this;simpa using this
     obtain ⟨e1,e2⟩:=jm;subst e1;subst e2;clear HX;go_wp2_with (at_builtin;go_must (refine wpList_append_lies _ rfl _ _ _ rfl w.heap.size 90 ii _ 2 16 Tryz.underlying83 hi fp dQ eF rfl (by omega) (.slice yo j yc) j (acs (cL (l.take j) ar ps)) rfl ?GC _ 1 _ [.int .i64 5,.int .i64 x2] rfl rfl ?Ar ?h1C (by omega) ?Rf ?wP ?AP _ rfl ?_))
     case GC=>exact ((World.ownsRow.alloc HR.out _).alloc _).alloc _
     try case Ar=>exact World.news_of_block rx.out
     case h1C=>simp [Value.oneCell']
     case Rf=>unfold maxLen;omega
     case wP=>omega
     case AP=>first|omega|(simp;omega)
     intro g cap2 w2 b7 cx gi cV;have gj:Hid (Below w.heap.size w w2):=(lu.out).grown cx (by simp;omega) (fun k hk=>((HR.out.lt k hk).1));have gT:Hid (w2.ownsRow w.heap.size 90 2 (.slice (some ⟨g,0,none⟩) (j+1) cap2) (j+1) (acs (cL (l.take (j+1)) ar ps))):=by rw [HS.out];exact b7
     clear b7 cx gi cV;go_wp2_with fail
     go_roundw
     case rel=>exact ⟨j+1,dG,by go_num,gj.out,⟨_,_,rfl⟩,gT.out⟩
     case measure=>simp [intOf];omega
   ·have h5b:(a1==5)=false:=by simpa using h5
    by_cases h2:a1=2
    ·subst h2;by_cases h0:0<=a2
     ·obtain ⟨m,rfl⟩:=aZ h0;have mz:decide ((0:Int)<=(m:Int))=true:=by simp
      by_cases hm:m<ar.length
      ·have mu:decide ((m:Int)<(ar.length:Int))=true:=by simp;omega
       have P4:(m:Int)<(ar.length:Int):=by omega
       have bW:=aQ S7.out HB.out;obtain ⟨q,cap',hq,yp,dX⟩:=bW.form (by omega);cases hq
       have n0:=aH bW (m*2) _ (oN ar m hm).1;have n1:=aH bW (m*2+1) _ (oN ar m hm).2;have jm:Hid ((x1,x2)=ar[m]):=by
        have e:iP ar ps (2,(m:Int))=ar[m]:=by unfold iP;rw [ay (fun h=>by simp at h),aA ⟨rfl,h0,P4⟩];simp [hm]
        rw [<-e];exact HX.out
       rw [<-jm.out] at n0 n1;simp only at n0 n1;clear bW HX;go_wp2_with (at_builtin;go_must (refine wpList_append_lies _ rfl _ _ _ rfl w.heap.size 90 ii _ 2 16 Tryz.underlying83 hi fp dQ eF rfl (by omega) (.slice yo j yc) j (acs (cL (l.take j) ar ps)) rfl ?U3 _ 1 _ [.int .i64 x1,.int .i64 x2] rfl rfl ?PW ?h1D (by omega) ?ab3 ?KP ?QU _ rfl ?_))
       case U3=>exact ((World.ownsRow.alloc HR.out _).alloc _).alloc _
       try case PW=>exact World.news_of_block rx.out
       case h1D=>simp [Value.oneCell']
       case ab3=>unfold maxLen;omega
       case KP=>omega
       case QU=>first|omega|(simp;omega)
       intro g cap2 w2 b7 cx gi cV;have gj:Hid (Below w.heap.size w w2):=(lu.out).grown cx (by simp;omega) (fun k hk=>((HR.out.lt k hk).1));have gT:Hid (w2.ownsRow w.heap.size 90 2 (.slice (some ⟨g,0,none⟩) (j+1) cap2) (j+1) (acs (cL (l.take (j+1)) ar ps))):=by rw [HS.out];exact b7
       clear b7 cx gi cV;go_wp2_with fail
       go_roundw
       case rel=>exact ⟨j+1,dG,by go_num,gj.out,⟨_,_,rfl⟩,gT.out⟩
       case measure=>simp [intOf];omega
      ·have mu:decide ((m:Int)<(ar.length:Int))=false:=by simp;omega
       have P4:¬(m:Int)<(ar.length:Int):=by omega
       have jm:x1=2/\x2=(m:Int):=by
        have e:iP ar ps (2,(m:Int))=(2,(m:Int)):=by unfold iP;rw [ay (fun h=>by simp at h),ay (fun h=>P4 h.2.2)]
        have:=HX.out;rw [e] at this;simpa using this
       obtain ⟨e1,e2⟩:=jm;subst e1;subst e2;clear HX;go_wp2_with (at_builtin;go_must (refine wpList_append_lies _ rfl _ _ _ rfl w.heap.size 90 ii _ 2 16 Tryz.underlying83 hi fp dQ eF rfl (by omega) (.slice yo j yc) j (acs (cL (l.take j) ar ps)) rfl ?yt _ 1 _ [.int .i64 2,.int .i64 (m:Int)] rfl rfl ?Aq ?h1E (by omega) ?Re ?wO ?AO _ rfl ?_))
       case yt=>exact ((World.ownsRow.alloc HR.out _).alloc _).alloc _
       try case Aq=>exact World.news_of_block rx.out
       case h1E=>simp [Value.oneCell']
       case Re=>unfold maxLen;omega
       case wO=>omega
       case AO=>first|omega|(simp;omega)
       intro g cap2 w2 b7 cx gi cV;have gj:Hid (Below w.heap.size w w2):=(lu.out).grown cx (by simp;omega) (fun k hk=>((HR.out.lt k hk).1));have gT:Hid (w2.ownsRow w.heap.size 90 2 (.slice (some ⟨g,0,none⟩) (j+1) cap2) (j+1) (acs (cL (l.take (j+1)) ar ps))):=by rw [HS.out];exact b7
       clear b7 cx gi cV;go_wp2_with fail
       go_roundw
       case rel=>exact ⟨j+1,dG,by go_num,gj.out,⟨_,_,rfl⟩,gT.out⟩
       case measure=>simp [intOf];omega
     ·have mz:decide ((0:Int)<=a2)=false:=by simpa using h0
      have jm:x1=2/\x2=a2:=by
       have e:iP ar ps (2,a2)=(2,a2):=by unfold iP;rw [ay (fun h=>by simp at h),ay (fun h=>h0 h.2.1)]
       have:=HX.out;rw [e] at this;simpa using this
      obtain ⟨e1,e2⟩:=jm;subst e1;subst e2;clear HX;go_wp2_with (at_builtin;go_must (refine wpList_append_lies _ rfl _ _ _ rfl w.heap.size 90 ii _ 2 16 Tryz.underlying83 hi fp dQ eF rfl (by omega) (.slice yo j yc) j (acs (cL (l.take j) ar ps)) rfl ?U0 _ 1 _ [.int .i64 2,.int .i64 x2] rfl rfl ?PV ?h1F (by omega) ?ab2 ?KO ?QT _ rfl ?_))
      case U0=>exact ((World.ownsRow.alloc HR.out _).alloc _).alloc _
      try case PV=>exact World.news_of_block rx.out
      case h1F=>simp [Value.oneCell']
      case ab2=>unfold maxLen;omega
      case KO=>omega
      case QT=>first|omega|(simp;omega)
      intro g cap2 w2 b7 cx gi cV;have gj:Hid (Below w.heap.size w w2):=(lu.out).grown cx (by simp;omega) (fun k hk=>((HR.out.lt k hk).1));have gT:Hid (w2.ownsRow w.heap.size 90 2 (.slice (some ⟨g,0,none⟩) (j+1) cap2) (j+1) (acs (cL (l.take (j+1)) ar ps))):=by rw [HS.out];exact b7
      clear b7 cx gi cV;go_wp2_with fail
      go_roundw
      case rel=>exact ⟨j+1,dG,by go_num,gj.out,⟨_,_,rfl⟩,gT.out⟩
      case measure=>simp [intOf];omega
    ·have h2b:(a1==2)=false:=by simpa using h2
     have jm:x1=a1/\x2=a2:=by
      have e:iP ar ps (a1,a2)=(a1,a2):=by unfold iP;rw [ay (fun h=>h5 h.1),ay (fun h=>h2 h.1)]
      have:=HX.out;rw [e] at this;simpa using this
     obtain ⟨e1,e2⟩:=jm;subst e1;subst e2;clear HX;go_wp2_with (at_builtin;go_must (refine wpList_append_lies _ rfl _ _ _ rfl w.heap.size 90 ii _ 2 16 Tryz.underlying83 hi fp dQ eF rfl (by omega) (.slice yo j yc) j (acs (cL (l.take j) ar ps)) rfl ?UZ _ 1 _ [.int .i64 x1,.int .i64 x2] rfl rfl ?PU ?h1G (by omega) ?ab1 ?KN ?QS _ rfl ?_))
     case UZ=>exact ((World.ownsRow.alloc HR.out _).alloc _).alloc _
     try case PU=>exact World.news_of_block rx.out
     case h1G=>simp [Value.oneCell']
     case ab1=>unfold maxLen;omega
     case KN=>omega
     case QS=>first|omega|(simp;omega)
     intro g cap2 w2 b7 cx gi cV;have gj:Hid (Below w.heap.size w w2):=(lu.out).grown cx (by simp;omega) (fun k hk=>((HR.out.lt k hk).1));have gT:Hid (w2.ownsRow w.heap.size 90 2 (.slice (some ⟨g,0,none⟩) (j+1) cap2) (j+1) (acs (cL (l.take (j+1)) ar ps))):=by rw [HS.out];exact b7
     clear b7 cx gi cV;go_wp2_with fail
     go_roundw
     case rel=>exact ⟨j+1,dG,by go_num,gj.out,⟨_,_,rfl⟩,gT.out⟩
     case measure=>simp [intOf];omega
  ·have hd:decide ((j:Int)<(l.length:Int))=false:=by simp;omega
   have jz:¬(j:Int)<(l.length:Int):=by omega
   have HJ:Hid (j=l.length):=by show _=_;omega
   have Bs:Hid (l.take j=l):=bN (by omega);go_wp2_with fail
   go_ret
   exact ⟨_,rfl,HB.out,by have h:=HR.out;rw [Bs.out] at h;rw [<-HJ.out];exact h⟩
structure Bd (s:Ms):Prop where
 l1:s.stk.length<=1099511620000
 l2:s.frs.length<=1099511620000
 l3:s.nds.length<=1099511620000
 l4:s.fre.length<=1099511620000
 l5:∀n∈s.nds,n.1.length<=1000
 fl:flr s<=s.stk.length
 s1:0<=s.stp
 s2:s.stp<=1000000
 nb:∀x∈s.stk,x.1=1->-1000000000<=x.2/\x.2<=1000000000
 nf:∀f∈s.frs,-1000000000<=f.nu/\f.nu<=1000000000
theorem BS:∀(l:List Bool) (i:Nat) (acc:List Int),(uS i l acc).length<=acc.length+l.length
 |[],_,_=>ah _
 |b::l,i,acc=>by
  have:=BS l (i+1) (if b then acc else (i:Int)::acc);rw [uS];split at this<;>simp_all<;>omega
theorem BV (s:Ms):(eD s).1.length=s.nds.length:=by
 obtain ⟨h,_⟩:=mL (s:=s) (R:=fun _=>True) (fun _ _ _ _ _=>trivial) (fun _ _ _=>trivial) (fun _ _ _=>trivial);exact h.len
theorem wV (s:Ms):(lL s).fre.length<=s.nds.length:=by
 have:=BS (eD s).1 0 [];rw [BV] at this;simpa [lL] using this
theorem BY (t:Int×Int) (ht:t.1=1->-1000000000<=t.2/\t.2<=1000000000) (B mb:Nat) (fv:Value) (c:Cf) (s:Ms) (K:Nat->Prop) (w:World) (h:MP w B mb fv c s K) (bd:Bd s):
 Calls Tryz.prog 60 #[.pointer (some ⟨mb,0,none⟩),.agg #[.int .i64 t.1,.int .i64 t.2]] w fun e w'=>(∃v,e=.returned v)/\Below B w w'/\dm K w w'/\MP w' B mb fv c (w9 c t s) K:=by
 have pS:B<=w.heap.size:=by have:=h.lt;have:=h.lo;omega
 have HM:Hid (∀w',Below w.heap.size w w'->MP w' B mb fv c s K):=fun w' hb=>h.old hb
 obtain ⟨sv,rv,nv,ev,vs,h⟩:=h;obtain ⟨ro,rc,rfl⟩:=aU h.rr;have c4:=h.c4;have pK:=h.lt;have jN:=h.lo;obtain ⟨t1,t2⟩:=t;simp only at ht;cases hf:s.frs with
 |nil=>
  have HE:Hid (w9 c (t1,t2) s=Ro (t1,t2) s):=by show _=_;unfold w9;rw [hf]
  rw [HE.out];have HA:Hid _:=bM w (Obj.cells #[.int .i64 t1,.int .i64 t2] 90);have HC:Hid _:=OA (t1,t2) B mb fv c s K _ (HM.out _ HA.out);simp only at HC;rw [hf] at c4;simp only [bp] at c4;clear h hf HE;go_enter Tryz.func60,Tryz.ntmps60
  go_wp2_with fail
  refine (show Calls _ _ _ _ _ from HC.out).mono ?_
  rintro e w1 ⟨⟨v1,rfl⟩,bB,eA,fR⟩
  have nF:Hid _:=fR;clear fR HC;go_wp2_with fail
  exact aS (v:=.tuple #[]) (by simp [results,Tryz.results60,go_sem]) rfl ⟨⟨_,rfl⟩,(HA.out.mono pS).trans bB,(dm.old HA.out).trans eA HA.out.size,nF.out⟩
 |cons f r=>
  have gS:s.frs.length=r.length+1:=by rw [hf];rfl
  obtain ⟨q,cap',hq,yp,dX⟩:=h.rr.form (by omega);cases hq
  have xt:=bd.nf f (by rw [hf];simp);have k0:=aH h.rr (r.length*5) _ (by rw [hf];exact qK f r 0 _ rfl);have k1:=aH h.rr (r.length*5+1) _ (by rw [hf];exact qK f r 1 _ rfl);have k2:=aH h.rr (r.length*5+2) _ (by rw [hf];exact qK f r 2 _ rfl);have k3:=aH h.rr (r.length*5+3) _ (by rw [hf];exact qK f r 3 _ rfl);have k4:=aH h.rr (r.length*5+4) _ (by rw [hf];exact qK f r 4 _ rfl);obtain ⟨fk,fh,fnd,fpr,fnu⟩:=f;simp only at xt k0 k1 k2 k3 k4;have HE:Hid (w9 c (t1,t2) s=if fk=1 then NP fnd s else if t1≠1 then {s with out:=3} else if fk=2 then zb fpr t2 s else A7 c fpr fnu t2 s):=by show _=_;unfold w9;rw [hf]
  rw [HE.out];have pG:r.length<=1099511620000:=by have:=bd.l2;omega
  have g1:((r.length:Int)+1==0)=false:=by simp;omega
  have g2:¬(r.length:Int)+1=0:=by omega
  rw [gS] at c4;have jM:Hid (Bd s):=bd;have HC8:Hid (w.cell? ⟨mb,8,none⟩=some (.int .i64 s.out)/\w.frozen? ⟨mb,8,none⟩=false):=⟨h.c8,h.fz 8⟩;have S5:Hid (MSt w B mb fv c s K sv _ nv ev vs):=h;clear h hf HE gS bd;have HA:Hid (Below w.heap.size w (((w.alloc (Obj.cells #[.int .i64 t1,.int .i64 t2] 90)).alloc (Obj.cells #[.int .i64 fk,.int .i64 (fh:Int),.int .i64 fnd,.int .i64 fpr,.int .i64 fnu] 164)).drew)):=nD w _ _;have zg:Hid (MP (((w.alloc (Obj.cells #[.int .i64 t1,.int .i64 t2] 90)).alloc (Obj.cells #[.int .i64 fk,.int .i64 (fh:Int),.int .i64 fnd,.int .i64 fpr,.int .i64 fnu] 164)).drew) B mb fv c s K):=HM.out _ HA.out;have eI:Hid (Below B w (((w.alloc (Obj.cells #[.int .i64 t1,.int .i64 t2] 90)).alloc (Obj.cells #[.int .i64 fk,.int .i64 (fh:Int),.int .i64 fnd,.int .i64 fpr,.int .i64 fnu] 164)).drew)):=HA.out.mono pS;have mr:Hid (dm K w (((w.alloc (Obj.cells #[.int .i64 t1,.int .i64 t2] 90)).alloc (Obj.cells #[.int .i64 fk,.int .i64 (fh:Int),.int .i64 fnd,.int .i64 fpr,.int .i64 fnu] 164)).drew)):=dm.old HA.out;have bB:=jM.out.l1;have bX:=jM.out.l2;have df:=jM.out.l3;have QL:=jM.out.fl;by_cases h1:fk=1
  ·subst h1;have HC:Hid _:=Oy 1 (fh:Int) fnd fpr fnu B mb fv c s K _ zg.out (by omega) (by omega) (by omega) QL;clear zg HM;go_enter Tryz.func60,Tryz.ntmps60
   go_wp2_with fail
   go_region
   go_wp2_with fail
   refine (show Calls _ _ _ _ _ from HC.out).mono ?_
   rintro e w2 ⟨⟨v2,rfl⟩,bX,eh,gK⟩
   have oP:Hid _:=gK;clear gK HC;go_wp2_with fail
   exact aS (v:=.tuple #[]) (by simp [results,Tryz.results60,go_sem]) rfl ⟨⟨_,rfl⟩,eI.out.trans bX,mr.out.trans eh eI.out.size,oP.out⟩
  ·have h1b:(fk==1)=false:=by simpa using h1
   by_cases ul:t1=1
   ·subst ul;have hty:=ht rfl;by_cases h2:fk=2
    ·subst h2;have HC:Hid _:=Dg 2 (fh:Int) fnd fpr fnu t2 B mb fv c s K _ zg.out (by omega) (by omega);clear zg HM;go_enter Tryz.func60,Tryz.ntmps60
     go_wp2_with fail
     go_region
     go_wp2_with fail
     refine (show Calls _ _ _ _ _ from HC.out).mono ?_
     rintro e w2 ⟨⟨v2,rfl⟩,bX,eh,gK⟩
     have oP:Hid _:=gK;clear gK HC;go_wp2_with fail
     exact bH (v:=.tuple #[]) (by simp [results,Tryz.results60,go_sem]) rfl ⟨⟨_,rfl⟩,eI.out.trans bX,mr.out.trans eh eI.out.size,oP.out⟩
    ·have h2b:(fk==2)=false:=by simpa using h2
     have HC:Hid _:=JZ fk (fh:Int) fnd fpr fnu t2 xt.1 xt.2 hty.1 hty.2 B mb fv c s K _ zg.out (by omega) (by omega) jM.out.s1 (by have:=jM.out.s2;omega);clear zg HM;go_enter Tryz.func60,Tryz.ntmps60
     go_wp2_with fail
     go_region
     go_wp2_with fail
     refine (show Calls _ _ _ _ _ from HC.out).mono ?_
     rintro e w2 ⟨⟨v2,rfl⟩,bX,eh,gK⟩
     have oP:Hid _:=gK;clear gK HC;go_wp2_with fail
     exact bH (v:=.tuple #[]) (by simp [results,Tryz.results60,go_sem]) rfl ⟨⟨_,rfl⟩,eI.out.trans bX,mr.out.trans eh eI.out.size,oP.out⟩
   ·have htb:(t1==1)=false:=by simpa using ul
    have agc:(t1 !=1)=true:=by simp [ul]
    have cc8:w.cell? ⟨mb,8,none⟩=some (.int .i64 s.out):=HC8.out.1;have ff8:w.frozen? ⟨mb,8,none⟩=false:=HC8.out.2;have HK:Hid (¬K mb):=S5.out.noK;have HF:Hid (MSt (w.setCell ⟨mb,8,none⟩ (.int .i64 3)) B mb fv c {s with out:=3} K sv _ nv ev vs):=S5.out.field rfl rfl rfl rfl rfl;clear zg HM;go_enter Tryz.func60,Tryz.ntmps60
    go_wp2_with fail
    go_region
    go_wp2_with fail
    exact aS (v:=.tuple #[]) (by simp [results,Tryz.results60,go_sem]) rfl ⟨⟨_,rfl⟩,((ai B w).setCell (by exact jN) _).trans ((nD _ _ _).mono (by rw [eY];exact pS)),(dm.set HK.out).trans (dm.old (nD _ _ _)) (by rw [eY];exact ah _),_,_,_,_,_,HF.out.old (nD _ _ _)⟩
end Go.Proofs.YtnndoagpbcacdabGreatDoor
