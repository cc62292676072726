import Derived.Test.YtnndoagpbcacdabGreatDoorMK1
namespace Go.Proofs.YtnndoagpbcacdabGreatDoor
set_option maxHeartbeats 8000000
set_option maxRecDepth 100000
open Go.RowKit
structure MLt (T mb:Nat) (sv rv nv ev:Value) (vs:List Value):Prop where
 m:mb<T
 s:∀k,sv.ownBlock=some k->k<T
 r:∀k,rv.ownBlock=some k->k<T
 n:∀k,nv.ownBlock=some k->k<T
 e:∀k,ev.ownBlock=some k->k<T
 v:∀u∈vs,∀k,u.ownBlock=some k->k<T
section
variable {w w' w2:World} {B mb T:Nat} {fv:Value} {c:Cf} {s:Ms} {K:Nat->Prop} {sv rv nv ev:Value} {vs:List Value}
theorem MSt.mlt (h:MSt w B mb fv c s K sv rv nv ev vs):MLt w.heap.size mb sv rv nv ev vs:=
 ⟨h.lt,fun k hk=>(h.rs.lt k hk).2,fun k hk=>(h.rr.lt k hk).2,fun k hk=>(h.rn.lt k hk).2,fun k hk=>(h.re.lt k hk).2,fun u hu k hk=>by
  obtain ⟨j,hj,rfl⟩:=cl.1 hu;obtain ⟨v,e1,e2,_⟩:=h.rows j (by rw [<-h.vl];exact hj);rw [aj hj] at e1;cases e1
  exact (e2.lt k hk).2⟩
theorem MSt.below (h:MSt w B mb fv c s K sv rv nv ev vs) (hT:MLt T mb sv rv nv ev vs) (hb:Below T w w'):MSt w' B mb fv c s K sv rv nv ev vs:=
 ⟨(hb.block mb hT.m).trans h.blk,h.lo,cM h.rs hb hT.s,cM h.rr hb hT.r,cM h.rn hb hT.n,cM h.re hb hT.e,h.vl,
   fun j hj=>by obtain ⟨v,h1,h2,h3⟩:=h.rows j hj;exact ⟨v,h1,cM h2 hb (hT.v v (bm h1)),h3⟩,fun k hk=>bq (h.klt k hk) hb.size,h.sep⟩
theorem MSt.moreK {K':Nat->Prop} (h:MSt w B mb fv c s K sv rv nv ev vs) (h1:∀k,K' k->K k\/(k<w.heap.size/\k≠mb/\sv.ownBlock≠some k/\rv.ownBlock≠some k/\nv.ownBlock≠some k/\ev.ownBlock≠some k)):MSt w B mb fv c s K' sv rv nv ev vs:=
 ⟨h.blk,h.lo,h.rs,h.rr,h.rn,h.re,h.vl,h.rows,fun k hk=>by rcases h1 k hk with h2|h2;exact h.klt k h2;exact h2.1,fun k hk=>by rcases h1 k hk with h2|h2;exact h.sep k h2;exact h2.2⟩
theorem MSt.fromT (h:MSt w B mb fv c s K sv rv nv ev vs) (hT:MLt T mb sv rv nv ev vs):MSt w B mb fv c s (fun k=>K k\/(T<=k/\k<w.heap.size)) sv rv nv ev vs:=
 h.moreK fun k hk=>by
  rcases hk with hk|⟨h1,h2⟩
  ·exact .inl hk
  ·exact .inr ⟨h2,by have:=hT.m;omega,fun e=>by have:=hT.s k e;omega,fun e=>by have:=hT.r k e;omega,fun e=>by have:=hT.n k e;omega,fun e=>by have:=hT.e k e;omega⟩
theorem gu {B1 B2 e1 e2 z1 z2 n1 n2:Nat} {v1 v2:Value} {x1 x2:List Value} (h1:w.ownsRow B1 e1 z1 v1 n1 x1) (h2:w.ownsRow B2 e2 z2 v2 n2 x2) (dI:e1≠e2):∀k,v1.ownBlock=some k->v2.ownBlock≠some k:=by
 intro k hk eh;rcases h1.2 with ⟨e,_⟩|⟨g,cap,cur,e,_,hh,_⟩
 ·rw [e] at hk;simp [Value.ownBlock] at hk
 ·rcases h2.2 with ⟨e',_⟩|⟨g',cap',cur',e',_,hh',_⟩
  ·rw [e'] at eh;simp [Value.ownBlock] at eh
  ·rw [e] at hk;rw [e'] at eh;simp only [Value.ownBlock,Option.some.injEq] at hk eh;rw [hk] at hh;rw [eh,hh] at hh';simp at hh';exact dI hh'.2
theorem jC {B1 e1 z1 n1 b:Nat} {v1:Value} {x1:List Value} {cs:Array Value} {t:TypeId} (h1:w.ownsRow B1 e1 z1 v1 n1 x1) (h2:w.heap[b]?=some (.cells cs t (0,0))) (dI:e1≠t):∀k,v1.ownBlock=some k->k≠b:=by
 intro k hk Vr;rcases h1.2 with ⟨e,_⟩|⟨g,cap,cur,e,_,hh,_⟩
 ·rw [e] at hk;simp [Value.ownBlock] at hk
 ·rw [e] at hk;simp only [Value.ownBlock,Option.some.injEq] at hk;rw [hk,Vr,h2] at hh;simp at hh;exact dI hh.2.symm
theorem pu {Bx e z n q cap:Nat} {xs:List Value} (h:w.ownsRow Bx e z (.slice (some ⟨q,0,none⟩) n cap) n xs):n<=cap/\cap<=9223372036854775807:=by
 rcases h.2 with ⟨h0,_⟩|⟨g',cap',cur,h0,hg,hh,x1,x2,_⟩
 ·cases h0
 ·cases h0;unfold maxLen at x2;omega
end
theorem bM (w:World) (o:Obj):Below w.heap.size w (w.alloc o):=(ai _ w).alloc (ah _) _
theorem eU (w:World) (o o2:Obj):Below w.heap.size w ((w.alloc o).alloc o2):=((ai _ w).alloc (ah _) _).alloc (by simp) _
theorem eY (w:World) (a:Addr) (u:Value):(w.setCell a u).heap.size=w.heap.size:=by simp [World.setCell]
theorem TW (B mb:Nat) (fv:Value) (c:Cf) (s:Ms) (K:Nat->Prop) (sv rv nv ev:Value) (vs:List Value) (w:World) (h:MSt w B mb fv c s K sv rv nv ev vs) (hl:s.stk.length<=1099511627776):
 Calls Tryz.prog 93 #[.pointer (some ⟨mb,0,none⟩)] w fun e w'=>e=.returned (.agg #[.int .i64 (hdI s.stk).1,.int .i64 (hdI s.stk).2])/\Below B w w'/\dm K w w'/\∃sv',MSt w' B mb fv c (fX s) K sv' rv nv ev vs/\sv'.ownBlock=sv.ownBlock:=by
 obtain ⟨so,sc,rfl⟩:=aU h.rs;have c3:=h.c3;have pK:=h.lt;have jN:=h.lo;cases hs:s.stk with
 |nil=>
  have HM:Hid (MSt (w.alloc (Obj.cells #[.int .i64 0,.int .i64 0] 90)) B mb fv c (fX s) K (.slice so s.stk.length sc) rv nv ev vs):=by
   have e:fX s=s:=by unfold fX;rw [hs];cases s;simp_all
   rw [e];exact h.old ((ai _ _).alloc (ah _) _)
  have HS:Hid (s.stk=[]):=hs;rw [hs] at c3;simp only [bp] at c3;clear h hl hs;go_enter Tryz.func93,Tryz.ntmps93
  go_wp2_with fail
  exact aS (v:=.agg #[.int .i64 0,.int .i64 0]) (by simp [results,Tryz.results93,go_sem]) rfl ⟨rfl,(ai B w).alloc (by omega) _,dm.old ((ai _ _).alloc (ah _) _),_,HM.out,by rw [HS.out];rfl⟩
 |cons x r=>
  have gS:s.stk.length=r.length+1:=by rw [hs];rfl
  obtain ⟨q,cap',hq,yp,dX⟩:=h.rs.form (by omega);cases hq
  obtain ⟨a1,a2⟩:=IK x r;have k0:=aH h.rs (r.length*2) _ (by rw [hs];exact a1);have k1:=aH h.rs (r.length*2+1) _ (by rw [hs];exact a2);have hfz:=h.fz 3;have jb:=pu h.rs;have hqm:=jC h.rs h.blk (by decide) q rfl;rw [gS] at c3 hl jb;have HM:Hid (MSt (w.setCell ⟨mb,3,none⟩ (.slice (some ⟨q,0,none⟩) r.length sc)) B mb fv c (fX s) K (.slice (some ⟨q,0,none⟩) r.length sc) rv nv ev vs):=by
   have e:fX s={s with stk:=r}:=by unfold fX;rw [hs];rfl
   rw [e];exact MSt.popS (by rw [gS] at h;exact h) hs
  have HK:Hid (¬K mb):=h.noK;clear h hs a1 a2;obtain ⟨x1,x2⟩:=x;simp only at*;go_enter Tryz.func93,Tryz.ntmps93
  go_wp2_with fail
  refine aS (v:=.agg #[.int .i64 x1,.int .i64 x2]) (by simp [results,Tryz.results93,go_sem]) rfl ⟨rfl,?_,?_,_,HM.out.old ?_,rfl⟩
  ·exact ((ai B w).setCell (by exact jN) _).trans ((eU _ _ _).mono (by rw [eY];omega))
  ·exact (dm.set HK.out).trans (dm.old (eU _ _ _)) (by rw [eY];exact ah _)
  ·exact eU _ _ _
theorem JY (B mb:Nat) (fv:Value) (c:Cf) (s:Ms) (K:Nat->Prop) (w:World) (h:MP w B mb fv c s K) (hl:s.stk.length<=1099511627776):
 Calls Tryz.prog 93 #[.pointer (some ⟨mb,0,none⟩)] w fun e w'=>e=.returned (.agg #[.int .i64 (hdI s.stk).1,.int .i64 (hdI s.stk).2])/\Below B w w'/\dm K w w'/\MP w' B mb fv c (fX s) K:=by
 obtain ⟨sv,rv,nv,ev,vs,h⟩:=h;refine (TW B mb fv c s K sv rv nv ev vs w h hl).mono ?_
 rintro e w' ⟨h1,h2,h3,sv',h4,_⟩
 exact ⟨h1,h2,h3,_,_,_,_,_,h4⟩
theorem OB (B mb:Nat) (fv:Value) (c:Cf) (s:Ms) (K:Nat->Prop) (w:World) (h:MP w B mb fv c s K) (hl:s.frs.length<=1099511627776):
 Calls Tryz.prog 139 #[.pointer (some ⟨mb,0,none⟩)] w fun e w'=>(∃v,e=.returned v)/\Below B w w'/\dm K w w'/\MP w' B mb fv c (gv s) K:=by
 obtain ⟨sv,rv,nv,ev,vs,h⟩:=h;obtain ⟨so,sc,rfl⟩:=aU h.rr;have c3:=h.c4;have pK:=h.lt;have jN:=h.lo;cases hs:s.frs with
 |nil=>
  have HM:Hid (MP w B mb fv c (gv s) K):=by
   have e:gv s=s:=by unfold gv;rw [hs];cases s;simp_all
   rw [e];exact ⟨_,_,_,_,_,h⟩
  rw [hs] at c3;simp only [bp] at c3;clear h hl hs;go_enter Tryz.func139,Tryz.ntmps139
  go_wp2_with fail
  exact bH (v:=.tuple #[]) (by simp [results,Tryz.results139,go_sem]) rfl ⟨⟨_,rfl⟩,ai B w,dm.refl _ _,HM.out⟩
 |cons x r=>
  have gS:s.frs.length=r.length+1:=by rw [hs];rfl
  obtain ⟨q,cap',hq,yp,dX⟩:=h.rr.form (by omega);cases hq
  have hfz:=h.fz 4;have jb:=pu h.rr;have hqm:=jC h.rr h.blk (by decide) q rfl;rw [gS] at c3 hl jb;have HM:Hid (MSt (w.setCell ⟨mb,4,none⟩ (.slice (some ⟨q,0,none⟩) r.length sc)) B mb fv c (gv s) K sv (.slice (some ⟨q,0,none⟩) r.length sc) nv ev vs):=by
   have e:gv s={s with frs:=r}:=by unfold gv;rw [hs];rfl
   rw [e];exact MSt.popR (by rw [gS] at h;exact h) hs
  have HK:Hid (¬K mb):=h.noK;clear h hs;go_enter Tryz.func139,Tryz.ntmps139
  go_wp2_with fail
  exact bH (v:=.tuple #[]) (by simp [results,Tryz.results139,go_sem]) rfl ⟨⟨_,rfl⟩,(ai B w).setCell (by exact jN) _,dm.set HK.out,_,_,_,_,_,HM.out⟩
theorem Ox (k:Int) (h0:Int) (nd pr nu:Int) (B mb:Nat) (fv:Value) (c:Cf) (s:Ms) (K:Nat->Prop) (w:World) (h:MP w B mb fv c s K) (hl:s.frs.length<=1099511627776) (_hl2:s.stk.length<=1099511627776):
 Calls Tryz.prog 94 #[.pointer (some ⟨mb,0,none⟩),.agg #[.int .i64 k,.int .i64 h0,.int .i64 nd,.int .i64 pr,.int .i64 nu]] w fun e w'=>(∃v,e=.returned v)/\Below B w w'/\dm K w w'/\MP w' B mb fv c (lA k nd pr nu s) K:=by
 obtain ⟨sv,rv,nv,ev,vs,h⟩:=h;obtain ⟨i,hi,fp,dQ,eF⟩:=bE Tryz.infoFrame;obtain ⟨so,sc,rfl⟩:=aU h.rs;obtain ⟨ro,rc,rfl⟩:=aU h.rr;have c3:=h.c3;have c4:=h.c4;have pK:=h.lt;have jN:=h.lo;have HM:Hid (∀w',Below w.heap.size w w'->MSt w' B mb fv c s K (.slice so s.stk.length sc) (.slice ro s.frs.length rc) nv ev vs):=fun w' hb=>h.old hb
 clear h;go_enter Tryz.func94,Tryz.ntmps94
 go_wp2_with fail
 have HA:Hid _:=nD w (Obj.cells #[.int .i64 k,.int .i64 (s.stk.length:Int),.int .i64 nd,.int .i64 pr,.int .i64 nu] 164) (Obj.cells #[.int .i64 k,.int .i64 (s.stk.length:Int),.int .i64 nd,.int .i64 pr,.int .i64 nu] 164);have HN:Hid _:=My w (Obj.cells #[.int .i64 k,.int .i64 (s.stk.length:Int),.int .i64 nd,.int .i64 pr,.int .i64 nu] 164) (Obj.cells #[.int .i64 k,.int .i64 (s.stk.length:Int),.int .i64 nd,.int .i64 pr,.int .i64 nu] 164)
 go_region_law ((refine step_append_lies _ (by rfl) _ _ _ (by rfl) B 164 i _ 5 40 Tryz.underlying84 hi fp dQ eF rfl (by omega) (.slice ro s.frs.length rc) s.frs.length (fcs s.frs.reverse) (by rfl) (by exact (HM.out _ HA.out).rr) _ 1 _ [.int .i64 k,.int .i64 (s.stk.length:Int),.int .i64 nd,.int .i64 pr,.int .i64 nu] (by rfl) rfl (by exact World.news_of_block HN.out) (by simp [Value.oneCell']) (by omega) (by unfold maxLen;omega) (by omega) (by have:=HA.out.size;omega) _ rfl ?_;intro g cap2 w2 b7 bD dt cV;have xh:Hid _:=MSt.pushR (f:=⟨k,s.stk.length,nd,pr,nu⟩) (HM.out _ HA.out) b7 bD dt;have kb:=al w2 mb 4 _ _ _ (br (HM.out _ HA.out).rr bD (by decide) (HM.out _ HA.out).blk);simp only [ax,ap,aq] at kb;have kf:=aG w2 mb 4 _ _ (br (HM.out _ HA.out).rr bD (by decide) (HM.out _ HA.out).blk);clear b7 bD dt cV))
 all_goals
  refine bH (v:=.tuple #[]) (by simp [results,Tryz.results94,go_sem]) rfl ⟨⟨_,rfl⟩,(HA.out.mono (by omega)).trans xh.out.1,(dm.old HA.out).trans xh.out.2.1 HA.out.size,_,_,_,_,_,xh.out.2.2⟩
theorem oN (l:Ln) (j:Nat) (h:j<l.length):(acs l)[j*2]?=some (.int .i64 l[j].1)/\(acs l)[j*2+1]?=some (.int .i64 l[j].2):=ru l j h
theorem Y7 (l:Ln) (v:Value) (Bx:Nat) (B mb:Nat) (fv:Value) (c:Cf) (s:Ms) (K:Nat->Prop) (w:World) (h:MP w B mb fv c s K) (hv:w.ownsRow Bx 90 2 v l.length (acs l)) (hK:∀k,v.ownBlock=some k->K k) (hl:l.length+s.stk.length<=1099511627776):
 Calls Tryz.prog 95 #[.pointer (some ⟨mb,0,none⟩),v] w fun e w'=>(∃v,e=.returned v)/\Below B w w'/\dm K w w'/\MP w' B mb fv c (qS l s) K:=by
 obtain ⟨vo,vc,rfl⟩:=aU hv;have HV:Hid (∀w',dm K w w'->w'.ownsRow Bx 90 2 (.slice vo l.length vc) l.length (acs l)):=fun w' hk=>j8 hv hk hK
 have HM:Hid (MP w B mb fv c s K):=h;clear h hv hK;go_enter Tryz.func95,Tryz.ntmps95
 go_wp2_with fail
 go_loopw [4] (fun y wr=>∃j:Nat,j<=l.length/\y=.int .i64 ((j:Int)-1)/\Hid (Below B w wr)/\Hid (dm K w wr)/\Hid (MP wr B mb fv c (qS (l.drop j) s) K)) (fun y _=>(intOf y+1).toNat)
 case atStart=>exact ⟨l.length,ah _,rfl,ai _ _,dm.refl _ _,by rw [List.drop_length];exact HM.out⟩
 case round=>
  clear HM;obtain ⟨j,hj,rfl,HB,rM,HM⟩:=hrel;by_cases sd:j=0
  ·subst sd;have hd:decide ((0:Int)<=((0:Nat):Int)-1)=false:=by decide
   go_wp2_with fail
   exact bH (v:=.tuple #[]) (by simp [results,Tryz.results95,go_sem]) rfl ⟨⟨_,rfl⟩,HB.out,rM.out,HM.out⟩
  ·obtain ⟨i,rfl⟩:∃i,j=i+1:=⟨j-1,by omega⟩;have ly:i<l.length:=by omega
   have e1:(((i+1:Nat):Int)-1)=(i:Int):=by omega
   rw [e1];have bW:=HV.out wr rM.out;obtain ⟨q,cap',hq,yp,dX⟩:=bW.form (by omega);cases hq
   have k0:=aH bW (i*2) _ (oN l i ly).1;have k1:=aH bW (i*2+1) _ (oN l i ly).2;clear bW;have iG:(qS (l.drop (i+1)) s).stk.length<=1099511627776:=by simp [qS];omega
   have HC:Hid _:=Dd l[i] B mb fv c (qS (l.drop (i+1)) s) K wr HM.out iG;have HE:Hid (lT l[i] (qS (l.drop (i+1)) s)=qS (l.drop i) s):=by show _=_;rw [aW ly];rfl
   rw [HE.out] at HC;generalize l[i]=x at*;obtain ⟨x1,x2⟩:=x;simp only at*;go_wp2_with fail
   refine (show Calls _ _ _ _ _ from HC.out).mono ?_
   rintro e w1 ⟨⟨v1,rfl⟩,bB,eA,fR⟩
   have nF:Hid _:=fR;have eI:Hid (Below B w w1):=HB.out.trans bB;have mr:Hid (dm K w w1):=rM.out.trans eA HB.out.size;clear fR bB eA HC HM HB rM k0 k1;go_wp2_with fail
   go_roundw
   case rel=>exact ⟨i,by omega,rfl,eI.out,mr.out,nF.out⟩
   case measure=>simp [intOf]
theorem OD (B mb:Nat) (fv:Value) (c:Cf) (s:Ms) (K:Nat->Prop) (sv rv nv ev:Value) (vs:List Value) (w:World) (h:MSt w B mb fv c s K sv rv nv ev vs) (hl:s.stk.length<=1099511627776) (gS:s.frs.length<=1099511627776) (hf:flr s<=s.stk.length):
 Calls Tryz.prog 138 #[.pointer (some ⟨mb,0,none⟩)] w fun e w'=>∃v,e=.returned v/\Below w.heap.size w w'/\w'.ownsRow w.heap.size 90 2 v (rq s).length (acs (rq s)):=by
 obtain ⟨i,hi,fp,dQ,eF⟩:=bE Tryz.infoItem;have HC:Hid _:=MB B mb fv c s K sv rv nv ev vs w h gS;have HM:Hid (∀w',Below w.heap.size w w'->MSt w' B mb fv c s K sv rv nv ev vs):=fun w' hb=>h.old hb
 have pK:=h.lt;obtain ⟨so,sc,rfl⟩:=aU h.rs;clear h;go_enter Tryz.func138,Tryz.ntmps138
 go_wp2_with fail
 refine (show Calls _ _ _ _ _ from HC.out).mono ?_
 rintro e w1 ⟨rfl,m,rfl⟩
 clear HC;have qe:Hid (Below w.heap.size w (w.drewN m)):=bY (ai _ _) m;have c3:=(HM.out _ qe.out).c3;have Vf:mb<(w.drewN m).heap.size:=pK;go_wp2_with fail
 clear c3 Vf;generalize kG:flr s=fl at*
 go_loopw [3,5] (fun y z wr=>∃j:Nat,j+fl<=s.stk.length/\z=.int .i64 ((s.stk.length:Int)-1-j)/\Hid (Below w.heap.size w wr)/\(∃yo yc,y=.slice yo j yc)/\Hid (wr.ownsRow w.heap.size 90 2 y j (acs (s.stk.take j)))) (fun _ z _=>(intOf z+1).toNat)
 case atStart=>exact ⟨0,by omega,by simp,qe.out,⟨none,0,rfl⟩,aM _ _ _ _⟩
 case round=>
  clear qe;obtain ⟨j,hj,rfl,HB,⟨yo,yc,rfl⟩,HR⟩:=hrel;have Jc:=HM.out _ HB.out;have c3:=Jc.c3;have Vf:=Jc.lt;by_cases bF:j+fl<s.stk.length
  ·obtain ⟨q,cap',hq,yp,dX⟩:=Jc.rs.form (by omega);cases hq
   obtain ⟨k,hk⟩:∃k,s.stk.length=j+1+k:=⟨s.stk.length-(j+1),by omega⟩;have dG:j<s.stk.length:=by omega
   have ua:(acs s.stk.reverse)[k*2]?=some (.int .i64 s.stk[j].1)/\(acs s.stk.reverse)[k*2+1]?=some (.int .i64 s.stk[j].2):=by
    have h1:=oN s.stk.reverse k (by rw [cB];omega);have e:s.stk.reverse[k]'(by rw [cB];omega)=s.stk[j]:=by
     have e2:s.stk.length-1-k=j:=by omega
     simp [List.getElem_reverse,e2]
    rw [e] at h1;exact h1
   have k0:=aH Jc.rs (k*2) _ ua.1;have k1:=aH Jc.rs (k*2+1) _ ua.2;have e1:(s.stk.length:Int)-1-(j:Int)=(k:Int):=by omega
   rw [e1];have hd:decide ((fl:Int)<=(k:Int))=true:=by simp;omega
   have HT:Hid (acs (s.stk.take (j+1))=acs (s.stk.take j)++[.int .i64 s.stk[j].1,.int .i64 s.stk[j].2]):=by
    show _=_
    rw [aT dG,jF]
   clear ua;generalize s.stk[j]=x at*;obtain ⟨x1,x2⟩:=x;simp only at*;have jk:k<s.stk.length:=by omega
   have eA:s.stk.length<=j+1+k:=by omega
   have eh:j+1+k<=s.stk.length:=by omega
   clear hk;have Jj:=HB.out.size;clear Jc;go_wp2_with (at_builtin;go_must (refine wpList_append_lies _ rfl _ _ _ rfl w.heap.size 90 i _ 2 16 Tryz.underlying83 hi fp dQ eF rfl (by omega) (.slice yo j yc) j (acs (s.stk.take j)) rfl ?hown _ 1 _ [.int .i64 x1,.int .i64 x2] rfl rfl ?dA ?h1 (by omega) ?kj ?cP ?cX _ rfl ?_))
   case hown=>exact World.ownsRow.alloc HR.out _
   case dA=>exact World.news_of_block (az wr _)
   case h1=>simp [Value.oneCell']
   case kj=>unfold maxLen;omega
   case cP=>omega
   case cX=>simp;omega
   intro g cap2 w2 b7 cx gi cV;have gj:Hid (Below w.heap.size w w2):=(HB.out.alloc Jj _).grown cx (by simp;omega) (fun k hk=>((HR.out.lt k hk).1));have gT:Hid (w2.ownsRow w.heap.size 90 2 (.slice (some ⟨g,0,none⟩) (j+1) cap2) (j+1) (acs (s.stk.take (j+1)))):=by rw [HT.out];exact b7
   clear b7 cx gi cV;go_wp2_with fail
   go_roundw
   case rel=>exact ⟨j+1,by omega,congrArg (Value.int .i64) (by omega),gj.out,⟨_,_,rfl⟩,gT.out⟩
   case measure=>simp [intOf]
  ·have hd:decide ((fl:Int)<=(s.stk.length:Int)-1-(j:Int))=false:=by simp;omega
   have jz:¬(fl:Int)<=(s.stk.length:Int)-1-(j:Int):=by omega
   have HE:Hid (rq s=s.stk.take j):=by show _=_;unfold rq;rw [kG];congr 1;omega
   have HEL:Hid ((s.stk.take j).length=j):=by show _=_;rw [cF];omega
   clear Jc;go_wp2_with fail
   go_ret
   exact ⟨_,rfl,HB.out,by rw [HE.out,HEL.out];exact HR.out⟩
theorem xQ:∀(n:Nat) (l:Ln),qy (n+1) l=qy n l++[hdI (l.drop n)]
 |0,l=>by simp [qy]
 |n+1,l=>by
  rw [qy,xQ n l.tail,qy];simp [List.drop_tail]
theorem BQ:∀(n:Nat) (l:Ln),(qy n l).length=n
 |0,_=>rfl
 |n+1,l=>by simp [qy,BQ n]
theorem JX (n:Nat) (B mb:Nat) (fv:Value) (c:Cf) (s:Ms) (K:Nat->Prop) (sv rv nv ev:Value) (vs:List Value) (w:World) (h:MSt w B mb fv c s K sv rv nv ev vs) (hl:s.stk.length<=1099511627776) (hn:n<=100):
 Calls Tryz.prog 98 #[.pointer (some ⟨mb,0,none⟩),.int .i64 n] w fun e w'=>∃v,e=.returned v/\Below B w w'/\dm K w w'/\w'.ownsRow w.heap.size 90 2 v n (acs (qy n s.stk))/\∃sv',MSt w' B mb fv c {s with stk:=s.stk.drop n} K sv' rv nv ev vs/\sv'.ownBlock=sv.ownBlock:=by
 obtain ⟨i,hi,fp,dQ,eF⟩:=bE Tryz.infoItem;have hBw:B<=w.heap.size:=by have:=h.lo;have:=h.lt;omega
 have HT:Hid (MLt w.heap.size mb sv rv nv ev vs):=h.mlt;have HM:Hid (MSt w B mb fv c s K sv rv nv ev vs):=h;have HKL:Hid (∀k,K k->k<w.heap.size):=h.klt;clear h;go_enter Tryz.func98,Tryz.ntmps98
 go_wp2_with fail
 go_loopw [5,6] (fun y z wr=>∃j:Nat,j<=n/\z=.int .i64 j/\w.heap.size<=wr.heap.size/\Hid (Below B w wr)/\Hid (dm K w wr)/\(∃yo yc,y=.slice yo j yc)/\Hid (wr.ownsRow w.heap.size 90 2 y j (acs (qy j s.stk)))/\Hid (∃sv',MSt wr B mb fv c {s with stk:=s.stk.drop j} K sv' rv nv ev vs/\sv'.ownBlock=sv.ownBlock)) (fun _ z _=>n-(intOf z).toNat)
 case atStart=>exact ⟨0,by omega,rfl,ah _,ai _ _,dm.refl _ _,⟨none,0,rfl⟩,aM _ _ _ _,sv,HM.out,rfl⟩
 case round=>
  clear HM;obtain ⟨j,hj,rfl,iG,HB,HK,⟨yo,yc,rfl⟩,HR,HX⟩:=hrel;by_cases bF:j<n
  ·obtain ⟨sv1,fR,mU⟩:=HX.out;have YA:Hid (MLt w.heap.size mb sv1 rv nv ev vs):=⟨HT.out.m,by rw [mU];exact HT.out.s,HT.out.r,HT.out.n,HT.out.e,HT.out.v⟩;have CK:Hid (sv1.ownBlock=sv.ownBlock):=mU;have HC:Hid _:=TW B mb fv c {s with stk:=s.stk.drop j} _ sv1 rv nv ev vs wr (fR.fromT YA.out) (by show (s.stk.drop j).length<=_;rw [cI];omega);simp only at HC;have HS:Hid (acs (qy (j+1) s.stk)=acs (qy j s.stk)++[.int .i64 (hdI (s.stk.drop j)).1,.int .i64 (hdI (s.stk.drop j)).2]):=by show _=_;rw [xQ,jF]
   have HP:Hid (fX {s with stk:=s.stk.drop j}={s with stk:=s.stk.drop (j+1)}):=by show _=_;simp [fX]
   clear fR mU HX;generalize hdI (s.stk.drop j)=x at*;obtain ⟨x1,x2⟩:=x;simp only at*;go_wp2_with fail
   refine (show Calls _ _ _ _ _ from HC.out).mono ?_
   rintro e w1 ⟨rfl,bB,eA,sv2,gK,mT⟩
   clear HC;have eI:Hid (Below B w w1):=HB.out.trans bB;have fH:=bB.size;have mr:Hid (dm K w w1):=HK.out.trans (fun k hk hl=>eA k (.inl hk) hl) iG;have lN:Hid (w1.ownsRow w.heap.size 90 2 (.slice yo j yc) j (acs (qy j s.stk))):=j8 HR.out eA (fun k hk=>.inr (HR.out.lt k hk));have oP:Hid (MSt w1 B mb fv c {s with stk:=s.stk.drop (j+1)} K sv2 rv nv ev vs):=by rw [HP.out] at gK;exact gK.moreK (fun k hk=>.inl (.inl hk))
   have t7:Hid (sv2.ownBlock=sv.ownBlock):=mT.trans CK.out;clear bB eA gK mT HB HK HR YA;go_wp2_with (at_builtin;go_must (refine wpList_append_lies _ rfl _ _ _ rfl w.heap.size 90 i _ 2 16 Tryz.underlying83 hi fp dQ eF rfl (by omega) (.slice yo j yc) j (acs (qy j s.stk)) rfl ?hown _ 1 _ [.int .i64 x1,.int .i64 x2] rfl rfl ?dA ?h1 (by omega) ?kj ?cP ?cX _ rfl ?_))
   case hown=>exact (World.ownsRow.alloc lN.out _).alloc _
   case dA=>exact World.news_of_block (by have:=az (w1.alloc (Obj.cells #[.int .i64 x1,.int .i64 x2] 90)) (Obj.cells #[.int .i64 x1,.int .i64 x2] 90);rw [bT] at this;exact this)
   case h1=>simp [Value.oneCell']
   case kj=>unfold maxLen;omega
   case cP=>omega
   case cX=>simp;omega
   intro g cap2 w2 b7 cx gi cV;have oX:Hid (Below w.heap.size w1 w2):=((eU _ _ _).mono (by omega)).grown cx (by simp;omega) (fun k hk=>((lN.out.lt k hk).1));have gT:Hid (w2.ownsRow w.heap.size 90 2 (.slice (some ⟨g,0,none⟩) (j+1) cap2) (j+1) (acs (qy (j+1) s.stk))):=by rw [HS.out];exact b7
   clear b7 cx gi cV;have k9:=oX.out.size;go_wp2_with fail
   go_roundw
   case rel=>exact ⟨j+1,bF,by go_num,by omega,eI.out.trans (oX.out.mono hBw),mr.out.trans (fun k hk _=>oX.out.block k (HKL.out k hk)) (by omega),⟨_,_,rfl⟩,gT.out,sv2,oP.out.below ⟨HT.out.m,by rw [t7.out];exact HT.out.s,HT.out.r,HT.out.n,HT.out.e,HT.out.v⟩ oX.out,t7.out⟩
   case measure=>simp [intOf];omega
  ·have Dt:j=n:=by omega
   have hd:decide ((j:Int)<(n:Int))=false:=by simp;omega
   have jz:¬(j:Int)<(n:Int):=by omega
   have HJ:Hid (j=n):=Dt;clear Dt;go_wp2_with fail
   go_ret
   exact ⟨_,rfl,HB.out,HK.out,by rw [<-HJ.out];exact HR.out,by rw [<-HJ.out];exact HX.out⟩
theorem zx (n:Int) (h1: -9223372036854775808<=n) (h2:n<=9223372036854775807):IntKind.i64.wrap n=n:=by
 have e:IntKind.i64.wrap n=if 9223372036854775808<=n%18446744073709551616 then n%18446744073709551616-18446744073709551616 else n%18446744073709551616:=by simp [IntKind.wrap,IntKind.bits,IntKind.signed]
 rw [e];split<;>omega
theorem Iz (W:World) (b:Nat) (a0 a1:Value) (t:TypeId) (x1 x2:Value) (h:W.heap[b]?=some (.cells #[a0,a1] t (0,0))):((W.setCell ⟨b,0,none⟩ x1).setCell ⟨b,1,none⟩ x2).cell? ⟨b,0,none⟩=some x1/\((W.setCell ⟨b,0,none⟩ x1).setCell ⟨b,1,none⟩ x2).cell? ⟨b,1,none⟩=some x2:=by
 have h2:=bk (i:=1) x2 (bk (i:=0) x1 h);exact ⟨by rw [al _ b 0 _ _ _ h2];rfl,by rw [al _ b 1 _ _ _ h2];rfl⟩
theorem Y9 (B mb:Nat) (fv:Value) (c:Cf) (s:Ms) (K:Nat->Prop) (sv rv nv ev:Value) (vs:List Value) (w:World) (h:MSt w B mb fv c s K sv rv nv ev vs) (hl:s.stk.length<=1099511627776) (gS:s.frs.length<=1099511627776) (kG:flr s<=1099511627776):
 Calls Tryz.prog 56 #[.pointer (some ⟨mb,0,none⟩)] w fun e w'=>e=.returned (.tuple #[.agg #[.int .i64 (hdI s.stk).1,.int .i64 (hdI s.stk).2],.int .i64 (ql s)])/\Below w.heap.size w w':=by
 have HC:Hid (∀w',Below w.heap.size w w'->Calls Tryz.prog 92 #[.pointer (some ⟨mb,0,none⟩)] w' fun e w''=>e=.returned (.int .i64 (flr s))/\∃m,w''=w'.drewN m):=fun w' hb=>MB B mb fv c s K sv rv nv ev vs w' (h.old hb) gS
 obtain ⟨so,sc,rfl⟩:=aU h.rs;have c3:=h.c3;have pK:=h.lt;cases hs:s.stk with
 |nil=>
  have HA:Hid (ql s=0):=by show _=_;unfold ql;rw [hs];rfl
  rw [hs] at c3;simp only [bp] at c3;rw [HA.out];clear h hl hs HC;go_enter Tryz.func56,Tryz.ntmps56
  go_wp2_with fail
  exact aS (v:=.tuple #[.agg #[.int .i64 0,.int .i64 0],.int .i64 0]) (by simp [results,Tryz.results56,go_sem]) rfl ⟨rfl,bM _ _⟩
 |cons x r=>
  have gS:s.stk.length=r.length+1:=by rw [hs];rfl
  obtain ⟨q,cap',hq,yp,dX⟩:=h.rs.form (by omega);cases hq
  obtain ⟨a1,a2⟩:=IK x r;have k0:=aH h.rs (r.length*2) _ (by rw [hs];exact a1);have k1:=aH h.rs (r.length*2+1) _ (by rw [hs];exact a2);have HA:Hid (ql s=(r.length:Int)-flr s):=by show _=_;unfold ql;rw [gS,ay (by omega)];omega
  rw [gS] at c3 hl;rw [HA.out];clear h hs a1 a2 gS;generalize flr s=fl at*;obtain ⟨x1,x2⟩:=x;simp only [hdI,db];have oR:=zx ((r.length:Int)-(fl:Int)) (by omega) (by omega);go_enter Tryz.func56,Tryz.ntmps56
  go_wp2_with fail
  go_region_with (go_at_call 92;go_must (refine (show Calls _ _ _ _ _ from HC.out _ (by first|exact bM _ _|exact aR (bM _ _))).mono ?_);rintro e w1 ⟨rfl,m,rfl⟩)
  all_goals
   go_wp2_with fail
   obtain ⟨q0,q1⟩:=Iz ((w.alloc (Obj.cells #[.int .i64 0,.int .i64 0] 90)).drewN (1+m)) w.heap.size _ _ _ (.int .i64 x1) (.int .i64 x2) (by exact az w _);refine aS (v:=.tuple #[.agg #[.int .i64 x1,.int .i64 x2],.int .i64 ((r.length:Int)-fl)]) (by simp [results,Tryz.results56,go_sem,q0,q1]) rfl ⟨rfl,?_⟩
   exact ((bY (bM w _) _).setCell (by exact ah _) _).setCell (by exact ah _) _
end Go.Proofs.YtnndoagpbcacdabGreatDoor
