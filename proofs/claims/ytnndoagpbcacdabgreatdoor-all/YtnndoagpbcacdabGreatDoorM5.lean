import Derived.Test.YtnndoagpbcacdabGreatDoorMM3
namespace Go.Proofs.YtnndoagpbcacdabGreatDoor
set_option maxHeartbeats 4000000
open Go.RowKit
theorem MP.old {w w':World} {B mb:Nat} {fv:Value} {c:Cf} {s:Ms} {K:Nat->Prop} (h:MP w B mb fv c s K) (hb:Below w.heap.size w w'):MP w' B mb fv c s K:=by
 obtain ⟨sv,rv,nv,ev,vs,h⟩:=h;exact ⟨_,_,_,_,_,h.old hb⟩
theorem MP.lt {w:World} {B mb:Nat} {fv:Value} {c:Cf} {s:Ms} {K:Nat->Prop} (h:MP w B mb fv c s K):mb<w.heap.size:=by
 obtain ⟨sv,rv,nv,ev,vs,h⟩:=h;exact h.lt
theorem MP.lo {w:World} {B mb:Nat} {fv:Value} {c:Cf} {s:Ms} {K:Nat->Prop} (h:MP w B mb fv c s K):B<=mb:=by
 obtain ⟨sv,rv,nv,ev,vs,h⟩:=h;exact h.lo
theorem MP.less {w:World} {B mb:Nat} {fv:Value} {c:Cf} {s:Ms} {K K':Nat->Prop} (h:MP w B mb fv c s K) (hk:∀k,K' k->K k):MP w B mb fv c s K':=by
 obtain ⟨sv,rv,nv,ev,vs,h⟩:=h;exact ⟨_,_,_,_,_,h.moreK fun k h1=>.inl (hk k h1)⟩
theorem MP.box {w:World} {B mb:Nat} {fv:Value} {c:Cf} {s:Ms} {K:Nat->Prop} (h:MP w B mb fv c s K) (o:Obj):MP (w.alloc o) B mb fv c s (fun k=>K k\/k=w.heap.size):=by
 obtain ⟨sv,rv,nv,ev,vs,h⟩:=h;refine ⟨_,_,_,_,_,((h.old (bM w o)).fromT h.mlt).moreK fun k hk=>.inl ?_⟩
 rcases hk with hk|hk
 ·exact .inl hk
 ·exact .inr ⟨by omega,by simp;omega⟩
theorem dm.less {K K':Nat->Prop} {w w':World} (h:dm K w w') (hk:∀k,K' k->K k):dm K' w w':=fun k h1 h2=>h k (hk k h1) h2
theorem dm.blk {K:Nat->Prop} {w w':World} {b:Nat} {o:Obj} (h:dm K w w') (hk:K b) (hb:w.heap[b]?=some o):w'.heap[b]?=some o:=(h b hk (ae.1 hb).1).trans hb
theorem iM {w:World} {k:Nat} {u v:Value} {t:TypeId} (h:w.heap[k]?=some (.cells #[u,v] t (0,0))):w.cell? ⟨k,0,none⟩=some u/\w.cell? ⟨k,1,none⟩=some v:=
 ⟨by rw [al w k 0 _ _ _ h];rfl,by rw [al w k 1 _ _ _ h];rfl⟩
theorem tU {w:World} {k:Nat} {a b d e f:Value} {t:TypeId} (h:w.heap[k]?=some (.cells #[a,b,d,e,f] t (0,0))):w.cell? ⟨k,0,none⟩=some a/\w.cell? ⟨k,1,none⟩=some b/\w.cell? ⟨k,2,none⟩=some d/\w.cell? ⟨k,3,none⟩=some e/\w.cell? ⟨k,4,none⟩=some f:=
 ⟨by rw [al w k 0 _ _ _ h];rfl,by rw [al w k 1 _ _ _ h];rfl,by rw [al w k 2 _ _ _ h];rfl,by rw [al w k 3 _ _ _ h];rfl,by rw [al w k 4 _ _ _ h];rfl⟩
theorem F3 (p:Int) (B mb:Nat) (fv:Value) (c:Cf) (s:Ms) (K:Nat->Prop) (w:World) (h:MP w B mb fv c s K) (hl:s.stk.length<=1099511627770) (gS:s.frs.length<=1099511627770):
 Calls Tryz.prog 62 #[.pointer (some ⟨mb,0,none⟩),.int .i64 p] w fun e w'=>(∃v,e=.returned v)/\Below B w w'/\dm K w w'/\MP w' B mb fv c (IH p s) K:=by
 have kp:Hid _:=JY B mb fv c s K w h (by omega);generalize hdI s.stk=x0 at*;have HE:Hid (IH p s=lT (hdI s.stk.tail) (lA 2 0 p 0 (fX (fX s)))):=rfl;have HX:Hid (hdI (fX s).stk=hdI s.stk.tail):=rfl;rw [HE.out];generalize hdI s.stk.tail=x at*;obtain ⟨x1,x2⟩:=x;clear h HE;go_enter Tryz.func62,Tryz.ntmps62
 go_wp2_with fail
 refine (show Calls _ _ _ _ _ from kp.out).mono ?_
 rintro e w1 ⟨rfl,bB,eA,fR⟩
 have ul:(fX s).stk.length<=1099511627776:=by show s.stk.tail.length<=_;rw [ce];omega
 have fE:Hid _:=JY B mb fv c (fX s) K w1 fR ul;rw [HX.out] at fE;simp only at fE;clear kp HX fR;go_wp2_with fail
 refine (show Calls _ _ _ _ _ from fE.out).mono ?_
 rintro e w2 ⟨rfl,bX,eh,gK⟩
 have nN:B<=w2.heap.size:=by have:=gK.lt;have:=gK.lo;omega
 have ix:Hid _:=Ox 2 0 0 p 0 B mb fv c (fX (fX s)) _ _ (gK.box (Obj.cells #[.int .i64 x1,.int .i64 x2] 90)) (by exact aJ gS (by omega)) (by show s.stk.tail.tail.length<=_;rw [ce,ce];omega);have HB:Hid (Below B w (w2.alloc (Obj.cells #[.int .i64 x1,.int .i64 x2] 90))):=(bB.trans bX).alloc nN _;have HK:Hid (dm K w (w2.alloc (Obj.cells #[.int .i64 x1,.int .i64 x2] 90))):=(eA.trans eh bB.size).trans (dm.old (bM _ _)) (by have:=bB.size;have:=bX.size;omega);clear fE bB eA bX eh gK;go_wp2_with fail
 refine (show Calls _ _ _ _ _ from ix.out).mono ?_
 rintro e w3 ⟨⟨v3,rfl⟩,df,my,mt⟩
 have fe:=my.blk (.inr rfl) (az w2 _);obtain ⟨q0,q1⟩:=iM fe;have tn:w2.heap.size<w3.heap.size:=(ae.1 fe).1;have zv:Hid _:=Dd (x1,x2) B mb fv c (lA 2 0 p 0 (fX (fX s))) _ w3 mt (by show s.stk.tail.tail.length<=_;rw [ce,ce];omega);have lu:Hid (Below B w w3):=HB.out.trans df;have xB:Hid (dm K w w3):=HK.out.trans (my.less fun k hk=>.inl hk) HB.out.size;clear ix df my mt fe HB HK;go_wp2_with fail
 refine (show Calls _ _ _ _ _ from zv.out).mono ?_
 rintro e w4 ⟨⟨v4,rfl⟩,dU,tu,sa⟩
 have ni:Hid (Below B w w4):=lu.out.trans dU;have CM:Hid (dm K w w4):=xB.out.trans (tu.less fun k hk=>.inl hk) lu.out.size;have zh:Hid (MP w4 B mb fv c (lT (x1,x2) (lA 2 0 p 0 (fX (fX s)))) K):=sa.less fun k hk=>.inl hk
 clear zv dU tu sa q0 q1;go_wp2_with fail
 exact bH (v:=.tuple #[]) (by simp [results,Tryz.results62,go_sem]) rfl ⟨⟨_,rfl⟩,ni.out,CM.out,zh.out⟩
theorem Dg (fk fh fnd p fnu n:Int) (B mb:Nat) (fv:Value) (c:Cf) (s:Ms) (K:Nat->Prop) (w:World) (h:MP w B mb fv c s K) (hl:s.stk.length<=1099511627770) (gS:s.frs.length<=1099511627770):
 Calls Tryz.prog 104 #[.pointer (some ⟨mb,0,none⟩),.agg #[.int .i64 fk,.int .i64 fh,.int .i64 fnd,.int .i64 p,.int .i64 fnu],.int .i64 n] w fun e w'=>(∃v,e=.returned v)/\Below B w w'/\dm K w w'/\MP w' B mb fv c (zb p n s) K:=by
 have zw:Hid _:=OB B mb fv c s _ _ (h.box (Obj.cells #[.int .i64 fk,.int .i64 fh,.int .i64 fnd,.int .i64 p,.int .i64 fnu] 164)) (by omega);have pS:B<=w.heap.size:=by have:=h.lt;have:=h.lo;omega
 have HE:Hid (zb p n s=lT (hdI s.stk.tail) (lA 3 0 p n (fX (fX (gv s))))):=rfl;have HX:Hid (hdI (fX (gv s)).stk=hdI s.stk.tail):=rfl;rw [HE.out];generalize hdI s.stk.tail=x at*;obtain ⟨x1,x2⟩:=x;clear h HE;go_enter Tryz.func104,Tryz.ntmps104
 go_wp2_with fail
 refine (show Calls _ _ _ _ _ from zw.out).mono ?_
 rintro e w0 ⟨⟨v0,rfl⟩,jZ,qi,lX⟩
 have uD:Hid _:=qi.blk (.inr rfl) (az w _);have qe:Hid (Below B w w0):=((ai B w).alloc pS _).trans jZ;have El:Hid (dm K w w0):=(dm.old (bM w _)).trans (qi.less fun k hk=>.inl hk) (by simp);have kp:Hid _:=JY B mb fv c (gv s) _ w0 lX (by show s.stk.length<=_;omega);generalize hdI (gv s).stk=x0 at*;clear zw jZ qi lX;go_wp2_with fail
 refine (show Calls _ _ _ _ _ from kp.out).mono ?_
 rintro e w1 ⟨rfl,bB,eA,fR⟩
 have xl:Hid _:=eA.blk (.inr rfl) uD.out;have eI:Hid (Below B w w1):=qe.out.trans bB;have mr:Hid (dm K w w1):=El.out.trans (eA.less fun k hk=>.inl hk) qe.out.size;have ul:(fX (gv s)).stk.length<=1099511627776:=by show s.stk.tail.length<=_;rw [ce];omega
 have fE:Hid _:=JY B mb fv c (fX (gv s)) _ w1 fR ul;rw [HX.out] at fE;simp only at fE;clear kp HX fR bB eA uD qe El;go_wp2_with fail
 refine (show Calls _ _ _ _ _ from fE.out).mono ?_
 rintro e w2 ⟨rfl,bX,eh,gK⟩
 have nN:B<=w2.heap.size:=by have:=gK.lt;have:=gK.lo;omega
 have xk:Hid _:=eh.blk (.inr rfl) xl.out;have gj:Hid (Below B w w2):=eI.out.trans bX;have uC:Hid (dm K w w2):=mr.out.trans (eh.less fun k hk=>.inl hk) eI.out.size;have ix:Hid _:=Ox 3 0 0 p n B mb fv c (fX (fX (gv s))) _ _ (gK.box (Obj.cells #[.int .i64 x1,.int .i64 x2] 90)) (by show s.frs.tail.length<=_;rw [ce];omega) (by show s.stk.tail.tail.length<=_;rw [ce,ce];omega);have cV:w.heap.size<w2.heap.size:=(ae.1 xk.out).1;obtain ⟨_,_,_,p3,_⟩:=tU xk.out;have HB:Hid (Below B w (w2.alloc (Obj.cells #[.int .i64 x1,.int .i64 x2] 90))):=gj.out.alloc nN _;have HK:Hid (dm K w (w2.alloc (Obj.cells #[.int .i64 x1,.int .i64 x2] 90))):=uC.out.trans (dm.old (bM _ _)) gj.out.size;clear fE bX eh gK xl eI mr;go_wp2_with fail
 refine (show Calls _ _ _ _ _ from ix.out).mono ?_
 rintro e w3 ⟨⟨v3,rfl⟩,df,my,mt⟩
 have fe:=my.blk (.inr rfl) (az w2 _);obtain ⟨q0,q1⟩:=iM fe;have tn:w2.heap.size<w3.heap.size:=(ae.1 fe).1;have zv:Hid _:=Dd (x1,x2) B mb fv c (lA 3 0 p n (fX (fX (gv s)))) _ w3 mt (by show s.stk.tail.tail.length<=_;rw [ce,ce];omega);have lu:Hid (Below B w w3):=HB.out.trans df;have xB:Hid (dm K w w3):=HK.out.trans (my.less fun k hk=>.inl (.inl hk)) HB.out.size;clear ix df my mt fe HB HK p3 gj uC xk;go_wp2_with fail
 refine (show Calls _ _ _ _ _ from zv.out).mono ?_
 rintro e w4 ⟨⟨v4,rfl⟩,dU,tu,sa⟩
 have ni:Hid (Below B w w4):=lu.out.trans dU;have CM:Hid (dm K w w4):=xB.out.trans (tu.less fun k hk=>.inl (.inl hk)) lu.out.size;have zh:Hid (MP w4 B mb fv c (lT (x1,x2) (lA 3 0 p n (fX (fX (gv s))))) K):=sa.less fun k hk=>.inl (.inl hk)
 clear zv dU tu sa q0 q1;go_wp2_with fail
 exact bH (v:=.tuple #[]) (by simp [results,Tryz.results104,go_sem]) rfl ⟨⟨_,rfl⟩,ni.out,CM.out,zh.out⟩
theorem OC (bb:Bool) (B mb:Nat) (fv:Value) (c:Cf) (s:Ms) (K:Nat->Prop) (w:World) (h:MP w B mb fv c s K) (hl:s.stk.length<=1099511627770):
 Calls Tryz.prog 140 #[.pointer (some ⟨mb,0,none⟩),.bool bb] w fun e w'=>(∃v,e=.returned v)/\Below B w w'/\dm K w w'/\MP w' B mb fv c (kN bb s) K:=by
 have kp:Hid _:=JY B mb fv c s K w h (by omega);have HE:Hid (kN bb s=lT (if bb then hdI s.stk else hdI s.stk.tail) (fX (fX s))):=rfl;have HX:Hid (hdI (fX s).stk=hdI s.stk.tail):=rfl;rw [HE.out];generalize hdI s.stk.tail=x at*;generalize hdI s.stk=y at*;obtain ⟨x1,x2⟩:=x;obtain ⟨y1,y2⟩:=y;simp only at kp;clear h HE;go_enter Tryz.func140,Tryz.ntmps140
 go_wp2_with fail
 refine (show Calls _ _ _ _ _ from kp.out).mono ?_
 rintro e w1 ⟨rfl,bB,eA,fR⟩
 have EM:B<=w1.heap.size:=by have:=fR.lt;have:=fR.lo;omega
 have ul:(fX s).stk.length<=1099511627776:=by show s.stk.tail.length<=_;rw [ce];omega
 have fE:Hid _:=JY B mb fv c (fX s) _ _ (fR.box (Obj.cells #[.int .i64 y1,.int .i64 y2] 90)) ul;rw [HX.out] at fE;simp only at fE;have eI:Hid (Below B w (w1.alloc (Obj.cells #[.int .i64 y1,.int .i64 y2] 90))):=bB.alloc EM _;have mr:Hid (dm K w (w1.alloc (Obj.cells #[.int .i64 y1,.int .i64 y2] 90))):=eA.trans (dm.old (bM _ _)) bB.size;clear kp HX fR bB eA;go_wp2_with fail
 refine (show Calls _ _ _ _ _ from fE.out).mono ?_
 rintro e w2 ⟨rfl,bX,eh,gK⟩
 have nN:B<=w2.heap.size:=by have:=gK.lt;have:=gK.lo;omega
 have HBX:Hid _:=eh.blk (.inr rfl) (az w1 _);have um:w1.heap.size<w2.heap.size:=(ae.1 HBX.out).1;obtain ⟨q0,q1⟩:=iM HBX.out;have gj:Hid (Below B w (w2.alloc (Obj.cells #[.int .i64 x1,.int .i64 x2] 90))):=(eI.out.trans bX).alloc nN _;have uC:Hid (dm K w (w2.alloc (Obj.cells #[.int .i64 x1,.int .i64 x2] 90))):=(mr.out.trans (eh.less fun k hk=>.inl hk) eI.out.size).trans (dm.old (bM _ _)) (eI.out.trans bX).size;have oP:Hid (MP (w2.alloc (Obj.cells #[.int .i64 x1,.int .i64 x2] 90)) B mb fv c (fX (fX s)) K):=(gK.less fun k hk=>.inl hk).old (bM _ _);have zo:(fX (fX s)).stk.length<=1099511627776:=by show s.stk.tail.tail.length<=_;rw [ce,ce];omega
 have ix:Hid _:=Dd (if bb then (y1,y2) else (x1,x2)) B mb fv c (fX (fX s)) K _ oP.out zo;clear fE bX eh gK eI mr HBX;cases bb
 all_goals
  simp only [cm,dc,cQ] at ix ⊢;go_wp2_with fail
  refine (show Calls _ _ _ _ _ from ix.out).mono ?_
  rintro e w4 ⟨⟨v4,rfl⟩,dU,tu,sa⟩
  have ni:Hid (Below B w w4):=gj.out.trans dU;have CM:Hid (dm K w w4):=uC.out.trans tu gj.out.size;have zh:Hid _:=sa;clear ix dU tu sa q0 q1;go_wp2_with fail
  exact bH (v:=.tuple #[]) (by simp [results,Tryz.results140,go_sem]) rfl ⟨⟨_,rfl⟩,ni.out,CM.out,zh.out⟩
theorem BX (B mb:Nat) (fv:Value) (c:Cf) (s:Ms) (K:Nat->Prop) (w:World) (h:MP w B mb fv c s K):
 Calls Tryz.prog 96 #[.pointer (some ⟨mb,0,none⟩)] w fun e w'=>e=.returned (.bool (decide (s.stp<c.bud)))/\Below B w w'/\dm K w w'/\MP w' B mb fv c (if c.bud<=s.stp then {s with out:=5} else s) K:=by
 obtain ⟨sv,rv,nv,ev,vs,h⟩:=h;have c7:=h.c7;have c1:=h.c1;have pK:=h.lt;have jN:=h.lo;have HM:Hid (∀m,MSt (w.drewN m) B mb fv c s K sv rv nv ev vs):=fun m=>h.old (bY (ai _ _) m)
 have HK:Hid (¬K mb):=h.noK;clear h;generalize fZ:s.stp=st at*;generalize Yn:c.bud=bu at*;have Ed:Hid (s.stp=st):=fZ;clear fZ Yn;by_cases iH:bu<=st
 ·have hd:decide (st<bu)=false:=by simp;omega
  have jz:decide (bu<=st)=true:=by simpa using iH
  rw [hd,aA iH];have HF:Hid (∀m,MSt ((w.drewN m).setCell ⟨mb,8,none⟩ (.int .i64 5)) B mb fv c {s with out:=5} K sv rv nv ev vs):=fun m=>(HM.out m).field rfl rfl rfl rfl rfl
  go_enter Tryz.func96,Tryz.ntmps96
  go_wp2_with fail
  go_quiet (fail)
  have c8:=(HM.out nq).c8;have f8:=(HM.out nq).fz 8;go_wp2_with fail
  go_ret
  exact ⟨rfl,(bY (ai B w) _).setCell (by exact jN) _,(dm.old (bY (ai _ w) _)).trans (dm.set HK.out) (ah _),_,_,_,_,_,by have h:=HF.out nq;rw [Ed.out] at h;exact h⟩
 ·have hd:decide (st<bu)=true:=by simp;omega
  have jz:decide (bu<=st)=false:=by simpa using iH
  rw [hd,ay iH];go_enter Tryz.func96,Tryz.ntmps96
  go_wp2_with fail
  go_quiet (fail)
  go_wp2_with fail
  go_ret
  exact ⟨rfl,bY (ai B w) _,dm.old (bY (ai _ w) _),_,_,_,_,_,HM.out _⟩
theorem OA (t:Int×Int) (B mb:Nat) (fv:Value) (c:Cf) (s:Ms) (K:Nat->Prop) (w:World) (h:MP w B mb fv c s K):
 Calls Tryz.prog 102 #[.pointer (some ⟨mb,0,none⟩),.agg #[.int .i64 t.1,.int .i64 t.2]] w fun e w'=>(∃v,e=.returned v)/\Below B w w'/\dm K w w'/\MP w' B mb fv c (Ro t s) K:=by
 obtain ⟨sv,rv,nv,ev,vs,h⟩:=h;have c8:=h.c8;have c9:=h.c9;have f8:=h.fz 8;have f9:=h.fz 9;have pK:=h.lt;have jN:=h.lo;have HK:Hid (¬K mb):=h.noK;obtain ⟨t1,t2⟩:=t;by_cases ht:t1=1
 ·subst ht;have HE:Hid (Ro (1,t2) s={s with out:=1,val:=t2}):=rfl;have HF:Hid (MSt ((w.setCell ⟨mb,8,none⟩ (.int .i64 1)).setCell ⟨mb,9,none⟩ (.int .i64 t2)) B mb fv c {s with out:=1,val:=t2} K sv rv nv ev vs):=MSt.field (s':={s with out:=1,val:=t2}) (MSt.field (s':={s with out:=1}) h rfl rfl rfl rfl rfl) rfl rfl rfl rfl rfl;rw [HE.out];clear h HE;go_enter Tryz.func102,Tryz.ntmps102
  go_wp2_with fail
  refine bH (v:=.tuple #[]) (by simp [results,Tryz.results102,go_sem]) rfl ⟨⟨_,rfl⟩,(((ai B w).setCell (by exact jN) _).setCell (by exact jN) _).alloc (by simp [World.setCell];omega) _,?_,_,_,_,_,_,HF.out.old (bM _ _)⟩
  exact ((dm.set HK.out).trans (dm.set HK.out) (by rw [eY];exact ah _)).trans (dm.old (bM _ _)) (by rw [eY,eY];exact ah _)
 ·have HE:Hid (Ro (t1,t2) s={s with out:=2}):=ay ht;have HF:Hid (MSt (w.setCell ⟨mb,8,none⟩ (.int .i64 2)) B mb fv c {s with out:=2} K sv rv nv ev vs):=h.field rfl rfl rfl rfl rfl;have hd:(t1==1)=false:=by simpa using ht
  rw [HE.out];clear h HE;go_enter Tryz.func102,Tryz.ntmps102
  go_wp2_with fail
  refine bH (v:=.tuple #[]) (by simp [results,Tryz.results102,go_sem]) rfl ⟨⟨_,rfl⟩,((ai B w).setCell (by exact jN) _).alloc (by simp [World.setCell];omega) _,(dm.set HK.out).trans (dm.old (bM _ _)) (by rw [eY];exact ah _),_,_,_,_,_,HF.out.old (bM _ _)⟩
theorem TT (x y:Int) (h1: -1000000000<=x) (h2:x<=1000000000) (h3: -1000000000<=y) (h4:y<=1000000000): -1000000000000000000<=x*y/\x*y<=1000000000000000000:=by
 have hx:x.natAbs<=1000000000:=by omega
 have hy:y.natAbs<=1000000000:=by omega
 have h:(x*y).natAbs<=1000000000*1000000000:=by rw [Int.natAbs_mul];exact Nat.mul_le_mul hx hy
 omega
theorem Zc (p x y:Int) (mN: -1000000000<=x) (xp:x<=1000000000) (Ca: -1000000000<=y) (B9:y<=1000000000) (B mb:Nat) (fv:Value) (c:Cf) (s:Ms) (K:Nat->Prop) (w:World) (h:MP w B mb fv c s K) (hl:s.stk.length<=1099511627770):
 Calls Tryz.prog 141 #[.pointer (some ⟨mb,0,none⟩),.int .i64 p,.int .i64 x,.int .i64 y] w fun e w'=>(∃v,e=.returned v)/\Below B w w'/\dm K w w'/\MP w' B mb fv c (D6 p x y s) K:=by
 have HC:Hid _:=Dd (1,iD p x y) B mb fv c s K w h (by omega);have HE:Hid (D6 p x y s=if 1000000000<iD p x y\/iD p x y< -1000000000 then {s with out:=4} else lT (1,iD p x y) s):=rfl;rw [HE.out];clear HE;simp only at HC;obtain ⟨sv,rv,nv,ev,vs,h⟩:=h;have c8:=h.c8;have f8:=h.fz 8;have pK:=h.lt;have jN:=h.lo;have HK:Hid (¬K mb):=h.noK;have HF:Hid (MSt (w.setCell ⟨mb,8,none⟩ (.int .i64 4)) B mb fv c {s with out:=4} K sv rv nv ev vs):=h.field rfl rfl rfl rfl rfl;clear h;have hm:=TT x y mN xp Ca B9;have hv:(p=0/\iD p x y=x+y)\/(p=1/\iD p x y=x-y)\/((p==0)=false/\(p==1)=false/\iD p x y=x*y):=by
  unfold iD;by_cases h0:p=0
  ·left;simp [h0]
  ·by_cases h1:p=1
   ·right;left;simp [h1]
   ·right;right;simp [h0,h1]
 generalize hV:iD p x y=V at*;clear hV;rcases hv with ⟨rfl,hv⟩|⟨rfl,hv⟩|⟨g0,g1,hv⟩
 all_goals
  subst hv;go_enter Tryz.func141,Tryz.ntmps141
 ·by_cases bB:1000000000<x+y
  ·have mu:decide (1000000000<x+y)=true:=by simpa using bB
   rw [aA (.inl bB)];go_wp2_with fail
   exact aS (v:=.tuple #[]) (by simp [results,Tryz.results141,go_sem]) rfl ⟨⟨_,rfl⟩,(ai B w).setCell (by exact jN) _,dm.set HK.out,_,_,_,_,_,HF.out⟩
  ·by_cases bX:x+y< -1000000000
   ·have mu:decide (1000000000<x+y)=false:=by simpa using bB
    have jz:decide (x+y< -1000000000)=true:=by simpa using bX
    rw [aA (.inr bX)];go_wp2_with fail
    exact aS (v:=.tuple #[]) (by simp [results,Tryz.results141,go_sem]) rfl ⟨⟨_,rfl⟩,(ai B w).setCell (by exact jN) _,dm.set HK.out,_,_,_,_,_,HF.out⟩
   ·have mu:decide (1000000000<x+y)=false:=by simpa using bB
    have jz:decide (x+y< -1000000000)=false:=by simpa using bX
    rw [ay (by omega)];go_wp2_with fail
    refine (show Calls _ _ _ _ _ from HC.out).mono ?_
    rintro e w1 ⟨⟨v1,rfl⟩,bB,eA,fR⟩
    have nF:Hid _:=fR;clear fR HC;go_wp2_with fail
    exact bH (v:=.tuple #[]) (by simp [results,Tryz.results141,go_sem]) rfl ⟨⟨_,rfl⟩,bB,eA,nF.out⟩
 ·by_cases bB:1000000000<x-y
  ·have mu:decide (1000000000<x-y)=true:=by simpa using bB
   rw [aA (.inl bB)];go_wp2_with fail
   exact aS (v:=.tuple #[]) (by simp [results,Tryz.results141,go_sem]) rfl ⟨⟨_,rfl⟩,(ai B w).setCell (by exact jN) _,dm.set HK.out,_,_,_,_,_,HF.out⟩
  ·by_cases bX:x-y< -1000000000
   ·have mu:decide (1000000000<x-y)=false:=by simpa using bB
    have jz:decide (x-y< -1000000000)=true:=by simpa using bX
    rw [aA (.inr bX)];go_wp2_with fail
    exact aS (v:=.tuple #[]) (by simp [results,Tryz.results141,go_sem]) rfl ⟨⟨_,rfl⟩,(ai B w).setCell (by exact jN) _,dm.set HK.out,_,_,_,_,_,HF.out⟩
   ·have mu:decide (1000000000<x-y)=false:=by simpa using bB
    have jz:decide (x-y< -1000000000)=false:=by simpa using bX
    rw [ay (by omega)];go_wp2_with fail
    refine (show Calls _ _ _ _ _ from HC.out).mono ?_
    rintro e w1 ⟨⟨v1,rfl⟩,bB,eA,fR⟩
    have nF:Hid _:=fR;clear fR HC;go_wp2_with fail
    exact bH (v:=.tuple #[]) (by simp [results,Tryz.results141,go_sem]) rfl ⟨⟨_,rfl⟩,bB,eA,nF.out⟩
 ·by_cases bB:1000000000<x*y
  ·have mu:decide (1000000000<x*y)=true:=by simpa using bB
   rw [aA (.inl bB)];go_wp2_with fail
   exact aS (v:=.tuple #[]) (by simp [results,Tryz.results141,go_sem]) rfl ⟨⟨_,rfl⟩,(ai B w).setCell (by exact jN) _,dm.set HK.out,_,_,_,_,_,HF.out⟩
  ·by_cases bX:x*y< -1000000000
   ·have mu:decide (1000000000<x*y)=false:=by simpa using bB
    have jz:decide (x*y< -1000000000)=true:=by simpa using bX
    rw [aA (.inr bX)];go_wp2_with fail
    exact aS (v:=.tuple #[]) (by simp [results,Tryz.results141,go_sem]) rfl ⟨⟨_,rfl⟩,(ai B w).setCell (by exact jN) _,dm.set HK.out,_,_,_,_,_,HF.out⟩
   ·have mu:decide (1000000000<x*y)=false:=by simpa using bB
    have jz:decide (x*y< -1000000000)=false:=by simpa using bX
    rw [ay (by omega)];go_wp2_with fail
    refine (show Calls _ _ _ _ _ from HC.out).mono ?_
    rintro e w1 ⟨⟨v1,rfl⟩,bB,eA,fR⟩
    have nF:Hid _:=fR;clear fR HC;go_wp2_with fail
    exact bH (v:=.tuple #[]) (by simp [results,Tryz.results141,go_sem]) rfl ⟨⟨_,rfl⟩,bB,eA,nF.out⟩
theorem JZ (fk fh fnd p x y:Int) (mN: -1000000000<=x) (xp:x<=1000000000) (Ca: -1000000000<=y) (B9:y<=1000000000) (B mb:Nat) (fv:Value) (c:Cf) (s:Ms) (K:Nat->Prop) (w:World) (h:MP w B mb fv c s K) (hl:s.stk.length<=1099511627770) (gS:s.frs.length<=1099511627770) (fH:0<=s.stp) (k9:s.stp<=1099511627770):
 Calls Tryz.prog 105 #[.pointer (some ⟨mb,0,none⟩),.agg #[.int .i64 fk,.int .i64 fh,.int .i64 fnd,.int .i64 p,.int .i64 x],.int .i64 y] w fun e w'=>(∃v,e=.returned v)/\Below B w w'/\dm K w w'/\MP w' B mb fv c (A7 c p x y s) K:=by
 have zw:Hid _:=BX B mb fv c s _ _ (h.box (Obj.cells #[.int .i64 fk,.int .i64 fh,.int .i64 fnd,.int .i64 p,.int .i64 x] 164));have pS:B<=w.heap.size:=by have:=h.lt;have:=h.lo;omega
 clear h;by_cases iH:c.bud<=s.stp
 ·have hd:decide (s.stp<c.bud)=false:=by simp;omega
  have HE:Hid (A7 c p x y s={s with out:=5}):=aA iH;rw [HE.out];rw [hd,aA iH] at zw;clear HE;go_enter Tryz.func105,Tryz.ntmps105
  go_wp2_with fail
  refine (show Calls _ _ _ _ _ from zw.out).mono ?_
  rintro e w0 ⟨rfl,jZ,qi,lX⟩
  have HM:Hid _:=lX;clear lX zw;go_wp2_with fail
  exact aS (v:=.tuple #[]) (by simp [results,Tryz.results105,go_sem]) rfl ⟨⟨_,rfl⟩,((ai B w).alloc pS _).trans jZ,(dm.old (bM w _)).trans (qi.less fun k hk=>.inl hk) (by simp),MP.less HM.out fun k hk=>.inl hk⟩
 ·have hd:decide (s.stp<c.bud)=true:=by simp;omega
  have HE:Hid (A7 c p x y s=if p=3 then kN (decide (x<y)) (fX (gv {s with stp:=s.stp+1})) else if p=4 then kN (decide (x=y)) (fX (gv {s with stp:=s.stp+1})) else D6 p x y (fX (gv {s with stp:=s.stp+1}))):=ay iH;rw [HE.out];rw [hd,ay iH] at zw;clear HE;go_enter Tryz.func105,Tryz.ntmps105
  go_wp2_with fail
  refine (show Calls _ _ _ _ _ from zw.out).mono ?_
  rintro e w0 ⟨rfl,jZ,qi,⟨sv,rv,nv,ev,vs,lX⟩⟩
  have uD:Hid _:=qi.blk (.inr rfl) (az w _);have qe:Hid (Below B w w0):=((ai B w).alloc pS _).trans jZ;have El:Hid (dm K w w0):=(dm.old (bM w _)).trans (qi.less fun k hk=>.inl hk) (by simp);have c7:=lX.c7;have f7:=lX.fz 7;have pK:=lX.lt;have jN:=lX.lo;have GJ:=lX.noK;have HF:Hid (MP (w0.setCell ⟨mb,7,none⟩ (.int .i64 (s.stp+1))) B mb fv c {s with stp:=s.stp+1} (fun k=>K k\/k=w.heap.size)):=⟨_,_,_,_,_,lX.field rfl rfl rfl rfl rfl⟩;have eI:Hid (Below B w (w0.setCell ⟨mb,7,none⟩ (.int .i64 (s.stp+1)))):=qe.out.setCell (by exact jN) _;have mr:Hid (dm K w (w0.setCell ⟨mb,7,none⟩ (.int .i64 (s.stp+1)))):=El.out.trans (dm.set fun hk=>GJ (.inl hk)) qe.out.size;have xl:Hid _:=(dm.set (K:=fun k=>K k\/k=w.heap.size) (w:=w0) (i:=7) (u:=.int .i64 (s.stp+1)) GJ).blk (.inr rfl) uD.out;have kp:Hid _:=OB B mb fv c {s with stp:=s.stp+1} _ _ HF.out (by show s.frs.length<=_;omega);clear zw jZ qi lX qe El uD HF GJ;go_wp2_with fail
  refine (show Calls _ _ _ _ _ from kp.out).mono ?_
  rintro e w1 ⟨⟨v1,rfl⟩,bB,eA,fR⟩
  have xk:Hid _:=eA.blk (.inr rfl) xl.out;have gj:Hid (Below B w w1):=eI.out.trans bB;have uC:Hid (dm K w w1):=mr.out.trans (eA.less fun k hk=>.inl hk) eI.out.size;have fE:Hid _:=JY B mb fv c (gv {s with stp:=s.stp+1}) _ w1 fR (by show s.stk.length<=_;omega);generalize hdI (gv {s with stp:=s.stp+1}).stk=x0 at*;clear kp bB eA fR eI mr xl c7 f7 pK;go_wp2_with fail
  refine (show Calls _ _ _ _ _ from fE.out).mono ?_
  rintro e w2 ⟨rfl,bX,eh,gK⟩
  have zk:Hid _:=eh.blk (.inr rfl) xk.out;have tn:w.heap.size<w2.heap.size:=(ae.1 zk.out).1;obtain ⟨_,_,_,p3,p4⟩:=tU zk.out;have lu:Hid (Below B w w2):=gj.out.trans bX;have xB:Hid (dm K w w2):=uC.out.trans (eh.less fun k hk=>.inl hk) gj.out.size;have xj:Hid (MP w2 B mb fv c (fX (gv {s with stp:=s.stp+1})) K):=gK.less fun k hk=>.inl hk
  have gV:(fX (gv {s with stp:=s.stp+1})).stk.length<=1099511627770:=by show s.stk.tail.length<=_;rw [ce];omega
  have XN:Hid (∀bb,Calls Tryz.prog 140 #[.pointer (some ⟨mb,0,none⟩),.bool bb] w2 fun e w'=>(∃v,e=.returned v)/\Below B w2 w'/\dm K w2 w'/\MP w' B mb fv c (kN bb (fX (gv {s with stp:=s.stp+1}))) K):=fun bb=>OC bb B mb fv c _ K w2 xj.out gV
  have YQ:Hid _:=Zc p x y mN xp Ca B9 B mb fv c _ K w2 xj.out gV;clear fE bX eh gK gj uC xk zk xj;by_cases h3:p=3
  ·subst h3;go_wp2_with fail
   refine (show Calls _ _ _ _ _ from XN.out _).mono ?_
   rintro e w4 ⟨⟨v4,rfl⟩,dU,tu,sa⟩
   have zh:Hid _:=sa;have ni:Hid (Below B w w4):=lu.out.trans dU;have CM:Hid (dm K w w4):=xB.out.trans tu lu.out.size;clear XN YQ sa dU tu p3 p4;go_wp2_with fail
   exact bH (v:=.tuple #[]) (by simp [results,Tryz.results105,go_sem]) rfl ⟨⟨_,rfl⟩,ni.out,CM.out,zh.out⟩
  ·by_cases h4:p=4
   ·subst h4;have hbe:(x==y)=decide (x=y):=by by_cases MF:x=y<;>simp [MF]
    go_wp2_with fail
    refine (show Calls _ _ _ _ _ from XN.out _).mono ?_
    rintro e w4 ⟨⟨v4,rfl⟩,dU,tu,sa⟩
    have zh:Hid _:=sa;have ni:Hid (Below B w w4):=lu.out.trans dU;have CM:Hid (dm K w w4):=xB.out.trans tu lu.out.size;clear XN YQ sa dU tu p3 p4;go_wp2_with fail
    exact bH (v:=.tuple #[]) (by simp [results,Tryz.results105,go_sem]) rfl ⟨⟨_,rfl⟩,ni.out,CM.out,by rw [<-hbe];exact zh.out⟩
   ·have g3:(p==3)=false:=by simpa using h3
    have g4:(p==4)=false:=by simpa using h4
    go_wp2_with fail
    refine (show Calls _ _ _ _ _ from YQ.out).mono ?_
    rintro e w4 ⟨⟨v4,rfl⟩,dU,tu,sa⟩
    have zh:Hid _:=sa;have ni:Hid (Below B w w4):=lu.out.trans dU;have CM:Hid (dm K w w4):=xB.out.trans tu lu.out.size;clear XN YQ sa dU tu p3 p4;go_wp2_with fail
    exact bH (v:=.tuple #[]) (by simp [results,Tryz.results105,go_sem]) rfl ⟨⟨_,rfl⟩,ni.out,CM.out,zh.out⟩
end Go.Proofs.YtnndoagpbcacdabGreatDoor
