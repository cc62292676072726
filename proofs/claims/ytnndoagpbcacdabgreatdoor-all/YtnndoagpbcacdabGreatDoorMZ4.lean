import Derived.Test.YtnndoagpbcacdabGreatDoorMN18
import Derived.Laws.CopyOwn
import Derived.Deep.DeepCutAuto
import Derived.Test.YtnndoagpbcacdabGreatDoorMC2
namespace Go.Proofs.YtnndoagpbcacdabGreatDoor
open Go.RowKit
theorem C2 (P:Program) (w:World) (dT sT ty elem:TypeId) (g o dLen dCap:Nat) (a:Addr) (sLen sCap z:Nat) (cur:Array Value) (t:TypeId) (cs:List Value)
 (hu:P.underlying dT=some (.slice elem)) (hs:(P.info? elem).map (·.size)=some z)
 (hg:w.heap[g]?=some (.cells cur t (0,0))) (hn:cs.length=Nat.min sLen dLen*z)
 (Kh:∀j v,cs[j]?=some v->w.cell? (a.add j)=some v) (oF:o+cs.length<=cur.size) (h1:∀v∈cs,v.oneCell'=true):
 (Builtin.copy_ #[dT,sT] ty #[.slice (some ⟨g,o,none⟩) dLen dCap,.slice (some a) sLen sCap]).run P w=
  .ok (goInt (Nat.min sLen dLen)) (w.setRow g (cur.toList.take o++cs++cur.toList.drop (o+cs.length)).toArray):=by
 have hl:=run_loadCells_list (P:=P) w a cs Kh;have fZ:=run_storeCells_at P g o t cs 0 cur w hg (by simpa using oF) h1;cases hq:P.info? elem with
 |none=>simp [hq] at hs
 |some i=>
  have hi:i.size=z:=by simpa [hq] using hs
  simp [Builtin.copy_,run_underlying hu,Builtin.lenOf,Builtin.firstCells,sizeOf,typeInfo,hq,hi,<-hn,hl,fZ]
theorem sM (P:Program) (w:World) (dT sT ty elem:TypeId) (a:Addr) (dLen dCap sCap:Nat) (hu:P.underlying dT=some (.slice elem)) (hs:((P.info? elem).map (·.size)).isSome=true):
 (Builtin.copy_ #[dT,sT] ty #[.slice (some a) dLen dCap,.slice none 0 sCap]).run P w=.ok (goInt 0) w:=by
 cases hq:P.info? elem with
 |none=>simp [hq] at hs
 |some i=>simp [Builtin.copy_,run_underlying hu,Builtin.lenOf,Builtin.firstCells,sizeOf,typeInfo,hq,storeCells]
theorem v8 (P:Program) (w:World) (dT sT ty elem:TypeId) (z:Nat) (hu:P.underlying dT=some (.slice elem)) (iG:(P.info? elem).map (·.size)=some z)
 (g dLen dCap:Nat) (sp:Option Addr) (sLen sCap:Nat) (iH:sLen<=dLen)
 (cur:Array Value) (t:TypeId) (hg:w.heap[g]?=some (.cells cur t (0,0))) (cs:List Value) (hn:cs.length=sLen*z)
 (Kh:sLen=0\/∃ad,sp=some ad/\∀j v,cs[j]?=some v->w.cell? (ad.add j)=some v) (oF:cs.length<=cur.size) (h1:∀v∈cs,v.oneCell'=true):
 (Builtin.copy_ #[dT,sT] ty #[.slice (some ⟨g,0,none⟩) dLen dCap,.slice sp sLen sCap]).run P w=.ok (goInt sLen) (w.setRow g (cs++cur.toList.drop cs.length).toArray):=by
 have Vc:Nat.min sLen dLen=sLen:=gH iH;have UK:w.setRow g cur=w:=setRow_self w g cur t (0,0) hg;cases sp with
 |none=>
  rcases Kh with h0|⟨ad,hc,_⟩
  ·subst h0;obtain rfl:cs=[]:=List.eq_nil_of_length_eq_zero (by simpa using hn);rw [sM P w dT sT ty elem _ dLen dCap sCap hu (by rw [iG];rfl)];simp [UK]
  ·cases hc
 |some ad=>
  have UD:∀j v,cs[j]?=some v->w.cell? (ad.add j)=some v:=by
   rcases Kh with h0|⟨ad',hc,h2⟩
   ·obtain rfl:cs=[]:=List.eq_nil_of_length_eq_zero (by simpa [h0] using hn);intro j v hv;simp at hv
   ·cases hc;exact h2
  have:=C2 P w dT sT ty elem g 0 dLen dCap ad sLen sCap z cur t cs hu iG hg (by rw [Vc];exact hn) UD (by omega) h1;rw [Vc] at this;simpa using this
set_option maxHeartbeats 8000000
set_option maxRecDepth 100000
structure Keeps (B:Nat) (w w':World):Prop where
 size:w.heap.size<=w'.heap.size
 blk:∀b,B<=b->b<w.heap.size->w'.heap[b]?=w.heap[b]?
theorem Keeps.of {w w':World} (h:Below w.heap.size w w') (B:Nat):Keeps B w w':=⟨h.size,fun b _ hb=>h.block b hb⟩
theorem Keeps.put {B k i:Nat} {w:World} {u:Value} (h:k<B):Keeps B w (w.setCell ⟨k,i,none⟩ u):=⟨by simp [World.setCell],fun b hb _=>bi _ (by omega)⟩
theorem Keeps.trans {B:Nat} {w w' w'':World} (h1:Keeps B w w') (h2:Keeps B w' w''):Keeps B w w'':=
 ⟨aJ h1.size h2.size,fun b hb hl=>(h2.blk b hb (bq hl h1.size)).trans (h1.blk b hb hl)⟩
theorem za {B b k:Nat} {w w':World} {v:Value} (h:w.cell? ⟨b,k,none⟩=some v) (hK:Keeps B w w') (hb:B<=b):w'.cell? ⟨b,k,none⟩=some v:=by
 have bF:=World.block_lt_of_cell? w _ h;have e:=hK.blk b hb bF;unfold World.cell? at h ⊢;rw [e];exact h
def AtL (w:World) (B:Nat) (v:Value) (l:Ln):Prop:=∃e,v=.slice (some ⟨e,0,none⟩) l.length (l.length+1)/\l.length+1<=maxLen/\B<=e/\e<w.heap.size/\(∀j (h:j<l.length),w.cell? ⟨e,j*2,none⟩=some (.int .i64 l[j].1)/\w.cell? ⟨e,j*2+1,none⟩=some (.int .i64 l[j].2))/\w.cell? ⟨e,l.length*2,none⟩=some (.int .i64 77)/\w.cell? ⟨e,l.length*2+1,none⟩=some (.int .i64 0)
def LnL (w:World) (B:Nat) (v:Value) (L:List Ln):Prop:=∃e d,v=.slice (some ⟨e,0,none⟩) L.length (L.length+1)/\L.length+1<=maxLen/\B<=e/\e<w.heap.size/\(∀j (h:j<L.length),∃u,w.cell? ⟨e,j,none⟩=some u/\AtL w B u L[j])/\w.cell? ⟨e,L.length,none⟩=some (.slice (some ⟨d,0,none⟩) 1 1)/\B<=d/\d<w.heap.size/\w.cell? ⟨d,0,none⟩=some (.int .i64 77)/\w.cell? ⟨d,1,none⟩=some (.int .i64 0)
theorem AtL.keep {B:Nat} {w w':World} {v:Value} {l:Ln} (h:AtL w B v l) (hK:Keeps B w w'):AtL w' B v l:=by
 obtain ⟨e,h1,h2,h0,h3,h4,h5,h6⟩:=h;exact ⟨e,h1,h2,h0,bq h3 hK.size,fun j hj=>⟨za (h4 j hj).1 hK h0,za (h4 j hj).2 hK h0⟩,za h5 hK h0,za h6 hK h0⟩
theorem LnL.keep {B:Nat} {w w':World} {v:Value} {L:List Ln} (h:LnL w B v L) (hK:Keeps B w w'):LnL w' B v L:=by
 obtain ⟨e,d,h1,h2,h0,h3,h4,h5,hd,h6,h7,h8⟩:=h;refine ⟨e,d,h1,h2,h0,bq h3 hK.size,fun j hj=>?_,za h5 hK h0,hd,bq h6 hK.size,za h7 hK hd,za h8 hK hd⟩
 obtain ⟨u,g1,g2⟩:=h4 j hj;exact ⟨u,za g1 hK h0,g2.keep hK⟩
theorem AtL.down {B B':Nat} {w:World} {v:Value} {l:Ln} (h:AtL w B v l) (hB:B'<=B):AtL w B' v l:=by
 obtain ⟨e,h1,h2,h0,h3⟩:=h;exact ⟨e,h1,h2,aJ hB h0,h3⟩
theorem AtL.lent {B:Nat} {w:World} {v:Value} {l:Ln} (h:AtL w B v l):t8 w v l:=by
 obtain ⟨e,h1,h2,_,h3,h4⟩:=h;exact ⟨e,h1,h2,h3,h4⟩
theorem LnL.lent {B:Nat} {w:World} {v:Value} {L:List Ln} (h:LnL w B v L):t6 w v L:=by
 obtain ⟨e,d,h1,h2,_,h3,h4,h5,_,h6⟩:=h;refine ⟨e,d,h1,h2,h3,fun j hj=>?_,h5,h6⟩
 obtain ⟨u,g1,g2⟩:=h4 j hj;exact ⟨u,g1,g2.lent⟩
theorem wA {w:World} {B g e size n:Nat} {xs:List Value} (h:w.ownsRow B e size (.slice (some ⟨g,0,none⟩) n n) n xs):∃cur:Array Value,w.heap[g]?=some (.cells cur e (0,0))/\cur.size=n*size:=by
 rcases h.2 with ⟨h1,_⟩|⟨g',cap,cur,h1,_,h2,_,_,h3,_⟩
 ·cases h1
 ·cases h1;exact ⟨cur,h2,h3⟩
theorem o6 (w:World) (a b c:Array Value) (s t u:TypeId):
 (((w.alloc (.cells a s)).alloc (.cells b t)).alloc (.cells c u)).heap[w.heap.size]?=some (.cells a s (0,0))/\
 (((w.alloc (.cells a s)).alloc (.cells b t)).alloc (.cells c u)).heap[w.heap.size+1]?=some (.cells b t (0,0))/\
 (((w.alloc (.cells a s)).alloc (.cells b t)).alloc (.cells c u)).heap[w.heap.size+1+1]?=some (.cells c u (0,0))/\
 Below w.heap.size w (((w.alloc (.cells a s)).alloc (.cells b t)).alloc (.cells c u)):=by
 have n1:(w.alloc (.cells a s)).heap.size=w.heap.size+1:=by simp
 have n2:((w.alloc (.cells a s)).alloc (.cells b t)).heap.size=w.heap.size+1+1:=by simp
 have h1:=az (w.alloc (.cells a s)) (.cells b t);have h2:=az ((w.alloc (.cells a s)).alloc (.cells b t)) (.cells c u);rw [n1] at h1;rw [n2] at h2;refine ⟨?_,?_,h2,?_⟩
 ·exact (aO _ _ _ (by rw [n2];omega)).trans ((aO _ _ _ (by rw [n1];omega)).trans (az w _))
 ·exact (aO _ _ _ (by rw [n2];omega)).trans h1
 ·exact (((ai _ _).alloc (ah _) _).alloc (by rw [n1];omega) _).alloc (by rw [n2];omega) _
theorem Bf (l:Ln):(acs l).length=l.length*2:=by
 induction l with
 |nil=>rfl
 |cons a l ih=>simp [acs] at ih ⊢;omega
theorem LO (l:Ln):∀v∈acs l,v.oneCell'=true:=by
 intro v hv;simp only [acs,fJ,aK,ck,dV] at hv;obtain ⟨a,_,rfl|rfl⟩:=hv<;>rfl
theorem IF {w:World} {T k:Nat} {s:Option Addr} {l:Ln} (h:eL w T (.slice s l.length k) l):l.length=0\/∃ad,s=some ad/\∀jj v,(acs l)[jj]?=some v->w.cell? (ad.add jj)=some v:=by
 obtain ⟨a,cap,h1,_,_,h4⟩:=h;cases h1
 rcases h4 with h4|⟨b,off,rfl,_,hc⟩
 ·exact .inl h4
 ·refine .inr ⟨_,rfl,fun jj v hv=>?_⟩
  have bF:jj<(acs l).length:=(aP.1 hv).1;rw [Bf] at bF;have e:((⟨b,off,none⟩:Addr).add jj)=⟨b,off+jj,none⟩:=by unfold Addr.add;split<;>simp_all
  rw [e];have hq:jj/2<l.length:=by omega
  obtain ⟨c0,c1⟩:=hc (jj/2) hq;obtain ⟨a0,a1⟩:=ru l (jj/2) hq;by_cases hp:jj%2=0
  ·have ej:jj=jj/2*2:=by omega
   generalize jj/2=m at*;subst ej;rw [a0] at hv;cases hv
   exact c0
  ·have ej:jj=jj/2*2+1:=by omega
   generalize jj/2=m at*;subst ej;rw [a1] at hv;cases hv
   rw [<-jG];exact c1
theorem Ry {w:World} {AB B:Nat} {t:TypeId} {l:Ln} {R:List Value} (hR:R.length=2) (hl:l.length+1<=maxLen) (hB:B<=AB) (h:w.heap[AB]?=some (.cells (((acs l++R).toArray.setIfInBounds (l.length*2) (.int .i64 77)).setIfInBounds (l.length*2+1) (.int .i64 0)) t (0,0))):AtL w B (.slice (some ⟨AB,0,none⟩) l.length (l.length+1)) l:=by
 have qZ:=Bf l;refine ⟨AB,rfl,hl,hB,(ae.1 h).1,fun j hj=>⟨?_,?_⟩,?_,?_⟩
 ·rw [al w AB _ _ _ _ h,aV (by omega),aV (by omega),ax,aI (by omega)];exact (ru l j hj).1
 ·rw [al w AB _ _ _ _ h,aV (by omega),aV (by omega),ax,aI (by omega)];exact (ru l j hj).2
 ·rw [al w AB _ _ _ _ h,aV (by omega),bz (by simp;omega)]
 ·rw [al w AB _ _ _ _ h,bz (by simp;omega)]
def tZ (fs:List Tp):Prop:=fs.length<=1048576/\∀t∈fs,t.ls.length<=1048576/\∀l∈t.ls,l.length<=1048576
theorem Zd (mn:Int) (fs:List Tp) (fv:Value) (w:World) (hf:dS w w.heap.size fv fs) (nB:tZ fs):
 Calls Tryz.prog 72 #[.agg #[.int .i64 mn,fv]] w fun e w'=>∃e' k c,e=.returned (.agg #[.int .i64 mn,.slice (some ⟨e',0,none⟩) k c])/\np w' (.slice (some ⟨e',0,none⟩) k c) fs/\Below w.heap.size w w':=by
 obtain ⟨o,cap,rfl,lk,kT,jA⟩:=hf;have hn:=nB.1;have mD:Hid _:=nB.2;clear nB;unfold maxLen at kT;obtain ⟨ia,Yh,SK,SI,Wp⟩:=bE Tryz.infoAtom;obtain ⟨il,ly,tt,kV,gS⟩:=bE Tryz.infoLine;obtain ⟨it,Je,X8,ul,Pk⟩:=bE Tryz.infoTemplate;go_enter Tryz.func72,Tryz.ntmps72
 go_wp2_with (at_make;go_must (refine fI _ rfl _ _ 61 rfl w.heap.size 79 it _ 2 Tryz.underlying61 Je X8 ul _ _ _ _ (fs.length+1) rfl rfl (by simp) (by simp) ?mb ?ml ?mbase ?_))
 case mb=>rw [Pk];omega
 case ml=>unfold maxLen;omega
 case mbase=>simp;omega
 intro w1 dR kE;obtain ⟨cur1,Yw,WA⟩:=wA dR;have lq:Hid _:=o6 w #[.int .i64 mn,.slice o fs.length cap] #[.int .i64 0,.slice none 0 0] #[.int .i64 mn,.slice none 0 0] 63 63 63;have jB:Below (((w.alloc (Obj.cells #[.int .i64 mn,.slice o fs.length cap] 63)).alloc (Obj.cells #[.int .i64 0,.slice none 0 0] 63)).alloc (Obj.cells #[.int .i64 mn,.slice none 0 0] 63)).heap.size (((w.alloc (Obj.cells #[.int .i64 mn,.slice o fs.length cap] 63)).alloc (Obj.cells #[.int .i64 0,.slice none 0 0] 63)).alloc (Obj.cells #[.int .i64 mn,.slice none 0 0] 63)) w1:=(ai _ _).grown (row:=none) kE (ah _) (fun k hk=>by cases hk);have Q3:=(jB.block _ (by simp<;>omega)).trans lq.out.1;have q9:=(jB.block _ (by simp<;>omega)).trans lq.out.2.1;have pR:=(jB.block _ (by simp<;>omega)).trans lq.out.2.2.1;have mW:Below w.heap.size w w1:=lq.out.2.2.2.trans (jB.mono (by simp;omega));have WD:w.heap.size+1+1+1<w1.heap.size:=(ae.1 Yw).1;clear jB lq dR kE;obtain ⟨EB,hEB⟩:∃EB,EB=w.heap.size+1+1+1:=⟨_,rfl⟩;rw [<-hEB] at Yw WD;have aic:w.heap.size+1+1<EB:=by omega
 go_wp2_with fail
 rw [<-hEB];clear hEB
 go_loopw [5] (fun y wr=>∃(i:Nat) (cur:Array Value),i<=fs.length/\y=.int .i64 i/\Below w.heap.size w wr/\wr.heap[w.heap.size]?=some (.cells #[.int .i64 mn,.slice o fs.length cap] 63 (0,0))/\wr.heap[w.heap.size+1]?=some (.cells #[.int .i64 0,.slice none 0 0] 63 (0,0))/\wr.heap[w.heap.size+1+1]?=some (.cells #[.int .i64 mn,.slice none 0 0] 63 (0,0))/\wr.heap[EB]?=some (.cells cur 79 (0,0))/\Hid (cur.size=(fs.length+1)*2)/\Hid (∀k (h:k<fs.length),k<i->∃u,cur[k*2]?=some (.int .i64 fs[k].ar)/\cur[k*2+1]?=some u/\LnL wr (EB+1) u fs[k].ls)) (fun y _=>fs.length-(intOf y).toNat)
 case atStart=>exact ⟨0,cur1,aF _,rfl,mW,Q3,q9,pR,Yw,WA,fun k h hk=>by omega⟩
 case round=>
  clear Q3 q9 pR Yw WA mW WD;obtain ⟨i,cur,hi,rfl,hb,Q3,q9,pR,hE,ju,zj⟩:=hrel;obtain ⟨W,hW⟩:∃W,W=wr:=⟨wr,rfl⟩;subst hW;have Jj:=hb.size;have hEl:EB<W.heap.size:=(ae.1 hE).1;have ahN:w.heap.size<W.heap.size:=by omega
  obtain ⟨_,a1,_,_⟩:=bS Q3;by_cases bF:i<fs.length
  ·rcases jA with hz|⟨b1,f1,rfl,bB,AM⟩
   ·omega
   obtain ⟨lv1,e0,e1,hl⟩:=AM i bF;have YP:Hid _:=e0;have HE1:Hid _:=e1;have fZ:=mD.out fs[i] (aE _);have HFI:Hid (∀(h:i<fs.length) (u:Value) (x:World),LnL x (EB+1) u fs[i].ls->LnL x (EB+1) u fs[i].ls):=fun _ _ _ h=>h
   rw [<-hb.cell (p:=⟨b1,f1+i*2,none⟩) (show b1<_ by omega)] at e0;rw [<-hb.cell (p:=⟨b1,f1+i*2+1,none⟩) (show b1<_ by omega)] at e1;have lb1:b1<W.heap.size:=by omega
   obtain ⟨t,ht⟩:∃t,t=fs[i]:=⟨_,rfl⟩;have HT:Hid (t=fs[i]):=ht;rw [<-ht] at e0 hl fZ YP;clear ht HFI;obtain ⟨ar,ls⟩:=t;simp only at e0 hl fZ YP;obtain ⟨p1,d1,rfl,aaS,QD,P5⟩:=hl;unfold maxLen at QD;have gV:=fZ.1;have Bo:Hid _:=fZ.2;clear fZ;go_wp2_with (at_make;go_must (refine fI _ rfl _ _ 56 rfl w.heap.size 100 il _ 1 Tryz.underlying56 ly tt kV _ _ _ _ (ls.length+1) rfl rfl (by simp) (by simp) ?mb2 ?ml2 ?mbase2 ?_))
   case mb2=>rw [gS];omega
   case ml2=>unfold maxLen;omega
   case mbase2=>exact Jj
   intro w2 b7 cx;obtain ⟨cur2,hX,hXs⟩:=wA b7;have jB:Below W.heap.size W w2:=(ai _ _).grown (row:=none) cx (ah _) (fun k hk=>by cases hk);clear b7 cx;obtain ⟨XB,hXB⟩:∃XB,XB=W.heap.size:=⟨_,rfl⟩;have ahK:XB<=W.heap.size:=by omega
   have abp:W.heap.size<=XB:=by omega
   rw [<-hXB] at hX jB;go_wp2_with fail
   rw [<-hXB];clear hXB
   go_loopw [7] (fun y wr=>∃(j:Nat) (cur2:Array Value),j<=ls.length/\y=.int .i64 j/\Below XB W wr/\wr.heap[XB]?=some (.cells cur2 100 (0,0))/\Hid (cur2.size=(ls.length+1)*1)/\Hid (∀k (h:k<ls.length),k<j->∃u,cur2[k]?=some u/\AtL wr (XB+1) u ls[k])) (fun y _=>ls.length-(intOf y).toNat)
   case atStart=>exact ⟨0,cur2,aF _,rfl,jB,hX,hXs,fun k h hk=>by omega⟩
   case round=>
    clear hX hXs jB a1 e0 e1;obtain ⟨j,cur2,hj,rfl,bX,hX,mC,HDJ⟩:=hrel;have Q0:=bX.size;have hXl:XB<wr.heap.size:=(ae.1 hX).1;have kH:Below w.heap.size w wr:=hb.trans (bX.mono (by omega));have e1:=HE1.out;rw [<-kH.cell (p:=⟨b1,f1+i*2+1,none⟩) (show b1<_ by omega)] at e1;have lb1':b1<wr.heap.size:=by omega
    have lx0':w.heap.size<wr.heap.size:=by omega
    obtain ⟨_,a1,_,_⟩:=bS ((bX.block _ (by omega)).trans Q3);by_cases dG:j<ls.length
    ·rcases P5 with hz|⟨q1,g1,rfl,Do,yB⟩
     ·omega
     obtain ⟨av,u1,dt⟩:=yB j dG;have HU1:Hid _:=u1;rw [<-kH.cell (p:=⟨q1,g1+j,none⟩) (show q1<_ by omega)] at u1;have lq1':q1<wr.heap.size:=by omega
     have un:=Bo.out ls[j] (aE _);obtain ⟨l,iH⟩:∃l,l=ls[j]:=⟨_,rfl⟩;have R3:Hid (l=ls[j]):=iH;rw [<-iH] at dt un;clear iH;have HAT:Hid (eL w w.heap.size av l):=dt;obtain ⟨s1,k1,AT,_,eA,_⟩:=dt;subst AT;unfold maxLen at eA;go_wp2_with (at_make;go_must (refine fI _ rfl _ _ 100 rfl w.heap.size 99 ia _ 2 Tryz.underlying100 Yh SK SI _ _ _ _ (l.length+1) rfl rfl (by simp) (by simp) ?mb3 ?ml3 ?mbase3 ?_))
     case mb3=>rw [Wp];omega
     case ml3=>unfold maxLen;omega
     case mbase3=>omega
     intro w3 Ch GU;obtain ⟨cur3,hA,hAs⟩:=wA Ch;have Hf:Below wr.heap.size wr w3:=(ai _ _).grown (row:=none) GU (ah _) (fun k hk=>by cases hk);clear Ch GU;obtain ⟨AB,hAB⟩:∃AB,AB=wr.heap.size:=⟨_,rfl⟩;have aio:AB<=wr.heap.size:=by omega
     have ain:wr.heap.size<=AB:=by omega
     rw [<-hAB] at hA Hf;have aiq:AB<w3.heap.size:=(ae.1 hA).1;have kX:Below w.heap.size w w3:=kH.trans (Hf.mono (by omega));have e1':=HE1.out;rw [<-kX.cell (p:=⟨b1,f1+i*2+1,none⟩) (show b1<_ by omega)] at e1';obtain ⟨_,a1',_,_⟩:=bS ((Hf.block _ (by omega)).trans ((bX.block _ (by omega)).trans Q3));have u1':=HU1.out;rw [<-kX.cell (p:=⟨q1,g1+j,none⟩) (show q1<_ by omega)] at u1';have lq3:q1<w3.heap.size:=by omega
     have lb3:b1<w3.heap.size:=by omega
     have lx3:w.heap.size<w3.heap.size:=by omega
     clear e1 u1 a1;have Xf:Hid (l.length=0\/∃ad,s1=some ad/\∀jj v,(acs l)[jj]?=some v->w3.cell? (ad.add jj)=some v):=IF (eL.keep HAT.out kX);have ES:Hid ((Tryz.prog.info? 99).map (·.size)=some 2):=by show _=_;rw [Yh];simp [SI]
     have qZ:(acs l).length=l.length*2:=Bf l;have S8:Hid (∀v∈acs l,v.oneCell'=true):=LO l;have Wr:=(Hf.block _ (by omega)).trans hX;have HR:Hid ((w3.setRow AB (acs l++cur3.toList.drop (acs l).length).toArray).heap[AB]?=some (.cells (acs l++cur3.toList.drop (acs l).length).toArray 99 (0,0))):=setRow_heap w3 AB _ _ _ _ hA;have zd:Hid ((w3.setRow AB (acs l++cur3.toList.drop (acs l).length).toArray).heap[XB]?=some (.cells cur2 100 (0,0))):=(setRow_other w3 AB XB _ (by omega)).trans Wr;have ni:Hid (Below wr.heap.size wr (w3.setRow AB (acs l++cur3.toList.drop (acs l).length).toArray)):=below_setRow (Hf.mono (by omega)) (by omega) _;have LV:Hid ((cur3.toList.drop (acs l).length).length=2):=by show _=_;rw [cI,Array.length_toList,hAs,qZ];omega
     have oF:(acs l).length<=cur3.size:=by omega
     have VY:(Builtin.copy_ #[100,100] 3 #[.slice (some ⟨AB,0,none⟩) (l.length+1) (l.length+1),.slice s1 l.length k1]).run Tryz.prog w3=.ok (goInt l.length) (w3.setRow AB (acs l++cur3.toList.drop (acs l).length).toArray):=v8 Tryz.prog w3 _ _ _ 99 2 Tryz.underlying100 ES.out AB (l.length+1) (l.length+1) s1 l.length k1 (by omega) cur3 99 hA (acs l) qZ Xf.out oF S8.out;obtain ⟨R,hRd⟩:∃R,R=cur3.toList.drop (acs l).length:=⟨_,rfl⟩;rw [<-hRd] at VY HR zd ni LV;generalize jR:w3.setRow AB (acs l++R).toArray=w4 at*;clear hRd jR Xf ES oF S8;have aip:AB<w4.heap.size:=(ae.1 HR.out).1;have ahL:XB<w4.heap.size:=(ae.1 zd.out).1;have Ke:(acs l++R).toArray.size=l.length*2+2:=by have:=LV.out;simp [qZ,this]
     have c0:w4.cell? ⟨AB,l.length*2,none⟩=some ((acs l++R).toArray[l.length*2]'(by omega)):=by rw [al w4 AB _ _ _ _ HR.out];exact bV _
     have c1:w4.cell? ⟨AB,l.length*2+1,none⟩=some ((acs l++R).toArray[l.length*2+1]'(by omega)):=by rw [al w4 AB _ _ _ _ HR.out];exact bV _
     have nV:j<cur2.size:=by have:=mC.out;omega
     have c2:w4.cell? ⟨XB,j,none⟩=some cur2[j]:=by rw [al w4 XB _ _ _ _ zd.out];exact bV _
     have fr0:=aG w4 AB (l.length*2) _ _ HR.out;have fr1:=aG w4 AB (l.length*2+1) _ _ HR.out;have fr2:=aG w4 XB j _ _ zd.out;generalize (acs l++R).toArray[l.length*2]'_=x0 at c0;generalize (acs l++R).toArray[l.length*2+1]'_=x1 at c1;generalize cur2[j]=x2 at c2;have dI:XB≠AB:=by omega
     rw [<-hAB];clear hAB;go_wp2_with fail
     go_roundw
     case rel=>
      refine ⟨j+1,cur2.setIfInBounds j (.slice (some ⟨AB,0,none⟩) l.length (l.length+1)),dG,by go_num,(((bX.trans (ni.out.mono (by omega))).setCell (by show XB<=AB;omega) _).setCell (by show XB<=AB;omega) _).setCell (by exact ah _) _,bk _ ((bi _ dI).trans ((bi _ dI).trans zd.out)),by have:=mC.out;simp only [Hid,de];exact this,fun k h hk=>?_⟩
      by_cases hkj:k=j
      ·subst hkj;refine ⟨_,bz nV,?_⟩
       rw [<-R3.out];exact Ry LV.out (by unfold maxLen;omega) (by omega) ((bi _ (Ne.symm dI)).trans (bk _ (bk _ HR.out)))
      ·obtain ⟨u,g1,g2⟩:=HDJ.out k h (by omega);exact ⟨u,by rw [aV (fun h=>hkj h.symm)];exact g1,g2.keep ((Keeps.of ((ni.out.setCell (by show wr.heap.size<=AB;omega) _).setCell (by show wr.heap.size<=AB;omega) _) _).trans (Keeps.put (eM _)))⟩
     case measure=>simp [intOf];omega
    ·have Du:j=ls.length:=by omega
     have HJM:Hid (j=ls.length):=Du;have GR:¬(j:Int)<(ls.length:Int):=by omega
     clear Du;have aa3:Below w.heap.size w wr:=kH;have e0:=YP.out;rw [<-kH.cell (p:=⟨b1,f1+i*2,none⟩) (show b1<_ by omega)] at e0;have gK:ls.length<cur2.size:=by have:=mC.out;omega
     have c2:wr.cell? ⟨XB,ls.length,none⟩=some cur2[ls.length]:=by rw [al wr XB _ _ _ _ hX];exact bV _
     have fr2:=aG wr XB ls.length _ _ hX;generalize cur2[ls.length]=x2 at c2;have WC:=(bX.block _ (by omega)).trans hE;have abP:i*2+1<cur.size:=by have:=ju.out;omega
     have c3:wr.cell? ⟨EB,i*2,none⟩=some cur[i*2]:=by rw [al wr EB _ _ _ _ WC];exact bV _
     have c4:wr.cell? ⟨EB,i*2+1,none⟩=some cur[i*2+1]:=by rw [al wr EB _ _ _ _ WC];exact bV _
     have fr3:=aG wr EB (i*2) _ _ WC;have fr4:=aG wr EB (i*2+1) _ _ WC;generalize cur[i*2]=x3 at c3;generalize cur[i*2+1]=x4 at c4;have As:EB≠XB:=by omega
     have pJ:b1≠XB:=by omega
     have P2:w.heap.size≠XB:=by omega
     have aib:EB<wr.heap.size:=by omega
     go_wp2_with fail
     obtain ⟨DB,hDB⟩:∃DB,DB=wr.heap.size:=⟨_,rfl⟩;have aie:DB<=wr.heap.size:=by omega
     have aid:wr.heap.size<=DB:=by omega
     have ve:(wr.setCell ⟨XB,ls.length,none⟩ (.slice (some ⟨DB,0,none⟩) 1 1)).heap.size=wr.heap.size:=by simp [World.setCell]
     have h5D:=az (wr.setCell ⟨XB,ls.length,none⟩ (.slice (some ⟨DB,0,none⟩) 1 1)) (Obj.cells #[.int .i64 77,.int .i64 0] 99);rw [ve,<-hDB] at h5D;have h5X:=(aO (wr.setCell ⟨XB,ls.length,none⟩ (.slice (some ⟨DB,0,none⟩) 1 1)) (Obj.cells #[.int .i64 77,.int .i64 0] 99) XB (by rw [ve];omega)).trans (bk (i:=ls.length) (.slice (some ⟨DB,0,none⟩) 1 1) hX);have WI:=(aO (wr.setCell ⟨XB,ls.length,none⟩ (.slice (some ⟨DB,0,none⟩) 1 1)) (Obj.cells #[.int .i64 77,.int .i64 0] 99) EB (by rw [ve];omega)).trans ((bi (i:=ls.length) (.slice (some ⟨DB,0,none⟩) 1 1) As).trans WC);have dB:Below XB W ((wr.setCell ⟨XB,ls.length,none⟩ (.slice (some ⟨DB,0,none⟩) 1 1)).alloc (Obj.cells #[.int .i64 77,.int .i64 0] 99)):=(bX.setCell (by exact ah _) _).alloc (by rw [ve];omega) _;have Nk:Keeps (XB+1) wr ((wr.setCell ⟨XB,ls.length,none⟩ (.slice (some ⟨DB,0,none⟩) 1 1)).alloc (Obj.cells #[.int .i64 77,.int .i64 0] 99)):=(Keeps.put (eM _)).trans (Keeps.of ((ai _ _).alloc (ah _) _) _);rw [<-hDB];clear hDB c2 fr2 c3 c4 fr3 fr4 a1 e0 e1;generalize ((wr.setCell ⟨XB,ls.length,none⟩ (.slice (some ⟨DB,0,none⟩) 1 1)).alloc (Obj.cells #[.int .i64 77,.int .i64 0] 99))=w5 at*;clear ve;have abc:=dB.size;have yK:Below w.heap.size w w5:=hb.trans (dB.mono (by omega));have h50:=(dB.block _ (by omega)).trans Q3;have h51:=(dB.block _ (by omega)).trans q9;have h52:=(dB.block _ (by omega)).trans pR;obtain ⟨_,a1,_,_⟩:=bS h50;have e0:=YP.out;rw [<-yK.cell (p:=⟨b1,f1+i*2,none⟩) (show b1<_ by omega)] at e0;have c3:w5.cell? ⟨EB,i*2,none⟩=some cur[i*2]:=by rw [al w5 EB _ _ _ _ WI];exact bV _
     have c4:w5.cell? ⟨EB,i*2+1,none⟩=some cur[i*2+1]:=by rw [al w5 EB _ _ _ _ WI];exact bV _
     have fr3:=aG w5 EB (i*2) _ _ WI;have fr4:=aG w5 EB (i*2+1) _ _ WI;generalize cur[i*2]=x3 at c3;generalize cur[i*2+1]=x4 at c4;have l0:w.heap.size<w5.heap.size:=by omega
     have l1:b1<w5.heap.size:=by omega
     have l2:EB<w5.heap.size:=by omega
     obtain ⟨wc,Ah⟩:∃wc,wc=((w5.setCell ⟨EB,i*2,none⟩ (.int .i64 ar)).setCell ⟨EB,i*2+1,none⟩ (.slice (some ⟨XB,0,none⟩) ls.length (ls.length+1))).drew:=⟨_,rfl⟩;have CI:Hid (wc=((w5.setCell ⟨EB,i*2,none⟩ (.int .i64 ar)).setCell ⟨EB,i*2+1,none⟩ (.slice (some ⟨XB,0,none⟩) ls.length (ls.length+1))).drew):=Ah;have HH:Hid (wc.heap=((w5.setCell ⟨EB,i*2,none⟩ (.int .i64 ar)).setCell ⟨EB,i*2+1,none⟩ (.slice (some ⟨XB,0,none⟩) ls.length (ls.length+1))).heap):=by rw [Ah];rfl
     have HBC:Hid (Below w.heap.size w wc):=by rw [Ah];exact aR ((yK.setCell (by show w.heap.size<=EB;omega) _).setCell (by show w.heap.size<=EB;omega) _)
     clear Ah;have SO:Keeps (EB+1) w5 wc:=((Keeps.put (eM _)).trans (Keeps.put (eM _))).trans ⟨by rw [HH.out];exact ah _,fun b _ _=>by rw [HH.out]⟩;have hEc:wc.heap[EB]?=some (.cells ((cur.setIfInBounds (i*2) (.int .i64 ar)).setIfInBounds (i*2+1) (.slice (some ⟨XB,0,none⟩) ls.length (ls.length+1))) 79 (0,0)):=by rw [HH.out];exact bk _ (bk _ WI)
     have V8:wc.heap[w.heap.size]?=some (.cells #[.int .i64 mn,.slice (some ⟨b1,f1,none⟩) fs.length cap] 63 (0,0)):=by rw [HH.out];exact (bi _ (by omega)).trans ((bi _ (by omega)).trans h50)
     have lk:wc.heap[w.heap.size+1]?=some (.cells #[.int .i64 0,.slice none 0 0] 63 (0,0)):=by rw [HH.out];exact (bi _ (by omega)).trans ((bi _ (by omega)).trans h51)
     have kT:wc.heap[w.heap.size+1+1]?=some (.cells #[.int .i64 mn,.slice none 0 0] 63 (0,0)):=by rw [HH.out];exact (bi _ (by omega)).trans ((bi _ (by omega)).trans h52)
     have acK:Hid (LnL wc (EB+1) (.slice (some ⟨XB,0,none⟩) ls.length (ls.length+1)) ls):=by
      have hcX:wc.heap[XB]?=_:=(SO.blk XB (by omega) (ae.1 h5X).1).trans h5X;have hcD:wc.heap[DB]?=_:=(SO.blk DB (by omega) ((ae.1 h5D).1)).trans h5D;obtain ⟨z0,z1,_,_⟩:=bS hcD;refine ⟨XB,DB,rfl,by unfold maxLen;omega,by omega,(ae.1 hcX).1,fun k h=>?_,?_,by omega,(ae.1 hcD).1,z0,z1⟩
      ·obtain ⟨u,g1,g2⟩:=HDJ.out k h (by have:=HJM.out;omega);refine ⟨u,?_,(g2.keep (Nk.trans ⟨SO.size,fun b hb hl=>SO.blk b (by omega) hl⟩)).down (by omega)⟩
       rw [al wc XB _ _ _ _ hcX,aV (by omega)];exact g1
      ·rw [al wc XB _ _ _ _ hcX,bz gK]
     have ac1:Hid _:=hEc;have ac5:Hid _:=V8;have ac3:Hid _:=lk;have ac2:Hid _:=kT;have ac0:Hid _:=SO;clear hEc V8 lk kT SO;go_region
     all_goals
      go_wp2_with fail
      go_roundw
      case rel=>
       obtain rfl:=CI.out;refine ⟨i+1,_,bF,by go_num,HBC.out,ac5.out,ac3.out,ac2.out,ac1.out,by have:=ju.out;simp only [Hid,de];exact this,fun k h hk=>?_⟩
       by_cases Ye:k=i
       ·subst Ye;refine ⟨.slice (some ⟨XB,0,none⟩) ls.length (ls.length+1),?_,?_,?_⟩
        ·rw [<-HT.out,aV (by omega),bz (by omega)]
        ·rw [bz (by simp;omega)]
        ·rw [<-HT.out];exact acK.out
       ·obtain ⟨u,g0,g1,g2⟩:=zj.out k h (by omega);refine ⟨u,?_,?_,g2.keep ((Keeps.of (dB.mono abp) _).trans ac0.out)⟩
        ·rw [aV (by omega),aV (by omega)];exact g0
        ·rw [aV (by omega),aV (by omega)];exact g1
      case measure=>simp [intOf];omega
  ·have Yg:i=fs.length:=by omega
   have ue:Hid (i=fs.length):=Yg;have Ks:¬(i:Int)<(fs.length:Int):=by omega
   clear Yg;have abP:fs.length*2+1<cur.size:=by have:=ju.out;omega
   have c3:W.cell? ⟨EB,fs.length*2,none⟩=some cur[fs.length*2]:=by rw [al W EB _ _ _ _ hE];exact bV _
   have c4:W.cell? ⟨EB,fs.length*2+1,none⟩=some cur[fs.length*2+1]:=by rw [al W EB _ _ _ _ hE];exact bV _
   have fr3:=aG W EB (fs.length*2) _ _ hE;have fr4:=aG W EB (fs.length*2+1) _ _ hE;generalize cur[fs.length*2]=x3 at c3;generalize cur[fs.length*2+1]=x4 at c4;obtain ⟨m0,m1,fm0,fm1⟩:=bS pR;obtain ⟨r0,r1,fr0,fr1⟩:=bS q9;have As:EB≠w.heap.size+1+1:=by omega
   have pJ:EB≠w.heap.size+1:=by omega
   have P2:EB≠w.heap.size:=by omega
   have kV:w.heap.size+1<W.heap.size:=by omega
   have gS:w.heap.size+1+1<W.heap.size:=by omega
   have hR8:=(bi (w:=((W.setCell ⟨EB,fs.length*2,none⟩ (.int .i64 77)).setCell ⟨EB,fs.length*2+1,none⟩ (.slice none 0 0))) (b:=w.heap.size+1+1) (i:=1) (.slice (some ⟨EB,0,none⟩) fs.length (fs.length+1)) (show w.heap.size+1≠w.heap.size+1+1 by omega)).trans ((bi _ (Ne.symm pJ)).trans ((bi _ (Ne.symm pJ)).trans q9));have HQ:Hid _:=od (a:=.int .i64 mn) (c:=.slice (some ⟨EB,0,none⟩) fs.length (fs.length+1)) hR8;have HK8:Hid (Keeps (EB+1) W (((((W.setCell ⟨EB,fs.length*2,none⟩ (.int .i64 77)).setCell ⟨EB,fs.length*2+1,none⟩ (.slice none 0 0)).setCell ⟨w.heap.size+1+1,1,none⟩ (.slice (some ⟨EB,0,none⟩) fs.length (fs.length+1))).setCell ⟨w.heap.size+1,0,none⟩ (.int .i64 mn)).setCell ⟨w.heap.size+1,1,none⟩ (.slice (some ⟨EB,0,none⟩) fs.length (fs.length+1)))):=((((Keeps.put (eM _)).trans (Keeps.put (eM _))).trans (Keeps.put (by omega))).trans (Keeps.put (by omega))).trans (Keeps.put (by omega));have XJ:Hid ((((((W.setCell ⟨EB,fs.length*2,none⟩ (.int .i64 77)).setCell ⟨EB,fs.length*2+1,none⟩ (.slice none 0 0)).setCell ⟨w.heap.size+1+1,1,none⟩ (.slice (some ⟨EB,0,none⟩) fs.length (fs.length+1))).setCell ⟨w.heap.size+1,0,none⟩ (.int .i64 mn)).setCell ⟨w.heap.size+1,1,none⟩ (.slice (some ⟨EB,0,none⟩) fs.length (fs.length+1))).heap[EB]?=some (.cells ((cur.setIfInBounds (fs.length*2) (.int .i64 77)).setIfInBounds (fs.length*2+1) (.slice none 0 0)) 79 (0,0))):=(bi _ pJ).trans ((bi _ pJ).trans ((bi _ As).trans (bk _ (bk _ hE))));have HB8:Hid (Below w.heap.size w (((((W.setCell ⟨EB,fs.length*2,none⟩ (.int .i64 77)).setCell ⟨EB,fs.length*2+1,none⟩ (.slice none 0 0)).setCell ⟨w.heap.size+1+1,1,none⟩ (.slice (some ⟨EB,0,none⟩) fs.length (fs.length+1))).setCell ⟨w.heap.size+1,0,none⟩ (.int .i64 mn)).setCell ⟨w.heap.size+1,1,none⟩ (.slice (some ⟨EB,0,none⟩) fs.length (fs.length+1)))):=((((hb.setCell (by show w.heap.size<=EB;omega) _).setCell (by show w.heap.size<=EB;omega) _).setCell (by show w.heap.size<=w.heap.size+1+1;omega) _).setCell (by show w.heap.size<=w.heap.size+1;omega) _).setCell (by show w.heap.size<=w.heap.size+1;omega) _;clear hR8;go_wp2_with fail
   obtain ⟨q0,q1⟩:=HQ.out;refine aS (v:=.agg #[.int .i64 mn,.slice (some ⟨EB,0,none⟩) fs.length (fs.length+1)]) (by simp [results,Tryz.results72,go_sem,q0,q1]) rfl ⟨EB,fs.length,fs.length+1,rfl,?_,HB8.out⟩
   refine ⟨EB,rfl,by unfold maxLen;omega,(ae.1 XJ.out).1,fun k h=>?_,?_,?_⟩
   ·obtain ⟨u,g0,g1,g2⟩:=zj.out k h (by have:=ue.out;omega);refine ⟨u,?_,?_,(g2.keep HK8.out).lent⟩
    ·rw [al _ EB _ _ _ _ XJ.out,aV (by omega),aV (by omega)];exact g0
    ·rw [al _ EB _ _ _ _ XJ.out,aV (by omega),aV (by omega)];exact g1
   ·rw [al _ EB _ _ _ _ XJ.out,aV (by omega),bz (by omega)]
   ·rw [al _ EB _ _ _ _ XJ.out,bz (by simp;omega)]
theorem Y1 (c:Cd) (fv:Value) (T:Nat) (w:World) (hT:T<=w.heap.size) (hf:dS w T fv c.fs):
 Calls Tryz.prog 116 #[.agg #[.int .i64 c.mn,fv]] w fun e w'=>e=.returned (.bool (jK c))/\Below w.heap.size w w':=by
 obtain ⟨mn,fs⟩:=c;obtain ⟨fo,fcap,wJ,lk,kT,jA⟩:=hf;simp only at*;subst wJ;have Cm:=kT;unfold maxLen at Cm;generalize hR:jK ⟨mn,fs⟩=R;have HR:Hid ((decide (1<=fs.length) && (decide (fs.length<=16) && (decide (0<=mn) && (decide (mn<fs.length) && (fs.all (kl fs.length) && decide ((fs[mn.toNat]?.getD ⟨0,[]⟩).ar=0))))))=R):=hR;clear hR;by_cases g1:fs.length<1
 ·have HF:Hid (false=R):=by rw [<-HR.out];simp [Hid];omega
  go_enter Tryz.func116,Tryz.ntmps116
  go_wp2_with fail
  go_ret
  exact ⟨bL HF.out,(ai _ _).alloc (ah _) _⟩
 by_cases g2:16<fs.length
 ·have HF:Hid (false=R):=by rw [<-HR.out];simp [Hid];omega
  go_enter Tryz.func116,Tryz.ntmps116
  go_wp2_with fail
  go_ret
  exact ⟨bL HF.out,(ai _ _).alloc (ah _) _⟩
 by_cases g3:mn<0
 ·have HF:Hid (false=R):=by rw [<-HR.out];simp [Hid];omega
  go_enter Tryz.func116,Tryz.ntmps116
  go_wp2_with fail
  go_ret
  exact ⟨bL HF.out,(ai _ _).alloc (ah _) _⟩
 have g3':decide (mn<0)=false:=by simpa using g3
 by_cases g4:(fs.length:Int)<=mn
 ·have HF:Hid (false=R):=by rw [<-HR.out];simp [Hid];omega
  go_enter Tryz.func116,Tryz.ntmps116
  go_wp2_with fail
  go_ret
  exact ⟨bL HF.out,(ai _ _).alloc (ah _) _⟩
 obtain ⟨m,rfl⟩:=aZ (show 0<=mn by omega);have hm:m<fs.length:=by omega
 have gT:Hid (((fs.drop 0).all (kl fs.length) && decide (fs[m].ar=0))=R):=by
  rw [<-HR.out];show _=_
  rw [bC,aj hm,b6];simp [show 1<=fs.length by omega,show fs.length<=16 by omega,hm]
 clear HR;rcases jA with h0|⟨b,off,rfl,gZ,cJ⟩
 ·omega
 go_enter Tryz.func116,Tryz.ntmps116
 go_wp2_with fail
 go_loopw [3] (fun x wr=>∃(j:Nat),j<=fs.length/\x=.int .i64 j/\Hid (((fs.drop j).all (kl fs.length) && decide (fs[m].ar=0))=R)/\Below w.heap.size w wr/\wr.heap[w.heap.size]?=some (.cells #[.int .i64 m,.slice (some ⟨b,off,none⟩) fs.length fcap] 63 (0,0))) (fun x _=>fs.length-(intOf x).toNat)
 case atStart=>exact ⟨0,aF _,rfl,gT,(ai _ _).alloc (ah _) _,az w _⟩
 case round=>
  obtain ⟨j,hj,rfl,HG,hb,oI⟩:=hrel;have dk:=hb.size;have fG:w.heap.size<wr.heap.size:=(ae.1 oI).1;have C0:=al wr w.heap.size 0 _ _ _ oI;have C1:=al wr w.heap.size 1 _ _ _ oI;simp only [ax,ap,aq] at C0 C1;by_cases bF:j<fs.length
  ·obtain ⟨lv,e0,e1,gV⟩:=cJ j bF;rw [<-hb.cell (p:=⟨b,off+j*2,none⟩) (show b<_ by omega)] at e0;rw [<-hb.cell (p:=⟨b,off+j*2+1,none⟩) (show b<_ by omega)] at e1;have HC:Hid _:=xP fs[j] m (some ⟨b,off,none⟩) fs.length fcap lv T wr.drew (by simp [heap_drew];omega) (by unfold maxLen;omega) ((gV.keep (hb.mono hT)).keep (aR (ai _ _)));have HS:Hid ((kl fs.length fs[j] && ((fs.drop (j+1)).all (kl fs.length) && decide (fs[m].ar=0)))=R):=by rw [<-HG.out,IJ _ fs j bF,Bool.and_assoc];exact rfl
   obtain ⟨la,lc,rfl,kV,gS,_⟩:=gV;unfold maxLen at gS;clear HG cJ;generalize hg:kl fs.length fs[j]=g at*;clear hg;go_wp2_with fail
   go_cut [4] (fun vx wc=>vx=.bool g/\Below wr.heap.size wr wc)
   case first=>
    go_region_with (go_at_call 154;go_must (refine (show Calls _ _ _ _ _ from HC.out).mono ?_);rintro e w1 ⟨rfl,bB⟩)
    all_goals
     go_wp2_with fail
     go_meet
     case rel=>exact ⟨rfl,(aR (ai _ _)).trans (bB.mono (by simp [heap_drew]))⟩
   case rest=>
    obtain ⟨hx,jq⟩:=hcut;subst hx;clear HC C0 C1 e0 e1;cases g
    ·have HF:Hid (false=R):=by rw [<-HS.out];rfl
     go_wp2_with fail
     go_ret
     exact ⟨bL HF.out,hb.trans (jq.mono dk)⟩
    ·have rL:Hid (((fs.drop (j+1)).all (kl fs.length) && decide (fs[m].ar=0))=R):=by rw [<-HS.out];simp [Hid]
     go_wp2_with fail
     go_roundw
     case rel=>exact ⟨j+1,bF,by go_num,rL,hb.trans (jq.mono dk),(jq.block _ fG).trans oI⟩
     case measure=>simp [intOf];omega
  ·obtain ⟨lv,e0,e1,gV⟩:=cJ m hm;rw [<-hb.cell (p:=⟨b,off+m*2,none⟩) (show b<_ by omega)] at e0;have HF:Hid (decide (fs[m].ar=0)=R):=by rw [<-HG.out,bj (by omega)];rfl
   clear cJ e1 gV HG;generalize fs[m].ar=am at*;by_cases h0:am=0
   ·have me:Hid (true=R):=by rw [<-HF.out];simp [Hid,h0]
    subst h0;go_wp2_with fail
    go_ret
    exact ⟨bL me.out,hb⟩
   ·have me:Hid (false=R):=by rw [<-HF.out];simp [Hid,h0]
    have vq:(am==0)=false:=by simpa using h0
    go_wp2_with fail
    go_ret
    exact ⟨bL me.out,hb⟩
end Go.Proofs.YtnndoagpbcacdabGreatDoor
