import Derived.Test.YtnndoagpbcacdabGreatDoorMJ1b
import Derived.Test.YtnndoagpbcacdabGreatDoorMA5
import Derived.Test.YtnndoagpbcacdabGreatDoorMW5
namespace Go.Proofs.YtnndoagpbcacdabGreatDoor
set_option maxHeartbeats 8000000
open Go.RowKit
theorem zy (g:Wk) (l:List Int) (x:Int) (h:(fO g l x).1=true):(fO g l x).2.parts=l++[x+1]/\(fO g l x).2.st=g.st:=by
 unfold fO at h ⊢;split
 ·rename_i h8;simp [h8] at h
 ·split<;>exact ⟨rfl,rfl⟩
theorem ub.grown {w w':World} {b:Nat} {g:Wk} {av:Value} {B n size:Nat} {xs:List Value} {o:Obj} (h:ub w b g av) (hr:w.ownsRow B 3 size av n xs) (hg:(w.alloc o).grownBy w' av.ownBlock):ub w' b g av:=
 br (hr.alloc o) hg (by decide) ((aO w o b (ae.1 h).1).trans h)
theorem Otw.grown {w0 w w':World} {av:Value} {B n size:Nat} {xs:List Value} {o:Obj} (h:Otw w0 w) (hr:w.ownsRow B 3 size av n xs) (hg:(w.alloc o).grownBy w' av.ownBlock):Otw w0 w':=by
 intro k cs t fr h1 h2 h3;have h4:=h.alloc o k cs t fr h1 h2 h3;exact br (hr.alloc o) hg h2 h4
theorem WRep.push {B:Nat} {w0 w2:World} {b:Nat} {g:Wk} {av nv:Value} (nN:ub w2 b g av) (jN:B<=b) (hown:w2.ownsRow B 3 1 nv (g.parts.length+1) (jp g.parts++[.int .i64 0])) (bel:Below B w0 w2) (oth:Otw w0 w2):
 WRep B w0 ((w2.setCell ⟨b,4,none⟩ nv).setCell ⟨b,0,none⟩ (.int .i64 2)) b {g with st:=2,parts:=g.parts++[0]} nv:=by
 refine ⟨bk _ (bk _ nN),jN,?_,(bel.setCell jN _).setCell jN _,(oth.set _ nN).set _ (bk _ nN)⟩
 have:=aB (i:=0) (u:=.int .i64 2) (aB (i:=4) (u:=nv) hown nN (by decide)) (bk _ nN) (by decide);simpa [jp] using this
theorem adx (B b:Nat) (fu pa inn x:Int) (l:List Int) (av:Value) (s:Int) (w0 w:World) (h:WRep B w0 w b ⟨3,fu,pa,inn,l++[x]⟩ av) (hn:l.length<=1000000) (tv:0<=inn) (uu:inn<=1000000) (Uj:0<=x) (mN:x<=8):
 Calls Tryz.prog 145 #[.pointer (some ⟨b,0,none⟩),.int .i64 s] w fun e w'=>e=.returned (.int .i64 (rP ⟨3,fu,pa,inn,l++[x]⟩ l x s).1)/\∃av',WRep B w0 w' b (rP ⟨3,fu,pa,inn,l++[x]⟩ l x s).2 av':=by
 have c0:=h.blk.c0;have c1:=h.blk.c1;have c2:=h.blk.c2;have c3:=h.blk.c3;have c4:=h.blk.c4;have f0:=h.blk.fz 0;have f1:=h.blk.fz 1;have f2:=h.blk.fz 2;have f3:=h.blk.fz 3;have f4:=h.blk.fz 4;have jN:=h.lo;have iB:=h.lt;simp only at*;obtain ⟨q,cap,rfl,_,_⟩:=h.row.form (by simp);simp only [au,aD,bp,cr] at*;have jb:l.length+1<=cap:=fY h.row;have bW:=h.row;simp only [jp,cz,cW,fB,au,aD,bp] at bW;have cq:w.cell? ⟨q,l.length,none⟩=some (.int .i64 x):=by
  have:=bW.cells (g:=q) rfl l.length (.int .i64 x) (by simp);simpa [Addr.add_lit] using this
 obtain ⟨cur,hq⟩:=pw bW;have fq:=aG w q l.length _ _ hq;have vg:¬q=b:=by
  intro e;have:=h.blk;unfold ub at this;rw [<-e,hq] at this;simp at this
 have tE:¬b=q:=fun e=>vg e.symm
 clear bW hq;by_cases h1:s=1\/s=2\/s=5
 ·have hw:rP ⟨3,fu,pa,inn,l++[x]⟩ l x s=(if (fO ⟨3,fu,pa,inn,l++[x]⟩ l x).1 then (if s=5 then (0,{(fO ⟨3,fu,pa,inn,l++[x]⟩ l x).2 with st:=2,parts:=(fO ⟨3,fu,pa,inn,l++[x]⟩ l x).2.parts++[0]}) else (0,(fO ⟨3,fu,pa,inn,l++[x]⟩ l x).2)) else (3,(fO ⟨3,fu,pa,inn,l++[x]⟩ l x).2)):=by
   unfold rP;rw [aA (by rcases h1 with rfl|rfl|rfl<;>simp [jI])]
  rw [hw];clear hw;have Sn:=zy ⟨3,fu,pa,inn,l++[x]⟩ l x;have HP:Hid ((fO ⟨3,fu,pa,inn,l++[x]⟩ l x).1=true->(fO ⟨3,fu,pa,inn,l++[x]⟩ l x).2.parts=l++[x+1]/\(fO ⟨3,fu,pa,inn,l++[x]⟩ l x).2.st=3):=Sn;clear Sn;cases hp:(fO ⟨3,fu,pa,inn,l++[x]⟩ l x).1
  ·rcases h1 with rfl|rfl|rfl
   all_goals
    go_enter Tryz.func145,Tryz.ntmps145
    go_wp2_with (go_at_call 177;refine (JI B b 3 fu pa inn x l _ w0 w h tv uu Uj mN hn).mono ?_;rintro e w1 ⟨rfl,hg⟩)
    go_ret
    exact ⟨rfl,_,hg⟩
  ·obtain ⟨HP1,vH⟩:=HP.out hp;have Xn:Hid _:=HP1;have acG:Hid _:=vH;clear HP HP1 vH;rcases h1 with rfl|rfl|rfl
   ·simp only [cQ,show ¬((1:Int)=5) by decide,dc];go_enter Tryz.func145,Tryz.ntmps145
    go_wp2_with (go_at_call 177;refine (JI B b 3 fu pa inn x l _ w0 w h tv uu Uj mN hn).mono ?_;rintro e w1 ⟨rfl,hg⟩)
    go_ret
    exact ⟨rfl,_,hg⟩
   ·simp only [cQ,show ¬((2:Int)=5) by decide,dc];go_enter Tryz.func145,Tryz.ntmps145
    go_wp2_with (go_at_call 177;refine (JI B b 3 fu pa inn x l _ w0 w h tv uu Uj mN hn).mono ?_;rintro e w1 ⟨rfl,hg⟩)
    go_ret
    exact ⟨rfl,_,hg⟩
   ·simp only [cQ];obtain ⟨i,hi,fp,dQ,eF⟩:=bE Tryz.infoInt;generalize r9:(fO ⟨3,fu,pa,inn,l++[x]⟩ l x).2=q2 at*;have HQ:Hid ((fO ⟨3,fu,pa,inn,l++[x]⟩ l x).2=q2):=r9;clear r9;have Sl:Hid (q2.parts.length=l.length+1):=by have:=Xn.out;show _=_;rw [this];simp
    clear Xn acG;go_enter Tryz.func145,Tryz.ntmps145
    go_wp2_with fail
    refine (JI B b 3 fu pa inn x l _ w0 w h tv uu Uj mN hn).mono ?_
    rintro e w1 ⟨rfl,hg⟩
    rw [HQ.out] at hg;have c4':=hg.blk.c4;have Gj:=hg.bel.size;have um:=hg.lt;have tx:=hg.row;clear HQ c0 c1 c2 c3 c4 f0 f1 f2 f3 f4 cq fq h;go_wp2_with (at_builtin;go_must (refine wpList_append_lies _ rfl _ _ _ rfl B 3 i _ 1 8 Tryz.underlying22 hi fp dQ eF rfl (by omega) _ q2.parts.length (jp q2.parts) rfl ?hown _ 1 _ [.int .i64 0] rfl rfl ?dA ?h1 (by omega) ?kj ?cP ?cX _ rfl ?_))
    case hown=>exact tx.alloc _
    case dA=>exact World.news_of_block (az w1 _)
    case h1=>simp [Value.oneCell']
    case kj=>rw [Sl.out];unfold maxLen;omega
    case cP=>rw [Sl.out];omega
    case cX=>simp;omega
    intro q cap1 w2 b7 bD dt cV;have nN:=hg.blk.grown tx bD;have e4:=nN.c4;have e0:=nN.c0;have z4:=nN.fz 4;have z0:=nN.fz 0;have bel2:=(hg.bel.alloc (o:=Obj.cells #[.int .i64 0] 3) (by omega)).grown bD (by simp;omega) (fun k hk=>(tx.lt k hk).1);have oth2:=hg.oth.grown tx bD;clear hi fp dQ eF c4' tx bD
    go_wp2
    go_ret
    exact ⟨rfl,_,WRep.push nN jN b7 bel2 oth2⟩
 ·have e1:(s==1)=false:=by rw [cE];omega
  have e2:(s==2)=false:=by rw [cE];omega
  have e5:(s==5)=false:=by rw [cE];omega
  have hw:rP ⟨3,fu,pa,inn,l++[x]⟩ l x s=(if s=6 then (if l=[] then (2,⟨3,fu,pa,inn,l++[x]⟩) else (0,⟨3,fu,pa,inn,l⟩)) else if s=4 then (if l=[] then (0,⟨0,fu,pa,inn,l++[x]⟩) else (2,⟨3,fu,pa,inn,l++[x]⟩)) else (2,⟨3,fu,pa,inn,l++[x]⟩)):=by
   unfold rP;rw [ay (by simp [jI];omega)]
  rw [hw];clear hw h1;by_cases h6:s=6
  ·subst h6;rw [aA rfl];by_cases hl:l=[]
   ·rw [aA hl];have tt:¬(0:Int)<(l.length:Int):=by simp [hl]
    have hd:decide ((0:Int)<(l.length:Int))=false:=by simp [hl]
    clear hl;go_enter Tryz.func145,Tryz.ntmps145
    go_wp2
    go_ret
    exact ⟨rfl,_,h⟩
   ·rw [ay hl];have tt:(0:Int)<(l.length:Int):=by cases l with|nil=>exact absurd rfl hl|cons _ _=>simp
    clear hl;go_enter Tryz.func145,Tryz.ntmps145
    go_wp2
    go_ret
    exact ⟨rfl,_,h.cut⟩
  ·rw [ay h6];have e6:(s==6)=false:=by simpa using h6
   by_cases h4:s=4
   ·subst h4;rw [aA rfl];clear h6;by_cases hl:l=[]
    ·rw [aA hl];have tt:((l.length:Int)==0)=true:=by simp [hl]
     clear hl;go_enter Tryz.func145,Tryz.ntmps145
     go_wp2
     go_ret
     exact ⟨rfl,_,h.set0 _⟩
    ·rw [ay hl];have tt:((l.length:Int)==0)=false:=MC hl;clear hl;go_enter Tryz.func145,Tryz.ntmps145
     go_wp2
     go_ret
     exact ⟨rfl,_,h⟩
   ·rw [ay h4];have e4:(s==4)=false:=by simpa using h4
    clear h4 h6;go_enter Tryz.func145,Tryz.ntmps145
    go_wp2
    go_ret
    exact ⟨rfl,_,h⟩
structure Sim (g:Gr) (k:Wk):Prop where
 st:k.st=g.aw
 aw:g.aw=0\/g.aw=1\/g.aw=2\/g.aw=3
 fu:k.fu=g.fn
 fn0:0<=g.fn
 fn1:g.fn<=16
 pa0:0<=k.pa
 pa1:k.pa<=6
 pa:g.aw=1->k.pa=g.pa
 no0:0<=g.no
 no1:g.no<=12
 i1:g.aw=1->k.inn=0
 inn:g.aw=2\/g.aw=3->k.inn=g.no
 ar1:g.aw=0\/g.aw=1->g.ar=[]
 ar:∀x∈g.ar,1<=x/\x<=8
 p2:g.aw=2->k.parts=g.ar++[0]
 p3:g.aw=3->k.parts=g.ar++[g.wi]/\1<=g.wi/\g.wi<=8
theorem afO:Sim g0 ⟨0,0,0,0,[]⟩:=
 ⟨rfl,.inl rfl,rfl,by decide,by decide,by decide,by decide,fun h=>by simp [g0] at h,by decide,by decide,fun _=>rfl,fun h=>by simp [g0] at h,fun _=>rfl,by simp [g0],fun h=>by simp [g0] at h,fun h=>by simp [g0] at h⟩
def afN (g:Wk) (l:List Int) (x:Int) (s:Int):Int×Wk:=if g.st=0\/g.st=1 then dH g s else if g.st=2 then CQ g l s else rP g l x s
theorem Aa (c:Int) (n:Nat):0<=iL c n/\iL c n<=7:=by
 unfold iL
 repeat (first|(split;skip)|omega)
theorem qT (t:ByteArray):0<=bf t/\bf t<=7:=Aa _ _
theorem qB {k:Int} (h:0<=k/\k<=7):k=0\/k=1\/k=2\/k=3\/k=4\/k=5\/k=6\/k=7:=by omega
theorem Fl {g:Gr} {w:Wk} (h:Sim g w) (h0:g.aw=0) (k:Int) (hk:0<=k/\k<=7):(dH w (el k)).1=(cZ g k).1/\((cZ g k).1=0->Sim (cZ g k).2 (dH w (el k)).2):=by
 have fZ:w.st=0:=h.st.trans h0;have pN:=h.fu;have oS:=h.fn1;have Jh:=h.fn0;have Vs:=qB hk;by_cases h1:k=1
 ·subst h1;by_cases hf:g.fn=16
  ·simp [cZ,h0,dN,hf,dH,fZ,el,pN]
  ·have lY:¬16<=g.fn:=by omega
   simp only [cZ,h0,dN,lY,dH,fZ,el,pN,hf,cQ,dc,ne_eq,not_true_eq_false];refine ⟨trivial,fun _=>?_⟩
   exact ⟨rfl,.inr (.inl rfl),rfl,by show 0<=g.fn+1;omega,by show g.fn+1<=16;omega,by simp,by simp,fun _=>rfl,h.no0,h.no1,fun _=>rfl,fun h=>by simp at h,fun _=>h.ar1 (.inl h0),h.ar,fun h=>by simp at h,fun h=>by simp at h⟩
 ·have hs:¬el k=1:=by
   rcases Vs with rfl|rfl|rfl|rfl|rfl|rfl|rfl|rfl<;>first|exact absurd rfl h1|decide
  simp [cZ,h0,dN,h1,dH,fZ,hs]
theorem Fk {g:Gr} {w:Wk} (h:Sim g w) (h0:g.aw=1) (k:Int) (hk:0<=k/\k<=7):(dH w (el k)).1=(cZ g k).1/\((cZ g k).1=0->Sim (cZ g k).2 (dH w (el k)).2):=by
 have fZ:w.st=1:=h.st.trans h0;have hpa:=h.pa h0;have An:=h.pa1;have lK:=h.pa0;have Vs:=qB hk;by_cases h1:k=1
 ·subst h1;by_cases hf:g.pa=6
  ·simp [cZ,h0,da,hf,dH,fZ,el,hpa]
  ·have lY:¬6<=g.pa:=by omega
   have e1:cZ g 1=(0,{g with pa:=g.pa+1}):=by simp [cZ,h0,da,lY]
   have e2:dH w (el 1)=(0,{w with pa:=w.pa+1}):=by simp [dH,fZ,el,hpa,hf]
   rw [e1,e2];refine ⟨rfl,fun _=>?_⟩
   exact ⟨h.st,h.aw,h.fu,h.fn0,h.fn1,by show 0<=w.pa+1;omega,by show w.pa+1<=6;omega,fun _=>by show w.pa+1=g.pa+1;omega,h.no0,h.no1,h.i1,h.inn,h.ar1,h.ar,h.p2,h.p3⟩
 ·by_cases h4:k=4
  ·subst h4;have e1:cZ g 4=(0,{g with no:=0,aw:=2}):=by simp [cZ,h0,da]
   have e2:dH w (el 4)=(0,{w with parts:=[0],st:=2}):=by simp [dH,fZ,el]
   rw [e1,e2];refine ⟨rfl,fun _=>?_⟩
   have oJ:g.ar=[]:=h.ar1 (.inr h0);exact ⟨rfl,.inr (.inr (.inl rfl)),h.fu,h.fn0,h.fn1,h.pa0,h.pa1,fun h=>by simp at h,by simp,by simp,fun h=>by simp at h,fun _=>h.i1 h0,fun h=>by simp at h,h.ar,fun _=>by show [0]=g.ar++[0];rw [oJ];rfl,fun h=>by simp at h⟩
  ·have hs:¬el k=1/\¬el k=3:=by
    rcases Vs with rfl|rfl|rfl|rfl|rfl|rfl|rfl|rfl<;>first|exact absurd rfl h1|exact absurd rfl h4|decide
   simp [cZ,h0,da,h1,h4,dH,fZ,hs]
theorem Fj {g:Gr} {w:Wk} (h:Sim g w) (h0:g.aw=2) (k:Int) (hk:0<=k/\k<=7):(CQ w g.ar (el k)).1=(cZ g k).1/\((cZ g k).1=0->Sim (cZ g k).2 (CQ w g.ar (el k)).2):=by
 have fZ:w.st=2:=h.st.trans h0;have Vs:=qB hk;have Cg:jI (el k)=fP k:=by
  rcases Vs with rfl|rfl|rfl|rfl|rfl|rfl|rfl|rfl<;>decide
 cases hs:fP k
 ·simp [cZ,h0,mw,CQ,Cg,hs]
 ·have e1:cZ g k=(0,{g with wi:=1,aw:=3}):=by simp [cZ,h0,mw,hs]
  have e2:CQ w g.ar (el k)=(0,{w with st:=3,parts:=g.ar++[1]}):=by simp [CQ,Cg,hs]
  rw [e1,e2];refine ⟨rfl,fun _=>?_⟩
  exact ⟨rfl,.inr (.inr (.inr rfl)),h.fu,h.fn0,h.fn1,h.pa0,h.pa1,fun h=>by simp at h,h.no0,h.no1,fun h=>by simp at h,fun _=>h.inn (.inl h0),fun h=>by simp at h,h.ar,fun h=>by simp at h,fun _=>⟨rfl,by simp,by simp⟩⟩
theorem Fm {g:Gr} {w:Wk} (h:Sim g w) (h0:g.aw=3):((fO w g.ar g.wi).1=decide ((cG g).1=0))/\((cG g).1=0\/(cG g).1=3)/\((cG g).1=0->Sim (cG g).2 (fO w g.ar g.wi).2/\(cG g).2.aw=3):=by
 obtain ⟨hp,Et,MJ⟩:=h.p3 h0;have yE:=h.inn (.inr h0);have GM:=h.no0;have Dq:=h.no1;by_cases h8:g.wi=8
 ·have e1:cG g=(3,g):=by simp [cG,h8]
  rw [e1];simp [fO,h8]
 ·by_cases hc:g.ar≠[]/\g.wi=1
  ·by_cases K6:12<=g.no
   ·have e1:cG g=(3,{g with wi:=g.wi+1}):=by simp [cG,hc.1,hc.2,K6]
    rw [e1];simp [fO,hc.1,hc.2,yE];omega
   ·have e1:cG g=(0,{g with wi:=g.wi+1,no:=g.no+1}):=by simp [cG,hc.1,hc.2,K6]
    have e2:fO w g.ar g.wi=(decide (w.inn+1<=12),{w with inn:=w.inn+1,parts:=g.ar++[g.wi+1]}):=by simp [fO,hc.1,hc.2]
    rw [e1,e2];refine ⟨by simp;omega,.inl rfl,fun _=>⟨?_,h0⟩⟩
    exact ⟨h.st,h.aw,h.fu,h.fn0,h.fn1,h.pa0,h.pa1,fun e=>by simp [h0] at e,by show 0<=g.no+1;omega,by show g.no+1<=12;omega,fun e=>by simp [h0] at e,fun _=>by show w.inn+1=g.no+1;omega,fun e=>by simp [h0] at e,h.ar,fun e=>by simp [h0] at e,fun _=>⟨rfl,by show 1<=g.wi+1;omega,by show g.wi+1<=8;omega⟩⟩
  ·have kT:g.wi+1≠2\/g.ar=[]:=by
    by_cases hl:g.ar=[]
    ·exact .inr hl
    ·left;intro e;exact hc ⟨hl,by omega⟩
   have e1:cG g=(0,{g with wi:=g.wi+1}):=by
    unfold cG;rw [ay (by omega),aA kT]
   have e2:fO w g.ar g.wi=(decide (w.inn<=12),{w with parts:=g.ar++[g.wi+1]}):=by
    unfold fO;rw [ay h8,ay hc]
   rw [e1,e2];refine ⟨by simp;omega,.inl rfl,fun _=>⟨?_,h0⟩⟩
   exact ⟨h.st,h.aw,h.fu,h.fn0,h.fn1,h.pa0,h.pa1,fun e=>by simp [h0] at e,h.no0,h.no1,fun e=>by simp [h0] at e,fun _=>yE,fun e=>by simp [h0] at e,h.ar,fun e=>by simp [h0] at e,fun _=>⟨rfl,by show 1<=g.wi+1;omega,by show g.wi+1<=8;omega⟩⟩
theorem Fi {g:Gr} {w:Wk} (h:Sim g w) (h0:g.aw=3) (k:Int) (hk:0<=k/\k<=7):(rP w g.ar g.wi (el k)).1=(cZ g k).1/\((cZ g k).1=0->Sim (cZ g k).2 (rP w g.ar g.wi (el k)).2):=by
 obtain ⟨hp,Et,MJ⟩:=h.p3 h0;obtain ⟨s1,s2,s3⟩:=Fm h h0;have hg:cZ g k=gq g k:=by simp [cZ,h0]
 rw [hg];have ij:∀k,(k=1\/k=2\/k=3)->(rP w g.ar g.wi (el k)).1=(gq g k).1/\((gq g k).1=0->Sim (gq g k).2 (rP w g.ar g.wi (el k)).2):=by
  intro k hk;have e1:gq g k=cG g:=by rcases hk with rfl|rfl|rfl<;>simp [gq,fP]
  have e2:rP w g.ar g.wi (el k)=(if (fO w g.ar g.wi).1 then (0,(fO w g.ar g.wi).2) else (3,(fO w g.ar g.wi).2)):=by rcases hk with rfl|rfl|rfl<;>simp [rP,jI,el]
  rw [e1,e2,s1];rcases s2 with s2|s2
  ·simp only [s2,eV,cQ];exact ⟨trivial,fun _=>(s3 s2).1⟩
  ·simp [s2]
 rcases qB hk with rfl|rfl|rfl|rfl|rfl|rfl|rfl|rfl
 ·simp [gq,fP,rP,jI,el]
 ·exact ij 1 (.inl rfl)
 ·exact ij 2 (.inr (.inl rfl))
 ·exact ij 3 (.inr (.inr rfl))
 ·simp [gq,fP,rP,jI,el]
 ·by_cases hl:g.ar=[]
  ·have e1:gq g 5=(0,{g with aw:=0}):=by simp [gq,iR,hl]
   have e2:rP w g.ar g.wi (el 5)=(0,{w with st:=0}):=by simp [rP,jI,el,hl]
   rw [e1,e2];refine ⟨rfl,fun _=>?_⟩
   exact ⟨rfl,.inl rfl,h.fu,h.fn0,h.fn1,h.pa0,h.pa1,fun e=>by simp at e,h.no0,h.no1,fun e=>by simp at e,fun e=>by simp at e,fun _=>hl,h.ar,fun e=>by simp at e,fun e=>by simp at e⟩
  ·simp [gq,iR,hl,rP,jI,el]
 ·have e1:gq g 6=iw g:=by simp [gq]
  have e2:rP w g.ar g.wi (el 6)=(if (fO w g.ar g.wi).1 then (0,{(fO w g.ar g.wi).2 with st:=2,parts:=(fO w g.ar g.wi).2.parts++[0]}) else (3,(fO w g.ar g.wi).2)):=by simp [rP,jI,el]
  rw [e1,e2,s1];rcases s2 with s2|s2
  ·have e3:iw g=(0,{(cG g).2 with ar:=(cG g).2.ar++[(cG g).2.wi],aw:=2}):=by simp [iw,s2]
   rw [e3];simp only [s2,eV,cQ];refine ⟨trivial,fun _=>?_⟩
   obtain ⟨q,qa⟩:=s3 s2;obtain ⟨qp,q1,q8⟩:=q.p3 qa;refine ⟨rfl,.inr (.inr (.inl rfl)),q.fu,q.fn0,q.fn1,q.pa0,q.pa1,fun e=>by simp at e,q.no0,q.no1,fun e=>by simp at e,fun _=>q.inn (.inr qa),fun e=>by simp at e,?_,fun _=>by show _++[0]=_++[_]++[0];rw [qp],fun e=>by simp at e⟩
   intro x hx;simp only [be,aK,ck,dV] at hx;rcases hx with hx|hx
   ·exact q.ar x hx
   ·rw [hx];exact ⟨q1,q8⟩
  ·have e3:iw g=cG g:=by simp [iw,s2]
   rw [e3];simp [s2]
 ·rcases List.eq_nil_or_concat g.ar with hl|⟨l,x,hl⟩
  ·simp [gq,eG,hl,rP,jI,el]
  ·rw [List.concat_eq_append] at hl;have dI:g.ar≠[]:=by rw [hl];simp
   have e1:gq g 7=(0,{g with wi:=x,ar:=l}):=by simp [gq,eG,hl]
   have e2:rP w g.ar g.wi (el 7)=(0,{w with parts:=g.ar}):=by simp [rP,jI,el,dI]
   rw [e1,e2];refine ⟨rfl,fun _=>?_⟩
   have hx:=h.ar x (by rw [hl];simp);exact ⟨h.st,h.aw,h.fu,h.fn0,h.fn1,h.pa0,h.pa1,fun e=>by simp [h0] at e,h.no0,h.no1,fun e=>by simp [h0] at e,h.inn,fun e=>by simp [h0] at e,fun y hy=>h.ar y (by rw [hl];simp [hy]),fun e=>by simp [h0] at e,fun _=>⟨hl,hx.1,hx.2⟩⟩
theorem rOn (B b:Nat) (g:Gr) (wk:Wk) (av:Value) (k:Int) (w0 w:World) (h:WRep B w0 w b wk av) (sim:Sim g wk) (hk:0<=k/\k<=7) (hn:g.ar.length<=1000000):
 Calls Tryz.prog 145 #[.pointer (some ⟨b,0,none⟩),.int .i64 (el k)] w fun e w'=>e=.returned (.int .i64 (cZ g k).1)/\∃wk' av',WRep B w0 w' b wk' av'/\((cZ g k).1=0->Sim (cZ g k).2 wk'):=by
 have pN:=sim.fu;have Jh:=sim.fn0;have oS:=sim.fn1;have lK:=sim.pa0;have An:=sim.pa1;rcases sim.aw with h0|h1|h2|h3
 ·obtain ⟨q1,q2⟩:=Fl sim h0 k hk;refine (JJ B b wk av (el k) w0 w h (.inl (sim.st.trans h0)) (by omega) (by omega) lK (by omega)).mono ?_
  rintro e w1 ⟨rfl,av1,hg⟩
  exact ⟨by rw [q1],_,av1,hg,q2⟩
 ·obtain ⟨q1,q2⟩:=Fk sim h1 k hk;refine (JJ B b wk av (el k) w0 w h (.inr (sim.st.trans h1)) (by omega) (by omega) lK (by omega)).mono ?_
  rintro e w1 ⟨rfl,av1,hg⟩
  exact ⟨by rw [q1],_,av1,hg,q2⟩
 ·obtain ⟨q1,q2⟩:=Fj sim h2 k hk;obtain ⟨st,fu,pa,inn,parts⟩:=wk;have fZ:st=2:=sim.st.trans h2;have Sn:parts=g.ar++[0]:=sim.p2 h2;subst fZ;subst Sn;refine (ady B b fu pa inn 0 g.ar av (el k) w0 w h hn).mono ?_
  rintro e w1 ⟨rfl,av1,hg⟩
  exact ⟨by rw [q1],_,av1,hg,q2⟩
 ·obtain ⟨q1,q2⟩:=Fi sim h3 k hk;obtain ⟨hp,Et,MJ⟩:=sim.p3 h3;have yE:=sim.inn (.inr h3);have GM:=sim.no0;have Dq:=sim.no1;obtain ⟨st,fu,pa,inn,parts⟩:=wk;have fZ:st=3:=sim.st.trans h3;simp only at hp yE;subst fZ;subst hp;refine (adx B b fu pa inn g.wi g.ar av (el k) w0 w h hn (by omega) (by omega) (by omega) (by omega)).mono ?_
  rintro e w1 ⟨rfl,av1,hg⟩
  exact ⟨by rw [q1],_,av1,hg,q2⟩
theorem Mq (B b:Nat) (g:Gr) (wk:Wk) (av:Value) (w0 w:World) (h:WRep B w0 w b wk av) (sim:Sim g wk) (hn:g.ar.length<=1000000):
 Calls Tryz.prog 145 #[.pointer (some ⟨b,0,none⟩),.int .i64 0] w fun e w'=>e=.returned (.int .i64 2)/\∃wk' av',WRep B w0 w' b wk' av':=by
 have pN:=sim.fu;have Jh:=sim.fn0;have oS:=sim.fn1;have lK:=sim.pa0;have An:=sim.pa1;rcases sim.aw with h0|h1|h2|h3
 ·refine (JJ B b wk av 0 w0 w h (.inl (sim.st.trans h0)) (by omega) (by omega) lK (by omega)).mono ?_
  rintro e w1 ⟨rfl,av1,hg⟩
  exact ⟨by simp [dH,sim.st.trans h0],_,av1,hg⟩
 ·refine (JJ B b wk av 0 w0 w h (.inr (sim.st.trans h1)) (by omega) (by omega) lK (by omega)).mono ?_
  rintro e w1 ⟨rfl,av1,hg⟩
  exact ⟨by simp [dH,sim.st.trans h1],_,av1,hg⟩
 ·obtain ⟨st,fu,pa,inn,parts⟩:=wk;have fZ:st=2:=sim.st.trans h2;have Sn:parts=g.ar++[0]:=sim.p2 h2;subst fZ;subst Sn;refine (ady B b fu pa inn 0 g.ar av 0 w0 w h hn).mono ?_
  rintro e w1 ⟨rfl,av1,hg⟩
  exact ⟨by simp [CQ,jI],_,av1,hg⟩
 ·obtain ⟨hp,Et,MJ⟩:=sim.p3 h3;have yE:=sim.inn (.inr h3);have GM:=sim.no0;have Dq:=sim.no1;obtain ⟨st,fu,pa,inn,parts⟩:=wk;have fZ:st=3:=sim.st.trans h3;simp only at hp yE;subst fZ;subst hp;refine (adx B b fu pa inn g.wi g.ar av 0 w0 w h hn (by omega) (by omega) (by omega) (by omega)).mono ?_
  rintro e w1 ⟨rfl,av1,hg⟩
  exact ⟨by simp [rP,jI],_,av1,hg⟩
theorem pe (ts:List Tk) (k:Nat) (h:k<ts.length):(rcs ts)[k*2]?=some (.string (ts[k]'h).txt)/\(rcs ts)[k*2+1]?=some (.int .i64 (ts[k]'h).pos):=by
 induction ts generalizing k with
 |nil=>simp at h
 |cons t r ih=>
  cases k with
  |zero=>simp [rcs,nT]
  |succ k=>
   have:=ih k (by simpa using h);simp only [rcs,dy,nT,dJ] at this ⊢;refine ⟨?_,?_⟩
   ·rw [show (k+1)*2=k*2+1+1 by omega];exact this.1
   ·rw [show (k+1)*2+1=(k*2+1)+1+1 by omega];exact this.2
theorem Ty (s:ByteArray) (v:Value) (ts:List Tk) (w:World) (_hs:s.size<=1000) (hl:ts.length<=1000) (mO:∀t∈ts,WT t.txt) (hv:w.ownsRow 0 212 2 v (ts.length+1) (rcs (ts++[km s]))):
 Calls Tryz.prog 108 #[v] w fun e w'=>e=.returned (.tuple #[.int .i64 (jT s.size g0 ts).1,.int .i64 (jT s.size g0 ts).2])/\Below w.heap.size w w':=by
 obtain ⟨q,cap,rfl,_,dX⟩:=hv.form (by omega);generalize hR:jT s.size g0 ts=R;have HR:Hid (jT s.size g0 ts=R):=hR;clear hR;go_enter Tryz.func108,Tryz.ntmps108
 go_wp2_with fail
 go_loopw [5] (fun a wr=>∃(k:Nat) (g:Gr) (wk:Wk) (av:Value),k<=ts.length/\a=.int .i64 k/\Hid (jT s.size g (ts.drop k)=R)/\WRep w.heap.size w wr w.heap.size wk av/\Sim g wk/\g.ar.length<=k) (fun a _=>ts.length-(intOf a).toNat)
 case atStart=>exact ⟨0,g0,⟨0,0,0,0,[]⟩,.slice none 0 0,aF _,rfl,HR,⟨az w _,ah _,aM _ _ _ _,(ai _ _).alloc (ah _) _,(Otw.refl w).alloc _⟩,afO,ah _⟩
 case round=>
  obtain ⟨k,g,wk,av,hk,rfl,HG,fT,sim,oJ⟩:=hrel;have et:=aQ hv fT.bel;have c0:=fT.blk.c0;have c1:=fT.blk.c1;have fZ:=sim.st;have pN:=sim.fu;rw [fZ] at c0;rw [pN] at c1;clear fZ pN;by_cases bF:k<ts.length
  ·have cV:k<(ts++[km s]).length:=by simp;omega
   have ⟨t0,t1⟩:=pe (ts++[km s]) k cV;rw [dd bF] at t0 t1;have d0:=aH et _ _ t0;have d1:=aH et _ _ t1;clear t0 t1 et;have hw:=mO ts[k] (aE bF);have Kv:=qT ts[k].txt;have hse:(el (bf ts[k].txt)==0)=false:=by
    rcases qB Kv with h|h|h|h|h|h|h|h<;>rw [h]<;>decide
   have MN:=yR g (bf ts[k].txt);by_cases he:(cZ g (bf ts[k].txt)).1=0
   ·have sz:Hid (jT s.size (cZ g (bf ts[k].txt)).2 (ts.drop (k+1))=R):=by
     have:=HG.out;rw [aW bF,jT,aA he] at this;exact this
    go_wp2_with fail
    refine (C5 _ _ hw).mono ?_
    rintro e w1 ⟨rfl,rfl⟩
    go_wp2_with fail
    refine (rOn w.heap.size w.heap.size g wk av _ w _ fT sim Kv (by omega)).mono ?_
    rintro e w2 ⟨rfl,wk2,av2,hg,UJ⟩
    have UI:Hid _:=UJ he;clear UJ;go_wp2_with fail
    go_roundw
    case rel=>exact ⟨k+1,_,wk2,av2,by omega,by go_num,sz,hg,UI,by omega⟩
    case measure=>simp [intOf];omega
   ·have sz:Hid ((((ts[k].pos:Nat):Int),(cZ g (bf ts[k].txt)).1)=R):=by
     have:=HG.out;rw [aW bF,jT,ay he] at this;exact this
    have kW:((cZ g (bf ts[k].txt)).1==0)=false:=by simpa using he
    clear he;go_wp2_with fail
    refine (C5 _ _ hw).mono ?_
    rintro e w1 ⟨rfl,rfl⟩
    go_wp2_with fail
    refine (rOn w.heap.size w.heap.size g wk av _ w _ fT sim Kv (by omega)).mono ?_
    rintro e w2 ⟨rfl,wk2,av2,hg,_⟩
    have yf:=aQ hv hg.bel;have ⟨t0,t1⟩:=pe (ts++[km s]) k cV;rw [dd bF] at t0 t1;have d1':=aH yf _ _ t1;clear t0 t1 yf;go_wp2_with fail
    go_ret2
    exact ⟨fQ sz.out,hg.bel⟩
  ·have e0:k=ts.length:=by omega
   subst e0;have cV:ts.length<(ts++[km s]).length:=by simp
   have ⟨t0,t1⟩:=pe (ts++[km s]) ts.length cV;simp only [cN (ah _),ct,bQ,km] at t0 t1;have d0:=aH et _ _ t0;have d1:=aH et _ _ t1;clear t0 t1 et;have sz:Hid (jT s.size g []=R):=by have:=HG.out;rw [bj (by omega)] at this;exact this
   have iG:=fT.bel.size;by_cases ha:g.aw=0
   ·by_cases hf:g.fn=0
    ·have h2:Hid ((((s.size:Nat):Int),(2:Int))=R):=by have:=sz.out;simp [jT,hf] at this;exact this
     go_wp2_with fail
     refine (FD _).mono ?_
     rintro e w1 ⟨rfl,rfl⟩
     go_wp2_with fail
     refine (Mq w.heap.size w.heap.size g wk av w _ fT sim (by omega)).mono ?_
     rintro e w2 ⟨rfl,wk2,av2,hg⟩
     have yf:=aQ hv hg.bel;have ⟨t0,t1⟩:=pe (ts++[km s]) ts.length cV;simp only [cN (ah _),ct,bQ,km] at t0 t1;have d1':=aH yf _ _ t1;clear t0 t1 yf;go_wp2_with fail
     go_ret2
     exact ⟨fQ h2.out,hg.bel⟩
    ·have h2:Hid (((0:Int),(0:Int))=R):=by have:=sz.out;simp [jT,hf,ha] at this;exact this
     have lY:(0:Int)<g.fn:=by have:=sim.fn0;omega
     clear hf;go_wp2_with fail
     refine (FD _).mono ?_
     rintro e w1 ⟨rfl,rfl⟩
     go_wp2_with fail
     go_ret2
     exact ⟨fQ h2.out,fT.bel⟩
   ·have ha':(g.aw==0)=false:=by simpa using ha
    have h2:Hid ((((s.size:Nat):Int),(2:Int))=R):=by have:=sz.out;simp [jT,ha] at this;exact this
    clear ha;go_wp2_with fail
    refine (FD _).mono ?_
    rintro e w1 ⟨rfl,rfl⟩
    go_wp2_with fail
    refine (Mq w.heap.size w.heap.size g wk av w _ fT sim (by omega)).mono ?_
    rintro e w2 ⟨rfl,wk2,av2,hg⟩
    have yf:=aQ hv hg.bel;have ⟨t0,t1⟩:=pe (ts++[km s]) ts.length cV;simp only [cN (ah _),ct,bQ,km] at t0 t1;have d1':=aH yf _ _ t1;clear t0 t1 yf;go_wp2_with fail
    go_ret2
    exact ⟨fQ h2.out,hg.bel⟩
theorem jQ (l:List Tk) (j:Nat) (t:Tk) (h:l[j]?=some t):(rcs l)[j*2]?=some (.string t.txt)/\(rcs l)[j*2+1]?=some (.int .i64 t.pos):=by
 obtain ⟨bF,rfl⟩:=aP.1 h;exact pe l j bF
def oe (d:Df) (pv:Value) (a b:Nat):List Value:=[.string d.name.txt,.int .i64 d.name.pos,pv,.int .i64 a,.int .i64 b]
structure RDOk (w:World) (T:Nat) (ts:List Tk) (d:Df) (pv:Value) (a b:Nat):Prop where
 row:w.ownsRow 0 212 2 pv d.ps.length (rcs d.ps)
 lt:∀k,pv.ownBlock=some k->k<T
 tq:a+d.body.length=b
 le:b<=ts.length
 body:∀j,j<d.body.length->ts[a+j]?=d.body[j]?
 semi:∃c r,ts.drop a=d.body++c::r/\bf c.txt=5
def fK (w:World) (T:Nat) (ts:List Tk):List Df->List Value->Prop
 |[],xs=>xs=[]
 |d::ds,xs=>∃pv a b r,xs=oe d pv a b++r/\RDOk w T ts d pv a b/\fK w T ts ds r
theorem RDOk.keep {w w':World} {T:Nat} {ts:List Tk} {d:Df} {pv:Value} {a b:Nat} (h:RDOk w T ts d pv a b) (hb:Below T w w'):RDOk w' T ts d pv a b:=
 ⟨cM h.row hb h.lt,h.lt,h.tq,h.le,h.body,h.semi⟩
theorem fK.keep {w w':World} {T:Nat} {ts:List Tk} (hb:Below T w w'):∀{ds:List Df} {xs:List Value},fK w T ts ds xs->fK w' T ts ds xs
 |[],_,h=>h
 |_::_,_,⟨pv,a,b,r,h1,h2,h3⟩=>⟨pv,a,b,r,h1,h2.keep hb,fK.keep hb h3⟩
theorem fK.up {w:World} {T T':Nat} {ts:List Tk} (hT:T<=T'):∀{ds:List Df} {xs:List Value},fK w T ts ds xs->fK w T' ts ds xs
 |[],_,h=>h
 |_::_,_,⟨pv,a,b,r,h1,h2,h3⟩=>⟨pv,a,b,r,h1,⟨h2.row,fun k hk=>bq (h2.lt k hk) hT,h2.tq,h2.le,h2.body,h2.semi⟩,fK.up hT h3⟩
theorem fK.snoc {w:World} {T:Nat} {ts:List Tk} {d:Df} {pv:Value} {a b:Nat} (hd:RDOk w T ts d pv a b):∀{ds:List Df} {xs:List Value},fK w T ts ds xs->fK w T ts (ds++[d]) (xs++oe d pv a b)
 |[],_,h=>by rw [show _=([]:List Value) from h];exact ⟨pv,a,b,[],by simp,hd,rfl⟩
 |_::_,_,⟨p,a',b',r,h1,h2,h3⟩=>⟨p,a',b',r++oe d pv a b,by rw [h1];simp,h2,fK.snoc hd h3⟩
theorem fK.type {w w':World} {base T size n:Nat} {ts:List Tk} {v:Value} {xs0:List Value} (hr:w.ownsRow base 219 size v n xs0) (hg:w.grownBy w' v.ownBlock):∀{ds:List Df} {xs:List Value},fK w T ts ds xs->fK w' T ts ds xs
 |[],_,h=>h
 |_::_,_,⟨pv,a,b,r,h1,h2,h3⟩=>⟨pv,a,b,r,h1,⟨aY hr hg (by decide) h2.row,h2.lt,h2.tq,h2.le,h2.body,h2.semi⟩,fK.type hr hg h3⟩
theorem zR (d:Df) (pv:Value) (a b:Nat) (h1:pv.oneCell'=true):∀u∈oe d pv a b,u.oneCell'=true:=by
 intro u hu;simp only [oe,aK,ck,dV] at hu;rcases hu with rfl|rfl|rfl|rfl|rfl<;>first|rfl|assumption
theorem Tryz.infoRDef:(Tryz.prog.info? 219).map (fun i=>(i.zero,i.size,i.bytes))=some (some (.agg #[.string ByteArray.empty,.int .i64 0,.slice none 0 0,.int .i64 0,.int .i64 0]),5,64):=by kernel_rfl
theorem TK (s:ByteArray) (v:Value) (ts:List Tk) (ds:List Df) (w:World) (hl:ts.length<=1000) (mO:∀t∈ts,WT t.txt) (Pr:Shp ts ds) (hv:w.ownsRow 0 212 2 v (ts.length+1) (rcs (ts++[km s]))):
 Calls Tryz.prog 110 #[v] w fun e w'=>∃lv,e=.returned lv/\Below w.heap.size w w'/\∃xs,w'.ownsRow 0 219 5 lv ds.length xs/\fK w' w'.heap.size ts ds xs:=by
 obtain ⟨q,cap,rfl,_,dX⟩:=hv.form (by omega);go_enter Tryz.func110,Tryz.ntmps110
 go_wp2_with fail
 go_loopw [3,4] (fun lv a wr=>∃(k:Nat) (done rest:List Df) (xs:List Value),k<=ts.length/\a=.int .i64 k/\Hid (done++rest=ds)/\Shp (ts.drop k) rest/\wr.ownsRow w.heap.size 219 5 lv done.length xs/\fK wr wr.heap.size ts done xs/\Below w.heap.size w wr/\done.length<=k) (fun _ a _=>ts.length-(intOf a).toNat)
 case atStart=>exact ⟨0,[],ds,[],aF _,rfl,rfl,Pr,aM _ _ _ _,rfl,ai _ _,ah _⟩
 case round=>
  obtain ⟨k,done,rest,xs,hk,rfl,HD,wF,bW,oG,hb,Qz⟩:=hrel;have et:=aQ hv hb;generalize hL:ts.drop k=L at wF;have kF:∀j t,L[j]?=some t->(ts++[km s])[k+j]?=some t/\k+j<ts.length/\WT t.txt:=by
   intro j t ht;rw [<-hL,List.getElem?_drop] at ht;obtain ⟨bF,he⟩:=aP.1 ht;refine ⟨?_,bF,mO t (by rw [<-he];exact aE bF)⟩
   rw [aI bF];exact ht
  have HL:Hid (ts.drop k=L):=hL;clear hL;cases wF with
  |nil=>
   have eh:k=ts.length:=by have:=HL.out;have h:=congrArg List.length this;simp at h;omega
   subst eh;have ⟨t0,t1⟩:=jQ (ts++[km s]) ts.length (km s) (by simp);have d0:=aH et _ _ t0;simp only [km] at d0;clear t0 t1 et kF;have e1:done=ds:=by have:=HD.out;simpa using this
   subst e1;go_wp2_with fail
   go_ret
   exact ⟨_,rfl,hb,xs,bO bW (aF _),oG⟩
  |cons n ps e body m r ds' hn hp he hbo hm hr=>
   obtain ⟨g0,g1,g2⟩:=kF 0 n rfl;simp only [cy] at g0 g1;have ⟨t0,t1⟩:=jQ _ _ _ g0;have d0:=aH et _ _ t0;have d1:=aH et _ _ t1;have dI:=oi n.txt g2.1;obtain ⟨wo,rfl⟩:∃wo:World,wo=wr:=⟨_,rfl⟩;have dk:=hb.size;clear t0 t1 et g0;go_wp2_with fail
   obtain ⟨J0,hJ0⟩:∃J0:Nat,J0=k+1:=⟨_,rfl⟩;have Yu:((J0:Nat):Int)=(k:Int)+1:=by omega
   rw [<-Yu];have Jq:Hid (J0=k+1):=hJ0;clear Yu hJ0
   go_loopw [4] (fun a wx=>∃(j J:Nat) (pv:Value),j<=ps.length/\Hid (J=J0+j)/\a=.int .i64 J/\Below wo.heap.size wo wx/\wx.heap[wo.heap.size]?=some (.cells #[.string n.txt,.int .i64 n.pos,pv,.int .i64 0,.int .i64 0] 219 (0,0))/\wx.ownsRow (wo.heap.size+1) 212 2 pv j (rcs (ps.take j))) (fun a _=>2000-(intOf a).toNat)
   case atStart=>exact ⟨0,J0,.slice none 0 0,aF _,rfl,rfl,(ai _ _).alloc (ah _) _,az wo _,aM _ _ _ _⟩
   case round=>
    obtain ⟨j,J,pv,hj,HJ,rfl,fe,ef,fU⟩:=hrel;have et:=aQ hv (hb.trans (fe.mono dk));have fG:wo.heap.size<wr.heap.size:=(ae.1 ef).1;have b0:=al wr wo.heap.size 0 _ _ _ ef;have b1:=al wr wo.heap.size 1 _ _ _ ef;have b2:=al wr wo.heap.size 2 _ _ _ ef;have b3:=al wr wo.heap.size 3 _ _ _ ef;have b4:=al wr wo.heap.size 4 _ _ _ ef;have fz:=fun j=>aG wr wo.heap.size j _ _ ef
    simp only [ax,ap,aq] at b0 b1 b2 b3 b4;by_cases dG:j<ps.length
    ·obtain ⟨i,hi,fp,dQ,eF⟩:=bE Tryz.infoRTok;obtain ⟨y0,y1,y2⟩:=kF (1+j) ps[j] (by rw [show 1+j=j+1 by omega,ap,aI dG];exact aj dG);rw [show k+(1+j)=J by have:=HJ.out;have:=Jq.out;omega] at y0 y1;have ⟨t0,t1⟩:=jQ _ _ _ y0;have x0:=aH et _ _ t0;have x1:=aH et _ _ t1;have As:(ps[j].txt.toList==[61])=false:=by rw [Mg y2,hp _ (aE dG)];rfl
     have Yv:(J:Int)<(ts.length:Int)+1:=by omega
     have ah7:(0:Int)<=(J:Int):=by omega
     have hJ2:J<=1000:=by omega
     have nV:j<=1000:=by have:=HJ.out;have:=Jq.out;omega
     clear t0 t1 y0 y2 kF;have ad3:(wr.drew).ownsRow (wo.heap.size+1) 212 2 pv j (rcs (ps.take j)):=fU;go_wp2_with fail
     go_region_law ((refine step_append_lies _ (by rfl) _ _ _ (by rfl) (wo.heap.size+1) 212 i _ 2 24 Tryz.underlying172 hi fp dQ eF rfl (by omega) pv j (rcs (ps.take j)) (by rfl) (by exact fU.alloc _) _ 1 _ (nT ps[j]) (by rfl) rfl (by exact World.news_of_block (az wr _)) (by exact ny _) (by omega) (by unfold maxLen;omega) (by omega) (by simp;omega) _ rfl ?_;intro g cap1 w2 b7 bD dt cV;have jY:=br (World.ownsRow.drew (fU.alloc _)) bD (by decide) ((aO wr _ wo.heap.size fG).trans ef);have z2:=al w2 wo.heap.size 2 _ _ _ jY;have zz:=aG w2 wo.heap.size 2 _ _ jY;simp only [ax,ap,aq] at z2))
     all_goals
      have bX:Below wo.heap.size wo w2:=(aR (fe.alloc (by omega) _)).grown bD (by simp [heap_drew];omega) (fun k hk=>by have:=(fU.lt k hk).1;omega);go_wp2_with fail
      go_roundw
      case rel=>
       refine ⟨j+1,J+1,_,by omega,by have:=HJ.out;show _=_;omega,by go_num,bX.setCell (ah _) _,bk _ jY,?_⟩
       rw [aT dG,rW];exact aB b7 jY (by decide)
      case measure=>simp [intOf];omega
    ·have Vw:j=ps.length:=by omega
     subst Vw;obtain ⟨y0,y1,y2⟩:=kF (1+ps.length) e (by rw [show 1+ps.length=ps.length+1 by omega,ap,aC (ah _),ct];rfl);rw [show k+(1+ps.length)=J by have:=HJ.out;have:=Jq.out;omega] at y0 y1;have ⟨t0,t1⟩:=jQ _ _ _ y0;have x0:=aH et _ _ t0;have x1:=aH et _ _ t1;have As:(e.txt.toList==[61])=true:=by rw [Mg y2,he];rfl
     clear t0 t1 y0;go_wp2_with fail
     go_loop [4] (fun a=>∃(j2 J2:Nat),j2<=body.length+1/\Hid (J2=J+j2)/\a=.int .i64 J2) (fun a=>2000-(intOf a).toNat)
     case atStart=>exact ⟨0,J,aF _,rfl,rfl⟩
     case round=>
      obtain ⟨j2,J2,nV,Bs,rfl⟩:=hrel;by_cases hjb:j2<body.length+1
      ·obtain ⟨t,hLt,hkt⟩:∃t,(e::(body++(m::r)))[j2]?=some t/\bf t.txt≠5:=by
        cases j2 with
        |zero=>exact ⟨e,rfl,by rw [he];decide⟩
        |succ j2=>exact ⟨body[j2]'(by omega),by rw [ap,aI (by omega)];exact aj (by omega),(hbo _ (aE (by omega))).2⟩
       obtain ⟨y0,y1,y2⟩:=kF (1+ps.length+j2) t (by rw [show 1+ps.length+j2=(ps.length+j2)+1 by omega,ap,aC (by omega),show ps.length+j2-ps.length=j2 by omega];exact hLt);rw [show k+(1+ps.length+j2)=J2 by have:=HJ.out;have:=Jq.out;have:=Bs.out;omega] at y0 y1;have ⟨t0,t1⟩:=jQ _ _ _ y0;have x0':=aH et _ _ t0;have pJ:(t.txt.toList==[59])=false:=by rw [nr y2];simpa using hkt
       clear t0 t1 y0;go_wp2_with fail
       go_round
       case rel=>exact ⟨j2+1,J2+1,by omega,by have:=Bs.out;show _=_;omega,by go_num⟩
       case measure=>simp [intOf];omega
      ·have hj4:j2=body.length+1:=by omega
       subst hj4;obtain ⟨y0,y1,y2⟩:=kF (1+ps.length+(body.length+1)) m (by rw [show 1+ps.length+(body.length+1)=(ps.length+(body.length+1))+1 by omega,ap,aC (by omega),show ps.length+(body.length+1)-ps.length=body.length+1 by omega,ap,aC (ah _),ct];rfl);rw [show k+(1+ps.length+(body.length+1))=J2 by have:=HJ.out;have:=Jq.out;have:=Bs.out;omega] at y0 y1;have ⟨t0,t1⟩:=jQ _ _ _ y0;have x0':=aH et _ _ t0;have pJ:(m.txt.toList==[59])=true:=by rw [nr y2,hm];rfl
       clear t0 t1 y0;obtain ⟨i,hi,fp,dQ,eF⟩:=bE Tryz.infoRDef;have mU:=wh fU;have CK:Hid (pv.oneCell'=true):=mU;clear mU;have ahi:done.length<=1000:=by omega
       have df:Below wo.heap.size wo ((wr.setCell ⟨wo.heap.size,3,none⟩ (.int .i64 ((J:Int)+1))).setCell ⟨wo.heap.size,4,none⟩ (.int .i64 (J2:Int))):=(fe.setCell (ah _) _).setCell (ah _) _;have ld:=aQ bW df;have pH:=aB (i:=4) (u:=.int .i64 (J2:Int)) (aB (i:=3) (u:=.int .i64 ((J:Int)+1)) fU ef (by decide)) (bk _ ef) (by decide);have mV:=oG.keep df;have Gi:((wr.setCell ⟨wo.heap.size,3,none⟩ (.int .i64 ((J:Int)+1))).setCell ⟨wo.heap.size,4,none⟩ (.int .i64 (J2:Int))).heap.size=wr.heap.size:=by simp [World.setCell]
       have uc:Hid _:=Gi;clear Gi;go_wp2_with (at_builtin;go_must (refine wpList_append_lies _ rfl _ _ _ rfl w.heap.size 219 i _ 5 64 Tryz.underlying176 hi fp dQ eF rfl (by omega) u3 done.length xs rfl ?hown _ 1 _ (oe ⟨n,ps,body⟩ pv (J+1) J2) rfl rfl ?dA ?h1 (by omega) ?kj ?cP ?cX _ rfl ?_))
       case hown=>exact ld.alloc _
       case dA=>
        intro j u h;rw [oe,show ((J+1:Nat):Int)=(J:Int)+1 by omega] at h;exact h
       case h1=>exact zR _ _ _ _ CK.out
       case kj=>unfold maxLen;omega
       case cP=>omega
       case cX=>first|omega|(simp;omega)
       intro g cap1 w2 b7 bD dt cV;have Gi:=uc.out;clear uc;generalize SN:(wr.setCell ⟨wo.heap.size,3,none⟩ (.int .i64 ((J:Int)+1))).setCell ⟨wo.heap.size,4,none⟩ (.int .i64 (J2:Int))=W3 at*;clear SN;generalize (Obj.cells #[.string n.txt,.int .i64 n.pos,pv,.int .i64 ((J:Int)+1),.int .i64 (J2:Int)] 219)=O at bD;have HB:∀j,j<body.length->ts[J+1+j]?=body[j]?:=by
        intro j hj;have h1:(ts.drop k)[2+ps.length+j]?=body[j]?:=by
         rw [HL.out,show 2+ps.length+j=(ps.length+(j+1))+1 by omega,ap,aC (by omega),show ps.length+(j+1)-ps.length=j+1 by omega,ap,aI hj]
        rw [List.getElem?_drop] at h1;rw [show J+1+j=k+(2+ps.length+j) by have:=HJ.out;have:=Jq.out;omega];exact h1
       have HDR:ts.drop (J2+1)=r:=by
        have h1:(ts.drop k).drop (ps.length+body.length+3)=r:=by
         rw [HL.out,show ps.length+body.length+3=(ps.length+(body.length+1+1))+1 by omega,dg,List.drop_append,bj (by omega),di,show ps.length+(body.length+1+1)-ps.length=(body.length+1)+1 by omega,dg,List.drop_append,bj (by omega),di,show body.length+1-body.length=0+1 by omega,dg,dw]
        rw [hG] at h1;rw [show J2+1=k+(ps.length+body.length+3) by have:=HJ.out;have:=Jq.out;have:=Bs.out;omega];exact h1
       have mD:ts.drop (J+1)=body++m::r:=by
        have h1:(ts.drop k).drop (ps.length+2)=body++m::r:=by
         rw [HL.out,show ps.length+2=(ps.length+1)+1 by omega,dg,List.drop_append,bj (by omega),di,show ps.length+1-ps.length=0+1 by omega,dg,dw]
        rw [hG] at h1;rw [show J+1=k+(ps.length+2) by have:=HJ.out;have:=Jq.out;omega];exact h1
       have adi:Shp (ts.drop (J2+1)) ds':=by rw [HDR];exact hr
       have EV:Hid ((done++[⟨n,ps,body⟩])++ds'=ds):=by have:=HD.out;show _=_;rw [<-this];simp
       have hgs:=bD.size;have ew:RDOk (W3.alloc O) (W3.alloc O).heap.size ts ⟨n,ps,body⟩ pv (J+1) J2:=by
        refine ⟨?_,fun k hk=>?_,by have:=Bs.out;show J+1+body.length=J2;omega,by omega,HB,m,r,mD,hm⟩
        ·have h1:=bO (pH.alloc O) (aF _);rw [bA] at h1;exact h1
        ·have:=(pH.lt k hk).2;simp;omega
       have ip:=fK.type (ld.alloc O) bD (fK.snoc ew (fK.up (T':=(W3.alloc O).heap.size) (by simp;omega) (mV.keep (kR ((ai W3.heap.size W3).alloc (ah _) O) (by omega)))));have QL:Below w.heap.size w w2:=(hb.trans ((df.mono dk).alloc (by omega) O)).grown bD (by simp;omega) (fun k hk=>(ld.lt k hk).1);clear HDR HB mD mV kF b0 b1 b2 b3 b4 fz x0 x1 x0' d0 d1 hi fp dQ eF;go_wp2_with fail
       go_roundw
       case rel=>exact ⟨J2+1,_,ds',_,by omega,by go_num,EV,adi,by rw [au];exact b7,ip.up hgs,QL,by simp;have:=Bs.out;have:=HJ.out;have:=Jq.out;omega⟩
       case measure=>simp [intOf];have:=Bs.out;have:=HJ.out;have:=Jq.out;omega
end Go.Proofs.YtnndoagpbcacdabGreatDoor
