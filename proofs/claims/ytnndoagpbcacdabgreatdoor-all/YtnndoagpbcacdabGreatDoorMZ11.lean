import Derived.Test.YtnndoagpbcacdabGreatDoorMZ9
import Derived.Test.YtnndoagpbcacdabGreatDoorMP3
import Derived.Test.YtnndoagpbcacdabGreatDoorMR9
import Derived.Test.YtnndoagpbcacdabGreatDoorMD0
import Derived.Laws.AppendOwnNone
import Derived.Test.YtnndoagpbcacdabGreatDoorMC4
import Derived.Test.YtnndoagpbcacdabGreatDoorMK5
namespace Go.Proofs.YtnndoagpbcacdabGreatDoor
set_option maxHeartbeats 8000000
set_option maxRecDepth 100000
open Go.RowKit
def EN (s:ByteArray):List Tp:=((rdC s).map (·.fs)).getD []
def Eo (s:ByteArray):Int:=((rdC s).map (·.mn)).getD 0
theorem Rj (s:ByteArray):(EN s).length<=16/\∀t∈EN s,1<=t.ls.length/\t.ls.length<=13/\∀l∈t.ls,1<=l.length:=by
 unfold EN;cases h:rdC s with
 |none=>exact ⟨by simp,fun t ht=>by simp at ht⟩
 |some c=>
  have hg:=rV h;simp only [jK,aN,aL,b8] at hg;obtain ⟨h1,h2,h3,h4,h5,_⟩:=hg;refine ⟨h2,fun t ht=>?_⟩
  have g:=h5 t ht;simp only [kl,aN,aL] at g;obtain ⟨g1,g2,g3,g4,g5⟩:=g;refine ⟨g3,g4,fun l hl=>?_⟩
  obtain ⟨i,hi⟩:=qJ g5 l hl;simp only [fy,aN,aL] at hi;exact hi.2.1
theorem vz (w:World):gR w (.slice none 0 0) []:=⟨[],aM _ _ _ _,rfl⟩
theorem Hz {w:World} {B:Nat} (h:B<=w.heap.size):nj w B (.slice none 0 0) []:=⟨[],aM _ _ _ _,rfl,h⟩
theorem O2 (hb B0 T T1 Ma Ml:Nat) (av lv fv:Value) (NA NL NF:List Value) (n m:Int) (s:ByteArray) (c0:Int) (fo:Option Addr) (fl fc:Nat) (w:World) (hs:s.size<=maxLen) (hH:HoldB w B0 hb T T1 Ma Ml av lv fv NA NL NF [] [] []) (M9:B0<=hb) (hB:B0<=w.heap.size)
 (Yt:NA.length<=1099511627776) (Ra:NL.length<=1099511627776) (Ys:NF.length<=1099511627776):
 Calls Tryz.prog 39 #[.pointer (some ⟨hb,0,none⟩),opV 4 n m s c0 fo fl fc] w fun e w'=>e=.returned (.bool true)/\Below B0 w w'/\∃T Ma Ml av' lv' fv' NA' NL' NF',HoldB w' B0 hb T w'.heap.size Ma Ml av' lv' fv' NA' NL' NF' [] [] []/\NA'.length<=NA.length+208/\NL'.length<=NL.length+16/\NF'.length<=NF.length+1:=by
 unfold opV;obtain ⟨W1,Wu⟩:∃W1,W1=w.alloc (Obj.cells #[.int .i64 4,.int .i64 n,.int .i64 m,.string s,.int .i64 c0,.slice fo fl fc] 65):=⟨_,rfl⟩;have Jm:Below w.heap.size w W1:=by rw [Wu];exact iN _ _
 have q9:W1.heap[w.heap.size]?=some (.cells #[.int .i64 4,.int .i64 n,.int .i64 m,.string s,.int .i64 c0,.slice fo fl fc] 65 (0,0)):=by rw [Wu];exact az w _
 have fH:W1.heap.size=w.heap.size+1:=by rw [Wu];simp
 have kp:Hid _:=Tc s W1 hs;have HH:Hid (∀T1,HoldB W1 B0 hb W1.heap.size T1 W1.heap.size W1.heap.size av lv fv NA NL NF [] [] []):=fun T1=>(hH.old Jm).next (ah _) T1
 have eI:Hid (Below B0 w W1):=Jm.mono hB;have qO:Hid _:=q9;have Xz:Hid _:=Rj s;have Bm:Hid (∀w',Calls Tryz.prog 69 #[.string s] w' fun e w''=>∃mn fo fl fc,e=.returned (.tuple #[.agg #[.int .i64 mn,.slice fo fl fc],.int .i64 (rdL s),.int .i64 (rdE s)])/\Below w'.heap.size w' w''/\(rdC s=none->mn=0/\Value.slice fo fl fc=.slice none 0 0)/\∀c,rdC s=some c->mn=c.mn/\gR w'' (.slice fo fl fc) c.fs):=fun w'=>JH s w' hs
 have L3:Hid ((∀c,rdC s=some c->Eo s=c.mn/\EN s=c.fs)/\(rdC s=none->Eo s=0/\EN s=[])):=⟨fun c h=>by unfold Eo EN;rw [h];exact ⟨rfl,rfl⟩,fun h=>by unfold Eo EN;rw [h];exact ⟨rfl,rfl⟩⟩;generalize rdL s=rl at*;generalize rdE s=re at*;rw [Wu] at kp HH qO eI fH;clear q9 Jm hH Wu;go_enter Tryz.func39,Tryz.ntmps39
 go_wp2_with fail
 refine (show Calls _ _ _ _ _ from kp.out).mono ?_
 rintro e w2 ⟨mn,fo2,fl2,fc2,rfl,bX,U8,UF⟩
 clear kp;have Qs:mn=Eo s/\gR w2 (.slice fo2 fl2 fc2) (EN s)/\nj w2 (w.heap.size+1) (.slice fo2 fl2 fc2) (EN s):=by
  cases h:rdC s with
  |none=>
   obtain ⟨a,b⟩:=U8 h;obtain ⟨a',b'⟩:=L3.out.2 h;rw [b,b',a'];exact ⟨a,vz _,Hz (by have:=bX.size;rw [fH] at this;exact this)⟩
  |some c=>
   obtain ⟨a,b,d⟩:=UF c h;obtain ⟨a',b'⟩:=L3.out.1 c h;rw [a',b'];rw [fH] at d;exact ⟨a,b,d⟩
 obtain ⟨lW,VJ,VK⟩:=Qs;subst lW;have k9:=bX.size;rw [fH] at k9;have gj:Hid (Below (w.heap.size+1) (w.alloc (Obj.cells #[.int .i64 4,.int .i64 n,.int .i64 m,.string s,.int .i64 c0,.slice fo fl fc] 65)) w2):=by rw [fH] at bX;exact bX
 have pR:=(gj.out.block w.heap.size (by omega)).trans qO.out;have g3:=al w2 w.heap.size 3 _ _ _ pR;simp only [ax,ap,aq] at g3;have cV:w.heap.size<w2.heap.size:=by omega
 have XA:Hid _:=VJ;have XC:Hid _:=VK;have hA2:=iN w2 (Obj.cells #[.int .i64 (Eo s),.slice fo2 fl2 fc2] 63);have oX:Hid _:=hA2;clear bX U8 UF pR VJ VK hA2;go_wp2_with fail
 refine (show Calls _ _ _ _ _ from Bm.out _).mono ?_
 rintro e w3 ⟨mn',fo3,fl3,fc3,rfl,df,U7,UE⟩
 have KF:mn'=Eo s/\gR w3 (.slice fo3 fl3 fc3) (EN s):=by
  cases h:rdC s with
  |none=>
   obtain ⟨a,b⟩:=U7 h;obtain ⟨a',b'⟩:=L3.out.2 h;rw [b,b',a'];exact ⟨a,vz _⟩
  |some c=>
   obtain ⟨a,b⟩:=UE c h;obtain ⟨a',b'⟩:=L3.out.1 c h;rw [a',b'];exact ⟨a,b⟩
 obtain ⟨Z8,VI⟩:=KF;subst Z8;have rA:=df.size;rw [bT] at rA;have adq:Hid (Below w2.heap.size w2 w3):=oX.out.trans (df.mono oX.out.size);have SL:=(df.block w2.heap.size (by simp)).trans (az w2 _);have YU:Hid _:=iN w3 (Obj.cells #[.int .i64 (Eo s),.slice fo3 fl3 fc3] 63);have XY:Hid (Below w2.heap.size w2 (w3.alloc (Obj.cells #[.int .i64 (Eo s),.slice fo3 fl3 fc3] 63))):=adq.out.trans (YU.out.mono (by omega));obtain ⟨y0,y1⟩:=pX SL;have tn:w2.heap.size<w3.heap.size:=by omega
 have ix:Hid _:=T4 (Eo s) (EN s) (.slice fo2 fl2 fc2) (.slice fo3 fl3 fc3) (w3.alloc (Obj.cells #[.int .i64 (Eo s),.slice fo3 fl3 fc3] 63)) (gR.old XA.out XY.out).rd (VI.old YU.out).rd;have HY3:Hid _:=SL;clear Bm df U7 UE VI SL g3 L3;go_wp2_with fail
 refine (show Calls _ _ _ _ _ from ix.out).mono ?_
 rintro e w4 ⟨rfl,dU⟩
 clear ix;have qD:=dU.size;rw [bT] at qD;have ni:Hid (Below w2.heap.size w2 w4):=XY.out.trans (dU.mono (by simp;omega));have hY4:=(dU.block w2.heap.size (by simp;omega)).trans ((YU.out.block w2.heap.size tn).trans HY3.out);obtain ⟨z0,z1⟩:=pX hY4;have yy:w2.heap.size<w4.heap.size:=by omega
 have XZ:Hid (Below (w.heap.size+1) (w.alloc (Obj.cells #[.int .i64 4,.int .i64 n,.int .i64 m,.string s,.int .i64 c0,.slice fo fl fc] 65)) w4):=gj.out.trans (ni.out.mono (by omega));obtain ⟨ys,Gp,VM⟩:=nj.old XC.out ni.out;have hH4:HoldB w4 B0 hb (w.heap.size+1) w4.heap.size (w.heap.size+1) (w.heap.size+1) av lv fv NA NL NF [] [] []:=by
  have h:=HH.out w4.heap.size;rw [fH] at h;exact h.old (by rw [fH];exact XZ.out)
 have VE:=Xz.out;have xC:Hid _:=Zf hb B0 (w.heap.size+1) w4.heap.size (Eo s) fo2 fl2 fc2 ((EN s).map (·.ls.length)) ys NA NL NF av lv fv w4 hH4 (by omega) M9 (by omega) (ah _) (by rw [bK];exact Gp) (fun k hk=>(Gp.lt k hk).2) (Mh VM (fun t ht=>⟨(VE.2 t ht).1,(VE.2 t ht).2.2⟩)) (by rw [bK];exact VE.1) (fun k hk=>by
  obtain ⟨t,ht,rfl⟩:=bZ.1 hk;exact (VE.2 t ht).2.1) Yt Ra Ys
 have adm:Hid (Below B0 w w4):=eI.out.trans (XZ.out.mono (by omega));clear hH4 Gp VM hY4 dU HH XC XA VE Xz y0 y1;go_wp2_with fail
 refine (show Calls _ _ _ _ _ from xC.out).mono ?_
 rintro e w5 ⟨⟨v5,rfl⟩,dB,T',Ma',Ml',av',lv',fv',NA',NL',NF',Co,kV,gS,zo⟩
 clear xC;have xm:Hid (Below B0 w w5):=adm.out.trans dB;have HF:Hid (∃T Ma Ml av' lv' fv' NA' NL' NF',HoldB w5 B0 hb T w5.heap.size Ma Ml av' lv' fv' NA' NL' NF' [] [] []/\NA'.length<=NA.length+208/\NL'.length<=NL.length+16/\NF'.length<=NF.length+1):=⟨w5.heap.size,_,_,_,_,_,_,_,_,Co.next (ah _) _,kV,gS,zo⟩;have nX:(re==re)=true:=by simp
 have lV:(rl==rl)=true:=by simp
 clear dB Co kV gS zo z0 z1;go_wp2_with (go_at_call 66;refine (OT _ _).mono ?_;rintro e w6 ⟨rfl,rfl⟩)
 go_ret
 exact ⟨rfl,xm.out,HF.out⟩
theorem OP (hb B0 T T1 Ma Ml:Nat) (av lv fv:Value) (NA NL NF:List Value) (n m:Int) (s:ByteArray) (c0:Int) (fo:Option Addr) (fl fc:Nat) (w:World) (hs:s.size<=maxLen) (hH:HoldB w B0 hb T T1 Ma Ml av lv fv NA NL NF [] [] []) (M9:B0<=hb) (hB:B0<=w.heap.size)
 (Yt:NA.length<=1099511627776) (Ra:NL.length<=1099511627776) (Ys:NF.length<=1099511627776):
 Calls Tryz.prog 23 #[.pointer (some ⟨hb,0,none⟩),opV 4 n m s c0 fo fl fc] w fun e w'=>e=.returned (.bool true)/\Below B0 w w'/\∃T Ma Ml av' lv' fv' NA' NL' NF',HoldB w' B0 hb T w'.heap.size Ma Ml av' lv' fv' NA' NL' NF' [] [] []/\NA'.length<=NA.length+208/\NL'.length<=NL.length+16/\NF'.length<=NF.length+1:=by
 have hA:Below w.heap.size w (w.alloc (Obj.cells #[.int .i64 4,.int .i64 n,.int .i64 m,.string s,.int .i64 c0,.slice fo fl fc] 65)):=iN _ _;have HC:Hid _:=O2 hb B0 T T1 Ma Ml av lv fv NA NL NF n m s c0 fo fl fc _ hs (hH.old hA) M9 (by have:=hA.size;omega) Yt Ra Ys;unfold opV at HC ⊢;clear hH;go_enter Tryz.func23,Tryz.ntmps23
 go_wp2_with fail
 refine (show Calls _ _ _ _ _ from HC.out).mono ?_
 rintro e w1 ⟨rfl,bB,hx⟩
 have HX:Hid _:=hx;have eQ:Below B0 w w1:=(hA.mono hB).trans bB;clear bB HC hx;go_wp2_with fail
 go_ret
 exact ⟨rfl,eQ,HX.out⟩
def HI (B0:Nat) (wr:World) (bh i:Nat):Prop:=B0<=bh/\B0<=wr.heap.size/\∃T T1 Ma Ml av lv fv NA NL NF,HoldB wr B0 bh T T1 Ma Ml av lv fv NA NL NF [] [] []/\NA.length<=208*i/\NL.length<=16*i/\NF.length<=i
theorem HI.old {B0:Nat} {wr w':World} {bh i:Nat} (h:HI B0 wr bh i) (hb:Below wr.heap.size wr w'):HI B0 w' bh i:=by
 obtain ⟨h0,h1,T,T1,Ma,Ml,av,lv,fv,NA,NL,NF,h2,h3⟩:=h;exact ⟨h0,aJ h1 hb.size,T,T1,Ma,Ml,av,lv,fv,NA,NL,NF,h2.old hb,h3⟩
theorem HI.more {B0:Nat} {wr:World} {bh i:Nat} (h:HI B0 wr bh i):HI B0 wr bh (i+1):=by
 obtain ⟨h0,h1,T,T1,Ma,Ml,av,lv,fv,NA,NL,NF,h2,h3,h4,h5⟩:=h;exact ⟨h0,h1,T,T1,Ma,Ml,av,lv,fv,NA,NL,NF,h2,by omega,by omega,by omega⟩
theorem HI.init {B0:Nat} {wr:World} {bh:Nat} (h:RD wr bh) (hB:B0<=bh):HI B0 wr bh 0:=by
 have bF:=(ae.1 h).1;refine ⟨hB,by omega,0,0,0,0,_,_,_,[],[],[],⟨h,aM _ _ _ _,aM _ _ _ _,aM _ _ _ _,fun k hk=>by simp [Value.ownBlock] at hk,fun i hi=>by simp at hi,fun i hi=>by simp at hi,fun i hi=>by simp at hi,fun v hv=>by simp at hv⟩,by simp,by simp,by simp⟩
structure LR (w wr:World) (ov rv:Value) (O:Ln) (R:List Ln) (vs:List Value):Prop where
 bel:Below w.heap.size w wr
 orow:wr.ownsRow w.heap.size 99 2 ov O.length (acs O)
 rrow:wr.ownsRow w.heap.size 100 1 rv R.length vs
 rows:gn wr w.heap.size (fun k=>ov.ownBlock≠some k) vs R
 nil:R=[]->rv=.slice none 0 0
theorem LR.len {w wr:World} {ov rv:Value} {O:Ln} {R:List Ln} {vs:List Value} (h:LR w wr ov rv O R vs):vs.length=R.length:=by have:=h.rrow.1;simpa using this
theorem LR.old {w wr wx:World} {ov rv:Value} {O:Ln} {R:List Ln} {vs:List Value} (h:LR w wr ov rv O R vs) (hb:Below wr.heap.size wr wx):LR w wx ov rv O R vs:=
 ⟨h.bel.trans (hb.mono h.bel.size),aQ h.orow hb,aQ h.rrow hb,h.rows.old hb (fun _ _ h=>h),h.nil⟩
theorem LR.pushO {w wr wx:World} {ov rv:Value} {O:Ln} {R:List Ln} {vs:List Value} {a:Int×Int} {g cap H:Nat} (h:LR w wr ov rv O R vs)
 (hown:wx.ownsRow w.heap.size 99 2 (.slice (some ⟨g,0,none⟩) (O.length+1) cap) (O.length+1) (acs O++[.int .i64 a.1,.int .i64 a.2])) (bD:wr.grownBy wx ov.ownBlock) (dt:ov.ownBlock=some g\/g=H) (hH:wr.heap.size=H):
 LR w wx (.slice (some ⟨g,0,none⟩) (O.length+1) cap) rv (O++[a]) R vs:=by
 refine ⟨h.bel.grown bD h.bel.size (fun k hk=>(h.orow.lt k hk).1),by rw [au,jF];exact hown,aY h.orow bD (by decide) h.rrow,?_,h.nil⟩
 refine h.rows.kept bD (fun k hk=>hk) (fun k bF hk=>?_)
 simp only [Value.ownBlock];intro e;cases e
 rcases dt with dt|dt
 ·exact hk dt
 ·omega
theorem LR.pushR {w wr wx:World} {ov rv nv:Value} {O:Ln} {R M:List Ln} {vs us:List Value} {W0:Nat} (h:LR w wr ov rv O R vs) (hW:∀k,ov.ownBlock=some k->k<W0) (hM:gn wr W0 (fun _=>True) us M) (hW2:w.heap.size<=W0) (dI:M≠[])
 (hown:wx.ownsRow w.heap.size 100 1 nv (R.length+M.length) (vs++us)) (bD:wr.grownBy wx rv.ownBlock):
 LR w wx ov nv O (R++M) (vs++us):=by
 refine ⟨h.bel.grown bD h.bel.size (fun k hk=>(h.rrow.lt k hk).1),aY h.rrow bD (by decide) h.orow,by rw [au];exact hown,?_,fun e=>absurd (List.append_eq_nil_iff.1 e).2 dI⟩
 refine gn.app h.len (h.rows.type h.rrow bD (fun _ h=>h)) ?_
 have:gn wr w.heap.size (fun k=>ov.ownBlock≠some k) us M:=by
  intro j hj;obtain ⟨v,e1,e2,_⟩:=hM j hj;refine ⟨v,e1,bO e2 hW2,fun k hk e=>?_⟩
  have h1:=(e2.lt k hk).1;have h2:=hW k e;omega
 exact this.type h.rrow bD (fun _ h=>h)
theorem TF (ps names:List Tk) (n:Nat):∀(b:At) (xs:List Value) (lv:Value) (k:Nat) (w:World),b.toks.length<n->n<=1002->k+b.toks.length<=5000->w.ownsRow 0 223 3 lv b.cnt xs->ER w (fun k=>k<w.heap.size) ps names b xs->
 Calls Tryz.prog 150 #[lv,.int .i64 k] w fun e w'=>∃v,e=.returned v/\Below w.heap.size w w'/\j3 w' w.heap.size v (gx (aX ps names) b k::dC (aX ps names) b k):=by
 induction n with
 |zero=>intro b xs lv k w h;omega
 |succ n ih=>
  intro b xs lv k w hbn hn Vr hl nX;have vI:Hid _:=ih;clear ih;obtain ⟨ao,cap,rfl⟩:=aU hl;obtain ⟨i,hi,fp,dQ,eF⟩:=bE Tryz.infoAtom;obtain ⟨i2,lj,I4,Ca,B9⟩:=bE Tryz.infoLine;have xv:b.cnt<=1001:=aJ (At.cnt_le b) (by omega);have Dm:unT b<=1001:=aJ (sB b) (by omega);go_enter Tryz.func150,Tryz.ntmps150
  go_wp2_with fail
  go_loopw [1,5,6,7] (fun kk ov rv y wr=>∃(done rest:At) (m:Nat) (pre suf:List Value) (vs:List Value),Hid (done.app rest=b)/\y=.int .i64 m/\Hid (m=done.cnt)/\kk=.int .i64 ((k+unT done:Nat):Int)/\Hid (xs=pre++suf)/\Hid (pre.length=m*3)/\ER w (fun k=>k<w.heap.size) ps names rest suf/\LR w wr ov rv (gx (aX ps names) done k) (dC (aX ps names) done k) vs) (fun _ _ _ y _=>b.cnt-(intOf y).toNat)
  case atStart=>exact ⟨.nil,b,0,[],xs,[],rfl,rfl,rfl,rfl,rfl,rfl,nX,⟨ai _ _,aM _ _ _ _,aM _ _ _ _,fun j hj=>by simp [dC] at hj,fun _=>rfl⟩⟩
  case round=>
   obtain ⟨done,rest,m,pre,suf,vs,HA,rfl,HM,rfl,mC,i5,rE,j9⟩:=hrel;obtain ⟨K,hK⟩:∃K,K=k+unT done:=⟨_,rfl⟩;have HK:Hid (K=k+unT done):=hK;rw [<-hK];have Nk:K<=7000:=by have:=sB done;have:=congrArg List.length (congrArg At.toks HA.out);rw [At.app_toks,au] at this;omega
   clear hK;have hb:=j9.bel;have dk:=hb.size;have ij:m+rest.cnt=b.cnt:=by
    have:=congrArg At.cnt HA.out;rw [At.app_cnt] at this;rw [HM.out];exact this
   have I6:unT done+unT rest=unT b:=by
    have:=congrArg unT HA.out;rw [mF] at this;exact this
   have ja:done.toks.length+rest.toks.length=b.toks.length:=by
    rw [<-HA.out,At.app_toks,au]
   have ZW:(gx (aX ps names) done k).length<=1001:=by rw [JM,<-HM.out];omega
   have lV:(dC (aX ps names) done k).length<=1001:=by rw [gy];omega
   have af8:=sB done;have Jd:=aQ hl hb;obtain ⟨oo,ocap,nU⟩:=aU j9.orow;obtain ⟨ro,rcap,ua⟩:=aU j9.rrow;subst nU ua;cases rest with
   |nil=>
    have gK:m=b.cnt:=by simpa [At.cnt] using ij
    have yJ:done=b:=by have:=HA.out;rw [At.app_nil] at this;exact this
    subst yJ;have HU0:Hid _:=gy (aX ps names) done k;generalize hO:gx (aX ps names) done k=O at*;generalize hRR:dC (aX ps names) done k=RR at*;have HO:Hid (gx (aX ps names) done k=O):=hO;have Bm:Hid (dC (aX ps names) done k=RR):=hRR;clear hO hRR;clear ja ij I6 HA HM mC i5 rE nX Jd hl;have yx:¬m<done.cnt:=by omega
    have Ds:(wr.alloc (Obj.cells #[.slice oo O.length ocap] 100)).ownsRow w.heap.size 100 1 (.slice (some ⟨wr.heap.size,0,none⟩) 1 1) 1 [.slice oo O.length ocap]:=fg wr #[.slice oo O.length ocap] 1 dk (by unfold maxLen;omega) rfl;have Ax:=j9.old ((ai _ _).alloc (ah _) (Obj.cells #[.slice oo O.length ocap] 100));by_cases hR:RR=[]
    ·have ua:=j9.nil hR;rw [ua];have Xt:Hid (j3 (wr.alloc (Obj.cells #[.slice oo O.length ocap] 100)) w.heap.size (.slice (some ⟨wr.heap.size,0,none⟩) 1 1) (O::RR)):=by
      rw [hR];refine ⟨[.slice oo O.length ocap],Ds,fun j hj=>?_⟩
      have sd:j=0:=by simpa using hj
      subst sd;exact ⟨_,rfl,Ax.orow,fun _ _=>trivial⟩
     clear hR ua j9;go_wp2_with (at_builtin;go_must (refine wpList_append_own_none rfl _ _ _ rfl w.heap.size 100 i2 1 Tryz.underlying56 lj (.slice (some ⟨wr.heap.size,0,none⟩) 1 1) 1 [.slice oo O.length ocap] rfl ?yt rfl ?_))
     case yt=>exact Ds
     go_wp2_with fail
     go_ret
     exact ⟨_,rfl,Ax.bel,by rw [HO.out,Bm.out];exact Xt.out⟩
    ·have Ww:0<RR.length:=fw.2 hR;obtain ⟨mg,mc,hmq,hmg,Ve⟩:=Ax.rrow.form Ww;cases hmq
     go_wp2_with (at_builtin;go_must (refine wpList_append_lies _ rfl _ _ _ rfl w.heap.size 100 i2 _ 1 24 Tryz.underlying56 lj I4 Ca B9 rfl (by omega) (.slice (some ⟨wr.heap.size,0,none⟩) 1 1) 1 [.slice oo O.length ocap] rfl ?yt _ RR.length _ vs rfl ?hlE ?Aq ?h1E (by omega) ?Re ?wO ?AO _ rfl ?_))
     case yt=>exact Ds
     case hlE=>rw [j9.len,iW]
     case Aq=>exact fun j u hu=>Ax.rrow.cells (g:=mg) rfl j u hu
     case h1E=>exact gn.one j9.rows j9.len
     case Re=>unfold maxLen;omega
     case wO=>omega
     case AO=>simp;omega
     intro g4 cap4 w4 jy ga yN yy;have Xt:Hid (j3 w4 w.heap.size (.slice (some ⟨g4,0,none⟩) (1+RR.length) cap4) (O::RR)):=by
      refine ⟨[.slice oo O.length ocap]++vs,by rw [aD,Nat.add_comm RR.length 1];exact jy,?_⟩
      refine gn.app (L:=[O]) (M:=RR) rfl (fun j hj=>?_) (Ax.rows.type Ds ga (fun _ _=>trivial))
      have sd:j=0:=by simpa using hj
      subst sd;exact ⟨_,rfl,aY Ds ga (by decide) Ax.orow,fun _ _=>trivial⟩
     have dU:Below w.heap.size w w4:=Ax.bel.grown ga (by simp;omega) (fun k hk=>(Ds.lt k hk).1);clear jy ga yN;go_wp2_with fail
     go_ret
     exact ⟨_,rfl,dU,by rw [HO.out,Bm.out];exact Xt.out⟩
   |sim t r=>
    obtain ⟨q,cap',hq,_,dX⟩:=Jd.form (by simp [At.cnt] at ij;omega);cases hq
    have bF:m<b.cnt:=by simp [At.cnt] at ij;omega
    obtain ⟨r',fH,ki⟩:=rE;have c0:wr.cell? ⟨q,m*3,none⟩=some (.int .i64 (aX ps names t).1):=aH Jd _ _ (by rw [mC.out,aC (by rw [i5.out];omega),i5.out,ct,fH];rfl);have c1:wr.cell? ⟨q,m*3+1,none⟩=some (.int .i64 (aX ps names t).2):=aH Jd _ _ (by rw [mC.out,aC (by rw [i5.out];omega),i5.out,show m*3+1-m*3=1 by omega,fH];rfl);have h5:=eZ ps names t;have yP:((aX ps names t).1==5)=false:=by simpa using h5
    have oX:Hid ((done.app (.sim t .nil)).app r=b):=by rw [<-HA.out,At.app_assoc];exact rfl
    have xz:Hid (unT (done.app (.sim t .nil))=unT done):=by rw [mF];simp [Hid,unT]
    have t7:Hid (gx (aX ps names) (done.app (.sim t .nil)) k=gx (aX ps names) done k++[((aX ps names t).1,(aX ps names t).2)]):=by rw [wj];exact rfl
    have gT:Hid (dC (aX ps names) (done.app (.sim t .nil)) k=dC (aX ps names) done k):=by rw [sN];simp [Hid,dC]
    have fE:Hid (m+1=(done.app (.sim t .nil)).cnt):=by rw [At.app_cnt,HM.out];exact rfl
    have gp:Hid (xs=(pre++eC (aX ps names t).1 (aX ps names t).2 (.slice none 0 0))++r'):=by rw [mC.out,fH,bI];exact rfl
    have vH:Hid ((pre++eC (aX ps names t).1 (aX ps names t).2 (.slice none 0 0)).length=(m+1)*3):=by rw [au,i5.out];simp [Hid,eC];omega
    generalize eA:(aX ps names t).1=kk at*;generalize eh:(aX ps names t).2=kn at*;clear fH ij eA eh;generalize gx (aX ps names) done k=O at*;generalize dC (aX ps names) done k=RR at*;have zi:Hid _:=(j9.old ((ai _ _).alloc (ah _) (Obj.cells #[.int .i64 kk,.int .i64 kn] 99))).old (aR (ai _ _));have Ee:Hid _:=World.ownsRow.drew (j9.orow.alloc (Obj.cells #[.int .i64 kk,.int .i64 kn] 99));go_wp2_with fail
    go_region_law ((refine step_append_lies _ (by rfl) _ _ _ (by rfl) w.heap.size 99 i _ 2 16 Tryz.underlying100 hi fp dQ eF rfl (by omega) (.slice oo O.length ocap) O.length (acs O) (by rfl) (by exact Ee.out) _ 1 _ [.int .i64 kk,.int .i64 kn] (by rfl) rfl (by exact World.news_of_block (az wr _)) (by simp [Value.oneCell']) (by omega) (by unfold maxLen;omega) (by omega) (by simp;omega) _ rfl ?_;intro g cap2 w2 b7 bD dt cV;have Bq:Hid _:=LR.pushO (a:=(kk,kn)) zi.out b7 bD dt rfl;clear b7 bD dt cV))
    all_goals
     go_wp2_with fail
     go_roundw
     case rel=>exact ⟨done.app (.sim t .nil),r,m+1,_,r',vs,oX,by go_num,fE,by rw [xz.out,<-HK.out],gp,vH,ki,by rw [t7.out,gT.out];exact Bq.out⟩
     case measure=>simp [intOf];omega
   |par o x c ag r=>
    obtain ⟨q,cap',hq,_,dX⟩:=Jd.form (by simp [At.cnt] at ij;omega);cases hq
    have bF:m<b.cnt:=by simp [At.cnt] at ij;omega
    rcases rE with ⟨qG,r',fH,ki⟩|⟨dI,pv,ys,r',fH,jD,qW,AE,ki⟩
    ·have c0:wr.cell? ⟨q,m*3,none⟩=some (.int .i64 (aX ps names x).1):=aH Jd _ _ (by rw [mC.out,aC (by rw [i5.out];omega),i5.out,ct,fH];rfl);have c1:wr.cell? ⟨q,m*3+1,none⟩=some (.int .i64 (aX ps names x).2):=aH Jd _ _ (by rw [mC.out,aC (by rw [i5.out];omega),i5.out,show m*3+1-m*3=1 by omega,fH];rfl);have h5:=eZ ps names x;have yP:((aX ps names x).1==5)=false:=by simpa using h5
     have oX:Hid ((done.app (.par o x c ag .nil)).app r=b):=by rw [<-HA.out,At.app_assoc];exact rfl
     have xz:Hid (unT (done.app (.par o x c ag .nil))=unT done):=by rw [mF,qG];simp [Hid,unT,At.isNil]
     have t7:Hid (gx (aX ps names) (done.app (.par o x c ag .nil)) k=gx (aX ps names) done k++[((aX ps names x).1,(aX ps names x).2)]):=by rw [wj,qG];exact rfl
     have gT:Hid (dC (aX ps names) (done.app (.par o x c ag .nil)) k=dC (aX ps names) done k):=by rw [sN,qG];simp [Hid,dC,At.isNil]
     have fE:Hid (m+1=(done.app (.par o x c ag .nil)).cnt):=by rw [At.app_cnt,HM.out];exact rfl
     have gp:Hid (xs=(pre++eC (aX ps names x).1 (aX ps names x).2 (.slice none 0 0))++r'):=by rw [mC.out,fH,bI];exact rfl
     have vH:Hid ((pre++eC (aX ps names x).1 (aX ps names x).2 (.slice none 0 0)).length=(m+1)*3):=by rw [au,i5.out];simp [Hid,eC];omega
     generalize eA:(aX ps names x).1=kk at*;generalize eh:(aX ps names x).2=kn at*;clear fH ij eA eh qG;generalize gx (aX ps names) done k=O at*;generalize dC (aX ps names) done k=RR at*;have zi:Hid _:=(j9.old ((ai _ _).alloc (ah _) (Obj.cells #[.int .i64 kk,.int .i64 kn] 99))).old (aR (ai _ _));have Ee:Hid _:=World.ownsRow.drew (j9.orow.alloc (Obj.cells #[.int .i64 kk,.int .i64 kn] 99));go_wp2_with fail
     go_region_law ((refine step_append_lies _ (by rfl) _ _ _ (by rfl) w.heap.size 99 i _ 2 16 Tryz.underlying100 hi fp dQ eF rfl (by omega) (.slice oo O.length ocap) O.length (acs O) (by rfl) (by exact Ee.out) _ 1 _ [.int .i64 kk,.int .i64 kn] (by rfl) rfl (by exact World.news_of_block (az wr _)) (by simp [Value.oneCell']) (by omega) (by unfold maxLen;omega) (by omega) (by simp;omega) _ rfl ?_;intro g cap2 w2 b7 bD dt cV;have Bq:Hid _:=LR.pushO (a:=(kk,kn)) zi.out b7 bD dt rfl;clear b7 bD dt cV))
     all_goals
      go_wp2_with fail
      go_roundw
      case rel=>exact ⟨done.app (.par o x c ag .nil),r,m+1,_,r',vs,oX,by go_num,fE,by rw [xz.out,<-HK.out],gp,vH,ki,by rw [t7.out,gT.out];exact Bq.out⟩
      case measure=>simp [intOf];omega
    ·have c0:wr.cell? ⟨q,m*3,none⟩=some (.int .i64 5):=aH Jd _ _ (by rw [mC.out,aC (by rw [i5.out];omega),i5.out,ct,fH];rfl);have Xa:Hid (xs[m*3+2]?=some pv):=by show _=_;rw [mC.out,aC (by rw [i5.out];omega),i5.out,show m*3+2-m*3=2 by omega,fH];rfl
     have oX:Hid ((done.app (.par o x c ag .nil)).app r=b):=by rw [<-HA.out,At.app_assoc];exact rfl
     have xz:Hid (unT (done.app (.par o x c ag .nil))=unT done+1+unT ag):=by rw [mF];simp [Hid,unT,At.isNil_ne dI];omega
     have t7:Hid (gx (aX ps names) (done.app (.par o x c ag .nil)) k=gx (aX ps names) done k++[(5,(K:Int))]):=by rw [wj,<-HK.out];simp [Hid,gx,At.isNil_ne dI]
     have gT:Hid (dC (aX ps names) (done.app (.par o x c ag .nil)) k=dC (aX ps names) done k++(gx (aX ps names) (.sim x ag) (K+1)::dC (aX ps names) (.sim x ag) (K+1))):=by rw [sN,<-HK.out];simp [Hid,dC,gx,At.isNil_ne dI]
     have fE:Hid (m+1=(done.app (.par o x c ag .nil)).cnt):=by rw [At.app_cnt,HM.out];exact rfl
     have gp:Hid (xs=(pre++eC 5 0 pv)++r'):=by rw [mC.out,fH,bI];exact rfl
     have vH:Hid ((pre++eC 5 0 pv).length=(m+1)*3):=by rw [au,i5.out];simp [Hid,eC];omega
     have MN:(At.sim x ag).toks.length<n:=by simp [At.toks] at ja ⊢;omega
     have Uw:(K+1)+(At.sim x ag).toks.length<=5000:=by have:=HK.out;have:=sB done;simp [At.toks] at ja ⊢;omega
     have Zq:unT ag<=1001:=by have:=sB ag;simp [At.toks] at MN;omega
     have zu:Hid ((gx (aX ps names) (.sim x ag) (K+1)::dC (aX ps names) (.sim x ag) (K+1)).length=unT ag+1):=by rw [aD,gy];exact rfl
     have En:Hid _:=fun wx (fe:Below w.heap.size w wx)=>vI.out (.sim x ag) (eC (aX ps names x).1 (aX ps names x).2 (.slice none 0 0)++ys) pv (K+1) wx MN (by omega) Uw (aQ jD fe) ⟨ys,rfl,ER.later fe AE⟩
     have YR:Hid _:=fun wx (fe:Below w.heap.size w wx)=>Tv ps names (fun k=>k<wx.heap.size) 1002 (.sim x ag) (eC (aX ps names x).1 (aX ps names x).2 (.slice none 0 0)++ys) pv wx (by omega) (by omega) (aQ jD fe) ⟨ys,rfl,ER.later fe AE⟩
     have HKE:Hid (((K+1:Nat):Int)=(K:Int)+1):=by show _=_;omega
     rw [HKE.out] at En;obtain ⟨po,pcap,rfl⟩:=aU jD;have adg:Hid _:=ki;have HL:Hid _:=hl;generalize gx (aX ps names) done k=O at*;generalize dC (aX ps names) done k=RR at*;generalize (gx (aX ps names) (.sim x ag) (K+1)::dC (aX ps names) (.sim x ag) (K+1))=M at*;clear fH ij ki AE qW jD Jd MN Uw ja;have agH:M.length<=1002:=by have:=zu.out;omega
     have Vb:0<M.length:=by have:=zu.out;omega
     go_wp2_with (at_builtin;go_must (refine wpList_append_lies _ rfl _ _ _ rfl w.heap.size 99 i _ 2 16 Tryz.underlying100 hi fp dQ eF rfl (by omega) (.slice oo O.length ocap) O.length (acs O) rfl ?mS _ 1 _ [.int .i64 5,.int .i64 K] rfl rfl ?kD ?Hs (by omega) ?tM ?jd ?kJ _ rfl ?_))
     case mS=>exact j9.orow.alloc _
     case kD=>exact World.news_of_block (az wr _)
     case Hs=>simp [Value.oneCell']
     case tM=>unfold maxLen;omega
     case jd=>omega
     case kJ=>simp;omega
     intro g cap2 w2 b7 cx gi cV;have P7:=LR.pushO (a:=(5,(K:Int))) (j9.old ((ai _ _).alloc (ah _) _)) b7 cx gi (by simp);clear b7 cx gi;have bX:=P7.bel;have c2:=aH (aQ HL.out bX) _ _ Xa.out;clear c0;go_wp2_with fail
     refine (show Calls _ _ _ _ _ from En.out w2 bX).mono ?_
     rintro e w3 ⟨mv,rfl,df,us,Ci,Au⟩
     clear En c2;obtain ⟨mg,mc,rfl,hmg,Ve⟩:=Ci.form (by omega);have P6:=P7.old df;have Ut:us.length=M.length:=by have:=Ci.1;simpa using this
     have tH:=P6.bel;go_wp2_with (at_builtin;go_must (refine wpList_append_lies _ rfl _ _ _ rfl w.heap.size 100 i2 _ 1 24 Tryz.underlying56 lj I4 Ca B9 rfl (by omega) (.slice ro RR.length rcap) RR.length vs rfl ?mR _ M.length _ us rfl ?hlB ?kC ?Hr (by omega) ?tL ?jc ?kI _ rfl ?_))
     case mR=>exact P6.rrow
     case hlB=>rw [Ut,iW]
     case kC=>exact fun j u hu=>Ci.cells (g:=mg) rfl j u hu
     case Hr=>exact gn.one Au Ut
     case tL=>unfold maxLen;omega
     case jc=>omega
     case kI=>exact tH.size
     intro g4 cap4 w4 jy ga yN yy;have li:=LR.pushR P6 (W0:=w2.heap.size) (fun k hk=>(P7.orow.lt k hk).2) Au (by exact bX.size) (fun e=>by rw [e] at Vb;simp at Vb) jy ga;clear jy ga yN Au Ci;have dU:=li.bel;have c4:=aH (aQ HL.out dU) _ _ Xa.out;go_wp2_with fail
     refine (show Calls _ _ _ _ _ from YR.out w4 dU).mono ?_
     rintro e w5 ⟨rfl,rfl⟩
     rw [show unT (.sim x ag)=unT ag from rfl];clear YR c4;go_wp2_with fail
     go_roundw
     case rel=>exact ⟨done.app (.par o x c ag .nil),r,m+1,_,r',vs++us,oX,by go_num,fE,congrArg (Value.int .i64) (by rw [xz.out];have:=HK.out;omega),gp,vH,adg.out,by rw [t7.out,gT.out];exact li⟩
     case measure=>simp [intOf];omega
theorem Y4 (s:ByteArray) (ds:List Df) (w:World) (k9:s.size<=1000) (hp:Prog (ci s 0) ds) (oG:ds.length<=1000) (Kj:Bg ds) (AJ:∀d∈ds,DfOk d):
 Calls Tryz.prog 113 #[.string s] w fun e w'=>∃fv,e=.returned (.agg #[.int .i64 (dL ds).mn,fv])/\Below w.heap.size w w'/\dS w' w'.heap.size fv (dL ds).fs:=by
 have HP:Hid _:=wa s ds (w.alloc (Obj.cells #[.int .i64 0,.slice none 0 0] 63)) k9 hp;have HSC:Hid _:=Kj;have NG:Hid _:=AJ;clear Kj AJ hp;obtain ⟨i,hi,fp,dQ,eF⟩:=bE Tryz.infoTemplate;go_enter Tryz.func113,Tryz.ntmps113
 go_wp2_with fail
 refine (show Calls _ _ _ _ _ from HP.out).mono ?_
 rintro e w1 ⟨v,mm,rfl,bB,yw,xs,bW,kG⟩
 clear HP;have Xp:Hid (mm=(dL ds).mn):=yw;clear yw;have DE:=dx bB;have eQ:Below w.heap.size w w1:=((ai _ _).alloc (ah _) _).trans (bB.mono (by simp));have ZF:w.heap.size<w1.heap.size:=(ae.1 DE).1;clear bB;obtain ⟨lo,lcap,rfl⟩:=aU bW;go_wp2_with fail
 go_loopw [6] (fun a wr=>∃(k T:Nat) (fv:Value) (ys:List Value),k<=ds.length/\a=.int .i64 k/\Below w1.heap.size w1 wr/\wr.heap[w1.heap.size]?=some (.cells #[.int .i64 mm,fv] 63 (0,0))/\w1.heap.size<T/\T<=wr.heap.size/\wr.ownsRow (w1.heap.size+1) 79 2 fv k ys/\iy wr T ((ds.take k).map (CU ds)) ys) (fun a _=>ds.length-(intOf a).toNat)
 case atStart=>exact ⟨0,w1.heap.size+1,.slice none 0 0,[],aF _,rfl,(ai _ _).alloc (ah _) _,az w1 _,by omega,by simp,aM _ _ _ _,rfl⟩
 case round=>
  obtain ⟨k,T,fv,ys,hk,rfl,hb,ef,jN,Ky,mo,pN⟩:=hrel;have dk:=hb.size;have fG:w1.heap.size<wr.heap.size:=by omega
  have C0:=al wr w1.heap.size 0 _ _ _ ef;have C1:=al wr w1.heap.size 1 _ _ _ ef;simp only [ax,ap,aq] at C0 C1;obtain ⟨fo,fcap,rfl⟩:=aU mo;by_cases bF:k<ds.length
  ·obtain ⟨qd,cd,Gw,_,agl⟩:=bW.form (by omega);cases Gw
   have xu:=aE bF;obtain ⟨_,_,_,oD,ur⟩:=NG.out ds[k] xu;have s9:=aQ bW hb;obtain ⟨psv,bv,t0,t1,t2,qI⟩:=(kG.keep hb).at k bF;have d2:=aH s9 _ _ t2;obtain ⟨jD,Gz,⟨mz,a0,zs,fN,wF,zp,QJ,nX⟩,iB⟩:=qI;have jM:Hid _:=HSC.out ds[k] xu mz a0 fN wF zp;have hba:a0.toks.length<1001:=by have h1:=congrArg List.length fN;simp at h1;omega
   have HC:Hid _:=TF ds[k].ps (ds.map (·.name)) 1002 (.sim mz a0) zs bv 0 wr (by simp [At.toks];omega) (by omega) (by simp [At.toks];omega) QJ (ER.keep (fun k _=>rfl) (fun k hk=>by omega) nX);rw [jM.out] at HC;have YA:Hid _:=t1;have HMP:Hid _:=r8 (CU ds) ds k bF;have p8:Hid (CU ds ds[k]=⟨ds[k].ps.length,uy ds[k].ps ds ds[k].body⟩):=rfl;obtain ⟨po,pcap,rfl⟩:=aU jD;obtain ⟨bo,bcap,rfl⟩:=aU QJ;generalize uy ds[k].ps ds ds[k].body=CL at*;clear t0 t1 t2 s9 fN nX QJ jD;go_wp2_with fail
   refine (show Calls _ _ _ _ _ from HC.out).mono ?_
   rintro e w3 ⟨lv3,rfl,df,Vp⟩
   clear HC d2 C0 C1;have Ez:=Vp.ow;obtain ⟨lo3,lc3,tm⟩:∃a b,lv3=.slice a CL.length b:=by obtain ⟨vs,h1,_⟩:=Ez;obtain ⟨a,b,e⟩:=aU h1;exact ⟨a,b,e⟩
   subst tm;have kX:Below w1.heap.size w1 w3:=hb.trans (df.mono dk);have jY:=(df.block w1.heap.size fG).trans ef;have C1:=al w3 w1.heap.size 1 _ _ _ jY;simp only [ax,ap,aq] at C1;have d1:=aH (aQ bW kX) _ _ YA.out;have Qq:=aQ mo df;have GX:=(pN.keep (df.mono Ky)).up (aJ Ky df.size);have aaU:=df.size;have kB:w1.heap.size<w3.heap.size:=by omega
   have Sl:qd<w3.heap.size:=by omega
   have sw:Hid ((w3.alloc (Obj.cells #[.int .i64 ds[k].ps.length,.slice lo3 CL.length lc3] 79)).drew.ownsRow (w1.heap.size+1) 79 2 (.slice fo k fcap) k ys):=World.ownsRow.drew (Qq.alloc (Obj.cells #[.int .i64 ds[k].ps.length,.slice lo3 CL.length lc3] 79));have LZ:Hid ((w3.alloc (Obj.cells #[.int .i64 ds[k].ps.length,.slice lo3 CL.length lc3] 79)).drew.heap[w1.heap.size]?=some (.cells #[.int .i64 mm,.slice fo k fcap] 63 (0,0))):=by
    show (w3.alloc _).heap[w1.heap.size]?=_
    exact (aO w3 _ _ (by omega)).trans jY
   have HQ3:Hid (iy (w3.alloc (Obj.cells #[.int .i64 ds[k].ps.length,.slice lo3 CL.length lc3] 79)).drew w3.heap.size ((ds.take (k+1)).map (CU ds)) (ys++[.int .i64 ds[k].ps.length,.slice lo3 CL.length lc3])):=by
    show iy _ _ _ _
    rw [HMP.out,p8.out];exact ((iy.snoc (t:=⟨ds[k].ps.length,CL⟩) Ez GX).keep ((ai _ _).alloc (ah _) _)).keep (aR (ai _ _))
   have HQ4:Hid (Below w1.heap.size w1 (w3.alloc (Obj.cells #[.int .i64 ds[k].ps.length,.slice lo3 CL.length lc3] 79)).drew):=aR (kX.alloc (by omega) _);clear Ez Vp;go_wp2_with fail
   go_region_law ((refine step_append_lies _ (by rfl) _ _ _ (by rfl) (w1.heap.size+1) 79 i _ 2 32 Tryz.underlying61 hi fp dQ eF rfl (by omega) (.slice fo k fcap) k ys (by rfl) (by exact sw.out) _ 1 _ [.int .i64 ds[k].ps.length,.slice lo3 CL.length lc3] (by rfl) rfl (by exact World.news_of_block (az w3 _)) (by simp [Value.oneCell']) (by omega) (by unfold maxLen;omega) (by omega) (by simp;omega) _ rfl ?_;intro g cap2 w4 jy ga yN yy;have zd:Hid _:=br sw.out ga (by decide) LZ.out;have lO:Hid _:=iy.type sw.out ga HQ3.out;have ni:Hid _:=HQ4.out.grown ga (by simp [heap_drew];omega) (fun k hk=>by have:=(World.ownsRow.lt sw.out k hk).1;omega);have HO4:Hid _:=jy;have E1:=al w4 w1.heap.size 1 _ _ _ zd.out;simp only [ax,ap,aq] at E1;have f1:=aG w4 w1.heap.size 1 _ _ zd.out;have Ke:=ga.size;simp only [cD,bT] at Ke;clear jy ga yN yy))
   all_goals
    go_wp2_with fail
    go_roundw
    case rel=>exact ⟨k+1,w3.heap.size,_,_,bF,by go_num,ni.out.setCell (by exact ah _) _,bk _ zd.out,by omega,by simp [World.setCell];omega,aB HO4.out zd.out (by decide),iy.set zd.out lO.out⟩
    case measure=>simp [intOf];omega
  ·have eh:k=ds.length:=by omega
   subst eh;rw [bA] at pN;have ux:=(hb.block w.heap.size ZF).trans DE;have R0:=al wr w.heap.size 0 _ _ _ ux;have R1:=al wr w.heap.size 1 _ _ _ ux;simp only [ax,ap,aq] at R0 R1;have f0:=aG wr w.heap.size 0 _ _ ux;have f1:=aG wr w.heap.size 1 _ _ ux;have q0:(wr.setCell ⟨w.heap.size,0,none⟩ (.int .i64 mm)).cell? ⟨w.heap.size,0,none⟩=some (.int .i64 mm):=by rw [al _ _ _ _ _ _ (bk _ ux)];rfl
   have q1:((wr.setCell ⟨w.heap.size,0,none⟩ (.int .i64 mm)).setCell ⟨w.heap.size,1,none⟩ (.slice fo ds.length fcap)).cell? ⟨w.heap.size,1,none⟩=some (.slice fo ds.length fcap):=by rw [al _ _ _ _ _ _ (bk _ (bk _ ux))];rfl
   have dI:w1.heap.size≠w.heap.size:=by omega
   go_wp2_with fail
   refine aS (v:=.agg #[.int .i64 mm,.slice fo ds.length fcap]) (by simp [results,Tryz.results113,go_sem,q0,q1]) rfl ⟨_,by rw [Xp.out],?_,?_⟩
   ·exact (((eQ.trans (hb.mono eQ.size)).setCell (by exact ah _) _).setCell (by exact ah _) _)
   ·refine iy.rd ?_ ?_ (iy.up ?_ (iy.set (bk _ ux) (iy.set ux pN)))
    ·simp only [dL,bK];exact aB (aB (bO mo (aF _)) ux (by decide)) (bk _ ux) (by decide)
    ·intro k hk;have:=(mo.lt k hk).2;simpa [World.setCell] using this
    ·simpa [World.setCell] using Ky
theorem JK (s:ByteArray) (w:World) (hs:s.size<=maxLen) (DC:(chk s).2=0->s.size<=1000/\Prog (ci s 0) (eT (ci s 0)).ds/\(eT (ci s 0)).ds.length<=1000/\Bg (eT (ci s 0)).ds/\∀d∈(eT (ci s 0)).ds,DfOk d):
 Calls Tryz.prog 68 #[.string s] w fun e w'=>∃x:ByteArray,e=.returned (.tuple #[.string x,.int .i64 (xy s)])/\x.data.toList=y8 s/\x.size<=20000/\Below w.heap.size w w':=by
 by_cases h0:(chk s).2=0
 ·obtain ⟨k9,UT,oG,Kj,AJ⟩:=DC h0;have HE:Hid (xy s=wrE (dL (eT (ci s 0)).ds)):=by show _=_;unfold xy;rw [aA h0]
  have HL:Hid (y8 s=wrL (dL (eT (ci s 0)).ds)):=by show _=_;unfold y8;rw [aA h0]
  rw [HE.out,HL.out];clear DC HE HL;have XQ:Hid _:=fun w=>Y4 s (eT (ci s 0)).ds w k9 UT oG Kj AJ
  clear UT oG Kj AJ;generalize dL (eT (ci s 0)).ds=CO at*;go_enter Tryz.func68,Tryz.ntmps68
  go_wp2_with fail
  refine (qR s _ hs).mono ?_
  rintro e w1 ⟨rfl,bB⟩
  rw [h0];go_wp2_with fail
  refine (show Calls _ _ _ _ _ from XQ.out _).mono ?_
  rintro e w2 ⟨fv,rfl,bX,mo⟩
  clear XQ;have ik:=bB.trans (bX.mono bB.size);have HW:Hid _:=Mj CO fv w2.heap.size (w2.alloc (Obj.cells #[.int .i64 CO.mn,fv] 63)) (by simp) (mo.keep ((ai _ _).alloc (ah _) _));obtain ⟨fo,fcap,rfl,_,_,_⟩:=mo;go_wp2_with fail
  refine (show Calls _ _ _ _ _ from HW.out).mono ?_
  rintro e w3 ⟨x,rfl,hx,kA,df⟩
  go_wp2_with fail
  go_ret2
  exact ⟨x,rfl,hx,kA,ik.trans ((((ai _ _).alloc (ah _) _).trans (df.mono (by simp))).mono ik.size)⟩
 ·have vq:((chk s).2==0)=false:=by simpa using h0
  have HE:Hid (xy s=(chk s).2):=by show _=_;unfold xy;rw [ay h0]
  have HS:Hid (y8 s=[]):=by show _=_;unfold y8;rw [ay h0]
  rw [HE.out];go_enter Tryz.func68,Tryz.ntmps68
  go_wp2_with fail
  refine (qR s _ hs).mono ?_
  rintro e w1 ⟨rfl,bB⟩
  go_wp2_with fail
  go_ret2
  exact ⟨_,rfl,HS.out.symm,by decide,bB⟩
end Go.Proofs.YtnndoagpbcacdabGreatDoor
