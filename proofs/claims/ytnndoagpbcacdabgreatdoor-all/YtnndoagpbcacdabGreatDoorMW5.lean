import Derived.Test.YtnndoagpbcacdabGreatDoorMW1
import Derived.Test.YtnndoagpbcacdabGreatDoorItoa
import Derived.Deep.DeepCutAuto
import Derived.WalkSmall
import Derived.Test.YtnndoagpbcacdabGreatDoorMAl
import Derived.Test.YtnndoagpbcacdabGreatDoorMA9
namespace Go.Proofs.YtnndoagpbcacdabGreatDoor
set_option maxHeartbeats 8000000
set_option maxRecDepth 100000
open Go.RowKit
def Tab (w:World):Prop:=Lib.TabIs Tryz.prog w (Rows.onceRow.named.headD default) .u64 Lib.pow10Tab
theorem BP:Tryz.prog.globalNamed (Rows.onceRow.named.headD default)=some 0:=by kernel_rfl
theorem Tab.below {w w':World} (h:Tab w) (hb:Below w.heap.size w w'):Tab w':=by
 unfold Tab Lib.TabIs World.var? at h ⊢;rw [BP] at h ⊢;simp only [Option.bind_some] at h ⊢;have bF:0<w.heap.size:=by
  rcases Nat.lt_or_ge 0 w.heap.size with h'|h'
  ·exact h'
  ·rw [Array.getElem?_eq_none h'] at h;cases h
 rw [hb.block 0 bF];exact h
theorem Tab.alloc {w:World} (h:Tab w) (o:Obj):Tab (w.alloc o):=h.below ((ai _ _).alloc (ah _) _)
theorem Tab.drew {w:World} (h:Tab w):Tab w.drew:=h.below (aR (ai _ _))
theorem Bb (w:World) (k:Nat) (os:Array Obj):Below w.heap.size w (Sort.grow (w.drewN k) os):=by
 have e:(w.drewN k).heap=w.heap:=rfl;refine (bY (ai _ _) k).trans ⟨rfl,rfl,rfl,by simp [Sort.grow],fun b hb=>?_⟩
 simp only [Sort.grow];rw [Array.getElem?_append_left (by rw [e];exact hb)]
theorem Lo (n:Nat):Lib.decDigits n=iY n:=by
 fun_induction iY n with
 |case1 n h=>rw [Lib.decDigits,mf h]
 |case2 n h ih=>rw [Lib.decDigits,dif_neg h,ih]
theorem On (n:Int) (w:World) (h0:0<=n) (h1:n<=1000000) (ht:Tab w):
 Calls Tryz.prog 88 #[.int .i64 n] w fun e w'=>∃x:ByteArray,e=.returned (.string x)/\x.data.toList=iY n.toNat/\Below w.heap.size w w':=by
 refine (show Calls Tryz.prog 88 #[.int .i64 n] w _ from Any.strconv_Itoa Tryz.laysM171 n (by omega) (by omega) w ht).mono ?_
 rintro e w1 ⟨rfl,k,os,rfl⟩
 refine ⟨_,rfl,?_,Bb w k os⟩
 simp only [Lib.itoa];rw [ay (by omega),Lo]
def hdL (c:UInt8) (a b:Nat):List UInt8:=c::32::(iY a++32::(iY b++[10]))
theorem uO (c:UInt8) (a b:Int) (w:World) (a0:0<=a) (a1:a<=999999) (b0:0<=b) (b1:b<=999999) (ht:Tab w):
 Calls Tryz.prog 53 #[.string ⟨#[c]⟩,.int .i64 a,.int .i64 b] w fun e w'=>∃x:ByteArray,e=.returned (.string x)/\x.data.toList=hdL c a.toNat b.toNat/\Below w.heap.size w w':=by
 have HA:Hid _:=On a w a0 (by omega) ht;have HB:Hid _:=fun w' (h:Below w.heap.size w w')=>On b w' b0 (by omega) (ht.below h)
 have YJ:Hid _:=gC a.toNat (by omega);have Xt:Hid _:=gC b.toNat (by omega);go_enter Tryz.func53,Tryz.ntmps53
 go_wp2_with fail
 refine (show Calls _ _ _ _ _ from HA.out).mono ?_
 rintro e w1 ⟨x,rfl,hx,bB⟩
 have kA:x.size<=6:=by rw [cg,hx];exact YJ.out
 have HX:Hid _:=hx;clear hx;go_wp2_with fail
 refine (show Calls _ _ _ _ _ from HB.out w1 bB).mono ?_
 rintro e w2 ⟨y,rfl,hy,bX⟩
 have mj:y.size<=6:=by rw [cg,hy];exact Xt.out
 have HY:Hid _:=hy;clear hy;go_wp2_with fail
 go_ret
 refine ⟨_,rfl,?_,bB.trans (bX.mono bB.size)⟩
 simp only [cK];rw [HX.out,HY.out];simp [hdL]
theorem FQ (k:Int) (w:World) (h1:1<=k) (h5:k<=5):
 Calls Tryz.prog 131 #[.int .i64 k] w fun e w'=>e=.returned (.string ⟨#[Ep k]⟩)/\w'=w:=by
 have:k=1\/k=2\/k=3\/k=4\/k=5:=by omega
 rcases this with rfl|rfl|rfl|rfl|rfl
 all_goals
  go_enter Tryz.func131,Tryz.ntmps131
  go_wp2_with fail
  go_ret
  exact ⟨rfl,rfl⟩
theorem zT (l:Ln) (v:Value) (T:Nat) (w:World) (hl:l.length<=1000) (ew:∀a∈l,LJ a) (hT:T<=w.heap.size) (hv:eL w T v l) (ht:Tab w):
 Calls Tryz.prog 89 #[v] w fun e w'=>∃x:ByteArray,e=.returned (.string x)/\x.data.toList=lnL l++[10]/\Below w.heap.size w w':=by
 obtain ⟨ad,cap,rfl,lk,kT,jA⟩:=hv;have Ei:Hid _:=ew;have HT:Hid (Tab w):=ht;clear ew ht;go_enter Tryz.func89,Tryz.ntmps89
 go_wp2_with fail
 go_loopw [3,8] (fun x y wr=>∃(k:Nat) (sx:ByteArray),k<=l.length/\y=.int .i64 k/\x=.string sx/\Hid (sx.data.toList=((l.take k).flatMap atL).drop 1)/\sx.size<=8*k/\Below w.heap.size w wr) (fun _ y _=>l.length-(intOf y).toNat)
 case atStart=>exact ⟨0,_,aF _,rfl,rfl,by simp [Hid],ah _,ai _ _⟩
 case round=>
  obtain ⟨k,sx,hk,rfl,rfl,oO,Sj,hb⟩:=hrel;have dk:=hb.size;by_cases bF:k<l.length
  ·rcases jA with h0|⟨b,off,rfl,gZ,cJ⟩
   ·omega
   obtain ⟨c0,c1⟩:=cJ k bF;rw [<-hb.cell (p:=⟨b,off+k*2,none⟩) (show b<_ by omega)] at c0;rw [<-hb.cell (p:=⟨b,off+k*2+1,none⟩) (show b<_ by omega)] at c1;obtain ⟨o1,o2,o3,o4⟩:=Ei.out l[k] (aE bF);have HA:Hid (((l.take (k+1)).flatMap atL)=(l.take k).flatMap atL++(32::Ep l[k].1::iY l[k].2.toNat)):=F4 l k bF;generalize hp:l[k]=p at*;clear hp;obtain ⟨pk,pn⟩:=p;simp only at o1 o2 o3 o4 c0 c1;have HD:Hid _:=gC pn.toNat (by omega);have HL:Hid _:=fun w=>FQ pk w o1 o2
   have HI:Hid (Calls Tryz.prog 88 #[.int .i64 pn] (wr.alloc (Obj.cells #[.int .i64 pk,.int .i64 pn] 99)).drew fun e w1=>∃y:ByteArray,e=.returned (.string y)/\w1.cell? ⟨wr.heap.size,0,none⟩=some (.int .i64 pk)/\y.size<=6/\Hid (y.data.toList=iY pn.toNat/\Below w.heap.size w w1)):=by
    refine (On pn _ o3 (by omega) (((Tab.below HT.out hb).alloc _).drew)).mono ?_
    rintro e w1 ⟨y,rfl,hy,bB⟩
    refine ⟨y,rfl,?_,by rw [cg,hy];exact HD.out,hy,(aR (hb.alloc hb.size _)).trans (bB.mono (by simp [heap_drew];omega))⟩
    rw [al w1 wr.heap.size 0 _ _ _ (ng bB)];rfl
   clear cJ o1 o2 o3 o4;by_cases lX:(0:Int)<(k:Int)
   ·go_wp2_with fail
    go_region_with (first
     |(go_at_call 131;go_must (refine (show Calls _ _ _ _ _ from HL.out _).mono ?_);rintro e w1 ⟨rfl,rfl⟩)
     |(go_at_call 88;go_must (refine (show Calls _ _ _ _ _ from HI.out).mono ?_);rintro e w1 ⟨y,rfl,y0,mj,W9⟩))
    all_goals
     go_wp2_with fail
     go_roundw
     case rel=>
      refine ⟨k+1,_,bF,by go_num,rfl,?_,?_,W9.out.2⟩
      ·show _=_
       simp only [cK];rw [W9.out.1,oO.out,HA.out,Fd _ _ (TY l k (by omega) (by omega))];simp
      ·simp only [bw];simp only [ByteArray.size];simp;have:sx.data.size=sx.size:=rfl;have:y.data.size=y.size:=rfl;omega
     case measure=>simp [intOf];omega
   ·go_wp2_with fail
    go_region_with (first
     |(go_at_call 131;go_must (refine (show Calls _ _ _ _ _ from HL.out _).mono ?_);rintro e w1 ⟨rfl,rfl⟩)
     |(go_at_call 88;go_must (refine (show Calls _ _ _ _ _ from HI.out).mono ?_);rintro e w1 ⟨y,rfl,y0,mj,W9⟩))
    all_goals
     go_wp2_with fail
     go_roundw
     case rel=>
      refine ⟨k+1,_,bF,by go_num,rfl,?_,?_,W9.out.2⟩
      ·show _=_
       simp only [cK];have qi:k=0:=by omega
       rw [W9.out.1,oO.out,HA.out,qi];simp
      ·simp only [bw];simp only [ByteArray.size];simp;have:sx.data.size=sx.size:=rfl;have:y.data.size=y.size:=rfl;omega
     case measure=>simp [intOf];omega
  ·have eh:k=l.length:=by omega
   subst eh;rw [bA] at oO;go_wp2_with fail
   go_ret
   refine ⟨_,rfl,?_,hb⟩
   simp only [cK];rw [oO.out];rfl
def lnT (l:Ln):List UInt8:=lnL l++[10]
def tpL (t:Tp):List UInt8:=hdL 70 t.ar.toNat (t.ls.length-1)++t.ls.flatMap lnT
def cdL (c:Cd):List UInt8:=hdL 77 c.mn.toNat c.fs.length++c.fs.flatMap tpL
def X1 (l:Ln):Prop:=l.length<=8/\∀a∈l,LJ a
def Sf (t:Tp):Prop:=0<=t.ar/\t.ar<=6/\1<=t.ls.length/\t.ls.length<=13/\∀l∈t.ls,X1 l
theorem z9 {l:Ln} (h:X1 l):(lnT l).length<=65:=by
 have:=Lf l h.2;have:=h.1;simp only [lnT,lnL,au,cI,aD,bp];omega
theorem AK (c:UInt8) (a b:Nat) (ha:a<=999999) (hb:b<=999999):(hdL c a b).length<=16:=by
 have:=gC a ha;have:=gC b hb;simp [hdL];omega
theorem A1 {α:Type} (f:α->List UInt8) (m:Nat) (l:List α) (h:∀a∈l,(f a).length<=m):(l.flatMap f).length<=l.length*m:=by
 induction l with
 |nil=>simp
 |cons a l ih=>
  have h1:=h a (by simp);have h2:=ih (fun x hx=>h x (by simp [hx]));rw [dy,au,aD,Nat.succ_mul];omega
theorem NW {t:Tp} (h:Sf t):(tpL t).length<=861:=by
 obtain ⟨h1,h2,h3,h4,h5⟩:=h;have e1:=AK 70 t.ar.toNat (t.ls.length-1) (by omega) (by omega);have e2:=A1 lnT 65 t.ls (fun a ha=>z9 (h5 a ha));unfold tpL;rw [au];have:t.ls.length*65<=13*65:=dq _ h4;omega
theorem pT {α:Type} (f:α->List UInt8) (l:List α) (k:Nat) (h:k<l.length):(l.take (k+1)).flatMap f=(l.take k).flatMap f++f l[k]:=by
 rw [aT h,List.flatMap_append];simp
theorem La {nf:Nat} {ar:Int} {nl j:Nat} {a:Int×Int} (h:g7 nf ar nl j a=true) (hn:nf<=16) (ha:ar<=6) (hl:nl<=13):LJ a:=by
 simp only [g7,aN,aL] at h;obtain ⟨h1,h2,_⟩:=h;unfold j0 at h2;unfold LJ;split at h2
 ·omega
 split at h2
 ·omega
 split at h2
 ·omega
 split at h2
 ·omega
 split at h2
 ·omega
 omega
theorem K8 {nf:Nat} {ar:Int} {nl j:Nat} {l:Ln} (h:fy nf ar nl j l=true) (hn:nf<=16) (ha:ar<=6) (hl:nl<=13):X1 l:=by
 simp only [fy,aN,aL,b8] at h;exact ⟨h.1,fun a hx=>La (h.2.2.2.2 a hx) hn ha hl⟩
theorem qJ {nf:Nat} {ar:Int} {nl:Nat}:∀{L:List Ln} {j:Nat},dM nf ar nl j L=true->∀l∈L,∃i,fy nf ar nl i l=true
 |[],_,_,l,hl=>by simp at hl
 |x::r,j,h,l,hl=>by
  rw [dM,aN] at h;rcases aK.1 hl with rfl|hl
  ·exact ⟨j,h.1⟩
  ·exact qJ h.2 l hl
theorem K7 {nf:Nat} {t:Tp} (h:kl nf t=true) (hn:nf<=16):Sf t:=by
 simp only [kl,aN,aL] at h;obtain ⟨h1,h2,h3,h4,h5⟩:=h;refine ⟨h1,h2,h3,h4,fun l hl=>?_⟩
 obtain ⟨i,hi⟩:=qJ h5 l hl;exact K8 hi hn h2 h4
theorem uj (t:Tp) (lv:Value) (T:Nat) (w:World) (ew:Sf t) (hT:T<=w.heap.size) (hv:gd w T lv t.ls) (ht:Tab w):
 Calls Tryz.prog 54 #[.agg #[.int .i64 t.ar,lv]] w fun e w'=>∃x:ByteArray,e=.returned (.string x)/\x.data.toList=tpL t/\Below w.heap.size w w':=by
 obtain ⟨ar,ls⟩:=t;obtain ⟨lo,lcap,mx,lk,kT,jA⟩:=hv;obtain ⟨k1,k2,k3,k4,k5⟩:=ew;simp only at*;subst mx;unfold maxLen at kT;have HT:Hid (Tab w):=ht;have HK:Hid _:=k5;clear ht k5;have HP:Hid _:=uO 70 ar ((ls.length:Int)-1) (w.alloc (Obj.cells #[.int .i64 ar,.slice lo ls.length lcap] 79)) k1 (by omega) (by omega) (by omega) (Tab.alloc HT.out _);have i5:Hid _:=AK 70 ar.toNat ((ls.length:Int)-1).toNat (by omega) (by omega);have HE:Hid (((ls.length:Int)-1).toNat=ls.length-1):=by show _=_;omega
 go_enter Tryz.func54,Tryz.ntmps54
 go_wp2_with fail
 refine (show Calls _ _ _ _ _ from HP.out).mono ?_
 rintro e w1 ⟨x,rfl,hx,bB⟩
 clear HP;have kA:x.size<=16:=by rw [cg,hx];exact i5.out
 rw [HE.out] at hx;have HX:Hid _:=hx;clear hx i5 HE;have fe:=dx bB;have kH:Below w.heap.size w w1:=((ai _ _).alloc (ah _) _).trans (bB.mono (by simp));have B1:=al w1 w.heap.size 1 _ _ _ fe;simp only [ax,ap,aq] at B1;go_wp2_with fail
 go_loopw [3,17] (fun x y wr=>∃(k:Nat) (sx:ByteArray),k<=ls.length/\y=.int .i64 k/\x=.string sx/\Hid (sx.data.toList=hdL 70 ar.toNat (ls.length-1)++(ls.take k).flatMap lnT)/\sx.size<=16+65*k/\Below w.heap.size w wr) (fun _ y _=>ls.length-(intOf y).toNat)
 case atStart=>exact ⟨0,x,aF _,rfl,rfl,by rw [du,List.flatMap_nil,cA];exact HX.out,by omega,kH⟩
 case round=>
  clear B1 fe kH bB;obtain ⟨k,sx,hk,rfl,rfl,oO,Sj,hb⟩:=hrel;have dk:=hb.size;by_cases bF:k<ls.length
  ·rcases jA with h0|⟨b,off,rfl,gZ,cJ⟩
   ·omega
   obtain ⟨lv,c0,dt⟩:=cJ k bF;rw [<-hb.cell (p:=⟨b,off+k,none⟩) (show b<_ by omega)] at c0;have Dr:=HK.out ls[k] (aE bF);have HA:Hid _:=pT lnT ls k bF;have HN:Hid _:=z9 Dr;have HC:Hid _:=zT ls[k] lv T wr (by have:=Dr.1;omega) Dr.2 (by omega) (dt.keep (hb.mono hT)) (Tab.below HT.out hb);have Hk:=dt;obtain ⟨la,lc,rfl,kV,gS,_⟩:=Hk;unfold maxLen at gS;clear cJ dt Dr;go_wp2_with fail
   refine (show Calls _ _ _ _ _ from HC.out).mono ?_
   rintro e w2 ⟨z,rfl,hz,bX⟩
   clear HC;have hzs:z.size<=65:=by rw [cg,hz];exact HN.out
   have HZ:Hid _:=hz;clear hz;go_wp2_with fail
   go_roundw
   case rel=>
    refine ⟨k+1,_,bF,by go_num,rfl,?_,by rw [bw];omega,hb.trans (bX.mono dk)⟩
    show _=_
    simp only [cK];rw [oO.out,HZ.out,HA.out,bI];rfl
   case measure=>simp [intOf];omega
  ·have eh:k=ls.length:=by omega
   subst eh;rw [bA] at oO;go_wp2_with fail
   go_ret
   exact ⟨sx,rfl,oO.out,hb⟩
def wrL (c:Cd):List UInt8:=if jK c then cdL c else []
def wrE (c:Cd):Int:=if jK c then 0 else 7
theorem wU {c:Cd} (h:jK c=true):1<=c.fs.length/\c.fs.length<=16/\0<=c.mn/\c.mn<c.fs.length/\∀t∈c.fs,Sf t:=by
 simp only [jK,aN,aL,b8] at h;obtain ⟨h1,h2,h3,h4,h5,_⟩:=h;exact ⟨h1,h2,h3,h4,fun t ht=>K7 (h5 t ht) h2⟩
theorem Mw (c:Cd) (fv:Value) (T:Nat) (w:World) (hT:T<=w.heap.size) (hf:dS w T fv c.fs) (ht:Tab w):
 Calls Tryz.prog 28 #[.agg #[.int .i64 c.mn,fv]] w fun e w'=>∃x:ByteArray,e=.returned (.tuple #[.string x,.int .i64 (wrE c)])/\x.data.toList=wrL c/\x.size<=20000/\Below w.heap.size w w':=by
 have HG:Hid _:=Oo c fv T (w.alloc (Obj.cells #[.int .i64 c.mn,fv] 63)) (by simp;omega) (hf.keep ((ai _ _).alloc hT _));have HT:Hid (Tab w):=ht;clear ht;cases hg:jK c
 ·have lN:Hid (wrE c=7):=by simp [Hid,wrE,hg]
  have gT:Hid (wrL c=[]):=by simp [Hid,wrL,hg]
  rw [lN.out];rw [hg] at HG;clear hg lN;obtain ⟨fo,fcap,wJ,lk,kT,jA⟩:=hf;subst wJ;unfold maxLen at kT;go_enter Tryz.func28,Tryz.ntmps28
  go_wp2_with fail
  refine (show Calls _ _ _ _ _ from HG.out).mono ?_
  rintro e w1 ⟨rfl,bB⟩
  go_wp2_with fail
  go_ret2
  exact ⟨_,rfl,gT.out.symm,by decide,((ai _ _).alloc (ah _) _).trans (bB.mono (by simp))⟩
 have lN:Hid (wrE c=0):=by simp [Hid,wrE,hg]
 have gT:Hid (wrL c=cdL c):=by simp [Hid,wrL,hg]
 rw [lN.out];rw [hg] at HG;obtain ⟨k1,k2,k3,k4,k5⟩:=wU hg;clear hg lN;obtain ⟨mn,fs⟩:=c;obtain ⟨fo,fcap,wJ,lk,kT,jA⟩:=hf;simp only at*;subst wJ;unfold maxLen at kT;have HK:Hid _:=k5;clear k5;have i5:Hid _:=AK 77 mn.toNat (fs.length:Int).toNat (by omega) (by omega);go_enter Tryz.func28,Tryz.ntmps28
 go_wp2_with fail
 refine (show Calls _ _ _ _ _ from HG.out).mono ?_
 rintro e w1 ⟨rfl,bB⟩
 clear HG;have fe:=dx bB;have kH:Below w.heap.size w w1:=((ai _ _).alloc (ah _) _).trans (bB.mono (by simp));have fG:w.heap.size<w1.heap.size:=(ae.1 fe).1;have HP:Hid _:=uO 77 mn fs.length w1 k3 (by omega) (by omega) (by omega) (Tab.below HT.out kH);have B0:=al w1 w.heap.size 0 _ _ _ fe;have B1:=al w1 w.heap.size 1 _ _ _ fe;simp only [ax,ap,aq] at B0 B1;go_wp2_with fail
 refine (show Calls _ _ _ _ _ from HP.out).mono ?_
 rintro e w2 ⟨x,rfl,hx,bX⟩
 clear HP B0 B1;have kA:x.size<=16:=by rw [cg,hx];exact i5.out
 rw [bC] at hx;have HX:Hid _:=hx;clear hx i5;have oH:=(bX.block w.heap.size fG).trans fe;have je:Below w.heap.size w w2:=kH.trans (bX.mono kH.size);have B1:=al w2 w.heap.size 1 _ _ _ oH;simp only [ax,ap,aq] at B1;go_wp2_with fail
 go_loopw [4,20] (fun x y wr=>∃(k:Nat) (sx:ByteArray),k<=fs.length/\y=.int .i64 k/\x=.string sx/\Hid (sx.data.toList=hdL 77 mn.toNat fs.length++(fs.take k).flatMap tpL)/\sx.size<=16+861*k/\Below w.heap.size w wr) (fun _ y _=>fs.length-(intOf y).toNat)
 case atStart=>exact ⟨0,x,aF _,rfl,rfl,by rw [du,List.flatMap_nil,cA];exact HX.out,by omega,je⟩
 case round=>
  clear B1 fe kH bB oH je bX fG HX kA;obtain ⟨k,sx,hk,rfl,rfl,oO,Sj,hb⟩:=hrel;have dk:=hb.size;by_cases bF:k<fs.length
  ·rcases jA with h0|⟨b,off,rfl,gZ,cJ⟩
   ·omega
   obtain ⟨lv,c0,c1,dt⟩:=cJ k bF;rw [<-hb.cell (p:=⟨b,off+k*2,none⟩) (show b<_ by omega)] at c0;rw [<-hb.cell (p:=⟨b,off+k*2+1,none⟩) (show b<_ by omega)] at c1;have Dr:=HK.out fs[k] (aE bF);have HA:Hid _:=pT tpL fs k bF;have HN:Hid _:=NW Dr;have HC:Hid _:=uj fs[k] lv T (wr.alloc (Obj.cells #[.int .i64 fs[k].ar,lv] 79)) Dr (by simp;omega) ((dt.keep (hb.mono hT)).keep ((ai _ _).alloc (by omega) _)) ((Tab.below HT.out hb).alloc _);have Hk:=dt;obtain ⟨la,lc,rfl,kV,gS,_⟩:=Hk;unfold maxLen at gS;clear cJ dt Dr;go_wp2_with fail
   refine (show Calls _ _ _ _ _ from HC.out).mono ?_
   rintro e w2 ⟨z,rfl,hz,bX⟩
   clear HC;have hzs:z.size<=861:=by rw [cg,hz];exact HN.out
   have HZ:Hid _:=hz;clear hz;go_wp2_with fail
   go_roundw
   case rel=>
    refine ⟨k+1,_,bF,by go_num,rfl,?_,by rw [bw];omega,(hb.alloc hb.size _).trans (bX.mono (by simp;omega))⟩
    show _=_
    simp only [cK];rw [oO.out,HZ.out,HA.out,bI]
   case measure=>simp [intOf];omega
  ·have eh:k=fs.length:=by omega
   subst eh;rw [bA] at oO;go_wp2_with fail
   go_ret2
   exact ⟨sx,rfl,oO.out.trans gT.out.symm,by omega,hb⟩
theorem eS (t:ByteArray) (c:UInt8) (h:bt t 0≠(c.toNat:Int)):(t.toList==[c])=false:=by
 rw [cE];intro e;apply h
 rw [bU] at e;unfold bt;rw [show t.data[0]?=t.data.toList[0]? by simp,e];rfl
theorem gl (t:ByteArray) (c:UInt8) (h1:t.size=1) (h:bt t 0=(c.toNat:Int)):(t.toList==[c])=true:=by
 rw [beq_iff_eq,bU];rw [cg] at h1;unfold bt at h;rw [show t.data[0]?=t.data.toList[0]? by simp] at h
 match hl:t.data.toList,h1 with
 |[b],_=>
  rw [hl] at h;simp at h;have:b=c:=dF.1 (by omega);rw [this]
def WT (t:ByteArray):Prop:=0<t.size/\t.size<=1000/\(isL (bt t 0)=false->isD (bt t 0)=false->t.size=1)
theorem uY (c:Int) (n:Nat):iL c n=6↔c=40:=by
 unfold iL isL isD;constructor
 ·intro h
  repeat (first|(split at h)|omega)
 ·rintro rfl;simp
theorem uX (c:Int) (n:Nat):iL c n=7↔c=41:=by
 unfold iL isL isD;constructor
 ·intro h
  repeat (first|(split at h)|omega)
 ·rintro rfl;simp
theorem vP {t:ByteArray} (h:WT t):(t.toList==[40])=decide (bf t=6):=by
 by_cases h4:bf t=6
 ·have hb:=(uY _ _).1 h4;rw [gl t 40 (h.2.2 (by rw [hb];decide) (by rw [hb];decide)) hb];simp [h4]
 ·rw [eS t 40 (fun e=>h4 ((uY _ _).2 e))];simp [h4]
theorem kv {t:ByteArray} (h:WT t):(t.toList==[41])=decide (bf t=7):=by
 by_cases h4:bf t=7
 ·have hb:=(uX _ _).1 h4;rw [gl t 41 (h.2.2 (by rw [hb];decide) (by rw [hb];decide)) hb];simp [h4]
 ·rw [eS t 41 (fun e=>h4 ((uX _ _).2 e))];simp [h4]
inductive Shp:List Tk->List Df->Prop
 |nil:Shp [] []
 |cons (n:Tk) (ps:List Tk) (e:Tk) (body:List Tk) (m:Tk) (r:List Tk) (ds:List Df)
  (hn:bf n.txt=1) (hp:∀p∈ps,bf p.txt=1) (he:bf e.txt=4) (hb:∀t∈body,bf t.txt≠4/\bf t.txt≠5) (hm:bf m.txt=5) (hr:Shp r ds):
  Shp (n::(ps++(e::(body++(m::r))))) (⟨n,ps,body⟩::ds)
theorem Rk (ds:List Df) (d:Df) (ps:List Tk) (hp:∀p∈ps,bf p.txt=1):ps.foldl iE ⟨ds,d,1⟩=⟨ds,{d with ps:=d.ps++ps},1⟩:=by
 induction ps generalizing d with
 |nil=>simp
 |cons p r ih=>
  have hk:=hp p (by simp);rw [dv,show iE ⟨ds,d,1⟩ p=⟨ds,{d with ps:=d.ps++[p]},1⟩ by simp [iE,hk],ih _ (fun q hq=>hp q (by simp [hq]))];simp
theorem H6 (ds:List Df) (d:Df) (body:List Tk) (hp:∀p∈body,bf p.txt≠4/\bf p.txt≠5):body.foldl iE ⟨ds,d,2⟩=⟨ds,{d with body:=d.body++body},2⟩:=by
 induction body generalizing d with
 |nil=>simp
 |cons p r ih=>
  have hk:=hp p (by simp);rw [dv,show iE ⟨ds,d,2⟩ p=⟨ds,{d with body:=d.body++[p]},2⟩ by simp [iE,hk.1,hk.2],ih _ (fun q hq=>hp q (by simp [hq]))];simp
theorem Ld {ts:List Tk} {ds:List Df} (h:Shp ts ds):∀acc:List Df,ts.foldl iE ⟨acc,df0,0⟩=⟨acc++ds,df0,0⟩:=by
 induction h with
 |nil=>intro acc;simp
 |cons n ps e body m r ds hn hp he hb hm hr ih=>
  intro acc;rw [dv,show iE ⟨acc,df0,0⟩ n=⟨acc,{df0 with name:=n},1⟩ by simp [iE,hn]];rw [fV,Rk _ _ _ hp,dv];rw [show ∀d:Df,iE ⟨acc,d,1⟩ e=⟨acc,d,2⟩ from fun d=>by simp [iE,he]];rw [fV,H6 _ _ _ hb,dv];rw [show ∀d:Df,iE ⟨acc,d,2⟩ m=⟨acc++[d],df0,0⟩ from fun d=>by simp [iE,hm]];rw [ih];simp [df0]
theorem ss {ts:List Tk} {ds:List Df} (h:Shp ts ds):(eT ts).ds=ds:=by
 unfold eT;rw [Ld h];simp
def RC (a:Int) (ts:List Tk):Prop:=
 (a=0/\∃ds,Shp ts ds)\/
 (a=1/\∃ps e body m r ds,ts=ps++(e::(body++(m::r)))/\(∀p∈ps,bf p.txt=1)/\bf e.txt=4/\(∀t∈body,bf t.txt≠4/\bf t.txt≠5)/\bf m.txt=5/\Shp r ds)\/
 ((a=2\/a=3)/\∃body m r ds,ts=body++(m::r)/\(∀t∈body,bf t.txt≠4/\bf t.txt≠5)/\bf m.txt=5/\Shp r ds)
theorem pB {a:Int} (ha:a=2\/a=3) {t:Tk} {r:List Tk} {a':Int} (ha':a'=2\/a'=3) (ht:bf t.txt≠4/\bf t.txt≠5) (h:RC a' r):RC a (t::r):=by
 rcases h with ⟨h0,_⟩|⟨h1,_⟩|⟨_,body,m,r',ds,rfl,hb,hm,hs⟩
 ·omega
 ·omega
 ·refine .inr (.inr ⟨ha,t::body,m,r',ds,rfl,?_,hm,hs⟩)
  intro x hx;rcases aK.1 hx with rfl|hx
  ·exact ht
  ·exact hb x hx
theorem yU (g:Gr):(cG g).2.aw=g.aw:=by
 unfold cG;split<;>(try split)<;>(try split)<;>rfl
theorem vw (g:Gr):(cG g).1=0\/(cG g).1=3:=by
 unfold cG;split<;>(try split)<;>(try split)<;>simp
theorem J3 (n:Nat) (ts:List Tk):∀g:Gr,(g.aw=0\/g.aw=1\/g.aw=2\/g.aw=3)->(jT n g ts).2=0->RC g.aw ts:=by
 induction ts with
 |nil=>
  intro g ha h;unfold jT at h;split at h
  ·simp at h
  ·rename_i hc;have h0:g.aw=0:=by
    by_cases h0:g.aw=0
    ·exact h0
    ·exact absurd (.inr h0) hc
   exact .inl ⟨h0,[],.nil⟩
 |cons t r ih=>
  intro g ha h;unfold jT at h;split at h
  case isFalse hc=>exact absurd h hc
  case isTrue he=>
   generalize hk:bf t.txt=k at*;rcases ha with ha|ha|ha|ha
   ·
    have e:cZ g k=dN g k:=by simp [cZ,ha]
    rw [e] at he h;unfold dN at he h;by_cases h1:k=1
    ·subst h1;by_cases hf:16<=g.fn
     ·simp [hf] at he
     ·simp only [ne_eq,not_true_eq_false,dc,hf] at h;have:=ih _ (.inr (.inl rfl)) h;rcases this with ⟨h0,_⟩|⟨_,ps,e,body,m,r',ds,rfl,hp,kW,hb,hm,hs⟩|⟨h0,_⟩
      ·simp at h0
      ·exact .inl ⟨ha,⟨t,ps,body⟩::ds,.cons t ps e body m r' ds hk hp kW hb hm hs⟩
      ·simp at h0
    ·simp [h1] at he
   ·have e:cZ g k=da g k:=by simp [cZ,ha]
    rw [e] at he h;unfold da at he h;by_cases h4:k=4
    ·subst h4;simp only [cQ] at h;have:=ih _ (.inr (.inr (.inl rfl))) h;rcases this with ⟨h0,_⟩|⟨h0,_⟩|⟨_,body,m,r',ds,rfl,hb,hm,hs⟩
     ·simp at h0
     ·simp at h0
     ·exact .inr (.inl ⟨ha,[],t,body,m,r',ds,rfl,by simp,hk,hb,hm,hs⟩)
    ·by_cases h1:k=1
     ·subst h1;by_cases hf:6<=g.pa
      ·simp [hf] at he
      ·simp only [show ¬((1:Int)=4) by decide,ne_eq,not_true_eq_false,dc,hf] at h;have:=ih {g with pa:=g.pa+1} (.inr (.inl ha)) h;rcases this with ⟨h0,_⟩|⟨_,ps,e,body,m,r',ds,rfl,hp,kW,hb,hm,hs⟩|⟨h0,_⟩
       ·have vq:g.aw=_:=h0;omega
       ·refine .inr (.inl ⟨ha,t::ps,e,body,m,r',ds,rfl,?_,kW,hb,hm,hs⟩)
        intro x hx;rcases aK.1 hx with rfl|hx
        ·exact hk
        ·exact hp x hx
       ·have vq:g.aw=2\/g.aw=3:=h0;omega
     ·simp [h4,h1] at he
   ·have e:cZ g k=mw g k:=by simp [cZ,ha]
    rw [e] at he h;unfold mw at he h;cases hs:fP k
    ·simp [hs] at he
    ·simp only [hs,cQ] at h;have wI:k≠4/\k≠5:=by simp [fP] at hs;omega
     exact pB (.inl ha) (.inr rfl) (by rw [hk];exact wI) (ih _ (.inr (.inr (.inr rfl))) h)
   ·have e:cZ g k=gq g k:=by simp [cZ,ha]
    rw [e] at he h;unfold gq at he h;by_cases h5:k=5
    ·subst h5;simp only [cQ] at he h;unfold iR at he h;by_cases hl:g.ar=[]
     ·simp only [hl,cQ] at h;have:=ih _ (.inl rfl) h;rcases this with ⟨_,ds,hs⟩|⟨h0,_⟩|⟨h0,_⟩
      ·exact .inr (.inr ⟨.inr ha,[],t,r,ds,rfl,by simp,hk,hs⟩)
      ·simp at h0
      ·simp at h0
     ·simp [hl] at he
    ·rw [ay h5] at he h;by_cases h7:k=7
     ·subst h7;simp only [cQ] at he h;unfold eG at he h;by_cases hl:g.ar=[]
      ·simp [hl] at he
      ·simp only [hl,dc] at h;exact pB (.inr ha) (.inr ha) (by rw [hk];decide) (ih {g with wi:=g.ar.getLast?.getD 0,ar:=g.ar.dropLast} (.inr (.inr (.inr ha))) h)
     ·rw [ay h7] at he h;by_cases h6:k=6
      ·subst h6;simp only [cQ] at he h;unfold iw at he h;rcases vw g with hc|hc
       ·rw [aA hc] at h;exact pB (.inr ha) (.inl rfl) (by rw [hk];decide) (ih _ (.inr (.inr (.inl rfl))) h)
       ·rw [ay (by rw [hc];decide),hc] at he;simp at he
      ·rw [ay h6] at he h;cases hs:fP k
       ·simp [hs] at he
       ·simp only [hs,cQ] at he h;have wI:k≠4/\k≠5:=by simp [fP] at hs;omega
        have Ym:(cG g).2.aw=3:=(yU g).trans ha;exact pB (.inr ha) (.inr Ym) (by rw [hk];exact wI) (ih _ (.inr (.inr (.inr Ym))) h)
theorem CX (n:Nat) (ts:List Tk) (h:(jT n g0 ts).2=0):∃ds,Shp ts ds/\(eT ts).ds=ds:=by
 rcases J3 n ts g0 (.inl rfl) h with ⟨_,ds,hs⟩|⟨h0,_⟩|⟨h0,_⟩
 ·exact ⟨ds,hs,ss hs⟩
 ·simp [g0] at h0
 ·simp [g0] at h0
theorem vC (s:ByteArray) (i j:Nat) (h:i<j) (hj:j<=s.size):bt (s.extract i j) 0=bt s i:=by
 have h1:0<(s.extract i j).size:=by rw [cR];omega
 rw [<-kO _ 0 h1,<-kO s i (by omega)];rw [ByteArray.getElem_extract];simp
theorem DT (s:ByteArray) (i:Nat) (h1:isL (bt s i)=false) (h2:isD (bt s i)=false):lM s i (i+1)=i+1:=by
 by_cases h:i+1<s.size
 ·exact pU s i (i+1) h (by simp [oL,h1,h2])
 ·exact sm s i (i+1) h
theorem vR (s:ByteArray) (hs:s.size<=1000) (i:Nat):∀t∈ci s i,WT t.txt:=by
 fun_induction ci s i with
 |case1 i h ih=>
  intro t ht;rcases be.1 ht with ht|ht
  ·split at ht
   ·simp at ht
   ·rename_i hb;simp only [aK,ck,dV] at ht;subst ht;have h1:=tP s i (i+1);have h2:=wY s i (i+1) (by omega);refine ⟨?_,?_,?_⟩
    ·show 0<(s.extract i _).size
     rw [cR];omega
    ·show (s.extract i _).size<=1000
     rw [cR];omega
    ·show isL (bt (s.extract i _) 0)=false->isD (bt (s.extract i _) 0)=false->(s.extract i _).size=1
     rw [vC s i _ (by omega) h2];intro e1 e2;rw [DT s i e1 e2,cR];omega
  ·exact ih t ht
 |case2 i h=>simp
theorem uV (c:Int) (n:Nat):iL c n=4↔c=61:=by
 unfold iL isL isD;constructor
 ·intro h
  repeat (first|(split at h)|omega)
 ·rintro rfl;simp
theorem uW (c:Int) (n:Nat):iL c n=5↔c=59:=by
 unfold iL isL isD;constructor
 ·intro h
  repeat (first|(split at h)|omega)
 ·rintro rfl;simp
theorem Mg {t:ByteArray} (h:WT t):(t.toList==[61])=decide (bf t=4):=by
 by_cases h4:bf t=4
 ·have hb:=(uV _ _).1 h4;rw [gl t 61 (h.2.2 (by rw [hb];decide) (by rw [hb];decide)) hb];simp [h4]
 ·rw [eS t 61 (fun e=>h4 ((uV _ _).2 e))];simp [h4]
theorem nr {t:ByteArray} (h:WT t):(t.toList==[59])=decide (bf t=5):=by
 by_cases h4:bf t=5
 ·have hb:=(uW _ _).1 h4;rw [gl t 59 (h.2.2 (by rw [hb];decide) (by rw [hb];decide)) hb];simp [h4]
 ·rw [eS t 59 (fun e=>h4 ((uW _ _).2 e))];simp [h4]
inductive At where
 |nil:At
 |sim (t:Tk) (rest:At):At
 |par (o h c:Tk) (args rest:At):At
def At.toks:At->List Tk
 | .nil=>[]
 | .sim t r=>t::r.toks
 | .par o h c ag r=>o::h::(ag.toks++c::r.toks)
def dZ (t:Tk):Prop:=bf t.txt=1\/bf t.txt=2\/bf t.txt=3
def At.ok:At->Prop
 | .nil=>True
 | .sim t r=>dZ t/\r.ok
 | .par o h c ag r=>bf o.txt=6/\dZ h/\bf c.txt=7/\ag.ok/\r.ok
def Lv (m:Tk) (r:List Tk):Nat->List Tk->Prop
 |0,ts=>∃a:At,a.ok/\ts=a.toks++m::r
 |d+1,ts=>∃(a:At) (c:Tk) (ts':List Tk),a.ok/\bf c.txt=7/\ts=a.toks++c::ts'/\Lv m r d ts'
theorem Lv.sim {m:Tk} {r:List Tk} {d:Nat} {ts:List Tk} {t:Tk} (ht:dZ t) (h:Lv m r d ts):Lv m r d (t::ts):=by
 cases d with
 |zero=>obtain ⟨a,ha,rfl⟩:=h;exact ⟨.sim t a,⟨ht,ha⟩,rfl⟩
 |succ d=>obtain ⟨a,c,ts',ha,hc,rfl,hl⟩:=h;exact ⟨.sim t a,c,ts',⟨ht,ha⟩,hc,rfl,hl⟩
theorem Lv.par {m:Tk} {r:List Tk} {d:Nat} {ts:List Tk} {o h:Tk} (ho:bf o.txt=6) (hh:dZ h) (hl:Lv m r (d+1) ts):Lv m r d (o::h::ts):=by
 obtain ⟨a,c,ts',ha,hc,rfl,hl⟩:=hl;cases d with
 |zero=>obtain ⟨b,hb,rfl⟩:=hl;exact ⟨.par o h c a b,⟨ho,hh,hc,ha,hb⟩,by simp [At.toks]⟩
 |succ d=>obtain ⟨b,c',ts'',hb,hc',rfl,hl⟩:=hl;exact ⟨.par o h c a b,c',ts'',⟨ho,hh,hc,ha,hb⟩,hc',by simp [At.toks],hl⟩
inductive Shq:List Tk->List Df->Prop
 |nil:Shq [] []
 |cons (n:Tk) (ps:List Tk) (e h:Tk) (a:At) (m:Tk) (r:List Tk) (ds:List Df)
  (hn:bf n.txt=1) (hp:∀p∈ps,bf p.txt=1) (he:bf e.txt=4) (hh:dZ h) (ha:a.ok) (hm:bf m.txt=5) (hr:Shq r ds):
  Shq (n::(ps++(e::h::(a.toks++(m::r))))) (⟨n,ps,h::a.toks⟩::ds)
theorem vV {t:Tk} (h:dZ t):bf t.txt≠4/\bf t.txt≠5:=by unfold dZ at h;omega
theorem At.body {a:At} (h:a.ok):∀t∈a.toks,bf t.txt≠4/\bf t.txt≠5:=by
 induction a with
 |nil=>intro t ht;simp [At.toks] at ht
 |sim x r ih=>
  intro t ht;simp only [At.toks,aK] at ht;rcases ht with rfl|ht
  ·exact vV h.1
  ·exact ih h.2 t ht
 |par o x c ag r ih1 ih2=>
  obtain ⟨h1,h2,h3,h4,h5⟩:=h;intro t ht;simp only [At.toks,aK,be] at ht;rcases ht with rfl|rfl|ht|rfl|ht
  ·omega
  ·exact vV h2
  ·exact ih1 h4 t ht
  ·omega
  ·exact ih2 h5 t ht
theorem Shq.shp {ts:List Tk} {ds:List Df} (h:Shq ts ds):Shp ts ds:=by
 induction h with
 |nil=>exact .nil
 |cons n ps e h a m r ds hn hp he hh ha hm hr ih=>
  refine .cons n ps e (h::a.toks) m r ds hn hp he ?_ hm ih
  intro t ht;rcases aK.1 ht with rfl|ht
  ·exact vV hh
  ·exact At.body ha t ht
def acf (g:Gr) (ts:List Tk):Prop:=
 (g.aw=0/\∃ds,Shq ts ds)\/
 (g.aw=1/\∃ps e h a m r ds,ts=ps++(e::h::(At.toks a++(m::r)))/\(∀p∈ps,bf p.txt=1)/\bf e.txt=4/\dZ h/\a.ok/\bf m.txt=5/\Shq r ds)\/
 (g.aw=2/\∃h rest m r ds,ts=h::rest/\dZ h/\bf m.txt=5/\Lv m r g.ar.length rest/\Shq r ds)\/
 (g.aw=3/\∃m r ds,bf m.txt=5/\Lv m r g.ar.length ts/\Shq r ds)
theorem F6 (n:Nat) (ts:List Tk):∀g:Gr,(g.aw=0\/g.aw=1\/g.aw=2\/g.aw=3)->(g.aw=0\/g.aw=1->g.ar=[])->(jT n g ts).2=0->acf g ts:=by
 induction ts with
 |nil=>
  intro g ha _ h;unfold jT at h;split at h
  ·simp at h
  ·rename_i hc;have h0:g.aw=0:=by
    by_cases h0:g.aw=0
    ·exact h0
    ·exact absurd (.inr h0) hc
   exact .inl ⟨h0,[],.nil⟩
 |cons t r ih=>
  intro g ha oJ h;unfold jT at h;split at h
  case isFalse hc=>exact absurd h hc
  case isTrue he=>
   generalize hk:bf t.txt=k at*;rcases ha with ha|ha|ha|ha
   ·have e:cZ g k=dN g k:=by simp [cZ,ha]
    rw [e] at he h;unfold dN at he h;by_cases h1:k=1
    ·subst h1;by_cases hf:16<=g.fn
     ·simp [hf] at he
     ·simp only [ne_eq,not_true_eq_false,dc,hf] at h;have:=ih {g with fn:=g.fn+1,pa:=0,aw:=1} (.inr (.inl rfl)) (fun _=>oJ (.inl ha)) h;rcases this with ⟨h0,_⟩|⟨_,ps,e,hd,a,m,r',ds,rfl,hp,kW,hh,zp,hm,hs⟩|⟨h0,_⟩|⟨h0,_⟩
      ·simp at h0
      ·exact .inl ⟨ha,_,.cons t ps e hd a m r' ds hk hp kW hh zp hm hs⟩
      ·simp at h0
      ·simp at h0
    ·simp [h1] at he
   ·have e:cZ g k=da g k:=by simp [cZ,ha]
    rw [e] at he h;unfold da at he h;by_cases h4:k=4
    ·subst h4;simp only [cQ] at h;have:=ih {g with no:=0,aw:=2} (.inr (.inr (.inl rfl))) (fun h=>by simp at h) h;rcases this with ⟨h0,_⟩|⟨h0,_⟩|⟨_,hd,rest,m,r',ds,rfl,hh,hm,hl,hs⟩|⟨h0,_⟩
     ·simp at h0
     ·simp at h0
     ·have Wi:g.ar=[]:=oJ (.inr ha);rw [show ({g with no:=0,aw:=2}:Gr).ar=g.ar from rfl,Wi] at hl;obtain ⟨a,zp,rfl⟩:=hl;exact .inr (.inl ⟨ha,[],t,hd,a,m,r',ds,rfl,by simp,hk,hh,zp,hm,hs⟩)
     ·simp at h0
    ·by_cases h1:k=1
     ·subst h1;by_cases hf:6<=g.pa
      ·simp [hf] at he
      ·simp only [show ¬((1:Int)=4) by decide,ne_eq,not_true_eq_false,dc,hf] at h;have:=ih {g with pa:=g.pa+1} (.inr (.inl ha)) (fun _=>oJ (.inr ha)) h;rcases this with ⟨h0,_⟩|⟨_,ps,e,hd,a,m,r',ds,rfl,hp,kW,hh,zp,hm,hs⟩|⟨h0,_⟩|⟨h0,_⟩
       ·have vq:g.aw=_:=h0;omega
       ·refine .inr (.inl ⟨ha,t::ps,e,hd,a,m,r',ds,rfl,?_,kW,hh,zp,hm,hs⟩)
        intro x hx;rcases aK.1 hx with rfl|hx
        ·exact hk
        ·exact hp x hx
       ·have vq:g.aw=_:=h0;omega
       ·have vq:g.aw=_:=h0;omega
     ·simp [h4,h1] at he
   ·have e:cZ g k=mw g k:=by simp [cZ,ha]
    rw [e] at he h;unfold mw at he h;cases hs:fP k
    ·simp [hs] at he
    ·simp only [hs,cQ] at h;have ZA:dZ t:=by unfold dZ;rw [hk];simpa [fP] using hs
     have:=ih {g with wi:=1,aw:=3} (.inr (.inr (.inr rfl))) (fun h=>by simp at h) h;rcases this with ⟨h0,_⟩|⟨h0,_⟩|⟨h0,_⟩|⟨_,m,r',ds,hm,hl,rB⟩
     ·simp at h0
     ·simp at h0
     ·simp at h0
     ·exact .inr (.inr (.inl ⟨ha,t,r,m,r',ds,rfl,ZA,hm,hl,rB⟩))
   ·have e:cZ g k=gq g k:=by simp [cZ,ha]
    rw [e] at he h;unfold gq at he h;by_cases h5:k=5
    ·subst h5;simp only [cQ] at he h;unfold iR at he h;by_cases hl:g.ar=[]
     ·simp only [hl,cQ] at h;have:=ih _ (.inl rfl) (fun _=>rfl) h;rcases this with ⟨_,ds,hs⟩|⟨h0,_⟩|⟨h0,_⟩|⟨h0,_⟩
      ·refine .inr (.inr (.inr ⟨ha,t,r,ds,hk,?_,hs⟩))
       rw [hl];exact ⟨.nil,trivial,rfl⟩
      ·simp at h0
      ·simp at h0
      ·simp at h0
     ·simp [hl] at he
    ·rw [ay h5] at he h;by_cases h7:k=7
     ·subst h7;simp only [cQ] at he h;unfold eG at he h;by_cases hl:g.ar=[]
      ·simp [hl] at he
      ·simp only [hl,dc] at h;have:=ih {g with wi:=g.ar.getLast?.getD 0,ar:=g.ar.dropLast} (.inr (.inr (.inr ha))) (fun h=>by have h':g.aw=0\/g.aw=1:=h;omega) h;rcases this with ⟨h0,_⟩|⟨h0,_⟩|⟨h0,_⟩|⟨_,m,r',ds,hm,mx,rB⟩
       ·have vq:g.aw=_:=h0;omega
       ·have vq:g.aw=_:=h0;omega
       ·have vq:g.aw=_:=h0;omega
       ·refine .inr (.inr (.inr ⟨ha,m,r',ds,hm,?_,rB⟩))
        have ez:g.ar.length=g.ar.dropLast.length+1:=by
         have:0<g.ar.length:=fw.2 hl;simp;omega
        rw [ez];exact ⟨.nil,t,r,trivial,hk,rfl,mx⟩
     ·rw [ay h7] at he h;by_cases h6:k=6
      ·subst h6;simp only [cQ] at he h;unfold iw at he h;rcases vw g with hc|hc
       ·rw [aA hc] at h;have:=ih {(cG g).2 with ar:=(cG g).2.ar++[(cG g).2.wi],aw:=2} (.inr (.inr (.inl rfl))) (fun h=>by simp at h) h;rcases this with ⟨h0,_⟩|⟨h0,_⟩|⟨_,hd,rest,m,r',ds,rfl,hh,hm,mx,rB⟩|⟨h0,_⟩
        ·simp at h0
        ·simp at h0
        ·refine .inr (.inr (.inr ⟨ha,m,r',ds,hm,?_,rB⟩))
         refine Lv.par hk hh ?_
         have:({(cG g).2 with ar:=(cG g).2.ar++[(cG g).2.wi],aw:=2}:Gr).ar.length=g.ar.length+1:=by simp [m7]
         rw [this] at mx;exact mx
        ·simp at h0
       ·rw [ay (by rw [hc];decide),hc] at he;simp at he
      ·rw [ay h6] at he h;cases hs:fP k
       ·simp [hs] at he
       ·simp only [hs,cQ] at he h;have ZA:dZ t:=by unfold dZ;rw [hk];simpa [fP] using hs
        have Ym:(cG g).2.aw=3:=(yU g).trans ha;have:=ih _ (.inr (.inr (.inr Ym))) (fun h=>by omega) h;rcases this with ⟨h0,_⟩|⟨h0,_⟩|⟨h0,_⟩|⟨_,m,r',ds,hm,mx,rB⟩
        ·omega
        ·omega
        ·omega
        ·rw [m7] at mx;exact .inr (.inr (.inr ⟨ha,m,r',ds,hm,mx.sim ZA,rB⟩))
theorem uI (n:Nat) (ts:List Tk) (h:(jT n g0 ts).2=0):∃ds,Shq ts ds/\(eT ts).ds=ds:=by
 rcases F6 n ts g0 (.inl rfl) (fun _=>rfl) h with ⟨_,ds,hs⟩|⟨h0,_⟩|⟨h0,_⟩|⟨h0,_⟩
 ·exact ⟨ds,hs,ss hs.shp⟩
 ·simp [g0] at h0
 ·simp [g0] at h0
 ·simp [g0] at h0
end Go.Proofs.YtnndoagpbcacdabGreatDoor
