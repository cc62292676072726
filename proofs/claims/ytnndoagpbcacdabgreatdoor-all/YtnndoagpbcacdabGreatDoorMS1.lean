import Derived.Test.YtnndoagpbcacdabGreatDoorMW5
import Derived.Lib.Strings
import Derived.Test.YtnndoagpbcacdabGreatDoorMA9
namespace Go.Proofs.YtnndoagpbcacdabGreatDoor
set_option maxHeartbeats 8000000
open Go.RowKit
def jt:List UInt8->List UInt8
 |[]=>[]
 |[a]=>[a]
 |a::b::r=>if a=48 then jt (b::r) else a::b::r
def tkL (t:Tk):List UInt8:=if bf t.txt=2 then jt t.txt.data.toList else t.txt.data.toList
def kAt (ts:List Tk) (i:Int):Int:=if 0<=i then (match ts[i.toNat]? with|some t=>bf t.txt|none=>0) else 0
def i9 (ts:List Tk) (i:Nat):Bool:=(decide (kAt ts i=6) && decide (kAt ts (i+2)=7))||(decide (kAt ts i=7) && decide (kAt ts ((i:Int)-2)=6))
def jP (ts:List Tk) (bo:Bool) (i:Nat):List UInt8:=
 if h:i<ts.length then
  (if i9 ts i then jP ts bo (i+1)
   else (if bf ts[i].txt≠7/\bo=false then [32] else [])++(tkL ts[i]++jP ts (decide (bf ts[i].txt=6)) (i+1)))
 else []
termination_by ts.length-i
theorem uZ (ts:List Tk) (i:Nat) (h:i<ts.length):kAt ts (i:Int)=bf ts[i].txt:=by
 unfold kAt;rw [aA (by omega),bC,aj h]
theorem O6 (ts:List Tk) (i:Int) (h:i<0):kAt ts i=0:=by unfold kAt;rw [ay (by omega)]
theorem O5 (ts:List Tk) (i:Int) (h:(ts.length:Int)<=i):kAt ts i=0:=by
 unfold kAt;rw [aA (by omega),List.getElem?_eq_none (by omega)]
theorem wZ (l:List UInt8):(jt l).length<=l.length:=by
 fun_induction jt l<;>simp_all<;>omega
theorem sJ (v:Value) (ts:List Tk) (i:Int) (w:World) (hl:ts.length<=1000000) (hv:w.ownsRow 0 73 3 v ts.length (tcs ts)):
 Calls Tryz.prog 82 #[v,.int .i64 i] w fun e w'=>e=.returned (.int .i64 (kAt ts i))/\w'=w:=by
 obtain ⟨ao,cap,rfl⟩:=aU hv;by_cases h0:i<0
 ·rw [O6 ts i h0];go_enter Tryz.func82,Tryz.ntmps82
  go_wp2_with fail
  go_ret
  exact ⟨rfl,rfl⟩
 ·have hd:decide (i<0)=false:=by simpa using h0
  by_cases h1:(ts.length:Int)<=i
  ·rw [O5 ts i h1];go_enter Tryz.func82,Tryz.ntmps82
   go_wp2_with fail
   go_ret
   exact ⟨rfl,rfl⟩
  ·obtain ⟨k,rfl⟩:=aZ (show 0<=i by omega);have hk:k<ts.length:=by omega
   rw [uZ ts k hk];obtain ⟨q,cap',hq,_,dX⟩:=hv.form (by omega);cases hq
   have ⟨t0,t1,t2⟩:=o8 ts k hk;have d0:=aH hv _ _ t0;clear t0 t1 t2;have Ye:¬(ts.length:Int)<=(k:Int):=by omega
   go_enter Tryz.func82,Tryz.ntmps82
   go_wp2_with fail
   go_ret
   exact ⟨rfl,rfl⟩
theorem kw (v:Value) (ts:List Tk) (i:Nat) (w:World) (hl:ts.length<=1000000) (hi:i<ts.length) (hv:w.ownsRow 0 73 3 v ts.length (tcs ts)):
 Calls Tryz.prog 48 #[v,.int .i64 i] w fun e w'=>e=.returned (.bool (i9 ts i))/\w'=w:=by
 have hx:i9 ts i=((decide (kAt ts i=6) && decide (kAt ts ((i:Int)+2)=7))||(decide (kAt ts i=7) && decide (kAt ts ((i:Int)-2)=6))):=rfl;rw [hx];clear hx;by_cases h6:kAt ts i=6
 ·rw [show ((decide (kAt ts i=6) && decide (kAt ts ((i:Int)+2)=7))||(decide (kAt ts i=7) && decide (kAt ts ((i:Int)-2)=6)))=(kAt ts ((i:Int)+2)==7) by rw [h6];rw [fm];simp];go_enter Tryz.func48,Tryz.ntmps48
  go_wp2_with fail
  refine (sJ v ts _ _ hl hv).mono ?_
  rintro e w1 ⟨rfl,rfl⟩
  go_wp2_with fail
  refine (sJ v ts _ _ hl hv).mono ?_
  rintro e w1 ⟨rfl,rfl⟩
  go_wp2_with fail
  go_ret
  exact ⟨rfl,rfl⟩
 ·have Rg:(kAt ts i==6)=false:=by simpa using h6
  by_cases h7:kAt ts i=7
  ·rw [show ((decide (kAt ts i=6) && decide (kAt ts ((i:Int)+2)=7))||(decide (kAt ts i=7) && decide (kAt ts ((i:Int)-2)=6)))=(kAt ts ((i:Int)-2)==6) by rw [h7];rw [fm];simp];clear h6 Rg;go_enter Tryz.func48,Tryz.ntmps48
   go_wp2_with fail
   refine (sJ v ts _ _ hl hv).mono ?_
   rintro e w1 ⟨rfl,rfl⟩
   go_wp2_with fail
   refine (sJ v ts _ _ hl hv).mono ?_
   rintro e w1 ⟨rfl,rfl⟩
   go_wp2_with fail
   go_ret
   exact ⟨rfl,rfl⟩
  ·have h7':(kAt ts i==7)=false:=by simpa using h7
   rw [show ((decide (kAt ts i=6) && decide (kAt ts ((i:Int)+2)=7))||(decide (kAt ts i=7) && decide (kAt ts ((i:Int)-2)=6)))=false by simp [h6,h7]];clear h6 h7;go_enter Tryz.func48,Tryz.ntmps48
   go_wp2_with fail
   refine (sJ v ts _ _ hl hv).mono ?_
   rintro e w1 ⟨rfl,rfl⟩
   go_wp2_with fail
   go_ret
   exact ⟨rfl,rfl⟩
theorem DV {l:List UInt8} (k:Nat) (h:k+1<l.length) (hz:l[k]'(by omega)=48):jt (l.drop k)=jt (l.drop (k+1)):=by
 rw [aW (by omega),hz,aW h,jt,aA rfl]
theorem DW {l:List UInt8} (k:Nat) (h:k+1<l.length) (hz:l[k]'(by omega)≠48):jt (l.drop k)=l.drop k:=by
 rw [aW (by omega),aW h,jt,ay hz]
theorem DX {l:List UInt8} (k:Nat) (h:k<l.length) (hz:¬k+1<l.length):jt (l.drop k)=l.drop k:=by
 rw [aW h,bj (by omega),jt]
theorem WY (s:ByteArray) (k:Nat) (h:k<s.data.toList.length):(s.data.toList[k]=48)↔bt s k=48:=by
 unfold bt;have:s.data[k]?=some s.data.toList[k]:=by rw [<-Array.getElem?_toList];exact aj h
 rw [this,b6];constructor
 ·intro e;rw [e];rfl
 ·intro e;exact dF.1 (by have h2:(s.data.toList[k].toNat:Int)=48:=e;have h3:(48:UInt8).toNat=48:=rfl;omega)
theorem sH (s:ByteArray) (w:World) (hs:s.size<=1000) (h0:0<s.size):
 Calls Tryz.prog 197 #[.string s] w fun e w'=>∃x:ByteArray,e=.returned (.string x)/\x.data.toList=jt s.data.toList/\w'=w:=by
 have Gm:=cg s;have qm:Hid (s.size=s.data.toList.length):=Gm;clear Gm;go_enter Tryz.func197,Tryz.ntmps197
 go_wp2_with fail
 go_loop [3] (fun a=>∃k:Nat,k<s.size/\a=.int .i64 k/\Hid (jt (s.data.toList.drop k)=jt s.data.toList)) (fun a=>s.size-(intOf a).toNat)
 case atStart=>exact ⟨0,h0,rfl,rfl⟩
 case round=>
  obtain ⟨k,hk,rfl,HD⟩:=hrel;have VL:jt (s.data.toList.drop k)=s.data.toList.drop k->(s.extract k s.size).data.toList=jt s.data.toList:=fun h=>by
   rw [Lib.extract_data,<-HD.out,h];exact bN (by rw [cI,<-qm.out];exact ah _)
  have HF:Hid _:=VL;clear VL;by_cases bF:k+1<s.size
  ·have Nh:=kO s k hk;by_cases K5:bt s k=48
   ·have HN:Hid (jt (s.data.toList.drop (k+1))=jt s.data.toList):=by
     rw [<-HD.out];exact (DV k (by rw [<-qm.out];exact bF) ((WY s k (by rw [<-qm.out];exact hk)).2 K5)).symm
    go_wp2_with fail
    go_round
    case rel=>exact ⟨k+1,by omega,by go_num,HN⟩
    case measure=>simp [intOf];omega
   ·have aiv:(bt s k==48)=false:=by simpa using K5
    have HN:Hid ((s.extract k s.size).data.toList=jt s.data.toList):=HF.out (DW k (by rw [<-qm.out];exact bF) (fun e=>K5 ((WY s k (by rw [<-qm.out];exact hk)).1 e)));clear K5;go_wp2_with fail
    go_ret
    exact ⟨_,rfl,HN.out,rfl⟩
  ·have HN:Hid ((s.extract k s.size).data.toList=jt s.data.toList):=HF.out (DX k (by rw [<-qm.out];exact hk) (by rw [<-qm.out];exact bF));have hd:decide ((k:Int)+1<(s.size:Int))=false:=by simp;omega
   go_wp2_with fail
   go_ret
   exact ⟨_,rfl,HN.out,rfl⟩
theorem E9 (t:Tk):(tkL t).length<=t.txt.size:=by
 rw [cg];unfold tkL;split
 ·exact wZ _
 ·exact ah _
theorem qu (t:Tk) (w:World) (hs:t.txt.size<=1000) (h0:0<t.txt.size):
 Calls Tryz.prog 172 #[.agg #[.int .i64 (bf t.txt),.int .i64 t.pos,.string t.txt]] w fun e w'=>∃x:ByteArray,e=.returned (.string x)/\x.data.toList=tkL t/\Below w.heap.size w w':=by
 by_cases h2:bf t.txt=2
 ·have HT:Hid (tkL t=jt t.txt.data.toList):=by show tkL t=_;unfold tkL;rw [aA h2]
  go_enter Tryz.func172,Tryz.ntmps172
  go_wp2_with fail
  refine (sH _ _ hs h0).mono ?_
  rintro e w1 ⟨x,rfl,hx,rfl⟩
  have HX:Hid _:=hx;clear hx;go_wp2_with fail
  go_ret
  exact ⟨x,rfl,HX.out.trans HT.out.symm,(ai _ _).alloc (ah _) _⟩
 ·have zr:(bf t.txt==2)=false:=by simpa using h2
  have HT:Hid (tkL t=t.txt.data.toList):=by show tkL t=_;unfold tkL;rw [ay h2]
  clear h2;go_enter Tryz.func172,Tryz.ntmps172
  go_wp2_with fail
  go_ret
  exact ⟨_,rfl,HT.out.symm,(ai _ _).alloc (ah _) _⟩
theorem zM (t:Tk) (k:Int) (hk:bf t.txt=k) (w:World) (hs:t.txt.size<=1000) (h0:0<t.txt.size):
 Calls Tryz.prog 172 #[.agg #[.int .i64 k,.int .i64 t.pos,.string t.txt]] w fun e w'=>∃x:ByteArray,e=.returned (.string x)/\x.data.toList=tkL t/\Below w.heap.size w w':=by
 subst hk;exact qu t w hs h0
theorem xK (ts:List Tk) (bo:Bool) (i:Nat) (h:¬i<ts.length):jP ts bo i=[]:=by rw [jP,dif_neg h]
theorem qt (ts:List Tk) (bo:Bool) (i:Nat) (h:i<ts.length) (hn:i9 ts i=true):jP ts bo i=jP ts bo (i+1):=by rw [jP,mf h,aA hn]
theorem o9 (ts:List Tk) (bo:Bool) (i:Nat) (h:i<ts.length) (hn:i9 ts i=false):jP ts bo i=(if bf ts[i].txt≠7/\bo=false then [32] else [])++(tkL ts[i]++jP ts (decide (bf ts[i].txt=6)) (i+1)):=by
 rw [jP,mf h,hn];rfl
theorem Fs (v:Value) (ts:List Tk) (w:World) (hl:ts.length<=1000) (mO:∀t∈ts,WT t.txt) (hv:w.ownsRow 0 73 3 v ts.length (tcs ts)):
 Calls Tryz.prog 142 #[v] w fun e w'=>∃x:ByteArray,e=.returned (.string x)/\x.data.toList=jP ts false 0/\x.size<=ts.length*1001/\Below w.heap.size w w':=by
 obtain ⟨ao,cap,rfl⟩:=aU hv;generalize hR:jP ts false 0=R;have HR:Hid (jP ts false 0=R):=hR;clear hR;go_enter Tryz.func142,Tryz.ntmps142
 go_wp2_with fail
 go_loopw [3,4,10] (fun a b c wr=>∃(i:Nat) (x:ByteArray) (bo:Bool),i<=ts.length/\c=.int .i64 i/\a=.string x/\b=.bool bo/\Hid (x.data.toList++jP ts bo i=R)/\x.size<=i*1001/\Below w.heap.size w wr) (fun _ _ c _=>ts.length-(intOf c).toNat)
 case atStart=>exact ⟨0,⟨#[]⟩,false,aF _,rfl,rfl,rfl,HR,ah _,ai _ _⟩
 case round=>
  obtain ⟨i,x,bo,hi,rfl,rfl,rfl,HX,kA,hb⟩:=hrel;have dk:=hb.size;by_cases bF:i<ts.length
  ·obtain ⟨q,cap',hq,_,dX⟩:=hv.form (by omega);cases hq
   have et:=aQ hv hb;have ⟨t0,t1,t2⟩:=o8 ts i bF;have d0:=aH et _ _ t0;have d1:=aH et _ _ t1;have d2:=aH et _ _ t2;clear t0 t1 t2;have hw:=mO ts[i] (aE bF);have Si:∀o,(wr.alloc o).ownsRow 0 73 3 (.slice (some ⟨q,0,none⟩) ts.length cap) ts.length (tcs ts):=fun o=>et.alloc o
   cases hn:i9 ts i
   ·have HS:=o9 ts bo i bF hn;rw [HS] at HX;clear HS;have Ka:x.size<=2000000:=aJ kA (aJ (dq _ (aJ (iq bF) hl)) (by decide));have MS:∀z y:Nat,z<=i*1001->y<=1001->z+y<=(i+1)*1001:=fun z y h1 h2=>by rw [Nat.add_mul,Nat.one_mul];exact Nat.add_le_add h1 h2
    have Ed:Hid _:=MS;clear MS;by_cases hc:bf ts[i].txt≠7/\bo=false
    ·obtain ⟨h7,rfl⟩:=hc;rw [aA ⟨h7,rfl⟩] at HX;go_wp2_with fail
     refine (kw _ ts i _ (by omega) bF (Si _)).mono ?_
     rintro e w1 ⟨rfl,rfl⟩
     go_wp2_with fail
     refine (qu ts[i] _ hw.2.1 hw.1).mono ?_
     rintro e w2 ⟨y,rfl,hy,bX⟩
     have fe:=dx bX;have g0:=al w2 wr.heap.size 0 _ _ _ fe;simp only [ax,aq] at g0;have df:Below w.heap.size w w2:=(hb.alloc dk _).trans (bX.mono (by simp;omega));have mj:y.size<=1000:=by rw [cg,hy];exact aJ (E9 _) hw.2.1
     have HY:Hid (y.data.toList=tkL ts[i]):=hy;clear hy fe bX;go_wp2_with fail
     go_roundw
     case rel=>
      refine ⟨i+1,(x++⟨#[32]⟩)++y,_,bF,by go_num,rfl,rfl,?_,?_,df⟩
      ·show _=_
       rw [cK,cK,HY.out,<-HX.out];simp;rfl
      ·rw [bw,bw,jG];exact Ed.out _ _ kA (by show 1+y.size<=1001;omega)
     case measure=>simp [intOf];omega
    ·rw [ay hc,di] at HX;have EC:bf ts[i].txt=7\/bo=true:=by
      by_cases h7:bf ts[i].txt=7
      ·exact .inl h7
      ·right;cases bo with
       |true=>rfl
       |false=>exact absurd ⟨h7,rfl⟩ hc
     clear hc;have gp:Hid _:=HX.out;clear HX;by_cases h7:bf ts[i].txt=7
     ·clear EC;have HK:Hid (bf ts[i].txt=7):=h7;go_wp2_with fail
      refine (kw _ ts i _ (by omega) bF (Si _)).mono ?_
      rintro e w1 ⟨rfl,rfl⟩
      go_wp2_with fail
      refine (zM ts[i] 7 HK.out _ hw.2.1 hw.1).mono ?_
      rintro e w2 ⟨y,rfl,hy,bX⟩
      have fe:=dx bX;have g0:=al w2 wr.heap.size 0 _ _ _ fe;simp only [ax,aq] at g0;have df:Below w.heap.size w w2:=(hb.alloc dk _).trans (bX.mono (by simp;omega));have mj:y.size<=1000:=by rw [cg,hy];exact aJ (E9 _) hw.2.1
      have HY:Hid (y.data.toList=tkL ts[i]):=hy;clear hy fe bX;go_wp2_with fail
      go_roundw
      case rel=>
       refine ⟨i+1,x++y,_,bF,by go_num,rfl,rfl,?_,?_,df⟩
       ·show _=_
        rw [cK,HY.out,<-gp.out];simp [HK.out]
        try rfl
       ·rw [bw];exact Ed.out _ _ kA (by omega)
      case measure=>simp [intOf];omega
     ·obtain rfl:bo=true:=by rcases EC with h|h;exact absurd h h7;exact h
      clear EC;go_wp2_with fail
      refine (kw _ ts i _ (by omega) bF (Si _)).mono ?_
      rintro e w1 ⟨rfl,rfl⟩
      go_wp2_with fail
      refine (qu ts[i] _ hw.2.1 hw.1).mono ?_
      rintro e w2 ⟨y,rfl,hy,bX⟩
      have fe:=dx bX;have g0:=al w2 wr.heap.size 0 _ _ _ fe;simp only [ax,aq] at g0;have df:Below w.heap.size w w2:=(hb.alloc dk _).trans (bX.mono (by simp;omega));have mj:y.size<=1000:=by rw [cg,hy];exact aJ (E9 _) hw.2.1
      have HY:Hid (y.data.toList=tkL ts[i]):=hy;clear hy fe bX;go_wp2_with fail
      go_roundw
      case rel=>
       refine ⟨i+1,x++y,_,bF,by go_num,rfl,rfl,?_,?_,df⟩
       ·show _=_
        rw [cK,HY.out,<-gp.out];simp
        try rfl
       ·rw [bw];exact Ed.out _ _ kA (by omega)
      case measure=>simp [intOf];omega
   ·have HS:Hid (x.data.toList++jP ts bo (i+1)=R):=by have:=HX.out;rw [qt ts bo i bF hn] at this;exact this
    clear HX;go_wp2_with fail
    refine (kw _ ts i _ (by omega) bF (Si _)).mono ?_
    rintro e w1 ⟨rfl,rfl⟩
    go_wp2_with fail
    go_roundw
    case rel=>exact ⟨i+1,x,bo,bF,by go_num,rfl,rfl,HS,aJ kA (dq _ (gr _)),hb.alloc dk _⟩
    case measure=>simp [intOf];omega
  ·have hx:x.data.toList=R:=by have:=HX.out;rw [xK ts bo i bF,cA] at this;exact this
   have gp:Hid _:=hx;clear hx HX;have lj:i=ts.length:=by omega
   subst lj;go_wp2_with fail
   go_ret
   exact ⟨x,rfl,gp.out,kA,hb⟩
def psL (ps:List Tk):List UInt8:=ps.flatMap fun p=>32::p.txt.data.toList
def WW (d:Df):List UInt8:=d.name.txt.data.toList++(psL d.ps++([32,61]++(jP d.body false 0++[59,10])))
def ph (ds:List Df):List UInt8:=ds.flatMap WW
structure DfOk (d:Df):Prop where
 n:WT d.name.txt
 ps:∀t∈d.ps,WT t.txt
 body:∀t∈d.body,WT t.txt
 lp:d.ps.length<=1000
 lb:d.body.length<=1000
theorem BM (ps:List Tk) (k:Nat) (h:k<ps.length):psL (ps.take (k+1))=psL (ps.take k)++(32::ps[k].txt.data.toList):=by
 unfold psL;rw [aT h,List.flatMap_append];simp
theorem sI (d:Df) (pv bv:Value) (T:Nat) (w:World) (hd:DfOk d) (ew:DOk w T d pv bv):
 Calls Tryz.prog 106 #[.agg #[.int .i64 (bf d.name.txt),.int .i64 d.name.pos,.string d.name.txt,pv,bv]] w fun e w'=>∃x:ByteArray,e=.returned (.string x)/\x.data.toList=WW d/\x.size<=4000000/\Below w.heap.size w w':=by
 obtain ⟨⟨nk,nt⟩,ps,body⟩:=d;obtain ⟨hn,qW,Yp,oD,ur⟩:=hd;obtain ⟨jD,DE,_,_⟩:=ew;simp only at*;obtain ⟨po,pcap,rfl⟩:=aU jD;obtain ⟨bo,bcap,rfl⟩:=aU DE;generalize hR:WW ⟨⟨nk,nt⟩,ps,body⟩=R;have HR:Hid (nt.data.toList++(psL ps++([32,61]++(jP body false 0++[59,10])))=R):=hR;clear hR;have Sq:=hn.2.1;go_enter Tryz.func106,Tryz.ntmps106
 go_wp2_with fail
 go_loopw [3,13] (fun a c wr=>∃(k:Nat) (x:ByteArray),k<=ps.length/\c=.int .i64 k/\a=.string x/\Hid (x.data.toList=nt.data.toList++psL (ps.take k))/\x.size<=1000+k*1001/\Below w.heap.size w wr/\wr.heap[w.heap.size]?=some (.cells #[.int .i64 (bf nt),.int .i64 nk,.string nt,.slice po ps.length pcap,.slice bo body.length bcap] 76 (0,0))) (fun _ c _=>ps.length-(intOf c).toNat)
 case atStart=>exact ⟨0,nt,aF _,rfl,rfl,by simp [Hid,psL],by omega,(ai _ _).alloc (ah _) _,az w _⟩
 case round=>
  obtain ⟨k,x,hk,rfl,rfl,HX,kA,hb,fe⟩:=hrel;have dk:=hb.size;have Ka:x.size<=2000000:=aJ kA (aJ (Nat.add_le_add_left (dq _ (aJ hk oD)) _) (by decide));by_cases bF:k<ps.length
  ·obtain ⟨q,cap',hq,_,dX⟩:=jD.form (by omega);cases hq
   have et:=aQ jD hb;have ⟨t0,t1,t2⟩:=o8 ps k bF;have d0:=aH et _ _ t0;have d1:=aH et _ _ t1;have d2:=aH et _ _ t2;clear t0 t1 t2 et;have hw:=qW ps[k] (aE bF);have zl:=hw.2.1;have fG:w.heap.size<wr.heap.size:=(ae.1 fe).1;have fZ:x.size+(1+ps[k].txt.size)<=1000+(k+1)*1001:=by rw [Nat.add_mul,Nat.one_mul,<-jG 1000];exact Nat.add_le_add kA (by omega)
   have Ed:Hid _:=fZ;clear fZ;go_wp2_with fail
   go_roundw
   case rel=>
    refine ⟨k+1,x++(⟨#[32]⟩++ps[k].txt),bF,by go_num,rfl,?_,?_,hb.alloc dk _,(aO wr _ _ fG).trans fe⟩
    ·show _=_
     rw [cK,cK,HX.out,BM ps k bF];simp
    ·rw [bw,bw];exact Ed.out
   case measure=>simp [intOf];omega
  ·have eh:k=ps.length:=by omega
   subst eh;rw [bA] at HX;have g4:=al wr w.heap.size 4 _ _ _ fe;simp only [ax,ap,aq] at g4;go_wp2_with fail
   refine (Fs _ body _ ur Yp (aQ DE hb)).mono ?_
   rintro e w1 ⟨y,rfl,hy,mj,bB⟩
   have hy6:y.size<=1001000:=aJ mj (aJ (dq _ ur) (by decide));have HY:Hid _:=hy;have bX:=hb.trans (bB.mono dk);clear hy mj bB g4;go_wp2_with fail
   go_ret
   refine ⟨_,rfl,?_,?_,bX⟩
   ·rw [cK,cK,cK,HX.out,HY.out,<-HR.out];simp
   ·rw [bw,bw,bw];show x.size+2+y.size+2<=_
    omega
theorem uN (ds:List Df) (k:Nat) (h:k<ds.length):ph (ds.take (k+1))=ph (ds.take k)++WW ds[k]:=by
 unfold ph;rw [aT h,List.flatMap_append];simp
def shw (s:ByteArray):List UInt8:=if (chk s).2=0 then ph (eT (ci s 0)).ds else []
theorem YX (s:ByteArray) (w:World) (hs:s.size<=maxLen) (yI:(chk s).2=0->(eT (ci s 0)).ds.length<=1000/\∀d∈(eT (ci s 0)).ds,DfOk d):
 Calls Tryz.prog 64 #[.string s] w fun e w'=>∃x:ByteArray,e=.returned (.tuple #[.string x,.int .i64 (chk s).2])/\x.data.toList=shw s/\Below w.heap.size w w':=by
 by_cases h0:(chk s).2=0
 ·obtain ⟨oG,AJ⟩:=yI h0;have HS:Hid (shw s=ph (eT (ci s 0)).ds):=by show shw s=_;unfold shw;rw [aA h0]
  clear yI;go_enter Tryz.func64,Tryz.ntmps64
  go_wp2_with fail
  refine (xL s _ hs).mono ?_
  rintro e w1 ⟨lv,rfl,bB,se⟩
  rcases se with ⟨dI,_⟩|⟨_,k9,xs,se⟩
  ·exact absurd h0 dI
  generalize (eT (ci s 0)).ds=ds at*;obtain ⟨ao,cap,rfl⟩:=aU se.row;go_wp2_with fail
  go_loopw [7,22] (fun a c wr=>∃(k:Nat) (x:ByteArray),k<=ds.length/\c=.int .i64 k/\a=.string x/\Hid (x.data.toList=ph (ds.take k))/\x.size<=k*4000000/\Below w1.heap.size w1 wr) (fun _ c _=>ds.length-(intOf c).toNat)
  case atStart=>exact ⟨0,⟨#[]⟩,aF _,rfl,rfl,by simp [Hid,ph],ah _,ai _ _⟩
  case round=>
   obtain ⟨k,x,hk,rfl,rfl,HX,kA,hb⟩:=hrel;have dk:=hb.size;have Ka:x.size<=4000000000:=aJ kA (aJ (dq _ (aJ hk oG)) (by decide));by_cases bF:k<ds.length
   ·obtain ⟨q,cap',hq,_,dX⟩:=se.row.form (by omega);cases hq
    have et:=se.old (ah _) hb;obtain ⟨pv,bv,t0,t1,t2,t3,t4,hd⟩:=et.all.at k bF;have d0:=aH et.row _ _ t0;have d1:=aH et.row _ _ t1;have d2:=aH et.row _ _ t2;have d3:=aH et.row _ _ t3;have d4:=aH et.row _ _ t4;obtain ⟨o1,p1,rfl⟩:=aU hd.1;obtain ⟨o2,p2,rfl⟩:=aU hd.2.1;clear t0 t1 t2 t3 t4 et;have EH:=AJ ds[k] (aE bF);have fZ:∀y:Nat,y<=4000000->x.size+y<=(k+1)*4000000:=fun y h=>by rw [Nat.add_mul,Nat.one_mul];exact Nat.add_le_add kA h
    have Ed:Hid _:=fZ;clear fZ;go_wp2_with fail
    refine (sI ds[k] _ _ w1.heap.size _ EH (hd.keep ((ai _ _).alloc dk _))).mono ?_
    rintro e w2 ⟨y,rfl,hy,mj,bX⟩
    have HY:Hid _:=hy;have df:Below w1.heap.size w1 w2:=(hb.alloc dk _).trans (bX.mono (by simp;omega));clear hy bX d0 d1 d2 d3 d4;go_wp2_with fail
    go_roundw
    case rel=>
     refine ⟨k+1,x++y,bF,by go_num,rfl,?_,?_,df⟩
     ·show _=_
      rw [cK,HX.out,HY.out,uN ds k bF]
     ·rw [bw];exact Ed.out _ mj
    case measure=>simp [intOf];omega
   ·have xp:x.data.toList=ph ds:=by have:=HX.out;rw [bN (by omega)] at this;exact this
    have gp:Hid _:=xp;clear xp HX;go_wp2_with fail
    go_ret2
    exact ⟨x,by rw [h0];rfl,gp.out.trans HS.out.symm,bB.trans (hb.mono bB.size)⟩
 ·have vq:((chk s).2==0)=false:=by simpa using h0
  have HS:Hid (shw s=[]):=by show shw s=_;unfold shw;rw [ay h0]
  go_enter Tryz.func64,Tryz.ntmps64
  go_wp2_with fail
  refine (xL s _ hs).mono ?_
  rintro e w1 ⟨lv,rfl,bB,_⟩
  go_wp2_with fail
  go_ret2
  exact ⟨_,rfl,HS.out.symm,bB⟩
theorem S9 (s:ByteArray) (w:World) (hs:s.size<=maxLen) (yI:(chk s).2=0->(eT (ci s 0)).ds.length<=1000/\∀d∈(eT (ci s 0)).ds,DfOk d):
 Calls Tryz.prog 35 #[.string s] w fun e w'=>∃x:ByteArray,e=.returned (.tuple #[.string x,.int .i64 (chk s).2])/\x.data.toList=shw s/\Below w.heap.size w w':=by
 go_enter Tryz.func35,Tryz.ntmps35
 go_wp2_with fail
 refine (YX s _ hs yI).mono ?_
 rintro e w1 ⟨x,rfl,hx,bB⟩
 have HX:Hid _:=hx;clear hx;go_wp2_with fail
 go_ret2
 exact ⟨x,rfl,HX.out,bB⟩
theorem Shq.mem {ts:List Tk} {ds:List Df} (h:Shq ts ds):∀d∈ds,∀t∈d.body,t∈ts:=by
 induction h with
 |nil=>intro d hd;simp at hd
 |cons n ps e h a m r ds hn hp he hh ha hm hr ih=>
  intro d hd t ht;rcases aK.1 hd with rfl|hd
  ·rcases aK.1 ht with rfl|ht
   ·simp
   ·simp [ht]
  ·have:=ih d hd t ht;simp [this]
def spT:At->List UInt8
 | .nil=>[]
 | .sim t r=>32::(tkL t++spT r)
 | .par _ h _ .nil r=>32::(tkL h++spT r)
 | .par _ h _ (.sim t g) r=>32::40::(tkL h++(spT (.sim t g)++41::spT r))
 | .par _ h _ (.par o x c g' g) r=>32::40::(tkL h++(spT (.par o x c g' g)++41::spT r))
theorem Fe {o h c:Tk} {ag r:At} (dI:ag≠.nil):spT (.par o h c ag r)=32::40::(tkL h++(spT ag++41::spT r)):=by
 cases ag with
 |nil=>exact absurd rfl dI
 |sim t g=>exact spT.eq_4 ..
 |par o x c g' g=>exact spT.eq_5 ..
theorem wB (pre l:List Tk) (j:Nat):kAt (pre++l) ((pre.length+j:Nat):Int)=match l[j]? with|some t=>bf t.txt|none=>0:=by
 unfold kAt;rw [aA (by omega),bC,aC (by omega),show pre.length+j-pre.length=j by omega];all_goals (cases l[j]?<;>rfl)
theorem sW (ts:List Tk) (i:Nat) (h:i<ts.length) (hs:dZ ts[i]):i9 ts i=false:=by
 unfold i9;rw [uZ ts i h];unfold dZ at hs;have h6:bf ts[i].txt≠6:=by omega
 have h7:bf ts[i].txt≠7:=by omega
 simp [h6,h7]
theorem ob (ts:List Tk) (bo:Bool) (i:Nat) (h:i<ts.length) (hs:dZ ts[i]):jP ts bo i=(if bo then [] else [32])++(tkL ts[i]++jP ts false (i+1)):=by
 rw [o9 ts bo i h (sW ts i h hs)];unfold dZ at hs;have h6:bf ts[i].txt≠6:=by omega
 have h7:bf ts[i].txt≠7:=by omega
 simp only [ne_eq,h7,not_false_eq_true,true_and,h6,decide_false];cases bo<;>simp
def uk:List Tk->Int
 |[]=>0
 |[t]=>bf t.txt
 |_::r=>uk r
theorem sZ (l r:List Tk) (t:Tk):uk (l++t::r)=uk (t::r):=by
 induction l with
 |nil=>rfl
 |cons x l ih=>
  rw [eO];cases hl:l++t::r with
  |nil=>simp at hl
  |cons y z=>rw [uk,<-hl,ih];simp
theorem OH {a:At} (h:a.ok) (x:Tk) (hx:bf x.txt≠6):uk (x::a.toks)≠6:=by
 induction a generalizing x with
 |nil=>exact hx
 |sim t r ih=>
  rw [At.toks,uk]
  ·exact ih h.2 t (by have:=h.1;unfold dZ at this;omega)
  ·simp
 |par o y c ag r ih1 ih2=>
  obtain ⟨h1,h2,h3,h4,h5⟩:=h;rw [At.toks,show x::o::y::(ag.toks++c::r.toks)=(x::o::y::ag.toks)++c::r.toks by simp,sZ];exact ih2 h5 c (by omega)
theorem Mi {a:At} (h:a.ok) (dI:a≠.nil) (x:Tk) (hx:bf x.txt≠6):uk (x::a.toks).dropLast≠6:=by
 induction a generalizing x with
 |nil=>exact absurd rfl dI
 |sim t r ih=>
  have ht:bf t.txt≠6:=by have:=h.1;unfold dZ at this;omega
  by_cases hr:r=.nil
  ·subst hr;exact hx
  ·have:=ih h.2 hr t ht;rw [At.toks];cases hl:(t::r.toks).dropLast with
   |nil=>rw [List.dropLast_cons_of_ne_nil (by simp),hl];exact hx
   |cons u v=>rw [List.dropLast_cons_of_ne_nil (by simp),hl,uk,<-hl];exact this;simp
 |par o y c ag r ih1 ih2=>
  obtain ⟨h1,h2,h3,h4,h5⟩:=h;by_cases hr:r=.nil
  ·subst hr;have e:x::(At.par o y c ag .nil).toks=(x::o::y::ag.toks)++[c]:=by simp [At.toks]
   rw [e,List.dropLast_concat,show x::o::y::ag.toks=[x,o]++y::ag.toks by simp,sZ];exact OH h4 y (by unfold dZ at h2;omega)
  ·have:=ih2 h5 hr c (by omega);have e:x::(At.par o y c ag r).toks=(x::o::y::ag.toks)++(c::r.toks):=by simp [At.toks]
   have ZD:r.toks≠[]:=by
    cases r with
    |nil=>exact absurd rfl hr
    |sim t r=>simp [At.toks]
    |par o h c g r=>simp [At.toks]
   rw [e,List.dropLast_append_of_ne_nil (by simp)];cases hl:(c::r.toks).dropLast with
   |nil=>rw [List.dropLast_cons_of_ne_nil ZD] at hl;simp at hl
   |cons u v=>rw [sZ,<-hl];exact this
theorem x6 (l:List Tk) (h:l≠[]):∃t,l[l.length-1]?=some t/\uk l=bf t.txt:=by
 induction l with
 |nil=>exact absurd rfl h
 |cons x l ih=>
  cases l with
  |nil=>exact ⟨x,rfl,rfl⟩
  |cons y l=>
   obtain ⟨t,h1,h2⟩:=ih (by simp);refine ⟨t,?_,?_⟩
   ·simpa using h1
   ·rw [uk];exact h2;simp
theorem NX {t:Tk} (h:WT t.txt) (hk:bf t.txt=6):tkL t=[40]:=by
 unfold tkL;rw [ay (by omega),<-bU];have:=vP h;rw [hk] at this;simpa using this
theorem JA {t:Tk} (h:WT t.txt) (hk:bf t.txt=7):tkL t=[41]:=by
 unfold tkL;rw [ay (by omega),<-bU];have:=kv h;rw [hk] at this;simpa using this
theorem N1 (a:At) (h:a.ok) (hw:∀t∈a.toks,WT t.txt):∀(pre post:List Tk),jP (pre++(a.toks++post)) false pre.length=spT a++jP (pre++(a.toks++post)) false (pre.length+a.toks.length):=by
 induction a with
 |nil=>intro pre post;simp [At.toks,spT]
 |sim t r ih=>
  intro pre post;have bF:pre.length<(pre++((At.sim t r).toks++post)).length:=by simp [At.toks]
  have hg:(pre++((At.sim t r).toks++post))[pre.length]=t:=by simp [At.toks]
  have h1:=ob (pre++((At.sim t r).toks++post)) false pre.length bF (by rw [hg];exact h.1);rw [hg] at h1;have h2:=ih h.2 (fun t ht=>hw t (by simp [At.toks,ht])) (pre++[t]) post;have e:pre++[t]++(r.toks++post)=pre++((At.sim t r).toks++post):=by simp [At.toks]
  rw [e] at h2;simp only [au,aD,bp] at h2;rw [h1,h2];simp [At.toks,spT];congr 1
  omega
 |par o x c ag r ih1 ih2=>
  intro pre post;obtain ⟨ho,hx,hc,sf,hr⟩:=h;generalize hL:pre++((At.par o x c ag r).toks++post)=L;have e1:L=pre++(o::x::(ag.toks++c::(r.toks++post))):=by rw [<-hL];simp [At.toks]
  have Er:=hw o (by simp [At.toks]);have Ah:=hw c (by simp [At.toks]);have ez:L.length=pre.length+3+ag.toks.length+r.toks.length+post.length:=by rw [e1];simp;omega
  have g0:L[pre.length]?=some o:=by rw [e1];simp
  have g1:L[pre.length+1]?=some x:=by rw [e1,aC (by omega),show pre.length+1-pre.length=1 by omega];rfl
  have gc:L[pre.length+2+ag.toks.length]?=some c:=by
   rw [e1,aC (by omega),show pre.length+2+ag.toks.length-pre.length=ag.toks.length+1+1 by omega,ap,ap,aC (by omega),ct];rfl
  have l0:pre.length<L.length:=by omega
  have l1:pre.length+1<L.length:=by omega
  have lc:pre.length+2+ag.toks.length<L.length:=by omega
  have q0:L[pre.length]=o:=by rw [aj l0] at g0;exact Option.some.inj g0
  have q1:L[pre.length+1]=x:=by rw [aj l1] at g1;exact Option.some.inj g1
  have qc:L[pre.length+2+ag.toks.length]=c:=by rw [aj lc] at gc;exact Option.some.inj gc
  have k0:kAt L (pre.length:Int)=6:=by rw [uZ L _ l0,q0,ho]
  have kc:kAt L ((pre.length+2+ag.toks.length:Nat):Int)=7:=by rw [uZ L _ lc,qc,hc]
  have sx:∀bo,jP L bo (pre.length+1)=(if bo then [] else [32])++(tkL x++jP L false (pre.length+1+1)):=by
   intro bo;have:=ob L bo (pre.length+1) l1 (by rw [q1];exact hx);rw [q1] at this;exact this
  have h2:=ih2 hr (fun t ht=>hw t (by simp [At.toks,ht])) (pre++o::x::(ag.toks++[c])) post;have e2:pre++o::x::(ag.toks++[c])++(r.toks++post)=L:=by rw [e1];simp
  rw [e2] at h2;have el2:(pre++o::x::(ag.toks++[c])).length=pre.length+2+ag.toks.length+1:=by simp;omega
  rw [el2] at h2;have etot:pre.length+(At.par o x c ag r).toks.length=pre.length+2+ag.toks.length+1+r.toks.length:=by simp [At.toks];omega
  rw [etot];by_cases hn:ag=.nil
  ·subst hn;simp only [At.toks,bp,cy] at kc h2 gc lc qc;have n0:i9 L pre.length=true:=by
    unfold i9;rw [k0,show ((pre.length:Int)+2)=((pre.length+2:Nat):Int) by omega,kc];simp
   have nc:i9 L (pre.length+2)=true:=by
    unfold i9;rw [kc,show (((pre.length+2:Nat):Int)-2)=(pre.length:Int) by omega,k0];simp
   rw [qt L false pre.length l0 n0,sx false,qt L false _ lc nc,h2];simp [spT,At.toks]
  ·rw [Fe hn];have Ka:bf x.txt≠6:=by unfold dZ at hx;omega
   have dt:ag.toks≠[]:=by
    cases ag with
    |nil=>exact absurd rfl hn
    |sim t r=>simp [At.toks]
    |par o h c g r=>simp [At.toks]
   have SH:0<ag.toks.length:=fw.2 dt;have k2:kAt L ((pre.length:Int)+2)≠7:=by
    rw [show ((pre.length:Int)+2)=((pre.length+2:Nat):Int) by omega,e1,wB,ap,ap,aI SH];cases ag with
    |nil=>exact absurd rfl hn
    |sim t g=>have:=sf.1;unfold dZ at this;simp only [At.toks,aq];omega
    |par o' h' c' g' g=>have:=sf.1;simp only [At.toks,aq];omega
   have kcm:kAt L ((pre.length+2+ag.toks.length:Nat)-2:Int)≠6:=by
    have Gn:=Mi sf hn x Ka;obtain ⟨u,zm,Dn⟩:=x6 (x::ag.toks).dropLast (by rw [List.dropLast_cons_of_ne_nil dt];simp);rw [Dn] at Gn;have I7:(x::ag.toks)[ag.toks.length-1]?=some u:=by
     rw [List.length_dropLast,aD,Nat.add_sub_cancel] at zm;rw [List.getElem?_dropLast] at zm;split at zm
     ·exact zm
     ·cases zm
    have:kAt L ((pre.length+2+ag.toks.length:Nat)-2:Int)=bf u.txt:=by
     rw [show ((pre.length+2+ag.toks.length:Nat)-2:Int)=((pre.length+((ag.toks.length-1)+1):Nat):Int) by omega,e1,wB,ap,show x::(ag.toks++c::(r.toks++post))=(x::ag.toks)++c::(r.toks++post) by simp,aI (by simp;omega),I7]
    rw [this];exact Gn
   have n0:i9 L pre.length=false:=by
    unfold i9;rw [k0];simp [k2]
   have nc:i9 L (pre.length+2+ag.toks.length)=false:=by
    unfold i9;rw [kc];simp only [show ¬((7:Int)=6) by decide,decide_false,Bool.false_and,Bool.false_or,eV,dp,cw];exact kcm
   have h1:=ih1 sf (fun t ht=>hw t (by simp [At.toks,ht])) (pre++[o,x]) (c::(r.toks++post));have e3:pre++[o,x]++(ag.toks++c::(r.toks++post))=L:=by rw [e1];simp
   rw [e3] at h1;have el3:(pre++[o,x]).length=pre.length+2:=by simp
   rw [el3] at h1;rw [o9 L false _ l0 n0,q0,ho,NX Er ho,show decide ((6:Int)=6)=true from rfl,sx true,h1,o9 L false _ lc nc,qc,hc,JA Ah hc,show decide ((7:Int)=6)=false from rfl,h2];simp
theorem Fo {hd:Tk} {a:At} (hs:dZ hd) (h:a.ok) (hw:∀t∈a.toks,WT t.txt):jP (hd::a.toks) false 0=32::(tkL hd++spT a):=by
 have h1:=ob (hd::a.toks) false 0 (by simp) hs;have h2:=N1 a h hw [hd] [];have h3:=xK (hd::a.toks) false (1+a.toks.length) (by simp;omega);simp only [cA,eJ,aD,bp,cr] at h2;rw [h3] at h2;rw [h1,h2];simp
theorem A5 (s:ByteArray) (i e:Nat) (hd:isD (bt s i)=true):∀j,e<=j->j<lM s i e->isD (bt s j)=true:=by
 have hl:isL (bt s i)=false:=by
  simp only [isD,isL,aL,cw] at*;omega
 fun_induction lM s i e with
 |case1 e h hg ih=>
  intro j h1 h2;by_cases hj:j=e
  ·subst hj;simpa [oL,hl,hd] using hg
  ·exact ih j (by omega) h2
 |case2 e h hg=>intro j h1 h2;omega
 |case3 e h=>intro j h1 h2;omega
theorem D8 (s:ByteArray) (i j k:Nat) (hk:i+k<j) (hj:j<=s.size):bt (s.extract i j) k=bt s (i+k):=by
 have h1:k<(s.extract i j).size:=by rw [cR];omega
 rw [<-kO _ k h1,<-kO s (i+k) (by omega)];rw [ByteArray.getElem_extract]
theorem WV (t:ByteArray) (h:∀k,k<t.size->isD (bt t k)=true):mB t.data.toList:=by
 intro c hc;obtain ⟨k,hk,rfl⟩:=cl.1 hc;have:=h k (by rw [cg];exact hk);rw [nY t k hk] at this;simp only [isD,aL] at this;omega
theorem sD (s:ByteArray) (i:Nat):∀t∈ci s i,isD (bt t.txt 0)=true->mB t.txt.data.toList:=by
 fun_induction ci s i with
 |case1 i h ih=>
  intro t ht;rcases be.1 ht with ht|ht
  ·split at ht
   ·simp at ht
   ·rename_i hb;simp only [aK,ck,dV] at ht;subst ht;have h1:=tP s i (i+1);have h2:=wY s i (i+1) (by omega);show isD (bt (s.extract i _) 0)=true->mB (s.extract i _).data.toList
    rw [vC s i _ (by omega) h2];intro hd;refine WV _ (fun k hk=>?_)
    rw [cR] at hk;rw [D8 s i _ k (by omega) h2];by_cases qi:k=0
    ·subst qi;exact hd
    ·exact A5 s i (i+1) hd (i+k) (by omega) (by omega)
  ·exact ih t ht
 |case2 i h=>simp
theorem lU {t:ByteArray} (h:bf t=2):isD (bt t 0)=true/\t.size<=6:=by
 unfold bf iL at h
 repeat (first|(split at h)|omega)
 all_goals first|omega|(rename_i h1 h2;exact ⟨by assumption,by omega⟩)|skip
theorem ya {t:ByteArray} (h:bf t=1):isL (bt t 0)=true:=by
 unfold bf iL at h
 repeat (first|(split at h)|omega)
 all_goals first|omega|assumption
theorem x9 {t:ByteArray} (h:bf t=3):bt t 0=43\/bt t 0=45\/bt t 0=42\/bt t 0=60\/bt t 0=63:=by
 unfold bf iL at h
 repeat (first|(split at h)|omega)
 all_goals first|omega|assumption
theorem Bz {ds:List Df} {ps:List Tk}:∀{body:List Tk},sA ds ps body=none->∀t∈body,uF ds ps t=false
 |[],_,t,ht=>by simp at ht
 |x::r,h,t,ht=>by
  unfold sA at h;cases hx:uF ds ps x
  ·rw [hx] at h;rcases aK.1 ht with rfl|ht
   ·exact hx
   ·exact Bz (by simpa using h) t ht
  ·rw [hx] at h;simp at h
theorem vO {ds:List Df}:∀{l:List Df},mE ds l=none->∀d∈l,∀t∈d.body,uF ds d.ps t=false
 |[],_,d,hd=>by simp at hd
 |x::r,h,d,hd=>by
  unfold mE at h;cases hx:sA ds x.ps x.body with
  |some p=>rw [hx] at h;simp at h
  |none=>
   rw [hx] at h;rcases aK.1 hd with rfl|hd
   ·exact Bz hx
   ·exact vO h d hd
theorem Shq.names {ts:List Tk} {ds:List Df} (h:Shq ts ds):∀d∈ds,bf d.name.txt=1/\(∀p∈d.ps,bf p.txt=1)/\d.name∈ts/\(∀p∈d.ps,p∈ts):=by
 induction h with
 |nil=>intro d hd;simp at hd
 |cons n ps e h a m r ds hn hp he hh ha hm hr ih=>
  intro d hd;rcases aK.1 hd with rfl|hd
  ·exact ⟨hn,hp,by simp,fun p hp=>by simp [hp]⟩
  ·obtain ⟨h1,h2,h3,h4⟩:=ih d hd;exact ⟨h1,h2,by simp [h3],fun p hp=>by simp [h4 p hp]⟩
theorem jH (s:ByteArray) (h:(chk s).2=0):s.size<=1000/\Shq (ci s 0) (eT (ci s 0)).ds/\(∀d∈(eT (ci s 0)).ds,DfOk d/\∀t∈d.body,bf t.txt=2->t.txt.size<=6/\mB t.txt.data.toList)/\(eT (ci s 0)).ds.length<=1000:=by
 unfold chk at h;by_cases kY:1000<s.size
 ·rw [aA kY] at h;simp at h
 rw [ay kY] at h;by_cases hg:(jT s.size g0 (ci s 0)).2=0
 ·have k9:s.size<=1000:=by omega
  have ja:(ci s 0).length<=1000:=aJ (oZ s 0) (by omega);have mO:=vR s k9 0;have G4:=sD s 0;obtain ⟨ds,pE,yI⟩:=uI s.size (ci s 0) hg;have rF:=l8 (ci s 0);have uu:=rF.i1;have Ql:=rF.i4;rw [yI] at uu Ql ⊢;have Ap:=pE.names;refine ⟨k9,pE,fun d hd=>?_,aJ uu ja⟩
  obtain ⟨h1,h2,h3,h4⟩:=Ap d hd;exact ⟨⟨mO _ h3,fun t ht=>mO t (h4 t ht),fun t ht=>mO t (pE.mem d hd t ht),aJ (Ql d hd).1 ja,aJ (Ql d hd).2 ja⟩,fun t ht hk=>⟨(lU hk).2,G4 t (pE.mem d hd t ht) (lU hk).1⟩⟩
 ·rw [aA (by simpa using hg)] at h;exact absurd h hg
end Go.Proofs.YtnndoagpbcacdabGreatDoor
