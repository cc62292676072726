import Derived.Test.YtnndoagpbcacdabGreatDoorMK1
import Derived.Test.YtnndoagpbcacdabGreatDoorMS1
import Derived.Test.YtnndoagpbcacdabGreatDoorMX7
namespace Go.Proofs.YtnndoagpbcacdabGreatDoor
set_option maxHeartbeats 8000000
set_option maxRecDepth 100000
open Go.RowKit
structure Ly where
 L:List Ln
 op:List Nat
def putL (s:Ly) (a:Int×Int):Ly:=match s.op.getLast? with
 |none=>s
 |some n=>⟨s.L.set n (s.L[n]?.getD []++[a]),s.op⟩
def EO (s:Ly):Ly:=⟨s.L++[[]],s.op++[s.L.length]⟩
def WQ (s:Ly):Ly:=⟨s.L,s.op.dropLast⟩
def ug (ps:List Tk) (ds:List Df) (t:Tk) (s:Ly):Ly:=if bf t.txt=6 then EO (putL s (5,(s.L.length:Int)-1)) else if bf t.txt=7 then WQ s else putL s (gN ps ds t)
def tS (ps:List Tk) (ds:List Df) (ts:List Tk) (s:Ly) (i:Nat):Ly:=
 if h:i<ts.length then (if i9 ts i then tS ps ds ts s (i+1) else tS ps ds ts (ug ps ds ts[i] s) (i+1)) else s
termination_by ts.length-i
theorem Cy (ps:List Tk) (ds:List Df) (ts:List Tk) (s:Ly) (i:Nat) (h:¬i<ts.length):tS ps ds ts s i=s:=by rw [tS,dif_neg h]
theorem tR (ps:List Tk) (ds:List Df) (ts:List Tk) (s:Ly) (i:Nat) (h:i<ts.length) (hn:i9 ts i=true):tS ps ds ts s i=tS ps ds ts s (i+1):=by rw [tS,mf h,aA hn]
theorem sr (ps:List Tk) (ds:List Df) (ts:List Tk) (s:Ly) (i:Nat) (h:i<ts.length) (hn:i9 ts i=false):tS ps ds ts s i=tS ps ds ts (ug ps ds ts[i] s) (i+1):=by rw [tS,mf h,hn];simp
structure LyOk (n:Nat) (s:Ly):Prop where
 l:s.L.length<=n+1
 o:s.op.length<=n+1
 e:∀l∈s.L,l.length<=n
theorem LyOk.up {n:Nat} {s:Ly} (h:LyOk n s):LyOk (n+1) s:=⟨by have:=h.l;omega,by have:=h.o;omega,fun l hl=>bP (h.e l hl)⟩
theorem BL (s:Ly) (a:Int×Int):(putL s a).L.length=s.L.length/\(putL s a).op=s.op:=by
 unfold putL;split<;>simp
theorem LyOk.put {n:Nat} {s:Ly} (h:LyOk n s) (a:Int×Int):LyOk (n+1) (putL s a):=by
 obtain ⟨h1,h2⟩:=BL s a;refine ⟨by rw [h1];have:=h.l;omega,by rw [h2];have:=h.o;omega,?_⟩
 unfold putL;split
 ·exact h.up.e
 ·rename_i m hm;intro l hl;rcases List.mem_or_eq_of_mem_set hl with hl|rfl
  ·exact h.up.e l hl
  ·rw [au];have:(s.L[m]?.getD []).length<=n:=by
    cases hq:s.L[m]? with
    |none=>simp
    |some x=>simpa using h.e x (bm hq)
   simp;omega
theorem LyOk.beg {n:Nat} {s:Ly} (h1:s.L.length<=n) (h2:s.op.length<=n) (h3:∀l∈s.L,l.length<=n):LyOk n (EO s):=
 ⟨by simp [EO];omega,by simp [EO];omega,fun l hl=>by
  simp only [EO,be,aK,ck,dV] at hl;rcases hl with hl|rfl
  ·exact h3 l hl
  ·simp⟩
theorem Ft (b:Nat) (lv ov:Value) (s:Ly) (vs:List Value) (a:Int×Int) (w:World) (h:Lay w b lv ov s.L vs s.op) (hk:LyOk 1500 s):
 Calls Tryz.prog 49 #[.pointer (some ⟨b,0,none⟩),.agg #[.int .i64 a.1,.int .i64 a.2]] w fun e w'=>(∃v,e=.returned v)/\Below b w w'/\∃vs',Lay w' b lv ov (putL s a).L vs' (putL s a).op:=by
 obtain ⟨L,op⟩:=s;have h1:=hk.l;have h2:=hk.o;have h3:=hk.e;simp only at*;cases hq:op.getLast? with
 |none=>
  have hn:op=[]:=List.getLast?_eq_none_iff.1 hq;subst hn;refine (N2 b lv ov L vs a w h).mono ?_
  rintro e w1 ⟨e1,e2,e3⟩
  exact ⟨e1,e2,vs,e3⟩
 |some n=>
  obtain ⟨op',rfl⟩:=List.getLast?_eq_some_iff.1 hq;have hn:n<L.length:=h.lt n (by simp);have he:(putL ⟨L,op'++[n]⟩ a)=⟨L.set n (L[n]++[a]),op'++[n]⟩:=by
   unfold putL;simp [List.getElem?_eq_getElem hn]
  rw [he];exact afP b lv ov L vs op' n a w h hn (by omega) (by simp at h2;omega) (by have:=h3 L[n] (aE hn);omega)
theorem Lay.ow {w:World} {b:Nat} {lv ov:Value} {L:List Ln} {vs:List Value} {op:List Nat} (h:Lay w b lv ov L vs op):eg w w.heap.size lv L:=
 ⟨vs,bO h.lrow (aF _),fun k hk=>(h.lrow.lt k hk).2,fun j hj=>by obtain ⟨v,e1,e2⟩:=h.rows j hj;exact ⟨v,e1,bO e2 (aF _),fun k hk=>(e2.lt k hk).2⟩⟩
def uy (ps:List Tk) (ds:List Df) (body:List Tk):List Ln:=(tS ps ds body (EO ⟨[],[]⟩) 0).L
theorem Fy (ds:List Df) (xs:List Value) (lv0:Value) (T:Nat) (d:Df) (pv bv:Value) (w:World) (hl:ds.length<=1000) (oD:d.ps.length<=1000) (ur:d.body.length<=1000) (hv:DR w lv0 ds xs T) (hT:T<=w.heap.size) (ew:DOk w T d pv bv)
 (gB:∀t∈d.body,bf t.txt=2->t.txt.size<=6/\mB t.txt.data.toList):
 Calls Tryz.prog 27 #[lv0,.agg #[.int .i64 (bf d.name.txt),.int .i64 d.name.pos,.string d.name.txt,pv,bv]] w fun e w'=>∃lv,e=.returned lv/\Below w.heap.size w w'/\eg w' w'.heap.size lv (uy d.ps ds d.body):=by
 obtain ⟨lo,lcap,rfl⟩:=aU hv.row;obtain ⟨po,pcap,rfl⟩:=aU ew.1;obtain ⟨bo,bcap,rfl⟩:=aU ew.2.1;generalize hR:tS d.ps ds d.body (EO ⟨[],[]⟩) 0=R;have HR:Hid (tS d.ps ds d.body (EO ⟨[],[]⟩) 0=R):=hR;have LV:Hid (uy d.ps ds d.body=R.L):=congrArg Ly.L hR;rw [LV.out];clear hR LV;have uB:Hid _:=gB;clear gB;obtain ⟨nm,ps,ts⟩:=d;simp only at*;have qe:Hid (Lay ((w.alloc (Obj.cells #[.int .i64 (bf nm.txt),.int .i64 nm.pos,.string nm.txt,.slice po ps.length pcap,.slice bo ts.length bcap] 76)).alloc (Obj.cells #[.slice none 0 0,.slice none 0 0] 107)) (w.heap.size+1) (.slice none 0 0) (.slice none 0 0) [] [] []):=by
  refine ⟨?_,aM _ _ _ _,aM _ _ _ _,fun j hj=>by simp at hj,fun i j vi vj k _ h1=>by simp at h1,fun n hn=>by simp at hn⟩
  have:=az (w.alloc (Obj.cells #[.int .i64 (bf nm.txt),.int .i64 nm.pos,.string nm.txt,.slice po ps.length pcap,.slice bo ts.length bcap] 76)) (Obj.cells #[.slice none 0 0,.slice none 0 0] 107);simpa using this
 have XX:Hid _:=uK _ _ _ _ _ _ _ qe.out (by simp) (by simp);go_enter Tryz.func27,Tryz.ntmps27
 go_wp2_with fail
 refine (show Calls _ _ _ _ _ from XX.out).mono ?_
 rintro e w1 ⟨⟨v1,rfl⟩,bB,lv1,ov1,M6⟩
 clear XX qe;have Hh:Below (w.heap.size+1) (w.alloc (Obj.cells #[.int .i64 (bf nm.txt),.int .i64 nm.pos,.string nm.txt,.slice po ps.length pcap,.slice bo ts.length bcap] 76)) w1:=((ai _ _).alloc (by simp) _).trans bB;clear bB;have fe:=(Hh.block w.heap.size (by omega)).trans (az w _);have B2:=al w1 w.heap.size 2 _ _ _ fe;have B4:=al w1 w.heap.size 4 _ _ _ fe;simp only [ax,ap,aq] at B2 B4;go_wp2_with fail
 go_loopw [14] (fun x wr=>∃(i:Nat) (s:Ly) (lv ov:Value) (vs:List Value),i<=ts.length/\x=.int .i64 i/\Hid (tS ps ds ts s i=R)/\LyOk i s/\Below (w.heap.size+1) (w.alloc (Obj.cells #[.int .i64 (bf nm.txt),.int .i64 nm.pos,.string nm.txt,.slice po ps.length pcap,.slice bo ts.length bcap] 76)) wr/\Lay wr (w.heap.size+1) lv ov s.L vs s.op) (fun x _=>ts.length-(intOf x).toNat)
 case atStart=>exact ⟨0,EO ⟨[],[]⟩,_,_,_,aF _,rfl,HR,LyOk.beg (by simp) (by simp) (by simp),Hh,M6⟩
 case round=>
  clear B2 B4 fe Hh M6 HR;obtain ⟨i,s,lv,ov,vs,hi,rfl,HC,hk,hb,ut⟩:=hrel;have kH:Below w.heap.size w wr:=((ai _ _).alloc (ah _) _).trans (hb.mono (by omega));have fe:=(hb.block w.heap.size (by omega)).trans (az w _);have B0:=al wr w.heap.size 0 _ _ _ fe;have B1:=al wr w.heap.size 1 _ _ _ fe;have B2:=al wr w.heap.size 2 _ _ _ fe;have B3:=al wr w.heap.size 3 _ _ _ fe;have B4:=al wr w.heap.size 4 _ _ _ fe;simp only [ax,ap,aq] at B0 B1 B2 B3 B4;have dk:=ut.blt;have fG:w.heap.size<wr.heap.size:=by omega
  have L0:=al wr (w.heap.size+1) 0 _ _ _ ut.box;simp only [ax,aq] at L0;obtain ⟨llo,llcap,mx⟩:=aU ut.lrow;subst mx;by_cases bF:i<ts.length
  ·have bW:wr.ownsRow 0 73 3 (.slice bo ts.length bcap) ts.length (tcs ts):=aQ ew.2.1 kH;obtain ⟨q,cap',hq,_,dX⟩:=bW.form (by omega);cases hq
   have ⟨t0,t1,t2⟩:=o8 ts i bF;have d0:=aH bW _ _ t0;have d1:=aH bW _ _ t1;have d2:=aH bW _ _ t2;clear t0 t1 t2;have HN:Hid (∀o,Calls Tryz.prog 48 #[.slice (some ⟨q,0,none⟩) ts.length bcap,.int .i64 i] (wr.alloc o) fun e w'=>e=.returned (.bool (i9 ts i))/\w'=(wr.alloc o)):=fun o=>kw _ ts i _ (by omega) bF (bW.alloc o)
   cases hn:i9 ts i
   ·have fE:Hid (tS ps ds ts (ug ps ds ts[i] s) (i+1)=R):=(sr ps ds ts s i bF hn).symm.trans HC.out;rw [hn] at HN;clear hn HC;unfold ug at fE;by_cases h6:bf ts[i].txt=6
    ·rw [aA h6] at fE;rw [h6] at d0;have HP:Hid (∀o,Calls Tryz.prog 49 #[.pointer (some ⟨w.heap.size+1,0,none⟩),.agg #[.int .i64 5,.int .i64 ((s.L.length:Int)-1)]] (wr.alloc o) fun e w'=>(∃v,e=.returned v)/\Below (w.heap.size+1) (wr.alloc o) w'/\∃vs',Lay w' (w.heap.size+1) _ ov (putL s (5,(s.L.length:Int)-1)).L vs' (putL s (5,(s.L.length:Int)-1)).op):=fun o=>Ft _ _ _ s vs (5,(s.L.length:Int)-1) _ (ut.alloc o) ⟨by have:=hk.l;omega,by have:=hk.o;omega,fun l hl=>by have:=hk.e l hl;omega⟩
     have eA:=hk.l;have eh:=hk.put (5,(s.L.length:Int)-1);obtain ⟨e1,e2⟩:=BL s (5,(s.L.length:Int)-1);have hko:=hk.o;generalize putL s (5,(s.L.length:Int)-1)=s2 at*;go_wp2_with fail
     refine (show Calls _ _ _ _ _ from HN.out _).mono ?_
     rintro e w1 ⟨rfl,rfl⟩
     go_wp2_with fail
     refine (show Calls _ _ _ _ _ from HP.out _).mono ?_
     rintro e w2 ⟨⟨v2,rfl⟩,bX,vs2,GQ⟩
     have XX:Hid _:=uK _ _ _ _ _ _ _ GQ (by omega) (by rw [e2];omega);clear HP HN;go_wp2_with fail
     refine (show Calls _ _ _ _ _ from XX.out).mono ?_
     rintro e w3 ⟨⟨v3,rfl⟩,df,lv3,ov3,GP⟩
     clear XX;go_wp2_with fail
     go_roundw
     case rel=>exact ⟨i+1,EO s2,lv3,ov3,_,bF,by go_num,fE,LyOk.beg (by omega) (by rw [e2];omega) eh.e,(hb.trans (((ai _ _).alloc (by omega) _).trans (bX.trans df))),GP⟩
     case measure=>simp [intOf];omega
    ·rw [ay h6] at fE;have Rg:(bf ts[i].txt==6)=false:=by simpa using h6
     by_cases h7:bf ts[i].txt=7
     ·rw [aA h7] at fE;rw [h7] at d0;have HE:Hid (∀o,_):=fun o=>JC _ _ _ _ _ _ _ (ut.alloc o) (by have:=hk.o;omega)
      clear h6 Rg h7;go_wp2_with fail
      refine (show Calls _ _ _ _ _ from HN.out _).mono ?_
      rintro e w1 ⟨rfl,rfl⟩
      go_wp2_with fail
      refine (show Calls _ _ _ _ _ from HE.out _).mono ?_
      rintro e w2 ⟨⟨v2,rfl⟩,bX,ov2,GQ⟩
      clear HE HN;go_wp2_with fail
      go_roundw
      case rel=>exact ⟨i+1,WQ s,_,ov2,vs,bF,by go_num,fE,⟨by have:=hk.l;simp [WQ];omega,by have:=hk.o;simp [WQ];omega,fun l hl=>bP (hk.e l hl)⟩,(hb.trans (((ai _ _).alloc (by omega) _).trans bX)),GQ⟩
      case measure=>simp [intOf];omega
     ·rw [ay h7] at fE;have h7':(bf ts[i].txt==7)=false:=by simpa using h7
      have lJ:w.heap.size<=wr.heap.size:=kH.size;have HA:Hid _:=zL ds xs _ T ⟨nm,ps,ts⟩ _ _ ts[i] (wr.alloc (Obj.cells #[.int .i64 (bf ts[i].txt),.int .i64 ts[i].pos,.string ts[i].txt] 73)) hl oD ((hv.old hT kH).old (by omega) ((ai _ _).alloc (ah _) _)) (by simp;omega) ((ew.keep (kH.mono hT)).keep ((ai _ _).alloc (by omega) _)) (uB.out ts[i] (aE bF));have HP:Hid (∀w',Below wr.heap.size wr w'->∀o,Calls Tryz.prog 49 #[.pointer (some ⟨w.heap.size+1,0,none⟩),.agg #[.int .i64 (gN ps ds ts[i]).1,.int .i64 (gN ps ds ts[i]).2]] (w'.alloc o) fun e w2=>(∃v,e=.returned v)/\Below (w.heap.size+1) (w'.alloc o) w2/\∃vs',Lay w2 (w.heap.size+1) _ ov (putL s (gN ps ds ts[i])).L vs' (putL s (gN ps ds ts[i])).op):=fun w' h' o=>Ft _ _ _ s vs (gN ps ds ts[i]) _ ((ut.old h').alloc o) ⟨by have:=hk.l;omega,by have:=hk.o;omega,fun l hl=>by have:=hk.e l hl;omega⟩
      have eh:=hk.put (gN ps ds ts[i]);simp only at HA;generalize gN ps ds ts[i]=A at*;go_wp2_with fail
      refine (show Calls _ _ _ _ _ from HN.out _).mono ?_
      rintro e w1 ⟨rfl,rfl⟩
      go_wp2_with fail
      refine (show Calls _ _ _ _ _ from HA.out).mono ?_
      rintro e w2 ⟨rfl,bX⟩
      have DH:Below wr.heap.size wr w2:=((ai _ _).alloc (ah _) _).trans (bX.mono (by simp));clear HA HN;go_wp2_with fail
      refine (show Calls _ _ _ _ _ from HP.out w2 DH _).mono ?_
      rintro e w3 ⟨⟨v3,rfl⟩,df,vs3,GP⟩
      clear HP;go_wp2_with fail
      go_roundw
      case rel=>exact ⟨i+1,putL s A,_,ov,vs3,bF,by go_num,fE,eh,(hb.trans ((DH.mono (by omega)).trans (((ai _ _).alloc (by have:=DH.size;omega) _).trans df))),GP⟩
      case measure=>simp [intOf];omega
   ·have fE:Hid (tS ps ds ts s (i+1)=R):=(tR ps ds ts s i bF hn).symm.trans HC.out;rw [hn] at HN;clear hn HC;go_wp2_with fail
    refine (show Calls _ _ _ _ _ from HN.out _).mono ?_
    rintro e w1 ⟨rfl,rfl⟩
    go_wp2_with fail
    go_roundw
    case rel=>exact ⟨i+1,s,_,ov,vs,bF,by go_num,fE,hk.up,hb.alloc (by omega) _,ut.alloc _⟩
    case measure=>simp [intOf];omega
  ·have HE:Hid (s=R):=(Cy ps ds ts s i bF).symm.trans HC.out;go_wp2_with fail
   go_ret
   exact ⟨_,rfl,kH,by rw [<-HE.out];exact ut.ow⟩
def CU (ds:List Df) (d:Df):Tp:=⟨d.ps.length,uy d.ps ds d.body⟩
def dL (ds:List Df):Cd:=⟨fnd ds lH,ds.map (CU ds)⟩
def y8 (s:ByteArray):List UInt8:=if (chk s).2=0 then wrL (dL (eT (ci s 0)).ds) else []
def xy (s:ByteArray):Int:=if (chk s).2=0 then wrE (dL (eT (ci s 0)).ds) else (chk s).2
theorem uf {w w1:World} {o o2:Obj} (hb:Below ((w.alloc o).alloc o2).drew.heap.size ((w.alloc o).alloc o2).drew w1):w1.heap[w.heap.size]?=some o/\w1.heap[w.heap.size+1]?=some o2:=
 gW (w1:=w1) ((aR (ai _ _)).trans hb)
theorem rU (s:ByteArray) (w:World) (hs:s.size<=maxLen) (ht:Tab w)
 (yI:(chk s).2=0->(eT (ci s 0)).ds.length<=1000/\∀d∈(eT (ci s 0)).ds,DfOk d/\∀t∈d.body,bf t.txt=2->t.txt.size<=6/\mB t.txt.data.toList):
 Calls Tryz.prog 16 #[.string s] w fun e w'=>∃x:ByteArray,e=.returned (.tuple #[.string x,.int .i64 (xy s)])/\x.data.toList=y8 s/\x.size<=20000/\Below w.heap.size w w':=by
 by_cases h0:(chk s).2=0
 ·obtain ⟨oG,AJ⟩:=yI h0;have HE:Hid (xy s=wrE (dL (eT (ci s 0)).ds)):=by show _=_;unfold xy;rw [aA h0]
  have HL:Hid (y8 s=wrL (dL (eT (ci s 0)).ds)):=by show _=_;unfold y8;rw [aA h0]
  rw [HE.out,HL.out];clear yI HE HL;generalize hQ1:wrE (dL (eT (ci s 0)).ds)=RE;generalize hQ2:wrL (dL (eT (ci s 0)).ds)=RL;have sw:Hid (wrE (dL (eT (ci s 0)).ds)=RE):=hQ1;have LZ:Hid (wrL (dL (eT (ci s 0)).ds)=RL):=hQ2;clear hQ1 hQ2;have HT:Hid (Tab w):=ht;clear ht;obtain ⟨i,hi,fp,dQ,eF⟩:=bE Tryz.infoTemplate;go_enter Tryz.func16,Tryz.ntmps16
  go_wp2_with fail
  refine (xL s _ hs).mono ?_
  rintro e w1 ⟨lv,rfl,bB,se⟩
  rcases se with ⟨dI,_⟩|⟨_,k9,xs,se⟩
  ·exact absurd h0 dI
  rw [h0];have NG:Hid _:=AJ;clear AJ h0;generalize (eT (ci s 0)).ds=ds at*;obtain ⟨ao,cap,rfl⟩:=aU se.row;have HF:Hid _:=ig _ ds xs w1.heap.size lH w1 (by omega) se (ah _);go_wp2_with fail
  refine (show Calls _ _ _ _ _ from HF.out).mono ?_
  rintro e w2 ⟨rfl,bX⟩
  clear HF;have ik:=bB.trans (bX.mono bB.size);have VT:=se.old (ah _) bX;have Hn:=bX.size;have Bj:Hid (Tab w2):=Tab.below HT.out ik;clear se bB bX HT;generalize hM:fnd ds lH=mn;have HM:Hid (fnd ds lH=mn):=hM;clear hM;go_wp2_with fail
  go_loopw [25] (fun a wr=>∃(k T:Nat) (fv:Value) (ys:List Value),k<=ds.length/\a=.int .i64 k/\Below w2.heap.size w2 wr/\wr.heap[w2.heap.size]?=some (.cells #[.int .i64 mn,fv] 63 (0,0))/\w2.heap.size<T/\T<=wr.heap.size/\wr.ownsRow (w2.heap.size+1) 79 2 fv k ys/\iy wr T ((ds.take k).map (CU ds)) ys) (fun a _=>ds.length-(intOf a).toNat)
  case atStart=>exact ⟨0,w2.heap.size+1,.slice none 0 0,[],aF _,rfl,(ai _ _).alloc (ah _) _,az w2 _,by omega,by simp,aM _ _ _ _,rfl⟩
  case round=>
   obtain ⟨k,T,fv,ys,hk,rfl,hb,ef,jN,Ky,bW,pN⟩:=hrel;have dk:=hb.size;have fG:w2.heap.size<wr.heap.size:=by omega
   have C0:=al wr w2.heap.size 0 _ _ _ ef;have C1:=al wr w2.heap.size 1 _ _ _ ef;simp only [ax,ap,aq] at C0 C1;obtain ⟨fo,fcap,rfl⟩:=aU bW;have et:=VT.old Hn hb;by_cases bF:k<ds.length
   ·obtain ⟨q,cap',hq,_,dX⟩:=VT.row.form (by omega);cases hq
    obtain ⟨pv,bv,t0,t1,t2,t3,t4,hd⟩:=et.all.at k bF;have d0:=aH et.row _ _ t0;have d1:=aH et.row _ _ t1;have d2:=aH et.row _ _ t2;have d3:=aH et.row _ _ t3;have d4:=aH et.row _ _ t4;obtain ⟨o1,p1,rfl⟩:=aU hd.1;obtain ⟨o2,p2,rfl⟩:=aU hd.2.1;clear t0 t1 t2 t3 t4;obtain ⟨EH,GJ⟩:=NG.out ds[k] (aE bF);have oD:=EH.lp;have HC:Hid _:=fun w' (hw:Below wr.heap.size wr w')=>Fy ds xs (.slice (some ⟨q,0,none⟩) ds.length cap) w1.heap.size ds[k] (.slice o1 ds[k].ps.length p1) (.slice o2 ds[k].body.length p2) w' oG oD EH.lb (et.old (by omega) hw) (by have:=hw.size;omega) (hd.keep (hw.mono (by omega))) GJ
    have p8:Hid (CU ds ds[k]=⟨ds[k].ps.length,uy ds[k].ps ds ds[k].body⟩):=rfl;have HMP:Hid _:=r8 (CU ds) ds k bF;generalize uy ds[k].ps ds ds[k].body=CL at*;have fE:Hid (Calls Tryz.prog 27 #[.slice (some ⟨q,0,none⟩) ds.length cap,.agg #[.int .i64 (bf ds[k].name.txt),.int .i64 ds[k].name.pos,.string ds[k].name.txt,.slice o1 ds[k].ps.length p1,.slice o2 ds[k].body.length p2]] (wr.alloc (Obj.cells #[.int .i64 (bf ds[k].name.txt),.int .i64 ds[k].name.pos,.string ds[k].name.txt,.slice o1 ds[k].ps.length p1,.slice o2 ds[k].body.length p2] 76)).drew fun e w3=>∃a b,e=.returned (.slice a CL.length b)/\w3.cell? ⟨wr.heap.size,3,none⟩=some (.slice o1 ds[k].ps.length p1)/\wr.heap.size<w3.heap.size/\Hid (Below wr.heap.size wr w3/\eg w3 w3.heap.size (.slice a CL.length b) CL)):=by
     refine (show Calls _ _ _ _ _ from HC.out _ (aR ((ai _ _).alloc (ah _) _))).mono ?_
     rintro e w3 ⟨lv3,rfl,df,GE⟩
     obtain ⟨lo3,lc3,tm⟩:∃a b,lv3=.slice a CL.length b:=by obtain ⟨vs,h1,_⟩:=GE;obtain ⟨a,b,e⟩:=aU h1;exact ⟨a,b,e⟩
     subst tm;have DD:=ng df;exact ⟨lo3,lc3,rfl,by rw [al w3 wr.heap.size 3 _ _ _ DD];rfl,(ae.1 DD).1,(aR ((ai _ _).alloc (ah _) _)).trans (df.mono (by simp [heap_drew])),GE⟩
    have ix:Hid (Calls Tryz.prog 27 #[.slice (some ⟨q,0,none⟩) ds.length cap,.agg #[.int .i64 (bf ds[k].name.txt),.int .i64 ds[k].name.pos,.string ds[k].name.txt,.slice o1 ds[k].ps.length p1,.slice o2 ds[k].body.length p2]] ((wr.alloc (Obj.cells #[.int .i64 (bf ds[k].name.txt),.int .i64 ds[k].name.pos,.string ds[k].name.txt,.slice o1 ds[k].ps.length p1,.slice o2 ds[k].body.length p2] 76)).alloc (Obj.cells #[.int .i64 0,.slice none 0 0] 79)).drew fun e w3=>∃a b,e=.returned (.slice a CL.length b)/\w3.cell? ⟨wr.heap.size,3,none⟩=some (.slice o1 ds[k].ps.length p1)/\wr.heap.size<w3.heap.size/\w3.cell? ⟨wr.heap.size+1,0,none⟩=some (.int .i64 0)/\w3.cell? ⟨wr.heap.size+1,1,none⟩=some (.slice none 0 0)/\w3.frozen? ⟨wr.heap.size+1,0,none⟩=false/\w3.frozen? ⟨wr.heap.size+1,1,none⟩=false/\Hid (w3.heap[wr.heap.size+1]?=some (.cells #[.int .i64 0,.slice none 0 0] 79 (0,0)))/\Hid (Below wr.heap.size wr w3/\eg w3 w3.heap.size (.slice a CL.length b) CL)):=by
     refine (show Calls _ _ _ _ _ from HC.out _ (aR (((ai _ _).alloc (ah _) _).alloc (by simp) _))).mono ?_
     rintro e w3 ⟨lv3,rfl,df,GE⟩
     obtain ⟨lo3,lc3,tm⟩:∃a b,lv3=.slice a CL.length b:=by obtain ⟨vs,h1,_⟩:=GE;obtain ⟨a,b,e⟩:=aU h1;exact ⟨a,b,e⟩
     subst tm;obtain ⟨x1,x2⟩:=uf df;exact ⟨lo3,lc3,rfl,by rw [al w3 wr.heap.size 3 _ _ _ x1];rfl,(ae.1 x1).1,by rw [al w3 (wr.heap.size+1) 0 _ _ _ x2];rfl,by rw [al w3 (wr.heap.size+1) 1 _ _ _ x2];rfl,aG w3 _ 0 _ _ x2,aG w3 _ 1 _ _ x2,x2,(aR (((ai _ _).alloc (ah _) _).alloc (by simp) _)).trans (df.mono (by simp [heap_drew];omega)),GE⟩
    clear et hd EH GJ HC;go_wp2_with fail
    go_cut [10] (fun vx wc=>∃(c:Nat) (lv:Value),vx=.pointer (some ⟨c,0,none⟩)/\wc.heap[c]?=some (.cells #[.int .i64 ds[k].ps.length,lv] 79 (0,0))/\wr.heap.size<=c/\Below wr.heap.size wr wc/\eg wc wc.heap.size lv CL)
    case first=>
     go_region_with (go_at_call 27;first
      |(refine (show Calls _ _ _ _ _ from fE.out).mono ?_;rintro e w3 ⟨lo3,lc3,rfl,y3,Gi,lq⟩)
      |(refine (show Calls _ _ _ _ _ from ix.out).mono ?_;rintro e w3 ⟨lo3,lc3,rfl,y3,Gi,z0,z1,fz0,fz1,HZB,lq⟩))
     all_goals
      go_wp2_with fail
      go_meet
      case rel=>
       first
       |exact ⟨w3.heap.size,_,rfl,az w3 _,by omega,lq.out.1.alloc (by omega) _,(lq.out.2.keep ((ai _ _).alloc (ah _) _)).up (by simp)⟩
       |exact ⟨wr.heap.size+1,_,rfl,bk _ (bk _ HZB.out),by omega,(lq.out.1.setCell (by show wr.heap.size<=wr.heap.size+1;omega) _).setCell (by show wr.heap.size<=wr.heap.size+1;omega) _,(lq.out.2.setT HZB.out|>.setT (bk _ HZB.out)).up (by simp [World.setCell])⟩
    case rest=>
     obtain ⟨c,lv3,rfl,V2,ahs,jq,Ez⟩:=hcut;clear fE ix d0 d1 d2 d3 d4 C0 C1;have jY:=(jq.block w2.heap.size fG).trans ef;have C1:=al wc w2.heap.size 1 _ _ _ jY;have D0:=al wc c 0 _ _ _ V2;have D1:=al wc c 1 _ _ _ V2;simp only [ax,ap,aq] at C1 D0 D1;have ir:=aQ bW jq;have GX:=(pN.keep (jq.mono Ky)).up (aJ Ky jq.size);have aaU:=jq.size;obtain ⟨lo3,lc3,tm⟩:∃a b,lv3=.slice a CL.length b:=by obtain ⟨vs,h1,_⟩:=Ez;obtain ⟨a,b,e⟩:=aU h1;exact ⟨a,b,e⟩
     subst tm;go_wp2_with (at_builtin;go_must (refine wpList_append_lies _ rfl _ _ _ rfl (w2.heap.size+1) 79 i _ 2 32 Tryz.underlying61 hi fp dQ eF rfl (by omega) (.slice fo k fcap) k ys rfl ?hown _ 1 _ [.int .i64 ds[k].ps.length,.slice lo3 CL.length lc3] rfl rfl ?dA ?h1 (by omega) ?kj ?cP ?cX _ rfl ?_))
     case hown=>exact ir.alloc _
     case dA=>exact World.news_of_block (az wc _)
     case h1=>simp [Value.oneCell']
     case kj=>unfold maxLen;omega
     case cP=>omega
     case cX=>simp;omega
     intro g cap2 w4 jy ga yN yy;have yL:=br (ir.alloc _) ga (by decide) ((aO wc _ _ (by omega)).trans jY);have E1:=al w4 w2.heap.size 1 _ _ _ yL;simp only [ax,ap,aq] at E1;have f1:=aG w4 w2.heap.size 1 _ _ yL;have Hg:Below w2.heap.size w2 w4:=((hb.trans (jq.mono dk)).alloc (by omega) _).grown ga (by simp;omega) (fun k hk=>by have:=(ir.lt k hk).1;omega);have aaz:iy w4 wc.heap.size ((ds.take (k+1)).map (CU ds)) (ys++[.int .i64 ds[k].ps.length,.slice lo3 CL.length lc3]):=by
      rw [HMP.out,p8.out];exact iy.type (ir.alloc _) ga ((iy.snoc (t:=⟨ds[k].ps.length,CL⟩) Ez GX).keep ((ai _ _).alloc (ah _) _))
     have Ke:=ga.size;simp only [bT] at Ke;clear ga yN yy C1 D0 D1;go_wp2_with fail
     go_roundw
     case rel=>exact ⟨k+1,wc.heap.size,_,_,bF,by go_num,Hg.setCell (by exact ah _) _,bk _ yL,by omega,by simp [World.setCell];omega,aB jy yL (by decide),iy.set yL aaz⟩
     case measure=>simp [intOf];omega
   ·have eh:k=ds.length:=by omega
    subst eh;rw [bA] at pN;have mo:dS wr wr.heap.size (.slice fo ds.length fcap) (dL ds).fs:=iy.rd (by simp only [dL,bK];exact bO bW (aF _)) (fun k hk=>(bW.lt k hk).2) (pN.up Ky);have HW:Hid _:=Mw (dL ds) _ wr.heap.size wr (ah _) mo (Tab.below Bj.out hb);have ND:Hid ((dL ds).mn=mn):=HM.out;rw [ND.out,sw.out,LZ.out] at HW;clear mo pN;go_wp2_with fail
    refine (show Calls _ _ _ _ _ from HW.out).mono ?_
    rintro e w3 ⟨x,rfl,hx,kA,df⟩
    go_wp2_with fail
    go_ret2
    exact ⟨x,rfl,hx,kA,ik.trans ((hb.trans (df.mono dk)).mono ik.size)⟩
 ·have vq:((chk s).2==0)=false:=by simpa using h0
  have HE:Hid (xy s=(chk s).2):=by show _=_;unfold xy;rw [ay h0]
  have HS:Hid (y8 s=[]):=by show _=_;unfold y8;rw [ay h0]
  rw [HE.out];go_enter Tryz.func16,Tryz.ntmps16
  go_wp2_with fail
  refine (xL s _ hs).mono ?_
  rintro e w1 ⟨lv,rfl,bB,_⟩
  go_wp2_with fail
  go_ret2
  exact ⟨_,rfl,HS.out.symm,by decide,bB⟩
theorem Bv (s:ByteArray) (w:World) (hs:s.size<=maxLen) (ht:Tab w):
 Calls Tryz.prog 11 #[.string s] w fun e w'=>∃x:ByteArray,e=.returned (.tuple #[.string x,.int .i64 (xy s)])/\x.data.toList=y8 s/\x.size<=20000/\Below w.heap.size w w':=by
 have HC:Hid _:=rU s w hs ht (fun h=>⟨(jH s h).2.2.2,(jH s h).2.2.1⟩);go_enter Tryz.func11,Tryz.ntmps11
 go_wp2_with fail
 refine (show Calls _ _ _ _ _ from HC.out).mono ?_
 rintro e w1 ⟨x,rfl,hx,kA,bB⟩
 go_wp2_with fail
 go_ret2
 exact ⟨x,rfl,hx,kA,bB⟩
def nI:List (List UInt8)->List UInt8
 |[]=>[]
 |[w]=>w
 |w::x::ws=>w++32::nI (x::ws)
theorem WZ {a b:ByteArray} (h:a.data.toList=b.data.toList):a=b:=by
 cases a;cases b
 congr 1
 exact Array.toList_inj.1 h
theorem IA {r:ByteArray} {pre post:List UInt8} {c:UInt8} (h:r.data.toList=pre++c::post):pre.length<r.size/\bt r pre.length=(c.toNat:Int):=by
 have hl:pre.length<r.data.toList.length:=by rw [h];simp
 refine ⟨by rw [cg];exact hl,?_⟩
 rw [nY r pre.length hl];congr 1
 have:r.data.toList[pre.length]?=some c:=by rw [h];simp
 rw [aj hl] at this;rw [Option.some.inj this]
theorem vJ (r:ByteArray) (b:Nat):∀(w pre post:List UInt8) (acc:List ByteArray),r.data.toList=pre++(w++post)->(∀c∈w,c≠10/\c≠32)->wrd r b pre.length acc=wrd r b (pre.length+w.length) acc
 |[],pre,post,acc,_,_=>rfl
 |c::w,pre,post,acc,h,hg=>by
  obtain ⟨h1,h2⟩:=IA (r:=r) (pre:=pre) (post:=w++post) (c:=c) (by rw [h];simp);have hc:=hg c (by simp);have n1:bt r pre.length≠10:=by
   rw [h2];intro e;exact hc.1 (dF.1 (show c.toNat=10 from by omega))
  have n2:bt r pre.length≠32:=by
   rw [h2];intro e;exact hc.2 (dF.1 (show c.toNat=32 from by omega))
  rw [E2 r b pre.length acc h1 n1 n2];have:=vJ r b w (pre++[c]) post acc (by rw [h];simp) (fun x hx=>hg x (by simp [hx]));rw [au,aD,bp] at this;rw [aD,show pre.length+(w.length+1)=pre.length+(0+1)+w.length by omega];exact this
theorem l6 {r:ByteArray} {pre w post:List UInt8} (h:r.data.toList=pre++(w++post)):r.extract pre.length (pre.length+w.length)=⟨w.toArray⟩:=by
 apply WZ
 rw [ByteArray.data_extract,Array.toList_extract,h,List.extract_eq_take_drop];simp
theorem vK (r:ByteArray):∀(ws:List (List UInt8)) (pre post:List UInt8) (acc:List ByteArray),ws≠[]->(∀w∈ws,∀c∈w,c≠10/\c≠32)->r.data.toList=pre++(nI ws++10::post)->wrd r pre.length pre.length acc=some (acc++ws.map (fun w=>⟨w.toArray⟩),pre.length+(nI ws).length+1)
 |[],_,_,_,h,_,_=>absurd rfl h
 |[w],pre,post,acc,_,hg,h=>by
  rw [nI] at h ⊢;rw [vJ r pre.length w pre (10::post) acc h (hg w (by simp))];obtain ⟨h1,h2⟩:=IA (r:=r) (pre:=pre++w) (post:=post) (c:=10) (by rw [h];simp);rw [au] at h1 h2;rw [E0 r pre.length (pre.length+w.length) acc h1 h2,l6 h];rfl
 |w::x::ws,pre,post,acc,_,hg,h=>by
  rw [nI] at h ⊢;have h':r.data.toList=pre++(w++(32::(nI (x::ws)++10::post))):=by rw [h];simp
  rw [vJ r pre.length w pre (32::(nI (x::ws)++10::post)) acc h' (hg w (by simp))];obtain ⟨h1,h2⟩:=IA (r:=r) (pre:=pre++w) (post:=nI (x::ws)++10::post) (c:=32) (by rw [h'];simp);rw [au] at h1 h2;rw [EZ r pre.length (pre.length+w.length) acc h1 h2,l6 h'];have:=vK r (x::ws) (pre++w++[32]) post (acc++[⟨w.toArray⟩]) (by simp) (fun y hy=>hg y (by simp at hy ⊢;exact .inr hy)) (by rw [h'];simp);simp only [au,aD,bp] at this;rw [show pre.length+w.length+(0+1)=pre.length+w.length+1 by omega] at this;rw [this];simp;omega
theorem tQ (n:Nat) (h:n<10):(UInt8.ofNat (48+n)).toNat=48+n:=by
 rw [UInt8.toNat_ofNat'];omega
theorem sn (n:Nat):mB (iY n):=by
 fun_induction iY n with
 |case1 n h=>intro c hc;simp only [aK,ck,dV] at hc;subst hc;rw [tQ n h];omega
 |case2 n h ih=>
  intro c hc;rcases be.1 hc with hc|hc
  ·exact ih c hc
  ·simp only [aK,ck,dV] at hc;subst hc;rw [tQ (n%10) (by omega)];omega
theorem Lm (n:Nat):jW (iY n)=(n:Int):=by
 fun_induction iY n with
 |case1 n h=>
  have:=tQ n h;simp only [jW,dv,List.foldl_nil];rw [this];omega
 |case2 n h ih=>
  rw [lB,ih,tQ (n%10) (by omega)];omega
theorem y5 (n:Nat) (h1:1<=n):∃d t,iY n=d::t/\49<=d.toNat:=by
 fun_induction iY n with
 |case1 n h=>exact ⟨_,[],rfl,by rw [tQ n h];omega⟩
 |case2 n h ih=>
  obtain ⟨d,t,e,hd⟩:=ih (by omega);exact ⟨d,t++[UInt8.ofNat (48+n%10)],by rw [e];rfl,hd⟩
theorem Ru (n:Nat):iY n≠[]:=by
 rw [iY];split<;>simp
theorem wp (n:Nat) (h:n<=999999):eP ⟨(iY n).toArray⟩=true/\qg ⟨(iY n).toArray⟩=(n:Int):=by
 have hd:(⟨(iY n).toArray⟩:ByteArray).data.toList=iY n:=rfl;have iG:(⟨(iY n).toArray⟩:ByteArray).size=(iY n).length:=by rw [cg]
 have h6:=gC n h;have hp:1<=(iY n).length:=fw.2 (Ru n);have ew:eP ⟨(iY n).toArray⟩=true:=by
  simp only [eP,aN,aL,b8,iG];refine ⟨hp,h6,?_,sn n⟩
  rw [fW,cC];by_cases hn:n<10
  ·right;rw [jh n hn];simp
  ·left
   obtain ⟨d,t,e,h49⟩:=y5 n (by omega);obtain ⟨_,hb⟩:=IA (r:=⟨(iY n).toArray⟩) (pre:=[]) (post:=t) (c:=d) (by rw [hd,e];rfl);simp only [bp] at hb;rw [hb];simp;omega
 refine ⟨ew,?_⟩
 unfold qg;rw [ew];simp only [cQ];exact Lm n
def atW (a:Int×Int):List UInt8:=Ep a.1::iY a.2.toNat
theorem BZ:∀(l:Ln),l≠[]->lnL l=nI (l.map atW)
 |[],h=>absurd rfl h
 |[a],_=>by simp [lnL,atL,nI,atW]
 |a::b::l,_=>by
  have ih:=BZ (b::l) (by simp);unfold lnL at ih ⊢;rw [dy,cW,cW,nI,<-cW,<-ih];simp [atL,atW]
theorem OG (k:Int):Ep k≠10/\Ep k≠32:=by
 unfold Ep
 repeat' split
 all_goals decide
theorem Ij {l:List UInt8} (h:mB l):∀c∈l,c≠10/\c≠32:=by
 intro c hc;have:=h c hc;refine ⟨?_,?_⟩
 ·rintro rfl;simp at this
 ·rintro rfl;simp at this
theorem W2 (a:Int×Int):∀c∈atW a,c≠10/\c≠32:=by
 intro c hc;rcases aK.1 hc with rfl|hc
 ·exact OG _
 ·exact Ij (sn _) c hc
theorem O4 (k:Int) (h1:1<=k) (h5:k<=5):kL ((Ep k).toNat:Int)=k:=by
 have:k=1\/k=2\/k=3\/k=4\/k=5:=by omega
 rcases this with rfl|rfl|rfl|rfl|rfl<;>rfl
theorem IG {a:Int×Int} (h:LJ a):atK ⟨(atW a).toArray⟩=true/\atV ⟨(atW a).toArray⟩=a:=by
 obtain ⟨h1,h2,h3,h4⟩:=h;have hd:(⟨(atW a).toArray⟩:ByteArray).data.toList=atW a:=rfl;have iG:(⟨(atW a).toArray⟩:ByteArray).size=(iY a.2.toNat).length+1:=by rw [cg];simp [atW]
 have he:(⟨(atW a).toArray⟩:ByteArray).extract 1 (⟨(atW a).toArray⟩:ByteArray).size=⟨(iY a.2.toNat).toArray⟩:=by
  have:=l6 (r:=⟨(atW a).toArray⟩) (pre:=[Ep a.1]) (w:=iY a.2.toNat) (post:=[]) (by rw [hd];simp [atW]);simp only [aD,bp] at this;rw [iG,show (iY a.2.toNat).length+1=0+1+(iY a.2.toNat).length by omega];exact this
 obtain ⟨n1,n2⟩:=wp a.2.toNat (by omega);obtain ⟨_,hb⟩:=IA (r:=⟨(atW a).toArray⟩) (pre:=[]) (post:=iY a.2.toNat) (c:=Ep a.1) (by rw [hd];rfl);simp only [bp] at hb;refine ⟨by unfold atK;rw [he,n1,iG];simp,?_⟩
 unfold atV;rw [ay (by rw [iG];omega),he,n2,hb,O4 a.1 h1 h2];obtain ⟨x,y⟩:=a;simp only;congr 1
 simp only at h3;omega
theorem xN {r:ByteArray} {line post:List UInt8} (h:r.data.toList=line++10::post):(r.extract (line.length+1) r.size).data.toList=post:=by
 have:=l6 (r:=r) (pre:=line++[10]) (w:=post) (post:=[]) (by rw [h];simp);rw [au,aD,bp] at this;have hs:r.size=line.length+(0+1)+post.length:=by rw [cg,h];simp;omega
 rw [hs,this]
theorem OE {r:ByteArray} {l:Ln} {post:List UInt8} (hl:l≠[]) (ew:∀a∈l,LJ a) (h:r.data.toList=lnT l++post):gw r=true/\gE r=l/\(dz r).data.toList=post:=by
 have h2:r.data.toList=[]++(nI (l.map atW)++10::post):=by rw [h,lnT,BZ l hl];simp
 have hw:=vK r (l.map atW) [] post [] (by simpa using hl) (fun w hw=>by obtain ⟨a,_,rfl⟩:=bZ.1 hw;exact W2 a) h2;simp only [bp,di,cr,ji] at hw;have ip:(l.map ((fun w:List UInt8=>(⟨w.toArray⟩:ByteArray)) ∘ atW)).all atK=true:=by
  rw [b8];intro x hx;obtain ⟨a,ha,rfl⟩:=bZ.1 hx;exact (IG (ew a ha)).1
 refine ⟨by unfold gw;rw [hw];exact ip,?_,?_⟩
 ·unfold gE;rw [hw];simp only [ip,cQ,ji];exact (ft (g:=id) (fun a ha=>(IG (ew a ha)).2)).trans (List.map_id l)
 ·unfold dz;rw [hw];exact xN (line:=nI (l.map atW)) (by rw [h2];rfl)
theorem G5 {r:ByteArray} {c:UInt8} {a b:Nat} {post:List UInt8} (ha:a<=999999) (hb:b<=999999) (hc:c≠10/\c≠32) (h:r.data.toList=hdL c a b++post):jX c r=true/\jo c r=(a:Int)/\iK c r=(b:Int)/\(dz r).data.toList=post:=by
 have h2:r.data.toList=[]++(nI [[c],iY a,iY b]++10::post):=by rw [h];simp [hdL,nI]
 have hw:=vK r [[c],iY a,iY b] [] post [] (by simp) (fun w hw=>by
  simp only [aK,ck,dV] at hw;rcases hw with rfl|rfl|rfl
  ·intro x hx;simp only [aK,ck,dV] at hx;subst hx;exact hc
  ·exact Ij (sn _)
  ·exact Ij (sn _)) h2
 simp only [bp,di,cr,cW,fB] at hw;obtain ⟨a1,a2⟩:=wp a ha;obtain ⟨b1,b2⟩:=wp b hb;have QG:((⟨[c].toArray⟩:ByteArray).toList==[c])=true:=by rw [bU];simp
 refine ⟨?_,?_,?_,?_⟩
 ·unfold jX;rw [hw];simp only [aD,bp,aq,ap,b6,QG,a1,b1];rfl
 ·unfold jo;rw [hw];simp only [aD,bp,aq,ap,b6,QG,a1];exact a2
 ·unfold iK;rw [hw];simp only [aD,bp,aq,ap,b6,QG,a1];exact b2
 ·unfold dz;rw [hw];exact xN (line:=nI [[c],iY a,iY b]) (by rw [h2];rfl)
theorem K9 {nf:Nat} {ar:Int} {nl j:Nat} {l:Ln} (h:fy nf ar nl j l=true):l≠[]:=by
 simp only [fy,aN,aL] at h;intro e;rw [e] at h;simp at h
theorem uU (nf:Nat) (ar:Int) (nl:Nat):∀(L:List Ln) (j:Nat) (r:ByteArray) (post:List UInt8),dM nf ar nl j L=true->(∀l∈L,X1 l)->r.data.toList=L.flatMap lnT++post->(cU nf ar nl L.length j r).1=some L/\(cU nf ar nl L.length j r).2.1.data.toList=post/\(cU nf ar nl L.length j r).2.2=L.length
 |[],j,r,post,_,_,h=>⟨rfl,h,rfl⟩
 |l::L,j,r,post,hg,ew,h=>by
  rw [dM,aN] at hg;obtain ⟨e1,e2,e3⟩:=OE (post:=L.flatMap lnT++post) (K9 hg.1) (ew l (by simp)).2 (by rw [h];simp);obtain ⟨i1,i2,i3⟩:=uU nf ar nl L (j+1) (dz r) post hg.2 (fun x hx=>ew x (by simp [hx])) e3;have hc:(gw r && fy nf ar nl j (gE r))=true:=by rw [e1,e2,hg.1];rfl
  rw [aD,cU,aA hc,i1,e2];exact ⟨rfl,i2,by rw [i3]⟩
theorem NT (nf:Nat) (m:Bool) (t:Tp) (r:ByteArray) (post:List UInt8) (hs:iX t.ar ((t.ls.length:Int)-1) m=true) (hg:dM nf t.ar t.ls.length 0 t.ls=true) (ew:Sf t) (h:r.data.toList=tpL t++post):(dO nf m r).1=some t/\(dO nf m r).2.1.data.toList=post/\(dO nf m r).2.2=t.ls.length+1:=by
 obtain ⟨k1,k2,k3,k4,k5⟩:=ew;obtain ⟨e1,e2,e3,e4⟩:=G5 (r:=r) (c:=70) (a:=t.ar.toNat) (b:=t.ls.length-1) (post:=t.ls.flatMap lnT++post) (by omega) (by omega) (by decide) (by rw [h];simp [tpL]);have ea:jo 70 r=t.ar:=by rw [e2];omega
 have eb:iK 70 r=(t.ls.length:Int)-1:=by rw [e3];omega
 have en:(iK 70 r).toNat+1=t.ls.length:=by rw [eb];omega
 obtain ⟨i1,i2,i3⟩:=uU nf t.ar t.ls.length t.ls 0 (dz r) post hg k5 e4;have hc:(jX 70 r && iX (jo 70 r) (iK 70 r) m)=true:=by rw [e1,ea,eb,hs];rfl
 unfold dO;rw [aA hc,en,ea,i1];exact ⟨rfl,i2,by rw [i3]⟩
theorem yV (nf:Nat) (mn:Int):∀(F:List Tp) (j:Nat) (r:ByteArray) (post:List UInt8),kM nf mn j F=true->(∀t∈F,Sf t)->r.data.toList=F.flatMap tpL++post->(ey nf mn F.length j r).1=some F/\(ey nf mn F.length j r).2.1.data.toList=post
 |[],j,r,post,_,_,h=>⟨rfl,h⟩
 |t::F,j,r,post,hg,ew,h=>by
  rw [kM,aN,aN] at hg;obtain ⟨e1,e2,_⟩:=NT nf ((j:Int)==mn) t r (F.flatMap tpL++post) hg.1 hg.2.1 (ew t (by simp)) (by rw [h];simp);obtain ⟨i1,i2⟩:=yV nf mn F (j+1) (dO nf ((j:Int)==mn) r).2.1 post hg.2.2 (fun x hx=>ew x (by simp [hx])) e2;rw [aD,ey,e1];simp only [i1,gF];exact ⟨trivial,i2⟩
theorem tT (c:Cd) (hg:jK c=true) (r:ByteArray) (h:r.data.toList=cdL c):(iC r).1=some c:=by
 obtain ⟨k1,k2,k3,k4,k5⟩:=wU hg;rw [Cq,aN] at hg;obtain ⟨e1,e2,e3,e4⟩:=G5 (r:=r) (c:=77) (a:=c.mn.toNat) (b:=c.fs.length) (post:=c.fs.flatMap tpL) (by omega) (by omega) (by decide) h;have ea:jo 77 r=c.mn:=by rw [e2];omega
 obtain ⟨i1,i2⟩:=yV c.fs.length c.mn c.fs 0 (dz r) [] hg.2 k5 (by rw [e4];simp);have hc:(jX 77 r && gg (jo 77 r) (iK 77 r))=true:=by rw [e1,ea,e3,hg.1];rfl
 unfold iC;rw [aA hc,e3,ea,bC,i1];have hz:(ey c.fs.length c.mn c.fs.length 0 (dz r)).2.1.size=0:=by rw [cg,i2];rfl
 simp only [hz,cQ]
end Go.Proofs.YtnndoagpbcacdabGreatDoor
