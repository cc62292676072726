import Derived.Test.YtnndoagpbcacdabGreatDoorMA5
import Derived.Deep.RegionWith
namespace Go.Proofs.YtnndoagpbcacdabGreatDoor
set_option maxHeartbeats 8000000
open Go.RowKit
def qY (ps:List Tk) (n:ByteArray):Bool:=ps.any fun p=>p.txt.toList==n.toList
def vm (ds:List Df) (n:ByteArray):Bool:=ds.any fun d=>d.name.txt.toList==n.toList
theorem pZ {α:Type} (l:List α) (f:α->Bool) (k:Nat) (h:k<l.length):(l.take (k+1)).any f=((l.take k).any f||f l[k]):=by
 rw [aT h,List.any_append];simp only [List.any_cons,List.any_nil,Bool.or_false]
theorem RB {α:Type} (l:List α) (f:α->Bool) (k:Nat) (h:k<l.length) (hf:f l[k]=true):l.any f=true:=by
 rw [List.any_eq_true];exact ⟨l[k],aE h,hf⟩
def whr (ts:List Tk) (s:ByteArray):Int:=match ts.findIdx? (fun t=>t.txt.toList==s.toList) with
 |some i=>(i:Int)
 |none=>-1
theorem Bw (ts:List Tk) (s:ByteArray):decide (0<=whr ts s)=qY ts s:=by
 unfold whr qY;cases h:ts.findIdx? (fun t=>t.txt.toList==s.toList) with
 |none=>
  rw [List.findIdx?_eq_none_iff] at h;have:ts.any (fun p=>p.txt.toList==s.toList)=false:=by
   rw [List.any_eq_false];intro x hx;simpa using h x hx
  rw [this];rfl
 |some i=>
  have:=cY.1 h;obtain ⟨hi,h1,_⟩:=this;rw [RB ts _ i hi h1];simp
theorem lP {ts:List Tk} {s:ByteArray} (h:qY ts s=true):0<=whr ts s:=by rw [<-Bw] at h;simpa using h
theorem vN {ts:List Tk} {s:ByteArray} (h:qY ts s=false):whr ts s<0:=by rw [<-Bw] at h;simpa using h
theorem iU (ds:List Df) (s:ByteArray):qY (ds.map (·.name)) s=vm ds s:=by
 unfold qY vm;rw [List.any_map];rfl
theorem qQ {ts:List Tk} {n:ByteArray} (k:Nat) (h:k<ts.length) (h0:qY (ts.take k) n=false) (he:(ts[k].txt.toList==n.toList)=true):whr ts n=(k:Int):=by
 have:ts.findIdx? (fun t=>t.txt.toList==n.toList)=some k:=by
  rw [cY];refine ⟨h,he,?_⟩
  intro j hj;unfold qY at h0;rw [List.any_eq_false] at h0;have:=h0 ts[j] (List.mem_take_iff_getElem.2 ⟨j,by omega,rfl⟩);simpa using this
 unfold whr;rw [this]
theorem oY {ts:List Tk} {n:ByteArray} (h0:qY ts n=false):whr ts n= -1:=by
 have:ts.findIdx? (fun t=>t.txt.toList==n.toList)=none:=by
  rw [List.findIdx?_eq_none_iff];unfold qY at h0;rw [List.any_eq_false] at h0;intro x hx;simpa using h0 x hx
 unfold whr;rw [this]
theorem vM {ts:List Tk} {n:ByteArray} (h0:qY ts n=true):∃i:Nat,i<ts.length/\whr ts n=(i:Int):=by
 have h:=lP h0;unfold whr at h ⊢;cases hf:ts.findIdx? (fun t=>t.txt.toList==n.toList) with
 |none=>rw [hf] at h;simp at h
 |some i=>exact ⟨i,(cY.1 hf).1,rfl⟩
theorem iI (v:Value) (ps:List Tk) (n:ByteArray) (w:World) (hl:ps.length<=1000000) (hv:w.ownsRow 0 73 3 v ps.length (tcs ps)):
 Calls Tryz.prog 81 #[v,.string n] w fun e w'=>e=.returned (.int .i64 (whr ps n))/\Below w.heap.size w w':=by
 obtain ⟨ao,cap,rfl⟩:=aU hv;go_enter Tryz.func81,Tryz.ntmps81
 go_wp2_with fail
 go_loopw [9] (fun a wr=>∃(k:Nat),k<=ps.length/\a=.int .i64 k/\Hid (qY (ps.take k) n=false)/\Below w.heap.size w wr) (fun a _=>ps.length-(intOf a).toNat)
 case atStart=>exact ⟨0,aF _,rfl,by simp [Hid,qY],ai _ _⟩
 case round=>
  obtain ⟨k,hk,rfl,HH,hb⟩:=hrel;by_cases bF:k<ps.length
  ·obtain ⟨q,cap',hq,_,dX⟩:=hv.form (by omega);cases hq
   have et:=aQ hv hb;have ⟨t0,t1,t2⟩:=o8 ps k bF;have d0:=aH et _ _ t0;have d1:=aH et _ _ t1;have d2:=aH et _ _ t2;clear t0 t1 t2 et;cases he:(ps[k].txt.toList==n.toList)
   ·go_wp2_with fail
    go_roundw
    case rel=>exact ⟨k+1,by omega,by go_num,by show qY _ _=_;unfold qY;rw [pZ _ _ _ bF];simp only [he,Bool.or_false];exact HH.out,hb.alloc hb.size _⟩
    case measure=>simp [intOf];omega
   ·have HE:Hid ((k:Int)=whr ps n):=(qQ k bF HH.out he).symm;go_wp2_with fail
    go_ret
    exact ⟨ee HE.out,hb.alloc hb.size _⟩
  ·have HE:Hid ((-1:Int)=whr ps n):=by have:=HH.out;rw [bN (by omega)] at this;exact (oY this).symm
   go_wp2_with fail
   go_ret
   exact ⟨ee HE.out,hb⟩
theorem g9.at {w:World} {T:Nat}:∀{ds:List Df} {xs:List Value},g9 w T ds xs->∀(i:Nat) (h:i<ds.length),∃pv bv,xs[i*5]?=some (.int .i64 (bf (ds[i]'h).name.txt))/\xs[i*5+1]?=some (.int .i64 (ds[i]'h).name.pos)/\xs[i*5+2]?=some (.string (ds[i]'h).name.txt)/\xs[i*5+3]?=some pv/\xs[i*5+4]?=some bv/\DOk w T (ds[i]'h) pv bv
 |[],_,_,i,h=>by simp at h
 |d::ds,_,⟨pv,bv,r,rfl,h2,h3⟩,0,_=>⟨pv,bv,rfl,rfl,rfl,rfl,rfl,h2⟩
 |d::ds,_,⟨pv,bv,r,rfl,h2,h3⟩,i+1,h=>by
  obtain ⟨p,b,e0,e1,e2,e3,e4,e5⟩:=g9.at h3 i (by simpa using h);refine ⟨p,b,?_,?_,?_,?_,?_,e5⟩
  ·rw [show (i+1)*5=i*5+1+1+1+1+1 by omega];exact e0
  ·rw [show (i+1)*5+1=(i*5+1)+1+1+1+1+1 by omega];exact e1
  ·rw [show (i+1)*5+2=(i*5+2)+1+1+1+1+1 by omega];exact e2
  ·rw [show (i+1)*5+3=(i*5+3)+1+1+1+1+1 by omega];exact e3
  ·rw [show (i+1)*5+4=(i*5+4)+1+1+1+1+1 by omega];exact e4
structure DR (w:World) (v:Value) (ds:List Df) (xs:List Value) (T:Nat):Prop where
 row:w.ownsRow 0 76 5 v ds.length xs
 all:g9 w T ds xs
theorem DR.old {w w':World} {v:Value} {ds:List Df} {xs:List Value} {T:Nat} (h:DR w v ds xs T) (hT:T<=w.heap.size) (hb:Below w.heap.size w w'):DR w' v ds xs T:=
 ⟨aQ h.row hb,h.all.keep (hb.mono hT)⟩
theorem mK {w:World} {base:Nat} {e:TypeId} {size n q cap m:Nat} {xs:List Value} (h:w.ownsRow base e size (.slice (some ⟨q,0,none⟩) n cap) n xs) (hm:m<=n):w.ownsRow base e size (.slice (some ⟨q,0,none⟩) m cap) m (xs.take (m*size)):=by
 obtain ⟨h1,h2⟩:=h;have Jc:m*size<=n*size:=dq _ hm;refine ⟨by rw [cF,h1,gH Jc],?_⟩
 rcases h2 with ⟨h0,_⟩|⟨g,cap',cur,h0,hg,hh,hn,hc,hs,ht⟩
 ·cases h0
 ·cases h0
  refine .inr ⟨q,cap,cur,rfl,hg,hh,by omega,hc,hs,?_⟩
  rw [<-ht,List.take_take,gH Jc]
theorem g9.take {w:World} {T:Nat}:∀{ds:List Df} {xs:List Value},g9 w T ds xs->∀i,g9 w T (ds.take i) (xs.take (i*5))
 |_,xs,h,0=>by simp [g9]
 |[],_,h,i+1=>by rw [show _=([]:List Value) from h];simp [g9]
 |d::ds,_,⟨pv,bv,r,rfl,h2,h3⟩,i+1=>by
  have:=g9.take h3 i;refine ⟨pv,bv,r.take (i*5),?_,h2,this⟩
  rw [show (i+1)*5=i*5+1+1+1+1+1 by omega];rfl
theorem JB (ts:List Tk) (i:Nat):(tcs ts).take (i*3)=tcs (ts.take i):=by
 induction ts generalizing i with
 |nil=>simp [tcs]
 |cons t r ih=>
  cases i with
  |zero=>simp [tcs]
  |succ i=>
   have:=ih i;simp only [tcs,dy,lC,ei] at this ⊢;rw [show (i+1)*3=i*3+1+1+1 by omega];simp [this]
def fnd (ds:List Df) (n:ByteArray):Int:=whr (ds.map (·.name)) n
theorem sk {ds:List Df} {n:ByteArray} (h:vm ds n=false):fnd ds n= -1:=oY (by rw [iU];exact h)
theorem wW {ds:List Df} {n:ByteArray} (h:vm ds n=true):∃i:Nat,i<ds.length/\fnd ds n=(i:Int):=by
 obtain ⟨i,h1,h2⟩:=vM (ts:=ds.map (·.name)) (n:=n) (by rw [iU];exact h);exact ⟨i,by simpa using h1,h2⟩
theorem ig (v:Value) (ds:List Df) (xs:List Value) (T:Nat) (n:ByteArray) (w:World) (hl:ds.length<=1000000) (hv:DR w v ds xs T) (hT:T<=w.heap.size):
 Calls Tryz.prog 26 #[v,.string n] w fun e w'=>e=.returned (.int .i64 (fnd ds n))/\Below w.heap.size w w':=by
 obtain ⟨ao,cap,rfl⟩:=aU hv.row;go_enter Tryz.func26,Tryz.ntmps26
 go_wp2_with fail
 go_loopw [9] (fun a wr=>∃(k:Nat),k<=ds.length/\a=.int .i64 k/\Hid (vm (ds.take k) n=false)/\Below w.heap.size w wr) (fun a _=>ds.length-(intOf a).toNat)
 case atStart=>exact ⟨0,aF _,rfl,by simp [Hid,vm],ai _ _⟩
 case round=>
  obtain ⟨k,hk,rfl,HH,hb⟩:=hrel;by_cases bF:k<ds.length
  ·obtain ⟨q,cap',hq,_,dX⟩:=hv.row.form (by omega);cases hq
   have et:=hv.old hT hb;obtain ⟨pv,bv,t0,t1,t2,t3,t4,hd⟩:=et.all.at k bF;have d0:=aH et.row _ _ t0;have d1:=aH et.row _ _ t1;have d2:=aH et.row _ _ t2;have d3:=aH et.row _ _ t3;have d4:=aH et.row _ _ t4;obtain ⟨o1,p1,rfl⟩:=aU hd.1;obtain ⟨o2,p2,rfl⟩:=aU hd.2.1;clear t0 t1 t2 t3 t4 et hd;cases he:(ds[k].name.txt.toList==n.toList)
   ·go_wp2_with fail
    go_roundw
    case rel=>exact ⟨k+1,by omega,by go_num,by show vm _ _=_;unfold vm;rw [pZ _ _ _ bF];simp only [he,Bool.or_false];exact HH.out,hb.alloc hb.size _⟩
    case measure=>simp [intOf];omega
   ·have HE:Hid ((k:Int)=fnd ds n):=(qQ k (by simpa using bF) (by rw [<-dY,iU];exact HH.out) (by simpa using he)).symm;go_wp2_with fail
    go_ret
    exact ⟨ee HE.out,hb.alloc hb.size _⟩
  ·have HE:Hid ((-1:Int)=fnd ds n):=by have:=HH.out;rw [bN (by omega)] at this;exact (sk this).symm
   go_wp2_with fail
   go_ret
   exact ⟨ee HE.out,hb⟩
def jv (ps:List Tk):Nat->List Tk->Option Nat
 |_,[]=>none
 |j,p::r=>if qY (ps.take j) p.txt then some p.pos else jv ps (j+1) r
def fC (ds:List Df):Nat->List Df->Option Nat
 |_,[]=>none
 |i,d::r=>if vm (ds.take i) d.name.txt then some d.name.pos else match jv d.ps 0 d.ps with
  |some p=>some p
  |none=>fC ds (i+1) r
def gL (o:Option Nat) (e:Int):Int×Int:=match o with
 |some p=>(p,e)
 |none=>(0,0)
theorem DR.take {w:World} {q cap k T:Nat} {ds:List Df} {xs:List Value} (h:DR w (.slice (some ⟨q,0,none⟩) ds.length cap) ds xs T) (hk:k<=ds.length):DR w (.slice (some ⟨q,0,none⟩) k cap) (ds.take k) (xs.take (k*5)) T:=
 ⟨by rw [cF,gH hk];exact mK h.row hk,h.all.take k⟩
theorem Jy {w:World} {base q cap k:Nat} {ts:List Tk} (h:w.ownsRow base 73 3 (.slice (some ⟨q,0,none⟩) ts.length cap) ts.length (tcs ts)) (hk:k<=ts.length):w.ownsRow base 73 3 (.slice (some ⟨q,0,none⟩) k cap) (ts.take k).length (tcs (ts.take k)):=by
 rw [cF,gH hk,<-JB];exact mK h hk
theorem ng {w w1:World} {o:Obj} (hb:Below (w.alloc o).drew.heap.size (w.alloc o).drew w1):w1.heap[w.heap.size]?=some o:=
 (hb.block w.heap.size (by simp [heap_drew])).trans (az w o)
def rH (P:List Tk) (ds:List Df) (k j:Nat):Int×Int:=match jv P j (P.drop j) with
 |some p=>(p,4)
 |none=>gL (fC ds (k+1) (ds.drop (k+1))) 4
theorem CT (ds:List Df) (k:Nat) (h:k<ds.length) (hh:vm (ds.take k) ds[k].name.txt=true):gL (fC ds k (ds.drop k)) 4=(((ds[k].name.pos:Nat):Int),4):=by
 rw [aW h,fC,aA hh];rfl
theorem zD (ds:List Df) (k:Nat) (h:k<ds.length) (hh:vm (ds.take k) ds[k].name.txt=false):gL (fC ds k (ds.drop k)) 4=rH ds[k].ps ds k 0:=by
 rw [aW h,fC,hh,rH];simp only [cm,dc,dw];cases jv ds[k].ps 0 ds[k].ps<;>rfl
theorem Ir (P:List Tk) (ds:List Df) (k j:Nat) (h:j<P.length) (hh:qY (P.take j) P[j].txt=true):rH P ds k j=(((P[j].pos:Nat):Int),4):=by
 rw [rH,aW h,jv,aA hh]
theorem DZ (P:List Tk) (ds:List Df) (k j:Nat) (h:j<P.length) (hh:qY (P.take j) P[j].txt=false):rH P ds k j=rH P ds k (j+1):=by
 rw [rH,aW h,jv,hh];rfl
theorem Is (P:List Tk) (ds:List Df) (k j:Nat) (h:¬j<P.length):rH P ds k j=gL (fC ds (k+1) (ds.drop (k+1))) 4:=by
 rw [rH,bj (by omega),jv]
theorem zN (v:Value) (ds:List Df) (xs:List Value) (T:Nat) (w:World) (hl:ds.length<=1000000) (oD:∀d∈ds,d.ps.length<=1000000) (hv:DR w v ds xs T) (hT:T<=w.heap.size):
 Calls Tryz.prog 44 #[v] w fun e w'=>e=.returned (.tuple #[.int .i64 (gL (fC ds 0 ds) 4).1,.int .i64 (gL (fC ds 0 ds) 4).2])/\Below w.heap.size w w':=by
 obtain ⟨ao,cap,rfl⟩:=aU hv.row;generalize hR:gL (fC ds 0 ds) 4=R;have HR:Hid (gL (fC ds 0 ds) 4=R):=hR;clear hR;go_enter Tryz.func44,Tryz.ntmps44
 go_wp2_with fail
 go_loopw [10] (fun a wr=>∃(k:Nat),k<=ds.length/\a=.int .i64 k/\Hid (gL (fC ds k (ds.drop k)) 4=R)/\Below w.heap.size w wr) (fun a _=>ds.length-(intOf a).toNat)
 case atStart=>exact ⟨0,aF _,rfl,HR,ai _ _⟩
 case round=>
  obtain ⟨k,hk,rfl,HH,hb⟩:=hrel;by_cases bF:k<ds.length
  ·obtain ⟨q,cap',hq,_,dX⟩:=hv.row.form (by omega);cases hq
   have et:=hv.old hT hb;obtain ⟨pv,bv,t0,t1,t2,t3,t4,hd⟩:=et.all.at k bF;have d0:=aH et.row _ _ t0;have d1:=aH et.row _ _ t1;have d2:=aH et.row _ _ t2;have d3:=aH et.row _ _ t3;have d4:=aH et.row _ _ t4;obtain ⟨o1,p1,rfl⟩:=aU hd.1;obtain ⟨o2,p2,rfl⟩:=aU hd.2.1;clear t0 t1 t2 t3 t4;have aeu:ds.length<=cap:=fY hv.row;have hkc:(k:Int)<=(cap:Int):=by omega
   have qi:(0:Int)<=(k:Int):=by omega
   have oG:ds[k].ps.length<=1000000:=oD _ (aE bF);have hdT:T<=wr.heap.size:=aJ hT hb.size;go_wp2_with fail
   go_region_with (go_at_call 26;go_must (refine (ig _ (ds.take k) (xs.take (k*5)) T _ _ (by simp;omega) (by exact DR.take (et.old hdT (aR ((ai _ _).alloc (ah _) _))) (by omega)) (by simp;omega)).mono ?_);rintro e w1 ⟨rfl,bB⟩)
   all_goals
    have fe:=ng (w:=wr) (w1:=w1) bB;have bX:Below w.heap.size w w1:=(aR (hb.alloc hb.size _)).trans (kR bB (by simp [heap_drew];have:=hb.size;omega));have pI:=aQ (World.ownsRow.drew (hd.1.alloc _)) bB;clear bB hb;cases hf:vm (ds.take k) ds[k].name.txt
    ·rw [sk hf];have HC:Hid (rH ds[k].ps ds k 0=R):=(zD ds k bF hf).symm.trans HH.out;have g3:=al w1 wr.heap.size 3 _ _ _ fe;simp only [ax,ap,aq] at g3;obtain ⟨wo,rfl⟩:∃wo:World,wo=wr:=⟨_,rfl⟩;go_wp2_with fail
     generalize hP:ds[k].ps=P at*;clear g3
     go_loopw [29] (fun a wx=>∃(j:Nat),j<=P.length/\a=.int .i64 j/\Hid (rH P ds k j=R)/\Below w.heap.size w wx/\wx.ownsRow 0 73 3 (.slice o1 P.length p1) P.length (tcs P)/\wx.heap[wo.heap.size]?=some (.cells #[.int .i64 (bf ds[k].name.txt),.int .i64 ds[k].name.pos,.string ds[k].name.txt,.slice o1 P.length p1,.slice o2 ds[k].body.length p2] 76 (0,0))) (fun a _=>P.length-(intOf a).toNat)
     case atStart=>exact ⟨0,aF _,rfl,HC,bX,pI,fe⟩
     case round=>
      clear pI bX fe;obtain ⟨j,hj,rfl,fE,bX,pI,fe⟩:=hrel;by_cases dG:j<P.length
      ·obtain ⟨q1,cap1,Do,_,_⟩:=pI.form (by omega);cases Do
       have ⟨s0,s1,s2⟩:=o8 P j dG;have x0:=aH pI _ _ s0;have x1:=aH pI _ _ s1;have x2:=aH pI _ _ s2;have g3:=al wr wo.heap.size 3 _ _ _ fe;simp only [ax,ap,aq] at g3;have Er:wo.heap.size<wr.heap.size:=(ae.1 fe).1;have lk:P.length<=p1:=fY pI;have kT:(j:Int)<=(p1:Int):=by omega
       have Cm:(0:Int)<=(j:Int):=by omega
       clear s0 s1 s2 d0 d1 d2 d3 d4;go_wp2_with fail
       go_region_with (go_at_call 81;go_must (refine (iI _ (P.take j) _ _ (by simp;omega) (by exact Jy (World.ownsRow.drew (pI.alloc _)) (by omega))).mono ?_);rintro e w2 ⟨rfl,df⟩)
       all_goals
        have SC:=ng (w:=wr) (w1:=w2) df;have oH:=(df.block wo.heap.size (by simp [heap_drew];omega)).trans ((aO wr _ _ Er).trans fe);have pH:=aQ (World.ownsRow.drew (pI.alloc _)) df;have dU:Below w.heap.size w w2:=(aR (bX.alloc bX.size _)).trans (kR df (by simp [heap_drew];have:=bX.size;omega));clear df fe pI bX g3 x0 x1 x2;cases lY:qY (P.take j) P[j].txt
        ·rw [oY lY];have ix:Hid (rH P ds k (j+1)=R):=(DZ P ds k j dG lY).symm.trans fE.out;go_wp2_with fail
         go_roundw
         case rel=>exact ⟨j+1,by omega,by go_num,ix,dU,pH,oH⟩
         case measure=>simp [intOf];omega
        ·obtain ⟨i2,_,lj⟩:=vM lY;rw [lj];clear lj;have HE:Hid ((((P[j].pos:Nat):Int),(4:Int))=R):=(Ir P ds k j dG lY).symm.trans fE.out;have g1:=al w2 wr.heap.size 1 _ _ _ SC;simp only [ax,ap,aq] at g1;go_wp2_with fail
         go_ret2
         exact ⟨fQ HE.out,dU⟩
      ·have ix:Hid (gL (fC ds (k+1) (ds.drop (k+1))) 4=R):=(Is P ds k j dG).symm.trans fE.out;go_wp2_with fail
       go_roundw
       case rel=>exact ⟨k+1,by omega,by go_num,ix,bX⟩
       case measure=>simp [intOf];omega
    ·obtain ⟨i2,_,lj⟩:=wW hf;rw [lj];clear lj;have HE:Hid ((((ds[k].name.pos:Nat):Int),(4:Int))=R):=(CT ds k bF hf).symm.trans HH.out;have g1:=al w1 wr.heap.size 1 _ _ _ fe;simp only [ax,ap,aq] at g1;go_wp2_with fail
     go_ret2
     exact ⟨fQ HE.out,bX⟩
  ·have HE:Hid (((0:Int),(0:Int))=R):=by have:=HH.out;rw [bj (by omega)] at this;exact this
   go_wp2_with fail
   go_ret2
   exact ⟨fQ HE.out,hb⟩
def uF (ds:List Df) (ps:List Tk) (t:Tk):Bool:=decide (bf t.txt=1) && !qY ps t.txt && !vm ds t.txt
def sA (ds:List Df) (ps:List Tk):List Tk->Option Nat
 |[]=>none
 |t::r=>if uF ds ps t then some t.pos else sA ds ps r
def mE (ds:List Df):List Df->Option Nat
 |[]=>none
 |d::r=>match sA ds d.ps d.body with
  |some p=>some p
  |none=>mE ds r
def pW (ps body:List Tk) (ds:List Df) (k j:Nat):Int×Int:=match sA ds ps (body.drop j) with
 |some p=>(p,5)
 |none=>gL (mE ds (ds.drop (k+1))) 5
theorem NQ (ds:List Df) (k:Nat) (h:k<ds.length):gL (mE ds (ds.drop k)) 5=pW ds[k].ps ds[k].body ds k 0:=by
 rw [aW h,mE,pW,dw];cases sA ds ds[k].ps ds[k].body<;>rfl
theorem Ip (ps body:List Tk) (ds:List Df) (k j:Nat) (h:j<body.length) (hh:uF ds ps body[j]=true):pW ps body ds k j=(((body[j].pos:Nat):Int),5):=by
 rw [pW,aW h,sA,aA hh]
theorem qN (ps body:List Tk) (ds:List Df) (k j:Nat) (h:j<body.length) (hh:uF ds ps body[j]=false):pW ps body ds k j=pW ps body ds k (j+1):=by
 rw [pW,aW h,sA,hh];rfl
theorem Iq (ps body:List Tk) (ds:List Df) (k j:Nat) (h:¬j<body.length):pW ps body ds k j=gL (mE ds (ds.drop (k+1))) 5:=by
 rw [pW,bj (by omega),sA]
theorem dx {w w1:World} {o:Obj} (hb:Below (w.alloc o).heap.size (w.alloc o) w1):w1.heap[w.heap.size]?=some o:=
 (hb.block w.heap.size (by simp)).trans (az w o)
theorem zO (v:Value) (ds:List Df) (xs:List Value) (T:Nat) (w:World) (hl:ds.length<=1000000) (oD:∀d∈ds,d.ps.length<=1000000) (ur:∀d∈ds,d.body.length<=1000000) (hv:DR w v ds xs T) (hT:T<=w.heap.size):
 Calls Tryz.prog 45 #[v] w fun e w'=>e=.returned (.tuple #[.int .i64 (gL (mE ds ds) 5).1,.int .i64 (gL (mE ds ds) 5).2])/\Below w.heap.size w w':=by
 obtain ⟨ao,cap,rfl⟩:=aU hv.row;generalize hR:gL (mE ds ds) 5=R;have HR:Hid (gL (mE ds ds) 5=R):=hR;clear hR;go_enter Tryz.func45,Tryz.ntmps45
 go_wp2_with fail
 go_loopw [10] (fun a wr=>∃(k:Nat),k<=ds.length/\a=.int .i64 k/\Hid (gL (mE ds (ds.drop k)) 5=R)/\Below w.heap.size w wr) (fun a _=>ds.length-(intOf a).toNat)
 case atStart=>exact ⟨0,aF _,rfl,HR,ai _ _⟩
 case round=>
  obtain ⟨k,hk,rfl,HH,hb⟩:=hrel;by_cases bF:k<ds.length
  ·obtain ⟨q,cap',hq,_,dX⟩:=hv.row.form (by omega);cases hq
   have et:=hv.old hT hb;obtain ⟨pv,bv,t0,t1,t2,t3,t4,hd⟩:=et.all.at k bF;have d0:=aH et.row _ _ t0;have d1:=aH et.row _ _ t1;have d2:=aH et.row _ _ t2;have d3:=aH et.row _ _ t3;have d4:=aH et.row _ _ t4;obtain ⟨o1,p1,rfl⟩:=aU hd.1;obtain ⟨o2,p2,rfl⟩:=aU hd.2.1;clear t0 t1 t2 t3 t4;have oG:ds[k].ps.length<=1000000:=oD _ (aE bF);have yJ:ds[k].body.length<=1000000:=ur _ (aE bF);have HC:Hid (pW ds[k].ps ds[k].body ds k 0=R):=(NQ ds k bF).symm.trans HH.out;clear HH;obtain ⟨wo,rfl⟩:∃wo:World,wo=wr:=⟨_,rfl⟩;go_wp2_with fail
   obtain ⟨⟨nm,P,C⟩,hD⟩:∃D,ds[k]=D:=⟨_,rfl⟩;simp only [hD] at*
   go_loopw [17] (fun a wx=>∃(j:Nat),j<=C.length/\a=.int .i64 j/\Hid (pW P C ds k j=R)/\Below w.heap.size w wx/\wx.ownsRow 0 73 3 (.slice o1 P.length p1) P.length (tcs P)/\wx.ownsRow 0 73 3 (.slice o2 C.length p2) C.length (tcs C)/\wx.heap[wo.heap.size]?=some (.cells #[.int .i64 (bf nm.txt),.int .i64 nm.pos,.string nm.txt,.slice o1 P.length p1,.slice o2 C.length p2] 76 (0,0))) (fun a _=>C.length-(intOf a).toNat)
   case atStart=>exact ⟨0,aF _,rfl,HC,hb.alloc hb.size _,hd.1.alloc _,hd.2.1.alloc _,az wo _⟩
   case round=>
    obtain ⟨j,hj,rfl,fE,bX,pI,kT,fe⟩:=hrel;clear hd d0 d1 d2 d3 d4 et hb;by_cases dG:j<C.length
    ·obtain ⟨q1,cap1,Do,_,_⟩:=kT.form (by omega);cases Do
     have ⟨s0,s1,s2⟩:=o8 C j dG;have x0:=aH kT _ _ s0;have x1:=aH kT _ _ s1;have x2:=aH kT _ _ s2;have g3:=al wr wo.heap.size 3 _ _ _ fe;simp only [ax,ap,aq] at g3;have Er:wo.heap.size<wr.heap.size:=(ae.1 fe).1;clear s0 s1 s2;by_cases h1:bf C[j].txt=1
     ·cases hp:qY P C[j].txt
      ·cases hf:vm ds C[j].txt
       ·have HE:Hid ((((C[j].pos:Nat):Int),(5:Int))=R):=(Ip P C ds k j dG (by simp [uF,h1,hp,hf])).symm.trans fE.out;go_wp2_with fail
        refine (iI _ P _ _ (by omega) (pI.alloc _)).mono ?_
        rintro e w2 ⟨rfl,df⟩
        rw [oY hp];have SC:=dx df;have g2:=al w2 wr.heap.size 2 _ _ _ SC;simp only [ax,ap,aq] at g2;have dU:Below w.heap.size w w2:=(bX.alloc bX.size _).trans (kR df (by simp;have:=bX.size;omega));have lJ:=df.size;simp at lJ;go_wp2_with fail
        refine (ig _ ds xs T _ _ (by omega) (hv.old hT dU) (by have:=dU.size;omega)).mono ?_
        rintro e w3 ⟨rfl,dB⟩
        rw [sk hf];have g1:=(al w3 wr.heap.size 1 _ _ _ ((dB.block wr.heap.size (by omega)).trans SC));simp only [ax,ap,aq] at g1;go_wp2_with fail
        go_ret2
        exact ⟨fQ HE.out,dU.trans (dB.mono dU.size)⟩
       ·have HE:Hid (pW P C ds k (j+1)=R):=(qN P C ds k j dG (by simp [uF,h1,hp,hf])).symm.trans fE.out;go_wp2_with fail
        refine (iI _ P _ _ (by omega) (pI.alloc _)).mono ?_
        rintro e w2 ⟨rfl,df⟩
        rw [oY hp];have SC:=dx df;have g2:=al w2 wr.heap.size 2 _ _ _ SC;simp only [ax,ap,aq] at g2;have dU:Below w.heap.size w w2:=(bX.alloc bX.size _).trans (kR df (by simp;have:=bX.size;omega));have lJ:=df.size;simp at lJ;have oH:=(df.block wo.heap.size (by simp;omega)).trans ((aO wr _ _ Er).trans fe);have pH:=aQ (pI.alloc _) df;have Cm:=aQ (kT.alloc _) df;clear g3;go_wp2_with fail
        refine (ig _ ds xs T _ _ (by omega) (hv.old hT dU) (by have:=dU.size;omega)).mono ?_
        rintro e w3 ⟨rfl,dB⟩
        obtain ⟨i2,_,lj⟩:=wW hf;rw [lj];clear lj;go_wp2_with fail
        go_roundw
        case rel=>exact ⟨j+1,by omega,by go_num,HE,dU.trans (dB.mono dU.size),aQ pH dB,aQ Cm dB,(dB.block wo.heap.size (by omega)).trans oH⟩
        case measure=>simp [intOf];omega
      ·have HE:Hid (pW P C ds k (j+1)=R):=(qN P C ds k j dG (by simp [uF,hp])).symm.trans fE.out;go_wp2_with fail
       refine (iI _ P _ _ (by omega) (pI.alloc _)).mono ?_
       rintro e w2 ⟨rfl,df⟩
       obtain ⟨i2,_,lj⟩:=vM hp;rw [lj];clear lj;have dU:Below w.heap.size w w2:=(bX.alloc bX.size _).trans (kR df (by simp;have:=bX.size;omega));have oH:=(df.block wo.heap.size (by simp;omega)).trans ((aO wr _ _ Er).trans fe);have pH:=aQ (pI.alloc _) df;have Cm:=aQ (kT.alloc _) df;clear g3;go_wp2_with fail
       go_roundw
       case rel=>exact ⟨j+1,by omega,by go_num,HE,dU,pH,Cm,oH⟩
       case measure=>simp [intOf];omega
     ·have nO:(bf C[j].txt==1)=false:=by simpa using h1
      have HE:Hid (pW P C ds k (j+1)=R):=(qN P C ds k j dG (by simp [uF,h1])).symm.trans fE.out;go_wp2_with fail
      go_roundw
      case rel=>exact ⟨j+1,by omega,by go_num,HE,bX.alloc bX.size _,pI.alloc _,kT.alloc _,(aO wr _ _ Er).trans fe⟩
      case measure=>simp [intOf];omega
    ·have HE:Hid (gL (mE ds (ds.drop (k+1))) 5=R):=(Iq P C ds k j dG).symm.trans fE.out;go_wp2_with fail
     go_roundw
     case rel=>exact ⟨k+1,by omega,by go_num,HE,bX⟩
     case measure=>simp [intOf];omega
  ·have HE:Hid (((0:Int),(0:Int))=R):=by have:=HH.out;rw [bj (by omega)] at this;exact this
   go_wp2_with fail
   go_ret2
   exact ⟨fQ HE.out,hb⟩
def lH:ByteArray:=⟨#[109,97,105,110]⟩
def oq (ds:List Df):Int:=if fnd ds lH<0 then 6 else if 0<(ds[(fnd ds lH).toNat]?.getD df0).ps.length then 6 else 0
theorem CZ (v:Value) (ds:List Df) (xs:List Value) (T:Nat) (w:World) (hl:ds.length<=1000000) (oD:∀d∈ds,d.ps.length<=1000000) (hv:DR w v ds xs T) (hT:T<=w.heap.size):
 Calls Tryz.prog 46 #[v] w fun e w'=>e=.returned (.int .i64 (oq ds))/\Below w.heap.size w w':=by
 obtain ⟨ao,cap,rfl⟩:=aU hv.row;go_enter Tryz.func46,Tryz.ntmps46
 go_wp2_with fail
 refine (ig _ ds xs T _ _ (by omega) hv hT).mono ?_
 rintro e w1 ⟨rfl,hb⟩
 cases hf:vm ds lH
 ·have hz:=sk hf;have xi:Hid (oq ds=6):=by show oq ds=6;unfold oq;rw [hz];rfl
  rw [show fnd ds ⟨#[109,97,105,110]⟩= -1 from hz];go_wp2_with fail
  go_ret
  exact ⟨ee xi.out.symm,hb⟩
 ·obtain ⟨k,bF,hz⟩:=wW hf;have lX:oq ds=if 0<ds[k].ps.length then 6 else 0:=by
   unfold oq;rw [hz,ay (by omega),bC,aj bF,b6]
  have Cg:=oD _ (aE bF);rw [show fnd ds ⟨#[109,97,105,110]⟩=(k:Int) from hz];clear hz;obtain ⟨q,cap',hq,_,dX⟩:=hv.row.form (by omega);cases hq
  have et:=hv.old hT hb;obtain ⟨pv,bv,t0,t1,t2,t3,t4,hd⟩:=et.all.at k bF;have d0:=aH et.row _ _ t0;have d1:=aH et.row _ _ t1;have d2:=aH et.row _ _ t2;have d3:=aH et.row _ _ t3;have d4:=aH et.row _ _ t4;obtain ⟨o1,p1,rfl⟩:=aU hd.1;obtain ⟨o2,p2,rfl⟩:=aU hd.2.1;clear t0 t1 t2 t3 t4 et hd;by_cases hz:0<ds[k].ps.length
  ·have xi:Hid (oq ds=6):=by rw [lX,aA hz];exact rfl
   have X3:(0:Int)<(ds[k].ps.length:Int):=by omega
   clear hz lX;go_wp2_with fail
   go_ret
   exact ⟨ee xi.out.symm,hb⟩
  ·have xi:Hid (oq ds=0):=by rw [lX,ay hz];exact rfl
   have X3:¬(0:Int)<(ds[k].ps.length:Int):=by omega
   clear hz lX;go_wp2_with fail
   go_ret
   exact ⟨ee xi.out.symm,hb⟩
theorem oZ (s:ByteArray) (i:Nat):(ci s i).length<=s.size-i:=by
 fun_induction ci s i with
 |case1 i h ih=>
  have:=tP s i (i+1);have h2:=wY s i (i+1) (by omega);rw [au];split<;>simp<;>omega
 |case2 i h=>simp
structure CInv (n:Nat) (c:Cs):Prop where
 i1:c.ds.length<=n
 i2:c.d.ps.length<=n
 i3:c.d.body.length<=n
 i4:∀d∈c.ds,d.ps.length<=n/\d.body.length<=n
theorem CInv.step {n:Nat} {c:Cs} (h:CInv n c) (t:Tk):CInv (n+1) (iE c t):=by
 obtain ⟨h1,h2,h3,h4⟩:=h;have Nl:∀d∈c.ds,d.ps.length<=n+1/\d.body.length<=n+1:=fun d hd=>⟨bP (h4 d hd).1,bP (h4 d hd).2⟩
 unfold iE;split
 ·refine ⟨by simp;omega,by simp [df0],by simp [df0],?_⟩
  intro d hd;simp only [be,aK,ck,dV] at hd;rcases hd with hd|rfl
  ·exact Nl d hd
  ·exact ⟨bP h2,bP h3⟩
 ·split
  ·exact ⟨bP h1,bP h2,bP h3,Nl⟩
  ·split
   ·exact ⟨bP h1,bP h2,bP h3,Nl⟩
   ·split
    ·exact ⟨bP h1,by simp;omega,bP h3,Nl⟩
    ·exact ⟨bP h1,bP h2,by simp;omega,Nl⟩
theorem CInv.all (ts:List Tk):∀(n:Nat) (c:Cs),CInv n c->CInv (n+ts.length) (ts.foldl iE c):=by
 induction ts with
 |nil=>intro n c h;exact h
 |cons t r ih=>intro n c h;have:=ih (n+1) _ (h.step t);simp only [dv,aD];rw [show n+(r.length+1)=n+1+r.length by omega];exact this
theorem l8 (ts:List Tk):CInv ts.length (eT ts):=by
 have:=CInv.all ts 0 ⟨[],df0,0⟩ ⟨by simp,by simp [df0],by simp [df0],by simp⟩;rw [cr] at this;exact this
def chk (s:ByteArray):Int×Int:=
 if 1000<s.size then (0,1)
 else if (jT s.size g0 (ci s 0)).2≠0 then jT s.size g0 (ci s 0)
 else if (gL (fC (eT (ci s 0)).ds 0 (eT (ci s 0)).ds) 4).2≠0 then gL (fC (eT (ci s 0)).ds 0 (eT (ci s 0)).ds) 4
 else if (gL (mE (eT (ci s 0)).ds (eT (ci s 0)).ds) 5).2≠0 then gL (mE (eT (ci s 0)).ds (eT (ci s 0)).ds) 5
 else (0,oq (eT (ci s 0)).ds)
theorem lE {v:Value} {a b:Int×Int} (h:a=b):Ending.returned (.tuple #[v,.int .i64 a.1,.int .i64 a.2])=.returned (.tuple #[v,.int .i64 b.1,.int .i64 b.2]):=by rw [h]
theorem xL (s:ByteArray) (w:World) (hs:s.size<=maxLen):
 Calls Tryz.prog 25 #[.string s] w fun e w'=>∃lv,e=.returned (.tuple #[lv,.int .i64 (chk s).1,.int .i64 (chk s).2])/\Below w.heap.size w w'/\(((chk s).2≠0/\lv=.slice none 0 0)\/((chk s).2=0/\s.size<=1000/\∃xs,DR w' lv (eT (ci s 0)).ds xs w'.heap.size)):=by
 unfold maxLen at hs;generalize hR:chk s=R;have HR:Hid (chk s=R):=hR;clear hR;by_cases kY:1000<s.size
 ·have HE:Hid (((0:Int),(1:Int))=R):=by rw [<-HR.out];simp [Hid,chk,kY]
  go_enter Tryz.func25,Tryz.ntmps25
  go_wp2_with fail
  go_ret3
  exact ⟨_,lE HE.out,ai _ _,.inl ⟨by rw [<-HE.out];simp,rfl⟩⟩
 ·have k9:s.size<=1000:=by omega
  have ja:(ci s 0).length<=1000:=aJ (oZ s 0) (by omega);have rF:=l8 (ci s 0);have gT:=HR.out;unfold chk at gT;rw [ay kY] at gT;clear HR;generalize MM:ci s 0=ts at*;have Yz:Hid (ci s 0=ts):=MM;clear MM;have ok1:(eT ts).ds.length<=1000000:=by have:=rF.i1;omega
  have ok2:∀d∈(eT ts).ds,d.ps.length<=1000000:=fun d hd=>by have:=(rF.i4 d hd).1;omega
  have ok3:∀d∈(eT ts).ds,d.body.length<=1000000:=fun d hd=>by have:=(rF.i4 d hd).2;omega
  clear rF;have xA:Hid _:=gT;clear gT;go_enter Tryz.func25,Tryz.ntmps25
  go_wp2_with fail
  refine (CY s _ k9).mono ?_
  rintro e w1 ⟨v1,rfl,mU,bB⟩
  rw [Yz.out] at mU;have th:=bO mU (aF _);clear mU;go_wp2_with fail
  refine (vX s v1 ts _ k9 ja th).mono ?_
  rintro e w2 ⟨rfl,bX⟩
  have mT:=aQ th bX;have ik:=bB.trans (bX.mono bB.size);clear bB bX th;by_cases hg:(jT s.size g0 ts).2=0
  ·have nQ:Hid _:=(ay (by simpa using hg)).symm.trans xA.out;clear xA;go_wp2_with fail
   clear hg;refine (sK v1 ts _ ja mT).mono ?_
   rintro e w3 ⟨v3,rfl,df,xs,ld,mV⟩
   have se:DR w3 v3 (eT ts).ds xs w3.heap.size:=⟨ld,mV⟩;have tH:=ik.trans (df.mono ik.size);clear df ik ld mV mT;go_wp2_with fail
   refine (zN v3 _ xs _ _ ok1 ok2 se (ah _)).mono ?_
   rintro e w4 ⟨rfl,dU⟩
   have Qy:=se.old (ah _) dU;have tJ:=dU.size;have DG:=tH.trans (dU.mono tH.size);clear dU tH se;by_cases h4:(gL (fC (eT ts).ds 0 (eT ts).ds) 4).2=0
   ·have Eg:Hid _:=(ay (by simpa using h4)).symm.trans nQ.out;clear nQ;go_wp2_with fail
    clear h4;refine (zO v3 _ xs _ _ ok1 ok2 ok3 Qy tJ).mono ?_
    rintro e w5 ⟨rfl,dB⟩
    have Qx:=Qy.old tJ dB;have DJ:=aJ tJ dB.size;have KW:=DG.trans (dB.mono DG.size);clear dB DG Qy tJ;by_cases h5:(gL (mE (eT ts).ds (eT ts).ds) 5).2=0
    ·have ud:Hid ((0,oq (eT ts).ds)=R):=(ay (by simpa using h5)).symm.trans Eg.out;clear Eg;go_wp2_with fail
     clear h5;refine (CZ v3 _ xs _ _ ok1 ok2 Qx DJ).mono ?_
     rintro e w6 ⟨rfl,js⟩
     have VS:=Qx.old DJ js;have hT6:=aJ DJ js.size;have Wh:=KW.trans (js.mono KW.size);clear js KW Qx DJ;by_cases h6:oq (eT ts).ds=0
     ·go_wp2_with fail
      go_ret3
      refine ⟨_,lE (a:=(0,0)) (Eq.trans (by rw [h6]) ud.out),Wh,.inr ⟨(congrArg Prod.snd ud.out).symm.trans h6,k9,xs,?_⟩⟩
      exact ⟨VS.row,VS.all.up hT6⟩
     ·have Rg:(oq (eT ts).ds==0)=false:=by simpa using h6
      go_wp2_with fail
      go_ret3
      exact ⟨_,lE ud.out,Wh,.inl ⟨by rw [<-ud.out];exact h6,rfl⟩⟩
    ·have ud:Hid _:=(aA (by simpa using h5)).symm.trans Eg.out;have yP:((gL (mE (eT ts).ds (eT ts).ds) 5).2==0)=false:=by simpa using h5
     clear Eg;go_wp2_with fail
     go_ret3
     exact ⟨_,lE ud.out,KW,.inl ⟨by rw [<-ud.out];exact h5,rfl⟩⟩
   ·have ud:Hid _:=(aA (by simpa using h4)).symm.trans nQ.out;have Nl:((gL (fC (eT ts).ds 0 (eT ts).ds) 4).2==0)=false:=by simpa using h4
    clear nQ;go_wp2_with fail
    go_ret3
    exact ⟨_,lE ud.out,DG,.inl ⟨by rw [<-ud.out];exact h4,rfl⟩⟩
  ·have ud:Hid _:=(aA (by simpa using hg)).symm.trans xA.out;have Nb:((jT s.size g0 ts).2==0)=false:=by simpa using hg
   clear xA;go_wp2_with fail
   go_ret3
   exact ⟨_,lE ud.out,ik,.inl ⟨by rw [<-ud.out];exact hg,rfl⟩⟩
theorem Tm (s:ByteArray) (w:World) (hs:s.size<=maxLen):
 Calls Tryz.prog 63 #[.string s] w fun e w'=>e=.returned (.tuple #[.int .i64 (chk s).1,.int .i64 (chk s).2])/\Below w.heap.size w w':=by
 go_enter Tryz.func63,Tryz.ntmps63
 go_wp2_with fail
 refine (xL s _ hs).mono ?_
 rintro e w1 ⟨lv,rfl,bB,_⟩
 go_wp2_with fail
 go_ret2
 exact ⟨rfl,bB⟩
theorem Me (s:ByteArray) (w:World) (hs:s.size<=maxLen):
 Calls Tryz.prog 34 #[.string s] w fun e w'=>e=.returned (.tuple #[.int .i64 (chk s).1,.int .i64 (chk s).2])/\Below w.heap.size w w':=by
 go_enter Tryz.func34,Tryz.ntmps34
 go_wp2_with fail
 refine (Tm s _ hs).mono ?_
 rintro e w1 ⟨rfl,bB⟩
 go_wp2_with fail
 go_ret2
 exact ⟨rfl,bB⟩
def jW (l:List UInt8):Int:=l.foldl (fun n c=>10*n+((c.toNat:Int)-48)) 0
def mB (l:List UInt8):Prop:=∀c∈l,48<=c.toNat/\c.toNat<=57
theorem lB (l:List UInt8) (c:UInt8):jW (l++[c])=10*jW l+((c.toNat:Int)-48):=by simp [jW,List.foldl_append]
theorem Rl (l:List UInt8):∀acc:Int,mB l->0<=acc->0<=l.foldl (fun n c=>10*n+((c.toNat:Int)-48)) acc/\l.foldl (fun n c=>10*n+((c.toNat:Int)-48)) acc<(acc+1)*10^l.length:=by
 induction l with
 |nil=>intro acc _ h;simp;omega
 |cons c r ih=>
  intro acc h h0;have hc:=h c (by simp);have:=ih (10*acc+((c.toNat:Int)-48)) (fun x hx=>h x (by simp [hx])) (by omega);rw [dv,aD];refine ⟨this.1,Int.lt_of_lt_of_le this.2 ?_⟩
  rw [Int.pow_succ,Int.mul_comm (10^r.length) 10,<-Int.mul_assoc];exact Int.mul_le_mul_of_nonneg_right (by omega) (Int.le_of_lt (Int.pow_pos (by decide)))
theorem lQ (l:List UInt8) (h:mB l):0<=jW l/\jW l<10^l.length:=by
 have:=Rl l 0 h (Int.le_refl _);rw [Int.zero_add,Int.one_mul] at this;exact this
theorem nY (s:ByteArray) (k:Nat) (h:k<s.data.toList.length):bt s k=(s.data.toList[k].toNat:Int):=by
 unfold bt;have:s.data[k]?=some s.data.toList[k]:=by rw [<-Array.getElem?_toList];exact aj h
 rw [this,b6]
def iY (n:Nat):List UInt8:=if n<10 then [UInt8.ofNat (48+n)] else iY (n/10)++[UInt8.ofNat (48+n%10)]
termination_by n
theorem jh (n:Nat) (h:n<10):iY n=[UInt8.ofNat (48+n)]:=by rw [iY,aA h]
theorem m8 (n:Nat) (h:¬n<10):iY n=iY (n/10)++[UInt8.ofNat (48+n%10)]:=by rw [iY,ay h]
theorem Lp (n:Nat):(iY n).length<=n+1:=by
 fun_induction iY n with
 |case1 n h=>simp
 |case2 n h ih=>simp;omega
theorem pV (w:World) (m:Int):(convert 94 9 (.slice (some ⟨w.heap.size,0,none⟩) 1 1)).run Tryz.prog (w.alloc (.cells #[.int .u8 m] 5))=.ok (.string (strOfNums [m])) (w.alloc (.cells #[.int .u8 m] 5)):=
 run_convert_bytes_arg (P:=Tryz.prog) _ 94 5 Tryz.underlying94 Tryz.underlying5 w.heap.size 0 1 1 [m] rfl (fun i hi=>by
  have:i=0:=by omega
  subst this;rw [al _ w.heap.size _ _ _ _ (az w _)];rfl) 9 Tryz.underlying9
theorem NZ (m:Int):(strOfNums [m]).data.toList=[UInt8.ofNat m.toNat]:=by rfl
theorem cK (a b:ByteArray):(a++b).data.toList=a.data.toList++b.data.toList:=by simp [ByteArray.data_append]
theorem bi {w:World} {b i k:Nat} (u:Value) (h:k≠b):(w.setCell ⟨b,i,none⟩ u).heap[k]?=w.heap[k]?:=fL _ _ _ _ (by first|exact h|exact Ne.symm h)
theorem Tryz.infoStr:(Tryz.prog.info? 9).map (fun i=>(i.zero,i.size,i.bytes))=some (some (.string ByteArray.empty),1,16):=by kernel_rfl
theorem i8 {w:World} {base:Nat} {e:TypeId} {n q cap j:Nat} {xs:List Value} (u:Value) (h:w.ownsRow base e 1 (.slice (some ⟨q,0,none⟩) n cap) n xs):(w.setCell ⟨q,j,none⟩ u).ownsRow base e 1 (.slice (some ⟨q,0,none⟩) n cap) n (xs.set j u):=by
 obtain ⟨h1,h2⟩:=h;refine ⟨by simpa using h1,?_⟩
 rcases h2 with ⟨h0,_⟩|⟨g,cap',cur,h0,hg,hh,hn,hc,hs,ht⟩
 ·cases h0
 ·cases h0
  refine .inr ⟨q,cap,cur.setIfInBounds j u,rfl,hg,heap_setCell_same w q j cur e u hh,hn,hc,by simpa using hs,?_⟩
  rw [Array.toList_setIfInBounds,<-ht,List.take_set]
end Go.Proofs.YtnndoagpbcacdabGreatDoor
