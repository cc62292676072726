import Derived.Test.YtnndoagpbcacdabGreatDoorMR8
import Derived.Test.YtnndoagpbcacdabGreatDoorMS1
import Derived.Test.YtnndoagpbcacdabGreatDoorR16
import Derived.Test.YtnndoagpbcacdabGreatDoorMJ1b
import Derived.Test.YtnndoagpbcacdabGreatDoorMD0
namespace Go.Proofs.YtnndoagpbcacdabGreatDoor
set_option maxHeartbeats 8000000
set_option maxRecDepth 100000
open Go.RowKit
def gD (o:Option Nat) (e:Int) (k:Int×Int):Int×Int:=match o with
 |some p=>(p,e)
 |none=>k
def sX (ds:List Df):Int:=if whr (ds.map (·.name)) lH<0 then 6 else if 0<(ds[(whr (ds.map (·.name)) lH).toNat]?.getD df0).ps.length then 6 else 0
def nR (ds:List Df):Int×Int:=gD (fC ds 0 ds) 4 (gD (mE ds ds) 5 (0,sX ds))
structure NR (w wx:World) (q cap:Nat) (ts:List Tk) (s:ByteArray) (lv fv:Value) (ds:List Df) (xs:List Value) (T:Nat):Prop where
 bel:Below w.heap.size w wx
 trow:wx.ownsRow 0 212 2 (.slice (some ⟨q,0,none⟩) (ts.length+1) cap) (ts.length+1) (rcs (ts++[km s]))
 drow:wx.ownsRow 0 219 5 lv ds.length xs
 dall:fK wx T ts ds xs
 frow:wx.ownsRow 0 212 2 fv ds.length (rcs (ds.map (·.name)))
theorem fK.drewN {w:World} {T:Nat} {ts:List Tk} (n:Nat) {ds:List Df} {xs:List Value} (h:fK w T ts ds xs):fK (w.drewN n) T ts ds xs:=h.keep (bY (ai T w) n)
theorem NR.drewN {w wx:World} {q cap:Nat} {ts:List Tk} {s:ByteArray} {lv fv:Value} {ds:List Df} {xs:List Value} {T:Nat} (h:NR w wx q cap ts s lv fv ds xs T) (n:Nat):NR w (wx.drewN n) q cap ts s lv fv ds xs T:=
 ⟨bY h.bel n,h.trow,h.drow,h.dall.drewN n,h.frow⟩
theorem zE (ds:List Df) (K:Int×Int) (k:Nat) (h:k<ds.length) (hh:vm (ds.take k) ds[k].name.txt=true):gD (fC ds k (ds.drop k)) 4 K=(((ds[k].name.pos:Nat):Int),4):=by
 rw [aW h,fC,aA hh];rfl
theorem xF (ds:List Df) (K:Int×Int) (k:Nat) (h:k<ds.length) (hh:vm (ds.take k) ds[k].name.txt=false):gD (fC ds k (ds.drop k)) 4 K=gD (jv ds[k].ps 0 (ds[k].ps.drop 0)) 4 (gD (fC ds (k+1) (ds.drop (k+1))) 4 K):=by
 rw [aW h,fC,hh];simp only [cm,dc,dw];cases jv ds[k].ps 0 ds[k].ps<;>rfl
theorem zB (P:List Tk) (K:Int×Int) (j:Nat) (h:j<P.length) (hh:qY (P.take j) P[j].txt=true):gD (jv P j (P.drop j)) 4 K=(((P[j].pos:Nat):Int),4):=by
 rw [aW h,jv,aA hh];rfl
theorem xE (P:List Tk) (K:Int×Int) (j:Nat) (h:j<P.length) (hh:qY (P.take j) P[j].txt=false):gD (jv P j (P.drop j)) 4 K=gD (jv P (j+1) (P.drop (j+1))) 4 K:=by
 rw [aW h,jv,hh];rfl
theorem zC (P:List Tk) (K:Int×Int) (j:Nat) (h:¬j<P.length):gD (jv P j (P.drop j)) 4 K=K:=by
 rw [bj (by omega),jv];rfl
theorem Jw (ds:List Df) {K:Int×Int} (k:Nat) (h:k<ds.length):gD (mE ds (ds.drop k)) 5 K=gD (sA ds ds[k].ps (ds[k].body.drop 0)) 5 (gD (mE ds (ds.drop (k+1))) 5 K):=by
 rw [aW h,mE,dw];cases sA ds ds[k].ps ds[k].body<;>rfl
theorem E4 (ds:List Df) (ps body:List Tk) (K:Int×Int) (j:Nat) (h:j<body.length) (hh:uF ds ps body[j]=true):gD (sA ds ps (body.drop j)) 5 K=(((body[j].pos:Nat):Int),5):=by
 rw [aW h,sA,aA hh];rfl
theorem qr (ds:List Df) (ps body:List Tk) (K:Int×Int) (j:Nat) (h:j<body.length) (hh:uF ds ps body[j]=false):gD (sA ds ps (body.drop j)) 5 K=gD (sA ds ps (body.drop (j+1))) 5 K:=by
 rw [aW h,sA,hh];rfl
theorem E5 (ds:List Df) (ps body:List Tk) (K:Int×Int) (j:Nat) (h:¬j<body.length):gD (sA ds ps (body.drop j)) 5 K=K:=by
 rw [bj (by omega),sA];rfl
theorem Od (s:ByteArray) (q cap:Nat) (ts:List Tk) (lv:Value) (ds:List Df) (xs:List Value) (T:Nat) (w:World) (bF:ts.length<=1000) (hl:ds.length<=1000000) (oD:∀d∈ds,d.ps.length<=1000000) (mO:∀t∈ts,WT t.txt)
 (htr:w.ownsRow 0 212 2 (.slice (some ⟨q,0,none⟩) (ts.length+1) cap) (ts.length+1) (rcs (ts++[km s]))) (se:w.ownsRow 0 219 5 lv ds.length xs) (hd:fK w T ts ds xs) (hT:T<=w.heap.size):
 Calls Tryz.prog 109 #[.slice (some ⟨q,0,none⟩) (ts.length+1) cap,lv] w fun e w'=>e=.returned (.tuple #[.int .i64 (nR ds).1,.int .i64 (nR ds).2])/\Below w.heap.size w w':=by
 generalize hR:nR ds=R;have HR:Hid (nR ds=R):=hR;clear hR;obtain ⟨ao,cap2,rfl⟩:=aU se;go_enter Tryz.func109,Tryz.ntmps109
 go_wp2_with fail
 refine (Mt _ ts ds xs T _ hl se hd hT).mono ?_
 rintro e w1 ⟨fv,rfl,bB,oS⟩
 have Dq:NR w w1 q cap ts s (.slice ao ds.length cap2) fv ds xs T:=⟨bB,aQ htr bB,aQ se bB,hd.keep (bB.mono hT),bO oS (aF _)⟩;obtain ⟨fo,fcap,rfl⟩:=aU oS;clear bB oS htr se hd;go_wp2_with fail
 generalize Wz:gD (mE ds ds) 5 (0,sX ds)=K1;have mr:Hid (gD (mE ds ds) 5 (0,sX ds)=K1):=Wz;have lN:Hid (gD (fC ds 0 (ds.drop 0)) 4 K1=R):=by have:=HR.out;unfold nR at this;rw [Wz] at this;exact this
 clear HR Wz
 go_loopw [7] (fun a wr=>∃(k:Nat),k<=ds.length/\a=.int .i64 k/\Hid (gD (fC ds k (ds.drop k)) 4 K1=R)/\NR w wr q cap ts s (.slice ao ds.length cap2) (.slice fo ds.length fcap) ds xs T) (fun a _=>ds.length-(intOf a).toNat)
 case atStart=>exact ⟨0,aF _,rfl,lN,Dq⟩
 case round=>
  clear Dq;obtain ⟨k,hk,rfl,HH,hn⟩:=hrel;by_cases cV:k<ds.length
  ·obtain ⟨qf,cf,ZL,_,_⟩:=hn.frow.form (by omega);cases ZL
   obtain ⟨qd,cd,Gw,_,_⟩:=hn.drow.form (by omega);cases Gw
   have ⟨f0,f1⟩:=jQ (ds.map (·.name)) k ds[k].name (by simp [cV]);have x0:=aH hn.frow _ _ f0;have x1:=aH hn.frow _ _ f1;clear f0 f1;cases hh:vm (ds.take k) ds[k].name.txt
   ·have hw:=vN (ts:=(ds.map (·.name)).take k) (s:=ds[k].name.txt) (by rw [<-dY,iU];exact hh);have HC:=(xF ds K1 k cV hh).symm.trans HH.out;generalize hK2:gD (fC ds (k+1) (ds.drop (k+1))) 4 K1=K2 at HC;have uC:Hid (gD (fC ds (k+1) (ds.drop (k+1))) 4 K1=K2):=hK2;have fE:Hid _:=HC;clear HC hK2 HH;have oG:ds[k].ps.length<=1000000:=oD _ (aE cV);go_wp2_with fail
    refine (gP _ (ds.map (·.name)) k _ _ (by simp;omega) (by simp;omega) (by simpa using hn.frow)).mono ?_
    rintro e w2 ⟨rfl,rfl⟩
    go_wp2_with fail
    clear x0 x1
    go_loopw [9] (fun a wx=>∃(j:Nat),j<=ds[k].ps.length/\a=.int .i64 j/\Hid (gD (jv ds[k].ps j (ds[k].ps.drop j)) 4 K2=R)/\NR w wx q cap ts s (.slice (some ⟨qd,0,none⟩) ds.length cap2) (.slice (some ⟨qf,0,none⟩) ds.length fcap) ds xs T) (fun a _=>ds[k].ps.length-(intOf a).toNat)
    case atStart=>exact ⟨0,aF _,rfl,fE,hn⟩
    case round=>
     clear hn;obtain ⟨j,hj,rfl,ix,hn⟩:=hrel;obtain ⟨pv,a,b,t0,t1,t2,t3,t4,ew⟩:=hn.dall.at k cV;have y2:=aH hn.drow _ _ t2;clear t0 t1 t2 t3 t4;obtain ⟨po,pcap,rfl⟩:=aU ew.row;have Ye:(k:Int)<(ds.length:Int):=by omega
     have qi:(0:Int)<=(k:Int):=by omega
     by_cases dG:j<ds[k].ps.length
     ·obtain ⟨qp,cp,UQ,_,_⟩:=ew.row.form (by omega);cases UQ
      have ⟨p0,p1⟩:=pe ds[k].ps j dG;have z0:=aH ew.row _ _ p0;have z1:=aH ew.row _ _ p1;have Vv:(j:Int)<(ds[k].ps.length:Int):=by omega
      have sd:(0:Int)<=(j:Int):=by omega
      clear p0 p1;have fU:∀n,(wr.drewN n).ownsRow 0 212 2 (.slice (some ⟨qp,0,none⟩) ds[k].ps.length pcap) ds[k].ps.length (rcs ds[k].ps):=fun _=>ew.row
      cases hp:qY (ds[k].ps.take j) ds[k].ps[j].txt
      ·have zv:Hid (gD (jv ds[k].ps (j+1) (ds[k].ps.drop (j+1))) 4 K2=R):=(xE _ K2 j dG hp).symm.trans ix.out;have lw:=vN hp;go_wp2_with fail
       go_quiet ((go_at_call 147;exact dK (gP _ ds[k].ps j _ _ (by omega) (by omega) (fU _))))
       go_wp2_with fail
       go_roundw
       case rel=>exact ⟨j+1,by omega,by go_num,zv,hn.drewN _⟩
       case measure=>simp [intOf];omega
      ·have HE:Hid ((((ds[k].ps[j].pos:Nat):Int),(4:Int))=R):=(zB _ K2 j dG hp).symm.trans ix.out;have lw:=lP hp;go_wp2_with fail
       go_quiet ((go_at_call 147;exact dK (gP _ ds[k].ps j _ _ (by omega) (by omega) (fU _))))
       go_wp2_with fail
       go_ret2
       exact ⟨fQ HE.out,bY hn.bel _⟩
     ·have zv:Hid (gD (fC ds (k+1) (ds.drop (k+1))) 4 K1=R):=uC.out.trans ((zC _ K2 j dG).symm.trans ix.out);go_wp2_with fail
      go_roundw
      case rel=>exact ⟨k+1,by omega,by go_num,zv,hn⟩
      case measure=>simp [intOf];omega
   ·have HE:Hid ((((ds[k].name.pos:Nat):Int),(4:Int))=R):=(zE ds K1 k cV hh).symm.trans HH.out;have hw:=lP (ts:=(ds.map (·.name)).take k) (s:=ds[k].name.txt) (by rw [<-dY,iU];exact hh);go_wp2_with fail
    refine (gP _ (ds.map (·.name)) k _ _ (by simp;omega) (by simp;omega) (by simpa using hn.frow)).mono ?_
    rintro e w2 ⟨rfl,rfl⟩
    go_wp2_with fail
    go_ret2
    exact ⟨fQ HE.out,hn.bel⟩
  ·have HK:Hid (K1=R):=by have:=HH.out;rw [bj (by omega)] at this;exact this
   clear HH;go_wp2_with fail
   generalize hU:ds.map (·.name)=names at*;have oC:names.length=ds.length:=by rw [<-hU];simp
   have HU:Hid (ds.map (·.name)=names):=hU;clear hU;have gT:Hid (gD (mE ds (ds.drop 0)) 5 (0,sX ds)=R):=by have:=mr.out;rw [dw];exact this.trans HK.out
   clear HK mr lN
   go_loopw [10] (fun a wx=>∃(k:Nat),k<=ds.length/\a=.int .i64 k/\Hid (gD (mE ds (ds.drop k)) 5 (0,sX ds)=R)/\NR w wx q cap ts s (.slice ao ds.length cap2) (.slice fo ds.length fcap) ds xs T) (fun a _=>ds.length-(intOf a).toNat)
   case atStart=>exact ⟨0,aF _,rfl,gT,hn⟩
   case round=>
    clear hn cV hk;obtain ⟨k2,eh,rfl,HH,hn⟩:=hrel;by_cases tn:k2<ds.length
    ·obtain ⟨qf,cf,ZL,_,_⟩:=hn.frow.form (by omega);cases ZL
     obtain ⟨qd,cd,Gw,_,_⟩:=hn.drow.form (by omega);cases Gw
     obtain ⟨pv,a,b,t0,t1,t2,t3,t4,ew⟩:=hn.dall.at k2 tn;have y3:=aH hn.drow _ _ t3;have HC:=(Jw ds k2 tn).symm.trans HH.out;generalize hK3:gD (mE ds (ds.drop (k2+1))) 5 (0,sX ds)=K3 at HC;have xB:Hid (gD (mE ds (ds.drop (k2+1))) 5 (0,sX ds)=K3):=hK3;have fE:Hid _:=HC;clear HC hK3 HH;have oG:ds[k2].ps.length<=1000000:=oD _ (aE tn);have hto:=ew.tq;have iH:=ew.le;have fN:=ew.body;have HB:Hid (∀j,j<ds[k2].body.length->ts[a+j]?=ds[k2].body[j]?):=fN;have HT:Hid (a+ds[k2].body.length=b):=hto;have y2:=aH hn.drow _ _ t2;have y4:=aH hn.drow _ _ t4;have yq:=ew.row;clear fN hto ew t0 t1 t2 t3 t4;have Ye:(k2:Int)<(ds.length:Int):=by omega
     have qi:(0:Int)<=(k2:Int):=by omega
     go_wp2_with fail
     clear y3
     go_loopw [11] (fun v wx=>∃(j J:Nat),j<=ds[k2].body.length/\Hid (J=a+j)/\v=.int .i64 J/\Hid (gD (sA ds ds[k2].ps (ds[k2].body.drop j)) 5 K3=R)/\NR w wx q cap ts s (.slice (some ⟨qd,0,none⟩) ds.length cap2) (.slice (some ⟨qf,0,none⟩) ds.length fcap) ds xs T/\∃pv,wx.cell? ⟨qd,k2*5+2,none⟩=some pv/\wx.cell? ⟨qd,k2*5+4,none⟩=some (.int .i64 b)/\wx.ownsRow 0 212 2 pv ds[k2].ps.length (rcs ds[k2].ps)) (fun v _=>2000-(intOf v).toNat)
     case atStart=>exact ⟨0,a,aF _,rfl,rfl,fE,hn,pv,y2,y4,yq⟩
     case round=>
      clear hn y2 y4 yq;obtain ⟨j,J,hj,HJ,rfl,ix,hn,pv,y2,y4,yq⟩:=hrel;obtain ⟨po,pcap,rfl⟩:=aU yq;have hb:=HT.out;have hJ:=HJ.out;by_cases dG:j<ds[k2].body.length
      ·have hJb:(J:Int)<(b:Int):=by omega
       have hJt:J<ts.length:=by omega
       have kF:ts[J]?=some ds[k2].body[j]:=by rw [hJ,HB.out j dG];exact aj dG
       have Kb:WT ds[k2].body[j].txt:=by
        obtain ⟨h1,h2⟩:=aP.1 kF;rw [<-h2];exact mO _ (aE h1)
       have ⟨z0,z1⟩:=jQ (ts++[km s]) J ds[k2].body[j] (by rw [aI hJt];exact kF);have x0:=aH hn.trow _ _ z0;have x1:=aH hn.trow _ _ z1;have Yu:(J:Int)<(ts.length:Int)+1:=by omega
       have hJ0:(0:Int)<=(J:Int):=by omega
       have fU:∀n,(wr.drewN n).ownsRow 0 212 2 (.slice po ds[k2].ps.length pcap) ds[k2].ps.length (rcs ds[k2].ps):=fun _=>yq
       have Kv:=qT ds[k2].body[j].txt;have zf:Hid (names.take ds.length=names):=by rw [<-oC];exact bA
       have hF:qY names ds[k2].body[j].txt=vm ds ds[k2].body[j].txt:=by rw [<-HU.out];exact iU ds _
       have HJ':Hid (J=a+j):=HJ;clear hb hJ kF z0 z1 HJ;by_cases eA:bf ds[k2].body[j].txt=1
       ·have fH:el (bf ds[k2].body[j].txt)=1:=by rw [eA];rfl
        cases hf:vm ds ds[k2].body[j].txt
        ·have hA:whr names ds[k2].body[j].txt<0:=vN (hF.trans hf);cases hp:qY ds[k2].ps ds[k2].body[j].txt
         ·have hB:whr ds[k2].ps ds[k2].body[j].txt<0:=vN hp;have HE:Hid ((((ds[k2].body[j].pos:Nat):Int),(5:Int))=R):=(E4 ds _ _ K3 j dG (by simp [uF,eA,hf,hp])).symm.trans ix.out;clear hF Kv eA hf hp;go_wp2_with fail
          refine (C5 _ _ Kb).mono ?_
          rintro e w2 ⟨rfl,rfl⟩
          go_wp2_with fail
          refine (gP _ names ds.length _ _ (by omega) (by omega) (by rw [oC,<-HU.out];exact hn.frow)).mono ?_
          rintro e w3 ⟨rfl,rfl⟩
          rw [zf.out];go_wp2_with fail
          go_quiet ((go_at_call 147;exact dK (gP _ ds[k2].ps ds[k2].ps.length _ _ (by omega) (by omega) (fU _))))
          simp only [bA];go_wp2_with fail
          go_ret2
          exact ⟨fQ HE.out,bY hn.bel _⟩
         ·have hB:¬whr ds[k2].ps ds[k2].body[j].txt<0:=by have:=lP hp;omega
          have ST:decide (whr ds[k2].ps ds[k2].body[j].txt<0)=false:=by simpa using hB
          have HE:Hid (gD (sA ds ds[k2].ps (ds[k2].body.drop (j+1))) 5 K3=R):=(qr ds _ _ K3 j dG (by simp [uF,hp])).symm.trans ix.out;clear hF Kv eA hf hp;go_wp2_with fail
          refine (C5 _ _ Kb).mono ?_
          rintro e w2 ⟨rfl,rfl⟩
          go_wp2_with fail
          refine (gP _ names ds.length _ _ (by omega) (by omega) (by rw [oC,<-HU.out];exact hn.frow)).mono ?_
          rintro e w3 ⟨rfl,rfl⟩
          rw [zf.out];go_wp2_with fail
          go_quiet ((go_at_call 147;exact dK (gP _ ds[k2].ps ds[k2].ps.length _ _ (by omega) (by omega) (fU _))))
          simp only [bA];go_wp2_with fail
          go_roundw
          case rel=>exact ⟨j+1,J+1,by omega,by have:=HJ'.out;show _=_;omega,by go_num,HE,hn.drewN _,_,y2,y4,yq⟩
          case measure=>simp [intOf];omega
        ·have hA:¬whr names ds[k2].body[j].txt<0:=by have:=lP (hF.trans hf);omega
         have hAd:decide (whr names ds[k2].body[j].txt<0)=false:=by simpa using hA
         have HE:Hid (gD (sA ds ds[k2].ps (ds[k2].body.drop (j+1))) 5 K3=R):=(qr ds _ _ K3 j dG (by simp [uF,hf])).symm.trans ix.out;clear hF Kv eA hf;go_wp2_with fail
         refine (C5 _ _ Kb).mono ?_
         rintro e w2 ⟨rfl,rfl⟩
         go_wp2_with fail
         refine (gP _ names ds.length _ _ (by omega) (by omega) (by rw [oC,<-HU.out];exact hn.frow)).mono ?_
         rintro e w3 ⟨rfl,rfl⟩
         rw [zf.out];go_wp2_with fail
         go_quiet ((go_at_call 147;exact dK (gP _ ds[k2].ps ds[k2].ps.length _ _ (by omega) (by omega) (fU _))))
         simp only [bA];go_wp2_with fail
         go_roundw
         case rel=>exact ⟨j+1,J+1,by omega,by have:=HJ'.out;show _=_;omega,by go_num,HE,hn.drewN _,_,y2,y4,yq⟩
         case measure=>simp [intOf];omega
       ·have fH:(el (bf ds[k2].body[j].txt)==1)=false:=by
         rcases qB Kv with h|h|h|h|h|h|h|h<;>first|exact absurd h eA|(rw [h];decide)
        have HE:Hid (gD (sA ds ds[k2].ps (ds[k2].body.drop (j+1))) 5 K3=R):=(qr ds _ _ K3 j dG (by simp [uF,eA])).symm.trans ix.out;clear hF Kv eA;go_wp2_with fail
        refine (C5 _ _ Kb).mono ?_
        rintro e w2 ⟨rfl,rfl⟩
        go_wp2_with fail
        refine (gP _ names ds.length _ _ (by omega) (by omega) (by rw [oC,<-HU.out];exact hn.frow)).mono ?_
        rintro e w3 ⟨rfl,rfl⟩
        rw [zf.out];go_wp2_with fail
        go_quiet ((go_at_call 147;exact dK (gP _ ds[k2].ps ds[k2].ps.length _ _ (by omega) (by omega) (fU _))))
        simp only [bA];go_wp2_with fail
        go_roundw
        case rel=>exact ⟨j+1,J+1,by omega,by have:=HJ'.out;show _=_;omega,by go_num,HE,hn.drewN _,_,y2,y4,yq⟩
        case measure=>simp [intOf];omega
      ·have hJb:¬(J:Int)<(b:Int):=by omega
       have HE:Hid (gD (mE ds (ds.drop (k2+1))) 5 (0,sX ds)=R):=xB.out.trans ((E5 ds _ _ K3 j dG).symm.trans ix.out);clear hb hJ;go_wp2_with fail
       go_roundw
       case rel=>exact ⟨k2+1,by omega,by go_num,HE,hn⟩
       case measure=>simp [intOf];omega
    ·have HE:Hid ((0,sX ds)=R):=by have:=HH.out;rw [bj (by omega)] at this;exact this
     have lX:sX ds=if whr names ⟨#[109,97,105,110]⟩<0 then 6 else if 0<(ds[(whr names ⟨#[109,97,105,110]⟩).toNat]?.getD df0).ps.length then 6 else 0:=by unfold sX;rw [HU.out];rfl
     have HM:Hid _:=lX;have zf:Hid (names.take ds.length=names):=by rw [<-oC];exact bA
     clear HH lX;by_cases PZ:whr names ⟨#[109,97,105,110]⟩<0
     ·have oQ:Hid (((0:Int),(6:Int))=R):=by have:=HM.out;rw [aA PZ] at this;exact (congrArg (fun x=>((0:Int),x)) this.symm).trans HE.out
      go_wp2_with fail
      refine (gP _ names ds.length _ _ (by omega) (by omega) (by rw [oC,<-HU.out];exact hn.frow)).mono ?_
      rintro e w3 ⟨rfl,rfl⟩
      rw [zf.out];go_wp2_with fail
      go_ret2
      exact ⟨fQ oQ.out,hn.bel⟩
     ·obtain ⟨i,hi⟩:=aZ (show 0<=whr names ⟨#[109,97,105,110]⟩ by omega);have ly:i<ds.length:=by
       rw [<-oC];unfold whr at hi;split at hi
       ·rename_i i' h';obtain ⟨h1,_⟩:=cY.1 h';have:i'=i:=by omega
        omega
       ·omega
      have oQ:Hid (((0:Int),(if 0<ds[i].ps.length then (6:Int) else 0))=R):=by
       have:=HM.out;rw [ay PZ,hi,bC,aj ly,b6] at this;exact (congrArg (fun x=>((0:Int),x)) this.symm).trans HE.out
      clear HM HE;obtain ⟨qd,cd,Gw,_,_⟩:=hn.drow.form (by omega);cases Gw
      obtain ⟨pv,a,b,t0,t1,t2,t3,t4,ew⟩:=hn.dall.at i ly;have y2:=aH hn.drow _ _ t2;obtain ⟨po,pcap,rfl⟩:=aU ew.row;have hii:(i:Int)<(ds.length:Int):=by omega
      have tv:(0:Int)<=(i:Int):=by omega
      have GH:¬(i:Int)<0:=by omega
      clear t0 t1 t2 t3 t4 ew;have HI:Hid (whr names ⟨#[109,97,105,110]⟩=(i:Int)):=hi;clear hi PZ;by_cases qW:0<ds[i].ps.length
      ·have ZQ:(0:Int)<(ds[i].ps.length:Int):=by omega
       rw [aA qW] at oQ;clear qW;go_wp2_with fail
       refine (gP _ names ds.length _ _ (by omega) (by omega) (by rw [oC,<-HU.out];exact hn.frow)).mono ?_
       rintro e w3 ⟨rfl,rfl⟩
       rw [zf.out,HI.out];go_wp2_with fail
       go_ret2
       exact ⟨fQ oQ.out,hn.bel⟩
      ·have ZQ:¬(0:Int)<(ds[i].ps.length:Int):=by omega
       rw [ay qW] at oQ;clear qW;go_wp2_with fail
       refine (gP _ names ds.length _ _ (by omega) (by omega) (by rw [oC,<-HU.out];exact hn.frow)).mono ?_
       rintro e w3 ⟨rfl,rfl⟩
       rw [zf.out,HI.out];go_wp2_with fail
       go_ret2
       exact ⟨fQ oQ.out,hn.bel⟩
theorem main_eq (ds:List Df):oq ds=sX ds:=rfl
theorem TS (ds:List Df):nR ds=(if (gL (fC ds 0 ds) 4).2≠0 then gL (fC ds 0 ds) 4 else if (gL (mE ds ds) 5).2≠0 then gL (mE ds ds) 5 else (0,oq ds)):=by
 unfold nR;cases ht:fC ds 0 ds with
 |some p=>simp [gD,gL]
 |none=>
  cases hu:mE ds ds with
  |some p=>simp [gD,gL]
  |none=>simp [gD,gL,main_eq ds]
theorem qR (s:ByteArray) (w:World) (hs:s.size<=maxLen):
 Calls Tryz.prog 65 #[.string s] w fun e w'=>e=.returned (.tuple #[.int .i64 (chk s).1,.int .i64 (chk s).2])/\Below w.heap.size w w':=by
 unfold maxLen at hs;generalize hR:chk s=R;have HR:Hid (chk s=R):=hR;clear hR;by_cases kY:1000<s.size
 ·have HE:Hid (((0:Int),(1:Int))=R):=by rw [<-HR.out];simp [Hid,chk,kY]
  go_enter Tryz.func65,Tryz.ntmps65
  go_wp2_with fail
  go_ret2
  exact ⟨fQ HE.out,ai _ _⟩
 ·have k9:s.size<=1000:=by omega
  have ja:(ci s 0).length<=1000:=aJ (oZ s 0) (by omega);have mO:=vR s k9 0;have gT:=HR.out;unfold chk at gT;rw [ay kY] at gT;clear HR;generalize MM:ci s 0=ts at*;have Yz:Hid (ci s 0=ts):=MM;clear MM;have xA:Hid _:=gT;clear gT;go_enter Tryz.func65,Tryz.ntmps65
  go_wp2_with fail
  refine (FB s _ k9).mono ?_
  rintro e w1 ⟨v1,rfl,mU,bB⟩
  rw [Yz.out] at mU;have th:=bO mU (aF _);clear mU;go_wp2_with fail
  refine (Ty s v1 ts _ k9 ja mO th).mono ?_
  rintro e w2 ⟨rfl,bX⟩
  have mT:=aQ th bX;have ik:=bB.trans (bX.mono bB.size);clear bB bX th;by_cases hg:(jT s.size g0 ts).2=0
  ·obtain ⟨ds,Pr,yI⟩:=CX s.size ts hg;have nQ:=(ay (by simpa using hg)).symm.trans xA.out;rw [yI,<-TS] at nQ;have Eg:Hid (nR ds=R):=nQ;have rF:=l8 ts;have ok1:ds.length<=1000000:=by have:=rF.i1;rw [yI] at this;omega
   have ok2:∀d∈ds,d.ps.length<=1000000:=fun d hd=>by have:=(rF.i4 d (by rw [yI];exact hd)).1;omega
   clear xA nQ rF yI;go_wp2_with fail
   clear hg;refine (TK s v1 ts ds _ ja mO Pr mT).mono ?_
   rintro e w3 ⟨lv,rfl,df,xs,ld,mV⟩
   have PJ:=aQ mT df;have tH:=ik.trans (df.mono ik.size);clear df ik mT;obtain ⟨q,cap,rfl,_,_⟩:=PJ.form (by omega);go_wp2_with fail
   refine (Od s q cap ts lv ds xs _ _ ja ok1 ok2 mO PJ ld mV (ah _)).mono ?_
   rintro e w4 ⟨rfl,dU⟩
   have DG:=tH.trans (dU.mono tH.size);go_wp2_with fail
   go_ret2
   exact ⟨fQ Eg.out,DG⟩
  ·have ud:Hid _:=(aA (by simpa using hg)).symm.trans xA.out;have Nb:((jT s.size g0 ts).2==0)=false:=by simpa using hg
   clear xA;go_wp2_with fail
   go_ret2
   exact ⟨fQ ud.out,ik⟩
theorem Lu:chk ⟨#[109,97,105,110,32,61,32,120,59]⟩=(7,5):=by decide+kernel
def CH (ds:List Df):Prop:=∀d∈ds,∀hd a,d.body=hd::At.toks a->dZ hd->a.ok->32::(wL d.ps (ds.map (·.name)) hd++spW d.ps (ds.map (·.name)) a)=jP d.body false 0
theorem YY (s:ByteArray) (ds:List Df) (w:World) (hs:s.size<=maxLen) (DC:(chk s).2=0->s.size<=1000/\Prog (ci s 0) ds/\CH ds/\(∀d∈ds,DfOk d)):
 Calls Tryz.prog 67 #[.string s] w fun e w'=>∃x:ByteArray,e=.returned (.tuple #[.string x,.int .i64 (chk s).2])/\x.data.toList=(if (chk s).2=0 then ph ds else [])/\Below w.heap.size w w':=by
 by_cases h0:(chk s).2=0
 ·obtain ⟨k9,hp,Ew,AJ⟩:=DC h0;have NG:Hid _:=AJ;have HSS:Hid _:=Ew;have HP:Hid _:=hp;have rF:=l8 (ci s 0);have EI:=ss hp.shq.shp;have ja:=hp.lt;have oG:ds.length<=1000:=by rw [<-EI];exact aJ rF.i1 ja
  clear AJ Ew EI rF ja DC;have UT:=hp;clear hp;rw [h0];simp only [cQ];go_enter Tryz.func67,Tryz.ntmps67
  go_wp2_with fail
  refine (qR s _ hs).mono ?_
  rintro e w1 ⟨rfl,bB⟩
  rw [h0];go_wp2_with fail
  refine (wa s ds _ k9 UT).mono ?_
  rintro e w2 ⟨v,mm,rfl,bX,_,xs,bW,kG⟩
  have ik:=bB.trans (bX.mono bB.size);obtain ⟨lo,lcap,rfl⟩:=aU bW;clear bB bX UT h0;have kc:=pV;go_wp2_with fail
  go_loopw [8,9] (fun x y wr=>∃(k:Nat) (ox:ByteArray),k<=ds.length/\y=.int .i64 k/\x=.string ox/\Hid (ox.data.toList=ph (ds.take k))/\ox.size<=k*5000000/\Below w2.heap.size w2 wr) (fun _ y _=>ds.length-(intOf y).toNat)
  case atStart=>exact ⟨0,_,aF _,rfl,rfl,by simp [Hid,ph],ah _,ai _ _⟩
  case round=>
   obtain ⟨k,ox,hk,rfl,rfl,HOX,ZT,hb⟩:=hrel;have dk:=hb.size;by_cases bF:k<ds.length
   ·obtain ⟨qd,cd,Gw,_,_⟩:=bW.form (by omega);cases Gw
    have xu:=aE bF;obtain ⟨hwn,hwp,Pd,oD,ur⟩:=NG.out ds[k] xu;have Sq:=hwn.2.1;have s9:=aQ bW hb;obtain ⟨psv,bv,t0,t1,t2,qI⟩:=(kG.keep hb).at k bF;have d0:=aH s9 _ _ t0;have d1:=aH s9 _ _ t1;have d2:=aH s9 _ _ t2;obtain ⟨jD,Gz,⟨mz,a0,ys,fN,wF,zp,DE,nX⟩,iB⟩:=qI;obtain ⟨po,pcap,rfl⟩:=aU jD;obtain ⟨bo,bcap,rfl⟩:=aU DE;have hba:a0.toks.length<1001:=by have h1:=congrArg List.length fN;simp at h1;omega
    have gB:∀t∈mz::a0.toks,dZ t->(aX ds[k].ps (ds.map (·.name)) t).1=1->t.txt.size<=6/\mB t.txt.data.toList:=fun t ht h1 h2=>HP.out.num ds[k] xu t (HP.out.shq.mem ds[k] xu t (by rw [fN];exact ht)) h1 (by rw [fN];exact ht) h2
    have HC:Hid _:=Tx ds[k].name.txt ds[k].ps (ds.map (·.name)) ds (.slice po ds[k].ps.length pcap) (.slice bo (a0.cnt+1) bcap) (.slice (some ⟨qd,0,none⟩) ds.length lcap) xs w2.heap.size oD oG rfl 1001 mz a0 ys (.slice bo (a0.cnt+1) bcap) wr.drew (by rw [cD];exact dk) hba (ah _) (by rw [<-fN];exact Pd) wF zp gB (World.ownsRow.drew jD) (World.ownsRow.drew s9) (gO.drew (kG.keep hb)) (World.ownsRow.drew DE) (ER.drew (ER.keep (fun _ _=>rfl) (fun k hk=>bq hk dk) nX));have qm:Hid _:=HSS.out ds[k] xu mz a0 fN wF zp;have Jp:Hid ((wL ds[k].ps (ds.map (·.name)) mz++spW ds[k].ps (ds.map (·.name)) a0).length<=2000000):=by
     show _<=_
     have h1:=By ds[k].ps (ds.map (·.name)) (Pd mz (by rw [fN];simp));have h2:=zJ ds[k].ps (ds.map (·.name)) a0 (fun t ht=>Pd t (by rw [fN];simp [ht]));rw [au];omega
    have HB:Hid _:=fN;clear t0 t1 t2 s9 fN gB Pd nX DE kG;have agA:ox.size<=5000000000:=aJ ZT (aJ (dq _ (aJ hk oG)) (by decide));have HOS:Hid _:=ZT;clear ZT;go_wp2_with fail
    have Dq:(ox++ds[k].name.txt).size=ox.size+ds[k].name.txt.size:=bw;have Ej:Hid ((ox++ds[k].name.txt).data.toList=ph (ds.take k)++ds[k].name.txt.data.toList):=by show _=_;rw [cK,HOX.out]
    generalize ox++ds[k].name.txt=ox1 at*
    go_loop [8,10] (fun x y=>∃(j:Nat) (oy:ByteArray),j<=ds[k].ps.length/\y=.int .i64 j/\x=.string oy/\Hid (oy.data.toList=ph (ds.take k)++ds[k].name.txt.data.toList++psL (ds[k].ps.take j))/\oy.size<=ox.size+1000+j*1001) (fun _ y=>ds[k].ps.length-(intOf y).toNat)
    case atStart=>exact ⟨0,ox1,aF _,rfl,rfl,by show _=_;rw [Ej.out];simp [psL],by omega⟩
    case round=>
     obtain ⟨j,oy,hj,rfl,rfl,HOY,hoy⟩:=hrel;by_cases dG:j<ds[k].ps.length
     ·obtain ⟨qp,cp,UQ,_,_⟩:=jD.form (by omega);cases UQ
      have x0:=aH jD j (.string ds[k].ps[j].txt) (by unfold I2;rw [cH,aj dG];rfl);have hpw:=(hwp ds[k].ps[j] (aE dG)).2.1;go_wp2_with fail
      go_round
      case rel=>
       refine ⟨j+1,_,dG,by go_num,rfl,?_,?_⟩
       ·show _=_
        simp only [cK];rw [HOY.out,BM _ _ dG];simp
       ·simp only [bw];have:(⟨#[32]⟩:ByteArray).size=1:=rfl;omega
      case measure=>simp [intOf];omega
     ·have Vw:j=ds[k].ps.length:=by omega
      subst Vw;rw [bA] at HOY;go_wp2_with fail
      go_cut [11] (fun vx wc=>∃y:ByteArray,vx=.string y/\y.data.toList=wL ds[k].ps (ds.map (·.name)) mz++spW ds[k].ps (ds.map (·.name)) a0/\y.size<=2000000/\Below w2.heap.size w2 wc)
      case first=>
       go_region_with (go_at_call 112;go_must (refine (show Calls _ _ _ _ _ from HC.out).mono ?_);rintro e w1 ⟨y,rfl,hy,bB⟩)
       all_goals
        go_wp2_with fail
        go_meet
        case rel=>exact ⟨y,rfl,hy,by rw [cg,hy];exact Jp.out,hb.trans ((aR (ai _ _)).trans (bB.mono (by simp [heap_drew];omega)))⟩
      case rest=>
       obtain ⟨y,hx,hy,mj,jq⟩:=hcut;rw [hx];clear hx;have HY:Hid _:=hy;clear hy;have oC:(strOfNums [10]).size=1:=rfl;go_wp2_with fail
       go_roundw
       case rel=>
        refine ⟨k+1,_,bF,by go_num,rfl,?_,?_,jq.alloc jq.size _⟩
        ·show _=_
         simp only [cK];rw [HOY.out,HY.out,uN _ _ bF,WW,<-qm.out];simp [NZ]
        ·have:=HOS.out;simp only [bw];have h1:(⟨#[32,61,32]⟩:ByteArray).size=3:=rfl;have h2:(⟨#[59]⟩:ByteArray).size=1:=rfl;omega
       case measure=>simp [intOf];omega
   ·have eh:k=ds.length:=by omega
    subst eh;rw [bA] at HOX;go_wp2_with fail
    go_ret2
    exact ⟨ox,rfl,HOX.out,ik.trans (hb.mono ik.size)⟩
 ·have vq:((chk s).2==0)=false:=by simpa using h0
  rw [ay h0];clear DC;go_enter Tryz.func67,Tryz.ntmps67
  go_wp2_with fail
  refine (qR s _ hs).mono ?_
  rintro e w1 ⟨rfl,bB⟩
  go_wp2_with fail
  go_ret2
  exact ⟨_,rfl,rfl,bB⟩
theorem x7 {ds:List Df} {d:Df} {t:Tk} (hw:WT t.txt) (hs:dZ t) (Z0:∀p∈d.ps,bf p.txt=1) (GH:∀e∈ds,bf e.name.txt=1) (hu:uF ds d.ps t=false):(aX d.ps (ds.map (·.name)) t).1=1↔bf t.txt=2:=by
 have Sr:bf t.txt=2->∀l:List Tk,(∀p∈l,bf p.txt=1)->¬0<=whr l t.txt:=by
  intro h2 l hl h0;obtain ⟨i,hi,_,he⟩:=n8 h0;have:=hl l[i] (aE hi);rw [he] at this;omega
 rcases hs with h1|h2|h3
 ·have GO:=ya h1;have lK:¬0<=fM t.txt.toList:=by
   rw [kx t.txt (fun c hc e=>by rw [e] at GO;simp only [isL,aL] at GO;omega)];decide
  unfold uF at hu;rw [h1] at hu;simp only [eV,dp,cC,Bool.not_eq_false'] at hu;constructor
  ·intro hk
   exfalso
   unfold aX at hk;rw [ay lK] at hk;rcases hu with hu|hu
   ·rw [aA (lP hu)] at hk;simp at hk
   ·rw [<-iU] at hu;by_cases hq:0<=whr d.ps t.txt
    ·rw [aA hq] at hk;simp at hk
    ·rw [ay hq,aA (lP hu)] at hk;simp at hk
  ·intro h2;omega
 ·refine ⟨fun _=>h2,fun _=>?_⟩
  have KH:=(lU h2).1;have lK:¬0<=fM t.txt.toList:=by
   rw [kx t.txt (fun c hc e=>by rw [e] at KH;simp only [isD,aL] at KH;omega)];decide
  unfold aX;rw [ay lK,ay (Sr h2 d.ps Z0),ay (Sr h2 (ds.map (·.name)) (fun p hp=>by obtain ⟨e,he,rfl⟩:=bZ.1 hp;exact GH e he))]
 ·have jD:=x9 h3;have lK:0<=fM t.txt.toList:=by
   refine sP t.txt (hw.2.2 ?_ ?_) jD
   ·simp only [isL,cw];omega
   ·simp only [isD,cw];omega
  unfold aX;rw [aA lK];simp only [show ¬((4:Int)=1) by decide,false_iff];omega
theorem Mf {ds:List Df} {d:Df} {t:Tk} (h:(aX d.ps (ds.map (·.name)) t).1=1↔bf t.txt=2):wL d.ps (ds.map (·.name)) t=tkL t:=by
 unfold wL tkL;by_cases h2:bf t.txt=2
 ·rw [aA (h.2 h2),aA h2]
 ·rw [ay (fun e=>h2 (h.1 e)),ay h2]
theorem N0 {ps names:List Tk} {a:At} (ho:a.ok) (h:∀t∈a.toks,dZ t->wL ps names t=tkL t):spW ps names a=spT a:=by
 induction a with
 |nil=>rfl
 |sim t r ih=>rw [spW,spT,h t (by simp [At.toks]) ho.1,ih ho.2 (fun t ht=>h t (by simp [At.toks,ht]))]
 |par o x c ag r ih1 ih2=>
  obtain ⟨h1,h2,h3,h4,h5⟩:=ho;have e1:=h x (by simp [At.toks]) h2;have e2:=ih2 h5 (fun t ht=>h t (by simp [At.toks,ht]));have e3:=ih1 h4 (fun t ht=>h t (by simp [At.toks,ht]));by_cases hn:ag=.nil
  ·subst hn;rw [spW,spT,e1,e2]
  ·rw [qs hn,Fe hn,e1,e2,e3]
theorem iA (s:ByteArray) (h:(chk s).2=0):s.size<=1000/\Prog (ci s 0) (eT (ci s 0)).ds/\CH (eT (ci s 0)).ds/\(∀d∈(eT (ci s 0)).ds,DfOk d)/\(eT (ci s 0)).ds.length<=1000:=by
 unfold chk at h;by_cases kY:1000<s.size
 ·rw [aA kY] at h;simp at h
 rw [ay kY] at h;by_cases hg:(jT s.size g0 (ci s 0)).2=0
 ·rw [ay (by simpa using hg)] at h;have k9:s.size<=1000:=by omega
  have ja:(ci s 0).length<=1000:=aJ (oZ s 0) (by omega);have mO:=vR s k9 0;have G4:=sD s 0;obtain ⟨ds,pE,yI⟩:=uI s.size (ci s 0) hg;have rF:=l8 (ci s 0);have uu:=rF.i1;have Ql:=rF.i4;clear rF;rw [yI] at h uu Ql ⊢;generalize ci s 0=ts at*;have hu:mE ds ds=none:=by
   cases ht:fC ds 0 ds with
   |some p=>rw [ht] at h;simp [gL] at h
   |none=>
    cases hu:mE ds ds with
    |some p=>rw [ht,hu] at h;simp [gL] at h
    |none=>rfl
  have Zr:=vO hu;have Ap:=pE.names;have Qd:∀d∈ds,∀t∈d.body,dZ t->((aX d.ps (ds.map (·.name)) t).1=1↔bf t.txt=2):=fun d hd t ht hs=>
   x7 (mO t (pE.mem d hd t ht)) hs (Ap d hd).2.1 (fun e he=>(Ap e he).1) (Zr d hd t ht)
  refine ⟨k9,⟨pE,mO,ja,?_⟩,?_,?_,aJ uu ja⟩
  ·intro d hd t ht hs htb hk;have h2:=(Qd d hd t htb hs).1 hk;exact ⟨(lU h2).2,G4 t ht (lU h2).1⟩
  ·intro d hd x a hb hs ha;have Pd:∀t∈d.body,WT t.txt:=fun t ht=>mO t (pE.mem d hd t ht)
   rw [hb] at Pd;rw [hb,Fo hs ha (fun t ht=>Pd t (by simp [ht])),Mf (Qd d hd x (by rw [hb];simp) hs),N0 ha (fun t ht hs=>Mf (Qd d hd t (by rw [hb];simp [ht]) hs))]
  ·intro d hd;obtain ⟨h1,h2,h3,h4⟩:=Ap d hd;exact ⟨mO _ h3,fun t ht=>mO t (h4 t ht),fun t ht=>mO t (pE.mem d hd t ht),aJ (Ql d hd).1 ja,aJ (Ql d hd).2 ja⟩
 ·rw [aA (by simpa using hg)] at h;exact absurd h hg
theorem mF (a b:At):unT (a.app b)=unT a+unT b:=by
 induction a with
 |nil=>simp [At.app,unT]
 |sim t r ih=>simp [At.app,unT,ih]
 |par o h c ag r ih1 ih2=>
  by_cases hn:ag.isNil=true
  ·simp [At.app,unT,hn,ih2]
  ·simp [At.app,unT,hn,ih2];omega
theorem wj (f:Tk->Int×Int) (a b:At):∀k,gx f (a.app b) k=gx f a k++gx f b (k+unT a):=by
 induction a with
 |nil=>intro k;simp [At.app,gx,unT]
 |sim t r ih=>intro k;simp [At.app,gx,unT,ih]
 |par o h c ag r ih1 ih2=>
  intro k;by_cases hn:ag.isNil=true
  ·simp [At.app,gx,unT,hn,ih2]
  ·simp only [At.app,gx,unT,hn,cm,dc,ih2,eO];rw [show k+1+unT ag+unT r=k+(1+unT ag+unT r) by omega]
theorem sN (f:Tk->Int×Int) (a b:At):∀k,dC f (a.app b) k=dC f a k++dC f b (k+unT a):=by
 induction a with
 |nil=>intro k;simp [At.app,dC,unT]
 |sim t r ih=>intro k;simp [At.app,dC,unT,ih]
 |par o h c ag r ih1 ih2=>
  intro k;by_cases hn:ag.isNil=true
  ·simp [At.app,dC,unT,hn,ih2]
  ·simp only [At.app,dC,unT,hn,cm,dc,ih2,eO,bI];rw [show k+1+unT ag+unT r=k+(1+unT ag+unT r) by omega]
theorem sB (a:At):unT a<=a.toks.length:=by
 induction a with
 |nil=>exact ah _
 |sim t r ih=>simp [unT,At.toks];omega
 |par o h c ag r ih1 ih2=>
  by_cases hn:ag.isNil=true
  ·simp [unT,At.toks,hn];omega
  ·simp [unT,At.toks,hn];omega
theorem JM (f:Tk->Int×Int) (a:At):∀k,(gx f a k).length=a.cnt:=by
 induction a with
 |nil=>intro k;rfl
 |sim t r ih=>intro k;simp [gx,At.cnt,ih]
 |par o h c ag r ih1 ih2=>
  intro k;by_cases hn:ag.isNil=true
  ·simp [gx,At.cnt,hn,ih2]
  ·simp [gx,At.cnt,hn,ih2]
theorem Tv (ps names:List Tk) (S:Nat->Prop) (n:Nat):∀(b:At) (xs:List Value) (lv:Value) (w:World),b.toks.length<n->n<=1002->w.ownsRow 0 223 3 lv b.cnt xs->ER w S ps names b xs->
 Calls Tryz.prog 179 #[lv] w fun e w'=>e=.returned (.int .i64 (unT b))/\w'=w:=by
 induction n with
 |zero=>intro b xs lv w h;omega
 |succ n ih=>
  intro b xs lv w hbn hn hl nX;have vI:Hid _:=ih;clear ih;obtain ⟨ao,cap,rfl⟩:=aU hl;have xv:b.cnt<=1001:=aJ (At.cnt_le b) (by omega);have Dm:unT b<=1001:=aJ (sB b) (by omega);go_enter Tryz.func179,Tryz.ntmps179
  go_wp2_with fail
  go_loop [3,4] (fun x y=>∃(done rest:At) (m:Nat) (pre suf:List Value),Hid (done.app rest=b)/\y=.int .i64 m/\Hid (m=done.cnt)/\x=.int .i64 (unT done)/\Hid (xs=pre++suf)/\Hid (pre.length=m*3)/\ER w S ps names rest suf) (fun _ y=>b.cnt-(intOf y).toNat)
  case atStart=>exact ⟨.nil,b,0,[],xs,rfl,rfl,rfl,rfl,rfl,rfl,nX⟩
  case round=>
   obtain ⟨done,rest,m,pre,suf,HA,rfl,HM,rfl,mC,i5,rE⟩:=hrel;have ij:m+rest.cnt=b.cnt:=by
    have:=congrArg At.cnt HA.out;rw [At.app_cnt] at this;rw [HM.out];exact this
   have I6:unT done<=1001:=by
    have:=congrArg unT HA.out;rw [mF] at this;omega
   have ja:done.toks.length+rest.toks.length=b.toks.length:=by
    rw [<-HA.out,At.app_toks,au]
   cases rest with
   |nil=>
    have gK:m=b.cnt:=by simpa [At.cnt] using ij
    have HE:Hid (unT done=unT b):=by rw [<-HA.out,At.app_nil];exact rfl
    rw [HE.out];clear ij;subst gK;go_wp2_with fail
    go_ret
    exact ⟨rfl,rfl⟩
   |sim t r=>
    obtain ⟨q,cap',hq,_,dX⟩:=hl.form (by simp [At.cnt] at ij;omega);cases hq
    have bF:m<b.cnt:=by simp [At.cnt] at ij;omega
    obtain ⟨r',fH,ki⟩:=rE;have c0:w.cell? ⟨q,m*3,none⟩=some (.int .i64 (aX ps names t).1):=aH hl _ _ (by rw [mC.out,aC (by rw [i5.out];omega),i5.out,ct,fH];rfl);have h5:=eZ ps names t;have yP:((aX ps names t).1==5)=false:=by simpa using h5
    have oX:Hid ((done.app (.sim t .nil)).app r=b):=by rw [<-HA.out,At.app_assoc];exact rfl
    have xz:Hid (unT (done.app (.sim t .nil))=unT done):=by rw [mF];simp [Hid,unT]
    have fE:Hid (m+1=(done.app (.sim t .nil)).cnt):=by rw [At.app_cnt,HM.out];exact rfl
    have gp:Hid (xs=(pre++eC (aX ps names t).1 (aX ps names t).2 (.slice none 0 0))++r'):=by rw [mC.out,fH,bI];exact rfl
    have vH:Hid ((pre++eC (aX ps names t).1 (aX ps names t).2 (.slice none 0 0)).length=(m+1)*3):=by rw [au,i5.out];simp [Hid,eC];omega
    generalize (aX ps names t).1=kk at*;generalize (aX ps names t).2=kn at*;clear fH ij;go_wp2_with fail
    go_round
    case rel=>exact ⟨done.app (.sim t .nil),r,m+1,_,r',oX,by go_num,fE,by rw [xz.out],gp,vH,ki⟩
    case measure=>simp [intOf];omega
   |par o x c ag r=>
    obtain ⟨q,cap',hq,_,dX⟩:=hl.form (by simp [At.cnt] at ij;omega);cases hq
    have bF:m<b.cnt:=by simp [At.cnt] at ij;omega
    have oX:Hid ((done.app (.par o x c ag .nil)).app r=b):=by rw [<-HA.out,At.app_assoc];exact rfl
    have fE:Hid (m+1=(done.app (.par o x c ag .nil)).cnt):=by rw [At.app_cnt,HM.out];exact rfl
    rcases rE with ⟨qG,r',fH,ki⟩|⟨dI,pv,ys,r',fH,jD,qW,AE,ki⟩
    ·have c0:w.cell? ⟨q,m*3,none⟩=some (.int .i64 (aX ps names x).1):=aH hl _ _ (by rw [mC.out,aC (by rw [i5.out];omega),i5.out,ct,fH];rfl);have h5:=eZ ps names x;have yP:((aX ps names x).1==5)=false:=by simpa using h5
     have xz:Hid (unT (done.app (.par o x c ag .nil))=unT done):=by rw [mF,qG];simp [Hid,unT,At.isNil]
     have gp:Hid (xs=(pre++eC (aX ps names x).1 (aX ps names x).2 (.slice none 0 0))++r'):=by rw [mC.out,fH,bI];exact rfl
     have vH:Hid ((pre++eC (aX ps names x).1 (aX ps names x).2 (.slice none 0 0)).length=(m+1)*3):=by rw [au,i5.out];simp [Hid,eC];omega
     generalize (aX ps names x).1=kk at*;generalize (aX ps names x).2=kn at*;clear fH ij qG;go_wp2_with fail
     go_round
     case rel=>exact ⟨done.app (.par o x c ag .nil),r,m+1,_,r',oX,by go_num,fE,by rw [xz.out],gp,vH,ki⟩
     case measure=>simp [intOf];omega
    ·have c0:w.cell? ⟨q,m*3,none⟩=some (.int .i64 5):=aH hl _ _ (by rw [mC.out,aC (by rw [i5.out];omega),i5.out,ct,fH];rfl);have c2:w.cell? ⟨q,m*3+2,none⟩=some pv:=aH hl _ _ (by rw [mC.out,aC (by rw [i5.out];omega),i5.out,show m*3+2-m*3=2 by omega,fH];rfl);have xz:Hid (unT (done.app (.par o x c ag .nil))=unT done+1+unT ag):=by rw [mF];simp [Hid,unT,At.isNil_ne dI];omega
     have gp:Hid (xs=(pre++eC 5 0 pv)++r'):=by rw [mC.out,fH,bI];exact rfl
     have vH:Hid ((pre++eC 5 0 pv).length=(m+1)*3):=by rw [au,i5.out];simp [Hid,eC];omega
     have MN:(At.sim x ag).toks.length<n:=by simp [At.toks] at ja ⊢;omega
     have Zq:unT ag<=1001:=by have:=sB ag;simp [At.toks] at MN;omega
     have HC:Hid _:=vI.out (.sim x ag) (eC (aX ps names x).1 (aX ps names x).2 (.slice none 0 0)++ys) pv w MN (by omega) jD ⟨ys,rfl,AE⟩;obtain ⟨po,pcap,rfl⟩:=aU jD;clear fH ij;go_wp2_with fail
     refine (show Calls _ _ _ _ _ from HC.out).mono ?_
     rintro e w1 ⟨rfl,rfl⟩
     rw [show unT (.sim x ag)=unT ag from rfl];clear HC;go_wp2_with fail
     go_round
     case rel=>exact ⟨done.app (.par o x c ag .nil),r,m+1,_,r',oX,by go_num,fE,by rw [xz.out];go_num,gp,vH,ki⟩
     case measure=>simp [intOf];omega
end Go.Proofs.YtnndoagpbcacdabGreatDoor
