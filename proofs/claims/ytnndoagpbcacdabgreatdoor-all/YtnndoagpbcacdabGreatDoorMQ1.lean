import Derived.Test.YtnndoagpbcacdabGreatDoorMK5
import Derived.Test.YtnndoagpbcacdabGreatDoorMR8
import Derived.Test.YtnndoagpbcacdabGreatDoorMJ1b
import Derived.Deep.QuietTactic
import Derived.BigQuiet
import Derived.Test.YtnndoagpbcacdabGreatDoorMD0
import Derived.Test.YtnndoagpbcacdabGreatDoorMS1
namespace Go.Proofs.YtnndoagpbcacdabGreatDoor
set_option maxHeartbeats 8000000
set_option maxRecDepth 100000
open Go.RowKit
def ui (p:List UInt8):List (List UInt8)->List (List UInt8)
 |[]=>[p]
 |h::t=>(p++h)::t
def spL (c:UInt8):List UInt8->List (List UInt8)
 |[]=>[[]]
 |a::l=>if a=c then []::spL c l else ui [a] (spL c l)
def ba (l:List UInt8):ByteArray:=⟨l.toArray⟩
theorem IE (l:List UInt8):(ba l).data.toList=l:=rfl
theorem xd {s:ByteArray} {l:List UInt8} (h:s.data.toList=l):s=ba l:=by
 obtain ⟨d⟩:=s;exact congrArg ByteArray.mk (Array.ext' (by simpa using h))
theorem BO (p q:List UInt8) (L:List (List UInt8)):ui p (ui q L)=ui (p++q) L:=by
 cases L<;>simp [ui]
theorem Oi (p:List UInt8) (L:List (List UInt8)):ui p L≠[]:=by cases L<;>simp [ui]
theorem nS (c:UInt8) (l:List UInt8):spL c l≠[]:=by
 cases l with
 |nil=>simp [spL]
 |cons a l=>unfold spL;split
            ·simp
            ·exact Oi _ _
theorem rY {L:List (List UInt8)} (h:L≠[]):ui [] L=L:=by
 cases L with
 |nil=>exact absurd rfl h
 |cons a l=>simp [ui]
theorem Ff (c:UInt8) (l:List UInt8) (i:Nat) (h:i<l.length) (e:l[i]=c):spL c (l.drop i)=[]::spL c (l.drop (i+1)):=by
 rw [aW h,spL,aA e]
theorem BF (c:UInt8) (l:List UInt8) (i:Nat) (h:i<l.length) (e:l[i]≠c):spL c (l.drop i)=ui [l[i]] (spL c (l.drop (i+1))):=by
 rw [aW h,spL,ay e]
theorem Cw (l:List UInt8) (b i:Nat) (hb:b<=i) (h:i<l.length):(l.drop b).take (i+1-b)=(l.drop b).take (i-b)++[l[i]]:=by
 rw [show i+1-b=(i-b)+1 by omega,aT (by rw [cI];omega),List.getElem_drop];simp [show b+(i-b)=i by omega]
theorem tO (s:ByteArray) (b i:Nat):(s.extract b i).data.toList=(s.data.toList.drop b).take (i-b):=by
 rw [ByteArray.data_extract,Array.toList_extract]
theorem sG (c:UInt8):∀(l:List UInt8),∀x∈spL c l,x.length<=l.length
 |[],x,h=>by simp [spL] at h;simp [h]
 |a::l,x,h=>by
  unfold spL at h;split at h
  ·rcases aK.1 h with rfl|h
   ·simp
   ·have:=sG c l x h;simp;omega
  ·cases hs:spL c l with
   |nil=>exact absurd hs (nS c l)
   |cons y t=>
    rw [hs] at h;simp only [ui] at h;rcases aK.1 h with rfl|h
    ·have:=sG c l y (by rw [hs];simp);simp;omega
    ·have:=sG c l x (by rw [hs];simp [h]);simp;omega
theorem FC (s:ByteArray) (c:UInt8) (w:World) (hs:s.size<=30000):
 Calls Tryz.prog 114 #[.string s,.int .u8 (c.toNat:Int)] w fun e w'=>∃a cap,e=.returned (.slice a (spL c s.data.toList).length cap)/\Below w.heap.size w w'/\w'.ownsRow w.heap.size 9 1 (.slice a (spL c s.data.toList).length cap) (spL c s.data.toList).length (sts ((spL c s.data.toList).map ba))/\(spL c s.data.toList).length<=30001:=by
 obtain ⟨i,hi,fp,dQ,eF⟩:=bE Tryz.infoStr;have Gm:=cg s;generalize hR:spL c s.data.toList=R;have HR:Hid (spL c s.data.toList=R):=hR;clear hR;have HS:Hid (s.size=s.data.toList.length):=Gm;clear Gm;go_enter Tryz.func114,Tryz.ntmps114
 go_wp2_with fail
 go_loopw [5,6,7] (fun x y z wr=>∃(b k:Nat) (acc:List (List UInt8)),b<=k/\k<=s.size/\y=.int .i64 b/\z=.int .i64 k/\Hid (acc++ui ((s.data.toList.drop b).take (k-b)) (spL c (s.data.toList.drop k))=R)/\acc.length<=k/\wr.ownsRow w.heap.size 9 1 x acc.length (sts (acc.map ba))/\Below w.heap.size w wr) (fun _ _ z _=>s.size-(intOf z).toNat)
 case atStart=>exact ⟨0,0,[],ah _,aF _,rfl,rfl,by have:=HR.out;simpa [rY (nS _ _),Hid] using this,ah _,aM _ _ _ _,ai _ _⟩
 case round=>
  obtain ⟨b,k,acc,Nh,hk,rfl,rfl,HW,qZ,bW,hb⟩:=hrel;have dk:=hb.size;obtain ⟨ao,cap,hx⟩:=aU bW;subst hx;by_cases bF:k<s.size
  ·have Nf:=kO s k bF;have jk:k<s.data.toList.length:=by have:=HS.out;omega
   have jB:=nY s k jk;by_cases q:s.data.toList[k]=c
   ·have q1:(bt s k==(c.toNat:Int))=true:=by rw [jB,q];simp
    have HE:Hid ((acc++[(s.data.toList.drop b).take (k-b)])++ui ((s.data.toList.drop (k+1)).take (k+1-(k+1))) (spL c (s.data.toList.drop (k+1)))=R):=by
     show _=_
     rw [<-HW.out,Ff c _ k jk q,ct,du,rY (nS _ _)];simp [ui]
    have HP:Hid (s.extract b k=ba ((s.data.toList.drop b).take (k-b))):=xd (tO s b k);clear HW q jB;go_wp2_with (at_builtin;go_must (refine wpList_append_lies _ rfl _ _ _ rfl w.heap.size 9 i _ 1 16 Tryz.underlying43 hi fp dQ eF rfl (by omega) (.slice ao acc.length cap) acc.length (sts (acc.map ba)) rfl ?hown _ 1 _ [.string (s.extract b k)] rfl rfl ?dA ?h1 (by omega) ?kj ?cP ?cX _ rfl ?_))
    case hown=>exact bW.alloc _
    case dA=>exact World.news_of_block (az wr _)
    case h1=>simp [Value.oneCell']
    case kj=>unfold maxLen;omega
    case cP=>omega
    case cX=>simp;omega
    intro g cap2 w2 b7 bD dt cV;have bX:Below w.heap.size w w2:=(hb.alloc dk _).grown bD (by simp;omega) (fun j hj=>(bW.lt j hj).1);clear dt bD;rw [HP.out] at b7;go_wp2_with fail
    go_roundw
    case rel=>exact ⟨k+1,k+1,acc++[(s.data.toList.drop b).take (k-b)],ah _,bF,by go_num,by go_num,HE,by simp;omega,by rw [au,cz,List.map_singleton,rR];exact b7,bX⟩
    case measure=>simp [intOf];omega
   ·have q1:(bt s k==(c.toNat:Int))=false:=by
     rw [jB,cE];intro e;exact q (dF.1 (by omega))
    have HE:Hid (acc++ui ((s.data.toList.drop b).take (k+1-b)) (spL c (s.data.toList.drop (k+1)))=R):=by
     show _=_
     rw [<-HW.out,BF c _ k jk q,BO,Cw _ b k Nh jk]
    clear HW q jB;go_wp2_with fail
    go_roundw
    case rel=>exact ⟨b,k+1,acc,by omega,bF,rfl,by go_num,HE,by omega,bW,hb⟩
    case measure=>simp [intOf];omega
  ·have eh:k=s.size:=by omega
   have HE:Hid (acc++[(s.data.toList.drop b).take (s.size-b)]=R):=by
    show _=_
    rw [<-HW.out,eh,bj (Nat.le_of_eq HS.out.symm),show spL c []=[[]] from rfl];simp [ui]
   have HP:Hid (s.extract b s.size=ba ((s.data.toList.drop b).take (s.size-b))):=xd (tO s b s.size);have my:¬(k:Int)<(s.size:Int):=by omega
   clear HW;go_wp2_with (at_builtin;go_must (refine wpList_append_lies _ rfl _ _ _ rfl w.heap.size 9 i _ 1 16 Tryz.underlying43 hi fp dQ eF rfl (by omega) (.slice ao acc.length cap) acc.length (sts (acc.map ba)) rfl ?b7 _ 1 _ [.string (s.extract b s.size)] rfl rfl ?tj ?K6 (by omega) ?Hq ?pP ?tG _ rfl ?_))
   case b7=>exact bW.alloc _
   try case tj=>exact World.news_of_block (az wr _)
   case K6=>simp [Value.oneCell']
   case Hq=>unfold maxLen;omega
   case pP=>omega
   case tG=>first|omega|(simp;omega)
   intro g cap2 w2 b7 bD dt cV;have bX:Below w.heap.size w w2:=(hb.alloc dk _).grown bD (by simp;omega) (fun j hj=>(bW.lt j hj).1);clear dt bD;rw [HP.out] at b7;go_wp2_with fail
   go_ret
   have hl:acc.length+1=R.length:=by rw [<-HE.out];simp
   refine ⟨some ⟨g,0,none⟩,cap2,by rw [<-hl];rfl,bX,?_,by omega⟩
   rw [<-hl,<-HE.out,cz,List.map_singleton,rR];exact b7
def oU (s:ByteArray):Int:=if eP s then qg s else-1
theorem Rt (s:ByteArray): -1<=oU s/\oU s<=999999:=by
 unfold oU;split
 ·have:=wu s;omega
 ·omega
theorem A6 (s:ByteArray):decide (0<=oU s)=eP s:=by
 unfold oU;cases h:eP s
 ·rfl
 ·have:=wu s;simp only [cQ,aL];exact this.1
theorem Cu:∀(n:Nat) (l:List UInt8),l.length=n+1->mB l->(l[0]?=some 48->n=0)->iY (jW l).toNat=l
 |0,l,hl,hd,_=>by
  obtain ⟨d,rfl⟩:∃d,l=[d]:=List.length_eq_one_iff.1 hl;have h:=hd d (by simp);have hv:jW [d]=((d.toNat:Int)-48):=by simp [jW]
  rw [hv,jh _ (by omega)];congr 1
  apply dF.1
  rw [tQ _ (by omega)];omega
 |n+1,l,hl,hd,hz=>by
  obtain ⟨k,d,rfl⟩:∃k d,l=k++[d]:=⟨l.dropLast,l.getLast (by intro e;subst e;simp at hl),(List.dropLast_concat_getLast _).symm⟩;have jk:k.length=n+1:=by simpa using hl
  have EH:mB k:=fun c hc=>hd c (by simp [hc])
  have mu:=hd d (by simp);have qi:k[0]?≠some 48:=by
   intro e;have:(k++[d])[0]?=some 48:=by rw [aI (by omega)];exact e
   have:=hz this;omega
  have ih:=Cu n k jk EH (fun e=>absurd e qi);have hge:=lQ k EH;have h1:1<=jW k:=by
   rcases Int.lt_or_le 0 (jW k) with h|h
   ·omega
   ·have h0:jW k=0:=by omega
    rw [h0] at ih
    exfalso
    apply qi
    rw [<-ih,Int.toNat_zero,jh 0 (by omega)];rfl
  rw [lB,m8 _ (by omega)];have e1:(10*jW k+((d.toNat:Int)-48)).toNat/10=(jW k).toNat:=by omega
  have e2:(10*jW k+((d.toNat:Int)-48)).toNat%10=d.toNat-48:=by omega
  rw [e1,e2,ih];congr 2
  apply dF.1
  rw [tQ _ (by omega)];omega
theorem Il (l:List UInt8) (n:Nat) (h:iY n=l) (h0:l[0]?=some 48):l.length=1:=by
 by_cases hn:1<=n
 ·obtain ⟨d,t,e,hd⟩:=y5 n hn;rw [<-h,e] at h0;simp at h0;rw [h0] at hd;exact absurd hd (by decide)
 ·have:n=0:=by omega
  subst this;rw [<-h,jh 0 (by omega)];rfl
theorem Lk (s:ByteArray) (h1:1<=s.size) (h6:s.size<=6) (hd:mB s.data.toList):(iY (jW s.data.toList).toNat=s.data.toList↔eP s=true):=by
 have hl:=cg s;have jZ:bt s 0=48↔s.data.toList[0]?=some 48:=by
  rw [nY s 0 (by omega),aj (by omega)];constructor
  ·intro e;congr 1
   apply dF.1
   show _=48
   omega
  ·intro e;simp only [Option.some.injEq] at e;rw [e];rfl
 have ip:(s.data.toList.all fun c=>decide (48<=c.toNat) && decide (c.toNat<=57))=true:=by
  rw [b8];intro c hc;have:=hd c hc;simp [this.1,this.2]
 have hn:eP s=true↔¬(bt s 0=48/\1<s.size):=by
  simp only [eP,ip,h1,h6,eV,dp,Bool.and_true,fW,cC,cw];constructor
  ·rintro (h|h) ⟨a,b⟩
   ·exact h a
   ·exact h b
  ·intro h;by_cases a:bt s 0=48
   ·exact .inr (fun b=>h ⟨a,b⟩)
   ·exact .inl a
 rw [hn];constructor
 ·rintro e ⟨a,b⟩
  have:=Il _ _ e (jZ.1 a);omega
 ·intro h;refine Cu (s.data.toList.length-1) _ (by omega) hd (fun e=>?_)
  by_cases b:1<s.size
  ·exact absurd ⟨jZ.2 e,b⟩ h
  ·omega
theorem Y3 (s:ByteArray) (w:World):
 Calls Tryz.prog 180 #[.string s] w fun e w'=>e=.returned (.int .i64 (oU s))/\Below w.heap.size w w':=by
 have Gm:=cg s;have HS:Hid (s.size=s.data.toList.length):=Gm;clear Gm;have HB:Hid (eP s=false->oU s= -1):=fun h=>by unfold oU;rw [h];rfl
 by_cases h1:1<=s.size
 ·by_cases h6:s.size<=6
  ·generalize hV:oU s=V;have HV:Hid (oU s=V):=hV;clear hV;go_enter Tryz.func180,Tryz.ntmps180
   go_wp2_with fail
   go_loopw [3] (fun y wr=>∃k:Nat,k<=s.size/\y=.int .i64 k/\Hid (mB (s.data.toList.take k))/\wr=w) (fun y _=>s.size-(intOf y).toNat)
   case atStart=>exact ⟨0,aF _,rfl,fun c hc=>by simp at hc,rfl⟩
   case round=>
    obtain ⟨k,hk,rfl,HD,rfl⟩:=hrel;by_cases bF:k<s.size
    ·have jk:k<s.data.toList.length:=by have:=HS.out;omega
     have Nf:=kO s k bF;have HG:Hid _:=nY s k jk;have HC:Hid _:=fun w=>pf (bt s k) w
     cases hq:isD (bt s k)
     ·rw [hq] at HC;have HE:Hid (V= -1):=by
       rw [<-HV.out];refine HB.out ?_
       have:(s.data.toList.all fun c=>decide (48<=c.toNat) && decide (c.toNat<=57))=false:=tX k jk (by
        unfold isD at hq;rw [HG.out] at hq;simp only [cw] at hq;simp only [cC,cw];omega)
       simp [eP,this]
      go_wp2_with fail
      refine (show Calls _ _ _ _ _ from HC.out _).mono ?_
      rintro e w1 ⟨rfl,rfl⟩
      go_wp2_with fail
      go_ret
      exact ⟨ee HE.out.symm,ai _ _⟩
     ·rw [hq] at HC;have EV:Hid (mB (s.data.toList.take (k+1))):=by
       intro c hc;rw [aT jk] at hc;rcases be.1 hc with hc|hc
       ·exact HD.out c hc
       ·rw [dE.1 hc];unfold isD at hq;rw [HG.out] at hq;simp only [aL] at hq;omega
      go_wp2_with fail
      refine (show Calls _ _ _ _ _ from HC.out _).mono ?_
      rintro e w1 ⟨rfl,rfl⟩
      go_wp2_with fail
      go_roundw
      case rel=>exact ⟨k+1,bF,by go_num,EV,trivial⟩
      case measure=>simp [intOf];omega
    ·have eh:k=s.size:=by omega
     have my:¬(k:Int)<(s.size:Int):=by omega
     have hd:mB s.data.toList:=by
      have:=HD.out;rw [eh,HS.out,bA] at this;exact this
     have HC:Hid _:=fun w=>Mn s w h6 hd
     have mD:Hid _:=Lk s h1 h6 hd;have hv:=lQ s.data.toList hd;have pD:jW s.data.toList<=999999:=by
      have h3:(10:Int)^s.data.toList.length<=10^6:=by exact_mod_cast dW (by decide) (by have:=HS.out;omega)
      have h4:(10:Int)^6=1000000:=by decide
      omega
     have HVV:Hid (eP s=true->V=jW s.data.toList):=fun h=>by rw [<-HV.out];simp [oU,qg,h]
     have HVB:Hid (eP s=false->V= -1):=fun h=>by rw [<-HV.out];exact HB.out h
     obtain ⟨N,hN⟩:=aZ hv.1;rw [hN] at HC mD HVV pD;have XQ:Hid _:=fun w=>lS N N w (ah _) (by omega)
     clear hv hN hd HD;go_wp2_with fail
     refine (show Calls _ _ _ _ _ from HC.out _).mono ?_
     rintro e w1 ⟨rfl,rfl⟩
     go_wp2_with fail
     refine (show Calls _ _ _ _ _ from XQ.out _).mono ?_
     rintro e w2 ⟨x,rfl,hx,bX⟩
     clear HC XQ;by_cases hq:eP s=true
     ·have hxe:x=s:=by
       rw [xd hx,xd (rfl:s.data.toList=s.data.toList)];congr 1
       have:=mD.out.2 hq;simpa using this
      subst hxe;have hxx:(x.toList !=x.toList)=false:=by simp
      have HE:Hid (V=N):=HVV.out hq;clear hx hq;go_wp2_with fail
      go_ret
      exact ⟨ee HE.out.symm,bX⟩
     ·have hxx:(x.toList !=s.toList)=true:=by
       rw [bne_iff_ne];intro e;apply hq
       apply mD.out.1
       rw [bU,bU] at e;rw [bC,<-hx];exact e
      have MF:(x.toList==s.toList)=false:=by simpa using hxx
      have HE:Hid (V= -1):=HVB.out (by simpa using hq);clear hx hq;go_wp2_with fail
      go_ret
      exact ⟨ee HE.out.symm,bX⟩
  ·have HE:Hid (oU s= -1):=HB.out (by simp [eP,h6]);rw [HE.out];have Rg:(6:Int)<(s.size:Int):=by omega
   go_enter Tryz.func180,Tryz.ntmps180
   go_wp2_with fail
   go_ret
   exact ⟨rfl,ai _ _⟩
 ·have HE:Hid (oU s= -1):=HB.out (by simp [eP,h1]);rw [HE.out];have nO:(s.size:Int)<1:=by omega
  go_enter Tryz.func180,Tryz.ntmps180
  go_wp2_with fail
  go_ret
  exact ⟨rfl,ai _ _⟩
def wsB (s:ByteArray):List ByteArray:=(spL 32 s.data.toList).map ba
theorem Jv (s:ByteArray) (hs:s.size<=30000):∀x∈wsB s,x.size<=30000:=by
 intro x hx;obtain ⟨l,hl,rfl⟩:=bZ.1 hx;have h1:=sG 32 _ l hl;rw [<-cg] at h1;rw [cg,IE];omega
def uw (c:UInt8) (ws:List ByteArray):Bool:=decide (ws.length=3) && (((ws[0]?.getD default).toList==[c]) && (eP (ws[1]?.getD default) && eP (ws[2]?.getD default)))
def hdA (c:UInt8) (ws:List ByteArray):Int:=if decide (ws.length=3) && ((ws[0]?.getD default).toList==[c]) then oU (ws[1]?.getD default) else 0
def hdB (c:UInt8) (ws:List ByteArray):Int:=if decide (ws.length=3) && ((ws[0]?.getD default).toList==[c]) then oU (ws[2]?.getD default) else 0
theorem FH (c:UInt8) (s:ByteArray) (w:World) (hs:s.size<=30000):
 Calls Tryz.prog 151 #[.string s,.string ⟨#[c]⟩] w fun e w'=>e=.returned (.tuple #[.int .i64 (hdA c (wsB s)),.int .i64 (hdB c (wsB s)),.bool (uw c (wsB s))])/\Below w.heap.size w w':=by
 have HC:Hid _:=FC s 32 w hs;have zl:(spL 32 s.data.toList).length=(wsB s).length:=by simp [wsB]
 have Uk:(spL 32 s.data.toList).map ba=wsB s:=rfl;rw [zl,Uk] at HC;clear zl Uk;generalize wsB s=ws at*;generalize hA:hdA c ws=PA;generalize hB:hdB c ws=PB;generalize hO:uw c ws=PO;have HV:Hid (hdA c ws=PA/\hdB c ws=PB/\uw c ws=PO):=⟨hA,hB,hO⟩;clear hA hB hO;go_enter Tryz.func151,Tryz.ntmps151
 go_wp2_with fail
 refine (show Calls _ _ _ _ _ from HC.out).mono ?_
 rintro e w1 ⟨ao,cap,rfl,bB,bW,oz⟩
 clear HC;by_cases h3:ws.length=3
 ·match ws,h3 with
  |[s0,s1,s2],_=>
   obtain ⟨q,cap',hq,_,dX⟩:=bW.form (by simp);cases hq
   have c0:w1.cell? ⟨q,0,none⟩=some (.string s0):=aH bW 0 _ rfl;have c1:w1.cell? ⟨q,1,none⟩=some (.string s1):=aH bW 1 _ rfl;have c2:w1.cell? ⟨q,2,none⟩=some (.string s2):=aH bW 2 _ rfl;have Ej:Hid _:=fun w=>Y3 s1 w
   have xi:Hid _:=fun w=>Y3 s2 w
   have CK:Hid _:=A6 s1;have t7:Hid _:=A6 s2;have oW:Hid ((if (s0.toList==[c]) then oU s1 else 0)=PA/\(if (s0.toList==[c]) then oU s2 else 0)=PB/\((s0.toList==[c]) && (decide (0<=oU s1) && decide (0<=oU s2)))=PO):=by
    have h:=HV.out;simp only [hdA,hdB,uw,aD,bp,aq,ap,b6,Nat.reduceAdd,eV,dp] at h;rw [CK.out,t7.out];exact ⟨h.1,h.2.1,h.2.2⟩
   clear HV CK t7;simp only [aD,bp] at bW;cases hc:(s0.toList==[c])
   ·have DA:(s0.toList !=[c])=true:=by simpa using hc
    have nP:Hid (PA=0/\PB=0/\PO=false):=by rw [hc] at oW;exact ⟨oW.out.1.symm,oW.out.2.1.symm,oW.out.2.2.symm⟩
    go_wp2_with fail
    go_ret3
    exact ⟨by rw [nP.out.1,nP.out.2.1,nP.out.2.2];rfl,bB⟩
   ·have DA:(s0.toList !=[c])=false:=by simpa using hc
    have nP:Hid (PA=oU s1/\PB=oU s2/\PO=(decide (0<=oU s1) && decide (0<=oU s2))):=by rw [hc] at oW;exact ⟨oW.out.1.symm,oW.out.2.1.symm,oW.out.2.2.symm⟩
    generalize oU s1=n1 at*;generalize oU s2=n2 at*;go_wp2_with fail
    refine (show Calls _ _ _ _ _ from Ej.out _).mono ?_
    rintro e w2 ⟨rfl,bX⟩
    have ir:=aQ bW bX;have d2:w2.cell? ⟨q,2,none⟩=some (.string s2):=aH ir 2 _ rfl;have adY:q<w2.heap.size:=by have:=bX.size;omega
    have DH:=bB.trans (bX.mono bB.size);go_wp2_with fail
    refine (show Calls _ _ _ _ _ from xi.out _).mono ?_
    rintro e w3 ⟨rfl,df⟩
    have QY:=DH.trans (df.mono DH.size);by_cases p1:0<=n1
    ·by_cases p2:0<=n2
     ·have p1':decide (0<=n1)=true:=by simpa using p1
      have p2':decide (0<=n2)=true:=by simpa using p2
      go_wp2_with fail
      go_ret3
      exact ⟨by rw [nP.out.1,nP.out.2.1,nP.out.2.2,p1',p2'];rfl,QY⟩
     ·have p1':decide (0<=n1)=true:=by simpa using p1
      have p2':decide (0<=n2)=false:=by simpa using p2
      go_wp2_with fail
      go_ret3
      exact ⟨by rw [nP.out.1,nP.out.2.1,nP.out.2.2,p1',p2'];rfl,QY⟩
    ·have p1':decide (0<=n1)=false:=by simpa using p1
     go_wp2_with fail
     go_ret3
     exact ⟨by rw [nP.out.1,nP.out.2.1,nP.out.2.2,p1'];rfl,QY⟩
 ·have WK:((ws.length:Int) !=3)=true:=by simp;omega
  have h3n:¬(ws.length:Int)=3:=by omega
  have nP:Hid (PA=0/\PB=0/\PO=false):=by
   have h:=HV.out;simp only [hdA,hdB,uw,bn h3] at h;exact ⟨h.1.symm,h.2.1.symm,h.2.2.symm⟩
  clear HV;go_wp2_with fail
  go_ret3
  exact ⟨by rw [nP.out.1,nP.out.2.1,nP.out.2.2];rfl,bB⟩
def atR (s:ByteArray):Bool:=decide (s.size≠0) && (decide (kL (bt s 0)≠0) && eP (s.extract 1 s.size))
def nh (ws:List ByteArray):Bool:=decide (ws.length<=8) && ws.all atR
def kP (c:Int) (j:Nat):Int:=if c=110/\0<j then 1 else if c=97/\1<j then 2 else if c=102/\2<j then 3 else if c=112/\3<j then 4 else if c=120/\4<j then 5 else 0
theorem T7 (c:Int):kP c 5=kL c:=by unfold kP kL;simp
theorem TM (s:ByteArray) (w:World) (hs:s.size<=30000):
 Calls Tryz.prog 152 #[.string s] w fun e w'=>∃a n cap,e=.returned (.tuple #[.slice a n cap,.bool (nh (wsB s))])/\Below w.heap.size w w'/\(nh (wsB s)=true->n=(wsB s).length/\w'.ownsRow w.heap.size 99 2 (.slice a n cap) (wsB s).length (acs ((wsB s).map atV))):=by
 obtain ⟨i,hi,fp,dQ,eF⟩:=bE Tryz.infoAtom;have HC:Hid _:=FC s 32 w hs;have zl:(spL 32 s.data.toList).length=(wsB s).length:=by simp [wsB]
 have Uk:(spL 32 s.data.toList).map ba=wsB s:=rfl;rw [zl,Uk] at HC;clear zl Uk;have ES:Hid (∀x∈wsB s,x.size<=30000):=Jv s hs;generalize wsB s=ws at*;generalize hO:nh ws=PO;have HV:Hid (nh ws=PO):=hO;clear hO;go_enter Tryz.func152,Tryz.ntmps152
 go_wp2_with fail
 refine (show Calls _ _ _ _ _ from HC.out).mono ?_
 rintro e w1 ⟨ao,cap,rfl,bB,bW,oz⟩
 clear HC;have wR:=bB.size;by_cases h8:ws.length<=8
 ·have h8':¬(8:Int)<(ws.length:Int):=by omega
  have h8d:decide ((8:Int)<(ws.length:Int))=false:=by simp;omega
  have L8:Hid (∀(j:Nat) (h:j<ws.length),atR ws[j]=false->PO=false):=fun j h hf=>by
   rw [<-HV.out];have:ws.all atR=false:=by rw [List.all_eq_false];exact ⟨ws[j],aE h,by rw [hf];simp⟩
   simp [nh,this]
  have Ei:Hid ((ws.take ws.length).all atR=true->PO=true):=fun h=>by
   rw [bA] at h;rw [<-HV.out];simp [nh,h,h8]
  have HWS:Hid (∀x∈ws,x.size<=30000):=ES.out;clear HV ES;go_wp2_with fail
  go_loopw [5,6] (fun x y wr=>∃n:Nat,n<=ws.length/\y=.int .i64 n/\Hid ((ws.take n).all atR=true)/\wr.ownsRow w1.heap.size 99 2 x n (acs ((ws.take n).map atV))/\Below w1.heap.size w1 wr) (fun _ y _=>ws.length-(intOf y).toNat)
  case atStart=>exact ⟨0,aF _,rfl,by simp [Hid],aM _ _ _ _,ai _ _⟩
  case round=>
   obtain ⟨n,hn,rfl,NH,EC,hb⟩:=hrel;have dk:=hb.size;obtain ⟨xo,xcap,hx⟩:=aU EC;subst hx;by_cases bF:n<ws.length
   ·have I8:=aQ bW hb;obtain ⟨q,cap',hq,_,dX⟩:=I8.form (by omega);cases hq
    have S5:Hid _:=r8 atV ws n bF;have Bn:Hid (atR ws[n]=true->(ws.take (n+1)).all atR=true):=p6 atR ws n bF NH.out;have gj:Hid _:=L8.out n bF;have Yz:Hid _:=HWS.out ws[n] (aE bF);have hcu:(sts ws)[n]?=some (.string ws[n]):=by unfold sts;rw [cH,aj bF];rfl
    have YR:Hid _:=hcu;have c0:wr.cell? ⟨q,n,none⟩=some (.string ws[n]):=aH I8 n _ hcu;have hjj:((ws.take n).map atV).length=n:=by simp;omega
    clear hcu;generalize ws[n]=t at*;by_cases h0:t.size=0
    ·have he:t.toList=[]:=by
      have:t.data.toList=[]:=ch.1 (by rw [<-cg];exact h0);rw [bU];exact this
     have Ji:(t.toList==[])=true:=by rw [he];rfl
     have AH:(t.toList !=[])=false:=by rw [he];rfl
     have HE:Hid (PO=false):=gj.out (by simp [atR,h0]);clear he h0;go_wp2_with fail
     go_ret2
     exact ⟨none,0,0,by rw [HE.out];rfl,bB.trans (hb.mono wR),fun h=>by rw [HE.out] at h;cases h⟩
    ·have dI:t.toList≠[]:=by
      intro e;rw [bU] at e;have:=cg t;rw [e] at this;exact h0 this
     have Ji:(t.toList==[])=false:=by simpa using dI
     have AH:(t.toList !=[])=true:=by simpa using dI
     have ul:1<=t.size:=by omega
     have HD:Hid _:=Y3 (t.extract 1 t.size) wr;have Nf:=kO t 0 (by omega);have S7:Hid (atV t=(kL (bt t 0),qg (t.extract 1 t.size))):=by simp [Hid,atV,h0]
     have HAR:Hid (atR t=(decide (kL (bt t 0)≠0) && eP (t.extract 1 t.size))):=by simp [Hid,atR,h0]
     have NG:Hid _:=A6 (t.extract 1 t.size);have HDV:Hid (eP (t.extract 1 t.size)=true->oU (t.extract 1 t.size)=qg (t.extract 1 t.size)):=fun h=>by simp [oU,h]
     have HDL:Hid _:=Rt (t.extract 1 t.size);generalize bt t 0=c at*;clear dI h0;generalize oU (t.extract 1 t.size)=D at*;generalize eP (t.extract 1 t.size)=NO at*;generalize qg (t.extract 1 t.size)=NV at*;go_wp2_with fail
     refine (show Calls _ _ _ _ _ from HD.out).mono ?_
     rintro e w2 ⟨rfl,bX⟩
     clear HD;have Q0:=bX.size;have ZC:=aQ I8 bX;have Kn:=aQ EC bX;have je:Below w1.heap.size w1 w2:=hb.trans (bX.mono dk);clear c0;go_wp2_with fail
     go_loopw [7,9] (fun x y wr=>∃j:Nat,j<=5/\x=.int .i64 (kP c j)/\y=.int .i64 j/\Below w2.heap.size w2 wr) (fun _ y _=>5-(intOf y).toNat)
     case atStart=>exact ⟨0,by omega,by simp [kP],rfl,ai _ _⟩
     case round=>
      obtain ⟨j,hj,rfl,rfl,df⟩:=hrel;have abd:=df.size;have ZB:=aQ ZC df;have c0:wr.cell? ⟨q,n,none⟩=some (.string t):=aH ZB n _ YR.out;have adX:q<wr.heap.size:=by omega
      by_cases hj5:j<5
      ·have hjs:j=0\/j=1\/j=2\/j=3\/j=4:=by omega
       rcases hjs with rfl|rfl|rfl|rfl|rfl
       ·have Yf:(((⟨#[110,97,102,112,120]⟩:ByteArray)[0]'(by decide)).toNat:Int)=110:=by decide
        by_cases hc:c=110
        ·have lk:(c==110)=true:=by simpa using hc
         have rM:Hid (kP c 1=1):=by show _=_;subst hc;decide
         clear hc;go_wp2_with fail
         go_quiet (fail)
         go_wp2_with fail
         go_roundw
         case rel=>exact ⟨1,by omega,congrArg (Value.int .i64) rM.out.symm,by go_num,bY df _⟩
         case measure=>simp [intOf]
        ·have lk:(c==110)=false:=by simpa using hc
         have rM:Hid (kP c 1=kP c 0):=by simp [Hid,kP,hc]
         generalize kP c 0=K at*;go_wp2_with fail
         go_quiet (fail)
         go_wp2_with fail
         go_roundw
         case rel=>exact ⟨1,by omega,congrArg (Value.int .i64) rM.out.symm,by go_num,bY df _⟩
         case measure=>simp [intOf]
       ·have Yf:(((⟨#[110,97,102,112,120]⟩:ByteArray)[1]'(by decide)).toNat:Int)=97:=by decide
        by_cases hc:c=97
        ·have lk:(c==97)=true:=by simpa using hc
         have rM:Hid (kP c 2=2):=by show _=_;subst hc;decide
         clear hc;go_wp2_with fail
         go_quiet (fail)
         go_wp2_with fail
         go_roundw
         case rel=>exact ⟨2,by omega,congrArg (Value.int .i64) rM.out.symm,by go_num,bY df _⟩
         case measure=>simp [intOf]
        ·have lk:(c==97)=false:=by simpa using hc
         have rM:Hid (kP c 2=kP c 1):=by simp [Hid,kP,hc]
         generalize kP c 1=K at*;go_wp2_with fail
         go_quiet (fail)
         go_wp2_with fail
         go_roundw
         case rel=>exact ⟨2,by omega,congrArg (Value.int .i64) rM.out.symm,by go_num,bY df _⟩
         case measure=>simp [intOf]
       ·have Yf:(((⟨#[110,97,102,112,120]⟩:ByteArray)[2]'(by decide)).toNat:Int)=102:=by decide
        by_cases hc:c=102
        ·have lk:(c==102)=true:=by simpa using hc
         have rM:Hid (kP c 3=3):=by show _=_;subst hc;decide
         clear hc;go_wp2_with fail
         go_quiet (fail)
         go_wp2_with fail
         go_roundw
         case rel=>exact ⟨3,by omega,congrArg (Value.int .i64) rM.out.symm,by go_num,bY df _⟩
         case measure=>simp [intOf]
        ·have lk:(c==102)=false:=by simpa using hc
         have rM:Hid (kP c 3=kP c 2):=by simp [Hid,kP,hc]
         generalize kP c 2=K at*;go_wp2_with fail
         go_quiet (fail)
         go_wp2_with fail
         go_roundw
         case rel=>exact ⟨3,by omega,congrArg (Value.int .i64) rM.out.symm,by go_num,bY df _⟩
         case measure=>simp [intOf]
       ·have Yf:(((⟨#[110,97,102,112,120]⟩:ByteArray)[3]'(by decide)).toNat:Int)=112:=by decide
        by_cases hc:c=112
        ·have lk:(c==112)=true:=by simpa using hc
         have rM:Hid (kP c 4=4):=by show _=_;subst hc;decide
         clear hc;go_wp2_with fail
         go_quiet (fail)
         go_wp2_with fail
         go_roundw
         case rel=>exact ⟨4,by omega,congrArg (Value.int .i64) rM.out.symm,by go_num,bY df _⟩
         case measure=>simp [intOf]
        ·have lk:(c==112)=false:=by simpa using hc
         have rM:Hid (kP c 4=kP c 3):=by simp [Hid,kP,hc]
         generalize kP c 3=K at*;go_wp2_with fail
         go_quiet (fail)
         go_wp2_with fail
         go_roundw
         case rel=>exact ⟨4,by omega,congrArg (Value.int .i64) rM.out.symm,by go_num,bY df _⟩
         case measure=>simp [intOf]
       ·have Yf:(((⟨#[110,97,102,112,120]⟩:ByteArray)[4]'(by decide)).toNat:Int)=120:=by decide
        by_cases hc:c=120
        ·have lk:(c==120)=true:=by simpa using hc
         have rM:Hid (kP c 5=5):=by show _=_;subst hc;decide
         clear hc;go_wp2_with fail
         go_quiet (fail)
         go_wp2_with fail
         go_roundw
         case rel=>exact ⟨5,by omega,congrArg (Value.int .i64) rM.out.symm,by go_num,bY df _⟩
         case measure=>simp [intOf]
        ·have lk:(c==120)=false:=by simpa using hc
         have rM:Hid (kP c 5=kP c 4):=by simp [Hid,kP,hc]
         generalize kP c 4=K at*;go_wp2_with fail
         go_quiet (fail)
         go_wp2_with fail
         go_roundw
         case rel=>exact ⟨5,by omega,congrArg (Value.int .i64) rM.out.symm,by go_num,bY df _⟩
         case measure=>simp [intOf]
      ·have nV:j=5:=by omega
       subst nV;rw [T7];by_cases hk:kL c=0
       ·have HE:Hid (PO=false):=gj.out (by rw [HAR.out,hk];rfl);rw [hk];go_wp2_with fail
        go_ret2
        exact ⟨none,0,0,by rw [HE.out];rfl,bB.trans ((je.trans (df.mono (by omega))).mono wR),fun h=>by rw [HE.out] at h;cases h⟩
       ·have eA:(kL c==0)=false:=by simpa using hk
        by_cases hd:D<0
        ·have HE:Hid (PO=false):=gj.out (by
          rw [HAR.out,<-NG.out];have:decide (0<=D)=false:=by simp;omega
          rw [this];simp)
         generalize kL c=K at*;go_wp2_with fail
         go_ret2
         exact ⟨none,0,0,by rw [HE.out];rfl,bB.trans ((je.trans (df.mono (by omega))).mono wR),fun h=>by rw [HE.out] at h;cases h⟩
        ·have hNO:NO=true:=by rw [<-NG.out];simp;omega
         have Se:Hid _:=Bn.out (by rw [HAR.out,hNO];simp [hk]);have oX:Hid (atV t=(kL c,D)):=by rw [S7.out,HDV.out hNO];rfl
         have mu:decide (D<0)=false:=by simpa using hd
         have PH:=aQ Kn df;generalize kL c=K at*;go_wp2_with (at_builtin;go_must (refine wpList_append_lies _ rfl _ _ _ rfl w1.heap.size 99 i _ 2 16 Tryz.underlying100 hi fp dQ eF rfl (by omega) (.slice xo n xcap) n (acs ((ws.take n).map atV)) rfl ?hown _ 1 _ [.int .i64 K,.int .i64 D] rfl rfl ?dA ?h1 (by omega) ?kj ?cP ?cX _ rfl ?_))
         case hown=>first|exact PH.alloc _|(rw [<-dY];exact PH.alloc _)
         try case dA=>exact World.news_of_block (az wr _)
         case h1=>simp [Value.oneCell']
         case kj=>unfold maxLen;omega
         case cP=>omega
         case cX=>first|omega|(simp;omega)
         intro g cap2 w4 jy bD dt yy;have dU:Below w1.heap.size w1 w4:=((je.trans (df.mono (by omega))).alloc (by omega) _).grown bD (by simp;omega) (fun k hk=>(PH.lt k hk).1);clear bD dt;go_wp2_with fail
         go_roundw
         case rel=>exact ⟨n+1,bF,by go_num,Se,by rw [S5.out,oX.out,jF,dY];exact jy,dU⟩
         case measure=>simp [intOf];omega
   ·have wH:n=ws.length:=by omega
    have Z5:¬(n:Int)<(ws.length:Int):=by omega
    have HE:Hid (PO=true):=Ei.out (by rw [<-wH];exact NH.out);have xi:Hid (n=ws.length):=wH;clear wH;go_wp2_with fail
    go_ret2
    refine ⟨_,_,_,by rw [HE.out];rfl,bB.trans (hb.mono wR),fun _=>⟨xi.out,?_⟩⟩
    have:=bO EC wR;rw [xi.out,bA] at this;rw [xi.out];exact this
 ·have h8':(8:Int)<(ws.length:Int):=by omega
  have HE:Hid (PO=false):=by rw [<-HV.out];simp [Hid,nh,h8]
  go_wp2_with fail
  go_ret2
  exact ⟨none,0,0,by rw [HE.out];rfl,bB,fun h=>by rw [HE.out] at h;cases h⟩
theorem Tw (l:Ln) (v:Value) (T:Nat) (w:World) (hl:l.length<=1000) (ew:∀a∈l,LJ a) (hT:T<=w.heap.size) (hv:eL w T v l):
 Calls Tryz.prog 118 #[v] w fun e w'=>∃x:ByteArray,e=.returned (.string x)/\x.data.toList=lnL l/\Below w.heap.size w w':=by
 obtain ⟨ad,cap,rfl,lk,kT,jA⟩:=hv;have Ei:Hid _:=ew;clear ew;go_enter Tryz.func118,Tryz.ntmps118
 go_wp2_with fail
 go_loopw [3,4] (fun x y wr=>∃(k:Nat) (sx:ByteArray),k<=l.length/\y=.int .i64 k/\x=.string sx/\Hid (sx.data.toList=((l.take k).flatMap atL).drop 1)/\sx.size<=8*k/\Below w.heap.size w wr) (fun _ y _=>l.length-(intOf y).toNat)
 case atStart=>exact ⟨0,_,aF _,rfl,rfl,by simp [Hid],ah _,ai _ _⟩
 case round=>
  obtain ⟨k,sx,hk,rfl,rfl,oO,Sj,hb⟩:=hrel;have dk:=hb.size;by_cases bF:k<l.length
  ·rcases jA with h0|⟨b,off,rfl,gZ,cJ⟩
   ·omega
   obtain ⟨c0,c1⟩:=cJ k bF;rw [<-hb.cell (p:=⟨b,off+k*2,none⟩) (show b<_ by omega)] at c0;rw [<-hb.cell (p:=⟨b,off+k*2+1,none⟩) (show b<_ by omega)] at c1;obtain ⟨o1,o2,o3,o4⟩:=Ei.out l[k] (aE bF);have HA:Hid (((l.take (k+1)).flatMap atL)=(l.take k).flatMap atL++(32::Ep l[k].1::iY l[k].2.toNat)):=F4 l k bF;generalize hp:l[k]=p at*;clear hp;obtain ⟨pk,pn⟩:=p;simp only at o1 o2 o3 o4 c0 c1;obtain ⟨kn,rfl⟩:=aZ (show 0<=pk by omega);obtain ⟨nn,rfl⟩:=aZ o3;have eA:1<=kn:=by omega
   have wI:kn<=5:=by omega
   have hn6:nn<=999999:=by omega
   have hd6:=gC nn hn6;have XI:Hid _:=Lg kn eA wI;have hes:((⟨#[110,97,102,112,120]⟩:ByteArray).extract (kn-1) kn).size=1:=by rw [cg,XI.out];rfl
   have HC:Hid _:=fun w=>lS nn nn w (ah _) (by omega)
   clear cJ o1 o2 o3 o4;by_cases lX:(0:Int)<(k:Int)
   ·go_wp2_with fail
    refine (show Calls _ _ _ _ _ from HC.out _).mono ?_
    clear HC;rintro e w1 ⟨y,rfl,hy,bB⟩
    have mj:y.size<=6:=by rw [cg,hy];exact hd6
    have eQ:=hb.trans (bB.mono dk);have HY:Hid _:=hy;rw [<-bB.cell (p:=⟨b,off+k*2,none⟩) (show b<_ by omega)] at c0;clear hy c1;have fH:(sx++⟨#[32]⟩:ByteArray).size=sx.size+1:=by rw [bw];rfl
    go_wp2_with fail
    go_region
    all_goals
     go_wp2_with fail
     go_roundw
     case rel=>
      refine ⟨k+1,_,bF,by go_num,rfl,?_,?_,aR eQ⟩
      ·show _=_
       simp only [cK];rw [XI.out,HY.out,oO.out,HA.out,Fd _ _ (TY l k (by omega) (by omega))];simp
      ·simp only [bw,hes];simp only [ByteArray.size];simp;have:sx.data.size=sx.size:=rfl;have:y.data.size=y.size:=rfl;omega
     case measure=>simp [intOf];omega
   ·go_wp2_with fail
    refine (show Calls _ _ _ _ _ from HC.out _).mono ?_
    clear HC;rintro e w1 ⟨y,rfl,hy,bB⟩
    have mj:y.size<=6:=by rw [cg,hy];exact hd6
    have eQ:=hb.trans (bB.mono dk);have HY:Hid _:=hy;rw [<-bB.cell (p:=⟨b,off+k*2,none⟩) (show b<_ by omega)] at c0;clear hy c1;go_wp2_with fail
    go_region
    all_goals
     go_wp2_with fail
     go_roundw
     case rel=>
      refine ⟨k+1,_,bF,by go_num,rfl,?_,?_,aR eQ⟩
      ·show _=_
       simp only [cK];have qi:k=0:=by omega
       rw [XI.out,HY.out,oO.out,HA.out,qi];simp
      ·simp only [bw,hes];omega
     case measure=>simp [intOf];omega
  ·have eh:k=l.length:=by omega
   subst eh;rw [bA] at oO;go_wp2_with fail
   go_ret
   exact ⟨sx,rfl,oO.out,hb⟩
end Go.Proofs.YtnndoagpbcacdabGreatDoor
