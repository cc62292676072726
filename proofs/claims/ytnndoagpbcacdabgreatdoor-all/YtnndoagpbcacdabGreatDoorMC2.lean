import Derived.Test.YtnndoagpbcacdabGreatDoorMQ1
import Derived.Deep.DeepCutAuto
import Derived.Test.YtnndoagpbcacdabGreatDoorMX7
namespace Go.Proofs.YtnndoagpbcacdabGreatDoor
set_option maxHeartbeats 8000000
set_option maxRecDepth 100000
open Go.RowKit
theorem TL (k mn ar:Int) (fo lo:Option Addr) (nf fcap nl lcap:Nat) (w:World) (oC:nl<=1000000):
 Calls Tryz.prog 181 #[.int .i64 k,.agg #[.int .i64 mn,.slice fo nf fcap],.agg #[.int .i64 ar,.slice lo nl lcap]] w fun e w'=>e=.returned (.int .i64 (j0 k nf ar nl))/\Below w.heap.size w w':=by
 by_cases h1:k=1
 ·subst h1;go_enter Tryz.func181,Tryz.ntmps181
  go_wp2_with fail
  go_ret
  exact ⟨rfl,((ai _ _).alloc (ah _) _).alloc (by simp) _⟩
 by_cases h2:k=2
 ·subst h2;go_enter Tryz.func181,Tryz.ntmps181
  go_wp2_with fail
  go_ret
  exact ⟨rfl,((ai _ _).alloc (ah _) _).alloc (by simp) _⟩
 by_cases h3:k=3
 ·subst h3;go_enter Tryz.func181,Tryz.ntmps181
  go_wp2_with fail
  go_ret
  exact ⟨rfl,((ai _ _).alloc (ah _) _).alloc (by simp) _⟩
 by_cases h4:k=4
 ·subst h4;go_enter Tryz.func181,Tryz.ntmps181
  go_wp2_with fail
  go_ret
  exact ⟨rfl,((ai _ _).alloc (ah _) _).alloc (by simp) _⟩
 by_cases h5:k=5
 ·subst h5;go_enter Tryz.func181,Tryz.ntmps181
  go_wp2_with fail
  go_ret
  exact ⟨rfl,((ai _ _).alloc (ah _) _).alloc (by simp) _⟩
 have HB:Hid (j0 k nf ar nl=0):=by show _=_;unfold j0;rw [ay h1,ay h2,ay h3,ay h4,ay h5]
 rw [HB.out];have g1:(k==1)=false:=by simpa using h1
 have g2:(k==2)=false:=by simpa using h2
 have g3:(k==3)=false:=by simpa using h3
 have g4:(k==4)=false:=by simpa using h4
 have g5:(k==5)=false:=by simpa using h5
 go_enter Tryz.func181,Tryz.ntmps181
 go_wp2_with fail
 go_ret
 exact ⟨rfl,((ai _ _).alloc (ah _) _).alloc (by simp) _⟩
theorem xP (t:Tp) (mn:Int) (fo:Option Addr) (nf fcap:Nat) (lv:Value) (T:Nat) (w:World) (hT:T<=w.heap.size) (_hnf:nf<=maxLen) (hl:gd w T lv t.ls):
 Calls Tryz.prog 154 #[.agg #[.int .i64 mn,.slice fo nf fcap],.agg #[.int .i64 t.ar,lv]] w fun e w'=>e=.returned (.bool (kl nf t))/\Below w.heap.size w w':=by
 obtain ⟨ar,ls⟩:=t;obtain ⟨lo,lcap,mx,lk,kT,jA⟩:=hl;simp only at*;subst mx;unfold maxLen at kT _hnf;generalize hR:kl nf ⟨ar,ls⟩=R;have HR:Hid ((decide (0<=ar) && (decide (ar<=6) && (decide (1<=ls.length) && (decide (ls.length<=13) && dM nf ar ls.length 0 ls))))=R):=hR;clear hR;by_cases g1:ar<0
 ·have HF:Hid (false=R):=by rw [<-HR.out];simp [Hid];omega
  go_enter Tryz.func154,Tryz.ntmps154
  go_wp2_with fail
  go_ret
  exact ⟨bL HF.out,((ai _ _).alloc (ah _) _).alloc (by simp) _⟩
 by_cases g2:6<ar
 ·have HF:Hid (false=R):=by rw [<-HR.out];simp [Hid];omega
  have g1':decide (ar<0)=false:=by simpa using g1
  go_enter Tryz.func154,Tryz.ntmps154
  go_wp2_with fail
  go_ret
  exact ⟨bL HF.out,((ai _ _).alloc (ah _) _).alloc (by simp) _⟩
 by_cases g3:ls.length<1
 ·have HF:Hid (false=R):=by rw [<-HR.out];simp [Hid];omega
  have g1':decide (ar<0)=false:=by simpa using g1
  have g2':decide (6<ar)=false:=by simpa using g2
  go_enter Tryz.func154,Tryz.ntmps154
  go_wp2_with fail
  go_ret
  exact ⟨bL HF.out,((ai _ _).alloc (ah _) _).alloc (by simp) _⟩
 by_cases g4:13<ls.length
 ·have HF:Hid (false=R):=by rw [<-HR.out];simp [Hid];omega
  go_enter Tryz.func154,Tryz.ntmps154
  go_wp2_with fail
  go_ret
  exact ⟨bL HF.out,((ai _ _).alloc (ah _) _).alloc (by simp) _⟩
 have gT:Hid (dM nf ar ls.length 0 (ls.drop 0)=R):=by rw [<-HR.out];simp [Hid,show 0<=ar by omega,show ar<=6 by omega,show 1<=ls.length by omega,show ls.length<=13 by omega]
 clear HR;go_enter Tryz.func154,Tryz.ntmps154
 go_wp2_with fail
 have He:∀wx:World,wx=(w.alloc (Obj.cells #[.int .i64 mn,.slice fo nf fcap] 63)).alloc (Obj.cells #[.int .i64 ar,.slice lo ls.length lcap] 79)->wx.heap[w.heap.size]?=some (.cells #[.int .i64 mn,.slice fo nf fcap] 63 (0,0))/\wx.heap[w.heap.size+1]?=some (.cells #[.int .i64 ar,.slice lo ls.length lcap] 79 (0,0)):=by
  rintro wx rfl
  refine ⟨(aO _ _ _ (by simp)).trans (az w _),?_⟩
  have:=az (w.alloc (Obj.cells #[.int .i64 mn,.slice fo nf fcap] 63)) (Obj.cells #[.int .i64 ar,.slice lo ls.length lcap] 79);simpa using this
 go_loopw [5] (fun x wr=>∃(j:Nat),j<=ls.length/\x=.int .i64 j/\Hid (dM nf ar ls.length j (ls.drop j)=R)/\Below w.heap.size w wr/\wr.heap[w.heap.size]?=some (.cells #[.int .i64 mn,.slice fo nf fcap] 63 (0,0))/\wr.heap[w.heap.size+1]?=some (.cells #[.int .i64 ar,.slice lo ls.length lcap] 79 (0,0))) (fun x _=>ls.length-(intOf x).toNat)
 case atStart=>exact ⟨0,aF _,rfl,gT,((ai _ _).alloc (ah _) _).alloc (by simp) _,(He _ rfl).1,(He _ rfl).2⟩
 case round=>
  clear He;obtain ⟨j,hj,rfl,HG,hb,oI,Cn⟩:=hrel;have dk:=hb.size;have fG:w.heap.size+1<wr.heap.size:=(ae.1 Cn).1;have C0:=al wr w.heap.size 0 _ _ _ oI;have C1:=al wr w.heap.size 1 _ _ _ oI;have T0:=al wr (w.heap.size+1) 0 _ _ _ Cn;have T1:=al wr (w.heap.size+1) 1 _ _ _ Cn;simp only [ax,ap,aq] at C0 C1 T0 T1;by_cases bF:j<ls.length
  ·rcases jA with h0|⟨bl,lf,rfl,gZ,cJ⟩
   ·omega
   obtain ⟨lv,e0,dt⟩:=cJ j bF;rw [<-hb.cell (p:=⟨bl,lf+j,none⟩) (show bl<_ by omega)] at e0;have sz:Hid ((fy nf ar ls.length j ls[j] && dM nf ar ls.length (j+1) (ls.drop (j+1)))=R):=by rw [<-yQ nf ar ls.length ls j bF];exact HG
   clear HG cJ;generalize hlj:ls[j]=l at*;clear hlj;obtain ⟨la,lc,rfl,kV,gS,gV⟩:=dt;unfold maxLen at gS;have IW:Hid _:=sz.out;unfold fy at IW;clear sz;by_cases q1:8<l.length
   ·have HF:Hid (false=R):=by rw [<-IW.out];simp [Hid,show ¬l.length<=8 by omega]
    go_wp2_with fail
    go_ret
    exact ⟨bL HF.out,hb⟩
   by_cases q2:l.length<1
   ·have HF:Hid (false=R):=by rw [<-IW.out];simp [Hid,show ¬1<=l.length by omega]
    have q1':decide (8<l.length)=false:=by simpa using q1
    go_wp2_with fail
    go_ret
    exact ⟨bL HF.out,hb⟩
   rcases gV with h0|⟨ba,af,rfl,hba,Hl⟩
   ·omega
   have hac:∀i (h:i<l.length),wr.cell? ⟨ba,af+i*2,none⟩=some (.int .i64 l[i].1)/\wr.cell? ⟨ba,af+i*2+1,none⟩=some (.int .i64 l[i].2):=by
    intro i hi;rw [hb.cell (p:=⟨ba,af+i*2,none⟩) (show ba<_ by omega),hb.cell (p:=⟨ba,af+i*2+1,none⟩) (show ba<_ by omega)];exact Hl i hi
   obtain ⟨z0,z1⟩:=hac 0 (by omega);simp only [fA,cy] at z0 z1;have YO:Hid ((!(decide (0<j) && decide (l.length<2)) && (decide (l[0].1≠5) && l.all (g7 nf ar ls.length j)) && dM nf ar ls.length (j+1) (ls.drop (j+1)))=R):=by
    rw [<-IW.out];show _=_
    rw [show decide (l.length<=8)=true by simpa using q1,show decide (1<=l.length)=true by simp;omega,aj (show 0<l.length by omega),b6];simp
   clear IW hac;by_cases q3:0<j/\l.length<2
   ·have HF:Hid (false=R):=by rw [<-YO.out];simp [Hid,q3.1,q3.2]
    obtain ⟨q3a,q3b⟩:=q3;go_wp2_with fail
    go_ret
    exact ⟨bL HF.out,hb⟩
   by_cases q4:l[0].1=5
   ·have HF:Hid (false=R):=by rw [<-YO.out];simp [Hid,q4]
    rw [q4] at z0;clear q4;by_cases q5:0<j
    ·have q6:¬l.length<2:=fun h=>q3 ⟨q5,h⟩
     go_wp2_with fail
     go_ret
     exact ⟨bL HF.out,hb⟩
    ·go_wp2_with fail
     go_ret
     exact ⟨bL HF.out,hb⟩
   have HG5:Hid (((l.drop 0).all (g7 nf ar ls.length j) && dM nf ar ls.length (j+1) (ls.drop (j+1)))=R):=by
    rw [<-YO.out];show _=_
    have:(!(decide (0<j) && decide (l.length<2)))=true:=by
     rw [fW,cC];by_cases q5:0<j
     ·right;simp;have:¬l.length<2:=fun h=>q3 ⟨q5,h⟩;omega
     ·left;simpa using q5
    rw [this];simp [q4]
   clear YO;have q4':(l[0].1==5)=false:=by simpa using q4
   have hq:∀(P:Prop),(0<j->¬l.length<2->P)->(¬0<j->P)->P:=fun P h1 h2=>by
    by_cases q5:0<j
    ·exact h1 q5 (fun h=>q3 ⟨q5,h⟩)
    ·exact h2 q5
   clear q3;refine hq _ (fun q5 q6=>?_) (fun q5=>?_)
   all_goals
    clear hq;go_wp2_with fail
    go_loopw [7] (fun x wx=>∃(i:Nat),i<=l.length/\x=.int .i64 i/\Hid (((l.drop i).all (g7 nf ar ls.length j) && dM nf ar ls.length (j+1) (ls.drop (j+1)))=R)/\Below w.heap.size w wx/\wx.heap[w.heap.size]?=some (.cells #[.int .i64 mn,.slice fo nf fcap] 63 (0,0))/\wx.heap[w.heap.size+1]?=some (.cells #[.int .i64 ar,.slice (some ⟨bl,lf,none⟩) ls.length lcap] 79 (0,0))) (fun x _=>l.length-(intOf x).toNat)
    case atStart=>exact ⟨0,aF _,rfl,HG5,hb,oI,Cn⟩
    case round=>
     clear HG5 hb oI Cn dk fG C0 C1 T0 T1 z0 z1 e0;obtain ⟨i,hi,rfl,HG,hb,oI,Cn⟩:=hrel;have dk:=hb.size;have fG:w.heap.size+1<wr.heap.size:=(ae.1 Cn).1;by_cases ly:i<l.length
     ·have C0:=al wr w.heap.size 0 _ _ _ oI;have C1:=al wr w.heap.size 1 _ _ _ oI;have T0:=al wr (w.heap.size+1) 0 _ _ _ Cn;have T1:=al wr (w.heap.size+1) 1 _ _ _ Cn;simp only [ax,ap,aq] at C0 C1 T0 T1;obtain ⟨z0,z1⟩:=Hl i ly;have HZ0:Hid _:=z0;have W8:Hid _:=z1;rw [<-hb.cell (p:=⟨ba,af+i*2,none⟩) (show ba<_ by omega)] at z0;rw [<-hb.cell (p:=⟨ba,af+i*2+1,none⟩) (show ba<_ by omega)] at z1;have sz:Hid (((decide (0<=l[i].2) && (decide (l[i].2<j0 l[i].1 nf ar ls.length) && !(decide (l[i].1=5) && decide (l[i].2<(j:Int))))) && ((l.drop (i+1)).all (g7 nf ar ls.length j) && dM nf ar ls.length (j+1) (ls.drop (j+1))))=R):=by rw [<-LK nf ar ls.length j l i ly];exact HG
      clear HG;have HC:Hid _:=fun w=>TL l[i].1 mn ar fo (some ⟨bl,lf,none⟩) nf fcap ls.length lcap w (by omega)
      generalize hB:j0 l[i].1 nf ar ls.length=B at*;generalize l[i].1=ak at*;generalize l[i].2=av at*;clear hB;go_wp2_with fail
      go_cut [8] (fun vx wc=>vx=.int .i64 B/\Below w.heap.size w wc/\wc.heap[w.heap.size]?=some (.cells #[.int .i64 mn,.slice fo nf fcap] 63 (0,0))/\wc.heap[w.heap.size+1]?=some (.cells #[.int .i64 ar,.slice (some ⟨bl,lf,none⟩) ls.length lcap] 79 (0,0)))
      case first=>
       go_region_with (go_at_call 181;go_must (refine (show Calls _ _ _ _ _ from HC.out _).mono ?_);rintro e w1 ⟨rfl,bB⟩)
       all_goals
        go_wp2_with fail
        go_meet
        case rel=>exact ⟨rfl,hb.trans ((aR (ai _ _)).trans (bB.mono (by simp [heap_drew];omega))),(bB.block _ (by rw [cD];omega)).trans oI,(bB.block _ (by rw [cD];omega)).trans Cn⟩
      case rest=>
       obtain ⟨hx,jq,AQ,Wf⟩:=hcut;rw [hx];clear hx oI Cn HC C0 C1 T0 T1 z0 z1;have z0:=HZ0.out;have z1:=W8.out;have ahE:=jq.size;rw [<-jq.cell (p:=⟨ba,af+i*2,none⟩) (show ba<_ by omega)] at z0;rw [<-jq.cell (p:=⟨ba,af+i*2+1,none⟩) (show ba<_ by omega)] at z1;by_cases p1:av<0
       ·have HF:Hid (false=R):=by rw [<-sz.out];simp [Hid,show ¬0<=av by omega]
        go_wp2_with fail
        go_ret
        exact ⟨bL HF.out,jq⟩
       by_cases p2:B<=av
       ·have HF:Hid (false=R):=by rw [<-sz.out];simp [Hid,show ¬av<B by omega]
        have p1':decide (av<0)=false:=by simpa using p1
        go_wp2_with fail
        go_ret
        exact ⟨bL HF.out,jq⟩
       have p1':decide (av<0)=false:=by simpa using p1
       have p2':decide (B<=av)=false:=by simpa using p2
       by_cases p3:ak=5
       ·subst p3;by_cases p4:av<(j:Int)
        ·have HF:Hid (false=R):=by rw [<-sz.out];simp [Hid,p4]
         first
         |(exfalso;omega)
         |(go_wp2_with fail
           go_ret
           exact ⟨bL HF.out,jq⟩)
        ·have IW:Hid (((l.drop (i+1)).all (g7 nf ar ls.length j) && dM nf ar ls.length (j+1) (ls.drop (j+1)))=R):=by
          rw [<-sz.out];simp [Hid,show 0<=av by omega,show av<B by omega,p4]
         go_wp2_with fail
         go_roundw
         case rel=>exact ⟨i+1,ly,by go_num,IW,jq,AQ,Wf⟩
         case measure=>simp [intOf];omega
       ·have p3':(ak==5)=false:=by simpa using p3
        have IW:Hid (((l.drop (i+1)).all (g7 nf ar ls.length j) && dM nf ar ls.length (j+1) (ls.drop (j+1)))=R):=by
         rw [<-sz.out];simp [Hid,show 0<=av by omega,show av<B by omega,p3]
        go_wp2_with fail
        go_roundw
        case rel=>exact ⟨i+1,ly,by go_num,IW,jq,AQ,Wf⟩
        case measure=>simp [intOf];omega
     ·have IW:Hid (dM nf ar ls.length (j+1) (ls.drop (j+1))=R):=by
       have:=HG.out;rw [bj (by omega)] at this;simpa [Hid] using this
      clear HG;go_wp2_with fail
      go_roundw
      case rel=>exact ⟨j+1,bF,by go_num,IW,hb,oI,Cn⟩
      case measure=>simp [intOf];omega
  ·have nV:j=ls.length:=by omega
   have HF:Hid (true=R):=by rw [<-HG.out,nV,List.drop_length];rfl
   clear HG;go_wp2_with fail
   go_ret
   exact ⟨bL HF.out,hb⟩
def zz:Ln:=[(1,0),(1,0)]
theorem EY (nf:Nat) (ar:Int) (nl i:Nat):fy nf ar nl i zz=true:=by
 simp [fy,g7,zz,j0]
theorem vu (nf:Nat) (ar:Int) (nl:Nat):∀(m i:Nat),dM nf ar nl i (List.replicate m zz)=true
 |0,_=>rfl
 |m+1,i=>by rw [List.replicate_succ,dM,EY,vu nf ar nl m (i+1)];rfl
theorem vt (nf:Nat) (ar:Int) (nl:Nat) (l:Ln):∀(m j i:Nat),j<m->dM nf ar nl i ((List.replicate m zz).set j l)=fy nf ar nl (i+j) l
 |0,_,_,h=>by omega
 |m+1,0,i,_=>by rw [List.replicate_succ,List.set_cons_zero,dM,vu,Bool.and_true,cy]
 |m+1,j+1,i,h=>by
  rw [List.replicate_succ,List.set_cons_succ,dM,EY,dp,vt nf ar nl l m j (i+1) (by omega)];congr 1
  omega
theorem Hu (nf:Nat) (ar:Int) (nl j:Nat) (l:Ln) (h0:0<=ar) (h6:ar<=6) (WM:nl<=13) (hj:j<nl):kl nf ⟨ar,(List.replicate nl zz).set j l⟩=fy nf ar nl j l:=by
 have hl:((List.replicate nl zz).set j l).length=nl:=by simp
 simp only [kl,hl];rw [vt nf ar nl l nl j 0 hj,cr];simp [h0,h6,WM,show 1<=nl by omega]
theorem eL.upQ {w:World} {T T':Nat} {v:Value} {l:Ln} (h:eL w T v l) (hT:T<=T'):eL w T' v l:=by
 obtain ⟨a,cap,h1,h2,h3,h4⟩:=h;refine ⟨a,cap,h1,h2,h3,?_⟩
 rcases h4 with h4|⟨b,off,rfl,gZ,hc⟩
 ·exact .inl h4
 ·exact .inr ⟨b,off,rfl,by omega,hc⟩
theorem C8 {w:World} {B b:Nat} {e:TypeId} {n size:Nat} {cs:Array Value} (h:w.heap[b]?=some (.cells cs e (0,0))) (hs:cs.size=n*size) (hn:n<=maxLen) (hB:B<=b):w.ownsRow B e size (.slice (some ⟨b,0,none⟩) n n) n cs.toList:=
 ⟨by rw [Array.length_toList];exact hs,.inr ⟨b,n,cs,rfl,hB,h,ah _,hn,hs,bN (by rw [Array.length_toList];omega)⟩⟩
theorem TH (l:Ln) (v:Value) (j nl nf:Nat) (ar:Int) (w:World) (hv:eL w w.heap.size v l) (h0:0<=ar) (h6:ar<=6) (WM:nl<=13) (hj:j<nl) (hf:nf<=16):
 Calls Tryz.prog 153 #[v,.int .i64 j,.int .i64 ar,.int .i64 nl,.int .i64 nf] w fun e w'=>e=.returned (.bool (fy nf ar nl j l))/\Below w.heap.size w w':=by
 have HG:Hid _:=Hu nf ar nl j l h0 h6 WM hj;obtain ⟨i2,lj,I4,Ca,B9⟩:=bE Tryz.infoLine;obtain ⟨o,cap,nU,lk,kT,jA⟩:=id hv;subst nU;go_enter Tryz.func153,Tryz.ntmps153
 obtain ⟨it,Je,X8,ul,Pk⟩:=bE Tryz.infoTemplate;have HAT:Hid (eL w w.heap.size (.slice o l.length cap) l):=hv;clear hv jA;unfold maxLen at kT;go_wp2_with (at_make;go_must (refine fI _ rfl _ _ 61 rfl w.heap.size 79 it _ 2 Tryz.underlying61 Je X8 ul _ _ _ _ nf rfl rfl rfl rfl ?mb ?ml ?mbase ?_))
 case mb=>rw [Pk];omega
 case ml=>unfold maxLen;omega
 case mbase=>exact ah _
 intro w1 dR kE;have bB:Below w.heap.size w w1:=(ai _ _).grown (row:=none) kE (ah _) (fun k hk=>by cases hk);have wR:=bB.size;clear dR kE;obtain ⟨CB,Rc⟩:∃CB,CB=w1.heap.size:=⟨_,rfl⟩;have HB:Hid ((((w1.alloc (Obj.cells #[.int .i64 0,.slice (some ⟨w.heap.size,0,none⟩) nf nf] 63)).alloc (Obj.cells #[.int .i64 ar,.slice none 0 0] 79))).heap[CB]?=some (.cells #[.int .i64 0,.slice (some ⟨w.heap.size,0,none⟩) nf nf] 63 (0,0))/\(((w1.alloc (Obj.cells #[.int .i64 0,.slice (some ⟨w.heap.size,0,none⟩) nf nf] 63)).alloc (Obj.cells #[.int .i64 ar,.slice none 0 0] 79))).heap[CB+1]?=some (.cells #[.int .i64 ar,.slice none 0 0] 79 (0,0))):=by rw [Rc];exact gW (ai _ _)
 have YT:Hid (Below w.heap.size w ((w1.alloc (Obj.cells #[.int .i64 0,.slice (some ⟨w.heap.size,0,none⟩) nf nf] 63)).alloc (Obj.cells #[.int .i64 ar,.slice none 0 0] 79))):=(bB.alloc wR _).alloc (by simp;omega) _;have hCw:w.heap.size<=CB:=by omega
 go_wp2_with fail
 rw [<-Rc];clear Rc
 go_loopw [13] (fun y wr=>∃(k:Nat) (lv:Value),k<=nl/\y=.int .i64 k/\Below w.heap.size w wr/\wr.heap[CB]?=some (.cells #[.int .i64 0,.slice (some ⟨w.heap.size,0,none⟩) nf nf] 63 (0,0))/\wr.heap[CB+1]?=some (.cells #[.int .i64 ar,lv] 79 (0,0))/\j3 wr (CB+1+1) lv (List.replicate k zz)) (fun y _=>nl-(intOf y).toNat)
 case atStart=>exact ⟨0,.slice none 0 0,aF _,rfl,YT.out,HB.out.1,HB.out.2,[],aM _ _ _ _,fun j hj=>by simp at hj⟩
 case round=>
  clear HB YT;obtain ⟨k,lv,hk,rfl,hb,DK,zq,KY⟩:=hrel;have Jj:=hb.size;have hTl:CB+1<wr.heap.size:=(ae.1 zq).1;have hCl:CB<wr.heap.size:=by omega
  obtain ⟨vs,j9,I8⟩:=KY;rw [List.length_replicate] at j9;obtain ⟨lo,lcap,rfl⟩:=aU j9;obtain ⟨t0,t1,ft0,ft1⟩:=bS zq;by_cases bF:k<nl
  ·have hA:Below wr.heap.size wr ((wr.alloc (Obj.cells #[.int .i64 1,.int .i64 0,.int .i64 1,.int .i64 0] 99)).alloc (Obj.cells #[.slice (some ⟨wr.heap.size,0,none⟩) 2 2] 100)):=((ai _ _).alloc (ah _) _).alloc (by simp) _;have HZ:Hid _:=C8 (B:=CB+1+1) ((gW (ai _ ((wr.alloc (Obj.cells #[.int .i64 1,.int .i64 0,.int .i64 1,.int .i64 0] 99)).alloc (Obj.cells #[.slice (some ⟨wr.heap.size,0,none⟩) 2 2] 100)))).1) (n:=2) (size:=2) rfl (by unfold maxLen;omega) (by omega);go_wp2_with (at_builtin;go_must (refine wpList_append_lies _ rfl _ _ _ rfl (CB+1+1) 100 i2 _ 1 24 Tryz.underlying56 lj I4 Ca B9 rfl (by omega) (.slice lo k lcap) k vs rfl ?hown _ 1 _ [.slice (some ⟨wr.heap.size,0,none⟩) 2 2] rfl rfl ?dA ?h1 (by omega) ?kj ?cP ?cX _ rfl ?_))
   case hown=>exact (j9.alloc _).alloc _
   try case dA=>exact World.news_of_block (by have:=az (wr.alloc (Obj.cells #[.int .i64 1,.int .i64 0,.int .i64 1,.int .i64 0] 99)) (Obj.cells #[.slice (some ⟨wr.heap.size,0,none⟩) 2 2] 100);simpa using this)
   case h1=>simp [Value.oneCell']
   case kj=>unfold maxLen;omega
   case cP=>omega
   case cX=>first|omega|(simp;omega)
   intro g cap2 w5 fd co kZ nL;have DL:=br ((j9.alloc _).alloc _) co (by decide) ((hA.block _ hCl).trans DK);have DJ:=br ((j9.alloc _).alloc _) co (by decide) ((hA.block _ hTl).trans zq);have dB:Below w.heap.size w w5:=(hb.trans (hA.mono Jj)).grown co (by simp;omega) (fun k hk=>aJ (by omega) (j9.lt k hk).1);have Rb:j3 w5 (CB+1+1) (.slice (some ⟨g,0,none⟩) (k+1) cap2) (List.replicate (k+1) zz):=by
    rw [List.replicate_succ'];refine ⟨vs++[.slice (some ⟨wr.heap.size,0,none⟩) 2 2],by rw [au,List.length_replicate];exact fd,gn.app (by have:=j9.1;simpa using this) ((I8.old hA (fun _ _ h=>h)).type ((j9.alloc _).alloc _) co (fun _ h=>h)) ?_⟩
    intro q hq;have Sm:q=0:=by simpa using hq
    subst Sm;exact ⟨_,rfl,aY ((j9.alloc _).alloc _) co (by decide) HZ.out,fun _ _=>trivial⟩
   obtain ⟨z0,z1,_,fz1⟩:=bS DJ;have ahW:CB+1<w5.heap.size:=(ae.1 DJ).1;clear co kZ t0 t1 ft0 ft1;go_wp2_with fail
   go_roundw
   case rel=>exact ⟨k+1,_,bF,by go_num,dB.setCell (by show w.heap.size<=CB+1;omega) _,(bi _ (by omega)).trans DL,bk _ DJ,Rb.set DJ⟩
   case measure=>simp [intOf];omega
  ·have eh:k=nl:=by omega
   subst eh;have iH:¬(k:Int)<(k:Int):=by omega
   obtain ⟨g,cap',hg,_,aav⟩:=j9.form (by omega);cases hg
   obtain ⟨c0,c1,_,_⟩:=bS DK;have hgB:CB+1+1<=g:=(j9.lt g rfl).1;have As:CB≠g:=by omega
   have pJ:CB+1≠g:=by omega
   have dG:j<vs.length:=by have:=j9.1;omega
   have cj:wr.cell? ⟨g,j,none⟩=some vs[j]:=aH j9 j _ (aj dG);obtain ⟨cur,hgb⟩:∃cur,wr.heap[g]?=some (.cells cur 100 (0,0)):=by
    rcases j9.2 with ⟨h,_⟩|⟨g',cap2,cur,h,_,hh,_⟩
    ·cases h
    ·cases h;exact ⟨cur,hh⟩
   have fj:=aG wr g j _ _ hgb;have fZ:=i8 (j:=j) (.slice o l.length cap) j9;have iG:(wr.setCell ⟨g,j,none⟩ (.slice o l.length cap)).heap.size=wr.heap.size:=by simp [World.setCell]
   have SE:Below w.heap.size w (wr.setCell ⟨g,j,none⟩ (.slice o l.length cap)):=hb.setCell (by show w.heap.size<=g;omega) _;have hLR:gd (wr.setCell ⟨g,j,none⟩ (.slice o l.length cap)) wr.heap.size (.slice (some ⟨g,0,none⟩) k lcap) ((List.replicate k zz).set j l):=by
    have jk:((List.replicate k zz).set j l).length=k:=by simp
    have jb:k<=lcap/\lcap<=maxLen:=by
     rcases j9.2 with ⟨h,_⟩|⟨g',cap2,cur,h,_,_,h1,h2,_⟩
     ·cases h
     ·cases h;exact ⟨h1,h2⟩
    refine ⟨some ⟨g,0,none⟩,lcap,by rw [jk],by rw [jk];exact jb.1,jb.2,.inr ⟨g,0,rfl,aav,fun q hq=>?_⟩⟩
    rw [jk] at hq;by_cases ZJ:q=j
    ·subst ZJ;refine ⟨.slice o l.length cap,by rw [cr];exact aH fZ q _ (by rw [bR dG]),?_⟩
     rw [List.getElem_set_self];exact ((eL.keep HAT.out SE)).upQ (by omega)
    ·obtain ⟨u,e1,e2,_⟩:=I8 q (by rw [List.length_replicate];exact hq);refine ⟨u,by rw [cr];exact aH fZ q _ (by rw [b9 (fun h=>ZJ h.symm)];exact e1),?_⟩
     rw [List.getElem_set_ne (fun h=>ZJ h.symm)];have:=nE (aB (i:=j) (u:=.slice o l.length cap) e2 hgb (by decide));rw [iG] at this;exact this
   have HC:Hid _:=xP ⟨ar,(List.replicate k zz).set j l⟩ 0 (some ⟨w.heap.size,0,none⟩) nf nf (.slice (some ⟨g,0,none⟩) k lcap) wr.heap.size (wr.setCell ⟨g,j,none⟩ (.slice o l.length cap)) (by rw [iG];exact ah _) (by unfold maxLen;omega) hLR;rw [HG.out] at HC;have Bu:Hid _:=SE;clear hLR fZ SE hgb I8 iG;go_wp2_with fail
   refine (show Calls _ _ _ _ _ from HC.out).mono ?_
   rintro e w6 ⟨rfl,js⟩
   have abb:Below w.heap.size w w6:=Bu.out.trans (js.mono Bu.out.size);go_wp2_with fail
   go_ret
   exact ⟨rfl,abb⟩
theorem NM (r:ByteArray):∀(n i b:Nat) (acc:List ByteArray),r.size-i=n->b<=i->i<=r.size->∀x rest,spL 10 (r.data.toList.drop i)=x::rest->
 (rest=[]->wrd r b i acc=none)/\(rest≠[]->wrd r b i acc=some (acc++(ui ((r.data.toList.drop b).take (i-b)) (spL 32 x)).map ba,i+x.length+1)/\spL 10 (r.data.toList.drop (i+x.length+1))=rest/\i+x.length+1<=r.size):=by
 have Gm:=cg r;intro n;induction n with
 |zero=>
  intro i b acc hn hb hi x rest h;rw [bj (by omega)] at h;simp only [spL,List.cons.injEq] at h;obtain ⟨rfl,rfl⟩:=h;exact ⟨fun _=>E3 r b i acc (by omega),fun h=>absurd rfl h⟩
 |succ n ih=>
  intro i b acc hn hb hi x rest h;have bF:i<r.size:=by omega
  have un:i<r.data.toList.length:=by omega
  have Nf:=nY r i un;by_cases Ht:r.data.toList[i]=10
  ·rw [Ff 10 _ i un Ht,List.cons.injEq] at h;obtain ⟨rfl,rfl⟩:=h;refine ⟨fun e=>absurd e (nS _ _),fun _=>⟨?_,rfl,by simp;omega⟩⟩
   rw [E0 r b i acc bF (by rw [Nf,Ht];rfl),xd (tO r b i)];simp [spL,ui]
  ·have abe:bt r i≠10:=by
    rw [Nf];intro e;exact Ht (dF.1 (by show _=10;omega))
   rw [BF 10 _ i un Ht] at h;cases hy:spL 10 (r.data.toList.drop (i+1)) with
   |nil=>exact absurd hy (nS _ _)
   |cons y rest'=>
    rw [hy] at h;simp only [ui,List.cons.injEq,eJ] at h;obtain ⟨rfl,rfl⟩:=h;by_cases Nm:r.data.toList[i]=32
    ·have QZ:bt r i=32:=by rw [Nf,Nm];rfl
     have:=ih (i+1) (i+1) (acc++[r.extract b i]) (by omega) (ah _) (by omega) y rest' hy;rw [<-EZ r b i acc bF QZ] at this;refine ⟨this.1,fun hr=>?_⟩
     obtain ⟨e1,e2,e3⟩:=this.2 hr;refine ⟨?_,?_,by simp;omega⟩
     ·rw [e1,ct,du,rY (nS _ _),spL,aA Nm,xd (tO r b i)];simp [ui];omega
     ·rw [show i+(r.data.toList[i]::y).length+1=i+1+y.length+1 by simp;omega];exact e2
    ·have QZ:bt r i≠32:=by
      rw [Nf];intro e;exact Nm (dF.1 (by show _=32;omega))
     have:=ih (i+1) b acc (by omega) (by omega) (by omega) y rest' hy;rw [<-E2 r b i acc bF abe QZ] at this;refine ⟨this.1,fun hr=>?_⟩
     obtain ⟨e1,e2,e3⟩:=this.2 hr;refine ⟨?_,?_,by simp;omega⟩
     ·rw [e1,spL,ay Nm,BO,Cw _ b i hb un];simp;omega
     ·rw [show i+(r.data.toList[i]::y).length+1=i+1+y.length+1 by simp;omega];exact e2
theorem rO {r:ByteArray} {x:List UInt8} {rest:List (List UInt8)} (h:spL 10 r.data.toList=x::rest):
 (rest=[]->wrd r 0 0 []=none)/\(rest≠[]->wrd r 0 0 []=some (wsB (ba x),x.length+1)/\spL 10 (dz r).data.toList=rest):=by
 have h0:=NM r (r.size-0) 0 0 [] rfl (ah _) (aF _) x rest (by simpa using h);refine ⟨h0.1,fun hr=>?_⟩
 obtain ⟨e1,e2,e3⟩:=h0.2 hr;have e4:wrd r 0 0 []=some (wsB (ba x),x.length+1):=by
  rw [e1];simp [rY (nS _ _),wsB,IE]
 refine ⟨e4,?_⟩
 unfold dz;rw [e4];simp only;rw [tO];rw [show 0+x.length+1=x.length+1 by omega] at e2;have:(r.data.toList.drop (x.length+1)).take (r.size-(x.length+1))=r.data.toList.drop (x.length+1):=by
  rw [bN];rw [cI,cg];exact ah _
 rw [this];exact e2
theorem FN {r:ByteArray} {x:List UInt8} (c:UInt8) (h:spL 10 r.data.toList=[x]):jX c r=false:=by
 unfold jX;rw [(rO h).1 rfl]
theorem we {r:ByteArray} {x:List UInt8} {rest:List (List UInt8)} (c:UInt8) (h:spL 10 r.data.toList=x::rest) (hr:rest≠[]):
 jX c r=uw c (wsB (ba x))/\(uw c (wsB (ba x))=true->jo c r=hdA c (wsB (ba x))/\iK c r=hdB c (wsB (ba x)))/\spL 10 (dz r).data.toList=rest:=by
 obtain ⟨e1,e2⟩:=(rO h).2 hr;refine ⟨by unfold jX uw;rw [e1],fun ho=>?_,e2⟩
 unfold uw at ho;simp only [aN] at ho;obtain ⟨o1,o2,o3,o4⟩:=ho;unfold jo iK hdA hdB;rw [e1];simp only [o1,o2,o3,Bool.and_self,cQ,oU,o4];exact ⟨trivial,trivial⟩
theorem Rz {s:ByteArray} (h:atR s=true):atK s=true:=by
 simp only [atR,aN] at h;simp only [atK,aN];exact ⟨h.1,h.2.2⟩
theorem DP {nf:Nat} {ar:Int} {nl j:Nat} {a:Int×Int} (h:g7 nf ar nl j a=true):a.1≠0:=by
 intro e;simp only [g7,aN,aL] at h;have:=h.2.1;rw [e] at this;simp [j0] at this;omega
theorem vF {r:ByteArray} {x:List UInt8} {rest:List (List UInt8)} (nf:Nat) (ar:Int) (nl j:Nat) (h:spL 10 r.data.toList=x::rest) (hr:rest≠[]):
 (gw r && fy nf ar nl j (gE r))=(nh (wsB (ba x)) && fy nf ar nl j ((wsB (ba x)).map atV))/\(nh (wsB (ba x))=true->gE r=(wsB (ba x)).map atV)/\spL 10 (dz r).data.toList=rest:=by
 obtain ⟨e1,e2⟩:=(rO h).2 hr;have hk:nh (wsB (ba x))=true->(wsB (ba x)).all atK=true:=fun h=>by
  simp only [nh,aN,b8] at h;rw [b8];exact fun s hs=>Rz (h.2 s hs)
 have hL:gw r=(wsB (ba x)).all atK:=by unfold gw;rw [e1]
 have hM:gE r=if (wsB (ba x)).all atK then (wsB (ba x)).map atV else []:=by unfold gE;rw [e1]
 refine ⟨?_,fun h=>by rw [hM,aA (hk h)],e2⟩
 cases ho:nh (wsB (ba x))
 ·rw [Bool.false_and,hL,hM];cases hq:(wsB (ba x)).all atK
  ·rfl
  ·rw [aA rfl,dp];cases hg:fy nf ar nl j ((wsB (ba x)).map atV)
   ·rfl
   ·exfalso
    simp only [fy,aN,aL,bK,b8] at hg;obtain ⟨h8,_,_,_,ip⟩:=hg;rw [b8] at hq;have:nh (wsB (ba x))=true:=by
     simp only [nh,aN,aL,b8];refine ⟨h8,fun s hs=>?_⟩
     have eA:=hq s hs;have qX:=DP (ip (atV s) (List.mem_map_of_mem hs));simp only [atK,aN,aL] at eA;simp only [atR,aN,aL];refine ⟨eA.1,?_,eA.2⟩
     simpa [atV,eA.1] using qX
    rw [ho] at this;cases this
 ·rw [dp,hL,hM,hk ho,aA rfl,dp]
theorem LI {r:ByteArray} {x:List UInt8} (nf:Nat) (ar:Int) (nl j:Nat) (h:spL 10 r.data.toList=[x]):(gw r && fy nf ar nl j (gE r))=false:=by
 unfold gw gE;rw [(rO h).1 rfl];simp [fy]
theorem Fg {r:ByteArray} {x:List UInt8} {rest:List (List UInt8)} (h:spL 10 r.data.toList=x::rest):r.size=0↔(rest=[]/\x=[]):=by
 constructor
 ·intro h0;have:r.data.toList=[]:=ch.1 (by rw [<-cg];exact h0);rw [this] at h;simp only [spL,List.cons.injEq] at h;exact ⟨h.2.symm,h.1.symm⟩
 ·rintro ⟨rfl,rfl⟩
  cases hl:r.data.toList with
  |nil=>rw [cg,hl];rfl
  |cons a l=>
   rw [hl] at h;unfold spL at h;split at h
   ·simp only [List.cons.injEq,true_and] at h;exact absurd h (nS _ _)
   ·cases hs:spL 10 l with
    |nil=>exact absurd hs (nS _ _)
    |cons y t=>rw [hs] at h;simp [ui] at h
theorem oM {α:Type} (l:List α) (i:Nat) (h:i<l.length):l.drop i=l[i]::l.drop (i+1):=aW h
def AG (LS:List (List UInt8)) (h:0<LS.length):Bool:=decide (2<=LS.length) && (uw 77 (wsB (ba LS[0])) && gg (hdA 77 (wsB (ba LS[0]))) (hdB 77 (wsB (ba LS[0]))))
theorem Ls {r:ByteArray} {LS:List (List UInt8)} (gV:spL 10 r.data.toList=LS) (h:0<LS.length) (hb:AG LS h=false):iC r=(none,1):=by
 have e:=oM LS 0 h;rw [dw] at e;have Aw:spL 10 r.data.toList=LS[0]::LS.drop 1:=by rw [gV];exact e
 unfold iC;by_cases h2:2<=LS.length
 ·have dI:LS.drop 1≠[]:=by intro e1;have:=congrArg List.length e1;simp at this;omega
  obtain ⟨p1,p2,_⟩:=we 77 Aw dI;rw [p1];cases ho:uw 77 (wsB (ba LS[0]))
  ·rfl
  ·obtain ⟨p3,p4⟩:=p2 ho;rw [p3,p4];simp only [AG,h2,ho,eV,dp] at hb;rw [hb];rfl
 ·have hn:LS.drop 1=[]:=bj (by omega);rw [hn] at Aw;rw [FN 77 Aw];rfl
theorem It {r:ByteArray} {LS:List (List UInt8)} (gV:spL 10 r.data.toList=LS) (h:0<LS.length) (hb:AG LS h=true):
 iC r=(match (ey (hdB 77 (wsB (ba LS[0]))).toNat (hdA 77 (wsB (ba LS[0]))) (hdB 77 (wsB (ba LS[0]))).toNat 0 (dz r)).1 with
 |none=>(none,(ey (hdB 77 (wsB (ba LS[0]))).toNat (hdA 77 (wsB (ba LS[0]))) (hdB 77 (wsB (ba LS[0]))).toNat 0 (dz r)).2.2+1)
 |some F=>(if (ey (hdB 77 (wsB (ba LS[0]))).toNat (hdA 77 (wsB (ba LS[0]))) (hdB 77 (wsB (ba LS[0]))).toNat 0 (dz r)).2.1.size=0 then some ⟨hdA 77 (wsB (ba LS[0])),F⟩ else none,(ey (hdB 77 (wsB (ba LS[0]))).toNat (hdA 77 (wsB (ba LS[0]))) (hdB 77 (wsB (ba LS[0]))).toNat 0 (dz r)).2.2+2))/\
 spL 10 (dz r).data.toList=LS.drop 1/\2<=LS.length/\gg (hdA 77 (wsB (ba LS[0]))) (hdB 77 (wsB (ba LS[0])))=true:=by
 have e:=oM LS 0 h;rw [dw] at e;have Aw:spL 10 r.data.toList=LS[0]::LS.drop 1:=by rw [gV];exact e
 simp only [AG,aN,aL] at hb;obtain ⟨h2,ho,jB⟩:=hb;have dI:LS.drop 1≠[]:=by intro e1;have:=congrArg List.length e1;simp at this;omega
 obtain ⟨p1,p2,p3⟩:=we 77 Aw dI;obtain ⟨p4,p5⟩:=p2 ho;refine ⟨?_,p3,h2,jB⟩
 unfold iC;rw [p1,ho,p4,p5,jB];rfl
def AF (LS:List (List UInt8)) (k:Nat) (h:k<LS.length) (m:Bool):Bool:=decide (k+1<LS.length) && (uw 70 (wsB (ba LS[k])) && iX (hdA 70 (wsB (ba LS[k]))) (hdB 70 (wsB (ba LS[k]))) m)
theorem Jz {r:ByteArray} {LS:List (List UInt8)} {k:Nat} {m:Bool} (nf:Nat) (h:k<LS.length) (gV:spL 10 r.data.toList=LS.drop k) (hb:AF LS k h m=false):dO nf m r=(none,dz r,1):=by
 rw [oM LS k h] at gV;unfold dO;by_cases h2:k+1<LS.length
 ·have dI:LS.drop (k+1)≠[]:=by intro e1;have:=congrArg List.length e1;simp at this;omega
  obtain ⟨p1,p2,_⟩:=we 70 gV dI;rw [p1];cases ho:uw 70 (wsB (ba LS[k]))
  ·rfl
  ·obtain ⟨p3,p4⟩:=p2 ho;rw [p3,p4];simp only [AF,h2,ho,eV,dp] at hb;rw [hb];rfl
 ·have hn:LS.drop (k+1)=[]:=bj (by omega);rw [hn] at gV;rw [FN 70 gV];rfl
theorem E8 {r:ByteArray} {LS:List (List UInt8)} {k:Nat} {m:Bool} (nf:Nat) (h:k<LS.length) (gV:spL 10 r.data.toList=LS.drop k) (hb:AF LS k h m=true):
 dO nf m r=((cU nf (hdA 70 (wsB (ba LS[k]))) ((hdB 70 (wsB (ba LS[k]))).toNat+1) ((hdB 70 (wsB (ba LS[k]))).toNat+1) 0 (dz r)).1.map (fun L=>⟨hdA 70 (wsB (ba LS[k])),L⟩),(cU nf (hdA 70 (wsB (ba LS[k]))) ((hdB 70 (wsB (ba LS[k]))).toNat+1) ((hdB 70 (wsB (ba LS[k]))).toNat+1) 0 (dz r)).2.1,(cU nf (hdA 70 (wsB (ba LS[k]))) ((hdB 70 (wsB (ba LS[k]))).toNat+1) ((hdB 70 (wsB (ba LS[k]))).toNat+1) 0 (dz r)).2.2+1)/\
 spL 10 (dz r).data.toList=LS.drop (k+1)/\k+1<LS.length/\iX (hdA 70 (wsB (ba LS[k]))) (hdB 70 (wsB (ba LS[k]))) m=true:=by
 rw [oM LS k h] at gV;simp only [AF,aN,aL] at hb;obtain ⟨h2,ho,jB⟩:=hb;have dI:LS.drop (k+1)≠[]:=by intro e1;have:=congrArg List.length e1;simp at this;omega
 obtain ⟨p1,p2,p3⟩:=we 70 gV dI;obtain ⟨p4,p5⟩:=p2 ho;refine ⟨?_,p3,h2,jB⟩
 unfold dO;rw [p1,ho,p4,p5,jB];rfl
def xZ (LS:List (List UInt8)) (k:Nat) (h:k<LS.length) (nf:Nat) (ar:Int) (nl j:Nat):Bool:=decide (k+1<LS.length) && (nh (wsB (ba LS[k])) && fy nf ar nl j ((wsB (ba LS[k])).map atV))
theorem F5 {r:ByteArray} {LS:List (List UInt8)} {k:Nat} {nf:Nat} {ar:Int} {nl j m:Nat} (h:k<LS.length) (gV:spL 10 r.data.toList=LS.drop k) (hb:xZ LS k h nf ar nl j=false):cU nf ar nl (m+1) j r=(none,dz r,1):=by
 rw [oM LS k h] at gV;unfold cU;by_cases h2:k+1<LS.length
 ·have dI:LS.drop (k+1)≠[]:=by intro e1;have:=congrArg List.length e1;simp at this;omega
  obtain ⟨p1,_,_⟩:=vF nf ar nl j gV dI;simp only [xZ,h2,eV,dp] at hb;rw [p1,hb];rfl
 ·have hn:LS.drop (k+1)=[]:=bj (by omega);rw [hn] at gV;rw [LI nf ar nl j gV];rfl
theorem Dh {r:ByteArray} {LS:List (List UInt8)} {k:Nat} {nf:Nat} {ar:Int} {nl j m:Nat} (h:k<LS.length) (gV:spL 10 r.data.toList=LS.drop k) (hb:xZ LS k h nf ar nl j=true):
 cU nf ar nl (m+1) j r=((cU nf ar nl m (j+1) (dz r)).1.map ((wsB (ba LS[k])).map atV::·),(cU nf ar nl m (j+1) (dz r)).2.1,(cU nf ar nl m (j+1) (dz r)).2.2+1)/\spL 10 (dz r).data.toList=LS.drop (k+1)/\k+1<LS.length:=by
 rw [oM LS k h] at gV;simp only [xZ,aN,aL] at hb;obtain ⟨h2,ho,hg⟩:=hb;have dI:LS.drop (k+1)≠[]:=by intro e1;have:=congrArg List.length e1;simp at this;omega
 obtain ⟨p1,p2,p3⟩:=vF nf ar nl j gV dI;refine ⟨?_,p3,h2⟩
 rw [cU,p1,ho,hg,p2 ho];rfl
theorem F8 {r:ByteArray} {LS:List (List UInt8)} {k:Nat} (h:k<LS.length) (gV:spL 10 r.data.toList=LS.drop k):(r.size=0)↔(k+1=LS.length/\LS[k]=[]):=by
 rw [oM LS k h] at gV;rw [Fg gV];constructor
 ·rintro ⟨h1,h2⟩
  refine ⟨?_,h2⟩
  have:=congrArg List.length h1;simp at this;omega
 ·rintro ⟨h1,h2⟩
  exact ⟨bj (by omega),h2⟩
end Go.Proofs.YtnndoagpbcacdabGreatDoor
