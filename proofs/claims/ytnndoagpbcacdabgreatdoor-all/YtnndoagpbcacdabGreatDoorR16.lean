import Derived.Test.YtnndoagpbcacdabGreatDoorMR13
namespace Go.Proofs.YtnndoagpbcacdabGreatDoor
set_option maxHeartbeats 4000000
set_option maxRecDepth 100000
open Go.RowKit
def spW (ps names:List Tk):At->List UInt8
 | .nil=>[]
 | .sim t r=>32::(wL ps names t++spW ps names r)
 | .par _ h _ .nil r=>32::(wL ps names h++spW ps names r)
 | .par _ h _ (.sim t g) r=>32::40::(wL ps names h++(spW ps names (.sim t g)++41::spW ps names r))
 | .par _ h _ (.par o x c g' g) r=>32::40::(wL ps names h++(spW ps names (.par o x c g' g)++41::spW ps names r))
theorem qs {ps names:List Tk} {o h c:Tk} {ag r:At} (dI:ag≠.nil):spW ps names (.par o h c ag r)=32::40::(wL ps names h++(spW ps names ag++41::spW ps names r)):=by
 cases ag with
 |nil=>exact absurd rfl dI
 |sim t g=>exact spW.eq_4 ..
 |par o x c g' g=>exact spW.eq_5 ..
theorem zK (ps names:List Tk) (a b:At):spW ps names (a.app b)=spW ps names a++spW ps names b:=by
 induction a with
 |nil=>rfl
 |sim t r ih=>simp [At.app,spW,ih]
 |par o h c ag r ih1 ih2=>
  by_cases hn:ag=.nil
  ·subst hn;simp [At.app,spW,ih2]
  ·rw [At.app,qs hn,qs hn,ih2];simp
theorem By (ps names:List Tk) {t:Tk} (h:WT t.txt):(wL ps names t).length<=1000:=by
 have h2:=h.2.1;rw [cg] at h2;unfold wL;split
 ·exact aJ (wZ _) h2
 ·exact h2
theorem zJ (ps names:List Tk) (a:At) (h:∀t∈a.toks,WT t.txt):(spW ps names a).length<=1003*a.toks.length:=by
 induction a with
 |nil=>exact ah _
 |sim t r ih=>
  have h1:=By ps names (h t (by simp [At.toks]));have h2:=ih (fun t ht=>h t (by simp [At.toks,ht]));simp [At.toks,spW];omega
 |par o x c ag r ih1 ih2=>
  have h1:=By ps names (h x (by simp [At.toks]));have h2:=ih2 (fun t ht=>h t (by simp [At.toks,ht]));have h3:=ih1 (fun t ht=>h t (by simp [At.toks,ht]));by_cases hn:ag=.nil
  ·subst hn;simp [At.toks,spW];omega
  ·rw [qs hn];simp [At.toks];omega
theorem eZ (ps names:List Tk) (t:Tk):(aX ps names t).1≠5:=by
 unfold aX
 repeat' split
 all_goals simp
theorem Th {ps names:List Tk} {a:At} (h:a≠.nil):∃c r,spW ps names a=c::r:=by
 cases a with
 |nil=>exact absurd rfl h
 |sim t r=>exact ⟨_,_,rfl⟩
 |par o x c ag r=>
  by_cases hn:ag=.nil
  ·subst hn;exact ⟨_,_,rfl⟩
  ·rw [qs hn];exact ⟨_,_,rfl⟩
theorem zI {ps names:List Tk} {done:At} {sx:ByteArray} (h:sx.data.toList=(spW ps names done).drop 1) (hm:0<done.cnt):∀X:List UInt8,(spW ps names done++32::X).drop 1=(sx++⟨#[32]⟩).data.toList++X:=by
 intro X;obtain ⟨c,r,hc⟩:=Th (ps:=ps) (names:=names) (a:=done) (fun e=>by rw [e] at hm;simp [At.cnt] at hm);rw [cK,h,hc];simp
theorem vU {ps names:List Tk} {done:At} {sx:ByteArray} (h:sx.data.toList=(spW ps names done).drop 1) (hm:¬0<done.cnt):∀X:List UInt8,(spW ps names done++32::X).drop 1=sx.data.toList++X:=by
 intro X;have:done=.nil:=by
  cases done with
  |nil=>rfl
  |sim t r=>simp [At.cnt] at hm
  |par o x c ag r=>simp [At.cnt] at hm
 subst this;rw [h];simp [spW]
theorem ER.drew {w:World} {ps names:List Tk} {a:At} {xs:List Value} (h:ER w (fun k=>k<w.heap.size) ps names a xs):ER w.drew (fun k=>k<w.drew.heap.size) ps names a xs:=
 ER.keep (fun _ _=>by rw [cD]) (fun k hk=>by rw [cD];exact hk) h
theorem ER.later {w w':World} {ps names:List Tk} {a:At} {xs:List Value} (hb:Below w.heap.size w w') (h:ER w (fun k=>k<w.heap.size) ps names a xs):ER w' (fun k=>k<w'.heap.size) ps names a xs:=
 ER.keep (fun k hk=>hb.block k hk) (fun _ hk=>bq hk hb.size) h
theorem gO.drew {w:World} {T:Nat} {names:List Tk} {ds:List Df} {xs:List Value} (h:gO w T names ds xs):gO w.drew T names ds xs:=h.keep (aR (ai _ _))
theorem Tx (nm:ByteArray) (ps names:List Tk) (ds:List Df) (psv bv allv:Value) (ys:List Value) (T:Nat) (oD:ps.length<=1000) (EG:ds.length<=1000) (Ap:names=ds.map (·.name)) (n:Nat):
 ∀(h:Tk) (a:At) (xs:List Value) (lv:Value) (w:World),T<=w.heap.size->a.toks.length<n->n<=1001->(∀t∈h::a.toks,WT t.txt)->dZ h->a.ok->(∀t∈h::a.toks,dZ t->(aX ps names t).1=1->t.txt.size<=6/\mB t.txt.data.toList)->
  w.ownsRow 0 9 1 psv ps.length (I2 ps)->w.ownsRow 0 183 3 allv ds.length ys->gO w T names ds ys->
  w.ownsRow 0 223 3 lv (a.cnt+1) xs->ER w (fun k=>k<w.heap.size) ps names (.sim h a) xs->
 Calls Tryz.prog 112 #[lv,.agg #[.string nm,psv,bv],allv] w fun e w'=>∃x:ByteArray,e=.returned (.string x)/\x.data.toList=wL ps names h++spW ps names a/\Below w.heap.size w w':=by
 induction n with
 |zero=>intro h a xs lv w hT Wj;omega
 |succ n ih=>
  intro h a xs lv w hT Wj hn mO wF ew gB hp ha hf hl nX;have vI:Hid _:=ih;have Eb:Hid _:=mO;have uB:Hid _:=gB;have HNM:Hid _:=Ap;clear ih mO gB Ap;have oz:∀d e:At,d.app e=.sim h a->d.toks++e.toks=h::a.toks:=by
   intro d e Yl;rw [<-At.app_toks,Yl];rfl
  have xv:a.cnt<=1001:=aJ (At.cnt_le a) (by omega);obtain ⟨q,cap,rfl,_,dX⟩:=hl.form (by omega);obtain ⟨po,pcap,rfl⟩:=aU hp;obtain ⟨ao,acap,rfl⟩:=aU ha;go_enter Tryz.func112,Tryz.ntmps112
  go_wp2_with fail
  go_loopw [7,8] (fun x y wr=>∃(done rest:At) (m:Nat) (sx:ByteArray) (pre suf:List Value),Hid (done.app rest=.sim h a)/\y=.int .i64 m/\Hid (m=done.cnt)/\x=.string sx/\Hid (sx.data.toList=(spW ps names done).drop 1)/\Hid (xs=pre++suf)/\Hid (pre.length=m*3)/\ER w (fun k=>k<w.heap.size) ps names rest suf/\Below w.heap.size w wr/\wr.heap[w.heap.size]?=some (.cells #[.string nm,.slice po ps.length pcap,bv] 183 (0,0))) (fun _ y _=>a.cnt+1-(intOf y).toNat)
  case atStart=>exact ⟨.nil,.sim h a,0,_,[],xs,rfl,rfl,rfl,rfl,rfl,rfl,rfl,nX,(ai _ _).alloc (ah _) _,az w _⟩
  case round=>
   obtain ⟨done,rest,m,sx,pre,suf,HA,rfl,HM,rfl,oO,mC,i5,rE,hb,ef⟩:=hrel;have dk:=hb.size;have fG:w.heap.size<wr.heap.size:=(ae.1 ef).1;have B0:=al wr w.heap.size 0 _ _ _ ef;have B1:=al wr w.heap.size 1 _ _ _ ef;have B2:=al wr w.heap.size 2 _ _ _ ef;simp only [ax,ap,aq] at B0 B1 B2;have j9:=aQ hl hb;have jD:=aQ hp hb;have oJ:=aQ ha hb;have mo:=hf.keep (hb.mono hT);have Hn:T<=wr.heap.size:=by omega
   have Aj:rest.ok:=(At.app_ok (a:=done) (b:=rest) (by rw [HA.out];exact ⟨wF,ew⟩)).2;have SY:Hid (done.toks++rest.toks=h::a.toks):=oz _ _ HA.out;have ij:m+rest.cnt=a.cnt+1:=by
    have:=congrArg At.cnt HA.out;rw [At.app_cnt] at this;rw [HM.out];exact this
   have Sj:sx.size<=2000000:=by
    have h1:sx.size=((spW ps names done).drop 1).length:=by rw [cg,oO.out]
    have h2:=zJ ps names done (fun t ht=>Eb.out t (by rw [<-SY.out];simp [ht]));have h3:=congrArg List.length SY.out;simp at h1 h3;omega
   have cJ:∀j v,suf[j]?=some v->wr.cell? ⟨q,m*3+j,none⟩=some v:=by
    intro j v hj;have:xs[m*3+j]?=some v:=by
     rw [mC.out,aC (by rw [i5.out];omega),i5.out,show m*3+j-m*3=j by omega];exact hj
    have:=aH j9 _ _ this;exact this
   cases rest with
   |nil=>
    have hmc:m=a.cnt+1:=by simpa [At.cnt] using ij
    have HE:Hid (sx.data.toList=wL ps names h++spW ps names a):=by
     show _=_
     have:done=.sim h a:=by have:=HA.out;rw [At.app_nil] at this;exact this
     rw [oO.out,this];rfl
    have yx:¬(m:Int)<(a.cnt:Int)+1:=by omega
    clear cJ;go_wp2_with fail
    go_ret
    exact ⟨_,rfl,HE.out,hb⟩
   |sim t r2=>
    obtain ⟨r',rB,ki⟩:=rE;have x0:=cJ 0 _ (by rw [rB];rfl);have x1:=cJ 1 _ (by rw [rB];rfl);have x2:=cJ 2 _ (by rw [rB];rfl);simp only [cy] at x0;have k5:=eZ ps names t;have k5':((aX ps names t).1==5)=false:=by simpa using k5
    have Uu:t∈h::a.toks:=by rw [<-SY.out];simp [At.toks]
    have hw:=Eb.out t Uu;have HC:Hid _:=Tu t nm ps names ds (.slice po ps.length pcap) bv (.slice ao ds.length acap) ys T wr.drew oD EG HNM.out hw (uB.out t Uu Aj.1) (World.ownsRow.drew jD) (World.ownsRow.drew oJ) mo.drew;have fR:(m:Int)<(a.cnt:Int)+1:=by simp [At.cnt] at ij;omega
    have Ny:Hid _:=rB;clear cJ rB k5;have Kg:∀sy:ByteArray,(∀X:List UInt8,(spW ps names done++32::X).drop 1=sy.data.toList++X)->∀y:ByteArray,y.data.toList=wL ps names t->(sy++y).data.toList=(spW ps names (done.app (.sim t .nil))).drop 1:=by
     intro sy hy y Ug;rw [cK,Ug,zK,spW,hy];simp [spW]
    have ET:Hid _:=Kg;clear Kg;by_cases lX:(0:Int)<(m:Int)
    ·have HS:Hid (∀X:List UInt8,(spW ps names done++32::X).drop 1=(sx++⟨#[32]⟩).data.toList++X):=zI oO.out (by rw [<-HM.out];omega);go_wp2_with fail
     go_cut [10] (fun vx wc=>∃y:ByteArray,vx=.string y/\y.data.toList=wL ps names t/\y.size<=2000000/\Below w.heap.size w wc/\wc.heap[w.heap.size]?=some (.cells #[.string nm,.slice po ps.length pcap,bv] 183 (0,0)))
     case first=>
      go_region_with (go_at_call 149;go_must (refine (show Calls _ _ _ _ _ from HC.out).mono ?_);rintro e w1 ⟨y,rfl,hy,mj,bB⟩)
      all_goals
       go_wp2_with fail
       go_meet
       case rel=>exact ⟨y,rfl,hy,aJ mj (by decide),hb.trans ((aR (ai _ _)).trans (bB.mono (by simp [heap_drew];omega))),(bB.block _ (by rw [cD];exact fG)).trans ef⟩
     case rest=>
      obtain ⟨y,hx,hy,mj,jq,mX⟩:=hcut;rw [hx];clear hx;have HY:Hid _:=ET.out _ HS.out y hy;clear hy;have UB:(sx++⟨#[32]⟩:ByteArray).size<=2000001:=by rw [bw];simp only [ByteArray.size];simp;omega
      go_wp2_with fail
      go_roundw
      case rel=>
       refine ⟨done.app (.sim t .nil),r2,m+1,_,pre++eC (aX ps names t).1 (aX ps names t).2 (.slice none 0 0),r',?_,by go_num,?_,rfl,HY,?_,?_,ki,jq,mX⟩
       ·show _=_
        rw [At.app_assoc];exact HA.out
       ·show _=_
        rw [At.app_cnt,HM.out];rfl
       ·show _=_
        rw [bI,<-Ny.out];exact mC.out
       ·show _=_
        rw [au,i5.out];simp [eC];omega
      case measure=>simp [intOf];omega
    ·have HS:Hid (∀X:List UInt8,(spW ps names done++32::X).drop 1=sx.data.toList++X):=vU oO.out (by rw [<-HM.out];omega);go_wp2_with fail
     go_cut [10] (fun vx wc=>∃y:ByteArray,vx=.string y/\y.data.toList=wL ps names t/\y.size<=2000000/\Below w.heap.size w wc/\wc.heap[w.heap.size]?=some (.cells #[.string nm,.slice po ps.length pcap,bv] 183 (0,0)))
     case first=>
      go_region_with (go_at_call 149;go_must (refine (show Calls _ _ _ _ _ from HC.out).mono ?_);rintro e w1 ⟨y,rfl,hy,mj,bB⟩)
      all_goals
       go_wp2_with fail
       go_meet
       case rel=>exact ⟨y,rfl,hy,aJ mj (by decide),hb.trans ((aR (ai _ _)).trans (bB.mono (by simp [heap_drew];omega))),(bB.block _ (by rw [cD];exact fG)).trans ef⟩
     case rest=>
      obtain ⟨y,hx,hy,mj,jq,mX⟩:=hcut;rw [hx];clear hx;have HY:Hid _:=ET.out _ HS.out y hy;clear hy;go_wp2_with fail
      go_roundw
      case rel=>
       refine ⟨done.app (.sim t .nil),r2,m+1,_,pre++eC (aX ps names t).1 (aX ps names t).2 (.slice none 0 0),r',?_,by go_num,?_,rfl,HY,?_,?_,ki,jq,mX⟩
       ·show _=_
        rw [At.app_assoc];exact HA.out
       ·show _=_
        rw [At.app_cnt,HM.out];rfl
       ·show _=_
        rw [bI,<-Ny.out];exact mC.out
       ·show _=_
        rw [au,i5.out];simp [eC];omega
      case measure=>simp [intOf];omega
   |par o x c ag r2=>
    rcases rE with ⟨rfl,r',rB,ki⟩|⟨sf,pv,zs,r',rB,So,Gz,AE,ki⟩
    ·have x0:=cJ 0 _ (by rw [rB];rfl);have x1:=cJ 1 _ (by rw [rB];rfl);have x2:=cJ 2 _ (by rw [rB];rfl);simp only [cy] at x0;have k5:=eZ ps names x;have k5':((aX ps names x).1==5)=false:=by simpa using k5
     have Uu:x∈h::a.toks:=by rw [<-SY.out];simp [At.toks]
     have hw:=Eb.out x Uu;have HC:Hid _:=Tu x nm ps names ds (.slice po ps.length pcap) bv (.slice ao ds.length acap) ys T wr.drew oD EG HNM.out hw (uB.out x Uu Aj.2.1) (World.ownsRow.drew jD) (World.ownsRow.drew oJ) mo.drew;have fR:(m:Int)<(a.cnt:Int)+1:=by simp [At.cnt] at ij;omega
     have Ny:Hid _:=rB;clear cJ rB k5;have Kg:∀sy:ByteArray,(∀X:List UInt8,(spW ps names done++32::X).drop 1=sy.data.toList++X)->∀y:ByteArray,y.data.toList=wL ps names x->(sy++y).data.toList=(spW ps names (done.app (.par o x c .nil .nil))).drop 1:=by
      intro sy hy y Ug;rw [cK,Ug,zK,spW,hy];simp [spW]
     have ET:Hid _:=Kg;clear Kg;by_cases lX:(0:Int)<(m:Int)
     ·have HS:Hid (∀X:List UInt8,(spW ps names done++32::X).drop 1=(sx++⟨#[32]⟩).data.toList++X):=zI oO.out (by rw [<-HM.out];omega);go_wp2_with fail
      go_cut [10] (fun vx wc=>∃y:ByteArray,vx=.string y/\y.data.toList=wL ps names x/\y.size<=2000000/\Below w.heap.size w wc/\wc.heap[w.heap.size]?=some (.cells #[.string nm,.slice po ps.length pcap,bv] 183 (0,0)))
      case first=>
       go_region_with (go_at_call 149;go_must (refine (show Calls _ _ _ _ _ from HC.out).mono ?_);rintro e w1 ⟨y,rfl,hy,mj,bB⟩)
       all_goals
        go_wp2_with fail
        go_meet
        case rel=>exact ⟨y,rfl,hy,aJ mj (by decide),hb.trans ((aR (ai _ _)).trans (bB.mono (by simp [heap_drew];omega))),(bB.block _ (by rw [cD];exact fG)).trans ef⟩
      case rest=>
       obtain ⟨y,hx,hy,mj,jq,mX⟩:=hcut;rw [hx];clear hx;have HY:Hid _:=ET.out _ HS.out y hy;clear hy;have UB:(sx++⟨#[32]⟩:ByteArray).size<=2000001:=by rw [bw];simp only [ByteArray.size];simp;omega
       go_wp2_with fail
       go_roundw
       case rel=>
        refine ⟨done.app (.par o x c .nil .nil),r2,m+1,_,pre++eC (aX ps names x).1 (aX ps names x).2 (.slice none 0 0),r',?_,by go_num,?_,rfl,HY,?_,?_,ki,jq,mX⟩
        ·show _=_
         rw [At.app_assoc];exact HA.out
        ·show _=_
         rw [At.app_cnt,HM.out];rfl
        ·show _=_
         rw [bI,<-Ny.out];exact mC.out
        ·show _=_
         rw [au,i5.out];simp [eC];omega
       case measure=>simp [intOf];omega
     ·have HS:Hid (∀X:List UInt8,(spW ps names done++32::X).drop 1=sx.data.toList++X):=vU oO.out (by rw [<-HM.out];omega);go_wp2_with fail
      go_cut [10] (fun vx wc=>∃y:ByteArray,vx=.string y/\y.data.toList=wL ps names x/\y.size<=2000000/\Below w.heap.size w wc/\wc.heap[w.heap.size]?=some (.cells #[.string nm,.slice po ps.length pcap,bv] 183 (0,0)))
      case first=>
       go_region_with (go_at_call 149;go_must (refine (show Calls _ _ _ _ _ from HC.out).mono ?_);rintro e w1 ⟨y,rfl,hy,mj,bB⟩)
       all_goals
        go_wp2_with fail
        go_meet
        case rel=>exact ⟨y,rfl,hy,aJ mj (by decide),hb.trans ((aR (ai _ _)).trans (bB.mono (by simp [heap_drew];omega))),(bB.block _ (by rw [cD];exact fG)).trans ef⟩
      case rest=>
       obtain ⟨y,hx,hy,mj,jq,mX⟩:=hcut;rw [hx];clear hx;have HY:Hid _:=ET.out _ HS.out y hy;clear hy;go_wp2_with fail
       go_roundw
       case rel=>
        refine ⟨done.app (.par o x c .nil .nil),r2,m+1,_,pre++eC (aX ps names x).1 (aX ps names x).2 (.slice none 0 0),r',?_,by go_num,?_,rfl,HY,?_,?_,ki,jq,mX⟩
        ·show _=_
         rw [At.app_assoc];exact HA.out
        ·show _=_
         rw [At.app_cnt,HM.out];rfl
        ·show _=_
         rw [bI,<-Ny.out];exact mC.out
        ·show _=_
         rw [au,i5.out];simp [eC];omega
       case measure=>simp [intOf];omega
    ·have x0:=cJ 0 _ (by rw [rB];rfl);have x1:=cJ 1 _ (by rw [rB];rfl);have x2:=cJ 2 _ (by rw [rB];rfl);simp only [cy] at x0;have Wl:ag.toks.length<n:=by have h3:=congrArg List.length SY.out;simp [At.toks] at h3;omega
     have rz:∀t∈x::ag.toks,t∈h::a.toks:=by
      intro t ht;rw [<-SY.out];rcases aK.1 ht with rfl|ht<;>simp [At.toks, *]
     have HC:Hid _:=vI.out x ag (eC (aX ps names x).1 (aX ps names x).2 (.slice none 0 0)++zs) pv wr.drew (by rw [cD];exact Hn) Wl (by omega) (fun t ht=>Eb.out t (rz t ht)) Aj.2.1 Aj.2.2.2.1 (fun t ht=>uB.out t (rz t ht)) (World.ownsRow.drew jD) (World.ownsRow.drew oJ) mo.drew (World.ownsRow.drew (cM So hb Gz)) (ER.drew (ER.later hb (show ER w (fun k=>k<w.heap.size) ps names (.sim x ag) _ from ⟨zs,rfl,AE⟩)));have Jp:Hid ((wL ps names x++spW ps names ag).length<=2000000):=by
      show _<=_
      have h1:=By ps names (Eb.out x (rz x (by simp)));have h2:=zJ ps names ag (fun t ht=>Eb.out t (rz t (by simp [ht])));rw [au];omega
     have fR:(m:Int)<(a.cnt:Int)+1:=by simp [At.cnt] at ij;omega
     have Ny:Hid _:=rB;clear cJ rB rz;have Kg:∀sy:ByteArray,(∀X:List UInt8,(spW ps names done++32::X).drop 1=sy.data.toList++X)->∀y:ByteArray,y.data.toList=wL ps names x++spW ps names ag->(sy++⟨#[40]⟩++y++⟨#[41]⟩).data.toList=(spW ps names (done.app (.par o x c ag .nil))).drop 1:=by
      intro sy hy y Ug;rw [cK,cK,cK,Ug,zK,qs sf,hy];simp [spW]
     have ET:Hid _:=Kg;clear Kg;by_cases lX:(0:Int)<(m:Int)
     ·have HS:Hid (∀X:List UInt8,(spW ps names done++32::X).drop 1=(sx++⟨#[32]⟩).data.toList++X):=zI oO.out (by rw [<-HM.out];omega);go_wp2_with fail
      go_cut [9] (fun vx wc=>∃y:ByteArray,vx=.string y/\y.data.toList=wL ps names x++spW ps names ag/\y.size<=2000000/\Below w.heap.size w wc/\wc.heap[w.heap.size]?=some (.cells #[.string nm,.slice po ps.length pcap,bv] 183 (0,0)))
      case first=>
       go_region_with (go_at_call 112;go_must (refine (show Calls _ _ _ _ _ from HC.out).mono ?_);rintro e w1 ⟨y,rfl,hy,bB⟩)
       all_goals
        go_wp2_with fail
        go_meet
        case rel=>exact ⟨y,rfl,hy,by rw [cg,hy];exact Jp.out,hb.trans ((aR (ai _ _)).trans (bB.mono (by simp [heap_drew];omega))),(bB.block _ (by rw [cD];exact fG)).trans ef⟩
      case rest=>
       obtain ⟨y,hx,hy,mj,jq,mX⟩:=hcut;rw [hx];clear hx;have HY:Hid _:=ET.out _ HS.out y hy;clear hy;have UB:(sx++⟨#[32]⟩:ByteArray).size<=2000001:=by rw [bw];simp only [ByteArray.size];simp;omega
       go_wp2_with fail
       go_roundw
       case rel=>
        refine ⟨done.app (.par o x c ag .nil),r2,m+1,_,pre++eC 5 0 pv,r',?_,by go_num,?_,rfl,HY,?_,?_,ki,jq,mX⟩
        ·show _=_
         rw [At.app_assoc];exact HA.out
        ·show _=_
         rw [At.app_cnt,HM.out];rfl
        ·show _=_
         rw [bI,<-Ny.out];exact mC.out
        ·show _=_
         rw [au,i5.out];simp [eC];omega
       case measure=>simp [intOf];omega
     ·have HS:Hid (∀X:List UInt8,(spW ps names done++32::X).drop 1=sx.data.toList++X):=vU oO.out (by rw [<-HM.out];omega);go_wp2_with fail
      go_cut [9] (fun vx wc=>∃y:ByteArray,vx=.string y/\y.data.toList=wL ps names x++spW ps names ag/\y.size<=2000000/\Below w.heap.size w wc/\wc.heap[w.heap.size]?=some (.cells #[.string nm,.slice po ps.length pcap,bv] 183 (0,0)))
      case first=>
       go_region_with (go_at_call 112;go_must (refine (show Calls _ _ _ _ _ from HC.out).mono ?_);rintro e w1 ⟨y,rfl,hy,bB⟩)
       all_goals
        go_wp2_with fail
        go_meet
        case rel=>exact ⟨y,rfl,hy,by rw [cg,hy];exact Jp.out,hb.trans ((aR (ai _ _)).trans (bB.mono (by simp [heap_drew];omega))),(bB.block _ (by rw [cD];exact fG)).trans ef⟩
      case rest=>
       obtain ⟨y,hx,hy,mj,jq,mX⟩:=hcut;rw [hx];clear hx;have HY:Hid _:=ET.out _ HS.out y hy;clear hy;go_wp2_with fail
       go_roundw
       case rel=>
        refine ⟨done.app (.par o x c ag .nil),r2,m+1,_,pre++eC 5 0 pv,r',?_,by go_num,?_,rfl,HY,?_,?_,ki,jq,mX⟩
        ·show _=_
         rw [At.app_assoc];exact HA.out
        ·show _=_
         rw [At.app_cnt,HM.out];rfl
        ·show _=_
         rw [bI,<-Ny.out];exact mC.out
        ·show _=_
         rw [au,i5.out];simp [eC];omega
       case measure=>simp [intOf];omega
end Go.Proofs.YtnndoagpbcacdabGreatDoor
