import Derived.Test.YtnndoagpbcacdabGreatDoorMR5
import Derived.Test.YtnndoagpbcacdabGreatDoorMW5
import Derived.Test.YtnndoagpbcacdabGreatDoorMA9
import Derived.Deep.DeepCutAuto
import Derived.Test.YtnndoagpbcacdabGreatDoorMS1
namespace Go.Proofs.YtnndoagpbcacdabGreatDoor
set_option maxHeartbeats 8000000
open Go.RowKit
theorem gP (v:Value) (ts:List Tk) (m:Nat) (n:ByteArray) (w:World) (hl:ts.length<=1000000) (hm:m<=ts.length) (hv:w.ownsRow 0 212 2 v ts.length (rcs ts)):
 Calls Tryz.prog 147 #[v,.int .i64 m,.string n] w fun e w'=>e=.returned (.int .i64 (whr (ts.take m) n))/\w'=w:=by
 obtain ⟨ao,cap,rfl⟩:=aU hv;go_enter Tryz.func147,Tryz.ntmps147
 go_wp2_with fail
 go_loop [7] (fun a=>∃(k:Nat),k<=m/\a=.int .i64 k/\Hid (∀j (h:j<ts.length),j<k->(ts[j].txt.toList==n.toList)=false)) (fun a=>m-(intOf a).toNat)
 case atStart=>exact ⟨0,aF _,rfl,fun j _ h=>by omega⟩
 case round=>
  obtain ⟨k,hk,rfl,HH⟩:=hrel;by_cases bF:k<m
  ·have cV:k<ts.length:=by omega
   obtain ⟨q,cap',hq,_,dX⟩:=hv.form (by omega);cases hq
   have ⟨t0,t1⟩:=pe ts k cV;have d0:=aH hv _ _ t0;clear t0 t1;cases he:(ts[k].txt.toList==n.toList)
   ·have EU:Hid (∀j (h:j<ts.length),j<k+1->(ts[j].txt.toList==n.toList)=false):=by
     intro j h hj;by_cases hjk:j=k
     ·subst hjk;exact he
     ·exact HH.out j h (by omega)
    clear HH;go_wp2_with fail
    go_round
    case rel=>exact ⟨k+1,by omega,by go_num,EU⟩
    case measure=>simp [intOf];omega
   ·have HE:Hid (whr (ts.take m) n=(k:Int)):=by
     have:(ts.take m).findIdx? (fun t=>t.txt.toList==n.toList)=some k:=by
      rw [cY];refine ⟨by simp;omega,by rw [List.getElem_take];exact he,?_⟩
      intro j hj;rw [List.getElem_take];have:=HH.out j (by omega) hj;simp [this]
     show whr _ _=_
     unfold whr;rw [this]
    go_wp2_with fail
    go_ret
    exact ⟨ee HE.out.symm,rfl⟩
  ·have HE:Hid (whr (ts.take m) n= -1):=by
    have:(ts.take m).findIdx? (fun t=>t.txt.toList==n.toList)=none:=by
     rw [List.findIdx?_eq_none_iff];intro x hx;obtain ⟨j,hj,rfl⟩:=cl.1 hx;rw [List.getElem_take];simp only [cF] at hj;exact HH.out j (by omega) (by omega)
    show whr _ _=_
    unfold whr;rw [this]
   go_wp2_with fail
   go_ret
   exact ⟨ee HE.out.symm,rfl⟩
theorem fK.at {w:World} {T:Nat} {ts:List Tk}:∀{ds:List Df} {xs:List Value},fK w T ts ds xs->∀(i:Nat) (h:i<ds.length),∃pv a b,xs[i*5]?=some (.string (ds[i]'h).name.txt)/\xs[i*5+1]?=some (.int .i64 (ds[i]'h).name.pos)/\xs[i*5+2]?=some pv/\xs[i*5+3]?=some (.int .i64 (a:Nat))/\xs[i*5+4]?=some (.int .i64 (b:Nat))/\RDOk w T ts (ds[i]'h) pv a b
 |[],_,_,i,h=>by simp at h
 |d::ds,_,⟨pv,a,b,r,rfl,h2,h3⟩,0,_=>⟨pv,a,b,rfl,rfl,rfl,rfl,rfl,h2⟩
 |d::ds,_,⟨pv,a,b,r,rfl,h2,h3⟩,i+1,h=>by
  obtain ⟨p,a',b',e0,e1,e2,e3,e4,e5⟩:=fK.at h3 i (by simpa using h);refine ⟨p,a',b',?_,?_,?_,?_,?_,e5⟩
  ·rw [show (i+1)*5=i*5+1+1+1+1+1 by omega];exact e0
  ·rw [show (i+1)*5+1=(i*5+1)+1+1+1+1+1 by omega];exact e1
  ·rw [show (i+1)*5+2=(i*5+2)+1+1+1+1+1 by omega];exact e2
  ·rw [show (i+1)*5+3=(i*5+3)+1+1+1+1+1 by omega];exact e3
  ·rw [show (i+1)*5+4=(i*5+4)+1+1+1+1+1 by omega];exact e4
theorem Mt (v:Value) (ts:List Tk) (ds:List Df) (xs:List Value) (T:Nat) (w:World) (hl:ds.length<=1000000) (hv:w.ownsRow 0 219 5 v ds.length xs) (hd:fK w T ts ds xs) (hT:T<=w.heap.size):
 Calls Tryz.prog 146 #[v] w fun e w'=>∃fv,e=.returned fv/\Below w.heap.size w w'/\w'.ownsRow w.heap.size 212 2 fv ds.length (rcs (ds.map (·.name))):=by
 obtain ⟨i,hi,fp,dQ,eF⟩:=bE Tryz.infoRTok;obtain ⟨ao,cap,rfl⟩:=aU hv;go_enter Tryz.func146,Tryz.ntmps146
 go_wp2_with fail
 go_loopw [3,4] (fun fv a wr=>∃(k:Nat),k<=ds.length/\a=.int .i64 k/\Below w.heap.size w wr/\wr.ownsRow w.heap.size 212 2 fv k (rcs ((ds.take k).map (·.name)))) (fun _ a _=>ds.length-(intOf a).toNat)
 case atStart=>exact ⟨0,aF _,rfl,ai _ _,aM _ _ _ _⟩
 case round=>
  obtain ⟨k,hk,rfl,hb,bW⟩:=hrel;have dk:=hb.size;by_cases bF:k<ds.length
  ·obtain ⟨q,cap',hq,_,dX⟩:=hv.form (by omega);cases hq
   have et:=aQ hv hb;obtain ⟨pv,a,b,t0,t1,t2,t3,t4,ew⟩:=(hd.keep (hb.mono hT)).at k bF;have d0:=aH et _ _ t0;have d1:=aH et _ _ t1;clear t0 t1 t2 t3 t4 et ew;go_wp2_with (at_builtin;go_must (refine wpList_append_lies _ rfl _ _ _ rfl w.heap.size 212 i _ 2 24 Tryz.underlying172 hi fp dQ eF rfl (by omega) u3 k (rcs ((ds.take k).map (·.name))) rfl ?hown _ 1 _ (nT ds[k].name) rfl rfl ?dA ?h1 (by omega) ?kj ?cP ?cX _ rfl ?_))
   case hown=>exact bW.alloc _
   case dA=>first|exact fun _ _ h=>h|exact World.news_of_block (az wr _)
   case h1=>exact ny _
   case kj=>unfold maxLen;omega
   case cP=>omega
   case cX=>first|omega|(simp;omega)
   intro g cap1 w1 dR bD dt um;have QL:=(hb.alloc hb.size _).grown bD (by simp;omega) (fun q hq=>(bW.lt q hq).1);clear hi fp dQ eF d0 d1;go_wp2_with fail
   go_roundw
   case rel=>
    refine ⟨k+1,by omega,by go_num,QL,?_⟩
    rw [aT bF,cz,cW,fB,rW]
    first|exact dR|(rw [dY];exact dR)
   case measure=>simp [intOf];omega
  ·have eh:k=ds.length:=by omega
   subst eh;rw [bA] at bW;go_wp2_with fail
   go_ret
   exact ⟨_,rfl,hb,bW⟩
theorem Mn (s:ByteArray) (w:World) (hs:s.size<=6) (hd:mB s.data.toList):
 Calls Tryz.prog 198 #[.string s] w fun e w'=>e=.returned (.int .i64 (jW s.data.toList))/\w'=w:=by
 have qm:Hid (s.size=s.data.toList.length):=cg s;go_enter Tryz.func198,Tryz.ntmps198
 go_wp2_with fail
 go_loop [3,4] (fun a b=>∃k:Nat,k<=s.size/\b=.int .i64 k/\a=.int .i64 (jW (s.data.toList.take k))) (fun _ b=>s.size-(intOf b).toNat)
 case atStart=>exact ⟨0,aF _,rfl,rfl⟩
 case round=>
  obtain ⟨k,hk,rfl,rfl⟩:=hrel;by_cases bF:k<s.size
  ·have jk:k<s.data.toList.length:=by rw [<-qm.out];exact bF
   have Nh:=kO s k bF;have jB:=nY s k jk;have EH:=hd _ (aE jk);have bB:48<=bt s k:=by rw [jB];omega
   have bX:bt s k<=57:=by rw [jB];omega
   have hv:=lQ (s.data.toList.take k) (fun c hc=>hd c (cS hc));have Ph:=hv.1;have ry:jW (s.data.toList.take k)<=99999:=by
    have h1:=hv.2;have h2:(s.data.toList.take k).length<=5:=by rw [cF];omega
    have h3:(10:Int)^(s.data.toList.take k).length<=10^5:=by exact_mod_cast dW (by decide) h2
    have h4:(10:Int)^5=100000:=by decide
    omega
   have HN:Hid (jW (s.data.toList.take (k+1))=10*jW (s.data.toList.take k)+bt s k-48):=by
    show _=_
    rw [aT jk,lB,jB];omega
   clear hv jB EH;go_wp2_with fail
   go_round
   case rel=>exact ⟨k+1,bF,by go_num,by rw [HN.out]⟩
   case measure=>simp [intOf];omega
  ·have eh:k=s.size:=by omega
   have HE:Hid (s.data.toList.take k=s.data.toList):=bN (by rw [<-qm.out];omega);rw [HE.out];go_wp2_with fail
   go_ret
   exact ⟨rfl,rfl⟩
def aX (ps names:List Tk) (t:Tk):Int×Int:=
 if 0<=fM t.txt.toList then (4,fM t.txt.toList) else if 0<=whr ps t.txt then (2,whr ps t.txt) else if 0<=whr names t.txt then (3,whr names t.txt) else (1,jW t.txt.data.toList)
theorem TI (t d:Tk) (ps names:List Tk) (pv fv:Value) (fa ta:Int) (w:World) (oD:ps.length<=1000000) (yz:names.length<=1000000) (hp:w.ownsRow 0 212 2 pv ps.length (rcs ps)) (hf:w.ownsRow 0 212 2 fv names.length (rcs names))
 (gB:(aX ps names t).1=1->t.txt.size<=6/\mB t.txt.data.toList):
 Calls Tryz.prog 178 #[.agg #[.string t.txt,.int .i64 t.pos],.agg #[.string d.txt,.int .i64 d.pos,pv,.int .i64 fa,.int .i64 ta],fv] w fun e w'=>e=.returned (.agg #[.int .i64 (aX ps names t).1,.int .i64 (aX ps names t).2,.slice none 0 0])/\Below w.heap.size w w':=by
 obtain ⟨po,pcap,rfl⟩:=aU hp;obtain ⟨fo,fcap,rfl⟩:=aU hf;by_cases p0:0<=fM t.txt.toList
 ·have HK:Hid (aX ps names t=(4,fM t.txt.toList)):=by show _=_;unfold aX;rw [aA p0]
  rw [HK.out];clear gB;go_enter Tryz.func178,Tryz.ntmps178
  go_wp2_with fail
  refine (gJ _ _).mono ?_
  rintro e w1 ⟨rfl,rfl⟩
  go_wp2_with fail
  refine (gP _ ps ps.length _ _ oD (ah _) (((hp.alloc _).alloc _).alloc _)).mono ?_
  rintro e w1 ⟨rfl,rfl⟩
  rw [bA];go_wp2_with fail
  refine (gP _ names names.length _ _ yz (ah _) (((hf.alloc _).alloc _).alloc _)).mono ?_
  rintro e w1 ⟨rfl,rfl⟩
  rw [bA];go_wp2_with fail
  exact aS (v:=.agg #[.int .i64 4,.int .i64 (fM t.txt.toList),.slice none 0 0]) (by simp [results,Tryz.results178,go_sem]) rfl ⟨rfl,(((ai _ _).alloc (ah _) _).alloc (by simp) _).alloc (by simp;omega) _⟩
 ·by_cases p1:0<=whr ps t.txt
  ·have HK:Hid (aX ps names t=(2,whr ps t.txt)):=by show _=_;unfold aX;rw [ay p0,aA p1]
   rw [HK.out];clear gB;go_enter Tryz.func178,Tryz.ntmps178
   go_wp2_with fail
   refine (gJ _ _).mono ?_
   rintro e w1 ⟨rfl,rfl⟩
   go_wp2_with fail
   refine (gP _ ps ps.length _ _ oD (ah _) (((hp.alloc _).alloc _).alloc _)).mono ?_
   rintro e w1 ⟨rfl,rfl⟩
   rw [bA];go_wp2_with fail
   refine (gP _ names names.length _ _ yz (ah _) (((hf.alloc _).alloc _).alloc _)).mono ?_
   rintro e w1 ⟨rfl,rfl⟩
   rw [bA];go_wp2_with fail
   exact aS (v:=.agg #[.int .i64 2,.int .i64 (whr ps t.txt),.slice none 0 0]) (by simp [results,Tryz.results178,go_sem]) rfl ⟨rfl,(((ai _ _).alloc (ah _) _).alloc (by simp) _).alloc (by simp;omega) _⟩
  ·by_cases p2:0<=whr names t.txt
   ·have HK:Hid (aX ps names t=(3,whr names t.txt)):=by show _=_;unfold aX;rw [ay p0,ay p1,aA p2]
    rw [HK.out];clear gB;go_enter Tryz.func178,Tryz.ntmps178
    go_wp2_with fail
    refine (gJ _ _).mono ?_
    rintro e w1 ⟨rfl,rfl⟩
    go_wp2_with fail
    refine (gP _ ps ps.length _ _ oD (ah _) (((hp.alloc _).alloc _).alloc _)).mono ?_
    rintro e w1 ⟨rfl,rfl⟩
    rw [bA];go_wp2_with fail
    refine (gP _ names names.length _ _ yz (ah _) (((hf.alloc _).alloc _).alloc _)).mono ?_
    rintro e w1 ⟨rfl,rfl⟩
    rw [bA];go_wp2_with fail
    exact aS (v:=.agg #[.int .i64 3,.int .i64 (whr names t.txt),.slice none 0 0]) (by simp [results,Tryz.results178,go_sem]) rfl ⟨rfl,(((ai _ _).alloc (ah _) _).alloc (by simp) _).alloc (by simp;omega) _⟩
   ·have HK:Hid (aX ps names t=(1,jW t.txt.data.toList)):=by show _=_;unfold aX;rw [ay p0,ay p1,ay p2]
    obtain ⟨vd,KH⟩:=gB (by rw [HK.out]);rw [HK.out];go_enter Tryz.func178,Tryz.ntmps178
    go_wp2_with fail
    refine (gJ _ _).mono ?_
    rintro e w1 ⟨rfl,rfl⟩
    go_wp2_with fail
    refine (gP _ ps ps.length _ _ oD (ah _) (((hp.alloc _).alloc _).alloc _)).mono ?_
    rintro e w1 ⟨rfl,rfl⟩
    rw [bA];go_wp2_with fail
    refine (gP _ names names.length _ _ yz (ah _) (((hf.alloc _).alloc _).alloc _)).mono ?_
    rintro e w1 ⟨rfl,rfl⟩
    rw [bA];go_wp2_with fail
    refine (Mn _ _ vd KH).mono ?_
    rintro e w1 ⟨rfl,rfl⟩
    go_wp2_with fail
    exact aS (v:=.agg #[.int .i64 1,.int .i64 (jW t.txt.data.toList),.slice none 0 0]) (by simp [results,Tryz.results178,go_sem]) rfl ⟨rfl,(((ai _ _).alloc (ah _) _).alloc (by simp) _).alloc (by simp;omega) _⟩
set_option maxRecDepth 100000
def At.app:At->At->At
 | .nil,b=>b
 | .sim t r,b=>.sim t (r.app b)
 | .par o h c ag r,b=>.par o h c ag (r.app b)
def At.cnt:At->Nat
 | .nil=>0
 | .sim _ r=>r.cnt+1
 | .par _ _ _ _ r=>r.cnt+1
theorem At.app_toks (a b:At):(a.app b).toks=a.toks++b.toks:=by
 induction a with
 |nil=>rfl
 |sim t r ih=>simp [At.app,At.toks,ih]
 |par o h c ag r ih1 ih2=>simp [At.app,At.toks,ih2]
theorem At.app_cnt (a b:At):(a.app b).cnt=a.cnt+b.cnt:=by
 induction a with
 |nil=>simp [At.app,At.cnt]
 |sim t r ih=>simp [At.app,At.cnt,ih];omega
 |par o h c ag r ih1 ih2=>simp [At.app,At.cnt,ih2];omega
theorem At.app_assoc (a b c:At):(a.app b).app c=a.app (b.app c):=by
 induction a with
 |nil=>rfl
 |sim t r ih=>simp [At.app,ih]
 |par o h x ag r ih1 ih2=>simp [At.app,ih2]
theorem At.app_nil (a:At):a.app .nil=a:=by
 induction a with
 |nil=>rfl
 |sim t r ih=>simp [At.app,ih]
 |par o h x ag r ih1 ih2=>simp [At.app,ih2]
theorem At.app_ok {a b:At} (h:(a.app b).ok):a.ok/\b.ok:=by
 induction a with
 |nil=>exact ⟨trivial,h⟩
 |sim t r ih=>exact ⟨⟨h.1,(ih h.2).1⟩,(ih h.2).2⟩
 |par o x c ag r ih1 ih2=>exact ⟨⟨h.1,h.2.1,h.2.2.1,h.2.2.2.1,(ih2 h.2.2.2.2).1⟩,(ih2 h.2.2.2.2).2⟩
theorem At.cnt_le (a:At):a.cnt<=a.toks.length:=by
 induction a with
 |nil=>exact ah _
 |sim t r ih=>simp [At.cnt,At.toks];omega
 |par o h c ag r ih1 ih2=>simp [At.cnt,At.toks];omega
theorem At.cnt_pos {a:At} (h:a≠.nil):1<=a.cnt:=by
 cases a with
 |nil=>exact absurd rfl h
 |sim t r=>simp [At.cnt]
 |par o x c ag r=>simp [At.cnt]
def eC (k n:Int) (pv:Value):List Value:=[.int .i64 k,.int .i64 n,pv]
def ER (w:World) (S:Nat->Prop) (ps names:List Tk):At->List Value->Prop
 | .nil,xs=>xs=[]
 | .sim t r,xs=>∃r',xs=eC (aX ps names t).1 (aX ps names t).2 (.slice none 0 0)++r'/\ER w S ps names r r'
 | .par _ h _ ag r,xs=>
   (ag=.nil/\∃r',xs=eC (aX ps names h).1 (aX ps names h).2 (.slice none 0 0)++r'/\ER w S ps names r r')\/
   (ag≠.nil/\∃pv ys r',xs=eC 5 0 pv++r'/\w.ownsRow 0 223 3 pv (ag.cnt+1) (eC (aX ps names h).1 (aX ps names h).2 (.slice none 0 0)++ys)/\(∀k,pv.ownBlock=some k->S k)/\ER w S ps names ag ys/\ER w S ps names r r')
theorem ER.keep {w w':World} {S S':Nat->Prop} {ps names:List Tk} (hb:∀k,S k->w'.heap[k]?=w.heap[k]?) (hS:∀k,S k->S' k):∀{a:At} {xs:List Value},ER w S ps names a xs->ER w' S' ps names a xs
 | .nil,_,h=>h
 | .sim t r,_,⟨r',h1,h2⟩=>⟨r',h1,ER.keep hb hS h2⟩
 | .par o h c ag r,_,.inl ⟨h0,r',h1,h2⟩=>.inl ⟨h0,r',h1,ER.keep hb hS h2⟩
 | .par o h c ag r,_,.inr ⟨h0,pv,ys,r',h1,h2,h3,h4,h5⟩=>.inr ⟨h0,pv,ys,r',h1,by
  refine ⟨h2.1,?_⟩
  rcases h2.2 with hn|⟨g,cap,cur,rfl,hg,hh,q⟩
  ·exact .inl hn
  ·exact .inr ⟨g,cap,cur,rfl,hg,by rw [hb g (h3 g rfl)];exact hh,q⟩,fun k hk=>hS k (h3 k hk),ER.keep hb hS h4,ER.keep hb hS h5⟩
theorem ER.app {w:World} {S:Nat->Prop} {ps names:List Tk} {b:At} {ys:List Value} (hb:ER w S ps names b ys):∀{a:At} {xs:List Value},ER w S ps names a xs->ER w S ps names (a.app b) (xs++ys)
 | .nil,_,h=>by rw [show _=([]:List Value) from h];exact hb
 | .sim t r,_,⟨r',h1,h2⟩=>⟨r'++ys,by rw [h1,bI],ER.app hb h2⟩
 | .par o h c ag r,_,.inl ⟨h0,r',h1,h2⟩=>.inl ⟨h0,r'++ys,by rw [h1,bI],ER.app hb h2⟩
 | .par o h c ag r,_,.inr ⟨h0,pv,zs,r',h1,h2,h3,h4,h5⟩=>.inr ⟨h0,pv,zs,r'++ys,by rw [h1,bI],h2,h3,h4,ER.app hb h5⟩
theorem Tryz.infoExpr:(Tryz.prog.info? 223).map (fun i=>(i.zero,i.size,i.bytes))=some (some (.agg #[.int .i64 0,.int .i64 0,.slice none 0 0]),3,40):=by kernel_rfl
structure PR (w:World) (q cap:Nat) (ts:List Tk) (s:ByteArray) (pv fv:Value) (ps names:List Tk):Prop where
 trow:w.ownsRow 0 212 2 (.slice (some ⟨q,0,none⟩) (ts.length+1) cap) (ts.length+1) (rcs (ts++[km s]))
 prow:w.ownsRow 0 212 2 pv ps.length (rcs ps)
 frow:w.ownsRow 0 212 2 fv names.length (rcs names)
theorem PR.old {w w':World} {q cap:Nat} {ts:List Tk} {s:ByteArray} {pv fv:Value} {ps names:List Tk} (h:PR w q cap ts s pv fv ps names) (hb:Below w.heap.size w w'):PR w' q cap ts s pv fv ps names:=
 ⟨aQ h.trow hb,aQ h.prow hb,aQ h.frow hb⟩
theorem Ig (k n:Int) (pv:Value) (h:pv.oneCell'=true):∀u∈eC k n pv,u.oneCell'=true:=by
 intro u hu;simp only [eC,aK,ck,dV] at hu;rcases hu with rfl|rfl|rfl<;>first|rfl|exact h
theorem A4 {wr wc w2:World} {B:Nat} {ps names:List Tk} {done:At} {xs:List Value} {v:Value} {o:Obj} {g cap m H:Nat}
 (nX:ER wr (fun k=>B<=k/\k<wr.heap.size/\v.ownBlock≠some k) ps names done xs) (jq:Below wr.heap.size wr wc) (bD:(wc.alloc o).grownBy w2 v.ownBlock) (dt:v.ownBlock=some g\/g=H) (hH:(wc.alloc o).heap.size=H):
 ER w2 (fun k=>B<=k/\k<w2.heap.size/\(Value.slice (some ⟨g,0,none⟩) m cap).ownBlock≠some k) ps names done xs:=by
 have fH:=jq.size;have k9:=bD.size;simp at k9;refine ER.keep (fun k hk=>?_) (fun k hk=>?_) nX
 ·rw [bD.block k (by simp;omega) (fun e=>hk.2.2 e.symm),aO wc o k (by omega),jq.block k hk.2.1]
 ·refine ⟨hk.1,by omega,?_⟩
  simp only [Value.ownBlock,ne_eq,Option.some.injEq];intro e;subst e;rcases dt with dt|dt
  ·exact hk.2.2 dt
  ·simp at hH;omega
theorem Rp {wr wc w2:World} {B:Nat} {ps names:List Tk} {done:At} {xs:List Value} {v:Value} {o:Obj} {g cap m H:Nat} {t:Tk}
 (nX:ER wr (fun k=>B<=k/\k<wr.heap.size/\v.ownBlock≠some k) ps names done xs) (jq:Below wr.heap.size wr wc) (bD:(wc.alloc o).grownBy w2 v.ownBlock) (dt:v.ownBlock=some g\/g=H) (hH:(wc.alloc o).heap.size=H):
 ER w2 (fun k=>B<=k/\k<w2.heap.size/\(Value.slice (some ⟨g,0,none⟩) (m+1) cap).ownBlock≠some k) ps names (done.app (.sim t .nil)) (xs++eC (aX ps names t).1 (aX ps names t).2 (.slice none 0 0)):=
 ER.app (b:=.sim t .nil) ⟨[],by simp,rfl⟩ (A4 nX jq bD dt hH)
theorem TC (s:ByteArray) (ts ps names:List Tk) (q cap:Nat) (po fo:Option Addr) (pcap fcap:Nat) (d:Tk) (fa ta:Int) (hl:ts.length<=1000) (oD:ps.length<=1000000) (yz:names.length<=1000000) (mO:∀t∈ts,WT t.txt) (n:Nat):
 ∀(a:At) (i:Nat) (c:Tk) (r:List Tk) (w:World),a.toks.length<=n->a.ok->(∀t∈a.toks,dZ t->(aX ps names t).1=1->t.txt.size<=6/\mB t.txt.data.toList)->ts.drop i=a.toks++c::r->(bf c.txt=7\/bf c.txt=5)->PR w q cap ts s (.slice po ps.length pcap) (.slice fo names.length fcap) ps names->
 Calls Tryz.prog 148 #[.slice (some ⟨q,0,none⟩) (ts.length+1) cap,.int .i64 i,.agg #[.string d.txt,.int .i64 d.pos,.slice po ps.length pcap,.int .i64 fa,.int .i64 ta],.slice fo names.length fcap] w
  fun e w'=>∃v xs,e=.returned (.tuple #[v,.int .i64 ((i+a.toks.length:Nat):Int)])/\Below w.heap.size w w'/\w'.ownsRow w.heap.size 223 3 v a.cnt xs/\ER w' (fun k=>w.heap.size<=k/\k<w'.heap.size/\v.ownBlock≠some k) ps names a xs:=by
 induction n with
 |zero=>
  intro a i c r w Wj ew gB tB hc jD;have ha:a=.nil:=by
   cases a with
   |nil=>rfl
   |sim t r=>simp [At.toks] at Wj
   |par o x c ag r=>simp [At.toks] at Wj
  subst ha;have kF:ts[i]?=some c:=by
   have h1:=congrArg (fun l=>l[0]?) tB;simpa [At.toks] using h1
  obtain ⟨bF,he⟩:=aP.1 kF;have hw:=mO c (by rw [<-he];exact aE bF);have ⟨z0,z1⟩:=jQ (ts++[km s]) i c (by rw [aI bF];exact kF);have x0:=aH jD.trow _ _ z0;have dX:q<w.heap.size:=(jD.trow.lt q rfl).2;have Yv:(i:Int)<(ts.length:Int)+1:=by omega
  clear z0 z1 kF he;go_enter Tryz.func148,Tryz.ntmps148
  go_wp2_with fail
  go_loop [1,10] (fun x v=>x=.int .i64 i/\v=.slice none 0 0) (fun _ _=>0)
  case atStart=>exact ⟨rfl,rfl⟩
  case round=>
   obtain ⟨rfl,rfl⟩:=hrel;rcases hc with V7|QI
   ·have n7:(c.txt.toList==[41])=true:=by rw [kv hw,V7];rfl
    clear V7;go_wp2_with fail
    go_ret2
    exact ⟨_,rfl,(ai _ _).alloc (ah _) _,[],aM _ _ _ _,rfl⟩
   ·have n7:(c.txt.toList==[41])=false:=by rw [kv hw,QI];rfl
    have n5:(c.txt.toList==[59])=true:=by rw [nr hw,QI];rfl
    clear QI;go_wp2_with fail
    go_ret2
    exact ⟨_,rfl,(ai _ _).alloc (ah _) _,[],aM _ _ _ _,rfl⟩
 |succ n ih=>
  intro a i c r w Wj ew gB tB hc jD;have vI:Hid _:=ih;have uB:Hid _:=gB;clear ih gB;go_enter Tryz.func148,Tryz.ntmps148
  go_wp2_with fail
  go_loopw [1,10] (fun x v wr=>∃(done rest:At) (J:Nat) (xs:List Value),Hid (done.app rest=a)/\Hid (J=i+done.toks.length)/\x=.int .i64 J/\Hid (ts.drop J=rest.toks++c::r)/\Below w.heap.size w wr/\wr.heap[w.heap.size]?=some (.cells #[.string d.txt,.int .i64 d.pos,.slice po ps.length pcap,.int .i64 fa,.int .i64 ta] 219 (0,0))/\wr.ownsRow (w.heap.size+1) 223 3 v done.cnt xs/\ER wr (fun k=>w.heap.size<=k/\k<wr.heap.size/\v.ownBlock≠some k) ps names done xs) (fun x _ _=>2000-(intOf x).toNat)
  case atStart=>exact ⟨.nil,a,i,[],rfl,rfl,rfl,tB,(ai _ _).alloc (ah _) _,az w _,aM _ _ _ _,rfl⟩
  case round=>
   obtain ⟨done,rest,J,xs,HA,HJ,rfl,HD,hb,ef,bW,nX⟩:=hrel;have te:=jD.old hb;have dk:=hb.size;have fG:w.heap.size<wr.heap.size:=(ae.1 ef).1;have b0:=al wr w.heap.size 0 _ _ _ ef;have b1:=al wr w.heap.size 1 _ _ _ ef;have b2:=al wr w.heap.size 2 _ _ _ ef;have b3:=al wr w.heap.size 3 _ _ _ ef;have b4:=al wr w.heap.size 4 _ _ _ ef;simp only [ax,ap,aq] at b0 b1 b2 b3 b4;have kF:∀t,(rest.toks++c::r)[0]?=some t->(ts++[km s])[J]?=some t/\J<ts.length/\t∈ts:=by
    intro t ht;rw [<-HD.out,List.getElem?_drop,cy] at ht;obtain ⟨bF,he⟩:=aP.1 ht;exact ⟨by rw [aI bF];exact ht,bF,by rw [<-he];exact aE bF⟩
   have Aj:rest.ok:=(At.app_ok (a:=done) (b:=rest) (by rw [HA.out];exact ew)).2;have Yu:(0:Int)<=(J:Int):=by omega
   have dX:q<wr.heap.size:=(te.trow.lt q rfl).2;cases rest with
   |nil=>
    obtain ⟨y0,y1,y2⟩:=kF c rfl;have hw:=mO c y2;have ⟨z0,z1⟩:=jQ _ _ _ y0;have x0:=aH te.trow _ _ z0;have Yv:(J:Int)<(ts.length:Int)+1:=by omega
    have QB:done=a:=by have:=HA.out;rw [At.app_nil] at this;exact this
    have HE:Hid (J=i+a.toks.length):=by rw [<-QB];exact HJ
    have ir:wr.ownsRow (w.heap.size+1) 223 3 u10 a.cnt xs:=by rw [<-QB];exact bW
    have rE:ER wr (fun k=>w.heap.size<=k/\k<wr.heap.size/\u10.ownBlock≠some k) ps names a xs:=by rw [<-QB];exact nX
    clear z0 z1 y0 kF QB HA HJ bW nX;rcases hc with V7|QI
    ·have n7:(c.txt.toList==[41])=true:=by rw [kv hw,V7];rfl
     clear V7;go_wp2_with fail
     go_ret2
     exact ⟨_,xs,by rw [<-HE.out];rfl,hb,bO ir (gr _),rE⟩
    ·have n7:(c.txt.toList==[41])=false:=by rw [kv hw,QI];rfl
     have n5:(c.txt.toList==[59])=true:=by rw [nr hw,QI];rfl
     clear QI;go_wp2_with fail
     go_ret2
     exact ⟨_,xs,by rw [<-HE.out];rfl,hb,bO ir (gr _),rE⟩
   |sim t r2=>
    obtain ⟨y0,y1,y2⟩:=kF t rfl;have hw:=mO t y2;have ⟨z0,z1⟩:=jQ _ _ _ y0;have x0:=aH te.trow _ _ z0;have x1:=aH te.trow _ _ z1;have nM:dZ t:=Aj.1;have n7:(t.txt.toList==[41])=false:=by rw [kv hw];unfold dZ at nM;simp;omega
    have n5:(t.txt.toList==[59])=false:=by rw [nr hw];unfold dZ at nM;simp;omega
    have n6:(t.txt.toList==[40])=false:=by rw [vP hw];unfold dZ at nM;simp;omega
    have Yv:(J:Int)<(ts.length:Int)+1:=by omega
    have hnt:=uB.out t (by rw [<-HA.out,At.app_toks];simp [At.toks]) nM;have HNT:Hid _:=hnt;clear z0 z1 y0 kF hnt;go_wp2_with fail
    go_cut [11] (fun x wc=>∃bx,x=.pointer (some ⟨bx,0,none⟩)/\wc.heap[bx]?=some (.cells #[.int .i64 (aX ps names t).1,.int .i64 (aX ps names t).2,.slice none 0 0] 223 (0,0))/\Below wr.heap.size wr wc)
    case first=>
     go_region_with (go_at_call 178;go_must (refine (TI t d ps names _ _ fa ta _ oD yz ?_ ?_ HNT.out).mono ?_);exact (by first|exact World.ownsRow.drew te.prow|exact World.ownsRow.drew (te.prow.alloc _));exact (by first|exact World.ownsRow.drew te.frow|exact World.ownsRow.drew (te.frow.alloc _));rintro e w1 ⟨rfl,bB⟩;try (have ME:=ng bB;have v0:=al w1 wr.heap.size 0 _ _ _ ME;have v1:=al w1 wr.heap.size 1 _ _ _ ME;have v2:=al w1 wr.heap.size 2 _ _ _ ME;have vf:=fun j=>aG w1 wr.heap.size j _ _ ME;simp only [ax,ap,aq] at v0 v1 v2))
     all_goals
      go_wp2_with fail
      go_meet
      case rel=>first|exact ⟨_,rfl,az w1 _,(show Below wr.heap.size wr w1 from (aR (ai wr.heap.size wr)).trans (bB.mono (ah _))).alloc bB.size _⟩|exact ⟨_,rfl,bk _ (bk _ (bk _ ME)),((((aR ((ai wr.heap.size wr).alloc (ah _) _)).trans (bB.mono (by simp [heap_drew]))).setCell (ah _) _).setCell (ah _) _).setCell (ah _) _⟩
    case rest=>
     obtain ⟨bx,hx,Zk,jq⟩:=hcut;rw [hx];clear hx;have g0:=al wc bx 0 _ _ _ Zk;have g1:=al wc bx 1 _ _ _ Zk;have g2:=al wc bx 2 _ _ _ Zk;simp only [ax,ap,aq] at g0 g1 g2;obtain ⟨ie,Kx,fp,dQ,eF⟩:=bE Tryz.infoExpr;have ir:=aQ bW jq;have KS:=jq.size;have oG:done.cnt<=1000:=by have h1:=At.cnt_le done;have:=HJ.out;omega
     go_wp2_with (at_builtin;go_must (refine wpList_append_lies _ rfl _ _ _ rfl (w.heap.size+1) 223 ie _ 3 40 Tryz.underlying181 Kx fp dQ eF rfl (by omega) u10 done.cnt xs rfl ?hown _ 1 _ (eC (aX ps names t).1 (aX ps names t).2 (.slice none 0 0)) rfl rfl ?dA ?h1 (by omega) ?kj ?cP ?cX _ rfl ?_))
     case hown=>exact ir.alloc _
     case dA=>first|exact fun _ _ h=>h|exact World.news_of_block (az wc _)
     case h1=>exact Ig _ _ _ rfl
     case kj=>unfold maxLen;omega
     case cP=>omega
     case cX=>first|omega|(simp;omega)
     intro g cap1 w2 b7 bD dt cV;have yv:=Rp (t:=t) (m:=done.cnt) (cap:=cap1) nX jq bD dt (by simp);have bX:Below w.heap.size w w2:=(hb.trans ((jq.mono dk).alloc (by omega) _)).grown bD (by simp;omega) (fun k hk=>by have:=(ir.lt k hk).1;omega);have jY:w2.heap[w.heap.size]?=_:=(bD.block w.heap.size (by simp;omega) (fun e=>by have:=(ir.lt _ e.symm).1;omega)).trans ((aO wc _ _ (by omega)).trans ((jq.block _ fG).trans ef));clear Kx fp dQ eF g0 g1 g2 b0 b1 b2 b3 b4 x0 x1;go_wp2_with fail
     go_roundw
     case rel=>
      exact ⟨done.app (.sim t .nil),r2,J+1,_,by show _=_;rw [At.app_assoc];exact HA.out,by have:=HJ.out;show _=_;rw [At.app_toks];simp [At.toks];omega,by go_num,by show _=_;rw [<-hG,HD.out];rfl,bX,jY,by rw [At.app_cnt];exact b7,yv⟩
     case measure=>simp [intOf];omega
   |par o h c2 ag r2=>
    obtain ⟨y0,y1,y2⟩:=kF o rfl;have hw:=mO o y2;have ⟨z0,z1⟩:=jQ _ _ _ y0;have x0:=aH te.trow _ _ z0;have Yv:(J:Int)<(ts.length:Int)+1:=by omega
    obtain ⟨ko,kh,kc,abj,agi⟩:=Aj;have n7:(o.txt.toList==[41])=false:=by rw [kv hw,ko];rfl
    have n5:(o.txt.toList==[59])=false:=by rw [nr hw,ko];rfl
    have n6:(o.txt.toList==[40])=true:=by rw [vP hw,ko];rfl
    have AI:ts.drop (J+1)=(At.sim h ag).toks++c2::(r2.toks++c::r):=by
     rw [<-hG,HD.out];simp [At.toks]
    have iG:(At.sim h ag).toks.length<=n:=by
     have h1:=congrArg (fun x=>(At.toks x).length) HA.out;simp only [At.app_toks,At.toks,au,aD] at h1 ⊢;omega
    have hJ2:J+1+(ag.toks.length+1)<ts.length:=by
     have h1:=congrArg List.length AI;simp [At.toks] at h1;omega
    have oG:done.cnt<=1000:=by have h1:=At.cnt_le done;have:=HJ.out;omega
    have Wl:ag.cnt<=1000:=by have h1:=At.cnt_le ag;omega
    have HC:=vI.out (.sim h ag) (J+1) c2 (r2.toks++c::r) wr iG ⟨kh,abj⟩ (fun t ht=>uB.out t (by rw [<-HA.out,At.app_toks];simp only [At.toks,be,aK] at ht ⊢;rcases ht with ht|ht<;>simp [ht])) AI (.inl kc) te;clear z0 z1 y0 kF vI AI;go_wp2_with fail
    have ec:((J+1:Nat):Int)=(J:Int)+1:=by omega
    rw [<-ec];refine (show Calls _ _ _ _ _ from HC).mono ?_
    clear HC;rintro e w1 ⟨v1,ys,rfl,bB,dR,VR⟩
    obtain ⟨ie,Kx,fp,dQ,eF⟩:=bE Tryz.infoExpr;have ir:=aQ bW bB;have KS:=bB.size;obtain ⟨vo,vcap,rfl⟩:=aU dR;have hJ3:((J+1+(At.sim h ag).toks.length:Nat):Int)<=1000:=by simp [At.toks];omega
    have hJ4:(0:Int)<=((J+1+(At.sim h ag).toks.length:Nat):Int):=by omega
    generalize hJE:J+1+(At.sim h ag).toks.length=JE at*;have YM:Hid (J+1+(ag.toks.length+1)=JE):=by rw [<-hJE];simp [Hid,At.toks]
    clear hJE ec;have HAP:Hid ((done.app (.par o h c2 ag .nil)).app r2=a):=by show _=_;rw [At.app_assoc];exact HA.out
    have HJN:Hid (JE+1=i+(done.app (.par o h c2 ag .nil)).toks.length):=by have h1:=HJ.out;have h2:=YM.out;show _=_;rw [At.app_toks];simp [At.toks];omega
    have zj:Hid (ts.drop (JE+1)=r2.toks++c::r):=by
     show _=_
     rw [<-YM.out,show J+1+(ag.toks.length+1)+1=J+(ag.toks.length+3) by omega,<-hG,HD.out];simp [At.toks]
    have mW:Below w.heap.size w w1:=hb.trans (bB.mono dk);have iT:=(bB.block w.heap.size fG).trans ef;clear HA HJ HD x0 b0 b1 b2 b3 b4 te jD;by_cases sf:ag=.nil
    ·subst sf;obtain ⟨r',mj,oB⟩:=VR;rw [show r'=[] from oB,cA] at mj;obtain ⟨qv,cv,Ya,_,_⟩:=dR.form (by simp [At.cnt]);cases Ya
     subst mj;have e0:=aH dR 0 _ rfl;have e1:=aH dR 1 _ rfl;have e2:=aH dR 2 _ rfl;have yA:((At.sim h At.nil).cnt:Int)=1:=by simp [At.cnt]
     have M4:(At.sim h At.nil).cnt=1:=rfl;rw [M4];clear yA M4;go_wp2_with (at_builtin;go_must (refine wpList_append_lies _ rfl _ _ _ rfl (w.heap.size+1) 223 ie _ 3 40 Tryz.underlying181 Kx fp dQ eF rfl (by omega) u10 done.cnt xs rfl ?UW _ 1 _ (eC (aX ps names h).1 (aX ps names h).2 (.slice none 0 0)) rfl rfl ?PP ?h1N (by omega) ?abY ?KK ?QP _ rfl ?_))
     case UW=>exact ir.alloc _
     case PP=>first|exact fun _ _ h=>h|exact World.news_of_block (az w1 _)
     case h1N=>exact Ig _ _ _ rfl
     case abY=>unfold maxLen;omega
     case KK=>omega
     case QP=>first|omega|(simp;omega)
     intro g cap1 w2 b7 bD dt cV;have yv:ER w2 (fun k=>w.heap.size<=k/\k<w2.heap.size/\(Value.slice (some ⟨g,0,none⟩) (done.cnt+1) cap1).ownBlock≠some k) ps names (done.app (.par o h c2 .nil .nil)) (xs++eC (aX ps names h).1 (aX ps names h).2 (.slice none 0 0)):=ER.app (b:=.par o h c2 .nil .nil) (.inl ⟨rfl,[],by simp,rfl⟩) (A4 nX bB bD dt (by simp));clear e0 e1 e2;have bX:Below w.heap.size w w2:=(mW.alloc (by omega) _).grown bD (by simp;omega) (fun k hk=>by have:=(ir.lt k hk).1;omega);have jY:w2.heap[w.heap.size]?=_:=(bD.block w.heap.size (by simp;omega) (fun e=>by have:=(ir.lt _ e.symm).1;omega)).trans ((aO w1 _ _ (by omega)).trans iT);clear Kx fp dQ eF;go_wp2_with fail
     go_roundw
     case rel=>exact ⟨done.app (.par o h c2 .nil .nil),r2,JE+1,_,HAP,HJN,by go_num,zj,bX,jY,by rw [At.app_cnt];exact b7,yv⟩
     case measure=>have:=YM.out;simp [intOf];omega
    ·obtain ⟨r',mj,oB⟩:=VR;have DA:1<=ag.cnt:=At.cnt_pos sf;have yA:(((At.sim h ag).cnt:Int)==1)=false:=by rw [cE];simp [At.cnt];omega
     go_wp2_with (at_builtin;go_must (refine wpList_append_lies _ rfl _ _ _ rfl (w.heap.size+1) 223 ie _ 3 40 Tryz.underlying181 Kx fp dQ eF rfl (by omega) u10 done.cnt xs rfl ?UX _ 1 _ (eC 5 0 (.slice vo (At.sim h ag).cnt vcap)) rfl rfl ?PQ ?h1M (by omega) ?abZ ?KL ?QQ _ rfl ?_))
     case UX=>exact ir.alloc _
     case PQ=>first|exact fun _ _ h=>h|exact World.news_of_block (az w1 _)
     case h1M=>exact Ig _ _ _ rfl
     case abZ=>unfold maxLen;omega
     case KL=>omega
     case QQ=>first|omega|(simp;omega)
     intro g cap1 w2 b7 bD dt cV;have yv:ER w2 (fun k=>w.heap.size<=k/\k<w2.heap.size/\(Value.slice (some ⟨g,0,none⟩) (done.cnt+1) cap1).ownBlock≠some k) ps names (done.app (.par o h c2 ag .nil)) (xs++eC 5 0 (.slice vo (At.sim h ag).cnt vcap)):=by
      refine ER.app (b:=.par o h c2 ag .nil) (.inr ⟨sf,.slice vo (At.sim h ag).cnt vcap,r',[],by simp,?_,?_,?_,rfl⟩) (A4 nX bB bD dt (by simp))
      ·have h1:=(dR.alloc (Obj.cells #[.int .i64 5,.int .i64 0,.slice vo (At.sim h ag).cnt vcap] 223)).kept bD (by
        cases hq:(Value.slice vo (At.sim h ag).cnt vcap).ownBlock with
        |none=>exact .inl rfl
        |some k=>
         right
         intro e;have:=(dR.lt k hq).1;have:=(bW.lt k e.symm).2;omega)
       rw [mj] at h1;exact bO h1 (aF _)
      ·intro k hk;have h1:=dR.lt k hk;have h2:=bD.size;simp at h2;refine ⟨by omega,by omega,?_⟩
       simp only [Value.ownBlock,ne_eq,Option.some.injEq];intro e;rcases dt with dt|dt
       ·have:=(bW.lt g dt).2;omega
       ·omega
      ·refine ER.keep (fun k hk=>?_) (fun k hk=>?_) oB
       ·rw [bD.block k (by simp;omega) (fun e=>by have:=(bW.lt k e.symm).2;omega),aO w1 _ k (by omega)]
       ·have h2:=bD.size;simp at h2;refine ⟨by omega,by omega,?_⟩
        simp only [Value.ownBlock,ne_eq,Option.some.injEq];intro e;rcases dt with dt|dt
        ·have:=(bW.lt g dt).2;omega
        ·omega
     have bX:Below w.heap.size w w2:=(mW.alloc (by omega) _).grown bD (by simp;omega) (fun k hk=>by have:=(ir.lt k hk).1;omega);have jY:w2.heap[w.heap.size]?=_:=(bD.block w.heap.size (by simp;omega) (fun e=>by have:=(ir.lt _ e.symm).1;omega)).trans ((aO w1 _ _ (by omega)).trans iT);clear Kx fp dQ eF;go_wp2_with fail
     go_roundw
     case rel=>exact ⟨done.app (.par o h c2 ag .nil),r2,JE+1,_,HAP,HJN,by go_num,zj,bX,jY,by rw [At.app_cnt];exact b7,yv⟩
     case measure=>have:=YM.out;simp [intOf];omega
theorem lS (f:Nat):∀(n:Nat) (w:World),n<=f->n<=1000000->
 Calls Tryz.prog 117 #[.int .i64 n] w fun e w'=>∃x:ByteArray,e=.returned (.string x)/\x.data.toList=iY n/\Below w.heap.size w w':=by
 induction f with
 |zero=>
  intro n w hn hm;have GM:n=0:=by omega
  subst GM;have kc:=pV;go_enter Tryz.func117,Tryz.ntmps117
  go_wp2_with fail
  go_ret
  exact ⟨_,rfl,by rw [jh 0 (by decide)];rfl,(ai _ _).alloc (ah _) _⟩
 |succ f ih=>
  intro n w hn hm;have kc:=pV;have vI:Hid _:=ih;clear ih;by_cases Ht:n<10
  ·have HD:Hid (iY n=[UInt8.ofNat (48+n)]):=jh n Ht;go_enter Tryz.func117,Tryz.ntmps117
   go_wp2_with fail
   go_ret
   refine ⟨_,rfl,?_,(ai _ _).alloc (ah _) _⟩
   rw [HD.out];show [UInt8.ofNat (48+(n:Int)%10).toNat]=_
   rw [show (48+(n:Int)%10).toNat=48+n by omega]
  ·have HD:Hid (iY n=iY (n/10)++[UInt8.ofNat (48+n%10)]):=m8 n Ht;go_enter Tryz.func117,Tryz.ntmps117
   go_wp2_with fail
   have ed:(n:Int)/10=((n/10:Nat):Int):=by omega
   rw [ed];have HC:=vI.out (n/10) (w.alloc (Obj.cells #[.int .u8 (48+(n:Int)%10)] 5)) (by omega) (by omega);refine (show Calls _ _ _ _ _ from HC).mono ?_
   clear HC vI ed;rintro e w1 ⟨x,rfl,hx,bB⟩
   have kA:x.size<=1000000:=by rw [cg,hx];have:=Lp (n/10);omega
   have bX:Below w.heap.size w w1:=((ai _ _).alloc (ah _) _).trans (bB.mono (by simp));have HX:Hid _:=hx;have Ew:(strOfNums [48+(n:Int)%10]).size=1:=rfl;clear hx bB;go_wp2_with fail
   go_ret
   refine ⟨_,rfl,?_,bX⟩
   rw [show ∀a b:ByteArray,(a++b).data.toList=a.data.toList++b.data.toList from fun a b=>by simp [ByteArray.data_append],HX.out,HD.out];show _++[UInt8.ofNat (48+(n:Int)%10).toNat]=_
   rw [show (48+(n:Int)%10).toNat=48+n%10 by omega]
theorem Lj (v:Nat) (c:UInt8) (h:48<=c.toNat/\c.toNat<=57) (hv:0<v):iY (10*v+(c.toNat-48))=iY v++[c]:=by
 rw [m8 _ (by omega),show (10*v+(c.toNat-48))/10=v by omega,show (10*v+(c.toNat-48))%10=c.toNat-48 by omega,show 48+(c.toNat-48)=c.toNat by omega];simp
theorem Le (l:List UInt8):∀acc:Nat,mB l->l.foldl (fun n c=>10*n+((c.toNat:Int)-48)) (acc:Int)=((l.foldl (fun n c=>10*n+(c.toNat-48)) acc:Nat):Int):=by
 induction l with
 |nil=>intro acc _;rfl
 |cons c r ih=>
  intro acc h;have hc:=h c (by simp);rw [dv,dv,<-ih _ (fun x hx=>h x (by simp [hx]))];congr 1
  omega
theorem Ll (l:List UInt8):∀v:Nat,mB l->0<v->iY (l.foldl (fun n c=>10*n+(c.toNat-48)) v)=iY v++l:=by
 induction l with
 |nil=>intro v _ _;simp
 |cons c r ih=>
  intro v h hv;have hc:=h c (by simp);rw [dv,ih _ (fun x hx=>h x (by simp [hx])) (by omega),Lj v c hc hv];simp
theorem Rs (l:List UInt8) (h:mB l) (h0:l≠[]):iY (jW l).toNat=jt l:=by
 have hv:jW l=((l.foldl (fun n c=>10*n+(c.toNat-48)) 0:Nat):Int):=Le l 0 h;rw [hv,bC];clear hv;induction l with
 |nil=>exact absurd rfl h0
 |cons c r ih=>
  have hc:=h c (by simp);have hr:mB r:=fun x hx=>h x (by simp [hx])
  rw [dv];cases r with
  |nil=>
   simp only [List.foldl_nil,jt];rw [jh _ (by omega),show 48+(10*0+(c.toNat-48))=c.toNat by omega];simp
  |cons d r=>
   rw [jt];by_cases K5:c=48
   ·rw [aA K5];have:10*0+(c.toNat-48)=0:=by rw [K5];rfl
    rw [this];exact ih hr (by simp)
   ·rw [ay K5];have qF:0<10*0+(c.toNat-48):=by
     have:c.toNat≠48:=fun e=>K5 (dF.1 (by rw [e];rfl))
     omega
    rw [Ll _ _ hr qF,jh _ (by omega),show 48+(10*0+(c.toNat-48))=c.toNat by omega];simp
end Go.Proofs.YtnndoagpbcacdabGreatDoor
