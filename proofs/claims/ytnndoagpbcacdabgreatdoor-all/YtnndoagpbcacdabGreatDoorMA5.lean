import Derived.Test.YtnndoagpbcacdabGreatDoorMAl
namespace Go.Proofs.YtnndoagpbcacdabGreatDoor
set_option maxHeartbeats 8000000
open Go.RowKit
theorem uE.grown {w w':World} {b:Nat} {g:Gr} {av:Value} {B n size:Nat} {xs:List Value} {o:Obj} (h:uE w b g av) (hr:w.ownsRow B 3 size av n xs) (hg:(w.alloc o).drew.grownBy w' av.ownBlock):uE w' b g av:=by
 have bF:b<w.heap.size:=(ae.1 h).1;have dI:some b≠av.ownBlock:=by
  intro e;rcases hr.2 with ⟨rfl,_⟩|⟨q,cap,cur,rfl,_,hq,_⟩
  ·simp [Value.ownBlock] at e
  ·simp [Value.ownBlock] at e;subst e;unfold uE at h;rw [hq] at h;simp at h
 have:=hg.block b (by simp;omega) dI;unfold uE;rw [this];exact (aO w o b bF).trans h
theorem Oth.grown {w0 w w':World} {av:Value} {B n size:Nat} {xs:List Value} {o:Obj} (h:Oth w0 w) (hr:w.ownsRow B 3 size av n xs) (hg:(w.alloc o).drew.grownBy w' av.ownBlock):Oth w0 w':=by
 intro k cs t fr h1 h2 h3;have h4:=h k cs t fr h1 h2 h3;have bF:k<w.heap.size:=(ae.1 h4).1;have dI:some k≠av.ownBlock:=by
  intro e;rcases hr.2 with ⟨rfl,_⟩|⟨q,cap,cur,rfl,_,hq,_⟩
  ·simp [Value.ownBlock] at e
  ·simp [Value.ownBlock] at e;subst e;rw [hq] at h4;simp at h4;exact h2 h4.2.1.symm
 rw [hg.block k (by simp;omega) dI];exact (aO w o k bF).trans h4
theorem Tryz.infoInt:(Tryz.prog.info? 3).map (fun i=>(i.zero,i.size,i.bytes))=some (some (.int .i64 0),1,8):=by kernel_rfl
theorem GRep.push {B:Nat} {w0 w2:World} {b:Nat} {aw fn pa no wi:Int} {ar:List Int} {av nv:Value} (nN:uE w2 b ⟨aw,fn,pa,no,wi,ar⟩ av) (jN:B<=b) (hown:w2.ownsRow B 3 1 nv (ar.length+1) (jp ar++[.int .i64 wi])) (bel:Below B w0 w2) (oth:Oth w0 w2):
 GRep B w0 ((w2.setCell ⟨b,5,none⟩ nv).setCell ⟨b,0,none⟩ (.int .i64 2)) b ⟨2,fn,pa,no,wi,ar++[wi]⟩ nv:=by
 refine ⟨bk _ (bk _ nN),jN,?_,(bel.setCell jN _).setCell jN _,(oth.set _ nN).set _ (bk _ nN)⟩
 have:=aB (i:=0) (u:=.int .i64 2) (aB (i:=5) (u:=nv) hown nN (by decide)) (bk _ nN) (by decide);simpa [jp] using this
theorem Tn (B b:Nat) (g:Gr) (av:Value) (w0 w:World) (h:GRep B w0 w b g av) (ok:g.ok) (hn:g.ar.length<=1000000):
 Calls Tryz.prog 166 #[.pointer (some ⟨b,0,none⟩)] w fun e w'=>e=.returned (.int .i64 (iw g).1)/\∃av',GRep B w0 w' b (iw g).2 av':=by
 obtain ⟨i,hi,fp,dQ,eF⟩:=bE Tryz.infoInt;have oJ:(cG g).2.ar=g.ar:=by unfold cG;split<;>(try split)<;>(try split)<;>rfl
 by_cases he:(cG g).1=0
 ·rw [show iw g=(0,{(cG g).2 with ar:=(cG g).2.ar++[(cG g).2.wi],aw:=2}) by simp [iw,he]];have ez:(cG g).2.ar.length<=1000000:=by rw [oJ];exact hn
  clear oJ hn;generalize hq:(cG g).2=q2 at*;have HQ:Hid ((cG g).2=q2):=hq;clear hq;obtain ⟨aw,fn,pa,no,wi,ar⟩:=q2;simp only at*;go_enter Tryz.func166,Tryz.ntmps166
  go_wp2_with (go_at_call 167;refine (qw B b g av w0 _ h ok).mono ?_;rintro e w1 ⟨rfl,av1,hg⟩)
  rw [HQ.out] at hg;clear HQ ok h;have c4:=hg.blk.c4;have c5:=hg.blk.c5;have f5:=hg.blk.fz 5;have f0:=hg.blk.fz 0;have c0:=hg.blk.c0;have bW:=hg.row;have iG:=hg.bel.size;have iB:=hg.lt;have jN:=hg.lo;simp only at*
  go_region_law ((refine step_append_lies _ (by rfl) _ _ _ (by rfl) B 3 i _ 1 8 Tryz.underlying22 hi fp dQ eF rfl (by omega) av1 ar.length (jp ar) (by rfl) (by exact bW.alloc _) _ 1 _ [.int .i64 wi] (by rfl) rfl (by exact World.news_of_block (az w1 _)) (by simp [Value.oneCell']) (by omega) (by unfold maxLen;omega) (by omega) (by simp;omega) _ rfl ?_;intro q cap w2 b7 bD dt cV;have nN:=hg.blk.grown bW bD;have c5':=nN.c5;have f5':=nN.fz 5;have f0':=nN.fz 0;have c0':=nN.c0;have bel2:=(aR (hg.bel.alloc (o:=Obj.cells #[.int .i64 wi] 3) (by omega))).grown bD (by simp;omega) (fun k hk=>(bW.lt k hk).1);have oth2:=hg.oth.grown bW bD))
  all_goals go_wp2
  all_goals go_ret
  all_goals exact ⟨rfl,_,GRep.push nN jN b7 bel2 oth2⟩
 ·rw [show iw g=cG g by simp [iw,he]];have kW:((cG g).1==0)=false:=by simpa using he
  clear he oJ;generalize hq:cG g=q at*;have HQ:Hid (cG g=q):=hq;clear hq;obtain ⟨q1,q2⟩:=q;simp only at*;go_enter Tryz.func166,Tryz.ntmps166
  go_wp2_with fail
  refine (qw B b g av w0 _ h ok).mono ?_
  rintro e w1 ⟨Ji,av1,hg⟩
  rw [HQ.out] at Ji hg;subst Ji;clear HQ h ok;have dI:(q1==0)=false:=kW;clear kW hi fp dQ eF
  dsimp only
  go_wp2
  go_ret
  exact ⟨rfl,_,hg⟩
theorem yT {g:Gr} (h:g.ok):(cG g).2.ok:=by
 obtain ⟨h1,h2,h3,h4,h5⟩:=h;unfold cG;split
 ·exact ⟨h1,h2,h3,h4,h5⟩
 ·split
  ·exact ⟨h1,h2,h3,by show 0<=g.wi+1;omega,h5⟩
  ·split
   ·exact ⟨h1,h2,h3,by show 0<=g.wi+1;omega,h5⟩
   ·exact ⟨h1,h2,by show 0<=g.no+1;omega,by show 0<=g.wi+1;omega,h5⟩
theorem m7 (g:Gr):(cG g).2.ar=g.ar:=by
 unfold cG;split<;>(try split)<;>(try split)<;>rfl
theorem Hy {g:Gr} (h:g.ok):(iw g).2.ok:=by
 have hc:=yT h;unfold iw;split
 ·obtain ⟨h1,h2,h3,h4,h5⟩:=hc;refine ⟨h1,h2,h3,h4,?_⟩
  intro x hx;simp only [be,aK,ck,dV] at hx;rcases hx with hx|hx
  ·exact h5 x hx
  ·rw [hx];exact h4
 ·exact hc
theorem yS {g:Gr} (h:g.ok):(eG g).2.ok:=by
 obtain ⟨h1,h2,h3,h4,h5⟩:=h;unfold eG;split
 ·exact ⟨h1,h2,h3,h4,h5⟩
 ·refine ⟨h1,h2,h3,?_,fun x hx=>h5 x (List.dropLast_subset _ hx)⟩
  show 0<=g.ar.getLast?.getD 0
  cases hl:g.ar.getLast? with
  |none=>simp
  |some y=>exact h5 y (List.mem_of_getLast? hl)
theorem Lb {g:Gr} (h:g.ok) (k:Int):(cZ g k).2.ok:=by
 have h':=h;obtain ⟨h1,h2,h3,h4,h5⟩:=h;unfold cZ;split
 ·unfold dN;split
  ·exact h'
  ·split
   ·exact h'
   ·exact ⟨by show 0<=g.fn+1;omega,by show (0:Int)<=0;omega,h3,h4,h5⟩
 ·split
  ·unfold da;split
   ·exact ⟨h1,h2,by show (0:Int)<=0;omega,h4,h5⟩
   ·split
    ·exact h'
    ·split
     ·exact h'
     ·exact ⟨h1,by show 0<=g.pa+1;omega,h3,h4,h5⟩
  ·split
   ·unfold mw;split
    ·exact ⟨h1,h2,h3,by show (0:Int)<=1;omega,h5⟩
    ·exact h'
   ·unfold gq;split
    ·unfold iR;split
     ·exact ⟨h1,h2,h3,h4,h5⟩
     ·exact h'
    ·split
     ·exact yS h'
     ·split
      ·exact Hy h'
      ·split
       ·exact yT h'
       ·exact h'
theorem yR (g:Gr) (k:Int):(cZ g k).2.ar.length<=g.ar.length+1:=by
 unfold cZ;split
 ·unfold dN;split<;>(try split)<;>simp
 ·split
  ·unfold da;split<;>(try split)<;>(try split)<;>simp
  ·split
   ·unfold mw;split<;>simp
   ·unfold gq;split
    ·unfold iR;split<;>simp
    ·split
     ·unfold eG;split<;>simp
      omega
     ·split
      ·unfold iw;split
       ·simp [m7]
       ·rw [m7];omega
      ·split
       ·rw [m7];omega
       ·simp
theorem Fp (B b:Nat) (g:Gr) (av:Value) (k:Int) (w0 w:World) (h:GRep B w0 w b g av) (ok:g.ok) (hn:g.ar.length<=1000000):
 Calls Tryz.prog 128 #[.pointer (some ⟨b,0,none⟩),.int .i64 k] w fun e w'=>e=.returned (.int .i64 (gq g k).1)/\∃av',GRep B w0 w' b (gq g k).2 av':=by
 by_cases h5:k=5
 ·subst h5;rw [show gq g 5=iR g by simp [gq]];go_enter Tryz.func128,Tryz.ntmps128
  go_wp2_with fail
  refine (N4 B b g av w0 _ h).mono ?_
  rintro e w1 ⟨rfl,av1,hg⟩
  go_wp2
  go_ret
  exact ⟨rfl,_,hg⟩
 ·have yP:(k==5)=false:=by simpa using h5
  by_cases h7:k=7
  ·subst h7;clear h5 yP;rw [show gq g 7=eG g by simp [gq]];go_enter Tryz.func128,Tryz.ntmps128
   go_wp2_with fail
   refine (Fw B b g av w0 _ h hn).mono ?_
   rintro e w1 ⟨rfl,av1,hg⟩
   go_wp2
   go_ret
   exact ⟨rfl,_,hg⟩
  ·have h7':(k==7)=false:=by simpa using h7
   by_cases h6:k=6
   ·subst h6;clear h5 yP h7 h7';rw [show gq g 6=iw g by simp [gq]];go_enter Tryz.func128,Tryz.ntmps128
    go_wp2_with fail
    refine (Tn B b g av w0 _ h ok hn).mono ?_
    rintro e w1 ⟨rfl,av1,hg⟩
    go_wp2
    go_ret
    exact ⟨rfl,_,hg⟩
   ·have Rg:(k==6)=false:=by simpa using h6
    cases hs:fP k
    ·rw [show gq g k=(2,g) by simp [gq,h5,h6,h7,hs]];clear h5 h6 h7;go_enter Tryz.func128,Tryz.ntmps128
     go_wp2_with fail
     refine (pb _ _).mono ?_
     rintro e w1 ⟨rfl,rfl⟩
     go_wp2
     go_ret
     exact ⟨rfl,_,h⟩
    ·rw [show gq g k=cG g by simp [gq,h5,h6,h7,hs]];clear h5 h6 h7;go_enter Tryz.func128,Tryz.ntmps128
     go_wp2_with fail
     refine (pb _ _).mono ?_
     rintro e w1 ⟨rfl,rfl⟩
     go_wp2_with fail
     refine (qw B b g av w0 _ h ok).mono ?_
     rintro e w1 ⟨rfl,av1,hg⟩
     go_wp2
     go_ret
     exact ⟨rfl,_,hg⟩
theorem Tl (B b:Nat) (g:Gr) (av:Value) (k:Int) (w0 w:World) (h:GRep B w0 w b g av) (ok:g.ok) (hn:g.ar.length<=1000000):
 Calls Tryz.prog 80 #[.pointer (some ⟨b,0,none⟩),.int .i64 k] w fun e w'=>e=.returned (.int .i64 (cZ g k).1)/\∃av',GRep B w0 w' b (cZ g k).2 av':=by
 have c0:=h.blk.c0;by_cases h0:g.aw=0
 ·rw [show cZ g k=dN g k by simp [cZ,h0]];go_enter Tryz.func80,Tryz.ntmps80
  go_wp2_with fail
  refine (vW B b g av k w0 _ h ok.fn).mono ?_
  rintro e w1 ⟨rfl,av1,hg⟩
  go_wp2
  go_ret
  exact ⟨rfl,_,hg⟩
 ·have vq:(g.aw==0)=false:=by simpa using h0
  by_cases h1:g.aw=1
  ·rw [show cZ g k=da g k by simp [cZ,h1]];clear h0 vq;go_enter Tryz.func80,Tryz.ntmps80
   go_wp2_with fail
   refine (uh B b g av k w0 _ h ok.pa).mono ?_
   rintro e w1 ⟨rfl,av1,hg⟩
   go_wp2
   go_ret
   exact ⟨rfl,_,hg⟩
  ·have nO:(g.aw==1)=false:=by simpa using h1
   by_cases h2:g.aw=2
   ·rw [show cZ g k=mw g k by simp [cZ,h2]];clear h0 vq h1 nO;go_enter Tryz.func80,Tryz.ntmps80
    go_wp2_with fail
    refine (Fq B b g av k w0 _ h).mono ?_
    rintro e w1 ⟨rfl,av1,hg⟩
    go_wp2
    go_ret
    exact ⟨rfl,_,hg⟩
   ·have zr:(g.aw==2)=false:=by simpa using h2
    rw [show cZ g k=gq g k by simp [cZ,h0,h1,h2]];clear h0 h1 h2;go_enter Tryz.func80,Tryz.ntmps80
    go_wp2_with fail
    refine (Fp B b g av k w0 _ h ok hn).mono ?_
    rintro e w1 ⟨rfl,av1,hg⟩
    go_wp2
    go_ret
    exact ⟨rfl,_,hg⟩
def jT (n:Nat):Gr->List Tk->Int×Int
 |g,[]=>if g.fn=0\/g.aw≠0 then (n,2) else (0,0)
 |g,t::r=>if (cZ g (bf t.txt)).1=0 then jT n (cZ g (bf t.txt)).2 r else (t.pos,(cZ g (bf t.txt)).1)
def g0:Gr:=⟨0,0,0,0,0,[]⟩
theorem cM {w w':World} {base B:Nat} {e:TypeId} {size n:Nat} {v:Value} {xs:List Value} (h:w.ownsRow base e size v n xs) (hb:Below B w w') (hB:∀k,v.ownBlock=some k->k<B):w'.ownsRow base e size v n xs:=by
 refine ⟨h.1,?_⟩
 rcases h.2 with hn|⟨g,cap,cur,rfl,hg,hh,r⟩
 ·exact .inl hn
 ·refine .inr ⟨g,cap,cur,rfl,hg,?_,r⟩
  rw [hb.block g (hB g rfl)];exact hh
theorem bO {w:World} {base base':Nat} {e:TypeId} {size n:Nat} {v:Value} {xs:List Value} (h:w.ownsRow base e size v n xs) (hb:base'<=base):w.ownsRow base' e size v n xs:=by
 refine ⟨h.1,?_⟩
 rcases h.2 with hn|⟨g,cap,cur,hv,hg,r⟩
 ·exact .inl hn
 ·exact .inr ⟨g,cap,cur,hv,by omega,r⟩
theorem aQ {w w':World} {base:Nat} {e:TypeId} {size n:Nat} {v:Value} {xs:List Value} (h:w.ownsRow base e size v n xs) (hb:Below w.heap.size w w'):w'.ownsRow base e size v n xs:=
 cM h hb (fun k hk=>(h.lt k hk).2)
theorem aH {w:World} {base:Nat} {e:TypeId} {size n q m cap:Nat} {xs:List Value} (h:w.ownsRow base e size (.slice (some ⟨q,0,none⟩) m cap) n xs) (j:Nat) (u:Value) (hu:xs[j]?=some u):w.cell? ⟨q,j,none⟩=some u:=by
 have:=h.cells (g:=q) rfl j u hu;simpa [Addr.add_lit] using this
theorem o8 (ts:List Tk) (k:Nat) (h:k<ts.length):(tcs ts)[k*3]?=some (.int .i64 (bf (ts[k]'h).txt))/\(tcs ts)[k*3+1]?=some (.int .i64 (ts[k]'h).pos)/\(tcs ts)[k*3+2]?=some (.string (ts[k]'h).txt):=by
 induction ts generalizing k with
 |nil=>simp at h
 |cons t r ih=>
  cases k with
  |zero=>simp [tcs,lC]
  |succ k=>
   have:=ih k (by simpa using h);simp only [tcs,dy,lC,dJ] at this ⊢;refine ⟨?_,?_,?_⟩
   ·rw [show (k+1)*3=k*3+1+1+1 by omega];exact this.1
   ·rw [show (k+1)*3+1=(k*3+1)+1+1+1 by omega];exact this.2.1
   ·rw [show (k+1)*3+2=(k*3+2)+1+1+1 by omega];exact this.2.2
theorem Oth.alloc {w0 w:World} (h:Oth w0 w) (o:Obj):Oth w0 (w.alloc o):=by
 intro k cs t fr h1 h2 h3;have h4:=h k cs t fr h1 h2 h3;exact (aO w o k (ae.1 h4).1).trans h4
theorem Oth.trans {a b c:World} (h:Oth a b) (h':Oth b c):Oth a c:=fun k cs t fr h1 h2 h3=>h' k cs t fr h1 h2 (h k cs t fr h1 h2 h3)
theorem GRep.anew {B:Nat} {w0 w:World} {b:Nat} {g:Gr} {av:Value} (h:GRep B w0 w b g av) (o:Obj):GRep B (w.alloc o) (w.alloc o) b g av:=
 ⟨(aO w o b h.lt).trans h.blk,h.lo,h.row.alloc o,ai _ _,Oth.refl _⟩
theorem GRep.join {B:Nat} {w0 w w1:World} {b:Nat} {g g':Gr} {av av':Value} {o:Obj} (h:GRep B w0 w b g av) (h':GRep B (w.alloc o) w1 b g' av') (hB:B<=w.heap.size):GRep B w0 w1 b g' av':=
 ⟨h'.blk,h'.lo,h'.row,(h.bel.alloc hB o).trans h'.bel,(h.oth.alloc o).trans h'.oth⟩
theorem fQ {a b:Int×Int} (h:a=b):Ending.returned (.tuple #[.int .i64 a.1,.int .i64 a.2])=.returned (.tuple #[.int .i64 b.1,.int .i64 b.2]):=by rw [h]
theorem vX (s:ByteArray) (v:Value) (ts:List Tk) (w:World) (_hs:s.size<=1000) (hl:ts.length<=1000) (hv:w.ownsRow 0 73 3 v ts.length (tcs ts)):
 Calls Tryz.prog 42 #[.string s,v] w fun e w'=>e=.returned (.tuple #[.int .i64 (jT s.size g0 ts).1,.int .i64 (jT s.size g0 ts).2])/\Below w.heap.size w w':=by
 obtain ⟨ao,cap,rfl⟩:=aU hv;generalize hR:jT s.size g0 ts=R;have HR:Hid (jT s.size g0 ts=R):=hR;clear hR;go_enter Tryz.func42,Tryz.ntmps42
 go_wp2_with fail
 go_loopw [12] (fun a wr=>∃(k:Nat) (g:Gr) (av:Value),k<=ts.length/\a=.int .i64 k/\Hid (jT s.size g (ts.drop k)=R)/\GRep w.heap.size w wr w.heap.size g av/\g.ok/\g.ar.length<=k) (fun a _=>ts.length-(intOf a).toNat)
 case atStart=>exact ⟨0,g0,.slice none 0 0,aF _,rfl,HR,⟨az w _,ah _,aM _ _ _ _,(ai _ _).alloc (ah _) _,(Oth.refl w).alloc _⟩,⟨by decide,by decide,by decide,by decide,by simp [g0]⟩,ah _⟩
 case round=>
  obtain ⟨k,g,av,hk,rfl,HG,fT,ok,oJ⟩:=hrel;by_cases bF:k<ts.length
  ·obtain ⟨q,cap',hq,_,dX⟩:=hv.form (by omega);cases hq
   have et:=aQ hv fT.bel;have ⟨t0,t1,t2⟩:=o8 ts k bF;have d0:=aH et _ _ t0;have d1:=aH et _ _ t1;have d2:=aH et _ _ t2;clear t0 t1 t2 et;have dk:=fT.bel.size;have MN:=yR g (bf ts[k].txt);have ew:=Lb ok (bf ts[k].txt);by_cases he:(cZ g (bf ts[k].txt)).1=0
   ·have sz:Hid (jT s.size (cZ g (bf ts[k].txt)).2 (ts.drop (k+1))=R):=by
     have:=HG.out;rw [aW bF,jT,aA he] at this;exact this
    go_wp2_with fail
    refine (Tl w.heap.size w.heap.size g av _ _ _ (fT.anew _) ok (by omega)).mono ?_
    rintro e w1 ⟨rfl,av1,hg⟩
    go_wp2_with fail
    go_roundw
    case rel=>exact ⟨k+1,_,av1,by omega,by go_num,sz,fT.join hg dk,ew,by omega⟩
    case measure=>simp [intOf];omega
   ·have sz:Hid ((((ts[k].pos:Nat):Int),(cZ g (bf ts[k].txt)).1)=R):=by
     have:=HG.out;rw [aW bF,jT,ay he] at this;exact this
    have kW:((cZ g (bf ts[k].txt)).1==0)=false:=by simpa using he
    clear he;go_wp2_with fail
    refine (Tl w.heap.size w.heap.size g av _ _ _ (fT.anew _) ok (by omega)).mono ?_
    rintro e w1 ⟨rfl,av1,hg⟩
    have ef:=hg.oth wr.heap.size _ _ _ (by decide) (by decide) (az wr _);have e1:=al w1 wr.heap.size 1 _ _ _ ef;simp only [ax,ap,aq] at e1;clear ef;go_wp2_with fail
    go_ret2
    exact ⟨fQ sz.out,(fT.bel.alloc dk _).trans hg.bel⟩
  ·have e0:k=ts.length:=by omega
   have sz:Hid (jT s.size g []=R):=by have:=HG.out;rw [bj (by omega)] at this;exact this
   have c0:=fT.blk.c0;have c1:=fT.blk.c1;by_cases h1:g.fn=0
   ·have h2:Hid ((((s.size:Nat):Int),(2:Int))=R):=by have:=sz.out;simp [jT,h1] at this;exact this
    go_wp2_with fail
    go_ret2
    exact ⟨fQ h2.out,fT.bel⟩
   ·have nO:(g.fn==0)=false:=by simpa using h1
    by_cases h3:g.aw=0
    ·have h2:Hid (((0:Int),(0:Int))=R):=by have:=sz.out;simp [jT,h1,h3] at this;exact this
     clear h1;go_wp2_with fail
     go_ret2
     exact ⟨fQ h2.out,fT.bel⟩
    ·have WK:(g.aw==0)=false:=by simpa using h3
     have h2:Hid ((((s.size:Nat):Int),(2:Int))=R):=by have:=sz.out;simp [jT,h1,h3] at this;exact this
     clear h1 h3;go_wp2_with fail
     go_ret2
     exact ⟨fQ h2.out,fT.bel⟩
structure Df where
 name:Tk
 ps:List Tk
 body:List Tk
def tk0:Tk:=⟨0,ByteArray.empty⟩
def df0:Df:=⟨tk0,[],[]⟩
structure Cs where
 ds:List Df
 d:Df
 aw:Int
def iE (c:Cs) (t:Tk):Cs:=
 if bf t.txt=5 then ⟨c.ds++[c.d],df0,0⟩
 else if bf t.txt=4 then ⟨c.ds,c.d,2⟩
 else if c.aw=0 then ⟨c.ds,{c.d with name:=t},1⟩
 else if c.aw=1 then ⟨c.ds,{c.d with ps:=c.d.ps++[t]},c.aw⟩
 else ⟨c.ds,{c.d with body:=c.d.body++[t]},c.aw⟩
def eT (ts:List Tk):Cs:=ts.foldl iE ⟨[],df0,0⟩
def DOk (w:World) (T:Nat) (d:Df) (pv bv:Value):Prop:=
 w.ownsRow 0 73 3 pv d.ps.length (tcs d.ps)/\w.ownsRow 0 73 3 bv d.body.length (tcs d.body)/\(∀k,pv.ownBlock=some k->k<T)/\(∀k,bv.ownBlock=some k->k<T)
def rp (d:Df) (pv bv:Value):List Value:=[.int .i64 (bf d.name.txt),.int .i64 d.name.pos,.string d.name.txt,pv,bv]
def g9 (w:World) (T:Nat):List Df->List Value->Prop
 |[],xs=>xs=[]
 |d::ds,xs=>∃pv bv r,xs=rp d pv bv++r/\DOk w T d pv bv/\g9 w T ds r
theorem DOk.keep {w w':World} {T:Nat} {d:Df} {pv bv:Value} (h:DOk w T d pv bv) (hb:Below T w w'):DOk w' T d pv bv:=
 ⟨cM h.1 hb h.2.2.1,cM h.2.1 hb h.2.2.2,h.2.2.1,h.2.2.2⟩
theorem DOk.up {w:World} {T T':Nat} {d:Df} {pv bv:Value} (h:DOk w T d pv bv) (hT:T<=T'):DOk w T' d pv bv:=
 ⟨h.1,h.2.1,fun k hk=>bq (h.2.2.1 k hk) hT,fun k hk=>bq (h.2.2.2 k hk) hT⟩
theorem g9.keep {w w':World} {T:Nat} (hb:Below T w w'):∀{ds:List Df} {xs:List Value},g9 w T ds xs->g9 w' T ds xs
 |[],_,h=>h
 |_::_,_,⟨pv,bv,r,h1,h2,h3⟩=>⟨pv,bv,r,h1,h2.keep hb,g9.keep hb h3⟩
theorem g9.up {w:World} {T T':Nat} (hT:T<=T'):∀{ds:List Df} {xs:List Value},g9 w T ds xs->g9 w T' ds xs
 |[],_,h=>h
 |_::_,_,⟨pv,bv,r,h1,h2,h3⟩=>⟨pv,bv,r,h1,h2.up hT,g9.up hT h3⟩
theorem g9.snoc {w:World} {T:Nat} {d:Df} {pv bv:Value} (hd:DOk w T d pv bv):∀{ds:List Df} {xs:List Value},g9 w T ds xs->g9 w T (ds++[d]) (xs++rp d pv bv)
 |[],_,h=>by rw [show _=([]:List Value) from h];exact ⟨pv,bv,[],by simp,hd,rfl⟩
 |_::_,_,⟨p,b,r,h1,h2,h3⟩=>⟨p,b,r++rp d pv bv,by rw [h1];simp,h2,g9.snoc hd h3⟩
theorem DOk.set {w:World} {T b i:Nat} {u:Value} {cs:Array Value} {d:Df} {pv bv:Value} (h:DOk w T d pv bv) (hb:w.heap[b]?=some (.cells cs 76 (0,0))):DOk (w.setCell ⟨b,i,none⟩ u) T d pv bv:=
 ⟨aB h.1 hb (by decide),aB h.2.1 hb (by decide),h.2.2.1,h.2.2.2⟩
theorem g9.set {w:World} {T b i:Nat} {u:Value} {cs:Array Value} (hb:w.heap[b]?=some (.cells cs 76 (0,0))):∀{ds:List Df} {xs:List Value},g9 w T ds xs->g9 (w.setCell ⟨b,i,none⟩ u) T ds xs
 |[],_,h=>h
 |_::_,_,⟨pv,bv,r,h1,h2,h3⟩=>⟨pv,bv,r,h1,h2.set hb,g9.set hb h3⟩
structure CR (B:Nat) (w0 w:World) (T:Nat) (lv:Value) (ds:List Df) (ps body:List Tk) (xs:List Value) (pv bv:Value):Prop where
 bel:Below B w0 w
 lo:B<T
 hi:T<=w.heap.size
 lrow:w.ownsRow (B+1) 76 5 lv ds.length xs
 done:g9 w T ds xs
 prow:w.ownsRow T 73 3 pv ps.length (tcs ps)
 brow:w.ownsRow T 73 3 bv body.length (tcs body)
 ne:∀k,pv.ownBlock=some k->bv.ownBlock≠some k
def EX (w:World) (B:Nat) (t:Tk) (pv bv:Value):Prop:=
 w.heap[B]?=some (.cells #[.int .i64 (bf t.txt),.int .i64 t.pos,.string t.txt,pv,bv] 76 (0,0))
theorem CR.set {B T i:Nat} {w0 w:World} {lv pv bv u:Value} {ds:List Df} {ps body:List Tk} {xs:List Value} {cs:Array Value} (h:CR B w0 w T lv ds ps body xs pv bv) (hb:w.heap[B]?=some (.cells cs 76 (0,0))):CR B w0 (w.setCell ⟨B,i,none⟩ u) T lv ds ps body xs pv bv:=
 ⟨h.bel.setCell (ah _) _,h.lo,by have:=h.hi;simp [World.setCell];exact this,ownsRow_setCell_below h.lrow (by simp) _,h.done.set hb,aB h.prow hb (by decide),aB h.brow hb (by decide),h.ne⟩
theorem CR.alloc {B T:Nat} {w0 w:World} {lv pv bv:Value} {ds:List Df} {ps body:List Tk} {xs:List Value} (h:CR B w0 w T lv ds ps body xs pv bv) (o:Obj):CR B w0 (w.alloc o) T lv ds ps body xs pv bv:=
 ⟨h.bel.alloc (by have:=h.lo;have:=h.hi;omega) o,h.lo,by have:=h.hi;simp;omega,h.lrow.alloc o,h.done.keep ((ai T w).alloc h.hi o),h.prow.alloc o,h.brow.alloc o,h.ne⟩
theorem EX.alloc {B:Nat} {w:World} {t:Tk} {pv bv:Value} (h:EX w B t pv bv) (o:Obj):EX (w.alloc o) B t pv bv:=
 (aO w o B (ae.1 h).1).trans h
theorem br {w w':World} {base:Nat} {e t:TypeId} {size n k:Nat} {v:Value} {xs:List Value} {cs:Array Value} {fr:Nat×Nat} (hr:w.ownsRow base e size v n xs) (hg:w.grownBy w' v.ownBlock) (dI:t≠e) (h:w.heap[k]?=some (.cells cs t fr)):w'.heap[k]?=some (.cells cs t fr):=by
 have bF:k<w.heap.size:=(ae.1 h).1;rw [hg.block k bF ?_]
 ·exact h
 ·intro e1;rcases hr.2 with ⟨rfl,_⟩|⟨q,cap,cur,rfl,_,hq,_⟩
  ·simp [Value.ownBlock] at e1
  ·simp [Value.ownBlock] at e1;subst e1;rw [hq] at h;simp at h;exact dI h.2.1.symm
theorem aY {w w':World} {base base':Nat} {e t:TypeId} {size size' n n':Nat} {v v':Value} {xs xs':List Value} (hr:w.ownsRow base e size v n xs) (hg:w.grownBy w' v.ownBlock) (dI:t≠e) (h:w.ownsRow base' t size' v' n' xs'):w'.ownsRow base' t size' v' n' xs':=by
 refine ⟨h.1,?_⟩
 rcases h.2 with hn|⟨g,cap,cur,hv,hb,hh,r⟩
 ·exact .inl hn
 ·exact .inr ⟨g,cap,cur,hv,hb,br hr hg dI hh,r⟩
theorem CR.pushP {B T:Nat} {w0 w w1:World} {lv pv bv:Value} {ds:List Df} {ps body:List Tk} {xs:List Value} {t:Tk} {g cap H:Nat} (h:CR B w0 w T lv ds ps body xs pv bv)
 (hown:w1.ownsRow T 73 3 (.slice (some ⟨g,0,none⟩) (ps.length+1) cap) (ps.length+1) (tcs ps++lC t)) (bD:w.grownBy w1 pv.ownBlock) (dt:pv.ownBlock=some g\/g=H) (hH:w.heap.size=H):
 CR B w0 w1 T lv ds (ps++[t]) body xs (.slice (some ⟨g,0,none⟩) (ps.length+1) cap) bv:=by
 have hT:∀k,pv.ownBlock=some k->T<=k:=fun k hk=>(h.prow.lt k hk).1
 have hb:Below T w w1:=(ai T w).grown bD h.hi hT;have hbv:bv.ownBlock=none\/bv.ownBlock≠pv.ownBlock:=by
  cases hq:bv.ownBlock with
  |none=>exact .inl rfl
  |some k=>right;intro e;exact h.ne k e.symm hq
 refine ⟨h.bel.trans (hb.mono (by have:=h.lo;omega)),h.lo,aJ h.hi bD.size,aY h.prow bD (by decide) h.lrow,h.done.keep hb,?_,h.brow.kept bD hbv,?_⟩
 ·rw [rQ,au];exact hown
 ·intro k hk eh;simp only [Value.ownBlock,Option.some.injEq] at hk;subst hk;rcases dt with dt|dt
  ·exact h.ne _ dt eh
  ·have:=(h.brow.lt _ eh).2;omega
theorem CR.pushB {B T:Nat} {w0 w w1:World} {lv pv bv:Value} {ds:List Df} {ps body:List Tk} {xs:List Value} {t:Tk} {g cap H:Nat} (h:CR B w0 w T lv ds ps body xs pv bv)
 (hown:w1.ownsRow T 73 3 (.slice (some ⟨g,0,none⟩) (body.length+1) cap) (body.length+1) (tcs body++lC t)) (bD:w.grownBy w1 bv.ownBlock) (dt:bv.ownBlock=some g\/g=H) (hH:w.heap.size=H):
 CR B w0 w1 T lv ds ps (body++[t]) xs pv (.slice (some ⟨g,0,none⟩) (body.length+1) cap):=by
 have hT:∀k,bv.ownBlock=some k->T<=k:=fun k hk=>(h.brow.lt k hk).1
 have hb:Below T w w1:=(ai T w).grown bD h.hi hT;have Kl:pv.ownBlock=none\/pv.ownBlock≠bv.ownBlock:=by
  cases hq:pv.ownBlock with
  |none=>exact .inl rfl
  |some k=>right;intro e;exact h.ne k hq e.symm
 refine ⟨h.bel.trans (hb.mono (by have:=h.lo;omega)),h.lo,aJ h.hi bD.size,aY h.brow bD (by decide) h.lrow,h.done.keep hb,h.prow.kept bD Kl,?_,?_⟩
 ·rw [rQ,au];exact hown
 ·intro k hk eh;simp only [Value.ownBlock,Option.some.injEq] at eh;subst eh;rcases dt with dt|dt
  ·exact h.ne _ hk dt
  ·have:=(h.prow.lt _ hk).2;omega
theorem DOk.type {w w':World} {base T size n:Nat} {v:Value} {xs:List Value} (hr:w.ownsRow base 76 size v n xs) (hg:w.grownBy w' v.ownBlock) {d:Df} {pv bv:Value} (h:DOk w T d pv bv):DOk w' T d pv bv:=
 ⟨aY hr hg (by decide) h.1,aY hr hg (by decide) h.2.1,h.2.2.1,h.2.2.2⟩
theorem g9.type {w w':World} {base T size n:Nat} {v:Value} {xs0:List Value} (hr:w.ownsRow base 76 size v n xs0) (hg:w.grownBy w' v.ownBlock):∀{ds:List Df} {xs:List Value},g9 w T ds xs->g9 w' T ds xs
 |[],_,h=>h
 |_::_,_,⟨pv,bv,r,h1,h2,h3⟩=>⟨pv,bv,r,h1,h2.type hr hg,g9.type hr hg h3⟩
theorem CR.pushD {B T:Nat} {w0 w w1:World} {lv pv bv nv:Value} {ds:List Df} {d:Df} {xs:List Value} (h:CR B w0 w T lv ds d.ps d.body xs pv bv)
 (hown:w1.ownsRow (B+1) 76 5 nv (ds.length+1) (xs++rp d pv bv)) (bD:w.grownBy w1 lv.ownBlock):
 CR B w0 w1 w.heap.size nv (ds++[d]) [] [] (xs++rp d pv bv) (.slice none 0 0) (.slice none 0 0):=by
 have jN:=h.lo;have Ky:=h.hi;have hd:DOk w w.heap.size d pv bv:=⟨bO h.prow (aF _),bO h.brow (aF _),fun k hk=>(h.prow.lt k hk).2,fun k hk=>(h.brow.lt k hk).2⟩;refine ⟨h.bel.grown bD (by omega) (fun k hk=>by have:=(h.lrow.lt k hk).1;omega),by omega,bD.size,by rw [au];exact hown,?_,aM _ _ _ _,aM _ _ _ _,?_⟩
 ·exact g9.type h.lrow bD (g9.snoc hd (h.done.up Ky))
 ·intro k hk;simp [Value.ownBlock] at hk
theorem EX.name {B:Nat} {w:World} {t:Tk} {pv bv:Value} (h:EX w B t pv bv) (t':Tk):EX (((w.setCell ⟨B,0,none⟩ (.int .i64 (bf t'.txt))).setCell ⟨B,1,none⟩ (.int .i64 t'.pos)).setCell ⟨B,2,none⟩ (.string t'.txt)) B t' pv bv:=
 bk _ (bk _ (bk _ h))
theorem CR.zero {B T:Nat} {w0 w:World} {lv pv bv pv' bv':Value} {ds:List Df} {ps body:List Tk} {xs:List Value} {t:Tk} (h:CR B w0 w T lv ds ps body xs pv bv) (hb:EX w B t pv' bv'):
 CR B w0 (((((w.setCell ⟨B,0,none⟩ (.int .i64 0)).setCell ⟨B,1,none⟩ (.int .i64 0)).setCell ⟨B,2,none⟩ (.string ⟨#[]⟩)).setCell ⟨B,3,none⟩ (.slice none 0 0)).setCell ⟨B,4,none⟩ (.slice none 0 0)) T lv ds ps body xs pv bv/\
 EX (((((w.setCell ⟨B,0,none⟩ (.int .i64 0)).setCell ⟨B,1,none⟩ (.int .i64 0)).setCell ⟨B,2,none⟩ (.string ⟨#[]⟩)).setCell ⟨B,3,none⟩ (.slice none 0 0)).setCell ⟨B,4,none⟩ (.slice none 0 0)) B tk0 (.slice none 0 0) (.slice none 0 0):=by
 have h0:=bk (i:=0) (.int .i64 0) hb;have h1:=bk (i:=1) (.int .i64 0) h0;have h2:=bk (i:=2) (.string ⟨#[]⟩) h1;have h3:=bk (i:=3) (.slice none 0 0) h2;exact ⟨((((h.set hb).set h0).set h1).set h2).set h3,bk _ h3⟩
theorem Tryz.infoDef:(Tryz.prog.info? 76).map (fun i=>(i.zero,i.size,i.bytes))=some (some (.agg #[.int .i64 0,.int .i64 0,.string ByteArray.empty,.slice none 0 0,.slice none 0 0]),5,80):=by kernel_rfl
theorem acd (ts:List Tk) (k:Nat) (h:k<ts.length) (c:Cs) (hc:(ts.take k).foldl iE ⟨[],df0,0⟩=c):(ts.take (k+1)).foldl iE ⟨[],df0,0⟩=iE c ts[k]:=by
 rw [aT h,fV,hc];rfl
theorem DY (d:Df) (pv bv:Value) (h1:pv.oneCell'=true) (h2:bv.oneCell'=true):∀u∈rp d pv bv,u.oneCell'=true:=by
 intro u hu;simp only [rp,aK,ck,dV] at hu;rcases hu with rfl|rfl|rfl|rfl|rfl<;>first|rfl|assumption
theorem wh {w:World} {base:Nat} {e:TypeId} {size n:Nat} {v:Value} {xs:List Value} (h:w.ownsRow base e size v n xs):v.oneCell'=true:=by
 obtain ⟨ao,cap,rfl⟩:=aU h;rfl
theorem sK (v:Value) (ts:List Tk) (w:World) (hl:ts.length<=1000) (hv:w.ownsRow 0 73 3 v ts.length (tcs ts)):
 Calls Tryz.prog 43 #[v] w fun e w'=>∃lv,e=.returned lv/\Below w.heap.size w w'/\∃xs,w'.ownsRow 0 76 5 lv (eT ts).ds.length xs/\g9 w' w'.heap.size (eT ts).ds xs:=by
 obtain ⟨ao,cap,rfl⟩:=aU hv;go_enter Tryz.func43,Tryz.ntmps43
 go_wp2_with fail
 go_loopw [3,5,10] (fun lv aw a wr=>∃(k T:Nat) (c:Cs) (xs:List Value) (pv bv:Value),k<=ts.length/\a=.int .i64 k/\aw=.int .i64 c.aw/\Hid ((ts.take k).foldl iE ⟨[],df0,0⟩=c)/\CR w.heap.size w wr T lv c.ds c.d.ps c.d.body xs pv bv/\EX wr w.heap.size c.d.name pv bv/\c.ds.length<=k/\c.d.ps.length<=k/\c.d.body.length<=k) (fun _ _ a _=>ts.length-(intOf a).toNat)
 case atStart=>
  refine ⟨0,w.heap.size+1,⟨[],df0,0⟩,[],.slice none 0 0,.slice none 0 0,aF _,rfl,rfl,rfl,?_,az w _,ah _,ah _,ah _⟩
  exact ⟨(ai _ _).alloc (ah _) _,by omega,by simp,aM _ _ _ _,rfl,aM _ _ _ _,aM _ _ _ _,fun k hk=>by simp [Value.ownBlock] at hk⟩
 case round=>
  obtain ⟨k,T,c,xs,pv,bv,hk,rfl,rfl,HF,fT,ef,lk,kT,Cm⟩:=hrel;by_cases bF:k<ts.length
  ·obtain ⟨q,cap',hq,_,dX⟩:=hv.form (by omega);cases hq
   have et:=aQ hv fT.bel;have ⟨t0,t1,t2⟩:=o8 ts k bF;have d0:=aH et _ _ t0;have d1:=aH et _ _ t1;have d2:=aH et _ _ t2;clear t0 t1 t2 et;have b0:=al wr w.heap.size 0 _ _ _ ef;have b1:=al wr w.heap.size 1 _ _ _ ef;have b2:=al wr w.heap.size 2 _ _ _ ef;have b3:=al wr w.heap.size 3 _ _ _ ef;have b4:=al wr w.heap.size 4 _ _ _ ef;have fz:=fun j=>aG wr w.heap.size j _ _ ef
   simp only [ax,ap,aq] at b0 b1 b2 b3 b4;have hBs:w.heap.size<wr.heap.size:=by have:=fT.lo;have:=fT.hi;omega
   have me:Hid ((ts.take (k+1)).foldl iE ⟨[],df0,0⟩=iE c ts[k]):=acd ts k bF c HF.out;clear HF;by_cases h5:bf ts[k].txt=5
   ·obtain ⟨i,hi,fp,dQ,eF⟩:=bE Tryz.infoDef;rw [show iE c ts[k]=⟨c.ds++[c.d],df0,0⟩ by simp [iE,h5]] at me;have mU:=wh fT.prow;have mT:=wh fT.brow;have CK:Hid (pv.oneCell'=true):=mU;have t7:Hid (bv.oneCell'=true):=mT;clear mU mT;go_wp2_with (at_builtin;go_must (refine wpList_append_lies _ rfl _ _ _ rfl (w.heap.size+1) 76 i _ 5 80 Tryz.underlying68 hi fp dQ eF rfl (by omega) u3 c.ds.length xs rfl ?mS _ 1 _ (rp c.d pv bv) rfl rfl ?kD ?Hs (by omega) ?tM ?jd ?kJ _ rfl ?_))
    case mS=>exact (fT.lrow.alloc _).alloc _
    case kD=>exact World.news_of_block (heap_alloc2_new wr _ _)
    case Hs=>exact DY _ _ _ CK.out t7.out
    case tM=>unfold maxLen;omega
    case jd=>omega
    case kJ=>simp;omega
    intro g cap1 w1 dR bD dt um;have iT:EX w1 w.heap.size c.d.name pv bv:=(bD.block w.heap.size (by simp;omega) (fun e=>by have:=(fT.lrow.lt _ e.symm).1;omega)).trans ((ef.alloc _).alloc _);have yl:=CR.pushD (d:=c.d) ((fT.alloc _).alloc _) dR bD;have g0:=al w1 w.heap.size 0 _ _ _ iT;have g1:=al w1 w.heap.size 1 _ _ _ iT;have g2:=al w1 w.heap.size 2 _ _ _ iT;have g3:=al w1 w.heap.size 3 _ _ _ iT;have g4:=al w1 w.heap.size 4 _ _ _ iT;have gz:=fun j=>aG w1 w.heap.size j _ _ iT
    simp only [ax,ap,aq] at g0 g1 g2 g3 g4;clear hi fp dQ eF b0 b1 b2 b3 b4 fz d0 d1 d2;go_wp2_with fail
    go_roundw
    case rel=>
     have z:=yl.zero iT;exact ⟨k+1,_,⟨c.ds++[c.d],df0,0⟩,_,_,_,by omega,by go_num,rfl,me,z.1,z.2,by simp;omega,aF _,aF _⟩
    case measure=>simp [intOf];omega
   ·have yP:(bf ts[k].txt==5)=false:=by simpa using h5
    by_cases h4:bf ts[k].txt=4
    ·rw [show iE c ts[k]=⟨c.ds,c.d,2⟩ by simp [iE,h4]] at me;clear h5 yP;go_wp2_with fail
     go_roundw
     case rel=>exact ⟨k+1,T,⟨c.ds,c.d,2⟩,xs,pv,bv,by omega,by go_num,rfl,me,fT.alloc _,ef.alloc _,bP lk,bP kT,bP Cm⟩
     case measure=>simp [intOf];omega
    ·have Nl:(bf ts[k].txt==4)=false:=by simpa using h4
     by_cases h0:c.aw=0
     ·rw [show iE c ts[k]=⟨c.ds,{c.d with name:=ts[k]},1⟩ by simp [iE,h5,h4,h0]] at me;clear h5 h4;go_wp2_with fail
      go_roundw
      case rel=>exact ⟨k+1,T,⟨c.ds,{c.d with name:=ts[k]},1⟩,xs,pv,bv,by omega,by go_num,rfl,me,(((fT.set ef).set (bk _ ef)).set (bk _ (bk _ ef))).alloc _,(ef.name ts[k]).alloc _,bP lk,bP kT,bP Cm⟩
      case measure=>simp [intOf];omega
     ·have vq:(c.aw==0)=false:=by simpa using h0
      obtain ⟨i,hi,fp,dQ,eF⟩:=bE Tryz.infoTok;by_cases h1:c.aw=1
      ·rw [show iE c ts[k]=⟨c.ds,{c.d with ps:=c.d.ps++[ts[k]]},c.aw⟩ by simp [iE,h5,h4,h1]] at me;clear h5 h4 h0 vq;go_wp2_with (at_builtin;go_must (refine wpList_append_lies _ rfl _ _ _ rfl T 73 i _ 3 32 Tryz.underlying74 hi fp dQ eF rfl (by omega) pv c.d.ps.length (tcs c.d.ps) rfl ?UV _ 1 _ (lC ts[k]) rfl rfl ?PN ?h1P (by omega) ?abX ?KJ ?QO _ rfl ?_))
       case UV=>exact (fT.prow.alloc _).alloc _
       case PN=>exact fun _ _ h=>h
       case h1P=>exact nw _
       case abX=>unfold maxLen;omega
       case KJ=>omega
       case QO=>have:=fT.hi;simp;omega
       intro g cap1 w1 dR bD dt um;have iT:EX w1 w.heap.size c.d.name pv bv:=br (((fT.prow).alloc _).alloc _) bD (by decide) ((ef.alloc _).alloc _);have yl:=((fT.alloc _).alloc _).pushP (t:=ts[k]) dR bD dt (by simp);have g3:=al w1 w.heap.size 3 _ _ _ iT;have gz:=aG w1 w.heap.size 3 _ _ iT;simp only [ax,ap,aq] at g3;go_wp2_with fail
       go_roundw
       case rel=>exact ⟨k+1,T,⟨c.ds,{c.d with ps:=c.d.ps++[ts[k]]},c.aw⟩,xs,_,_,by omega,by go_num,by simp [*],me,yl.set iT,bk _ iT,bP lk,by simp;omega,by exact bP Cm⟩
       case measure=>simp [intOf];omega
      ·have nO:(c.aw==1)=false:=by simpa using h1
       rw [show iE c ts[k]=⟨c.ds,{c.d with body:=c.d.body++[ts[k]]},c.aw⟩ by simp [iE,h5,h4,h1,h0]] at me;clear h5 h4 h0 h1;go_wp2_with (at_builtin;go_must (refine wpList_append_lies _ rfl _ _ _ rfl T 73 i _ 3 32 Tryz.underlying74 hi fp dQ eF rfl (by omega) bv c.d.body.length (tcs c.d.body) rfl ?mR _ 1 _ (lC ts[k]) rfl rfl ?kC ?Hr (by omega) ?tL ?jc ?kI _ rfl ?_))
       case mR=>exact (fT.brow.alloc _).alloc _
       case kC=>exact fun _ _ h=>h
       case Hr=>exact nw _
       case tL=>unfold maxLen;omega
       case jc=>omega
       case kI=>have:=fT.hi;simp;omega
       intro g cap1 w1 dR bD dt um;have iT:EX w1 w.heap.size c.d.name pv bv:=br (((fT.brow).alloc _).alloc _) bD (by decide) ((ef.alloc _).alloc _);have yl:=((fT.alloc _).alloc _).pushB (t:=ts[k]) dR bD dt (by simp);have g3:=al w1 w.heap.size 4 _ _ _ iT;have gz:=aG w1 w.heap.size 4 _ _ iT;simp only [ax,ap,aq] at g3;go_wp2_with fail
       go_roundw
       case rel=>exact ⟨k+1,T,⟨c.ds,{c.d with body:=c.d.body++[ts[k]]},c.aw⟩,xs,_,_,by omega,by go_num,by simp [*],me,yl.set iT,bk _ iT,bP lk,by exact bP kT,by simp;omega⟩
       case measure=>simp [intOf];omega
  ·have e1:eT ts=c:=by have:=HF.out;rw [bN (by omega)] at this;exact this
   subst e1;go_wp2_with fail
   go_ret
   exact ⟨_,rfl,fT.bel,xs,bO fT.lrow (aF _),fT.done.up fT.hi⟩
end Go.Proofs.YtnndoagpbcacdabGreatDoor
