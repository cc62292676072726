import Derived.Test.YtnndoagpbcacdabGreatDoorMR9
import Derived.Test.YtnndoagpbcacdabGreatDoorMN18
import Derived.Test.YtnndoagpbcacdabGreatDoorMK5
import Derived.Test.YtnndoagpbcacdabGreatDoorMZ11
import Derived.Test.YtnndoagpbcacdabGreatDoorMF9
namespace Go.Proofs.YtnndoagpbcacdabGreatDoor
set_option maxHeartbeats 8000000
open Go.RowKit
theorem Tj (s:ByteArray):shw s=(if (chk s).2=0 then ph (eT (ci s 0)).ds else []):=rfl
theorem ma {a b:ByteArray} (h:a.data.toList=b.data.toList):a=b:=l9 (by rw [bU,bU];exact h)
theorem OJ (n m:Int) (s:ByteArray) (c:Int) (fo:Option Addr) (fl fc:Nat) (w:World) (hs:s.size<=maxLen):
 Calls Tryz.prog 38 #[opV 2 n m s c fo fl fc] w fun e w'=>e=.returned (.bool true)/\Below w.heap.size w w':=by
 unfold opV;go_enter Tryz.func38,Tryz.ntmps38
 go_wp2_with fail
 refine (S9 s _ hs (fun h=>⟨(iA s h).2.2.2.2,(iA s h).2.2.2.1⟩)).mono ?_
 rintro e w1 ⟨x,rfl,hx,bB⟩
 have fe:=dx bB;have g3:=al w1 w.heap.size 3 _ _ _ fe;simp only [ax,ap,aq] at g3;have eQ:Below w.heap.size w w1:=((ai _ _).alloc (ah _) _).trans (bB.mono (by simp));clear bB fe;have HX:Hid _:=hx;clear hx;go_wp2_with fail
 refine (YY s (eT (ci s 0)).ds _ hs (fun h=>⟨(iA s h).1,(iA s h).2.1,(iA s h).2.2.1,(iA s h).2.2.2.1⟩)).mono ?_
 rintro e w2 ⟨y,rfl,hy,bX⟩
 have ik:=eQ.trans (bX.mono eQ.size);have MF:y=x:=ma (by rw [hy,HX.out,Tj]);subst MF;clear bX eQ g3 hy HX;generalize (chk s).2=er;have hp:(y.toList==y.toList)=true:=by simp
 have nX:(er==er)=true:=by simp
 go_wp2_with (go_at_call 66;refine (OT _ _).mono ?_;rintro e w3 ⟨rfl,rfl⟩)
 go_ret
 exact ⟨rfl,ik⟩
theorem OR (h:Value) (n m:Int) (s:ByteArray) (c:Int) (fo:Option Addr) (fl fc:Nat) (w:World) (hs:s.size<=maxLen):
 Calls Tryz.prog 23 #[h,opV 2 n m s c fo fl fc] w fun e w'=>e=.returned (.bool true)/\Below w.heap.size w w':=by
 unfold opV;go_enter Tryz.func23,Tryz.ntmps23
 go_wp2_with fail
 refine (OJ n m s c fo fl fc _ hs).mono ?_
 rintro e w1 ⟨rfl,bB⟩
 have eQ:Below w.heap.size w w1:=((ai _ _).alloc (ah _) _).trans (bB.mono (by simp));clear bB;go_wp2_with fail
 go_ret
 exact ⟨rfl,eQ⟩
def G3:ByteArray:=⟨#[109,97,105,110,61,102,40,48,48,55,41,59,102,32,120,61,120,59]⟩
theorem Iy:(chk G3).2=0:=by decide+kernel
theorem Fn:shw G3=[109,97,105,110,32,61,32,102,32,55,59,10,102,32,120,32,61,32,120,59,10]:=by decide+kernel
theorem OZ (w:World):
 Calls Tryz.prog 22 #[.int .i64 2] w fun e w'=>e=.returned (.bool true)/\Below w.heap.size w w':=by
 have HC:Hid _:=fun w=>S9 G3 w (by decide) (fun h=>⟨(iA G3 h).2.2.2.2,(iA G3 h).2.2.2.1⟩)
 go_enter Tryz.func22,Tryz.ntmps22
 go_wp2_with fail
 refine (show Calls _ _ _ _ _ from HC.out _).mono ?_
 rw [Iy,Fn];clear HC;rintro e w1 ⟨x,rfl,hx,bB⟩
 have xp:x=⟨#[109,97,105,110,32,61,32,102,32,55,59,10,102,32,120,32,61,32,120,59,10]⟩:=ma hx;subst xp;clear hx;go_wp2_with fail
 go_ret
 exact ⟨rfl,bB⟩
theorem OI (n m:Int) (s:ByteArray) (c:Int) (fo:Option Addr) (fl fc:Nat) (w:World) (hs:s.size<=maxLen) (ht:Tab w):
 Calls Tryz.prog 38 #[opV 3 n m s c fo fl fc] w fun e w'=>e=.returned (.bool true)/\Below w.heap.size w w':=by
 unfold opV;have HC:Hid _:=Bv s (w.alloc (Obj.cells #[.int .i64 3,.int .i64 n,.int .i64 m,.string s,.int .i64 c,.slice fo fl fc] 65)) hs (ht.alloc _);have HR:Hid _:=fun w=>JK s w hs (fun h=>⟨(iA s h).1,(iA s h).2.1,(iA s h).2.2.2.2,(sO s h).1,(iA s h).2.2.2.1⟩)
 go_enter Tryz.func38,Tryz.ntmps38
 go_wp2_with fail
 refine (show Calls _ _ _ _ _ from HC.out).mono ?_
 rintro e w1 ⟨x,rfl,hx,kA,bB⟩
 clear HC;have fe:=dx bB;have g3:=al w1 w.heap.size 3 _ _ _ fe;simp only [ax,ap,aq] at g3;have eQ:Below w.heap.size w w1:=((ai _ _).alloc (ah _) _).trans (bB.mono (by simp));clear bB fe;have HX:Hid _:=hx;clear hx;go_wp2_with fail
 refine (show Calls _ _ _ _ _ from HR.out _).mono ?_
 rintro e w2 ⟨y,rfl,hy,mj,bX⟩
 clear HR;have ik:=eQ.trans (bX.mono eQ.size);have MF:y=x:=ma (by rw [hy,HX.out]);subst MF;clear bX eQ g3 hy HX;generalize xy s=er;have hp:(y.toList==y.toList)=true:=by simp
 have nX:(er==er)=true:=by simp
 go_wp2_with (go_at_call 66;refine (OT _ _).mono ?_;rintro e w3 ⟨rfl,rfl⟩)
 go_ret
 exact ⟨rfl,ik⟩
theorem OQ (h:Value) (n m:Int) (s:ByteArray) (c:Int) (fo:Option Addr) (fl fc:Nat) (w:World) (hs:s.size<=maxLen) (ht:Tab w):
 Calls Tryz.prog 23 #[h,opV 3 n m s c fo fl fc] w fun e w'=>e=.returned (.bool true)/\Below w.heap.size w w':=by
 unfold opV;go_enter Tryz.func23,Tryz.ntmps23
 go_wp2_with fail
 refine (OI n m s c fo fl fc _ hs (ht.alloc _)).mono ?_
 rintro e w1 ⟨rfl,bB⟩
 have eQ:Below w.heap.size w w1:=((ai _ _).alloc (ah _) _).trans (bB.mono (by simp));clear bB;go_wp2_with fail
 go_ret
 exact ⟨rfl,eQ⟩
def Qw:ByteArray:=⟨#[109,97,105,110,32,61,32,102,32,40,103,32,49,32,40,103,32,50,41,41,32,40,103,32,51,41,59,32,102,32,120,32,121,32,61,32,43,32,120,32,121,59,32,103,32,120,32,61,32,120,59]⟩
theorem Iw:xy Qw=0:=by decide+kernel
theorem Iu:y8 Qw=[77,32,48,32,51,10,70,32,48,32,51,10,102,49,32,120,48,32,120,50,10,102,50,32,110,49,32,120,49,10,102,50,32,110,50,10,102,50,32,110,51,10,70,32,50,32,48,10,112,48,32,97,48,32,97,49,10,70,32,49,32,48,10,97,48,10]:=by decide+kernel
theorem OY (w:World) (ht:Tab w):
 Calls Tryz.prog 22 #[.int .i64 3] w fun e w'=>e=.returned (.bool true)/\Below w.heap.size w w':=by
 have HC:Hid _:=Bv Qw w (by decide) ht;rw [Iw,Iu] at HC;go_enter Tryz.func22,Tryz.ntmps22
 go_wp2_with fail
 refine (show Calls _ _ _ _ _ from HC.out).mono ?_
 clear HC;rintro e w1 ⟨x,rfl,hx,kA,bB⟩
 have xp:x=⟨#[77,32,48,32,51,10,70,32,48,32,51,10,102,49,32,120,48,32,120,50,10,102,50,32,110,49,32,120,49,10,102,50,32,110,50,10,102,50,32,110,51,10,70,32,50,32,48,10,112,48,32,97,48,32,97,49,10,70,32,49,32,48,10,97,48,10]⟩:=ma hx;subst xp;clear hx kA;go_wp2_with fail
 go_ret
 exact ⟨rfl,bB⟩
theorem O3 (a:Option Addr) (len cap:Nat) (w:World) (rC:LP w a len cap) (ez:len<=1048576) (ht:Tab w)
 (hC:∀(b off i:Nat) (c:Int) (fo:Option Addr) (fl fc:Nat),a=some ⟨b,off,none⟩->i<len->w.cell? ⟨b,off+i*6+4,none⟩=some (.int .i64 c)->w.cell? ⟨b,off+i*6+5,none⟩=some (.slice fo fl fc)->∃fs,dS w w.heap.size (.slice fo fl fc) fs/\tZ fs):
 Calls Tryz.prog 6 #[.slice a len cap] w fun e w'=>e=.returned (.bool true)/\Below w.heap.size w w':=by
 have HU:Hid _:=TZ (fun wr bh i=>HI w.heap.size wr bh i) (fun w c fo fl fc=>∃fs,dS w w.heap.size (.slice fo fl fc) fs/\tZ fs) 1 7 (by decide) (by decide) (by decide) w a len cap
  (fun k wr h1 h2 hb=>by
   have hk:k=1\/k=2\/k=3\/k=4\/k=5\/k=6\/k=7:=by omega
   rcases hk with rfl|rfl|rfl|rfl|rfl|rfl|rfl
   ·exact O0 wr
   ·exact OZ wr
   ·exact OY wr (ht.below hb)
   ·exact OX wr
   ·exact OW wr (ht.below hb)
   ·exact OV wr
   ·exact OU wr (ht.below hb))
  (fun wr bh hb iH h=>HI.init h iH)
  (fun wr bh i o hb h=>h.old (iN wr o))
  (fun wr bh i h=>h.more)
  (fun wr bh i h=>by obtain ⟨_,_,T,T1,Ma,Ml,av,lv,fv,NA,NL,NF,h2,_⟩:=h;exact (ae.1 h2.blk).1)
  (fun bh i k n m s c fo fl fc wr hi h1 h2 hs QG hb h=>by
   have plain:∀{k:Int},Calls Tryz.prog 23 #[.pointer (some ⟨bh,0,none⟩),opV k n m s c fo fl fc] wr (fun e w'=>e=.returned (.bool true)/\Below wr.heap.size wr w')->Calls Tryz.prog 23 #[.pointer (some ⟨bh,0,none⟩),opV k n m s c fo fl fc] wr fun e w'=>e=.returned (.bool true)/\Below w.heap.size w w'/\HI w.heap.size w' bh (i+1):=fun hp=>by
    refine hp.mono ?_
    rintro e w' ⟨rfl,oT⟩
    exact ⟨rfl,hb.trans (oT.mono hb.size),(h.old oT).more⟩
   have hk:k=1\/k=2\/k=3\/k=4\/k=5\/k=6\/k=7:=by omega
   rcases hk with rfl|rfl|rfl|rfl|rfl|rfl|rfl
   ·exact plain (OS _ n m s c fo fl fc wr hs)
   ·exact plain (OR _ n m s c fo fl fc wr hs)
   ·exact plain (OQ _ n m s c fo fl fc wr hs (ht.below hb))
   ·obtain ⟨h0,hB,T,T1,Ma,Ml,av,lv,fv,NA,NL,NF,hH,l1,l2,l3⟩:=h;refine (OP bh w.heap.size T T1 Ma Ml av lv fv NA NL NF n m s c fo fl fc wr hs hH h0 hB (by omega) (by omega) (by omega)).mono ?_
    rintro e w' ⟨rfl,oT,T',Ma',Ml',av',lv',fv',NA',NL',NF',hH',k1,k2,k3⟩
    exact ⟨rfl,hb.trans oT,h0,aJ hB oT.size,T',_,Ma',Ml',av',lv',fv',NA',NL',NF',hH',by omega,by omega,by omega⟩
   ·obtain ⟨fs,hf,nB⟩:=QG;exact plain (OO (.pointer (some ⟨bh,0,none⟩)) n m s ⟨c,fs⟩ fo fl fc wr ((dS.keep hf hb).upZ hb.size) nB (ht.below hb))
   ·exact plain (ON _ n m s c fo fl fc wr hs)
   ·exact plain (OM _ n m s c fo fl fc wr hs (ht.below hb)))
  (fun bh i wr h=>by
   obtain ⟨_,_,T,T1,Ma,Ml,av,lv,fv,NA,NL,NF,h2,_⟩:=h;exact T3 bh av lv fv NA NL NF wr h2.st)
  rC hC
 clear hC;go_enter Tryz.func6,Tryz.ntmps6
 go_wp2_with fail
 refine (show Calls _ _ _ _ _ from HU.out).mono ?_
 rintro e w1 ⟨rfl,bB⟩
 clear HU;go_wp2_with fail
 go_ret
 exact ⟨rfl,bB⟩
end Go.Proofs.YtnndoagpbcacdabGreatDoor
