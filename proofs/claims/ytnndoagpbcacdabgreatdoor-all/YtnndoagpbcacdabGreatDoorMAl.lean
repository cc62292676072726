import Derived.Test.YtnndoagpbcacdabGreatDoorRows
import Derived.WalkKit
import Derived.WalkSpells
import Derived.WalkLawsBesides
import Derived.BigQuiet
import Derived.Deep.QuietTactic
import Derived.Deep.AppendLies
import Derived.Deep.DeepMust
import Derived.WalkSmall
import Derived.Deep.RegionLaw
namespace Go.Proofs.YtnndoagpbcacdabGreatDoor
open Go.RowKit
theorem ae:type_of%@Array.getElem?_eq_some_iff:=@Array.getElem?_eq_some_iff
theorem ah:type_of%@Nat.le_refl:=@Nat.le_refl
theorem ai:type_of%@Below.refl:=@Below.refl
theorem aj:type_of%@List.getElem?_eq_getElem:=@List.getElem?_eq_getElem
theorem al:type_of%@cell_of_row:=@cell_of_row
theorem ap:type_of%@List.getElem?_cons_succ:=@List.getElem?_cons_succ
theorem aq:type_of%@List.getElem?_cons_zero:=@List.getElem?_cons_zero
theorem au:type_of%@List.length_append:=@List.length_append
theorem ax:type_of%@List.getElem?_toArray:=@List.getElem?_toArray
theorem ay:type_of%@if_neg:=@if_neg
theorem az:type_of%@heap_alloc_new:=@heap_alloc_new
theorem aA:type_of%@if_pos:=@if_pos
theorem aC:type_of%@List.getElem?_append_right:=@List.getElem?_append_right
theorem aD:type_of%@List.length_cons:=@List.length_cons
theorem aE:type_of%@List.getElem_mem:=@List.getElem_mem
theorem aF:type_of%@Nat.zero_le:=@Nat.zero_le
theorem aG:type_of%@frozen_of_row:=@frozen_of_row
theorem aI:type_of%@List.getElem?_append_left:=@List.getElem?_append_left
theorem aJ:type_of%@Nat.le_trans:=@Nat.le_trans
theorem aK:type_of%@List.mem_cons:=@List.mem_cons
theorem aL:type_of%@decide_eq_true_eq:=@decide_eq_true_eq
theorem aM:type_of%@World.ownsRow_nil:=@World.ownsRow_nil
theorem aN:type_of%@Bool.and_eq_true:=@Bool.and_eq_true
theorem aO:type_of%@Below.heap_alloc:=@Below.heap_alloc
theorem aP:type_of%@List.getElem?_eq_some_iff:=@List.getElem?_eq_some_iff
theorem aR:type_of%@Below.drew:=@Below.drew
theorem aS:type_of%@bodyPost_ret:=@bodyPost_ret
theorem aT:type_of%@List.take_succ_eq_append_getElem:=@List.take_succ_eq_append_getElem
theorem aV:type_of%@Array.getElem?_setIfInBounds_ne:=@Array.getElem?_setIfInBounds_ne
theorem aW:type_of%@List.drop_eq_getElem_cons:=@List.drop_eq_getElem_cons
theorem aZ:type_of%@Int.eq_ofNat_of_zero_le:=@Int.eq_ofNat_of_zero_le
theorem be:type_of%@List.mem_append:=@List.mem_append
theorem bj:type_of%@List.drop_eq_nil_of_le:=@List.drop_eq_nil_of_le
theorem bm:type_of%@List.mem_of_getElem?:=@List.mem_of_getElem?
theorem bn:type_of%@decide_eq_false:=@decide_eq_false
theorem bp:type_of%@List.length_nil:=@List.length_nil
theorem bq:type_of%@Nat.lt_of_lt_of_le:=@Nat.lt_of_lt_of_le
theorem bw:type_of%@ByteArray.size_append:=@ByteArray.size_append
theorem bz:type_of%@Array.getElem?_setIfInBounds_self_of_lt:=@Array.getElem?_setIfInBounds_self_of_lt
theorem bA:type_of%@List.take_length:=@List.take_length
theorem bC:type_of%@Int.toNat_natCast:=@Int.toNat_natCast
theorem bE:type_of%@info_parts:=@info_parts
theorem bG:type_of%@decide_eq_true:=@decide_eq_true
theorem bH:type_of%@bodyPost_end:=@bodyPost_end
theorem bI:type_of%@List.append_assoc:=@List.append_assoc
theorem bJ:type_of%@List.length_set:=@List.length_set
theorem bK:type_of%@List.length_map:=@List.length_map
theorem bN:type_of%@List.take_of_length_le:=@List.take_of_length_le
theorem bP:type_of%@Nat.le_succ_of_le:=@Nat.le_succ_of_le
theorem bQ:type_of%@List.getElem_cons_zero:=@List.getElem_cons_zero
theorem bR:type_of%@List.getElem?_set_self:=@List.getElem?_set_self
theorem bT:type_of%@World.size_alloc:=@World.size_alloc
theorem bU:type_of%@ByteArray.toList_eq:=@ByteArray.toList_eq
theorem bV:type_of%@Array.getElem?_eq_getElem:=@Array.getElem?_eq_getElem
theorem bY:type_of%@below_drewN:=@below_drewN
theorem bZ:type_of%@List.mem_map:=@List.mem_map
theorem b6:type_of%@Option.getD_some:=@Option.getD_some
theorem b8:type_of%@List.all_eq_true:=@List.all_eq_true
theorem b9:type_of%@List.getElem?_set_ne:=@List.getElem?_set_ne
theorem ce:type_of%@List.length_tail:=@List.length_tail
theorem ch:type_of%@List.length_eq_zero_iff:=@List.length_eq_zero_iff
theorem ck:type_of%@List.not_mem_nil:=@List.not_mem_nil
theorem cl:type_of%@List.mem_iff_getElem:=@List.mem_iff_getElem
theorem cm:type_of%@Bool.false_eq_true:=@Bool.false_eq_true
theorem cr:type_of%@Nat.zero_add:=@Nat.zero_add
theorem ct:type_of%@Nat.sub_self:=@Nat.sub_self
theorem cu:type_of%@List.mem_cons_of_mem:=@List.mem_cons_of_mem
theorem cw:type_of%@decide_eq_false_iff_not:=@decide_eq_false_iff_not
theorem cy:type_of%@Nat.add_zero:=@Nat.add_zero
theorem cz:type_of%@List.map_append:=@List.map_append
theorem cA:type_of%@List.append_nil:=@List.append_nil
theorem cB:type_of%@List.length_reverse:=@List.length_reverse
theorem cC:type_of%@Bool.and_eq_false_iff:=@Bool.and_eq_false_iff
theorem cD:type_of%@heap_drew:=@heap_drew
theorem cE:type_of%@beq_eq_false_iff_ne:=@beq_eq_false_iff_ne
theorem cF:type_of%@List.length_take:=@List.length_take
theorem cH:type_of%@List.getElem?_map:=@List.getElem?_map
theorem cI:type_of%@List.length_drop:=@List.length_drop
theorem cN:type_of%@List.getElem_append_right:=@List.getElem_append_right
theorem cO:type_of%@List.tail_cons:=@List.tail_cons
theorem cQ:type_of%@if_true:=@if_true
theorem cR:type_of%@ByteArray.size_extract:=@ByteArray.size_extract
theorem cS:type_of%@List.mem_of_mem_take:=@List.mem_of_mem_take
theorem cW:type_of%@List.map_cons:=@List.map_cons
theorem cY:type_of%@List.findIdx?_eq_some_iff_getElem:=@List.findIdx?_eq_some_iff_getElem
theorem db:type_of%@List.headD_cons:=@List.headD_cons
theorem dc:type_of%@if_false:=@if_false
theorem dd:type_of%@List.getElem_append_left:=@List.getElem_append_left
theorem de:type_of%@Array.size_setIfInBounds:=@Array.size_setIfInBounds
theorem dg:type_of%@List.drop_succ_cons:=@List.drop_succ_cons
theorem dh:type_of%@List.nodup_cons:=@List.nodup_cons
theorem di:type_of%@List.nil_append:=@List.nil_append
theorem dp:type_of%@Bool.true_and:=@Bool.true_and
theorem dq:type_of%@Nat.mul_le_mul_right:=@Nat.mul_le_mul_right
theorem dr:type_of%@List.mem_of_mem_drop:=@List.mem_of_mem_drop
theorem du:type_of%@List.take_zero:=@List.take_zero
theorem dv:type_of%@List.foldl_cons:=@List.foldl_cons
theorem dw:type_of%@List.drop_zero:=@List.drop_zero
theorem dy:type_of%@List.flatMap_cons:=@List.flatMap_cons
theorem dE:type_of%@List.mem_singleton:=@List.mem_singleton
theorem dF:type_of%@UInt8.toNat_inj:=@UInt8.toNat_inj
theorem dJ:type_of%@List.getElem_cons_succ:=@List.getElem_cons_succ
theorem dK:type_of%@Calls.quiet_of_same:=@Calls.quiet_of_same
theorem dV:type_of%@or_false:=@or_false
theorem dW:type_of%@Nat.pow_le_pow_right:=@Nat.pow_le_pow_right
theorem dY:type_of%@List.map_take:=@List.map_take
theorem ei:type_of%@List.take_succ_cons:=@List.take_succ_cons
theorem eJ:type_of%@List.singleton_append:=@List.singleton_append
theorem eM:type_of%@Nat.lt_succ_self:=@Nat.lt_succ_self
theorem eN:type_of%@List.mem_reverse:=@List.mem_reverse
theorem eO:type_of%@List.cons_append:=@List.cons_append
theorem eV:type_of%@decide_true:=@decide_true
theorem eW:type_of%@List.mem_of_mem_tail:=@List.mem_of_mem_tail
theorem fg:type_of%@World.ownsRow_lit:=@World.ownsRow_lit
theorem fm:type_of%@Bool.eq_iff_iff:=@Bool.eq_iff_iff
theorem ft:type_of%@List.map_congr_left:=@List.map_congr_left
theorem fw:type_of%@List.length_pos_iff:=@List.length_pos_iff
theorem fA:type_of%@Nat.zero_mul:=@Nat.zero_mul
theorem fB:type_of%@List.map_nil:=@List.map_nil
theorem fI:type_of%@wpList_make_full:=@wpList_make_full
theorem fJ:type_of%@List.mem_flatMap:=@List.mem_flatMap
theorem fL:type_of%@heap_setCell_other:=@heap_setCell_other
theorem fV:type_of%@List.foldl_append:=@List.foldl_append
theorem fW:type_of%@Bool.not_eq_true':=@Bool.not_eq_true'
theorem go:type_of%@List.mem_range:=@List.mem_range
theorem gr:type_of%@Nat.le_succ:=@Nat.le_succ
theorem gF:type_of%@Option.map_some:=@Option.map_some
theorem gG:type_of%@Option.map_none:=@Option.map_none
theorem gH:type_of%@Nat.min_eq_left:=@Nat.min_eq_left
theorem gI:type_of%@Bool.or_eq_true:=@Bool.or_eq_true
theorem hG:type_of%@List.drop_drop:=@List.drop_drop
theorem iq:type_of%@Nat.le_of_lt:=@Nat.le_of_lt
theorem iS:type_of%@List.getElem_range:=@List.getElem_range
theorem iW:type_of%@Nat.mul_one:=@Nat.mul_one
theorem ji:type_of%@List.map_map:=@List.map_map
theorem jE:type_of%@List.getElem_map:=@List.getElem_map
theorem jG:type_of%@Nat.add_assoc:=@Nat.add_assoc
theorem kQ:type_of%@and_true:=@and_true
theorem kR:type_of%@Below.mono:=@Below.mono
theorem mf:type_of%@dif_pos:=@dif_pos
set_option maxHeartbeats 8000000
def isL (c:Int):Bool:=decide (97<=c/\c<=122)
def isD (c:Int):Bool:=decide (48<=c/\c<=57)
def isB (c:Int):Bool:=decide (c=32\/c=10)
def oL (a b:Int):Bool:=if isL a then isL b||isD b else isD a && isD b
theorem bL {a b:Bool} (h:a=b):Ending.returned (.bool a)=.returned (.bool b):=by rw [h]
theorem ee {k:IntKind} {a b:Int} (h:a=b):Ending.returned (.int k a)=.returned (.int k b):=by rw [h]
theorem mH (c:Int) (w:World):
 Calls Tryz.prog 122 #[.int .u8 c] w fun e w'=>e=.returned (.bool (isL c))/\w'=w:=by
 by_cases h1:97<=c
 ·by_cases h2:c<=122
  all_goals
   go_enter Tryz.func122,Tryz.ntmps122
   go_wp2
   go_ret
   exact ⟨bL (by simp [isL, *]),rfl⟩
 ·go_enter Tryz.func122,Tryz.ntmps122
  go_wp2
  go_ret
  exact ⟨bL (by simp [isL];omega),rfl⟩
theorem rS (c:Int) (w:World):
 Calls Tryz.prog 123 #[.int .u8 c] w fun e w'=>e=.returned (.bool (isD c))/\w'=w:=by
 by_cases h1:48<=c
 ·by_cases h2:c<=57
  all_goals
   go_enter Tryz.func123,Tryz.ntmps123
   go_wp2
   go_ret
   exact ⟨bL (by simp [isD, *]),rfl⟩
 ·go_enter Tryz.func123,Tryz.ntmps123
  go_wp2
  go_ret
  exact ⟨bL (by simp [isD];omega),rfl⟩
theorem rT (c:Int) (w:World):
 Calls Tryz.prog 78 #[.int .u8 c] w fun e w'=>e=.returned (.bool (isB c))/\w'=w:=by
 by_cases h1:(c==32)=true
 ·go_enter Tryz.func78,Tryz.ntmps78
  go_wp2
  go_ret
  exact ⟨bL (by simp at h1;simp [isB,h1]),rfl⟩
 ·have nO:(c==32)=false:=by simpa using h1
  clear h1;go_enter Tryz.func78,Tryz.ntmps78
  go_wp2
  go_ret
  exact ⟨bL (by simp at nO;rw [fm];simp [isB,nO]),rfl⟩
theorem Fv (a b:Int) (w:World):
 Calls Tryz.prog 77 #[.int .u8 a,.int .u8 b] w fun e w'=>e=.returned (.bool (oL a b))/\w'=w:=by
 cases ha:isL a
 ·cases hd:isD a
  all_goals
   go_enter Tryz.func77,Tryz.ntmps77
   go_wp2_with (first|(go_at_call 122;refine (mH _ _).mono ?_;rintro e w' ⟨rfl,rfl⟩)|(go_at_call 123;refine (rS _ _).mono ?_;rintro e w' ⟨rfl,rfl⟩))
   go_ret
   exact ⟨bL (by simp [oL, *]),rfl⟩
 ·cases hb:isL b
  all_goals
   go_enter Tryz.func77,Tryz.ntmps77
   go_wp2_with (first|(go_at_call 122;refine (mH _ _).mono ?_;rintro e w' ⟨rfl,rfl⟩)|(go_at_call 123;refine (rS _ _).mono ?_;rintro e w' ⟨rfl,rfl⟩))
   go_ret
   exact ⟨bL (by simp [oL, *]),rfl⟩
theorem xM (k l m:Int) (w:World):
 Calls Tryz.prog 124 #[.int .i64 k,.int .i64 l,.int .i64 m] w fun e w'=>e=.returned (.int .i64 (if m<l then 0 else k))/\w'=w:=by
 by_cases h:m<l
 all_goals
  go_enter Tryz.func124,Tryz.ntmps124
  go_wp2
  go_ret
  exact ⟨ee (by simp [*]),rfl⟩
def iL (c:Int) (n:Nat):Int:=
 if isL c then (if 8<n then 0 else 1) else if isD c then (if 6<n then 0 else 2)
 else if c=43\/c=45\/c=42\/c=60\/c=63 then 3 else if c=61 then 4 else if c=59 then 5 else if c=40 then 6 else if c=41 then 7 else 0
def bt (t:ByteArray) (i:Nat):Int:=((t.data[i]?.getD 0).toNat:Int)
theorem kO (t:ByteArray) (i:Nat) (h:i<t.size):((t[i]'h).toNat:Int)=bt t i:=by
 unfold bt;rw [bV (show i<t.data.size from h)];rfl
theorem cg (t:ByteArray):t.size=t.data.toList.length:=by
 show t.data.size=_
 simp
def bf (t:ByteArray):Int:=iL (bt t 0) t.size
theorem oi (t:ByteArray) (h:0<t.size):t.toList.isEmpty=false:=by
 rw [bU];rw [cg] at h;cases hl:t.data.toList with
 |nil=>rw [hl] at h;simp at h
 |cons _ _=>rfl
theorem uJ (t:ByteArray) (w:World) (ht:0<t.size) (hm:t.size<=1000):
 Calls Tryz.prog 79 #[.string t] w fun e w'=>e=.returned (.int .i64 (bf t))/\w'=w:=by
 have dI:=oi t ht;unfold bf;have hc:=kO t 0 ht;generalize bt t 0=c at*;cases hl:isL c
 ·cases hd:isD c
  ·go_enter Tryz.func79,Tryz.ntmps79
   go_wp2_with (first|(go_at_call 122;refine (mH _ _).mono ?_;rintro e w' ⟨rfl,rfl⟩)|(go_at_call 123;refine (rS _ _).mono ?_;rintro e w' ⟨rfl,rfl⟩))
   all_goals (go_ret;exact ⟨ee (by simp_all [iL]),rfl⟩)
  ·go_enter Tryz.func79,Tryz.ntmps79
   go_wp2_with (first|(go_at_call 122;refine (mH _ _).mono ?_;rintro e w' ⟨rfl,rfl⟩)|(go_at_call 123;refine (rS _ _).mono ?_;rintro e w' ⟨rfl,rfl⟩)|(go_at_call 124;refine (xM _ _ _ _).mono ?_;rintro e w' ⟨rfl,rfl⟩))
   all_goals (go_ret;exact ⟨ee (by simp [iL, *];try omega),rfl⟩)
 ·go_enter Tryz.func79,Tryz.ntmps79
  go_wp2_with (first|(go_at_call 122;refine (mH _ _).mono ?_;rintro e w' ⟨rfl,rfl⟩)|(go_at_call 124;refine (xM _ _ _ _).mono ?_;rintro e w' ⟨rfl,rfl⟩))
  all_goals (go_ret;exact ⟨ee (by simp [iL, *];try omega),rfl⟩)
structure Tk where
 pos:Nat
 txt:ByteArray
def lM (s:ByteArray) (i e:Nat):Nat:=
 if e<s.size then (if oL (bt s i) (bt s e) then lM s i (e+1) else e) else e
termination_by s.size-e
theorem tP (s:ByteArray) (i e:Nat):e<=lM s i e:=by
 fun_induction lM s i e<;>omega
theorem wY (s:ByteArray) (i e:Nat) (h:e<=s.size):lM s i e<=s.size:=by
 fun_induction lM s i e<;>omega
theorem Ib (s:ByteArray) (i e:Nat) (h:e<s.size) (hg:oL (bt s i) (bt s e)=true):lM s i e=lM s i (e+1):=by
 rw [lM,aA h,aA hg]
theorem pU (s:ByteArray) (i e:Nat) (h:e<s.size) (hg:oL (bt s i) (bt s e)=false):lM s i e=e:=by
 rw [lM,aA h,hg];rfl
theorem sm (s:ByteArray) (i e:Nat) (h:¬e<s.size):lM s i e=e:=by
 rw [lM,ay h]
def ci (s:ByteArray) (i:Nat):List Tk:=
 if i<s.size then (if isB (bt s i) then [] else [⟨i,s.extract i (lM s i (i+1))⟩])++ci s (lM s i (i+1)) else []
termination_by s.size-i
decreasing_by have:=tP s i (i+1);omega
theorem xG (s:ByteArray) (i:Nat) (h:¬i<s.size):ci s i=[]:=by rw [ci,ay h]
theorem oa (s:ByteArray) (i:Nat) (h:i<s.size) (hb:isB (bt s i)=true):ci s i=ci s (lM s i (i+1)):=by
 rw [ci,aA h,aA hb,di]
theorem sC (s:ByteArray) (i:Nat) (h:i<s.size) (hb:isB (bt s i)=false):ci s i=⟨i,s.extract i (lM s i (i+1))⟩::ci s (lM s i (i+1)):=by
 rw [ci,aA h,hb];rfl
def lC (t:Tk):List Value:=[.int .i64 (bf t.txt),.int .i64 t.pos,.string t.txt]
def tcs (ts:List Tk):List Value:=ts.flatMap lC
theorem rQ (ts:List Tk) (t:Tk):tcs (ts++[t])=tcs ts++lC t:=by simp [tcs]
theorem nw (t:Tk):∀u∈lC t,u.oneCell'=true:=by
 intro u hu;simp only [lC,aK,ck,dV] at hu;rcases hu with rfl|rfl|rfl<;>rfl
theorem Tryz.infoTok:(Tryz.prog.info? 73).map (fun i=>(i.zero,i.size,i.bytes))=some (some (.agg #[.int .i64 0,.int .i64 0,.string ByteArray.empty]),3,32):=by kernel_rfl
theorem CY (s:ByteArray) (w:World) (hs:s.size<=1000):
 Calls Tryz.prog 41 #[.string s] w fun e w'=>∃v,e=.returned v/\w'.ownsRow w.heap.size 73 3 v (ci s 0).length (tcs (ci s 0))/\Below w.heap.size w w':=by
 obtain ⟨i,hi,fp,dQ,eF⟩:=bE Tryz.infoTok;go_enter Tryz.func41,Tryz.ntmps41
 go_wp2_with fail
 go_loopw [3,4] (fun v a wr=>∃(k:Nat) (ts:List Tk),k<=s.size/\a=.int .i64 k/\ts.length<=k/\Hid (ts++ci s k=ci s 0)/\wr.ownsRow w.heap.size 73 3 v ts.length (tcs ts)/\Below w.heap.size w wr) (fun _ a _=>s.size-(intOf a).toNat)
 case atStart=>exact ⟨0,[],aF _,rfl,ah _,rfl,aM _ _ _ _,ai _ _⟩
 case round=>
  obtain ⟨k,ts,hk,rfl,ez,HT,hown,hb⟩:=hrel;by_cases bF:k<s.size
  ·obtain ⟨wo,rfl⟩:∃wo:World,wo=wr:=⟨_,rfl⟩;go_wp2_with fail
   go_loopw [5] (fun e wx=>∃(j:Nat),k+1<=j/\j<=s.size/\e=.int .i64 j/\Hid (lM s k j=lM s k (k+1))/\wx.ownsRow w.heap.size 73 3 u3 ts.length (tcs ts)/\Below w.heap.size w wx) (fun e _=>s.size-(intOf e).toNat)
   case atStart=>exact ⟨k+1,ah _,by omega,rfl,rfl,hown,hb⟩
   case round=>
    clear hown hb;obtain ⟨j,hj1,nV,rfl,HE,hown,hb⟩:=hrel;have hck:=kO s k bF;have QH:(∃h:j<s.size,oL (bt s k) (bt s j)=true)\/(j<s.size/\oL (bt s k) (bt s j)=false)\/¬j<s.size:=by
     by_cases h:j<s.size
     ·cases hg:oL (bt s k) (bt s j)
      ·exact .inr (.inl ⟨h,rfl⟩)
      ·exact .inl ⟨h,rfl⟩
     ·exact .inr (.inr h)
    rcases QH with ⟨dG,hg⟩|MR
    ·have hcj:=kO s j dG;have HG:Hid (lM s k (j+1)=lM s k (k+1)):=by rw [<-Ib s k j dG hg];exact HE.out
     go_wp2_with fail
     go_quiet ((go_at_call 77;exact dK (Fv _ _ _)))
     go_wp2_with fail
     go_roundw
     case rel=>exact ⟨j+1,by omega,by omega,by go_num,HG,hown,bY hb _⟩
     case measure=>simp [intOf];omega
    ·have HS:Hid (lM s k (k+1)=j):=by
      rw [<-HE.out];rcases MR with ⟨h,hg⟩|h
      ·exact pU s k j h hg
      ·exact sm s k j h
     have iG:(s.extract k j).size=j-k:=by rw [cR];omega
     have Gj:0<(s.extract k j).size:=by omega
     have lJ:(s.extract k j).size<=1000:=by omega
     clear iG;rcases MR with ⟨dG,hg⟩|dG
     ·have hcj:=kO s j dG;go_wp2_with fail
      go_quiet ((go_at_call 77;exact dK (Fv _ _ _)))
      clear hcj hg dG;have tf:(wr.drewN nq).ownsRow w.heap.size 73 3 u3 ts.length (tcs ts):=hown;have tE:Below w.heap.size w (wr.drewN nq):=bY hb nq;clear hown hb;cases gZ:isB (bt s k)
      ·have Bj:Hid ((ts++[⟨k,s.extract k j⟩])++ci s j=ci s 0):=by
        have h:=HT.out;rw [sC s k bF gZ,HS.out] at h;show _=_
        rw [<-h];simp
       go_wp2_with (first|(go_at_call 78;refine (rT _ _).mono ?_;rintro e w' ⟨rfl,rfl⟩)|(go_at_call 79;refine (uJ _ _ Gj lJ).mono ?_;rintro e w' ⟨rfl,rfl⟩)|(at_builtin;refine wpList_append_lies _ rfl _ _ _ rfl w.heap.size 73 i _ 3 32 Tryz.underlying74 hi fp dQ eF rfl (by omega) u3 ts.length (tcs ts) rfl ?hown _ 1 _ (lC ⟨k,s.extract k j⟩) rfl rfl ?dA ?h1 (by omega) ?kj ?cP ?cX _ rfl ?_))
       case hown=>exact tf.alloc _
       case dA=>exact World.news_of_block (az (wr.drewN nq) _)
       case h1=>exact nw _
       case kj=>unfold maxLen;omega
       case cP=>omega
       case cX=>have:=tE.size;simp at this ⊢;omega
       intro g cap w1 dR bD dt um;go_wp2_with fail
       go_roundw
       case rel=>
        refine ⟨j,ts++[⟨k,s.extract k j⟩],nV,rfl,by simp;omega,Bj,?_,?_⟩
        ·rw [rQ,au];exact dR
        ·exact (tE.alloc tE.size _).grown bD (by have:=tE.size;simp at this ⊢;omega) (fun q hq=>(tf.lt q hq).1)
       case measure=>simp [intOf];omega
      ·have Bj:Hid (ts++ci s j=ci s 0):=by
        have h:=HT.out;rw [oa s k bF gZ,HS.out] at h;exact h
       go_wp2_with (first|(go_at_call 78;refine (rT _ _).mono ?_;rintro e w' ⟨rfl,rfl⟩))
       go_roundw
       case rel=>exact ⟨j,ts,nV,rfl,by omega,Bj,tf,tE⟩
       case measure=>simp [intOf];omega
     ·have hd:decide (j<s.size)=false:=by simpa using dG
      go_wp2_with fail
      go_quiet (fail)
      clear hd dG;have tf:(wr.drewN nq).ownsRow w.heap.size 73 3 u3 ts.length (tcs ts):=hown;have tE:Below w.heap.size w (wr.drewN nq):=bY hb nq;clear hown hb;cases gZ:isB (bt s k)
      ·have Bj:Hid ((ts++[⟨k,s.extract k j⟩])++ci s j=ci s 0):=by
        have h:=HT.out;rw [sC s k bF gZ,HS.out] at h;show _=_
        rw [<-h];simp
       go_wp2_with (first|(go_at_call 78;refine (rT _ _).mono ?_;rintro e w' ⟨rfl,rfl⟩)|(go_at_call 79;refine (uJ _ _ Gj lJ).mono ?_;rintro e w' ⟨rfl,rfl⟩)|(at_builtin;refine wpList_append_lies _ rfl _ _ _ rfl w.heap.size 73 i _ 3 32 Tryz.underlying74 hi fp dQ eF rfl (by omega) u3 ts.length (tcs ts) rfl ?hown _ 1 _ (lC ⟨k,s.extract k j⟩) rfl rfl ?dA ?h1 (by omega) ?kj ?cP ?cX _ rfl ?_))
       case hown=>exact tf.alloc _
       case dA=>exact World.news_of_block (az (wr.drewN nq) _)
       case h1=>exact nw _
       case kj=>unfold maxLen;omega
       case cP=>omega
       case cX=>have:=tE.size;simp at this ⊢;omega
       intro g cap w1 dR bD dt um;go_wp2_with fail
       go_roundw
       case rel=>
        refine ⟨j,ts++[⟨k,s.extract k j⟩],nV,rfl,by simp;omega,Bj,?_,?_⟩
        ·rw [rQ,au];exact dR
        ·exact (tE.alloc tE.size _).grown bD (by have:=tE.size;simp at this ⊢;omega) (fun q hq=>(tf.lt q hq).1)
       case measure=>simp [intOf];omega
      ·have Bj:Hid (ts++ci s j=ci s 0):=by
        have h:=HT.out;rw [oa s k bF gZ,HS.out] at h;exact h
       go_wp2_with (first|(go_at_call 78;refine (rT _ _).mono ?_;rintro e w' ⟨rfl,rfl⟩))
       go_roundw
       case rel=>exact ⟨j,ts,nV,rfl,by omega,Bj,tf,tE⟩
       case measure=>simp [intOf];omega
  ·go_wp2_with fail
   go_ret
   have e0:k=s.size:=by omega
   have e1:ts=ci s 0:=by rw [<-HT.out,xG s k (by omega),cA]
   subst e1;exact ⟨_,rfl,hown,hb⟩
structure Gr where
 aw:Int
 fn:Int
 pa:Int
 no:Int
 wi:Int
 ar:List Int
def fP (k:Int):Bool:=decide (k=1\/k=2\/k=3)
def dN (g:Gr) (k:Int):Int×Gr:=if k≠1 then (2,g) else if 16<=g.fn then (3,g) else (0,{g with fn:=g.fn+1,pa:=0,aw:=1})
def da (g:Gr) (k:Int):Int×Gr:=if k=4 then (0,{g with no:=0,aw:=2}) else if k≠1 then (2,g) else if 6<=g.pa then (3,g) else (0,{g with pa:=g.pa+1})
def mw (g:Gr) (k:Int):Int×Gr:=if fP k then (0,{g with wi:=1,aw:=3}) else (2,g)
def cG (g:Gr):Int×Gr:=
 if 8<=g.wi then (3,g) else if g.wi+1≠2\/g.ar=[] then (0,{g with wi:=g.wi+1}) else if 12<=g.no then (3,{g with wi:=g.wi+1}) else (0,{g with wi:=g.wi+1,no:=g.no+1})
def iR (g:Gr):Int×Gr:=if g.ar=[] then (0,{g with aw:=0}) else (2,g)
def eG (g:Gr):Int×Gr:=if g.ar=[] then (2,g) else (0,{g with wi:=g.ar.getLast?.getD 0,ar:=g.ar.dropLast})
def iw (g:Gr):Int×Gr:=if (cG g).1=0 then (0,{(cG g).2 with ar:=(cG g).2.ar++[(cG g).2.wi],aw:=2}) else cG g
def gq (g:Gr) (k:Int):Int×Gr:=if k=5 then iR g else if k=7 then eG g else if k=6 then iw g else if fP k then cG g else (2,g)
def cZ (g:Gr) (k:Int):Int×Gr:=if g.aw=0 then dN g k else if g.aw=1 then da g k else if g.aw=2 then mw g k else gq g k
def uE (w:World) (b:Nat) (g:Gr) (av:Value):Prop:=
 w.heap[b]?=some (.cells #[.int .i64 g.aw,.int .i64 g.fn,.int .i64 g.pa,.int .i64 g.no,.int .i64 g.wi,av] 142 (0,0))
theorem uE.c0 {w:World} {b:Nat} {g:Gr} {av:Value} (h:uE w b g av):w.cell? ⟨b,0,none⟩=some (.int .i64 g.aw):=by rw [al w b 0 _ _ _ h];rfl
theorem uE.c1 {w:World} {b:Nat} {g:Gr} {av:Value} (h:uE w b g av):w.cell? ⟨b,1,none⟩=some (.int .i64 g.fn):=by rw [al w b 1 _ _ _ h];rfl
theorem uE.c2 {w:World} {b:Nat} {g:Gr} {av:Value} (h:uE w b g av):w.cell? ⟨b,2,none⟩=some (.int .i64 g.pa):=by rw [al w b 2 _ _ _ h];rfl
theorem uE.c3 {w:World} {b:Nat} {g:Gr} {av:Value} (h:uE w b g av):w.cell? ⟨b,3,none⟩=some (.int .i64 g.no):=by rw [al w b 3 _ _ _ h];rfl
theorem uE.c4 {w:World} {b:Nat} {g:Gr} {av:Value} (h:uE w b g av):w.cell? ⟨b,4,none⟩=some (.int .i64 g.wi):=by rw [al w b 4 _ _ _ h];rfl
theorem uE.c5 {w:World} {b:Nat} {g:Gr} {av:Value} (h:uE w b g av):w.cell? ⟨b,5,none⟩=some av:=by rw [al w b 5 _ _ _ h];rfl
theorem uE.fz {w:World} {b:Nat} {g:Gr} {av:Value} (h:uE w b g av) (j:Nat):w.frozen? ⟨b,j,none⟩=false:=aG w b j _ _ h
theorem bk {w:World} {b i:Nat} {cs:Array Value} {t:TypeId} (v:Value) (h:w.heap[b]?=some (.cells cs t (0,0))):(w.setCell ⟨b,i,none⟩ v).heap[b]?=some (.cells (cs.setIfInBounds i v) t (0,0)):=
 heap_setCell_same w b i cs t v h
theorem aB {w:World} {base b i:Nat} {e:TypeId} {size n:Nat} {v u:Value} {xs:List Value} {cs:Array Value} {t:TypeId} (h:w.ownsRow base e size v n xs) (hb:w.heap[b]?=some (.cells cs t (0,0))) (dI:e≠t):
 (w.setCell ⟨b,i,none⟩ u).ownsRow base e size v n xs:=by
 refine ⟨h.1,?_⟩
 rcases h.2 with hn|⟨g,cap,cur,hv,hg,hh,r⟩
 ·exact .inl hn
 ·refine .inr ⟨g,cap,cur,hv,hg,?_,r⟩
  rw [fL _ _ _ _ (by intro e1;simp only at e1;subst e1;rw [hh] at hb;simp at hb;exact dI hb.2)];exact hh
def jp (l:List Int):List Value:=l.map (Value.int .i64)
def Oth (w0 w:World):Prop:=∀(k:Nat) (cs:Array Value) (t:TypeId) (fr:Nat×Nat),t≠142->t≠3->w0.heap[k]?=some (.cells cs t fr)->w.heap[k]?=some (.cells cs t fr)
theorem Oth.refl (w:World):Oth w w:=fun _ _ _ _ _ _ h=>h
theorem Oth.set {w0 w:World} {b i:Nat} {cs:Array Value} (u:Value) (h:Oth w0 w) (hb:w.heap[b]?=some (.cells cs 142 (0,0))):Oth w0 (w.setCell ⟨b,i,none⟩ u):=by
 intro k cs' t fr h1 h2 h3;have h4:=h k cs' t fr h1 h2 h3;rw [fL _ _ _ _ (by intro e;simp only at e;subst e;rw [hb] at h4;simp at h4;exact h1 h4.2.1.symm)];exact h4
structure GRep (B:Nat) (w0 w:World) (b:Nat) (g:Gr) (av:Value):Prop where
 blk:uE w b g av
 lo:B<=b
 row:w.ownsRow B 3 1 av g.ar.length (jp g.ar)
 bel:Below B w0 w
 oth:Oth w0 w
theorem GRep.set0 {B:Nat} {w0 w:World} {b:Nat} {g:Gr} {av:Value} (h:GRep B w0 w b g av) (x:Int):GRep B w0 (w.setCell ⟨b,0,none⟩ (.int .i64 x)) b {g with aw:=x} av:=
 ⟨bk _ h.blk,h.lo,aB h.row h.blk (by decide),h.bel.setCell h.lo _,h.oth.set _ h.blk⟩
theorem GRep.set1 {B:Nat} {w0 w:World} {b:Nat} {g:Gr} {av:Value} (h:GRep B w0 w b g av) (x:Int):GRep B w0 (w.setCell ⟨b,1,none⟩ (.int .i64 x)) b {g with fn:=x} av:=
 ⟨bk _ h.blk,h.lo,aB h.row h.blk (by decide),h.bel.setCell h.lo _,h.oth.set _ h.blk⟩
theorem GRep.set2 {B:Nat} {w0 w:World} {b:Nat} {g:Gr} {av:Value} (h:GRep B w0 w b g av) (x:Int):GRep B w0 (w.setCell ⟨b,2,none⟩ (.int .i64 x)) b {g with pa:=x} av:=
 ⟨bk _ h.blk,h.lo,aB h.row h.blk (by decide),h.bel.setCell h.lo _,h.oth.set _ h.blk⟩
theorem GRep.set3 {B:Nat} {w0 w:World} {b:Nat} {g:Gr} {av:Value} (h:GRep B w0 w b g av) (x:Int):GRep B w0 (w.setCell ⟨b,3,none⟩ (.int .i64 x)) b {g with no:=x} av:=
 ⟨bk _ h.blk,h.lo,aB h.row h.blk (by decide),h.bel.setCell h.lo _,h.oth.set _ h.blk⟩
theorem GRep.set4 {B:Nat} {w0 w:World} {b:Nat} {g:Gr} {av:Value} (h:GRep B w0 w b g av) (x:Int):GRep B w0 (w.setCell ⟨b,4,none⟩ (.int .i64 x)) b {g with wi:=x} av:=
 ⟨bk _ h.blk,h.lo,aB h.row h.blk (by decide),h.bel.setCell h.lo _,h.oth.set _ h.blk⟩
theorem GRep.lt {B:Nat} {w0 w:World} {b:Nat} {g:Gr} {av:Value} (h:GRep B w0 w b g av):b<w.heap.size:=(ae.1 h.blk).1
theorem pb (k:Int) (w:World):
 Calls Tryz.prog 163 #[.int .i64 k] w fun e w'=>e=.returned (.bool (fP k))/\w'=w:=by
 by_cases h1:k=1
 ·subst h1;go_enter Tryz.func163,Tryz.ntmps163
  go_wp2
  go_ret
  exact ⟨rfl,rfl⟩
 ·by_cases h2:k=2
  ·subst h2;go_enter Tryz.func163,Tryz.ntmps163
   go_wp2
   go_ret
   exact ⟨rfl,rfl⟩
  ·have nO:(k==1)=false:=by simpa using h1
   have zr:(k==2)=false:=by simpa using h2
   clear h1 h2;go_enter Tryz.func163,Tryz.ntmps163
   go_wp2
   go_ret
   refine ⟨bL ?_,rfl⟩
   simp at nO zr;rw [fm];simp [fP,nO,zr]
theorem vW (B b:Nat) (g:Gr) (av:Value) (k:Int) (w0 w:World) (h:GRep B w0 w b g av) (h0:0<=g.fn):
 Calls Tryz.prog 125 #[.pointer (some ⟨b,0,none⟩),.int .i64 k] w fun e w'=>e=.returned (.int .i64 (dN g k).1)/\∃av',GRep B w0 w' b (dN g k).2 av':=by
 have c0:=h.blk.c0;have c1:=h.blk.c1;have c2:=h.blk.c2;have c3:=h.blk.c3;have c4:=h.blk.c4;have c5:=h.blk.c5;have f0:=h.blk.fz 0;have f1:=h.blk.fz 1;have f2:=h.blk.fz 2;have f3:=h.blk.fz 3;have f4:=h.blk.fz 4;have f5:=h.blk.fz 5;obtain ⟨aw,fn,pa,no,wi,ar⟩:=g;simp only at*;by_cases hk:k=1
 ·subst hk;by_cases hf:16<=fn
  ·rw [show dN ⟨aw,fn,pa,no,wi,ar⟩ 1=(3,⟨aw,fn,pa,no,wi,ar⟩) by simp [dN,hf]];go_enter Tryz.func125,Tryz.ntmps125
   go_wp2
   go_ret
   exact ⟨rfl,av,h⟩
  ·rw [show dN ⟨aw,fn,pa,no,wi,ar⟩ 1=(0,⟨1,fn+1,0,no,wi,ar⟩) by simp [dN,hf]];go_enter Tryz.func125,Tryz.ntmps125
   go_wp2
   go_ret
   exact ⟨rfl,av,((h.set1 _).set2 _).set0 _⟩
 ·have vk:(k==1)=false:=by simpa using hk
  rw [show dN ⟨aw,fn,pa,no,wi,ar⟩ k=(2,⟨aw,fn,pa,no,wi,ar⟩) by simp [dN,hk]];clear hk;go_enter Tryz.func125,Tryz.ntmps125
  go_wp2
  go_ret
  exact ⟨rfl,av,h⟩
theorem uh (B b:Nat) (g:Gr) (av:Value) (k:Int) (w0 w:World) (h:GRep B w0 w b g av) (h0:0<=g.pa):
 Calls Tryz.prog 126 #[.pointer (some ⟨b,0,none⟩),.int .i64 k] w fun e w'=>e=.returned (.int .i64 (da g k).1)/\∃av',GRep B w0 w' b (da g k).2 av':=by
 have c0:=h.blk.c0;have c1:=h.blk.c1;have c2:=h.blk.c2;have c3:=h.blk.c3;have c4:=h.blk.c4;have c5:=h.blk.c5;have f0:=h.blk.fz 0;have f1:=h.blk.fz 1;have f2:=h.blk.fz 2;have f3:=h.blk.fz 3;have f4:=h.blk.fz 4;have f5:=h.blk.fz 5;obtain ⟨aw,fn,pa,no,wi,ar⟩:=g;simp only at*;by_cases hk:k=4
 ·subst hk;rw [show da ⟨aw,fn,pa,no,wi,ar⟩ 4=(0,⟨2,fn,pa,0,wi,ar⟩) by simp [da]];go_enter Tryz.func126,Tryz.ntmps126
  go_wp2
  go_ret
  exact ⟨rfl,av,(h.set3 _).set0 _⟩
 ·by_cases eA:k=1
  ·subst eA;by_cases hf:6<=pa
   ·rw [show da ⟨aw,fn,pa,no,wi,ar⟩ 1=(3,⟨aw,fn,pa,no,wi,ar⟩) by simp [da,hf]];go_enter Tryz.func126,Tryz.ntmps126
    go_wp2
    go_ret
    exact ⟨rfl,av,h⟩
   ·rw [show da ⟨aw,fn,pa,no,wi,ar⟩ 1=(0,⟨aw,fn,pa+1,no,wi,ar⟩) by simp [da,hf]];go_enter Tryz.func126,Tryz.ntmps126
    go_wp2
    go_ret
    exact ⟨rfl,av,h.set2 _⟩
  ·rw [show da ⟨aw,fn,pa,no,wi,ar⟩ k=(2,⟨aw,fn,pa,no,wi,ar⟩) by simp [da,hk,eA]];have vk:(k==4)=false:=by simpa using hk
   have Qf:(k==1)=false:=by simpa using eA
   clear hk eA;go_enter Tryz.func126,Tryz.ntmps126
   go_wp2
   go_ret
   exact ⟨rfl,av,h⟩
theorem Fq (B b:Nat) (g:Gr) (av:Value) (k:Int) (w0 w:World) (h:GRep B w0 w b g av):
 Calls Tryz.prog 127 #[.pointer (some ⟨b,0,none⟩),.int .i64 k] w fun e w'=>e=.returned (.int .i64 (mw g k).1)/\∃av',GRep B w0 w' b (mw g k).2 av':=by
 have c0:=h.blk.c0;have c1:=h.blk.c1;have c2:=h.blk.c2;have c3:=h.blk.c3;have c4:=h.blk.c4;have c5:=h.blk.c5;have f0:=h.blk.fz 0;have f1:=h.blk.fz 1;have f2:=h.blk.fz 2;have f3:=h.blk.fz 3;have f4:=h.blk.fz 4;have f5:=h.blk.fz 5;obtain ⟨aw,fn,pa,no,wi,ar⟩:=g;simp only at*;cases hs:fP k
 ·rw [show mw ⟨aw,fn,pa,no,wi,ar⟩ k=(2,⟨aw,fn,pa,no,wi,ar⟩) by simp [mw,hs]];go_enter Tryz.func127,Tryz.ntmps127
  go_wp2_with (go_at_call 163;refine (pb _ _).mono ?_;rintro e w' ⟨rfl,rfl⟩)
  go_ret
  exact ⟨rfl,av,h⟩
 ·rw [show mw ⟨aw,fn,pa,no,wi,ar⟩ k=(0,⟨3,fn,pa,no,1,ar⟩) by simp [mw,hs]];go_enter Tryz.func127,Tryz.ntmps127
  go_wp2_with (go_at_call 163;refine (pb _ _).mono ?_;rintro e w' ⟨rfl,rfl⟩)
  go_ret
  exact ⟨rfl,av,(h.set4 _).set0 _⟩
theorem aU {w:World} {base:Nat} {e:TypeId} {size n:Nat} {v:Value} {xs:List Value} (h:w.ownsRow base e size v n xs):∃ao cap,v=.slice ao n cap:=by
 rcases h.2 with ⟨rfl,rfl⟩|⟨g,cap,_,rfl,_⟩
 ·exact ⟨none,0,rfl⟩
 ·exact ⟨_,cap,rfl⟩
theorem fY {w:World} {base:Nat} {e:TypeId} {size n m cap:Nat} {ao:Option Addr} {xs:List Value} (h:w.ownsRow base e size (.slice ao m cap) n xs):m<=cap:=by
 rcases h.2 with ⟨h0,_⟩|⟨g,cap',_,h0,_,_,hc,_⟩
 ·cases h0;exact ah _
 ·cases h0;exact hc
theorem MC {l:List Int} (h:l≠[]):((l.length:Int)==0)=false:=by
 cases l with
 |nil=>exact absurd rfl h
 |cons a r=>simp;omega
structure Gr.ok (g:Gr):Prop where
 fn:0<=g.fn
 pa:0<=g.pa
 no:0<=g.no
 wi:0<=g.wi
 ar:∀x∈g.ar,0<=x
theorem qw (B b:Nat) (g:Gr) (av:Value) (w0 w:World) (h:GRep B w0 w b g av) (ok:g.ok):
 Calls Tryz.prog 167 #[.pointer (some ⟨b,0,none⟩)] w fun e w'=>e=.returned (.int .i64 (cG g).1)/\∃av',GRep B w0 w' b (cG g).2 av':=by
 have c0:=h.blk.c0;have c1:=h.blk.c1;have c2:=h.blk.c2;have c3:=h.blk.c3;have c4:=h.blk.c4;have c5:=h.blk.c5;have f0:=h.blk.fz 0;have f1:=h.blk.fz 1;have f2:=h.blk.fz 2;have f3:=h.blk.fz 3;have f4:=h.blk.fz 4;have f5:=h.blk.fz 5;obtain ⟨aw,fn,pa,no,wi,ar⟩:=g;simp only at*;have k1:0<=wi:=ok.wi;have k2:0<=no:=ok.no;clear ok;obtain ⟨ao,cap,rfl⟩:=aU h.row;by_cases h1:8<=wi
 ·rw [show cG ⟨aw,fn,pa,no,wi,ar⟩=(3,⟨aw,fn,pa,no,wi,ar⟩) by simp [cG,h1]];go_enter Tryz.func167,Tryz.ntmps167
  go_wp2
  go_ret
  exact ⟨rfl,_,h⟩
 ·by_cases h2:wi=1
  ·subst h2;by_cases h3:ar=[]
   ·rw [show cG ⟨aw,fn,pa,no,1,ar⟩=(0,⟨aw,fn,pa,no,2,ar⟩) by simp [cG,h3]];subst h3;go_enter Tryz.func167,Tryz.ntmps167
    go_wp2
    go_ret
    exact ⟨rfl,_,h.set4 _⟩
   ·have WK:=MC h3;by_cases h4:12<=no
    ·rw [show cG ⟨aw,fn,pa,no,1,ar⟩=(3,⟨aw,fn,pa,no,2,ar⟩) by simp [cG,h3,h4]];clear h3;go_enter Tryz.func167,Tryz.ntmps167
     go_wp2
     go_ret
     exact ⟨rfl,_,h.set4 _⟩
    ·rw [show cG ⟨aw,fn,pa,no,1,ar⟩=(0,⟨aw,fn,pa,no+1,2,ar⟩) by simp [cG,h3,h4]];clear h3;go_enter Tryz.func167,Tryz.ntmps167
     go_wp2
     go_ret
     exact ⟨rfl,_,(h.set4 _).set3 _⟩
  ·have zr:(wi+1==2)=false:=by rw [cE];omega
   rw [show cG ⟨aw,fn,pa,no,wi,ar⟩=(0,⟨aw,fn,pa,no,wi+1,ar⟩) by simp [cG,h1];omega];clear h2;go_enter Tryz.func167,Tryz.ntmps167
   go_wp2
   go_ret
   exact ⟨rfl,_,h.set4 _⟩
theorem N4 (B b:Nat) (g:Gr) (av:Value) (w0 w:World) (h:GRep B w0 w b g av):
 Calls Tryz.prog 164 #[.pointer (some ⟨b,0,none⟩)] w fun e w'=>e=.returned (.int .i64 (iR g).1)/\∃av',GRep B w0 w' b (iR g).2 av':=by
 have c0:=h.blk.c0;have c1:=h.blk.c1;have c2:=h.blk.c2;have c3:=h.blk.c3;have c4:=h.blk.c4;have c5:=h.blk.c5;have f0:=h.blk.fz 0;have f1:=h.blk.fz 1;have f2:=h.blk.fz 2;have f3:=h.blk.fz 3;have f4:=h.blk.fz 4;have f5:=h.blk.fz 5;obtain ⟨aw,fn,pa,no,wi,ar⟩:=g;simp only at*;obtain ⟨ao,cap,rfl⟩:=aU h.row;by_cases h3:ar=[]
 ·rw [show iR ⟨aw,fn,pa,no,wi,ar⟩=(0,⟨0,fn,pa,no,wi,ar⟩) by simp [iR,h3]];subst h3;go_enter Tryz.func164,Tryz.ntmps164
  go_wp2
  go_ret
  exact ⟨rfl,_,h.set0 _⟩
 ·rw [show iR ⟨aw,fn,pa,no,wi,ar⟩=(2,⟨aw,fn,pa,no,wi,ar⟩) by simp [iR,h3]];have h4:(0:Int)<(ar.length:Int):=by cases ar with|nil=>exact absurd rfl h3|cons _ _=>simp
  clear h3;go_enter Tryz.func164,Tryz.ntmps164
  go_wp2
  go_ret
  exact ⟨rfl,_,h⟩
theorem GRep.pop {B:Nat} {w0 w:World} {b:Nat} {aw fn pa no wi x:Int} {l:List Int} {q cap:Nat} (h:GRep B w0 w b ⟨aw,fn,pa,no,wi,l++[x]⟩ (.slice (some ⟨q,0,none⟩) (l.length+1) cap)) (y:Int):
 GRep B w0 ((w.setCell ⟨b,4,none⟩ (.int .i64 y)).setCell ⟨b,5,none⟩ (.slice (some ⟨q,0,none⟩) l.length cap)) b ⟨aw,fn,pa,no,y,l⟩ (.slice (some ⟨q,0,none⟩) l.length cap):=by
 have h4:=h.set4 y;refine ⟨bk _ h4.blk,h.lo,?_,h4.bel.setCell h.lo _,h4.oth.set _ h4.blk⟩
 have hr:=h4.row;simp only [jp,cz,cW,fB,au,aD,bp] at hr;exact aB (ownsRow_pop (by simp [jp]) hr) h4.blk (by decide)
theorem Fw (B b:Nat) (g:Gr) (av:Value) (w0 w:World) (h:GRep B w0 w b g av) (hn:g.ar.length<=1000000):
 Calls Tryz.prog 165 #[.pointer (some ⟨b,0,none⟩)] w fun e w'=>e=.returned (.int .i64 (eG g).1)/\∃av',GRep B w0 w' b (eG g).2 av':=by
 have c0:=h.blk.c0;have c1:=h.blk.c1;have c2:=h.blk.c2;have c3:=h.blk.c3;have c4:=h.blk.c4;have c5:=h.blk.c5;have f0:=h.blk.fz 0;have f1:=h.blk.fz 1;have f2:=h.blk.fz 2;have f3:=h.blk.fz 3;have f4:=h.blk.fz 4;have f5:=h.blk.fz 5;obtain ⟨aw,fn,pa,no,wi,ar⟩:=g;simp only at*;rcases List.eq_nil_or_concat ar with rfl|⟨l,x,rfl⟩
 ·obtain ⟨ao,cap,rfl⟩:=aU h.row;rw [show eG ⟨aw,fn,pa,no,wi,[]⟩=(2,⟨aw,fn,pa,no,wi,[]⟩) by simp [eG]];go_enter Tryz.func165,Tryz.ntmps165
  go_wp2
  go_ret
  exact ⟨rfl,_,h⟩
 ·simp only [List.concat_eq_append] at*;rw [show eG ⟨aw,fn,pa,no,wi,l++[x]⟩=(0,⟨aw,fn,pa,no,x,l⟩) by simp [eG]];obtain ⟨q,cap,rfl,_,_⟩:=h.row.form (by simp);simp only [au,aD,bp,cr] at*;have jb:l.length+1<=cap:=fY h.row;have cq:w.cell? ⟨q,l.length,none⟩=some (.int .i64 x):=by
   have:=h.row.cells (g:=q) rfl l.length (.int .i64 x) (by simp [jp]);simpa [Addr.add_lit] using this
  go_enter Tryz.func165,Tryz.ntmps165
  go_wp2
  go_ret
  exact ⟨rfl,_,h.pop x⟩
end Go.Proofs.YtnndoagpbcacdabGreatDoor
