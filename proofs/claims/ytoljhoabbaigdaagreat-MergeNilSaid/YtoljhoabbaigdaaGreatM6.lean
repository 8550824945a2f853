/- Proved parts: Vr C9m C9e Vu. Conditions: each theorem's own. -/
import Derived.Test.YtoljhoabbaigdaaGreatM5
import Derived.Test.YtoljhoabbaigdaaGreatM4
import Derived.Deep.RegionHeld3
import Derived.BigQuiet
import Derived.Deep.RegionWith
import Derived.Test.YtoljhoabbaigdaaGreatM2
import Derived.WalkKit
import Derived.Test.YtoljhoabbaigdaaGreatQ2
set_option maxRecDepth 100000
set_option maxHeartbeats 8000000
namespace Go.Proofs.YtoljhoabbaigdaaGreat
open Go.RowKit

theorem vbelow_cellOf {B:Nat} {w w':World} (h:Below B w w') {a:Addr} {v:Value} (hc:w.cell? a=some v) (hB:w.heap.size<=B):w'.cell? a=some v:=by
 rw [h.cell (p:=a) (Nat.lt_of_lt_of_le (World.block_lt_of_cell? w a hc) hB)]; exact hc

theorem vrRight (x:Val) (w:World) (hf:x.Fits):Calls Tryz.prog 25 #[x.v] w fun e w'=>e=.returned (.bool x.ok)∧Below w.heap.size w w':=by
 obtain ⟨n,t,b⟩:=x
 obtain ⟨hb,ht⟩:=hf
 change b<18446744073709551616 at hb
 change t.size<=maxLen at ht
 unfold maxLen at ht
 have HB:=qh hb
 show Calls Tryz.prog 25 #[.agg #[.bool n,.string t,.int .u64 (b:Int)]] w _
 have B0:=qh ((Below.refl w.heap.size w).alloc (Nat.le_refl _) (.cells #[.bool n,.string t,.int .u64 (b:Int)] 59))
 cases n with
 | false =>
  have R:=qh (show Val.ok ⟨false,t,b⟩=(decide (b=0) && decide (t.size<=64)) from rfl)
  by_cases b0:b=0
  ·have T0:((b:Int) == 0)=true:=by rw [beq_iff_eq]; omega
   have D0:=qh b0
   clear b0 hb
   go_enter Tryz.func25,Tryz.ntmps25
   go_wp2_with fail
   go_ret
   refine ⟨ret_bool ?_,B0.out⟩
   rw [R.out,decide_eq_true D0.out,Bool.true_and,Bool.eq_iff_iff]
   simp only [decide_eq_true_eq]
   omega
  ·have T0:((b:Int) == 0)=false:=by rw [beq_eq_false_iff_ne]; omega
   have D0:=qh b0
   clear b0 hb
   go_enter Tryz.func25,Tryz.ntmps25
   go_wp2_with fail
   go_ret
   refine ⟨ret_bool ?_,B0.out⟩
   rw [R.out,decide_eq_false D0.out]; rfl
 | true =>
  have R:=qh (show Val.ok ⟨true,t,b⟩=(decide (t.size=0) && decide (Fl.bitsOf b=b)) from rfl)
  have FB:=qh (fits_small b hb)
  by_cases t0:t.size=0
  ·have T0:((t.size:Int) == 0)=true:=by rw [beq_iff_eq]; omega
   have D0:=qh t0
   have bn:((b:Int)).toNat=b:=by omega
   clear t0 hb
   go_enter Tryz.func25,Tryz.ntmps25
   go_wp2_with fail
   go_quiet (first | (go_at_call 46; exact Calls.quiet_of_same ((rbits b FB.out _).mono fun _ _ hh=>⟨hh.1,hh.2.symm⟩)))
   go_wp2_with fail
   go_ret
   refine ⟨ret_bool ?_,below_drewN B0.out _⟩
   rw [R.out,decide_eq_true D0.out,Bool.true_and,Bool.eq_iff_iff,beq_iff_eq,decide_eq_true_eq]
   omega
  ·have T0:((t.size:Int) == 0)=false:=by rw [beq_eq_false_iff_ne]; omega
   have D0:=qh t0
   clear t0 hb
   go_enter Tryz.func25,Tryz.ntmps25
   go_wp2_with fail
   go_quiet (fail)
   go_wp2_with fail
   go_ret
   refine ⟨ret_bool ?_,below_drewN B0.out _⟩
   rw [R.out,decide_eq_false D0.out]; rfl

end Go.Proofs.YtoljhoabbaigdaaGreat

namespace Go.Proofs.YtoljhoabbaigdaaGreat
open Go.RowKit

structure Ver where
 seq:Int
 gone:Bool
 val:Val
namespace Ver
def cs (x:Ver):List Value:=[.int .i64 x.seq,.bool x.gone,.bool x.val.num,.string x.val.txt,.int .u64 (x.val.bits:Int)]
def v (x:Ver):Value:=.agg #[.int .i64 x.seq,.bool x.gone,.bool x.val.num,.string x.val.txt,.int .u64 (x.val.bits:Int)]
def Z:Ver:=⟨0,false,Val.V0⟩
end Ver
def Val.isZ (x:Val):Bool:=(x.num == false) && ((x.txt.toList == []) && ((x.bits:Int) == 0))
theorem Val.isZ_iff (x:Val):x.isZ=true↔x=Val.V0:=by
 obtain ⟨n,t,b⟩:=x
 unfold Val.isZ Val.V0
 simp only [Bool.and_eq_true,beq_iff_eq]
 constructor
 ·rintro ⟨h1,h2,h3⟩
  have e2:t=⟨#[]⟩:=toList_inj (by rw [h2]; kernel_rfl)
  have e3:b=0:=by omega
  rw [h1,e2,e3]
 ·intro h
  injection h with h1 h2 h3
  subst h1; subst h2; subst h3
  exact ⟨rfl,by kernel_rfl,rfl⟩
def Val.same (x y:Val):Bool:=(x.num == y.num) && ((x.txt.toList == y.txt.toList) && ((x.bits:Int) == (y.bits:Int)))
def Ver.same (x y:Ver):Bool:=(x.seq == y.seq) && ((x.gone == y.gone) && x.val.same y.val)
def prevS (l:List Ver) (i:Nat):Int:=if i=0 then 0 else (l.getD (i-1) Ver.Z).seq
def mayV (p:Int) (x:Ver):Bool:=decide (p<x.seq) && (decide (x.seq<=1073741824) && (x.val.ok && (!x.gone || x.val.isZ)))
def rightL (l:List Ver):Bool:=(List.range l.length).all fun i=>mayV (prevS l i) (l.getD i Ver.Z)
theorem rightL_iff (l:List Ver):rightL l=true↔∀ i,i<l.length->mayV (prevS l i) (l.getD i Ver.Z)=true:=by
 unfold rightL
 rw [List.all_eq_true]
 constructor
 ·intro h i hi; exact h i (List.mem_range.2 hi)
 ·intro h i hi; exact h i (List.mem_range.1 hi)
def cnt (f:Int):List Ver->Nat
 | []=>0
 | x :: l=>if x.seq<=f then cnt f l+1 else 0
def oldL (l:List Ver) (f:Int):Nat:=if cnt f l=0 then 0 else if (l.getD (cnt f l-1) Ver.Z).gone then cnt f l else cnt f l-1
def sweepL (l:List Ver) (f:Int):List Ver:=l.drop (oldL l f)
def atOk (l:List Ver) (s:Int):Bool:=decide (0<cnt s l) && !(l.getD (cnt s l-1) Ver.Z).gone
def atL (l:List Ver) (s:Int):Ver:=if atOk l s then l.getD (cnt s l-1) Ver.Z else Ver.Z
def lastL (l:List Ver):Ver:=l.getD (l.length-1) Ver.Z
def weightL (l:List Ver):Nat:=if l.length=0∨(lastL l).gone=true then 0 else (lastL l).val.pack.size
theorem cnt_le (f:Int):∀ l:List Ver,cnt f l<=l.length
 | []=>Nat.le_refl _
 | x :: l=>by
  have:=cnt_le f l
  unfold cnt; split
  ·rw [List.length_cons]; omega
  ·exact Nat.zero_le _
def RiseV (l:List Ver):Prop:=∀ i j,i<j->j<l.length->(l.getD i Ver.Z).seq<(l.getD j Ver.Z).seq
theorem mayV_lt {p:Int} {x:Ver} (h:mayV p x=true):p<x.seq:=by
 unfold mayV at h
 simp only [Bool.and_eq_true,decide_eq_true_eq] at h
 exact h.1
theorem rise_of_right {l:List Ver} (h:rightL l=true):RiseV l:=by
 rw [rightL_iff] at h
 have step:∀ i,i+1<l.length->(l.getD i Ver.Z).seq<(l.getD (i+1) Ver.Z).seq:=fun i hi=>by
  have:=mayV_lt (h (i+1) hi)
  unfold prevS at this
  rw [if_neg (by omega),Nat.add_sub_cancel] at this
  exact this
 intro i j hij hj
 obtain ⟨d,rfl⟩:∃ d,j=i+1+d:=⟨j-i-1,by omega⟩
 clear hij
 induction d with
 | zero=>exact step i hj
 | succ d ih =>
  have h1:=ih (by omega)
  have h2:=step (i+1+d) (by omega)
  rw [show i+1+(d+1)=i+1+d+1 by omega]
  omega
theorem seq_pos {l:List Ver} (h:rightL l=true) {i:Nat} (hi:i<l.length):0<(l.getD i Ver.Z).seq:=by
 have r:=rise_of_right h
 have h0:=mayV_lt ((rightL_iff l).1 h 0 (by omega))
 unfold prevS at h0
 rw [if_pos rfl] at h0
 by_cases e:i=0
 ·rw [e]; exact h0
 ·have:=r 0 i (by omega) hi
  omega
theorem cnt_iff {f:Int}:∀ {l:List Ver},RiseV l->∀ i,i<l.length->(i<cnt f l↔(l.getD i Ver.Z).seq<=f)
 | [],_,i,hi=>by cases hi
 | x :: l,h,i,hi=>by
  have hr:RiseV l:=fun i j hij hj=>h (i+1) (j+1) (by omega) (by rw [List.length_cons]; omega)
  have ih:=cnt_iff (f:=f) hr
  unfold cnt
  by_cases hx:x.seq<=f
  ·rw [if_pos hx]
   cases i with
   | zero=>exact ⟨fun _=>hx,fun _=>by omega⟩
   | succ i =>
    rw [List.length_cons] at hi
    have:=ih i (by omega)
    show i+1<cnt f l+1↔_
    rw [show (x :: l).getD (i+1) Ver.Z=l.getD i Ver.Z from rfl]
    omega
  ·rw [if_neg hx]
   refine ⟨fun t=>by omega,fun t=>?_⟩
   cases i with
   | zero=>exact absurd t hx
   | succ i =>
    have:=h 0 (i+1) (by omega) hi
    rw [show (x :: l).getD 0 Ver.Z=x from rfl] at this
    omega
theorem getD_drop (l:List Ver) (k i:Nat):(l.drop k).getD i Ver.Z=l.getD (k+i) Ver.Z:=by
 rw [List.getD_eq_getElem?_getD,List.getD_eq_getElem?_getD,List.getElem?_drop]
theorem rise_drop {l:List Ver} (h:RiseV l) (k:Nat):RiseV (l.drop k):=fun i j hij hj=>by
 rw [List.length_drop] at hj
 rw [getD_drop,getD_drop]
 exact h _ _ (by omega) (by omega)
theorem cnt_uniq {f:Int} {l:List Ver} (h:RiseV l) {n:Nat} (hn:n<=l.length) (h1:∀ i,i<n->(l.getD i Ver.Z).seq<=f) (h2:n<l.length->f<(l.getD n Ver.Z).seq):cnt f l=n:=by
 have hl:=cnt_le f l
 rcases Nat.lt_trichotomy (cnt f l) n with q | q | q
 ·have:=(cnt_iff h (cnt f l) (by omega)).2 (h1 _ q)
  omega
 ·exact q
 ·have:=(cnt_iff (f:=f) h n (by omega)).1 q
  have:=h2 (by omega)
  omega
theorem cnt_drop {f:Int} {l:List Ver} (h:RiseV l) (k:Nat):cnt f (l.drop k)=cnt f l-k:=by
 have hl:=cnt_le f l
 refine cnt_uniq (rise_drop h k) (by rw [List.length_drop]; omega) (fun i hi=>?_) (fun hi=>?_)
 ·rw [getD_drop]
  exact (cnt_iff h _ (by omega)).1 (by omega)
 ·rw [List.length_drop] at hi
  rw [getD_drop]
  have:=cnt_iff (f:=f) h (k+(cnt f l-k)) (by omega)
  by_cases q:(l.getD (k+(cnt f l-k)) Ver.Z).seq<=f
  ·have:=this.2 q; omega
  ·omega
theorem cnt_mono {f g:Int} {l:List Ver} (h:RiseV l) (hfg:f<=g):cnt f l<=cnt g l:=by
 have hl:=cnt_le f l
 by_cases q:cnt g l<cnt f l
 ·have h1:=(cnt_iff (f:=f) h (cnt g l) (by omega)).1 q
  have h2:=(cnt_iff (f:=g) h (cnt g l) (by omega)).2 (by omega)
  omega
 ·omega
theorem oldL_le (l:List Ver) (f:Int):oldL l f<=cnt f l:=by
 unfold oldL; split
 ·omega
 ·split<;>omega
theorem right_drop {l:List Ver} (h:rightL l=true) (k:Nat):rightL (l.drop k)=true:=by
 rw [rightL_iff]
 intro i hi
 rw [List.length_drop] at hi
 have hm:=(rightL_iff l).1 h (k+i) (by omega)
 rw [getD_drop]
 unfold mayV at hm ⊢
 simp only [Bool.and_eq_true,decide_eq_true_eq] at hm ⊢
 refine ⟨?_,hm.2⟩
 unfold prevS
 by_cases e:i=0
 ·rw [if_pos e]; exact seq_pos h (by omega)
 ·rw [if_neg e,getD_drop]
  exact rise_of_right h _ _ (by omega) (by omega)
theorem sweep_at {l:List Ver} (h:RiseV l) {f s:Int} (hs:f<=s):atOk (sweepL l f) s=atOk l s∧atL (sweepL l f) s=atL l s:=by
 have hm:=cnt_mono h hs
 have ho:oldL l f=(if cnt f l=0 then 0 else if (l.getD (cnt f l-1) Ver.Z).gone then cnt f l else cnt f l-1):=rfl
 have key:atOk (sweepL l f) s=atOk l s∧(atOk l s=true->(sweepL l f).getD (cnt s (sweepL l f)-1) Ver.Z=l.getD (cnt s l-1) Ver.Z):=by
  unfold atOk sweepL
  rw [cnt_drop h,getD_drop]
  by_cases c:oldL l f<cnt s l
  ·rw [show oldL l f+(cnt s l-oldL l f-1)=cnt s l-1 by omega]
   rw [decide_eq_true (show 0<cnt s l-oldL l f by omega),decide_eq_true (show 0<cnt s l by omega)]
   exact ⟨rfl,fun _=>rfl⟩
  ·rw [decide_eq_false (show ¬ 0<cnt s l-oldL l f by omega),Bool.false_and]
   have hle:=oldL_le l f
   by_cases c0:cnt f l=0
   ·rw [decide_eq_false (show ¬ 0<cnt s l by omega),Bool.false_and]
    exact ⟨rfl,fun t=>by cases t⟩
   ·rw [if_neg c0] at ho
    have g:(l.getD (cnt f l-1) Ver.Z).gone=true:=by
     cases q:(l.getD (cnt f l-1) Ver.Z).gone with
     | true=>rfl
     | false=>rw [q] at ho; simp at ho; omega
    have e:cnt s l=cnt f l:=by omega
    rw [e,g]
    exact ⟨by simp,fun t=>by simp at t⟩
 refine ⟨key.1,?_⟩
 unfold atL
 rw [key.1]
 cases q:atOk l s with
 | false=>rfl
 | true =>
  rw [if_pos rfl,if_pos rfl]
  exact key.2 q
theorem sweep_twice {l:List Ver} (h:RiseV l) (a b:Int):sweepL (sweepL l a) b=sweepL l (max a b):=by
 have oa:oldL l a=(if cnt a l=0 then 0 else if (l.getD (cnt a l-1) Ver.Z).gone then cnt a l else cnt a l-1):=rfl
 have e:oldL l a+oldL (sweepL l a) b=oldL l (max a b):=by
  have om:oldL (sweepL l a) b=(if cnt b l-oldL l a=0 then 0 else if (l.getD (oldL l a+(cnt b l-oldL l a-1)) Ver.Z).gone then cnt b l-oldL l a else cnt b l-oldL l a-1):=by
   unfold sweepL
   show (if _ then _ else _)=_
   rw [cnt_drop h,getD_drop]
  by_cases hab:b<=a
  ·rw [show max a b=a by omega]
   have hm:=cnt_mono h hab
   by_cases c0:cnt a l=0
   ·rw [if_pos c0] at oa
    rw [if_pos (by omega)] at om
    omega
   ·rw [if_neg c0] at oa
    by_cases g:(l.getD (cnt a l-1) Ver.Z).gone=true
    ·rw [if_pos g] at oa
     rw [if_pos (by omega)] at om
     omega
    ·rw [if_neg g] at oa
     by_cases z:cnt b l-oldL l a=0
     ·rw [if_pos z] at om; omega
     ·rw [if_neg z,show oldL l a+(cnt b l-oldL l a-1)=cnt a l-1 by omega,if_neg g] at om
      omega
  ·rw [show max a b=b by omega]
   have hm:=cnt_mono h (show a<=b by omega)
   have ob:oldL l b=(if cnt b l=0 then 0 else if (l.getD (cnt b l-1) Ver.Z).gone then cnt b l else cnt b l-1):=rfl
   have hle:=oldL_le l a
   by_cases z:cnt b l-oldL l a=0
   ·rw [if_pos z] at om
    by_cases c0:cnt a l=0
    ·rw [if_pos c0] at oa
     rw [if_pos (by omega)] at ob
     omega
    ·rw [if_neg c0] at oa
     have e:cnt b l=cnt a l:=by
      by_cases g:(l.getD (cnt a l-1) Ver.Z).gone=true
      ·rw [if_pos g] at oa; omega
      ·rw [if_neg g] at oa; omega
     rw [e,if_neg c0] at ob
     omega
   ·rw [if_neg z,show oldL l a+(cnt b l-oldL l a-1)=cnt b l-1 by omega] at om
    rw [if_neg (by omega)] at ob
    by_cases g:(l.getD (cnt b l-1) Ver.Z).gone=true
    ·rw [if_pos g] at om ob; omega
    ·rw [if_neg g] at om ob; omega
 show (l.drop (oldL l a)).drop (oldL (sweepL l a) b)=l.drop (oldL l (max a b))
 rw [List.drop_drop,e]
end Go.Proofs.YtoljhoabbaigdaaGreat

namespace Go.Proofs.YtoljhoabbaigdaaGreat
open Go.RowKit

theorem eqIn_val (d:Nat) (w:World) (b b':Bool) (s s':ByteArray) (k k':Int) :
  (Op.equalIn (d+2) 59 (.agg #[.bool b,.string s,.int .u64 k]) (.agg #[.bool b',.string s',.int .u64 k'])).run Tryz.prog w=.ok ((b == b') && ((s.toList == s'.toList) && (k == k'))) w:=by
 rw [run_equalIn_struct w (d+1) 59 _ _ (by kernel_rfl) (by kernel_rfl)]
 simp [go_sem]
 by_cases h1:b=b'<;>by_cases h2:s.toList=s'.toList<;>by_cases h3:k=k'<;>simp [h1,h2,h3]
theorem neq_zero (x:Val) (w:World):(binOp .neq 59 x.v Val.V0.v).run Tryz.prog w=.ok (.bool (!x.isZ)) w:=by
 unfold Val.v
 rw [run_neq_struct,eqIn_val 9998]
 show Result.ok (Value.bool (!((x.num == false) && ((x.txt.toList == (⟨#[]⟩:ByteArray).toList) && ((x.bits:Int) == 0))))) w=_
 rw [show (⟨#[]⟩:ByteArray).toList=[] by kernel_rfl]
 rfl

structure BoxV (w:World) (g:Nat) (n:Bool) (t:ByteArray) (b:Nat):Prop where
 c0:w.cell? ⟨g,0,none⟩=some (.bool n)
 c1:w.cell? ⟨g,1,none⟩=some (.string t)
 c2:w.cell? ⟨g,2,none⟩=some (.int .u64 (b:Int))
theorem BoxV.below {w w':World} {g:Nat} {n:Bool} {t:ByteArray} {b:Nat} (h:BoxV w g n t b) (hb:Below w.heap.size w w'):BoxV w' g n t b :=
 ⟨vbelow_cellOf hb h.c0 (Nat.le_refl _),vbelow_cellOf hb h.c1 (Nat.le_refl _),vbelow_cellOf hb h.c2 (Nat.le_refl _)⟩
theorem BoxV.new (w:World) (n:Bool) (t:ByteArray) (b:Nat) (ty:TypeId):BoxV (w.alloc (.cells #[.bool n,.string t,.int .u64 (b:Int)] ty)) w.heap.size n t b:=by
 refine ⟨?_,?_,?_⟩<;>(rw [World.cell?_alloc_at _ _ _ _ rfl]; rfl)
theorem BoxV.drew {w:World} {g:Nat} {n:Bool} {t:ByteArray} {b:Nat} (h:BoxV w g n t b):BoxV w.drew g n t b:=⟨h.c0,h.c1,h.c2⟩
end Go.Proofs.YtoljhoabbaigdaaGreat
