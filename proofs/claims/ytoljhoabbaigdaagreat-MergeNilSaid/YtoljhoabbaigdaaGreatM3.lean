/- Proved parts: Wk. Conditions: each theorem's own. -/
import Derived.Test.YtoljhoabbaigdaaGreatM1
import Derived.Test.YtoljhoabbaigdaaGreatM2
import Derived.Test.YtoljhoabbaigdaaGreatProg
import Derived.WalkKit
import Derived.WalkLawsBesides
import Derived.Laws.Externs
import Derived.Handy
import Derived.Lib.Hide
import Derived.KernelRfl
import Derived.Test.YtoljhoabbaigdaaGreatQ2
set_option maxRecDepth 100000
set_option maxHeartbeats 8000000
namespace Go.Proofs.YtoljhoabbaigdaaGreat
open Go.RowKit

theorem ret_fl {a b:Nat} (h:a=b):Ending.returned (.float .f64 a)=.returned (.float .f64 b):=by rw [h]
@[go_sem] theorem run_bits (b:Nat) (w:World):(callFunc 76 #[.float .f64 b]).run Tryz.prog w=.ok (.value (.int .u64 b)) w:=by
 rw [run_callFunc_extern Tryz.func76 (by kernel_rfl) (by kernel_rfl) (by kernel_rfl) (e:=Extern.MathFloatBits.float64bits) (by kernel_rfl)]
 rfl
@[go_sem] theorem run_from (n:Int) (w:World):(callFunc 47 #[.int .u64 n]).run Tryz.prog w=.ok (.value (.float .f64 n.toNat)) w:=by
 rw [run_callFunc_extern Tryz.func47 (by kernel_rfl) (by kernel_rfl) (by kernel_rfl) (e:=Extern.MathFloatBits.float64frombits) (by kernel_rfl)]
 rfl

@[go_sem] theorem run_negf (b:Nat) (w:World):(Op.unary .neg (.float .f64 b)).run Tryz.prog w=.ok (.float .f64 (Op.negFloat .f64 b)) w:=rfl

theorem isnan (b:Nat) (w:World):Calls Tryz.prog 126 #[.float .f64 b] w fun e w'=>e=.returned (.bool (Fl.nanB b))∧w=w':=by
 have H:=qh (Fl.order_self b)
 go_enter Tryz.func126,Tryz.ntmps126
 go_wp2
 go_ret
 exact ⟨ret_bool H.out,rfl⟩

theorem ret_parts {a a':Bool} {b b' c c':Int} (h1:a=a') (h2:b=b') (h3:c=c'):Ending.returned (.tuple #[.bool a,.int .u64 b,.int .u64 c])=.returned (.tuple #[.bool a',.int .u64 b',.int .u64 c']):=by rw [h1,h2,h3]

def eOf (b:Nat):Nat:=b / 4503599627370496 % 2048
def fOf (b:Nat):Nat:=b % 4503599627370496

theorem parts (b:Nat) (hb:Fl.Fits b) (w:World):Calls Tryz.prog 114 #[.float .f64 b] w fun e w'=>e=.returned (.tuple #[.bool (Fl.neg b),.int .u64 (eOf b:Nat),.int .u64 (fOf b:Nat)])∧w=w':=by
 have H:=qh (Fl.neg_iff hb)
 have g1:=hb.lt
 have H1:=qh hb.lt
 have k1:0<=(b:Int) / 4503599627370496:=by omega
 have k2:(b:Int) / 4503599627370496<=4095:=by omega
 clear hb g1
 go_enter Tryz.func114,Tryz.ntmps114
 go_wp2
 go_ret3
 refine ⟨ret_parts ?_ ?_ ?_,rfl⟩
 ·rw [H.out,Bool.eq_iff_iff]; simp; omega
 ·unfold eOf; omega
 ·unfold fOf; omega

theorem rnan (b:Nat) (hb:Fl.Fits b) (w:World):Calls Tryz.prog 75 #[.float .f64 b] w fun e w'=>e=.returned (.bool (Fl.nanB b))∧w=w':=by
 have hq:Fl.nanB b=(decide (eOf b=2047) && decide (0<fOf b)):=by
  have:=hb.lt
  rw [Fl.nanB_iff,Bool.eq_iff_iff]; unfold eOf fOf; simp; omega
 have H:=qh hq
 clear hq
 go_enter Tryz.func75,Tryz.ntmps75
 go_wp2_with fail
 refine (parts b hb _).mono ?_
 rintro e w' ⟨rfl,rfl⟩
 go_wp2
 all_goals (go_ret; refine ⟨ret_bool ?_,rfl⟩; rw [H.out,Bool.eq_iff_iff]; simp; omega)

theorem nbits (b:Nat) (w:World):Calls Tryz.prog 97 #[.float .f64 b] w fun e w'=>e=.returned (.int .u64 (Fl.bitsOf b:Nat))∧w=w':=by
 cases hn:Fl.nanB b
 all_goals
  have G:=qh hn
  clear hn
  go_enter Tryz.func97,Tryz.ntmps97
  go_wp2_with fail
  refine (isnan b _).mono ?_
  rintro e w' ⟨rfl,rfl⟩
  rw [G.out]
  go_wp2
  go_ret
  exact ⟨ret_int (by unfold Fl.bitsOf; rw [G.out]; rfl),rfl⟩

theorem rbits (b:Nat) (hb:Fl.Fits b) (w:World):Calls Tryz.prog 46 #[.float .f64 b] w fun e w'=>e=.returned (.int .u64 (Fl.bitsOf b:Nat))∧w=w':=by
 cases hn:Fl.nanB b
 all_goals
  have G:=qh hn
  clear hn
  go_enter Tryz.func46,Tryz.ntmps46
  go_wp2_with fail
  refine (rnan b hb _).mono ?_
  rintro e w' ⟨rfl,rfl⟩
  rw [G.out]
  go_wp2
  go_ret
  exact ⟨ret_int (by unfold Fl.bitsOf; rw [G.out]; rfl),rfl⟩

theorem nfrom (n:Int) (w:World):Calls Tryz.prog 98 #[.int .u64 n] w fun e w'=>e=.returned (.float .f64 (Fl.bitsOf n.toNat))∧w=w':=by
 cases hn:Fl.nanB n.toNat
 all_goals
  have G:=qh hn
  clear hn
  go_enter Tryz.func98,Tryz.ntmps98
  go_wp2_with fail
  refine (isnan n.toNat _).mono ?_
  rintro e w' ⟨rfl,rfl⟩
  rw [G.out]
  go_wp2
  go_ret
  exact ⟨ret_fl (by unfold Fl.bitsOf; rw [G.out]; rfl),rfl⟩

theorem nplace (b:Nat) (hb:Fl.Fits b) (w:World):Calls Tryz.prog 167 #[.float .f64 b] w fun e w'=>e=.returned (.int .u64 (Fl.place b:Nat))∧w=w':=by
 have h1:=hb.lt
 have hc:Fl.place b=if Fl.bitsOf b=9221120237041090561 then 18437736874454810626 else if 9223372036854775808<=Fl.bitsOf b then 9218868437227405312-(Fl.bitsOf b-9223372036854775808) else 9218868437227405313+Fl.bitsOf b:=by
  unfold Fl.place Fl.bitsOf Fl.NANP Fl.NANB
  rw [Fl.neg_iff hb,Fl.INF_eq,Fl.S63_eq]
  by_cases hn:Fl.nanB b=true
  ·simp [hn]
  ·rw [if_neg hn,if_neg hn]
   rw [Fl.nanB_iff] at hn
   simp at hn ⊢
   (repeat' split)<;>omega
 have hq:Fl.bitsOf b<=18442240474082181120∨9223372036854775808 > Fl.bitsOf b:=by
  unfold Fl.bitsOf Fl.NANB
  by_cases hn:Fl.nanB b=true
  ·simp [hn]
  ·rw [if_neg hn]; rw [Fl.nanB_iff] at hn; simp at hn; omega
 have hq2:Fl.bitsOf b=9221120237041090561∨9218868437227405312 ≥ Fl.bitsOf b∨9223372036854775808<=Fl.bitsOf b:=by
  unfold Fl.bitsOf Fl.NANB
  by_cases hn:Fl.nanB b=true
  ·simp [hn]
  ·rw [if_neg hn]; rw [Fl.nanB_iff] at hn; simp at hn; omega
 generalize hcb:Fl.bitsOf b=c at *
 have H:=qh hc
 have H2:=qh hq
 have H3:=qh hq2
 have H4:=qh hcb
 clear hc hq hq2 h1 hb hcb
 by_cases t1:c=9221120237041090561
 ·have T1:((c:Int) == 9221120237041090561)=true:=by simp; omega
  have G1:=qh t1
  clear t1
  go_enter Tryz.func167,Tryz.ntmps167
  go_wp2_with fail
  refine (nbits b _).mono ?_
  rintro e w' ⟨rfl,rfl⟩
  rw [H4.out]
  go_wp2
  go_ret
  refine ⟨ret_int ?_,rfl⟩
  rw [H.out,if_pos G1.out]; rfl
 ·have T1:((c:Int) == 9221120237041090561)=false:=by simp; omega
  have G1:=qh t1
  clear t1
  by_cases t2:9223372036854775808<=c
  ·have T2:decide ((9223372036854775808:Int)<=c)=true:=by simp; omega
   have G2:=qh t2
   clear t2
   go_enter Tryz.func167,Tryz.ntmps167
   go_wp2_with fail
   refine (nbits b _).mono ?_
   rintro e w' ⟨rfl,rfl⟩
   rw [H4.out]
   go_wp2
   go_ret
   refine ⟨ret_int ?_,rfl⟩
   rw [H.out,if_neg G1.out,if_pos G2.out]
   have g1:=G2.out
   have g2:=H2.out
   clear H H2 H3 H4 T1 T2 G1 G2
   simp only [IntKind.wrap_u64]; omega
  ·have T2:decide ((9223372036854775808:Int)<=c)=false:=by simp; omega
   have G2:=qh t2
   clear t2
   go_enter Tryz.func167,Tryz.ntmps167
   go_wp2_with fail
   refine (nbits b _).mono ?_
   rintro e w' ⟨rfl,rfl⟩
   rw [H4.out]
   go_wp2
   go_ret
   refine ⟨ret_int ?_,rfl⟩
   rw [H.out,if_neg G1.out,if_neg G2.out]
   have g0:=G1.out
   have g1:=G2.out
   have g2:=H2.out
   have g3:=H3.out
   clear H H2 H3 H4 T1 T2 G1 G2
   simp only [IntKind.wrap_u64]; omega

end Go.Proofs.YtoljhoabbaigdaaGreat
