/- Proved parts: Num. Conditions: each theorem's own. -/
import Derived.Test.YtoljhoabbaigdaaGreatM0
import GoSem.Op.Unary
import Derived.Test.YtoljhoabbaigdaaGreatQ0
set_option maxRecDepth 100000
set_option maxHeartbeats 8000000
namespace Go.Proofs.YtoljhoabbaigdaaGreat.Fl
open Ieee

def Fits (b:Nat):Prop:=b<2 ^ 64
theorem Fits.lt {b:Nat} (h:Fits b):b<18446744073709551616:=h
theorem Fits.mk {b:Nat} (h:b<18446744073709551616):Fits b:=h

theorem neg_iff {b:Nat} (h:Fits b):neg b=decide (9223372036854775808<=b):=by
 have:=h.lt
 unfold neg; rw [S63_eq,Bool.eq_iff_iff]; simp; omega
theorem nanB_iff (b:Nat):nanB b=decide (9218868437227405312<b % 9223372036854775808):=by
 unfold nanB; rw [S63_eq,INF_eq]

def NANB:Nat:=9221120237041090561
def bitsOf (b:Nat):Nat:=if nanB b then NANB else b
def NANP:Nat:=18437736874454810626
def place (b:Nat):Nat:=if nanB b then NANP else if neg b then INF-b % S63 else INF+1+b
theorem order_self (b:Nat):(double.order b b != some .eq)=nanB b:=by
 unfold nanB
 by_cases h:INF<b % S63
 ·rw [order_nan_left b b h]; simp [h]
 ·rw [order_eq b b h h,cmp_eq]; simp [h]

theorem place_le {b:Nat} (h:Fits b):place b<=NANP:=by
 have:=h.lt
 unfold place NANP; rw [neg_iff h,nanB_iff,INF_eq,S63_eq]
 split
 ·omega
 ·rename_i h; simp at h; split
  ·omega
  ·rename_i h2; simp at h2; omega
end Go.Proofs.YtoljhoabbaigdaaGreat.Fl
