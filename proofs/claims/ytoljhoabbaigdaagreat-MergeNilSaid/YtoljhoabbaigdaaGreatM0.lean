/- Proved parts: Fl La. Conditions: each theorem's own. -/
import Ieee.Arith
import Derived.Test.YtoljhoabbaigdaaGreatQ0
set_option maxRecDepth 100000
set_option maxHeartbeats 8000000
namespace Go.Proofs.YtoljhoabbaigdaaGreat.Fl
open Ieee

def S63:Nat:=2 ^ 63
def S52:Nat:=2 ^ 52
def INF:Nat:=2047 * 2 ^ 52
theorem S63_eq:S63=9223372036854775808:=by unfold S63; decide
theorem S52_eq:S52=4503599627370496:=by unfold S52; decide
theorem INF_eq:INF=9218868437227405312:=by unfold INF; decide

def V (r:Nat):Nat:=if r<S52 then r else (S52+r % S52) * 2 ^ (r / S52-1)

theorem V_succ (r:Nat):V r<V (r+1):=by
 have hp:∀ k:Nat,0<2 ^ k:=fun k=>Nat.two_pow_pos k
 unfold V
 have hS:=S52_eq
 by_cases h1:r+1<S52
 ·rw [if_pos (by omega),if_pos h1]; omega
 ·by_cases h2:r<S52
  ·rw [if_pos h2,if_neg h1]
   have:r+1=S52:=by omega
   rw [this,Nat.mod_self,Nat.div_self (by omega)]; simp; omega
  ·rw [if_neg h2,if_neg h1]
   have hd:r / S52 ≥ 1:=Nat.div_pos (by omega) (by omega)
   by_cases h3:(r+1) % S52=0
   ·have e1:(r+1) / S52=r / S52+1:=by rw [hS] at *; omega
    have e2:r % S52=S52-1:=by rw [hS] at *; omega
    rw [h3,e1,e2]
    have e3:r / S52+1-1=(r / S52-1)+1:=by omega
    rw [e3,Nat.pow_succ]
    have hk:=hp (r / S52-1)
    generalize 2 ^ (r / S52-1)=k at *
    rw [hS]; omega
   ·have e1:(r+1) / S52=r / S52:=by rw [hS] at *; omega
    have e2:(r+1) % S52=r % S52+1:=by rw [hS] at *; omega
    rw [e1,e2]
    exact Nat.mul_lt_mul_of_pos_right (by omega) (hp _)

theorem V_mono {a b:Nat} (h:a<b):V a<V b:=by
 induction b with
 | zero=>omega
 | succ n ih =>
  rcases Nat.lt_or_ge a n with h1 | h1
  ·exact Nat.lt_trans (ih h1) (V_succ n)
  ·have:a=n:=by omega
   subst this; exact V_succ a

theorem V_zero:V 0=0:=by unfold V; rw [if_pos (by unfold S52; decide)]

def neg (b:Nat):Bool:=b / S63 % 2 == 1

def rank (b:Nat):Int:=if neg b then -((b % S63:Nat):Int) else ((b % S63:Nat):Int)

def nanB (b:Nat):Bool:=decide (INF<b % S63)

def val (b:Nat):Int:=if neg b then -((V (b % S63):Nat):Int) else ((V (b % S63):Nat):Int)

theorem cmp_val (a b:Nat):compare (val a) (val b)=compare (rank a) (rank b):=by
 have key:∀ x y:Nat,(x<y↔V x<V y)∧(x=y↔V x=V y):=by
  intro x y
  rcases Nat.lt_trichotomy x y with h | h | h
  ·have:=V_mono h; omega
  ·subst h; omega
  ·have:=V_mono h; omega
 have hz:=key 0 (a % S63)
 have hz':=key 0 (b % S63)
 have hk:=key (a % S63) (b % S63)
 have hk':=key (b % S63) (a % S63)
 rw [V_zero] at hz hz'
 unfold val rank
 generalize a % S63=x at *
 generalize b % S63=y at *
 generalize V x=vx at *
 generalize V y=vy at *
 simp only [Int.compare_eq_ite_lt]
 split<;>split<;>(repeat' split)<;>first | rfl | (exfalso; omega)

theorem fmt_consts:double.signWeight=S63∧double.binade=S52∧double.infRung=INF∧double.leastPlace=-1074:=by
 refine ⟨?_,?_,?_,?_⟩<;>decide

theorem read_num (b:Nat) (h:b % S63<INF):∃ m k:Nat,double.read b=.number (neg b) m (-1074+(k:Int))∧V (b % S63)=m * 2 ^ k:=by
 obtain ⟨c1,c2,c3,c4⟩:=fmt_consts
 unfold Format.read V neg
 rw [c1,c2,c3,c4]
 by_cases h1:b % S63<S52
 ·exact ⟨b % S63,0,by simp [h1],by simp [h1]⟩
 ·exact ⟨S52+b % S63 % S52,b % S63 / S52-1,by simp only [h1,h,if_true,if_false],by simp [h1]⟩

theorem read_inf (b:Nat) (h:b % S63=INF):double.read b=.infinity (neg b):=by
 obtain ⟨c1,c2,c3,c4⟩:=fmt_consts
 unfold Format.read neg
 rw [c1,c2,c3,c4]
 have h1:¬ INF<S52:=by decide
 have h2:¬ INF<INF:=by omega
 simp only [h,h1,h2,if_false,if_true]

theorem read_nan (b:Nat) (h:INF<b % S63):double.read b=.nan (neg b) (b % S63-INF):=by
 obtain ⟨c1,c2,c3,c4⟩:=fmt_consts
 unfold Format.read neg
 rw [c1,c2,c3,c4]
 have h0:S52<INF:=by decide
 have h1:¬ b % S63<S52:=by omega
 have h2:¬ b % S63<INF:=by omega
 have h3:¬ b % S63=INF:=by omega
 simp only [h1,h2,h3,if_false]

theorem cmp_scale (p q:Int) (u:Nat) (hu:0<u):compare (p * u) (q * u)=compare p q:=by
 have hu':(0:Int)<u:=by omega
 simp only [Int.compare_eq_ite_lt,Int.mul_lt_mul_right hu']

theorem signed_scale (s:Bool) (m k c:Nat) (h:c<=k):signed s m (k-c) * ((2 ^ c:Nat):Int)=if s then -((m * 2 ^ k:Nat):Int) else ((m * 2 ^ k:Nat):Int):=by
 have e:m * 2 ^ k=(m * 2 ^ (k-c)) * 2 ^ c:=by rw [Nat.mul_assoc,<-Nat.pow_add,Nat.sub_add_cancel h]
 rw [e]
 unfold signed
 rw [Nat.shiftLeft_eq]
 generalize m * 2 ^ (k-c)=x
 generalize 2 ^ c=y
 cases s<;>simp [Int.neg_mul]

theorem order_num (s t:Bool) (m n k l:Nat):(Datum.number s m (-1074+(k:Int))).order (.number t n (-1074+(l:Int)))=some (compare (if s then -((m * 2 ^ k:Nat):Int) else ((m * 2 ^ k:Nat):Int)) (if t then -((n * 2 ^ l:Nat):Int) else ((n * 2 ^ l:Nat):Int))):=by
 unfold Datum.order
 simp only
 have e1:(-1074+(k:Int)-min (-1074+(k:Int)) (-1074+(l:Int))).toNat=k-min k l:=by omega
 have e2:(-1074+(l:Int)-min (-1074+(k:Int)) (-1074+(l:Int))).toNat=l-min k l:=by omega
 rw [e1,e2,<-signed_scale s m k (min k l) (by omega),<-signed_scale t n l (min k l) (by omega),cmp_scale _ _ _ (Nat.two_pow_pos _)]

theorem cmp_lt {p q:Int} (h:p<q):compare p q=.lt:=by rw [Int.compare_eq_ite_lt,if_pos h]
theorem cmp_gt {p q:Int} (h:q<p):compare p q=.gt:=by rw [Int.compare_eq_ite_lt,if_neg (by omega),if_pos h]
theorem cmp_eq (p:Int):compare p p=.eq:=by rw [Int.compare_eq_ite_lt,if_neg (by omega),if_neg (by omega)]

theorem order_eq (a b:Nat) (ha:¬ INF<a % S63) (hb:¬ INF<b % S63):double.order a b=some (compare (rank a) (rank b)):=by
 rw [<-cmp_val]
 unfold Format.order val
 have hpos:∀ r,r<INF->V r<V INF:=fun r h=>V_mono h
 rcases Nat.lt_or_ge (a % S63) INF with h1 | h1<;>rcases Nat.lt_or_ge (b % S63) INF with h2 | h2
 ·obtain ⟨m,k,r1,v1⟩:=read_num a h1
  obtain ⟨n,l,r2,v2⟩:=read_num b h2
  rw [r1,r2,order_num,v1,v2]
 ·obtain ⟨m,k,r1,v1⟩:=read_num a h1
  have hlt:=hpos _ h1
  rw [r1,read_inf b (by omega),show b % S63=INF by omega]
  unfold Datum.order
  generalize neg b=t
  generalize V INF=x at *
  generalize V (a % S63)=y at *
  cases t
  ·simp only [Bool.false_eq_true,if_false]; rw [cmp_lt (by split<;>omega)]
  ·simp only [if_true]; rw [cmp_gt (by split<;>omega)]
 ·obtain ⟨n,l,r2,v2⟩:=read_num b h2
  have hlt:=hpos _ h2
  rw [r2,read_inf a (by omega),show a % S63=INF by omega]
  unfold Datum.order
  generalize neg a=t
  generalize V INF=x at *
  generalize V (b % S63)=y at *
  cases t
  ·simp only [Bool.false_eq_true,if_false]; rw [cmp_gt (by split<;>omega)]
  ·simp only [if_true]; rw [cmp_lt (by split<;>omega)]
 ·rw [read_inf a (by omega),read_inf b (by omega),show a % S63=INF by omega,show b % S63=INF by omega]
  have hlt:V 0<V INF:=V_mono (by decide)
  rw [V_zero] at hlt
  unfold Datum.order
  generalize neg a=t
  generalize neg b=s
  generalize V INF=x at *
  cases t<;>cases s<;>simp only [Bool.false_eq_true,if_false,if_true]
  ·rw [cmp_eq]; rfl
  ·rw [cmp_gt (by omega)]; rfl
  ·rw [cmp_lt (by omega)]; rfl
  ·rw [cmp_eq]; rfl

theorem order_nan_left (a b:Nat) (ha:INF<a % S63):double.order a b=none:=by
 unfold Format.order; rw [read_nan a ha]; unfold Datum.order; rfl
end Go.Proofs.YtoljhoabbaigdaaGreat.Fl

namespace Go.Proofs.YtoljhoabbaigdaaGreat
namespace La

def has (zs:List Int) (x:Int):Bool:=decide (x ∈ zs)
def risesB:Int->List Int->Bool
 | _,[]=>true
 | p,x :: r=>decide (p<x) && risesB x r
def right (zs:List Int):Bool:=decide (zs.length<=6) && risesB 0 zs

theorem has_iff (zs:List Int) (x:Int):has zs x=true↔x ∈ zs:=by simp [has]
theorem take_succ (zs:List Int) (k:Nat) (h:k<zs.length):zs.take (k+1)=zs.take k++[zs.getD k 0]:=by
 rw [List.take_succ_eq_append_getElem h,List.getD,List.getElem?_eq_getElem h]; rfl
theorem getD_mem (zs:List Int) (k:Nat) (h:k<zs.length):zs.getD k 0 ∈ zs:=by
 rw [List.getD,List.getElem?_eq_getElem h]; exact List.getElem_mem h
theorem rises_snoc:∀ (l:List Int) (p x:Int),risesB p (l++[x])=(risesB p l && decide (l.getLastD p<x))
 | [],p,x=>by simp [risesB]
 | a :: l,p,x=>by
  have ih:=rises_snoc l a x
  have e:(a :: l).getLastD p=l.getLastD a:=by cases l<;>simp [List.getLastD]
  rw [List.cons_append,risesB,ih,risesB,e,Bool.and_assoc]

theorem rises_take_false (p:Int) (zs:List Int) (k:Nat) (h:risesB p (zs.take k)=false):risesB p zs=false:=by
 have key:∀ (l m:List Int) (p:Int),risesB p l=false->risesB p (l++m)=false:=by
  intro l
  induction l with
  | nil=>intro m p h; simp [risesB] at h
  | cons a l ih =>
   intro m p h
   rw [List.cons_append,risesB]
   rw [risesB] at h
   cases hd:decide (p<a)
   ·rfl
   ·rw [hd,Bool.true_and] at h
    rw [Bool.true_and]; exact ih m a h
 rw [<-List.take_append_drop k zs]; exact key _ _ _ h

theorem lastD_take (p:Int) (zs:List Int) (k:Nat) (h:k<zs.length):(zs.take (k+1)).getLastD p=zs.getD k 0:=by
 rw [take_succ zs k h]; simp [List.getLastD_eq_getLast?]

theorem rises_step (zs:List Int) (k:Nat) (h:k<zs.length) (p:Int):risesB p (zs.take (k+1))=(risesB p (zs.take k) && decide ((zs.take k).getLastD p<zs.getD k 0)):=by
 rw [take_succ zs k h,rises_snoc]
theorem right_false_at (zs:List Int) (k:Nat) (h:risesB 0 (zs.take k)=false):right zs=false:=by
 unfold right; rw [rises_take_false 0 zs k h,Bool.and_false]
theorem right_all (zs:List Int) (h:risesB 0 zs=true):right zs=decide (zs.length<=6):=by
 unfold right; rw [h,Bool.and_true]
theorem right_long (zs:List Int) (h:6<zs.length):right zs=false:=by
 unfold right; rw [decide_eq_false (by omega),Bool.false_and]

def U64 (zs:List Int):Prop:=∀ x ∈ zs,0<=x∧x<18446744073709551616
theorem U64.get {zs:List Int} (h:U64 zs) (k:Nat) (hk:k<zs.length):0<=zs.getD k 0∧zs.getD k 0<18446744073709551616:=h _ (getD_mem zs k hk)
theorem U64.nil:U64 []:=by intro x h; simp at h
theorem U64.cons {x:Int} {l:List Int} (h:0<=x∧x<18446744073709551616) (k:U64 l):U64 (x :: l):=by
 intro y hy
 rcases List.mem_cons.1 hy with e | e
 ·rw [e]; exact h
 ·exact k y e
theorem U64.append {a b:List Int} (h:U64 a) (k:U64 b):U64 (a++b):=by
 intro y hy
 rcases List.mem_append.1 hy with e | e
 ·exact h y e
 ·exact k y e

end La
end Go.Proofs.YtoljhoabbaigdaaGreat
