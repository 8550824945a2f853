/- Proved parts: Va. Conditions: each theorem's own. -/
import Derived.Test.YtoljhoabbaigdaaGreatM4
import Derived.Test.YtoljhoabbaigdaaGreatM0
import Derived.Sort.Walk0
import Derived.Test.YtoljhoabbaigdaaGreatQ0
set_option maxRecDepth 100000
set_option maxHeartbeats 8000000
namespace Go.Proofs.YtoljhoabbaigdaaGreat
open Go.RowKit

structure Val where
 num:Bool
 txt:ByteArray
 bits:Nat
namespace Val
def v (x:Val):Value:=.agg #[.bool x.num,.string x.txt,.int .u64 (x.bits:Int)]
def Fits (x:Val):Prop:=x.bits<18446744073709551616∧x.txt.size<=maxLen
def ok (x:Val):Bool:=if x.num then decide (x.txt.size=0) && decide (Fl.bitsOf x.bits=x.bits) else decide (x.bits=0) && decide (x.txt.size<=64)
def pack (x:Val):ByteArray:=if x.num then ⟨#[1]⟩++keyOf (Fl.place x.bits) else ⟨#[0]⟩++x.txt
def V0:Val:=⟨false,⟨#[]⟩,0⟩
def number (b:Nat):Val:=⟨true,⟨#[]⟩,Fl.bitsOf b⟩
def rest (s:ByteArray):ByteArray:=s.extract 1 s.size
def head (s:ByteArray):UInt8:=s.data.toList.getD 0 0
theorem place_lt (b:Nat) (h:b<18446744073709551616):Fl.place b<18446744073709551616:=by
 have:=Fl.place_le (fits_small b h)
 have h2:Fl.NANP<18446744073709551616:=by decide
 omega

theorem one_size (c:UInt8) (s:ByteArray):((⟨#[c]⟩:ByteArray)++s).size=s.size+1:=by
 rw [ByteArray.size_append]; show 1+s.size=_; omega
theorem nil_of {s:ByteArray} (h:s.size=0):s=⟨#[]⟩:=by
 cases s with
 | mk a=>have:a=#[]:=Array.eq_empty_of_size_eq_zero h; rw [this]

theorem pack_size (x:Val) (h:x.ok=true):x.pack.size<=65∧0<x.pack.size:=by
 unfold pack
 cases hn:x.num with
 | true=>rw [if_pos rfl,one_size,keyOf_size]; omega
 | false =>
  unfold ok at h; rw [hn] at h
  simp only [Bool.false_eq_true,if_false,Bool.and_eq_true,decide_eq_true_eq] at h
  rw [if_neg (by simp),one_size]; omega
theorem num_of {x:Val} (h:x.ok=true) (hn:x.num=true):x=⟨true,⟨#[]⟩,x.bits⟩∧Fl.bitsOf x.bits=x.bits:=by
 unfold ok at h; rw [hn] at h
 simp only [if_true,Bool.and_eq_true,decide_eq_true_eq] at h
 obtain ⟨n,t,b⟩:=x
 simp only at hn h ⊢
 rw [hn,nil_of h.1]; exact ⟨rfl,h.2⟩
theorem less_cons (c:UInt8) (x y:List UInt8):Op.bytesLess (c :: x) (c :: y)=Op.bytesLess x y:=by
 rw [Op.bytesLess]; simp
theorem toL (s:ByteArray):s.toList=s.data.toList:=ByteArray.toList_eq s
theorem less_irr:∀ x:List UInt8,Op.bytesLess x x=false
 | []=>rfl
 | c :: x=>by rw [less_cons,less_irr x]
theorem less_asym:∀ x y:List UInt8,Op.bytesLess x y=true->Op.bytesLess y x=false
 | [],[],h=>by cases h
 | _ :: _,[],h=>by cases h
 | [],_ :: _,_=>rfl
 | a :: x,b :: y,h=>by
  unfold Op.bytesLess at h ⊢
  simp only [Bool.or_eq_true,Bool.and_eq_true,decide_eq_true_eq,beq_iff_eq] at h
  rcases h with h | ⟨h1,h2⟩
  ·have h3:¬ b<a:=by
    intro k
    have:=UInt8.lt_iff_toNat_lt.1 h; have:=UInt8.lt_iff_toNat_lt.1 k; omega
   have h4:(b == a)=false:=by
    rw [beq_eq_false_iff_ne]; intro e; subst e; exact h3 h
   rw [decide_eq_false h3,h4]; rfl
  ·subst h1
   rw [less_asym x y h2]
   have h3:¬ a<a:=by
    intro k; have:=UInt8.lt_iff_toNat_lt.1 k; omega
   rw [decide_eq_false h3]; simp
theorem less_total:∀ x y:List UInt8,Op.bytesLess x y=false->Op.bytesLess y x=false->x=y
 | [],[],_,_=>rfl
 | _ :: _,[],_,h=>by cases h
 | [],_ :: _,h,_=>by cases h
 | a :: x,b :: y,h,k=>by
  unfold Op.bytesLess at h k
  simp only [Bool.or_eq_false_iff,decide_eq_false_iff_not,Bool.and_eq_false_iff] at h k
  have e:a=b:=by
   apply UInt8.toNat_inj.1
   have h1:¬ a.toNat<b.toNat:=fun q=>h.1 (UInt8.lt_iff_toNat_lt.2 q)
   have h2:¬ b.toNat<a.toNat:=fun q=>k.1 (UInt8.lt_iff_toNat_lt.2 q)
   omega
  subst e
  have h3:Op.bytesLess x y=false:=by
   rcases h.2 with q | q
   ·simp at q
   ·exact q
  have k3:Op.bytesLess y x=false:=by
   rcases k.2 with q | q
   ·simp at q
   ·exact q
  rw [less_total x y h3 k3]
theorem less_ne {x y:List UInt8} (h:Op.bytesLess x y=true):(x == y)=false∧(y == x)=false:=by
 constructor
 ·rw [beq_eq_false_iff_ne]; intro e; subst e; rw [less_irr] at h; cases h
 ·rw [beq_eq_false_iff_ne]; intro e; subst e; rw [less_irr] at h; cases h
end Val

end Go.Proofs.YtoljhoabbaigdaaGreat
