/- Proved parts: Wkb Wkc Awk. Conditions: each theorem's own. -/
import Derived.Test.YtoljhoabbaigdaaGreatM3
import Derived.RowKit3
import Derived.Below
import Derived.Laws.BitsLemmas
import Derived.WideShapes
import Derived.Test.YtoljhoabbaigdaaGreatQ0
set_option maxRecDepth 100000
set_option maxHeartbeats 8000000
namespace Go.Proofs.YtoljhoabbaigdaaGreat
open Go.RowKit

theorem Fl.place_lt {b:Nat} (hb:Fl.Fits b) (hn:Fl.nanB b=false):Fl.place b<Fl.NANP:=by
 have h1:=hb.lt
 unfold Fl.place
 rw [hn,Fl.neg_iff hb,Fl.INF_eq,Fl.S63_eq]
 rw [Fl.nanB_iff] at hn
 unfold Fl.NANP
 simp at hn ⊢
 split<;>omega

def keyNums (p:Nat):List Int:=[(p:Int) / 72057594037927936 % 256,(p:Int) / 281474976710656 % 256,(p:Int) / 1099511627776 % 256,(p:Int) / 4294967296 % 256,(p:Int) / 16777216 % 256,(p:Int) / 65536 % 256,(p:Int) / 256 % 256,(p:Int) % 256]
def keyOf (p:Nat):ByteArray:=strOfNums (keyNums p)

theorem key_conv (w:World) (B p:Nat) (h:∀ i,i<8->w.cell? ⟨B,i,none⟩=some (.int .u8 ((keyNums p).getD i 0))) :
  (convert 26 9 (.slice (some ⟨B,0,none⟩) 8 8)).run Tryz.prog w=.ok (.string (keyOf p)) w :=
 run_convert_bytes_arg w 26 5 (by kernel_rfl) (by kernel_rfl) B 0 8 8 (keyNums p) rfl (by intro i hi; rw [Nat.zero_add]; exact h i hi) 9 (by kernel_rfl)

theorem nkey0 (b:Nat) (hb:Fl.Fits b) (w:World):Calls Tryz.prog 156 #[.float .f64 b] w fun e w'=>e=.returned (.string (keyOf (Fl.place b)))∧∃ cs t,w'=w.alloc (.cells cs t):=by
 go_enter Tryz.func156,Tryz.ntmps156
 go_wp2_with fail
 refine (nplace b hb _).mono ?_
 rintro e w' ⟨rfl,rfl⟩
 go_wp2_with fail
 go_rounds 9
 rw [key_conv _ w.heap.size (Fl.place b) (by
  intro i hi
  match i,hi with
  | 0,_=>simp [keyNums]
  | 1,_=>simp [keyNums]
  | 2,_=>simp [keyNums]
  | 3,_=>simp [keyNums]
  | 4,_=>simp [keyNums]
  | 5,_=>simp [keyNums]
  | 6,_=>simp [keyNums]
  | 7,_=>simp [keyNums])]
 go_wp2
 go_ret
 exact ⟨rfl,_,_,rfl⟩
theorem nkeyB (b:Nat) (hb:Fl.Fits b) (w:World):Calls Tryz.prog 156 #[.float .f64 b] w fun e w'=>e=.returned (.string (keyOf (Fl.place b)))∧Below w.heap.size w w' :=
 (nkey0 b hb w).mono (by rintro e w' ⟨rfl,_,_,rfl⟩; exact ⟨rfl,(Below.refl _ _).alloc (Nat.le_refl _) _⟩)

theorem keyOf_size (p:Nat):(keyOf p).size=8:=by unfold keyOf; rw [strOfNums_size]; rfl
theorem fits_small (n:Nat) (h:n<18446744073709551616):Fl.Fits n:=Fl.Fits.mk h
end Go.Proofs.YtoljhoabbaigdaaGreat
