/- Proved parts: Wkb Wkc Awk. Conditions: each theorem's own. -/
import Derived.Test.YtomjlopcifafpaaGreatM3
import Derived.RowKit3
import Derived.Below
import Derived.Laws.BitsLemmas
import Derived.WideShapes
import Derived.Test.YtomjlopcifafpaaGreatQ2
set_option maxRecDepth 100000
set_option maxHeartbeats 8000000
namespace Go.Proofs.YtomjlopcifafpaaGreat
open Go.RowKit

theorem Fl.place_lt {b:Nat} (hb:Fl.Fits b) (hn:Fl.nanB b=false):Fl.place b<Fl.NANP:=by
 have h1:=hb.lt
 unfold Fl.place
 rw [hn,Fl.neg_iff hb,Fl.INF_eq,Fl.S63_eq]
 rw [Fl.nanB_iff] at hn
 unfold Fl.NANP
 simp at hn ⊢
 split<;>omega

def keyNums (p:Nat):List Int:=[(p:Int) / 72057594037927936 % 256,(p:Int) / 281474976710656 % 256,(p:Int) / 1099511627776 % 256,(p:Int) / 4294967296 % 256,(p:Int) / 16777216 % 256,(p:Int) / 65536 % 256,(p:Int) / 256 % 256,(p:Int) % 256]
def keyOf (p:Nat):ByteArray:=strOfNums (keyNums p)

theorem key_conv (w:World) (B p:Nat) (h:∀ i,i<8->w.cell? ⟨B,i,none⟩=some (.int .u8 ((keyNums p).getD i 0))) :
  (convert 59 9 (.slice (some ⟨B,0,none⟩) 8 8)).run Tryz.prog w=.ok (.string (keyOf p)) w :=
 run_convert_bytes_arg w 59 5 (by kernel_rfl) (by kernel_rfl) B 0 8 8 (keyNums p) rfl (by intro i hi; rw [Nat.zero_add]; exact h i hi) 9 (by kernel_rfl)

theorem ret_str {a b:ByteArray} (h:a=b):Ending.returned (.string a)=.returned (.string b):=by rw [h]

theorem nkey0 (b:Nat) (hb:Fl.Fits b) (w:World):Calls Tryz.prog 189 #[.float .f64 b] w fun e w'=>e=.returned (.string (keyOf (Fl.place b)))∧∃ cs t,w'=w.alloc (.cells cs t):=by
 go_enter Tryz.func189,Tryz.ntmps189
 go_wp2_with fail
 refine (nplace b hb _).mono ?_
 rintro e w' ⟨rfl,rfl⟩
 go_wp2_with fail
 go_rounds 9
 rw [key_conv _ w.heap.size (Fl.place b) (by
  intro i hi
  match i,hi with
  | 0,_=>simp [keyNums]
  | 1,_=>simp [keyNums]
  | 2,_=>simp [keyNums]
  | 3,_=>simp [keyNums]
  | 4,_=>simp [keyNums]
  | 5,_=>simp [keyNums]
  | 6,_=>simp [keyNums]
  | 7,_=>simp [keyNums])]
 go_wp2
 go_ret
 exact ⟨rfl,_,_,rfl⟩
theorem nkeyB (b:Nat) (hb:Fl.Fits b) (w:World):Calls Tryz.prog 189 #[.float .f64 b] w fun e w'=>e=.returned (.string (keyOf (Fl.place b)))∧Below w.heap.size w w' :=
 (nkey0 b hb w).mono (by rintro e w' ⟨rfl,_,_,rfl⟩; exact ⟨rfl,(Below.refl _ _).alloc (Nat.le_refl _) _⟩)

theorem make8 (w:World):(Instr.makeSlice 59 (.int .i64 8) (.int .i64 8)).run Tryz.prog w=.ok (.slice (some ⟨w.heap.size,0,none⟩) 8 8) (w.alloc (.cells #[.int .u8 0,.int .u8 0,.int .u8 0,.int .u8 0,.int .u8 0,.int .u8 0,.int .u8 0,.int .u8 0] 5)):=by
 have hb:((Tryz.t5.bytes:Nat):Int) * 8<=281474976710656:=by rw [show Tryz.t5.bytes=1 from by kernel_rfl]; omega
 rw [run_make w 59 5 Tryz.t5 (.int .u8 0) Tryz.underlying59 (by kernel_rfl) (by kernel_rfl) .i64 .i64 8 8 (by omega) (by omega) hb (by omega)]
 rw [show madeCells (Value.cells (.int .u8 0)) (Int.toNat 8 * Tryz.t5.size)=#[.int .u8 0,.int .u8 0,.int .u8 0,.int .u8 0,.int .u8 0,.int .u8 0,.int .u8 0,.int .u8 0] from by kernel_rfl]
 rfl

theorem rkey0 (b:Nat) (hb:Fl.Fits b) (w:World):Calls Tryz.prog 190 #[.float .f64 b] w fun e w'=>e=.returned (.string (keyOf (Fl.place b)))∧∃ cs t,w'=w.alloc (.cells cs t):=by
 have hp:=Fl.place_le hb
 unfold Fl.NANP at hp
 have G:=qh hb
 generalize hq:Fl.place b=p at *
 have Q:=qh hq
 have k1:0<=(p:Int) / 256:=by omega
 have k2:0<=(p:Int) / 256 / 256:=by omega
 have k3:0<=(p:Int) / 256 / 256 / 256:=by omega
 have k4:0<=(p:Int) / 256 / 256 / 256 / 256:=by omega
 have k5:0<=(p:Int) / 256 / 256 / 256 / 256 / 256:=by omega
 have k6:0<=(p:Int) / 256 / 256 / 256 / 256 / 256 / 256:=by omega
 have k7:0<=(p:Int) / 256 / 256 / 256 / 256 / 256 / 256 / 256:=by omega
 have l1:(p:Int) / 256<=72057594037927936:=by omega
 have l2:(p:Int) / 256 / 256<=72057594037927936:=by omega
 have l3:(p:Int) / 256 / 256 / 256<=72057594037927936:=by omega
 have l4:(p:Int) / 256 / 256 / 256 / 256<=72057594037927936:=by omega
 have l5:(p:Int) / 256 / 256 / 256 / 256 / 256<=72057594037927936:=by omega
 have l6:(p:Int) / 256 / 256 / 256 / 256 / 256 / 256<=72057594037927936:=by omega
 have l7:(p:Int) / 256 / 256 / 256 / 256 / 256 / 256 / 256<=72057594037927936:=by omega
 clear hp hq hb
 go_enter Tryz.func190,Tryz.ntmps190
 go_wp2_with fail
 refine (rplace b G.out _).mono ?_
 rintro e w' ⟨rfl,rfl⟩
 rw [Q.out]
 go_wp2_with fail
 rw [make8]
 go_wp2_with fail
 go_rounds 9
 rw [key_conv _ w.heap.size p (by
  intro i hi
  match i,hi with
  | 0,_=>simp [keyNums]; omega
  | 1,_=>simp [keyNums]; omega
  | 2,_=>simp [keyNums]; omega
  | 3,_=>simp [keyNums]; omega
  | 4,_=>simp [keyNums]; omega
  | 5,_=>simp [keyNums]; omega
  | 6,_=>simp [keyNums]
  | 7,_=>simp [keyNums])]
 go_wp2
 go_ret
 exact ⟨rfl,_,_,rfl⟩
theorem rkeyB (b:Nat) (hb:Fl.Fits b) (w:World):Calls Tryz.prog 190 #[.float .f64 b] w fun e w'=>e=.returned (.string (keyOf (Fl.place b)))∧Below w.heap.size w w' :=
 (rkey0 b hb w).mono (by rintro e w' ⟨rfl,_,_,rfl⟩; exact ⟨rfl,(Below.refl _ _).alloc (Nat.le_refl _) _⟩)

def numTo (s:ByteArray):Nat->Nat
 | 0=>0
 | k+1=>numTo s k * 256+(s.data.toList.getD k 0).toNat

def unB (s:ByteArray):Nat:=if numTo s 8<=Fl.NANP then Fl.atB (numTo s 8) else 0
def unOk (s:ByteArray):Bool:=decide (numTo s 8<=Fl.NANP)

theorem keyOf_size (p:Nat):(keyOf p).size=8:=by unfold keyOf; rw [strOfNums_size]; rfl
def nv:List UInt8->Nat
 | []=>0
 | a :: x=>a.toNat * 256 ^ x.length+nv x

theorem fits_small (n:Nat) (h:n<18446744073709551616):Fl.Fits n:=Fl.Fits.mk h
end Go.Proofs.YtomjlopcifafpaaGreat
