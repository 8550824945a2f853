/- What numbers come to, in plain words: no Go in sight. -/
import Derived.Test.YtoljhoabbaigdaaI1m
namespace Go.Proofs.Ytoljhoabbaigdaa.Ag
open Ieee Fl Ex

def AllFits (zs : List Nat) : Prop := ∀ z, z ∈ zs → Fits z

/-- the sum; the least; the greatest -/
def sm (zs : List Nat) : Nat := zs.foldl (fun s x => fopB (double.add s x)) 0
def lst (zs : List Nat) : Nat := zs.tail.foldl (fun a x => if place x < place a then x else a) (zs.headD 0)
def mst (zs : List Nat) : Nat := zs.tail.foldl (fun a x => if place a < place x then x else a) (zs.headD 0)
/-- the mean, by bits -/
def mean (zs : List Nat) : Nat := fopB (double.div (sm zs) (ofI (zs.length : Int)))

theorem sm_snoc (zs : List Nat) (x : Nat) : sm (zs ++ [x]) = fopB (double.add (sm zs) x) := by unfold sm; rw [List.foldl_append]; rfl
theorem lst_snoc {zs : List Nat} (h : zs ≠ []) (x : Nat) : lst (zs ++ [x]) = if place x < place (lst zs) then x else lst zs := by
  cases zs with
  | nil => exact absurd rfl h
  | cons z l => unfold lst; simp
theorem mst_snoc {zs : List Nat} (h : zs ≠ []) (x : Nat) : mst (zs ++ [x]) = if place (mst zs) < place x then x else mst zs := by
  cases zs with
  | nil => exact absurd rfl h
  | cons z l => unfold mst; simp
theorem AllFits.take {zs : List Nat} (h : AllFits zs) (k : Nat) : AllFits (zs.take k) := fun z hz => h z (List.mem_of_mem_take hz)
theorem AllFits.get {zs : List Nat} (h : AllFits zs) {k : Nat} (hk : k < zs.length) : Fits (zs.getD k 0) := by
  rw [List.getD_eq_getElem?_getD, List.getElem?_eq_getElem hk]; exact h _ (List.getElem_mem hk)
theorem AllFits.snoc {zs : List Nat} (h : AllFits zs) {x : Nat} (hx : Fits x) : AllFits (zs ++ [x]) := fun z hz => by
  rcases List.mem_append.1 hz with q | q
  · exact h z q
  · rw [List.mem_singleton.1 q]; exact hx
theorem lst_fits_aux : ∀ (l : List Nat) (a : Nat), AllFits l → Fits a → Fits (l.foldl (fun a x => if place x < place a then x else a) a)
  | [], _, _, h => h
  | x :: l, a, hl, h => lst_fits_aux l _ (fun z hz => hl z (List.mem_cons_of_mem _ hz)) (by dsimp only; split; exact hl x (List.mem_cons_self ..); exact h)
theorem mst_fits_aux : ∀ (l : List Nat) (a : Nat), AllFits l → Fits a → Fits (l.foldl (fun a x => if place a < place x then x else a) a)
  | [], _, _, h => h
  | x :: l, a, hl, h => mst_fits_aux l _ (fun z hz => hl z (List.mem_cons_of_mem _ hz)) (by dsimp only; split; exact hl x (List.mem_cons_self ..); exact h)
theorem lst_fits {zs : List Nat} (h : AllFits zs) : Fits (lst zs) := by
  cases zs with
  | nil => exact Fits.mk (by decide)
  | cons z l => exact lst_fits_aux l z (fun y hy => h y (List.mem_cons_of_mem _ hy)) (h z (List.mem_cons_self ..))
theorem mst_fits {zs : List Nat} (h : AllFits zs) : Fits (mst zs) := by
  cases zs with
  | nil => exact Fits.mk (by decide)
  | cons z l => exact mst_fits_aux l z (fun y hy => h y (List.mem_cons_of_mem _ hy)) (h z (List.mem_cons_self ..))

/-- what is added hangs on the number alone: all NaNs are one -/
theorem add_bits (s x : Nat) : fopB (double.add s x) = fopB (double.add (bitsOf s) x) := by
  cases h : nanB s
  · rw [bits_of_not h]
  · have hs : INF < s % S63 := by unfold nanB at h; simpa using h
    have hq : bitsOf s = NANB := by unfold bitsOf; rw [h]; rfl
    have e : ∀ a, INF < a % S63 → double.add a x = none := by
      intro a ha
      unfold Format.add
      rw [read_nan a ha]
      cases double.read x <;> rfl
    rw [hq, e _ hs, e NANB (by decide)]
theorem div_bits (s x : Nat) : fopB (double.div s x) = fopB (double.div (bitsOf s) x) := by
  cases h : nanB s
  · rw [bits_of_not h]
  · have hs : INF < s % S63 := by unfold nanB at h; simpa using h
    have hq : bitsOf s = NANB := by unfold bitsOf; rw [h]; rfl
    have e : ∀ a, INF < a % S63 → double.div a x = none := by
      intro a ha
      unfold Format.div
      rw [read_nan a ha]
      cases double.read x <;> rfl
    rw [hq, e _ hs, e NANB (by decide)]
theorem div_fits (s x : Nat) : Fits (fopB (double.div s x)) := (fopB_ok (op := 6) (a := s) (b := x)).1
theorem sm_ok (zs : List Nat) : Fits (sm zs) ∧ bitsOf (sm zs) = sm zs := by
  rcases List.eq_nil_or_concat zs with rfl | ⟨l, x, rfl⟩
  · exact ⟨Fits.mk (by decide), by decide⟩
  · rw [List.concat_eq_append, sm_snoc]
    exact fopB_ok (op := 3) (a := sm l) (b := x)

/-- the tally of numbers -/
def tal (zs : List Nat) : Value := if zs = [] then .agg #[.int .i64 0, .int .u64 0, .int .u64 0, .int .u64 0, .int .u64 0]
  else .agg #[.int .i64 (zs.length : Nat), .int .u64 (sm zs : Nat), .int .u64 (bitsOf (lst zs) : Nat), .int .u64 (bitsOf (mst zs) : Nat), .int .u64 (mean zs : Nat)]

end Go.Proofs.Ytoljhoabbaigdaa.Ag
