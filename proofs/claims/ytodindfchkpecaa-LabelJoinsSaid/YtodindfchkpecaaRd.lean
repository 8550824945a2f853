/- A round of slices.pdqsortOrdered at uint64, in plain words. -/
import Derived.Test.YtodindfchkpecaaSp
namespace Go.Proofs.Ytodindfchkpecaa
open Go.RowKit Go.Sort

theorem ltF {x y : Int} : ltInt x y = false ↔ y ≤ x := by simp [ltInt]

theorem below_iff (a b : Nat) (d : Array Int) : Below ltInt a b d ↔ (a = 0 ∨ ∀ i, a ≤ i → i < b → d[a - 1]! ≤ d[i]!) := by
  unfold Go.Sort.Below
  constructor
  · rintro (h | h)
    · exact .inl h
    · exact .inr fun i h1 h2 => ltF.1 (h i h1 h2)
  · rintro (h | h)
    · exact .inl h
    · exact .inr fun i h1 h2 => ltF.2 (h i h1 h2)
theorem sorted_iff (a b : Nat) (d : Array Int) : SortedIn ltInt a b d ↔ ∀ i j, a ≤ i → i < j → j < b → d[i]! ≤ d[j]! :=
  ⟨fun h i j h1 h2 h3 => ltF.1 (h i j h1 h2 h3), fun h i j h1 h2 h3 => ltF.2 (h i j h1 h2 h3)⟩

theorem below_perm {a b : Nat} {d d' : Array Int} (hb : b ≤ d.size) (hp : PermIn a b d d') (h : Below ltInt a b d) : Below ltInt a b d' := by
  rw [below_iff] at h ⊢
  rcases h with h | h
  · exact .inl h
  · rcases Nat.eq_zero_or_pos a with c | c
    · exact .inl c
    · refine .inr fun i h1 h2 => ?_
      rw [hp.2.1 (a - 1) (Or.inl (by omega))]
      exact permIn_all d d' a b (fun x => d[a - 1]! ≤ x) hb hp h i h1 h2

/-- what sorts the part sorts the whole -/
def Ends (a b : Nat) (d : Array Int) (a' b' : Nat) (dk : Array Int) : Prop := ∀ R, PermIn a' b' dk R → SortedIn ltInt a' b' R → PermIn a b d R ∧ SortedIn ltInt a b R

theorem Ends.self (a b : Nat) (d : Array Int) : Ends a b d a b d := fun _ h1 h2 => ⟨h1, h2⟩
theorem Ends.perm {a b a' b' : Nat} {d dk dj : Array Int} (h : Ends a b d a' b' dk) (hp : PermIn a' b' dk dj) : Ends a b d a' b' dj :=
  fun R h1 h2 => h R (permIn_trans _ _ _ _ _ hp h1) h2

theorem round_eq' {d3 d4 : Array Int} {a b pv mid : Nat} (ha0 : 0 < a) (hb : b ≤ d3.size) (hB : Below ltInt a b d3) (hnl : ¬ d3[a - 1]! < d3[pv]!) (h1 : a < mid) (hp : PermIn a b d3 d4)
    (hle : ∀ t, a ≤ t → t < mid → ¬ d3[pv]! < d4[t]!) (hgt : ∀ t, mid ≤ t → t < b → d3[pv]! < d4[t]!) :
    Below ltInt mid b d4 ∧ Ends a b d3 mid b d4 := by
  have hge : ∀ i, a ≤ i → i < b → d3[pv]! ≤ d3[i]! := fun i h1 h2 => by
    rcases (below_iff _ _ _).1 hB with h | h
    · omega
    · have := h i h1 h2; omega
  have hge4 := permIn_all d3 d4 a b (fun x => d3[pv]! ≤ x) hb hp hge
  have hb4 : b ≤ d4.size := by rw [hp.1]; exact hb
  refine ⟨(below_iff _ _ _).2 (.inr fun i h3 h4 => ?_), fun R hR hs => ⟨permIn_trans _ _ _ a b hp (permIn_mono _ _ mid b a b (by omega) (Nat.le_refl _) hb4 hR), (sorted_iff _ _ _).2 fun i j hi hij hj => ?_⟩⟩
  · have := hle (mid - 1) (by omega) (by omega)
    have := hgt i h3 h4
    omega
  · have hgtR := permIn_all d4 R mid b (fun x => d3[pv]! < x) hb4 hR hgt
    rcases Nat.lt_or_ge j mid with c | c
    · rw [hR.2.1 i (Or.inl (by omega)), hR.2.1 j (Or.inl c)]
      have := hle i hi (by omega)
      have := hge4 j (by omega) hj
      omega
    · rcases Nat.lt_or_ge i mid with c2 | c2
      · rw [hR.2.1 i (Or.inl c2)]
        have := hle i hi c2
        have := hgtR j c hj
        omega
      · exact (sorted_iff _ _ _).1 hs i j c2 hij hj

section
variable {d3 d4 L R : Array Int} {a b mid : Nat}

theorem glue (hL : ∀ i j, a ≤ i → i < j → j < mid → R[i]! ≤ R[j]!) (hR : ∀ i j, mid < i → i < j → j < b → R[i]! ≤ R[j]!) (lo : ∀ i, a ≤ i → i < mid → R[i]! < R[mid]!) (hi : ∀ i, mid < i → i < b → R[mid]! ≤ R[i]!) : SortedIn ltInt a b R := by
  refine (sorted_iff _ _ _).2 fun i j h1 h2 h3 => ?_
  rcases Nat.lt_trichotomy j mid with c | c | c
  · exact hL i j h1 h2 c
  · subst c; have := lo i h1 h2; omega
  · have hj := hi j c h3
    rcases Nat.lt_trichotomy i mid with e | e | e
    · have := lo i h1 e; omega
    · subst e; exact hj
    · exact hR i j e h2 h3

/-- behind a partition: the left part sorted first -/
theorem round_left (hb : b ≤ d3.size) (h2 : mid < b) (h1 : a ≤ mid) (hp : PermIn a b d3 d4) (hlo : ∀ t, a ≤ t → t < mid → d4[t]! < d4[mid]!) (hhi : ∀ t, mid < t → t < b → ¬ d4[t]! < d4[mid]!)
    (hL : PermIn a mid d4 L) (sL : SortedIn ltInt a mid L) : Below ltInt (mid + 1) b L ∧ Ends a b d3 (mid + 1) b L := by
  have hb4 : b ≤ d4.size := by rw [hp.1]; exact hb
  have hbL : b ≤ L.size := by rw [hL.1]; exact hb4
  have eL : ∀ i, mid ≤ i → L[i]! = d4[i]! := fun i hi => hL.2.1 i (Or.inr hi)
  have lo' := permIn_all d4 L a mid (fun x => x < d4[mid]!) (by omega) hL hlo
  refine ⟨(below_iff _ _ _).2 (.inr fun i h3 h4 => ?_), fun R hR sR => ⟨?_, ?_⟩⟩
  · rw [Nat.add_sub_cancel, eL i (by omega), eL mid (Nat.le_refl _)]
    have := hhi i (by omega) h4; omega
  · exact permIn_trans _ _ _ a b hp (permIn_trans _ _ _ a b (permIn_mono _ _ a mid a b (Nat.le_refl _) (by omega) hb4 hL) (permIn_mono _ _ (mid + 1) b a b (by omega) (Nat.le_refl _) hbL hR))
  · have eR : ∀ i, i ≤ mid → R[i]! = L[i]! := fun i hi => hR.2.1 i (Or.inl (by omega))
    have hi' := permIn_all L R (mid + 1) b (fun x => d4[mid]! ≤ x) hbL hR (fun t h3 h4 => by rw [eL t (by omega)]; have := hhi t (by omega) h4; omega)
    refine glue (mid := mid) (fun i j h3 h4 h5 => ?_) (fun i j h3 h4 h5 => (sorted_iff _ _ _).1 sR i j (by omega) h4 h5) (fun i h3 h4 => ?_) (fun i h3 h4 => ?_)
    · rw [eR i (by omega), eR j (by omega)]; exact (sorted_iff _ _ _).1 sL i j h3 h4 h5
    · rw [eR i (by omega), eR mid (Nat.le_refl _), eL mid (Nat.le_refl _)]; exact lo' i h3 h4
    · rw [eR mid (Nat.le_refl _), eL mid (Nat.le_refl _)]; exact hi' i (by omega) h4

/-- behind a partition: the right part sorted first -/
theorem round_right (hb : b ≤ d3.size) (hB : Below ltInt a b d3) (h2 : mid < b) (h1 : a ≤ mid) (hp : PermIn a b d3 d4) (hlo : ∀ t, a ≤ t → t < mid → d4[t]! < d4[mid]!) (hhi : ∀ t, mid < t → t < b → ¬ d4[t]! < d4[mid]!)
    (hL : PermIn (mid + 1) b d4 L) (sL : SortedIn ltInt (mid + 1) b L) : Below ltInt a mid L ∧ Ends a b d3 a mid L := by
  have hb4 : b ≤ d4.size := by rw [hp.1]; exact hb
  have hbL : b ≤ L.size := by rw [hL.1]; exact hb4
  have eL : ∀ i, i ≤ mid → L[i]! = d4[i]! := fun i hi => hL.2.1 i (Or.inl (by omega))
  have B4 := below_perm hb hp hB
  have hi' := permIn_all d4 L (mid + 1) b (fun x => d4[mid]! ≤ x) hb4 hL (fun t h3 h4 => by have := hhi t (by omega) h4; omega)
  refine ⟨(below_iff _ _ _).2 ?_, fun R hR sR => ⟨?_, ?_⟩⟩
  · rcases (below_iff _ _ _).1 B4 with h | h
    · exact .inl h
    · exact .inr fun i h3 h4 => by rw [eL i (by omega), eL (a - 1) (by omega)]; exact h i h3 (by omega)
  · exact permIn_trans _ _ _ a b hp (permIn_trans _ _ _ a b (permIn_mono _ _ (mid + 1) b a b (by omega) (Nat.le_refl _) hb4 hL) (permIn_mono _ _ a mid a b (Nat.le_refl _) (by omega) hbL hR))
  · have eR : ∀ i, mid ≤ i → R[i]! = L[i]! := fun i hi => hR.2.1 i (Or.inr hi)
    have lo' := permIn_all L R a mid (fun x => x < d4[mid]!) (by omega) hR (fun t h3 h4 => by rw [eL t (by omega)]; exact hlo t h3 h4)
    refine glue (mid := mid) (fun i j h3 h4 h5 => (sorted_iff _ _ _).1 sR i j h3 h4 h5) (fun i j h3 h4 h5 => ?_) (fun i h3 h4 => ?_) (fun i h3 h4 => ?_)
    · rw [eR i (by omega), eR j (by omega)]; exact (sorted_iff _ _ _).1 sL i j (by omega) h4 h5
    · rw [eR mid (Nat.le_refl _), eL mid (Nat.le_refl _)]; exact lo' i h3 h4
    · rw [eR mid (Nat.le_refl _), eL mid (Nat.le_refl _), eR i (by omega)]; exact hi' i (by omega) h4
end

theorem below_left {a b mid : Nat} {d : Array Int} (h : Below ltInt a b d) (h2 : mid ≤ b) : Below ltInt a mid d := by
  rcases h with h | h
  · exact .inl h
  · exact .inr fun i h3 h4 => h i h3 (by omega)
theorem below_right {b mid : Nat} {d4 : Array Int} (hhi : ∀ t, mid < t → t < b → ¬ d4[t]! < d4[mid]!) : Below ltInt (mid + 1) b d4 :=
  (below_iff _ _ _).2 (.inr fun i h3 h4 => by rw [Nat.add_sub_cancel]; have := hhi i (by omega) h4; omega)

end Go.Proofs.Ytodindfchkpecaa
