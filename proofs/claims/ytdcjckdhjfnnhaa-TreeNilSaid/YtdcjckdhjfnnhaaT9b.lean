/- The program's below and kid, walked: places in a node. -/
import Derived.Test.YtdcjckdhjfnnhaaT9w
namespace Go.Proofs.Ytdcjckdhjfnnhaa
open Go.RowKit

theorem NodeAt.form {w : World} {v : Value} {zs : KV} (h : NodeAt w v zs) : ∃ A c, v = .slice A zs.length c ∧ ∀ j, j < zs.length → ∃ b o, A = some ⟨b, o, none⟩ ∧ w.cell? ⟨b, o + j * 2, none⟩ = some (.string (zs.key j)) ∧ w.cell? ⟨b, o + j * 2 + 1, none⟩ = some (.int .i64 (zs.num j)) := by
  rcases h with ⟨rfl, rfl⟩ | ⟨b, o, c, rfl, h⟩
  · exact ⟨none, 0, rfl, fun j hj => absurd hj (by simp)⟩
  · exact ⟨_, c, rfl, fun j hj => ⟨b, o, rfl, h.cells j hj⟩⟩

set_option maxRecDepth 100000 in
/-- below -/
theorem xBelow (w : World) (v : Value) (zs : KV) (k : ByteArray) (h : NodeAt w v zs) (hl : zs.length ≤ 1000000) :
    Calls Try.prog 30 #[v, .string k] w fun x w' => x = .returned (.int .i64 (zs.pos k : Nat)) ∧ w' = w := by
  obtain ⟨A, c, rfl, hc⟩ := h.form
  have PB := Lib.hid (fun j (hj : j < zs.pos k) => KV.pos_below k zs j hj)
  have PS := Lib.hid (KV.pos_stop k zs)
  have KC := Lib.hid hc
  have pl := KV.pos_le k zs
  obtain ⟨n, hn⟩ : ∃ n, n = zs.length := ⟨_, rfl⟩
  obtain ⟨P, hP⟩ : ∃ P, P = zs.pos k := ⟨_, rfl⟩
  rw [← hP] at PB PS pl ⊢
  rw [← hn] at PS KC pl hl ⊢
  clear hc h hn hP
  go_enter Try.func30, Try.ntmps30
  go_wp2_with fail
  go_loopw [5] (fun v wr => ∃ i : Nat, i ≤ P ∧ v = .int .i64 i ∧ wr = w) (fun v _ => P - (Go.RowKit.intOf v).toNat)
  case atStart => exact ⟨0, Nat.zero_le _, rfl, rfl⟩
  case round =>
    obtain ⟨i, hi, rfl, rfl⟩ := hrel
    by_cases q : i < P
    · obtain ⟨b, o, rfl, cc, _⟩ := KC.out i (by omega)
      have t := PB.out i q
      unfold ltB at t
      go_wp2_with fail
      go_roundw
      case rel => exact ⟨i + 1, by omega, by go_num, by first | trivial | rfl⟩
      case measure => simp [Go.RowKit.intOf]; omega
    · obtain rfl : i = P := by omega
      by_cases q2 : i < n
      · obtain ⟨b, o, rfl, cc, _⟩ := KC.out i q2
        have t := PS.out q2
        unfold ltB at t
        go_wp2_with fail
        go_ret
        exact ⟨rfl, rfl⟩
      · go_wp2_with fail
        go_ret
        exact ⟨rfl, rfl⟩

/-- which kid of a node has a key, if any has -/
def KV.kid (k : ByteArray) (l : KV) : Nat := if l.has k then l.pos k else l.pos k - 1

set_option maxRecDepth 100000 in
/-- kid -/
theorem xKid (w : World) (v : Value) (zs : KV) (k : ByteArray) (h : NodeAt w v zs) (hl : zs.length ≤ 1000000) :
    Calls Try.prog 31 #[v, .string k] w fun x w' => x = .returned (.int .i64 (zs.kid k : Nat)) ∧ w' = w := by
  have XB := Lib.hid (xBelow w v zs k h hl)
  obtain ⟨A, c, rfl, hc⟩ := h.form
  have KC := Lib.hid hc
  have pl := KV.pos_le k zs
  have HK : zs.kid k = if zs.has k then zs.pos k else zs.pos k - 1 := rfl
  have HH := KV.has_iff zs k
  obtain ⟨n, hn⟩ : ∃ n, n = zs.length := ⟨_, rfl⟩
  obtain ⟨P, hP⟩ : ∃ P, P = zs.pos k := ⟨_, rfl⟩
  obtain ⟨K, hK⟩ : ∃ K, K = zs.kid k := ⟨_, rfl⟩
  rw [← hP] at XB pl HK HH
  rw [← hn] at XB KC pl hl HH
  rw [← hn]
  rw [← hK] at HK ⊢
  have HH' := Lib.hid HH
  have HK' := Lib.hid HK
  clear hc h hn hP HH HK hK
  by_cases q : P < n
  · obtain ⟨b, o, rfl, cc, _⟩ := KC.out P q
    by_cases e : zs.key P = k
    · have HE := Lib.hid (show K = P by rw [HK'.out, if_pos (HH'.out.2 ⟨q, e⟩)])
      have ek : ((zs.key P).toList == k.toList) = true := str_eq e
      clear e HH' HK'
      go_enter Try.func31, Try.ntmps31
      go_wp2_with (go_at_call 30; refine XB.out.mono ?_; rintro x w1 ⟨rfl, rfl⟩)
      go_ret
      exact ⟨by rw [HE.out]; rfl, rfl⟩
    · have HE := Lib.hid (show K = P - 1 by rw [HK'.out, if_neg (fun t => e (HH'.out.1 t).2)])
      have ek : ((zs.key P).toList == k.toList) = false := str_ne e
      clear e HH' HK'
      go_enter Try.func31, Try.ntmps31
      go_wp2_with (go_at_call 30; refine XB.out.mono ?_; rintro x w1 ⟨rfl, rfl⟩)
      all_goals go_ret
      all_goals exact ⟨ret_int (by rw [HE.out]; omega), rfl⟩
  · have HE := Lib.hid (show K = P - 1 by rw [HK'.out, if_neg (fun t => q (HH'.out.1 t).1)])
    clear HH' HK'
    go_enter Try.func31, Try.ntmps31
    go_wp2_with (go_at_call 30; refine XB.out.mono ?_; rintro x w1 ⟨rfl, rfl⟩)
    all_goals go_ret
    all_goals exact ⟨ret_int (by rw [HE.out]; omega), rfl⟩

end Go.Proofs.Ytdcjckdhjfnnhaa
