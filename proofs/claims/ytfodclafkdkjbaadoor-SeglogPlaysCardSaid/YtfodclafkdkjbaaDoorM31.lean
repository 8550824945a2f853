/- Proved parts: S7ga S7gb S7gc. Conditions: each theorem's own. -/
import Derived.Test.YtfodclafkdkjbaaDoorM26
import Derived.Test.YtfodclafkdkjbaaDoorM30
import Derived.Test.YtfodclafkdkjbaaDoorM11
import Derived.BigQuiet
import Derived.Test.YtfodclafkdkjbaaDoorM15
import Derived.StillTailTactics
namespace Go.Proofs.YtfodclafkdkjbaaDoor
open Go.RowKit

section
variable {w : World} {b : Nat}
set_option maxRecDepth 100000 in
theorem qSectors (b S : Nat) (w : World) (c : w.cell? ⟨b, 1, none⟩ = some (.int .i64 (S : Int))) : Calls Tryd.prog 34 #[.pointer (some ⟨b, 0, none⟩)] w fun x w' => x = .returned (.int .i64 (S : Int)) ∧ w' = w := by
  go_enter Tryd.func34, Tryd.ntmps34
  go_wp2_with fail
  go_ret
  exact ⟨rfl, rfl⟩
set_option maxRecDepth 100000 in
theorem qExtents (b E c : Nat) (g : Option Addr) (w : World) (h : w.cell? ⟨b, 2, none⟩ = some (.slice g E c)) : Calls Tryd.prog 41 #[.pointer (some ⟨b, 0, none⟩)] w fun x w' => x = .returned (.int .i64 (E : Int)) ∧ w' = w := by
  go_enter Tryd.func41, Tryd.ntmps41
  go_wp2_with fail
  go_ret
  exact ⟨rfl, rfl⟩
set_option maxRecDepth 100000 in
theorem qOn (b : Nat) (o : Bool) (w : World) (c : w.cell? ⟨b, 0, none⟩ = some (.bool o)) : Calls Tryd.prog 40 #[.pointer (some ⟨b, 0, none⟩)] w fun x w' => x = .returned (.bool o) ∧ w' = w := by
  go_enter Tryd.func40, Tryd.ntmps40
  go_wp2_with fail
  go_ret
  exact ⟨rfl, rfl⟩
end

/-- a log's cells: of the world at b, on extent e -/
def logL (b e : Nat) (l : Lg) : List Value := [.pointer (some ⟨b, 0, none⟩), .int .i64 (l.first : Int), .int .i64 (l.life - 1), .bool l.busy, .int .i64 (e : Int), .int .i64 l.gen, .int .i64 (l.used : Int)]
/-- a writer's, of the log at bl; its parts at gp -/
def wrL (bl gp cp : Nat) (l : Lg) (x : Wr) : List Value := [.pointer (some ⟨bl, 0, none⟩), .int .i64 (l.to x.base : Nat), .int .i64 (l.gn x.base), .int .i64 (l.fr x.base + x.parts.length : Nat), .int .i64 (l.fr x.base : Nat), .slice (some ⟨gp, 0, none⟩) x.parts.length cp, .int .i64 (x.moves : Nat)]
/-- .. of one that is done -/
def wrZ : List Value := [.pointer none, .int .i64 0, .int .i64 0, .int .i64 0, .int .i64 0, .slice none 0 0, .int .i64 0]
/-- at block bl lies the log l of the world at b -/
structure LogAt (w : World) (b bl : Nat) (l : Lg) : Prop where
  row : ∃ e : Nat, RowAt w bl (logL b e l) 79 ∧ (l.gen ≠ 0 → e = l.at_) ∧ e ≤ 1000
  f : l.first ≤ 900
  a : l.at_ = l.first ∨ l.at_ = l.first + 1
  z : l.gen = 0 → l.at_ = l.first + 1
  g0 : 0 ≤ l.gen
  g1 : l.gen ≤ 2147483647
  y0 : 1 ≤ l.life
  y1 : l.life ≤ 2147483648
  u : l.used ≤ 1000
/-- at block px lies its writer x -/
def WrAt (w : World) (N F : Nat → Prop) (bl : Nat) (bx : Option Nat) (l : Lg) : Option Wr → Prop
  | none => True
  | some x => ∃ px, bx = some px ∧ px ≠ bl ∧ ¬ F px ∧ ¬ N px ∧
      ((x.moves = x.parts.length + 2 ∧ RowAt w px wrZ 98) ∨
       (x.moves < x.parts.length + 2 ∧ l.fr x.base + x.parts.length ≤ 1000 ∧ l.gn x.base ≤ 2147483647 ∧ ∃ gp cp, gp ≠ bl ∧ gp ≠ px ∧ ¬ F gp ∧ ¬ N gp ∧ RowAt w px (wrL bl gp cp l x) 98 ∧ OwnS w gp (.slice (some ⟨gp, 0, none⟩) x.parts.length cp) x.parts))
/-- .. all of it; the world lies in F -/
structure QAt (w : World) (N F : Nat → Prop) (b bl : Nat) (bx : Option Nat) (m : Ext) (l : Lg) (ox : Option Wr) : Prop where
  x : RelX w b F m
  fn : ∀ k, F k → ¬ N k
  nl : ∀ k, N k → k < w.heap.size
  bF : ¬ F bl
  bN : ¬ N bl
  log : LogAt w b bl l
  wr : WrAt w N F bl bx l ox
def theP : RelP := fun w N b m => ∃ F, RelX w b F m ∧ (∀ k, F k → ¬ N k) ∧ ∀ k, N k → k < w.heap.size
def theQ : RelQ := fun w N b bl bx m l ox => ∃ F, QAt w N F b bl bx m l ox

section
variable {w w' : World} {N M F : Nat → Prop} {b bl : Nat} {bx : Option Nat} {m m' : Ext} {l : Lg} {ox : Option Wr}
theorem RelX.lt (h : RelX w b F m) {k : Nat} (hk : F k) : k < w.heap.size := by
  obtain ⟨_, _, _, _, _, _, _, _, _, hF⟩ := h; exact hF k hk
theorem RelX.ok (h : RelX w b F m) : m.Ok := by obtain ⟨_, _, _, _, _, hr, _⟩ := h; exact hr.ok
theorem RelX.fine (h : RelX w b F m) : Fine m := by obtain ⟨_, _, _, _, _, hr, _⟩ := h; exact hr.fine
theorem RelX.small (h : RelX w b F m) : m.Small := fun i => ⟨(h.fine i).1, (h.fine i).2.1⟩
theorem RelX.cSec (h : RelX w b F m) : w.cell? ⟨b, 1, none⟩ = some (.int .i64 (m.sec : Int)) := by obtain ⟨_, _, _, _, _, hr, _⟩ := h; exact hr.sec
theorem RelX.cOn (h : RelX w b F m) : w.cell? ⟨b, 0, none⟩ = some (.bool (!m.off)) := by obtain ⟨_, _, _, _, _, hr, _⟩ := h; exact hr.on
theorem RelX.cExt (h : RelX w b F m) : ∃ g c, w.cell? ⟨b, 2, none⟩ = some (.slice g m.ext c) := by obtain ⟨_, _, _, _, _, hr, _⟩ := h; exact ⟨_, _, hr.ext⟩
theorem RowAt.keepB {g : Nat} {cs : List Value} {t : TypeId} (h : RowAt w g cs t) (hb : w'.heap[g]? = w.heap[g]?) : RowAt w' g cs t := hb.trans h
theorem OwnS.keepB {gp n cp : Nat} {zs : List ByteArray} (h : OwnS w gp (.slice (some ⟨gp, 0, none⟩) n cp) zs) (hb : w'.heap[gp]? = w.heap[gp]?) : OwnS w' gp (.slice (some ⟨gp, 0, none⟩) n cp) zs := by
  rcases h with ⟨e1, e2⟩
  refine ⟨e1, ?_⟩
  rcases e2 with ⟨q, _⟩ | ⟨g, cap, cur, q, hB, hg, r⟩
  · cases q
  · have q' := q
    injection q' with q1 q2 q3
    injection q1 with q1
    injection q1 with q1 _ _
    subst q1
    exact .inr ⟨gp, cap, cur, q, hB, hb.trans hg, r⟩
theorem OwnS.lt0 {gp n cp : Nat} {zs : List ByteArray} (h : OwnS w gp (.slice (some ⟨gp, 0, none⟩) n cp) zs) : gp < w.heap.size := (h.lt gp rfl).2
theorem LogAt.keep (h : LogAt w b bl l) (hb : w'.heap[bl]? = w.heap[bl]?) : LogAt w' b bl l := by
  obtain ⟨⟨e, hr, h1⟩, r⟩ := h
  exact ⟨⟨e, hr.keepB hb, h1⟩, r, by assumption, by assumption, by assumption, by assumption, by assumption, by assumption, by assumption⟩
theorem LogAt.lt (h : LogAt w b bl l) : bl < w.heap.size := by obtain ⟨e, hr, _⟩ := h.row; exact hr.lt
/-- what is neither the world's nor theirs may turn -/
theorem WrAt.keep {F' : Nat → Prop} (h : WrAt w N F bl bx l ox) (hs : ∀ k, k < w.heap.size → k ≠ bl → ¬ F k → ¬ N k → w'.heap[k]? = w.heap[k]? ∧ ¬ F' k ∧ ¬ M k) : WrAt w' M F' bl bx l ox := by
  cases ox with
  | none => trivial
  | some x =>
    obtain ⟨px, e, n1, n2, n3, h | h⟩ := h
    · obtain ⟨k1, hr⟩ := h
      obtain ⟨s1, s2, s3⟩ := hs px hr.lt n1 n2 n3
      exact ⟨px, e, n1, s2, s3, .inl ⟨k1, hr.keepB s1⟩⟩
    · obtain ⟨k1, k2, k3, gp, cp, g1, g2, g3, g4, hr, ho⟩ := h
      obtain ⟨s1, s2, s3⟩ := hs px hr.lt n1 n2 n3
      obtain ⟨t1, t2, t3⟩ := hs gp ho.lt0 g1 g3 g4
      exact ⟨px, e, n1, s2, s3, .inr ⟨k1, k2, k3, gp, cp, g1, g2, t2, t3, hr.keepB s1, ho.keepB t1⟩⟩
theorem QAt.keep (h : QAt w N F b bl bx m l ox) (hk : ∀ k, k < w.heap.size → ¬ N k → w'.heap[k]? = w.heap[k]?) (hs : w.heap.size ≤ w'.heap.size) (hm : ∀ k, M k → N k ∨ w.heap.size ≤ k) (hl : ∀ k, M k → k < w'.heap.size) : QAt w' M F b bl bx m l ox where
  x := RelX.keep h.x (fun k hF => hk k (h.x.lt hF) (h.fn k hF)) hs
  fn k hF hM := by
    rcases hm k hM with q | q
    · exact h.fn k hF q
    · have := h.x.lt hF; omega
  nl := hl
  bF := h.bF
  bN hM := by
    rcases hm bl hM with q | q
    · exact h.bN q
    · have := h.log.lt; omega
  log := h.log.keep (hk bl h.log.lt h.bN)
  wr := h.wr.keep fun k hl hb hF hN => ⟨hk k hl hN, hF, fun hM => by
    rcases hm k hM with q | q
    · exact hN q
    · omega⟩
/-- the world has turned -/
theorem QAt.world {F' : Nat → Prop} (h : QAt w N F b bl bx m l ox) (hc : Chg F w w') (hx : RelX w' b F' m') (hF : ∀ k, F' k → F k ∨ w.heap.size ≤ k) : QAt w' N F' b bl bx m' l ox where
  x := hx
  fn k hk hN := by
    rcases hF k hk with q | q
    · exact h.fn k q hN
    · have := h.nl k hN; omega
  nl k hN := Nat.lt_of_lt_of_le (h.nl k hN) hc.size
  bF hk := by
    rcases hF bl hk with q | q
    · exact h.bF q
    · have := h.log.lt; omega
  bN := h.bN
  log := h.log.keep (hc.block bl h.log.lt h.bF)
  wr := h.wr.keep fun k hl hb hF' hN => ⟨hc.block k hl hF', fun hk => by
    rcases hF k hk with q | q
    · exact hF' q
    · omega, hN⟩
theorem QAt.below (h : QAt w N F b bl bx m l ox) (hb : Below w.heap.size w w') : QAt w' N F b bl bx m l ox :=
  h.keep (fun k hk _ => hb.block k hk) hb.size (fun _ e => .inl e) (fun k e => Nat.lt_of_lt_of_le (h.nl k e) hb.size)
theorem QAt.kept (h : QAt w N F b bl bx m l ox) (hc : Chg F w w') : Kept N w w' := hc.mono fun k hk => h.fn k hk
end

section
variable {w : World} {b bl : Nat} {l : Lg}
theorem LogAt.cells (h : LogAt w b bl l) : ∃ e : Nat, (∀ j, w.cell? ⟨bl, j, none⟩ = (logL b e l)[j]?) ∧ (∀ j, w.frozen? ⟨bl, j, none⟩ = false) ∧ (l.gen ≠ 0 → e = l.at_) ∧ e ≤ 1000 := by
  obtain ⟨e, hr, h1, h2⟩ := h.row
  exact ⟨e, fun j => hr.cell j, fun j => hr.frozen j, h1, h2⟩
end

set_option maxRecDepth 100000 in
theorem qUsed (b bl : Nat) (l : Lg) (w : World) (h : LogAt w b bl l) : Calls Tryd.prog 12 #[.pointer (some ⟨bl, 0, none⟩)] w fun x w' => x = .returned (.int .i64 (l.used : Int)) ∧ w' = w := by
  obtain ⟨e, hc, _⟩ := h.cells
  have c6 := hc 6
  simp only [logL, List.getElem?_cons_succ, List.getElem?_cons_zero] at c6
  clear hc h
  go_enter Tryd.func12, Tryd.ntmps12
  go_wp2_with fail
  go_ret
  exact ⟨rfl, rfl⟩
set_option maxRecDepth 100000 in
theorem qUsedNil (w : World) : Calls Tryd.prog 12 #[.pointer none] w fun x w' => x = .returned (.int .i64 0) ∧ w' = w := by
  go_enter Tryd.func12, Tryd.ntmps12
  go_wp2_with fail
  go_ret
  exact ⟨rfl, rfl⟩
set_option maxRecDepth 100000 in
theorem qGen (b bl : Nat) (l : Lg) (w : World) (h : LogAt w b bl l) : Calls Tryd.prog 13 #[.pointer (some ⟨bl, 0, none⟩)] w fun x w' => x = .returned (.int .i64 l.gen) ∧ w' = w := by
  obtain ⟨e, hc, _⟩ := h.cells
  have c6 := hc 5
  simp only [logL, List.getElem?_cons_succ, List.getElem?_cons_zero] at c6
  clear hc h
  go_enter Tryd.func13, Tryd.ntmps13
  go_wp2_with fail
  go_ret
  exact ⟨rfl, rfl⟩
set_option maxRecDepth 100000 in
theorem qGenNil (w : World) : Calls Tryd.prog 13 #[.pointer none] w fun x w' => x = .returned (.int .i64 0) ∧ w' = w := by
  go_enter Tryd.func13, Tryd.ntmps13
  go_wp2_with fail
  go_ret
  exact ⟨rfl, rfl⟩
set_option maxRecDepth 100000 in
theorem qBusy (b bl : Nat) (l : Lg) (w : World) (h : LogAt w b bl l) : Calls Tryd.prog 14 #[.pointer (some ⟨bl, 0, none⟩)] w fun x w' => x = .returned (.bool l.busy) ∧ w' = w := by
  obtain ⟨e, hc, _⟩ := h.cells
  have c6 := hc 3
  simp only [logL, List.getElem?_cons_succ, List.getElem?_cons_zero] at c6
  clear hc h
  go_enter Tryd.func14, Tryd.ntmps14
  go_wp2_with fail
  go_ret
  exact ⟨rfl, rfl⟩
set_option maxRecDepth 100000 in
theorem qBusyNil (w : World) : Calls Tryd.prog 14 #[.pointer none] w fun x w' => x = .returned (.bool false) ∧ w' = w := by
  go_enter Tryd.func14, Tryd.ntmps14
  go_wp2_with fail
  go_ret
  exact ⟨rfl, rfl⟩

end Go.Proofs.YtfodclafkdkjbaaDoor

namespace Go.Proofs.YtfodclafkdkjbaaDoor
open Go.RowKit

theorem cnt_le (n : Int) : 0 ≤ cnt n ∧ cnt n ≤ 1 + (if 0 ≤ n then n else 0) := by
  unfold cnt
  split
  · omega
  · split <;> omega

theorem belowDN (w : World) (n : Nat) : Below w.heap.size w (w.drewN n) := ⟨rfl, rfl, rfl, Nat.le_refl _, fun _ _ => rfl⟩
set_option maxRecDepth 100000 in
set_option maxHeartbeats 1000000 in
/-- Room -/
theorem qRoom (b bl S : Nat) (l : Lg) (n : Int) (w : World) (h : LogAt w b bl l) (hS : w.cell? ⟨b, 1, none⟩ = some (.int .i64 (S : Int))) (hn : In64 n) :
    Calls Tryd.prog 16 #[.pointer (some ⟨bl, 0, none⟩), .int .i64 n] w fun x w' => x = .returned (.bool (decide (0 < l.gen) && decide (0 ≤ n) && decide ((l.used : Int) + cnt n ≤ S))) ∧ Below w.heap.size w w' := by
  obtain ⟨e, hc, _⟩ := h.cells
  have c0 := hc 0
  have c5 := hc 5
  have c6 := hc 6
  simp only [logL, List.getElem?_cons_succ, List.getElem?_cons_zero] at c0 c5 c6
  have g0 := h.g0
  have u0 := h.u
  clear hc h
  obtain ⟨G, hG⟩ : ∃ G, G = l.gen := ⟨_, rfl⟩
  obtain ⟨U, hU⟩ : ∃ U, U = l.used := ⟨_, rfl⟩
  rw [← hG] at c5 g0 ⊢
  rw [← hU] at c6 u0 ⊢
  clear hG hU
  by_cases hz : G = 0
  · subst hz
    have R := Lib.hid (show (decide ((0 : Int) < 0) && decide (0 ≤ n) && decide ((U : Int) + cnt n ≤ S)) = false by simp)
    go_enter Tryd.func16, Tryd.ntmps16
    go_wp2_with fail
    go_quiet (fail)
    go_wp2_with fail
    go_ret
    exact ⟨ret_bool R.out.symm, belowDN _ _⟩
  have z1 : (G != 0) = true := by simp [hz]
  by_cases hm : n < 0
  · have R := Lib.hid (show (decide ((0 : Int) < G) && decide (0 ≤ n) && decide ((U : Int) + cnt n ≤ S)) = false by rw [show decide (0 ≤ n) = false from decide_eq_false (by omega)]; simp)
    have d1 : decide (0 ≤ n) = false := decide_eq_false (by omega)
    clear hz
    go_enter Tryd.func16, Tryd.ntmps16
    go_wp2_with fail
    go_quiet (fail)
    go_wp2_with fail
    go_ret
    exact ⟨ret_bool R.out.symm, belowDN _ _⟩
  have d1 : decide (0 ≤ n) = true := decide_eq_true (by omega)
  obtain ⟨C, hC⟩ : ∃ C, C = cnt n := ⟨_, rfl⟩
  have C1 := cnt_le n
  have CN := Lib.hid (fun w => pCount n w hn.1 hn.2)
  have SE := Lib.hid (fun w (c : w.cell? ⟨b, 1, none⟩ = some (.int .i64 (S : Int))) => qSectors b S w c)
  rw [← hC] at C1 CN ⊢
  have C2 : 0 ≤ C ∧ C ≤ 1000000000000000000 := by
    have h2 := hn.2
    rw [hC]; unfold cnt; split
    · omega
    · split <;> omega
  have V2 : IntKind.i64.wrap ((U : Int) + C) = (U : Int) + C := by rw [IntKind.wrap_i64]; omega
  obtain ⟨T, hT⟩ : ∃ T, T = (U : Int) + C := ⟨_, rfl⟩
  have R := Lib.hid (show (decide ((0 : Int) < G) && decide (0 ≤ n) && decide ((U : Int) + C ≤ S)) = decide (T ≤ S) by rw [d1, decide_eq_true (show 0 < G by omega), hT]; simp)
  clear hz
  go_enter Tryd.func16, Tryd.ntmps16
  go_wp2_with fail
  go_quiet (first | (go_at_call 33; exact Calls.quiet_of_same (CN.out _)) | (go_at_call 34; exact Calls.quiet_of_same (SE.out _ hS)))
  go_wp2_with fail
  go_ret
  exact ⟨ret_bool (by rw [← hC, R.out, hT]), belowDN _ _⟩

end Go.Proofs.YtfodclafkdkjbaaDoor

namespace Go.Proofs.YtfodclafkdkjbaaDoor
open Go.RowKit

theorem OwnS.at0 {w : World} {B gp n cp : Nat} {zs : List ByteArray} (h : OwnS w B (.slice (some ⟨gp, 0, none⟩) n cp) zs) : OwnS w gp (.slice (some ⟨gp, 0, none⟩) n cp) zs ∧ B ≤ gp ∧ gp < w.heap.size := by
  have hl := h.lt gp rfl
  rcases h with ⟨e1, e2⟩
  refine ⟨⟨e1, ?_⟩, hl⟩
  rcases e2 with ⟨q, _⟩ | ⟨g, cap, cur, q, hB, hg, r⟩
  · cases q
  · have q' := q
    injection q' with q1 q2 q3
    injection q1 with q1
    injection q1 with q1 _ _
    subst q1
    exact .inr ⟨gp, cap, cur, q, Nat.le_refl _, hg, r⟩
theorem partsOf_pos (s : ByteArray) : 0 < (partsOf s).length := by
  rw [partsOf_len]; unfold cntN; split <;> omega

set_option maxRecDepth 100000 in
set_option maxHeartbeats 1000000 in
/-- begin -/
theorem qBegin (bl : Nat) (cs : List Value) (ge fr : Nat) (gg gu : Int) (s : ByteArray) (w : World) (hr : RowAt w bl cs 79) (h7 : 7 ≤ cs.length) (hf : fr ≤ 1000) (hs : s.size ≤ 5000) :
    Calls Tryd.prog 45 #[.pointer (some ⟨bl, 0, none⟩), .agg #[.int .i64 (ge : Int), .int .i64 gg, .int .i64 gu], .int .i64 (fr : Int), .string s] w fun x w' => ∃ px gp cp, x = .returned (.pointer (some ⟨px, 0, none⟩)) ∧ RowAt w' bl (cs.set 3 (.bool true)) 79 ∧
      RowAt w' px [.pointer (some ⟨bl, 0, none⟩), .int .i64 (ge : Int), .int .i64 gg, .int .i64 (fr + (partsOf s).length : Nat), .int .i64 (fr : Int), .slice (some ⟨gp, 0, none⟩) (partsOf s).length cp, .int .i64 0] 98 ∧
      OwnS w' gp (.slice (some ⟨gp, 0, none⟩) (partsOf s).length cp) (partsOf s) ∧ w.heap.size ≤ px ∧ w.heap.size ≤ gp ∧ gp ≠ px ∧ Chg (fun k => k = bl) w w' := by
  have PP := Lib.hid (fun w => pParts s w (by omega))
  have lt := hr.lt
  have c3 := hr.cell 3
  have f3 := hr.frozen 3
  rw [List.getElem?_eq_getElem (by omega)] at c3
  obtain ⟨v3, hv3⟩ : ∃ v3, v3 = cs[3]'(by omega) := ⟨_, rfl⟩
  rw [← hv3] at c3
  have n1 : bl ≠ w.heap.size := by omega
  obtain ⟨n, hn⟩ : ∃ n, n = (partsOf s).length := ⟨_, rfl⟩
  have n0 : n ≤ 200 := by rw [hn, partsOf_len]; unfold cntN; split <;> omega
  have n00 : 0 < n := by rw [hn]; exact partsOf_pos s
  have HN := Lib.hid hn
  rw [← hn]
  have R := Lib.hid hr
  clear hv3 hr hn
  go_enter Tryd.func45, Tryd.ntmps45
  go_wp2_with fail
  refine (PP.out _).mono ?_
  rintro e w2 ⟨v, rfl, ho, hb⟩
  obtain ⟨g, cp, rfl⟩ := ho.open_ (by rw [← HN.out]; exact n00)
  obtain ⟨ho1, hg1, hg2⟩ := ho.at0
  have sz : (w.setCell ⟨bl, 3, none⟩ (.bool true)).heap.size = w.heap.size := by simp [World.setCell]
  have R2 := Lib.hid (show RowAt w2 bl (cs.set 3 (.bool true)) 79 from ((R.out.set 3 (.bool true)).alloc _).below hb)
  have G2 : RowAt w2 w.heap.size [.int .i64 (ge : Int), .int .i64 gg, .int .i64 gu] 77 := by
    have k := RowAt.new (w.setCell ⟨bl, 3, none⟩ (.bool true)) [.int .i64 (ge : Int), .int .i64 gg, .int .i64 gu] 77
    rw [sz] at k
    exact k.below hb
  have asz : ∀ o, ((w.setCell ⟨bl, 3, none⟩ (.bool true)).alloc o).heap.size = w.heap.size + 1 := fun o => by rw [World.size_alloc, sz]
  rw [asz] at hg1
  have lt2 := G2.lt
  have d0 := G2.cell 0
  have d1 := G2.cell 1
  have d2 := G2.cell 2
  have fd := G2.frozen 2
  simp only [List.getElem?_cons_succ, List.getElem?_cons_zero] at d0 d1 d2
  have CH := Lib.hid (show Chg (fun k => k = bl) w w2 from (((Chg.refl (fun k => k = bl) w).setCell (p := ⟨bl, 3, none⟩) (.inl rfl) (.bool true)).alloc _).then (Chg.of_below hb))
  have SZ2 := Lib.hid (show w.heap.size + 1 ≤ w2.heap.size by have := hb.size; rw [asz] at this; exact this)
  have OW := Lib.hid ho1
  have G2' := Lib.hid G2
  have PLE := Lib.hid (HN.out)
  have HG1 := Lib.hid hg1
  have HG2 := Lib.hid hg2
  clear ho1 ho hb sz asz R G2 hg1 hg2
  rw [← HN.out]
  go_wp2_with fail
  go_ret
  have h1 := HG1.out
  have h2 := HG2.out
  have s2 : (w2.setCell ⟨w.heap.size, 2, none⟩ (.int .i64 ((fr : Int) + (n : Int)))).heap.size = w2.heap.size := World.size_setCell _ _ _
  refine ⟨w2.heap.size, g, cp, rfl, (R2.out.other (Ne.symm n1) _).alloc _, ?_, ?_, by omega, by omega, by omega, (CH.out.setCell (.inr (Nat.le_refl _)) _).alloc _⟩
  · have k := RowAt.new (w2.setCell ⟨w.heap.size, 2, none⟩ (.int .i64 ((fr : Int) + (n : Int)))) [.pointer (some ⟨bl, 0, none⟩), .int .i64 (ge : Int), .int .i64 gg, .int .i64 ((fr : Int) + (n : Int)), .int .i64 (fr : Int), .slice (some ⟨g, 0, none⟩) n cp, .int .i64 0] 98
    rw [s2] at k
    rw [Int.natCast_add]
    exact k
  · rw [PLE.out]
    exact OW.out.keepB ((Below.heap_alloc _ _ _ (by rw [World.size_setCell]; exact h2)).trans (Below.heap_setCell _ _ _ _ (by show g ≠ w.heap.size; omega)))

set_option maxRecDepth 100000 in
/-- other -/
theorem qOther (b bl : Nat) (l : Lg) (w : World) (h : LogAt w b bl l) : Calls Tryd.prog 46 #[.pointer (some ⟨bl, 0, none⟩)] w fun x w' => x = .returned (.int .i64 (l.to true : Nat)) ∧ ∃ n, w' = w.drewN n := by
  obtain ⟨e, hc, _, he, _⟩ := h.cells
  have c1 := hc 1
  have c4 := hc 4
  have c5 := hc 5
  simp only [logL, List.getElem?_cons_succ, List.getElem?_cons_zero] at c1 c4 c5
  have f0 := h.f
  have hz := h.z
  have ha := h.a
  clear hc h
  obtain ⟨G, hG⟩ : ∃ G, G = l.gen := ⟨_, rfl⟩
  obtain ⟨f, hf⟩ : ∃ f, f = l.first := ⟨_, rfl⟩
  obtain ⟨a, hA⟩ : ∃ a, a = l.at_ := ⟨_, rfl⟩
  have T : l.to true = if a = f then f + 1 else f := by unfold Lg.to; rw [if_pos rfl, ← hA, ← hf]
  obtain ⟨r, hr⟩ : ∃ r, r = l.to true := ⟨_, rfl⟩
  rw [← hr] at T ⊢
  clear hr
  rw [← hG, ← hA, ← hf] at hz
  rw [← hG, ← hA] at he
  rw [← hG] at c5
  rw [← hf] at c1 f0
  rw [← hA, ← hf] at ha
  clear hG hf hA
  by_cases z : G = 0
  · subst z
    have R := Lib.hid (show r = f by rw [T, hz rfl, if_neg (by omega)])
    clear hz he ha T
    go_enter Tryd.func46, Tryd.ntmps46
    go_wp2_with fail
    go_quiet (fail)
    go_wp2_with fail
    go_ret
    exact ⟨by rw [R.out]; rfl, _, rfl⟩
  · have he' := he z
    have z1 : (G == 0) = false := by simp [z]
    rcases ha with ha | ha
    · have R := Lib.hid (show (r : Int) = (f : Int) + 1 by rw [T, if_pos ha]; rfl)
      have e1 : e = f := he'.trans ha
      clear hz he ha z he' T
      subst e1
      go_enter Tryd.func46, Tryd.ntmps46
      go_wp2_with fail
      go_quiet (fail)
      go_wp2_with fail
      go_ret
      exact ⟨by rw [R.out]; rfl, _, rfl⟩
    · have R := Lib.hid (show r = f by rw [T, ha, if_neg (by omega)])
      have e1 : ((e : Int) != (f : Int)) = true := by
        have : e = f + 1 := he'.trans ha
        simp; omega
      clear hz he ha z he' T
      go_enter Tryd.func46, Tryd.ntmps46
      go_wp2_with fail
      go_quiet (fail)
      go_wp2_with fail
      go_ret
      exact ⟨by rw [R.out]; rfl, _, rfl⟩

end Go.Proofs.YtfodclafkdkjbaaDoor
