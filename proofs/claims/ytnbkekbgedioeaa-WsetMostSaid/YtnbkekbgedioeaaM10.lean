/- Proved parts: C9u C9x. Conditions: each theorem's own. -/
import Derived.Test.YtnbkekbgedioeaaM9
import Derived.Laws.Rows
import Derived.BigQuiet
namespace Go.Proofs.Ytnbkekbgedioeaa
open Go.RowKit

theorem results_cell_tmp {P : Program} {fn : Func} {p q : Tmp} {ty : TypeId} (h : fn.results = #[.cell p ty, .tmp q]) (tmps : Array Value) (w : World) (g : Nat) (t : TypeId) (cs : List Value) (d : TypeDesc)
    (hp : tmps.getD p undef = .pointer (some ⟨g, 0, none⟩)) (hg : RowAt w g cs t)
    (hu : P.underlying ty = some d) (hd : (match d with | .struct _ | .array _ _ => true | _ => false) = true) (hi : (P.info? ty).map (·.size) = some cs.toArray.size) :
    (results fn tmps).run P w = .ok (.tuple #[.agg cs.toArray, tmps.getD q undef]) w := by
  have hp' : tmps[p]?.getD undef = .pointer (some ⟨g, 0, none⟩) := by simpa using hp
  simp [results, h, hp', asAddr, run_loadVar_row w g t ty cs.toArray _ d hg hu hd hi]

end Go.Proofs.Ytnbkekbgedioeaa

namespace Go.Proofs.Ytnbkekbgedioeaa
open Go.RowKit

/-- versions that the laws hand on -/
structure GoodL (l : List Ver) : Prop where
  fits : FitsL l
  texts : ∀ x, x ∈ l → x.val.txt.size ≤ 1000
  len : l.length ≤ 1000
theorem GoodL.drop {l : List Ver} (h : GoodL l) (k : Nat) : GoodL (l.drop k) :=
  ⟨fun x hx => h.fits x (List.mem_of_mem_drop hx), fun x hx => h.texts x (List.mem_of_mem_drop hx), by rw [List.length_drop]; have := h.len; omega⟩
theorem GoodL.nil : GoodL [] := ⟨fun x hx => (by cases hx), fun x hx => (by cases hx), by decide⟩
end Go.Proofs.Ytnbkekbgedioeaa
