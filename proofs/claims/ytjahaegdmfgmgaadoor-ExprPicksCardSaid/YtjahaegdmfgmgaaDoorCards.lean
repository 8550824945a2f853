/-
  DERIVED. GIVEN WITH THE SEED: THE CARDS: each row of YtjahaegdmfgmgaaDoorRows.lean that lists a variable, with what it lists TIED to the program's text (the seventh form; the later family's looks); each row that meets fmt, with fmt's text TOLD by the authors' own Lean function (tested against real Go, not proved from fmt's source: count such statements apart). THE CARD IS WHAT COUNTS. Prove the row's statement (the work); the ties are given (YtjahaegdmfgmgaaDoorTie.lean); close each card by the builder's one call (the guide's Derived/Test/ToyasCard.lean, 'card_holds'). Laid BY PROGRAM, IN A SANDBOX (cutbox-door.mjs). By AI agents, Wed Nov 11 2026. No macro, syntax, notation, axiom, sorry.
-/
import Derived.Test.YtjahaegdmfgmgaaDoorRows
import GoSem.ClaimSeven
namespace Go.Proofs.YtjahaegdmfgmgaaDoor
namespace Rows

/-- THE TIED CARD OF 'cloisonnelaw14.ExprRuns'. -/
def exprRunsCard : Claim7 := { stood := { row := exprRunsRow, standIns := [], harness := (true, "32a7fc976425790aa24e13065bc80ffa39758a1967cbe0943821fdcf31c7b94c"), looks := true }, kinds := [], alts := [], laidByText := true, laidKinds := [.data], laidTests := true, laidLooks := .later }
def ExprRunsCardSaid : Prop := Claim7.holds Tryd.pinned (.plain (OpenSpec.ofChange exprRunsSpec)) exprRunsCard

/-- THE TIED CARD OF 'cloisonnelaw14.ExprDepth'. -/
def exprDepthCard : Claim7 := { stood := { row := exprDepthRow, standIns := [], harness := (true, "32a7fc976425790aa24e13065bc80ffa39758a1967cbe0943821fdcf31c7b94c"), looks := true }, kinds := [], alts := [], laidByText := true, laidKinds := [.data], laidTests := true, laidLooks := .later }
def ExprDepthCardSaid : Prop := Claim7.holds Tryd.pinned (.plain (OpenSpec.ofChange exprDepthSpec)) exprDepthCard

/-- THE TIED CARD OF 'cloisonnelaw14.ExprSame'. -/
def exprSameCard : Claim7 := { stood := { row := exprSameRow, standIns := [], harness := (true, "32a7fc976425790aa24e13065bc80ffa39758a1967cbe0943821fdcf31c7b94c"), looks := true }, kinds := [], alts := [], laidByText := true, laidKinds := [.data], laidTests := true, laidLooks := .later }
def ExprSameCardSaid : Prop := Claim7.holds Tryd.pinned (.plain (OpenSpec.ofChange exprSameSpec)) exprSameCard

/-- THE TIED CARD OF 'cloisonnelaw14.ExprPicks'. -/
def exprPicksCard : Claim7 := { stood := { row := exprPicksRow, standIns := [], harness := (true, "32a7fc976425790aa24e13065bc80ffa39758a1967cbe0943821fdcf31c7b94c"), looks := true }, kinds := [], alts := [], laidByText := true, laidKinds := [.data], laidTests := true, laidLooks := .later }
def ExprPicksCardSaid : Prop := Claim7.holds Tryd.pinned (.plain (OpenSpec.ofChange exprPicksSpec)) exprPicksCard

/-- THE SECOND FORM's CARD OF 'cloisonnelaw14.ExprRuns'. -/
def exprRunsUptoCard : Claim7 := { stood := { row := exprRunsUptoRow, standIns := [], harness := (true, "32a7fc976425790aa24e13065bc80ffa39758a1967cbe0943821fdcf31c7b94c"), looks := true }, kinds := [], alts := [], laidByText := true, laidKinds := [.data], laidTests := true, laidLooks := .later }
def ExprRunsUptoCardSaid : Prop := Claim7.holds Tryd.pinned (.plain (OpenSpec.upto exprRunsSpec)) exprRunsUptoCard

/-- THE SECOND FORM's CARD OF 'cloisonnelaw14.ExprDepth'. -/
def exprDepthUptoCard : Claim7 := { stood := { row := exprDepthUptoRow, standIns := [], harness := (true, "32a7fc976425790aa24e13065bc80ffa39758a1967cbe0943821fdcf31c7b94c"), looks := true }, kinds := [], alts := [], laidByText := true, laidKinds := [.data], laidTests := true, laidLooks := .later }
def ExprDepthUptoCardSaid : Prop := Claim7.holds Tryd.pinned (.plain (OpenSpec.upto exprDepthSpec)) exprDepthUptoCard

/-- THE SECOND FORM's CARD OF 'cloisonnelaw14.ExprSame'. -/
def exprSameUptoCard : Claim7 := { stood := { row := exprSameUptoRow, standIns := [], harness := (true, "32a7fc976425790aa24e13065bc80ffa39758a1967cbe0943821fdcf31c7b94c"), looks := true }, kinds := [], alts := [], laidByText := true, laidKinds := [.data], laidTests := true, laidLooks := .later }
def ExprSameUptoCardSaid : Prop := Claim7.holds Tryd.pinned (.plain (OpenSpec.upto exprSameSpec)) exprSameUptoCard

/-- THE SECOND FORM's CARD OF 'cloisonnelaw14.ExprPicks'. -/
def exprPicksUptoCard : Claim7 := { stood := { row := exprPicksUptoRow, standIns := [], harness := (true, "32a7fc976425790aa24e13065bc80ffa39758a1967cbe0943821fdcf31c7b94c"), looks := true }, kinds := [], alts := [], laidByText := true, laidKinds := [.data], laidTests := true, laidLooks := .later }
def ExprPicksUptoCardSaid : Prop := Claim7.holds Tryd.pinned (.plain (OpenSpec.upto exprPicksSpec)) exprPicksUptoCard
end Rows
end Go.Proofs.YtjahaegdmfgmgaaDoor
