/-
  DERIVED. GIVEN WITH THE SEED: THE CARDS: each row of YtimeamehmefgnaaDoorRows.lean that lists a variable, with what it lists TIED to the program's text (the seventh form; the later family's looks); each row that meets fmt, with fmt's text TOLD by the authors' own Lean function (tested against real Go, not proved from fmt's source: count such statements apart). THE CARD IS WHAT COUNTS. Prove the row's statement (the work); the ties are given (YtimeamehmefgnaaDoorTie.lean); close each card by the builder's one call (the guide's Derived/Test/ToyasCard.lean, 'card_holds'). Laid BY PROGRAM, IN A SANDBOX (cutbox-door.mjs). By AI agents, Wed Nov 11 2026. No macro, syntax, notation, axiom, sorry.
-/
import Derived.Test.YtimeamehmefgnaaDoorRows
import GoSem.ClaimSeven
namespace Go.Proofs.YtimeamehmefgnaaDoor
namespace Rows

/-- THE TIED CARD OF 'ponderlaw04.SymTexts'. -/
def symTextsCard : Claim7 := { stood := { row := symTextsRow, standIns := [], harness := (true, "fde52ac4c62fa5626eaeb8eea04240f6bdf3a3224a3a9c9e5b2a4b25d22fc31f"), looks := true }, kinds := [], alts := [], laidByText := true, laidKinds := [.data, .data, .data, .sentinel, .sentinel], laidTests := true, laidLooks := .later }
def SymTextsCardSaid : Prop := Claim7.holds Tryd.pinned (.plain (OpenSpec.ofChange symTextsSpec)) symTextsCard

/-- THE TIED CARD OF 'ponderlaw04.SymParses'. -/
def symParsesCard : Claim7 := { stood := { row := symParsesRow, standIns := [], harness := (true, "fde52ac4c62fa5626eaeb8eea04240f6bdf3a3224a3a9c9e5b2a4b25d22fc31f"), looks := true }, kinds := [], alts := [], laidByText := true, laidKinds := [.data, .data, .data, .sentinel, .sentinel], laidTests := true, laidLooks := .later }
def SymParsesCardSaid : Prop := Claim7.holds Tryd.pinned (.plain (OpenSpec.ofChange symParsesSpec)) symParsesCard

/-- THE TIED CARD OF 'ponderlaw04.SymBack'. -/
def symBackCard : Claim7 := { stood := { row := symBackRow, standIns := [], harness := (true, "fde52ac4c62fa5626eaeb8eea04240f6bdf3a3224a3a9c9e5b2a4b25d22fc31f"), looks := true }, kinds := [], alts := [], laidByText := true, laidKinds := [.data, .data, .data, .sentinel, .sentinel], laidTests := true, laidLooks := .later }
def SymBackCardSaid : Prop := Claim7.holds Tryd.pinned (.plain (OpenSpec.ofChange symBackSpec)) symBackCard

/-- THE TIED CARD OF 'ponderlaw04.SymOrder'. -/
def symOrderCard : Claim7 := { stood := { row := symOrderRow, standIns := [], harness := (true, "fde52ac4c62fa5626eaeb8eea04240f6bdf3a3224a3a9c9e5b2a4b25d22fc31f"), looks := true }, kinds := [], alts := [], laidByText := true, laidKinds := [.data, .data, .data, .sentinel, .sentinel], laidTests := true, laidLooks := .later }
def SymOrderCardSaid : Prop := Claim7.holds Tryd.pinned (.plain (OpenSpec.ofChange symOrderSpec)) symOrderCard

/-- THE SECOND FORM's CARD OF 'ponderlaw04.SymTexts'. -/
def symTextsUptoCard : Claim7 := { stood := { row := symTextsUptoRow, standIns := [], harness := (true, "fde52ac4c62fa5626eaeb8eea04240f6bdf3a3224a3a9c9e5b2a4b25d22fc31f"), looks := true }, kinds := [], alts := [], laidByText := true, laidKinds := [.data, .data, .data, .sentinel, .sentinel], laidTests := true, laidLooks := .later }
def SymTextsUptoCardSaid : Prop := Claim7.holds Tryd.pinned (.plain (OpenSpec.upto symTextsSpec)) symTextsUptoCard

/-- THE SECOND FORM's CARD OF 'ponderlaw04.SymParses'. -/
def symParsesUptoCard : Claim7 := { stood := { row := symParsesUptoRow, standIns := [], harness := (true, "fde52ac4c62fa5626eaeb8eea04240f6bdf3a3224a3a9c9e5b2a4b25d22fc31f"), looks := true }, kinds := [], alts := [], laidByText := true, laidKinds := [.data, .data, .data, .sentinel, .sentinel], laidTests := true, laidLooks := .later }
def SymParsesUptoCardSaid : Prop := Claim7.holds Tryd.pinned (.plain (OpenSpec.upto symParsesSpec)) symParsesUptoCard

/-- THE SECOND FORM's CARD OF 'ponderlaw04.SymBack'. -/
def symBackUptoCard : Claim7 := { stood := { row := symBackUptoRow, standIns := [], harness := (true, "fde52ac4c62fa5626eaeb8eea04240f6bdf3a3224a3a9c9e5b2a4b25d22fc31f"), looks := true }, kinds := [], alts := [], laidByText := true, laidKinds := [.data, .data, .data, .sentinel, .sentinel], laidTests := true, laidLooks := .later }
def SymBackUptoCardSaid : Prop := Claim7.holds Tryd.pinned (.plain (OpenSpec.upto symBackSpec)) symBackUptoCard

/-- THE SECOND FORM's CARD OF 'ponderlaw04.SymOrder'. -/
def symOrderUptoCard : Claim7 := { stood := { row := symOrderUptoRow, standIns := [], harness := (true, "fde52ac4c62fa5626eaeb8eea04240f6bdf3a3224a3a9c9e5b2a4b25d22fc31f"), looks := true }, kinds := [], alts := [], laidByText := true, laidKinds := [.data, .data, .data, .sentinel, .sentinel], laidTests := true, laidLooks := .later }
def SymOrderUptoCardSaid : Prop := Claim7.holds Tryd.pinned (.plain (OpenSpec.upto symOrderSpec)) symOrderUptoCard
end Rows
end Go.Proofs.YtimeamehmefgnaaDoor
