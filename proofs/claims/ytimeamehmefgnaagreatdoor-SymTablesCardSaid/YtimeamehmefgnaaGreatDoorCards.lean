/-
  DERIVED. GIVEN WITH THE SEED: THE CARDS: each row of YtimeamehmefgnaaGreatDoorRows.lean that lists a variable, with what it lists TIED to the program's text (the seventh form; the later family's looks); each row that meets fmt, with fmt's text TOLD by the authors' own Lean function (tested against real Go, not proved from fmt's source: count such statements apart). THE CARD IS WHAT COUNTS. Prove the row's statement (the work); the ties are given (YtimeamehmefgnaaGreatDoorTie.lean); close each card by the builder's one call (the guide's Derived/Test/ToyasCard.lean, 'card_holds'). Laid BY PROGRAM, IN A SANDBOX (cutbox-door.mjs). By AI agents, Wed Nov 11 2026. No macro, syntax, notation, axiom, sorry.
-/
import Derived.Test.YtimeamehmefgnaaGreatDoorRows
import GoSem.ClaimSeven
namespace Go.Proofs.YtimeamehmefgnaaGreatDoor
namespace Rows

/-- THE TIED CARD OF 'ponderlaw04.SymTables'. -/
def symTablesCard : Claim7 := { stood := { row := symTablesRow, standIns := [], harness := (true, "ba6fd29199d2448699ec3eca631a284e422d73414021d1ab76878275d4074ef0"), looks := true }, kinds := [], alts := [], laidByText := true, laidKinds := [.data, .data, .data, .sentinel, .sentinel], laidTests := true, laidLooks := .later }
def SymTablesCardSaid : Prop := Claim7.holds Tryz.pinned (.plain (OpenSpec.ofChange symTablesSpec)) symTablesCard

/-- THE TIED CARD OF 'ponderlaw04.SymFresh'. -/
def symFreshCard : Claim7 := { stood := { row := symFreshRow, standIns := [], harness := (true, "ba6fd29199d2448699ec3eca631a284e422d73414021d1ab76878275d4074ef0"), looks := true }, kinds := [], alts := [], laidByText := true, laidKinds := [.data, .data, .data, .sentinel, .sentinel], laidTests := true, laidLooks := .later }
def SymFreshCardSaid : Prop := Claim7.holds Tryz.pinned (.plain (OpenSpec.ofChange symFreshSpec)) symFreshCard

/-- THE TIED CARD OF 'ponderlaw04.SymClones'. -/
def symClonesCard : Claim7 := { stood := { row := symClonesRow, standIns := [], harness := (true, "ba6fd29199d2448699ec3eca631a284e422d73414021d1ab76878275d4074ef0"), looks := true }, kinds := [], alts := [], laidByText := true, laidKinds := [.data, .data, .data, .sentinel, .sentinel], laidTests := true, laidLooks := .later }
def SymClonesCardSaid : Prop := Claim7.holds Tryz.pinned (.plain (OpenSpec.ofChange symClonesSpec)) symClonesCard

/-- THE SECOND FORM's CARD OF 'ponderlaw04.SymTables'. -/
def symTablesUptoCard : Claim7 := { stood := { row := symTablesUptoRow, standIns := [], harness := (true, "ba6fd29199d2448699ec3eca631a284e422d73414021d1ab76878275d4074ef0"), looks := true }, kinds := [], alts := [], laidByText := true, laidKinds := [.data, .data, .data, .sentinel, .sentinel], laidTests := true, laidLooks := .later }
def SymTablesUptoCardSaid : Prop := Claim7.holds Tryz.pinned (.plain (OpenSpec.upto symTablesSpec)) symTablesUptoCard

/-- THE SECOND FORM's CARD OF 'ponderlaw04.SymFresh'. -/
def symFreshUptoCard : Claim7 := { stood := { row := symFreshUptoRow, standIns := [], harness := (true, "ba6fd29199d2448699ec3eca631a284e422d73414021d1ab76878275d4074ef0"), looks := true }, kinds := [], alts := [], laidByText := true, laidKinds := [.data, .data, .data, .sentinel, .sentinel], laidTests := true, laidLooks := .later }
def SymFreshUptoCardSaid : Prop := Claim7.holds Tryz.pinned (.plain (OpenSpec.upto symFreshSpec)) symFreshUptoCard

/-- THE SECOND FORM's CARD OF 'ponderlaw04.SymClones'. -/
def symClonesUptoCard : Claim7 := { stood := { row := symClonesUptoRow, standIns := [], harness := (true, "ba6fd29199d2448699ec3eca631a284e422d73414021d1ab76878275d4074ef0"), looks := true }, kinds := [], alts := [], laidByText := true, laidKinds := [.data, .data, .data, .sentinel, .sentinel], laidTests := true, laidLooks := .later }
def SymClonesUptoCardSaid : Prop := Claim7.holds Tryz.pinned (.plain (OpenSpec.upto symClonesSpec)) symClonesUptoCard
end Rows
end Go.Proofs.YtimeamehmefgnaaGreatDoor
