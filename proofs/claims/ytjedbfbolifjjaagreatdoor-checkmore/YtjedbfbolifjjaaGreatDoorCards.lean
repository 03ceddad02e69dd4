/-
  DERIVED. GIVEN WITH THE SEED: THE CARDS: each row of YtjedbfbolifjjaaGreatDoorRows.lean that lists a variable, with what it lists TIED to the program's text (the seventh form; the later family's looks); each row that meets fmt, with fmt's text TOLD by the authors' own Lean function (tested against real Go, not proved from fmt's source: count such statements apart). THE CARD IS WHAT COUNTS. Prove the row's statement (the work); the ties are given (YtjedbfbolifjjaaGreatDoorTie.lean); close each card by the builder's one call (the guide's Derived/Test/ToyasCard.lean, 'card_holds'). Laid BY PROGRAM, IN A SANDBOX (cutbox-door.mjs). By AI agents, Wed Nov 11 2026. No macro, syntax, notation, axiom, sorry.
-/
import Derived.Test.YtjedbfbolifjjaaGreatDoorRows
import GoSem.ClaimSeven
namespace Go.Proofs.YtjedbfbolifjjaaGreatDoor
namespace Rows

/-- THE TIED CARD OF 'rookerylaw17.CheckTrees'. -/
def checkTreesCard : Claim7 := { stood := { row := checkTreesRow, standIns := [], harness := (true, "4e6c12c85112968efcc89eecb9ea8d3da716f420f001c585a01c91d791c181ef"), looks := true }, kinds := [], alts := [], laidByText := true, laidKinds := [.data, .data, .data, .sentinel, .sentinel, .listed, .data, .data, .data, .data], laidTests := true, laidLooks := .later }
def CheckTreesCardSaid : Prop := Claim7.holds Tryz.pinned (.plain (OpenSpec.ofChange checkTreesSpec)) checkTreesCard

/-- THE TIED CARD OF 'rookerylaw17.CheckTexts'. -/
def checkTextsCard : Claim7 := { stood := { row := checkTextsRow, standIns := [], harness := (true, "4e6c12c85112968efcc89eecb9ea8d3da716f420f001c585a01c91d791c181ef"), looks := true }, kinds := [], alts := [], laidByText := true, laidKinds := [.data, .data, .data, .sentinel, .sentinel, .listed, .data, .data, .data, .data], laidTests := true, laidLooks := .later }
def CheckTextsCardSaid : Prop := Claim7.holds Tryz.pinned (.plain (OpenSpec.ofChange checkTextsSpec)) checkTextsCard

/-- THE TIED CARD OF 'rookerylaw17.CheckTables'. -/
def checkTablesCard : Claim7 := { stood := { row := checkTablesRow, standIns := [], harness := (true, "4e6c12c85112968efcc89eecb9ea8d3da716f420f001c585a01c91d791c181ef"), looks := true }, kinds := [], alts := [], laidByText := true, laidKinds := [.data, .data, .data, .sentinel, .sentinel, .listed, .data, .data, .data, .data], laidTests := true, laidLooks := .later }
def CheckTablesCardSaid : Prop := Claim7.holds Tryz.pinned (.plain (OpenSpec.ofChange checkTablesSpec)) checkTablesCard

/-- THE TIED CARD OF 'rookerylaw17.CheckSlots'. -/
def checkSlotsCard : Claim7 := { stood := { row := checkSlotsRow, standIns := [], harness := (true, "4e6c12c85112968efcc89eecb9ea8d3da716f420f001c585a01c91d791c181ef"), looks := true }, kinds := [], alts := [], laidByText := true, laidKinds := [.data, .data, .data, .sentinel, .sentinel, .listed, .data, .data, .data, .data], laidTests := true, laidLooks := .later }
def CheckSlotsCardSaid : Prop := Claim7.holds Tryz.pinned (.plain (OpenSpec.ofChange checkSlotsSpec)) checkSlotsCard

/-- THE TIED CARD OF 'rookerylaw17.CheckMore'. -/
def checkMoreCard : Claim7 := { stood := { row := checkMoreRow, standIns := [], harness := (true, "4e6c12c85112968efcc89eecb9ea8d3da716f420f001c585a01c91d791c181ef"), looks := true }, kinds := [], alts := [], laidByText := true, laidKinds := [.data, .data, .data, .sentinel, .sentinel, .listed, .data, .data, .data, .data], laidTests := true, laidLooks := .later }
def CheckMoreCardSaid : Prop := Claim7.holds Tryz.pinned (.plain (OpenSpec.ofChange checkMoreSpec)) checkMoreCard

/-- THE TIED CARD OF 'rookerylaw17.CheckTurns'. -/
def checkTurnsCard : Claim7 := { stood := { row := checkTurnsRow, standIns := [], harness := (true, "4e6c12c85112968efcc89eecb9ea8d3da716f420f001c585a01c91d791c181ef"), looks := true }, kinds := [], alts := [], laidByText := true, laidKinds := [.data, .data, .data, .sentinel, .sentinel, .listed, .data, .data, .data, .data], laidTests := true, laidLooks := .later }
def CheckTurnsCardSaid : Prop := Claim7.holds Tryz.pinned (.plain (OpenSpec.ofChange checkTurnsSpec)) checkTurnsCard

/-- THE SECOND FORM's CARD OF 'rookerylaw17.CheckTrees'. -/
def checkTreesUptoCard : Claim7 := { stood := { row := checkTreesUptoRow, standIns := [], harness := (true, "4e6c12c85112968efcc89eecb9ea8d3da716f420f001c585a01c91d791c181ef"), looks := true }, kinds := [], alts := [], laidByText := true, laidKinds := [.data, .data, .data, .sentinel, .sentinel, .listed, .data, .data, .data, .data], laidTests := true, laidLooks := .later }
def CheckTreesUptoCardSaid : Prop := Claim7.holds Tryz.pinned (.plain (OpenSpec.upto checkTreesSpec)) checkTreesUptoCard

/-- THE SECOND FORM's CARD OF 'rookerylaw17.CheckTexts'. -/
def checkTextsUptoCard : Claim7 := { stood := { row := checkTextsUptoRow, standIns := [], harness := (true, "4e6c12c85112968efcc89eecb9ea8d3da716f420f001c585a01c91d791c181ef"), looks := true }, kinds := [], alts := [], laidByText := true, laidKinds := [.data, .data, .data, .sentinel, .sentinel, .listed, .data, .data, .data, .data], laidTests := true, laidLooks := .later }
def CheckTextsUptoCardSaid : Prop := Claim7.holds Tryz.pinned (.plain (OpenSpec.upto checkTextsSpec)) checkTextsUptoCard

/-- THE SECOND FORM's CARD OF 'rookerylaw17.CheckTables'. -/
def checkTablesUptoCard : Claim7 := { stood := { row := checkTablesUptoRow, standIns := [], harness := (true, "4e6c12c85112968efcc89eecb9ea8d3da716f420f001c585a01c91d791c181ef"), looks := true }, kinds := [], alts := [], laidByText := true, laidKinds := [.data, .data, .data, .sentinel, .sentinel, .listed, .data, .data, .data, .data], laidTests := true, laidLooks := .later }
def CheckTablesUptoCardSaid : Prop := Claim7.holds Tryz.pinned (.plain (OpenSpec.upto checkTablesSpec)) checkTablesUptoCard

/-- THE SECOND FORM's CARD OF 'rookerylaw17.CheckSlots'. -/
def checkSlotsUptoCard : Claim7 := { stood := { row := checkSlotsUptoRow, standIns := [], harness := (true, "4e6c12c85112968efcc89eecb9ea8d3da716f420f001c585a01c91d791c181ef"), looks := true }, kinds := [], alts := [], laidByText := true, laidKinds := [.data, .data, .data, .sentinel, .sentinel, .listed, .data, .data, .data, .data], laidTests := true, laidLooks := .later }
def CheckSlotsUptoCardSaid : Prop := Claim7.holds Tryz.pinned (.plain (OpenSpec.upto checkSlotsSpec)) checkSlotsUptoCard

/-- THE SECOND FORM's CARD OF 'rookerylaw17.CheckMore'. -/
def checkMoreUptoCard : Claim7 := { stood := { row := checkMoreUptoRow, standIns := [], harness := (true, "4e6c12c85112968efcc89eecb9ea8d3da716f420f001c585a01c91d791c181ef"), looks := true }, kinds := [], alts := [], laidByText := true, laidKinds := [.data, .data, .data, .sentinel, .sentinel, .listed, .data, .data, .data, .data], laidTests := true, laidLooks := .later }
def CheckMoreUptoCardSaid : Prop := Claim7.holds Tryz.pinned (.plain (OpenSpec.upto checkMoreSpec)) checkMoreUptoCard

/-- THE SECOND FORM's CARD OF 'rookerylaw17.CheckTurns'. -/
def checkTurnsUptoCard : Claim7 := { stood := { row := checkTurnsUptoRow, standIns := [], harness := (true, "4e6c12c85112968efcc89eecb9ea8d3da716f420f001c585a01c91d791c181ef"), looks := true }, kinds := [], alts := [], laidByText := true, laidKinds := [.data, .data, .data, .sentinel, .sentinel, .listed, .data, .data, .data, .data], laidTests := true, laidLooks := .later }
def CheckTurnsUptoCardSaid : Prop := Claim7.holds Tryz.pinned (.plain (OpenSpec.upto checkTurnsSpec)) checkTurnsUptoCard
end Rows
end Go.Proofs.YtjedbfbolifjjaaGreatDoor
