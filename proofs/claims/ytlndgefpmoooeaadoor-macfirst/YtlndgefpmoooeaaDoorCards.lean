/-
  DERIVED. GIVEN WITH THE SEED: THE CARDS: each row of YtlndgefpmoooeaaDoorRows.lean that lists a variable, with what it lists TIED to the program's text (the seventh form; the later family's looks); each row that meets fmt, with fmt's text TOLD by the authors' own Lean function (tested against real Go, not proved from fmt's source: count such statements apart). THE CARD IS WHAT COUNTS. Prove the row's statement (the work); the ties are given (YtlndgefpmoooeaaDoorTie.lean); close each card by the builder's one call (the guide's Derived/Test/ToyasCard.lean, 'card_holds'). Laid BY PROGRAM, IN A SANDBOX (cutbox-door.mjs). By AI agents, Wed Nov 11 2026. No macro, syntax, notation, axiom, sorry.
-/
import Derived.Test.YtlndgefpmoooeaaDoorRows
import GoSem.ClaimSeven
namespace Go.Proofs.YtlndgefpmoooeaaDoor
namespace Rows

/-- THE TIED CARD OF 'juratlaw03.MacSums'. -/
def macSumsCard : Claim7 := { stood := { row := macSumsRow, standIns := [], harness := (true, "c1aaf16a699fb574ed9094ce5eacd068c6fd07693febcb0b710cf4b7deeb39ec"), looks := false }, kinds := [], alts := [], laidByText := true, laidKinds := [.data, .data, .data], laidTests := true, laidLooks := .later }
def MacSumsCardSaid : Prop := Claim7.holds Tryd.pinned (.plain (OpenSpec.ofChange macSumsSpec)) macSumsCard

/-- THE TIED CARD OF 'juratlaw03.MacSame'. -/
def macSameCard : Claim7 := { stood := { row := macSameRow, standIns := [], harness := (true, "c1aaf16a699fb574ed9094ce5eacd068c6fd07693febcb0b710cf4b7deeb39ec"), looks := false }, kinds := [], alts := [], laidByText := true, laidKinds := [.data], laidTests := true, laidLooks := .later }
def MacSameCardSaid : Prop := Claim7.holds Tryd.pinned (.plain (OpenSpec.ofChange macSameSpec)) macSameCard

/-- THE TIED CARD OF 'juratlaw03.MacDerives'. -/
def macDerivesCard : Claim7 := { stood := { row := macDerivesRow, standIns := [], harness := (true, "c1aaf16a699fb574ed9094ce5eacd068c6fd07693febcb0b710cf4b7deeb39ec"), looks := false }, kinds := [], alts := [], laidByText := true, laidKinds := [.data, .data, .data], laidTests := true, laidLooks := .later }
def MacDerivesCardSaid : Prop := Claim7.holds Tryd.pinned (.plain (OpenSpec.ofChange macDerivesSpec)) macDerivesCard

/-- THE TIED CARD OF 'juratlaw03.MacSeeds'. -/
def macSeedsCard : Claim7 := { stood := { row := macSeedsRow, standIns := [], harness := (true, "c1aaf16a699fb574ed9094ce5eacd068c6fd07693febcb0b710cf4b7deeb39ec"), looks := false }, kinds := [], alts := [], laidByText := true, laidKinds := [.data, .data, .data], laidTests := true, laidLooks := .later }
def MacSeedsCardSaid : Prop := Claim7.holds Tryd.pinned (.plain (OpenSpec.ofChange macSeedsSpec)) macSeedsCard

/-- THE TIED CARD OF 'juratlaw03.MacKeys'. -/
def macKeysCard : Claim7 := { stood := { row := macKeysRow, standIns := [], harness := (true, "c1aaf16a699fb574ed9094ce5eacd068c6fd07693febcb0b710cf4b7deeb39ec"), looks := false }, kinds := [], alts := [], laidByText := true, laidKinds := [.data, .data, .data], laidTests := true, laidLooks := .later }
def MacKeysCardSaid : Prop := Claim7.holds Tryd.pinned (.plain (OpenSpec.ofChange macKeysSpec)) macKeysCard

/-- THE TIED CARD OF 'juratlaw03.MacFirst'. -/
def macFirstCard : Claim7 := { stood := { row := macFirstRow, standIns := [], harness := (true, "c1aaf16a699fb574ed9094ce5eacd068c6fd07693febcb0b710cf4b7deeb39ec"), looks := false }, kinds := [], alts := [], laidByText := true, laidKinds := [.data], laidTests := true, laidLooks := .later }
def MacFirstCardSaid : Prop := Claim7.holds Tryd.pinned (.plain (OpenSpec.ofChange macFirstSpec)) macFirstCard

/-- THE SECOND FORM's CARD OF 'juratlaw03.MacSums'. -/
def macSumsUptoCard : Claim7 := { stood := { row := macSumsUptoRow, standIns := [], harness := (true, "c1aaf16a699fb574ed9094ce5eacd068c6fd07693febcb0b710cf4b7deeb39ec"), looks := false }, kinds := [], alts := [], laidByText := true, laidKinds := [.data, .data, .data], laidTests := true, laidLooks := .later }
def MacSumsUptoCardSaid : Prop := Claim7.holds Tryd.pinned (.plain (OpenSpec.upto macSumsSpec)) macSumsUptoCard

/-- THE SECOND FORM's CARD OF 'juratlaw03.MacSame'. -/
def macSameUptoCard : Claim7 := { stood := { row := macSameUptoRow, standIns := [], harness := (true, "c1aaf16a699fb574ed9094ce5eacd068c6fd07693febcb0b710cf4b7deeb39ec"), looks := false }, kinds := [], alts := [], laidByText := true, laidKinds := [.data], laidTests := true, laidLooks := .later }
def MacSameUptoCardSaid : Prop := Claim7.holds Tryd.pinned (.plain (OpenSpec.upto macSameSpec)) macSameUptoCard

/-- THE SECOND FORM's CARD OF 'juratlaw03.MacDerives'. -/
def macDerivesUptoCard : Claim7 := { stood := { row := macDerivesUptoRow, standIns := [], harness := (true, "c1aaf16a699fb574ed9094ce5eacd068c6fd07693febcb0b710cf4b7deeb39ec"), looks := false }, kinds := [], alts := [], laidByText := true, laidKinds := [.data, .data, .data], laidTests := true, laidLooks := .later }
def MacDerivesUptoCardSaid : Prop := Claim7.holds Tryd.pinned (.plain (OpenSpec.upto macDerivesSpec)) macDerivesUptoCard

/-- THE SECOND FORM's CARD OF 'juratlaw03.MacSeeds'. -/
def macSeedsUptoCard : Claim7 := { stood := { row := macSeedsUptoRow, standIns := [], harness := (true, "c1aaf16a699fb574ed9094ce5eacd068c6fd07693febcb0b710cf4b7deeb39ec"), looks := false }, kinds := [], alts := [], laidByText := true, laidKinds := [.data, .data, .data], laidTests := true, laidLooks := .later }
def MacSeedsUptoCardSaid : Prop := Claim7.holds Tryd.pinned (.plain (OpenSpec.upto macSeedsSpec)) macSeedsUptoCard

/-- THE SECOND FORM's CARD OF 'juratlaw03.MacKeys'. -/
def macKeysUptoCard : Claim7 := { stood := { row := macKeysUptoRow, standIns := [], harness := (true, "c1aaf16a699fb574ed9094ce5eacd068c6fd07693febcb0b710cf4b7deeb39ec"), looks := false }, kinds := [], alts := [], laidByText := true, laidKinds := [.data, .data, .data], laidTests := true, laidLooks := .later }
def MacKeysUptoCardSaid : Prop := Claim7.holds Tryd.pinned (.plain (OpenSpec.upto macKeysSpec)) macKeysUptoCard

/-- THE SECOND FORM's CARD OF 'juratlaw03.MacFirst'. -/
def macFirstUptoCard : Claim7 := { stood := { row := macFirstUptoRow, standIns := [], harness := (true, "c1aaf16a699fb574ed9094ce5eacd068c6fd07693febcb0b710cf4b7deeb39ec"), looks := false }, kinds := [], alts := [], laidByText := true, laidKinds := [.data], laidTests := true, laidLooks := .later }
def MacFirstUptoCardSaid : Prop := Claim7.holds Tryd.pinned (.plain (OpenSpec.upto macFirstSpec)) macFirstUptoCard
end Rows
end Go.Proofs.YtlndgefpmoooeaaDoor
