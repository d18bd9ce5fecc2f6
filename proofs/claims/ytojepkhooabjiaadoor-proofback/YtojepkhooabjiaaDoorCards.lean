/-
  DERIVED. GIVEN WITH THE SEED: THE CARDS: each row of YtojepkhooabjiaaDoorRows.lean that lists a variable, with what it lists TIED to the program's text (the seventh form; the later family's looks); each row that meets fmt, with fmt's text TOLD by the authors' own Lean function (tested against real Go, not proved from fmt's source: count such statements apart). THE CARD IS WHAT COUNTS. Prove the row's statement (the work); the ties are given (YtojepkhooabjiaaDoorTie.lean); close each card by the builder's one call (the guide's Derived/Test/ToyasCard.lean, 'card_holds'). Laid BY PROGRAM, IN A SANDBOX (cutbox-door.mjs). By AI agents, Wed Nov 11 2026. No macro, syntax, notation, axiom, sorry.
-/
import Derived.Test.YtojepkhooabjiaaDoorRows
import GoSem.ClaimSeven
namespace Go.Proofs.YtojepkhooabjiaaDoor
namespace Rows

/-- THE TIED CARD OF 'juratlaw08.ProofRoots'. -/
def proofRootsCard : Claim7 := { stood := { row := proofRootsRow, standIns := [], harness := (true, "94cbc27510e38751a60ab1ffe97d8db4da220d4986d50e976b7ed11b3ca8a243"), looks := false }, kinds := [], alts := [], laidByText := true, laidKinds := [.data, .data, .data], laidTests := true, laidLooks := .later }
def ProofRootsCardSaid : Prop := Claim7.holds Tryd.pinned (.plain (OpenSpec.ofChange proofRootsSpec)) proofRootsCard

/-- THE TIED CARD OF 'juratlaw08.ProofMakes'. -/
def proofMakesCard : Claim7 := { stood := { row := proofMakesRow, standIns := [], harness := (true, "94cbc27510e38751a60ab1ffe97d8db4da220d4986d50e976b7ed11b3ca8a243"), looks := false }, kinds := [], alts := [], laidByText := true, laidKinds := [.data, .data, .data], laidTests := true, laidLooks := .later }
def ProofMakesCardSaid : Prop := Claim7.holds Tryd.pinned (.plain (OpenSpec.ofChange proofMakesSpec)) proofMakesCard

/-- THE TIED CARD OF 'juratlaw08.ProofIncluded'. -/
def proofIncludedCard : Claim7 := { stood := { row := proofIncludedRow, standIns := [], harness := (true, "94cbc27510e38751a60ab1ffe97d8db4da220d4986d50e976b7ed11b3ca8a243"), looks := false }, kinds := [], alts := [], laidByText := true, laidKinds := [.data, .data, .data], laidTests := true, laidLooks := .later }
def ProofIncludedCardSaid : Prop := Claim7.holds Tryd.pinned (.plain (OpenSpec.ofChange proofIncludedSpec)) proofIncludedCard

/-- THE TIED CARD OF 'juratlaw08.ProofConsistent'. -/
def proofConsistentCard : Claim7 := { stood := { row := proofConsistentRow, standIns := [], harness := (true, "94cbc27510e38751a60ab1ffe97d8db4da220d4986d50e976b7ed11b3ca8a243"), looks := false }, kinds := [], alts := [], laidByText := true, laidKinds := [.data, .data, .data, .data, .data], laidTests := true, laidLooks := .later }
def ProofConsistentCardSaid : Prop := Claim7.holds Tryd.pinned (.plain (OpenSpec.ofChange proofConsistentSpec)) proofConsistentCard

/-- THE TIED CARD OF 'juratlaw08.ProofBack'. -/
def proofBackCard : Claim7 := { stood := { row := proofBackRow, standIns := [], harness := (true, "94cbc27510e38751a60ab1ffe97d8db4da220d4986d50e976b7ed11b3ca8a243"), looks := false }, kinds := [], alts := [], laidByText := true, laidKinds := [.data, .data, .data], laidTests := true, laidLooks := .later }
def ProofBackCardSaid : Prop := Claim7.holds Tryd.pinned (.plain (OpenSpec.ofChange proofBackSpec)) proofBackCard

/-- THE TIED CARD OF 'juratlaw08.ProofShort'. -/
def proofShortCard : Claim7 := { stood := { row := proofShortRow, standIns := [], harness := (true, "94cbc27510e38751a60ab1ffe97d8db4da220d4986d50e976b7ed11b3ca8a243"), looks := false }, kinds := [], alts := [], laidByText := true, laidKinds := [.data], laidTests := true, laidLooks := .later }
def ProofShortCardSaid : Prop := Claim7.holds Tryd.pinned (.plain (OpenSpec.ofChange proofShortSpec)) proofShortCard

/-- THE TIED CARD OF 'juratlaw08.ProofGrows'. -/
def proofGrowsCard : Claim7 := { stood := { row := proofGrowsRow, standIns := [], harness := (true, "94cbc27510e38751a60ab1ffe97d8db4da220d4986d50e976b7ed11b3ca8a243"), looks := false }, kinds := [], alts := [], laidByText := true, laidKinds := [.data], laidTests := true, laidLooks := .later }
def ProofGrowsCardSaid : Prop := Claim7.holds Tryd.pinned (.plain (OpenSpec.ofChange proofGrowsSpec)) proofGrowsCard

/-- THE SECOND FORM's CARD OF 'juratlaw08.ProofRoots'. -/
def proofRootsUptoCard : Claim7 := { stood := { row := proofRootsUptoRow, standIns := [], harness := (true, "94cbc27510e38751a60ab1ffe97d8db4da220d4986d50e976b7ed11b3ca8a243"), looks := false }, kinds := [], alts := [], laidByText := true, laidKinds := [.data, .data, .data], laidTests := true, laidLooks := .later }
def ProofRootsUptoCardSaid : Prop := Claim7.holds Tryd.pinned (.plain (OpenSpec.upto proofRootsSpec)) proofRootsUptoCard

/-- THE SECOND FORM's CARD OF 'juratlaw08.ProofMakes'. -/
def proofMakesUptoCard : Claim7 := { stood := { row := proofMakesUptoRow, standIns := [], harness := (true, "94cbc27510e38751a60ab1ffe97d8db4da220d4986d50e976b7ed11b3ca8a243"), looks := false }, kinds := [], alts := [], laidByText := true, laidKinds := [.data, .data, .data], laidTests := true, laidLooks := .later }
def ProofMakesUptoCardSaid : Prop := Claim7.holds Tryd.pinned (.plain (OpenSpec.upto proofMakesSpec)) proofMakesUptoCard

/-- THE SECOND FORM's CARD OF 'juratlaw08.ProofIncluded'. -/
def proofIncludedUptoCard : Claim7 := { stood := { row := proofIncludedUptoRow, standIns := [], harness := (true, "94cbc27510e38751a60ab1ffe97d8db4da220d4986d50e976b7ed11b3ca8a243"), looks := false }, kinds := [], alts := [], laidByText := true, laidKinds := [.data, .data, .data], laidTests := true, laidLooks := .later }
def ProofIncludedUptoCardSaid : Prop := Claim7.holds Tryd.pinned (.plain (OpenSpec.upto proofIncludedSpec)) proofIncludedUptoCard

/-- THE SECOND FORM's CARD OF 'juratlaw08.ProofConsistent'. -/
def proofConsistentUptoCard : Claim7 := { stood := { row := proofConsistentUptoRow, standIns := [], harness := (true, "94cbc27510e38751a60ab1ffe97d8db4da220d4986d50e976b7ed11b3ca8a243"), looks := false }, kinds := [], alts := [], laidByText := true, laidKinds := [.data, .data, .data, .data, .data], laidTests := true, laidLooks := .later }
def ProofConsistentUptoCardSaid : Prop := Claim7.holds Tryd.pinned (.plain (OpenSpec.upto proofConsistentSpec)) proofConsistentUptoCard

/-- THE SECOND FORM's CARD OF 'juratlaw08.ProofBack'. -/
def proofBackUptoCard : Claim7 := { stood := { row := proofBackUptoRow, standIns := [], harness := (true, "94cbc27510e38751a60ab1ffe97d8db4da220d4986d50e976b7ed11b3ca8a243"), looks := false }, kinds := [], alts := [], laidByText := true, laidKinds := [.data, .data, .data], laidTests := true, laidLooks := .later }
def ProofBackUptoCardSaid : Prop := Claim7.holds Tryd.pinned (.plain (OpenSpec.upto proofBackSpec)) proofBackUptoCard

/-- THE SECOND FORM's CARD OF 'juratlaw08.ProofShort'. -/
def proofShortUptoCard : Claim7 := { stood := { row := proofShortUptoRow, standIns := [], harness := (true, "94cbc27510e38751a60ab1ffe97d8db4da220d4986d50e976b7ed11b3ca8a243"), looks := false }, kinds := [], alts := [], laidByText := true, laidKinds := [.data], laidTests := true, laidLooks := .later }
def ProofShortUptoCardSaid : Prop := Claim7.holds Tryd.pinned (.plain (OpenSpec.upto proofShortSpec)) proofShortUptoCard

/-- THE SECOND FORM's CARD OF 'juratlaw08.ProofGrows'. -/
def proofGrowsUptoCard : Claim7 := { stood := { row := proofGrowsUptoRow, standIns := [], harness := (true, "94cbc27510e38751a60ab1ffe97d8db4da220d4986d50e976b7ed11b3ca8a243"), looks := false }, kinds := [], alts := [], laidByText := true, laidKinds := [.data], laidTests := true, laidLooks := .later }
def ProofGrowsUptoCardSaid : Prop := Claim7.holds Tryd.pinned (.plain (OpenSpec.upto proofGrowsSpec)) proofGrowsUptoCard
end Rows
end Go.Proofs.YtojepkhooabjiaaDoor
