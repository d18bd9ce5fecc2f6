/-
  DERIVED. GIVEN WITH THE SEED: THE CARDS: each row of YtghihgmgadaoeaaDoorRows.lean that lists a variable, with what it lists TIED to the program's text (the seventh form; the later family's looks); each row that meets fmt, with fmt's text TOLD by the authors' own Lean function (tested against real Go, not proved from fmt's source: count such statements apart). THE CARD IS WHAT COUNTS. Prove the row's statement (the work); the ties are given (YtghihgmgadaoeaaDoorTie.lean); close each card by the builder's one call (the guide's Derived/Test/ToyasCard.lean, 'card_holds'). Laid BY PROGRAM, IN A SANDBOX (cutbox-door.mjs). By AI agents, Wed Nov 11 2026. No macro, syntax, notation, axiom, sorry.
-/
import Derived.Test.YtghihgmgadaoeaaDoorRows
import GoSem.ClaimSeven
namespace Go.Proofs.YtghihgmgadaoeaaDoor
namespace Rows

/-- THE TIED CARD OF 'juratlaw05.OtsMakes'. -/
def otsMakesCard : Claim7 := { stood := { row := otsMakesRow, standIns := [], harness := (true, "38853a3e69654356aeca0a1f5f06e005877108b1e9361b026282a30c4990b858"), looks := false }, kinds := [], alts := [], laidByText := true, laidKinds := [.data, .data, .data], laidTests := true, laidLooks := .later }
def OtsMakesCardSaid : Prop := Claim7.holds Tryd.pinned (.plain (OpenSpec.ofChange otsMakesSpec)) otsMakesCard

/-- THE TIED CARD OF 'juratlaw05.OtsSigns'. -/
def otsSignsCard : Claim7 := { stood := { row := otsSignsRow, standIns := [], harness := (true, "38853a3e69654356aeca0a1f5f06e005877108b1e9361b026282a30c4990b858"), looks := false }, kinds := [], alts := [], laidByText := true, laidKinds := [.data, .data, .data], laidTests := true, laidLooks := .later }
def OtsSignsCardSaid : Prop := Claim7.holds Tryd.pinned (.plain (OpenSpec.ofChange otsSignsSpec)) otsSignsCard

/-- THE TIED CARD OF 'juratlaw05.OtsBack'. -/
def otsBackCard : Claim7 := { stood := { row := otsBackRow, standIns := [], harness := (true, "38853a3e69654356aeca0a1f5f06e005877108b1e9361b026282a30c4990b858"), looks := false }, kinds := [], alts := [], laidByText := true, laidKinds := [.data], laidTests := true, laidLooks := .later }
def OtsBackCardSaid : Prop := Claim7.holds Tryd.pinned (.plain (OpenSpec.ofChange otsBackSpec)) otsBackCard

/-- THE TIED CARD OF 'juratlaw05.OtsTells'. -/
def otsTellsCard : Claim7 := { stood := { row := otsTellsRow, standIns := [], harness := (true, "38853a3e69654356aeca0a1f5f06e005877108b1e9361b026282a30c4990b858"), looks := false }, kinds := [], alts := [], laidByText := true, laidKinds := [.data, .data, .data], laidTests := true, laidLooks := .later }
def OtsTellsCardSaid : Prop := Claim7.holds Tryd.pinned (.plain (OpenSpec.ofChange otsTellsSpec)) otsTellsCard

/-- THE TIED CARD OF 'juratlaw05.OtsShows'. -/
def otsShowsCard : Claim7 := { stood := { row := otsShowsRow, standIns := [], harness := (true, "38853a3e69654356aeca0a1f5f06e005877108b1e9361b026282a30c4990b858"), looks := false }, kinds := [], alts := [], laidByText := true, laidKinds := [.data, .data, .data], laidTests := true, laidLooks := .later }
def OtsShowsCardSaid : Prop := Claim7.holds Tryd.pinned (.plain (OpenSpec.ofChange otsShowsSpec)) otsShowsCard

/-- THE TIED CARD OF 'juratlaw05.OtsBits'. -/
def otsBitsCard : Claim7 := { stood := { row := otsBitsRow, standIns := [], harness := (true, "38853a3e69654356aeca0a1f5f06e005877108b1e9361b026282a30c4990b858"), looks := false }, kinds := [], alts := [], laidByText := true, laidKinds := [.data, .data, .data], laidTests := true, laidLooks := .later }
def OtsBitsCardSaid : Prop := Claim7.holds Tryd.pinned (.plain (OpenSpec.ofChange otsBitsSpec)) otsBitsCard

/-- THE SECOND FORM's CARD OF 'juratlaw05.OtsMakes'. -/
def otsMakesUptoCard : Claim7 := { stood := { row := otsMakesUptoRow, standIns := [], harness := (true, "38853a3e69654356aeca0a1f5f06e005877108b1e9361b026282a30c4990b858"), looks := false }, kinds := [], alts := [], laidByText := true, laidKinds := [.data, .data, .data], laidTests := true, laidLooks := .later }
def OtsMakesUptoCardSaid : Prop := Claim7.holds Tryd.pinned (.plain (OpenSpec.upto otsMakesSpec)) otsMakesUptoCard

/-- THE SECOND FORM's CARD OF 'juratlaw05.OtsSigns'. -/
def otsSignsUptoCard : Claim7 := { stood := { row := otsSignsUptoRow, standIns := [], harness := (true, "38853a3e69654356aeca0a1f5f06e005877108b1e9361b026282a30c4990b858"), looks := false }, kinds := [], alts := [], laidByText := true, laidKinds := [.data, .data, .data], laidTests := true, laidLooks := .later }
def OtsSignsUptoCardSaid : Prop := Claim7.holds Tryd.pinned (.plain (OpenSpec.upto otsSignsSpec)) otsSignsUptoCard

/-- THE SECOND FORM's CARD OF 'juratlaw05.OtsBack'. -/
def otsBackUptoCard : Claim7 := { stood := { row := otsBackUptoRow, standIns := [], harness := (true, "38853a3e69654356aeca0a1f5f06e005877108b1e9361b026282a30c4990b858"), looks := false }, kinds := [], alts := [], laidByText := true, laidKinds := [.data], laidTests := true, laidLooks := .later }
def OtsBackUptoCardSaid : Prop := Claim7.holds Tryd.pinned (.plain (OpenSpec.upto otsBackSpec)) otsBackUptoCard

/-- THE SECOND FORM's CARD OF 'juratlaw05.OtsTells'. -/
def otsTellsUptoCard : Claim7 := { stood := { row := otsTellsUptoRow, standIns := [], harness := (true, "38853a3e69654356aeca0a1f5f06e005877108b1e9361b026282a30c4990b858"), looks := false }, kinds := [], alts := [], laidByText := true, laidKinds := [.data, .data, .data], laidTests := true, laidLooks := .later }
def OtsTellsUptoCardSaid : Prop := Claim7.holds Tryd.pinned (.plain (OpenSpec.upto otsTellsSpec)) otsTellsUptoCard

/-- THE SECOND FORM's CARD OF 'juratlaw05.OtsShows'. -/
def otsShowsUptoCard : Claim7 := { stood := { row := otsShowsUptoRow, standIns := [], harness := (true, "38853a3e69654356aeca0a1f5f06e005877108b1e9361b026282a30c4990b858"), looks := false }, kinds := [], alts := [], laidByText := true, laidKinds := [.data, .data, .data], laidTests := true, laidLooks := .later }
def OtsShowsUptoCardSaid : Prop := Claim7.holds Tryd.pinned (.plain (OpenSpec.upto otsShowsSpec)) otsShowsUptoCard

/-- THE SECOND FORM's CARD OF 'juratlaw05.OtsBits'. -/
def otsBitsUptoCard : Claim7 := { stood := { row := otsBitsUptoRow, standIns := [], harness := (true, "38853a3e69654356aeca0a1f5f06e005877108b1e9361b026282a30c4990b858"), looks := false }, kinds := [], alts := [], laidByText := true, laidKinds := [.data, .data, .data], laidTests := true, laidLooks := .later }
def OtsBitsUptoCardSaid : Prop := Claim7.holds Tryd.pinned (.plain (OpenSpec.upto otsBitsSpec)) otsBitsUptoCard
end Rows
end Go.Proofs.YtghihgmgadaoeaaDoor
