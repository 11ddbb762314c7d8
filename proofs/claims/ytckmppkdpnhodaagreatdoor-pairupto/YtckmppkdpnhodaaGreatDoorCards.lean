/-
  DERIVED. GIVEN WITH THE SEED: THE CARDS: each row of YtckmppkdpnhodaaGreatDoorRows.lean that lists a variable, with what it lists TIED to the program's text (the seventh form; the later family's looks); each row that meets fmt, with fmt's text TOLD by the authors' own Lean function (tested against real Go, not proved from fmt's source: count such statements apart). THE CARD IS WHAT COUNTS. Prove the row's statement (the work); the ties are given (YtckmppkdpnhodaaGreatDoorTie.lean); close each card by the builder's one call (the guide's Derived/Test/ToyasCard.lean, 'card_holds'). Laid BY PROGRAM, IN A SANDBOX (cutbox-door.mjs). By AI agents, Wed Nov 11 2026. No macro, syntax, notation, axiom, sorry.
-/
import Derived.Test.YtckmppkdpnhodaaGreatDoorRows
import GoSem.ClaimSeven
namespace Go.Proofs.YtckmppkdpnhodaaGreatDoor
namespace Rows

/-- THE TIED CARD OF 'cartellaw.Alone'. -/
def aloneCard : Claim7 := { stood := { row := aloneRow, standIns := [], harness := (true, "463ad074d4fbe3446f1fd271d00a5796dd6a8498c5ddf25419c1e381a9e43434"), looks := true }, kinds := [], alts := [], laidByText := true, laidKinds := [.data, .data, .data, .data, .data], laidTests := true, laidLooks := .later }
def AloneCardSaid : Prop := Claim7.holds Tryz.pinned (.plain (OpenSpec.ofChange aloneSpec)) aloneCard

/-- THE TIED CARD OF 'cartellaw.Spread'. -/
def spreadCard : Claim7 := { stood := { row := spreadRow, standIns := [], harness := (true, "463ad074d4fbe3446f1fd271d00a5796dd6a8498c5ddf25419c1e381a9e43434"), looks := true }, kinds := [], alts := [], laidByText := true, laidKinds := [.data, .data, .data, .data, .data], laidTests := true, laidLooks := .later }
def SpreadCardSaid : Prop := Claim7.holds Tryz.pinned (.plain (OpenSpec.ofChange spreadSpec)) spreadCard

/-- THE TIED CARD OF 'cartellaw.Pair'. -/
def pairCard : Claim7 := { stood := { row := pairRow, standIns := [], harness := (true, "463ad074d4fbe3446f1fd271d00a5796dd6a8498c5ddf25419c1e381a9e43434"), looks := true }, kinds := [], alts := [], laidByText := true, laidKinds := [.data, .data, .data, .data, .data], laidTests := true, laidLooks := .later }
def PairCardSaid : Prop := Claim7.holds Tryz.pinned (.plain (OpenSpec.ofChange pairSpec)) pairCard

/-- THE TIED CARD OF 'cartellaw.All'. -/
def allCard : Claim7 := { stood := { row := allRow, standIns := [], harness := (true, "463ad074d4fbe3446f1fd271d00a5796dd6a8498c5ddf25419c1e381a9e43434"), looks := true }, kinds := [], alts := [], laidByText := true, laidKinds := [.data, .data, .data, .data, .data], laidTests := true, laidLooks := .later }
def AllCardSaid : Prop := Claim7.holds Tryz.pinned (.plain (OpenSpec.ofChange allSpec)) allCard

/-- THE TIED CARD OF 'cartelkeep.Wins'. -/
def winsCard : Claim7 := { stood := { row := winsRow, standIns := [], harness := (true, "463ad074d4fbe3446f1fd271d00a5796dd6a8498c5ddf25419c1e381a9e43434"), looks := true }, kinds := [], alts := [], laidByText := true, laidKinds := [.data, .data, .data, .data, .data], laidTests := true, laidLooks := .later }
def WinsCardSaid : Prop := Claim7.holds Tryz.pinned (.plain (OpenSpec.ofChange winsSpec)) winsCard

/-- THE TIED CARD OF 'cartelkeep.Notes'. -/
def notesCard : Claim7 := { stood := { row := notesRow, standIns := [], harness := (true, "463ad074d4fbe3446f1fd271d00a5796dd6a8498c5ddf25419c1e381a9e43434"), looks := true }, kinds := [], alts := [], laidByText := true, laidKinds := [.data, .data, .data, .data, .data], laidTests := true, laidLooks := .later }
def NotesCardSaid : Prop := Claim7.holds Tryz.pinned (.plain (OpenSpec.ofChange notesSpec)) notesCard

/-- THE TIED CARD OF 'cartelkeep.Order'. -/
def orderCard : Claim7 := { stood := { row := orderRow, standIns := [], harness := (true, "463ad074d4fbe3446f1fd271d00a5796dd6a8498c5ddf25419c1e381a9e43434"), looks := true }, kinds := [], alts := [], laidByText := true, laidKinds := [.data, .data, .data, .data, .data], laidTests := true, laidLooks := .later }
def OrderCardSaid : Prop := Claim7.holds Tryz.pinned (.plain (OpenSpec.ofChange orderSpec)) orderCard

/-- THE TIED CARD OF 'cartelkeep.Late'. -/
def lateCard : Claim7 := { stood := { row := lateRow, standIns := [], harness := (true, "463ad074d4fbe3446f1fd271d00a5796dd6a8498c5ddf25419c1e381a9e43434"), looks := true }, kinds := [], alts := [], laidByText := true, laidKinds := [.data, .data, .data, .data, .data], laidTests := true, laidLooks := .later }
def LateCardSaid : Prop := Claim7.holds Tryz.pinned (.plain (OpenSpec.ofChange lateSpec)) lateCard

/-- THE TIED CARD OF 'cartelkeep.Silent'. -/
def silentCard : Claim7 := { stood := { row := silentRow, standIns := [], harness := (true, "463ad074d4fbe3446f1fd271d00a5796dd6a8498c5ddf25419c1e381a9e43434"), looks := true }, kinds := [], alts := [], laidByText := true, laidKinds := [.data, .data, .data, .data, .data], laidTests := true, laidLooks := .later }
def SilentCardSaid : Prop := Claim7.holds Tryz.pinned (.plain (OpenSpec.ofChange silentSpec)) silentCard

/-- THE SECOND FORM's CARD OF 'cartellaw.Alone'. -/
def aloneUptoCard : Claim7 := { stood := { row := aloneUptoRow, standIns := [], harness := (true, "463ad074d4fbe3446f1fd271d00a5796dd6a8498c5ddf25419c1e381a9e43434"), looks := true }, kinds := [], alts := [], laidByText := true, laidKinds := [.data, .data, .data, .data, .data], laidTests := true, laidLooks := .later }
def AloneUptoCardSaid : Prop := Claim7.holds Tryz.pinned (.plain (OpenSpec.upto aloneSpec)) aloneUptoCard

/-- THE SECOND FORM's CARD OF 'cartellaw.Spread'. -/
def spreadUptoCard : Claim7 := { stood := { row := spreadUptoRow, standIns := [], harness := (true, "463ad074d4fbe3446f1fd271d00a5796dd6a8498c5ddf25419c1e381a9e43434"), looks := true }, kinds := [], alts := [], laidByText := true, laidKinds := [.data, .data, .data, .data, .data], laidTests := true, laidLooks := .later }
def SpreadUptoCardSaid : Prop := Claim7.holds Tryz.pinned (.plain (OpenSpec.upto spreadSpec)) spreadUptoCard

/-- THE SECOND FORM's CARD OF 'cartellaw.Pair'. -/
def pairUptoCard : Claim7 := { stood := { row := pairUptoRow, standIns := [], harness := (true, "463ad074d4fbe3446f1fd271d00a5796dd6a8498c5ddf25419c1e381a9e43434"), looks := true }, kinds := [], alts := [], laidByText := true, laidKinds := [.data, .data, .data, .data, .data], laidTests := true, laidLooks := .later }
def PairUptoCardSaid : Prop := Claim7.holds Tryz.pinned (.plain (OpenSpec.upto pairSpec)) pairUptoCard

/-- THE SECOND FORM's CARD OF 'cartellaw.All'. -/
def allUptoCard : Claim7 := { stood := { row := allUptoRow, standIns := [], harness := (true, "463ad074d4fbe3446f1fd271d00a5796dd6a8498c5ddf25419c1e381a9e43434"), looks := true }, kinds := [], alts := [], laidByText := true, laidKinds := [.data, .data, .data, .data, .data], laidTests := true, laidLooks := .later }
def AllUptoCardSaid : Prop := Claim7.holds Tryz.pinned (.plain (OpenSpec.upto allSpec)) allUptoCard

/-- THE SECOND FORM's CARD OF 'cartelkeep.Wins'. -/
def winsUptoCard : Claim7 := { stood := { row := winsUptoRow, standIns := [], harness := (true, "463ad074d4fbe3446f1fd271d00a5796dd6a8498c5ddf25419c1e381a9e43434"), looks := true }, kinds := [], alts := [], laidByText := true, laidKinds := [.data, .data, .data, .data, .data], laidTests := true, laidLooks := .later }
def WinsUptoCardSaid : Prop := Claim7.holds Tryz.pinned (.plain (OpenSpec.upto winsSpec)) winsUptoCard

/-- THE SECOND FORM's CARD OF 'cartelkeep.Notes'. -/
def notesUptoCard : Claim7 := { stood := { row := notesUptoRow, standIns := [], harness := (true, "463ad074d4fbe3446f1fd271d00a5796dd6a8498c5ddf25419c1e381a9e43434"), looks := true }, kinds := [], alts := [], laidByText := true, laidKinds := [.data, .data, .data, .data, .data], laidTests := true, laidLooks := .later }
def NotesUptoCardSaid : Prop := Claim7.holds Tryz.pinned (.plain (OpenSpec.upto notesSpec)) notesUptoCard

/-- THE SECOND FORM's CARD OF 'cartelkeep.Order'. -/
def orderUptoCard : Claim7 := { stood := { row := orderUptoRow, standIns := [], harness := (true, "463ad074d4fbe3446f1fd271d00a5796dd6a8498c5ddf25419c1e381a9e43434"), looks := true }, kinds := [], alts := [], laidByText := true, laidKinds := [.data, .data, .data, .data, .data], laidTests := true, laidLooks := .later }
def OrderUptoCardSaid : Prop := Claim7.holds Tryz.pinned (.plain (OpenSpec.upto orderSpec)) orderUptoCard

/-- THE SECOND FORM's CARD OF 'cartelkeep.Late'. -/
def lateUptoCard : Claim7 := { stood := { row := lateUptoRow, standIns := [], harness := (true, "463ad074d4fbe3446f1fd271d00a5796dd6a8498c5ddf25419c1e381a9e43434"), looks := true }, kinds := [], alts := [], laidByText := true, laidKinds := [.data, .data, .data, .data, .data], laidTests := true, laidLooks := .later }
def LateUptoCardSaid : Prop := Claim7.holds Tryz.pinned (.plain (OpenSpec.upto lateSpec)) lateUptoCard

/-- THE SECOND FORM's CARD OF 'cartelkeep.Silent'. -/
def silentUptoCard : Claim7 := { stood := { row := silentUptoRow, standIns := [], harness := (true, "463ad074d4fbe3446f1fd271d00a5796dd6a8498c5ddf25419c1e381a9e43434"), looks := true }, kinds := [], alts := [], laidByText := true, laidKinds := [.data, .data, .data, .data, .data], laidTests := true, laidLooks := .later }
def SilentUptoCardSaid : Prop := Claim7.holds Tryz.pinned (.plain (OpenSpec.upto silentSpec)) silentUptoCard
end Rows
end Go.Proofs.YtckmppkdpnhodaaGreatDoor
