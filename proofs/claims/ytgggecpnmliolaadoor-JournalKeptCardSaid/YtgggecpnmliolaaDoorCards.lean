/-
  DERIVED. GIVEN WITH THE SEED: THE CARDS: each row of YtgggecpnmliolaaDoorRows.lean that lists a variable, with what it lists TIED to the program's text (the seventh form; the later family's looks); each row that meets fmt, with fmt's text TOLD by the authors' own Lean function (tested against real Go, not proved from fmt's source: count such statements apart). THE CARD IS WHAT COUNTS. Prove the row's statement (the work); the ties are given (YtgggecpnmliolaaDoorTie.lean); close each card by the builder's one call (the guide's Derived/Test/ToyasCard.lean, 'card_holds'). Laid BY PROGRAM, IN A SANDBOX (cutbox-door.mjs). By AI agents, Wed Nov 11 2026. No macro, syntax, notation, axiom, sorry.
-/
import Derived.Test.YtgggecpnmliolaaDoorRows
import GoSem.ClaimSeven
namespace Go.Proofs.YtgggecpnmliolaaDoor
namespace Rows

/-- THE TIED CARD OF 'capstanlaw5.JournalKept'. -/
def journalKeptCard : Claim7 := { stood := { row := journalKeptRow, standIns := [], harness := (true, "586597ab4a3f5c0de79d0127c5f7f5abbe68ef4634390421e154281fb543e74e"), looks := false }, kinds := [], alts := [], laidByText := true, laidKinds := [.data], laidTests := true, laidLooks := .later }
def JournalKeptCardSaid : Prop := Claim7.holds Tryd.pinned (.plain (OpenSpec.ofChange journalKeptSpec)) journalKeptCard

/-- THE TIED CARD OF 'capstanlaw5.JournalTorn'. -/
def journalTornCard : Claim7 := { stood := { row := journalTornRow, standIns := [], harness := (true, "586597ab4a3f5c0de79d0127c5f7f5abbe68ef4634390421e154281fb543e74e"), looks := false }, kinds := [], alts := [], laidByText := true, laidKinds := [.data], laidTests := true, laidLooks := .later }
def JournalTornCardSaid : Prop := Claim7.holds Tryd.pinned (.plain (OpenSpec.ofChange journalTornSpec)) journalTornCard

/-- THE TIED CARD OF 'capstanlaw5.JournalBad'. -/
def journalBadCard : Claim7 := { stood := { row := journalBadRow, standIns := [], harness := (true, "586597ab4a3f5c0de79d0127c5f7f5abbe68ef4634390421e154281fb543e74e"), looks := false }, kinds := [], alts := [], laidByText := true, laidKinds := [.data], laidTests := true, laidLooks := .later }
def JournalBadCardSaid : Prop := Claim7.holds Tryd.pinned (.plain (OpenSpec.ofChange journalBadSpec)) journalBadCard

/-- THE TIED CARD OF 'capstanlaw5.JournalSnaps'. -/
def journalSnapsCard : Claim7 := { stood := { row := journalSnapsRow, standIns := [], harness := (true, "586597ab4a3f5c0de79d0127c5f7f5abbe68ef4634390421e154281fb543e74e"), looks := false }, kinds := [], alts := [], laidByText := true, laidKinds := [.data], laidTests := true, laidLooks := .later }
def JournalSnapsCardSaid : Prop := Claim7.holds Tryd.pinned (.plain (OpenSpec.ofChange journalSnapsSpec)) journalSnapsCard

/-- THE SECOND FORM's CARD OF 'capstanlaw5.JournalKept'. -/
def journalKeptUptoCard : Claim7 := { stood := { row := journalKeptUptoRow, standIns := [], harness := (true, "586597ab4a3f5c0de79d0127c5f7f5abbe68ef4634390421e154281fb543e74e"), looks := false }, kinds := [], alts := [], laidByText := true, laidKinds := [.data], laidTests := true, laidLooks := .later }
def JournalKeptUptoCardSaid : Prop := Claim7.holds Tryd.pinned (.plain (OpenSpec.upto journalKeptSpec)) journalKeptUptoCard

/-- THE SECOND FORM's CARD OF 'capstanlaw5.JournalTorn'. -/
def journalTornUptoCard : Claim7 := { stood := { row := journalTornUptoRow, standIns := [], harness := (true, "586597ab4a3f5c0de79d0127c5f7f5abbe68ef4634390421e154281fb543e74e"), looks := false }, kinds := [], alts := [], laidByText := true, laidKinds := [.data], laidTests := true, laidLooks := .later }
def JournalTornUptoCardSaid : Prop := Claim7.holds Tryd.pinned (.plain (OpenSpec.upto journalTornSpec)) journalTornUptoCard

/-- THE SECOND FORM's CARD OF 'capstanlaw5.JournalBad'. -/
def journalBadUptoCard : Claim7 := { stood := { row := journalBadUptoRow, standIns := [], harness := (true, "586597ab4a3f5c0de79d0127c5f7f5abbe68ef4634390421e154281fb543e74e"), looks := false }, kinds := [], alts := [], laidByText := true, laidKinds := [.data], laidTests := true, laidLooks := .later }
def JournalBadUptoCardSaid : Prop := Claim7.holds Tryd.pinned (.plain (OpenSpec.upto journalBadSpec)) journalBadUptoCard

/-- THE SECOND FORM's CARD OF 'capstanlaw5.JournalSnaps'. -/
def journalSnapsUptoCard : Claim7 := { stood := { row := journalSnapsUptoRow, standIns := [], harness := (true, "586597ab4a3f5c0de79d0127c5f7f5abbe68ef4634390421e154281fb543e74e"), looks := false }, kinds := [], alts := [], laidByText := true, laidKinds := [.data], laidTests := true, laidLooks := .later }
def JournalSnapsUptoCardSaid : Prop := Claim7.holds Tryd.pinned (.plain (OpenSpec.upto journalSnapsSpec)) journalSnapsUptoCard
end Rows
end Go.Proofs.YtgggecpnmliolaaDoor
