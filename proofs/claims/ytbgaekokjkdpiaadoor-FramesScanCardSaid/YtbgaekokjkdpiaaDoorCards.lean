/-
  DERIVED. GIVEN WITH THE SEED: THE CARDS: each row of YtbgaekokjkdpiaaDoorRows.lean that lists a variable, with what it lists TIED to the program's text (the seventh form; the later family's looks); each row that meets fmt, with fmt's text TOLD by the authors' own Lean function (tested against real Go, not proved from fmt's source: count such statements apart). THE CARD IS WHAT COUNTS. Prove the row's statement (the work); the ties are given (YtbgaekokjkdpiaaDoorTie.lean); close each card by the builder's one call (the guide's Derived/Test/ToyasCard.lean, 'card_holds'). Laid BY PROGRAM, IN A SANDBOX (cutbox-door.mjs). By AI agents, Wed Nov 11 2026. No macro, syntax, notation, axiom, sorry.
-/
import Derived.Test.YtbgaekokjkdpiaaDoorRows
import GoSem.ClaimSeven
namespace Go.Proofs.YtbgaekokjkdpiaaDoor
namespace Rows

/-- THE TIED CARD OF 'capstanlaw3.FramesWrite'. -/
def framesWriteCard : Claim7 := { stood := { row := framesWriteRow, standIns := [], harness := (true, "58313bda71c6f35d7e537bb601d0d66f98a8406354a9b894a2a555e69f01673d"), looks := false }, kinds := [], alts := [], laidByText := true, laidKinds := [.data], laidTests := true, laidLooks := .later }
def FramesWriteCardSaid : Prop := Claim7.holds Tryd.pinned (.plain (OpenSpec.ofChange framesWriteSpec)) framesWriteCard

/-- THE TIED CARD OF 'capstanlaw3.FramesScan'. -/
def framesScanCard : Claim7 := { stood := { row := framesScanRow, standIns := [], harness := (true, "58313bda71c6f35d7e537bb601d0d66f98a8406354a9b894a2a555e69f01673d"), looks := false }, kinds := [], alts := [], laidByText := true, laidKinds := [.data], laidTests := true, laidLooks := .later }
def FramesScanCardSaid : Prop := Claim7.holds Tryd.pinned (.plain (OpenSpec.ofChange framesScanSpec)) framesScanCard

/-- THE TIED CARD OF 'capstanlaw3.FramesTorn'. -/
def framesTornCard : Claim7 := { stood := { row := framesTornRow, standIns := [], harness := (true, "58313bda71c6f35d7e537bb601d0d66f98a8406354a9b894a2a555e69f01673d"), looks := false }, kinds := [], alts := [], laidByText := true, laidKinds := [.data], laidTests := true, laidLooks := .later }
def FramesTornCardSaid : Prop := Claim7.holds Tryd.pinned (.plain (OpenSpec.ofChange framesTornSpec)) framesTornCard

/-- THE TIED CARD OF 'capstanlaw3.FramesBack'. -/
def framesBackCard : Claim7 := { stood := { row := framesBackRow, standIns := [], harness := (true, "58313bda71c6f35d7e537bb601d0d66f98a8406354a9b894a2a555e69f01673d"), looks := false }, kinds := [], alts := [], laidByText := true, laidKinds := [.data], laidTests := true, laidLooks := .later }
def FramesBackCardSaid : Prop := Claim7.holds Tryd.pinned (.plain (OpenSpec.ofChange framesBackSpec)) framesBackCard

/-- THE TIED CARD OF 'capstanlaw3.FramesTurned'. -/
def framesTurnedCard : Claim7 := { stood := { row := framesTurnedRow, standIns := [], harness := (true, "58313bda71c6f35d7e537bb601d0d66f98a8406354a9b894a2a555e69f01673d"), looks := false }, kinds := [], alts := [], laidByText := true, laidKinds := [.data], laidTests := true, laidLooks := .later }
def FramesTurnedCardSaid : Prop := Claim7.holds Tryd.pinned (.plain (OpenSpec.ofChange framesTurnedSpec)) framesTurnedCard

/-- THE TIED CARD OF 'capstanlaw3.FramesOnes'. -/
def framesOnesCard : Claim7 := { stood := { row := framesOnesRow, standIns := [], harness := (true, "58313bda71c6f35d7e537bb601d0d66f98a8406354a9b894a2a555e69f01673d"), looks := false }, kinds := [], alts := [], laidByText := true, laidKinds := [.data], laidTests := true, laidLooks := .later }
def FramesOnesCardSaid : Prop := Claim7.holds Tryd.pinned (.plain (OpenSpec.ofChange framesOnesSpec)) framesOnesCard

/-- THE SECOND FORM's CARD OF 'capstanlaw3.FramesWrite'. -/
def framesWriteUptoCard : Claim7 := { stood := { row := framesWriteUptoRow, standIns := [], harness := (true, "58313bda71c6f35d7e537bb601d0d66f98a8406354a9b894a2a555e69f01673d"), looks := false }, kinds := [], alts := [], laidByText := true, laidKinds := [.data], laidTests := true, laidLooks := .later }
def FramesWriteUptoCardSaid : Prop := Claim7.holds Tryd.pinned (.plain (OpenSpec.upto framesWriteSpec)) framesWriteUptoCard

/-- THE SECOND FORM's CARD OF 'capstanlaw3.FramesScan'. -/
def framesScanUptoCard : Claim7 := { stood := { row := framesScanUptoRow, standIns := [], harness := (true, "58313bda71c6f35d7e537bb601d0d66f98a8406354a9b894a2a555e69f01673d"), looks := false }, kinds := [], alts := [], laidByText := true, laidKinds := [.data], laidTests := true, laidLooks := .later }
def FramesScanUptoCardSaid : Prop := Claim7.holds Tryd.pinned (.plain (OpenSpec.upto framesScanSpec)) framesScanUptoCard

/-- THE SECOND FORM's CARD OF 'capstanlaw3.FramesTorn'. -/
def framesTornUptoCard : Claim7 := { stood := { row := framesTornUptoRow, standIns := [], harness := (true, "58313bda71c6f35d7e537bb601d0d66f98a8406354a9b894a2a555e69f01673d"), looks := false }, kinds := [], alts := [], laidByText := true, laidKinds := [.data], laidTests := true, laidLooks := .later }
def FramesTornUptoCardSaid : Prop := Claim7.holds Tryd.pinned (.plain (OpenSpec.upto framesTornSpec)) framesTornUptoCard

/-- THE SECOND FORM's CARD OF 'capstanlaw3.FramesBack'. -/
def framesBackUptoCard : Claim7 := { stood := { row := framesBackUptoRow, standIns := [], harness := (true, "58313bda71c6f35d7e537bb601d0d66f98a8406354a9b894a2a555e69f01673d"), looks := false }, kinds := [], alts := [], laidByText := true, laidKinds := [.data], laidTests := true, laidLooks := .later }
def FramesBackUptoCardSaid : Prop := Claim7.holds Tryd.pinned (.plain (OpenSpec.upto framesBackSpec)) framesBackUptoCard

/-- THE SECOND FORM's CARD OF 'capstanlaw3.FramesTurned'. -/
def framesTurnedUptoCard : Claim7 := { stood := { row := framesTurnedUptoRow, standIns := [], harness := (true, "58313bda71c6f35d7e537bb601d0d66f98a8406354a9b894a2a555e69f01673d"), looks := false }, kinds := [], alts := [], laidByText := true, laidKinds := [.data], laidTests := true, laidLooks := .later }
def FramesTurnedUptoCardSaid : Prop := Claim7.holds Tryd.pinned (.plain (OpenSpec.upto framesTurnedSpec)) framesTurnedUptoCard

/-- THE SECOND FORM's CARD OF 'capstanlaw3.FramesOnes'. -/
def framesOnesUptoCard : Claim7 := { stood := { row := framesOnesUptoRow, standIns := [], harness := (true, "58313bda71c6f35d7e537bb601d0d66f98a8406354a9b894a2a555e69f01673d"), looks := false }, kinds := [], alts := [], laidByText := true, laidKinds := [.data], laidTests := true, laidLooks := .later }
def FramesOnesUptoCardSaid : Prop := Claim7.holds Tryd.pinned (.plain (OpenSpec.upto framesOnesSpec)) framesOnesUptoCard
end Rows
end Go.Proofs.YtbgaekokjkdpiaaDoor
