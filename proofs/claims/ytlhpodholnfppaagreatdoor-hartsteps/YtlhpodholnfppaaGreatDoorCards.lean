/-
  DERIVED. GIVEN WITH THE SEED: THE CARDS: each row of YtlhpodholnfppaaGreatDoorRows.lean that lists a variable, with what it lists TIED to the program's text (the seventh form; the later family's looks); each row that meets fmt, with fmt's text TOLD by the authors' own Lean function (tested against real Go, not proved from fmt's source: count such statements apart). THE CARD IS WHAT COUNTS. Prove the row's statement (the work); the ties are given (YtlhpodholnfppaaGreatDoorTie.lean); close each card by the builder's one call (the guide's Derived/Test/ToyasCard.lean, 'card_holds'). Laid BY PROGRAM, IN A SANDBOX (cutbox-door.mjs). By AI agents, Wed Nov 11 2026. No macro, syntax, notation, axiom, sorry.
-/
import Derived.Test.YtlhpodholnfppaaGreatDoorRows
import GoSem.ClaimSeven
namespace Go.Proofs.YtlhpodholnfppaaGreatDoor
namespace Rows

/-- THE TIED CARD OF 'marionettelaw11.HartSteps'. -/
def hartStepsCard : Claim7 := { stood := { row := hartStepsRow, standIns := [], harness := (true, "2f7062f87e727e0da0e7d65ec08d7f0b7cea73f84f965ac8fac71080c6d53913"), looks := false }, kinds := [], alts := [], laidByText := true, laidKinds := [.data, .data, .data, .data, .data, .data, .data, .data, .data, .data, .data, .data, .data, .data, .data, .data, .data, .data, .data, .data, .data], laidTests := true, laidLooks := .later }
def HartStepsCardSaid : Prop := Claim7.holds Tryz.pinned (.plain (OpenSpec.ofChange hartStepsSpec)) hartStepsCard

/-- THE TIED CARD OF 'marionettelaw11.HartOne'. -/
def hartOneCard : Claim7 := { stood := { row := hartOneRow, standIns := [], harness := (true, "2f7062f87e727e0da0e7d65ec08d7f0b7cea73f84f965ac8fac71080c6d53913"), looks := false }, kinds := [], alts := [], laidByText := true, laidKinds := [.data, .data, .data, .data, .data, .data, .data, .data, .data, .data, .data, .data, .data, .data, .data, .data, .data, .data, .data, .data, .data], laidTests := true, laidLooks := .later }
def HartOneCardSaid : Prop := Claim7.holds Tryz.pinned (.plain (OpenSpec.ofChange hartOneSpec)) hartOneCard

/-- THE TIED CARD OF 'marionettelaw11.HartRuns'. -/
def hartRunsCard : Claim7 := { stood := { row := hartRunsRow, standIns := [], harness := (true, "2f7062f87e727e0da0e7d65ec08d7f0b7cea73f84f965ac8fac71080c6d53913"), looks := false }, kinds := [], alts := [], laidByText := true, laidKinds := [.data, .data, .data, .data, .data, .data, .data, .data, .data, .data, .data, .data, .data, .data, .data, .data, .data, .data, .data, .data, .data], laidTests := true, laidLooks := .later }
def HartRunsCardSaid : Prop := Claim7.holds Tryz.pinned (.plain (OpenSpec.ofChange hartRunsSpec)) hartRunsCard

/-- THE TIED CARD OF 'marionettelaw11.HartKeeps'. -/
def hartKeepsCard : Claim7 := { stood := { row := hartKeepsRow, standIns := [], harness := (true, "2f7062f87e727e0da0e7d65ec08d7f0b7cea73f84f965ac8fac71080c6d53913"), looks := false }, kinds := [], alts := [], laidByText := true, laidKinds := [.data, .data, .data, .data, .data, .data, .data, .data, .data, .data, .data, .data, .data, .data, .data, .data, .data, .data, .data, .data, .data], laidTests := true, laidLooks := .later }
def HartKeepsCardSaid : Prop := Claim7.holds Tryz.pinned (.plain (OpenSpec.ofChange hartKeepsSpec)) hartKeepsCard

/-- THE TIED CARD OF 'marionettelaw11.HartNone'. -/
def hartNoneCard : Claim7 := { stood := { row := hartNoneRow, standIns := [], harness := (true, "2f7062f87e727e0da0e7d65ec08d7f0b7cea73f84f965ac8fac71080c6d53913"), looks := false }, kinds := [], alts := [], laidByText := true, laidKinds := [.data, .data, .data, .data, .data, .data, .data, .data, .data, .data, .data, .data, .data, .data, .data, .data, .data, .data, .data, .data, .data], laidTests := true, laidLooks := .later }
def HartNoneCardSaid : Prop := Claim7.holds Tryz.pinned (.plain (OpenSpec.ofChange hartNoneSpec)) hartNoneCard

/-- THE TIED CARD OF 'marionettelaw11.HartJumps'. -/
def hartJumpsCard : Claim7 := { stood := { row := hartJumpsRow, standIns := [], harness := (true, "2f7062f87e727e0da0e7d65ec08d7f0b7cea73f84f965ac8fac71080c6d53913"), looks := false }, kinds := [], alts := [], laidByText := true, laidKinds := [.data, .data, .data, .data, .data, .data, .data, .data, .data, .data, .data, .data, .data, .data, .data, .data, .data, .data, .data, .data, .data], laidTests := true, laidLooks := .later }
def HartJumpsCardSaid : Prop := Claim7.holds Tryz.pinned (.plain (OpenSpec.ofChange hartJumpsSpec)) hartJumpsCard

/-- THE SECOND FORM's CARD OF 'marionettelaw11.HartSteps'. -/
def hartStepsUptoCard : Claim7 := { stood := { row := hartStepsUptoRow, standIns := [], harness := (true, "2f7062f87e727e0da0e7d65ec08d7f0b7cea73f84f965ac8fac71080c6d53913"), looks := false }, kinds := [], alts := [], laidByText := true, laidKinds := [.data, .data, .data, .data, .data, .data, .data, .data, .data, .data, .data, .data, .data, .data, .data, .data, .data, .data, .data, .data, .data], laidTests := true, laidLooks := .later }
def HartStepsUptoCardSaid : Prop := Claim7.holds Tryz.pinned (.plain (OpenSpec.upto hartStepsSpec)) hartStepsUptoCard

/-- THE SECOND FORM's CARD OF 'marionettelaw11.HartOne'. -/
def hartOneUptoCard : Claim7 := { stood := { row := hartOneUptoRow, standIns := [], harness := (true, "2f7062f87e727e0da0e7d65ec08d7f0b7cea73f84f965ac8fac71080c6d53913"), looks := false }, kinds := [], alts := [], laidByText := true, laidKinds := [.data, .data, .data, .data, .data, .data, .data, .data, .data, .data, .data, .data, .data, .data, .data, .data, .data, .data, .data, .data, .data], laidTests := true, laidLooks := .later }
def HartOneUptoCardSaid : Prop := Claim7.holds Tryz.pinned (.plain (OpenSpec.upto hartOneSpec)) hartOneUptoCard

/-- THE SECOND FORM's CARD OF 'marionettelaw11.HartRuns'. -/
def hartRunsUptoCard : Claim7 := { stood := { row := hartRunsUptoRow, standIns := [], harness := (true, "2f7062f87e727e0da0e7d65ec08d7f0b7cea73f84f965ac8fac71080c6d53913"), looks := false }, kinds := [], alts := [], laidByText := true, laidKinds := [.data, .data, .data, .data, .data, .data, .data, .data, .data, .data, .data, .data, .data, .data, .data, .data, .data, .data, .data, .data, .data], laidTests := true, laidLooks := .later }
def HartRunsUptoCardSaid : Prop := Claim7.holds Tryz.pinned (.plain (OpenSpec.upto hartRunsSpec)) hartRunsUptoCard

/-- THE SECOND FORM's CARD OF 'marionettelaw11.HartKeeps'. -/
def hartKeepsUptoCard : Claim7 := { stood := { row := hartKeepsUptoRow, standIns := [], harness := (true, "2f7062f87e727e0da0e7d65ec08d7f0b7cea73f84f965ac8fac71080c6d53913"), looks := false }, kinds := [], alts := [], laidByText := true, laidKinds := [.data, .data, .data, .data, .data, .data, .data, .data, .data, .data, .data, .data, .data, .data, .data, .data, .data, .data, .data, .data, .data], laidTests := true, laidLooks := .later }
def HartKeepsUptoCardSaid : Prop := Claim7.holds Tryz.pinned (.plain (OpenSpec.upto hartKeepsSpec)) hartKeepsUptoCard

/-- THE SECOND FORM's CARD OF 'marionettelaw11.HartNone'. -/
def hartNoneUptoCard : Claim7 := { stood := { row := hartNoneUptoRow, standIns := [], harness := (true, "2f7062f87e727e0da0e7d65ec08d7f0b7cea73f84f965ac8fac71080c6d53913"), looks := false }, kinds := [], alts := [], laidByText := true, laidKinds := [.data, .data, .data, .data, .data, .data, .data, .data, .data, .data, .data, .data, .data, .data, .data, .data, .data, .data, .data, .data, .data], laidTests := true, laidLooks := .later }
def HartNoneUptoCardSaid : Prop := Claim7.holds Tryz.pinned (.plain (OpenSpec.upto hartNoneSpec)) hartNoneUptoCard

/-- THE SECOND FORM's CARD OF 'marionettelaw11.HartJumps'. -/
def hartJumpsUptoCard : Claim7 := { stood := { row := hartJumpsUptoRow, standIns := [], harness := (true, "2f7062f87e727e0da0e7d65ec08d7f0b7cea73f84f965ac8fac71080c6d53913"), looks := false }, kinds := [], alts := [], laidByText := true, laidKinds := [.data, .data, .data, .data, .data, .data, .data, .data, .data, .data, .data, .data, .data, .data, .data, .data, .data, .data, .data, .data, .data], laidTests := true, laidLooks := .later }
def HartJumpsUptoCardSaid : Prop := Claim7.holds Tryz.pinned (.plain (OpenSpec.upto hartJumpsSpec)) hartJumpsUptoCard
end Rows
end Go.Proofs.YtlhpodholnfppaaGreatDoor
