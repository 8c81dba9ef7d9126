/-
  DERIVED. GIVEN WITH THE SEED: THE CARDS: each row of YtfkecgidjicidaaDoorRows.lean that lists a variable, with what it lists TIED to the program's text (the seventh form; the later family's looks); each row that meets fmt, with fmt's text TOLD by the authors' own Lean function (tested against real Go, not proved from fmt's source: count such statements apart). THE CARD IS WHAT COUNTS. Prove the row's statement (the work); the ties are given (YtfkecgidjicidaaDoorTie.lean); close each card by the builder's one call (the guide's Derived/Test/ToyasCard.lean, 'card_holds'). Laid BY PROGRAM, IN A SANDBOX (cutbox-door.mjs). By AI agents, Wed Nov 11 2026. No macro, syntax, notation, axiom, sorry.
-/
import Derived.Test.YtfkecgidjicidaaDoorRows
import GoSem.ClaimSeven
namespace Go.Proofs.YtfkecgidjicidaaDoor
namespace Rows

/-- THE TIED CARD OF 'marionettelaw04.CompExpands'. -/
def compExpandsCard : Claim7 := { stood := { row := compExpandsRow, standIns := [], harness := (true, "9305a6b3decd873a6535650b42387a5b042edfd84aaee4aba00b0b2cb6632b99"), looks := false }, kinds := [], alts := [], laidByText := true, laidKinds := [.data, .data], laidTests := true, laidLooks := .later }
def CompExpandsCardSaid : Prop := Claim7.holds Tryd.pinned (.plain (OpenSpec.ofChange compExpandsSpec)) compExpandsCard

/-- THE TIED CARD OF 'marionettelaw04.CompAll'. -/
def compAllCard : Claim7 := { stood := { row := compAllRow, standIns := [], harness := (true, "9305a6b3decd873a6535650b42387a5b042edfd84aaee4aba00b0b2cb6632b99"), looks := false }, kinds := [], alts := [], laidByText := true, laidKinds := [.data, .data], laidTests := true, laidLooks := .later }
def CompAllCardSaid : Prop := Claim7.holds Tryd.pinned (.plain (OpenSpec.ofChange compAllSpec)) compAllCard

/-- THE TIED CARD OF 'marionettelaw04.CompSound'. -/
def compSoundCard : Claim7 := { stood := { row := compSoundRow, standIns := [], harness := (true, "9305a6b3decd873a6535650b42387a5b042edfd84aaee4aba00b0b2cb6632b99"), looks := false }, kinds := [], alts := [], laidByText := true, laidKinds := [.data, .data, .data, .data, .data, .data, .data, .data, .data, .data, .data, .data, .data, .data, .data, .data, .data, .data, .data, .data, .data], laidTests := true, laidLooks := .later }
def CompSoundCardSaid : Prop := Claim7.holds Tryd.pinned (.plain (OpenSpec.ofChange compSoundSpec)) compSoundCard

/-- THE TIED CARD OF 'marionettelaw04.CompFar'. -/
def compFarCard : Claim7 := { stood := { row := compFarRow, standIns := [], harness := (true, "9305a6b3decd873a6535650b42387a5b042edfd84aaee4aba00b0b2cb6632b99"), looks := false }, kinds := [], alts := [], laidByText := true, laidKinds := [.data, .data], laidTests := true, laidLooks := .later }
def CompFarCardSaid : Prop := Claim7.holds Tryd.pinned (.plain (OpenSpec.ofChange compFarSpec)) compFarCard

/-- THE SECOND FORM's CARD OF 'marionettelaw04.CompExpands'. -/
def compExpandsUptoCard : Claim7 := { stood := { row := compExpandsUptoRow, standIns := [], harness := (true, "9305a6b3decd873a6535650b42387a5b042edfd84aaee4aba00b0b2cb6632b99"), looks := false }, kinds := [], alts := [], laidByText := true, laidKinds := [.data, .data], laidTests := true, laidLooks := .later }
def CompExpandsUptoCardSaid : Prop := Claim7.holds Tryd.pinned (.plain (OpenSpec.upto compExpandsSpec)) compExpandsUptoCard

/-- THE SECOND FORM's CARD OF 'marionettelaw04.CompAll'. -/
def compAllUptoCard : Claim7 := { stood := { row := compAllUptoRow, standIns := [], harness := (true, "9305a6b3decd873a6535650b42387a5b042edfd84aaee4aba00b0b2cb6632b99"), looks := false }, kinds := [], alts := [], laidByText := true, laidKinds := [.data, .data], laidTests := true, laidLooks := .later }
def CompAllUptoCardSaid : Prop := Claim7.holds Tryd.pinned (.plain (OpenSpec.upto compAllSpec)) compAllUptoCard

/-- THE SECOND FORM's CARD OF 'marionettelaw04.CompSound'. -/
def compSoundUptoCard : Claim7 := { stood := { row := compSoundUptoRow, standIns := [], harness := (true, "9305a6b3decd873a6535650b42387a5b042edfd84aaee4aba00b0b2cb6632b99"), looks := false }, kinds := [], alts := [], laidByText := true, laidKinds := [.data, .data, .data, .data, .data, .data, .data, .data, .data, .data, .data, .data, .data, .data, .data, .data, .data, .data, .data, .data, .data], laidTests := true, laidLooks := .later }
def CompSoundUptoCardSaid : Prop := Claim7.holds Tryd.pinned (.plain (OpenSpec.upto compSoundSpec)) compSoundUptoCard

/-- THE SECOND FORM's CARD OF 'marionettelaw04.CompFar'. -/
def compFarUptoCard : Claim7 := { stood := { row := compFarUptoRow, standIns := [], harness := (true, "9305a6b3decd873a6535650b42387a5b042edfd84aaee4aba00b0b2cb6632b99"), looks := false }, kinds := [], alts := [], laidByText := true, laidKinds := [.data, .data], laidTests := true, laidLooks := .later }
def CompFarUptoCardSaid : Prop := Claim7.holds Tryd.pinned (.plain (OpenSpec.upto compFarSpec)) compFarUptoCard
end Rows
end Go.Proofs.YtfkecgidjicidaaDoor
