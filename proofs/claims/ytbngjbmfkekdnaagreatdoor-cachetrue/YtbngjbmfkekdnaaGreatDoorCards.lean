/-
  DERIVED. GIVEN WITH THE SEED: THE CARDS: each row of YtbngjbmfkekdnaaGreatDoorRows.lean that lists a variable, with what it lists TIED to the program's text (the seventh form; the later family's looks); each row that meets fmt, with fmt's text TOLD by the authors' own Lean function (tested against real Go, not proved from fmt's source: count such statements apart). THE CARD IS WHAT COUNTS. Prove the row's statement (the work); the ties are given (YtbngjbmfkekdnaaGreatDoorTie.lean); close each card by the builder's one call (the guide's Derived/Test/ToyasCard.lean, 'card_holds'). Laid BY PROGRAM, IN A SANDBOX (cutbox-door.mjs). By AI agents, Wed Nov 11 2026. No macro, syntax, notation, axiom, sorry.
-/
import Derived.Test.YtbngjbmfkekdnaaGreatDoorRows
import GoSem.ClaimSeven
namespace Go.Proofs.YtbngjbmfkekdnaaGreatDoor
namespace Rows

/-- THE TIED CARD OF 'marionettelaw10.CacheTrue'. -/
def cacheTrueCard : Claim7 := { stood := { row := cacheTrueRow, standIns := [], harness := (true, "d104d7dc5feef9a9cb6ebd3a48bed666956c6a94fd5b59ef87ff8bca6c68e7af"), looks := false }, kinds := [], alts := [], laidByText := true, laidKinds := [.data, .data, .data, .data, .data, .data, .data, .data, .data, .data, .data, .data, .data, .data, .data, .data, .data, .data, .data, .data, .data], laidTests := true, laidLooks := .later }
def CacheTrueCardSaid : Prop := Claim7.holds Tryz.pinned (.plain (OpenSpec.ofChange cacheTrueSpec)) cacheTrueCard

/-- THE TIED CARD OF 'marionettelaw10.CacheSpaces'. -/
def cacheSpacesCard : Claim7 := { stood := { row := cacheSpacesRow, standIns := [], harness := (true, "d104d7dc5feef9a9cb6ebd3a48bed666956c6a94fd5b59ef87ff8bca6c68e7af"), looks := false }, kinds := [], alts := [], laidByText := true, laidKinds := [.data, .data, .data, .data, .data, .data, .data, .data, .data, .data, .data, .data, .data, .data, .data, .data, .data, .data, .data, .data, .data], laidTests := true, laidLooks := .later }
def CacheSpacesCardSaid : Prop := Claim7.holds Tryz.pinned (.plain (OpenSpec.ofChange cacheSpacesSpec)) cacheSpacesCard

/-- THE TIED CARD OF 'marionettelaw10.CacheMany'. -/
def cacheManyCard : Claim7 := { stood := { row := cacheManyRow, standIns := [], harness := (true, "d104d7dc5feef9a9cb6ebd3a48bed666956c6a94fd5b59ef87ff8bca6c68e7af"), looks := false }, kinds := [], alts := [], laidByText := true, laidKinds := [.data, .data, .data, .data, .data, .data, .data, .data, .data, .data, .data, .data, .data, .data, .data, .data, .data, .data, .data, .data, .data], laidTests := true, laidLooks := .later }
def CacheManyCardSaid : Prop := Claim7.holds Tryz.pinned (.plain (OpenSpec.ofChange cacheManySpec)) cacheManyCard

/-- THE SECOND FORM's CARD OF 'marionettelaw10.CacheTrue'. -/
def cacheTrueUptoCard : Claim7 := { stood := { row := cacheTrueUptoRow, standIns := [], harness := (true, "d104d7dc5feef9a9cb6ebd3a48bed666956c6a94fd5b59ef87ff8bca6c68e7af"), looks := false }, kinds := [], alts := [], laidByText := true, laidKinds := [.data, .data, .data, .data, .data, .data, .data, .data, .data, .data, .data, .data, .data, .data, .data, .data, .data, .data, .data, .data, .data], laidTests := true, laidLooks := .later }
def CacheTrueUptoCardSaid : Prop := Claim7.holds Tryz.pinned (.plain (OpenSpec.upto cacheTrueSpec)) cacheTrueUptoCard

/-- THE SECOND FORM's CARD OF 'marionettelaw10.CacheSpaces'. -/
def cacheSpacesUptoCard : Claim7 := { stood := { row := cacheSpacesUptoRow, standIns := [], harness := (true, "d104d7dc5feef9a9cb6ebd3a48bed666956c6a94fd5b59ef87ff8bca6c68e7af"), looks := false }, kinds := [], alts := [], laidByText := true, laidKinds := [.data, .data, .data, .data, .data, .data, .data, .data, .data, .data, .data, .data, .data, .data, .data, .data, .data, .data, .data, .data, .data], laidTests := true, laidLooks := .later }
def CacheSpacesUptoCardSaid : Prop := Claim7.holds Tryz.pinned (.plain (OpenSpec.upto cacheSpacesSpec)) cacheSpacesUptoCard

/-- THE SECOND FORM's CARD OF 'marionettelaw10.CacheMany'. -/
def cacheManyUptoCard : Claim7 := { stood := { row := cacheManyUptoRow, standIns := [], harness := (true, "d104d7dc5feef9a9cb6ebd3a48bed666956c6a94fd5b59ef87ff8bca6c68e7af"), looks := false }, kinds := [], alts := [], laidByText := true, laidKinds := [.data, .data, .data, .data, .data, .data, .data, .data, .data, .data, .data, .data, .data, .data, .data, .data, .data, .data, .data, .data, .data], laidTests := true, laidLooks := .later }
def CacheManyUptoCardSaid : Prop := Claim7.holds Tryz.pinned (.plain (OpenSpec.upto cacheManySpec)) cacheManyUptoCard
end Rows
end Go.Proofs.YtbngjbmfkekdnaaGreatDoor
