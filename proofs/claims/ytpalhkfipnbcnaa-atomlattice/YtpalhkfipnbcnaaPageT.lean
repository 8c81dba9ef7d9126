/-
  Closed facts of the program's types: a page of bytes, maps of pages and of stamps.
-/
import Derived.Test.YtpalhkfipnbcnaaRows
import Derived.Test.YtpalhkfipnbcnaaBytes
import Derived.Maps.RangeWalk
import Derived.Maps.OwnOps
set_option linter.unusedVariables false
namespace Go.Proofs.Ytpalhkfipnbcnaa
open Go.RowKit
set_option maxRecDepth 100000
theorem law27 : Maps.Keyed Try.prog 22 := Maps.int_keyed Try.underlying22
theorem zero44 (w : World) : (zeroValue 102).run Try.prog w = .ok (.pointer none) w := by kernel_rfl
theorem zero27 (w : World) : (zeroValue 22).run Try.prog w = .ok (.int .u64 0) w := by kernel_rfl
def zeros : Array Value := (asBytes (List.replicate 4096 0)).toArray
theorem info53 : (Try.prog.info? 115).map (fun i => (i.zero, i.size)) = some (some (.agg zeros), 4096) := by kernel_rfl
theorem infoByte : (Try.prog.info? 5).map (fun i => (i.zero, i.size, i.bytes)) = some (some (.int .u8 0), 1, 1) := by kernel_rfl
theorem sizeByte : (Try.prog.info? 5).map (·.size) = some 1 := by kernel_rfl
end Go.Proofs.Ytpalhkfipnbcnaa
