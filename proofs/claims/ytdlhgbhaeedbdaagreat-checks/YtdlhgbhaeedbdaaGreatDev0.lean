/- A new device. -/
import Derived.Test.YtdlhgbhaeedbdaaGreatProg
import Derived.Test.YtdlhgbhaeedbdaaGreatBase
namespace Go.Proofs.YtdlhgbhaeedbdaaGreat
open Go.RowKit

def devCells : Array Value := (Array.replicate 4096 (.int .u8 0)) ++ #[.slice none 0 0, .int .i64 (-1), .bool false]

set_option maxRecDepth 100000 in
theorem run_newDev (w : World) : (Instr.build 49 #[(3, .int .i64 (-1))]).run Tryz.prog w = .ok (.agg devCells) w := by kernel_rfl

set_option maxRecDepth 100000 in
set_option maxHeartbeats 400000 in
theorem newDevice_any (w : World) : Calls Tryz.prog 12 #[] w fun e w' => e = .returned (.pointer (some ⟨w.heap.size, 0, none⟩)) ∧ w' = w.alloc (.cells devCells 49) := by
  have hb := run_newDev
  go_enter Tryz.func12, Tryz.ntmps12
  go_wp2
  go_ret
  exact ⟨rfl, rfl⟩

end Go.Proofs.YtdlhgbhaeedbdaaGreat
