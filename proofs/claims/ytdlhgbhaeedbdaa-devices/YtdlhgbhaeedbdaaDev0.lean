/- A new device. -/
import Derived.Test.YtdlhgbhaeedbdaaProg
import Derived.Test.YtdlhgbhaeedbdaaBase
namespace Go.Proofs.Ytdlhgbhaeedbdaa
open Go.RowKit

def devCells : Array Value := (Array.replicate 4096 (.int .u8 0)) ++ #[.slice none 0 0, .int .i64 (-1), .bool false]

set_option maxRecDepth 100000 in
theorem run_newDev (w : World) : (Instr.build 77 #[(3, .int .i64 (-1))]).run Try.prog w = .ok (.agg devCells) w := by kernel_rfl

set_option maxRecDepth 100000 in
set_option maxHeartbeats 400000 in
theorem newDevice_any (w : World) : Calls Try.prog 10 #[] w fun e w' => e = .returned (.pointer (some ⟨w.heap.size, 0, none⟩)) ∧ w' = w.alloc (.cells devCells 77) := by
  have hb := run_newDev
  go_enter Try.func10, Try.ntmps10
  go_wp2
  go_ret
  exact ⟨rfl, rfl⟩

end Go.Proofs.Ytdlhgbhaeedbdaa
