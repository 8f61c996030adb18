/- 'awake', 'Places'. -/
import Derived.Test.YtdlhgbhaeedbdaaCount
namespace Go.Proofs.Ytdlhgbhaeedbdaa
open Go.RowKit

def tA : ByteArray := ⟨#[116, 97, 114, 103, 101, 116, 32, 120, 59, 100, 105, 115, 107, 32, 98, 32, 49, 59, 100, 105, 115, 107, 32, 97, 98, 32, 50, 59, 100, 105, 115, 107, 32, 97, 32, 51, 59]⟩
def tB : ByteArray := ⟨#[100, 105, 115, 107, 32, 97, 32, 51, 59, 100, 105, 115, 107, 32, 97, 98, 32, 50, 59, 100, 105, 115, 107, 32, 98, 32, 49, 59, 116, 97, 114, 103, 101, 116, 32, 120, 59]⟩

set_option maxRecDepth 100000 in
theorem chk_a1 : chk tA = (0, 0) := by decide +kernel
set_option maxRecDepth 100000 in
theorem prt_a1 : (prt tA).data = tB.data := by decide +kernel

theorem prt_a : prt ⟨#[116, 97, 114, 103, 101, 116, 32, 120, 59, 100, 105, 115, 107, 32, 98, 32, 49, 59, 100, 105, 115, 107, 32, 97, 98, 32, 50, 59, 100, 105, 115, 107, 32, 97, 32, 51, 59]⟩ = ⟨#[100, 105, 115, 107, 32, 97, 32, 51, 59, 100, 105, 115, 107, 32, 97, 98, 32, 50, 59, 100, 105, 115, 107, 32, 98, 32, 49, 59, 116, 97, 114, 103, 101, 116, 32, 120, 59]⟩ := congrArg ByteArray.mk prt_a1
theorem chk_a : chk ⟨#[116, 97, 114, 103, 101, 116, 32, 120, 59, 100, 105, 115, 107, 32, 98, 32, 49, 59, 100, 105, 115, 107, 32, 97, 98, 32, 50, 59, 100, 105, 115, 107, 32, 97, 32, 51, 59]⟩ = (0, 0) := chk_a1

set_option maxRecDepth 100000 in
set_option maxHeartbeats 400000 in
theorem awake_any (w : World) : Calls Try.prog 23 #[] w fun e w' => e = .returned (.bool true) ∧ Below w.heap.size w w' := by
  have h1 := check_any ⟨#[100, 105, 115, 107, 32, 97, 32, 48, 59]⟩ w (by decide)
  rw [chk_a0] at h1
  have h2 : ∀ wx, Calls Try.prog 12 #[.string ⟨#[116, 97, 114, 103, 101, 116, 32, 120, 59, 100, 105, 115, 107, 32, 98, 32, 49, 59, 100, 105, 115, 107, 32, 97, 98, 32, 50, 59, 100, 105, 115, 107, 32, 97, 32, 51, 59]⟩] wx fun e w' => e = .returned (.tuple #[.string ⟨#[100, 105, 115, 107, 32, 97, 32, 51, 59, 100, 105, 115, 107, 32, 97, 98, 32, 50, 59, 100, 105, 115, 107, 32, 98, 32, 49, 59, 116, 97, 114, 103, 101, 116, 32, 120, 59]⟩, .int .i64 0]) ∧ Below wx.heap.size wx w' := by
    intro wx
    have := print_any ⟨#[116, 97, 114, 103, 101, 116, 32, 120, 59, 100, 105, 115, 107, 32, 98, 32, 49, 59, 100, 105, 115, 107, 32, 97, 98, 32, 50, 59, 100, 105, 115, 107, 32, 97, 32, 51, 59]⟩ wx (by decide)
    rw [prt_a, chk_a] at this
    exact this
  have H2 := hide h2
  clear h2
  go_enter Try.func23, Try.ntmps23
  go_wp2_with fail
  refine h1.mono ?_
  rintro e w1 ⟨rfl, hb1⟩
  go_wp2_with fail
  refine (unhide H2 _).mono ?_
  rintro e w2 ⟨rfl, hb2⟩
  go_wp2
  go_ret
  exact ⟨rfl, hb1.trans (hb2.mono hb1.size)⟩

end Go.Proofs.Ytdlhgbhaeedbdaa
