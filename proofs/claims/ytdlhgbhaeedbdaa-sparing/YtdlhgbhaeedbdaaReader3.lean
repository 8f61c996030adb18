/- The reader: 'word'. -/
import Derived.Test.YtdlhgbhaeedbdaaReader2
namespace Go.Proofs.Ytdlhgbhaeedbdaa
open Go.RowKit

theorem wd_snoc (s : ByteArray) (l : List UInt8) (c : UInt8) (st : Nat × Bool) : wd s (l ++ [c]) st = tk s (c.toNat : Int) (c.toNat : Int) (wd s l st) := by simp [wd]

theorem take_snoc' (ws : ByteArray) (k : Nat) (h : k < ws.size) : ws.data.toList.take (k + 1) = ws.data.toList.take k ++ [ws[k]] := by
  rw [List.take_succ_eq_append_getElem (by simpa using h)]; rfl

set_option maxHeartbeats 400000 in
theorem word_any (b : Nat) (s ws : ByteArray) (st : Nat × Bool) (w : World) (h : Rd w b s st) (hs : s.size ≤ 9223372036854775807) (hws : ws.size ≤ 400) :
    Calls Try.prog 111 #[.pointer (some ⟨b, 0, none⟩), .string ws] w fun e w' => e = .returned (.tuple #[]) ∧ Rd w' b s (wd s ws.data.toList st) ∧ w.grownBy w' (some b) := by
  go_enter Try.func111, Try.ntmps111
  go_wp2
  go_loopw [4] (fun i wr => ∃ k : Nat, k ≤ ws.size ∧ i = .int .i64 k ∧ Rd wr b s (wd s (ws.data.toList.take k) st) ∧ w.grownBy wr (some b)) (fun i _ => ws.size - (intOf i).toNat)
  case atStart => exact ⟨0, Nat.zero_le _, rfl, h, World.grownBy.refl _ _⟩
  case round =>
    obtain ⟨k, hk, rfl, hrd, hg⟩ := hrel
    by_cases hlt : k < ws.size
    · have hlt' : (k : Int) < (ws.size : Int) := by omega
      have HT : Hid (ws.data.toList.take (k + 1) = ws.data.toList.take k ++ [ws[k]]) := take_snoc' ws k hlt
      go_wp2
      go_region_with (go_at_call 118; refine (take_any b s _ _ _ _ (by exact hrd.drewN _) (by omega) hs).mono ?_; rintro e w1 ⟨rfl, hrd1, hg1⟩)
      all_goals
        go_wp2
        go_roundw
        case rel => exact ⟨k + 1, by omega, by go_num, by rw [HT.out, wd_snoc]; exact hrd1, gb_trans (gb_drewN hg _) hg1⟩
        case measure => simp [intOf]; omega
    · go_wp2
      go_end0
      exact ⟨rfl, by rw [List.take_of_length_le (by simp; omega)] at hrd; exact hrd, hg⟩

end Go.Proofs.Ytdlhgbhaeedbdaa
