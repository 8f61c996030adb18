/- 'Places', walked. -/
import Derived.Test.YtdlhgbhaeedbdaaAwake
import Derived.Test.YtdlhgbhaeedbdaaPureA
namespace Go.Proofs.Ytdlhgbhaeedbdaa
open Go.RowKit

set_option maxRecDepth 100000 in
set_option maxHeartbeats 400000 in
theorem places_long (s : ByteArray) (w : World) (hs : s.size ≤ maxLen) (h4 : 400 < s.size) (hc : chk s = (1, 0)) :
    Calls Try.prog 4 #[.string s] w fun e w' => e = .returned (.bool true) ∧ Below w.heap.size w w' := by
  have h1 : ∀ wx, Calls Try.prog 24 #[.string s] wx fun e w' => e = .returned (.tuple #[.int .i64 1, .int .i64 0]) ∧ Below wx.heap.size wx w' := by
    intro wx; have := check_any s wx hs; rw [hc] at this; exact this
  have H1 := hide h1
  clear h1 hc
  unfold maxLen at hs
  have h4' : (400 : Int) < (s.size : Int) := by omega
  go_enter Try.func4, Try.ntmps4
  go_wp2_with fail
  refine (awake_any w).mono ?_
  rintro e w1 ⟨rfl, hb1⟩
  go_wp2_with fail
  refine (unhide H1 _).mono ?_
  rintro e w2 ⟨rfl, hb2⟩
  go_wp2
  go_ret
  exact ⟨rfl, hb1.trans (hb2.mono hb1.size)⟩

set_option maxRecDepth 100000 in
set_option maxHeartbeats 400000 in
theorem places_ok (s : ByteArray) (w : World) (h4 : ¬ 400 < s.size) (hc : chk s = (0, 0)) :
    Calls Try.prog 4 #[.string s] w fun e w' => e = .returned (.bool true) ∧ Below w.heap.size w w' := by
  have h1 : ∀ wx, Calls Try.prog 24 #[.string s] wx fun e w' => e = .returned (.tuple #[.int .i64 0, .int .i64 0]) ∧ Below wx.heap.size wx w' := by
    intro wx; have := check_any s wx (by unfold maxLen; omega); rw [hc] at this; exact this
  have H1 := hide h1
  clear h1 hc
  have h4' : ¬ (400 : Int) < (s.size : Int) := by omega
  go_enter Try.func4, Try.ntmps4
  go_wp2_with fail
  refine (awake_any w).mono ?_
  rintro e w1 ⟨rfl, hb1⟩
  go_wp2_with fail
  refine (unhide H1 _).mono ?_
  rintro e w2 ⟨rfl, hb2⟩
  go_wp2
  go_ret
  exact ⟨rfl, hb1.trans (hb2.mono hb1.size)⟩

set_option maxRecDepth 100000 in
set_option maxHeartbeats 400000 in
theorem places_item (s : ByteArray) (w : World) (h4 : ¬ 400 < s.size) (c k : Nat) (hc : chk s = (c, k)) (hk : k < (itemsOf s).length) (hcc : c = 3 ∨ c = 4) :
    Calls Try.prog 4 #[.string s] w fun e w' => e = .returned (.bool true) ∧ Below w.heap.size w w' := by
  have h1 : ∀ wx, Calls Try.prog 24 #[.string s] wx fun e w' => e = .returned (.tuple #[.int .i64 (c : Nat), .int .i64 (k : Nat)]) ∧ Below wx.heap.size wx w' := by
    intro wx; have := check_any s wx (by unfold maxLen; omega); rw [hc] at this; exact this
  have hkp : k < (pcs s).length := Nat.lt_of_lt_of_le hk (items_le_pieces s)
  have hpl : (pcs s).length ≤ 500 := by
    have := (pcsTo_le s s.size).2
    unfold pcs; split
    · simp; omega
    · omega
  clear hc hk
  have h4' : ¬ (400 : Int) < (s.size : Int) := by omega
  have hk0 : (0 : Int) ≤ (k : Int) := by omega
  rcases hcc with rfl | rfl
  all_goals
    have H1 := hide h1
    clear h1
    go_enter Try.func4, Try.ntmps4
    go_wp2_with fail
    refine (awake_any w).mono ?_
    rintro e w1 ⟨rfl, hb1⟩
    go_wp2_with fail
    refine (unhide H1 _).mono ?_
    rintro e w2 ⟨rfl, hb2⟩
    go_wp2_with fail
    refine (pieces_any s _ (by omega)).mono ?_
    rintro e w3 ⟨v, rfl, hown, hb3⟩
    obtain ⟨a, cap, hv⟩ := slice_of_owns hown
    rw [hv]
    clear hv hown
    generalize (pcs s).length = n at *
    have hkn : (k : Int) < (n : Int) := by omega
    go_wp2
    go_ret
    exact ⟨rfl, (hb1.trans (hb2.mono hb1.size)).trans (hb3.mono (Nat.le_trans hb1.size hb2.size))⟩

end Go.Proofs.Ytdlhgbhaeedbdaa
