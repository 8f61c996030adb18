/- The two devices: power. -/
import Derived.Test.YtdlhgbhaeedbdaaProg
import Derived.Test.YtdlhgbhaeedbdaaBase
namespace Go.Proofs.Ytdlhgbhaeedbdaa
open Go.RowKit

set_option maxHeartbeats 400000 in
theorem aspend_zero (b : Nat) (d : Bool) (w : World) (c3 : w.cell? ⟨b, 4097, none⟩ = some (.int .i64 0)) (c4 : w.cell? ⟨b, 4098, none⟩ = some (.bool d)) (fz : ∀ o, w.frozen? ⟨b, o, none⟩ = false) :
    Calls Try.prog 46 #[.pointer (some ⟨b, 0, none⟩)] w fun e w' => e = .returned (.bool false) ∧ w' = w.setCell ⟨b, 4098, none⟩ (.bool true) := by
  go_enter Try.func46, Try.ntmps46
  go_wp2
  go_ret
  exact ⟨rfl, rfl⟩

set_option maxHeartbeats 400000 in
theorem aspend_pos (b : Nat) (n : Nat) (d : Bool) (w : World) (hn : (n : Int) + 1 ≤ 9223372036854775807) (c3 : w.cell? ⟨b, 4097, none⟩ = some (.int .i64 ((n : Int) + 1))) (c4 : w.cell? ⟨b, 4098, none⟩ = some (.bool d)) (fz : ∀ o, w.frozen? ⟨b, o, none⟩ = false) :
    Calls Try.prog 46 #[.pointer (some ⟨b, 0, none⟩)] w fun e w' => e = .returned (.bool (!d)) ∧ w' = w.setCell ⟨b, 4097, none⟩ (.int .i64 n) := by
  have hnot : ∀ (x : Bool) (w : World), (Op.unary .not (.bool x)).run Try.prog w = .ok (.bool (!x)) w := fun _ _ => rfl
  have g0 : (((n : Int) + 1) == 0) = false := by rw [beq_eq_false_iff_ne]; omega
  have g1 : (0 : Int) < (n : Int) + 1 := by omega
  have hw1 : IntKind.i64.wrap (n : Int) = (n : Int) := by rw [IntKind.wrap_i64]; omega
  go_enter Try.func46, Try.ntmps46
  go_wp2
  go_ret
  exact ⟨rfl, rfl⟩

set_option maxHeartbeats 400000 in
theorem aspend_neg (b : Nat) (l : Int) (d : Bool) (w : World) (hl : l < 0) (c3 : w.cell? ⟨b, 4097, none⟩ = some (.int .i64 l)) (c4 : w.cell? ⟨b, 4098, none⟩ = some (.bool d)) :
    Calls Try.prog 46 #[.pointer (some ⟨b, 0, none⟩)] w fun e w' => e = .returned (.bool (!d)) ∧ w' = w := by
  have hnot : ∀ (x : Bool) (w : World), (Op.unary .not (.bool x)).run Try.prog w = .ok (.bool (!x)) w := fun _ _ => rfl
  have g0 : (l == 0) = false := by rw [beq_eq_false_iff_ne]; omega
  have g1 : ¬ (0 : Int) < l := by omega
  go_enter Try.func46, Try.ntmps46
  go_wp2
  go_ret
  exact ⟨rfl, rfl⟩

set_option maxHeartbeats 400000 in
theorem aarm_any (b : Nat) (n l : Int) (w : World) (c3 : w.cell? ⟨b, 4097, none⟩ = some (.int .i64 l)) (fz : ∀ o, w.frozen? ⟨b, o, none⟩ = false) :
    Calls Try.prog 18 #[.pointer (some ⟨b, 0, none⟩), .int .i64 n] w fun e w' => e = .returned (.tuple #[]) ∧ w' = w.setCell ⟨b, 4097, none⟩ (.int .i64 (if n < 0 then -1 else n)) := by
  by_cases h : n < 0
  · rw [if_pos h]
    go_enter Try.func18, Try.ntmps18
    go_wp2
    go_end0
    exact ⟨rfl, rfl⟩
  · rw [if_neg h]
    go_enter Try.func18, Try.ntmps18
    go_wp2
    go_end0
    exact ⟨rfl, rfl⟩

set_option maxHeartbeats 400000 in
theorem adead_any (b : Nat) (d : Bool) (w : World) (c4 : w.cell? ⟨b, 4098, none⟩ = some (.bool d)) :
    Calls Try.prog 22 #[.pointer (some ⟨b, 0, none⟩)] w fun e w' => e = .returned (.bool d) ∧ w' = w := by
  go_enter Try.func22, Try.ntmps22
  go_wp2
  go_ret
  exact ⟨rfl, rfl⟩

set_option maxHeartbeats 400000 in
theorem rcall_gone (b : Nat) (w : World) (c2 : w.cell? ⟨b, 2, none⟩ = some (.bool true)) (fz : ∀ o, w.frozen? ⟨b, o, none⟩ = false) :
    Calls Try.prog 47 #[.pointer (some ⟨b, 0, none⟩)] w fun e w' => e = .returned (.bool false) ∧ w' = w.setCell ⟨b, 2, none⟩ (.bool true) := by
  go_enter Try.func47, Try.ntmps47
  go_wp2
  go_ret
  exact ⟨rfl, rfl⟩

set_option maxHeartbeats 400000 in
theorem rcall_zero (b : Nat) (w : World) (c1 : w.cell? ⟨b, 1, none⟩ = some (.int .i64 0)) (c2 : w.cell? ⟨b, 2, none⟩ = some (.bool false)) (fz : ∀ o, w.frozen? ⟨b, o, none⟩ = false) :
    Calls Try.prog 47 #[.pointer (some ⟨b, 0, none⟩)] w fun e w' => e = .returned (.bool false) ∧ w' = w.setCell ⟨b, 2, none⟩ (.bool true) := by
  go_enter Try.func47, Try.ntmps47
  go_wp2
  go_ret
  exact ⟨rfl, rfl⟩

set_option maxHeartbeats 400000 in
theorem rcall_pos (b : Nat) (n : Nat) (w : World) (hn : (n : Int) + 1 ≤ 9223372036854775807) (c1 : w.cell? ⟨b, 1, none⟩ = some (.int .i64 ((n : Int) + 1))) (c2 : w.cell? ⟨b, 2, none⟩ = some (.bool false)) (fz : ∀ o, w.frozen? ⟨b, o, none⟩ = false) :
    Calls Try.prog 47 #[.pointer (some ⟨b, 0, none⟩)] w fun e w' => e = .returned (.bool true) ∧ w' = w.setCell ⟨b, 1, none⟩ (.int .i64 n) := by
  have g0 : (((n : Int) + 1) == 0) = false := by rw [beq_eq_false_iff_ne]; omega
  have g1 : (0 : Int) < (n : Int) + 1 := by omega
  have hw1 : IntKind.i64.wrap (n : Int) = (n : Int) := by rw [IntKind.wrap_i64]; omega
  go_enter Try.func47, Try.ntmps47
  go_wp2
  go_ret
  exact ⟨rfl, rfl⟩

set_option maxHeartbeats 400000 in
theorem rcall_neg (b : Nat) (l : Int) (w : World) (hl : l < 0) (c1 : w.cell? ⟨b, 1, none⟩ = some (.int .i64 l)) (c2 : w.cell? ⟨b, 2, none⟩ = some (.bool false)) :
    Calls Try.prog 47 #[.pointer (some ⟨b, 0, none⟩)] w fun e w' => e = .returned (.bool true) ∧ w' = w := by
  have g0 : (l == 0) = false := by rw [beq_eq_false_iff_ne]; omega
  have g1 : ¬ (0 : Int) < l := by omega
  go_enter Try.func47, Try.ntmps47
  go_wp2
  go_ret
  exact ⟨rfl, rfl⟩

set_option maxHeartbeats 400000 in
theorem rarm_any (b : Nat) (n l : Int) (w : World) (c1 : w.cell? ⟨b, 1, none⟩ = some (.int .i64 l)) (fz : ∀ o, w.frozen? ⟨b, o, none⟩ = false) :
    Calls Try.prog 19 #[.pointer (some ⟨b, 0, none⟩), .int .i64 n] w fun e w' => e = .returned (.tuple #[]) ∧ w' = w.setCell ⟨b, 1, none⟩ (.int .i64 n) := by
  go_enter Try.func19, Try.ntmps19
  go_wp2
  go_end0
  exact ⟨rfl, rfl⟩

/-- What a call leaves of the power: the program's device. -/
def spW (w : World) (b : Nat) (l : Int) : World := if l = 0 then w.setCell ⟨b, 4098, none⟩ (.bool true) else if 0 < l then w.setCell ⟨b, 4097, none⟩ (.int .i64 (l - 1)) else w
def spR (l : Int) (d : Bool) : Bool := if l = 0 then false else !d

theorem aspend_any (b : Nat) (l : Int) (d : Bool) (w : World) (hl : l ≤ 9223372036854775807) (c3 : w.cell? ⟨b, 4097, none⟩ = some (.int .i64 l)) (c4 : w.cell? ⟨b, 4098, none⟩ = some (.bool d)) (fz : ∀ o, w.frozen? ⟨b, o, none⟩ = false) :
    Calls Try.prog 46 #[.pointer (some ⟨b, 0, none⟩)] w fun e w' => e = .returned (.bool (spR l d)) ∧ w' = spW w b l := by
  by_cases h0 : l = 0
  · subst h0; exact aspend_zero b d w c3 c4 fz
  · by_cases h1 : 0 < l
    · obtain ⟨n, rfl⟩ : ∃ n : Nat, l = (n : Int) + 1 := ⟨(l - 1).toNat, by omega⟩
      have := aspend_pos b n d w hl c3 c4 fz
      simp only [spR, spW, h0, h1, if_false, if_true, Int.add_sub_cancel]
      exact this
    · have := aspend_neg b l d w (by omega) c3 c4
      simp only [spR, spW, h0, h1, if_false]
      exact this

/-- The document's device. -/
def rcW (w : World) (b : Nat) (l : Int) (d : Bool) : World := if d = true ∨ l = 0 then w.setCell ⟨b, 2, none⟩ (.bool true) else if 0 < l then w.setCell ⟨b, 1, none⟩ (.int .i64 (l - 1)) else w
def rcR (l : Int) (d : Bool) : Bool := if d = true ∨ l = 0 then false else true

theorem rcall_any (b : Nat) (l : Int) (d : Bool) (w : World) (hl : l ≤ 9223372036854775807) (c1 : w.cell? ⟨b, 1, none⟩ = some (.int .i64 l)) (c2 : w.cell? ⟨b, 2, none⟩ = some (.bool d)) (fz : ∀ o, w.frozen? ⟨b, o, none⟩ = false) :
    Calls Try.prog 47 #[.pointer (some ⟨b, 0, none⟩)] w fun e w' => e = .returned (.bool (rcR l d)) ∧ w' = rcW w b l d := by
  cases d with
  | true => simp only [rcR, rcW, true_or, if_true]; exact rcall_gone b w c2 fz
  | false =>
    by_cases h0 : l = 0
    · subst h0; exact rcall_zero b w c1 c2 fz
    · by_cases h1 : 0 < l
      · obtain ⟨n, rfl⟩ : ∃ n : Nat, l = (n : Int) + 1 := ⟨(l - 1).toNat, by omega⟩
        have := rcall_pos b n w hl c1 c2 fz
        simp only [rcR, rcW, h0, h1, Bool.false_eq_true, or_self, if_false, if_true, Int.add_sub_cancel]
        exact this
      · have := rcall_neg b l w (by omega) c1 c2
        simp only [rcR, rcW, h0, h1, Bool.false_eq_true, or_self, if_false]
        exact this

end Go.Proofs.Ytdlhgbhaeedbdaa
