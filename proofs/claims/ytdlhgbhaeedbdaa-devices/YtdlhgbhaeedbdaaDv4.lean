/- The two devices: the document's 'bit'. -/
import Derived.Test.YtdlhgbhaeedbdaaDv3
namespace Go.Proofs.Ytdlhgbhaeedbdaa
open Go.RowKit

def bitOf (keep : Int) (n : Nat) : Bool := decide ((keep % 18446744073709551616).toNat / 2 ^ (n % 63) % 2 = 1)

theorem u64_wrap (x : Int) : IntKind.u64.wrap x = x % 18446744073709551616 := by rfl

set_option maxRecDepth 100000 in
set_option maxHeartbeats 400000 in
theorem rbit_any (keep : Int) (n : Nat) (w : World) (hn : n ≤ 4398046511000) :
    Calls Try.prog 48 #[.int .i64 keep, .int .i64 n] w fun e w' => e = .returned (.bool (bitOf keep n)) ∧ w' = w := by
  have hm : (n : Int) % 63 = ((n % 63 : Nat) : Int) := by omega
  have hm2 : n % 63 < 63 := by omega
  obtain ⟨m, hmm⟩ : ∃ m, m = n % 63 := ⟨_, rfl⟩
  obtain ⟨u, hu⟩ : ∃ u : Nat, u = (keep % 18446744073709551616).toNat := ⟨_, rfl⟩
  have hu2 : IntKind.u64.wrap keep = (u : Int) := by rw [u64_wrap]; omega
  have hu3 : u < 18446744073709551616 := by omega
  have HB := hide (show bitOf keep n = decide (u / 2 ^ m % 2 = 1) by rw [hmm, hu]; rfl)
  generalize bitOf keep n = res at *
  rw [← hmm] at hm hm2
  clear hmm hu
  go_enter Try.func48, Try.ntmps48
  go_wp2
  go_loop [5, 6] (fun v k => ∃ j x : Nat, j ≤ m ∧ k = .int .i64 j ∧ v = .int .u64 x ∧ x = u / 2 ^ j) (fun _ k => m - (intOf k).toNat)
  case atStart => exact ⟨0, u, Nat.zero_le _, rfl, by simp, by simp⟩
  case round =>
    obtain ⟨j, x, hj, rfl, rfl, hx⟩ := hrel
    have Hx := hide hx
    clear hx
    by_cases hlt : j < m
    · have hlt' : (j : Int) < (m : Int) := by omega
      have hd : (x : Int).tdiv 2 = ((x / 2 : Nat) : Int) := by rw [Int.tdiv_eq_ediv_of_nonneg (by omega)]; rfl
      have HR := hide (show x / 2 = u / 2 ^ (j + 1) by rw [unhide Hx, Nat.pow_succ, Nat.div_div_eq_div_mul])
      have hxu : x ≤ u := by rw [unhide Hx]; exact Nat.div_le_self _ _
      have hwr : IntKind.u64.wrap ((x : Int) / 2) = (x : Int) / 2 := by rw [u64_wrap]; omega
      go_wp2
      go_round
      case rel => exact ⟨j + 1, x / 2, by omega, by go_num, by simp, unhide HR⟩
      case measure => simp [intOf]; omega
    · have hlt' : ¬ (j : Int) < (m : Int) := by omega
      have hjm : j = m := by omega
      have hd : (x : Int).tmod 2 = ((x % 2 : Nat) : Int) := by rw [Int.tmod_eq_emod_of_nonneg (by omega)]; rfl
      have HR := hide (show (((x % 2 : Nat) : Int) == 1) = res by
        rw [unhide HB, ← hjm, ← unhide Hx]
        by_cases e : x % 2 = 1
        · simp [e]
        · have : x % 2 = 0 := by omega
          simp [this])
      clear hjm
      go_wp2
      go_ret
      exact ⟨ret_bool (unhide HR), rfl⟩

end Go.Proofs.Ytdlhgbhaeedbdaa
