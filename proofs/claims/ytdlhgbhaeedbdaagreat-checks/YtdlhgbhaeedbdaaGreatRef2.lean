/- The document's answer, walked: 'form', 'small', 'part'. -/
import Derived.Test.YtdlhgbhaeedbdaaGreatRef1
namespace Go.Proofs.YtdlhgbhaeedbdaaGreat
open Go.RowKit

set_option maxHeartbeats 400000 in
theorem rform_any (k : Nat) (hk : k ≤ 4) (w : World) : Calls Tryz.prog 151 #[.int .i64 (k : Nat)] w fun e w' => e = .returned (.string ⟨(formL k).toArray⟩) ∧ w' = w := by
  have hk' : k = 0 ∨ k = 1 ∨ k = 2 ∨ k = 3 ∨ k = 4 := by omega
  rcases hk' with rfl | rfl | rfl | rfl | rfl
  all_goals
    go_enter Tryz.func151, Tryz.ntmps151
    go_wp2
    go_ret
    exact ⟨rfl, rfl⟩

set_option maxHeartbeats 400000 in
theorem rsmall_any (c : Int) (w : World) : Calls Tryz.prog 163 #[.int .u8 c] w fun e w' => e = .returned (.bool (decide (97 ≤ c) && decide (c ≤ 122))) ∧ w' = w := by
  by_cases h : 97 ≤ c
  · go_enter Tryz.func163, Tryz.ntmps163
    go_wp2
    go_ret
    exact ⟨ret_bool (by simp [h]), rfl⟩
  · go_enter Tryz.func163, Tryz.ntmps163
    go_wp2
    go_ret
    exact ⟨ret_bool (by simp; omega), rfl⟩

set_option maxRecDepth 100000 in
set_option maxHeartbeats 400000 in
theorem rpart_name (s : ByteArray) (p : Nat) (w : World) (hs : s.size ≤ 140737488355328) (hp : p ≤ s.size) :
    Calls Tryz.prog 152 #[.string s, .int .i64 (p : Nat), .int .u8 78] w fun e w' => (∃ k : Nat, e = .returned (.tuple #[.int .i64 (k : Nat), .bool !(nmS s (p, false)).2]) ∧ (nmS s (p, false)).1 = p + k) ∧ w' = w := by
  have fin : ∀ k : Nat, k ≤ 4 → (∀ i, i < k → seesB s (p + i) 97 122 = true) → (k = 4 ∨ seesB s (p + k) 97 122 = false) → (!(nmS s (p, false)).2) = decide (0 < k) ∧ (nmS s (p, false)).1 = p + k := by
    intro k h1 h2 h3
    rw [nm_count h1 h2 h3]
    simp
  have Fin := hide fin
  clear fin
  go_enter Tryz.func152, Tryz.ntmps152
  go_wp2
  go_loop [8] (fun n => ∃ k : Nat, k ≤ 4 ∧ n = .int .i64 k ∧ ∀ i, i < k → seesB s (p + i) 97 122 = true) (fun n => 4 - (intOf n).toNat)
  case atStart => exact ⟨0, by omega, rfl, by intro i hi; omega⟩
  case round =>
    obtain ⟨k, hk, rfl, hl⟩ := hrel
    have Hl := hide hl
    clear hl
    by_cases h4 : k < 4
    · have h4' : (k : Int) < 4 := by omega
      by_cases hlt : p + k < s.size
      · have hlt' : (p : Int) + (k : Int) < (s.size : Int) := by omega
        have hb := byteAt_in hlt
        by_cases hc : seesB s (p + k) 97 122 = true
        · have hc' := hc
          unfold seesB at hc'
          rw [hb] at hc'
          have H2 : Hid (∀ i, i < k + 1 → seesB s (p + i) 97 122 = true) := fun i hi => by
            by_cases e : i = k
            · rw [e]; exact hc
            · exact unhide Hl i (by omega)
          have Hsm : Hid (∀ wx, Calls Tryz.prog 163 #[.int .u8 (s[p + k].toNat : Int)] wx fun e w' => e = .returned (.bool true) ∧ w' = wx) := fun wx => by
            have := rsmall_any (s[p + k].toNat : Int) wx; rw [hc'] at this; exact this
          clear hc hc' hb
          go_wp2_with (go_at_call 163; refine (unhide Hsm _).mono ?_; rintro e w1 ⟨rfl, rfl⟩)
          go_round
          case rel => exact ⟨k + 1, by omega, by go_num, unhide H2⟩
          case measure => simp [intOf]; omega
        · have hc0 : seesB s (p + k) 97 122 = false := by simpa using hc
          have hc' := hc0
          unfold seesB at hc'
          rw [hb] at hc'
          have F := unhide Fin k hk (unhide Hl) (Or.inr hc0)
          have HF := hide F
          have Hsm : Hid (∀ wx, Calls Tryz.prog 163 #[.int .u8 (s[p + k].toNat : Int)] wx fun e w' => e = .returned (.bool false) ∧ w' = wx) := fun wx => by
            have := rsmall_any (s[p + k].toNat : Int) wx; rw [hc'] at this; exact this
          clear hc hc0 hc' hb F
          go_wp2_with (go_at_call 163; refine (unhide Hsm _).mono ?_; rintro e w1 ⟨rfl, rfl⟩)
          go_ret2
          exact ⟨⟨k, by rw [(unhide HF).1]; simp, (unhide HF).2⟩, rfl⟩
      · have hlt' : ¬ (p : Int) + (k : Int) < (s.size : Int) := by omega
        have hc0 : seesB s (p + k) 97 122 = false := by
          rw [← Bool.not_eq_true]; intro h; exact hlt (seesB_in (by omega) h)
        have F := unhide Fin k hk (unhide Hl) (Or.inr hc0)
        have HF := hide F
        clear hc0 F
        go_wp2_with fail
        go_ret2
        exact ⟨⟨k, by rw [(unhide HF).1]; simp, (unhide HF).2⟩, rfl⟩
    · have h4' : ¬ (k : Int) < 4 := by omega
      have F := unhide Fin k hk (unhide Hl) (Or.inl (by omega))
      have HF := hide F
      clear F
      go_wp2_with fail
      go_ret2
      exact ⟨⟨k, by rw [(unhide HF).1]; simp, (unhide HF).2⟩, rfl⟩

end Go.Proofs.YtdlhgbhaeedbdaaGreat
