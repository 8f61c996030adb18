/- The document's answer, walked: 'part', 'reach', 'first', 'place'. -/
import Derived.Test.YtdlhgbhaeedbdaaGreatRef2
namespace Go.Proofs.YtdlhgbhaeedbdaaGreat
open Go.RowKit

theorem bf {a b : Int} (h : a ≠ b) : (a == b) = false := by rw [beq_eq_false_iff_ne]; exact h
theorem bt {a b : Int} (h : a = b) : (a == b) = true := by rw [beq_iff_eq]; exact h

set_option maxRecDepth 100000 in
set_option maxHeartbeats 400000 in
theorem rpart_mode (s : ByteArray) (p : Nat) (w : World) (hs : s.size ≤ 140737488355328) (hp : p ≤ s.size) :
    Calls Tryz.prog 152 #[.string s, .int .i64 (p : Nat), .int .u8 77] w fun e w' => (∃ k : Nat, e = .returned (.tuple #[.int .i64 (k : Nat), .bool !(mdS s (p, false)).2]) ∧ (mdS s (p, false)).1 = p + k) ∧ w' = w := by
  by_cases hlt : p < s.size
  · have hb := byteAt_in hlt
    have hlt' : (p : Int) < (s.size : Int) := by omega
    by_cases hr : byteAt s p = 114
    · have hr' : ((s[p].toNat : Int) == 114) = true := bt (by rw [← hb]; exact hr)
      by_cases hlt2 : p + 1 < s.size
      · have hb2 := byteAt_in hlt2
        have hlt2' : (p : Int) + 1 < (s.size : Int) := by omega
        by_cases ho : byteAt s (p + 1) = 111
        · have e := md_ro hr (Or.inl ho)
          have ho' : ((s[p + 1].toNat : Int) == 111) = true := bt (by rw [← hb2]; exact ho)
          rw [e]
          clear e ho hb2 hr hb
          go_enter Tryz.func152, Tryz.ntmps152
          go_wp2
          go_ret2
          exact ⟨by first | exact ⟨2, rfl, rfl⟩ | rfl, rfl⟩
        · have ho' : ((s[p + 1].toNat : Int) == 111) = false := bf (by rw [← hb2]; exact ho)
          by_cases hw : byteAt s (p + 1) = 119
          · have e := md_ro hr (Or.inr hw)
            have hw' : ((s[p + 1].toNat : Int) == 119) = true := bt (by rw [← hb2]; exact hw)
            rw [e]
            clear e ho hw hb2 hr hb
            go_enter Tryz.func152, Tryz.ntmps152
            go_wp2
            go_ret2
            exact ⟨by first | exact ⟨2, rfl, rfl⟩ | rfl, rfl⟩
          · have e := md_rx hr ho hw
            have hw' : ((s[p + 1].toNat : Int) == 119) = false := bf (by rw [← hb2]; exact hw)
            rw [e]
            clear e ho hw hb2 hr hb
            go_enter Tryz.func152, Tryz.ntmps152
            go_wp2
            go_ret2
            exact ⟨by first | exact ⟨1, rfl, rfl⟩ | rfl, rfl⟩
      · have hb2 : byteAt s (p + 1) = -1 := byteAt_out hlt2
        have hlt2' : ¬ (p : Int) + 1 < (s.size : Int) := by omega
        have e := md_rx hr (by rw [hb2]; omega) (by rw [hb2]; omega)
        rw [e]
        clear e hb2 hr hb
        go_enter Tryz.func152, Tryz.ntmps152
        go_wp2
        go_ret2
        exact ⟨by first | exact ⟨1, rfl, rfl⟩ | rfl, rfl⟩
    · have e := md_r hr
      have hr' : ((s[p].toNat : Int) == 114) = false := bf (by rw [← hb]; exact hr)
      rw [e]
      clear e hr hb
      go_enter Tryz.func152, Tryz.ntmps152
      go_wp2
      go_ret2
      exact ⟨by first | exact ⟨0, rfl, rfl⟩ | rfl, rfl⟩
  · have hlt' : ¬ (p : Int) < (s.size : Int) := by omega
    have e := md_r (s := s) (p := p) (by rw [byteAt_out hlt]; omega)
    rw [e]
    clear e
    go_enter Tryz.func152, Tryz.ntmps152
    go_wp2
    go_ret2
    exact ⟨by first | exact ⟨0, rfl, rfl⟩ | rfl, rfl⟩

theorem tk_yes {s : ByteArray} {lo hi : Int} {p : Nat} (h : seesB s p lo hi = true) : tk s lo hi (p, false) = (p + 1, false) := by simp [tk, h]
theorem tk_no {s : ByteArray} {lo hi : Int} {p : Nat} (h : seesB s p lo hi = false) : tk s lo hi (p, false) = (p, true) := by simp [tk, h]

set_option maxRecDepth 100000 in
set_option maxHeartbeats 400000 in
theorem rpart_size (s : ByteArray) (p : Nat) (w : World) (_hs : s.size ≤ 140737488355328) (hp : p ≤ s.size) :
    Calls Tryz.prog 152 #[.string s, .int .i64 (p : Nat), .int .u8 83] w fun e w' => (∃ k : Nat, e = .returned (.tuple #[.int .i64 (k : Nat), .bool !(tk s 49 57 (p, false)).2]) ∧ (tk s 49 57 (p, false)).1 = p + k) ∧ w' = w := by
  by_cases hlt : p < s.size
  · have hb := byteAt_in hlt
    have hlt' : ¬ (s.size : Int) ≤ (p : Int) := by omega
    have hlt2 : (p : Int) < (s.size : Int) := by omega
    by_cases h1 : (49 : Int) ≤ (s[p].toNat : Int)
    · by_cases h2 : (s[p].toNat : Int) ≤ 57
      · rw [tk_yes (show seesB s p 49 57 = true by unfold seesB; rw [hb]; simp [h1, h2])]
        clear hb
        go_enter Tryz.func152, Tryz.ntmps152
        go_wp2
        all_goals
          go_ret2
          exact ⟨by first | exact ⟨1, rfl, rfl⟩ | rfl, rfl⟩
      · rw [tk_no (show seesB s p 49 57 = false by unfold seesB; rw [hb]; simp; omega)]
        clear hb
        go_enter Tryz.func152, Tryz.ntmps152
        go_wp2
        all_goals
          go_ret2
          exact ⟨by first | exact ⟨0, rfl, rfl⟩ | rfl, rfl⟩
    · rw [tk_no (show seesB s p 49 57 = false by unfold seesB; rw [hb]; simp; omega)]
      clear hb
      go_enter Tryz.func152, Tryz.ntmps152
      go_wp2
      all_goals
        go_ret2
        exact ⟨by first | exact ⟨0, rfl, rfl⟩ | rfl, rfl⟩
  · have hlt' : (s.size : Int) ≤ (p : Int) := by omega
    rw [tk_no (show seesB s p 49 57 = false by rw [← Bool.not_eq_true]; intro h; exact hlt (seesB_in (by omega) h))]
    go_enter Tryz.func152, Tryz.ntmps152
    go_wp2
    go_ret2
    exact ⟨by first | exact ⟨0, rfl, rfl⟩ | rfl, rfl⟩

set_option maxRecDepth 100000 in
set_option maxHeartbeats 400000 in
theorem rpart_digit (s : ByteArray) (p : Nat) (w : World) (_hs : s.size ≤ 140737488355328) (hp : p ≤ s.size) :
    Calls Tryz.prog 152 #[.string s, .int .i64 (p : Nat), .int .u8 68] w fun e w' => (∃ k : Nat, e = .returned (.tuple #[.int .i64 (k : Nat), .bool !(nbS s (p, false)).2]) ∧ (nbS s (p, false)).1 = p + k) ∧ w' = w := by
  unfold nbS
  by_cases hlt : p < s.size
  · have hb := byteAt_in hlt
    have hlt' : ¬ (s.size : Int) ≤ (p : Int) := by omega
    have hlt2 : (p : Int) < (s.size : Int) := by omega
    by_cases h1 : (48 : Int) ≤ (s[p].toNat : Int)
    · by_cases h2 : (s[p].toNat : Int) ≤ 55
      · rw [tk_yes (show seesB s p 48 55 = true by unfold seesB; rw [hb]; simp [h1, h2])]
        clear hb
        go_enter Tryz.func152, Tryz.ntmps152
        go_wp2
        all_goals
          go_ret2
          exact ⟨by first | exact ⟨1, rfl, rfl⟩ | rfl, rfl⟩
      · rw [tk_no (show seesB s p 48 55 = false by unfold seesB; rw [hb]; simp; omega)]
        clear hb
        go_enter Tryz.func152, Tryz.ntmps152
        go_wp2
        all_goals
          go_ret2
          exact ⟨by first | exact ⟨0, rfl, rfl⟩ | rfl, rfl⟩
    · rw [tk_no (show seesB s p 48 55 = false by unfold seesB; rw [hb]; simp; omega)]
      clear hb
      go_enter Tryz.func152, Tryz.ntmps152
      go_wp2
      all_goals
        go_ret2
        exact ⟨by first | exact ⟨0, rfl, rfl⟩ | rfl, rfl⟩
  · have hlt' : (s.size : Int) ≤ (p : Int) := by omega
    rw [tk_no (show seesB s p 48 55 = false by rw [← Bool.not_eq_true]; intro h; exact hlt (seesB_in (by omega) h))]
    go_enter Tryz.func152, Tryz.ntmps152
    go_wp2
    go_ret2
    exact ⟨by first | exact ⟨0, rfl, rfl⟩ | rfl, rfl⟩

set_option maxRecDepth 100000 in
set_option maxHeartbeats 400000 in
theorem rpart_lit (s : ByteArray) (p : Nat) (c : Int) (n1 : (c == 78) = false) (n2 : (c == 77) = false) (n3 : (c == 83) = false) (n4 : (c == 68) = false) (h0 : 0 ≤ c) (w : World) (_hs : s.size ≤ 140737488355328) (hp : p ≤ s.size) :
    Calls Tryz.prog 152 #[.string s, .int .i64 (p : Nat), .int .u8 c] w fun e w' => (∃ k : Nat, e = .returned (.tuple #[.int .i64 (k : Nat), .bool !(tk s c c (p, false)).2]) ∧ (tk s c c (p, false)).1 = p + k) ∧ w' = w := by
  by_cases hlt : p < s.size
  · have hb := byteAt_in hlt
    have hlt' : ¬ (s.size : Int) ≤ (p : Int) := by omega
    have hlt2 : (p : Int) < (s.size : Int) := by omega
    by_cases h1 : (s[p].toNat : Int) = c
    · rw [tk_eq, if_pos (by rw [hb]; exact h1)]
      have h1' : ((s[p].toNat : Int) == c) = true := bt h1
      clear hb h1
      go_enter Tryz.func152, Tryz.ntmps152
      go_wp2
      go_ret2
      exact ⟨by first | exact ⟨1, rfl, rfl⟩ | rfl, rfl⟩
    · rw [tk_eq, if_neg (by rw [hb]; exact h1)]
      have h1' : ((s[p].toNat : Int) == c) = false := bf h1
      clear hb h1
      go_enter Tryz.func152, Tryz.ntmps152
      go_wp2
      go_ret2
      exact ⟨by first | exact ⟨0, rfl, rfl⟩ | rfl, rfl⟩
  · have hlt' : (s.size : Int) ≤ (p : Int) := by omega
    rw [tk_eq, if_neg (by rw [byteAt_out hlt]; omega)]
    go_enter Tryz.func152, Tryz.ntmps152
    go_wp2
    go_ret2
    exact ⟨by first | exact ⟨0, rfl, rfl⟩ | rfl, rfl⟩

theorem rpart_any (s : ByteArray) (p : Nat) (c : UInt8) (w : World) (hs : s.size ≤ 140737488355328) (hp : p ≤ s.size) :
    Calls Tryz.prog 152 #[.string s, .int .i64 (p : Nat), .int .u8 (c.toNat : Int)] w fun e w' => (∃ k : Nat, e = .returned (.tuple #[.int .i64 (k : Nat), .bool !(stepB s (p, false) c).2]) ∧ (stepB s (p, false) c).1 = p + k) ∧ w' = w := by
  have ne : ∀ d : UInt8, c ≠ d → ((c.toNat : Int) == (d.toNat : Int)) = false := fun d h => bf (fun e => h (UInt8.toNat_inj.1 (by omega)))
  unfold stepB
  by_cases h1 : c = 78
  · subst h1; simp only [if_true]; exact rpart_name s p w hs hp
  rw [if_neg h1]
  by_cases h2 : c = 77
  · subst h2; simp only [if_true]; exact rpart_mode s p w hs hp
  rw [if_neg h2]
  by_cases h3 : c = 83
  · subst h3; simp only [if_true]; exact rpart_size s p w hs hp
  rw [if_neg h3]
  by_cases h4 : c = 68
  · subst h4; simp only [if_true]; exact rpart_digit s p w hs hp
  rw [if_neg h4]
  exact rpart_lit s p (c.toNat : Int) (ne 78 h1) (ne 77 h2) (ne 83 h3) (ne 68 h4) (by omega) w hs hp

end Go.Proofs.YtdlhgbhaeedbdaaGreat
