/- The reader: 'name', 'number', 'mode'. -/
import Derived.Test.YtdlhgbhaeedbdaaReader3
namespace Go.Proofs.Ytdlhgbhaeedbdaa
open Go.RowKit

/-- One letter more of a name, if there is one. -/
def nmStep (s : ByteArray) (st : Nat × Bool) : Nat × Bool := if seesB s st.1 97 122 then tk s 97 122 st else st
def nmIter (s : ByteArray) : Nat → Nat × Bool → Nat × Bool
  | 0, st => st
  | k + 1, st => nmStep s (nmIter s k st)
/-- A name is read. -/
def nmS (s : ByteArray) (st : Nat × Bool) : Nat × Bool := nmIter s 3 (tk s 97 122 st)
def nmV (s : ByteArray) (st : Nat × Bool) : ByteArray := s.extract st.1 (nmS s st).1
/-- A digit 0 to 7 is read. -/
def nbS (s : ByteArray) (st : Nat × Bool) : Nat × Bool := tk s 48 55 st
def nbV (s : ByteArray) (st : Nat × Bool) : Int := if (nbS s st).2 then 0 else byteAt s st.1 - 48
/-- The digit that is read. -/
def dgV (s : ByteArray) (lo hi : Int) (st : Nat × Bool) : Int := if (tk s lo hi st).2 then 0 else byteAt s st.1 - 48
/-- A mode is read. -/
def mdS (s : ByteArray) (st : Nat × Bool) : Nat × Bool :=
  if seesB s (wd s [114] st).1 111 111 then wd s [111] (wd s [114] st) else wd s [119] (wd s [114] st)
/-- Is it the mode for reading alone? -/
def mdV (s : ByteArray) (st : Nat × Bool) : Bool := seesB s (wd s [114] st).1 111 111

theorem tk_mono (s : ByteArray) (lo hi : Int) (st : Nat × Bool) : st.1 ≤ (tk s lo hi st).1 := by
  unfold tk; split <;> simp
theorem nmStep_mono (s : ByteArray) (st : Nat × Bool) : st.1 ≤ (nmStep s st).1 := by
  unfold nmStep; split
  · exact tk_mono _ _ _ _
  · exact Nat.le_refl _
theorem nmIter_mono (s : ByteArray) (k : Nat) (st : Nat × Bool) : st.1 ≤ (nmIter s k st).1 := by
  induction k with
  | zero => exact Nat.le_refl _
  | succ k ih => exact Nat.le_trans ih (nmStep_mono _ _)
theorem nmS_mono (s : ByteArray) (st : Nat × Bool) : st.1 ≤ (nmS s st).1 := Nat.le_trans (tk_mono _ _ _ _) (nmIter_mono _ _ _)

set_option maxHeartbeats 400000 in
theorem name_any (b : Nat) (s : ByteArray) (st : Nat × Bool) (w : World) (h : Rd w b s st) (hs : s.size ≤ 9223372036854775807) :
    Calls Try.prog 112 #[.pointer (some ⟨b, 0, none⟩)] w fun e w' => e = .returned (.string (nmV s st)) ∧ Rd w' b s (nmS s st) ∧ w.grownBy w' (some b) := by
  have hc1 := h.c1
  have hle := h.le
  have hm := nmS_mono s st
  go_enter Try.func112, Try.ntmps112
  go_wp2_with (go_at_call 118; refine (take_any b s _ _ _ _ h (by omega) hs).mono ?_; rintro e w1 ⟨rfl, hrd1, hg1⟩)
  clear hc1
  go_loopw [4] (fun i wr => ∃ k : Nat, k ≤ 3 ∧ i = .int .i64 (k + 1 : Nat) ∧ Rd wr b s (nmIter s k (tk s 97 122 st)) ∧ w.grownBy wr (some b)) (fun i _ => 4 - (intOf i).toNat)
  case atStart => exact ⟨0, by omega, rfl, hrd1, hg1⟩
  case round =>
    obtain ⟨k, hk, rfl, hrd, hg⟩ := hrel
    by_cases hlt : k < 3
    · cases hb : seesB s (nmIter s k (tk s 97 122 st)).1 97 122 with
      | true =>
        have HB : Hid (nmIter s (k + 1) (tk s 97 122 st) = tk s 97 122 (nmIter s k (tk s 97 122 st))) := by
          show nmStep s _ = _
          simp [nmStep, hb]
        have hsee := sees_any b s _ 97 122 wr hrd (by omega)
        rw [hb] at hsee
        clear hb
        go_wp2_with (first | (go_at_call 119; refine hsee.mono ?_; rintro e w2 ⟨rfl, n2, rfl⟩) | (go_at_call 118; refine (take_any b s _ _ _ _ (hrd.drewN _) (by omega) hs).mono ?_; rintro e w3 ⟨rfl, hrd3, hg3⟩))
        go_roundw
        case rel => exact ⟨k + 1, by omega, by go_num, by rw [HB.out]; exact hrd3, gb_trans (gb_drewN hg _) hg3⟩
        case measure => simp [intOf]; omega
      | false =>
        have HB : Hid (nmIter s (k + 1) (tk s 97 122 st) = nmIter s k (tk s 97 122 st)) := by
          show nmStep s _ = _
          simp [nmStep, hb]
        have hsee := sees_any b s _ 97 122 wr hrd (by omega)
        rw [hb] at hsee
        clear hb
        go_wp2_with (go_at_call 119; refine hsee.mono ?_; rintro e w2 ⟨rfl, n2, rfl⟩)
        go_roundw
        case rel => exact ⟨k + 1, by omega, by go_num, by rw [HB.out]; exact hrd.drewN _, gb_drewN hg _⟩
        case measure => simp [intOf]; omega
    · have : k = 3 := by omega
      subst this
      have hrd' : Rd wr b s (nmS s st) := hrd
      clear hrd
      have d0 := hrd'.c0
      have d1 := hrd'.c1
      have dle := hrd'.le
      go_wp2
      go_quiet (fail)
      go_wp2
      go_ret
      exact ⟨by simp [nmV], hrd'.drewN _, gb_drewN hg _⟩

end Go.Proofs.Ytdlhgbhaeedbdaa
