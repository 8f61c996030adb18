/- 'Places', where the text has not its form; and at every text. -/
import Derived.Test.YtdlhgbhaeedbdaaPlaces
namespace Go.Proofs.Ytdlhgbhaeedbdaa
open Go.RowKit

set_option maxRecDepth 100000 in
set_option maxHeartbeats 400000 in
/-- It ends too early. -/
theorem places_end (s : ByteArray) (w : World) (h4 : ¬ 400 < s.size) (hc : chk s = (2, s.size)) :
    Calls Try.prog 4 #[.string s] w fun e w' => e = .returned (.bool true) ∧ Below w.heap.size w w' := by
  have h1 : ∀ wx, Calls Try.prog 24 #[.string s] wx fun e w' => e = .returned (.tuple #[.int .i64 2, .int .i64 (s.size : Nat)]) ∧ Below wx.heap.size wx w' := by
    intro wx; have := check_any s wx (by unfold maxLen; omega); rw [hc] at this; exact this
  have H1 := hide h1
  clear h1 hc
  have h4' : ¬ (400 : Int) < (s.size : Int) := by omega
  go_enter Try.func4, Try.ntmps4
  go_wp2_with fail
  refine (awake_any w).mono ?_
  rintro e w1 ⟨rfl, hb1⟩
  go_wp2_with fail
  refine (unhide H1 _).mono ?_
  rintro e w2 ⟨rfl, hb2⟩
  go_wp2_with fail
  refine (unhide H1 _).mono ?_
  rintro e w3 ⟨rfl, hb3⟩
  go_wp2
  go_ret
  exact ⟨rfl, (hb1.trans (hb2.mono hb1.size)).trans (hb3.mono (Nat.le_trans hb1.size hb2.size))⟩

set_option maxRecDepth 100000 in
set_option maxHeartbeats 400000 in
/-- A byte at m cannot stand there. -/
theorem places_byte (s : ByteArray) (w : World) (h4 : ¬ 400 < s.size) (m : Nat) (hm : m < s.size) (hc : chk s = (2, m)) (f p : Nat) (hf : chk (s.extract 0 m) = (f, p)) (hfp : f = 2 ∧ p = m ∨ f ≠ 2) (hg : chk (s.extract 0 (m + 1)) = (2, m)) :
    Calls Try.prog 4 #[.string s] w fun e w' => e = .returned (.bool true) ∧ Below w.heap.size w w' := by
  have h1 : ∀ wx, Calls Try.prog 24 #[.string s] wx fun e w' => e = .returned (.tuple #[.int .i64 2, .int .i64 (m : Nat)]) ∧ Below wx.heap.size wx w' := by
    intro wx; have := check_any s wx (by unfold maxLen; omega); rw [hc] at this; exact this
  have h2 : ∀ wx, Calls Try.prog 24 #[.string (s.extract 0 m)] wx fun e w' => e = .returned (.tuple #[.int .i64 (f : Nat), .int .i64 (p : Nat)]) ∧ Below wx.heap.size wx w' := by
    intro wx; have := check_any (s.extract 0 m) wx (by unfold maxLen; simp; omega); rw [hf] at this; exact this
  have h3 : ∀ wx, Calls Try.prog 24 #[.string (s.extract 0 (m + 1))] wx fun e w' => e = .returned (.tuple #[.int .i64 2, .int .i64 (m : Nat)]) ∧ Below wx.heap.size wx w' := by
    intro wx; have := check_any (s.extract 0 (m + 1)) wx (by unfold maxLen; simp; omega); rw [hg] at this; exact this
  have H1 := hide h1
  have H2 := hide h2
  have H3 := hide h3
  clear h1 h2 h3 hc hf hg
  have h4' : ¬ (400 : Int) < (s.size : Int) := by omega
  have hm' : ((m : Int) == (s.size : Int)) = false := by rw [beq_eq_false_iff_ne]; omega
  have hm2 : (m : Int) + 1 ≤ (s.size : Int) := by omega
  rcases hfp with ⟨rfl, rfl⟩ | hne
  · go_enter Try.func4, Try.ntmps4
    go_wp2_with fail
    refine (awake_any w).mono ?_
    rintro e w1 ⟨rfl, hb1⟩
    go_wp2_with fail
    refine (unhide H1 _).mono ?_
    rintro e w2 ⟨rfl, hb2⟩
    go_wp2_with fail
    refine (unhide H2 _).mono ?_
    rintro e w3 ⟨rfl, hb3⟩
    go_wp2_with fail
    refine (unhide H3 _).mono ?_
    rintro e w4 ⟨rfl, hb4⟩
    go_wp2
    go_ret
    exact ⟨rfl, ((hb1.trans (hb2.mono hb1.size)).trans (hb3.mono (Nat.le_trans hb1.size hb2.size))).trans (hb4.mono (Nat.le_trans hb1.size (Nat.le_trans hb2.size hb3.size)))⟩
  · have hne' : ((f : Int) == 2) = false := by rw [beq_eq_false_iff_ne]; omega
    clear hne
    go_enter Try.func4, Try.ntmps4
    go_wp2_with fail
    refine (awake_any w).mono ?_
    rintro e w1 ⟨rfl, hb1⟩
    go_wp2_with fail
    refine (unhide H1 _).mono ?_
    rintro e w2 ⟨rfl, hb2⟩
    go_wp2_with fail
    refine (unhide H2 _).mono ?_
    rintro e w3 ⟨rfl, hb3⟩
    go_wp2_with fail
    refine (unhide H3 _).mono ?_
    rintro e w4 ⟨rfl, hb4⟩
    go_wp2
    go_ret
    exact ⟨rfl, ((hb1.trans (hb2.mono hb1.size)).trans (hb3.mono (Nat.le_trans hb1.size hb2.size))).trans (hb4.mono (Nat.le_trans hb1.size (Nat.le_trans hb2.size hb3.size)))⟩

theorem places_any (s : ByteArray) (w : World) (hs : s.size ≤ maxLen) :
    Calls Try.prog 4 #[.string s] w fun e w' => e = .returned (.bool true) ∧ Below w.heap.size w w' := by
  rcases chk_cases s with ⟨h4, hc⟩ | ⟨h4, ⟨hc, hf⟩ | ⟨_, ⟨k, hk, hc⟩ | ⟨k, hk, hc⟩ | hc⟩⟩
  · exact places_long s w hs h4 hc
  · have hr : rdP s 24 0 = ((rdP s 24 0).1, false) := Prod.ext rfl hf
    have hle := rdP_le s 24 0 (Nat.zero_le _) hf
    generalize (rdP s 24 0).1 = m at *
    by_cases he : m = s.size
    · subst he; exact places_end s w h4 hc
    · have hm : m < s.size := by omega
      have c1 := cut_extract s m hle
      have c2 := cut_extract s (m + 1) hm
      have z1 : ¬ 400 < (s.extract 0 m).size := by rw [c1.size]; omega
      have z2 : ¬ 400 < (s.extract 0 (m + 1)).size := by rw [c2.size]; omega
      refine places_byte s w h4 m hm hc (chk (s.extract 0 m)).1 (chk (s.extract 0 m)).2 rfl ?_ (chk_form z2 (rdP_behind c2 24 0 hr))
      rcases rdP_at c1 24 0 hr with h | h
      · exact Or.inr (chk_formed z1 h)
      · rw [chk_form z1 h]; exact Or.inl ⟨rfl, rfl⟩
  · exact places_item s w h4 3 k hc hk (Or.inl rfl)
  · exact places_item s w h4 4 k hc hk (Or.inr rfl)
  · exact places_ok s w h4 hc

end Go.Proofs.Ytdlhgbhaeedbdaa
