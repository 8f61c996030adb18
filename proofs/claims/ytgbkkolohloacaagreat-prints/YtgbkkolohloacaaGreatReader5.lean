/- The reader: 'number', 'mode'. -/
import Derived.Test.YtgbkkolohloacaaGreatReader4
namespace Go.Proofs.YtgbkkolohloacaaGreat
open Go.RowKit

theorem tk_ok {s : ByteArray} {lo hi : Int} {st : Nat × Bool} (h : (tk s lo hi st).2 = false) : st.2 = false ∧ seesB s st.1 lo hi = true ∧ tk s lo hi st = (st.1 + 1, false) := by
  unfold tk at h ⊢
  split at h
  · rename_i hc; simp at hc; simp [hc]
  · simp at h

set_option maxHeartbeats 400000 in
theorem number_any (b : Nat) (s : ByteArray) (st : Nat × Bool) (w : World) (h : Rd w b s st) (hs : s.size ≤ 9223372036854775807) :
    Calls Tryz.prog 147 #[.pointer (some ⟨b, 0, none⟩)] w fun e w' => e = .returned (.int .i64 (nbV s st)) ∧ Rd w' b s (nbS s st) ∧ w.grownBy w' (some b) := by
  have hc1 := h.c1
  have hle := h.le
  cases hb : (tk s 48 55 st).2 with
  | true =>
    have hv : nbV s st = 0 := by simp [nbV, nbS, hb]
    rw [hv]
    go_enter Tryz.func147, Tryz.ntmps147
    go_wp2_with (go_at_call 146; refine (take_any b s _ _ _ _ h (by omega) hs).mono ?_; rintro e w1 ⟨rfl, hrd1, hg1⟩; have d2 := hrd1.c2; rw [hb] at d2)
    go_ret
    exact ⟨rfl, hrd1, hg1⟩
  | false =>
    obtain ⟨h1, h2, h3⟩ := tk_ok hb
    have hp : st.1 < s.size := seesB_in (by omega) h2
    have hv : nbV s st = (s[st.1].toNat : Int) - 48 := by simp [nbV, nbS, hb, byteAt_in hp]
    have hlo : (48 : Int) ≤ (s[st.1].toNat : Int) ∧ (s[st.1].toNat : Int) ≤ 55 := by simpa [seesB, byteAt_in hp] using h2
    obtain ⟨hlo, hhi⟩ := hlo
    have hp' : (st.1 : Int) < (s.size : Int) := by omega
    rw [hv]
    have Hs : Hid ((tk s 48 55 st) = (st.1 + 1, false)) := h3
    clear h1 h2 h3 hv
    go_enter Tryz.func147, Tryz.ntmps147
    go_wp2_with (go_at_call 146; refine (take_any b s _ _ _ _ h (by omega) hs).mono ?_; rintro e w1 ⟨rfl, hrd1, hg1⟩; have d2 := hrd1.c2; rw [hb] at d2; have d0 := hrd1.c0)
    go_ret
    refine ⟨?_, hrd1, hg1⟩
    first | rfl | go_num | skip

set_option maxHeartbeats 400000 in
theorem mode_any (b : Nat) (s : ByteArray) (st : Nat × Bool) (w : World) (h : Rd w b s st) (hs : s.size ≤ 9223372036854775807) :
    Calls Tryz.prog 148 #[.pointer (some ⟨b, 0, none⟩)] w fun e w' => e = .returned (.tuple #[]) ∧ Rd w' b s (mdS s st) ∧ w.grownBy w' (some b) := by
  cases hb : seesB s (wd s [114] st).1 111 111 with
  | true =>
    have hv : mdS s st = wd s [111] (wd s [114] st) := by simp [mdS, hb]
    rw [hv]
    clear hv
    go_enter Tryz.func148, Tryz.ntmps148
    go_wp2_with fail
    refine (word_any b s _ _ _ h hs (by decide)).mono ?_
    rintro e w1 ⟨rfl, hrd1, hg1⟩
    have hrd1' : Rd w1 b s (wd s [114] st) := hrd1
    clear hrd1
    have hsee := sees_any b s _ 111 111 w1 hrd1' (by omega)
    rw [hb] at hsee
    go_wp2_with fail
    refine hsee.mono ?_
    rintro e w2 ⟨rfl, n2, rfl⟩
    go_wp2_with fail
    refine (word_any b s _ _ _ (hrd1'.drewN _) hs (by decide)).mono ?_
    rintro e w3 ⟨rfl, hrd3, hg3⟩
    go_wp2
    refine bodyPost_ret (results_none rfl _ _ _) rfl ?_
    exact ⟨rfl, hrd3, gb_trans (gb_drewN hg1 _) hg3⟩
  | false =>
    have hv : mdS s st = wd s [119] (wd s [114] st) := by simp [mdS, hb]
    rw [hv]
    clear hv
    go_enter Tryz.func148, Tryz.ntmps148
    go_wp2_with fail
    refine (word_any b s _ _ _ h hs (by decide)).mono ?_
    rintro e w1 ⟨rfl, hrd1, hg1⟩
    have hrd1' : Rd w1 b s (wd s [114] st) := hrd1
    clear hrd1
    have hsee := sees_any b s _ 111 111 w1 hrd1' (by omega)
    rw [hb] at hsee
    go_wp2_with fail
    refine hsee.mono ?_
    rintro e w2 ⟨rfl, n2, rfl⟩
    go_wp2_with fail
    refine (word_any b s _ _ _ (hrd1'.drewN _) hs (by decide)).mono ?_
    rintro e w3 ⟨rfl, hrd3, hg3⟩
    go_wp2
    go_end0
    exact ⟨rfl, hrd3, gb_trans (gb_drewN hg1 _) hg3⟩

end Go.Proofs.YtgbkkolohloacaaGreat
