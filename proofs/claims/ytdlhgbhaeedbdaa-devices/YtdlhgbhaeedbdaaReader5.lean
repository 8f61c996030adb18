/- The reader: 'digit', 'number', 'mode'. -/
import Derived.Test.YtdlhgbhaeedbdaaReader4
namespace Go.Proofs.Ytdlhgbhaeedbdaa
open Go.RowKit

theorem tk_ok {s : ByteArray} {lo hi : Int} {st : Nat × Bool} (h : (tk s lo hi st).2 = false) : st.2 = false ∧ seesB s st.1 lo hi = true ∧ tk s lo hi st = (st.1 + 1, false) := by
  unfold tk at h ⊢
  split at h
  · rename_i hc; simp at hc; simp [hc]
  · simp at h

set_option maxHeartbeats 400000 in
theorem digit_any (b : Nat) (s : ByteArray) (lo hi : Int) (st : Nat × Bool) (w : World) (h : Rd w b s st) (h0 : 48 ≤ lo) (h1 : hi ≤ 57) (hs : s.size ≤ 9223372036854775807) :
    Calls Try.prog 113 #[.pointer (some ⟨b, 0, none⟩), .int .u8 lo, .int .u8 hi] w fun e w' => e = .returned (.int .i64 (dgV s lo hi st)) ∧ Rd w' b s (tk s lo hi st) ∧ w.grownBy w' (some b) := by
  have hc1 := h.c1
  have hle := h.le
  cases hb : (tk s lo hi st).2 with
  | true =>
    have hv : dgV s lo hi st = 0 := by simp [dgV, hb]
    rw [hv]
    go_enter Try.func113, Try.ntmps113
    go_wp2_with (go_at_call 118; refine (take_any b s _ _ _ _ h (by omega) hs).mono ?_; rintro e w1 ⟨rfl, hrd1, hg1⟩; have d2 := hrd1.c2; rw [hb] at d2)
    go_ret
    exact ⟨rfl, hrd1, hg1⟩
  | false =>
    obtain ⟨h1', h2, h3⟩ := tk_ok hb
    have hp : st.1 < s.size := seesB_in (by omega) h2
    have hv : dgV s lo hi st = (s[st.1].toNat : Int) - 48 := by simp [dgV, hb, byteAt_in hp]
    have hlo : lo ≤ (s[st.1].toNat : Int) ∧ (s[st.1].toNat : Int) ≤ hi := by simpa [seesB, byteAt_in hp] using h2
    have hlo1 : (48 : Int) ≤ (s[st.1].toNat : Int) := by omega
    have hhi : (s[st.1].toNat : Int) ≤ 57 := by omega
    have hp' : (st.1 : Int) < (s.size : Int) := by omega
    rw [hv]
    have Hs : Hid ((tk s lo hi st) = (st.1 + 1, false)) := h3
    have H0 : Hid (0 ≤ lo) := (by omega : 0 ≤ lo)
    clear h1' h2 h3 hv hlo h0 h1
    go_enter Try.func113, Try.ntmps113
    go_wp2_with (go_at_call 118; refine (take_any b s _ _ _ _ h H0.out hs).mono ?_; rintro e w1 ⟨rfl, hrd1, hg1⟩; have d2 := hrd1.c2; rw [hb] at d2; have d0 := hrd1.c0)
    go_ret
    refine ⟨?_, hrd1, hg1⟩
    first | rfl | go_num | skip

theorem number_any (b : Nat) (s : ByteArray) (st : Nat × Bool) (w : World) (h : Rd w b s st) (hs : s.size ≤ 9223372036854775807) :
    Calls Try.prog 114 #[.pointer (some ⟨b, 0, none⟩)] w fun e w' => e = .returned (.int .i64 (nbV s st)) ∧ Rd w' b s (nbS s st) ∧ w.grownBy w' (some b) := by
  have hn : nbV s st = dgV s 48 55 st := rfl
  have hS : nbS s st = tk s 48 55 st := rfl
  rw [hn, hS]
  go_enter Try.func114, Try.ntmps114
  go_wp2_with fail
  refine (digit_any b s 48 55 st w h (by omega) (by omega) hs).mono ?_
  rintro e w1 ⟨rfl, hrd1, hg1⟩
  go_wp2
  go_ret
  exact ⟨rfl, hrd1, hg1⟩

set_option maxHeartbeats 400000 in
theorem mode_any (b : Nat) (s : ByteArray) (st : Nat × Bool) (w : World) (h : Rd w b s st) (hs : s.size ≤ 9223372036854775807) :
    Calls Try.prog 115 #[.pointer (some ⟨b, 0, none⟩)] w fun e w' => e = .returned (.bool (mdV s st)) ∧ Rd w' b s (mdS s st) ∧ w.grownBy w' (some b) := by
  cases hb : seesB s (wd s [114] st).1 111 111 with
  | true =>
    have hv : mdS s st = wd s [111] (wd s [114] st) := by simp [mdS, hb]
    have hv' : mdV s st = true := hb
    rw [hv, hv']
    clear hv hv'
    go_enter Try.func115, Try.ntmps115
    go_wp2_with fail
    refine (word_any b s _ _ _ h hs (by decide)).mono ?_
    rintro e w1 ⟨rfl, hrd1, hg1⟩
    have hrd1' : Rd w1 b s (wd s [114] st) := hrd1
    clear hrd1
    have hsee := sees_any b s _ 111 111 w1 hrd1' (by omega)
    rw [hb] at hsee
    go_wp2_with fail
    refine hsee.mono ?_
    rintro e w2 ⟨rfl, n2, rfl⟩
    go_wp2_with fail
    refine (word_any b s _ _ _ (hrd1'.drewN _) hs (by decide)).mono ?_
    rintro e w3 ⟨rfl, hrd3, hg3⟩
    go_wp2
    go_ret
    exact ⟨rfl, hrd3, gb_trans (gb_drewN hg1 _) hg3⟩
  | false =>
    have hv : mdS s st = wd s [119] (wd s [114] st) := by simp [mdS, hb]
    have hv' : mdV s st = false := hb
    rw [hv, hv']
    clear hv hv'
    go_enter Try.func115, Try.ntmps115
    go_wp2_with fail
    refine (word_any b s _ _ _ h hs (by decide)).mono ?_
    rintro e w1 ⟨rfl, hrd1, hg1⟩
    have hrd1' : Rd w1 b s (wd s [114] st) := hrd1
    clear hrd1
    have hsee := sees_any b s _ 111 111 w1 hrd1' (by omega)
    rw [hb] at hsee
    go_wp2_with fail
    refine hsee.mono ?_
    rintro e w2 ⟨rfl, n2, rfl⟩
    go_wp2_with fail
    refine (word_any b s _ _ _ (hrd1'.drewN _) hs (by decide)).mono ?_
    rintro e w3 ⟨rfl, hrd3, hg3⟩
    go_wp2
    go_ret
    exact ⟨rfl, hrd3, gb_trans (gb_drewN hg1 _) hg3⟩

end Go.Proofs.Ytdlhgbhaeedbdaa
