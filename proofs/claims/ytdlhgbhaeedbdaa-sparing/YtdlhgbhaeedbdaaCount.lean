/- As many pieces as items; 'awake'. -/
import Derived.Test.YtdlhgbhaeedbdaaPureA
import Derived.Test.YtdlhgbhaeedbdaaPieces
namespace Go.Proofs.Ytdlhgbhaeedbdaa
open Go.RowKit

theorem byteAt_lt {s : ByteArray} {p : Nat} {c : Int} (h : byteAt s p = c) (hc : 0 ≤ c) : p < s.size := by
  by_cases hp : p < s.size
  · exact hp
  · rw [byteAt_out hp] at h; omega

theorem end_of {s : ByteArray} {st : Nat × Bool} {p : Nat} (hp : p ≤ st.1) (h : (wd s [59] st).2 = false) : ∃ r, p ≤ r ∧ wd s [59] st = (r + 1, false) ∧ byteAt s r = 59 ∧ st = (r, false) := by
  obtain ⟨h1, h2, h3⟩ := tk_ok (s := s) (lo := ((59 : UInt8).toNat : Int)) (hi := ((59 : UInt8).toNat : Int)) (st := st) h
  refine ⟨st.1, hp, h3, ?_, Prod.ext rfl h1⟩
  simp [seesB] at h2
  omega

theorem item_endC {s : ByteArray} {p : Nat} (h : (itemS s (p, false)).2 = false) : ∃ r, p ≤ r ∧ itemS s (p, false) = (r + 1, false) ∧ byteAt s r = 59 := by
  have t := tk_mono s
  have d := wd_mono s
  have n := nmS_mono s
  have m := mdS_mono s
  unfold itemS at h ⊢
  simp only at h ⊢
  by_cases h1 : byteAt s p = 100
  · simp only [h1, if_true] at h ⊢
    obtain ⟨r, a, b, c, _⟩ := end_of (p := p) (st := diskS4 s (p, false)) (Nat.le_trans (d _ (p, false)) (Nat.le_trans (n _) (Nat.le_trans (d _ _) (t _ _ _)))) h
    exact ⟨r, a, b, c⟩
  rw [if_neg h1] at h ⊢
  by_cases h2 : byteAt s p = 116
  · rw [if_pos h2] at h ⊢
    obtain ⟨r, a, b, c, _⟩ := end_of (p := p) (st := targetS2 s (p, false)) (Nat.le_trans (d _ (p, false)) (n _)) h
    exact ⟨r, a, b, c⟩
  rw [if_neg h2] at h ⊢
  by_cases h3 : byteAt s p = 108
  · rw [if_pos h3] at h ⊢
    obtain ⟨r, a, b, c, _⟩ := end_of (p := p) (st := lunS8 s (p, false)) (Nat.le_trans (d _ (p, false)) (Nat.le_trans (n _) (Nat.le_trans (d _ _) (Nat.le_trans (t _ _ _) (Nat.le_trans (d _ _) (Nat.le_trans (n _) (Nat.le_trans (d _ _) (m _)))))))) h
    exact ⟨r, a, b, c⟩
  rw [if_neg h3] at h ⊢
  by_cases h4 : byteAt s p = 104
  · rw [if_pos h4] at h ⊢
    obtain ⟨r, a, b, c, _⟩ := end_of (p := p) (st := hostS4 s (p, false)) (Nat.le_trans (d _ (p, false)) (Nat.le_trans (n _) (Nat.le_trans (d _ _) (n _)))) h
    exact ⟨r, a, b, c⟩
  rw [if_neg h4] at h ⊢
  by_cases h5 : byteAt s p = 109
  · rw [if_pos h5] at h ⊢
    obtain ⟨r, a, b, c, _⟩ := end_of (p := p) (st := mapsS8 s (p, false)) (Nat.le_trans (d _ (p, false)) (Nat.le_trans (n _) (Nat.le_trans (d _ _) (Nat.le_trans (n _) (Nat.le_trans (d _ _) (Nat.le_trans (t _ _ _) (Nat.le_trans (d _ _) (t _ _ _)))))))) h
    exact ⟨r, a, b, c⟩
  rw [if_neg h5] at h
  simp at h

theorem cnt_mono (s : ByteArray) {a b : Nat} (h : a ≤ b) : (pcsTo s a).1.length ≤ (pcsTo s b).1.length := by
  induction b with
  | zero => have : a = 0 := by omega
            rw [this]; exact Nat.le_refl _
  | succ b ih =>
    by_cases e : a = b + 1
    · rw [e]; exact Nat.le_refl _
    · refine Nat.le_trans (ih (by omega)) ?_
      simp only [pcsTo]
      split
      · simp
      · exact Nat.le_refl _

theorem cnt_step (s : ByteArray) {r : Nat} (h : byteAt s r = 59) : (pcsTo s (r + 1)).1.length = (pcsTo s r).1.length + 1 := by simp [pcsTo, h]

theorem rdAll_cnt (s : ByteArray) (n p : Nat) (acc : List Item) (hp : p ≤ s.size) : (rdAll s n p acc).1.length + (pcsTo s p).1.length ≤ acc.length + (pcsTo s s.size).1.length := by
  induction n generalizing p acc with
  | zero =>
    have := cnt_mono s hp
    unfold rdAll; split
    · simp; omega
    · simp; omega
  | succ n ih =>
    have := cnt_mono s hp
    unfold rdAll; split
    · split
      · simp; omega
      · rename_i hb
        obtain ⟨r, a, b, c⟩ := item_endC (s := s) (p := p) (by simpa using hb)
        rw [b]
        have hr := byteAt_lt c (by omega)
        have := ih (r + 1) (acc ++ [itemAt s p]) (by omega)
        have h2 := cnt_mono s a
        rw [cnt_step s c] at this
        simp at this ⊢
        omega
    · simp; omega

theorem items_le_pieces (s : ByteArray) : (itemsOf s).length ≤ (pcs s).length := by
  have := rdAll_cnt s 24 0 [] (Nat.zero_le _)
  simp [pcsTo] at this
  unfold pcs itemsOf
  split
  · simp; omega
  · omega

set_option maxRecDepth 100000 in
theorem chk_a0 : chk ⟨#[100, 105, 115, 107, 32, 97, 32, 48, 59]⟩ = (2, 7) := by decide +kernel

end Go.Proofs.Ytdlhgbhaeedbdaa
