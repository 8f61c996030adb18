/- What Check tells, by cases. Plain mathematics. -/
import Derived.Test.YtigpohommoogeaaPrefix
namespace Go.Proofs.Ytigpohommoogeaa
open Go.RowKit

theorem itemS_le (s : ByteArray) (p : Nat) (hp : p ≤ s.size) : (itemS s (p, false)).1 ≤ s.size := by
  have T : ∀ (lo hi : Int) (st : Nat × Bool), 0 ≤ lo → st.1 ≤ s.size → (tk s lo hi st).1 ≤ s.size := fun lo hi st h0 h => tk_le h0 h
  have W : ∀ (l : List UInt8) (st : Nat × Bool), st.1 ≤ s.size → (wd s l st).1 ≤ s.size := by
    intro l
    induction l with
    | nil => intro st h; exact h
    | cons c l ih => intro st h; exact ih _ (T _ _ _ (by omega) h)
  have S : ∀ st : Nat × Bool, st.1 ≤ s.size → (nmStep s st).1 ≤ s.size := by
    intro st h; unfold nmStep; split
    · exact T _ _ _ (by omega) h
    · exact h
  have N : ∀ st : Nat × Bool, st.1 ≤ s.size → (nmS s st).1 ≤ s.size := fun st h => S _ (S _ (S _ (T _ _ _ (by omega) h)))
  have M : ∀ st : Nat × Bool, st.1 ≤ s.size → (mdS s st).1 ≤ s.size := by
    intro st h; unfold mdS; split
    · exact W _ _ (W _ _ h)
    · exact W _ _ (W _ _ h)
  have D : ∀ st : Nat × Bool, st.1 ≤ s.size → (nbS s st).1 ≤ s.size := fun st h => T _ _ _ (by omega) h
  unfold itemS
  repeat' split
  · exact W _ _ (T _ _ _ (by omega) (W _ _ (N _ (W _ _ hp))))
  · exact W _ _ (N _ (W _ _ hp))
  · exact W _ _ (M _ (W _ _ (N _ (W _ _ (D _ (W _ _ (N _ (W _ _ hp))))))))
  · exact W _ _ (N _ (W _ _ (N _ (W _ _ hp))))
  · exact W _ _ (D _ (W _ _ (D _ (W _ _ (N _ (W _ _ (N _ (W _ _ hp))))))))
  · exact hp

theorem rdP_le (s : ByteArray) (n p : Nat) (hp : p ≤ s.size) (h : (rdP s n p).2 = false) : (rdP s n p).1 ≤ s.size := by
  induction n generalizing p with
  | zero => unfold rdP at h ⊢; split at h
            · simp_all
            · simp at h
  | succ n ih =>
    unfold rdP at h ⊢
    by_cases c : p < s.size
    · simp only [c, if_true] at h ⊢
      by_cases b : (itemS s (p, false)).2 = true
      · simp only [b, if_true] at h ⊢; exact itemS_le s p hp
      · simp only [b] at h ⊢
        exact ih _ (itemS_le s p hp) h
    · simp [c] at h

/-- What Check tells, by cases. -/
theorem chk_cases (s : ByteArray) :
    (400 < s.size ∧ chk s = (1, 0)) ∨ (¬ 400 < s.size ∧ ((chk s = (2, (rdP s 24 0).1) ∧ (rdP s 24 0).2 = false) ∨ ((rdP s 24 0).2 = true ∧
      ((∃ k, k < (itemsOf s).length ∧ chk s = (3, k)) ∨ (∃ k, k < (itemsOf s).length ∧ chk s = (4, k)) ∨ chk s = (0, 0))))) := by
  have e := rdAll_rdP s 24 0 []
  unfold chk
  by_cases h4 : 400 < s.size
  · exact Or.inl ⟨h4, by simp [h4]⟩
  · refine Or.inr ⟨h4, ?_⟩
    rw [if_neg h4, e]
    cases hb : (rdP s 24 0).2 with
    | false => exact Or.inl ⟨by simp, rfl⟩
    | true =>
      refine Or.inr ⟨rfl, ?_⟩
      simp only [Bool.true_eq_false, if_false]
      split
      · rename_i h; exact Or.inl ⟨_, h, rfl⟩
      · split
        · rename_i h; exact Or.inr (Or.inl ⟨_, h, rfl⟩)
        · exact Or.inr (Or.inr rfl)

theorem chk_form {s : ByteArray} (h4 : ¬ 400 < s.size) {m : Nat} (h : rdP s 24 0 = (m, false)) : chk s = (2, m) := by
  rcases chk_cases s with ⟨h, _⟩ | ⟨_, ⟨h1, _⟩ | ⟨h1, _⟩⟩
  · exact absurd h h4
  · rw [h1, h]
  · rw [h] at h1; simp at h1

theorem chk_formed {s : ByteArray} (h4 : ¬ 400 < s.size) (h : (rdP s 24 0).2 = true) : (chk s).1 ≠ 2 := by
  rcases chk_cases s with ⟨h, _⟩ | ⟨_, ⟨_, h1⟩ | ⟨_, ⟨k, _, h1⟩ | ⟨k, _, h1⟩ | h1⟩⟩
  · exact absurd h h4
  · rw [h] at h1; simp at h1
  · rw [h1]; simp
  · rw [h1]; simp
  · rw [h1]; simp

end Go.Proofs.Ytigpohommoogeaa
