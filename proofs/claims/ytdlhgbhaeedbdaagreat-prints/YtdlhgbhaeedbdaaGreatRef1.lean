/- The document's answer: 'form', 'small', 'part', 'reach', 'first', 'place'. -/
import Derived.Test.YtdlhgbhaeedbdaaGreatPureA
namespace Go.Proofs.YtdlhgbhaeedbdaaGreat
open Go.RowKit

/-- One sign of a form. -/
def stepB (s : ByteArray) (st : Nat × Bool) (c : UInt8) : Nat × Bool :=
  if c = 78 then nmS s st else if c = 77 then mdS s st else if c = 83 then tk s 49 57 st else if c = 68 then nbS s st else tk s (c.toNat : Int) (c.toNat : Int) st

theorem nmIter_stop {s : ByteArray} {q : Nat} (h : seesB s q 97 122 = false) (j : Nat) (b : Bool) : nmIter s j (q, b) = (q, b) := by
  induction j with
  | zero => rfl
  | succ j ih => show nmStep s (nmIter s j _) = _; rw [ih]; simp [nmStep, h]

theorem nmIter_comm (s : ByteArray) (k : Nat) (st : Nat × Bool) : nmIter s (k + 1) st = nmIter s k (nmStep s st) := by
  induction k with
  | zero => rfl
  | succ k ih => show nmStep s (nmIter s (k + 1) st) = nmStep s (nmIter s k (nmStep s st)); rw [ih]

theorem nmIter_count {s : ByteArray} (j : Nat) {q k : Nat} (hk : k ≤ j) (h : ∀ i, i < k → seesB s (q + i) 97 122 = true) (he : k = j ∨ seesB s (q + k) 97 122 = false) : nmIter s j (q, false) = (q + k, false) := by
  induction j generalizing q k with
  | zero => have : k = 0 := by omega
            subst this; rfl
  | succ j ih =>
    rw [nmIter_comm]
    match k with
    | 0 =>
      rcases he with he | he
      · omega
      · have : nmStep s (q, false) = (q, false) := by simp at he; simp [nmStep, he]
        rw [this]
        exact nmIter_stop (by simpa using he) j false
    | k + 1 =>
      have h0 : seesB s q 97 122 = true := by simpa using h 0 (by omega)
      have : nmStep s (q, false) = (q + 1, false) := by simp [nmStep, tk, h0]
      rw [this, ih (k := k) (by omega) (fun i hi => by rw [show q + 1 + i = q + (i + 1) from by omega]; exact h (i + 1) (by omega)) (by
        rcases he with he | he
        · exact Or.inl (by omega)
        · right; rw [show q + 1 + k = q + (k + 1) from by omega]; exact he)]
      rw [show q + 1 + k = q + (k + 1) from by omega]

theorem nm_count {s : ByteArray} {p k : Nat} (hk : k ≤ 4) (h : ∀ i, i < k → seesB s (p + i) 97 122 = true) (he : k = 4 ∨ seesB s (p + k) 97 122 = false) : nmS s (p, false) = (p + k, !decide (0 < k)) := by
  unfold nmS
  match k with
  | 0 =>
    rcases he with he | he
    · omega
    · have : tk s 97 122 (p, false) = (p, true) := by simp at he; simp [tk, he]
      rw [this, nmIter_bad]
      rfl
  | k + 1 =>
    have h0 : seesB s p 97 122 = true := by simpa using h 0 (by omega)
    have : tk s 97 122 (p, false) = (p + 1, false) := by simp [tk, h0]
    rw [this, nmIter_count 3 (k := k) (by omega) (fun i hi => by rw [show p + 1 + i = p + (i + 1) from by omega]; exact h (i + 1) (by omega)) (by
        rcases he with he | he
        · exact Or.inl (by omega)
        · right; rw [show p + 1 + k = p + (k + 1) from by omega]; exact he)]
    simp; omega

theorem bad_mdS (s : ByteArray) (p : Nat) : mdS s (p, true) = (p, true) := by
  unfold mdS
  rw [bad_wd, bad_wd, bad_wd]
  split <;> rfl

theorem tk_eq (s : ByteArray) (p : Nat) (c : Int) : tk s c c (p, false) = if byteAt s p = c then (p + 1, false) else (p, true) := by
  unfold tk seesB
  by_cases h : byteAt s p = c
  · simp [h]
  · rw [if_neg h, if_neg]
    simp only [Bool.not_false, Bool.true_and, Bool.and_eq_true, decide_eq_true_eq]
    omega
theorem wd_one (s : ByteArray) (c : UInt8) (p : Nat) : wd s [c] (p, false) = if byteAt s p = (c.toNat : Int) then (p + 1, false) else (p, true) := tk_eq s p _

/-- A mode, by its two bytes. -/
theorem md_r {s : ByteArray} {p : Nat} (h : byteAt s p ≠ 114) : mdS s (p, false) = (p, true) := by
  have h1 : wd s [114] (p, false) = (p, true) := by rw [wd_one, if_neg (by simpa using h)]
  unfold mdS
  rw [h1, bad_wd, bad_wd]
  split <;> rfl
theorem md_rx {s : ByteArray} {p : Nat} (h : byteAt s p = 114) (h2 : byteAt s (p + 1) ≠ 111) (h3 : byteAt s (p + 1) ≠ 119) : mdS s (p, false) = (p + 1, true) := by
  have h1 : wd s [114] (p, false) = (p + 1, false) := by rw [wd_one, if_pos (by simpa using h)]
  unfold mdS
  rw [h1]
  have e1 : seesB s (p + 1) 111 111 = false := by
    unfold seesB
    rw [← Bool.not_eq_true, Bool.and_eq_true, decide_eq_true_eq, decide_eq_true_eq]
    omega
  simp only [e1]
  show wd s [119] (p + 1, false) = _
  rw [wd_one, if_neg (by simpa using h3)]
theorem md_ro {s : ByteArray} {p : Nat} (h : byteAt s p = 114) (h2 : byteAt s (p + 1) = 111 ∨ byteAt s (p + 1) = 119) : mdS s (p, false) = (p + 2, false) := by
  obtain ⟨c, hc, hr⟩ := cons_of_byte h (by omega)
  have hc' : c = 114 := UInt8.toNat_inj.1 (by have : ((114 : UInt8).toNat : Int) = 114 := rfl; omega)
  rcases h2 with h2 | h2
  · obtain ⟨d, hd, hr2⟩ := cons_of_byte h2 (by omega)
    have hd' : d = 111 := UInt8.toNat_inj.1 (by have : ((111 : UInt8).toNat : Int) = 111 := rfl; omega)
    exact (md_gives (m := 0) (by rw [hr, hr2, hc', hd']; rfl)).1
  · obtain ⟨d, hd, hr2⟩ := cons_of_byte h2 (by omega)
    have hd' : d = 119 := UInt8.toNat_inj.1 (by have : ((119 : UInt8).toNat : Int) = 119 := rfl; omega)
    exact (md_gives (m := 1) (by rw [hr, hr2, hc', hd']; rfl)).1

/-- The forms of the kinds. -/
def formL (kind : Nat) : List UInt8 :=
  if kind = 0 then [100, 105, 115, 107, 32, 78, 32, 83, 59] else if kind = 1 then [116, 97, 114, 103, 101, 116, 32, 78, 59] else if kind = 2 then [108, 117, 110, 32, 78, 32, 68, 32, 78, 32, 77, 59]
  else if kind = 3 then [104, 111, 115, 116, 32, 78, 32, 78, 59] else [109, 97, 112, 32, 78, 32, 78, 32, 68, 32, 68, 59]

def reachS (s : ByteArray) (kind p : Nat) : Nat × Bool := (formL kind).foldl (stepB s) (p, false)

theorem reach0 (s : ByteArray) (p : Nat) : reachS s 0 p = diskS5 s (p, false) := by
  simp [reachS, formL, stepB, wd, diskS1, diskS2, diskS3, diskS4, diskS5]
theorem reach1 (s : ByteArray) (p : Nat) : reachS s 1 p = targetS3 s (p, false) := by
  simp [reachS, formL, stepB, wd, targetS1, targetS2, targetS3]
theorem reach2 (s : ByteArray) (p : Nat) : reachS s 2 p = lunS9 s (p, false) := by
  simp [reachS, formL, stepB, wd, lunS1, lunS2, lunS3, lunS4, lunS5, lunS6, lunS7, lunS8, lunS9]
theorem reach3 (s : ByteArray) (p : Nat) : reachS s 3 p = hostS5 s (p, false) := by
  simp [reachS, formL, stepB, wd, hostS1, hostS2, hostS3, hostS4, hostS5]
theorem reach4 (s : ByteArray) (p : Nat) : reachS s 4 p = mapsS9 s (p, false) := by
  simp [reachS, formL, stepB, wd, mapsS1, mapsS2, mapsS3, mapsS4, mapsS5, mapsS6, mapsS7, mapsS8, mapsS9]

theorem bad_nmS (s : ByteArray) (p : Nat) : nmS s (p, true) = (p, true) := by
  unfold nmS
  rw [show tk s 97 122 (p, true) = (p, true) from by simp [tk], nmIter_bad]
theorem bad_stepB (s : ByteArray) (p : Nat) (c : UInt8) : stepB s (p, true) c = (p, true) := by
  unfold stepB
  split
  · exact bad_nmS s p
  · split
    · exact bad_mdS s p
    · split
      · simp [tk]
      · split
        · simp [nbS, tk]
        · simp [tk]
theorem bad_foldl (s : ByteArray) (p : Nat) (l : List UInt8) : l.foldl (stepB s) (p, true) = (p, true) := by
  induction l with
  | nil => rfl
  | cons c l ih => rw [List.foldl_cons, bad_stepB]; exact ih
theorem stepB_mono (s : ByteArray) (st : Nat × Bool) (c : UInt8) : st.1 ≤ (stepB s st c).1 := by
  unfold stepB
  split
  · exact nmS_mono _ _
  · split
    · exact mdS_mono _ _
    · split
      · exact tk_mono _ _ _ _
      · split
        · exact tk_mono _ _ _ _
        · exact tk_mono _ _ _ _
theorem stepB_le (s : ByteArray) (st : Nat × Bool) (c : UInt8) (h : st.1 ≤ s.size) : (stepB s st c).1 ≤ s.size := by
  have T : ∀ (lo hi : Int) (st : Nat × Bool), 0 ≤ lo → st.1 ≤ s.size → (tk s lo hi st).1 ≤ s.size := fun lo hi st h0 h => tk_le h0 h
  have S : ∀ st : Nat × Bool, st.1 ≤ s.size → (nmStep s st).1 ≤ s.size := by
    intro st h; unfold nmStep; split
    · exact T _ _ _ (by omega) h
    · exact h
  have W : ∀ (d : UInt8) (st : Nat × Bool), st.1 ≤ s.size → (wd s [d] st).1 ≤ s.size := fun d st h => T _ _ _ (by omega) h
  unfold stepB
  split
  · exact S _ (S _ (S _ (T _ _ _ (by omega) h)))
  · split
    · unfold mdS; split
      · exact W _ _ (W _ _ h)
      · exact W _ _ (W _ _ h)
    · split
      · exact T _ _ _ (by omega) h
      · split
        · exact T _ _ _ (by omega) h
        · exact T _ _ _ (by omega) h
theorem foldl_mono (s : ByteArray) (l : List UInt8) (st : Nat × Bool) : st.1 ≤ (l.foldl (stepB s) st).1 := by
  induction l generalizing st with
  | nil => exact Nat.le_refl _
  | cons c l ih => exact Nat.le_trans (stepB_mono s st c) (ih _)
theorem foldl_le (s : ByteArray) (l : List UInt8) (st : Nat × Bool) (h : st.1 ≤ s.size) : (l.foldl (stepB s) st).1 ≤ s.size := by
  induction l generalizing st with
  | nil => exact h
  | cons c l ih => exact ih _ (stepB_le s st c h)

/-- The kind that a byte begins. -/
def kindOf (c : Int) : Option Nat := if c = 100 then some 0 else if c = 116 then some 1 else if c = 108 then some 2 else if c = 104 then some 3 else if c = 109 then some 4 else none

theorem reach_not {s : ByteArray} {p k : Nat} (hk : k ≤ 4) (h : kindOf (byteAt s p) ≠ some k) : reachS s k p = (p, true) := by
  have key : ∀ (c : UInt8) (l : List UInt8), c ≠ 78 → c ≠ 77 → c ≠ 83 → c ≠ 68 → byteAt s p ≠ (c.toNat : Int) → (c :: l).foldl (stepB s) (p, false) = (p, true) := by
    intro c l h1 h2 h3 h4 h5
    rw [List.foldl_cons]
    have : stepB s (p, false) c = (p, true) := by
      unfold stepB
      rw [if_neg h1, if_neg h2, if_neg h3, if_neg h4]
      rw [tk_eq, if_neg h5]
    rw [this]
    exact bad_foldl s p l
  have hk' : k = 0 ∨ k = 1 ∨ k = 2 ∨ k = 3 ∨ k = 4 := by omega
  rcases hk' with rfl | rfl | rfl | rfl | rfl
  · exact key 100 _ (by decide) (by decide) (by decide) (by decide) (fun e => h (by rw [e]; rfl))
  · exact key 116 _ (by decide) (by decide) (by decide) (by decide) (fun e => h (by rw [e]; rfl))
  · exact key 108 _ (by decide) (by decide) (by decide) (by decide) (fun e => h (by rw [e]; rfl))
  · exact key 104 _ (by decide) (by decide) (by decide) (by decide) (fun e => h (by rw [e]; rfl))
  · exact key 109 _ (by decide) (by decide) (by decide) (by decide) (fun e => h (by rw [e]; rfl))

theorem itemS_reach (s : ByteArray) (p : Nat) : itemS s (p, false) = match kindOf (byteAt s p) with | some k => reachS s k p | none => (p, true) := by
  unfold itemS kindOf
  simp only
  by_cases h1 : byteAt s p = 100
  · rw [if_pos h1, if_pos h1]; exact (reach0 s p).symm
  rw [if_neg h1, if_neg h1]
  by_cases h2 : byteAt s p = 116
  · rw [if_pos h2, if_pos h2]; exact (reach1 s p).symm
  rw [if_neg h2, if_neg h2]
  by_cases h3 : byteAt s p = 108
  · rw [if_pos h3, if_pos h3]; exact (reach2 s p).symm
  rw [if_neg h3, if_neg h3]
  by_cases h4 : byteAt s p = 104
  · rw [if_pos h4, if_pos h4]; exact (reach3 s p).symm
  rw [if_neg h4, if_neg h4]
  by_cases h5 : byteAt s p = 109
  · rw [if_pos h5, if_pos h5]; exact (reach4 s p).symm
  rw [if_neg h5, if_neg h5]

/-- What 'first' has behind its first k kinds: an item, or how far. -/
def farTo (s : ByteArray) (p : Nat) : Nat → Nat
  | 0 => p
  | k + 1 => if farTo s p k < (reachS s k p).1 then (reachS s k p).1 else farTo s p k

theorem farTo_val {s : ByteArray} {p j : Nat} (n : ∀ k, k ≤ 4 → k ≠ j → reachS s k p = (p, true)) (hm : p ≤ (reachS s j p).1) (k : Nat) (hk : k ≤ 5) : farTo s p k = if j < k then (reachS s j p).1 else p := by
  induction k with
  | zero => simp [farTo]
  | succ k ih =>
    have ih := ih (by omega)
    simp only [farTo]
    by_cases e : k = j
    · subst e
      rw [ih, if_neg (Nat.lt_irrefl _), if_pos (Nat.lt_succ_self _)]
      split <;> omega
    · rw [n k (by omega) e, ih]
      by_cases c : j < k
      · have c1 : j < k + 1 := by omega
        simp only [c, c1, if_true]
        rw [if_neg (by omega)]
      · have c1 : ¬ j < k + 1 := by omega
        simp only [c, c1, if_false]
        rw [if_neg (by omega)]

theorem farTo_item {s : ByteArray} {p : Nat} (h : ∀ k, k ≤ 4 → (reachS s k p).2 = true) : itemS s (p, false) = (farTo s p 5, true) := by
  have hr := itemS_reach s p
  cases e : kindOf (byteAt s p) with
  | none =>
    rw [e] at hr
    have n : ∀ k, k ≤ 4 → reachS s k p = (p, true) := fun k hk => reach_not hk (by rw [e]; simp)
    rw [hr]
    simp [farTo, n 0 (by omega), n 1 (by omega), n 2 (by omega), n 3 (by omega), n 4 (by omega)]
  | some j =>
    rw [e] at hr
    have n : ∀ k, k ≤ 4 → k ≠ j → reachS s k p = (p, true) := fun k hk hkj => reach_not hk (by rw [e]; simp; omega)
    have hj : j ≤ 4 := by
      unfold kindOf at e
      repeat' split at e
      all_goals first | (simp at e; omega) | simp at e
    have hm : p ≤ (reachS s j p).1 := foldl_mono s _ (p, false)
    have hb := h j hj
    have hval : farTo s p 5 = (reachS s j p).1 := by
      rw [farTo_val n hm 5 (by omega), if_pos (by omega)]
    rw [hr, hval]
    exact Prod.ext rfl hb

theorem reach_item {s : ByteArray} {p k : Nat} (hk : k ≤ 4) (h : (reachS s k p).2 = false) : itemS s (p, false) = reachS s k p := by
  have hr := itemS_reach s p
  by_cases e : kindOf (byteAt s p) = some k
  · rw [e] at hr; exact hr
  · rw [reach_not hk e] at h; simp at h

end Go.Proofs.YtdlhgbhaeedbdaaGreat
