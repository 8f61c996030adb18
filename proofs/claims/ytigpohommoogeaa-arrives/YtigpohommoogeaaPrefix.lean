/- What Check tells of a text's beginnings: plain mathematics of the reader. -/
import Derived.Test.YtigpohommoogeaaPrint2
namespace Go.Proofs.Ytigpohommoogeaa
open Go.RowKit

/-- t is s up to m. -/
structure Cut (s t : ByteArray) (m : Nat) : Prop where
  size : t.size = m
  le : m ≤ s.size
  same : ∀ p, p < m → byteAt t p = byteAt s p

theorem Cut.beyond {s t : ByteArray} {m : Nat} (h : Cut s t m) {p : Nat} (hp : m ≤ p) : byteAt t p = -1 := byteAt_out (by rw [h.size]; omega)

theorem cut_extract (s : ByteArray) (m : Nat) (h : m ≤ s.size) : Cut s (s.extract 0 m) m := by
  have hz : (s.extract 0 m).size = m := by simp; omega
  refine ⟨hz, h, fun p hp => ?_⟩
  rw [byteAt_in (by rw [hz]; exact hp), byteAt_in (by omega)]
  simp [ByteArray.getElem_extract]

/-- As far as m the two runs are one; beyond it the shorter one stands at m. -/
def Rw (m : Nat) (st st' : Nat × Bool) : Prop := (st.1 ≤ m ∧ st' = st) ∨ (m < st.1 ∧ st'.1 = m)
/-- .. and is bad there. -/
def Rs (m : Nat) (st st' : Nat × Bool) : Prop := (st.1 ≤ m ∧ st' = st) ∨ (m < st.1 ∧ st' = (m, true))

theorem Rs.weak {m : Nat} {st st' : Nat × Bool} (h : Rs m st st') : Rw m st st' := by
  rcases h with h | ⟨h, rfl⟩
  · exact Or.inl h
  · exact Or.inr ⟨h, rfl⟩

theorem sees_cut {s t : ByteArray} {m : Nat} (h : Cut s t m) {p : Nat} {lo hi : Int} (h0 : 0 ≤ lo) (hp : m ≤ p) : seesB t p lo hi = false := by
  simp [seesB, h.beyond hp]; omega
theorem sees_same {s t : ByteArray} {m : Nat} (h : Cut s t m) {p : Nat} {lo hi : Int} (hp : p < m) : seesB t p lo hi = seesB s p lo hi := by simp [seesB, h.same p hp]

theorem tk_end {s t : ByteArray} {m : Nat} (h : Cut s t m) {lo hi : Int} (h0 : 0 ≤ lo) {st : Nat × Bool} (he : st.1 = m) : tk t lo hi st = (m, true) := by
  unfold tk
  rw [he, sees_cut h h0 (Nat.le_refl m)]
  simp

theorem tk_cut {s t : ByteArray} {m : Nat} (h : Cut s t m) {lo hi : Int} (h0 : 0 ≤ lo) {st st' : Nat × Bool} (hr : Rw m st st') : Rs m (tk s lo hi st) (tk t lo hi st') := by
  rcases hr with ⟨hle, rfl⟩ | ⟨hlt, he⟩
  · by_cases hp : st'.1 < m
    · have : tk t lo hi st' = tk s lo hi st' := by simp [tk, sees_same h hp]
      rw [this]
      refine Or.inl ⟨?_, rfl⟩
      unfold tk; split
      · simp; omega
      · exact hle
    · have hm : st'.1 = m := by omega
      have ht : tk t lo hi st' = (m, true) := tk_end h h0 hm
      rw [ht]
      unfold tk; split
      · exact Or.inr ⟨by simp; omega, rfl⟩
      · exact Or.inl ⟨by simp; omega, by simp [hm]⟩
  · have ht : tk t lo hi st' = (m, true) := tk_end h h0 he
    rw [ht]
    exact Or.inr ⟨Nat.lt_of_lt_of_le hlt (tk_mono _ _ _ _), rfl⟩

theorem wd_cut {s t : ByteArray} {m : Nat} (h : Cut s t m) (c : UInt8) (l : List UInt8) {st st' : Nat × Bool} (hr : Rw m st st') : Rs m (wd s (c :: l) st) (wd t (c :: l) st') := by
  induction l generalizing c st st' with
  | nil => exact tk_cut h (by omega) hr
  | cons d l ih => exact ih d (tk_cut h (by omega) hr).weak

theorem nmStep_cut {s t : ByteArray} {m : Nat} (h : Cut s t m) {st st' : Nat × Bool} (hr : Rw m st st') : Rw m (nmStep s st) (nmStep t st') := by
  rcases hr with ⟨hle, rfl⟩ | ⟨hlt, he⟩
  · by_cases hp : st'.1 < m
    · unfold nmStep
      rw [sees_same h hp]
      split
      · exact (tk_cut h (by omega) (Or.inl ⟨hle, rfl⟩)).weak
      · exact Or.inl ⟨hle, rfl⟩
    · have hm : st'.1 = m := by omega
      have ht : nmStep t st' = st' := by simp [nmStep, sees_cut h (show (0 : Int) ≤ 97 by omega) (p := st'.1) (by omega)]
      rw [ht]
      unfold nmStep; split
      · rename_i hs
        unfold tk
        split
        · exact Or.inr ⟨by simp; omega, hm⟩
        · rename_i hb
          simp [hs] at hb
          exact Or.inl ⟨by simp; omega, by rw [← hb]⟩
      · exact Or.inl ⟨hle, rfl⟩
  · have ht : nmStep t st' = st' := by simp [nmStep, sees_cut h (show (0 : Int) ≤ 97 by omega) (p := st'.1) (by omega)]
    rw [ht]
    exact Or.inr ⟨Nat.lt_of_lt_of_le hlt (nmStep_mono _ _), he⟩

theorem nmIter_cut {s t : ByteArray} {m : Nat} (h : Cut s t m) (k : Nat) {st st' : Nat × Bool} (hr : Rw m st st') : Rw m (nmIter s k st) (nmIter t k st') := by
  induction k with
  | zero => exact hr
  | succ k ih => exact nmStep_cut h ih

theorem nmS_cut {s t : ByteArray} {m : Nat} (h : Cut s t m) {st st' : Nat × Bool} (hr : Rw m st st') : Rw m (nmS s st) (nmS t st') :=
  nmIter_cut h 3 (tk_cut h (by omega) hr).weak

theorem bad_wd {s : ByteArray} (l : List UInt8) (p : Nat) : wd s l (p, true) = (p, true) := by
  induction l with
  | nil => rfl
  | cons c l ih => show wd s l (tk s _ _ (p, true)) = _; rw [show tk s (c.toNat : Int) (c.toNat : Int) (p, true) = (p, true) from by simp [tk]]; exact ih

theorem mdS_cut {s t : ByteArray} {m : Nat} (h : Cut s t m) {st st' : Nat × Bool} (hr : Rw m st st') : Rs m (mdS s st) (mdS t st') := by
  have h1 : Rs m (wd s [114] st) (wd t [114] st') := wd_cut h 114 [] hr
  unfold mdS
  rcases h1 with ⟨hle, he⟩ | ⟨hlt, he⟩
  · rw [he]
    by_cases hp : (wd s [114] st).1 < m
    · rw [sees_same h hp]
      split
      · exact wd_cut h 111 [] (Or.inl ⟨hle, rfl⟩)
      · exact wd_cut h 119 [] (Or.inl ⟨hle, rfl⟩)
    · have hm : (wd s [114] st).1 = m := by omega
      rw [sees_cut h (show (0 : Int) ≤ 111 by omega) (p := (wd s [114] st).1) (by omega)]
      simp only [Bool.false_eq_true, if_false]
      split
      · rename_i hs
        have ht : wd t [119] (wd s [114] st) = (m, true) := by
          exact tk_end h (by omega) hm
        rw [ht]
        show Rs m (tk s _ _ _) _
        unfold tk
        split
        · exact Or.inr ⟨by simp; omega, rfl⟩
        · exact Or.inl ⟨by simp; omega, by simp [hm]⟩
      · exact wd_cut h 119 [] (Or.inl ⟨hle, rfl⟩)
  · rw [he]
    have e1 : wd t [111] (m, true) = (m, true) := bad_wd _ _
    have e2 : wd t [119] (m, true) = (m, true) := bad_wd _ _
    rw [e1, e2]
    have : (if seesB t (m, true).1 111 111 = true then ((m, true) : Nat × Bool) else (m, true)) = (m, true) := by split <;> rfl
    rw [this]
    split <;> exact Or.inr ⟨Nat.lt_of_lt_of_le hlt (wd_mono _ _ _), rfl⟩

theorem itemS_cut {s t : ByteArray} {m : Nat} (h : Cut s t m) {p : Nat} (hp : p < m) : Rs m (itemS s (p, false)) (itemS t (p, false)) := by
  unfold itemS
  simp only
  rw [h.same p hp]
  have r0 : Rw m (p, false) (p, false) := Or.inl ⟨by simp; omega, rfl⟩
  have W : ∀ (c : UInt8) (l : List UInt8) {st st' : Nat × Bool}, Rw m st st' → Rs m (wd s (c :: l) st) (wd t (c :: l) st') := fun c l _ _ hr => wd_cut h c l hr
  have N : ∀ {st st' : Nat × Bool}, Rw m st st' → Rw m (nmS s st) (nmS t st') := fun hr => nmS_cut h hr
  have M : ∀ {st st' : Nat × Bool}, Rw m st st' → Rs m (mdS s st) (mdS t st') := fun hr => mdS_cut h hr
  have D : ∀ {st st' : Nat × Bool}, Rw m st st' → Rs m (nbS s st) (nbS t st') := fun hr => tk_cut h (by omega) hr
  have T : ∀ {st st' : Nat × Bool}, Rw m st st' → Rs m (tk s 49 57 st) (tk t 49 57 st') := fun hr => tk_cut h (by omega) hr
  repeat' split
  · exact W _ _ (T (W _ _ (N (W _ _ r0).weak)).weak).weak
  · exact W _ _ (N (W _ _ r0).weak)
  · exact W _ _ (M (W _ _ (N (W _ _ (D (W _ _ (N (W _ _ r0).weak)).weak).weak).weak)).weak).weak
  · exact W _ _ (N (W _ _ (N (W _ _ r0).weak)).weak)
  · exact W _ _ (D (W _ _ (D (W _ _ (N (W _ _ (N (W _ _ r0).weak)).weak)).weak).weak).weak).weak
  · exact Or.inl ⟨by simp; omega, rfl⟩

/-- The place, and whether the text has its form: the items apart. -/
def rdP (s : ByteArray) : Nat → Nat → Nat × Bool
  | 0, p => if p < s.size then (p, false) else (0, true)
  | n + 1, p => if p < s.size then (if (itemS s (p, false)).2 then ((itemS s (p, false)).1, false) else rdP s n (itemS s (p, false)).1) else (0, true)

theorem rdAll_rdP (s : ByteArray) (n p : Nat) (acc : List Item) : (rdAll s n p acc).2 = rdP s n p := by
  induction n generalizing p acc with
  | zero => unfold rdAll rdP; split <;> rfl
  | succ n ih => unfold rdAll rdP; split
                 · split
                   · rfl
                   · exact ih _ _
                 · rfl

theorem rdP_ge (s : ByteArray) (n p : Nat) (h : (rdP s n p).2 = false) : p ≤ (rdP s n p).1 := by
  induction n generalizing p with
  | zero => unfold rdP at h ⊢; split at h <;> simp_all
  | succ n ih =>
    unfold rdP at h ⊢
    by_cases c : p < s.size
    · simp only [c, if_true] at h ⊢
      by_cases b : (itemS s (p, false)).2 = true
      · simp only [b, if_true] at h ⊢; exact itemS_mono s (p, false)
      · simp only [b] at h ⊢
        exact Nat.le_trans (itemS_mono s (p, false)) (ih _ h)
    · simp [c] at h

/-- Cut at the place itself: it has its form, or ends too early just there. -/
theorem rdP_at {s t : ByteArray} {m : Nat} (h : Cut s t m) (n p : Nat) (hf : rdP s n p = (m, false)) : (rdP t n p).2 = true ∨ rdP t n p = (m, false) := by
  induction n generalizing p with
  | zero =>
    unfold rdP at hf ⊢
    rw [h.size]
    split at hf
    · simp at hf; subst hf; simp
    · simp at hf
  | succ n ih =>
    have hge := rdP_ge s (n + 1) p (by rw [hf])
    rw [hf] at hge
    simp only at hge
    unfold rdP at hf ⊢
    rw [h.size]
    by_cases hp : p < m
    · have hps : p < s.size := by have := h.le; omega
      simp only [hps, if_true, hp] at hf ⊢
      by_cases hb : (itemS s (p, false)).2 = true
      · simp only [hb, if_true, Prod.mk.injEq, and_true] at hf
        rcases itemS_cut h hp with ⟨_, he⟩ | ⟨hl, _⟩
        · rw [he]; simp [hb, hf]
        · omega
      · simp only [hb] at hf
        have hle := rdP_ge s n _ (by rw [show rdP s n (itemS s (p, false)).1 = (m, false) from hf])
        rw [show rdP s n (itemS s (p, false)).1 = (m, false) from hf] at hle
        rcases itemS_cut h hp with ⟨_, he⟩ | ⟨hl, _⟩
        · rw [he]; simp only [hb]; exact ih _ hf
        · simp at hle; omega
    · simp [hp]

/-- Cut behind the byte at the place: it cannot stand there. -/
theorem rdP_behind {s t : ByteArray} {m : Nat} (h : Cut s t (m + 1)) (n p : Nat) (hf : rdP s n p = (m, false)) : rdP t n p = (m, false) := by
  induction n generalizing p with
  | zero =>
    unfold rdP at hf ⊢
    rw [h.size]
    split at hf
    · simp at hf; subst hf; simp
    · simp at hf
  | succ n ih =>
    have hge := rdP_ge s (n + 1) p (by rw [hf])
    rw [hf] at hge
    simp only at hge
    unfold rdP at hf ⊢
    rw [h.size]
    have hp : p < m + 1 := by omega
    have hps : p < s.size := by have := h.le; omega
    simp only [hps, if_true, hp] at hf ⊢
    by_cases hb : (itemS s (p, false)).2 = true
    · simp only [hb, if_true, Prod.mk.injEq, and_true] at hf
      rcases itemS_cut h hp with ⟨_, he⟩ | ⟨hl, _⟩
      · rw [he]; simp [hb, hf]
      · omega
    · simp only [hb] at hf
      have hle := rdP_ge s n _ (by rw [show rdP s n (itemS s (p, false)).1 = (m, false) from hf])
      rw [show rdP s n (itemS s (p, false)).1 = (m, false) from hf] at hle
      rcases itemS_cut h hp with ⟨_, he⟩ | ⟨hl, _⟩
      · rw [he]; simp only [hb]; exact ih _ hf
      · simp at hle; omega

end Go.Proofs.Ytigpohommoogeaa
