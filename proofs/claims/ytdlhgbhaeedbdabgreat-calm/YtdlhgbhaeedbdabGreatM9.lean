/- Prefix, Chk, It, It2, It3, It4, Lex, Ord. -/
import Derived.Test.YtdlhgbhaeedbdabGreatM5
/- What Check tells of a text's beginnings: plain mathematics of the reader. -/
namespace Go.Proofs.YtdlhgbhaeedbdabGreat
open Go.RowKit

/-- t is s up to m. -/
structure Cut (s t : ByteArray) (m : Nat) : Prop where
  size : t.size = m
  le : m ≤ s.size
  same : ∀ p, p < m → byteAt t p = byteAt s p

theorem Cut.beyond {s t : ByteArray} {m : Nat} (h : Cut s t m) {p : Nat} (hp : m ≤ p) : byteAt t p = -1 := byteAt_out (by rw [h.size]; omega)

theorem cut_extract (s : ByteArray) (m : Nat) (h : m ≤ s.size) : Cut s (s.extract 0 m) m := by
  have hz : (s.extract 0 m).size = m := by simp; omega
  refine ⟨hz, h, fun p hp => ?_⟩
  rw [byteAt_in (by rw [hz]; exact hp), byteAt_in (by omega)]
  simp [ByteArray.getElem_extract]

/-- As far as m the two runs are one; beyond it the shorter one stands at m. -/
def Rw (m : Nat) (st st' : Nat × Bool) : Prop := (st.1 ≤ m ∧ st' = st) ∨ (m < st.1 ∧ st'.1 = m)
/-- .. and is bad there. -/
def Rs (m : Nat) (st st' : Nat × Bool) : Prop := (st.1 ≤ m ∧ st' = st) ∨ (m < st.1 ∧ st' = (m, true))

theorem Rs.weak {m : Nat} {st st' : Nat × Bool} (h : Rs m st st') : Rw m st st' := by
  rcases h with h | ⟨h, rfl⟩
  · exact Or.inl h
  · exact Or.inr ⟨h, rfl⟩

theorem sees_cut {s t : ByteArray} {m : Nat} (h : Cut s t m) {p : Nat} {lo hi : Int} (h0 : 0 ≤ lo) (hp : m ≤ p) : seesB t p lo hi = false := by
  simp [seesB, h.beyond hp]; omega
theorem sees_same {s t : ByteArray} {m : Nat} (h : Cut s t m) {p : Nat} {lo hi : Int} (hp : p < m) : seesB t p lo hi = seesB s p lo hi := by simp [seesB, h.same p hp]

theorem tk_end {s t : ByteArray} {m : Nat} (h : Cut s t m) {lo hi : Int} (h0 : 0 ≤ lo) {st : Nat × Bool} (he : st.1 = m) : tk t lo hi st = (m, true) := by
  unfold tk
  rw [he, sees_cut h h0 (Nat.le_refl m)]
  simp

theorem tk_cut {s t : ByteArray} {m : Nat} (h : Cut s t m) {lo hi : Int} (h0 : 0 ≤ lo) {st st' : Nat × Bool} (hr : Rw m st st') : Rs m (tk s lo hi st) (tk t lo hi st') := by
  rcases hr with ⟨hle, rfl⟩ | ⟨hlt, he⟩
  · by_cases hp : st'.1 < m
    · have : tk t lo hi st' = tk s lo hi st' := by simp [tk, sees_same h hp]
      rw [this]
      refine Or.inl ⟨?_, rfl⟩
      unfold tk; split
      · simp; omega
      · exact hle
    · have hm : st'.1 = m := by omega
      have ht : tk t lo hi st' = (m, true) := tk_end h h0 hm
      rw [ht]
      unfold tk; split
      · exact Or.inr ⟨by simp; omega, rfl⟩
      · exact Or.inl ⟨by simp; omega, by simp [hm]⟩
  · have ht : tk t lo hi st' = (m, true) := tk_end h h0 he
    rw [ht]
    exact Or.inr ⟨Nat.lt_of_lt_of_le hlt (tk_mono _ _ _ _), rfl⟩

theorem wd_cut {s t : ByteArray} {m : Nat} (h : Cut s t m) (c : UInt8) (l : List UInt8) {st st' : Nat × Bool} (hr : Rw m st st') : Rs m (wd s (c :: l) st) (wd t (c :: l) st') := by
  induction l generalizing c st st' with
  | nil => exact tk_cut h (by omega) hr
  | cons d l ih => exact ih d (tk_cut h (by omega) hr).weak

theorem nmStep_cut {s t : ByteArray} {m : Nat} (h : Cut s t m) {st st' : Nat × Bool} (hr : Rw m st st') : Rw m (nmStep s st) (nmStep t st') := by
  rcases hr with ⟨hle, rfl⟩ | ⟨hlt, he⟩
  · by_cases hp : st'.1 < m
    · unfold nmStep
      rw [sees_same h hp]
      split
      · exact (tk_cut h (by omega) (Or.inl ⟨hle, rfl⟩)).weak
      · exact Or.inl ⟨hle, rfl⟩
    · have hm : st'.1 = m := by omega
      have ht : nmStep t st' = st' := by simp [nmStep, sees_cut h (show (0 : Int) ≤ 97 by omega) (p := st'.1) (by omega)]
      rw [ht]
      unfold nmStep; split
      · rename_i hs
        unfold tk
        split
        · exact Or.inr ⟨by simp; omega, hm⟩
        · rename_i hb
          simp [hs] at hb
          exact Or.inl ⟨by simp; omega, by rw [← hb]⟩
      · exact Or.inl ⟨hle, rfl⟩
  · have ht : nmStep t st' = st' := by simp [nmStep, sees_cut h (show (0 : Int) ≤ 97 by omega) (p := st'.1) (by omega)]
    rw [ht]
    exact Or.inr ⟨Nat.lt_of_lt_of_le hlt (nmStep_mono _ _), he⟩

theorem nmIter_cut {s t : ByteArray} {m : Nat} (h : Cut s t m) (k : Nat) {st st' : Nat × Bool} (hr : Rw m st st') : Rw m (nmIter s k st) (nmIter t k st') := by
  induction k with
  | zero => exact hr
  | succ k ih => exact nmStep_cut h ih

theorem nmS_cut {s t : ByteArray} {m : Nat} (h : Cut s t m) {st st' : Nat × Bool} (hr : Rw m st st') : Rw m (nmS s st) (nmS t st') :=
  nmIter_cut h 3 (tk_cut h (by omega) hr).weak

theorem bad_wd {s : ByteArray} (l : List UInt8) (p : Nat) : wd s l (p, true) = (p, true) := by
  induction l with
  | nil => rfl
  | cons c l ih => show wd s l (tk s _ _ (p, true)) = _; rw [show tk s (c.toNat : Int) (c.toNat : Int) (p, true) = (p, true) from by simp [tk]]; exact ih

theorem mdS_cut {s t : ByteArray} {m : Nat} (h : Cut s t m) {st st' : Nat × Bool} (hr : Rw m st st') : Rs m (mdS s st) (mdS t st') := by
  have h1 : Rs m (wd s [114] st) (wd t [114] st') := wd_cut h 114 [] hr
  unfold mdS
  rcases h1 with ⟨hle, he⟩ | ⟨hlt, he⟩
  · rw [he]
    by_cases hp : (wd s [114] st).1 < m
    · rw [sees_same h hp]
      split
      · exact wd_cut h 111 [] (Or.inl ⟨hle, rfl⟩)
      · exact wd_cut h 119 [] (Or.inl ⟨hle, rfl⟩)
    · have hm : (wd s [114] st).1 = m := by omega
      rw [sees_cut h (show (0 : Int) ≤ 111 by omega) (p := (wd s [114] st).1) (by omega)]
      simp only [Bool.false_eq_true, if_false]
      split
      · rename_i hs
        have ht : wd t [119] (wd s [114] st) = (m, true) := by
          exact tk_end h (by omega) hm
        rw [ht]
        show Rs m (tk s _ _ _) _
        unfold tk
        split
        · exact Or.inr ⟨by simp; omega, rfl⟩
        · exact Or.inl ⟨by simp; omega, by simp [hm]⟩
      · exact wd_cut h 119 [] (Or.inl ⟨hle, rfl⟩)
  · rw [he]
    have e1 : wd t [111] (m, true) = (m, true) := bad_wd _ _
    have e2 : wd t [119] (m, true) = (m, true) := bad_wd _ _
    rw [e1, e2]
    have : (if seesB t (m, true).1 111 111 = true then ((m, true) : Nat × Bool) else (m, true)) = (m, true) := by split <;> rfl
    rw [this]
    split <;> exact Or.inr ⟨Nat.lt_of_lt_of_le hlt (wd_mono _ _ _), rfl⟩

theorem itemS_cut {s t : ByteArray} {m : Nat} (h : Cut s t m) {p : Nat} (hp : p < m) : Rs m (itemS s (p, false)) (itemS t (p, false)) := by
  unfold itemS
  simp only
  rw [h.same p hp]
  have r0 : Rw m (p, false) (p, false) := Or.inl ⟨by simp; omega, rfl⟩
  have W : ∀ (c : UInt8) (l : List UInt8) {st st' : Nat × Bool}, Rw m st st' → Rs m (wd s (c :: l) st) (wd t (c :: l) st') := fun c l _ _ hr => wd_cut h c l hr
  have N : ∀ {st st' : Nat × Bool}, Rw m st st' → Rw m (nmS s st) (nmS t st') := fun hr => nmS_cut h hr
  have M : ∀ {st st' : Nat × Bool}, Rw m st st' → Rs m (mdS s st) (mdS t st') := fun hr => mdS_cut h hr
  have D : ∀ {st st' : Nat × Bool}, Rw m st st' → Rs m (nbS s st) (nbS t st') := fun hr => tk_cut h (by omega) hr
  have T : ∀ {st st' : Nat × Bool}, Rw m st st' → Rs m (tk s 49 57 st) (tk t 49 57 st') := fun hr => tk_cut h (by omega) hr
  repeat' split
  · exact W _ _ (T (W _ _ (N (W _ _ r0).weak)).weak).weak
  · exact W _ _ (N (W _ _ r0).weak)
  · exact W _ _ (M (W _ _ (N (W _ _ (D (W _ _ (N (W _ _ r0).weak)).weak).weak).weak)).weak).weak
  · exact W _ _ (N (W _ _ (N (W _ _ r0).weak)).weak)
  · exact W _ _ (D (W _ _ (D (W _ _ (N (W _ _ (N (W _ _ r0).weak)).weak)).weak).weak).weak).weak
  · exact Or.inl ⟨by simp; omega, rfl⟩

/-- The place, and whether the text has its form: the items apart. -/
def rdP (s : ByteArray) : Nat → Nat → Nat × Bool
  | 0, p => if p < s.size then (p, false) else (0, true)
  | n + 1, p => if p < s.size then (if (itemS s (p, false)).2 then ((itemS s (p, false)).1, false) else rdP s n (itemS s (p, false)).1) else (0, true)

theorem rdAll_rdP (s : ByteArray) (n p : Nat) (acc : List Item) : (rdAll s n p acc).2 = rdP s n p := by
  induction n generalizing p acc with
  | zero => unfold rdAll rdP; split <;> rfl
  | succ n ih => unfold rdAll rdP; split
                 · split
                   · rfl
                   · exact ih _ _
                 · rfl

theorem rdP_ge (s : ByteArray) (n p : Nat) (h : (rdP s n p).2 = false) : p ≤ (rdP s n p).1 := by
  induction n generalizing p with
  | zero => unfold rdP at h ⊢; split at h <;> simp_all
  | succ n ih =>
    unfold rdP at h ⊢
    by_cases c : p < s.size
    · simp only [c, if_true] at h ⊢
      by_cases b : (itemS s (p, false)).2 = true
      · simp only [b, if_true] at h ⊢; exact itemS_mono s (p, false)
      · simp only [b] at h ⊢
        exact Nat.le_trans (itemS_mono s (p, false)) (ih _ h)
    · simp [c] at h

/-- Cut at the place itself: it has its form, or ends too early just there. -/
theorem rdP_at {s t : ByteArray} {m : Nat} (h : Cut s t m) (n p : Nat) (hf : rdP s n p = (m, false)) : (rdP t n p).2 = true ∨ rdP t n p = (m, false) := by
  induction n generalizing p with
  | zero =>
    unfold rdP at hf ⊢
    rw [h.size]
    split at hf
    · simp at hf; subst hf; simp
    · simp at hf
  | succ n ih =>
    have hge := rdP_ge s (n + 1) p (by rw [hf])
    rw [hf] at hge
    simp only at hge
    unfold rdP at hf ⊢
    rw [h.size]
    by_cases hp : p < m
    · have hps : p < s.size := by have := h.le; omega
      simp only [hps, if_true, hp] at hf ⊢
      by_cases hb : (itemS s (p, false)).2 = true
      · simp only [hb, if_true, Prod.mk.injEq, and_true] at hf
        rcases itemS_cut h hp with ⟨_, he⟩ | ⟨hl, _⟩
        · rw [he]; simp [hb, hf]
        · omega
      · simp only [hb] at hf
        have hle := rdP_ge s n _ (by rw [show rdP s n (itemS s (p, false)).1 = (m, false) from hf])
        rw [show rdP s n (itemS s (p, false)).1 = (m, false) from hf] at hle
        rcases itemS_cut h hp with ⟨_, he⟩ | ⟨hl, _⟩
        · rw [he]; simp only [hb]; exact ih _ hf
        · simp at hle; omega
    · simp [hp]

/-- Cut behind the byte at the place: it cannot stand there. -/
theorem rdP_behind {s t : ByteArray} {m : Nat} (h : Cut s t (m + 1)) (n p : Nat) (hf : rdP s n p = (m, false)) : rdP t n p = (m, false) := by
  induction n generalizing p with
  | zero =>
    unfold rdP at hf ⊢
    rw [h.size]
    split at hf
    · simp at hf; subst hf; simp
    · simp at hf
  | succ n ih =>
    have hge := rdP_ge s (n + 1) p (by rw [hf])
    rw [hf] at hge
    simp only at hge
    unfold rdP at hf ⊢
    rw [h.size]
    have hp : p < m + 1 := by omega
    have hps : p < s.size := by have := h.le; omega
    simp only [hps, if_true, hp] at hf ⊢
    by_cases hb : (itemS s (p, false)).2 = true
    · simp only [hb, if_true, Prod.mk.injEq, and_true] at hf
      rcases itemS_cut h hp with ⟨_, he⟩ | ⟨hl, _⟩
      · rw [he]; simp [hb, hf]
      · omega
    · simp only [hb] at hf
      have hle := rdP_ge s n _ (by rw [show rdP s n (itemS s (p, false)).1 = (m, false) from hf])
      rw [show rdP s n (itemS s (p, false)).1 = (m, false) from hf] at hle
      rcases itemS_cut h hp with ⟨_, he⟩ | ⟨hl, _⟩
      · rw [he]; simp only [hb]; exact ih _ hf
      · simp at hle; omega

end Go.Proofs.YtdlhgbhaeedbdabGreat

/- What Check tells, by cases. Plain mathematics. -/
namespace Go.Proofs.YtdlhgbhaeedbdabGreat
open Go.RowKit

theorem itemS_le (s : ByteArray) (p : Nat) (hp : p ≤ s.size) : (itemS s (p, false)).1 ≤ s.size := by
  have T : ∀ (lo hi : Int) (st : Nat × Bool), 0 ≤ lo → st.1 ≤ s.size → (tk s lo hi st).1 ≤ s.size := fun lo hi st h0 h => tk_le h0 h
  have W : ∀ (l : List UInt8) (st : Nat × Bool), st.1 ≤ s.size → (wd s l st).1 ≤ s.size := by
    intro l
    induction l with
    | nil => intro st h; exact h
    | cons c l ih => intro st h; exact ih _ (T _ _ _ (by omega) h)
  have S : ∀ st : Nat × Bool, st.1 ≤ s.size → (nmStep s st).1 ≤ s.size := by
    intro st h; unfold nmStep; split
    · exact T _ _ _ (by omega) h
    · exact h
  have N : ∀ st : Nat × Bool, st.1 ≤ s.size → (nmS s st).1 ≤ s.size := fun st h => S _ (S _ (S _ (T _ _ _ (by omega) h)))
  have M : ∀ st : Nat × Bool, st.1 ≤ s.size → (mdS s st).1 ≤ s.size := by
    intro st h; unfold mdS; split
    · exact W _ _ (W _ _ h)
    · exact W _ _ (W _ _ h)
  have D : ∀ st : Nat × Bool, st.1 ≤ s.size → (nbS s st).1 ≤ s.size := fun st h => T _ _ _ (by omega) h
  unfold itemS
  repeat' split
  · exact W _ _ (T _ _ _ (by omega) (W _ _ (N _ (W _ _ hp))))
  · exact W _ _ (N _ (W _ _ hp))
  · exact W _ _ (M _ (W _ _ (N _ (W _ _ (D _ (W _ _ (N _ (W _ _ hp))))))))
  · exact W _ _ (N _ (W _ _ (N _ (W _ _ hp))))
  · exact W _ _ (D _ (W _ _ (D _ (W _ _ (N _ (W _ _ (N _ (W _ _ hp))))))))
  · exact hp

theorem rdP_le (s : ByteArray) (n p : Nat) (hp : p ≤ s.size) (h : (rdP s n p).2 = false) : (rdP s n p).1 ≤ s.size := by
  induction n generalizing p with
  | zero => unfold rdP at h ⊢; split at h
            · simp_all
            · simp at h
  | succ n ih =>
    unfold rdP at h ⊢
    by_cases c : p < s.size
    · simp only [c, if_true] at h ⊢
      by_cases b : (itemS s (p, false)).2 = true
      · simp only [b, if_true] at h ⊢; exact itemS_le s p hp
      · simp only [b] at h ⊢
        exact ih _ (itemS_le s p hp) h
    · simp [c] at h

/-- What Check tells, by cases. -/
theorem chk_cases (s : ByteArray) :
    (400 < s.size ∧ chk s = (1, 0)) ∨ (¬ 400 < s.size ∧ ((chk s = (2, (rdP s 24 0).1) ∧ (rdP s 24 0).2 = false) ∨ ((rdP s 24 0).2 = true ∧
      ((∃ k, k < (itemsOf s).length ∧ chk s = (3, k)) ∨ (∃ k, k < (itemsOf s).length ∧ chk s = (4, k)) ∨ chk s = (0, 0))))) := by
  have e := rdAll_rdP s 24 0 []
  unfold chk
  by_cases h4 : 400 < s.size
  · exact Or.inl ⟨h4, by simp [h4]⟩
  · refine Or.inr ⟨h4, ?_⟩
    rw [if_neg h4, e]
    cases hb : (rdP s 24 0).2 with
    | false => exact Or.inl ⟨by simp, rfl⟩
    | true =>
      refine Or.inr ⟨rfl, ?_⟩
      simp only [Bool.true_eq_false, if_false]
      split
      · rename_i h; exact Or.inl ⟨_, h, rfl⟩
      · split
        · rename_i h; exact Or.inr (Or.inl ⟨_, h, rfl⟩)
        · exact Or.inr (Or.inr rfl)

theorem chk_form {s : ByteArray} (h4 : ¬ 400 < s.size) {m : Nat} (h : rdP s 24 0 = (m, false)) : chk s = (2, m) := by
  rcases chk_cases s with ⟨h, _⟩ | ⟨_, ⟨h1, _⟩ | ⟨h1, _⟩⟩
  · exact absurd h h4
  · rw [h1, h]
  · rw [h] at h1; simp at h1

theorem chk_formed {s : ByteArray} (h4 : ¬ 400 < s.size) (h : (rdP s 24 0).2 = true) : (chk s).1 ≠ 2 := by
  rcases chk_cases s with ⟨h, _⟩ | ⟨_, ⟨_, h1⟩ | ⟨_, ⟨k, _, h1⟩ | ⟨k, _, h1⟩ | h1⟩⟩
  · exact absurd h h4
  · rw [h] at h1; simp at h1
  · rw [h1]; simp
  · rw [h1]; simp
  · rw [h1]; simp

end Go.Proofs.YtdlhgbhaeedbdabGreat

/- Items, as the document tells them: their texts; how the reader meets them. Plain mathematics. -/
namespace Go.Proofs.YtdlhgbhaeedbdabGreat
open Go.RowKit

/-- What is left of a text from p on. -/
def rest (s : ByteArray) (p : Nat) : List UInt8 := s.data.toList.drop p

theorem rest_add (s : ByteArray) (p n : Nat) : rest s (p + n) = (rest s p).drop n := by simp [rest]
theorem rest_of {s : ByteArray} {p : Nat} {a r : List UInt8} (h : rest s p = a ++ r) : rest s (p + a.length) = r := by rw [rest_add, h, List.drop_left]
theorem rest_zero (s : ByteArray) : rest s 0 = s.data.toList := by simp [rest]
theorem rest_nil {s : ByteArray} {p : Nat} : rest s p = [] ↔ s.size ≤ p := by
  rw [rest, List.drop_eq_nil_iff]; simp

theorem byteAt_rest (s : ByteArray) (p : Nat) : byteAt s p = match rest s p with | [] => -1 | c :: _ => (c.toNat : Int) := by
  by_cases h : p < s.size
  · have hl : p < s.data.toList.length := by simpa using h
    rw [byteAt_in h, rest, List.drop_eq_getElem_cons hl]
    rfl
  · rw [byteAt_out h, rest_nil.2 (by omega)]

theorem byteAt_cons {s : ByteArray} {p : Nat} {c : UInt8} {r : List UInt8} (h : rest s p = c :: r) : byteAt s p = (c.toNat : Int) := by rw [byteAt_rest, h]

theorem cons_of_byte {s : ByteArray} {p : Nat} {v : Int} (h : byteAt s p = v) (h0 : 0 ≤ v) : ∃ c, (c.toNat : Int) = v ∧ rest s p = c :: rest s (p + 1) := by
  rw [byteAt_rest] at h
  cases e : rest s p with
  | nil => rw [e] at h; simp at h; omega
  | cons c r =>
    rw [e] at h
    refine ⟨c, h, ?_⟩
    rw [show rest s (p + 1) = r from rest_of (a := [c]) (by rw [e]; rfl)]

/-- One byte more: what 'tk' has read. -/
theorem tk_read {s : ByteArray} {lo hi : Int} (h0 : 0 ≤ lo) {st : Nat × Bool} (h : (tk s lo hi st).2 = false) :
    ∃ c : UInt8, lo ≤ (c.toNat : Int) ∧ (c.toNat : Int) ≤ hi ∧ st.2 = false ∧ tk s lo hi st = (st.1 + 1, false) ∧ rest s st.1 = c :: rest s (st.1 + 1) := by
  obtain ⟨h1, h2, h3⟩ := tk_ok h
  simp [seesB] at h2
  obtain ⟨c, hc, hr⟩ := cons_of_byte (s := s) (p := st.1) rfl (by omega)
  exact ⟨c, by omega, by omega, h1, h3, hr⟩

theorem tk_gives {s : ByteArray} {lo hi : Int} {p : Nat} {c : UInt8} {r : List UInt8} (h : rest s p = c :: r) (h1 : lo ≤ (c.toNat : Int)) (h2 : (c.toNat : Int) ≤ hi) : tk s lo hi (p, false) = (p + 1, false) := by
  simp [tk, seesB, byteAt_cons h, h1, h2]

theorem wd_read {s : ByteArray} (ws : List UInt8) {st : Nat × Bool} (h : (wd s ws st).2 = false) : st.2 = false ∧ wd s ws st = (st.1 + ws.length, false) ∧ rest s st.1 = ws ++ rest s (st.1 + ws.length) := by
  induction ws generalizing st with
  | nil => exact ⟨h, Prod.ext rfl h, rfl⟩
  | cons c ws ih =>
    obtain ⟨h1, h2, h3⟩ := ih (st := tk s (c.toNat : Int) (c.toNat : Int) st) h
    obtain ⟨d, d1, d2, d3, d4, d5⟩ := tk_read (by omega) h1
    have hd : d = c := UInt8.toNat_inj.1 (by omega)
    subst hd
    rw [d4] at h2 h3
    refine ⟨d3, ?_, ?_⟩
    · show wd s ws (tk s _ _ st) = _
      rw [d4, h2]
      simp; omega
    · simp only [List.length_cons, List.cons_append]
      rw [d5]
      simp only at h3
      rw [h3, show st.1 + 1 + ws.length = st.1 + (ws.length + 1) from by omega]

theorem wd_gives {s : ByteArray} (ws : List UInt8) {p : Nat} {r : List UInt8} (h : rest s p = ws ++ r) : wd s ws (p, false) = (p + ws.length, false) := by
  induction ws generalizing p with
  | nil => rfl
  | cons c ws ih =>
    show wd s ws (tk s _ _ (p, false)) = _
    rw [tk_gives (c := c) (r := ws ++ r) (by rw [h]; rfl) (by omega) (by omega), ih (by exact rest_of (a := [c]) (by rw [h]; rfl))]
    simp; omega

/-- A small letter. -/
def letter (c : UInt8) : Prop := (97 : Int) ≤ (c.toNat : Int) ∧ (c.toNat : Int) ≤ 122
/-- A name. -/
def isName (a : List UInt8) : Prop := 1 ≤ a.length ∧ a.length ≤ 4 ∧ ∀ c ∈ a, letter c

theorem nmIter_read {s : ByteArray} (k : Nat) {p : Nat} {a : List UInt8} (ha : ∀ c ∈ a, letter c) (h : rest s p = a ++ rest s (p + a.length)) :
    ∃ b, (∀ c ∈ b, letter c) ∧ b.length ≤ a.length + k ∧ a.length ≤ b.length ∧ nmIter s k (p + a.length, false) = (p + b.length, false) ∧ rest s p = b ++ rest s (p + b.length) := by
  induction k with
  | zero => exact ⟨a, ha, by omega, by omega, rfl, h⟩
  | succ k ih =>
    obtain ⟨b, b1, b2, b3, b4, b5⟩ := ih
    show ∃ b, _ ∧ _ ∧ _ ∧ nmStep s (nmIter s k _) = _ ∧ _
    rw [b4]
    unfold nmStep
    split
    · rename_i hs
      have ht : (tk s 97 122 (p + b.length, false)).2 = false := by simp only [tk, hs]; simp
      obtain ⟨c, c1, c2, _, c4, c5⟩ := tk_read (by omega) ht
      refine ⟨b ++ [c], ?_, by simp; omega, by simp; omega, ?_, ?_⟩
      · intro d hd
        rcases List.mem_append.1 hd with hd | hd
        · exact b1 d hd
        · simp at hd; subst hd; exact ⟨c1, c2⟩
      · rw [c4]; simp; omega
      · rw [b5]
        simp only at c5
        rw [c5]
        simp only [List.append_assoc, List.singleton_append, List.length_append, List.length_singleton]
        rw [show p + (b.length + 1) = p + b.length + 1 from by omega]
    · exact ⟨b, b1, by omega, b3, rfl, b5⟩

theorem nmIter_bad (s : ByteArray) (k p : Nat) : nmIter s k (p, true) = (p, true) := by
  induction k with
  | zero => rfl
  | succ k ih =>
    show nmStep s (nmIter s k _) = _
    rw [ih]
    unfold nmStep
    split
    · simp [tk]
    · rfl

theorem nm_read {s : ByteArray} {st : Nat × Bool} (h : (nmS s st).2 = false) :
    ∃ a, isName a ∧ st.2 = false ∧ nmS s st = (st.1 + a.length, false) ∧ rest s st.1 = a ++ rest s (st.1 + a.length) ∧ nmV s st = ⟨a.toArray⟩ := by
  cases hb : (tk s 97 122 st).2 with
  | true =>
    have e : tk s 97 122 st = ((tk s 97 122 st).1, true) := Prod.ext rfl hb
    unfold nmS at h
    rw [e, nmIter_bad] at h
    simp at h
  | false =>
    obtain ⟨c, c1, c2, c3, c4, c5⟩ := tk_read (by omega) hb
    obtain ⟨b, b1, b2, b3, b4, b5⟩ := nmIter_read (s := s) 3 (p := st.1) (a := [c]) (by intro d hd; simp at hd; subst hd; exact ⟨c1, c2⟩) (by rw [c5]; rfl)
    have e : nmS s st = (st.1 + b.length, false) := by unfold nmS; rw [c4]; exact b4
    refine ⟨b, ⟨by simpa using b3, by simp at b2; omega, b1⟩, c3, e, b5, ?_⟩
    unfold nmV
    rw [e]
    apply ByteArray.ext
    simp only
    rw [ByteArray.data_extract]
    apply Array.toList_inj.1
    rw [Array.toList_extract]
    simp only [List.extract_eq_take_drop]
    rw [show List.drop st.1 s.data.toList = rest s st.1 from rfl, b5, show st.1 + b.length - st.1 = b.length from by omega, List.take_left]

/-- A name in front of a byte that is no letter is read whole. -/
theorem nmIter_gives {s : ByteArray} {p : Nat} (a : List UInt8) (r : List UInt8) (ha : ∀ c ∈ a, letter c) (d : UInt8) (hd : ¬ letter d) (k : Nat) (hk : a.length ≤ k) (h : rest s p = a ++ d :: r) : nmIter s k (p, false) = (p + a.length, false) := by
  induction k generalizing a p with
  | zero => have : a = [] := List.length_eq_zero_iff.1 (by omega)
            subst this; rfl
  | succ k ih =>
    have comm : ∀ (k : Nat) (st : Nat × Bool), nmIter s (k + 1) st = nmIter s k (nmStep s st) := by
      intro k; induction k with
      | zero => intro st; rfl
      | succ k ih => intro st; show nmStep s (nmIter s (k + 1) st) = nmStep s (nmIter s k (nmStep s st)); rw [ih]
    rw [comm]
    cases a with
    | nil =>
      have hs : seesB s p 97 122 = false := by
        rw [seesB, byteAt_cons (by rw [h]; rfl : rest s p = d :: r)]
        simp only [letter] at hd
        simp; omega
      have : nmStep s (p, false) = (p, false) := by simp [nmStep, hs]
      rw [this]
      exact ih (p := p) [] (by simp) (by simp) h
    | cons c a =>
      have hc := ha c (by simp)
      have e : nmStep s (p, false) = (p + 1, false) := by
        have ht := tk_gives (s := s) (lo := 97) (hi := 122) (p := p) (c := c) (r := a ++ d :: r) (by rw [h]; rfl) hc.1 hc.2
        have hs : seesB s p 97 122 = true := by rw [seesB, byteAt_cons (by rw [h]; rfl : rest s p = c :: (a ++ d :: r))]; simp [hc.1, hc.2]
        simp [nmStep, hs, ht]
      rw [e, ih (p := p + 1) a (fun x hx => ha x (by simp [hx])) (by simp at hk; omega) (by exact rest_of (a := [c]) (by rw [h]; rfl))]
      simp; omega

theorem nm_gives {s : ByteArray} {p : Nat} {a r : List UInt8} (ha : isName a) {d : UInt8} (hd : ¬ letter d) (h : rest s p = a ++ d :: r) : nmS s (p, false) = (p + a.length, false) := by
  obtain ⟨h1, h2, h3⟩ := ha
  cases a with
  | nil => simp at h1
  | cons c a =>
    have hc := h3 c (by simp)
    unfold nmS
    rw [tk_gives (c := c) (r := a ++ d :: r) (by rw [h]; rfl) hc.1 hc.2, nmIter_gives (p := p + 1) a r (fun x hx => h3 x (by simp [hx])) d hd 3 (by simp at h2; omega) (by exact rest_of (a := [c]) (by rw [h]; rfl))]
    simp; omega

end Go.Proofs.YtdlhgbhaeedbdabGreat

/- Items: what the reader makes of their texts. -/
namespace Go.Proofs.YtdlhgbhaeedbdabGreat
open Go.RowKit

/-- The digit of a number up to 9. -/
def dg (n : Nat) : UInt8 := UInt8.ofNat (48 + n)
def md (m : Nat) : UInt8 := if m = 0 then 111 else 119

/-- An item: its kind; its first name; its second one (a lun's disk, a host's or a map's host); its number (a disk's size); a lun's mode (0: ro) or a map's lun. -/
structure It where
  kind : Nat
  a : List UInt8
  b : List UInt8
  n : Nat
  m : Nat

def It.body (x : It) : List UInt8 :=
  if x.kind = 0 then [100, 105, 115, 107, 32] ++ (x.a ++ [32, dg x.n])
  else if x.kind = 1 then [116, 97, 114, 103, 101, 116, 32] ++ x.a
  else if x.kind = 2 then [108, 117, 110, 32] ++ (x.a ++ ([32, dg x.n, 32] ++ (x.b ++ [32, 114, md x.m])))
  else if x.kind = 3 then [104, 111, 115, 116, 32] ++ (x.a ++ ([32] ++ x.b))
  else [109, 97, 112, 32] ++ (x.a ++ ([32] ++ (x.b ++ [32, dg x.n, 32, dg x.m])))
def It.text (x : It) : List UInt8 := x.body ++ [59]

def It.ok (x : It) : Prop :=
  isName x.a ∧ ((x.kind = 0 ∧ x.b = [] ∧ 1 ≤ x.n ∧ x.n ≤ 9 ∧ x.m = 0) ∨ (x.kind = 1 ∧ x.b = [] ∧ x.n = 0 ∧ x.m = 0) ∨ (x.kind = 2 ∧ isName x.b ∧ x.n ≤ 7 ∧ x.m ≤ 1) ∨
    (x.kind = 3 ∧ isName x.b ∧ x.n = 0 ∧ x.m = 0) ∨ (x.kind = 4 ∧ isName x.b ∧ x.n ≤ 7 ∧ x.m ≤ 7))

/-- The program's item. -/
def It.item (x : It) : Item where
  kind := x.kind
  name := ⟨x.a.toArray⟩
  host := if x.kind = 3 ∨ x.kind = 4 then ⟨x.b.toArray⟩ else ⟨#[]⟩
  number := if x.kind = 2 ∨ x.kind = 4 then x.n else 0
  size := if x.kind = 0 then x.n else 0
  disk := if x.kind = 2 then ⟨x.b.toArray⟩ else ⟨#[]⟩
  only := decide (x.kind = 2) && decide (x.m = 0)
  lun := if x.kind = 4 then x.m else 0
  text := ⟨x.text.toArray⟩

theorem dg_nat {n : Nat} (h : n ≤ 9) : (dg n).toNat = 48 + n := by
  unfold dg
  rw [UInt8.toNat_ofNat']
  omega

theorem dg_of {c : UInt8} {k : Nat} (h1 : (48 : Int) ≤ (c.toNat : Int)) (h2 : (c.toNat : Int) ≤ 48 + k) (hk : k ≤ 9) : ∃ n, n ≤ k ∧ c = dg n ∧ (c.toNat : Int) = 48 + n := by
  refine ⟨c.toNat - 48, by omega, ?_, by omega⟩
  apply UInt8.toNat_inj.1
  rw [dg_nat (by omega)]
  omega

theorem md_read {s : ByteArray} {st : Nat × Bool} (h : (mdS s st).2 = false) : ∃ m, m ≤ 1 ∧ st.2 = false ∧ mdS s st = (st.1 + 2, false) ∧ rest s st.1 = [114, md m] ++ rest s (st.1 + 2) ∧ mdV s st = decide (m = 0) := by
  unfold mdS at h ⊢
  unfold mdV
  by_cases hs : seesB s (wd s [114] st).1 111 111 = true
  · rw [if_pos hs] at h ⊢
    obtain ⟨a1, a2, a3⟩ := wd_read [111] h
    obtain ⟨b1, b2, b3⟩ := wd_read [114] a1
    rw [b2] at a2 a3
    refine ⟨0, by omega, b1, by rw [b2]; exact a2, ?_, by rw [hs]; rfl⟩
    rw [b3]
    simp only [List.length_singleton] at a3 ⊢
    rw [a3]; rfl
  · rw [if_neg hs] at h ⊢
    obtain ⟨a1, a2, a3⟩ := wd_read [119] h
    obtain ⟨b1, b2, b3⟩ := wd_read [114] a1
    rw [b2] at a2 a3
    refine ⟨1, by omega, b1, by rw [b2]; exact a2, ?_, by rw [Bool.not_eq_true _ |>.mp hs]; rfl⟩
    rw [b3]
    simp only [List.length_singleton] at a3 ⊢
    rw [a3]; rfl

theorem md_gives {s : ByteArray} {p m : Nat} {r : List UInt8} (h : rest s p = [114, md m] ++ r) : mdS s (p, false) = (p + 2, false) ∧ mdV s (p, false) = decide (m = 0) := by
  have h1 := wd_gives [114] (p := p) (r := md m :: r) (by rw [h]; rfl)
  have r1 : rest s (p + 1) = md m :: r := rest_of (a := [114]) (by rw [h]; rfl)
  unfold mdS mdV
  rw [h1]
  simp only [List.length_singleton]
  by_cases hm : m = 0
  · have e : md m = 111 := by simp [md, hm]
    rw [e] at r1
    have hs : seesB s (p + 1) 111 111 = true := by rw [seesB, byteAt_cons r1]; decide
    rw [if_pos hs, wd_gives [111] (p := p + 1) (r := r) r1, hs, hm]
    exact ⟨rfl, rfl⟩
  · have e : md m = 119 := by simp [md, hm]
    rw [e] at r1
    have hs : ¬ seesB s (p + 1) 111 111 = true := by rw [seesB, byteAt_cons r1]; decide
    rw [if_neg hs, wd_gives [119] (p := p + 1) (r := r) r1, Bool.not_eq_true _ |>.mp hs]
    exact ⟨rfl, by simp [hm]⟩

theorem nb_read {s : ByteArray} {st : Nat × Bool} (h : (nbS s st).2 = false) : ∃ n, n ≤ 7 ∧ st.2 = false ∧ nbS s st = (st.1 + 1, false) ∧ rest s st.1 = [dg n] ++ rest s (st.1 + 1) ∧ nbV s st = n := by
  obtain ⟨c, c1, c2, c3, c4, c5⟩ := tk_read (s := s) (lo := 48) (hi := 55) (st := st) (by omega) h
  obtain ⟨n, n1, n2, n3⟩ := dg_of (k := 7) c1 (by omega) (by omega)
  refine ⟨n, n1, c3, c4, by rw [c5, n2]; rfl, ?_⟩
  unfold nbV
  rw [if_neg (by rw [h]; simp), byteAt_cons c5]
  omega

theorem nb_gives {s : ByteArray} {p n : Nat} {r : List UInt8} (hn : n ≤ 7) (h : rest s p = [dg n] ++ r) : nbS s (p, false) = (p + 1, false) :=
  tk_gives (c := dg n) (r := r) (by rw [h]; rfl) (by rw [dg_nat (by omega)]; omega) (by rw [dg_nat (by omega)]; omega)

/-- What lies between two places. -/
theorem extract_rest {s : ByteArray} {p : Nat} {a r : List UInt8} (h : rest s p = a ++ r) : s.extract p (p + a.length) = ⟨a.toArray⟩ := by
  apply ByteArray.ext
  simp only
  rw [ByteArray.data_extract]
  apply Array.toList_inj.1
  rw [Array.toList_extract]
  simp only [List.extract_eq_take_drop]
  rw [show List.drop p s.data.toList = rest s p from rfl, h, show p + a.length - p = a.length from by omega, List.take_left]

theorem sp_no : ¬ letter 32 := by unfold letter; decide
theorem sc_no : ¬ letter 59 := by unfold letter; decide

theorem first_byte {s : ByteArray} {p : Nat} {c : UInt8} {l r : List UInt8} (h : rest s p = (c :: l) ++ r) : byteAt s p = (c.toNat : Int) := byteAt_cons (by rw [h]; rfl)

end Go.Proofs.YtdlhgbhaeedbdabGreat

/- Items: each kind, as it is read and as it is given. (Laid by mkit3.py.) -/
namespace Go.Proofs.YtdlhgbhaeedbdabGreat
open Go.RowKit

theorem ext_item {x y : Item} (h1 : x.kind = y.kind) (h2 : x.name = y.name) (h3 : x.host = y.host) (h4 : x.number = y.number) (h8 : x.size = y.size) (h5 : x.disk = y.disk) (h9 : x.only = y.only) (h6 : x.lun = y.lun) (h7 : x.text = y.text) : x = y := by
  cases x; cases y; simp_all

theorem disk_read {s : ByteArray} {p : Nat} (h : (diskS5 s (p, false)).2 = false) :
    ∃ x : It, x.ok ∧ x.kind = 0 ∧ diskS5 s (p, false) = (p + x.text.length, false) ∧ rest s p = x.text ++ rest s (p + x.text.length) ∧ diskI s (p, false) = { x.item with text := ⟨#[]⟩ } := by
  have a5 : (diskS5 s (p, false)).2 = false := h
  obtain ⟨a4, b5, c5⟩ := wd_read (s := s) [59] (st := diskS4 s (p, false)) a5
  obtain ⟨c, g1, g2, a3, b4, c4⟩ := tk_read (s := s) (lo := 49) (hi := 57) (st := diskS3 s (p, false)) (by omega) a4
  obtain ⟨n, hn, e0, e1⟩ := dg_of (c := c) (k := 9) (by omega) (by omega) (by omega)
  have hn1 : 1 ≤ n := by omega
  have v4 : dgV s 49 57 (diskS3 s (p, false)) = n := by unfold dgV; rw [if_neg (by rw [show (tk s 49 57 (diskS3 s (p, false))).2 = false from a4]; simp), byteAt_cons c4]; omega
  rw [e0] at c4
  obtain ⟨a2, b3, c3⟩ := wd_read (s := s) [32] (st := diskS2 s (p, false)) a3
  obtain ⟨a, ha, a1, b2, c2, v2⟩ := nm_read (s := s) (st := diskS1 s (p, false)) a2
  obtain ⟨a0, b1, c1⟩ := wd_read (s := s) [100, 105, 115, 107, 32] (st := (p, false)) a1
  have f0 : ((p, false) : Nat × Bool) = (p, false) := rfl
  have f1 : diskS1 s (p, false) = (p + 5, false) := b1
  replace c1 : rest s (p) = [100, 105, 115, 107, 32] ++ rest s (p + 5) := c1
  rw [f1] at c2
  have f2 : diskS2 s (p, false) = (p + 5 + a.length, false) := by show nmS s (diskS1 s (p, false)) = _; rw [b2, f1]
  replace c2 : rest s (p + 5) = a ++ rest s (p + 5 + a.length) := c2
  rw [f2] at c3
  have f3 : diskS3 s (p, false) = (p + 5 + a.length + 1, false) := by show wd s [32] (diskS2 s (p, false)) = _; rw [b3, f2]; rfl
  replace c3 : rest s (p + 5 + a.length) = [32] ++ rest s (p + 5 + a.length + 1) := c3
  rw [f3] at c4
  have f4 : diskS4 s (p, false) = (p + 5 + a.length + 1 + 1, false) := by show tk s 49 57 (diskS3 s (p, false)) = _; rw [b4, f3]
  replace c4 : rest s (p + 5 + a.length + 1) = [dg n] ++ rest s (p + 5 + a.length + 1 + 1) := c4
  rw [f4] at c5
  have f5 : diskS5 s (p, false) = (p + 5 + a.length + 1 + 1 + 1, false) := by show wd s [59] (diskS4 s (p, false)) = _; rw [b5, f4]; rfl
  replace c5 : rest s (p + 5 + a.length + 1 + 1) = [59] ++ rest s (p + 5 + a.length + 1 + 1 + 1) := c5
  have hlen : (It.text ⟨0, a, [], n, 0⟩).length + p = p + 5 + a.length + 1 + 1 + 1 := by simp [It.text, It.body]; omega
  refine ⟨⟨0, a, [], n, 0⟩, ⟨ha, Or.inl ⟨rfl, rfl, hn1, hn, rfl⟩⟩, rfl, ?_, ?_, ?_⟩
  · rw [f5, ← hlen]; simp; omega
  · rw [show p + (It.text ⟨0, a, [], n, 0⟩).length = p + 5 + a.length + 1 + 1 + 1 from by omega]
    rw [c1, c2, c3, c4, c5]
    simp [It.text, It.body]
  · rw [show diskI s (p, false) = ⟨0, nmV s (diskS1 s (p, false)), ⟨#[]⟩, 0, dgV s 49 57 (diskS3 s (p, false)), ⟨#[]⟩, false, 0, ⟨#[]⟩⟩ from rfl, v2, v4]
    simp [It.item]

theorem disk_gives {s : ByteArray} {p : Nat} {x : It} (hk : x.kind = 0) (hx : x.ok) {r : List UInt8} (h : rest s p = x.text ++ r) : diskS5 s (p, false) = (p + x.text.length, false) ∧ diskI s (p, false) = { x.item with text := ⟨#[]⟩ } := by
  rcases hx with ⟨ha, ⟨_, _, hn1, hn, _⟩ | ⟨e, _⟩ | ⟨e, _⟩ | ⟨e, _⟩ | ⟨e, _⟩⟩
  all_goals first | (exfalso; omega) | skip
  have d0 : rest s p = [100, 105, 115, 107, 32] ++ (x.a ++ ([32] ++ ([dg x.n] ++ ([59] ++ (r))))) := by rw [h]; simp [It.text, It.body, hk]
  have e1 : wd s [100, 105, 115, 107, 32] (p, false) = (p + 5, false) := wd_gives [100, 105, 115, 107, 32] d0
  have d1 : rest s (p + 5) = x.a ++ ([32] ++ ([dg x.n] ++ ([59] ++ (r)))) := rest_of (a := [100, 105, 115, 107, 32]) d0
  have e2 : nmS s (p + 5, false) = (p + 5 + x.a.length, false) := nm_gives ha sp_no (by rw [d1]; rfl)
  have d2 : rest s (p + 5 + x.a.length) = [32] ++ ([dg x.n] ++ ([59] ++ (r))) := rest_of (a := x.a) d1
  have e3 : wd s [32] (p + 5 + x.a.length, false) = (p + 5 + x.a.length + 1, false) := wd_gives [32] d2
  have d3 : rest s (p + 5 + x.a.length + 1) = [dg x.n] ++ ([59] ++ (r)) := rest_of (a := [32]) d2
  have e4 : tk s 49 57 (p + 5 + x.a.length + 1, false) = (p + 5 + x.a.length + 1 + 1, false) := tk_gives (c := dg x.n) (by rw [d3]; rfl) (by rw [dg_nat (by omega)]; omega) (by rw [dg_nat (by omega)]; omega)
  have d4 : rest s (p + 5 + x.a.length + 1 + 1) = [59] ++ (r) := rest_of (a := [dg x.n]) d3
  have e5 : wd s [59] (p + 5 + x.a.length + 1 + 1, false) = (p + 5 + x.a.length + 1 + 1 + 1, false) := wd_gives [59] d4
  have d5 : rest s (p + 5 + x.a.length + 1 + 1 + 1) = r := rest_of (a := [59]) d4
  have f1 : diskS1 s (p, false) = (p + 5, false) := e1
  have f2 : diskS2 s (p, false) = (p + 5 + x.a.length, false) := by show nmS s (diskS1 s (p, false)) = _; rw [f1]; exact e2
  have f3 : diskS3 s (p, false) = (p + 5 + x.a.length + 1, false) := by show wd s [32] (diskS2 s (p, false)) = _; rw [f2]; exact e3
  have f4 : diskS4 s (p, false) = (p + 5 + x.a.length + 1 + 1, false) := by show tk s 49 57 (diskS3 s (p, false)) = _; rw [f3]; exact e4
  have f5 : diskS5 s (p, false) = (p + 5 + x.a.length + 1 + 1 + 1, false) := by show wd s [59] (diskS4 s (p, false)) = _; rw [f4]; exact e5
  have v2 : nmV s (diskS1 s (p, false)) = ⟨x.a.toArray⟩ := by rw [f1]; unfold nmV; rw [e2]; exact extract_rest d1
  have v4 : dgV s 49 57 (diskS3 s (p, false)) = x.n := by rw [f3]; unfold dgV; rw [e4, byteAt_cons (c := dg x.n) (by rw [d3]; rfl), dg_nat (by omega)]; simp; omega
  refine ⟨?_, ?_⟩
  · rw [f5]
    simp [It.text, It.body, hk]
    omega
  · rw [show diskI s (p, false) = ⟨0, nmV s (diskS1 s (p, false)), ⟨#[]⟩, 0, dgV s 49 57 (diskS3 s (p, false)), ⟨#[]⟩, false, 0, ⟨#[]⟩⟩ from rfl, v2, v4]
    simp [It.item, hk]

theorem target_read {s : ByteArray} {p : Nat} (h : (targetS3 s (p, false)).2 = false) :
    ∃ x : It, x.ok ∧ x.kind = 1 ∧ targetS3 s (p, false) = (p + x.text.length, false) ∧ rest s p = x.text ++ rest s (p + x.text.length) ∧ targetI s (p, false) = { x.item with text := ⟨#[]⟩ } := by
  have a3 : (targetS3 s (p, false)).2 = false := h
  obtain ⟨a2, b3, c3⟩ := wd_read (s := s) [59] (st := targetS2 s (p, false)) a3
  obtain ⟨a, ha, a1, b2, c2, v2⟩ := nm_read (s := s) (st := targetS1 s (p, false)) a2
  obtain ⟨a0, b1, c1⟩ := wd_read (s := s) [116, 97, 114, 103, 101, 116, 32] (st := (p, false)) a1
  have f0 : ((p, false) : Nat × Bool) = (p, false) := rfl
  have f1 : targetS1 s (p, false) = (p + 7, false) := b1
  replace c1 : rest s (p) = [116, 97, 114, 103, 101, 116, 32] ++ rest s (p + 7) := c1
  rw [f1] at c2
  have f2 : targetS2 s (p, false) = (p + 7 + a.length, false) := by show nmS s (targetS1 s (p, false)) = _; rw [b2, f1]
  replace c2 : rest s (p + 7) = a ++ rest s (p + 7 + a.length) := c2
  rw [f2] at c3
  have f3 : targetS3 s (p, false) = (p + 7 + a.length + 1, false) := by show wd s [59] (targetS2 s (p, false)) = _; rw [b3, f2]; rfl
  replace c3 : rest s (p + 7 + a.length) = [59] ++ rest s (p + 7 + a.length + 1) := c3
  have hlen : (It.text ⟨1, a, [], 0, 0⟩).length + p = p + 7 + a.length + 1 := by simp [It.text, It.body]; omega
  refine ⟨⟨1, a, [], 0, 0⟩, ⟨ha, Or.inr (Or.inl ⟨rfl, rfl, rfl, rfl⟩)⟩, rfl, ?_, ?_, ?_⟩
  · rw [f3, ← hlen]; simp; omega
  · rw [show p + (It.text ⟨1, a, [], 0, 0⟩).length = p + 7 + a.length + 1 from by omega]
    rw [c1, c2, c3]
    simp [It.text, It.body]
  · rw [show targetI s (p, false) = ⟨1, nmV s (targetS1 s (p, false)), ⟨#[]⟩, 0, 0, ⟨#[]⟩, false, 0, ⟨#[]⟩⟩ from rfl, v2]
    simp [It.item]

theorem target_gives {s : ByteArray} {p : Nat} {x : It} (hk : x.kind = 1) (hx : x.ok) {r : List UInt8} (h : rest s p = x.text ++ r) : targetS3 s (p, false) = (p + x.text.length, false) ∧ targetI s (p, false) = { x.item with text := ⟨#[]⟩ } := by
  rcases hx with ⟨ha, ⟨e, _⟩ | ⟨_, _⟩ | ⟨e, _⟩ | ⟨e, _⟩ | ⟨e, _⟩⟩
  all_goals first | (exfalso; omega) | skip
  have d0 : rest s p = [116, 97, 114, 103, 101, 116, 32] ++ (x.a ++ ([59] ++ (r))) := by rw [h]; simp [It.text, It.body, hk]
  have e1 : wd s [116, 97, 114, 103, 101, 116, 32] (p, false) = (p + 7, false) := wd_gives [116, 97, 114, 103, 101, 116, 32] d0
  have d1 : rest s (p + 7) = x.a ++ ([59] ++ (r)) := rest_of (a := [116, 97, 114, 103, 101, 116, 32]) d0
  have e2 : nmS s (p + 7, false) = (p + 7 + x.a.length, false) := nm_gives ha sc_no (by rw [d1]; rfl)
  have d2 : rest s (p + 7 + x.a.length) = [59] ++ (r) := rest_of (a := x.a) d1
  have e3 : wd s [59] (p + 7 + x.a.length, false) = (p + 7 + x.a.length + 1, false) := wd_gives [59] d2
  have d3 : rest s (p + 7 + x.a.length + 1) = r := rest_of (a := [59]) d2
  have f1 : targetS1 s (p, false) = (p + 7, false) := e1
  have f2 : targetS2 s (p, false) = (p + 7 + x.a.length, false) := by show nmS s (targetS1 s (p, false)) = _; rw [f1]; exact e2
  have f3 : targetS3 s (p, false) = (p + 7 + x.a.length + 1, false) := by show wd s [59] (targetS2 s (p, false)) = _; rw [f2]; exact e3
  have v2 : nmV s (targetS1 s (p, false)) = ⟨x.a.toArray⟩ := by rw [f1]; unfold nmV; rw [e2]; exact extract_rest d1
  refine ⟨?_, ?_⟩
  · rw [f3]
    simp [It.text, It.body, hk]
    omega
  · rw [show targetI s (p, false) = ⟨1, nmV s (targetS1 s (p, false)), ⟨#[]⟩, 0, 0, ⟨#[]⟩, false, 0, ⟨#[]⟩⟩ from rfl, v2]
    simp [It.item, hk]

theorem lun_read {s : ByteArray} {p : Nat} (h : (lunS9 s (p, false)).2 = false) :
    ∃ x : It, x.ok ∧ x.kind = 2 ∧ lunS9 s (p, false) = (p + x.text.length, false) ∧ rest s p = x.text ++ rest s (p + x.text.length) ∧ lunI s (p, false) = { x.item with text := ⟨#[]⟩ } := by
  have a9 : (lunS9 s (p, false)).2 = false := h
  obtain ⟨a8, b9, c9⟩ := wd_read (s := s) [59] (st := lunS8 s (p, false)) a9
  obtain ⟨m, hm, a7, b8, c8, v8⟩ := md_read (s := s) (st := lunS7 s (p, false)) a8
  obtain ⟨a6, b7, c7⟩ := wd_read (s := s) [32] (st := lunS6 s (p, false)) a7
  obtain ⟨b, hb, a5, b6, c6, v6⟩ := nm_read (s := s) (st := lunS5 s (p, false)) a6
  obtain ⟨a4, b5, c5⟩ := wd_read (s := s) [32] (st := lunS4 s (p, false)) a5
  obtain ⟨n, hn, a3, b4, c4, v4⟩ := nb_read (s := s) (st := lunS3 s (p, false)) a4
  obtain ⟨a2, b3, c3⟩ := wd_read (s := s) [32] (st := lunS2 s (p, false)) a3
  obtain ⟨a, ha, a1, b2, c2, v2⟩ := nm_read (s := s) (st := lunS1 s (p, false)) a2
  obtain ⟨a0, b1, c1⟩ := wd_read (s := s) [108, 117, 110, 32] (st := (p, false)) a1
  have f0 : ((p, false) : Nat × Bool) = (p, false) := rfl
  have f1 : lunS1 s (p, false) = (p + 4, false) := b1
  replace c1 : rest s (p) = [108, 117, 110, 32] ++ rest s (p + 4) := c1
  rw [f1] at c2
  have f2 : lunS2 s (p, false) = (p + 4 + a.length, false) := by show nmS s (lunS1 s (p, false)) = _; rw [b2, f1]
  replace c2 : rest s (p + 4) = a ++ rest s (p + 4 + a.length) := c2
  rw [f2] at c3
  have f3 : lunS3 s (p, false) = (p + 4 + a.length + 1, false) := by show wd s [32] (lunS2 s (p, false)) = _; rw [b3, f2]; rfl
  replace c3 : rest s (p + 4 + a.length) = [32] ++ rest s (p + 4 + a.length + 1) := c3
  rw [f3] at c4
  have f4 : lunS4 s (p, false) = (p + 4 + a.length + 1 + 1, false) := by show nbS s (lunS3 s (p, false)) = _; rw [b4, f3]
  replace c4 : rest s (p + 4 + a.length + 1) = [dg n] ++ rest s (p + 4 + a.length + 1 + 1) := c4
  rw [f4] at c5
  have f5 : lunS5 s (p, false) = (p + 4 + a.length + 1 + 1 + 1, false) := by show wd s [32] (lunS4 s (p, false)) = _; rw [b5, f4]; rfl
  replace c5 : rest s (p + 4 + a.length + 1 + 1) = [32] ++ rest s (p + 4 + a.length + 1 + 1 + 1) := c5
  rw [f5] at c6
  have f6 : lunS6 s (p, false) = (p + 4 + a.length + 1 + 1 + 1 + b.length, false) := by show nmS s (lunS5 s (p, false)) = _; rw [b6, f5]
  replace c6 : rest s (p + 4 + a.length + 1 + 1 + 1) = b ++ rest s (p + 4 + a.length + 1 + 1 + 1 + b.length) := c6
  rw [f6] at c7
  have f7 : lunS7 s (p, false) = (p + 4 + a.length + 1 + 1 + 1 + b.length + 1, false) := by show wd s [32] (lunS6 s (p, false)) = _; rw [b7, f6]; rfl
  replace c7 : rest s (p + 4 + a.length + 1 + 1 + 1 + b.length) = [32] ++ rest s (p + 4 + a.length + 1 + 1 + 1 + b.length + 1) := c7
  rw [f7] at c8
  have f8 : lunS8 s (p, false) = (p + 4 + a.length + 1 + 1 + 1 + b.length + 1 + 2, false) := by show mdS s (lunS7 s (p, false)) = _; rw [b8, f7]
  replace c8 : rest s (p + 4 + a.length + 1 + 1 + 1 + b.length + 1) = [114, md m] ++ rest s (p + 4 + a.length + 1 + 1 + 1 + b.length + 1 + 2) := c8
  rw [f8] at c9
  have f9 : lunS9 s (p, false) = (p + 4 + a.length + 1 + 1 + 1 + b.length + 1 + 2 + 1, false) := by show wd s [59] (lunS8 s (p, false)) = _; rw [b9, f8]; rfl
  replace c9 : rest s (p + 4 + a.length + 1 + 1 + 1 + b.length + 1 + 2) = [59] ++ rest s (p + 4 + a.length + 1 + 1 + 1 + b.length + 1 + 2 + 1) := c9
  have hlen : (It.text ⟨2, a, b, n, m⟩).length + p = p + 4 + a.length + 1 + 1 + 1 + b.length + 1 + 2 + 1 := by simp [It.text, It.body]; omega
  refine ⟨⟨2, a, b, n, m⟩, ⟨ha, Or.inr (Or.inr (Or.inl ⟨rfl, hb, hn, hm⟩))⟩, rfl, ?_, ?_, ?_⟩
  · rw [f9, ← hlen]; simp; omega
  · rw [show p + (It.text ⟨2, a, b, n, m⟩).length = p + 4 + a.length + 1 + 1 + 1 + b.length + 1 + 2 + 1 from by omega]
    rw [c1, c2, c3, c4, c5, c6, c7, c8, c9]
    simp [It.text, It.body]
  · rw [show lunI s (p, false) = ⟨2, nmV s (lunS1 s (p, false)), ⟨#[]⟩, nbV s (lunS3 s (p, false)), 0, nmV s (lunS5 s (p, false)), mdV s (lunS7 s (p, false)), 0, ⟨#[]⟩⟩ from rfl, v2, v6, v4, v8]
    simp [It.item]

theorem lun_gives {s : ByteArray} {p : Nat} {x : It} (hk : x.kind = 2) (hx : x.ok) {r : List UInt8} (h : rest s p = x.text ++ r) : lunS9 s (p, false) = (p + x.text.length, false) ∧ lunI s (p, false) = { x.item with text := ⟨#[]⟩ } := by
  rcases hx with ⟨ha, ⟨e, _⟩ | ⟨e, _⟩ | ⟨_, hb, hn, hm⟩ | ⟨e, _⟩ | ⟨e, _⟩⟩
  all_goals first | (exfalso; omega) | skip
  have d0 : rest s p = [108, 117, 110, 32] ++ (x.a ++ ([32] ++ ([dg x.n] ++ ([32] ++ (x.b ++ ([32] ++ ([114, md x.m] ++ ([59] ++ (r))))))))) := by rw [h]; simp [It.text, It.body, hk]
  have e1 : wd s [108, 117, 110, 32] (p, false) = (p + 4, false) := wd_gives [108, 117, 110, 32] d0
  have d1 : rest s (p + 4) = x.a ++ ([32] ++ ([dg x.n] ++ ([32] ++ (x.b ++ ([32] ++ ([114, md x.m] ++ ([59] ++ (r)))))))) := rest_of (a := [108, 117, 110, 32]) d0
  have e2 : nmS s (p + 4, false) = (p + 4 + x.a.length, false) := nm_gives ha sp_no (by rw [d1]; rfl)
  have d2 : rest s (p + 4 + x.a.length) = [32] ++ ([dg x.n] ++ ([32] ++ (x.b ++ ([32] ++ ([114, md x.m] ++ ([59] ++ (r))))))) := rest_of (a := x.a) d1
  have e3 : wd s [32] (p + 4 + x.a.length, false) = (p + 4 + x.a.length + 1, false) := wd_gives [32] d2
  have d3 : rest s (p + 4 + x.a.length + 1) = [dg x.n] ++ ([32] ++ (x.b ++ ([32] ++ ([114, md x.m] ++ ([59] ++ (r)))))) := rest_of (a := [32]) d2
  have e4 : nbS s (p + 4 + x.a.length + 1, false) = (p + 4 + x.a.length + 1 + 1, false) := nb_gives (n := x.n) hn d3
  have d4 : rest s (p + 4 + x.a.length + 1 + 1) = [32] ++ (x.b ++ ([32] ++ ([114, md x.m] ++ ([59] ++ (r))))) := rest_of (a := [dg x.n]) d3
  have e5 : wd s [32] (p + 4 + x.a.length + 1 + 1, false) = (p + 4 + x.a.length + 1 + 1 + 1, false) := wd_gives [32] d4
  have d5 : rest s (p + 4 + x.a.length + 1 + 1 + 1) = x.b ++ ([32] ++ ([114, md x.m] ++ ([59] ++ (r)))) := rest_of (a := [32]) d4
  have e6 : nmS s (p + 4 + x.a.length + 1 + 1 + 1, false) = (p + 4 + x.a.length + 1 + 1 + 1 + x.b.length, false) := nm_gives hb sp_no (by rw [d5]; rfl)
  have d6 : rest s (p + 4 + x.a.length + 1 + 1 + 1 + x.b.length) = [32] ++ ([114, md x.m] ++ ([59] ++ (r))) := rest_of (a := x.b) d5
  have e7 : wd s [32] (p + 4 + x.a.length + 1 + 1 + 1 + x.b.length, false) = (p + 4 + x.a.length + 1 + 1 + 1 + x.b.length + 1, false) := wd_gives [32] d6
  have d7 : rest s (p + 4 + x.a.length + 1 + 1 + 1 + x.b.length + 1) = [114, md x.m] ++ ([59] ++ (r)) := rest_of (a := [32]) d6
  have e8 : mdS s (p + 4 + x.a.length + 1 + 1 + 1 + x.b.length + 1, false) = (p + 4 + x.a.length + 1 + 1 + 1 + x.b.length + 1 + 2, false) := (md_gives d7).1
  have d8 : rest s (p + 4 + x.a.length + 1 + 1 + 1 + x.b.length + 1 + 2) = [59] ++ (r) := rest_of (a := [114, md x.m]) d7
  have e9 : wd s [59] (p + 4 + x.a.length + 1 + 1 + 1 + x.b.length + 1 + 2, false) = (p + 4 + x.a.length + 1 + 1 + 1 + x.b.length + 1 + 2 + 1, false) := wd_gives [59] d8
  have d9 : rest s (p + 4 + x.a.length + 1 + 1 + 1 + x.b.length + 1 + 2 + 1) = r := rest_of (a := [59]) d8
  have f1 : lunS1 s (p, false) = (p + 4, false) := e1
  have f2 : lunS2 s (p, false) = (p + 4 + x.a.length, false) := by show nmS s (lunS1 s (p, false)) = _; rw [f1]; exact e2
  have f3 : lunS3 s (p, false) = (p + 4 + x.a.length + 1, false) := by show wd s [32] (lunS2 s (p, false)) = _; rw [f2]; exact e3
  have f4 : lunS4 s (p, false) = (p + 4 + x.a.length + 1 + 1, false) := by show nbS s (lunS3 s (p, false)) = _; rw [f3]; exact e4
  have f5 : lunS5 s (p, false) = (p + 4 + x.a.length + 1 + 1 + 1, false) := by show wd s [32] (lunS4 s (p, false)) = _; rw [f4]; exact e5
  have f6 : lunS6 s (p, false) = (p + 4 + x.a.length + 1 + 1 + 1 + x.b.length, false) := by show nmS s (lunS5 s (p, false)) = _; rw [f5]; exact e6
  have f7 : lunS7 s (p, false) = (p + 4 + x.a.length + 1 + 1 + 1 + x.b.length + 1, false) := by show wd s [32] (lunS6 s (p, false)) = _; rw [f6]; exact e7
  have f8 : lunS8 s (p, false) = (p + 4 + x.a.length + 1 + 1 + 1 + x.b.length + 1 + 2, false) := by show mdS s (lunS7 s (p, false)) = _; rw [f7]; exact e8
  have f9 : lunS9 s (p, false) = (p + 4 + x.a.length + 1 + 1 + 1 + x.b.length + 1 + 2 + 1, false) := by show wd s [59] (lunS8 s (p, false)) = _; rw [f8]; exact e9
  have v2 : nmV s (lunS1 s (p, false)) = ⟨x.a.toArray⟩ := by rw [f1]; unfold nmV; rw [e2]; exact extract_rest d1
  have v4 : nbV s (lunS3 s (p, false)) = x.n := by rw [f3]; unfold nbV; rw [e4, byteAt_cons (c := dg x.n) (by rw [d3]; rfl), dg_nat (by omega)]; simp; omega
  have v6 : nmV s (lunS5 s (p, false)) = ⟨x.b.toArray⟩ := by rw [f5]; unfold nmV; rw [e6]; exact extract_rest d5
  have v8 : mdV s (lunS7 s (p, false)) = decide (x.m = 0) := by rw [f7]; exact (md_gives d7).2
  refine ⟨?_, ?_⟩
  · rw [f9]
    simp [It.text, It.body, hk]
    omega
  · rw [show lunI s (p, false) = ⟨2, nmV s (lunS1 s (p, false)), ⟨#[]⟩, nbV s (lunS3 s (p, false)), 0, nmV s (lunS5 s (p, false)), mdV s (lunS7 s (p, false)), 0, ⟨#[]⟩⟩ from rfl, v2, v6, v4, v8]
    simp [It.item, hk]

theorem host_read {s : ByteArray} {p : Nat} (h : (hostS5 s (p, false)).2 = false) :
    ∃ x : It, x.ok ∧ x.kind = 3 ∧ hostS5 s (p, false) = (p + x.text.length, false) ∧ rest s p = x.text ++ rest s (p + x.text.length) ∧ hostI s (p, false) = { x.item with text := ⟨#[]⟩ } := by
  have a5 : (hostS5 s (p, false)).2 = false := h
  obtain ⟨a4, b5, c5⟩ := wd_read (s := s) [59] (st := hostS4 s (p, false)) a5
  obtain ⟨b, hb, a3, b4, c4, v4⟩ := nm_read (s := s) (st := hostS3 s (p, false)) a4
  obtain ⟨a2, b3, c3⟩ := wd_read (s := s) [32] (st := hostS2 s (p, false)) a3
  obtain ⟨a, ha, a1, b2, c2, v2⟩ := nm_read (s := s) (st := hostS1 s (p, false)) a2
  obtain ⟨a0, b1, c1⟩ := wd_read (s := s) [104, 111, 115, 116, 32] (st := (p, false)) a1
  have f0 : ((p, false) : Nat × Bool) = (p, false) := rfl
  have f1 : hostS1 s (p, false) = (p + 5, false) := b1
  replace c1 : rest s (p) = [104, 111, 115, 116, 32] ++ rest s (p + 5) := c1
  rw [f1] at c2
  have f2 : hostS2 s (p, false) = (p + 5 + a.length, false) := by show nmS s (hostS1 s (p, false)) = _; rw [b2, f1]
  replace c2 : rest s (p + 5) = a ++ rest s (p + 5 + a.length) := c2
  rw [f2] at c3
  have f3 : hostS3 s (p, false) = (p + 5 + a.length + 1, false) := by show wd s [32] (hostS2 s (p, false)) = _; rw [b3, f2]; rfl
  replace c3 : rest s (p + 5 + a.length) = [32] ++ rest s (p + 5 + a.length + 1) := c3
  rw [f3] at c4
  have f4 : hostS4 s (p, false) = (p + 5 + a.length + 1 + b.length, false) := by show nmS s (hostS3 s (p, false)) = _; rw [b4, f3]
  replace c4 : rest s (p + 5 + a.length + 1) = b ++ rest s (p + 5 + a.length + 1 + b.length) := c4
  rw [f4] at c5
  have f5 : hostS5 s (p, false) = (p + 5 + a.length + 1 + b.length + 1, false) := by show wd s [59] (hostS4 s (p, false)) = _; rw [b5, f4]; rfl
  replace c5 : rest s (p + 5 + a.length + 1 + b.length) = [59] ++ rest s (p + 5 + a.length + 1 + b.length + 1) := c5
  have hlen : (It.text ⟨3, a, b, 0, 0⟩).length + p = p + 5 + a.length + 1 + b.length + 1 := by simp [It.text, It.body]; omega
  refine ⟨⟨3, a, b, 0, 0⟩, ⟨ha, Or.inr (Or.inr (Or.inr (Or.inl ⟨rfl, hb, rfl, rfl⟩)))⟩, rfl, ?_, ?_, ?_⟩
  · rw [f5, ← hlen]; simp; omega
  · rw [show p + (It.text ⟨3, a, b, 0, 0⟩).length = p + 5 + a.length + 1 + b.length + 1 from by omega]
    rw [c1, c2, c3, c4, c5]
    simp [It.text, It.body]
  · rw [show hostI s (p, false) = ⟨3, nmV s (hostS1 s (p, false)), nmV s (hostS3 s (p, false)), 0, 0, ⟨#[]⟩, false, 0, ⟨#[]⟩⟩ from rfl, v2, v4]
    simp [It.item]

theorem host_gives {s : ByteArray} {p : Nat} {x : It} (hk : x.kind = 3) (hx : x.ok) {r : List UInt8} (h : rest s p = x.text ++ r) : hostS5 s (p, false) = (p + x.text.length, false) ∧ hostI s (p, false) = { x.item with text := ⟨#[]⟩ } := by
  rcases hx with ⟨ha, ⟨e, _⟩ | ⟨e, _⟩ | ⟨e, _⟩ | ⟨_, hb, _⟩ | ⟨e, _⟩⟩
  all_goals first | (exfalso; omega) | skip
  have d0 : rest s p = [104, 111, 115, 116, 32] ++ (x.a ++ ([32] ++ (x.b ++ ([59] ++ (r))))) := by rw [h]; simp [It.text, It.body, hk]
  have e1 : wd s [104, 111, 115, 116, 32] (p, false) = (p + 5, false) := wd_gives [104, 111, 115, 116, 32] d0
  have d1 : rest s (p + 5) = x.a ++ ([32] ++ (x.b ++ ([59] ++ (r)))) := rest_of (a := [104, 111, 115, 116, 32]) d0
  have e2 : nmS s (p + 5, false) = (p + 5 + x.a.length, false) := nm_gives ha sp_no (by rw [d1]; rfl)
  have d2 : rest s (p + 5 + x.a.length) = [32] ++ (x.b ++ ([59] ++ (r))) := rest_of (a := x.a) d1
  have e3 : wd s [32] (p + 5 + x.a.length, false) = (p + 5 + x.a.length + 1, false) := wd_gives [32] d2
  have d3 : rest s (p + 5 + x.a.length + 1) = x.b ++ ([59] ++ (r)) := rest_of (a := [32]) d2
  have e4 : nmS s (p + 5 + x.a.length + 1, false) = (p + 5 + x.a.length + 1 + x.b.length, false) := nm_gives hb sc_no (by rw [d3]; rfl)
  have d4 : rest s (p + 5 + x.a.length + 1 + x.b.length) = [59] ++ (r) := rest_of (a := x.b) d3
  have e5 : wd s [59] (p + 5 + x.a.length + 1 + x.b.length, false) = (p + 5 + x.a.length + 1 + x.b.length + 1, false) := wd_gives [59] d4
  have d5 : rest s (p + 5 + x.a.length + 1 + x.b.length + 1) = r := rest_of (a := [59]) d4
  have f1 : hostS1 s (p, false) = (p + 5, false) := e1
  have f2 : hostS2 s (p, false) = (p + 5 + x.a.length, false) := by show nmS s (hostS1 s (p, false)) = _; rw [f1]; exact e2
  have f3 : hostS3 s (p, false) = (p + 5 + x.a.length + 1, false) := by show wd s [32] (hostS2 s (p, false)) = _; rw [f2]; exact e3
  have f4 : hostS4 s (p, false) = (p + 5 + x.a.length + 1 + x.b.length, false) := by show nmS s (hostS3 s (p, false)) = _; rw [f3]; exact e4
  have f5 : hostS5 s (p, false) = (p + 5 + x.a.length + 1 + x.b.length + 1, false) := by show wd s [59] (hostS4 s (p, false)) = _; rw [f4]; exact e5
  have v2 : nmV s (hostS1 s (p, false)) = ⟨x.a.toArray⟩ := by rw [f1]; unfold nmV; rw [e2]; exact extract_rest d1
  have v4 : nmV s (hostS3 s (p, false)) = ⟨x.b.toArray⟩ := by rw [f3]; unfold nmV; rw [e4]; exact extract_rest d3
  refine ⟨?_, ?_⟩
  · rw [f5]
    simp [It.text, It.body, hk]
    omega
  · rw [show hostI s (p, false) = ⟨3, nmV s (hostS1 s (p, false)), nmV s (hostS3 s (p, false)), 0, 0, ⟨#[]⟩, false, 0, ⟨#[]⟩⟩ from rfl, v2, v4]
    simp [It.item, hk]

theorem maps_read {s : ByteArray} {p : Nat} (h : (mapsS9 s (p, false)).2 = false) :
    ∃ x : It, x.ok ∧ x.kind = 4 ∧ mapsS9 s (p, false) = (p + x.text.length, false) ∧ rest s p = x.text ++ rest s (p + x.text.length) ∧ mapsI s (p, false) = { x.item with text := ⟨#[]⟩ } := by
  have a9 : (mapsS9 s (p, false)).2 = false := h
  obtain ⟨a8, b9, c9⟩ := wd_read (s := s) [59] (st := mapsS8 s (p, false)) a9
  obtain ⟨m, hm, a7, b8, c8, v8⟩ := nb_read (s := s) (st := mapsS7 s (p, false)) a8
  obtain ⟨a6, b7, c7⟩ := wd_read (s := s) [32] (st := mapsS6 s (p, false)) a7
  obtain ⟨n, hn, a5, b6, c6, v6⟩ := nb_read (s := s) (st := mapsS5 s (p, false)) a6
  obtain ⟨a4, b5, c5⟩ := wd_read (s := s) [32] (st := mapsS4 s (p, false)) a5
  obtain ⟨b, hb, a3, b4, c4, v4⟩ := nm_read (s := s) (st := mapsS3 s (p, false)) a4
  obtain ⟨a2, b3, c3⟩ := wd_read (s := s) [32] (st := mapsS2 s (p, false)) a3
  obtain ⟨a, ha, a1, b2, c2, v2⟩ := nm_read (s := s) (st := mapsS1 s (p, false)) a2
  obtain ⟨a0, b1, c1⟩ := wd_read (s := s) [109, 97, 112, 32] (st := (p, false)) a1
  have f0 : ((p, false) : Nat × Bool) = (p, false) := rfl
  have f1 : mapsS1 s (p, false) = (p + 4, false) := b1
  replace c1 : rest s (p) = [109, 97, 112, 32] ++ rest s (p + 4) := c1
  rw [f1] at c2
  have f2 : mapsS2 s (p, false) = (p + 4 + a.length, false) := by show nmS s (mapsS1 s (p, false)) = _; rw [b2, f1]
  replace c2 : rest s (p + 4) = a ++ rest s (p + 4 + a.length) := c2
  rw [f2] at c3
  have f3 : mapsS3 s (p, false) = (p + 4 + a.length + 1, false) := by show wd s [32] (mapsS2 s (p, false)) = _; rw [b3, f2]; rfl
  replace c3 : rest s (p + 4 + a.length) = [32] ++ rest s (p + 4 + a.length + 1) := c3
  rw [f3] at c4
  have f4 : mapsS4 s (p, false) = (p + 4 + a.length + 1 + b.length, false) := by show nmS s (mapsS3 s (p, false)) = _; rw [b4, f3]
  replace c4 : rest s (p + 4 + a.length + 1) = b ++ rest s (p + 4 + a.length + 1 + b.length) := c4
  rw [f4] at c5
  have f5 : mapsS5 s (p, false) = (p + 4 + a.length + 1 + b.length + 1, false) := by show wd s [32] (mapsS4 s (p, false)) = _; rw [b5, f4]; rfl
  replace c5 : rest s (p + 4 + a.length + 1 + b.length) = [32] ++ rest s (p + 4 + a.length + 1 + b.length + 1) := c5
  rw [f5] at c6
  have f6 : mapsS6 s (p, false) = (p + 4 + a.length + 1 + b.length + 1 + 1, false) := by show nbS s (mapsS5 s (p, false)) = _; rw [b6, f5]
  replace c6 : rest s (p + 4 + a.length + 1 + b.length + 1) = [dg n] ++ rest s (p + 4 + a.length + 1 + b.length + 1 + 1) := c6
  rw [f6] at c7
  have f7 : mapsS7 s (p, false) = (p + 4 + a.length + 1 + b.length + 1 + 1 + 1, false) := by show wd s [32] (mapsS6 s (p, false)) = _; rw [b7, f6]; rfl
  replace c7 : rest s (p + 4 + a.length + 1 + b.length + 1 + 1) = [32] ++ rest s (p + 4 + a.length + 1 + b.length + 1 + 1 + 1) := c7
  rw [f7] at c8
  have f8 : mapsS8 s (p, false) = (p + 4 + a.length + 1 + b.length + 1 + 1 + 1 + 1, false) := by show nbS s (mapsS7 s (p, false)) = _; rw [b8, f7]
  replace c8 : rest s (p + 4 + a.length + 1 + b.length + 1 + 1 + 1) = [dg m] ++ rest s (p + 4 + a.length + 1 + b.length + 1 + 1 + 1 + 1) := c8
  rw [f8] at c9
  have f9 : mapsS9 s (p, false) = (p + 4 + a.length + 1 + b.length + 1 + 1 + 1 + 1 + 1, false) := by show wd s [59] (mapsS8 s (p, false)) = _; rw [b9, f8]; rfl
  replace c9 : rest s (p + 4 + a.length + 1 + b.length + 1 + 1 + 1 + 1) = [59] ++ rest s (p + 4 + a.length + 1 + b.length + 1 + 1 + 1 + 1 + 1) := c9
  have hlen : (It.text ⟨4, a, b, n, m⟩).length + p = p + 4 + a.length + 1 + b.length + 1 + 1 + 1 + 1 + 1 := by simp [It.text, It.body]; omega
  refine ⟨⟨4, a, b, n, m⟩, ⟨ha, Or.inr (Or.inr (Or.inr (Or.inr ⟨rfl, hb, hn, hm⟩)))⟩, rfl, ?_, ?_, ?_⟩
  · rw [f9, ← hlen]; simp; omega
  · rw [show p + (It.text ⟨4, a, b, n, m⟩).length = p + 4 + a.length + 1 + b.length + 1 + 1 + 1 + 1 + 1 from by omega]
    rw [c1, c2, c3, c4, c5, c6, c7, c8, c9]
    simp [It.text, It.body]
  · rw [show mapsI s (p, false) = ⟨4, nmV s (mapsS1 s (p, false)), nmV s (mapsS3 s (p, false)), nbV s (mapsS5 s (p, false)), 0, ⟨#[]⟩, false, nbV s (mapsS7 s (p, false)), ⟨#[]⟩⟩ from rfl, v2, v4, v6, v8]
    simp [It.item]

theorem maps_gives {s : ByteArray} {p : Nat} {x : It} (hk : x.kind = 4) (hx : x.ok) {r : List UInt8} (h : rest s p = x.text ++ r) : mapsS9 s (p, false) = (p + x.text.length, false) ∧ mapsI s (p, false) = { x.item with text := ⟨#[]⟩ } := by
  rcases hx with ⟨ha, ⟨e, _⟩ | ⟨e, _⟩ | ⟨e, _⟩ | ⟨e, _⟩ | ⟨_, hb, hn, hm⟩⟩
  all_goals first | (exfalso; omega) | skip
  have d0 : rest s p = [109, 97, 112, 32] ++ (x.a ++ ([32] ++ (x.b ++ ([32] ++ ([dg x.n] ++ ([32] ++ ([dg x.m] ++ ([59] ++ (r))))))))) := by rw [h]; simp [It.text, It.body, hk]
  have e1 : wd s [109, 97, 112, 32] (p, false) = (p + 4, false) := wd_gives [109, 97, 112, 32] d0
  have d1 : rest s (p + 4) = x.a ++ ([32] ++ (x.b ++ ([32] ++ ([dg x.n] ++ ([32] ++ ([dg x.m] ++ ([59] ++ (r)))))))) := rest_of (a := [109, 97, 112, 32]) d0
  have e2 : nmS s (p + 4, false) = (p + 4 + x.a.length, false) := nm_gives ha sp_no (by rw [d1]; rfl)
  have d2 : rest s (p + 4 + x.a.length) = [32] ++ (x.b ++ ([32] ++ ([dg x.n] ++ ([32] ++ ([dg x.m] ++ ([59] ++ (r))))))) := rest_of (a := x.a) d1
  have e3 : wd s [32] (p + 4 + x.a.length, false) = (p + 4 + x.a.length + 1, false) := wd_gives [32] d2
  have d3 : rest s (p + 4 + x.a.length + 1) = x.b ++ ([32] ++ ([dg x.n] ++ ([32] ++ ([dg x.m] ++ ([59] ++ (r)))))) := rest_of (a := [32]) d2
  have e4 : nmS s (p + 4 + x.a.length + 1, false) = (p + 4 + x.a.length + 1 + x.b.length, false) := nm_gives hb sp_no (by rw [d3]; rfl)
  have d4 : rest s (p + 4 + x.a.length + 1 + x.b.length) = [32] ++ ([dg x.n] ++ ([32] ++ ([dg x.m] ++ ([59] ++ (r))))) := rest_of (a := x.b) d3
  have e5 : wd s [32] (p + 4 + x.a.length + 1 + x.b.length, false) = (p + 4 + x.a.length + 1 + x.b.length + 1, false) := wd_gives [32] d4
  have d5 : rest s (p + 4 + x.a.length + 1 + x.b.length + 1) = [dg x.n] ++ ([32] ++ ([dg x.m] ++ ([59] ++ (r)))) := rest_of (a := [32]) d4
  have e6 : nbS s (p + 4 + x.a.length + 1 + x.b.length + 1, false) = (p + 4 + x.a.length + 1 + x.b.length + 1 + 1, false) := nb_gives (n := x.n) hn d5
  have d6 : rest s (p + 4 + x.a.length + 1 + x.b.length + 1 + 1) = [32] ++ ([dg x.m] ++ ([59] ++ (r))) := rest_of (a := [dg x.n]) d5
  have e7 : wd s [32] (p + 4 + x.a.length + 1 + x.b.length + 1 + 1, false) = (p + 4 + x.a.length + 1 + x.b.length + 1 + 1 + 1, false) := wd_gives [32] d6
  have d7 : rest s (p + 4 + x.a.length + 1 + x.b.length + 1 + 1 + 1) = [dg x.m] ++ ([59] ++ (r)) := rest_of (a := [32]) d6
  have e8 : nbS s (p + 4 + x.a.length + 1 + x.b.length + 1 + 1 + 1, false) = (p + 4 + x.a.length + 1 + x.b.length + 1 + 1 + 1 + 1, false) := nb_gives (n := x.m) hm d7
  have d8 : rest s (p + 4 + x.a.length + 1 + x.b.length + 1 + 1 + 1 + 1) = [59] ++ (r) := rest_of (a := [dg x.m]) d7
  have e9 : wd s [59] (p + 4 + x.a.length + 1 + x.b.length + 1 + 1 + 1 + 1, false) = (p + 4 + x.a.length + 1 + x.b.length + 1 + 1 + 1 + 1 + 1, false) := wd_gives [59] d8
  have d9 : rest s (p + 4 + x.a.length + 1 + x.b.length + 1 + 1 + 1 + 1 + 1) = r := rest_of (a := [59]) d8
  have f1 : mapsS1 s (p, false) = (p + 4, false) := e1
  have f2 : mapsS2 s (p, false) = (p + 4 + x.a.length, false) := by show nmS s (mapsS1 s (p, false)) = _; rw [f1]; exact e2
  have f3 : mapsS3 s (p, false) = (p + 4 + x.a.length + 1, false) := by show wd s [32] (mapsS2 s (p, false)) = _; rw [f2]; exact e3
  have f4 : mapsS4 s (p, false) = (p + 4 + x.a.length + 1 + x.b.length, false) := by show nmS s (mapsS3 s (p, false)) = _; rw [f3]; exact e4
  have f5 : mapsS5 s (p, false) = (p + 4 + x.a.length + 1 + x.b.length + 1, false) := by show wd s [32] (mapsS4 s (p, false)) = _; rw [f4]; exact e5
  have f6 : mapsS6 s (p, false) = (p + 4 + x.a.length + 1 + x.b.length + 1 + 1, false) := by show nbS s (mapsS5 s (p, false)) = _; rw [f5]; exact e6
  have f7 : mapsS7 s (p, false) = (p + 4 + x.a.length + 1 + x.b.length + 1 + 1 + 1, false) := by show wd s [32] (mapsS6 s (p, false)) = _; rw [f6]; exact e7
  have f8 : mapsS8 s (p, false) = (p + 4 + x.a.length + 1 + x.b.length + 1 + 1 + 1 + 1, false) := by show nbS s (mapsS7 s (p, false)) = _; rw [f7]; exact e8
  have f9 : mapsS9 s (p, false) = (p + 4 + x.a.length + 1 + x.b.length + 1 + 1 + 1 + 1 + 1, false) := by show wd s [59] (mapsS8 s (p, false)) = _; rw [f8]; exact e9
  have v2 : nmV s (mapsS1 s (p, false)) = ⟨x.a.toArray⟩ := by rw [f1]; unfold nmV; rw [e2]; exact extract_rest d1
  have v4 : nmV s (mapsS3 s (p, false)) = ⟨x.b.toArray⟩ := by rw [f3]; unfold nmV; rw [e4]; exact extract_rest d3
  have v6 : nbV s (mapsS5 s (p, false)) = x.n := by rw [f5]; unfold nbV; rw [e6, byteAt_cons (c := dg x.n) (by rw [d5]; rfl), dg_nat (by omega)]; simp; omega
  have v8 : nbV s (mapsS7 s (p, false)) = x.m := by rw [f7]; unfold nbV; rw [e8, byteAt_cons (c := dg x.m) (by rw [d7]; rfl), dg_nat (by omega)]; simp; omega
  refine ⟨?_, ?_⟩
  · rw [f9]
    simp [It.text, It.body, hk]
    omega
  · rw [show mapsI s (p, false) = ⟨4, nmV s (mapsS1 s (p, false)), nmV s (mapsS3 s (p, false)), nbV s (mapsS5 s (p, false)), 0, ⟨#[]⟩, false, nbV s (mapsS7 s (p, false)), ⟨#[]⟩⟩ from rfl, v2, v4, v6, v8]
    simp [It.item, hk]

end Go.Proofs.YtdlhgbhaeedbdabGreat

/- Lists of items: their text, read and given. -/
namespace Go.Proofs.YtdlhgbhaeedbdabGreat
open Go.RowKit

theorem body_first (x : It) (hx : x.ok) : ∃ l, x.text = (if x.kind = 0 then 100 else if x.kind = 1 then 116 else if x.kind = 2 then 108 else if x.kind = 3 then 104 else 109 : UInt8) :: l := by
  rcases hx with ⟨_, ⟨e, _⟩ | ⟨e, _⟩ | ⟨e, _⟩ | ⟨e, _⟩ | ⟨e, _⟩⟩ <;> simp [It.text, It.body, e]

theorem kind_le {x : It} (hx : x.ok) : x.kind ≤ 4 := by
  rcases hx with ⟨_, ⟨e, _⟩ | ⟨e, _⟩ | ⟨e, _⟩ | ⟨e, _⟩ | ⟨e, _⟩⟩ <;> omega

theorem item_eq {s : ByteArray} {p : Nat} {x : It} (h1 : itemS s (p, false) = (p + x.text.length, false)) (h2 : rest s p = x.text ++ rest s (p + x.text.length)) (h3 : itemI s (p, false) = { x.item with text := ⟨#[]⟩ }) : itemAt s p = x.item := by
  unfold itemAt itemT
  rw [h1, h3, extract_rest h2]
  rfl

theorem item_read {s : ByteArray} {p : Nat} (h : (itemS s (p, false)).2 = false) :
    ∃ x : It, x.ok ∧ itemS s (p, false) = (p + x.text.length, false) ∧ rest s p = x.text ++ rest s (p + x.text.length) ∧ itemAt s p = x.item := by
  by_cases h1 : byteAt s p = 100
  · have e1 : itemI s (p, false) = diskI s (p, false) := by simp only [itemI, h1, if_true]
    have e2 : itemS s (p, false) = diskS5 s (p, false) := by simp only [itemS, h1, if_true]
    rw [e2] at h
    obtain ⟨x, a, _, b, c, d⟩ := disk_read h
    exact ⟨x, a, e2.trans b, c, item_eq (e2.trans b) c (e1.trans d)⟩
  by_cases h2 : byteAt s p = 116
  · have e1 : itemI s (p, false) = targetI s (p, false) := by simp only [itemI, h2]; simp
    have e2 : itemS s (p, false) = targetS3 s (p, false) := by simp only [itemS, h2]; simp
    rw [e2] at h
    obtain ⟨x, a, _, b, c, d⟩ := target_read h
    exact ⟨x, a, e2.trans b, c, item_eq (e2.trans b) c (e1.trans d)⟩
  by_cases h3 : byteAt s p = 108
  · have e1 : itemI s (p, false) = lunI s (p, false) := by simp only [itemI, h3]; simp
    have e2 : itemS s (p, false) = lunS9 s (p, false) := by simp only [itemS, h3]; simp
    rw [e2] at h
    obtain ⟨x, a, _, b, c, d⟩ := lun_read h
    exact ⟨x, a, e2.trans b, c, item_eq (e2.trans b) c (e1.trans d)⟩
  by_cases h4 : byteAt s p = 104
  · have e1 : itemI s (p, false) = hostI s (p, false) := by simp only [itemI, h4]; simp
    have e2 : itemS s (p, false) = hostS5 s (p, false) := by simp only [itemS, h4]; simp
    rw [e2] at h
    obtain ⟨x, a, _, b, c, d⟩ := host_read h
    exact ⟨x, a, e2.trans b, c, item_eq (e2.trans b) c (e1.trans d)⟩
  by_cases h5 : byteAt s p = 109
  · have e1 : itemI s (p, false) = mapsI s (p, false) := by simp only [itemI, h5]; simp
    have e2 : itemS s (p, false) = mapsS9 s (p, false) := by simp only [itemS, h5]; simp
    rw [e2] at h
    obtain ⟨x, a, _, b, c, d⟩ := maps_read h
    exact ⟨x, a, e2.trans b, c, item_eq (e2.trans b) c (e1.trans d)⟩
  · have e2 : itemS s (p, false) = (p, true) := by simp only [itemS, if_neg h1, if_neg h2, if_neg h3, if_neg h4, if_neg h5]
    rw [e2] at h
    simp at h

theorem item_gives {s : ByteArray} {p : Nat} {x : It} (hx : x.ok) {r : List UInt8} (h : rest s p = x.text ++ r) : itemS s (p, false) = (p + x.text.length, false) ∧ itemAt s p = x.item := by
  obtain ⟨l, hl⟩ := body_first x hx
  have hb := byteAt_cons (s := s) (p := p) (by rw [h, hl]; rfl)
  have hr : rest s p = x.text ++ rest s (p + x.text.length) := by rw [rest_of h]; exact h
  have hk : x.kind = 0 ∨ x.kind = 1 ∨ x.kind = 2 ∨ x.kind = 3 ∨ x.kind = 4 := by have := kind_le hx; omega
  rcases hk with hk | hk | hk | hk | hk
  · obtain ⟨a, b⟩ := disk_gives hk hx h
    have h1 : byteAt s p = 100 := by rw [hb]; simp [hk]
    have e1 : itemI s (p, false) = diskI s (p, false) := by simp only [itemI, h1, if_true]
    have e2 : itemS s (p, false) = diskS5 s (p, false) := by simp only [itemS, h1, if_true]
    exact ⟨e2.trans a, item_eq (e2.trans a) hr (e1.trans b)⟩
  · obtain ⟨a, b⟩ := target_gives hk hx h
    have h1 : byteAt s p = 116 := by rw [hb]; simp [hk]
    have e1 : itemI s (p, false) = targetI s (p, false) := by simp only [itemI, h1]; simp
    have e2 : itemS s (p, false) = targetS3 s (p, false) := by simp only [itemS, h1]; simp
    exact ⟨e2.trans a, item_eq (e2.trans a) hr (e1.trans b)⟩
  · obtain ⟨a, b⟩ := lun_gives hk hx h
    have h1 : byteAt s p = 108 := by rw [hb]; simp [hk]
    have e1 : itemI s (p, false) = lunI s (p, false) := by simp only [itemI, h1]; simp
    have e2 : itemS s (p, false) = lunS9 s (p, false) := by simp only [itemS, h1]; simp
    exact ⟨e2.trans a, item_eq (e2.trans a) hr (e1.trans b)⟩
  · obtain ⟨a, b⟩ := host_gives hk hx h
    have h1 : byteAt s p = 104 := by rw [hb]; simp [hk]
    have e1 : itemI s (p, false) = hostI s (p, false) := by simp only [itemI, h1]; simp
    have e2 : itemS s (p, false) = hostS5 s (p, false) := by simp only [itemS, h1]; simp
    exact ⟨e2.trans a, item_eq (e2.trans a) hr (e1.trans b)⟩
  · obtain ⟨a, b⟩ := maps_gives hk hx h
    have h1 : byteAt s p = 109 := by rw [hb]; simp [hk]
    have e1 : itemI s (p, false) = mapsI s (p, false) := by simp only [itemI, h1]; simp
    have e2 : itemS s (p, false) = mapsS9 s (p, false) := by simp only [itemS, h1]; simp
    exact ⟨e2.trans a, item_eq (e2.trans a) hr (e1.trans b)⟩

/-- The text of a list of items. -/
def catT (l : List It) : List UInt8 := l.flatMap It.text

theorem text_ne (x : It) : x.text ≠ [] := by simp [It.text]

theorem rd_gives (l : List It) (hl : ∀ x ∈ l, x.ok) (s : ByteArray) (n p : Nat) (acc : List Item) (hn : l.length ≤ n) (h : rest s p = catT l) : rdAll s n p acc = (acc ++ l.map It.item, 0, true) := by
  induction l generalizing n p acc with
  | nil =>
    have hp : ¬ p < s.size := by have := rest_nil.1 (show rest s p = [] from h); omega
    cases n <;> simp [rdAll, hp]
  | cons x l ih =>
    have hp : p < s.size := by
      by_cases c : s.size ≤ p
      · have := rest_nil.2 c
        rw [h] at this
        simp [catT, It.text] at this
      · omega
    have h' : rest s p = x.text ++ catT l := h
    obtain ⟨a, b⟩ := item_gives (hl x (by simp)) h'
    match n, hn with
    | n + 1, hn =>
      unfold rdAll
      rw [if_pos hp, a]
      simp only [Bool.false_eq_true, if_false]
      rw [ih (fun y hy => hl y (by simp [hy])) n _ _ (by simpa using hn) (rest_of h'), b]
      simp

theorem rd_read (s : ByteArray) (n p : Nat) (acc : List Item) (h : (rdAll s n p acc).2.2 = true) : ∃ l : List It, (∀ x ∈ l, x.ok) ∧ l.length ≤ n ∧ rest s p = catT l ∧ (rdAll s n p acc).1 = acc ++ l.map It.item := by
  induction n generalizing p acc with
  | zero =>
    unfold rdAll at h ⊢
    by_cases hp : p < s.size
    · simp [hp] at h
    · exact ⟨[], by simp, by simp, rest_nil.2 (by omega), by simp [hp]⟩
  | succ n ih =>
    unfold rdAll at h ⊢
    by_cases hp : p < s.size
    · rw [if_pos hp] at h ⊢
      by_cases hb : (itemS s (p, false)).2 = true
      · simp [hb] at h
      · rw [if_neg hb] at h ⊢
        obtain ⟨x, a, b, c, d⟩ := item_read (by simpa using hb)
        obtain ⟨l, l1, l2, l3, l4⟩ := ih _ _ h
        refine ⟨x :: l, ?_, by simp; omega, ?_, ?_⟩
        · intro y hy
          rcases List.mem_cons.1 hy with rfl | hy
          · exact a
          · exact l1 y hy
        · rw [b] at l3
          simp only at l3
          rw [c, l3]; rfl
        · rw [l4, d]; simp
    · exact ⟨[], by simp, by simp, rest_nil.2 (by omega), by simp [hp]⟩

end Go.Proofs.YtdlhgbhaeedbdabGreat

/- The order of keys; sorting. Plain mathematics. -/
namespace Go.Proofs.YtdlhgbhaeedbdabGreat
open Go.RowKit

theorem bl_irrefl (x : List UInt8) : Op.bytesLess x x = false := by
  induction x with
  | nil => rfl
  | cons a x ih => simp [Op.bytesLess, ih]

theorem bl_trans : ∀ {x y z : List UInt8}, Op.bytesLess x y = true → Op.bytesLess y z = true → Op.bytesLess x z = true
  | _, [], _, h, _ => by simp [Op.bytesLess] at h
  | _, _ :: _, [], _, h => by simp [Op.bytesLess] at h
  | [], _ :: _, _ :: _, _, _ => rfl
  | a :: x, b :: y, c :: z, h1, h2 => by
    simp only [Op.bytesLess, Bool.or_eq_true, Bool.and_eq_true, decide_eq_true_eq, beq_iff_eq] at h1 h2 ⊢
    rcases h1 with h1 | ⟨rfl, h1⟩
    · rcases h2 with h2 | ⟨rfl, h2⟩
      · exact Or.inl (UInt8.lt_trans h1 h2)
      · exact Or.inl h1
    · rcases h2 with h2 | ⟨rfl, h2⟩
      · exact Or.inl h2
      · exact Or.inr ⟨rfl, bl_trans h1 h2⟩

theorem bl_total : ∀ {x y : List UInt8}, x ≠ y → Op.bytesLess x y = true ∨ Op.bytesLess y x = true
  | [], [], h => absurd rfl h
  | [], _ :: _, _ => Or.inl rfl
  | _ :: _, [], _ => Or.inr rfl
  | a :: x, b :: y, h => by
    simp only [Op.bytesLess, Bool.or_eq_true, Bool.and_eq_true, decide_eq_true_eq, beq_iff_eq]
    by_cases e : a = b
    · subst e
      have : x ≠ y := fun e => h (by rw [e])
      rcases bl_total this with h1 | h1
      · exact Or.inl (Or.inr ⟨rfl, h1⟩)
      · exact Or.inr (Or.inr ⟨rfl, h1⟩)
    · rcases UInt8.lt_or_lt_of_ne e with h1 | h1
      · exact Or.inl (Or.inl h1)
      · exact Or.inr (Or.inl h1)

theorem tl_eq {a b : ByteArray} : a.toList = b.toList ↔ a = b := ⟨tl_inj, fun h => by rw [h]⟩

/-- The order, said by cases. -/
def LtK (x y : Item) : Prop :=
  x.kind < y.kind ∨ (x.kind = y.kind ∧ (Op.bytesLess x.name.toList y.name.toList = true ∨ (x.name = y.name ∧ (Op.bytesLess x.host.toList y.host.toList = true ∨ (x.host = y.host ∧ x.number < y.number)))))

theorem lessIt_iff (x y : Item) : lessIt x y = true ↔ LtK x y := by
  unfold lessIt lessK LtK
  by_cases h1 : x.kind = y.kind
  · by_cases h2 : x.name = y.name
    · by_cases h3 : x.host = y.host
      · simp [h1, h2, h3, bl_irrefl]
      · simp [h1, h2, h3, bl_irrefl]
    · simp [h1, h2]
  · have : ((x.kind : Int) ≠ (y.kind : Int)) := by omega
    rw [if_pos this]
    simp [h1]

def sameK (x y : Item) : Prop := x.kind = y.kind ∧ x.name = y.name ∧ x.host = y.host ∧ x.number = y.number

theorem LtK.irrefl {x y : Item} (h : sameK x y) : ¬ LtK x y := by
  obtain ⟨h1, h2, h3, h4⟩ := h
  unfold LtK
  simp [h1, h2, h3, h4, bl_irrefl]

theorem LtK.trans {x y z : Item} (a : LtK x y) (b : LtK y z) : LtK x z := by
  unfold LtK at *
  rcases a with a | ⟨a0, a⟩
  · rcases b with b | ⟨b0, _⟩
    · exact Or.inl (by omega)
    · exact Or.inl (by omega)
  · rcases b with b | ⟨b0, b⟩
    · exact Or.inl (by omega)
    · refine Or.inr ⟨by omega, ?_⟩
      rcases a with a | ⟨a1, a⟩
      · rcases b with b | ⟨b1, _⟩
        · exact Or.inl (bl_trans a b)
        · exact Or.inl (by rw [← b1]; exact a)
      · rcases b with b | ⟨b1, b⟩
        · exact Or.inl (by rw [a1]; exact b)
        · refine Or.inr ⟨by rw [a1, b1], ?_⟩
          rcases a with a | ⟨a2, a⟩
          · rcases b with b | ⟨b2, _⟩
            · exact Or.inl (bl_trans a b)
            · exact Or.inl (by rw [← b2]; exact a)
          · rcases b with b | ⟨b2, b⟩
            · exact Or.inl (by rw [a2]; exact b)
            · exact Or.inr ⟨by rw [a2, b2], by omega⟩

theorem LtK.total {x y : Item} (h : ¬ sameK x y) : LtK x y ∨ LtK y x := by
  unfold LtK
  by_cases h1 : x.kind = y.kind
  · by_cases h2 : x.name = y.name
    · by_cases h3 : x.host = y.host
      · have h4 : x.number ≠ y.number := fun e => h ⟨h1, h2, h3, e⟩
        rcases Int.lt_or_gt_of_ne h4 with h5 | h5
        · exact Or.inl (Or.inr ⟨h1, Or.inr ⟨h2, Or.inr ⟨h3, h5⟩⟩⟩)
        · exact Or.inr (Or.inr ⟨h1.symm, Or.inr ⟨h2.symm, Or.inr ⟨h3.symm, h5⟩⟩⟩)
      · rcases bl_total (fun e => h3 (tl_inj e)) with h5 | h5
        · exact Or.inl (Or.inr ⟨h1, Or.inr ⟨h2, Or.inl h5⟩⟩)
        · exact Or.inr (Or.inr ⟨h1.symm, Or.inr ⟨h2.symm, Or.inl h5⟩⟩)
    · rcases bl_total (fun e => h2 (tl_inj e)) with h5 | h5
      · exact Or.inl (Or.inr ⟨h1, Or.inl h5⟩)
      · exact Or.inr (Or.inr ⟨h1.symm, Or.inl h5⟩)
  · rcases Nat.lt_or_gt_of_ne h1 with h5 | h5
    · exact Or.inl (Or.inl h5)
    · exact Or.inr (Or.inl h5)

theorem downTo_le (p : Nat → Bool) (k : Nat) : downTo p k ≤ k := by
  induction k with
  | zero => exact Nat.le_refl _
  | succ k ih => simp only [downTo]; split <;> omega
theorem downTo_above (p : Nat → Bool) (k : Nat) : ∀ t, downTo p k ≤ t → t < k → p t = true := by
  induction k with
  | zero => intro t _ h; omega
  | succ k ih =>
    intro t h1 h2
    simp only [downTo] at h1
    split at h1
    · by_cases e : t = k
      · rw [e]; assumption
      · exact ih t h1 (by omega)
    · omega
theorem downTo_below (p : Nat → Bool) (k : Nat) : downTo p k = 0 ∨ p (downTo p k - 1) = false := by
  induction k with
  | zero => exact Or.inl rfl
  | succ k ih =>
    simp only [downTo]
    split
    · exact ih
    · rename_i h; exact Or.inr (by simpa using h)

theorem ins_perm (l : List Item) (x : Item) : (ins l x).Perm (x :: l) := by
  unfold ins
  have := List.perm_middle (a := x) (l₁ := l.take (downTo (lessAt l x) l.length)) (l₂ := l.drop (downTo (lessAt l x) l.length))
  rw [List.take_append_drop] at this
  exact this

theorem foldl_ins_perm (l acc : List Item) : (l.foldl ins acc).Perm (acc ++ l) := by
  induction l generalizing acc with
  | nil => simp
  | cons a l ih =>
    refine (ih (ins acc a)).trans ?_
    refine ((ins_perm acc a).append_right l).trans ?_
    exact (List.perm_middle (a := a) (l₁ := acc) (l₂ := l)).symm

theorem ins_sorted (l : List Item) (x : Item) (hl : l.Pairwise LtK) (hx : ∀ y ∈ l, ¬ sameK x y) : (ins l x).Pairwise LtK := by
  unfold ins
  generalize hj : downTo (lessAt l x) l.length = j
  have ha := downTo_above (lessAt l x) l.length
  have hb := downTo_below (lessAt l x) l.length
  have hle := downTo_le (lessAt l x) l.length
  rw [hj] at ha hb hle
  have hsp : (l.take j ++ l.drop j).Pairwise LtK := by rw [List.take_append_drop]; exact hl
  rw [List.pairwise_append] at hsp ⊢
  obtain ⟨h1, h2, h3⟩ := hsp
  have hup : ∀ y ∈ l.drop j, LtK x y := by
    intro y hy
    obtain ⟨i, hi, e⟩ := List.getElem_of_mem hy
    rw [List.getElem_drop] at e
    have hi' : j + i < l.length := by simp at hi; omega
    have := ha (j + i) (by omega) hi'
    simp only [lessAt, List.getElem?_eq_getElem hi', e] at this
    exact (lessIt_iff x y).1 this
  have hdn : ∀ y ∈ l.take j, LtK y x := by
    rcases hb with hb | hb
    · intro y hy; rw [hb] at hy; simp at hy
    · by_cases hj0 : j = 0
      · intro y hy; rw [hj0] at hy; simp at hy
      · have hjl : j - 1 < l.length := by omega
        have hz : LtK l[j - 1] x := by
          simp only [lessAt, List.getElem?_eq_getElem hjl] at hb
          rcases LtK.total (hx l[j - 1] (List.getElem_mem hjl)) with h | h
          · rw [(lessIt_iff _ _).2 h] at hb; simp at hb
          · exact h
        intro y hy
        obtain ⟨i, hi, e⟩ := List.getElem_of_mem hy
        rw [List.getElem_take] at e
        have hi' : i < j := by simp at hi; omega
        by_cases e2 : i = j - 1
        · subst e2; rw [← e]; exact hz
        · rw [List.pairwise_iff_getElem] at hl
          have := hl i (j - 1) (by omega) hjl (by omega)
          rw [e] at this
          exact this.trans hz
  refine ⟨h1, ?_, ?_⟩
  · rw [List.pairwise_cons]; exact ⟨hup, h2⟩
  · intro a ha' b hb'
    rcases List.mem_cons.1 hb' with rfl | hb'
    · exact hdn a ha'
    · exact h3 a ha' b hb'

/-- No two items have one key. -/
def Dist (l : List Item) : Prop := l.Pairwise fun x y => ¬ sameK x y

theorem sameK.symm {x y : Item} (h : sameK x y) : sameK y x := ⟨h.1.symm, h.2.1.symm, h.2.2.1.symm, h.2.2.2.symm⟩

theorem foldl_ins_sorted (l acc : List Item) (ha : acc.Pairwise LtK) (hd : Dist (acc ++ l)) : (l.foldl ins acc).Pairwise LtK := by
  induction l generalizing acc with
  | nil => exact ha
  | cons a l ih =>
    have hd' := hd
    unfold Dist at hd'
    rw [List.pairwise_append] at hd'
    refine ih (ins acc a) (ins_sorted acc a ha ?_) ?_
    · intro y hy h
      exact hd'.2.2 y hy a (by simp) h.symm
    · have hp : (ins acc a ++ l).Perm (acc ++ a :: l) := ((ins_perm acc a).append_right l).trans (List.perm_middle (a := a) (l₁ := acc) (l₂ := l)).symm
      exact hd.perm hp.symm (fun h k => h k.symm)

/-- The items in order. -/
def sorted (l : List Item) : List Item := l.foldl ins []
theorem sortTo_all (l : List Item) : sortTo l l.length = sorted l := by simp [sortTo, sorted]

theorem sorted_perm (l : List Item) : (sorted l).Perm l := foldl_ins_perm l []
theorem sorted_sorted (l : List Item) (h : Dist l) : (sorted l).Pairwise LtK := foldl_ins_sorted l [] List.Pairwise.nil h

theorem LtK.asymm {x y : Item} (a : LtK x y) (b : LtK y x) : False := LtK.irrefl ⟨rfl, rfl, rfl, rfl⟩ (a.trans b)

/-- Whatever turn they stood in. -/
theorem sorted_of_perm {l m : List Item} (h : l.Perm m) (hd : Dist l) : sorted l = sorted m := by
  have hm : Dist m := hd.perm h (fun h k => h k.symm)
  exact List.Perm.eq_of_pairwise (le := LtK) (fun a b _ _ h1 h2 => (LtK.asymm h1 h2).elim) (sorted_sorted l hd) (sorted_sorted m hm) ((sorted_perm l).trans (h.trans (sorted_perm m).symm))

end Go.Proofs.YtdlhgbhaeedbdabGreat

/- What Print tells, by items. Plain mathematics. -/
namespace Go.Proofs.YtdlhgbhaeedbdabGreat
open Go.RowKit

theorem firstIx_le (p : Nat → Bool) (n : Nat) : firstIx p n ≤ n := by
  unfold firstIx
  cases h : (List.range n).find? p with
  | none => exact Nat.le_refl _
  | some k => have := List.mem_of_find?_eq_some h; simp at this ⊢; omega
theorem firstIx_all {p : Nat → Bool} {n : Nat} (h : ¬ firstIx p n < n) : ∀ j, j < n → p j = false := by
  intro j hj
  unfold firstIx at h
  cases e : (List.range n).find? p with
  | none => rw [List.find?_eq_none] at e; simpa using e j (by simpa using hj)
  | some k => have := List.mem_of_find?_eq_some e; rw [e] at h; simp at this h; omega

theorem keyIs_iff (x y : Item) : keyIs y.key x = true ↔ sameK x y := by
  unfold keyIs
  rw [decide_eq_true_iff]
  unfold sameK Item.key
  constructor
  · rintro ⟨a, b⟩; exact ⟨Int.ofNat_inj.1 a, b⟩
  · rintro ⟨a, b⟩; exact ⟨Int.ofNat_inj.2 a, b⟩

theorem dist_iff (m : List Item) : (∀ j, j < m.length → twiceAt m j = false) ↔ Dist m := by
  unfold Dist
  rw [List.pairwise_iff_getElem]
  constructor
  · intro h i j hi hj hij hs
    have := h j hj
    simp only [twiceAt, List.getElem?_eq_getElem hj, List.any_eq_false] at this
    exact this m[i] (by rw [List.mem_take_iff_getElem]; exact ⟨i, by omega, rfl⟩) ((keyIs_iff _ _).2 hs)
  · intro h j hj
    simp only [twiceAt, List.getElem?_eq_getElem hj, List.any_eq_false]
    intro x hx hk
    obtain ⟨i, hi, e⟩ := List.mem_take_iff_getElem.1 hx
    subst e
    exact h i j (by omega) hj (by omega) ((keyIs_iff _ _).1 hk)

/-- All that is named is there. -/
def Refs (m : List Item) : Prop := ∀ y ∈ m, ∀ k ∈ namesOf y, ∃ x ∈ m, keyIs k x = true

theorem refs_iff (m : List Item) : (∀ j, j < m.length → lostAt m j = false) ↔ Refs m := by
  constructor
  · intro h y hy k hk
    obtain ⟨j, hj, e⟩ := List.getElem_of_mem hy
    have := h j hj
    simp only [lostAt, List.getElem?_eq_getElem hj, e] at this
    have h2 := not_f this.symm
    rw [List.all_eq_true] at h2
    have := h2 k hk
    rw [List.any_eq_true] at this
    exact this
  · intro h j hj
    simp only [lostAt, List.getElem?_eq_getElem hj]
    rw [Bool.not_eq_false', List.all_eq_true]
    intro k hk
    rw [List.any_eq_true]
    exact h _ (List.getElem_mem hj) k hk

theorem chk_ok_iff (s : ByteArray) : chk s = (0, 0) ↔ (s.size ≤ 400 ∧ (rdAll s 24 0 []).2.2 = true ∧ Dist (itemsOf s) ∧ Refs (itemsOf s)) := by
  unfold chk
  constructor
  · intro h
    split at h
    · simp at h
    · split at h
      · simp at h
      · split at h
        · simp at h
        · split at h
          · simp at h
          · rename_i h1 h2 h3 h4
            exact ⟨by omega, by simpa using h2, (dist_iff _).1 (firstIx_all h3), (refs_iff _).1 (firstIx_all h4)⟩
  · rintro ⟨h1, h2, h3, h4⟩
    rw [if_neg (by omega), if_neg (by rw [h2]; simp), if_neg (by rw [firstIx_none ((dist_iff _).2 h3)]; omega), if_neg (by rw [firstIx_none ((refs_iff _).2 h4)]; omega)]

theorem refs_perm {l m : List Item} (h : l.Perm m) (hr : Refs l) : Refs m := by
  intro y hy k hk
  obtain ⟨x, hx, e⟩ := hr y (h.mem_iff.2 hy) k hk
  exact ⟨x, h.mem_iff.1 hx, e⟩

/-- A list of items that is an arrangement. -/
structure Arr (L : List It) : Prop where
  ok : ∀ x ∈ L, x.ok
  few : L.length ≤ 24
  short : (catT L).length ≤ 400
  dist : Dist (L.map It.item)
  refs : Refs (L.map It.item)

def txt (L : List It) : ByteArray := ⟨(catT L).toArray⟩

theorem txt_size (L : List It) : (txt L).size = (catT L).length := by simp [txt, ByteArray.size]

theorem rd_txt {L : List It} (ok : ∀ x ∈ L, x.ok) (few : L.length ≤ 24) : rdAll (txt L) 24 0 [] = (L.map It.item, 0, true) := by
  have := rd_gives L ok (txt L) 24 0 [] few (by rw [rest_zero]; rfl)
  simpa using this

theorem Arr.chk {L : List It} (h : Arr L) : chk (txt L) = (0, 0) ∧ itemsOf (txt L) = L.map It.item := by
  have hr := rd_txt h.ok h.few
  have hi : itemsOf (txt L) = L.map It.item := by unfold itemsOf; rw [hr]
  refine ⟨(chk_ok_iff _).2 ⟨by rw [txt_size]; exact h.short, by rw [hr], by rw [hi]; exact h.dist, by rw [hi]; exact h.refs⟩, hi⟩

theorem bytes_mk (s : ByteArray) : (⟨s.data.toList.toArray⟩ : ByteArray) = s := by cases s; simp

theorem arr_of_chk {s : ByteArray} (h : Go.Proofs.YtdlhgbhaeedbdabGreat.chk s = (0, 0)) : ∃ L, Arr L ∧ s = txt L ∧ itemsOf s = L.map It.item := by
  obtain ⟨h1, h2, h3, h4⟩ := (chk_ok_iff s).1 h
  obtain ⟨L, l1, l2, l3, l4⟩ := rd_read s 24 0 [] h2
  rw [rest_zero] at l3
  have hi : itemsOf s = L.map It.item := by unfold itemsOf; rw [l4]; simp
  have hs : s = txt L := by unfold txt; rw [← l3, bytes_mk]
  refine ⟨L, ⟨l1, l2, ?_, by rw [← hi]; exact h3, by rw [← hi]; exact h4⟩, hs, hi⟩
  rw [← txt_size, ← hs]; exact h1

theorem catT_perm {L M : List It} (h : L.Perm M) : (catT L).length = (catT M).length := by
  unfold catT
  rw [List.length_flatMap, List.length_flatMap]
  exact (h.map _).sum_nat

theorem Arr.perm {L M : List It} (h : Arr L) (hp : L.Perm M) : Arr M :=
  ⟨fun x hx => h.ok x (hp.mem_iff.2 hx), by rw [← hp.length_eq]; exact h.few, by rw [← catT_perm hp]; exact h.short,
   h.dist.perm (hp.map _) (fun h k => h k.symm), refs_perm (hp.map _) h.refs⟩

/-- Insertion, on items as the document tells them. -/
def insI (l : List It) (x : It) : List It := l.take (downTo (lessAt (l.map It.item) x.item) l.length) ++ x :: l.drop (downTo (lessAt (l.map It.item) x.item) l.length)
def sortI (l : List It) : List It := l.foldl insI []

theorem insI_map (l : List It) (x : It) : (insI l x).map It.item = ins (l.map It.item) x.item := by simp [insI, ins, List.map_take, List.map_drop]
theorem foldl_insI_map (l acc : List It) : (l.foldl insI acc).map It.item = (l.map It.item).foldl ins (acc.map It.item) := by
  induction l generalizing acc with
  | nil => rfl
  | cons a l ih => simp only [List.foldl_cons, List.map_cons]; rw [ih, insI_map]
theorem sortI_map (l : List It) : (sortI l).map It.item = sorted (l.map It.item) := foldl_insI_map l []

theorem insI_perm (l : List It) (x : It) : (insI l x).Perm (x :: l) := by
  unfold insI
  generalize downTo (lessAt (l.map It.item) x.item) l.length = j
  have := List.perm_middle (a := x) (l₁ := l.take j) (l₂ := l.drop j)
  rw [List.take_append_drop] at this
  exact this
theorem foldl_insI_perm (l acc : List It) : (l.foldl insI acc).Perm (acc ++ l) := by
  induction l generalizing acc with
  | nil => simp
  | cons a l ih => exact (ih (insI acc a)).trans (((insI_perm acc a).append_right l).trans (List.perm_middle (a := a) (l₁ := acc) (l₂ := l)).symm)
theorem sortI_perm (l : List It) : (sortI l).Perm l := foldl_insI_perm l []

theorem catB_map (L : List It) : catB (L.map It.item) = catT L := by
  induction L with
  | nil => rfl
  | cons a L ih => simp only [catB, catT, List.map_cons, List.flatMap_cons] at ih ⊢; rw [ih]; rfl

/-- What Print tells of an arrangement. -/
theorem Arr.prt {L : List It} (h : Arr L) : prt (txt L) = txt (sortI L) := by
  obtain ⟨h1, h2⟩ := h.chk
  unfold Go.Proofs.YtdlhgbhaeedbdabGreat.prt
  rw [h1]
  simp only [if_true]
  rw [h2, List.length_map, show sortTo (L.map It.item) L.length = sorted (L.map It.item) from by rw [← sortTo_all, List.length_map], ← sortI_map, catB_map]
  rfl

theorem arr_sortI {L : List It} (h : Arr L) : Arr (sortI L) := h.perm (sortI_perm L).symm

theorem sortI_of_perm {L M : List It} (h : Arr L) (hp : L.Perm M) : txt (sortI L) = txt (sortI M) := by
  unfold txt
  rw [← catB_map, ← catB_map, sortI_map, sortI_map, sorted_of_perm (hp.map _) h.dist]

end Go.Proofs.YtdlhgbhaeedbdabGreat
