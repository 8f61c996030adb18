/- Items, as the document tells them: their texts; how the reader meets them. Plain mathematics. -/
import Derived.Test.YtigpohommoogeaaChk
namespace Go.Proofs.Ytigpohommoogeaa
open Go.RowKit

/-- What is left of a text from p on. -/
def rest (s : ByteArray) (p : Nat) : List UInt8 := s.data.toList.drop p

theorem rest_add (s : ByteArray) (p n : Nat) : rest s (p + n) = (rest s p).drop n := by simp [rest]
theorem rest_of {s : ByteArray} {p : Nat} {a r : List UInt8} (h : rest s p = a ++ r) : rest s (p + a.length) = r := by rw [rest_add, h, List.drop_left]
theorem rest_zero (s : ByteArray) : rest s 0 = s.data.toList := by simp [rest]
theorem rest_nil {s : ByteArray} {p : Nat} : rest s p = [] ↔ s.size ≤ p := by
  rw [rest, List.drop_eq_nil_iff]; simp

theorem byteAt_rest (s : ByteArray) (p : Nat) : byteAt s p = match rest s p with | [] => -1 | c :: _ => (c.toNat : Int) := by
  by_cases h : p < s.size
  · have hl : p < s.data.toList.length := by simpa using h
    rw [byteAt_in h, rest, List.drop_eq_getElem_cons hl]
    rfl
  · rw [byteAt_out h, rest_nil.2 (by omega)]

theorem byteAt_cons {s : ByteArray} {p : Nat} {c : UInt8} {r : List UInt8} (h : rest s p = c :: r) : byteAt s p = (c.toNat : Int) := by rw [byteAt_rest, h]

theorem cons_of_byte {s : ByteArray} {p : Nat} {v : Int} (h : byteAt s p = v) (h0 : 0 ≤ v) : ∃ c, (c.toNat : Int) = v ∧ rest s p = c :: rest s (p + 1) := by
  rw [byteAt_rest] at h
  cases e : rest s p with
  | nil => rw [e] at h; simp at h; omega
  | cons c r =>
    rw [e] at h
    refine ⟨c, h, ?_⟩
    rw [show rest s (p + 1) = r from rest_of (a := [c]) (by rw [e]; rfl)]

/-- One byte more: what 'tk' has read. -/
theorem tk_read {s : ByteArray} {lo hi : Int} (h0 : 0 ≤ lo) {st : Nat × Bool} (h : (tk s lo hi st).2 = false) :
    ∃ c : UInt8, lo ≤ (c.toNat : Int) ∧ (c.toNat : Int) ≤ hi ∧ st.2 = false ∧ tk s lo hi st = (st.1 + 1, false) ∧ rest s st.1 = c :: rest s (st.1 + 1) := by
  obtain ⟨h1, h2, h3⟩ := tk_ok h
  simp [seesB] at h2
  obtain ⟨c, hc, hr⟩ := cons_of_byte (s := s) (p := st.1) rfl (by omega)
  exact ⟨c, by omega, by omega, h1, h3, hr⟩

theorem tk_gives {s : ByteArray} {lo hi : Int} {p : Nat} {c : UInt8} {r : List UInt8} (h : rest s p = c :: r) (h1 : lo ≤ (c.toNat : Int)) (h2 : (c.toNat : Int) ≤ hi) : tk s lo hi (p, false) = (p + 1, false) := by
  simp [tk, seesB, byteAt_cons h, h1, h2]

theorem wd_read {s : ByteArray} (ws : List UInt8) {st : Nat × Bool} (h : (wd s ws st).2 = false) : st.2 = false ∧ wd s ws st = (st.1 + ws.length, false) ∧ rest s st.1 = ws ++ rest s (st.1 + ws.length) := by
  induction ws generalizing st with
  | nil => exact ⟨h, Prod.ext rfl h, rfl⟩
  | cons c ws ih =>
    obtain ⟨h1, h2, h3⟩ := ih (st := tk s (c.toNat : Int) (c.toNat : Int) st) h
    obtain ⟨d, d1, d2, d3, d4, d5⟩ := tk_read (by omega) h1
    have hd : d = c := UInt8.toNat_inj.1 (by omega)
    subst hd
    rw [d4] at h2 h3
    refine ⟨d3, ?_, ?_⟩
    · show wd s ws (tk s _ _ st) = _
      rw [d4, h2]
      simp; omega
    · simp only [List.length_cons, List.cons_append]
      rw [d5]
      simp only at h3
      rw [h3, show st.1 + 1 + ws.length = st.1 + (ws.length + 1) from by omega]

theorem wd_gives {s : ByteArray} (ws : List UInt8) {p : Nat} {r : List UInt8} (h : rest s p = ws ++ r) : wd s ws (p, false) = (p + ws.length, false) := by
  induction ws generalizing p with
  | nil => rfl
  | cons c ws ih =>
    show wd s ws (tk s _ _ (p, false)) = _
    rw [tk_gives (c := c) (r := ws ++ r) (by rw [h]; rfl) (by omega) (by omega), ih (by exact rest_of (a := [c]) (by rw [h]; rfl))]
    simp; omega

/-- A small letter. -/
def letter (c : UInt8) : Prop := (97 : Int) ≤ (c.toNat : Int) ∧ (c.toNat : Int) ≤ 122
/-- A name. -/
def isName (a : List UInt8) : Prop := 1 ≤ a.length ∧ a.length ≤ 4 ∧ ∀ c ∈ a, letter c

theorem nmIter_read {s : ByteArray} (k : Nat) {p : Nat} {a : List UInt8} (ha : ∀ c ∈ a, letter c) (h : rest s p = a ++ rest s (p + a.length)) :
    ∃ b, (∀ c ∈ b, letter c) ∧ b.length ≤ a.length + k ∧ a.length ≤ b.length ∧ nmIter s k (p + a.length, false) = (p + b.length, false) ∧ rest s p = b ++ rest s (p + b.length) := by
  induction k with
  | zero => exact ⟨a, ha, by omega, by omega, rfl, h⟩
  | succ k ih =>
    obtain ⟨b, b1, b2, b3, b4, b5⟩ := ih
    show ∃ b, _ ∧ _ ∧ _ ∧ nmStep s (nmIter s k _) = _ ∧ _
    rw [b4]
    unfold nmStep
    split
    · rename_i hs
      have ht : (tk s 97 122 (p + b.length, false)).2 = false := by simp only [tk, hs]; simp
      obtain ⟨c, c1, c2, _, c4, c5⟩ := tk_read (by omega) ht
      refine ⟨b ++ [c], ?_, by simp; omega, by simp; omega, ?_, ?_⟩
      · intro d hd
        rcases List.mem_append.1 hd with hd | hd
        · exact b1 d hd
        · simp at hd; subst hd; exact ⟨c1, c2⟩
      · rw [c4]; simp; omega
      · rw [b5]
        simp only at c5
        rw [c5]
        simp only [List.append_assoc, List.singleton_append, List.length_append, List.length_singleton]
        rw [show p + (b.length + 1) = p + b.length + 1 from by omega]
    · exact ⟨b, b1, by omega, b3, rfl, b5⟩

theorem nmIter_bad (s : ByteArray) (k p : Nat) : nmIter s k (p, true) = (p, true) := by
  induction k with
  | zero => rfl
  | succ k ih =>
    show nmStep s (nmIter s k _) = _
    rw [ih]
    unfold nmStep
    split
    · simp [tk]
    · rfl

theorem nm_read {s : ByteArray} {st : Nat × Bool} (h : (nmS s st).2 = false) :
    ∃ a, isName a ∧ st.2 = false ∧ nmS s st = (st.1 + a.length, false) ∧ rest s st.1 = a ++ rest s (st.1 + a.length) ∧ nmV s st = ⟨a.toArray⟩ := by
  cases hb : (tk s 97 122 st).2 with
  | true =>
    have e : tk s 97 122 st = ((tk s 97 122 st).1, true) := Prod.ext rfl hb
    unfold nmS at h
    rw [e, nmIter_bad] at h
    simp at h
  | false =>
    obtain ⟨c, c1, c2, c3, c4, c5⟩ := tk_read (by omega) hb
    obtain ⟨b, b1, b2, b3, b4, b5⟩ := nmIter_read (s := s) 3 (p := st.1) (a := [c]) (by intro d hd; simp at hd; subst hd; exact ⟨c1, c2⟩) (by rw [c5]; rfl)
    have e : nmS s st = (st.1 + b.length, false) := by unfold nmS; rw [c4]; exact b4
    refine ⟨b, ⟨by simpa using b3, by simp at b2; omega, b1⟩, c3, e, b5, ?_⟩
    unfold nmV
    rw [e]
    apply ByteArray.ext
    simp only
    rw [ByteArray.data_extract]
    apply Array.toList_inj.1
    rw [Array.toList_extract]
    simp only [List.extract_eq_take_drop]
    rw [show List.drop st.1 s.data.toList = rest s st.1 from rfl, b5, show st.1 + b.length - st.1 = b.length from by omega, List.take_left]

/-- A name in front of a byte that is no letter is read whole. -/
theorem nmIter_gives {s : ByteArray} {p : Nat} (a : List UInt8) (r : List UInt8) (ha : ∀ c ∈ a, letter c) (d : UInt8) (hd : ¬ letter d) (k : Nat) (hk : a.length ≤ k) (h : rest s p = a ++ d :: r) : nmIter s k (p, false) = (p + a.length, false) := by
  induction k generalizing a p with
  | zero => have : a = [] := List.length_eq_zero_iff.1 (by omega)
            subst this; rfl
  | succ k ih =>
    have comm : ∀ (k : Nat) (st : Nat × Bool), nmIter s (k + 1) st = nmIter s k (nmStep s st) := by
      intro k; induction k with
      | zero => intro st; rfl
      | succ k ih => intro st; show nmStep s (nmIter s (k + 1) st) = nmStep s (nmIter s k (nmStep s st)); rw [ih]
    rw [comm]
    cases a with
    | nil =>
      have hs : seesB s p 97 122 = false := by
        rw [seesB, byteAt_cons (by rw [h]; rfl : rest s p = d :: r)]
        simp only [letter] at hd
        simp; omega
      have : nmStep s (p, false) = (p, false) := by simp [nmStep, hs]
      rw [this]
      exact ih (p := p) [] (by simp) (by simp) h
    | cons c a =>
      have hc := ha c (by simp)
      have e : nmStep s (p, false) = (p + 1, false) := by
        have ht := tk_gives (s := s) (lo := 97) (hi := 122) (p := p) (c := c) (r := a ++ d :: r) (by rw [h]; rfl) hc.1 hc.2
        have hs : seesB s p 97 122 = true := by rw [seesB, byteAt_cons (by rw [h]; rfl : rest s p = c :: (a ++ d :: r))]; simp [hc.1, hc.2]
        simp [nmStep, hs, ht]
      rw [e, ih (p := p + 1) a (fun x hx => ha x (by simp [hx])) (by simp at hk; omega) (by exact rest_of (a := [c]) (by rw [h]; rfl))]
      simp; omega

theorem nm_gives {s : ByteArray} {p : Nat} {a r : List UInt8} (ha : isName a) {d : UInt8} (hd : ¬ letter d) (h : rest s p = a ++ d :: r) : nmS s (p, false) = (p + a.length, false) := by
  obtain ⟨h1, h2, h3⟩ := ha
  cases a with
  | nil => simp at h1
  | cons c a =>
    have hc := h3 c (by simp)
    unfold nmS
    rw [tk_gives (c := c) (r := a ++ d :: r) (by rw [h]; rfl) hc.1 hc.2, nmIter_gives (p := p + 1) a r (fun x hx => h3 x (by simp [hx])) d hd 3 (by simp at h2; omega) (by exact rest_of (a := [c]) (by rw [h]; rfl))]
    simp; omega

end Go.Proofs.Ytigpohommoogeaa
