/- Lists of items: their text, read and given. -/
import Derived.Test.YtigpohommoogeaaIt3
namespace Go.Proofs.Ytigpohommoogeaa
open Go.RowKit

theorem body_first (x : It) (hx : x.ok) : ∃ l, x.text = (if x.kind = 0 then 100 else if x.kind = 1 then 116 else if x.kind = 2 then 108 else if x.kind = 3 then 104 else 109 : UInt8) :: l := by
  rcases hx with ⟨_, ⟨e, _⟩ | ⟨e, _⟩ | ⟨e, _⟩ | ⟨e, _⟩ | ⟨e, _⟩⟩ <;> simp [It.text, It.body, e]

theorem kind_le {x : It} (hx : x.ok) : x.kind ≤ 4 := by
  rcases hx with ⟨_, ⟨e, _⟩ | ⟨e, _⟩ | ⟨e, _⟩ | ⟨e, _⟩ | ⟨e, _⟩⟩ <;> omega

theorem item_eq {s : ByteArray} {p : Nat} {x : It} (h1 : itemS s (p, false) = (p + x.text.length, false)) (h2 : rest s p = x.text ++ rest s (p + x.text.length)) (h3 : itemI s (p, false) = { x.item with text := ⟨#[]⟩ }) : itemAt s p = x.item := by
  unfold itemAt itemT
  rw [h1, h3, extract_rest h2]
  rfl

theorem item_read {s : ByteArray} {p : Nat} (h : (itemS s (p, false)).2 = false) :
    ∃ x : It, x.ok ∧ itemS s (p, false) = (p + x.text.length, false) ∧ rest s p = x.text ++ rest s (p + x.text.length) ∧ itemAt s p = x.item := by
  by_cases h1 : byteAt s p = 100
  · have e1 : itemI s (p, false) = diskI s (p, false) := by simp only [itemI, h1, if_true]
    have e2 : itemS s (p, false) = diskS5 s (p, false) := by simp only [itemS, h1, if_true]
    rw [e2] at h
    obtain ⟨x, a, _, b, c, d⟩ := disk_read h
    exact ⟨x, a, e2.trans b, c, item_eq (e2.trans b) c (e1.trans d)⟩
  by_cases h2 : byteAt s p = 116
  · have e1 : itemI s (p, false) = targetI s (p, false) := by simp only [itemI, h2]; simp
    have e2 : itemS s (p, false) = targetS3 s (p, false) := by simp only [itemS, h2]; simp
    rw [e2] at h
    obtain ⟨x, a, _, b, c, d⟩ := target_read h
    exact ⟨x, a, e2.trans b, c, item_eq (e2.trans b) c (e1.trans d)⟩
  by_cases h3 : byteAt s p = 108
  · have e1 : itemI s (p, false) = lunI s (p, false) := by simp only [itemI, h3]; simp
    have e2 : itemS s (p, false) = lunS9 s (p, false) := by simp only [itemS, h3]; simp
    rw [e2] at h
    obtain ⟨x, a, _, b, c, d⟩ := lun_read h
    exact ⟨x, a, e2.trans b, c, item_eq (e2.trans b) c (e1.trans d)⟩
  by_cases h4 : byteAt s p = 104
  · have e1 : itemI s (p, false) = hostI s (p, false) := by simp only [itemI, h4]; simp
    have e2 : itemS s (p, false) = hostS5 s (p, false) := by simp only [itemS, h4]; simp
    rw [e2] at h
    obtain ⟨x, a, _, b, c, d⟩ := host_read h
    exact ⟨x, a, e2.trans b, c, item_eq (e2.trans b) c (e1.trans d)⟩
  by_cases h5 : byteAt s p = 109
  · have e1 : itemI s (p, false) = mapsI s (p, false) := by simp only [itemI, h5]; simp
    have e2 : itemS s (p, false) = mapsS9 s (p, false) := by simp only [itemS, h5]; simp
    rw [e2] at h
    obtain ⟨x, a, _, b, c, d⟩ := maps_read h
    exact ⟨x, a, e2.trans b, c, item_eq (e2.trans b) c (e1.trans d)⟩
  · have e2 : itemS s (p, false) = (p, true) := by simp only [itemS, if_neg h1, if_neg h2, if_neg h3, if_neg h4, if_neg h5]
    rw [e2] at h
    simp at h

theorem item_gives {s : ByteArray} {p : Nat} {x : It} (hx : x.ok) {r : List UInt8} (h : rest s p = x.text ++ r) : itemS s (p, false) = (p + x.text.length, false) ∧ itemAt s p = x.item := by
  obtain ⟨l, hl⟩ := body_first x hx
  have hb := byteAt_cons (s := s) (p := p) (by rw [h, hl]; rfl)
  have hr : rest s p = x.text ++ rest s (p + x.text.length) := by rw [rest_of h]; exact h
  have hk : x.kind = 0 ∨ x.kind = 1 ∨ x.kind = 2 ∨ x.kind = 3 ∨ x.kind = 4 := by have := kind_le hx; omega
  rcases hk with hk | hk | hk | hk | hk
  · obtain ⟨a, b⟩ := disk_gives hk hx h
    have h1 : byteAt s p = 100 := by rw [hb]; simp [hk]
    have e1 : itemI s (p, false) = diskI s (p, false) := by simp only [itemI, h1, if_true]
    have e2 : itemS s (p, false) = diskS5 s (p, false) := by simp only [itemS, h1, if_true]
    exact ⟨e2.trans a, item_eq (e2.trans a) hr (e1.trans b)⟩
  · obtain ⟨a, b⟩ := target_gives hk hx h
    have h1 : byteAt s p = 116 := by rw [hb]; simp [hk]
    have e1 : itemI s (p, false) = targetI s (p, false) := by simp only [itemI, h1]; simp
    have e2 : itemS s (p, false) = targetS3 s (p, false) := by simp only [itemS, h1]; simp
    exact ⟨e2.trans a, item_eq (e2.trans a) hr (e1.trans b)⟩
  · obtain ⟨a, b⟩ := lun_gives hk hx h
    have h1 : byteAt s p = 108 := by rw [hb]; simp [hk]
    have e1 : itemI s (p, false) = lunI s (p, false) := by simp only [itemI, h1]; simp
    have e2 : itemS s (p, false) = lunS9 s (p, false) := by simp only [itemS, h1]; simp
    exact ⟨e2.trans a, item_eq (e2.trans a) hr (e1.trans b)⟩
  · obtain ⟨a, b⟩ := host_gives hk hx h
    have h1 : byteAt s p = 104 := by rw [hb]; simp [hk]
    have e1 : itemI s (p, false) = hostI s (p, false) := by simp only [itemI, h1]; simp
    have e2 : itemS s (p, false) = hostS5 s (p, false) := by simp only [itemS, h1]; simp
    exact ⟨e2.trans a, item_eq (e2.trans a) hr (e1.trans b)⟩
  · obtain ⟨a, b⟩ := maps_gives hk hx h
    have h1 : byteAt s p = 109 := by rw [hb]; simp [hk]
    have e1 : itemI s (p, false) = mapsI s (p, false) := by simp only [itemI, h1]; simp
    have e2 : itemS s (p, false) = mapsS9 s (p, false) := by simp only [itemS, h1]; simp
    exact ⟨e2.trans a, item_eq (e2.trans a) hr (e1.trans b)⟩

/-- The text of a list of items. -/
def catT (l : List It) : List UInt8 := l.flatMap It.text

theorem text_ne (x : It) : x.text ≠ [] := by simp [It.text]

theorem rd_gives (l : List It) (hl : ∀ x ∈ l, x.ok) (s : ByteArray) (n p : Nat) (acc : List Item) (hn : l.length ≤ n) (h : rest s p = catT l) : rdAll s n p acc = (acc ++ l.map It.item, 0, true) := by
  induction l generalizing n p acc with
  | nil =>
    have hp : ¬ p < s.size := by have := rest_nil.1 (show rest s p = [] from h); omega
    cases n <;> simp [rdAll, hp]
  | cons x l ih =>
    have hp : p < s.size := by
      by_cases c : s.size ≤ p
      · have := rest_nil.2 c
        rw [h] at this
        simp [catT, It.text] at this
      · omega
    have h' : rest s p = x.text ++ catT l := h
    obtain ⟨a, b⟩ := item_gives (hl x (by simp)) h'
    match n, hn with
    | n + 1, hn =>
      unfold rdAll
      rw [if_pos hp, a]
      simp only [Bool.false_eq_true, if_false]
      rw [ih (fun y hy => hl y (by simp [hy])) n _ _ (by simpa using hn) (rest_of h'), b]
      simp

theorem rd_read (s : ByteArray) (n p : Nat) (acc : List Item) (h : (rdAll s n p acc).2.2 = true) : ∃ l : List It, (∀ x ∈ l, x.ok) ∧ l.length ≤ n ∧ rest s p = catT l ∧ (rdAll s n p acc).1 = acc ++ l.map It.item := by
  induction n generalizing p acc with
  | zero =>
    unfold rdAll at h ⊢
    by_cases hp : p < s.size
    · simp [hp] at h
    · exact ⟨[], by simp, by simp, rest_nil.2 (by omega), by simp [hp]⟩
  | succ n ih =>
    unfold rdAll at h ⊢
    by_cases hp : p < s.size
    · rw [if_pos hp] at h ⊢
      by_cases hb : (itemS s (p, false)).2 = true
      · simp [hb] at h
      · rw [if_neg hb] at h ⊢
        obtain ⟨x, a, b, c, d⟩ := item_read (by simpa using hb)
        obtain ⟨l, l1, l2, l3, l4⟩ := ih _ _ h
        refine ⟨x :: l, ?_, by simp; omega, ?_, ?_⟩
        · intro y hy
          rcases List.mem_cons.1 hy with rfl | hy
          · exact a
          · exact l1 y hy
        · rw [b] at l3
          simp only at l3
          rw [c, l3]; rfl
        · rw [l4, d]; simp
    · exact ⟨[], by simp, by simp, rest_nil.2 (by omega), by simp [hp]⟩

end Go.Proofs.Ytigpohommoogeaa
