/- What Print tells, by items. Plain mathematics. -/
import Derived.Test.YtigpohommoogeaaLex
namespace Go.Proofs.Ytigpohommoogeaa
open Go.RowKit

theorem firstIx_le (p : Nat → Bool) (n : Nat) : firstIx p n ≤ n := by
  unfold firstIx
  cases h : (List.range n).find? p with
  | none => exact Nat.le_refl _
  | some k => have := List.mem_of_find?_eq_some h; simp at this ⊢; omega
theorem firstIx_all {p : Nat → Bool} {n : Nat} (h : ¬ firstIx p n < n) : ∀ j, j < n → p j = false := by
  intro j hj
  unfold firstIx at h
  cases e : (List.range n).find? p with
  | none => rw [List.find?_eq_none] at e; simpa using e j (by simpa using hj)
  | some k => have := List.mem_of_find?_eq_some e; rw [e] at h; simp at this h; omega

theorem keyIs_iff (x y : Item) : keyIs y.key x = true ↔ sameK x y := by
  unfold keyIs
  rw [decide_eq_true_iff]
  unfold sameK Item.key
  constructor
  · rintro ⟨a, b⟩; exact ⟨Int.ofNat_inj.1 a, b⟩
  · rintro ⟨a, b⟩; exact ⟨Int.ofNat_inj.2 a, b⟩

theorem dist_iff (m : List Item) : (∀ j, j < m.length → twiceAt m j = false) ↔ Dist m := by
  unfold Dist
  rw [List.pairwise_iff_getElem]
  constructor
  · intro h i j hi hj hij hs
    have := h j hj
    simp only [twiceAt, List.getElem?_eq_getElem hj, List.any_eq_false] at this
    exact this m[i] (by rw [List.mem_take_iff_getElem]; exact ⟨i, by omega, rfl⟩) ((keyIs_iff _ _).2 hs)
  · intro h j hj
    simp only [twiceAt, List.getElem?_eq_getElem hj, List.any_eq_false]
    intro x hx hk
    obtain ⟨i, hi, e⟩ := List.mem_take_iff_getElem.1 hx
    subst e
    exact h i j (by omega) hj (by omega) ((keyIs_iff _ _).1 hk)

/-- All that is named is there. -/
def Refs (m : List Item) : Prop := ∀ y ∈ m, ∀ k ∈ namesOf y, ∃ x ∈ m, keyIs k x = true

theorem refs_iff (m : List Item) : (∀ j, j < m.length → lostAt m j = false) ↔ Refs m := by
  constructor
  · intro h y hy k hk
    obtain ⟨j, hj, e⟩ := List.getElem_of_mem hy
    have := h j hj
    simp only [lostAt, List.getElem?_eq_getElem hj, e] at this
    have h2 := not_f this.symm
    rw [List.all_eq_true] at h2
    have := h2 k hk
    rw [List.any_eq_true] at this
    exact this
  · intro h j hj
    simp only [lostAt, List.getElem?_eq_getElem hj]
    rw [Bool.not_eq_false', List.all_eq_true]
    intro k hk
    rw [List.any_eq_true]
    exact h _ (List.getElem_mem hj) k hk

theorem chk_ok_iff (s : ByteArray) : chk s = (0, 0) ↔ (s.size ≤ 400 ∧ (rdAll s 24 0 []).2.2 = true ∧ Dist (itemsOf s) ∧ Refs (itemsOf s)) := by
  unfold chk
  constructor
  · intro h
    split at h
    · simp at h
    · split at h
      · simp at h
      · split at h
        · simp at h
        · split at h
          · simp at h
          · rename_i h1 h2 h3 h4
            exact ⟨by omega, by simpa using h2, (dist_iff _).1 (firstIx_all h3), (refs_iff _).1 (firstIx_all h4)⟩
  · rintro ⟨h1, h2, h3, h4⟩
    rw [if_neg (by omega), if_neg (by rw [h2]; simp), if_neg (by rw [firstIx_none ((dist_iff _).2 h3)]; omega), if_neg (by rw [firstIx_none ((refs_iff _).2 h4)]; omega)]

theorem refs_perm {l m : List Item} (h : l.Perm m) (hr : Refs l) : Refs m := by
  intro y hy k hk
  obtain ⟨x, hx, e⟩ := hr y (h.mem_iff.2 hy) k hk
  exact ⟨x, h.mem_iff.1 hx, e⟩

/-- A list of items that is an arrangement. -/
structure Arr (L : List It) : Prop where
  ok : ∀ x ∈ L, x.ok
  few : L.length ≤ 24
  short : (catT L).length ≤ 400
  dist : Dist (L.map It.item)
  refs : Refs (L.map It.item)

def txt (L : List It) : ByteArray := ⟨(catT L).toArray⟩

theorem txt_size (L : List It) : (txt L).size = (catT L).length := by simp [txt, ByteArray.size]

theorem rd_txt {L : List It} (ok : ∀ x ∈ L, x.ok) (few : L.length ≤ 24) : rdAll (txt L) 24 0 [] = (L.map It.item, 0, true) := by
  have := rd_gives L ok (txt L) 24 0 [] few (by rw [rest_zero]; rfl)
  simpa using this

theorem Arr.chk {L : List It} (h : Arr L) : chk (txt L) = (0, 0) ∧ itemsOf (txt L) = L.map It.item := by
  have hr := rd_txt h.ok h.few
  have hi : itemsOf (txt L) = L.map It.item := by unfold itemsOf; rw [hr]
  refine ⟨(chk_ok_iff _).2 ⟨by rw [txt_size]; exact h.short, by rw [hr], by rw [hi]; exact h.dist, by rw [hi]; exact h.refs⟩, hi⟩

theorem bytes_mk (s : ByteArray) : (⟨s.data.toList.toArray⟩ : ByteArray) = s := by cases s; simp

theorem arr_of_chk {s : ByteArray} (h : Go.Proofs.Ytigpohommoogeaa.chk s = (0, 0)) : ∃ L, Arr L ∧ s = txt L ∧ itemsOf s = L.map It.item := by
  obtain ⟨h1, h2, h3, h4⟩ := (chk_ok_iff s).1 h
  obtain ⟨L, l1, l2, l3, l4⟩ := rd_read s 24 0 [] h2
  rw [rest_zero] at l3
  have hi : itemsOf s = L.map It.item := by unfold itemsOf; rw [l4]; simp
  have hs : s = txt L := by unfold txt; rw [← l3, bytes_mk]
  refine ⟨L, ⟨l1, l2, ?_, by rw [← hi]; exact h3, by rw [← hi]; exact h4⟩, hs, hi⟩
  rw [← txt_size, ← hs]; exact h1

theorem catT_perm {L M : List It} (h : L.Perm M) : (catT L).length = (catT M).length := by
  unfold catT
  rw [List.length_flatMap, List.length_flatMap]
  exact (h.map _).sum_nat

theorem Arr.perm {L M : List It} (h : Arr L) (hp : L.Perm M) : Arr M :=
  ⟨fun x hx => h.ok x (hp.mem_iff.2 hx), by rw [← hp.length_eq]; exact h.few, by rw [← catT_perm hp]; exact h.short,
   h.dist.perm (hp.map _) (fun h k => h k.symm), refs_perm (hp.map _) h.refs⟩

/-- Insertion, on items as the document tells them. -/
def insI (l : List It) (x : It) : List It := l.take (downTo (lessAt (l.map It.item) x.item) l.length) ++ x :: l.drop (downTo (lessAt (l.map It.item) x.item) l.length)
def sortI (l : List It) : List It := l.foldl insI []

theorem insI_map (l : List It) (x : It) : (insI l x).map It.item = ins (l.map It.item) x.item := by simp [insI, ins, List.map_take, List.map_drop]
theorem foldl_insI_map (l acc : List It) : (l.foldl insI acc).map It.item = (l.map It.item).foldl ins (acc.map It.item) := by
  induction l generalizing acc with
  | nil => rfl
  | cons a l ih => simp only [List.foldl_cons, List.map_cons]; rw [ih, insI_map]
theorem sortI_map (l : List It) : (sortI l).map It.item = sorted (l.map It.item) := foldl_insI_map l []

theorem insI_perm (l : List It) (x : It) : (insI l x).Perm (x :: l) := by
  unfold insI
  generalize downTo (lessAt (l.map It.item) x.item) l.length = j
  have := List.perm_middle (a := x) (l₁ := l.take j) (l₂ := l.drop j)
  rw [List.take_append_drop] at this
  exact this
theorem foldl_insI_perm (l acc : List It) : (l.foldl insI acc).Perm (acc ++ l) := by
  induction l generalizing acc with
  | nil => simp
  | cons a l ih => exact (ih (insI acc a)).trans (((insI_perm acc a).append_right l).trans (List.perm_middle (a := a) (l₁ := acc) (l₂ := l)).symm)
theorem sortI_perm (l : List It) : (sortI l).Perm l := foldl_insI_perm l []

theorem catB_map (L : List It) : catB (L.map It.item) = catT L := by
  induction L with
  | nil => rfl
  | cons a L ih => simp only [catB, catT, List.map_cons, List.flatMap_cons] at ih ⊢; rw [ih]; rfl

/-- What Print tells of an arrangement. -/
theorem Arr.prt {L : List It} (h : Arr L) : prt (txt L) = txt (sortI L) := by
  obtain ⟨h1, h2⟩ := h.chk
  unfold Go.Proofs.Ytigpohommoogeaa.prt
  rw [h1]
  simp only [if_true]
  rw [h2, List.length_map, show sortTo (L.map It.item) L.length = sorted (L.map It.item) from by rw [← sortTo_all, List.length_map], ← sortI_map, catB_map]
  rfl

theorem arr_sortI {L : List It} (h : Arr L) : Arr (sortI L) := h.perm (sortI_perm L).symm

theorem sortI_of_perm {L M : List It} (h : Arr L) (hp : L.Perm M) : txt (sortI L) = txt (sortI M) := by
  unfold txt
  rw [← catB_map, ← catB_map, sortI_map, sortI_map, sorted_of_perm (hp.map _) h.dist]

end Go.Proofs.Ytigpohommoogeaa
