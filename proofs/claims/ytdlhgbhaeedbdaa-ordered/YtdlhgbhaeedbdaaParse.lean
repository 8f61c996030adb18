/- 'Parse', 'Check'. -/
import Derived.Test.YtdlhgbhaeedbdaaFirst
namespace Go.Proofs.Ytdlhgbhaeedbdaa
open Go.RowKit

theorem rdAll_len (s : ByteArray) (n p : Nat) (acc : List Item) : (rdAll s n p acc).1.length ≤ acc.length + n := by
  induction n generalizing p acc with
  | zero => unfold rdAll; split <;> simp
  | succ n ih =>
    unfold rdAll
    split
    · split
      · simp
      · have := ih (itemS s (p, false)).1 (acc ++ [itemAt s p]); simp at this; omega
    · simp

theorem allCells_get (l : List Item) (i : Nat) (h : i < l.length) (c : Nat) (hc : c < 9) : (allCells l)[i * 9 + c]? = l[i].cells[c]? := by
  induction l generalizing i with
  | nil => simp at h
  | cons a l ih =>
    simp only [allCells, List.flatMap_cons]
    have h7 : a.cells.toList.length = 9 := by simp [Item.cells]
    match i with
    | 0 => rw [List.getElem?_append_left (by omega)]; simp
    | i + 1 =>
      rw [List.getElem?_append_right (by omega), h7, show (i + 1) * 9 + c - 9 = i * 9 + c from by omega]
      exact ih i (by simpa using h)

theorem addr_add (g j : Nat) : (⟨g, 0, none⟩ : Addr).add j = ⟨g, j, none⟩ := by simp [Addr.add]; intro h; exact h.symm

theorem items_of_owns {w : World} {base : Nat} {v : Value} {l : List Item} (h : w.ownsRow base 99 9 v l.length (allCells l)) : ItemsAt w v l := by
  have hh := h
  obtain ⟨_, ⟨rfl, h0⟩ | ⟨g, cap, cur, rfl, hb, hg, hc, _, _, _⟩⟩ := hh
  · exact Or.inl ⟨rfl, List.length_eq_zero_iff.1 h0⟩
  · refine Or.inr ⟨g, cap, rfl, hc, (h.lt g rfl).2, fun i hi => ?_⟩
    have hcl := h.cells (g := g) rfl
    have key : ∀ c, c < 9 → ∀ u, l[i].cells[c]? = some u → w.cell? ⟨g, i * 9 + c, none⟩ = some u := by
      intro c hc u hu
      have := hcl (i * 9 + c) u (by rw [allCells_get l i hi c hc]; exact hu)
      rwa [addr_add] at this
    exact ⟨key 0 (by omega) _ rfl, key 1 (by omega) _ rfl, key 2 (by omega) _ rfl, key 3 (by omega) _ rfl, key 4 (by omega) _ rfl, key 5 (by omega) _ rfl, key 6 (by omega) _ rfl, key 7 (by omega) _ rfl, key 8 (by omega) _ rfl⟩

/-- What is owned stays owned while nothing that is there turns. -/
theorem owns_later {w w' : World} {base : Nat} {e : TypeId} {size : Nat} {v : Value} {n : Nat} {xs : List Value} (h : w.ownsRow base e size v n xs) (hb : Below w.heap.size w w') : w'.ownsRow base e size v n xs :=
  h.kept (row := none) ⟨hb.os, hb.tape, hb.output, hb.size, fun k hk _ => hb.block k hk⟩ (by cases e : v.ownBlock <;> simp)

/-- The items of a text that has its form. -/
def itemsOf (s : ByteArray) : List Item := (rdAll s 24 0 []).1

/-- What Check answers: the error, and the place or the number. -/
def chk (s : ByteArray) : Nat × Nat :=
  if 400 < s.size then (1, 0)
  else if (rdAll s 24 0 []).2.2 = false then (2, (rdAll s 24 0 []).2.1)
  else if firstIx (twiceAt (itemsOf s)) (itemsOf s).length < (itemsOf s).length then (3, firstIx (twiceAt (itemsOf s)) (itemsOf s).length)
  else if firstIx (lostAt (itemsOf s)) (itemsOf s).length < (itemsOf s).length then (4, firstIx (lostAt (itemsOf s)) (itemsOf s).length)
  else (0, 0)

set_option maxRecDepth 100000 in
set_option maxHeartbeats 400000 in
theorem parse_any (s : ByteArray) (w : World) (hs : s.size ≤ maxLen) :
    Calls Try.prog 40 #[.string s] w fun e w' => ∃ v, e = .returned (.tuple #[v, .int .i64 ((chk s).1 : Nat), .int .i64 ((chk s).2 : Nat)]) ∧
      ((chk s).1 = 0 → w'.ownsRow (w.heap.size + 1) 99 9 v (itemsOf s).length (allCells (itemsOf s))) ∧ Below w.heap.size w w' := by
  have hnot : ∀ (x : Bool) (w : World), (Op.unary .not (.bool x)).run Try.prog w = .ok (.bool (!x)) w := fun _ _ => rfl
  unfold maxLen at hs
  by_cases h4 : 400 < s.size
  · have hc : chk s = (1, 0) := by simp [chk, h4]
    rw [hc]
    have h4' : (400 : Int) < (s.size : Int) := by omega
    go_enter Try.func40, Try.ntmps40
    go_wp2
    go_ret3
    exact ⟨.slice none 0 0, rfl, fun h => by simp at h, Below.refl _ _⟩
  · have h4' : ¬ (400 : Int) < (s.size : Int) := by omega
    have hr := readAll_any s w (by omega)
    have hll : (itemsOf s).length ≤ 24 := by have := rdAll_len s 24 0 []; simp at this; exact this
    cases hf : (rdAll s 24 0 []).2.2 with
    | false =>
      have hc : chk s = (2, (rdAll s 24 0 []).2.1) := by simp [chk, h4, hf]
      rw [hc]
      rw [hf] at hr
      clear hc hf
      go_enter Try.func40, Try.ntmps40
      go_wp2_with fail
      refine hr.mono ?_
      rintro e w1 ⟨v, rfl, hown, hb1⟩
      go_wp2
      go_ret3
      exact ⟨.slice none 0 0, rfl, fun h => by simp at h, hb1⟩
    | true =>
      rw [hf] at hr
      by_cases ht : firstIx (twiceAt (itemsOf s)) (itemsOf s).length < (itemsOf s).length
      · have hc : chk s = (3, firstIx (twiceAt (itemsOf s)) (itemsOf s).length) := by simp [chk, h4, hf, ht]
        rw [hc]
        clear hc hf
        go_enter Try.func40, Try.ntmps40
        go_wp2_with fail
        refine hr.mono ?_
        rintro e w1 ⟨v, rfl, hown, hb1⟩
        obtain ⟨a, cap, hv⟩ := slice_of_owns hown
        have hat := items_of_owns hown
        rw [show (rdAll s 24 0 []).1 = itemsOf s from rfl] at hat hv hown
        rw [hv] at hat ⊢
        go_wp2_with fail
        refine (firstTwice_any _ _ _ hll hat).mono ?_
        rintro e w2 ⟨rfl, hb2⟩
        go_wp2
        go_ret3
        exact ⟨.slice none 0 0, rfl, fun h => by simp at h, hb1.trans (hb2.mono hb1.size)⟩
      · by_cases hlo : firstIx (lostAt (itemsOf s)) (itemsOf s).length < (itemsOf s).length
        · have hc : chk s = (4, firstIx (lostAt (itemsOf s)) (itemsOf s).length) := by simp [chk, h4, hf, ht, hlo]
          rw [hc]
          clear hc hf
          go_enter Try.func40, Try.ntmps40
          go_wp2_with fail
          refine hr.mono ?_
          rintro e w1 ⟨v, rfl, hown, hb1⟩
          obtain ⟨a, cap, hv⟩ := slice_of_owns hown
          have hat := items_of_owns hown
          rw [show (rdAll s 24 0 []).1 = itemsOf s from rfl] at hat hv hown
          rw [hv] at hat hown ⊢
          go_wp2_with fail
          refine (firstTwice_any _ _ _ hll hat).mono ?_
          rintro e w2 ⟨rfl, hb2⟩
          have hown2 := owns_later hown hb2
          have hat2 := items_of_owns hown2
          go_wp2_with fail
          refine (firstLost_any _ _ _ hll hat2).mono ?_
          rintro e w3 ⟨rfl, hb3⟩
          go_wp2
          go_ret3
          exact ⟨.slice none 0 0, rfl, fun h => by simp at h, (hb1.trans (hb2.mono hb1.size)).trans (hb3.mono (Nat.le_trans hb1.size hb2.size))⟩
        · have hc : chk s = (0, 0) := by simp [chk, h4, hf, ht, hlo]
          rw [hc]
          clear hc hf
          go_enter Try.func40, Try.ntmps40
          go_wp2_with fail
          refine hr.mono ?_
          rintro e w1 ⟨v, rfl, hown, hb1⟩
          obtain ⟨a, cap, hv⟩ := slice_of_owns hown
          have hat := items_of_owns hown
          rw [show (rdAll s 24 0 []).1 = itemsOf s from rfl] at hat hv hown
          rw [hv] at hat hown ⊢
          go_wp2_with fail
          refine (firstTwice_any _ _ _ hll hat).mono ?_
          rintro e w2 ⟨rfl, hb2⟩
          have hown2 := owns_later hown hb2
          have hat2 := items_of_owns hown2
          go_wp2_with fail
          refine (firstLost_any _ _ _ hll hat2).mono ?_
          rintro e w3 ⟨rfl, hb3⟩
          go_wp2
          go_ret3
          exact ⟨_, rfl, fun _ => owns_later hown2 hb3, (hb1.trans (hb2.mono hb1.size)).trans (hb3.mono (Nat.le_trans hb1.size hb2.size))⟩

set_option maxHeartbeats 400000 in
theorem check_any (s : ByteArray) (w : World) (hs : s.size ≤ maxLen) :
    Calls Try.prog 24 #[.string s] w fun e w' => e = .returned (.tuple #[.int .i64 ((chk s).1 : Nat), .int .i64 ((chk s).2 : Nat)]) ∧ Below w.heap.size w w' := by
  go_enter Try.func24, Try.ntmps24
  go_wp2_with fail
  refine (parse_any s w hs).mono ?_
  rintro e w1 ⟨v, rfl, _, hb1⟩
  go_wp2
  go_ret2
  exact ⟨rfl, hb1⟩

end Go.Proofs.Ytdlhgbhaeedbdaa
