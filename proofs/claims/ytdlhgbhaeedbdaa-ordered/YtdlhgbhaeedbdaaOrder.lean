/- 'inOrder'. -/
import Derived.Test.YtdlhgbhaeedbdaaSort
namespace Go.Proofs.Ytdlhgbhaeedbdaa
open Go.RowKit

theorem cell_set9_other {w : World} {g o : Nat} {q : Addr} (u0 u1 u2 u3 u4 u5 u6 u7 u8 : Value) (h : ∀ c, c < 9 → q ≠ ⟨g, o + c, none⟩) :
    (((((((((w.setCell ⟨g, o, none⟩ u0).setCell ⟨g, o + 1, none⟩ u1).setCell ⟨g, o + 2, none⟩ u2).setCell ⟨g, o + 3, none⟩ u3).setCell ⟨g, o + 4, none⟩ u4).setCell ⟨g, o + 5, none⟩ u5).setCell ⟨g, o + 6, none⟩ u6).setCell ⟨g, o + 7, none⟩ u7).setCell ⟨g, o + 8, none⟩ u8).cell? q = w.cell? q := by
  have e : ∀ (w : World) (c : Nat) (u : Value), c < 9 → (w.setCell ⟨g, o + c, none⟩ u).cell? q = w.cell? q := fun w c u hc => World.cell?_setCell_other _ _ _ _ (Ne.symm (h c hc))
  rw [e _ 8 _ (by omega), e _ 7 _ (by omega), e _ 6 _ (by omega), e _ 5 _ (by omega), e _ 4 _ (by omega), e _ 3 _ (by omega), e _ 2 _ (by omega), e _ 1 _ (by omega)]
  exact e _ 0 _ (by omega)

/-- An item is stored at place j. -/
theorem ItemsW.set {w : World} {g : Nat} {m : List Item} (h : ItemsW w g m) {j : Nat} (hj : j < m.length) (x : Item) :
    ItemsW (((((((((w.setCell ⟨g, j * 9, none⟩ (.int .i64 x.kind)).setCell ⟨g, j * 9 + 1, none⟩ (.string x.name)).setCell ⟨g, j * 9 + 2, none⟩ (.string x.host)).setCell ⟨g, j * 9 + 3, none⟩ (.int .i64 x.number)).setCell ⟨g, j * 9 + 4, none⟩ (.int .i64 x.size)).setCell ⟨g, j * 9 + 5, none⟩ (.string x.disk)).setCell ⟨g, j * 9 + 6, none⟩ (.bool x.only)).setCell ⟨g, j * 9 + 7, none⟩ (.int .i64 x.lun)).setCell ⟨g, j * 9 + 8, none⟩ (.string x.text)) g (m.set j x) := by
  obtain ⟨⟨hg, hit⟩, hf⟩ := h
  refine ⟨⟨by simpa [World.setCell] using hg, fun i hi => ?_⟩, fun o => by simp [hf o]⟩
  have hi' : i < m.length := by simpa using hi
  by_cases e : i = j
  · subst e
    simp only [List.getElem_set_self]
    refine cell_set9_same fun c hc => ?_
    obtain ⟨c0, c1, c2, c3, c4, c5, c6, c7, c8⟩ := hit i hi'
    match c, hc with
    | 0, _ => rw [Nat.add_zero, c0]; rfl
    | 1, _ => rw [c1]; rfl
    | 2, _ => rw [c2]; rfl
    | 3, _ => rw [c3]; rfl
    | 4, _ => rw [c4]; rfl
    | 5, _ => rw [c5]; rfl
    | 6, _ => rw [c6]; rfl
    | 7, _ => rw [c7]; rfl
    | 8, _ => rw [c8]; rfl
  · rw [List.getElem_set_ne (Ne.symm e)]
    obtain ⟨c0, c1, c2, c3, c4, c5, c6, c7, c8⟩ := hit i hi'
    have oth : ∀ d, d < 9 → ∀ c, c < 9 → (⟨g, i * 9 + d, none⟩ : Addr) ≠ ⟨g, j * 9 + c, none⟩ := by
      intro d hd c hc he
      simp only [Addr.mk.injEq] at he
      omega
    have oth0 : ∀ c, c < 9 → (⟨g, i * 9, none⟩ : Addr) ≠ ⟨g, j * 9 + c, none⟩ := by
      intro c hc he
      simp only [Addr.mk.injEq] at he
      omega
    exact ⟨(cell_set9_other _ _ _ _ _ _ _ _ _ oth0).trans c0, (cell_set9_other _ _ _ _ _ _ _ _ _ (oth 1 (by omega))).trans c1, (cell_set9_other _ _ _ _ _ _ _ _ _ (oth 2 (by omega))).trans c2, (cell_set9_other _ _ _ _ _ _ _ _ _ (oth 3 (by omega))).trans c3, (cell_set9_other _ _ _ _ _ _ _ _ _ (oth 4 (by omega))).trans c4, (cell_set9_other _ _ _ _ _ _ _ _ _ (oth 5 (by omega))).trans c5, (cell_set9_other _ _ _ _ _ _ _ _ _ (oth 6 (by omega))).trans c6, (cell_set9_other _ _ _ _ _ _ _ _ _ (oth 7 (by omega))).trans c7, (cell_set9_other _ _ _ _ _ _ _ _ _ (oth 8 (by omega))).trans c8⟩

/-- What 'make' lays for n items. -/
def madeItems (n : Nat) : Array Value := madeCells zItem (n * 9)

theorem madeItems_get (n i c : Nat) (hi : i < n) (hc : c < 9) : (madeItems n)[i * 9 + c]? = zItem[c]? := by
  have h7 : zItem.size = 9 := rfl
  unfold madeItems madeCells
  rw [Array.getElem?_map, Array.getElem?_range, if_pos (by omega), h7, Option.map_some, show (i * 9 + c) % 9 = c from by omega]
  have : c < zItem.size := by omega
  simp [this]

theorem items_made (w : World) (n : Nat) : ItemsW (w.alloc (.cells (madeItems n) 99)) w.heap.size (List.replicate n noItem) := by
  refine ⟨⟨by simp, fun i hi => ?_⟩, fun o => World.frozen?_alloc_at _ _ _ _ rfl⟩
  have hi' : i < n := by simpa using hi
  have key : ∀ c, c < 9 → ∀ u, zItem[c]? = some u → (w.alloc (.cells (madeItems n) 99)).cell? ⟨w.heap.size, i * 9 + c, none⟩ = some u := by
    intro c hc u hu
    rw [World.cell?_alloc_at _ _ _ _ rfl]
    rw [madeItems_get n i c hi' hc]
    exact hu
  rw [List.getElem_replicate]
  exact ⟨key 0 (by omega) _ rfl, key 1 (by omega) _ rfl, key 2 (by omega) _ rfl, key 3 (by omega) _ rfl, key 4 (by omega) _ rfl, key 5 (by omega) _ rfl, key 6 (by omega) _ rfl, key 7 (by omega) _ rfl, key 8 (by omega) _ rfl⟩

theorem run_makeItems (n : Nat) (hn : n ≤ 24) (w : World) : (Instr.makeSlice 78 (.int .i64 (n : Int)) (.int .i64 (n : Int))).run Try.prog w = .ok (.slice (some ⟨w.heap.size, 0, none⟩) n n) (w.alloc (.cells (madeItems n) 99)) := by
  obtain ⟨i0, hi, hz0, hz1, hz2⟩ := info_parts Try.infoItem
  have := run_make (P := Try.prog) w 78 99 i0 (.agg zItem) Try.underlying78 hi hz0 .i64 .i64 n n (by omega) (by omega) (by rw [hz2]; omega) (by omega)
  rw [hz1] at this
  simpa [Value.cells, madeItems] using this

end Go.Proofs.Ytdlhgbhaeedbdaa
