/- The document's answer: 'Sorted'. -/
import Derived.Test.YtdlhgbhaeedbdaaGreatRef14
namespace Go.Proofs.YtdlhgbhaeedbdaaGreat
open Go.RowKit

/-- A row of texts that may be written. -/
def RStrsW (w : World) (g : Nat) (r : List ByteArray) : Prop := RStrs w g 0 r ∧ ∀ o, w.frozen? ⟨g, o, none⟩ = false

theorem RStrsW.below {B : Nat} {w w' : World} {g : Nat} {r : List ByteArray} (h : RStrsW w g r) (hb : Below B w w') (hg : g < B) : RStrsW w' g r :=
  ⟨h.1.below hb hg, fun o => (hb.frozen (p := ⟨g, o, none⟩) hg).trans (h.2 o)⟩
theorem RStrsW.later {w w' : World} {g : Nat} {r : List ByteArray} (h : RStrsW w g r) (hb : Below w.heap.size w w') : RStrsW w' g r := h.below hb h.1.1

theorem RStrsW.set {w : World} {g : Nat} {r : List ByteArray} (h : RStrsW w g r) {j : Nat} (hj : j < r.length) (x : ByteArray) : RStrsW (w.setCell ⟨g, j, none⟩ (.string x)) g (r.set j x) := by
  obtain ⟨⟨hg, hit⟩, hf⟩ := h
  refine ⟨⟨by simpa [World.setCell] using hg, fun i hi => ?_⟩, fun o => by simp [hf o]⟩
  have hi' : i < r.length := by simpa using hi
  have ci := hit i hi'
  have cj := hit j hj
  rw [Nat.zero_add] at ci cj ⊢
  by_cases e : i = j
  · subst e
    simp only [List.getElem_set_self]
    go_simp
  · rw [List.getElem_set_ne (Ne.symm e)]
    have : (⟨g, i, none⟩ : Addr) ≠ ⟨g, j, none⟩ := by
      intro he
      simp only [Addr.mk.injEq] at he
      omega
    go_simp

def madeStrs (n : Nat) : Array Value := madeCells #[.string ⟨#[]⟩] n

theorem strs_made (w : World) (n : Nat) : RStrsW (w.alloc (.cells (madeStrs n) 9)) w.heap.size (List.replicate n ⟨#[]⟩) := by
  refine ⟨⟨by simp, fun i hi => ?_⟩, fun o => World.frozen?_alloc_at _ _ _ _ rfl⟩
  have hi' : i < n := by simpa using hi
  rw [World.cell?_alloc_at _ _ _ _ rfl, List.getElem_replicate, Nat.zero_add]
  unfold madeStrs madeCells
  rw [Array.getElem?_map, Array.getElem?_range, if_pos (by omega)]
  simp
  rw [show i % 1 = 0 by omega]
  rfl

theorem run_makeStrs (n : Nat) (hn : n ≤ 24) (w : World) : (Instr.makeSlice 30 (.int .i64 (n : Int)) (.int .i64 (n : Int))).run Tryz.prog w = .ok (.slice (some ⟨w.heap.size, 0, none⟩) n n) (w.alloc (.cells (madeStrs n) 9)) := by
  obtain ⟨i0, hi, hz0, hz1, hz2⟩ := info_parts Tryz.infoStr
  have := run_make (P := Tryz.prog) w 30 9 i0 (.string ⟨#[]⟩) Tryz.underlying30 hi hz0 .i64 .i64 n n (by omega) (by omega) (by rw [hz2]; omega) (by omega)
  rw [hz1] at this
  simpa [Value.cells, madeStrs] using this

end Go.Proofs.YtdlhgbhaeedbdaaGreat
