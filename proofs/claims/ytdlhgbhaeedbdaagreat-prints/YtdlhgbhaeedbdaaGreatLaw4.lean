/- A script opened: its steps by their cells. -/
import Derived.Test.YtdlhgbhaeedbdaaGreatLaw3
import Derived.ProofKit
import Derived.OpenShut
import Derived.Deep.Slices
namespace Go.Proofs.YtdlhgbhaeedbdaaGreat
open Go.ChangeShapes Go.WideShapes Go.ChangeAt Go.RowKit

theorem cellsOp : Tryz.prog.cellsOf 36 = 8 := by kernel_rfl
theorem cellsI : Tryz.prog.cellsOf 3 = 1 := by kernel_rfl
theorem cellsS : Tryz.prog.cellsOf 9 = 1 := by kernel_rfl
theorem cellsL : Tryz.prog.cellsOf 30 = 1 := by kernel_rfl

theorem slice_cell {H : Type} {enc : TypeId × Value → H} {P : Program} {w : World} {base : Nat} {spare : Nat → Bool} {held : Bool} {t e : TypeId} {fuel : Nat} {v : Value} {x : DataW H × List MemPlace}
    (ht : P.underlying t = some (.slice e)) (h : DataW.trod enc P w base spare held fuel t [v] = some x) : ∃ la ll lc, v = .slice la ll lc := by
  rcases DataW.trod_slice ht h with ⟨h0, _⟩ | ⟨a, len, cap, elems, rest, n, _, h0, _⟩
  · simp only [List.cons.injEq, and_true] at h0; exact ⟨_, _, _, h0⟩
  · simp only [List.cons.injEq, and_true] at h0; exact ⟨_, _, _, h0⟩

set_option maxRecDepth 100000 in
theorem op_cells {H : Type} {enc : TypeId × Value → H} {w : World} {base : Nat} {spare : Nat → Bool} {held : Bool} {fuel : Nat} {cs : List Value} {x : DataW H × List MemPlace}
    (h : DataW.trod enc Tryz.prog w base spare held fuel 36 cs = some x) :
    ∃ o : Opx, cs = [.int .i64 o.K, .int .i64 o.A, .int .i64 o.B, .int .i64 o.C, .int .i64 o.D, .string o.s, .string o.t, .slice o.la o.ll o.lc] ∧ o.s.size ≤ maxLen := by
  obtain ⟨xs, n, _, rfl, hl, hlen, hf⟩ := DataW.trod_struct Tryz.underlying36 h
  rw [cellsOp] at hl
  match cs, hl with
  | [v0, v1, v2, v3, v4, v5, v6, v7], _ =>
    match xs, hlen with
    | [y0, y1, y2, y3, y4, y5, y6, y7], _ =>
      have h0 : DataW.trod enc Tryz.prog w base spare held n 3 (([v0, v1, v2, v3, v4, v5, v6, v7].drop 0).take (Tryz.prog.cellsOf 3)) = some y0 := hf 0 _ rfl
      rw [cellsI] at h0
      have h1 : DataW.trod enc Tryz.prog w base spare held n 3 (([v0, v1, v2, v3, v4, v5, v6, v7].drop 1).take (Tryz.prog.cellsOf 3)) = some y1 := hf 1 _ rfl
      rw [cellsI] at h1
      have h2 : DataW.trod enc Tryz.prog w base spare held n 3 (([v0, v1, v2, v3, v4, v5, v6, v7].drop 2).take (Tryz.prog.cellsOf 3)) = some y2 := hf 2 _ rfl
      rw [cellsI] at h2
      have h3 : DataW.trod enc Tryz.prog w base spare held n 3 (([v0, v1, v2, v3, v4, v5, v6, v7].drop 3).take (Tryz.prog.cellsOf 3)) = some y3 := hf 3 _ rfl
      rw [cellsI] at h3
      have h4 : DataW.trod enc Tryz.prog w base spare held n 3 (([v0, v1, v2, v3, v4, v5, v6, v7].drop 4).take (Tryz.prog.cellsOf 3)) = some y4 := hf 4 _ rfl
      rw [cellsI] at h4
      have h5 : DataW.trod enc Tryz.prog w base spare held n 9 (([v0, v1, v2, v3, v4, v5, v6, v7].drop 5).take (Tryz.prog.cellsOf 9)) = some y5 := hf 5 _ rfl
      rw [cellsS] at h5
      have h6 : DataW.trod enc Tryz.prog w base spare held n 9 (([v0, v1, v2, v3, v4, v5, v6, v7].drop 6).take (Tryz.prog.cellsOf 9)) = some y6 := hf 6 _ rfl
      rw [cellsS] at h6
      have h7 : DataW.trod enc Tryz.prog w base spare held n 30 (([v0, v1, v2, v3, v4, v5, v6, v7].drop 7).take (Tryz.prog.cellsOf 30)) = some y7 := hf 7 _ rfl
      rw [cellsL] at h7
      obtain ⟨K, e0, _⟩ := DataW.trod_int Tryz.underlying3 h0
      obtain ⟨A, e1, _⟩ := DataW.trod_int Tryz.underlying3 h1
      obtain ⟨B, e2, _⟩ := DataW.trod_int Tryz.underlying3 h2
      obtain ⟨C, e3, _⟩ := DataW.trod_int Tryz.underlying3 h3
      obtain ⟨D, e4, _⟩ := DataW.trod_int Tryz.underlying3 h4
      obtain ⟨s, e5, _, hs⟩ := DataW.trod_string Tryz.underlying9 h5
      obtain ⟨t, e6, _, _⟩ := DataW.trod_string Tryz.underlying9 h6
      obtain ⟨la, ll, lc, e7⟩ := slice_cell Tryz.underlying30 h7
      simp at e0 e1 e2 e3 e4 e5 e6 e7
      exact ⟨⟨K, A, B, C, D, s, t, la, ll, lc⟩, by simp [e0, e1, e2, e3, e4, e5, e6, e7], hs⟩

set_option maxRecDepth 100000 in
theorem ops_open {H : Type} {enc : TypeId × Value → H} {W : World} {a0 : Option Addr} {len cap : Nat} {d0 : DataW H} {p : List MemPlace}
    (h0 : DataW.Trod enc Tryz.prog W 0 (fun _ => true) true 22 (.slice a0 len cap) d0 p) (hlt : ∀ x ∈ p, x.block < W.heap.size) :
    len = 0 ∨ ∃ (g o : Nat) (f : Nat → Opx), a0 = some ⟨g, o, none⟩ ∧ len ≤ maxLen ∧ g < W.heap.size ∧ (∀ i, i < len → (f i).s.size ≤ maxLen) ∧ ∀ i, i < len → OpAt W g (o + i * 8) (f i) := by
  obtain ⟨fuel, hf⟩ := h0
  rcases Go.Deep.open_slice Tryz.underlying22 hf with ⟨hcs, hx⟩ | ⟨a, len', cap', m, n, D, Pl, hcs, _, hl, hm, hmm, hx, hel⟩
  · simp [Value.cells] at hcs
    exact .inl hcs.2.1
  · simp [Value.cells] at hcs
    obtain ⟨rfl, rfl, rfl⟩ := hcs
    simp only [if_true] at hmm
    subst hmm
    by_cases hz : len = 0
    · exact .inl hz
    right
    simp only [Prod.mk.injEq] at hx
    obtain ⟨_, rfl⟩ := hx
    rw [cellsOp] at hel hlt
    haveI : Inhabited Opx := ⟨⟨0, 0, 0, 0, 0, .empty, .empty, none, 0, 0⟩⟩
    obtain ⟨f, hF⟩ := Go.Deep.choose_lt (α := Opx) (n := len) (p := fun i x => (∀ c, c < 8 → W.cell? ((a.add (i * 8)).add c) = [.int .i64 x.K, .int .i64 x.A, .int .i64 x.B, .int .i64 x.C, .int .i64 x.D, .string x.s, .string x.t, .slice x.la x.ll x.lc][c]?) ∧ x.s.size ≤ maxLen) (fun i hi => by
      obtain ⟨cs', h1, h2⟩ := hel i (by omega)
      obtain ⟨x, rfl, hxs⟩ := op_cells h2
      exact ⟨x, (World.cells?_some h1).2.2, hxs⟩)
    obtain ⟨g, o, spot⟩ := a
    have hspot : spot = none := by
      have := (hF 0 (by omega)).1 0 (by omega)
      simpa [Addr.add] using World.cell?_spot this
    subst hspot
    refine ⟨g, o, f, rfl, by omega, hlt (.cell g o) (List.mem_append.2 (.inl (MemPlace.mem_row.2 ⟨0, by omega, by simp⟩))), fun i hi => (hF i hi).2, fun i hi => ?_⟩
    have hc := (hF i hi).1
    simp only [add_plain] at hc
    exact ⟨hc 0 (by omega), hc 1 (by omega), hc 2 (by omega), hc 3 (by omega), hc 4 (by omega), hc 5 (by omega), hc 6 (by omega), hc 7 (by omega)⟩

end Go.Proofs.YtdlhgbhaeedbdaaGreat
