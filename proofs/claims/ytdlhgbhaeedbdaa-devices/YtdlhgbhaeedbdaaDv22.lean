/- A script of the device opened: its steps by their cells. -/
import Derived.Test.YtdlhgbhaeedbdaaDv21
import Derived.Test.YtdlhgbhaeedbdaaRows
import Derived.ProofKit
import Derived.OpenShut
import Derived.Deep.Slices
namespace Go.Proofs.Ytdlhgbhaeedbdaa
open Go.ChangeShapes Go.WideShapes Go.ChangeAt Go.RowKit

theorem cellsCall : Try.prog.cellsOf 32 = 3 := by kernel_rfl
theorem cellsInt : Try.prog.cellsOf 3 = 1 := by kernel_rfl
theorem cellsStr : Try.prog.cellsOf 9 = 1 := by kernel_rfl

set_option maxRecDepth 100000 in
theorem call_cells {H : Type} {enc : TypeId × Value → H} {w : World} {base : Nat} {spare : Nat → Bool} {held : Bool} {fuel : Nat} {cs : List Value} {x : DataW H × List MemPlace}
    (h : DataW.trod enc Try.prog w base spare held fuel 32 cs = some x) :
    ∃ o : Cx, cs = [.int .i64 o.K, .int .i64 o.A, .string o.s] ∧ o.s.size ≤ 9223372036854775807 ∧ o.A ≤ 9223372036854775807 := by
  obtain ⟨xs, n, _, rfl, hl, hlen, hf⟩ := DataW.trod_struct Try.underlying32 h
  rw [cellsCall] at hl
  match cs, hl with
  | [v0, v1, v2], _ =>
    match xs, hlen with
    | [y0, y1, y2], _ =>
      have h0 : DataW.trod enc Try.prog w base spare held n 3 (([v0, v1, v2].drop 0).take (Try.prog.cellsOf 3)) = some y0 := hf 0 _ rfl
      rw [cellsInt] at h0
      have h1 : DataW.trod enc Try.prog w base spare held n 3 (([v0, v1, v2].drop 1).take (Try.prog.cellsOf 3)) = some y1 := hf 1 _ rfl
      rw [cellsInt] at h1
      have h2 : DataW.trod enc Try.prog w base spare held n 9 (([v0, v1, v2].drop 2).take (Try.prog.cellsOf 9)) = some y2 := hf 2 _ rfl
      rw [cellsStr] at h2
      obtain ⟨K, e0, _⟩ := DataW.trod_int Try.underlying3 h0
      obtain ⟨A, e1, _, hA⟩ := DataW.trod_int Try.underlying3 h1
      obtain ⟨s, e2, _, hs⟩ := DataW.trod_string Try.underlying9 h2
      simp at e0 e1 e2
      have hA' : -9223372036854775808 ≤ A ∧ A ≤ 9223372036854775807 := by simpa [Lit.wf, IntKind.min, IntKind.max, IntKind.signed, IntKind.bits] using hA
      refine ⟨⟨K, A, s⟩, by simp [e0, e1, e2], ?_, hA'.2⟩
      unfold maxLen at hs
      simp only
      omega

/-- The bulk of a slice is at least its length. -/
theorem bulk_len {H : Type} (l : List (DataW H)) : l.length ≤ Rows.uptoBulkAll l := by
  induction l with
  | nil => simp [Rows.uptoBulkAll]
  | cons x r ih =>
    have h1 : 1 ≤ Rows.uptoBulk x := by
      cases x with
      | lit l => cases l <;> simp [Rows.uptoBulk]
      | nil => simp [Rows.uptoBulk]
      | ptr d => simp [Rows.uptoBulk]
      | slice elems spare => simp [Rows.uptoBulk]
      | agg parts => simp [Rows.uptoBulk]
      | iface t d => simp [Rows.uptoBulk]
      | map entries => simp [Rows.uptoBulk]
      | held h => simp [Rows.uptoBulk]
    simp only [Rows.uptoBulkAll, List.length_cons]
    omega

set_option maxRecDepth 100000 in
theorem calls_open {H : Type} {enc : TypeId × Value → H} {W : World} {a0 : Option Addr} {len cap : Nat} {d0 : DataW H} {p : List MemPlace}
    (h0 : DataW.Trod enc Try.prog W 0 (fun _ => true) true 22 (.slice a0 len cap) d0 p) (hlt : ∀ x ∈ p, x.block < W.heap.size) :
    ∃ f : Nat → Cx, (∀ i, i < len → (f i).s.size ≤ 9223372036854775807 ∧ (f i).A ≤ 9223372036854775807) ∧ (len = 0 ∨ ∃ g o, a0 = some ⟨g, o, none⟩ ∧ g < W.heap.size ∧ ∀ i, i < len → CxAt W g (o + i * 3) (f i)) := by
  obtain ⟨fuel, hf⟩ := h0
  rcases Go.Deep.open_slice Try.underlying22 hf with ⟨hcs, hx⟩ | ⟨a, len', cap', m, n, D, Pl, hcs, _, hl, hm, hmm, hx, hel⟩
  · simp [Value.cells] at hcs
    exact ⟨fun _ => ⟨0, 0, .empty⟩, fun i hi => by omega, .inl hcs.2.1⟩
  · simp [Value.cells] at hcs
    obtain ⟨rfl, rfl, rfl⟩ := hcs
    simp only [if_true] at hmm
    subst hmm
    by_cases hz : len = 0
    · exact ⟨fun _ => ⟨0, 0, .empty⟩, fun i hi => by omega, .inl hz⟩
    simp only [Prod.mk.injEq] at hx
    obtain ⟨_, rfl⟩ := hx
    rw [cellsCall] at hel hlt
    haveI : Inhabited Cx := ⟨⟨0, 0, .empty⟩⟩
    obtain ⟨f, hF⟩ := Go.Deep.choose_lt (α := Cx) (n := len) (p := fun i x => (∀ c, c < 3 → W.cell? ((a.add (i * 3)).add c) = [.int .i64 x.K, .int .i64 x.A, .string x.s][c]?) ∧ x.s.size ≤ 9223372036854775807 ∧ x.A ≤ 9223372036854775807) (fun i hi => by
      obtain ⟨cs', h1, h2⟩ := hel i (by omega)
      obtain ⟨x, rfl, hxs⟩ := call_cells h2
      exact ⟨x, (World.cells?_some h1).2.2, hxs⟩)
    obtain ⟨g, o, spot⟩ := a
    have hspot : spot = none := by
      have := (hF 0 (by omega)).1 0 (by omega)
      simpa [Addr.add] using World.cell?_spot this
    subst hspot
    refine ⟨f, fun i hi => (hF i hi).2, .inr ⟨g, o, rfl, hlt (.cell g o) (List.mem_append.2 (.inl (MemPlace.mem_row.2 ⟨0, by omega, by simp⟩))), fun i hi => ?_⟩⟩
    have hc := (hF i hi).1
    simp only [add_plain] at hc
    exact ⟨hc 0 (by omega), hc 1 (by omega), hc 2 (by omega)⟩

end Go.Proofs.Ytdlhgbhaeedbdaa
