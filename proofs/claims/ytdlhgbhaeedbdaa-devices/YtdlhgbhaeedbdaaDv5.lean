/- The two devices: what an operation leaves alone, by the types of the blocks; the document's device: its power, its Write. -/
import Derived.Test.YtdlhgbhaeedbdaaDv4
namespace Go.Proofs.Ytdlhgbhaeedbdaa
open Go.RowKit

/-- Only blocks of the types T have changed. -/
structure TK (T : TypeId → Prop) (w w' : World) : Prop where
  os : w'.os = w.os
  tape : w'.tape = w.tape
  output : w'.output = w.output
  size : w.heap.size ≤ w'.heap.size
  block : ∀ (k : Nat) (cs : Array Value) (t : TypeId) (fr : Nat × Nat), w.heap[k]? = some (Obj.cells cs t fr) → ¬ T t → w'.heap[k]? = w.heap[k]?

theorem TK.refl (T : TypeId → Prop) (w : World) : TK T w w := ⟨rfl, rfl, rfl, Nat.le_refl _, fun _ _ _ _ _ _ => rfl⟩
theorem TK.trans {T : TypeId → Prop} {a b c : World} (h : TK T a b) (k : TK T b c) : TK T a c :=
  ⟨k.os.trans h.os, k.tape.trans h.tape, k.output.trans h.output, Nat.le_trans h.size k.size, fun i cs t fr hi ht => by
    have := h.block i cs t fr hi ht
    exact (k.block i cs t fr (this.trans hi) ht).trans this⟩
theorem TK.of_below {T : TypeId → Prop} {w w' : World} (h : Below w.heap.size w w') : TK T w w' :=
  ⟨h.os, h.tape, h.output, h.size, fun k _ _ _ hk _ => h.block k (by
    by_cases e : k < w.heap.size
    · exact e
    · rw [Array.getElem?_eq_none (by omega)] at hk; cases hk)⟩
theorem TK.setCell {T : TypeId → Prop} {w : World} {b o : Nat} {cs : Array Value} {t : TypeId} {fr : Nat × Nat} (hb : w.heap[b]? = some (Obj.cells cs t fr)) (ht : T t) (u : Value) : TK T w (w.setCell ⟨b, o, none⟩ u) :=
  ⟨rfl, rfl, rfl, by simp [World.setCell], fun k cs' t' fr' hk hn => Below.heap_setCell w _ u k (fun e => by
    simp only at e
    subst e
    rw [hb] at hk
    simp only [Option.some.injEq, Obj.cells.injEq] at hk
    exact hn (hk.2.1 ▸ ht))⟩
theorem TK.grown {T : TypeId → Prop} {w w' : World} {base : Nat} {e : TypeId} {size : Nat} {v : Value} {n : Nat} {xs : List Value} (hown : w.ownsRow base e size v n xs) (hg : w.grownBy w' v.ownBlock) (ht : T e) : TK T w w' :=
  ⟨hg.os, hg.tape, hg.output, hg.size, fun k cs t fr hk hn => hg.block k (by
      by_cases e : k < w.heap.size
      · exact e
      · rw [Array.getElem?_eq_none (by omega)] at hk; cases hk) (fun e1 => by
      obtain ⟨_, ⟨rfl, _⟩ | ⟨g, cap, cur, rfl, _, hcur, _⟩⟩ := hown
      · cases e1
      · simp only [Value.ownBlock, Option.some.injEq] at e1
        subst e1
        rw [hcur] at hk
        simp only [Option.some.injEq, Obj.cells.injEq] at hk
        exact hn (hk.2.1 ▸ ht))⟩

/-- The document's device in block b. -/
structure RefAt (w : World) (b : Nat) (L : List Lg) (l : Int) (d : Bool) : Prop where
  ty : ∃ cs fr, w.heap[b]? = some (.cells cs 43 fr)
  c0 : ∃ v, w.cell? ⟨b, 0, none⟩ = some v ∧ LogW w (b + 1) v L
  c1 : w.cell? ⟨b, 1, none⟩ = some (.int .i64 l)
  c2 : w.cell? ⟨b, 2, none⟩ = some (.bool d)
  fz : ∀ o, w.frozen? ⟨b, o, none⟩ = false
  lt : b < w.heap.size

def rcLeft (l : Int) (d : Bool) : Int := if d = true ∨ l = 0 then l else if 0 < l then l - 1 else l
def rcGone (l : Int) (d : Bool) : Bool := if d = true ∨ l = 0 then true else d

theorem RefAt.call {w : World} {b : Nat} {L : List Lg} {l : Int} {d : Bool} (h : RefAt w b L l d) :
    RefAt (rcW w b l d) b L (rcLeft l d) (rcGone l d) ∧ Below b w (rcW w b l d) ∧ TK (fun t => t = 43 ∨ t = 91) w (rcW w b l d) := by
  obtain ⟨⟨cs, fr, hty⟩, ⟨v, c0, hlog⟩, c1, c2, fz, lt⟩ := h
  unfold rcW rcLeft rcGone
  by_cases h1 : d = true ∨ l = 0
  · simp only [h1, if_true]
    refine ⟨⟨ty_set ⟨cs, fr, hty⟩ _, ⟨v, by go_simp, ownsRow_setCell_below hlog (by simp) _⟩, by go_simp, by go_simp, fun o => by simp [fz o], by simpa [World.setCell] using lt⟩, (Below.refl _ _).setCell (p := ⟨b, 2, none⟩) (Nat.le_refl _) _, TK.setCell hty (.inl rfl) _⟩
  · simp only [h1, if_false]
    by_cases h2 : 0 < l
    · simp only [h2, if_true]
      refine ⟨⟨ty_set ⟨cs, fr, hty⟩ _, ⟨v, by go_simp, ownsRow_setCell_below hlog (by simp) _⟩, by go_simp, by go_simp, fun o => by simp [fz o], by simpa [World.setCell] using lt⟩, (Below.refl _ _).setCell (p := ⟨b, 1, none⟩) (Nat.le_refl _) _, TK.setCell hty (.inl rfl) _⟩
    · simp only [h2, if_false]
      exact ⟨⟨⟨cs, fr, hty⟩, ⟨v, c0, hlog⟩, c1, c2, fz, lt⟩, Below.refl _ _, TK.refl _ _⟩

theorem RefAt.put {w w2 : World} {b : Nat} {L L' : List Lg} {l : Int} {d : Bool} {v' : Value} (h : RefAt w b L l d) (hB : Below (b + 1) w w2) (hl : LogW w2 (b + 1) v' L') :
    RefAt (w2.setCell ⟨b, 0, none⟩ v') b L' l d := by
  obtain ⟨⟨cs, fr, hty⟩, ⟨v, c0, hlog⟩, c1, c2, fz, lt⟩ := h
  have hty2 := (hB.block b (by omega)).trans hty
  have c0' := (hB.cell (p := ⟨b, 0, none⟩) (by simp)).trans c0
  have c1' := (hB.cell (p := ⟨b, 1, none⟩) (by simp)).trans c1
  have c2' := (hB.cell (p := ⟨b, 2, none⟩) (by simp)).trans c2
  have hs := hB.size
  refine ⟨ty_set ⟨cs, fr, hty2⟩ _, ⟨v', by go_simp, ownsRow_setCell_below hl (by simp) _⟩, by go_simp, by go_simp, fun o => ?_, by simp [World.setCell]; omega⟩
  have := (hB.frozen (p := ⟨b, o, none⟩) (by simp)).trans (fz o)
  simp [this]

end Go.Proofs.Ytdlhgbhaeedbdaa
