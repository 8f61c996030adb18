/- The program's device, by what lies in its block. -/
import Derived.Test.YtdlhgbhaeedbdaaDv9
namespace Go.Proofs.Ytdlhgbhaeedbdaa
open Go.RowKit

def lateZ (i : Int) : Array Value := #[.int .i64 i] ++ Array.replicate 32 (.int .u8 0)

/-- A new late write: its sector, 32 bytes of 0. -/
theorem run_lateZ (i : Int) (w : World) : (Instr.build 89 #[(0, .int .i64 i)]).run Try.prog w = .ok (.agg (lateZ i)) w := by kernel_rfl

def AT (t : TypeId) : Prop := t = 77 ∨ t = 89

def ltCells (x : Lg) : List Value := .int .i64 x.sec :: byteCells x.data.data.toList
def latesC (U : List Lg) : List Value := U.flatMap ltCells

/-- The program's device in block b: what lasts, what is read, the late writes, the power. -/
structure ApiAt (w : World) (b : Nat) (S E : Nat → UInt8) (U : List Lg) (l : Int) (d : Bool) : Prop where
  ty : ∃ cs fr, w.heap[b]? = some (Obj.cells cs 77 fr)
  cs : ∀ j, j < 2048 → w.cell? ⟨b, j, none⟩ = some (.int .u8 (S j).toNat)
  ce : ∀ j, j < 2048 → w.cell? ⟨b, 2048 + j, none⟩ = some (.int .u8 (E j).toNat)
  cl : ∃ v, w.cell? ⟨b, 4096, none⟩ = some v ∧ w.ownsRow (b + 1) 89 33 v U.length (latesC U)
  c3 : w.cell? ⟨b, 4097, none⟩ = some (.int .i64 l)
  c4 : w.cell? ⟨b, 4098, none⟩ = some (.bool d)
  fz : ∀ o, w.frozen? ⟨b, o, none⟩ = false
  lt : b < w.heap.size

theorem cell_set_ne {w : World} {b o o' : Nat} {u v : Value} (h : w.cell? ⟨b, o, none⟩ = some v) (hne : o ≠ o') : (w.setCell ⟨b, o', none⟩ u).cell? ⟨b, o, none⟩ = some v := by
  have : (⟨b, o, none⟩ : Addr) ≠ ⟨b, o', none⟩ := by
    intro he
    simp only [Addr.mk.injEq] at he
    omega
  go_simp

def spLeft (l : Int) : Int := if 0 < l then l - 1 else l
def spDead (l : Int) (d : Bool) : Bool := if l = 0 then true else d

theorem ApiAt.set3 {w : World} {b : Nat} {S E : Nat → UInt8} {U : List Lg} {l : Int} {d : Bool} (h : ApiAt w b S E U l d) (n : Int) :
    ApiAt (w.setCell ⟨b, 4097, none⟩ (.int .i64 n)) b S E U n d ∧ Below b w (w.setCell ⟨b, 4097, none⟩ (.int .i64 n)) ∧ TK AT w (w.setCell ⟨b, 4097, none⟩ (.int .i64 n)) := by
  obtain ⟨⟨cs, fr, hty⟩, hs, he, ⟨v, c2, hrow⟩, c3, c4, fz, lt⟩ := h
  exact ⟨⟨ty_set ⟨cs, fr, hty⟩ _, fun j hj => cell_set_ne (hs j hj) (by omega), fun j hj => cell_set_ne (he j hj) (by omega), ⟨v, cell_set_ne c2 (by omega), ownsRow_setCell_below hrow (by simp) _⟩,
    by go_simp, cell_set_ne c4 (by omega), fun o => by simp [fz o], by simpa [World.setCell] using lt⟩, (Below.refl _ _).setCell (p := ⟨b, 4097, none⟩) (Nat.le_refl _) _, TK.setCell hty (.inl rfl) _⟩

theorem ApiAt.set4 {w : World} {b : Nat} {S E : Nat → UInt8} {U : List Lg} {l : Int} {d : Bool} (h : ApiAt w b S E U l d) (x : Bool) :
    ApiAt (w.setCell ⟨b, 4098, none⟩ (.bool x)) b S E U l x ∧ Below b w (w.setCell ⟨b, 4098, none⟩ (.bool x)) ∧ TK AT w (w.setCell ⟨b, 4098, none⟩ (.bool x)) := by
  obtain ⟨⟨cs, fr, hty⟩, hs, he, ⟨v, c2, hrow⟩, c3, c4, fz, lt⟩ := h
  exact ⟨⟨ty_set ⟨cs, fr, hty⟩ _, fun j hj => cell_set_ne (hs j hj) (by omega), fun j hj => cell_set_ne (he j hj) (by omega), ⟨v, cell_set_ne c2 (by omega), ownsRow_setCell_below hrow (by simp) _⟩,
    cell_set_ne c3 (by omega), by go_simp, fun o => by simp [fz o], by simpa [World.setCell] using lt⟩, (Below.refl _ _).setCell (p := ⟨b, 4098, none⟩) (Nat.le_refl _) _, TK.setCell hty (.inl rfl) _⟩

theorem ApiAt.spend {w : World} {b : Nat} {S E : Nat → UInt8} {U : List Lg} {l : Int} {d : Bool} (h : ApiAt w b S E U l d) :
    ApiAt (spW w b l) b S E U (spLeft l) (spDead l d) ∧ Below b w (spW w b l) ∧ TK AT w (spW w b l) := by
  unfold spW spLeft spDead
  by_cases h0 : l = 0
  · subst h0
    simp only [if_true, Int.lt_irrefl, if_false]
    exact h.set4 true
  · by_cases h1 : 0 < l
    · simp only [h0, h1, if_false, if_true]
      exact h.set3 (l - 1)
    · simp only [h0, h1, if_false]
      exact ⟨h, Below.refl _ _, TK.refl _ _⟩

end Go.Proofs.Ytdlhgbhaeedbdaa
