/- 'plan.Parse', 'Step.Text'. -/
import Derived.Test.YtdlhgbhaeedbdaaPl4
namespace Go.Proofs.Ytdlhgbhaeedbdaa
open Go.RowKit

/-- The zero step. -/
def zStep : Array Value := #[.bool false, .int .i64 0, .string ⟨#[]⟩, .string ⟨#[]⟩, .int .i64 0, .int .i64 0, .string ⟨#[]⟩, .bool false, .int .i64 0, .string ⟨#[]⟩]

theorem zStep_cells {w w1 : World} (hb : Below (w.heap.size + 1) (w.alloc (.cells zStep 101)) w1) : w1.heap[w.heap.size]? = some (.cells zStep 101 (0, 0)) := by
  rw [hb.block w.heap.size (by omega)]
  show (w.heap.push _)[w.heap.size]? = _
  simp

/-- A block of eight cells, as it was laid. -/
structure Cells10 (w : World) (b : Nat) : Prop where
  c0 : w.cell? ⟨b, 0, none⟩ = some (.bool false)
  c1 : w.cell? ⟨b, 1, none⟩ = some (.int .i64 0)
  c2 : w.cell? ⟨b, 2, none⟩ = some (.string ⟨#[]⟩)
  c3 : w.cell? ⟨b, 3, none⟩ = some (.string ⟨#[]⟩)
  c4 : w.cell? ⟨b, 4, none⟩ = some (.int .i64 0)
  c5 : w.cell? ⟨b, 5, none⟩ = some (.int .i64 0)
  c6 : w.cell? ⟨b, 6, none⟩ = some (.string ⟨#[]⟩)
  c7 : w.cell? ⟨b, 7, none⟩ = some (.bool false)
  c8 : w.cell? ⟨b, 8, none⟩ = some (.int .i64 0)
  c9 : w.cell? ⟨b, 9, none⟩ = some (.string ⟨#[]⟩)
  f0 : w.frozen? ⟨b, 0, none⟩ = false
  f1 : w.frozen? ⟨b, 1, none⟩ = false
  f2 : w.frozen? ⟨b, 2, none⟩ = false
  f3 : w.frozen? ⟨b, 3, none⟩ = false
  f4 : w.frozen? ⟨b, 4, none⟩ = false
  f5 : w.frozen? ⟨b, 5, none⟩ = false
  f6 : w.frozen? ⟨b, 6, none⟩ = false
  f7 : w.frozen? ⟨b, 7, none⟩ = false
  f8 : w.frozen? ⟨b, 8, none⟩ = false
  f9 : w.frozen? ⟨b, 9, none⟩ = false

theorem Cells10.of_block {w : World} {b : Nat} (hb : w.heap[b]? = some (.cells zStep 101 (0, 0))) : Cells10 w b := by
  constructor <;> simp [World.cell?, World.frozen?, hb, zStep]

set_option maxRecDepth 100000 in
set_option maxHeartbeats 400000 in
theorem stParse_bad (s : ByteArray) (w : World) (hm : s.size ≤ 9223372036854775807) (hs : 0 < s.size) (h1 : (s[0].toNat : Int) = 43 ∨ (s[0].toNat : Int) = 45) (hg : goodI (s.extract 1 s.size) = false) :
    Calls Try.prog 51 #[.string s] w fun e w' => e = .returned (.tuple #[.agg (stCells false noItem), .bool false]) ∧ Below w.heap.size w w' := by
  have hs' : ((s.size : Int) == 0) = false := by rw [beq_eq_false_iff_ne]; omega
  have hs2 : (0 : Int) < (s.size : Int) := by omega
  have hs3 : (1 : Int) ≤ (s.size : Int) := by omega
  have hp := parseItem_any (s.extract 1 s.size) (w.alloc (.cells zStep 101)) (by rw [ByteArray.size_extract]; omega)
  have ho : oneI (s.extract 1 s.size) = noItem := by simp [oneI, hg]
  rw [hg, ho] at hp
  unfold zStep at hp
  have Hp := hide hp
  have hnot : ∀ (x : Bool) (w : World), (Op.unary .not (.bool x)).run Try.prog w = .ok (.bool (!x)) w := fun _ _ => rfl
  have hd : noItem.cells = #[.int .i64 0, .string ⟨#[]⟩, .string ⟨#[]⟩, .int .i64 0, .int .i64 0, .string ⟨#[]⟩, .bool false, .int .i64 0, .string ⟨#[]⟩] := rfl
  clear hp ho hg
  have h2 : (((s[0].toNat : Int) != 43) = false) ∨ (((s[0].toNat : Int) != 43) = true ∧ ((s[0].toNat : Int) != 45) = false) := by
    rcases h1 with h | h
    · left; rw [bne_eq_false_iff_eq]; exact h
    · right; rw [bne_iff_ne, bne_eq_false_iff_eq]; omega
  clear h1
  rcases h2 with h2 | ⟨h2, h3⟩
  all_goals
    go_enter Try.func51, Try.ntmps51
    go_wp2_with fail
    refine (unhide Hp).mono ?_
    rintro e w1 ⟨rfl, hb0⟩
    have hb1 : Below (w.heap.size + 1) (w.alloc (.cells zStep 101)) w1 := hb0.mono (by simp)
    clear hb0
    obtain ⟨c0, c1, c2, c3, c4, c5, c6, c7, c8, c9, f0, f1, f2, f3, f4, f5, f6, f7, f8, f9⟩ := Cells10.of_block (zStep_cells hb1)
    have hsz : w.heap.size + 1 ≤ w1.heap.size := by have := hb1.size; simpa using this
    have hbl := fun o => Below.heap_alloc w1 o w.heap.size (by omega)
    have kc : ∀ o j, (w1.alloc o).cell? ⟨w.heap.size, j, none⟩ = w1.cell? ⟨w.heap.size, j, none⟩ := fun o j => World.cell?_of_block (a := ⟨w.heap.size, j, none⟩) (hbl o)
    have kf : ∀ o j, (w1.alloc o).frozen? ⟨w.heap.size, j, none⟩ = w1.frozen? ⟨w.heap.size, j, none⟩ := fun o j => World.frozen?_of_block (a := ⟨w.heap.size, j, none⟩) (hbl o)
    have HB := hide (((Below.refl w.heap.size w).alloc (Nat.le_refl _) _).trans (hb1.mono (by omega)))
    clear hbl hb1
    go_wp2_with fail
    refine bodyPost_ret (v := .tuple #[.agg (stCells false noItem), .bool false]) (by simp [results, Try.results51, go_sem, kc, c0, c1, c2, c3, c4, c5, c6, c7, c8, c9, stCells, noItem]) rfl ⟨rfl, ?_⟩
    exact below_set10 ((unhide HB).alloc (by omega) _) (Nat.le_refl _) _ _ _ _ _ _ _ _ _ _

set_option maxRecDepth 100000 in
set_option maxHeartbeats 400000 in
theorem stParse_ok (s : ByteArray) (w : World) (hm : s.size ≤ 9223372036854775807) (hs : 0 < s.size) (b : Bool) (h1 : (b = true ∧ (s[0].toNat : Int) = 43) ∨ (b = false ∧ (s[0].toNat : Int) = 45)) (hg : goodI (s.extract 1 s.size) = true) :
    Calls Try.prog 51 #[.string s] w fun e w' => e = .returned (.tuple #[.agg (stCells b (oneI (s.extract 1 s.size))), .bool true]) ∧ Below w.heap.size w w' := by
  have hs' : ((s.size : Int) == 0) = false := by rw [beq_eq_false_iff_ne]; omega
  have hs2 : (0 : Int) < (s.size : Int) := by omega
  have hs3 : (1 : Int) ≤ (s.size : Int) := by omega
  have hp := parseItem_any (s.extract 1 s.size) (w.alloc (.cells zStep 101)) (by rw [ByteArray.size_extract]; omega)
  rw [hg] at hp
  generalize oneI (s.extract 1 s.size) = x at *
  unfold zStep at hp
  have Hp := hide hp
  have hnot : ∀ (x : Bool) (w : World), (Op.unary .not (.bool x)).run Try.prog w = .ok (.bool (!x)) w := fun _ _ => rfl
  have hd : x.cells = #[.int .i64 x.kind, .string x.name, .string x.host, .int .i64 x.number, .int .i64 x.size, .string x.disk, .bool x.only, .int .i64 x.lun, .string x.text] := rfl
  clear hp hg
  have h2 : (b = true ∧ ((s[0].toNat : Int) != 43) = false ∧ ((s[0].toNat : Int) == 43) = true) ∨ (b = false ∧ ((s[0].toNat : Int) != 43) = true ∧ ((s[0].toNat : Int) != 45) = false ∧ ((s[0].toNat : Int) == 43) = false) := by
    rcases h1 with ⟨e, h⟩ | ⟨e, h⟩
    · left; rw [bne_eq_false_iff_eq, beq_iff_eq]; exact ⟨e, h, h⟩
    · right; rw [bne_iff_ne, bne_eq_false_iff_eq, beq_eq_false_iff_ne]; exact ⟨e, by omega, h, by omega⟩
  clear h1
  rcases h2 with ⟨rfl, h2, h4⟩ | ⟨rfl, h2, h3, h4⟩
  all_goals
    go_enter Try.func51, Try.ntmps51
    go_wp2_with fail
    refine (unhide Hp).mono ?_
    rintro e w1 ⟨rfl, hb0⟩
    have hb1 : Below (w.heap.size + 1) (w.alloc (.cells zStep 101)) w1 := hb0.mono (by simp)
    clear hb0
    obtain ⟨c0, c1, c2, c3, c4, c5, c6, c7, c8, c9, f0, f1, f2, f3, f4, f5, f6, f7, f8, f9⟩ := Cells10.of_block (zStep_cells hb1)
    have hsz : w.heap.size + 1 ≤ w1.heap.size := by have := hb1.size; simpa using this
    have hbl := fun o => Below.heap_alloc w1 o w.heap.size (by omega)
    have kc : ∀ o j, (w1.alloc o).cell? ⟨w.heap.size, j, none⟩ = w1.cell? ⟨w.heap.size, j, none⟩ := fun o j => World.cell?_of_block (a := ⟨w.heap.size, j, none⟩) (hbl o)
    have kf : ∀ o j, (w1.alloc o).frozen? ⟨w.heap.size, j, none⟩ = w1.frozen? ⟨w.heap.size, j, none⟩ := fun o j => World.frozen?_of_block (a := ⟨w.heap.size, j, none⟩) (hbl o)
    have HB := hide (((Below.refl w.heap.size w).alloc (Nat.le_refl _) _).trans (hb1.mono (by omega)))
    clear hbl hb1
    go_wp2_with fail
    go_region
    go_wp2
    refine bodyPost_ret (v := .tuple #[.agg (stCells _ x), .bool true]) (by simp [results, Try.results51, go_sem, kc, c0, c1, c2, c3, c4, c5, c6, c7, c8, c9, stCells]) rfl ⟨rfl, ?_⟩
    exact below_drewN (below_set10 ((unhide HB).alloc (by omega) _) (Nat.le_refl _) _ _ _ _ _ _ _ _ _ _) 1

end Go.Proofs.Ytdlhgbhaeedbdaa
