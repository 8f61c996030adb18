/- 'names': the keys of the items that an item names. -/
import Derived.Test.YtdlhgbhaeedbdaaGreatKeys
namespace Go.Proofs.YtdlhgbhaeedbdaaGreat
open Go.RowKit

/-- The keys of what an item names. -/
def namesOf (x : Item) : List Key :=
  if x.kind = 2 then [⟨1, x.name, ⟨#[]⟩, 0⟩, ⟨0, x.disk, ⟨#[]⟩, 0⟩]
  else if x.kind = 3 then [⟨1, x.name, ⟨#[]⟩, 0⟩]
  else if x.kind = 4 then [⟨3, x.name, x.host, 0⟩, ⟨2, x.name, ⟨#[]⟩, x.lun⟩]
  else []

/-- The key y lies in block g from offset o on. -/
structure KeyAt (w : World) (g o : Nat) (y : Key) : Prop where
  c0 : w.cell? ⟨g, o, none⟩ = some (.int .i64 y.kind)
  c1 : w.cell? ⟨g, o + 1, none⟩ = some (.string y.name)
  c2 : w.cell? ⟨g, o + 2, none⟩ = some (.string y.host)
  c3 : w.cell? ⟨g, o + 3, none⟩ = some (.int .i64 y.number)

/-- v is a list of the keys l, in a block from B on. -/
def KeysAt (w : World) (B : Nat) (v : Value) (l : List Key) : Prop :=
  (v = .slice none 0 0 ∧ l = []) ∨ ∃ g cap, v = .slice (some ⟨g, 0, none⟩) l.length cap ∧ B ≤ g ∧ g < w.heap.size ∧ ∀ i (h : i < l.length), KeyAt w g (i * 4) l[i]

theorem keys_two (w : World) (o : Obj) (y z : Key) : KeysAt ((w.alloc o).alloc (.cells #[.int .i64 y.kind, .string y.name, .string y.host, .int .i64 y.number, .int .i64 z.kind, .string z.name, .string z.host, .int .i64 z.number] 99)) w.heap.size (.slice (some ⟨w.heap.size + 1, 0, none⟩) 2 2) [y, z] := by
  refine Or.inr ⟨_, _, rfl, by omega, by simp, ?_⟩
  intro i hi
  match i, hi with
  | 0, _ => constructor <;> go_simp
  | 1, _ => constructor <;> go_simp

theorem keys_one (w : World) (o : Obj) (y : Key) : KeysAt ((w.alloc o).alloc (.cells #[.int .i64 y.kind, .string y.name, .string y.host, .int .i64 y.number] 99)) w.heap.size (.slice (some ⟨w.heap.size + 1, 0, none⟩) 1 1) [y] := by
  refine Or.inr ⟨_, _, rfl, by omega, by simp, ?_⟩
  intro i hi
  match i, hi with
  | 0, _ => constructor <;> go_simp

set_option maxHeartbeats 400000 in
theorem names_any (x : Item) (w : World) :
    Calls Tryz.prog 128 #[.agg #[.int .i64 x.kind, .string x.name, .string x.host, .int .i64 x.number, .int .i64 x.size, .string x.disk, .bool x.only, .int .i64 x.lun, .string x.text]] w fun e w' =>
      ∃ v, e = .returned v ∧ KeysAt w' w.heap.size v (namesOf x) ∧ Below w.heap.size w w' := by
  have hB : ∀ o1 o2, Below w.heap.size w ((w.alloc o1).alloc o2) := fun o1 o2 => ((Below.refl _ _).alloc (Nat.le_refl _) o1).alloc (by simp) o2
  by_cases h2 : x.kind = 2
  · have hn : namesOf x = [⟨1, x.name, ⟨#[]⟩, 0⟩, ⟨0, x.disk, ⟨#[]⟩, 0⟩] := by simp [namesOf, h2]
    have t2 : ((x.kind : Int) == 2) = true := by rw [beq_iff_eq]; omega
    rw [hn]
    go_enter Tryz.func128, Tryz.ntmps128
    go_wp2
    go_ret
    exact ⟨_, rfl, keys_two w _ ⟨1, x.name, ⟨#[]⟩, 0⟩ ⟨0, x.disk, ⟨#[]⟩, 0⟩, hB _ _⟩
  · have t2 : ((x.kind : Int) == 2) = false := by rw [beq_eq_false_iff_ne]; omega
    by_cases h3 : x.kind = 3
    · have hn : namesOf x = [⟨1, x.name, ⟨#[]⟩, 0⟩] := by simp [namesOf, h3]
      have t3 : ((x.kind : Int) == 3) = true := by rw [beq_iff_eq]; omega
      rw [hn]
      clear h3 h2
      go_enter Tryz.func128, Tryz.ntmps128
      go_wp2
      go_ret
      exact ⟨_, rfl, keys_one w _ ⟨1, x.name, ⟨#[]⟩, 0⟩, hB _ _⟩
    · have t3 : ((x.kind : Int) == 3) = false := by rw [beq_eq_false_iff_ne]; omega
      by_cases h4 : x.kind = 4
      · have hn : namesOf x = [⟨3, x.name, x.host, 0⟩, ⟨2, x.name, ⟨#[]⟩, x.lun⟩] := by simp [namesOf, h4]
        have t4 : ((x.kind : Int) == 4) = true := by rw [beq_iff_eq]; omega
        rw [hn]
        clear h4 h3 h2
        go_enter Tryz.func128, Tryz.ntmps128
        go_wp2
        go_ret
        exact ⟨_, rfl, keys_two w _ ⟨3, x.name, x.host, 0⟩ ⟨2, x.name, ⟨#[]⟩, x.lun⟩, hB _ _⟩
      · have t4 : ((x.kind : Int) == 4) = false := by rw [beq_eq_false_iff_ne]; omega
        have hn : namesOf x = [] := by simp [namesOf, h2, h3, h4]
        rw [hn]
        go_enter Tryz.func128, Tryz.ntmps128
        go_wp2
        go_ret
        exact ⟨_, rfl, Or.inl ⟨rfl, rfl⟩, (Below.refl _ _).alloc (Nat.le_refl _) _⟩

end Go.Proofs.YtdlhgbhaeedbdaaGreat
