/- 'plan.Make'. -/
import Derived.Test.YtdlhgbhaeedbdaaMk1
namespace Go.Proofs.Ytdlhgbhaeedbdaa
open Go.RowKit

theorem Try.infoStep : (Try.prog.info? 101).map (fun i => (i.zero, i.size, i.bytes)) = some (some (.agg zStep), 10, 112) := by kernel_rfl

theorem step_oneCell (b : Bool) (x : Item) : ∀ u ∈ (stCells b x).toList, u.oneCell' = true := by
  intro u hu
  simp [stCells] at hu
  rcases hu with rfl | rfl | rfl | rfl | rfl | rfl | rfl | rfl | rfl | rfl <;> rfl

/-- Steps that take out, for the items of one kind. -/
def outs (g : List Item) (c : Nat) : List (Bool × Item) := (g.filter fun x => decide ((x.kind : Int) = 4 - (c : Int))).map fun x => (false, x)
/-- Steps that take out, from the maps on, c kinds of them. -/
def dn (g : List Item) : Nat → List (Bool × Item)
  | 0 => []
  | c + 1 => dn g c ++ outs g c
/-- Steps that put in what does not stay. -/
def ups (st m : List Item) : List (Bool × Item) := (m.filter fun x => !(holdsB st x.text)).map fun x => (true, x)

theorem outs_take (g : List Item) (c k : Nat) (h : k < g.length) : outs (g.take (k + 1)) c = if (g[k].kind : Int) = 4 - (c : Int) then outs (g.take k) c ++ [(false, g[k])] else outs (g.take k) c := by
  unfold outs
  rw [List.take_succ_eq_append_getElem h, List.filter_append, List.map_append]
  split
  · rename_i e; simp [e]
  · rename_i e; simp [e]

theorem ups_take (st m : List Item) (k : Nat) (h : k < m.length) : ups st (m.take (k + 1)) = if holdsB st m[k].text then ups st (m.take k) else ups st (m.take k) ++ [(true, m[k])] := by
  unfold ups
  rw [List.take_succ_eq_append_getElem h, List.filter_append, List.map_append]
  cases e : holdsB st m[k].text <;> simp [e]

theorem outs_len (g : List Item) (c : Nat) : (outs g c).length ≤ g.length := by simp [outs]; exact List.length_filter_le _ _
theorem ups_len (st m : List Item) : (ups st m).length ≤ m.length := by simp [ups]; exact List.length_filter_le _ _

/-- The c kinds from the maps on. -/
theorem dn_len (g : List Item) (c : Nat) : (dn g c).length ≤ (g.filter fun x => decide (4 - (c : Int) < (x.kind : Int))).length := by
  induction c with
  | zero => simp [dn]
  | succ c ih =>
    simp only [dn, List.length_append, outs, List.length_map]
    have : ∀ l : List Item, (l.filter fun x => decide (4 - (c : Int) < (x.kind : Int))).length + (l.filter fun x => decide ((x.kind : Int) = 4 - (c : Int))).length ≤ (l.filter fun x => decide (4 - ((c + 1 : Nat) : Int) < (x.kind : Int))).length := by
      intro l
      induction l with
      | nil => simp
      | cons a l ihl =>
        simp only [List.filter_cons]
        by_cases h1 : 4 - (c : Int) < (a.kind : Int)
        · have h2 : ¬ (a.kind : Int) = 4 - (c : Int) := by omega
          have h3 : 4 - ((c + 1 : Nat) : Int) < (a.kind : Int) := by omega
          rw [if_pos (decide_eq_true h1), if_neg (fun h => h2 (of_decide_eq_true h)), if_pos (decide_eq_true h3)]
          simp only [List.length_cons]
          omega
        · by_cases h2 : (a.kind : Int) = 4 - (c : Int)
          · have h3 : 4 - ((c + 1 : Nat) : Int) < (a.kind : Int) := by omega
            rw [if_neg (fun h => h1 (of_decide_eq_true h)), if_pos (decide_eq_true h2), if_pos (decide_eq_true h3)]
            simp only [List.length_cons]
            omega
          · have h3 : ¬ 4 - ((c + 1 : Nat) : Int) < (a.kind : Int) := by omega
            rw [if_neg (fun h => h1 (of_decide_eq_true h)), if_neg (fun h => h2 (of_decide_eq_true h)), if_neg (fun h => h3 (of_decide_eq_true h))]
            exact ihl
    have := this g
    omega

theorem dn_le (g : List Item) (c : Nat) : (dn g c).length ≤ g.length := Nat.le_trans (dn_len g c) (List.length_filter_le _ _)

theorem ItemsIn.kept {w w' : World} {g : Nat} {l : List Item} {row : Option Nat} (h : ItemsIn w g l) (hg : w.grownBy w' row) (hne : row ≠ some g) : ItemsIn w' g l := by
  have hb := hg.block g h.1 (fun e => hne e.symm)
  refine ⟨Nat.lt_of_lt_of_le h.1 hg.size, fun i hi => ?_⟩
  obtain ⟨c0, c1, c2, c3, c4, c5, c6, c7, c8⟩ := h.2 i hi
  exact ⟨(World.cell?_of_block (a := ⟨g, i * 9, none⟩) hb).trans c0, (World.cell?_of_block (a := ⟨g, i * 9 + 1, none⟩) hb).trans c1, (World.cell?_of_block (a := ⟨g, i * 9 + 2, none⟩) hb).trans c2, (World.cell?_of_block (a := ⟨g, i * 9 + 3, none⟩) hb).trans c3,
    (World.cell?_of_block (a := ⟨g, i * 9 + 4, none⟩) hb).trans c4, (World.cell?_of_block (a := ⟨g, i * 9 + 5, none⟩) hb).trans c5, (World.cell?_of_block (a := ⟨g, i * 9 + 6, none⟩) hb).trans c6, (World.cell?_of_block (a := ⟨g, i * 9 + 7, none⟩) hb).trans c7, (World.cell?_of_block (a := ⟨g, i * 9 + 8, none⟩) hb).trans c8⟩

end Go.Proofs.Ytdlhgbhaeedbdaa
