/- The reader: 'item', with its text. -/
import Derived.Test.YtdlhgbhaeedbdaaReader8
namespace Go.Proofs.Ytdlhgbhaeedbdaa
open Go.RowKit

/-- The item that is read from a place on, with its text. -/
def itemT (s : ByteArray) (st : Nat × Bool) : Item := { itemI s st with text := s.extract st.1 (itemS s st).1 }

theorem wd_mono (s : ByteArray) (l : List UInt8) (st : Nat × Bool) : st.1 ≤ (wd s l st).1 := by
  induction l generalizing st with
  | nil => exact Nat.le_refl _
  | cons c l ih => exact Nat.le_trans (tk_mono s _ _ st) (ih _)

theorem mdS_mono (s : ByteArray) (st : Nat × Bool) : st.1 ≤ (mdS s st).1 := by
  unfold mdS
  split <;> exact Nat.le_trans (wd_mono _ _ _) (wd_mono _ _ _)

theorem itemS_mono (s : ByteArray) (st : Nat × Bool) : st.1 ≤ (itemS s st).1 := by
  unfold itemS
  have t := tk_mono s
  have d := wd_mono s
  have n := nmS_mono s
  have m := mdS_mono s
  repeat' split
  · exact Nat.le_trans (d _ _) (Nat.le_trans (n _) (Nat.le_trans (d _ _) (Nat.le_trans (t _ _ _) (d _ _))))
  · exact Nat.le_trans (d _ _) (Nat.le_trans (n _) (d _ _))
  · exact Nat.le_trans (d _ _) (Nat.le_trans (n _) (Nat.le_trans (d _ _) (Nat.le_trans (t _ _ _) (Nat.le_trans (d _ _) (Nat.le_trans (n _) (Nat.le_trans (d _ _) (Nat.le_trans (m _) (d _ _))))))))
  · exact Nat.le_trans (d _ _) (Nat.le_trans (n _) (Nat.le_trans (d _ _) (Nat.le_trans (n _) (d _ _))))
  · exact Nat.le_trans (d _ _) (Nat.le_trans (n _) (Nat.le_trans (d _ _) (Nat.le_trans (n _) (Nat.le_trans (d _ _) (Nat.le_trans (t _ _ _) (Nat.le_trans (d _ _) (Nat.le_trans (t _ _ _) (d _ _))))))))
  · exact Nat.le_refl _

set_option maxRecDepth 100000 in
set_option maxHeartbeats 400000 in
theorem item_any (b : Nat) (s : ByteArray) (st : Nat × Bool) (w : World) (h : Rd w b s st) (hs : s.size ≤ 9223372036854775807) :
    Calls Try.prog 77 #[.pointer (some ⟨b, 0, none⟩)] w fun e w' => e = .returned (.agg (itemT s st).cells) ∧ Rd w' b s (itemS s st) ∧ w.grownBy w' (some b) := by
  have hlt := h.lt
  have c1 := (h.alloc (.cells zItem 99)).c1
  unfold zItem at c1
  have hmo := itemS_mono s st
  have hd : ∀ i : Item, i.cells = #[.int .i64 i.kind, .string i.name, .string i.host, .int .i64 i.number, .int .i64 i.size, .string i.disk, .bool i.only, .int .i64 i.lun, .string i.text] := fun _ => rfl
  go_enter Try.func77, Try.ntmps77
  go_wp2_with fail
  clear c1
  refine (kind_any b s st _ (h.alloc (.cells zItem 99)) hs).mono ?_
  rintro e w1 ⟨rfl, hrd1, hg1⟩
  obtain ⟨c0, c1, c2, c3, c4, c5, c6, c7, c8, f0, f1, f2, f3, f4, f5, f6, f7, f8⟩ := Cells9.of_grown hlt hg1
  have q0 := hrd1.c0
  have q1 := hrd1.c1
  have qle := hrd1.le
  have qlt := hrd1.lt
  have hsz := hg1.size
  simp at hsz
  have hb1 := fun o => Below.heap_alloc w1 o w.heap.size (by omega)
  have kc : ∀ o j, (w1.alloc o).cell? ⟨w.heap.size, j, none⟩ = w1.cell? ⟨w.heap.size, j, none⟩ := fun o j => World.cell?_of_block (a := ⟨w.heap.size, j, none⟩) (hb1 o)
  have kf : ∀ o j, (w1.alloc o).frozen? ⟨w.heap.size, j, none⟩ = w1.frozen? ⟨w.heap.size, j, none⟩ := fun o j => World.frozen?_of_block (a := ⟨w.heap.size, j, none⟩) (hb1 o)
  clear hb1
  go_wp2_with fail
  go_region
  go_wp2
  refine bodyPost_ret (v := .agg (itemT s st).cells) (by simp [results, Try.results77, go_sem, kc, c0, c1, c2, c3, c4, c5, c6, c7, c8, Item.cells, itemT]) rfl ⟨rfl, ?_, ?_⟩
  · exact ((hrd1.alloc _).set9 (by omega) _ _ _ _ _ _ _ _ _).drewN 1
  · exact gb_drewN (gb_set9 (gb_alloc (gb_trans (World.grownBy_alloc _ _ _) hg1) _) (Nat.le_refl _) _ _ _ _ _ _ _ _ _) 1

end Go.Proofs.Ytdlhgbhaeedbdaa
