/- 'ParseItem'. -/
import Derived.Test.YtdlhgbhaeedbdaaPl2
namespace Go.Proofs.Ytdlhgbhaeedbdaa
open Go.RowKit

/-- Is the text just one item? -/
def goodI (s : ByteArray) : Bool := !(itemS s (0, false)).2 && decide ((itemS s (0, false)).1 = s.size)

/-- What ParseItem answers. -/
def oneI (s : ByteArray) : Item := if goodI s then itemT s (0, false) else noItem

theorem kept_block {w w' : World} {o1 o2 : Obj} (hg : ((w.alloc o1).alloc o2).grownBy w' (some (w.heap.size + 1))) : w'.heap[w.heap.size]? = some o1 := by
  rw [hg.block w.heap.size (by simp; omega) (by simp), Below.heap_alloc _ _ _ (by simp)]
  show (w.heap.push _)[w.heap.size]? = _
  simp

set_option maxRecDepth 100000 in
set_option maxHeartbeats 400000 in
theorem parseItem_bad (s : ByteArray) (w : World) (hs : s.size ≤ 9223372036854775807) (hb : (itemS s (0, false)).2 = true) :
    Calls Try.prog 66 #[.string s] w fun e w' => e = .returned (.tuple #[.agg noItem.cells, .bool false]) ∧ Below w.heap.size w w' := by
  have h0 := rd_start (w.alloc (.cells zItem 99)) s
  have hsz0 : (w.alloc (.cells zItem 99)).heap.size = w.heap.size + 1 := by simp
  rw [hsz0] at h0
  have hB0 : ∀ o1 o2, Below w.heap.size w ((w.alloc o1).alloc o2) := fun o1 o2 => ((Below.refl _ _).alloc (Nat.le_refl _) o1).alloc (by simp) o2
  have hd : ∀ i : Item, i.cells = #[.int .i64 i.kind, .string i.name, .string i.host, .int .i64 i.number, .int .i64 i.size, .string i.disk, .bool i.only, .int .i64 i.lun, .string i.text] := fun _ => rfl
  unfold zItem at h0
  go_enter Try.func66, Try.ntmps66
  go_wp2_with fail
  refine (item_any (w.heap.size + 1) s (0, false) _ h0 hs).mono ?_
  rintro e w1 ⟨rfl, hrd1, hg1⟩
  obtain ⟨c0, c1, c2, c3, c4, c5, c6, c7, c8, f0, f1, f2, f3, f4, f5, f6, f7, f8⟩ := Cells9.of_block (kept_block (o1 := .cells zItem 99) hg1)
  have q1 := hrd1.c1
  have q2 := hrd1.c2
  have qlt := hrd1.lt
  have qle := hrd1.le
  have hb1 := fun o => Below.heap_alloc w1 o w.heap.size (by omega)
  have kc : ∀ o j, (w1.alloc o).cell? ⟨w.heap.size, j, none⟩ = w1.cell? ⟨w.heap.size, j, none⟩ := fun o j => World.cell?_of_block (a := ⟨w.heap.size, j, none⟩) (hb1 o)
  have kf : ∀ o j, (w1.alloc o).frozen? ⟨w.heap.size, j, none⟩ = w1.frozen? ⟨w.heap.size, j, none⟩ := fun o j => World.frozen?_of_block (a := ⟨w.heap.size, j, none⟩) (hb1 o)
  have hbl : Below w.heap.size w w1 := (hB0 _ _).trans (gb_below hg1 (by simp; omega) (by omega))
  have HB := hide hbl
  clear hb1 hbl hB0 h0
  rw [hb] at q2
  clear hb
  go_wp2_with fail
  refine bodyPost_ret (v := .tuple #[.agg noItem.cells, .bool false]) (by simp [results, Try.results66, go_sem, kc, c0, c1, c2, c3, c4, c5, c6, c7, c8, Item.cells, noItem]) rfl ⟨rfl, ?_⟩
  exact below_set9 ((unhide HB).alloc (by omega) _) (Nat.le_refl _) 0 _ _ _ _ _ _ _ _ _

set_option maxRecDepth 100000 in
set_option maxHeartbeats 400000 in
theorem parseItem_ok (s : ByteArray) (w : World) (hs : s.size ≤ 9223372036854775807) (hb : (itemS s (0, false)).2 = false) (hn : (itemS s (0, false)).1 = s.size) :
    Calls Try.prog 66 #[.string s] w fun e w' => e = .returned (.tuple #[.agg (itemT s (0, false)).cells, .bool true]) ∧ Below w.heap.size w w' := by
  have h0 := rd_start (w.alloc (.cells zItem 99)) s
  have hsz0 : (w.alloc (.cells zItem 99)).heap.size = w.heap.size + 1 := by simp
  rw [hsz0] at h0
  have hB0 : ∀ o1 o2, Below w.heap.size w ((w.alloc o1).alloc o2) := fun o1 o2 => ((Below.refl _ _).alloc (Nat.le_refl _) o1).alloc (by simp) o2
  have hd : ∀ i : Item, i.cells = #[.int .i64 i.kind, .string i.name, .string i.host, .int .i64 i.number, .int .i64 i.size, .string i.disk, .bool i.only, .int .i64 i.lun, .string i.text] := fun _ => rfl
  unfold zItem at h0
  go_enter Try.func66, Try.ntmps66
  go_wp2_with fail
  refine (item_any (w.heap.size + 1) s (0, false) _ h0 hs).mono ?_
  rintro e w1 ⟨rfl, hrd1, hg1⟩
  obtain ⟨c0, c1, c2, c3, c4, c5, c6, c7, c8, f0, f1, f2, f3, f4, f5, f6, f7, f8⟩ := Cells9.of_block (kept_block (o1 := .cells zItem 99) hg1)
  have q1 := hrd1.c1
  have q2 := hrd1.c2
  have qlt := hrd1.lt
  have qle := hrd1.le
  have hb1 := fun o => Below.heap_alloc w1 o w.heap.size (by omega)
  have kc : ∀ o j, (w1.alloc o).cell? ⟨w.heap.size, j, none⟩ = w1.cell? ⟨w.heap.size, j, none⟩ := fun o j => World.cell?_of_block (a := ⟨w.heap.size, j, none⟩) (hb1 o)
  have kf : ∀ o j, (w1.alloc o).frozen? ⟨w.heap.size, j, none⟩ = w1.frozen? ⟨w.heap.size, j, none⟩ := fun o j => World.frozen?_of_block (a := ⟨w.heap.size, j, none⟩) (hb1 o)
  have hbl : Below w.heap.size w w1 := (hB0 _ _).trans (gb_below hg1 (by simp; omega) (by omega))
  have HB := hide hbl
  clear hb1 hbl hB0 h0
  rw [hb] at q2
  have ht : ¬ ((itemS s (0, false)).1 : Int) < (s.size : Int) := by omega
  clear hb hn
  go_wp2_with fail
  refine bodyPost_ret (v := .tuple #[.agg (itemT s (0, false)).cells, .bool true]) (by simp [results, Try.results66, go_sem, kc, c0, c1, c2, c3, c4, c5, c6, c7, c8, Item.cells]) rfl ⟨rfl, ?_⟩
  exact below_set9 ((unhide HB).alloc (by omega) _) (Nat.le_refl _) 0 _ _ _ _ _ _ _ _ _

set_option maxRecDepth 100000 in
set_option maxHeartbeats 400000 in
theorem parseItem_more (s : ByteArray) (w : World) (hs : s.size ≤ 9223372036854775807) (hb : (itemS s (0, false)).2 = false) (hn : ¬ (itemS s (0, false)).1 = s.size) :
    Calls Try.prog 66 #[.string s] w fun e w' => e = .returned (.tuple #[.agg noItem.cells, .bool false]) ∧ Below w.heap.size w w' := by
  have h0 := rd_start (w.alloc (.cells zItem 99)) s
  have hsz0 : (w.alloc (.cells zItem 99)).heap.size = w.heap.size + 1 := by simp
  rw [hsz0] at h0
  have hB0 : ∀ o1 o2, Below w.heap.size w ((w.alloc o1).alloc o2) := fun o1 o2 => ((Below.refl _ _).alloc (Nat.le_refl _) o1).alloc (by simp) o2
  have hd : ∀ i : Item, i.cells = #[.int .i64 i.kind, .string i.name, .string i.host, .int .i64 i.number, .int .i64 i.size, .string i.disk, .bool i.only, .int .i64 i.lun, .string i.text] := fun _ => rfl
  unfold zItem at h0
  go_enter Try.func66, Try.ntmps66
  go_wp2_with fail
  refine (item_any (w.heap.size + 1) s (0, false) _ h0 hs).mono ?_
  rintro e w1 ⟨rfl, hrd1, hg1⟩
  obtain ⟨c0, c1, c2, c3, c4, c5, c6, c7, c8, f0, f1, f2, f3, f4, f5, f6, f7, f8⟩ := Cells9.of_block (kept_block (o1 := .cells zItem 99) hg1)
  have q1 := hrd1.c1
  have q2 := hrd1.c2
  have qlt := hrd1.lt
  have qle := hrd1.le
  have hb1 := fun o => Below.heap_alloc w1 o w.heap.size (by omega)
  have kc : ∀ o j, (w1.alloc o).cell? ⟨w.heap.size, j, none⟩ = w1.cell? ⟨w.heap.size, j, none⟩ := fun o j => World.cell?_of_block (a := ⟨w.heap.size, j, none⟩) (hb1 o)
  have kf : ∀ o j, (w1.alloc o).frozen? ⟨w.heap.size, j, none⟩ = w1.frozen? ⟨w.heap.size, j, none⟩ := fun o j => World.frozen?_of_block (a := ⟨w.heap.size, j, none⟩) (hb1 o)
  have hbl : Below w.heap.size w w1 := (hB0 _ _).trans (gb_below hg1 (by simp; omega) (by omega))
  have HB := hide hbl
  clear hb1 hbl hB0 h0
  rw [hb] at q2
  have ht : ((itemS s (0, false)).1 : Int) < (s.size : Int) := by omega
  clear hb hn
  go_wp2_with fail
  refine bodyPost_ret (v := .tuple #[.agg noItem.cells, .bool false]) (by simp [results, Try.results66, go_sem, kc, c0, c1, c2, c3, c4, c5, c6, c7, c8, Item.cells, noItem]) rfl ⟨rfl, ?_⟩
  exact below_set9 ((unhide HB).alloc (by omega) _) (Nat.le_refl _) 0 _ _ _ _ _ _ _ _ _

theorem parseItem_any (s : ByteArray) (w : World) (hs : s.size ≤ 9223372036854775807) :
    Calls Try.prog 66 #[.string s] w fun e w' => e = .returned (.tuple #[.agg (oneI s).cells, .bool (goodI s)]) ∧ Below w.heap.size w w' := by
  cases hb : (itemS s (0, false)).2 with
  | true =>
    have e1 : goodI s = false := by simp [goodI, hb]
    have e2 : oneI s = noItem := by simp [oneI, e1]
    rw [e1, e2]; exact parseItem_bad s w hs hb
  | false =>
    by_cases hn : (itemS s (0, false)).1 = s.size
    · have e1 : goodI s = true := by simp [goodI, hb, hn]
      have e2 : oneI s = itemT s (0, false) := by simp [oneI, e1]
      rw [e1, e2]; exact parseItem_ok s w hs hb hn
    · have e1 : goodI s = false := by simp [goodI, hn]
      have e2 : oneI s = noItem := by simp [oneI, e1]
      rw [e1, e2]; exact parseItem_more s w hs hb hn

end Go.Proofs.Ytdlhgbhaeedbdaa
