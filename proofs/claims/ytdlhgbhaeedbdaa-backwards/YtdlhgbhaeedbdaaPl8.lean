/- 'plan.canAdd', on. -/
import Derived.Test.YtdlhgbhaeedbdaaPl7
namespace Go.Proofs.Ytdlhgbhaeedbdaa
open Go.RowKit

theorem roomB_iff {l : List Item} {y : Item} (h : roomB l y = true) : l.length < 24 ∧ sizeI l + y.text.size ≤ 400 := by
  simpa [roomB] using h

theorem ItAt.zero {w : World} {g : Nat} {x : Item} (h : ItAt w g 0 x) : w.cell? ⟨g, 0, none⟩ = some (.int .i64 x.kind) ∧ w.cell? ⟨g, 1, none⟩ = some (.string x.name) ∧ w.cell? ⟨g, 2, none⟩ = some (.string x.host) ∧ w.cell? ⟨g, 3, none⟩ = some (.int .i64 x.number) ∧
    w.cell? ⟨g, 4, none⟩ = some (.int .i64 x.size) ∧ w.cell? ⟨g, 5, none⟩ = some (.string x.disk) ∧ w.cell? ⟨g, 6, none⟩ = some (.bool x.only) ∧ w.cell? ⟨g, 7, none⟩ = some (.int .i64 x.lun) ∧ w.cell? ⟨g, 8, none⟩ = some (.string x.text) := by
  obtain ⟨c0, c1, c2, c3, c4, c5, c6, c7, c8⟩ := h
  simp only [Nat.zero_add] at c1 c2 c3 c4 c5 c6 c7 c8
  exact ⟨c0, c1, c2, c3, c4, c5, c6, c7, c8⟩

theorem slice_of_items {w : World} {v : Value} {l : List Item} (hv : ItemsAt w v l) : ∃ a cap, v = .slice a l.length cap := by
  rcases hv with ⟨rfl, rfl⟩ | ⟨g, cap, rfl, _⟩
  · exact ⟨none, 0, rfl⟩
  · exact ⟨_, _, rfl⟩

theorem items_cells {w : World} {g : Nat} {l : List Item} (h : ItemsIn w g l) : ∀ (j : Nat) (u : Value), (allCells l)[j]? = some u → w.cell? ((⟨g, 0, none⟩ : Addr).add j) = some u := by
  intro j u hu
  have hj : j < l.length * 9 := by rw [← allCells_length]; exact (List.getElem?_eq_some_iff.1 hu).1
  obtain ⟨i, c, hc, e⟩ : ∃ i c, c < 9 ∧ j = i * 9 + c := ⟨j / 9, j % 9, Nat.mod_lt _ (by omega), by omega⟩
  subst e
  have hi : i < l.length := by omega
  rw [allCells_get l i hi c hc] at hu
  rw [addr_add]
  obtain ⟨c0, c1, c2, c3, c4, c5, c6, c7, c8⟩ := h.2 i hi
  match c, hc with
  | 0, _ => rw [Nat.add_zero, c0]; simpa [Item.cells] using hu
  | 1, _ => rw [c1]; simpa [Item.cells] using hu
  | 2, _ => rw [c2]; simpa [Item.cells] using hu
  | 3, _ => rw [c3]; simpa [Item.cells] using hu
  | 4, _ => rw [c4]; simpa [Item.cells] using hu
  | 5, _ => rw [c5]; simpa [Item.cells] using hu
  | 6, _ => rw [c6]; simpa [Item.cells] using hu
  | 7, _ => rw [c7]; simpa [Item.cells] using hu
  | 8, _ => rw [c8]; simpa [Item.cells] using hu

theorem items_oneCell (l : List Item) : ∀ u ∈ allCells l, u.oneCell' = true := by
  intro u hu
  obtain ⟨x, _, hx⟩ := List.mem_flatMap.1 hu
  exact item_oneCell x u hx

set_option maxRecDepth 100000 in
set_option maxHeartbeats 400000 in
theorem canAdd_room (v : Value) (l : List Item) (y : Item) (w : World) (hv : ItemsAt w v l) (hr : roomB l y = true) :
    Calls Try.prog 85 #[v, .agg #[.int .i64 y.kind, .string y.name, .string y.host, .int .i64 y.number, .int .i64 y.size, .string y.disk, .bool y.only, .int .i64 y.lun, .string y.text]] w fun e w' => e = .returned (.bool (freeB l y)) ∧ Below w.heap.size w w' := by
  obtain ⟨hl, hsz⟩ := roomB_iff hr
  have hnot : ∀ (x : Bool) (w : World), (Op.unary .not (.bool x)).run Try.prog w = .ok (.bool (!x)) w := fun _ _ => rfl
  have hnew := ItAt.new w y
  have hbn := below_new w (.cells (itCells y) 99)
  have hv0 := hv.below hbn (Nat.le_refl _)
  have hs0 : (w.alloc (.cells (itCells y) 99)).heap.size = w.heap.size + 1 := by simp
  obtain ⟨a, cap, hvs⟩ := slice_of_items hv
  have hS : ∀ n, Calls Try.prog 95 #[v] ((w.alloc (.cells (itCells y) 99)).drewN n) fun e w' => e = .returned (.int .i64 (sizeI l)) ∧ w' = (w.alloc (.cells (itCells y) 99)).drewN n := fun n =>
    size_at v l _ (by omega) (by omega) (hv0.below (below_drewN (Below.refl _ _) n) (Nat.le_refl _))
  have h24' : ¬ (24 : Int) ≤ (l.length : Int) := by omega
  have hbig' : ¬ (400 : Int) < ((sizeI l : Nat) : Int) + (y.text.size : Int) := by omega
  have hys : ((sizeI l : Nat) : Int) + (y.text.size : Int) ≤ 400 := by omega
  unfold itCells at hS
  have HS := hide hS
  have HV := hide hv0
  have HN := hide hnew
  have HB := hide hbn
  have Hs0 := hide hs0
  clear hS hv hv0 hnew hbn hs0 hr
  subst hvs
  go_enter Try.func85, Try.ntmps85
  go_wp2
  go_quiet (first | (go_at_call 95; exact (unhide HS _).mono (fun e w1 h => ⟨h.1, _, h.2⟩)))
  generalize hW : (w.alloc (.cells #[.int .i64 y.kind, .string y.name, .string y.host, .int .i64 y.number, .int .i64 y.size, .string y.disk, .bool y.only, .int .i64 y.lun, .string y.text] 99)) = w0 at *
  have e0 : w.alloc (.cells (itCells y) 99) = w0 := hW
  rw [e0] at HV HN HB Hs0
  clear hW e0 HS
  have hlt : w.heap.size < w0.heap.size := by have := unhide Hs0; omega
  clear Hs0
  have hv1 := (unhide HV).below (below_drewN (Below.refl w0.heap.size w0) nq) (Nat.le_refl _)
  have hn1 : ItAt (w0.drewN nq) w.heap.size 0 y := ⟨(unhide HN).c0, (unhide HN).c1, (unhide HN).c2, (unhide HN).c3, (unhide HN).c4, (unhide HN).c5, (unhide HN).c6, (unhide HN).c7, (unhide HN).c8⟩
  obtain ⟨b0, b1, b2, b3, b4, b5, b6, b7, b8⟩ := (unhide HN).zero
  have hh := has_at (.slice a l.length cap) l y.key (w0.drewN nq) (by omega) hv1
  have hb0 : Below w.heap.size w (w0.drewN nq) := below_drewN (unhide HB) nq
  have hsz0 : (w0.drewN nq).heap.size = w0.heap.size := rfl
  have Hsz0 := hide hsz0
  clear HB HN HV hsz0
  cases hk : l.any (keyIs y.key) with
  | true =>
    have hfr : freeB l y = false := by simp [freeB, hk]
    rw [hk] at hh
    have Hfr := hide hfr
    have Hh := hide hh
    clear hh hk hfr
    go_wp2_with fail
    refine (unhide Hh).mono ?_
    rintro e w1 ⟨rfl, hb1⟩
    have hl1 : w.heap.size < w1.heap.size := by have := hb1.size; have := unhide Hsz0; omega
    have hb01 : Below w.heap.size w w1 := hb0.trans (hb1.mono (by have := unhide Hsz0; omega))
    have hn2 := hn1.below hb1 (by have := unhide Hsz0; omega)
    have hv2 := hv1.below hb1 (Nat.le_refl _)
    clear b0 b1 b2 b3 b4 b5 b6 b7 b8
    obtain ⟨b0, b1, b2, b3, b4, b5, b6, b7, b8⟩ := hn2.zero
    go_wp2_with fail
    refine (names_any y _).mono ?_
    rintro e w2 ⟨kv, rfl, hkv, hb2⟩
    have hb02 : Below w.heap.size w w2 := hb01.trans (hb2.mono (by omega))
    clear b0 b1 b2 b3 b4 b5 b6 b7 b8
    go_wp2
    go_ret
    exact ⟨by rw [unhide Hfr]; rfl, hb02⟩
  | false =>
    have hfr : freeB l y = (namesOf y).all fun k => l.any (keyIs k) := by simp [freeB, hk]
    rw [hk] at hh
    have Hfr := hide hfr
    have Hh := hide hh
    clear hh hk hfr
    go_wp2_with fail
    refine (unhide Hh).mono ?_
    rintro e w1 ⟨rfl, hb1⟩
    have hl1 : w.heap.size < w1.heap.size := by have := hb1.size; have := unhide Hsz0; omega
    have hb01 : Below w.heap.size w w1 := hb0.trans (hb1.mono (by have := unhide Hsz0; omega))
    have hn2 := hn1.below hb1 (by have := unhide Hsz0; omega)
    have hv2 := hv1.below hb1 (Nat.le_refl _)
    clear b0 b1 b2 b3 b4 b5 b6 b7 b8
    obtain ⟨b0, b1, b2, b3, b4, b5, b6, b7, b8⟩ := hn2.zero
    go_wp2_with fail
    refine (names_any y _).mono ?_
    rintro e w2 ⟨kv, rfl, hkv, hb2⟩
    have hb02 : Below w.heap.size w w2 := hb01.trans (hb2.mono (by omega))
    have hall := hasAll_at _ l kv (namesOf y) w2 (by omega) (hv2.below hb2 (Nat.le_refl _)) _ hkv (namesOf_len y)
    have Ha := hide hall
    clear hall b0 b1 b2 b3 b4 b5 b6 b7 b8
    go_wp2_with fail
    refine (unhide Ha).mono ?_
    rintro e w3 ⟨rfl, hb3⟩
    go_wp2
    go_ret
    exact ⟨by rw [unhide Hfr]; rfl, hb02.trans (hb3.mono (by have := hb2.size; omega))⟩

theorem canAdd_at (v : Value) (l : List Item) (y : Item) (w : World) (hl : l.length ≤ 24) (hsz : sizeI l ≤ 1000000) (hy : y.text.size ≤ 1000000) (hv : ItemsAt w v l) :
    Calls Try.prog 85 #[v, .agg #[.int .i64 y.kind, .string y.name, .string y.host, .int .i64 y.number, .int .i64 y.size, .string y.disk, .bool y.only, .int .i64 y.lun, .string y.text]] w fun e w' => e = .returned (.bool (roomB l y && freeB l y)) ∧ Below w.heap.size w w' := by
  cases hr : roomB l y with
  | false => rw [Bool.false_and]; exact canAdd_full v l y w hl hsz hy hv hr
  | true => rw [Bool.true_and]; exact canAdd_room v l y w hv hr

end Go.Proofs.Ytdlhgbhaeedbdaa
