/- Pl2, Pl3, Pl4, Pl5. -/
import Derived.Test.YtdlhgbhaeedbdabGreatM5

/- 'Named', at whatever list of items. -/
namespace Go.Proofs.YtdlhgbhaeedbdabGreat
open Go.RowKit

/-- Are two keys the same? -/
def sameKey (a b : Key) : Bool := decide (a.kind = b.kind ∧ a.name = b.name ∧ a.host = b.host ∧ a.number = b.number)

/-- Does one of the items name what has the key? -/
def namedB (l : List Item) (k : Key) : Bool := l.any fun x => (namesOf x).any fun q => sameKey q k

theorem keyAt_below {B : Nat} {w w' : World} {g o : Nat} {y : Key} (h : KeyAt w g o y) (hb : Below B w w') (hg : g < B) : KeyAt w' g o y :=
  ⟨(hb.cell (p := ⟨g, o, none⟩) hg).trans h.c0, (hb.cell (p := ⟨g, o + 1, none⟩) hg).trans h.c1, (hb.cell (p := ⟨g, o + 2, none⟩) hg).trans h.c2, (hb.cell (p := ⟨g, o + 3, none⟩) hg).trans h.c3⟩

set_option maxRecDepth 100000 in
set_option maxHeartbeats 1000000 in
theorem named_at (v : Value) (l : List Item) (y : Key) (w : World) (hl : l.length ≤ 24) (hv : ItemsAt w v l) :
    Calls Tryz.prog 165 #[v, .agg #[.int .i64 y.kind, .string y.name, .string y.host, .int .i64 y.number]] w fun e w' => e = .returned (.bool (namedB l y)) ∧ Below w.heap.size w w' := by
  rcases hv with ⟨rfl, rfl⟩ | ⟨g, cap, rfl, hcap, hit⟩
  · go_enter Tryz.func165, Tryz.ntmps165
    go_wp2
    refine wp_loop_rounds 1 ?_
    rw [rounds_succ]
    go_wp2
    go_ret
    exact ⟨rfl, (Below.refl _ _).alloc (Nat.le_refl _) _⟩
  · have hg := hit.1
    have b0 : (w.alloc (.cells #[.int .i64 y.kind, .string y.name, .string y.host, .int .i64 y.number] 81)).cell? ⟨w.heap.size, 0, none⟩ = some (.int .i64 y.kind) := by go_simp
    have b1 : (w.alloc (.cells #[.int .i64 y.kind, .string y.name, .string y.host, .int .i64 y.number] 81)).cell? ⟨w.heap.size, 1, none⟩ = some (.string y.name) := by go_simp
    have b2 : (w.alloc (.cells #[.int .i64 y.kind, .string y.name, .string y.host, .int .i64 y.number] 81)).cell? ⟨w.heap.size, 2, none⟩ = some (.string y.host) := by go_simp
    have b3 : (w.alloc (.cells #[.int .i64 y.kind, .string y.name, .string y.host, .int .i64 y.number] 81)).cell? ⟨w.heap.size, 3, none⟩ = some (.int .i64 y.number) := by go_simp
    have hb0 : Below (w.heap.size + 1) (w.alloc (.cells #[.int .i64 y.kind, .string y.name, .string y.host, .int .i64 y.number] 81)) (w.alloc (.cells #[.int .i64 y.kind, .string y.name, .string y.host, .int .i64 y.number] 81)) := Below.refl _ _
    have hit0 := hit.below ((Below.refl w.heap.size w).alloc (Nat.le_refl _) (.cells #[.int .i64 y.kind, .string y.name, .string y.host, .int .i64 y.number] 81)) hg
    go_enter Tryz.func165, Tryz.ntmps165
    go_wp2
    have hs0 : (w.alloc (.cells #[.int .i64 y.kind, .string y.name, .string y.host, .int .i64 y.number] 81)).heap.size = w.heap.size + 1 := by simp
    generalize hW : w.alloc (.cells #[.int .i64 y.kind, .string y.name, .string y.host, .int .i64 y.number] 81) = w0 at *
    have hfin : Below w.heap.size w w0 := by rw [← hW]; exact (Below.refl _ _).alloc (Nat.le_refl _) _
    clear hW hit
    go_loopw [5] (fun i wr => ∃ k : Nat, k ≤ l.length ∧ i = .int .i64 k ∧ namedB (l.take k) y = false ∧ Below (w.heap.size + 1) w0 wr) (fun i _ => l.length - (intOf i).toNat)
    case atStart => exact ⟨0, Nat.zero_le _, rfl, rfl, hb0⟩
    case round =>
      obtain ⟨k, hk, rfl, hno, hbe⟩ := hrel
      have Hno := hide hno
      clear hno
      by_cases hlt : k < l.length
      · obtain ⟨x, hx⟩ : ∃ x, x = l[k] := ⟨_, rfl⟩
        have hi := (hit0.2 k hlt).below hbe (by omega)
        rw [← hx] at hi
        obtain ⟨c0, c1, c2, c3, c4, c5, c6, c7, c8⟩ := hi
        have Hx := hide hx
        have hlt' : (k : Int) < (l.length : Int) := by omega
        have hsz := hbe.size
        rw [hs0] at hsz
        clear hx
        go_wp2_with fail
        refine (names_any x _).mono ?_
        rintro e w1 ⟨kv, rfl, hkv, hb1⟩
        have hbe1 : Below (w.heap.size + 1) w0 w1 := hbe.trans (hb1.mono hsz)
        have hsz1 := hb1.size
        have hkl := namesOf_len x
        clear c0 c1 c2 c3 c4 c5 c6 c7 c8
        have hstep : namedB (l.take (k + 1)) y = ((namesOf x).any fun q => sameKey q y) := by
          unfold namedB
          rw [List.take_succ_eq_append_getElem hlt, List.any_append, show (l.take k).any _ = false from unhide Hno, ← unhide Hx]
          simp
        have Hst := hide hstep
        clear hstep
        rcases hkv with ⟨rfl, hnil⟩ | ⟨kg, kc, rfl, _, hkg, hk2⟩
        · have hst : namedB (l.take (k + 1)) y = false := by rw [unhide Hst, hnil]; rfl
          have H2 := hide hst
          clear hst hnil hkl
          go_wp2
          refine wp_loop_rounds 1 ?_
          rw [rounds_succ]
          go_wp2
          go_roundw
          case rel => exact ⟨k + 1, by omega, by go_num, unhide H2, hbe1⟩
          case measure => simp [intOf]; omega
        · go_wp2
          go_loopw [7] (fun i wr => ∃ m : Nat, m ≤ (namesOf x).length ∧ i = .int .i64 m ∧ (((namesOf x).take m).any fun q => sameKey q y) = false ∧ Below (w.heap.size + 1) w0 wr ∧ Below w1.heap.size w1 wr) (fun i _ => (namesOf x).length - (intOf i).toNat)
          case atStart => exact ⟨0, Nat.zero_le _, rfl, rfl, hbe1, Below.refl _ _⟩
          case round =>
            obtain ⟨m, hm, rfl, hno2, hbe2, hbe3⟩ := hrel
            have Hno2 := hide hno2
            clear hno2
            by_cases hlt2 : m < (namesOf x).length
            · obtain ⟨q, hq⟩ : ∃ q, q = (namesOf x)[m] := ⟨_, rfl⟩
              have hkq := keyAt_below (hk2 m hlt2) hbe3 hkg
              rw [← hq] at hkq
              obtain ⟨e0, e1, e2, e3⟩ := hkq
              have a0 := (hbe2.cell (p := ⟨w.heap.size, 0, none⟩) (by simp)).trans b0
              have a1 := (hbe2.cell (p := ⟨w.heap.size, 1, none⟩) (by simp)).trans b1
              have a2 := (hbe2.cell (p := ⟨w.heap.size, 2, none⟩) (by simp)).trans b2
              have a3 := (hbe2.cell (p := ⟨w.heap.size, 3, none⟩) (by simp)).trans b3
              have hlt2' : (m : Int) < ((namesOf x).length : Int) := by omega
              have hst2 : (((namesOf x).take (m + 1)).any fun q => sameKey q y) = sameKey q y := by
                rw [List.take_succ_eq_append_getElem hlt2, List.any_append, unhide Hno2, ← hq]; simp
              have hmem : q ∈ namesOf x := by rw [hq]; exact List.getElem_mem hlt2
              have hsz2 := hbe2.size
              rw [hs0] at hsz2
              have hsz3 := hbe3.size
              clear hq
              cases hd : sameKey q y with
              | true =>
                have hsame : ∀ wx, Calls Tryz.prog 60 #[.agg #[.int .i64 q.kind, .string q.name, .string q.host, .int .i64 q.number], .agg #[.int .i64 y.kind, .string y.name, .string y.host, .int .i64 y.number]] wx fun e w' => e = .returned (.bool true) ∧ Below wx.heap.size wx w' := by
                  intro wx; have := same_any q.kind q.name q.host q.number y.kind y.name y.host y.number wx; rw [show decide (q.kind = y.kind ∧ q.name = y.name ∧ q.host = y.host ∧ q.number = y.number) = true from hd] at this; exact this
                have hf : namedB l y = true := by
                  unfold namedB
                  rw [List.any_eq_true]
                  exact ⟨x, by rw [unhide Hx]; exact List.getElem_mem hlt, by rw [List.any_eq_true]; exact ⟨q, hmem, hd⟩⟩
                have Hf := hide hf
                have Hs := hide hsame
                clear hf hsame hd hst2 hmem
                go_wp2
                go_region_with (go_at_call 60; refine (unhide Hs _).mono ?_; rintro e w2 ⟨rfl, hb2⟩)
                all_goals
                  go_wp2
                  go_ret
                  exact ⟨ret_bool (unhide Hf).symm, hfin.trans ((hbe2.drew.mono (by omega)).trans (hb2.mono (by simp; omega)))⟩
              | false =>
                have hsame : ∀ wx, Calls Tryz.prog 60 #[.agg #[.int .i64 q.kind, .string q.name, .string q.host, .int .i64 q.number], .agg #[.int .i64 y.kind, .string y.name, .string y.host, .int .i64 y.number]] wx fun e w' => e = .returned (.bool false) ∧ Below wx.heap.size wx w' := by
                  intro wx; have := same_any q.kind q.name q.host q.number y.kind y.name y.host y.number wx; rw [show decide (q.kind = y.kind ∧ q.name = y.name ∧ q.host = y.host ∧ q.number = y.number) = false from hd] at this; exact this
                rw [hd] at hst2
                have Hf := hide hst2
                have Hs := hide hsame
                clear hsame hd hst2 hmem
                go_wp2
                go_region_with (go_at_call 60; refine (unhide Hs _).mono ?_; rintro e w2 ⟨rfl, hb2⟩)
                all_goals
                  go_wp2
                  go_roundw
                  case rel => exact ⟨m + 1, by omega, by go_num, unhide Hf, hbe2.drew.trans (hb2.mono (by simp; omega)), hbe3.drew.trans (hb2.mono (by simp; omega))⟩
                  case measure => simp [intOf]; omega
            · have hst : namedB (l.take (k + 1)) y = false := by
                have := unhide Hno2
                rw [List.take_of_length_le (by omega)] at this
                rw [unhide Hst]; exact this
              have H2 := hide hst
              clear hst
              go_wp2
              go_roundw
              case rel => exact ⟨k + 1, by omega, by go_num, unhide H2, hbe2⟩
              case measure => simp [intOf]; omega
      · have hno := unhide Hno
        rw [List.take_of_length_le (by omega)] at hno
        have Hf := hide hno
        clear hno
        go_wp2
        go_ret
        exact ⟨ret_bool (unhide Hf).symm, hfin.trans (hbe.mono (by omega))⟩

end Go.Proofs.YtdlhgbhaeedbdabGreat

/- 'ParseItem'. -/
namespace Go.Proofs.YtdlhgbhaeedbdabGreat
open Go.RowKit

/-- Is the text just one item? -/
def goodI (s : ByteArray) : Bool := !(itemS s (0, false)).2 && decide ((itemS s (0, false)).1 = s.size)

/-- What ParseItem answers. -/
def oneI (s : ByteArray) : Item := if goodI s then itemT s (0, false) else noItem

theorem kept_block {w w' : World} {o1 o2 : Obj} (hg : ((w.alloc o1).alloc o2).grownBy w' (some (w.heap.size + 1))) : w'.heap[w.heap.size]? = some o1 := by
  rw [hg.block w.heap.size (by simp; omega) (by simp), Below.heap_alloc _ _ _ (by simp)]
  show (w.heap.push _)[w.heap.size]? = _
  simp

set_option maxRecDepth 100000 in
set_option maxHeartbeats 400000 in
theorem parseItem_bad (s : ByteArray) (w : World) (hs : s.size ≤ 9223372036854775807) (hb : (itemS s (0, false)).2 = true) :
    Calls Tryz.prog 129 #[.string s] w fun e w' => e = .returned (.tuple #[.agg noItem.cells, .bool false]) ∧ Below w.heap.size w w' := by
  have h0 := rd_start (w.alloc (.cells zItem 83)) s
  have hsz0 : (w.alloc (.cells zItem 83)).heap.size = w.heap.size + 1 := by simp
  rw [hsz0] at h0
  have hB0 : ∀ o1 o2, Below w.heap.size w ((w.alloc o1).alloc o2) := fun o1 o2 => ((Below.refl _ _).alloc (Nat.le_refl _) o1).alloc (by simp) o2
  have hd : ∀ i : Item, i.cells = #[.int .i64 i.kind, .string i.name, .string i.host, .int .i64 i.number, .int .i64 i.size, .string i.disk, .bool i.only, .int .i64 i.lun, .string i.text] := fun _ => rfl
  unfold zItem at h0
  go_enter Tryz.func129, Tryz.ntmps129
  go_wp2_with fail
  refine (item_any (w.heap.size + 1) s (0, false) _ h0 hs).mono ?_
  rintro e w1 ⟨rfl, hrd1, hg1⟩
  obtain ⟨c0, c1, c2, c3, c4, c5, c6, c7, c8, f0, f1, f2, f3, f4, f5, f6, f7, f8⟩ := Cells9.of_block (kept_block (o1 := .cells zItem 83) hg1)
  have q1 := hrd1.c1
  have q2 := hrd1.c2
  have qlt := hrd1.lt
  have qle := hrd1.le
  have hb1 := fun o => Below.heap_alloc w1 o w.heap.size (by omega)
  have kc : ∀ o j, (w1.alloc o).cell? ⟨w.heap.size, j, none⟩ = w1.cell? ⟨w.heap.size, j, none⟩ := fun o j => World.cell?_of_block (a := ⟨w.heap.size, j, none⟩) (hb1 o)
  have kf : ∀ o j, (w1.alloc o).frozen? ⟨w.heap.size, j, none⟩ = w1.frozen? ⟨w.heap.size, j, none⟩ := fun o j => World.frozen?_of_block (a := ⟨w.heap.size, j, none⟩) (hb1 o)
  have hbl : Below w.heap.size w w1 := (hB0 _ _).trans (gb_below hg1 (by simp; omega) (by omega))
  have HB := hide hbl
  clear hb1 hbl hB0 h0
  rw [hb] at q2
  clear hb
  go_wp2_with fail
  refine bodyPost_ret (v := .tuple #[.agg noItem.cells, .bool false]) (by simp [results, Tryz.results129, go_sem, kc, c0, c1, c2, c3, c4, c5, c6, c7, c8, Item.cells, noItem]) rfl ⟨rfl, ?_⟩
  exact below_set9 ((unhide HB).alloc (by omega) _) (Nat.le_refl _) 0 _ _ _ _ _ _ _ _ _

set_option maxRecDepth 100000 in
set_option maxHeartbeats 400000 in
theorem parseItem_ok (s : ByteArray) (w : World) (hs : s.size ≤ 9223372036854775807) (hb : (itemS s (0, false)).2 = false) (hn : (itemS s (0, false)).1 = s.size) :
    Calls Tryz.prog 129 #[.string s] w fun e w' => e = .returned (.tuple #[.agg (itemT s (0, false)).cells, .bool true]) ∧ Below w.heap.size w w' := by
  have h0 := rd_start (w.alloc (.cells zItem 83)) s
  have hsz0 : (w.alloc (.cells zItem 83)).heap.size = w.heap.size + 1 := by simp
  rw [hsz0] at h0
  have hB0 : ∀ o1 o2, Below w.heap.size w ((w.alloc o1).alloc o2) := fun o1 o2 => ((Below.refl _ _).alloc (Nat.le_refl _) o1).alloc (by simp) o2
  have hd : ∀ i : Item, i.cells = #[.int .i64 i.kind, .string i.name, .string i.host, .int .i64 i.number, .int .i64 i.size, .string i.disk, .bool i.only, .int .i64 i.lun, .string i.text] := fun _ => rfl
  unfold zItem at h0
  go_enter Tryz.func129, Tryz.ntmps129
  go_wp2_with fail
  refine (item_any (w.heap.size + 1) s (0, false) _ h0 hs).mono ?_
  rintro e w1 ⟨rfl, hrd1, hg1⟩
  obtain ⟨c0, c1, c2, c3, c4, c5, c6, c7, c8, f0, f1, f2, f3, f4, f5, f6, f7, f8⟩ := Cells9.of_block (kept_block (o1 := .cells zItem 83) hg1)
  have q1 := hrd1.c1
  have q2 := hrd1.c2
  have qlt := hrd1.lt
  have qle := hrd1.le
  have hb1 := fun o => Below.heap_alloc w1 o w.heap.size (by omega)
  have kc : ∀ o j, (w1.alloc o).cell? ⟨w.heap.size, j, none⟩ = w1.cell? ⟨w.heap.size, j, none⟩ := fun o j => World.cell?_of_block (a := ⟨w.heap.size, j, none⟩) (hb1 o)
  have kf : ∀ o j, (w1.alloc o).frozen? ⟨w.heap.size, j, none⟩ = w1.frozen? ⟨w.heap.size, j, none⟩ := fun o j => World.frozen?_of_block (a := ⟨w.heap.size, j, none⟩) (hb1 o)
  have hbl : Below w.heap.size w w1 := (hB0 _ _).trans (gb_below hg1 (by simp; omega) (by omega))
  have HB := hide hbl
  clear hb1 hbl hB0 h0
  rw [hb] at q2
  have ht : ¬ ((itemS s (0, false)).1 : Int) < (s.size : Int) := by omega
  clear hb hn
  go_wp2_with fail
  refine bodyPost_ret (v := .tuple #[.agg (itemT s (0, false)).cells, .bool true]) (by simp [results, Tryz.results129, go_sem, kc, c0, c1, c2, c3, c4, c5, c6, c7, c8, Item.cells]) rfl ⟨rfl, ?_⟩
  exact below_set9 ((unhide HB).alloc (by omega) _) (Nat.le_refl _) 0 _ _ _ _ _ _ _ _ _

set_option maxRecDepth 100000 in
set_option maxHeartbeats 400000 in
theorem parseItem_more (s : ByteArray) (w : World) (hs : s.size ≤ 9223372036854775807) (hb : (itemS s (0, false)).2 = false) (hn : ¬ (itemS s (0, false)).1 = s.size) :
    Calls Tryz.prog 129 #[.string s] w fun e w' => e = .returned (.tuple #[.agg noItem.cells, .bool false]) ∧ Below w.heap.size w w' := by
  have h0 := rd_start (w.alloc (.cells zItem 83)) s
  have hsz0 : (w.alloc (.cells zItem 83)).heap.size = w.heap.size + 1 := by simp
  rw [hsz0] at h0
  have hB0 : ∀ o1 o2, Below w.heap.size w ((w.alloc o1).alloc o2) := fun o1 o2 => ((Below.refl _ _).alloc (Nat.le_refl _) o1).alloc (by simp) o2
  have hd : ∀ i : Item, i.cells = #[.int .i64 i.kind, .string i.name, .string i.host, .int .i64 i.number, .int .i64 i.size, .string i.disk, .bool i.only, .int .i64 i.lun, .string i.text] := fun _ => rfl
  unfold zItem at h0
  go_enter Tryz.func129, Tryz.ntmps129
  go_wp2_with fail
  refine (item_any (w.heap.size + 1) s (0, false) _ h0 hs).mono ?_
  rintro e w1 ⟨rfl, hrd1, hg1⟩
  obtain ⟨c0, c1, c2, c3, c4, c5, c6, c7, c8, f0, f1, f2, f3, f4, f5, f6, f7, f8⟩ := Cells9.of_block (kept_block (o1 := .cells zItem 83) hg1)
  have q1 := hrd1.c1
  have q2 := hrd1.c2
  have qlt := hrd1.lt
  have qle := hrd1.le
  have hb1 := fun o => Below.heap_alloc w1 o w.heap.size (by omega)
  have kc : ∀ o j, (w1.alloc o).cell? ⟨w.heap.size, j, none⟩ = w1.cell? ⟨w.heap.size, j, none⟩ := fun o j => World.cell?_of_block (a := ⟨w.heap.size, j, none⟩) (hb1 o)
  have kf : ∀ o j, (w1.alloc o).frozen? ⟨w.heap.size, j, none⟩ = w1.frozen? ⟨w.heap.size, j, none⟩ := fun o j => World.frozen?_of_block (a := ⟨w.heap.size, j, none⟩) (hb1 o)
  have hbl : Below w.heap.size w w1 := (hB0 _ _).trans (gb_below hg1 (by simp; omega) (by omega))
  have HB := hide hbl
  clear hb1 hbl hB0 h0
  rw [hb] at q2
  have ht : ((itemS s (0, false)).1 : Int) < (s.size : Int) := by omega
  clear hb hn
  go_wp2_with fail
  refine bodyPost_ret (v := .tuple #[.agg noItem.cells, .bool false]) (by simp [results, Tryz.results129, go_sem, kc, c0, c1, c2, c3, c4, c5, c6, c7, c8, Item.cells, noItem]) rfl ⟨rfl, ?_⟩
  exact below_set9 ((unhide HB).alloc (by omega) _) (Nat.le_refl _) 0 _ _ _ _ _ _ _ _ _

theorem parseItem_any (s : ByteArray) (w : World) (hs : s.size ≤ 9223372036854775807) :
    Calls Tryz.prog 129 #[.string s] w fun e w' => e = .returned (.tuple #[.agg (oneI s).cells, .bool (goodI s)]) ∧ Below w.heap.size w w' := by
  cases hb : (itemS s (0, false)).2 with
  | true =>
    have e1 : goodI s = false := by simp [goodI, hb]
    have e2 : oneI s = noItem := by simp [oneI, e1]
    rw [e1, e2]; exact parseItem_bad s w hs hb
  | false =>
    by_cases hn : (itemS s (0, false)).1 = s.size
    · have e1 : goodI s = true := by simp [goodI, hb, hn]
      have e2 : oneI s = itemT s (0, false) := by simp [oneI, e1]
      rw [e1, e2]; exact parseItem_ok s w hs hb hn
    · have e1 : goodI s = false := by simp [goodI, hn]
      have e2 : oneI s = noItem := by simp [oneI, e1]
      rw [e1, e2]; exact parseItem_more s w hs hb hn

end Go.Proofs.YtdlhgbhaeedbdabGreat

/- 'plan.Parse', 'Step.Text'. -/
namespace Go.Proofs.YtdlhgbhaeedbdabGreat
open Go.RowKit

/-- A step, by its cells. -/
def stCells (b : Bool) (x : Item) : Array Value := #[.bool b, .int .i64 x.kind, .string x.name, .string x.host, .int .i64 x.number, .int .i64 x.size, .string x.disk, .bool x.only, .int .i64 x.lun, .string x.text]

/-- Is the text a step? -/
def goodS (s : ByteArray) : Bool := decide (byteAt s 0 = 43 ∨ byteAt s 0 = 45) && goodI (s.extract 1 s.size)
def addsS (s : ByteArray) : Bool := goodS s && decide (byteAt s 0 = 43)
def itS (s : ByteArray) : Item := if goodS s then oneI (s.extract 1 s.size) else noItem

theorem below_set10 {B : Nat} {a w : World} (h : Below B a w) {g : Nat} (hg : B ≤ g) (u0 u1 u2 u3 u4 u5 u6 u7 u8 u9 : Value) :
    Below B a ((((((((((w.setCell ⟨g, 0, none⟩ u0).setCell ⟨g, 1, none⟩ u1).setCell ⟨g, 2, none⟩ u2).setCell ⟨g, 3, none⟩ u3).setCell ⟨g, 4, none⟩ u4).setCell ⟨g, 5, none⟩ u5).setCell ⟨g, 6, none⟩ u6).setCell ⟨g, 7, none⟩ u7).setCell ⟨g, 8, none⟩ u8).setCell ⟨g, 9, none⟩ u9) :=
  (below_set9 h hg 0 u0 u1 u2 u3 u4 u5 u6 u7 u8).setCell (p := ⟨g, 9, none⟩) hg u9

set_option maxRecDepth 100000 in
set_option maxHeartbeats 400000 in
theorem stParse_none (s : ByteArray) (w : World) (hs : s.size = 0) :
    Calls Tryz.prog 92 #[.string s] w fun e w' => e = .returned (.tuple #[.agg (stCells false noItem), .bool false]) ∧ Below w.heap.size w w' := by
  have hs' : ((s.size : Int) == 0) = true := by rw [beq_iff_eq]; omega
  clear hs
  go_enter Tryz.func92, Tryz.ntmps92
  go_wp2_with fail
  refine bodyPost_ret (v := .tuple #[.agg (stCells false noItem), .bool false]) (by simp [results, Tryz.results92, go_sem, stCells, noItem]) rfl ⟨rfl, ?_⟩
  exact (Below.refl _ _).alloc (Nat.le_refl _) _

set_option maxRecDepth 100000 in
set_option maxHeartbeats 400000 in
theorem stParse_sign (s : ByteArray) (w : World) (hs : 0 < s.size) (h1 : ¬ (s[0].toNat : Int) = 43) (h2 : ¬ (s[0].toNat : Int) = 45) :
    Calls Tryz.prog 92 #[.string s] w fun e w' => e = .returned (.tuple #[.agg (stCells false noItem), .bool false]) ∧ Below w.heap.size w w' := by
  have hs' : ((s.size : Int) == 0) = false := by rw [beq_eq_false_iff_ne]; omega
  have hs2 : (0 : Int) < (s.size : Int) := by omega
  have h1' : ((s[0].toNat : Int) != 43) = true := by rw [bne_iff_ne]; exact h1
  have h2' : ((s[0].toNat : Int) != 45) = true := by rw [bne_iff_ne]; exact h2
  clear h1 h2
  go_enter Tryz.func92, Tryz.ntmps92
  go_wp2_with fail
  refine bodyPost_ret (v := .tuple #[.agg (stCells false noItem), .bool false]) (by simp [results, Tryz.results92, go_sem, stCells, noItem]) rfl ⟨rfl, ?_⟩
  exact (Below.refl _ _).alloc (Nat.le_refl _) _

end Go.Proofs.YtdlhgbhaeedbdabGreat

/- 'plan.Parse', 'Step.Text'. -/
namespace Go.Proofs.YtdlhgbhaeedbdabGreat
open Go.RowKit

/-- The zero step. -/
def zStep : Array Value := #[.bool false, .int .i64 0, .string ⟨#[]⟩, .string ⟨#[]⟩, .int .i64 0, .int .i64 0, .string ⟨#[]⟩, .bool false, .int .i64 0, .string ⟨#[]⟩]

theorem zStep_cells {w w1 : World} (hb : Below (w.heap.size + 1) (w.alloc (.cells zStep 157)) w1) : w1.heap[w.heap.size]? = some (.cells zStep 157 (0, 0)) := by
  rw [hb.block w.heap.size (by omega)]
  show (w.heap.push _)[w.heap.size]? = _
  simp

/-- A block of eight cells, as it was laid. -/
structure Cells10 (w : World) (b : Nat) : Prop where
  c0 : w.cell? ⟨b, 0, none⟩ = some (.bool false)
  c1 : w.cell? ⟨b, 1, none⟩ = some (.int .i64 0)
  c2 : w.cell? ⟨b, 2, none⟩ = some (.string ⟨#[]⟩)
  c3 : w.cell? ⟨b, 3, none⟩ = some (.string ⟨#[]⟩)
  c4 : w.cell? ⟨b, 4, none⟩ = some (.int .i64 0)
  c5 : w.cell? ⟨b, 5, none⟩ = some (.int .i64 0)
  c6 : w.cell? ⟨b, 6, none⟩ = some (.string ⟨#[]⟩)
  c7 : w.cell? ⟨b, 7, none⟩ = some (.bool false)
  c8 : w.cell? ⟨b, 8, none⟩ = some (.int .i64 0)
  c9 : w.cell? ⟨b, 9, none⟩ = some (.string ⟨#[]⟩)
  f0 : w.frozen? ⟨b, 0, none⟩ = false
  f1 : w.frozen? ⟨b, 1, none⟩ = false
  f2 : w.frozen? ⟨b, 2, none⟩ = false
  f3 : w.frozen? ⟨b, 3, none⟩ = false
  f4 : w.frozen? ⟨b, 4, none⟩ = false
  f5 : w.frozen? ⟨b, 5, none⟩ = false
  f6 : w.frozen? ⟨b, 6, none⟩ = false
  f7 : w.frozen? ⟨b, 7, none⟩ = false
  f8 : w.frozen? ⟨b, 8, none⟩ = false
  f9 : w.frozen? ⟨b, 9, none⟩ = false

theorem Cells10.of_block {w : World} {b : Nat} (hb : w.heap[b]? = some (.cells zStep 157 (0, 0))) : Cells10 w b := by
  constructor <;> simp [World.cell?, World.frozen?, hb, zStep]

set_option maxRecDepth 100000 in
set_option maxHeartbeats 400000 in
theorem stParse_bad (s : ByteArray) (w : World) (hm : s.size ≤ 9223372036854775807) (hs : 0 < s.size) (h1 : (s[0].toNat : Int) = 43 ∨ (s[0].toNat : Int) = 45) (hg : goodI (s.extract 1 s.size) = false) :
    Calls Tryz.prog 92 #[.string s] w fun e w' => e = .returned (.tuple #[.agg (stCells false noItem), .bool false]) ∧ Below w.heap.size w w' := by
  have hs' : ((s.size : Int) == 0) = false := by rw [beq_eq_false_iff_ne]; omega
  have hs2 : (0 : Int) < (s.size : Int) := by omega
  have hs3 : (1 : Int) ≤ (s.size : Int) := by omega
  have hp := parseItem_any (s.extract 1 s.size) (w.alloc (.cells zStep 157)) (by rw [ByteArray.size_extract]; omega)
  have ho : oneI (s.extract 1 s.size) = noItem := by simp [oneI, hg]
  rw [hg, ho] at hp
  unfold zStep at hp
  have Hp := hide hp
  have hnot : ∀ (x : Bool) (w : World), (Op.unary .not (.bool x)).run Tryz.prog w = .ok (.bool (!x)) w := fun _ _ => rfl
  have hd : noItem.cells = #[.int .i64 0, .string ⟨#[]⟩, .string ⟨#[]⟩, .int .i64 0, .int .i64 0, .string ⟨#[]⟩, .bool false, .int .i64 0, .string ⟨#[]⟩] := rfl
  clear hp ho hg
  have h2 : (((s[0].toNat : Int) != 43) = false) ∨ (((s[0].toNat : Int) != 43) = true ∧ ((s[0].toNat : Int) != 45) = false) := by
    rcases h1 with h | h
    · left; rw [bne_eq_false_iff_eq]; exact h
    · right; rw [bne_iff_ne, bne_eq_false_iff_eq]; omega
  clear h1
  rcases h2 with h2 | ⟨h2, h3⟩
  all_goals
    go_enter Tryz.func92, Tryz.ntmps92
    go_wp2_with fail
    refine (unhide Hp).mono ?_
    rintro e w1 ⟨rfl, hb0⟩
    have hb1 : Below (w.heap.size + 1) (w.alloc (.cells zStep 157)) w1 := hb0.mono (by simp)
    clear hb0
    obtain ⟨c0, c1, c2, c3, c4, c5, c6, c7, c8, c9, f0, f1, f2, f3, f4, f5, f6, f7, f8, f9⟩ := Cells10.of_block (zStep_cells hb1)
    have hsz : w.heap.size + 1 ≤ w1.heap.size := by have := hb1.size; simpa using this
    have hbl := fun o => Below.heap_alloc w1 o w.heap.size (by omega)
    have kc : ∀ o j, (w1.alloc o).cell? ⟨w.heap.size, j, none⟩ = w1.cell? ⟨w.heap.size, j, none⟩ := fun o j => World.cell?_of_block (a := ⟨w.heap.size, j, none⟩) (hbl o)
    have kf : ∀ o j, (w1.alloc o).frozen? ⟨w.heap.size, j, none⟩ = w1.frozen? ⟨w.heap.size, j, none⟩ := fun o j => World.frozen?_of_block (a := ⟨w.heap.size, j, none⟩) (hbl o)
    have HB := hide (((Below.refl w.heap.size w).alloc (Nat.le_refl _) _).trans (hb1.mono (by omega)))
    clear hbl hb1
    go_wp2_with fail
    refine bodyPost_ret (v := .tuple #[.agg (stCells false noItem), .bool false]) (by simp [results, Tryz.results92, go_sem, kc, c0, c1, c2, c3, c4, c5, c6, c7, c8, c9, stCells, noItem]) rfl ⟨rfl, ?_⟩
    exact below_set10 ((unhide HB).alloc (by omega) _) (Nat.le_refl _) _ _ _ _ _ _ _ _ _ _

set_option maxRecDepth 100000 in
set_option maxHeartbeats 400000 in
theorem stParse_ok (s : ByteArray) (w : World) (hm : s.size ≤ 9223372036854775807) (hs : 0 < s.size) (b : Bool) (h1 : (b = true ∧ (s[0].toNat : Int) = 43) ∨ (b = false ∧ (s[0].toNat : Int) = 45)) (hg : goodI (s.extract 1 s.size) = true) :
    Calls Tryz.prog 92 #[.string s] w fun e w' => e = .returned (.tuple #[.agg (stCells b (oneI (s.extract 1 s.size))), .bool true]) ∧ Below w.heap.size w w' := by
  have hs' : ((s.size : Int) == 0) = false := by rw [beq_eq_false_iff_ne]; omega
  have hs2 : (0 : Int) < (s.size : Int) := by omega
  have hs3 : (1 : Int) ≤ (s.size : Int) := by omega
  have hp := parseItem_any (s.extract 1 s.size) (w.alloc (.cells zStep 157)) (by rw [ByteArray.size_extract]; omega)
  rw [hg] at hp
  generalize oneI (s.extract 1 s.size) = x at *
  unfold zStep at hp
  have Hp := hide hp
  have hnot : ∀ (x : Bool) (w : World), (Op.unary .not (.bool x)).run Tryz.prog w = .ok (.bool (!x)) w := fun _ _ => rfl
  have hd : x.cells = #[.int .i64 x.kind, .string x.name, .string x.host, .int .i64 x.number, .int .i64 x.size, .string x.disk, .bool x.only, .int .i64 x.lun, .string x.text] := rfl
  clear hp hg
  have h2 : (b = true ∧ ((s[0].toNat : Int) != 43) = false ∧ ((s[0].toNat : Int) == 43) = true) ∨ (b = false ∧ ((s[0].toNat : Int) != 43) = true ∧ ((s[0].toNat : Int) != 45) = false ∧ ((s[0].toNat : Int) == 43) = false) := by
    rcases h1 with ⟨e, h⟩ | ⟨e, h⟩
    · left; rw [bne_eq_false_iff_eq, beq_iff_eq]; exact ⟨e, h, h⟩
    · right; rw [bne_iff_ne, bne_eq_false_iff_eq, beq_eq_false_iff_ne]; exact ⟨e, by omega, h, by omega⟩
  clear h1
  rcases h2 with ⟨rfl, h2, h4⟩ | ⟨rfl, h2, h3, h4⟩
  all_goals
    go_enter Tryz.func92, Tryz.ntmps92
    go_wp2_with fail
    refine (unhide Hp).mono ?_
    rintro e w1 ⟨rfl, hb0⟩
    have hb1 : Below (w.heap.size + 1) (w.alloc (.cells zStep 157)) w1 := hb0.mono (by simp)
    clear hb0
    obtain ⟨c0, c1, c2, c3, c4, c5, c6, c7, c8, c9, f0, f1, f2, f3, f4, f5, f6, f7, f8, f9⟩ := Cells10.of_block (zStep_cells hb1)
    have hsz : w.heap.size + 1 ≤ w1.heap.size := by have := hb1.size; simpa using this
    have hbl := fun o => Below.heap_alloc w1 o w.heap.size (by omega)
    have kc : ∀ o j, (w1.alloc o).cell? ⟨w.heap.size, j, none⟩ = w1.cell? ⟨w.heap.size, j, none⟩ := fun o j => World.cell?_of_block (a := ⟨w.heap.size, j, none⟩) (hbl o)
    have kf : ∀ o j, (w1.alloc o).frozen? ⟨w.heap.size, j, none⟩ = w1.frozen? ⟨w.heap.size, j, none⟩ := fun o j => World.frozen?_of_block (a := ⟨w.heap.size, j, none⟩) (hbl o)
    have HB := hide (((Below.refl w.heap.size w).alloc (Nat.le_refl _) _).trans (hb1.mono (by omega)))
    clear hbl hb1
    go_wp2_with fail
    go_region
    go_wp2
    refine bodyPost_ret (v := .tuple #[.agg (stCells _ x), .bool true]) (by simp [results, Tryz.results92, go_sem, kc, c0, c1, c2, c3, c4, c5, c6, c7, c8, c9, stCells]) rfl ⟨rfl, ?_⟩
    exact below_drewN (below_set10 ((unhide HB).alloc (by omega) _) (Nat.le_refl _) _ _ _ _ _ _ _ _ _ _) 1

end Go.Proofs.YtdlhgbhaeedbdabGreat
