/- 'Step.fits', 'Step.After'. -/
import Derived.Test.YtdlhgbhaeedbdaaPl8
namespace Go.Proofs.Ytdlhgbhaeedbdaa
open Go.RowKit

/-- Can the item go? -/
def goB (l : List Item) (y : Item) : Bool := holdsB l y.text && !(namedB l y.key)
/-- What is left without it. -/
def without (l : List Item) (y : Item) : List Item := l.filter fun x => decide (¬ x.text = y.text)

theorem without_take (l : List Item) (y : Item) (k : Nat) (h : k < l.length) : without (l.take (k + 1)) y = if l[k].text = y.text then without (l.take k) y else without (l.take k) y ++ [l[k]] := by
  unfold without
  rw [List.take_succ_eq_append_getElem h, List.filter_append]
  split
  · rename_i e; simp [e]
  · rename_i e; simp [e]

theorem without_len (l : List Item) (y : Item) : (without l y).length ≤ l.length := List.length_filter_le _ _

theorem owns_mono {w : World} {base base' : Nat} {e : TypeId} {size : Nat} {v : Value} {n : Nat} {xs : List Value} (h : w.ownsRow base e size v n xs) (hb : base' ≤ base) : w.ownsRow base' e size v n xs := by
  obtain ⟨h1, h2 | ⟨g, cap, cur, e1, e2, e3⟩⟩ := h
  · exact ⟨h1, Or.inl h2⟩
  · exact ⟨h1, Or.inr ⟨g, cap, cur, e1, Nat.le_trans hb e2, e3⟩⟩

/-- Can the step be done? -/
def doB (b : Bool) (l : List Item) (y : Item) : Bool := if b then roomB l y && freeB l y else goB l y
/-- What is there behind it. -/
def doI (b : Bool) (l : List Item) (y : Item) : List Item := if b then without l y ++ [y] else without l y

theorem StAt.new (w : World) (b : Bool) (y : Item) : StAt (w.alloc (.cells #[.bool b, .int .i64 y.kind, .string y.name, .string y.host, .int .i64 y.number, .int .i64 y.size, .string y.disk, .bool y.only, .int .i64 y.lun, .string y.text] 101)) w.heap.size 0 (b, y) := by
  constructor <;> go_simp

theorem StAt.zero {w : World} {g : Nat} {p : Bool × Item} (h : StAt w g 0 p) : w.cell? ⟨g, 0, none⟩ = some (.bool p.1) ∧ w.cell? ⟨g, 1, none⟩ = some (.int .i64 p.2.kind) ∧ w.cell? ⟨g, 2, none⟩ = some (.string p.2.name) ∧ w.cell? ⟨g, 3, none⟩ = some (.string p.2.host) ∧ w.cell? ⟨g, 4, none⟩ = some (.int .i64 p.2.number) ∧
    w.cell? ⟨g, 5, none⟩ = some (.int .i64 p.2.size) ∧ w.cell? ⟨g, 6, none⟩ = some (.string p.2.disk) ∧ w.cell? ⟨g, 7, none⟩ = some (.bool p.2.only) ∧ w.cell? ⟨g, 8, none⟩ = some (.int .i64 p.2.lun) ∧ w.cell? ⟨g, 9, none⟩ = some (.string p.2.text) := by
  obtain ⟨c0, c1, c2, c3, c4, c5, c6, c7, c8, c9⟩ := h
  simp only [Nat.zero_add] at c1 c2 c3 c4 c5 c6 c7 c8 c9
  exact ⟨c0, c1, c2, c3, c4, c5, c6, c7, c8, c9⟩

set_option maxRecDepth 100000 in
set_option maxHeartbeats 400000 in
theorem fits_at (b : Bool) (v : Value) (l : List Item) (y : Item) (w : World) (hl : l.length ≤ 24) (hsz : sizeI l ≤ 1000000) (hy : y.text.size ≤ 1000000) (hv : ItemsAt w v l) :
    Calls Try.prog 67 #[.agg #[.bool b, .int .i64 y.kind, .string y.name, .string y.host, .int .i64 y.number, .int .i64 y.size, .string y.disk, .bool y.only, .int .i64 y.lun, .string y.text], v] w fun e w' => e = .returned (.bool (doB b l y)) ∧ Below w.heap.size w w' := by
  have hnot : ∀ (x : Bool) (w : World), (Op.unary .not (.bool x)).run Try.prog w = .ok (.bool (!x)) w := fun _ _ => rfl
  have hbn := below_new w (.cells #[.bool b, .int .i64 y.kind, .string y.name, .string y.host, .int .i64 y.number, .int .i64 y.size, .string y.disk, .bool y.only, .int .i64 y.lun, .string y.text] 101)
  have hv0 := hv.below hbn (Nat.le_refl _)
  have hle : w.heap.size < (w.alloc (.cells #[.bool b, .int .i64 y.kind, .string y.name, .string y.host, .int .i64 y.number, .int .i64 y.size, .string y.disk, .bool y.only, .int .i64 y.lun, .string y.text] 101)).heap.size := by simp
  have hn0 := StAt.new w b y
  cases b with
  | true =>
    have hc := canAdd_at v l y _ hl hsz hy hv0
    have Hc := hide hc
    clear hc hn0
    unfold doB
    rw [if_pos rfl]
    go_enter Try.func67, Try.ntmps67
    go_wp2_with fail
    refine (unhide Hc).mono ?_
    rintro e w1 ⟨rfl, hb1⟩
    go_wp2
    go_ret
    exact ⟨rfl, hbn.trans (hb1.mono (Nat.le_of_lt hle))⟩
  | false =>
    have hh := holds_at v l y _ hl hv0
    unfold doB goB
    rw [if_neg (by simp)]
    cases hk : holdsB l y.text with
    | false =>
      rw [hk] at hh
      rw [Bool.false_and]
      have Hh := hide hh
      clear hh hn0
      go_enter Try.func67, Try.ntmps67
      go_wp2_with fail
      refine (unhide Hh).mono ?_
      rintro e w1 ⟨rfl, hb1⟩
      go_wp2
      go_ret
      exact ⟨rfl, hbn.trans (hb1.mono (Nat.le_of_lt hle))⟩
    | true =>
      rw [hk] at hh
      rw [Bool.true_and]
      have Hh := hide hh
      clear hh
      go_enter Try.func67, Try.ntmps67
      go_wp2_with fail
      refine (unhide Hh).mono ?_
      rintro e w1 ⟨rfl, hb1⟩
      have hv1 := hv0.below hb1 (Nat.le_refl _)
      obtain ⟨b0, b1, b2, b3, b4, b5, b6, b7, b8, b9⟩ := (hn0.below hb1 hle).zero
      have hq := named_at _ l y.key w1 hl hv1
      have Hq := hide hq
      clear hq
      go_wp2_with fail
      refine (unhide Hq).mono ?_
      rintro e w2 ⟨rfl, hb2⟩
      go_wp2
      go_ret
      exact ⟨rfl, (hbn.trans (hb1.mono (Nat.le_of_lt hle))).trans (hb2.mono (by have := hb1.size; omega))⟩

set_option maxRecDepth 100000 in
set_option maxHeartbeats 400000 in
theorem after_at (b : Bool) (v : Value) (l : List Item) (y : Item) (w : World) (hl : l.length ≤ 24) (hv : ItemsAt w v l) :
    Calls Try.prog 68 #[.agg #[.bool b, .int .i64 y.kind, .string y.name, .string y.host, .int .i64 y.number, .int .i64 y.size, .string y.disk, .bool y.only, .int .i64 y.lun, .string y.text], v] w fun e w' => ∃ v', e = .returned v' ∧ w'.ownsRow w.heap.size 99 9 v' (doI b l y).length (allCells (doI b l y)) ∧ Below w.heap.size w w' := by
  have hnot : ∀ (x : Bool) (w : World), (Op.unary .not (.bool x)).run Try.prog w = .ok (.bool (!x)) w := fun _ _ => rfl
  have hbn := below_new w (.cells #[.bool b, .int .i64 y.kind, .string y.name, .string y.host, .int .i64 y.number, .int .i64 y.size, .string y.disk, .bool y.only, .int .i64 y.lun, .string y.text] 101)
  have hn0 := StAt.new w b y
  have hlw : w.heap.size < (w.alloc (.cells #[.bool b, .int .i64 y.kind, .string y.name, .string y.host, .int .i64 y.number, .int .i64 y.size, .string y.disk, .bool y.only, .int .i64 y.lun, .string y.text] 101)).heap.size := by simp
  obtain ⟨i0, hi, hz0, hz1, hz2⟩ := info_parts Try.infoItem
  obtain ⟨a, cap, hvs⟩ := slice_of_items hv
  subst hvs
  go_enter Try.func68, Try.ntmps68
  go_wp2
  generalize hW : w.alloc (.cells #[.bool b, .int .i64 y.kind, .string y.name, .string y.host, .int .i64 y.number, .int .i64 y.size, .string y.disk, .bool y.only, .int .i64 y.lun, .string y.text] 101) = w0 at *
  clear hW
  go_loopw [5, 6] (fun tv i wr => ∃ k : Nat, k ≤ l.length ∧ i = .int .i64 k ∧ wr.ownsRow (w.heap.size + 1) 99 9 tv (without (l.take k) y).length (allCells (without (l.take k) y)) ∧ Below w.heap.size w wr ∧ Below (w.heap.size + 1) w0 wr) (fun _ i _ => l.length - (intOf i).toNat)
  case atStart => exact ⟨0, Nat.zero_le _, rfl, World.ownsRow_nil _ _ _ _, hbn, Below.refl _ _⟩
  case round =>
    obtain ⟨k, hk, rfl, hown, hbe, hbe2⟩ := hrel
    obtain ⟨ta, tc, rfl⟩ := slice_of_owns hown
    have hsz := hbe.size
    have hsz2 := hbe2.size
    have hn1 := hn0.below hbe2 (by omega)
    by_cases hltk : k < l.length
    · obtain ⟨x, hx⟩ : ∃ x, x = l[k] := ⟨_, rfl⟩
      have hv1 := hv.below hbe (Nat.le_refl _)
      rcases hv1 with ⟨_, h0⟩ | ⟨g, cap', ev, _, hit⟩
      · rw [h0] at hltk; simp at hltk
      cases ev
      have hix := hit.2 k hltk
      rw [← hx] at hix
      obtain ⟨c0, c1, c2, c3, c4, c5, c6, c7, c8⟩ := hix
      have z7 := hn1.zero.2.2.2.2.2.2.2
      have hstep := without_take l y k hltk
      rw [← hx] at hstep
      have hwl := without_len (l.take k) y
      have hwl2 : (without (l.take k) y).length ≤ 24 := by simp at hwl; omega
      have hltk' : (k : Int) < (l.length : Int) := by omega
      clear hx hwl hit hv hn0 hn1
      by_cases he : x.text = y.text
      · rw [if_pos he] at hstep
        have Hst := hide hstep
        have he' : (x.text.toList == y.text.toList) = true := by rw [he]; simp
        clear hstep he
        go_wp2
        go_quiet (fail)
        go_wp2
        go_roundw
        case rel => exact ⟨k + 1, by omega, by go_num, by rw [unhide Hst]; exact owns_later hown (below_drewN (Below.refl _ _) _), below_drewN hbe _, below_drewN hbe2 _⟩
        case measure => simp [intOf]; omega
      · rw [if_neg he] at hstep
        have Hst := hide hstep
        have he' : (x.text.toList == y.text.toList) = false := by
          rw [beq_eq_false_iff_ne]; exact fun h => he (tl_inj h)
        clear hstep he
        generalize hM : without (l.take k) y = M at *
        clear hM
        go_wp2
        go_quiet (fail)
        have hown1 := owns_later hown (below_drewN (Below.refl wr.heap.size wr) nq)
        go_wp2_with (at_builtin; refine wpList_append_own _ rfl _ _ 78 rfl (w.heap.size + 1) 99 i0 (.agg zItem) 9 104 Try.underlying78 hi hz0 hz1 hz2 rfl (by decide) (.slice ta M.length tc) M.length (allCells M) ?hs ?c0 ⟨wr.heap.size, 0, none⟩ 1 1 x.cells.toList ?hx ?hl ?c1 (item_oneCell _) ?c3 ?c4 ?c5 ?_)
        case hs => rfl
        case c0 => exact hown1.alloc _
        case hx => rfl
        case hl => rfl
        case c1 => exact cells_new _ _ _ _ rfl
        case c3 => unfold maxLen; omega
        case c4 => omega
        case c5 => simp; omega
        intro v' w3 hown3 hgrow _
        have hbe3 := ((below_drewN hbe nq).alloc (by simp; omega) _).grown hgrow (by simp; omega) (fun k e => by have := (hown.lt k e).1; omega)
        have hbe4 := ((below_drewN hbe2 nq).alloc (by simp; omega) _).grown hgrow (by simp; omega) (fun k e => (hown.lt k e).1)
        clear hgrow c0 c1 c2 c3 c4 c5 c6 c7 c8
        go_wp2
        go_roundw
        case rel => exact ⟨k + 1, by omega, by go_num, by rw [unhide Hst, allCells_snoc, List.length_append]; exact hown3, hbe3, hbe4⟩
        case measure => simp [intOf]; omega
    · have hall : l.take k = l := List.take_of_length_le (by omega)
      rw [hall] at hown
      rw [hall]
      have hwl := without_len l y
      obtain ⟨b0, b1, b2, b3, b4, b5, b6, b7, b8, b9⟩ := hn1.zero
      clear hn0 hn1 hv hall
      have hd : doI b l y = if b then without l y ++ [y] else without l y := rfl
      have Hd := hide hd
      clear hd
      generalize without l y = M at *
      cases b with
      | false =>
        clear b1 b2 b3 b4 b5 b6 b7
        go_wp2
        go_ret
        exact ⟨_, rfl, by rw [unhide Hd]; exact owns_mono hown (by omega), hbe⟩
      | true =>
        go_wp2_with (at_builtin; refine wpList_append_own _ rfl _ _ 78 rfl (w.heap.size + 1) 99 i0 (.agg zItem) 9 104 Try.underlying78 hi hz0 hz1 hz2 rfl (by decide) (.slice ta M.length tc) M.length (allCells M) ?hs ?c0 ⟨wr.heap.size, 0, none⟩ 1 1 y.cells.toList ?hx ?hl ?c1 (item_oneCell _) ?c3 ?c4 ?c5 ?_)
        case c0 => exact hown.alloc _
        case hl => rfl
        case c1 => intro j u h; simpa [Item.cells] using h
        case c3 => unfold maxLen; omega
        case c4 => omega
        intro v' w3 hown3 hgrow _
        have hbe3 := (hbe.alloc (by omega) _).grown hgrow (by simp; omega) (fun k e => by have := (hown.lt k e).1; omega)
        clear hgrow b0 b1 b2 b3 b4 b5 b6 b7 b8 b9
        go_wp2
        go_ret
        exact ⟨_, rfl, by rw [unhide Hd]; simp only [if_true]; rw [allCells_snoc, List.length_append]; exact owns_mono hown3 (by omega), hbe3⟩

end Go.Proofs.Ytdlhgbhaeedbdaa
