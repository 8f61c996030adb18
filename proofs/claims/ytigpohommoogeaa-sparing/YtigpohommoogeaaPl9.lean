/- 'plan.add', 'plan.remove'. -/
import Derived.Test.YtigpohommoogeaaPl8
namespace Go.Proofs.Ytigpohommoogeaa
open Go.RowKit

/-- Can the item go? -/
def goB (l : List Item) (y : Item) : Bool := holdsB l y.text && !(namedB l y.key)
/-- What is left without it. -/
def without (l : List Item) (y : Item) : List Item := l.filter fun x => decide (¬ x.text = y.text)

theorem without_take (l : List Item) (y : Item) (k : Nat) (h : k < l.length) : without (l.take (k + 1)) y = if l[k].text = y.text then without (l.take k) y else without (l.take k) y ++ [l[k]] := by
  unfold without
  rw [List.take_succ_eq_append_getElem h, List.filter_append]
  split
  · rename_i e; simp [e]
  · rename_i e; simp [e]

theorem without_len (l : List Item) (y : Item) : (without l y).length ≤ l.length := List.length_filter_le _ _

theorem owns_mono {w : World} {base base' : Nat} {e : TypeId} {size : Nat} {v : Value} {n : Nat} {xs : List Value} (h : w.ownsRow base e size v n xs) (hb : base' ≤ base) : w.ownsRow base' e size v n xs := by
  obtain ⟨h1, h2 | ⟨g, cap, cur, e1, e2, e3⟩⟩ := h
  · exact ⟨h1, Or.inl h2⟩
  · exact ⟨h1, Or.inr ⟨g, cap, cur, e1, Nat.le_trans hb e2, e3⟩⟩

set_option maxRecDepth 100000 in
set_option maxHeartbeats 400000 in
theorem remove_not (v : Value) (l : List Item) (y : Item) (w : World) (hl : l.length ≤ 24) (hv : ItemsAt w v l) (hf : goB l y = false) :
    Calls Try.prog 59 #[v, .agg #[.int .i64 y.kind, .string y.name, .string y.host, .int .i64 y.number, .string y.disk, .int .i64 y.lun, .string y.text]] w fun e w' => e = .returned (.tuple #[.slice none 0 0, .bool false]) ∧ Below w.heap.size w w' := by
  have hnot : ∀ (x : Bool) (w : World), (Op.unary .not (.bool x)).run Try.prog w = .ok (.bool (!x)) w := fun _ _ => rfl
  have hn0 := ItAt.new w y
  have hbn := below_new w (.cells (itCells y) 90)
  have hv0 := hv.below hbn (Nat.le_refl _)
  have hlt : w.heap.size < (w.alloc (.cells (itCells y) 90)).heap.size := by simp
  have hh := holds_at v l y (w.alloc (.cells (itCells y) 90)) hl hv0
  unfold itCells at hh hn0 hbn hv0 hlt
  obtain ⟨a, cap, hvs⟩ := slice_of_items hv
  clear hv
  cases hk : holdsB l y.text with
  | false =>
    rw [hk] at hh
    have Hh := hide hh
    clear hh hk hf hv0
    subst hvs
    go_enter Try.func59, Try.ntmps59
    go_wp2_with fail
    refine (unhide Hh).mono ?_
    rintro e w1 ⟨rfl, hb1⟩
    go_wp2
    go_ret2
    exact ⟨rfl, hbn.trans (hb1.mono (Nat.le_of_lt hlt))⟩
  | true =>
    have hnm : namedB l y.key = true := by simpa [goB, hk] using hf
    rw [hk] at hh
    have Hh := hide hh
    have Hnm := hide hnm
    clear hh hk hf hnm
    subst hvs
    go_enter Try.func59, Try.ntmps59
    go_wp2_with fail
    refine (unhide Hh).mono ?_
    rintro e w1 ⟨rfl, hb1⟩
    have hv1 := hv0.below hb1 (Nat.le_refl _)
    obtain ⟨b0, b1, b2, b3, b4, b5, b6⟩ := (hn0.below hb1 hlt).zero
    have hq := named_at _ l y.key w1 hl hv1
    rw [unhide Hnm] at hq
    have Hq := hide hq
    clear hq
    go_wp2_with fail
    refine (unhide Hq).mono ?_
    rintro e w2 ⟨rfl, hb2⟩
    go_wp2
    go_ret2
    exact ⟨rfl, (hbn.trans (hb1.mono (Nat.le_of_lt hlt))).trans (hb2.mono (by have := hb1.size; omega))⟩

set_option maxRecDepth 100000 in
set_option maxHeartbeats 400000 in
theorem remove_ok (v : Value) (l : List Item) (y : Item) (w : World) (hl : l.length ≤ 24) (hv : ItemsAt w v l) (hf : goB l y = true) :
    Calls Try.prog 59 #[v, .agg #[.int .i64 y.kind, .string y.name, .string y.host, .int .i64 y.number, .string y.disk, .int .i64 y.lun, .string y.text]] w fun e w' => ∃ v', e = .returned (.tuple #[v', .bool true]) ∧ w'.ownsRow w.heap.size 90 7 v' (without l y).length (allCells (without l y)) ∧ Below w.heap.size w w' := by
  have hnot : ∀ (x : Bool) (w : World), (Op.unary .not (.bool x)).run Try.prog w = .ok (.bool (!x)) w := fun _ _ => rfl
  have hn0 := ItAt.new w y
  have hbn := below_new w (.cells (itCells y) 90)
  have hv0 := hv.below hbn (Nat.le_refl _)
  have hlt : w.heap.size < (w.alloc (.cells (itCells y) 90)).heap.size := by simp
  have hh := holds_at v l y (w.alloc (.cells (itCells y) 90)) hl hv0
  unfold itCells at hh hn0 hbn hv0 hlt
  have hkn : holdsB l y.text = true ∧ namedB l y.key = false := by simpa [goB] using hf
  rw [hkn.1] at hh
  have Hh := hide hh
  have Hnm := hide hkn.2
  have hne : l ≠ [] := by rintro rfl; simp [holdsB] at hkn
  rcases hv with ⟨_, h0⟩ | ⟨g, cap, rfl, _, hit⟩
  · exact absurd h0 hne
  have hg := hit.1
  clear hh hkn hf hne
  go_enter Try.func59, Try.ntmps59
  go_wp2_with fail
  refine (unhide Hh).mono ?_
  rintro e w1 ⟨rfl, hb1⟩
  have hv1 := hv0.below hb1 (Nat.le_refl _)
  have hn1 := hn0.below hb1 hlt
  obtain ⟨b0, b1, b2, b3, b4, b5, b6⟩ := hn1.zero
  have hq := named_at _ l y.key w1 hl hv1
  rw [unhide Hnm] at hq
  have Hq := hide hq
  have hl1 := hb1.size
  have hb01 : Below w.heap.size w w1 := hbn.trans (hb1.mono (Nat.le_of_lt hlt))
  clear hq
  go_wp2_with fail
  refine (unhide Hq).mono ?_
  rintro e w2 ⟨rfl, hb2⟩
  have hl2 := hb2.size
  have hb02 : Below w.heap.size w w2 := hb01.trans (hb2.mono (by omega))
  have y6 := (hn1.below hb2 (by omega)).zero.2.2.2.2.2.2
  have hlw : w.heap.size < w2.heap.size := by omega
  obtain ⟨i0, hi, hz0, hz1, hz2⟩ := info_parts Try.infoItem
  clear b0 b1 b2 b3 b4 b5 b6 hn0 hbn hv0 hlt hb1 hv1 hn1 hl1 hb01 hb2 hl2
  go_wp2
  go_loopw [7, 8] (fun tv i wr => ∃ k : Nat, k ≤ l.length ∧ i = .int .i64 k ∧ wr.ownsRow (w.heap.size + 1) 90 7 tv (without (l.take k) y).length (allCells (without (l.take k) y)) ∧ Below w.heap.size w wr ∧ Below (w.heap.size + 1) w2 wr) (fun _ i _ => l.length - (intOf i).toNat)
  case atStart => exact ⟨0, Nat.zero_le _, rfl, World.ownsRow_nil _ _ _ _, hb02, Below.refl _ _⟩
  case round =>
    obtain ⟨k, hk, rfl, hown, hbe, hbe2⟩ := hrel
    obtain ⟨a, tc, rfl⟩ := slice_of_owns hown
    have hsz := hbe.size
    have hsz2 := hbe2.size
    by_cases hltk : k < l.length
    · obtain ⟨x, hx⟩ : ∃ x, x = l[k] := ⟨_, rfl⟩
      have hix := (hit.2 k hltk).below hbe hg
      rw [← hx] at hix
      obtain ⟨c0, c1, c2, c3, c4, c5, c6⟩ := hix
      have z6 := (hbe2.cell (p := ⟨w.heap.size, 6, none⟩) (by simp)).trans y6
      have hstep := without_take l y k hltk
      rw [← hx] at hstep
      have hwl := without_len (l.take k) y
      have hwl2 : (without (l.take k) y).length ≤ 24 := by simp at hwl; omega
      have hltk' : (k : Int) < (l.length : Int) := by omega
      clear hx hwl
      by_cases he : x.text = y.text
      · rw [if_pos he] at hstep
        have Hst := hide hstep
        have he' : (x.text.toList == y.text.toList) = true := by rw [he]; simp
        clear hstep he
        go_wp2
        go_quiet (fail)
        go_wp2
        go_roundw
        case rel => exact ⟨k + 1, by omega, by go_num, by rw [unhide Hst]; exact owns_later hown (below_drewN (Below.refl _ _) _), below_drewN hbe _, below_drewN hbe2 _⟩
        case measure => simp [intOf]; omega
      · rw [if_neg he] at hstep
        have Hst := hide hstep
        have he' : (x.text.toList == y.text.toList) = false := by
          rw [beq_eq_false_iff_ne]; exact fun h => he (tl_inj h)
        clear hstep he
        generalize hM : without (l.take k) y = M at *
        clear hM
        go_wp2
        go_quiet (fail)
        have hown1 := owns_later hown (below_drewN (Below.refl wr.heap.size wr) nq)
        go_wp2_with (at_builtin; refine wpList_append_own _ rfl _ _ 69 rfl (w.heap.size + 1) 90 i0 (.agg zItem) 7 88 Try.underlying69 hi hz0 hz1 hz2 rfl (by decide) (.slice a M.length tc) M.length (allCells M) ?hs ?c0 ⟨wr.heap.size, 0, none⟩ 1 1 x.cells.toList ?hx ?hl ?c1 (item_oneCell _) ?c3 ?c4 ?c5 ?_)
        case hs => rfl
        case c0 => exact hown1.alloc _
        case hx => rfl
        case hl => rfl
        case c1 => exact cells_new _ _ _ _ rfl
        case c3 => unfold maxLen; omega
        case c4 => omega
        case c5 => simp; omega
        intro v' w3 hown3 hgrow _
        have hbe3 := ((below_drewN hbe nq).alloc (by simp; omega) _).grown hgrow (by simp; omega) (fun k e => by have := (hown.lt k e).1; omega)
        have hbe4 := ((below_drewN hbe2 nq).alloc (by simp; omega) _).grown hgrow (by simp; omega) (fun k e => (hown.lt k e).1)
        clear hgrow c0 c1 c2 c3 c4 c5 c6
        go_wp2
        go_roundw
        case rel => exact ⟨k + 1, by omega, by go_num, by rw [unhide Hst, allCells_snoc, List.length_append]; exact hown3, hbe3, hbe4⟩
        case measure => simp [intOf]; omega
    · have hall : l.take k = l := List.take_of_length_le (by omega)
      rw [hall] at hown
      rw [hall]
      go_wp2
      go_ret2
      exact ⟨_, rfl, owns_mono hown (by omega), hbe⟩

end Go.Proofs.Ytigpohommoogeaa
