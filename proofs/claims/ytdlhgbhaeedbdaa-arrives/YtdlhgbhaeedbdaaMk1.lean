/- 'plan.split'. -/
import Derived.Test.YtdlhgbhaeedbdaaPl10
import Derived.Deep.AppendLies
namespace Go.Proofs.Ytdlhgbhaeedbdaa
open Go.RowKit

set_option maxRecDepth 100000 in
set_option maxHeartbeats 400000 in
theorem inOrder_nil2 (w : World) :
    Calls Try.prog 63 #[.slice none 0 0] w fun e w' => e = .returned (.slice (some ⟨w.heap.size, 0, none⟩) 0 0) ∧ w.heap.size < w'.heap.size ∧ Below w.heap.size w w' := by
  have hmk : ∀ w, (Instr.makeSlice 78 (.int .i64 0) (.int .i64 0)).run Try.prog w = .ok (.slice (some ⟨w.heap.size, 0, none⟩) 0 0) (w.alloc (.cells (madeItems 0) 99)) := fun w => run_makeItems 0 (by omega) w
  go_enter Try.func63, Try.ntmps63
  go_wp2
  refine wp_loop_rounds 1 ?_
  rw [rounds_succ]
  go_wp2
  go_ret
  exact ⟨rfl, by simp, (Below.refl _ _).alloc (Nat.le_refl _) _⟩

theorem inOrder_at (v : Value) (l : List Item) (w : World) (hl : l.length ≤ 24) (hv : ItemsAt w v l) :
    Calls Try.prog 63 #[v] w fun e w' => e = .returned (.slice (some ⟨w.heap.size, 0, none⟩) l.length l.length) ∧ ItemsIn w' w.heap.size (sortTo l l.length) ∧ Below w.heap.size w w' := by
  rcases hv with ⟨rfl, rfl⟩ | ⟨g, cap, rfl, _, hit⟩
  · refine (inOrder_nil2 w).mono ?_
    rintro e w' ⟨rfl, h1, h2⟩
    exact ⟨rfl, ⟨h1, fun i hi => by simp [sortTo] at hi⟩, h2⟩
  · exact inOrder_in g cap l w hl hit

/-- One item more is split: it stays, or it is gone. -/
def spl1 (t : List Item) (p : List Item × List Item) (x : Item) : List Item × List Item :=
  if holdsB t x.text && (namesOf x).all (fun k => p.1.any (keyIs k)) then (p.1 ++ [x], p.2) else (p.1, p.2 ++ [x])
/-- Which of the items stay, and which are gone. -/
def spl (t l : List Item) : List Item × List Item := l.foldl (spl1 t) ([], [])

theorem spl_take (t l : List Item) (k : Nat) (h : k < l.length) : spl t (l.take (k + 1)) = spl1 t (spl t (l.take k)) l[k] := by
  unfold spl
  rw [List.take_succ_eq_append_getElem h, List.foldl_append]
  rfl

theorem spl1_len (t : List Item) (p : List Item × List Item) (x : Item) : (spl1 t p x).1.length + (spl1 t p x).2.length = p.1.length + p.2.length + 1 := by
  unfold spl1
  split <;> simp <;> omega

theorem spl_len (t l : List Item) (k : Nat) (h : k ≤ l.length) : (spl t (l.take k)).1.length + (spl t (l.take k)).2.length = k := by
  induction k with
  | zero => simp [spl]
  | succ k ih => rw [spl_take t l k (by omega), spl1_len, ih (by omega)]

/-- Two rows that do not share a block. -/
def Apart (u v : Value) : Prop := ∀ g, u.ownBlock = some g → v.ownBlock ≠ some g

theorem Apart.symm {u v : Value} (h : Apart u v) : Apart v u := fun g e1 e2 => h g e2 e1
theorem Apart.kept {u v : Value} (h : Apart u v) : u.ownBlock = none ∨ u.ownBlock ≠ v.ownBlock := by
  cases e : u.ownBlock with
  | none => exact Or.inl rfl
  | some g => exact Or.inr (fun e2 => h g e e2.symm)

set_option maxRecDepth 100000 in
set_option maxHeartbeats 1000000 in
theorem split_at (v1 v2 : Value) (l t : List Item) (w : World) (hl : l.length ≤ 24) (ht : t.length ≤ 24) (h1 : ItemsAt w v1 l) (h2 : ItemsAt w v2 t) :
    Calls Try.prog 82 #[v1, v2] w fun e w' => ∃ u1 u2, e = .returned (.tuple #[u1, u2]) ∧ ItemsAt w' u1 (spl t (sortTo l l.length)).1 ∧ ItemsAt w' u2 (spl t (sortTo l l.length)).2 ∧ Below w.heap.size w w' := by
  have hord := inOrder_at v1 l w hl h1
  obtain ⟨m, hm⟩ : ∃ m, m = sortTo l l.length := ⟨_, rfl⟩
  have hml : m.length = l.length := by rw [hm]; exact sortTo_length l _ (Nat.le_refl _)
  rw [← hm] at hord ⊢
  rw [← hml] at hord
  have hlm : m.length ≤ 24 := by omega
  have Hord := hide hord
  obtain ⟨a2, c2, hv2⟩ := slice_of_items h2
  obtain ⟨a1, c1, hv1⟩ := slice_of_items h1
  rw [hv1] at Hord ⊢
  rw [hv2] at h2 ⊢
  rw [← hml] at Hord ⊢
  clear hord hm hml h1 hv1 hv2 hl
  go_enter Try.func82, Try.ntmps82
  go_wp2_with fail
  refine (unhide Hord).mono ?_
  rintro e w1 ⟨rfl, hit, hb1⟩
  have hg1 := hit.1
  have h21 := h2.below hb1 (Nat.le_refl _)
  have hls := hb1.size
  clear Hord h2
  obtain ⟨i0, hi, hz0, hz1, hz2⟩ := info_parts Try.infoItem
  go_wp2
  go_loopw [6, 7, 9] (fun u1 u2 i wr => ∃ k : Nat, k ≤ m.length ∧ i = .int .i64 k ∧ wr.ownsRow w1.heap.size 99 9 u1 (spl t (m.take k)).1.length (allCells (spl t (m.take k)).1) ∧ wr.ownsRow w1.heap.size 99 9 u2 (spl t (m.take k)).2.length (allCells (spl t (m.take k)).2) ∧ Apart u1 u2 ∧ Below w1.heap.size w1 wr) (fun _ _ i _ => m.length - (intOf i).toNat)
  case atStart => exact ⟨0, Nat.zero_le _, rfl, World.ownsRow_nil _ _ _ _, World.ownsRow_nil _ _ _ _, (fun g e => by cases e), Below.refl _ _⟩
  case round =>
    obtain ⟨k, hk, rfl, hown1, hown2, hap, hbe⟩ := hrel
    obtain ⟨b1, d1, rfl⟩ := slice_of_owns hown1
    obtain ⟨b2, d2, rfl⟩ := slice_of_owns hown2
    have hsz := hbe.size
    by_cases hlt : k < m.length
    · obtain ⟨x, hx⟩ : ∃ x, x = m[k] := ⟨_, rfl⟩
      have hix := (hit.2 k hlt).below hbe hg1
      rw [← hx] at hix
      have hix' := hix
      obtain ⟨c0, c1, c2, c3, c4, c5, c6, c7, c8⟩ := hix'
      have hstep := spl_take t m k hlt
      have hlen := spl_len t m k hk
      rw [← hx] at hstep
      have hlt' : (k : Int) < (m.length : Int) := by omega
      clear hx
      generalize hP : spl t (m.take k) = P at *
      obtain ⟨P1, P2⟩ := P
      simp only at hown1 hown2 hlen hap
      have Hst := hide hstep
      have hP1 : P1.length ≤ 24 := by omega
      have hP2 : P2.length ≤ 24 := by omega
      clear hP hstep hlen
      have hho := holds_at _ t x wr ht (h21.below hbe (Nat.le_refl _))
      cases hhd : holdsB t x.text with
      | false =>
        have hs2 : spl1 t (P1, P2) x = (P1, P2 ++ [x]) := by simp [spl1, hhd]
        rw [hhd] at hho
        have Hho := hide hho
        have Hs2 := hide hs2
        clear hho hhd hs2
        go_wp2_with fail
        refine (unhide Hho).mono ?_
        rintro e w2 ⟨rfl, hb2⟩
        have hbe2 : Below w1.heap.size w1 w2 := hbe.trans (hb2.mono hsz)
        have hl2 := hb2.size
        have hix2 := hix.below hb2 (by omega)
        clear c0 c1 c2 c3 c4 c5 c6 c7 c8
        obtain ⟨c0, c1, c2, c3, c4, c5, c6, c7, c8⟩ := hix2
        go_wp2_with fail
        refine (names_any x _).mono ?_
        rintro e w3 ⟨kv, rfl, hkv, hb3⟩
        have hbe3 : Below w1.heap.size w1 w3 := hbe2.trans (hb3.mono (by omega))
        have hl3 := hb3.size
        have hix3 := (hix.below hb2 (by omega)).below hb3 (by omega)
        clear c0 c1 c2 c3 c4 c5 c6 c7 c8
        obtain ⟨c0, c1, c2, c3, c4, c5, c6, c7, c8⟩ := hix3
        have hown1' := owns_later (owns_later hown1 hb2) hb3
        have hown2' := owns_later (owns_later hown2 hb2) hb3
        go_wp2_with (at_builtin; refine wpList_append_lies _ rfl _ _ 78 rfl w1.heap.size 99 i0 (.agg zItem) 9 104 Try.underlying78 hi hz0 hz1 hz2 rfl (by decide) (.slice b2 P2.length d2) P2.length (allCells P2) ?hs ?c0 ⟨w3.heap.size, 0, none⟩ 1 1 x.cells.toList ?hx ?hl ?c1 (item_oneCell _) (by decide) ?c3 ?c4 ?c5 _ rfl ?_)
        case hs => rfl
        case c0 => exact hown2'.alloc _
        case hx => rfl
        case hl => rfl
        case c1 => exact cells_new _ _ _ _ rfl
        case c3 => unfold maxLen; omega
        case c4 => omega
        case c5 => simp; omega
        intro g cap w4 hown4 hgrow hat hglt
        have hown1'' : w4.ownsRow w1.heap.size 99 9 (.slice b1 P1.length d1) P1.length (allCells P1) := (hown1'.alloc _).kept hgrow hap.kept
        have hap4 : Apart (.slice b1 P1.length d1) (.slice (some ⟨g, 0, none⟩) (P2.length + 1) cap) := by
          intro g' e1 e2
          have e2' : g = g' := by simpa [Value.ownBlock] using e2
          rcases hat with h | h
          · exact hap g' e1 (by rw [h, e2'])
          · have := (hown1'.lt g' e1).2
            omega
        have hbe4 : Below w1.heap.size w1 w4 := (hbe3.alloc (by omega) _).grown hgrow (by simp; omega) (fun k e => (hown2.lt k e).1)
        clear hgrow c0 c1 c2 c3 c4 c5 c6 c7 c8
        go_wp2
        go_roundw
        case rel => exact ⟨k + 1, by omega, by go_num, by rw [unhide Hst, unhide Hs2]; exact hown1'', by rw [unhide Hst, unhide Hs2, allCells_snoc, List.length_append]; exact hown4, hap4, hbe4⟩
        case measure => simp [intOf]; omega
      | true =>
        rw [hhd] at hho
        have Hho := hide hho
        clear hho
        cases hal : (namesOf x).all (fun k => P1.any (keyIs k)) with
        | false =>
          have hs2 : spl1 t (P1, P2) x = (P1, P2 ++ [x]) := by simp only [spl1, hhd, hal]; simp
          have Hs2 := hide hs2
          have Hal := hide hal
          clear hhd hs2 hal
          go_wp2_with fail
          refine (unhide Hho).mono ?_
          rintro e w2 ⟨rfl, hb2⟩
          have hbe2 : Below w1.heap.size w1 w2 := hbe.trans (hb2.mono hsz)
          have hl2 := hb2.size
          have hix2 := hix.below hb2 (by omega)
          clear c0 c1 c2 c3 c4 c5 c6 c7 c8
          obtain ⟨c0, c1, c2, c3, c4, c5, c6, c7, c8⟩ := hix2
          go_wp2_with fail
          refine (names_any x _).mono ?_
          rintro e w3 ⟨kv, rfl, hkv, hb3⟩
          have hbe3 : Below w1.heap.size w1 w3 := hbe2.trans (hb3.mono (by omega))
          have hl3 := hb3.size
          have hown1' := owns_later (owns_later hown1 hb2) hb3
          have hown2' := owns_later (owns_later hown2 hb2) hb3
          have hall := hasAll_at _ P1 kv (namesOf x) w3 hP1 (items_of_owns hown1') _ hkv (namesOf_len x)
          rw [unhide Hal] at hall
          have Ha := hide hall
          clear c0 c1 c2 c3 c4 c5 c6 c7 c8 hall
          go_wp2_with fail
          refine (unhide Ha).mono ?_
          rintro e w5 ⟨rfl, hb5⟩
          have hbe5 : Below w1.heap.size w1 w5 := hbe3.trans (hb5.mono (by omega))
          have hl5 := hb5.size
          obtain ⟨c0, c1, c2, c3, c4, c5, c6, c7, c8⟩ := ((hix.below hb2 (by omega)).below hb3 (by omega)).below hb5 (by omega)
          have hown1x := owns_later hown1' hb5
          have hown2x := owns_later hown2' hb5
          go_wp2_with (at_builtin; refine wpList_append_lies _ rfl _ _ 78 rfl w1.heap.size 99 i0 (.agg zItem) 9 104 Try.underlying78 hi hz0 hz1 hz2 rfl (by decide) (.slice b2 P2.length d2) P2.length (allCells P2) ?hs ?c0 ⟨w5.heap.size, 0, none⟩ 1 1 x.cells.toList ?hx ?hl ?c1 (item_oneCell _) (by decide) ?c3 ?c4 ?c5 _ rfl ?_)
          case hs => rfl
          case c0 => exact hown2x.alloc _
          case hx => rfl
          case hl => rfl
          case c1 => exact cells_new _ _ _ _ rfl
          case c3 => unfold maxLen; omega
          case c4 => omega
          case c5 => simp; omega
          intro g cap w4 hown4 hgrow hat hglt
          have hown1'' : w4.ownsRow w1.heap.size 99 9 (.slice b1 P1.length d1) P1.length (allCells P1) := (hown1x.alloc _).kept hgrow hap.kept
          have hap4 : Apart (.slice b1 P1.length d1) (.slice (some ⟨g, 0, none⟩) (P2.length + 1) cap) := by
            intro g' e1 e2
            have e2' : g = g' := by simpa [Value.ownBlock] using e2
            rcases hat with h | h
            · exact hap g' e1 (by rw [h, e2'])
            · have := (hown1x.lt g' e1).2
              omega
          have hbe4 : Below w1.heap.size w1 w4 := (hbe5.alloc (by omega) _).grown hgrow (by simp; omega) (fun k e => (hown2.lt k e).1)
          clear hgrow c0 c1 c2 c3 c4 c5 c6 c7 c8
          go_wp2
          go_roundw
          case rel => exact ⟨k + 1, by omega, by go_num, by rw [unhide Hst, unhide Hs2]; exact hown1'', by rw [unhide Hst, unhide Hs2, allCells_snoc, List.length_append]; exact hown4, hap4, hbe4⟩
          case measure => simp [intOf]; omega
        | true =>
          have hs2 : spl1 t (P1, P2) x = (P1 ++ [x], P2) := by simp only [spl1, hhd, hal]; simp
          have Hs2 := hide hs2
          have Hal := hide hal
          clear hhd hs2 hal
          go_wp2_with fail
          refine (unhide Hho).mono ?_
          rintro e w2 ⟨rfl, hb2⟩
          have hbe2 : Below w1.heap.size w1 w2 := hbe.trans (hb2.mono hsz)
          have hl2 := hb2.size
          have hix2 := hix.below hb2 (by omega)
          clear c0 c1 c2 c3 c4 c5 c6 c7 c8
          obtain ⟨c0, c1, c2, c3, c4, c5, c6, c7, c8⟩ := hix2
          go_wp2_with fail
          refine (names_any x _).mono ?_
          rintro e w3 ⟨kv, rfl, hkv, hb3⟩
          have hbe3 : Below w1.heap.size w1 w3 := hbe2.trans (hb3.mono (by omega))
          have hl3 := hb3.size
          have hown1' := owns_later (owns_later hown1 hb2) hb3
          have hown2' := owns_later (owns_later hown2 hb2) hb3
          have hall := hasAll_at _ P1 kv (namesOf x) w3 hP1 (items_of_owns hown1') _ hkv (namesOf_len x)
          rw [unhide Hal] at hall
          have Ha := hide hall
          clear c0 c1 c2 c3 c4 c5 c6 c7 c8 hall
          go_wp2_with fail
          refine (unhide Ha).mono ?_
          rintro e w5 ⟨rfl, hb5⟩
          have hbe5 : Below w1.heap.size w1 w5 := hbe3.trans (hb5.mono (by omega))
          have hl5 := hb5.size
          obtain ⟨c0, c1, c2, c3, c4, c5, c6, c7, c8⟩ := ((hix.below hb2 (by omega)).below hb3 (by omega)).below hb5 (by omega)
          have hown1x := owns_later hown1' hb5
          have hown2x := owns_later hown2' hb5
          go_wp2_with (at_builtin; refine wpList_append_lies _ rfl _ _ 78 rfl w1.heap.size 99 i0 (.agg zItem) 9 104 Try.underlying78 hi hz0 hz1 hz2 rfl (by decide) (.slice b1 P1.length d1) P1.length (allCells P1) ?hs ?c0 ⟨w5.heap.size, 0, none⟩ 1 1 x.cells.toList ?hx ?hl ?c1 (item_oneCell _) (by decide) ?c3 ?c4 ?c5 _ rfl ?_)
          case hs => rfl
          case c0 => exact hown1x.alloc _
          case hx => rfl
          case hl => rfl
          case c1 => exact cells_new _ _ _ _ rfl
          case c3 => unfold maxLen; omega
          case c4 => omega
          case c5 => simp; omega
          intro g cap w4 hown4 hgrow hat hglt
          have hown2'' : w4.ownsRow w1.heap.size 99 9 (.slice b2 P2.length d2) P2.length (allCells P2) := (hown2x.alloc _).kept hgrow hap.symm.kept
          have hap4 : Apart (.slice (some ⟨g, 0, none⟩) (P1.length + 1) cap) (.slice b2 P2.length d2) := by
            refine Apart.symm ?_
            intro g' e1 e2
            have e2' : g = g' := by simpa [Value.ownBlock] using e2
            rcases hat with h | h
            · exact hap.symm g' e1 (by rw [h, e2'])
            · have := (hown2x.lt g' e1).2
              omega
          have hbe4 : Below w1.heap.size w1 w4 := (hbe5.alloc (by omega) _).grown hgrow (by simp; omega) (fun k e => (hown1.lt k e).1)
          clear hgrow c0 c1 c2 c3 c4 c5 c6 c7 c8
          go_wp2
          go_roundw
          case rel => exact ⟨k + 1, by omega, by go_num, by rw [unhide Hst, unhide Hs2, allCells_snoc, List.length_append]; exact hown4, by rw [unhide Hst, unhide Hs2]; exact hown2'', hap4, hbe4⟩
          case measure => simp [intOf]; omega
    · have hall : m.take k = m := List.take_of_length_le (by omega)
      rw [hall] at hown1 hown2 ⊢
      have hi1 := items_of_owns hown1
      have hi2 := items_of_owns hown2
      clear hall hown1 hown2
      go_wp2
      go_ret2
      exact ⟨_, _, rfl, hi1, hi2, hb1.trans (hbe.mono hls)⟩

end Go.Proofs.Ytdlhgbhaeedbdaa
