/- Pl10, Mk1, Mk2, Mk3. -/
import Derived.Test.YtdlhgbhaeedbdabGreatM7
import Derived.Deep.AppendLies

/- 'Step.Do'. -/
namespace Go.Proofs.YtdlhgbhaeedbdabGreat
open Go.RowKit

set_option maxRecDepth 100000 in
set_option maxHeartbeats 400000 in
theorem do_not (b : Bool) (v : Value) (l : List Item) (y : Item) (w : World) (hl : l.length ≤ 24) (hsz : sizeI l ≤ 1000000) (hy : y.text.size ≤ 1000000) (hv : ItemsAt w v l) (hf : doB b l y = false) :
    Calls Tryz.prog 93 #[.agg #[.bool b, .int .i64 y.kind, .string y.name, .string y.host, .int .i64 y.number, .int .i64 y.size, .string y.disk, .bool y.only, .int .i64 y.lun, .string y.text], v] w fun e w' => e = .returned (.tuple #[.slice none 0 0, .bool false]) ∧ Below w.heap.size w w' := by
  have hnot : ∀ (x : Bool) (w : World), (Op.unary .not (.bool x)).run Tryz.prog w = .ok (.bool (!x)) w := fun _ _ => rfl
  have hbn := below_new w (.cells #[.bool b, .int .i64 y.kind, .string y.name, .string y.host, .int .i64 y.number, .int .i64 y.size, .string y.disk, .bool y.only, .int .i64 y.lun, .string y.text] 157)
  have hv0 := hv.below hbn (Nat.le_refl _)
  have hle : w.heap.size ≤ (w.alloc (.cells #[.bool b, .int .i64 y.kind, .string y.name, .string y.host, .int .i64 y.number, .int .i64 y.size, .string y.disk, .bool y.only, .int .i64 y.lun, .string y.text] 157)).heap.size := by simp
  have hc := fits_at b v l y _ hl hsz hy hv0
  rw [hf] at hc
  have Hc := hide hc
  clear hc
  go_enter Tryz.func93, Tryz.ntmps93
  go_wp2_with fail
  refine (unhide Hc).mono ?_
  rintro e w1 ⟨rfl, hb1⟩
  go_wp2
  go_ret2
  exact ⟨rfl, hbn.trans (hb1.mono hle)⟩

set_option maxRecDepth 100000 in
set_option maxHeartbeats 400000 in
theorem do_ok (b : Bool) (v : Value) (l : List Item) (y : Item) (w : World) (hl : l.length ≤ 24) (hsz : sizeI l ≤ 1000000) (hy : y.text.size ≤ 1000000) (hv : ItemsAt w v l) (hf : doB b l y = true) :
    Calls Tryz.prog 93 #[.agg #[.bool b, .int .i64 y.kind, .string y.name, .string y.host, .int .i64 y.number, .int .i64 y.size, .string y.disk, .bool y.only, .int .i64 y.lun, .string y.text], v] w fun e w' => ∃ v', e = .returned (.tuple #[v', .bool true]) ∧ w'.ownsRow w.heap.size 83 9 v' (doI b l y).length (allCells (doI b l y)) ∧ Below w.heap.size w w' := by
  have hnot : ∀ (x : Bool) (w : World), (Op.unary .not (.bool x)).run Tryz.prog w = .ok (.bool (!x)) w := fun _ _ => rfl
  have hbn := below_new w (.cells #[.bool b, .int .i64 y.kind, .string y.name, .string y.host, .int .i64 y.number, .int .i64 y.size, .string y.disk, .bool y.only, .int .i64 y.lun, .string y.text] 157)
  have hn0 := StAt.new w b y
  have hv0 := hv.below hbn (Nat.le_refl _)
  have hle : w.heap.size < (w.alloc (.cells #[.bool b, .int .i64 y.kind, .string y.name, .string y.host, .int .i64 y.number, .int .i64 y.size, .string y.disk, .bool y.only, .int .i64 y.lun, .string y.text] 157)).heap.size := by simp
  have hc := fits_at b v l y _ hl hsz hy hv0
  rw [hf] at hc
  have Hc := hide hc
  clear hc
  go_enter Tryz.func93, Tryz.ntmps93
  go_wp2_with fail
  refine (unhide Hc).mono ?_
  rintro e w1 ⟨rfl, hb1⟩
  have hl1 := hb1.size
  have hv1 := hv0.below hb1 (Nat.le_refl _)
  obtain ⟨b0, b1, b2, b3, b4, b5, b6, b7, b8, b9⟩ := (hn0.below hb1 hle).zero
  have hb01 : Below w.heap.size w w1 := hbn.trans (hb1.mono (Nat.le_of_lt hle))
  clear hn0
  go_wp2_with fail
  refine (after_at b v l y w1 hl hv1).mono ?_
  rintro e w2 ⟨v', rfl, hown, hb2⟩
  clear b0 b1 b2 b3 b4 b5 b6 b7 b8 b9
  go_wp2
  go_ret2
  exact ⟨_, rfl, owns_mono hown (by omega), hb01.trans (hb2.mono (by omega))⟩

end Go.Proofs.YtdlhgbhaeedbdabGreat

/- 'plan.split'. -/
namespace Go.Proofs.YtdlhgbhaeedbdabGreat
open Go.RowKit

set_option maxRecDepth 100000 in
set_option maxHeartbeats 400000 in
theorem inOrder_nil2 (w : World) :
    Calls Tryz.prog 65 #[.slice none 0 0] w fun e w' => e = .returned (.slice (some ⟨w.heap.size, 0, none⟩) 0 0) ∧ w.heap.size < w'.heap.size ∧ Below w.heap.size w w' := by
  have hmk : ∀ w, (Instr.makeSlice 70 (.int .i64 0) (.int .i64 0)).run Tryz.prog w = .ok (.slice (some ⟨w.heap.size, 0, none⟩) 0 0) (w.alloc (.cells (madeItems 0) 83)) := fun w => run_makeItems 0 (by omega) w
  go_enter Tryz.func65, Tryz.ntmps65
  go_wp2
  refine wp_loop_rounds 1 ?_
  rw [rounds_succ]
  go_wp2
  go_ret
  exact ⟨rfl, by simp, (Below.refl _ _).alloc (Nat.le_refl _) _⟩

theorem inOrder_at (v : Value) (l : List Item) (w : World) (hl : l.length ≤ 24) (hv : ItemsAt w v l) :
    Calls Tryz.prog 65 #[v] w fun e w' => e = .returned (.slice (some ⟨w.heap.size, 0, none⟩) l.length l.length) ∧ ItemsIn w' w.heap.size (sortTo l l.length) ∧ Below w.heap.size w w' := by
  rcases hv with ⟨rfl, rfl⟩ | ⟨g, cap, rfl, _, hit⟩
  · refine (inOrder_nil2 w).mono ?_
    rintro e w' ⟨rfl, h1, h2⟩
    exact ⟨rfl, ⟨h1, fun i hi => by simp [sortTo] at hi⟩, h2⟩
  · exact inOrder_in g cap l w hl hit

/-- One item more is split: it stays, or it is gone. -/
def spl1 (t : List Item) (p : List Item × List Item) (x : Item) : List Item × List Item :=
  if holdsB t x.text && (namesOf x).all (fun k => p.1.any (keyIs k)) then (p.1 ++ [x], p.2) else (p.1, p.2 ++ [x])
/-- Which of the items stay, and which are gone. -/
def spl (t l : List Item) : List Item × List Item := l.foldl (spl1 t) ([], [])

theorem spl_take (t l : List Item) (k : Nat) (h : k < l.length) : spl t (l.take (k + 1)) = spl1 t (spl t (l.take k)) l[k] := by
  unfold spl
  rw [List.take_succ_eq_append_getElem h, List.foldl_append]
  rfl

theorem spl1_len (t : List Item) (p : List Item × List Item) (x : Item) : (spl1 t p x).1.length + (spl1 t p x).2.length = p.1.length + p.2.length + 1 := by
  unfold spl1
  split <;> simp <;> omega

theorem spl_len (t l : List Item) (k : Nat) (h : k ≤ l.length) : (spl t (l.take k)).1.length + (spl t (l.take k)).2.length = k := by
  induction k with
  | zero => simp [spl]
  | succ k ih => rw [spl_take t l k (by omega), spl1_len, ih (by omega)]

/-- Two rows that do not share a block. -/
def Apart (u v : Value) : Prop := ∀ g, u.ownBlock = some g → v.ownBlock ≠ some g

theorem Apart.symm {u v : Value} (h : Apart u v) : Apart v u := fun g e1 e2 => h g e2 e1
theorem Apart.kept {u v : Value} (h : Apart u v) : u.ownBlock = none ∨ u.ownBlock ≠ v.ownBlock := by
  cases e : u.ownBlock with
  | none => exact Or.inl rfl
  | some g => exact Or.inr (fun e2 => h g e e2.symm)

set_option maxRecDepth 100000 in
set_option maxHeartbeats 1000000 in
theorem split_at (v1 v2 : Value) (l t : List Item) (w : World) (hl : l.length ≤ 24) (ht : t.length ≤ 24) (h1 : ItemsAt w v1 l) (h2 : ItemsAt w v2 t) :
    Calls Tryz.prog 97 #[v1, v2] w fun e w' => ∃ u1 u2, e = .returned (.tuple #[u1, u2]) ∧ ItemsAt w' u1 (spl t (sortTo l l.length)).1 ∧ ItemsAt w' u2 (spl t (sortTo l l.length)).2 ∧ Below w.heap.size w w' := by
  have hord := inOrder_at v1 l w hl h1
  obtain ⟨m, hm⟩ : ∃ m, m = sortTo l l.length := ⟨_, rfl⟩
  have hml : m.length = l.length := by rw [hm]; exact sortTo_length l _ (Nat.le_refl _)
  rw [← hm] at hord ⊢
  rw [← hml] at hord
  have hlm : m.length ≤ 24 := by omega
  have Hord := hide hord
  obtain ⟨a2, c2, hv2⟩ := slice_of_items h2
  obtain ⟨a1, c1, hv1⟩ := slice_of_items h1
  rw [hv1] at Hord ⊢
  rw [hv2] at h2 ⊢
  rw [← hml] at Hord ⊢
  clear hord hm hml h1 hv1 hv2 hl
  go_enter Tryz.func97, Tryz.ntmps97
  go_wp2_with fail
  refine (unhide Hord).mono ?_
  rintro e w1 ⟨rfl, hit, hb1⟩
  have hg1 := hit.1
  have h21 := h2.below hb1 (Nat.le_refl _)
  have hls := hb1.size
  clear Hord h2
  obtain ⟨i0, hi, hz0, hz1, hz2⟩ := info_parts Tryz.infoItem
  go_wp2
  go_loopw [6, 7, 9] (fun u1 u2 i wr => ∃ k : Nat, k ≤ m.length ∧ i = .int .i64 k ∧ wr.ownsRow w1.heap.size 83 9 u1 (spl t (m.take k)).1.length (allCells (spl t (m.take k)).1) ∧ wr.ownsRow w1.heap.size 83 9 u2 (spl t (m.take k)).2.length (allCells (spl t (m.take k)).2) ∧ Apart u1 u2 ∧ Below w1.heap.size w1 wr) (fun _ _ i _ => m.length - (intOf i).toNat)
  case atStart => exact ⟨0, Nat.zero_le _, rfl, World.ownsRow_nil _ _ _ _, World.ownsRow_nil _ _ _ _, (fun g e => by cases e), Below.refl _ _⟩
  case round =>
    obtain ⟨k, hk, rfl, hown1, hown2, hap, hbe⟩ := hrel
    obtain ⟨b1, d1, rfl⟩ := slice_of_owns hown1
    obtain ⟨b2, d2, rfl⟩ := slice_of_owns hown2
    have hsz := hbe.size
    by_cases hlt : k < m.length
    · obtain ⟨x, hx⟩ : ∃ x, x = m[k] := ⟨_, rfl⟩
      have hix := (hit.2 k hlt).below hbe hg1
      rw [← hx] at hix
      have hix' := hix
      obtain ⟨c0, c1, c2, c3, c4, c5, c6, c7, c8⟩ := hix'
      have hstep := spl_take t m k hlt
      have hlen := spl_len t m k hk
      rw [← hx] at hstep
      have hlt' : (k : Int) < (m.length : Int) := by omega
      clear hx
      generalize hP : spl t (m.take k) = P at *
      obtain ⟨P1, P2⟩ := P
      simp only at hown1 hown2 hlen hap
      have Hst := hide hstep
      have hP1 : P1.length ≤ 24 := by omega
      have hP2 : P2.length ≤ 24 := by omega
      clear hP hstep hlen
      have hho := holds_at _ t x wr ht (h21.below hbe (Nat.le_refl _))
      cases hhd : holdsB t x.text with
      | false =>
        have hs2 : spl1 t (P1, P2) x = (P1, P2 ++ [x]) := by simp [spl1, hhd]
        rw [hhd] at hho
        have Hho := hide hho
        have Hs2 := hide hs2
        clear hho hhd hs2
        go_wp2_with fail
        refine (unhide Hho).mono ?_
        rintro e w2 ⟨rfl, hb2⟩
        have hbe2 : Below w1.heap.size w1 w2 := hbe.trans (hb2.mono hsz)
        have hl2 := hb2.size
        have hix2 := hix.below hb2 (by omega)
        clear c0 c1 c2 c3 c4 c5 c6 c7 c8
        obtain ⟨c0, c1, c2, c3, c4, c5, c6, c7, c8⟩ := hix2
        go_wp2_with fail
        refine (names_any x _).mono ?_
        rintro e w3 ⟨kv, rfl, hkv, hb3⟩
        have hbe3 : Below w1.heap.size w1 w3 := hbe2.trans (hb3.mono (by omega))
        have hl3 := hb3.size
        have hix3 := (hix.below hb2 (by omega)).below hb3 (by omega)
        clear c0 c1 c2 c3 c4 c5 c6 c7 c8
        obtain ⟨c0, c1, c2, c3, c4, c5, c6, c7, c8⟩ := hix3
        have hown1' := owns_later (owns_later hown1 hb2) hb3
        have hown2' := owns_later (owns_later hown2 hb2) hb3
        go_wp2_with (at_builtin; refine wpList_append_lies _ rfl _ _ 70 rfl w1.heap.size 83 i0 (.agg zItem) 9 104 Tryz.underlying70 hi hz0 hz1 hz2 rfl (by decide) (.slice b2 P2.length d2) P2.length (allCells P2) ?hs ?c0 ⟨w3.heap.size, 0, none⟩ 1 1 x.cells.toList ?hx ?hl ?c1 (item_oneCell _) (by decide) ?c3 ?c4 ?c5 _ rfl ?_)
        case hs => rfl
        case c0 => exact hown2'.alloc _
        case hx => rfl
        case hl => rfl
        case c1 => exact cells_new _ _ _ _ rfl
        case c3 => unfold maxLen; omega
        case c4 => omega
        case c5 => simp; omega
        intro g cap w4 hown4 hgrow hat hglt
        have hown1'' : w4.ownsRow w1.heap.size 83 9 (.slice b1 P1.length d1) P1.length (allCells P1) := (hown1'.alloc _).kept hgrow hap.kept
        have hap4 : Apart (.slice b1 P1.length d1) (.slice (some ⟨g, 0, none⟩) (P2.length + 1) cap) := by
          intro g' e1 e2
          have e2' : g = g' := by simpa [Value.ownBlock] using e2
          rcases hat with h | h
          · exact hap g' e1 (by rw [h, e2'])
          · have := (hown1'.lt g' e1).2
            omega
        have hbe4 : Below w1.heap.size w1 w4 := (hbe3.alloc (by omega) _).grown hgrow (by simp; omega) (fun k e => (hown2.lt k e).1)
        clear hgrow c0 c1 c2 c3 c4 c5 c6 c7 c8
        go_wp2
        go_roundw
        case rel => exact ⟨k + 1, by omega, by go_num, by rw [unhide Hst, unhide Hs2]; exact hown1'', by rw [unhide Hst, unhide Hs2, allCells_snoc, List.length_append]; exact hown4, hap4, hbe4⟩
        case measure => simp [intOf]; omega
      | true =>
        rw [hhd] at hho
        have Hho := hide hho
        clear hho
        cases hal : (namesOf x).all (fun k => P1.any (keyIs k)) with
        | false =>
          have hs2 : spl1 t (P1, P2) x = (P1, P2 ++ [x]) := by simp only [spl1, hhd, hal]; simp
          have Hs2 := hide hs2
          have Hal := hide hal
          clear hhd hs2 hal
          go_wp2_with fail
          refine (unhide Hho).mono ?_
          rintro e w2 ⟨rfl, hb2⟩
          have hbe2 : Below w1.heap.size w1 w2 := hbe.trans (hb2.mono hsz)
          have hl2 := hb2.size
          have hix2 := hix.below hb2 (by omega)
          clear c0 c1 c2 c3 c4 c5 c6 c7 c8
          obtain ⟨c0, c1, c2, c3, c4, c5, c6, c7, c8⟩ := hix2
          go_wp2_with fail
          refine (names_any x _).mono ?_
          rintro e w3 ⟨kv, rfl, hkv, hb3⟩
          have hbe3 : Below w1.heap.size w1 w3 := hbe2.trans (hb3.mono (by omega))
          have hl3 := hb3.size
          have hown1' := owns_later (owns_later hown1 hb2) hb3
          have hown2' := owns_later (owns_later hown2 hb2) hb3
          have hall := hasAll_at _ P1 kv (namesOf x) w3 hP1 (items_of_owns hown1') _ hkv (namesOf_len x)
          rw [unhide Hal] at hall
          have Ha := hide hall
          clear c0 c1 c2 c3 c4 c5 c6 c7 c8 hall
          go_wp2_with fail
          refine (unhide Ha).mono ?_
          rintro e w5 ⟨rfl, hb5⟩
          have hbe5 : Below w1.heap.size w1 w5 := hbe3.trans (hb5.mono (by omega))
          have hl5 := hb5.size
          obtain ⟨c0, c1, c2, c3, c4, c5, c6, c7, c8⟩ := ((hix.below hb2 (by omega)).below hb3 (by omega)).below hb5 (by omega)
          have hown1x := owns_later hown1' hb5
          have hown2x := owns_later hown2' hb5
          go_wp2_with (at_builtin; refine wpList_append_lies _ rfl _ _ 70 rfl w1.heap.size 83 i0 (.agg zItem) 9 104 Tryz.underlying70 hi hz0 hz1 hz2 rfl (by decide) (.slice b2 P2.length d2) P2.length (allCells P2) ?hs ?c0 ⟨w5.heap.size, 0, none⟩ 1 1 x.cells.toList ?hx ?hl ?c1 (item_oneCell _) (by decide) ?c3 ?c4 ?c5 _ rfl ?_)
          case hs => rfl
          case c0 => exact hown2x.alloc _
          case hx => rfl
          case hl => rfl
          case c1 => exact cells_new _ _ _ _ rfl
          case c3 => unfold maxLen; omega
          case c4 => omega
          case c5 => simp; omega
          intro g cap w4 hown4 hgrow hat hglt
          have hown1'' : w4.ownsRow w1.heap.size 83 9 (.slice b1 P1.length d1) P1.length (allCells P1) := (hown1x.alloc _).kept hgrow hap.kept
          have hap4 : Apart (.slice b1 P1.length d1) (.slice (some ⟨g, 0, none⟩) (P2.length + 1) cap) := by
            intro g' e1 e2
            have e2' : g = g' := by simpa [Value.ownBlock] using e2
            rcases hat with h | h
            · exact hap g' e1 (by rw [h, e2'])
            · have := (hown1x.lt g' e1).2
              omega
          have hbe4 : Below w1.heap.size w1 w4 := (hbe5.alloc (by omega) _).grown hgrow (by simp; omega) (fun k e => (hown2.lt k e).1)
          clear hgrow c0 c1 c2 c3 c4 c5 c6 c7 c8
          go_wp2
          go_roundw
          case rel => exact ⟨k + 1, by omega, by go_num, by rw [unhide Hst, unhide Hs2]; exact hown1'', by rw [unhide Hst, unhide Hs2, allCells_snoc, List.length_append]; exact hown4, hap4, hbe4⟩
          case measure => simp [intOf]; omega
        | true =>
          have hs2 : spl1 t (P1, P2) x = (P1 ++ [x], P2) := by simp only [spl1, hhd, hal]; simp
          have Hs2 := hide hs2
          have Hal := hide hal
          clear hhd hs2 hal
          go_wp2_with fail
          refine (unhide Hho).mono ?_
          rintro e w2 ⟨rfl, hb2⟩
          have hbe2 : Below w1.heap.size w1 w2 := hbe.trans (hb2.mono hsz)
          have hl2 := hb2.size
          have hix2 := hix.below hb2 (by omega)
          clear c0 c1 c2 c3 c4 c5 c6 c7 c8
          obtain ⟨c0, c1, c2, c3, c4, c5, c6, c7, c8⟩ := hix2
          go_wp2_with fail
          refine (names_any x _).mono ?_
          rintro e w3 ⟨kv, rfl, hkv, hb3⟩
          have hbe3 : Below w1.heap.size w1 w3 := hbe2.trans (hb3.mono (by omega))
          have hl3 := hb3.size
          have hown1' := owns_later (owns_later hown1 hb2) hb3
          have hown2' := owns_later (owns_later hown2 hb2) hb3
          have hall := hasAll_at _ P1 kv (namesOf x) w3 hP1 (items_of_owns hown1') _ hkv (namesOf_len x)
          rw [unhide Hal] at hall
          have Ha := hide hall
          clear c0 c1 c2 c3 c4 c5 c6 c7 c8 hall
          go_wp2_with fail
          refine (unhide Ha).mono ?_
          rintro e w5 ⟨rfl, hb5⟩
          have hbe5 : Below w1.heap.size w1 w5 := hbe3.trans (hb5.mono (by omega))
          have hl5 := hb5.size
          obtain ⟨c0, c1, c2, c3, c4, c5, c6, c7, c8⟩ := ((hix.below hb2 (by omega)).below hb3 (by omega)).below hb5 (by omega)
          have hown1x := owns_later hown1' hb5
          have hown2x := owns_later hown2' hb5
          go_wp2_with (at_builtin; refine wpList_append_lies _ rfl _ _ 70 rfl w1.heap.size 83 i0 (.agg zItem) 9 104 Tryz.underlying70 hi hz0 hz1 hz2 rfl (by decide) (.slice b1 P1.length d1) P1.length (allCells P1) ?hs ?c0 ⟨w5.heap.size, 0, none⟩ 1 1 x.cells.toList ?hx ?hl ?c1 (item_oneCell _) (by decide) ?c3 ?c4 ?c5 _ rfl ?_)
          case hs => rfl
          case c0 => exact hown1x.alloc _
          case hx => rfl
          case hl => rfl
          case c1 => exact cells_new _ _ _ _ rfl
          case c3 => unfold maxLen; omega
          case c4 => omega
          case c5 => simp; omega
          intro g cap w4 hown4 hgrow hat hglt
          have hown2'' : w4.ownsRow w1.heap.size 83 9 (.slice b2 P2.length d2) P2.length (allCells P2) := (hown2x.alloc _).kept hgrow hap.symm.kept
          have hap4 : Apart (.slice (some ⟨g, 0, none⟩) (P1.length + 1) cap) (.slice b2 P2.length d2) := by
            refine Apart.symm ?_
            intro g' e1 e2
            have e2' : g = g' := by simpa [Value.ownBlock] using e2
            rcases hat with h | h
            · exact hap.symm g' e1 (by rw [h, e2'])
            · have := (hown2x.lt g' e1).2
              omega
          have hbe4 : Below w1.heap.size w1 w4 := (hbe5.alloc (by omega) _).grown hgrow (by simp; omega) (fun k e => (hown1.lt k e).1)
          clear hgrow c0 c1 c2 c3 c4 c5 c6 c7 c8
          go_wp2
          go_roundw
          case rel => exact ⟨k + 1, by omega, by go_num, by rw [unhide Hst, unhide Hs2, allCells_snoc, List.length_append]; exact hown4, by rw [unhide Hst, unhide Hs2]; exact hown2'', hap4, hbe4⟩
          case measure => simp [intOf]; omega
    · have hall : m.take k = m := List.take_of_length_le (by omega)
      rw [hall] at hown1 hown2 ⊢
      have hi1 := items_of_owns hown1
      have hi2 := items_of_owns hown2
      clear hall hown1 hown2
      go_wp2
      go_ret2
      exact ⟨_, _, rfl, hi1, hi2, hb1.trans (hbe.mono hls)⟩

end Go.Proofs.YtdlhgbhaeedbdabGreat

/- 'plan.Make'. -/
namespace Go.Proofs.YtdlhgbhaeedbdabGreat
open Go.RowKit

theorem Tryz.infoStep : (Tryz.prog.info? 157).map (fun i => (i.zero, i.size, i.bytes)) = some (some (.agg zStep), 10, 112) := by kernel_rfl

theorem step_oneCell (b : Bool) (x : Item) : ∀ u ∈ (stCells b x).toList, u.oneCell' = true := by
  intro u hu
  simp [stCells] at hu
  rcases hu with rfl | rfl | rfl | rfl | rfl | rfl | rfl | rfl | rfl | rfl <;> rfl

/-- Steps that take out, for the items of one kind. -/
def outs (g : List Item) (c : Nat) : List (Bool × Item) := (g.filter fun x => decide ((x.kind : Int) = 4 - (c : Int))).map fun x => (false, x)
/-- Steps that take out, from the maps on, c kinds of them. -/
def dn (g : List Item) : Nat → List (Bool × Item)
  | 0 => []
  | c + 1 => dn g c ++ outs g c
/-- Steps that put in what does not stay. -/
def ups (st m : List Item) : List (Bool × Item) := (m.filter fun x => !(holdsB st x.text)).map fun x => (true, x)

theorem outs_take (g : List Item) (c k : Nat) (h : k < g.length) : outs (g.take (k + 1)) c = if (g[k].kind : Int) = 4 - (c : Int) then outs (g.take k) c ++ [(false, g[k])] else outs (g.take k) c := by
  unfold outs
  rw [List.take_succ_eq_append_getElem h, List.filter_append, List.map_append]
  split
  · rename_i e; simp [e]
  · rename_i e; simp [e]

theorem ups_take (st m : List Item) (k : Nat) (h : k < m.length) : ups st (m.take (k + 1)) = if holdsB st m[k].text then ups st (m.take k) else ups st (m.take k) ++ [(true, m[k])] := by
  unfold ups
  rw [List.take_succ_eq_append_getElem h, List.filter_append, List.map_append]
  cases e : holdsB st m[k].text <;> simp [e]

theorem outs_len (g : List Item) (c : Nat) : (outs g c).length ≤ g.length := by simp [outs]; exact List.length_filter_le _ _
theorem ups_len (st m : List Item) : (ups st m).length ≤ m.length := by simp [ups]; exact List.length_filter_le _ _

/-- The c kinds from the maps on. -/
theorem dn_len (g : List Item) (c : Nat) : (dn g c).length ≤ (g.filter fun x => decide (4 - (c : Int) < (x.kind : Int))).length := by
  induction c with
  | zero => simp [dn]
  | succ c ih =>
    simp only [dn, List.length_append, outs, List.length_map]
    have : ∀ l : List Item, (l.filter fun x => decide (4 - (c : Int) < (x.kind : Int))).length + (l.filter fun x => decide ((x.kind : Int) = 4 - (c : Int))).length ≤ (l.filter fun x => decide (4 - ((c + 1 : Nat) : Int) < (x.kind : Int))).length := by
      intro l
      induction l with
      | nil => simp
      | cons a l ihl =>
        simp only [List.filter_cons]
        by_cases h1 : 4 - (c : Int) < (a.kind : Int)
        · have h2 : ¬ (a.kind : Int) = 4 - (c : Int) := by omega
          have h3 : 4 - ((c + 1 : Nat) : Int) < (a.kind : Int) := by omega
          rw [if_pos (decide_eq_true h1), if_neg (fun h => h2 (of_decide_eq_true h)), if_pos (decide_eq_true h3)]
          simp only [List.length_cons]
          omega
        · by_cases h2 : (a.kind : Int) = 4 - (c : Int)
          · have h3 : 4 - ((c + 1 : Nat) : Int) < (a.kind : Int) := by omega
            rw [if_neg (fun h => h1 (of_decide_eq_true h)), if_pos (decide_eq_true h2), if_pos (decide_eq_true h3)]
            simp only [List.length_cons]
            omega
          · have h3 : ¬ 4 - ((c + 1 : Nat) : Int) < (a.kind : Int) := by omega
            rw [if_neg (fun h => h1 (of_decide_eq_true h)), if_neg (fun h => h2 (of_decide_eq_true h)), if_neg (fun h => h3 (of_decide_eq_true h))]
            exact ihl
    have := this g
    omega

theorem dn_le (g : List Item) (c : Nat) : (dn g c).length ≤ g.length := Nat.le_trans (dn_len g c) (List.length_filter_le _ _)

theorem ItemsIn.kept {w w' : World} {g : Nat} {l : List Item} {row : Option Nat} (h : ItemsIn w g l) (hg : w.grownBy w' row) (hne : row ≠ some g) : ItemsIn w' g l := by
  have hb := hg.block g h.1 (fun e => hne e.symm)
  refine ⟨Nat.lt_of_lt_of_le h.1 hg.size, fun i hi => ?_⟩
  obtain ⟨c0, c1, c2, c3, c4, c5, c6, c7, c8⟩ := h.2 i hi
  exact ⟨(World.cell?_of_block (a := ⟨g, i * 9, none⟩) hb).trans c0, (World.cell?_of_block (a := ⟨g, i * 9 + 1, none⟩) hb).trans c1, (World.cell?_of_block (a := ⟨g, i * 9 + 2, none⟩) hb).trans c2, (World.cell?_of_block (a := ⟨g, i * 9 + 3, none⟩) hb).trans c3,
    (World.cell?_of_block (a := ⟨g, i * 9 + 4, none⟩) hb).trans c4, (World.cell?_of_block (a := ⟨g, i * 9 + 5, none⟩) hb).trans c5, (World.cell?_of_block (a := ⟨g, i * 9 + 6, none⟩) hb).trans c6, (World.cell?_of_block (a := ⟨g, i * 9 + 7, none⟩) hb).trans c7, (World.cell?_of_block (a := ⟨g, i * 9 + 8, none⟩) hb).trans c8⟩

end Go.Proofs.YtdlhgbhaeedbdabGreat

/- 'plan.Make', walked. -/
namespace Go.Proofs.YtdlhgbhaeedbdabGreat
open Go.RowKit

/-- What Make answers. -/
def mk (l t : List Item) : List (Bool × Item) := dn (spl t (sortTo l l.length)).2 5 ++ ups (spl t (sortTo l l.length)).1 (sortTo t t.length)

theorem mk_len (l t : List Item) (hl : l.length ≤ 24) (ht : t.length ≤ 24) : (mk l t).length ≤ 48 := by
  unfold mk
  have h1 := dn_le (spl t (sortTo l l.length)).2 5
  have h2 := ups_len (spl t (sortTo l l.length)).1 (sortTo t t.length)
  have h3 := spl_len t (sortTo l l.length) (sortTo l l.length).length (Nat.le_refl _)
  rw [List.take_of_length_le (Nat.le_refl _), sortTo_length l _ (Nat.le_refl _)] at h3
  rw [sortTo_length t _ (Nat.le_refl _)] at h2
  rw [List.length_append]
  omega

set_option maxRecDepth 100000 in
set_option maxHeartbeats 2000000 in
theorem make_at (v1 v2 : Value) (l t : List Item) (w : World) (hl : l.length ≤ 24) (ht : t.length ≤ 24) (h1 : ItemsAt w v1 l) (h2 : ItemsAt w v2 t) :
    Calls Tryz.prog 53 #[v1, v2] w fun e w' => ∃ v, e = .returned v ∧ w'.ownsRow w.heap.size 157 10 v (mk l t).length (stsCells (mk l t)) ∧ Below w.heap.size w w' := by
  have hnot : ∀ (x : Bool) (w : World), (Op.unary .not (.bool x)).run Tryz.prog w = .ok (.bool (!x)) w := fun _ _ => rfl
  have hsp := split_at v1 v2 l t w hl ht h1 h2
  have hmk : mk l t = dn (spl t (sortTo l l.length)).2 5 ++ ups (spl t (sortTo l l.length)).1 (sortTo t t.length) := rfl
  have h3 := spl_len t (sortTo l l.length) (sortTo l l.length).length (Nat.le_refl _)
  rw [List.take_of_length_le (Nat.le_refl _), sortTo_length l _ (Nat.le_refl _)] at h3
  rw [hmk]
  obtain ⟨m, hm⟩ : ∃ m, m = sortTo t t.length := ⟨_, rfl⟩
  have hml : m.length = t.length := by rw [hm]; exact sortTo_length t _ (Nat.le_refl _)
  have hlm : m.length ≤ 24 := by omega
  have hord : ∀ wx, ItemsAt wx v2 t → Calls Tryz.prog 65 #[v2] wx fun e w' => e = .returned (.slice (some ⟨wx.heap.size, 0, none⟩) m.length m.length) ∧ ItemsIn w' wx.heap.size m ∧ Below wx.heap.size wx w' := by
    intro wx hx
    rw [hml, hm]
    exact inOrder_at v2 t wx ht hx
  rw [← hm]
  generalize spl t (sortTo l l.length) = P at *
  obtain ⟨st, gn⟩ := P
  simp only at h3 hsp ⊢
  have hgn : gn.length ≤ 24 := by omega
  have hst : st.length ≤ 24 := by omega
  have Hsp := hide hsp
  have Hord := hide hord
  obtain ⟨a1, c1, rfl⟩ := slice_of_items h1
  obtain ⟨a2, c2, rfl⟩ := slice_of_items h2
  clear hsp hord hm hml hmk h3
  obtain ⟨i0, hi, hz0, hz1, hz2⟩ := info_parts Tryz.infoStep
  go_enter Tryz.func53, Tryz.ntmps53
  go_wp2_with fail
  refine (unhide Hsp).mono ?_
  rintro e w1 ⟨u1, u2, rfl, hs1, hs2, hb1⟩
  obtain ⟨a3, c3, rfl⟩ := slice_of_items hs1
  obtain ⟨a4, c4, rfl⟩ := slice_of_items hs2
  have h21 := h2.below hb1 (Nat.le_refl _)
  have hls := hb1.size
  clear Hsp h1 h2
  go_wp2
  go_loopw [7, 8] (fun tv kd wr => ∃ c : Nat, c ≤ 5 ∧ kd = .int .i64 (4 - (c : Int)) ∧ wr.ownsRow w1.heap.size 157 10 tv (dn gn c).length (stsCells (dn gn c)) ∧ Below w1.heap.size w1 wr) (fun _ kd _ => (intOf kd + 1).toNat)
  case atStart => exact ⟨0, by omega, rfl, World.ownsRow_nil _ _ _ _, Below.refl _ _⟩
  case round =>
    obtain ⟨c, hc, rfl, hown, hbe⟩ := hrel
    obtain ⟨b1, d1, rfl⟩ := slice_of_owns hown
    have hsz := hbe.size
    have hdl := dn_le gn c
    by_cases hlt : c < 5
    · have hge : (0 : Int) ≤ 4 - (c : Int) := by omega
      have hdec : decide ((c : Int) ≤ 4) = true := by simp; omega
      go_wp2
      go_loopw [7, 9] (fun tv i wr => ∃ k : Nat, k ≤ gn.length ∧ i = .int .i64 k ∧ wr.ownsRow w1.heap.size 157 10 tv (dn gn c ++ outs (gn.take k) c).length (stsCells (dn gn c ++ outs (gn.take k) c)) ∧ Below w1.heap.size w1 wr) (fun _ i _ => gn.length - (intOf i).toNat)
      case atStart => exact ⟨0, Nat.zero_le _, rfl, by simpa [outs] using hown, hbe⟩
      case round =>
        obtain ⟨k, hk, rfl, hown2, hbe2⟩ := hrel
        obtain ⟨b2, d2, rfl⟩ := slice_of_owns hown2
        have hsz2 := hbe2.size
        have hol := outs_len (gn.take k) c
        by_cases hlt2 : k < gn.length
        · obtain ⟨x, hx⟩ : ∃ x, x = gn[k] := ⟨_, rfl⟩
          rcases hs2 with ⟨_, h0⟩ | ⟨g, cap, hve, _, hit⟩
          · rw [h0] at hlt2; simp at hlt2
          have hix := (hit.2 k hlt2).below hbe2 hit.1
          rw [← hx] at hix
          obtain ⟨q0, q1, q2, q3, q4, q5, q6, q7, q8⟩ := hix
          have hlt2' : (k : Int) < (gn.length : Int) := by omega
          have hstep := outs_take gn c k hlt2
          rw [← hx] at hstep
          have hae : a4 = some ⟨g, 0, none⟩ := by injection hve
          subst hae
          have hlen : (dn gn c ++ outs (gn.take k) c).length ≤ 48 := by simp at hol ⊢; omega
          clear hx hve hol
          generalize hD : dn gn c ++ outs (gn.take k) c = D at *
          have HD := hide hD
          clear hD
          by_cases he : (x.kind : Int) = 4 - (c : Int)
          · rw [if_pos he] at hstep
            have hstep2 : dn gn c ++ outs (gn.take (k + 1)) c = D ++ [(false, x)] := by rw [hstep, ← List.append_assoc, unhide HD]
            have Hst := hide hstep2
            have he' : ((x.kind : Int) == 4 - (c : Int)) = true := by rw [beq_iff_eq]; exact he
            clear hstep hstep2 he
            go_wp2_with (at_builtin; refine wpList_append_own _ rfl _ _ 77 rfl w1.heap.size 157 i0 (.agg zStep) 10 112 Tryz.underlying77 hi hz0 hz1 hz2 rfl (by decide) (.slice b2 D.length d2) D.length (stsCells D) ?hs ?c0 ⟨wr.heap.size, 0, none⟩ 1 1 (stCells false x).toList ?hx ?hl ?c1 (step_oneCell _ _) ?c3 ?c4 ?c5 ?_)
            case hs => rfl
            case c0 => exact hown2.alloc _
            case hx => rfl
            case hl => rfl
            case c1 => exact cells_new _ _ _ _ rfl
            case c3 => unfold maxLen; omega
            case c4 => omega
            case c5 => simp; omega
            intro v' w3 hown3 hgrow _
            have hbe3 : Below w1.heap.size w1 w3 := (hbe2.alloc hsz2 _).grown hgrow (by simp; omega) (fun k e => (hown2.lt k e).1)
            clear hgrow q0 q1 q2 q3 q4 q5 q6 q7 q8
            go_wp2
            go_roundw
            case rel => exact ⟨k + 1, by omega, by go_num, by rw [unhide Hst, stsCells_snoc, List.length_append]; exact hown3, hbe3⟩
            case measure => simp [intOf]; omega
          · rw [if_neg he] at hstep
            have hstep2 : dn gn c ++ outs (gn.take (k + 1)) c = D := by rw [hstep, unhide HD]
            have Hst := hide hstep2
            have he' : ((x.kind : Int) == 4 - (c : Int)) = false := by rw [beq_eq_false_iff_ne]; exact he
            clear hstep hstep2 he
            go_wp2
            go_roundw
            case rel => exact ⟨k + 1, by omega, by go_num, by rw [unhide Hst]; exact hown2, hbe2⟩
            case measure => simp [intOf]; omega
        · have hall : gn.take k = gn := List.take_of_length_le (by omega)
          rw [hall] at hown2 ⊢
          have hdn : dn gn c ++ outs gn c = dn gn (c + 1) := rfl
          rw [hdn] at hown2 ⊢
          clear hall hdn
          go_wp2
          go_roundw
          case rel => exact ⟨c + 1, by omega, by go_num, hown2, hbe2⟩
          case measure => simp [intOf]; omega
    · have hc5 : c = 5 := by omega
      subst hc5
      have h21w := h21.below hbe (Nat.le_refl _)
      go_wp2_with fail
      refine (unhide Hord _ h21w).mono ?_
      rintro e w2 ⟨rfl, hit, hb2⟩
      have hl2 := hb2.size
      have hown2 := owns_later hown hb2
      have hbe2 : Below w1.heap.size w1 w2 := hbe.trans (hb2.mono hsz)
      have hne0 : (Value.slice b1 (dn gn 5).length d1).ownBlock ≠ some wr.heap.size := fun e => by have := (hown.lt _ e).2; omega
      obtain ⟨wz, hwz⟩ : ∃ wz, wz = wr.heap.size := ⟨_, rfl⟩
      rw [← hwz] at hit hne0 ⊢
      have hwz2 : w1.heap.size ≤ wz := by omega
      have hwz3 : wz ≤ w2.heap.size := by omega
      clear hwz hown hbe hb2 hl2 hsz h21w h21 hs2
      generalize hD : dn gn 5 = D at *
      have HD := hide hD
      clear hD
      go_wp2
      go_loopw [7, 11] (fun tv i wr => ∃ k : Nat, k ≤ m.length ∧ i = .int .i64 k ∧ wr.ownsRow w1.heap.size 157 10 tv (D ++ ups st (m.take k)).length (stsCells (D ++ ups st (m.take k))) ∧ tv.ownBlock ≠ some wz ∧ ItemsIn wr wz m ∧ Below w1.heap.size w1 wr) (fun _ i _ => m.length - (intOf i).toNat)
      case atStart => exact ⟨0, Nat.zero_le _, rfl, by simpa [ups] using hown2, hne0, hit, hbe2⟩
      case round =>
        obtain ⟨k, hk, rfl, hown3, hne3, hit3, hbe3⟩ := hrel
        obtain ⟨b3, d3, rfl⟩ := slice_of_owns hown3
        have hsz3 := hbe3.size
        have hul := ups_len st (m.take k)
        by_cases hlt3 : k < m.length
        · obtain ⟨x, hx⟩ : ∃ x, x = m[k] := ⟨_, rfl⟩
          have hix := hit3.2 k hlt3
          rw [← hx] at hix
          have hix' := hix
          obtain ⟨q0, q1, q2, q3, q4, q5, q6, q7, q8⟩ := hix'
          have hlt3' : (k : Int) < (m.length : Int) := by omega
          have hstep := ups_take st m k hlt3
          rw [← hx] at hstep
          have hlen : (D ++ ups st (m.take k)).length ≤ 48 := by simp at hul ⊢; omega
          have hho := holds_at _ st x wr hst (hs1.below hbe3 (Nat.le_refl _))
          have hlz := hit3.1
          clear hx hul
          generalize hE : D ++ ups st (m.take k) = E at *
          have HE := hide hE
          clear hE
          cases hhd : holdsB st x.text with
          | true =>
            rw [hhd] at hstep hho
            rw [if_pos rfl] at hstep
            have hstep2 : D ++ ups st (m.take (k + 1)) = E := by rw [hstep, unhide HE]
            have Hst := hide hstep2
            have Hho := hide hho
            clear hstep hstep2 hho hhd
            go_wp2_with fail
            refine (unhide Hho).mono ?_
            rintro e w4 ⟨rfl, hb4⟩
            have hown4 := owns_later hown3 hb4
            have hit4 := hit3.below hb4 hlz
            have hbe4 : Below w1.heap.size w1 w4 := hbe3.trans (hb4.mono hsz3)
            clear q0 q1 q2 q3 q4 q5 q6 q7 q8
            go_wp2
            go_roundw
            case rel => exact ⟨k + 1, by omega, by go_num, by rw [unhide Hst]; exact hown4, hne3, hit4, hbe4⟩
            case measure => simp [intOf]; omega
          | false =>
            rw [hhd] at hstep hho
            rw [if_neg (by simp)] at hstep
            have hstep2 : D ++ ups st (m.take (k + 1)) = E ++ [(true, x)] := by rw [hstep, ← List.append_assoc, unhide HE]
            have Hst := hide hstep2
            have Hho := hide hho
            clear hstep hstep2 hho hhd
            go_wp2_with fail
            refine (unhide Hho).mono ?_
            rintro e w4 ⟨rfl, hb4⟩
            have hown4 := owns_later hown3 hb4
            have hit4 := hit3.below hb4 hlz
            have hbe4 : Below w1.heap.size w1 w4 := hbe3.trans (hb4.mono hsz3)
            have hl4 := hb4.size
            clear q0 q1 q2 q3 q4 q5 q6 q7 q8
            obtain ⟨q0, q1, q2, q3, q4, q5, q6, q7, q8⟩ := hix.below hb4 hlz
            go_wp2_with (at_builtin; refine wpList_append_lies _ rfl _ _ 77 rfl w1.heap.size 157 i0 (.agg zStep) 10 112 Tryz.underlying77 hi hz0 hz1 hz2 rfl (by decide) (.slice b3 E.length d3) E.length (stsCells E) ?hs ?c0 ⟨w4.heap.size, 0, none⟩ 1 1 (stCells true x).toList ?hx ?hl ?c1 (step_oneCell _ _) (by decide) ?c3 ?c4 ?c5 _ rfl ?_)
            case hs => rfl
            case c0 => exact hown4.alloc _
            case hx => rfl
            case hl => rfl
            case c1 => exact cells_new _ _ _ _ rfl
            case c3 => unfold maxLen; omega
            case c4 => omega
            case c5 => simp; omega
            intro g cap w5 hown5 hgrow hat hglt
            have hit5 : ItemsIn w5 wz m := (hit4.below (below_new _ _) hit4.1).kept hgrow hne3
            have hne5 : (Value.slice (some ⟨g, 0, none⟩) (E.length + 1) cap).ownBlock ≠ some wz := by
              intro e
              have e' : g = wz := by simpa [Value.ownBlock] using e
              rcases hat with h | h
              · exact hne3 (by rw [h, e'])
              · have := hit4.1
                omega
            have hbe5 : Below w1.heap.size w1 w5 := (hbe4.alloc (by omega) _).grown hgrow (by simp; omega) (fun k e => (hown3.lt k e).1)
            clear hgrow q0 q1 q2 q3 q4 q5 q6 q7 q8
            go_wp2
            go_roundw
            case rel => exact ⟨k + 1, by omega, by go_num, by rw [unhide Hst, stsCells_snoc, List.length_append]; exact hown5, hne5, hit5, hbe5⟩
            case measure => simp [intOf]; omega
        · have hall : m.take k = m := List.take_of_length_le (by omega)
          rw [hall] at hown3 ⊢
          clear hall
          go_wp2
          go_ret
          refine ⟨_, rfl, ?_, hb1.trans (hbe3.mono hls)⟩
          rw [unhide HD]
          exact owns_mono hown3 hls

end Go.Proofs.YtdlhgbhaeedbdabGreat
