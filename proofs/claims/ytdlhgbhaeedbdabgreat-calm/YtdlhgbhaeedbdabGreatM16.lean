/- Ho3, Ho4, Ho5. -/
import Derived.Test.YtdlhgbhaeedbdabGreatM15

/- 'Bank.Remove'. -/
namespace Go.Proofs.YtdlhgbhaeedbdabGreat
open Go.RowKit

/-- The drives that stay. -/
def remB (B : List Bk) (n : ByteArray) : List Bk := B.filter fun q => decide (¬ q.d.name = n)

theorem remB_d (B : List Bk) (n : ByteArray) : (remB B n).map Bk.d = remD (B.map Bk.d) n := by
  simp [remB, remD, List.filter_map, Function.comp_def]

/-- What Remove leaves. -/
def RemEnd (r b : Nat) (v : Value) (B : List Bk) (n : ByteArray) (w : World) (e : Ending) (w' : World) : Prop :=
  e = .returned (.tuple #[]) ∧ (∃ v', w'.cell? ⟨r, 2, none⟩ = some v' ∧ BankAt w' (b + 1) v' (remB B n) ∧ ∀ out : Nat → Prop, (∀ k, out k → k < w.heap.size) → BOut out v B → BOut out v' (remB B n)) ∧ TK KB w w' ∧ Below (b + 1) w w' ∧ RCell r (fun o => o ≠ 2) w w' ∧
    ∀ k, k < w.heap.size → k ≠ r → w'.heap[k]? = w.heap[k]?

/-- The pointers of a bank, cell by cell. -/
theorem BankAt.cell {w : World} {base : Nat} {a : Option Addr} {n cap : Nat} {B : List Bk} (h : BankAt w base (.slice a n cap) B) (hB : 0 < B.length) : ∃ g, a = some ⟨g, 0, none⟩ ∧ n = B.length ∧ B.length ≤ cap ∧ g < w.heap.size ∧ (∃ cs fr, w.heap[g]? = some (Obj.cells cs 126 fr)) ∧ ∀ i (hi : i < B.length), w.cell? ⟨g, i, none⟩ = some (B[i]).ptr := by
  obtain ⟨hl, ⟨e, h0⟩ | ⟨g, cap', cur, e, hb, hg, hc, _, _, _⟩⟩ := h.row
  · omega
  · simp only [Value.slice.injEq] at e
    obtain ⟨rfl, rfl, rfl⟩ := e
    refine ⟨g, rfl, rfl, hc, (Array.getElem?_eq_some_iff.1 hg).1, ⟨_, _, hg⟩, fun i hi => ?_⟩
    have := h.row.cells (g := g) rfl i (B[i]).ptr (by simp [hi])
    rwa [addr_add] at this

/-- Where the drives lie is told by memory. -/
theorem BankAt.inj {w : World} {base base' : Nat} {v : Value} {B B' : List Bk} (h : BankAt w base v B) (h' : BankAt w base' v B') : B'.map Bk.pv = B.map Bk.pv := by
  obtain ⟨a, cap, rfl⟩ := slice_of_owns h.row
  have hl : B'.length = B.length := by
    obtain ⟨a', cap', e⟩ := slice_of_owns h'.row
    simp only [Value.slice.injEq] at e
    exact e.2.1.symm
  by_cases h0 : 0 < B.length
  · obtain ⟨g, rfl, _, _, _, _, hc⟩ := h.cell h0
    obtain ⟨g', e, _, _, _, _, hc'⟩ := h'.cell (by omega)
    simp only [Option.some.injEq, Addr.mk.injEq, and_true] at e
    subst e
    apply List.ext_getElem
    · simp [hl]
    · intro i h1 h2
      simp only [List.length_map] at h1 h2
      have e1 := (hc i h2).symm.trans (hc' i h1)
      simp only [Bk.ptr, Option.some.injEq, Value.pointer.injEq, Addr.mk.injEq, and_true] at e1
      have b1 := (h.drv _ (List.getElem_mem h2)).blk
      have b2 := (h'.drv _ (List.getElem_mem h1)).blk
      rw [← e1, b1] at b2
      simp only [drvCells, Option.some.injEq, Obj.cells.injEq, and_true] at b2
      have e2 : B[i].v = B'[i].v := by
        have := congrArg (fun a => a[1]?) b2
        simpa using this
      simp only [List.getElem_map, Bk.pv, Prod.mk.injEq]
      exact ⟨e1.symm, e2.symm⟩
  · have e1 : B = [] := List.length_eq_zero_iff.1 (by omega)
    have e2 : B' = [] := List.length_eq_zero_iff.1 (by omega)
    rw [e1, e2]

theorem BankAt.removed {w w1 : World} {r b : Nat} {v v' : Value} {B : List Bk} {n : ByteArray} (hr : b < r) (hty : ∃ cs fr, w.heap[r]? = some (Obj.cells cs 79 fr)) (hc : w.cell? ⟨r, 2, none⟩ = some v) (h : BankAt w (b + 1) v B)
    (hb1 : Below w.heap.size w w1) (hn : w1.ownsRow w.heap.size 126 1 v' (remB B n).length ((remB B n).map Bk.ptr)) :
    RemEnd r b v B n w (.returned (.tuple #[])) (w1.setCell ⟨r, 2, none⟩ v') := by
  obtain ⟨cs, fr, hty'⟩ := hty
  have hlt : r < w.heap.size := (Array.getElem?_eq_some_iff.1 hty').1
  have hbr : w1.heap[r]? = w.heap[r]? := hb1.block r hlt
  have hts : TK (fun t => t = 79) w1 (w1.setCell ⟨r, 2, none⟩ v') := TK.setCell (T := fun t => t = 79) (hbr.trans hty') rfl v'
  have htk : TK (fun t => t = 79) w (w1.setCell ⟨r, 2, none⟩ v') := (TK.of_below hb1).trans hts
  refine ⟨rfl, ⟨v', World.cell?_setCell_same _ _ _ ((World.cell?_of_block hbr).trans hc), ⟨?_, ?_, ?_⟩, ?_⟩, htk.mono fun _ e => .inl e, (hb1.mono (by omega)).setCell (p := ⟨r, 2, none⟩) (by simp; omega) _, (RCell.of_block hbr).trans (RCell.set (by simp) _), ?_⟩
  · exact owns_mono (hts.row (by decide) hn) (by omega)
  · intro q hq
    exact (h.drv q ((List.mem_filter.1 hq).1)).keep htk (by decide) (by decide)
  · exact h.apart.sublist List.filter_sublist
  · intro out ho hB
    refine ⟨fun k e hk => ?_, fun q hq => hB.2 q (List.mem_filter.1 hq).1⟩
    have h1 := (hn.lt k e).1
    have := ho k hk
    omega
  · intro k hk hkr
    rw [block_set_ne _ hkr]
    exact hb1.block k hk

set_option maxRecDepth 100000 in
set_option maxHeartbeats 400000 in
theorem remove_any (r b : Nat) (n : ByteArray) (v : Value) (B : List Bk) (w : World) (hB : B.length ≤ 1000) (hr : b < r) (hty : ∃ cs fr, w.heap[r]? = some (Obj.cells cs 79 fr)) (hc : w.cell? ⟨r, 2, none⟩ = some v) (hf : w.frozen? ⟨r, 2, none⟩ = false) (h : BankAt w (b + 1) v B) :
    Calls Tryz.prog 138 #[.pointer (some ⟨r, 2, none⟩), .string n] w fun e w' => RemEnd r b v B n w e w' := by
  have hlt : r < w.heap.size := by obtain ⟨cs, fr, e⟩ := hty; exact (Array.getElem?_eq_some_iff.1 e).1
  obtain ⟨j0, hj, hy0, hy1, hy2⟩ := info_parts Tryz.infoPtr
  obtain ⟨a, cap, rfl⟩ := slice_of_owns h.row
  have HH := hide fun w1 v' hb1 hn => BankAt.removed (n := n) (w1 := w1) (v' := v') hr hty hc h hb1 hn
  have Hh := hide h
  clear hty h
  go_enter Tryz.func138, Tryz.ntmps138
  go_wp2
  go_loopw [4, 5] (fun tv i wr => ∃ k : Nat, k ≤ B.length ∧ i = .int .i64 k ∧ wr.ownsRow w.heap.size 126 1 tv (remB (B.take k) n).length ((remB (B.take k) n).map Bk.ptr) ∧ Below w.heap.size w wr) (fun _ i _ => B.length - (intOf i).toNat)
  case atStart => exact ⟨0, Nat.zero_le _, rfl, World.ownsRow_nil _ _ _ _, Below.refl _ _⟩
  case round =>
    obtain ⟨k, hk, rfl, hown, hbe⟩ := hrel
    obtain ⟨ta, tc, rfl⟩ := slice_of_owns hown
    have hc2 : wr.cell? ⟨r, 2, none⟩ = some (.slice a B.length cap) := (hbe.cell (p := ⟨r, 2, none⟩) hlt).trans hc
    have hf2 : wr.frozen? ⟨r, 2, none⟩ = false := (hbe.frozen (p := ⟨r, 2, none⟩) hlt).trans hf
    have hs := hbe.size
    by_cases hlt2 : k < B.length
    · obtain ⟨g, rfl, _, hcap, hg, _, hcell⟩ := (unhide Hh).cell (by omega)
      obtain ⟨q, hq⟩ : ∃ q, q = B[k] := ⟨_, rfl⟩
      have hd := (unhide Hh).drv q (by rw [hq]; exact List.getElem_mem hlt2)
      have d0 : wr.cell? ⟨g, k, none⟩ = some (.pointer (some ⟨q.p, 0, none⟩)) := by rw [hq]; exact (hbe.cell (p := ⟨g, k, none⟩) hg).trans (hcell k hlt2)
      have d1 : wr.cell? ⟨q.p, 0, none⟩ = some (.string q.d.name) := by
        have := (hbe.block q.p hd.lt).trans hd.blk
        simp [World.cell?, this, drvCells]
      have hlt' : (k : Int) < (B.length : Int) := by omega
      have hstep : remB (B.take (k + 1)) n = remB (B.take k) n ++ (if q.d.name = n then [] else [q]) := by
        rw [List.take_succ_eq_append_getElem hlt2, ← hq]
        unfold remB
        rw [List.filter_append]
        congr 1
        by_cases e : q.d.name = n <;> simp [e]
      by_cases he : q.d.name = n
      · rw [if_pos he, List.append_nil] at hstep
        have Hst := hide hstep
        have he' : (q.d.name.toList == n.toList) = true := by rw [he]; simp
        clear hstep he hq hd hcell
        go_wp2
        go_roundw
        case rel => exact ⟨k + 1, by omega, by go_num, by rw [unhide Hst]; exact hown, hbe⟩
        case measure => simp [intOf]; omega
      · rw [if_neg he] at hstep
        have Hst := hide hstep
        have he' : (q.d.name.toList == n.toList) = false := by rw [beq_eq_false_iff_ne]; exact fun e => he (tl_inj e)
        have hlr : (remB (B.take k) n).length ≤ 1000 := Nat.le_trans (List.length_filter_le _ _) (by rw [List.length_take]; omega)
        clear hstep he hq hd hcell
        generalize hT : remB (B.take k) n = T at *
        clear hT
        go_wp2_with (at_builtin; refine wpList_append_own _ rfl _ _ 71 rfl w.heap.size 126 j0 (.pointer none) 1 8 Tryz.underlying71 hj hy0 hy1 hy2 rfl (by decide) (.slice ta T.length tc) T.length (T.map Bk.ptr) ?hs ?c0 ⟨wr.heap.size, 0, none⟩ 1 1 [.pointer (some ⟨q.p, 0, none⟩)] ?hx rfl ?c1 (one_ptr _) ?c3 ?c4 ?c5 ?_)
        case c0 => exact hown.alloc _
        case c3 => unfold maxLen; omega
        case c4 => omega
        case c5 => first | omega | (simp; omega)
        intro v' w2 hown' hgrow _
        have hba := hbe.alloc hs (.cells #[.pointer (some ⟨q.p, 0, none⟩)] 126)
        have hb2 : Below w.heap.size w w2 := hba.grown hgrow (by have := hba.size; simp; omega) (fun k e => (hown.lt k e).1)
        clear hgrow
        go_wp2
        go_roundw
        case rel => exact ⟨k + 1, by omega, by go_num, by rw [unhide Hst, List.length_append, List.map_append]; exact hown', hb2⟩
        case measure => simp [intOf]; omega
    · have hkl : k = B.length := by omega
      have hall : B.take k = B := List.take_of_length_le (by omega)
      rw [hall] at hown ⊢
      have HE := hide (unhide HH _ _ hbe hown)
      have hnl : ¬ (k : Int) < (B.length : Int) := by omega
      clear hall hkl hown HH
      go_wp2
      go_end0
      exact unhide HE

end Go.Proofs.YtdlhgbhaeedbdabGreat

/- Sessions in memory; 'Table.Tell', 'Table.Of', 'Rack.endSessions', where no session is meant. -/
namespace Go.Proofs.YtdlhgbhaeedbdabGreat
open Go.RowKit

def sesCells1 (s : Ses) : List Value := [.int .i64 s.number, .string s.target, .string s.host, .bool s.news]
def sesCells (S : List Ses) : List Value := S.flatMap sesCells1

/-- A session lies in block g from offset o on. -/
structure SesAt (w : World) (g o : Nat) (s : Ses) : Prop where
  c0 : w.cell? ⟨g, o, none⟩ = some (.int .i64 s.number)
  c1 : w.cell? ⟨g, o + 1, none⟩ = some (.string s.target)
  c2 : w.cell? ⟨g, o + 2, none⟩ = some (.string s.host)
  c3 : w.cell? ⟨g, o + 3, none⟩ = some (.bool s.news)

theorem sesCells_get (S : List Ses) (i : Nat) (h : i < S.length) (c : Nat) (hc : c < 4) : (sesCells S)[i * 4 + c]? = (sesCells1 S[i])[c]? := by
  induction S generalizing i with
  | nil => simp at h
  | cons a l ih =>
    simp only [sesCells, List.flatMap_cons]
    have h8 : (sesCells1 a).length = 4 := by simp [sesCells1]
    match i with
    | 0 => rw [List.getElem?_append_left (by omega)]; simp
    | i + 1 =>
      rw [List.getElem?_append_right (by omega), h8, show (i + 1) * 4 + c - 4 = i * 4 + c from by omega]
      exact ih i (by simpa using h)

/-- The sessions S, in the row v. -/
def SesRow (w : World) (base : Nat) (v : Value) (S : List Ses) : Prop := w.ownsRow base 113 4 v S.length (sesCells S)

theorem SesRow.cells {w : World} {base : Nat} {v : Value} {S : List Ses} (h : SesRow w base v S) : (v = .slice none 0 0 ∧ S = []) ∨ ∃ g cap, v = .slice (some ⟨g, 0, none⟩) S.length cap ∧ S.length ≤ cap ∧ base ≤ g ∧ g < w.heap.size ∧ (∃ cs, w.heap[g]? = some (Obj.cells cs 113 (0, 0))) ∧ ∀ i (hi : i < S.length), SesAt w g (i * 4) S[i] := by
  have hh := h
  obtain ⟨_, ⟨rfl, h0⟩ | ⟨g, cap, cur, rfl, hb, hg, hc, _, _, _⟩⟩ := hh
  · exact Or.inl ⟨rfl, List.length_eq_zero_iff.1 h0⟩
  · refine Or.inr ⟨g, cap, rfl, hc, hb, (World.ownsRow.lt h g rfl).2, ⟨_, hg⟩, fun i hi => ?_⟩
    have hcl := World.ownsRow.cells h (g := g) rfl
    have key : ∀ c, c < 4 → ∀ u, (sesCells1 S[i])[c]? = some u → w.cell? ⟨g, i * 4 + c, none⟩ = some u := by
      intro c hc u hu
      have := hcl (i * 4 + c) u (by rw [sesCells_get S i hi c hc]; exact hu)
      rwa [addr_add] at this
    exact ⟨key 0 (by omega) _ rfl, key 1 (by omega) _ rfl, key 2 (by omega) _ rfl, key 3 (by omega) _ rfl⟩

theorem ofB_cases {t h : ByteArray} {s : Ses} (e : ofB t h s = false) : (s.target.toList == t.toList) = false ∨ ((s.target.toList == t.toList) = true ∧ (s.host.toList == h.toList) = false) := by
  simp only [ofB, decide_eq_false_iff_not] at e
  by_cases h1 : s.target = t
  · right
    refine ⟨by rw [h1]; simp, ?_⟩
    rw [beq_eq_false_iff_ne]
    exact fun e2 => e ⟨h1, tl_inj e2⟩
  · left
    rw [beq_eq_false_iff_ne]
    exact fun e2 => h1 (tl_inj e2)

set_option maxRecDepth 100000 in
set_option maxHeartbeats 400000 in
theorem tell_none (r base : Nat) (t h : ByteArray) (v : Value) (S : List Ses) (w : World) (hS : S.length ≤ 1000) (hc : w.cell? ⟨r, 3, none⟩ = some v) (hrow : SesRow w base v S) (hno : ∀ s ∈ S, ofB t h s = false) :
    Calls Tryz.prog 140 #[.pointer (some ⟨r, 3, none⟩), .string t, .string h] w fun e w' => e = .returned (.tuple #[]) ∧ w' = w := by
  rcases hrow.cells with ⟨rfl, rfl⟩ | ⟨g, cap, rfl, hcap, _, hg, _, hit⟩
  · clear hrow
    go_enter Tryz.func140, Tryz.ntmps140
    go_wp2
    refine wp_loop_rounds 1 ?_
    rw [rounds_succ]
    go_wp2
    go_end0
    exact ⟨rfl, rfl⟩
  · have Hno := hide hno
    clear hno hrow
    go_enter Tryz.func140, Tryz.ntmps140
    go_wp2
    go_loopw [6] (fun i wr => ∃ k : Nat, k ≤ S.length ∧ i = .int .i64 k ∧ wr = w) (fun i _ => S.length - (intOf i).toNat)
    case atStart => exact ⟨0, Nat.zero_le _, rfl, rfl⟩
    case round =>
      obtain ⟨k, hk, rfl, rfl⟩ := hrel
      by_cases hlt : k < S.length
      · obtain ⟨s, hs⟩ : ∃ s, s = S[k] := ⟨_, rfl⟩
        have hi := hit k hlt
        rw [← hs] at hi
        have hof := unhide Hno s (by rw [hs]; exact List.getElem_mem hlt)
        obtain ⟨c0, c1, c2, c3⟩ := hi
        have hlt' : (k : Int) < (S.length : Int) := by omega
        clear hs
        rcases ofB_cases hof with h1 | ⟨h1, h2⟩
        all_goals
          clear hof
          go_wp2
          go_roundw
          case rel => exact ⟨k + 1, by omega, by go_num, by first | rfl | trivial⟩
          case measure => simp [intOf]; omega
      · have hnl : ¬ (k : Int) < (S.length : Int) := by omega
        go_wp2
        go_end0
        exact ⟨rfl, rfl⟩

set_option maxRecDepth 100000 in
set_option maxHeartbeats 400000 in
theorem of_none (r base : Nat) (t h : ByteArray) (v : Value) (S : List Ses) (w : World) (hS : S.length ≤ 1000) (hc : w.cell? ⟨r, 3, none⟩ = some v) (hrow : SesRow w base v S) (hno : ∀ s ∈ S, ofB t h s = false) :
    Calls Tryz.prog 167 #[.pointer (some ⟨r, 3, none⟩), .string t, .string h] w fun e w' => e = .returned (.slice none 0 0) ∧ w' = w := by
  rcases hrow.cells with ⟨rfl, rfl⟩ | ⟨g, cap, rfl, hcap, _, hg, _, hit⟩
  · clear hrow
    go_enter Tryz.func167, Tryz.ntmps167
    go_wp2
    refine wp_loop_rounds 1 ?_
    rw [rounds_succ]
    go_wp2
    go_ret
    exact ⟨rfl, rfl⟩
  · have Hno := hide hno
    clear hno hrow
    go_enter Tryz.func167, Tryz.ntmps167
    go_wp2
    go_loopw [7, 8] (fun u i wr => ∃ k : Nat, k ≤ S.length ∧ u = .slice none 0 0 ∧ i = .int .i64 k ∧ wr = w) (fun _ i _ => S.length - (intOf i).toNat)
    case atStart => exact ⟨0, Nat.zero_le _, rfl, rfl, rfl⟩
    case round =>
      obtain ⟨k, hk, rfl, rfl, rfl⟩ := hrel
      by_cases hlt : k < S.length
      · obtain ⟨s, hs⟩ : ∃ s, s = S[k] := ⟨_, rfl⟩
        have hi := hit k hlt
        rw [← hs] at hi
        have hof := unhide Hno s (by rw [hs]; exact List.getElem_mem hlt)
        obtain ⟨c0, c1, c2, c3⟩ := hi
        have hlt' : (k : Int) < (S.length : Int) := by omega
        clear hs
        rcases ofB_cases hof with h1 | ⟨h1, h2⟩
        all_goals
          clear hof
          go_wp2
          go_roundw
          case rel => exact ⟨k + 1, by omega, rfl, by go_num, by first | rfl | trivial⟩
          case measure => simp [intOf]; omega
      · have hnl : ¬ (k : Int) < (S.length : Int) := by omega
        go_wp2
        go_ret
        exact ⟨rfl, rfl⟩

set_option maxRecDepth 100000 in
set_option maxHeartbeats 400000 in
theorem ends_none (r base : Nat) (t h : ByteArray) (v : Value) (S : List Ses) (w : World) (hS : S.length ≤ 1000) (hc : w.cell? ⟨r, 3, none⟩ = some v) (hrow : SesRow w base v S) (hno : ∀ s ∈ S, ofB t h s = false) :
    Calls Tryz.prog 139 #[.pointer (some ⟨r, 0, none⟩), .string t, .string h] w fun e w' => e = .returned (.tuple #[]) ∧ w' = w := by
  have HO := hide (of_none r base t h v S w hS hc hrow hno)
  clear hrow hno hc
  go_enter Tryz.func139, Tryz.ntmps139
  go_wp2_with fail
  refine (unhide HO).mono ?_
  rintro e w1 ⟨rfl, rfl⟩
  go_wp2
  refine wp_loop_rounds 1 ?_
  rw [rounds_succ]
  go_wp2
  go_end0
  exact ⟨rfl, rfl⟩

end Go.Proofs.YtdlhgbhaeedbdabGreat

/- A drive's calls: 'taken', 'has', 'Read', 'Write', 'Reserve', 'Release'. -/
namespace Go.Proofs.YtdlhgbhaeedbdabGreat
open Go.RowKit

def takenB (d : Drv) (s : Int) : Bool := decide (d.holder ≠ -1) && decide (d.holder ≠ s)
def hasB (d : Drv) (k : Int) : Bool := decide (0 ≤ k) && decide (k < (d.blocks.length : Int))
def badB (x : Int) : Bool := decide (x < 0) || decide (255 < x)

/-- What Read tells of a drive. -/
def rdD (d : Drv) (s k : Int) : Int × Int := if takenB d s then (0, 16) else if hasB d k then (d.blocks.getD k.toNat 0, 0) else (0, 17)
/-- What Write tells of a drive, and what it leaves. -/
def wrD (d : Drv) (s k x : Int) : Int := if takenB d s then 16 else if hasB d k then (if badB x then 6 else 0) else 17
def wrN (d : Drv) (s k x : Int) : Drv := if wrD d s k x = 0 then { d with blocks := d.blocks.set k.toNat x } else d
def rsD (d : Drv) (s : Int) : Int := if takenB d s then 16 else 0
def rsN (d : Drv) (s : Int) : Drv := if takenB d s then d else { d with holder := s }
def rlN (d : Drv) (s : Int) : Drv := if takenB d s then d else { d with holder := -1 }

theorem DrvAt.cells {w : World} {base : Nat} {q : Bk} (h : DrvAt w base q) : w.cell? ⟨q.p, 0, none⟩ = some (.string q.d.name) ∧ w.cell? ⟨q.p, 1, none⟩ = some q.v ∧ w.cell? ⟨q.p, 2, none⟩ = some (.int .i64 q.d.holder) ∧ ∀ o, w.frozen? ⟨q.p, o, none⟩ = false := by
  have hb := h.blk
  refine ⟨?_, ?_, ?_, fun o => ?_⟩
  · simp [World.cell?, hb, drvCells]
  · simp [World.cell?, hb, drvCells]
  · simp [World.cell?, hb, drvCells]
  · simp [World.frozen?, hb]

/-- A block of a drive. -/
theorem DrvAt.block {w : World} {base : Nat} {q : Bk} (h : DrvAt w base q) {k : Nat} (hk : k < q.d.blocks.length) : ∃ g cap, q.v = .slice (some ⟨g, 0, none⟩) q.d.blocks.length cap ∧ q.d.blocks.length ≤ cap ∧ base ≤ g ∧ g < w.heap.size ∧ w.cell? ⟨g, k, none⟩ = some (.int .i64 (q.d.blocks[k])) ∧ w.frozen? ⟨g, k, none⟩ = false := by
  obtain ⟨_, ⟨_, h0⟩ | ⟨g, cap, cur, e, hb, hg, hc, _, _, _⟩⟩ := id h.row
  · omega
  · have := h.row.cells (g := g) (by rw [e]; rfl) k (.int .i64 (q.d.blocks[k])) (by simp [hk])
    rw [addr_add] at this
    exact ⟨g, cap, e, hc, hb, (Array.getElem?_eq_some_iff.1 hg).1, this, by simp [World.frozen?, hg]⟩

set_option maxHeartbeats 400000 in
theorem taken_any (p : Nat) (d : Drv) (s : Int) (w : World) (h : w.cell? ⟨p, 2, none⟩ = some (.int .i64 d.holder)) :
    Calls Tryz.prog 107 #[.pointer (some ⟨p, 0, none⟩), .int .i64 s] w fun e w' => e = .returned (.bool (takenB d s)) ∧ w' = w := by
  unfold takenB
  by_cases h1 : d.holder = -1
  · have h1' : (d.holder != -1) = false := by simp [h1]
    have hf : (decide (d.holder ≠ -1) && decide (d.holder ≠ s)) = false := by simp [h1]
    rw [hf]
    clear h1 hf
    go_enter Tryz.func107, Tryz.ntmps107
    go_wp2
    go_ret
    exact ⟨rfl, rfl⟩
  · have h1' : (d.holder != -1) = true := by simp [h1]
    have hf : (decide (d.holder ≠ -1) && decide (d.holder ≠ s)) = (d.holder != s) := by rw [Bool.eq_iff_iff]; simp [h1]
    rw [hf]
    clear h1 hf
    go_enter Tryz.func107, Tryz.ntmps107
    go_wp2
    go_ret
    exact ⟨rfl, rfl⟩

set_option maxHeartbeats 400000 in
theorem dhas_any (p : Nat) (d : Drv) (k : Int) (a : Option Addr) (cap : Nat) (w : World) (h : w.cell? ⟨p, 1, none⟩ = some (.slice a d.blocks.length cap)) :
    Calls Tryz.prog 108 #[.pointer (some ⟨p, 0, none⟩), .int .i64 k] w fun e w' => e = .returned (.bool (hasB d k)) ∧ w' = w := by
  unfold hasB
  by_cases h1 : 0 ≤ k
  · have hf : (decide (0 ≤ k) && decide (k < (d.blocks.length : Int))) = decide (k < (d.blocks.length : Int)) := by simp [h1]
    rw [hf]
    clear hf
    go_enter Tryz.func108, Tryz.ntmps108
    go_wp2
    all_goals
      go_ret
      exact ⟨rfl, rfl⟩
  · have hf : (decide (0 ≤ k) && decide (k < (d.blocks.length : Int))) = false := by simp [h1]
    rw [hf]
    clear hf
    go_enter Tryz.func108, Tryz.ntmps108
    go_wp2
    go_ret
    exact ⟨rfl, rfl⟩

set_option maxHeartbeats 400000 in
theorem dread_any (base : Nat) (q : Bk) (s k : Int) (w : World) (h : DrvAt w base q) :
    Calls Tryz.prog 67 #[.pointer (some ⟨q.p, 0, none⟩), .int .i64 s, .int .i64 k] w fun e w' => e = .returned (.tuple #[.int .i64 (rdD q.d s k).1, .int .i64 (rdD q.d s k).2]) ∧ w' = w := by
  obtain ⟨c0, c1, c2, fz⟩ := h.cells
  obtain ⟨a, cap, e⟩ := slice_of_owns h.row
  have HT := hide (taken_any q.p q.d s w c2)
  rw [e] at c1
  have HH := hide (dhas_any q.p q.d k a cap w c1)
  have hnot : ∀ (x : Bool) (w : World), (Op.unary .not (.bool x)).run Tryz.prog w = .ok (.bool (!x)) w := fun _ _ => rfl
  unfold rdD
  cases ht : takenB q.d s with
  | true =>
    rw [ht] at HT
    simp only [if_true]
    go_enter Tryz.func67, Tryz.ntmps67
    go_wp2_with fail
    refine (unhide HT).mono ?_
    rintro e w1 ⟨rfl, rfl⟩
    go_wp2_with fail
    go_ret2
    exact ⟨rfl, rfl⟩
  | false =>
    rw [ht] at HT
    simp only [Bool.false_eq_true, if_false]
    cases hh : hasB q.d k with
    | false =>
      rw [hh] at HH
      simp only [Bool.false_eq_true, if_false]
      go_enter Tryz.func67, Tryz.ntmps67
      go_wp2_with fail
      refine (unhide HT).mono ?_
      rintro e w1 ⟨rfl, rfl⟩
      go_wp2_with fail
      refine (unhide HH).mono ?_
      rintro e w1 ⟨rfl, rfl⟩
      go_wp2_with fail
      go_ret2
      exact ⟨rfl, rfl⟩
    | true =>
      rw [hh] at HH
      simp only [if_true]
      have hk : 0 ≤ k ∧ k < (q.d.blocks.length : Int) := by simpa [hasB] using hh
      obtain ⟨n, rfl⟩ : ∃ n : Nat, k = n := ⟨k.toNat, by omega⟩
      have hn : n < q.d.blocks.length := by omega
      obtain ⟨g, cap', e', hc, _, hg, hcell, _⟩ := h.block hn
      have hv : q.d.blocks.getD ((n : Int).toNat) 0 = q.d.blocks[n] := by simp [hn]
      rw [hv]
      rw [e] at e'
      simp only [Value.slice.injEq] at e'
      obtain ⟨rfl, _, rfl⟩ := e'
      generalize q.d.blocks[n] = x at *
      have hlt' : (n : Int) < (q.d.blocks.length : Int) := by omega
      clear h hh ht hv hk
      go_enter Tryz.func67, Tryz.ntmps67
      go_wp2_with fail
      refine (unhide HT).mono ?_
      rintro e w1 ⟨rfl, rfl⟩
      go_wp2_with fail
      refine (unhide HH).mono ?_
      rintro e w1 ⟨rfl, rfl⟩
      go_wp2_with fail
      go_ret2
      exact ⟨rfl, rfl⟩

/-- A row whose one cell is written. -/
theorem owns_set {w : World} {base : Nat} {e : TypeId} {g n cap k : Nat} {xs : List Value} (h : w.ownsRow base e 1 (.slice (some ⟨g, 0, none⟩) n cap) n xs) (u : Value) : (w.setCell ⟨g, k, none⟩ u).ownsRow base e 1 (.slice (some ⟨g, 0, none⟩) n cap) n (xs.set k u) := by
  obtain ⟨hl, ⟨e0, _⟩ | ⟨g', cap', cur, e0, hb, hg, hc, hm, hs, ht⟩⟩ := h
  · cases e0
  · simp only [Value.slice.injEq, Option.some.injEq, Addr.mk.injEq] at e0
    obtain ⟨⟨rfl, _⟩, _, rfl⟩ := e0
    refine ⟨by simpa using hl, .inr ⟨g, cap, cur.setIfInBounds k u, rfl, hb, heap_set_same hg u, hc, hm, by simpa using hs, ?_⟩⟩
    rw [Array.toList_setIfInBounds, ← ht, Nat.mul_one, List.take_set]

/-- One drive is another now. -/
theorem BankAt.set {T : TypeId → Prop} {w w' : World} {base : Nat} {v : Value} {B : List Bk} (h : BankAt w base v B) {i : Nat} (hi : i < B.length) {q : Bk} (hk : TK T w w') (h0 : ¬ T 126) (hp : q.p = B[i].p) (hv : q.v = B[i].v) (hq : DrvAt w' base q)
    (ho : ∀ j (hj : j < B.length), j ≠ i → DrvAt w' base B[j]) : BankAt w' base v (B.set i q) := by
  have hptr : (B.set i q).map Bk.ptr = B.map Bk.ptr := by
    rw [List.map_set]
    apply List.ext_getElem (by simp)
    intro n h1 h2
    by_cases e : i = n
    · subst e; simp [Bk.ptr, hp]
    · simp [e]
  refine ⟨?_, ?_, ?_⟩
  · rw [hptr, List.length_set]
    exact hk.row h0 h.row
  · intro x hx
    obtain ⟨j, hj, rfl⟩ := List.getElem_of_mem hx
    rw [List.length_set] at hj
    by_cases e : i = j
    · subst e; simpa using hq
    · simpa [e] using ho j hj (fun e' => e e'.symm)
  · rw [List.pairwise_iff_getElem]
    intro j k hj hk' hjk
    rw [List.length_set] at hj hk'
    have hA := List.pairwise_iff_getElem.1 h.apart j k hj hk' hjk
    unfold DApart at hA ⊢
    by_cases e1 : i = j
    · subst e1
      have e2 : i ≠ k := by omega
      simpa [e2, hp, hv] using hA
    · by_cases e2 : i = k
      · subst e2
        simpa [e1, hp, hv] using hA
      · simpa [e1, e2] using hA

/-- What a call of a drive leaves: its number is n, the drive is d. -/
def DrvEnd (base : Nat) (v : Value) (B : List Bk) (i : Nat) (d : Drv) (n : Int) (w : World) (e : Ending) (w' : World) : Prop :=
  e = .returned (.int .i64 n) ∧ (∃ q : Bk, q.d = d ∧ (∃ hi : i < B.length, q.p = B[i].p ∧ q.v = B[i].v ∧ ∀ k, k < w.heap.size → k ≠ q.p → q.v.ownBlock ≠ some k → w'.heap[k]? = w.heap[k]?) ∧ BankAt w' base v (B.set i q)) ∧ TK (fun t => t = 172 ∨ t = 3) w w' ∧ Below base w w'

theorem DrvEnd.same {base : Nat} {v : Value} {B : List Bk} {i : Nat} (hi : i < B.length) {n : Int} {w : World} (h : BankAt w base v B) : DrvEnd base v B i B[i].d n w (.returned (.int .i64 n)) w :=
  ⟨rfl, ⟨B[i], rfl, ⟨hi, rfl, rfl, fun _ _ _ _ => rfl⟩, by rw [List.set_getElem_self]; exact h⟩, TK.refl _ _, Below.refl _ _⟩

/-- Who holds a drive is written. -/
theorem BankAt.held {w : World} {base : Nat} {v : Value} {B : List Bk} (h : BankAt w base v B) {i : Nat} (hi : i < B.length) (s : Int) (n : Int) :
    DrvEnd base v B i { B[i].d with holder := s } n w (.returned (.int .i64 n)) (w.setCell ⟨B[i].p, 2, none⟩ (.int .i64 s)) := by
  have hd := h.drv B[i] (List.getElem_mem hi)
  have hk : TK (fun t => t = 172) w (w.setCell ⟨B[i].p, 2, none⟩ (.int .i64 s)) := TK.setCell (T := fun t => t = 172) hd.blk rfl _
  refine ⟨rfl, ⟨⟨{ B[i].d with holder := s }, B[i].p, B[i].v⟩, rfl, ⟨hi, rfl, rfl, fun k _ h1 _ => block_set_ne _ h1⟩, h.set hi hk (by decide) rfl rfl ⟨hd.lo, ?_, hk.row (by decide) hd.row⟩ ?_⟩, hk.mono fun _ e => .inl e, (Below.refl _ _).setCell (p := ⟨B[i].p, 2, none⟩) hd.lo _⟩
  · have := heap_set_same (o := 2) hd.blk (.int .i64 s)
    simpa [drvCells] using this
  · intro j hj hji
    have hdj := h.drv B[j] (List.getElem_mem hj)
    have hne : B[j].p ≠ B[i].p := by
      rcases Nat.lt_or_ge j i with h1 | h1
      · exact (List.pairwise_iff_getElem.1 h.apart j i hj hi h1).1
      · exact fun e => (List.pairwise_iff_getElem.1 h.apart i j hi hj (by omega)).1 e.symm
    exact ⟨hdj.lo, (block_set_ne _ hne).trans hdj.blk, hk.row (by decide) hdj.row⟩

/-- A block of a drive is written. -/
theorem BankAt.laid {w : World} {base : Nat} {v : Value} {B : List Bk} (h : BankAt w base v B) {i : Nat} (hi : i < B.length) {g cap k : Nat} (hv : B[i].v = .slice (some ⟨g, 0, none⟩) B[i].d.blocks.length cap) (x : Int) (n : Int) :
    DrvEnd base v B i { B[i].d with blocks := B[i].d.blocks.set k x } n w (.returned (.int .i64 n)) (w.setCell ⟨g, k, none⟩ (.int .i64 x)) := by
  have hd := h.drv B[i] (List.getElem_mem hi)
  have hrow := hd.row
  rw [hv] at hrow
  obtain ⟨cur, hg⟩ : ∃ cur, w.heap[g]? = some (.cells cur 3 (0, 0)) := by
    obtain ⟨_, ⟨e0, _⟩ | ⟨g', cap', cur, e0, _, hg, _⟩⟩ := id hrow
    · cases e0
    · simp only [Value.slice.injEq, Option.some.injEq, Addr.mk.injEq] at e0
      obtain ⟨⟨rfl, _⟩, _⟩ := e0
      exact ⟨cur, hg⟩
  have hbg := (hrow.lt g rfl).1
  have hk2 : TK (fun t => t = 3) w (w.setCell ⟨g, k, none⟩ (.int .i64 x)) := TK.setCell (T := fun t => t = 3) hg rfl _
  have hs := owns_set (k := k) hrow (.int .i64 x)
  refine ⟨rfl, ⟨⟨{ B[i].d with blocks := B[i].d.blocks.set k x }, B[i].p, B[i].v⟩, rfl, ⟨hi, rfl, rfl, fun k' _ _ h2 => block_set_ne _ (fun e => h2 (by show B[i].v.ownBlock = _; rw [hv, e]; rfl))⟩, h.set hi hk2 (by decide) rfl rfl ⟨hd.lo, ?_, ?_⟩ ?_⟩, hk2.mono fun _ e => .inr e, (Below.refl _ _).setCell (p := ⟨g, k, none⟩) hbg _⟩
  · exact (hk2.block _ _ _ _ hd.blk (by decide)).trans hd.blk
  · simp only [List.length_set, List.map_set]
    rw [hv]
    exact hs
  · intro j hj hji
    have hdj := h.drv B[j] (List.getElem_mem hj)
    have hne : some g ≠ B[j].v.ownBlock := by
      rcases Nat.lt_or_ge j i with h1 | h1
      · intro e
        exact (List.pairwise_iff_getElem.1 h.apart j i hj hi h1).2 g e.symm (by rw [hv]; rfl)
      · intro e
        exact (List.pairwise_iff_getElem.1 h.apart i j hi hj (by omega)).2 g (by rw [hv]; rfl) e.symm
    refine ⟨hdj.lo, (hk2.block _ _ _ _ hdj.blk (by decide)).trans hdj.blk, ?_⟩
    exact World.ownsRow.kept (row := some g) hdj.row ⟨rfl, rfl, rfl, by simp [World.setCell], fun k' _ hr => block_set_ne _ (fun e => hr (by rw [e]))⟩ (.inr fun e => hne e.symm)

set_option maxHeartbeats 400000 in
theorem dwrite_any (base : Nat) (v : Value) (B : List Bk) (i : Nat) (hi : i < B.length) (s k x : Int) (w : World) (h : BankAt w base v B) :
    Calls Tryz.prog 68 #[.pointer (some ⟨B[i].p, 0, none⟩), .int .i64 s, .int .i64 k, .int .i64 x] w fun e w' => DrvEnd base v B i (wrN B[i].d s k x) (wrD B[i].d s k x) w e w' := by
  have hd := h.drv B[i] (List.getElem_mem hi)
  obtain ⟨c0, c1, c2, fz⟩ := hd.cells
  obtain ⟨a, cap, e⟩ := slice_of_owns hd.row
  rw [e] at c1
  have HT := hide (taken_any B[i].p B[i].d s w c2)
  have HH := hide (dhas_any B[i].p B[i].d k a cap w c1)
  have hnot : ∀ (x : Bool) (w : World), (Op.unary .not (.bool x)).run Tryz.prog w = .ok (.bool (!x)) w := fun _ _ => rfl
  have Hsame := hide fun n => DrvEnd.same (n := n) hi h
  have Hlaid := hide fun g cap k hv => h.laid (g := g) (cap := cap) (k := k) hi hv x 0
  unfold wrN wrD
  cases ht : takenB B[i].d s with
  | true =>
    rw [ht] at HT
    simp only [if_true, show ¬ ((16 : Int) = 0) from by omega, if_false]
    generalize B[i].d = d at *
    generalize B[i].p = p at *
    go_enter Tryz.func68, Tryz.ntmps68
    go_wp2_with fail
    refine (unhide HT).mono ?_
    rintro e w1 ⟨rfl, rfl⟩
    go_wp2_with fail
    go_ret
    exact unhide Hsame 16
  | false =>
    rw [ht] at HT
    simp only [Bool.false_eq_true, if_false]
    cases hh : hasB B[i].d k with
    | false =>
      rw [hh] at HH
      simp only [Bool.false_eq_true, if_false, show ¬ ((17 : Int) = 0) from by omega]
      generalize B[i].d = d at *
      generalize B[i].p = p at *
      go_enter Tryz.func68, Tryz.ntmps68
      go_wp2_with fail
      refine (unhide HT).mono ?_
      rintro e w1 ⟨rfl, rfl⟩
      go_wp2_with fail
      refine (unhide HH).mono ?_
      rintro e w1 ⟨rfl, rfl⟩
      go_wp2_with fail
      go_ret
      exact unhide Hsame 17
    | true =>
      rw [hh] at HH
      simp only [if_true]
      have hk : 0 ≤ k ∧ k < (B[i].d.blocks.length : Int) := by simpa [hasB] using hh
      obtain ⟨n, rfl⟩ : ∃ n : Nat, k = n := ⟨k.toNat, by omega⟩
      have hn : n < B[i].d.blocks.length := by omega
      obtain ⟨g, cap', e', hc, _, hg, hcell, hfz⟩ := hd.block hn
      have Hl := hide (unhide Hlaid g cap' n e')
      rw [e] at e'
      simp only [Value.slice.injEq] at e'
      obtain ⟨rfl, _, rfl⟩ := e'
      have hlt' : (n : Int) < (B[i].d.blocks.length : Int) := by omega
      cases hb : badB x with
      | true =>
        simp only [if_true, show ¬ ((6 : Int) = 0) from by omega, if_false]
        clear Hl Hlaid hcell e hk
        generalize B[i].d = d at *
        generalize B[i].p = p at *
        have hb' : x < 0 ∨ (¬ x < 0 ∧ 255 < x) := by simp [badB] at hb; omega
        rcases hb' with hb' | ⟨hb1, hb2⟩
        all_goals
          go_enter Tryz.func68, Tryz.ntmps68
          go_wp2_with fail
          refine (unhide HT).mono ?_
          rintro e w1 ⟨rfl, rfl⟩
          go_wp2_with fail
          refine (unhide HH).mono ?_
          rintro e w1 ⟨rfl, rfl⟩
          go_wp2_with fail
          go_ret
          exact unhide Hsame 6
      | false =>
        simp only [Bool.false_eq_true, if_false, if_true, Int.toNat_natCast]
        clear Hlaid Hsame e hk
        have hb' : ¬ x < 0 ∧ ¬ 255 < x := by simp [badB] at hb; omega
        obtain ⟨hb1, hb2⟩ := hb'
        have HE : Hid (DrvEnd base v B i { B[i].d with blocks := B[i].d.blocks.set n x } 0 w (.returned (.int .i64 0)) (w.setCell ⟨g, n, none⟩ (.int .i64 x))) := Hl
        clear Hl
        generalize { B[i].d with blocks := B[i].d.blocks.set n x } = d' at *
        generalize B[i].d.blocks[n] = y at *
        generalize B[i].d = d at *
        generalize B[i].p = p at *
        go_enter Tryz.func68, Tryz.ntmps68
        go_wp2_with fail
        refine (unhide HT).mono ?_
        rintro e w1 ⟨rfl, rfl⟩
        go_wp2_with fail
        refine (unhide HH).mono ?_
        rintro e w1 ⟨rfl, rfl⟩
        go_wp2_with fail
        go_ret
        exact unhide HE

set_option maxHeartbeats 400000 in
theorem dreserve_any (base : Nat) (v : Value) (B : List Bk) (i : Nat) (hi : i < B.length) (s : Int) (w : World) (h : BankAt w base v B) :
    Calls Tryz.prog 69 #[.pointer (some ⟨B[i].p, 0, none⟩), .int .i64 s] w fun e w' => DrvEnd base v B i (rsN B[i].d s) (rsD B[i].d s) w e w' := by
  have hd := h.drv B[i] (List.getElem_mem hi)
  obtain ⟨c0, c1, c2, fz⟩ := hd.cells
  have HT := hide (taken_any B[i].p B[i].d s w c2)
  have Hsame := hide fun n => DrvEnd.same (n := n) hi h
  have Hh := hide (h.held hi s 0)
  unfold rsN rsD
  cases ht : takenB B[i].d s with
  | true =>
    rw [ht] at HT
    simp only [if_true]
    clear Hh
    generalize B[i].d = d at *
    generalize B[i].p = p at *
    go_enter Tryz.func69, Tryz.ntmps69
    go_wp2_with fail
    refine (unhide HT).mono ?_
    rintro e w1 ⟨rfl, rfl⟩
    go_wp2_with fail
    go_ret
    exact unhide Hsame 16
  | false =>
    rw [ht] at HT
    simp only [Bool.false_eq_true, if_false]
    clear Hsame
    generalize { B[i].d with holder := s } = d' at *
    generalize B[i].d = d at *
    generalize B[i].p = p at *
    go_enter Tryz.func69, Tryz.ntmps69
    go_wp2_with fail
    refine (unhide HT).mono ?_
    rintro e w1 ⟨rfl, rfl⟩
    go_wp2_with fail
    go_ret
    exact unhide Hh

set_option maxHeartbeats 400000 in
theorem drelease_any (base : Nat) (v : Value) (B : List Bk) (i : Nat) (hi : i < B.length) (s : Int) (w : World) (h : BankAt w base v B) :
    Calls Tryz.prog 70 #[.pointer (some ⟨B[i].p, 0, none⟩), .int .i64 s] w fun e w' => DrvEnd base v B i (rlN B[i].d s) (rsD B[i].d s) w e w' := by
  have hd := h.drv B[i] (List.getElem_mem hi)
  obtain ⟨c0, c1, c2, fz⟩ := hd.cells
  have HT := hide (taken_any B[i].p B[i].d s w c2)
  have Hsame := hide fun n => DrvEnd.same (n := n) hi h
  have Hh := hide (h.held hi (-1) 0)
  unfold rlN rsD
  cases ht : takenB B[i].d s with
  | true =>
    rw [ht] at HT
    simp only [if_true]
    clear Hh
    generalize B[i].d = d at *
    generalize B[i].p = p at *
    go_enter Tryz.func70, Tryz.ntmps70
    go_wp2_with fail
    refine (unhide HT).mono ?_
    rintro e w1 ⟨rfl, rfl⟩
    go_wp2_with fail
    go_ret
    exact unhide Hsame 16
  | false =>
    rw [ht] at HT
    simp only [Bool.false_eq_true, if_false]
    clear Hsame
    generalize { B[i].d with holder := (-1 : Int) } = d' at *
    generalize B[i].d = d at *
    generalize B[i].p = p at *
    go_enter Tryz.func70, Tryz.ntmps70
    go_wp2_with fail
    refine (unhide HT).mono ?_
    rintro e w1 ⟨rfl, rfl⟩
    go_wp2_with fail
    go_ret
    exact unhide Hh

end Go.Proofs.YtdlhgbhaeedbdabGreat
