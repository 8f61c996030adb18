/- Ho3, Ho4, Pieces, Count, Awake. -/
import Derived.Test.YtdlhgbhaeedbdaaM17
import Derived.Test.YtdlhgbhaeedbdaaM6
import Derived.Test.YtdlhgbhaeedbdaaM15

/- 'Bank.Remove'. -/
namespace Go.Proofs.Ytdlhgbhaeedbdaa
open Go.RowKit

/-- The drives that stay. -/
def remB (B : List Bk) (n : ByteArray) : List Bk := B.filter fun q => decide (¬ q.d.name = n)

theorem remB_d (B : List Bk) (n : ByteArray) : (remB B n).map Bk.d = remD (B.map Bk.d) n := by
  simp [remB, remD, List.filter_map, Function.comp_def]

/-- What Remove leaves. -/
def RemEnd (r b : Nat) (B : List Bk) (n : ByteArray) (w : World) (e : Ending) (w' : World) : Prop :=
  e = .returned (.tuple #[]) ∧ (∃ v', w'.cell? ⟨r, 2, none⟩ = some v' ∧ BankAt w' (b + 1) v' (remB B n)) ∧ TK KB w w' ∧ Below (b + 1) w w' ∧ RCell r (fun o => o ≠ 2) w w'

/-- The pointers of a bank, cell by cell. -/
theorem BankAt.cell {w : World} {base : Nat} {a : Option Addr} {n cap : Nat} {B : List Bk} (h : BankAt w base (.slice a n cap) B) (hB : 0 < B.length) : ∃ g, a = some ⟨g, 0, none⟩ ∧ n = B.length ∧ B.length ≤ cap ∧ g < w.heap.size ∧ (∃ cs fr, w.heap[g]? = some (Obj.cells cs 154 fr)) ∧ ∀ i (hi : i < B.length), w.cell? ⟨g, i, none⟩ = some (B[i]).ptr := by
  obtain ⟨hl, ⟨e, h0⟩ | ⟨g, cap', cur, e, hb, hg, hc, _, _, _⟩⟩ := h.row
  · omega
  · simp only [Value.slice.injEq] at e
    obtain ⟨rfl, rfl, rfl⟩ := e
    refine ⟨g, rfl, rfl, hc, (Array.getElem?_eq_some_iff.1 hg).1, ⟨_, _, hg⟩, fun i hi => ?_⟩
    have := h.row.cells (g := g) rfl i (B[i]).ptr (by simp [hi])
    rwa [addr_add] at this

theorem BankAt.removed {w w1 : World} {r b : Nat} {v v' : Value} {B : List Bk} {n : ByteArray} (hr : b < r) (hty : ∃ cs fr, w.heap[r]? = some (Obj.cells cs 135 fr)) (hc : w.cell? ⟨r, 2, none⟩ = some v) (h : BankAt w (b + 1) v B)
    (hb1 : Below w.heap.size w w1) (hn : w1.ownsRow w.heap.size 154 1 v' (remB B n).length ((remB B n).map Bk.ptr)) :
    RemEnd r b B n w (.returned (.tuple #[])) (w1.setCell ⟨r, 2, none⟩ v') := by
  obtain ⟨cs, fr, hty'⟩ := hty
  have hlt : r < w.heap.size := (Array.getElem?_eq_some_iff.1 hty').1
  have hbr : w1.heap[r]? = w.heap[r]? := hb1.block r hlt
  have hts : TK (fun t => t = 135) w1 (w1.setCell ⟨r, 2, none⟩ v') := TK.setCell (T := fun t => t = 135) (hbr.trans hty') rfl v'
  have htk : TK (fun t => t = 135) w (w1.setCell ⟨r, 2, none⟩ v') := (TK.of_below hb1).trans hts
  refine ⟨rfl, ⟨v', World.cell?_setCell_same _ _ _ ((World.cell?_of_block hbr).trans hc), ?_, ?_, ?_⟩, htk.mono fun _ e => .inl e, (hb1.mono (by omega)).setCell (p := ⟨r, 2, none⟩) (by simp; omega) _, (RCell.of_block hbr).trans (RCell.set (by simp) _)⟩
  · exact owns_mono (hts.row (by decide) hn) (by omega)
  · intro q hq
    exact (h.drv q ((List.mem_filter.1 hq).1)).keep htk (by decide) (by decide)
  · exact h.apart.sublist List.filter_sublist

set_option maxRecDepth 100000 in
set_option maxHeartbeats 400000 in
theorem remove_any (r b : Nat) (n : ByteArray) (v : Value) (B : List Bk) (w : World) (hB : B.length ≤ 1000) (hr : b < r) (hty : ∃ cs fr, w.heap[r]? = some (Obj.cells cs 135 fr)) (hc : w.cell? ⟨r, 2, none⟩ = some v) (hf : w.frozen? ⟨r, 2, none⟩ = false) (h : BankAt w (b + 1) v B) :
    Calls Try.prog 99 #[.pointer (some ⟨r, 2, none⟩), .string n] w fun e w' => RemEnd r b B n w e w' := by
  have hlt : r < w.heap.size := by obtain ⟨cs, fr, e⟩ := hty; exact (Array.getElem?_eq_some_iff.1 e).1
  obtain ⟨j0, hj, hy0, hy1, hy2⟩ := info_parts Try.infoPtr
  obtain ⟨a, cap, rfl⟩ := slice_of_owns h.row
  have HH := hide fun w1 v' hb1 hn => BankAt.removed (n := n) (w1 := w1) (v' := v') hr hty hc h hb1 hn
  have Hh := hide h
  clear hty h
  go_enter Try.func99, Try.ntmps99
  go_wp2
  go_loopw [4, 5] (fun tv i wr => ∃ k : Nat, k ≤ B.length ∧ i = .int .i64 k ∧ wr.ownsRow w.heap.size 154 1 tv (remB (B.take k) n).length ((remB (B.take k) n).map Bk.ptr) ∧ Below w.heap.size w wr) (fun _ i _ => B.length - (intOf i).toNat)
  case atStart => exact ⟨0, Nat.zero_le _, rfl, World.ownsRow_nil _ _ _ _, Below.refl _ _⟩
  case round =>
    obtain ⟨k, hk, rfl, hown, hbe⟩ := hrel
    obtain ⟨ta, tc, rfl⟩ := slice_of_owns hown
    have hc2 : wr.cell? ⟨r, 2, none⟩ = some (.slice a B.length cap) := (hbe.cell (p := ⟨r, 2, none⟩) hlt).trans hc
    have hf2 : wr.frozen? ⟨r, 2, none⟩ = false := (hbe.frozen (p := ⟨r, 2, none⟩) hlt).trans hf
    have hs := hbe.size
    by_cases hlt2 : k < B.length
    · obtain ⟨g, rfl, _, hcap, hg, _, hcell⟩ := (unhide Hh).cell (by omega)
      obtain ⟨q, hq⟩ : ∃ q, q = B[k] := ⟨_, rfl⟩
      have hd := (unhide Hh).drv q (by rw [hq]; exact List.getElem_mem hlt2)
      have d0 : wr.cell? ⟨g, k, none⟩ = some (.pointer (some ⟨q.p, 0, none⟩)) := by rw [hq]; exact (hbe.cell (p := ⟨g, k, none⟩) hg).trans (hcell k hlt2)
      have d1 : wr.cell? ⟨q.p, 0, none⟩ = some (.string q.d.name) := by
        have := (hbe.block q.p hd.lt).trans hd.blk
        simp [World.cell?, this, drvCells]
      have hlt' : (k : Int) < (B.length : Int) := by omega
      have hstep : remB (B.take (k + 1)) n = remB (B.take k) n ++ (if q.d.name = n then [] else [q]) := by
        rw [List.take_succ_eq_append_getElem hlt2, ← hq]
        unfold remB
        rw [List.filter_append]
        congr 1
        by_cases e : q.d.name = n <;> simp [e]
      by_cases he : q.d.name = n
      · rw [if_pos he, List.append_nil] at hstep
        have Hst := hide hstep
        have he' : (q.d.name.toList == n.toList) = true := by rw [he]; simp
        clear hstep he hq hd hcell
        go_wp2
        go_roundw
        case rel => exact ⟨k + 1, by omega, by go_num, by rw [unhide Hst]; exact hown, hbe⟩
        case measure => simp [intOf]; omega
      · rw [if_neg he] at hstep
        have Hst := hide hstep
        have he' : (q.d.name.toList == n.toList) = false := by rw [beq_eq_false_iff_ne]; exact fun e => he (tl_inj e)
        have hlr : (remB (B.take k) n).length ≤ 1000 := Nat.le_trans (List.length_filter_le _ _) (by rw [List.length_take]; omega)
        clear hstep he hq hd hcell
        generalize hT : remB (B.take k) n = T at *
        clear hT
        go_wp2_with (at_builtin; refine wpList_append_own _ rfl _ _ 128 rfl w.heap.size 154 j0 (.pointer none) 1 8 Try.underlying128 hj hy0 hy1 hy2 rfl (by decide) (.slice ta T.length tc) T.length (T.map Bk.ptr) ?hs ?c0 ⟨wr.heap.size, 0, none⟩ 1 1 [.pointer (some ⟨q.p, 0, none⟩)] ?hx rfl ?c1 (one_ptr _) ?c3 ?c4 ?c5 ?_)
        case c0 => exact hown.alloc _
        case c3 => unfold maxLen; omega
        case c4 => omega
        case c5 => first | omega | (simp; omega)
        intro v' w2 hown' hgrow _
        have hba := hbe.alloc hs (.cells #[.pointer (some ⟨q.p, 0, none⟩)] 154)
        have hb2 : Below w.heap.size w w2 := hba.grown hgrow (by have := hba.size; simp; omega) (fun k e => (hown.lt k e).1)
        clear hgrow
        go_wp2
        go_roundw
        case rel => exact ⟨k + 1, by omega, by go_num, by rw [unhide Hst, List.length_append, List.map_append]; exact hown', hb2⟩
        case measure => simp [intOf]; omega
    · have hkl : k = B.length := by omega
      have hall : B.take k = B := List.take_of_length_le (by omega)
      rw [hall] at hown ⊢
      have HE := hide (unhide HH _ _ hbe hown)
      have hnl : ¬ (k : Int) < (B.length : Int) := by omega
      clear hall hkl hown HH
      go_wp2
      go_end0
      exact unhide HE

end Go.Proofs.Ytdlhgbhaeedbdaa

/- Sessions in memory; 'Table.Tell', 'Table.Of', 'Rack.endSessions', where no session is meant. -/
namespace Go.Proofs.Ytdlhgbhaeedbdaa
open Go.RowKit

def sesCells1 (s : Ses) : List Value := [.int .i64 s.number, .string s.target, .string s.host, .bool s.news]
def sesCells (S : List Ses) : List Value := S.flatMap sesCells1

/-- A session lies in block g from offset o on. -/
structure SesAt (w : World) (g o : Nat) (s : Ses) : Prop where
  c0 : w.cell? ⟨g, o, none⟩ = some (.int .i64 s.number)
  c1 : w.cell? ⟨g, o + 1, none⟩ = some (.string s.target)
  c2 : w.cell? ⟨g, o + 2, none⟩ = some (.string s.host)
  c3 : w.cell? ⟨g, o + 3, none⟩ = some (.bool s.news)

theorem sesCells_get (S : List Ses) (i : Nat) (h : i < S.length) (c : Nat) (hc : c < 4) : (sesCells S)[i * 4 + c]? = (sesCells1 S[i])[c]? := by
  induction S generalizing i with
  | nil => simp at h
  | cons a l ih =>
    simp only [sesCells, List.flatMap_cons]
    have h8 : (sesCells1 a).length = 4 := by simp [sesCells1]
    match i with
    | 0 => rw [List.getElem?_append_left (by omega)]; simp
    | i + 1 =>
      rw [List.getElem?_append_right (by omega), h8, show (i + 1) * 4 + c - 4 = i * 4 + c from by omega]
      exact ih i (by simpa using h)

/-- The sessions S, in the row v. -/
def SesRow (w : World) (base : Nat) (v : Value) (S : List Ses) : Prop := w.ownsRow base 166 4 v S.length (sesCells S)

theorem SesRow.cells {w : World} {base : Nat} {v : Value} {S : List Ses} (h : SesRow w base v S) : (v = .slice none 0 0 ∧ S = []) ∨ ∃ g cap, v = .slice (some ⟨g, 0, none⟩) S.length cap ∧ S.length ≤ cap ∧ base ≤ g ∧ g < w.heap.size ∧ (∃ cs, w.heap[g]? = some (Obj.cells cs 166 (0, 0))) ∧ ∀ i (hi : i < S.length), SesAt w g (i * 4) S[i] := by
  have hh := h
  obtain ⟨_, ⟨rfl, h0⟩ | ⟨g, cap, cur, rfl, hb, hg, hc, _, _, _⟩⟩ := hh
  · exact Or.inl ⟨rfl, List.length_eq_zero_iff.1 h0⟩
  · refine Or.inr ⟨g, cap, rfl, hc, hb, (World.ownsRow.lt h g rfl).2, ⟨_, hg⟩, fun i hi => ?_⟩
    have hcl := World.ownsRow.cells h (g := g) rfl
    have key : ∀ c, c < 4 → ∀ u, (sesCells1 S[i])[c]? = some u → w.cell? ⟨g, i * 4 + c, none⟩ = some u := by
      intro c hc u hu
      have := hcl (i * 4 + c) u (by rw [sesCells_get S i hi c hc]; exact hu)
      rwa [addr_add] at this
    exact ⟨key 0 (by omega) _ rfl, key 1 (by omega) _ rfl, key 2 (by omega) _ rfl, key 3 (by omega) _ rfl⟩

theorem ofB_cases {t h : ByteArray} {s : Ses} (e : ofB t h s = false) : (s.target.toList == t.toList) = false ∨ ((s.target.toList == t.toList) = true ∧ (s.host.toList == h.toList) = false) := by
  simp only [ofB, decide_eq_false_iff_not] at e
  by_cases h1 : s.target = t
  · right
    refine ⟨by rw [h1]; simp, ?_⟩
    rw [beq_eq_false_iff_ne]
    exact fun e2 => e ⟨h1, tl_inj e2⟩
  · left
    rw [beq_eq_false_iff_ne]
    exact fun e2 => h1 (tl_inj e2)

set_option maxRecDepth 100000 in
set_option maxHeartbeats 400000 in
theorem tell_none (r base : Nat) (t h : ByteArray) (v : Value) (S : List Ses) (w : World) (hS : S.length ≤ 1000) (hc : w.cell? ⟨r, 3, none⟩ = some v) (hrow : SesRow w base v S) (hno : ∀ s ∈ S, ofB t h s = false) :
    Calls Try.prog 101 #[.pointer (some ⟨r, 3, none⟩), .string t, .string h] w fun e w' => e = .returned (.tuple #[]) ∧ w' = w := by
  rcases hrow.cells with ⟨rfl, rfl⟩ | ⟨g, cap, rfl, hcap, _, hg, _, hit⟩
  · clear hrow
    go_enter Try.func101, Try.ntmps101
    go_wp2
    refine wp_loop_rounds 1 ?_
    rw [rounds_succ]
    go_wp2
    go_end0
    exact ⟨rfl, rfl⟩
  · have Hno := hide hno
    clear hno hrow
    go_enter Try.func101, Try.ntmps101
    go_wp2
    go_loopw [6] (fun i wr => ∃ k : Nat, k ≤ S.length ∧ i = .int .i64 k ∧ wr = w) (fun i _ => S.length - (intOf i).toNat)
    case atStart => exact ⟨0, Nat.zero_le _, rfl, rfl⟩
    case round =>
      obtain ⟨k, hk, rfl, rfl⟩ := hrel
      by_cases hlt : k < S.length
      · obtain ⟨s, hs⟩ : ∃ s, s = S[k] := ⟨_, rfl⟩
        have hi := hit k hlt
        rw [← hs] at hi
        have hof := unhide Hno s (by rw [hs]; exact List.getElem_mem hlt)
        obtain ⟨c0, c1, c2, c3⟩ := hi
        have hlt' : (k : Int) < (S.length : Int) := by omega
        clear hs
        rcases ofB_cases hof with h1 | ⟨h1, h2⟩
        all_goals
          clear hof
          go_wp2
          go_roundw
          case rel => exact ⟨k + 1, by omega, by go_num, by first | rfl | trivial⟩
          case measure => simp [intOf]; omega
      · have hnl : ¬ (k : Int) < (S.length : Int) := by omega
        go_wp2
        go_end0
        exact ⟨rfl, rfl⟩

set_option maxRecDepth 100000 in
set_option maxHeartbeats 400000 in
theorem of_none (r base : Nat) (t h : ByteArray) (v : Value) (S : List Ses) (w : World) (hS : S.length ≤ 1000) (hc : w.cell? ⟨r, 3, none⟩ = some v) (hrow : SesRow w base v S) (hno : ∀ s ∈ S, ofB t h s = false) :
    Calls Try.prog 108 #[.pointer (some ⟨r, 3, none⟩), .string t, .string h] w fun e w' => e = .returned (.slice none 0 0) ∧ w' = w := by
  rcases hrow.cells with ⟨rfl, rfl⟩ | ⟨g, cap, rfl, hcap, _, hg, _, hit⟩
  · clear hrow
    go_enter Try.func108, Try.ntmps108
    go_wp2
    refine wp_loop_rounds 1 ?_
    rw [rounds_succ]
    go_wp2
    go_ret
    exact ⟨rfl, rfl⟩
  · have Hno := hide hno
    clear hno hrow
    go_enter Try.func108, Try.ntmps108
    go_wp2
    go_loopw [7, 8] (fun u i wr => ∃ k : Nat, k ≤ S.length ∧ u = .slice none 0 0 ∧ i = .int .i64 k ∧ wr = w) (fun _ i _ => S.length - (intOf i).toNat)
    case atStart => exact ⟨0, Nat.zero_le _, rfl, rfl, rfl⟩
    case round =>
      obtain ⟨k, hk, rfl, rfl, rfl⟩ := hrel
      by_cases hlt : k < S.length
      · obtain ⟨s, hs⟩ : ∃ s, s = S[k] := ⟨_, rfl⟩
        have hi := hit k hlt
        rw [← hs] at hi
        have hof := unhide Hno s (by rw [hs]; exact List.getElem_mem hlt)
        obtain ⟨c0, c1, c2, c3⟩ := hi
        have hlt' : (k : Int) < (S.length : Int) := by omega
        clear hs
        rcases ofB_cases hof with h1 | ⟨h1, h2⟩
        all_goals
          clear hof
          go_wp2
          go_roundw
          case rel => exact ⟨k + 1, by omega, rfl, by go_num, by first | rfl | trivial⟩
          case measure => simp [intOf]; omega
      · have hnl : ¬ (k : Int) < (S.length : Int) := by omega
        go_wp2
        go_ret
        exact ⟨rfl, rfl⟩

set_option maxRecDepth 100000 in
set_option maxHeartbeats 400000 in
theorem ends_none (r base : Nat) (t h : ByteArray) (v : Value) (S : List Ses) (w : World) (hS : S.length ≤ 1000) (hc : w.cell? ⟨r, 3, none⟩ = some v) (hrow : SesRow w base v S) (hno : ∀ s ∈ S, ofB t h s = false) :
    Calls Try.prog 100 #[.pointer (some ⟨r, 0, none⟩), .string t, .string h] w fun e w' => e = .returned (.tuple #[]) ∧ w' = w := by
  have HO := hide (of_none r base t h v S w hS hc hrow hno)
  clear hrow hno hc
  go_enter Try.func100, Try.ntmps100
  go_wp2_with fail
  refine (unhide HO).mono ?_
  rintro e w1 ⟨rfl, rfl⟩
  go_wp2
  refine wp_loop_rounds 1 ?_
  rw [rounds_succ]
  go_wp2
  go_end0
  exact ⟨rfl, rfl⟩

end Go.Proofs.Ytdlhgbhaeedbdaa

/- 'pieces', 'awake'. -/
namespace Go.Proofs.Ytdlhgbhaeedbdaa
open Go.RowKit

theorem Try.infoString : (Try.prog.info? 9).map (fun i => (i.zero, i.size, i.bytes)) = some (some (.string ⟨#[]⟩), 1, 16) := by kernel_rfl

/-- The pieces of the first k bytes, and where the next one begins. -/
def pcsTo (s : ByteArray) : Nat → List ByteArray × Nat
  | 0 => ([], 0)
  | k + 1 => if byteAt s k = 59 then ((pcsTo s k).1 ++ [s.extract (pcsTo s k).2 (k + 1)], k + 1) else pcsTo s k
/-- The pieces of a text. -/
def pcs (s : ByteArray) : List ByteArray := if (pcsTo s s.size).2 < s.size then (pcsTo s s.size).1 ++ [s.extract (pcsTo s s.size).2 s.size] else (pcsTo s s.size).1

theorem pcsTo_le (s : ByteArray) (k : Nat) : (pcsTo s k).2 ≤ k ∧ (pcsTo s k).1.length ≤ k := by
  induction k with
  | zero => simp [pcsTo]
  | succ k ih =>
    simp only [pcsTo]
    split
    · simp; omega
    · omega

def strVals (l : List ByteArray) : List Value := l.map Value.string

theorem one_str (x : ByteArray) : ∀ u ∈ [Value.string x], u.oneCell' = true := by intro u hu; simp at hu; subst hu; rfl

set_option maxRecDepth 100000 in
set_option maxHeartbeats 400000 in
theorem pieces_any (s : ByteArray) (w : World) (hs : s.size ≤ 100000) :
    Calls Try.prog 25 #[.string s] w fun e w' => ∃ v, e = .returned v ∧ w'.ownsRow w.heap.size 9 1 v (pcs s).length (strVals (pcs s)) ∧ Below w.heap.size w w' := by
  obtain ⟨i0, hi, hz0, hz1, hz2⟩ := info_parts Try.infoString
  go_enter Try.func25, Try.ntmps25
  go_wp2
  go_loopw [3, 4, 5] (fun v f i wr => ∃ k : Nat, k ≤ s.size ∧ i = .int .i64 k ∧ f = .int .i64 (pcsTo s k).2 ∧ wr.ownsRow w.heap.size 9 1 v (pcsTo s k).1.length (strVals (pcsTo s k).1) ∧ Below w.heap.size w wr) (fun _ _ i _ => s.size - (intOf i).toNat)
  case atStart => exact ⟨0, Nat.zero_le _, rfl, rfl, World.ownsRow_nil _ _ _ _, Below.refl _ _⟩
  case round =>
    obtain ⟨k, hk, rfl, rfl, hown, hbe⟩ := hrel
    obtain ⟨a, cap, rfl⟩ := slice_of_owns hown
    have hle := pcsTo_le s k
    obtain ⟨hle1, hle2⟩ := hle
    have hsz := hbe.size
    by_cases hlt : k < s.size
    · have hlt' : (k : Int) < (s.size : Int) := by omega
      by_cases hc : byteAt s k = 59
      · have hstep : pcsTo s (k + 1) = ((pcsTo s k).1 ++ [s.extract (pcsTo s k).2 (k + 1)], k + 1) := by simp [pcsTo, hc]
        have Hstep := hide hstep
        have hc' : ((s[k].toNat : Int) == 59) = true := by rw [byteAt_in hlt] at hc; rw [beq_iff_eq]; exact hc
        have hfk : ((pcsTo s k).2 : Int) ≤ (k : Int) + 1 := by omega
        have hks : (k : Int) + 1 ≤ (s.size : Int) := by omega
        clear hstep hc
        generalize hf : (pcsTo s k).2 = f at *
        generalize hl : (pcsTo s k).1 = l at *
        have Hf := hide hf
        have Hl := hide hl
        clear hf hl
        go_wp2_with (at_builtin; refine wpList_append_own _ rfl _ _ 47 rfl w.heap.size 9 i0 (.string ⟨#[]⟩) 1 16 Try.underlying47 hi hz0 hz1 hz2 rfl (by decide) (.slice a l.length cap) l.length (strVals l) ?hs ?c0 ⟨wr.heap.size, 0, none⟩ 1 1 [.string (s.extract f (k + 1))] ?hx rfl ?c1 (one_str _) ?c3 ?c4 ?c5 ?_)
        case hs => rfl
        case c0 => exact hown.alloc _
        case hx => rfl
        case c1 => exact cell_one_new _ _ _
        case c3 => unfold maxLen; omega
        case c4 => omega
        case c5 => simp; omega
        intro v' w2 hown' hgrow _
        have hbe2 := (hbe.alloc hsz _).grown hgrow (by simp; omega) (fun k e => (hown.lt k e).1)
        clear hgrow
        go_wp2
        go_roundw
        case rel =>
          refine ⟨k + 1, by omega, by go_num, ?_, ?_, hbe2⟩
          · rw [unhide Hstep]; go_num
          · rw [unhide Hstep]
            simp only [List.length_append, strVals, List.map_append]
            exact hown'
        case measure => simp [intOf]; omega
      · have hstep : pcsTo s (k + 1) = pcsTo s k := by simp [pcsTo, hc]
        have Hstep := hide hstep
        have hc' : ((s[k].toNat : Int) == 59) = false := by rw [byteAt_in hlt] at hc; rw [beq_eq_false_iff_ne]; exact hc
        clear hstep hc
        go_wp2
        go_roundw
        case rel => exact ⟨k + 1, by omega, by go_num, by rw [unhide Hstep], by rw [unhide Hstep]; exact hown, hbe⟩
        case measure => simp [intOf]; omega
    · have hks : k = s.size := by omega
      by_cases hf : (pcsTo s s.size).2 < s.size
      · have hp : pcs s = (pcsTo s s.size).1 ++ [s.extract (pcsTo s s.size).2 s.size] := by simp [pcs, hf]
        have Hp := hide hp
        rw [hks] at hown hle1 hle2 ⊢
        clear hp hks hlt hk
        have hf' : ((pcsTo s s.size).2 : Int) < (s.size : Int) := by omega
        generalize hfe : (pcsTo s s.size).2 = f at *
        generalize hle : (pcsTo s s.size).1 = l at *
        have Hf := hide hfe
        have Hl := hide hle
        clear hfe hle
        go_wp2_with (at_builtin; refine wpList_append_own _ rfl _ _ 47 rfl w.heap.size 9 i0 (.string ⟨#[]⟩) 1 16 Try.underlying47 hi hz0 hz1 hz2 rfl (by decide) (.slice a l.length cap) l.length (strVals l) ?hs ?c0 ⟨wr.heap.size, 0, none⟩ 1 1 [.string (s.extract f s.size)] ?hx rfl ?c1 (one_str _) ?c3 ?c4 ?c5 ?_)
        case hs => rfl
        case c0 => exact hown.alloc _
        case hx => rfl
        case c1 => exact cell_one_new _ _ _
        case c3 => unfold maxLen; omega
        case c4 => omega
        case c5 => simp; omega
        intro v' w2 hown' hgrow _
        have hbe2 := (hbe.alloc hsz _).grown hgrow (by simp; omega) (fun k e => (hown.lt k e).1)
        clear hgrow
        go_wp2
        go_ret
        refine ⟨v', rfl, ?_, hbe2⟩
        rw [unhide Hp]
        simp only [List.length_append, strVals, List.map_append]
        exact hown'
      · have hp : pcs s = (pcsTo s s.size).1 := by simp [pcs, hf]
        have Hp := hide hp
        rw [hks] at hown ⊢
        have hf' : ¬ ((pcsTo s s.size).2 : Int) < (s.size : Int) := by omega
        clear hp hks
        go_wp2
        go_ret
        refine ⟨_, rfl, ?_, hbe⟩
        rw [unhide Hp]
        exact hown

end Go.Proofs.Ytdlhgbhaeedbdaa

/- As many pieces as items; 'awake'. -/
namespace Go.Proofs.Ytdlhgbhaeedbdaa
open Go.RowKit

theorem byteAt_lt {s : ByteArray} {p : Nat} {c : Int} (h : byteAt s p = c) (hc : 0 ≤ c) : p < s.size := by
  by_cases hp : p < s.size
  · exact hp
  · rw [byteAt_out hp] at h; omega

theorem end_of {s : ByteArray} {st : Nat × Bool} {p : Nat} (hp : p ≤ st.1) (h : (wd s [59] st).2 = false) : ∃ r, p ≤ r ∧ wd s [59] st = (r + 1, false) ∧ byteAt s r = 59 ∧ st = (r, false) := by
  obtain ⟨h1, h2, h3⟩ := tk_ok (s := s) (lo := ((59 : UInt8).toNat : Int)) (hi := ((59 : UInt8).toNat : Int)) (st := st) h
  refine ⟨st.1, hp, h3, ?_, Prod.ext rfl h1⟩
  simp [seesB] at h2
  omega

theorem item_endC {s : ByteArray} {p : Nat} (h : (itemS s (p, false)).2 = false) : ∃ r, p ≤ r ∧ itemS s (p, false) = (r + 1, false) ∧ byteAt s r = 59 := by
  have t := tk_mono s
  have d := wd_mono s
  have n := nmS_mono s
  have m := mdS_mono s
  unfold itemS at h ⊢
  simp only at h ⊢
  by_cases h1 : byteAt s p = 100
  · simp only [h1, if_true] at h ⊢
    obtain ⟨r, a, b, c, _⟩ := end_of (p := p) (st := diskS4 s (p, false)) (Nat.le_trans (d _ (p, false)) (Nat.le_trans (n _) (Nat.le_trans (d _ _) (t _ _ _)))) h
    exact ⟨r, a, b, c⟩
  rw [if_neg h1] at h ⊢
  by_cases h2 : byteAt s p = 116
  · rw [if_pos h2] at h ⊢
    obtain ⟨r, a, b, c, _⟩ := end_of (p := p) (st := targetS2 s (p, false)) (Nat.le_trans (d _ (p, false)) (n _)) h
    exact ⟨r, a, b, c⟩
  rw [if_neg h2] at h ⊢
  by_cases h3 : byteAt s p = 108
  · rw [if_pos h3] at h ⊢
    obtain ⟨r, a, b, c, _⟩ := end_of (p := p) (st := lunS8 s (p, false)) (Nat.le_trans (d _ (p, false)) (Nat.le_trans (n _) (Nat.le_trans (d _ _) (Nat.le_trans (t _ _ _) (Nat.le_trans (d _ _) (Nat.le_trans (n _) (Nat.le_trans (d _ _) (m _)))))))) h
    exact ⟨r, a, b, c⟩
  rw [if_neg h3] at h ⊢
  by_cases h4 : byteAt s p = 104
  · rw [if_pos h4] at h ⊢
    obtain ⟨r, a, b, c, _⟩ := end_of (p := p) (st := hostS4 s (p, false)) (Nat.le_trans (d _ (p, false)) (Nat.le_trans (n _) (Nat.le_trans (d _ _) (n _)))) h
    exact ⟨r, a, b, c⟩
  rw [if_neg h4] at h ⊢
  by_cases h5 : byteAt s p = 109
  · rw [if_pos h5] at h ⊢
    obtain ⟨r, a, b, c, _⟩ := end_of (p := p) (st := mapsS8 s (p, false)) (Nat.le_trans (d _ (p, false)) (Nat.le_trans (n _) (Nat.le_trans (d _ _) (Nat.le_trans (n _) (Nat.le_trans (d _ _) (Nat.le_trans (t _ _ _) (Nat.le_trans (d _ _) (t _ _ _)))))))) h
    exact ⟨r, a, b, c⟩
  rw [if_neg h5] at h
  simp at h

theorem cnt_mono (s : ByteArray) {a b : Nat} (h : a ≤ b) : (pcsTo s a).1.length ≤ (pcsTo s b).1.length := by
  induction b with
  | zero => have : a = 0 := by omega
            rw [this]; exact Nat.le_refl _
  | succ b ih =>
    by_cases e : a = b + 1
    · rw [e]; exact Nat.le_refl _
    · refine Nat.le_trans (ih (by omega)) ?_
      simp only [pcsTo]
      split
      · simp
      · exact Nat.le_refl _

theorem cnt_step (s : ByteArray) {r : Nat} (h : byteAt s r = 59) : (pcsTo s (r + 1)).1.length = (pcsTo s r).1.length + 1 := by simp [pcsTo, h]

theorem rdAll_cnt (s : ByteArray) (n p : Nat) (acc : List Item) (hp : p ≤ s.size) : (rdAll s n p acc).1.length + (pcsTo s p).1.length ≤ acc.length + (pcsTo s s.size).1.length := by
  induction n generalizing p acc with
  | zero =>
    have := cnt_mono s hp
    unfold rdAll; split
    · simp; omega
    · simp; omega
  | succ n ih =>
    have := cnt_mono s hp
    unfold rdAll; split
    · split
      · simp; omega
      · rename_i hb
        obtain ⟨r, a, b, c⟩ := item_endC (s := s) (p := p) (by simpa using hb)
        rw [b]
        have hr := byteAt_lt c (by omega)
        have := ih (r + 1) (acc ++ [itemAt s p]) (by omega)
        have h2 := cnt_mono s a
        rw [cnt_step s c] at this
        simp at this ⊢
        omega
    · simp; omega

theorem items_le_pieces (s : ByteArray) : (itemsOf s).length ≤ (pcs s).length := by
  have := rdAll_cnt s 24 0 [] (Nat.zero_le _)
  simp [pcsTo] at this
  unfold pcs itemsOf
  split
  · simp; omega
  · omega

set_option maxRecDepth 100000 in
theorem chk_a0 : chk ⟨#[100, 105, 115, 107, 32, 97, 32, 48, 59]⟩ = (2, 7) := by decide +kernel

end Go.Proofs.Ytdlhgbhaeedbdaa

/- 'awake', 'Places'. -/
namespace Go.Proofs.Ytdlhgbhaeedbdaa
open Go.RowKit

def tA : ByteArray := ⟨#[116, 97, 114, 103, 101, 116, 32, 120, 59, 100, 105, 115, 107, 32, 98, 32, 49, 59, 100, 105, 115, 107, 32, 97, 98, 32, 50, 59, 100, 105, 115, 107, 32, 97, 32, 51, 59]⟩
def tB : ByteArray := ⟨#[100, 105, 115, 107, 32, 97, 32, 51, 59, 100, 105, 115, 107, 32, 97, 98, 32, 50, 59, 100, 105, 115, 107, 32, 98, 32, 49, 59, 116, 97, 114, 103, 101, 116, 32, 120, 59]⟩

set_option maxRecDepth 100000 in
theorem chk_a1 : chk tA = (0, 0) := by decide +kernel
set_option maxRecDepth 100000 in
theorem prt_a1 : (prt tA).data = tB.data := by decide +kernel

theorem prt_a : prt ⟨#[116, 97, 114, 103, 101, 116, 32, 120, 59, 100, 105, 115, 107, 32, 98, 32, 49, 59, 100, 105, 115, 107, 32, 97, 98, 32, 50, 59, 100, 105, 115, 107, 32, 97, 32, 51, 59]⟩ = ⟨#[100, 105, 115, 107, 32, 97, 32, 51, 59, 100, 105, 115, 107, 32, 97, 98, 32, 50, 59, 100, 105, 115, 107, 32, 98, 32, 49, 59, 116, 97, 114, 103, 101, 116, 32, 120, 59]⟩ := congrArg ByteArray.mk prt_a1
theorem chk_a : chk ⟨#[116, 97, 114, 103, 101, 116, 32, 120, 59, 100, 105, 115, 107, 32, 98, 32, 49, 59, 100, 105, 115, 107, 32, 97, 98, 32, 50, 59, 100, 105, 115, 107, 32, 97, 32, 51, 59]⟩ = (0, 0) := chk_a1

set_option maxRecDepth 100000 in
set_option maxHeartbeats 400000 in
theorem awake_any (w : World) : Calls Try.prog 23 #[] w fun e w' => e = .returned (.bool true) ∧ Below w.heap.size w w' := by
  have h1 := check_any ⟨#[100, 105, 115, 107, 32, 97, 32, 48, 59]⟩ w (by decide)
  rw [chk_a0] at h1
  have h2 : ∀ wx, Calls Try.prog 12 #[.string ⟨#[116, 97, 114, 103, 101, 116, 32, 120, 59, 100, 105, 115, 107, 32, 98, 32, 49, 59, 100, 105, 115, 107, 32, 97, 98, 32, 50, 59, 100, 105, 115, 107, 32, 97, 32, 51, 59]⟩] wx fun e w' => e = .returned (.tuple #[.string ⟨#[100, 105, 115, 107, 32, 97, 32, 51, 59, 100, 105, 115, 107, 32, 97, 98, 32, 50, 59, 100, 105, 115, 107, 32, 98, 32, 49, 59, 116, 97, 114, 103, 101, 116, 32, 120, 59]⟩, .int .i64 0]) ∧ Below wx.heap.size wx w' := by
    intro wx
    have := print_any ⟨#[116, 97, 114, 103, 101, 116, 32, 120, 59, 100, 105, 115, 107, 32, 98, 32, 49, 59, 100, 105, 115, 107, 32, 97, 98, 32, 50, 59, 100, 105, 115, 107, 32, 97, 32, 51, 59]⟩ wx (by decide)
    rw [prt_a, chk_a] at this
    exact this
  have H2 := hide h2
  clear h2
  go_enter Try.func23, Try.ntmps23
  go_wp2_with fail
  refine h1.mono ?_
  rintro e w1 ⟨rfl, hb1⟩
  go_wp2_with fail
  refine (unhide H2 _).mono ?_
  rintro e w2 ⟨rfl, hb2⟩
  go_wp2
  go_ret
  exact ⟨rfl, hb1.trans (hb2.mono hb1.size)⟩

end Go.Proofs.Ytdlhgbhaeedbdaa
