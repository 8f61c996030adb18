/- Ho3, Ho4, Pieces, Count, Awake, Kp1. -/
import Derived.Test.YtdlhgbhaeedbdabM15
import Derived.Test.YtdlhgbhaeedbdabM5
import Derived.Test.YtdlhgbhaeedbdabM13
import Derived.Test.YtdlhgbhaeedbdabM14

/- 'Bank.Remove'. -/
namespace Go.Proofs.Ytdlhgbhaeedbdab
open Go.RowKit

/-- The drives that stay. -/
def remB (B : List Bk) (n : ByteArray) : List Bk := B.filter fun q => decide (¬ q.d.name = n)

theorem remB_d (B : List Bk) (n : ByteArray) : (remB B n).map Bk.d = remD (B.map Bk.d) n := by
  simp [remB, remD, List.filter_map, Function.comp_def]

/-- What Remove leaves. -/
def RemEnd (r b : Nat) (B : List Bk) (n : ByteArray) (w : World) (e : Ending) (w' : World) : Prop :=
  e = .returned (.tuple #[]) ∧ (∃ v', w'.cell? ⟨r, 2, none⟩ = some v' ∧ BankAt w' (b + 1) v' (remB B n)) ∧ TK KB w w' ∧ Below (b + 1) w w' ∧ RCell r (fun o => o ≠ 2) w w'

/-- The pointers of a bank, cell by cell. -/
theorem BankAt.cell {w : World} {base : Nat} {a : Option Addr} {n cap : Nat} {B : List Bk} (h : BankAt w base (.slice a n cap) B) (hB : 0 < B.length) : ∃ g, a = some ⟨g, 0, none⟩ ∧ n = B.length ∧ B.length ≤ cap ∧ g < w.heap.size ∧ (∃ cs fr, w.heap[g]? = some (Obj.cells cs 130 fr)) ∧ ∀ i (hi : i < B.length), w.cell? ⟨g, i, none⟩ = some (B[i]).ptr := by
  obtain ⟨hl, ⟨e, h0⟩ | ⟨g, cap', cur, e, hb, hg, hc, _, _, _⟩⟩ := h.row
  · omega
  · simp only [Value.slice.injEq] at e
    obtain ⟨rfl, rfl, rfl⟩ := e
    refine ⟨g, rfl, rfl, hc, (Array.getElem?_eq_some_iff.1 hg).1, ⟨_, _, hg⟩, fun i hi => ?_⟩
    have := h.row.cells (g := g) rfl i (B[i]).ptr (by simp [hi])
    rwa [addr_add] at this

theorem BankAt.removed {w w1 : World} {r b : Nat} {v v' : Value} {B : List Bk} {n : ByteArray} (hr : b < r) (hty : ∃ cs fr, w.heap[r]? = some (Obj.cells cs 94 fr)) (hc : w.cell? ⟨r, 2, none⟩ = some v) (h : BankAt w (b + 1) v B)
    (hb1 : Below w.heap.size w w1) (hn : w1.ownsRow w.heap.size 130 1 v' (remB B n).length ((remB B n).map Bk.ptr)) :
    RemEnd r b B n w (.returned (.tuple #[])) (w1.setCell ⟨r, 2, none⟩ v') := by
  obtain ⟨cs, fr, hty'⟩ := hty
  have hlt : r < w.heap.size := (Array.getElem?_eq_some_iff.1 hty').1
  have hbr : w1.heap[r]? = w.heap[r]? := hb1.block r hlt
  have hts : TK (fun t => t = 94) w1 (w1.setCell ⟨r, 2, none⟩ v') := TK.setCell (T := fun t => t = 94) (hbr.trans hty') rfl v'
  have htk : TK (fun t => t = 94) w (w1.setCell ⟨r, 2, none⟩ v') := (TK.of_below hb1).trans hts
  refine ⟨rfl, ⟨v', World.cell?_setCell_same _ _ _ ((World.cell?_of_block hbr).trans hc), ?_, ?_, ?_⟩, htk.mono fun _ e => .inl e, (hb1.mono (by omega)).setCell (p := ⟨r, 2, none⟩) (by simp; omega) _, (RCell.of_block hbr).trans (RCell.set (by simp) _)⟩
  · exact owns_mono (hts.row (by decide) hn) (by omega)
  · intro q hq
    exact (h.drv q ((List.mem_filter.1 hq).1)).keep htk (by decide) (by decide)
  · exact h.apart.sublist List.filter_sublist

set_option maxRecDepth 100000 in
set_option maxHeartbeats 400000 in
theorem remove_any (r b : Nat) (n : ByteArray) (v : Value) (B : List Bk) (w : World) (hB : B.length ≤ 1000) (hr : b < r) (hty : ∃ cs fr, w.heap[r]? = some (Obj.cells cs 94 fr)) (hc : w.cell? ⟨r, 2, none⟩ = some v) (hf : w.frozen? ⟨r, 2, none⟩ = false) (h : BankAt w (b + 1) v B) :
    Calls Try.prog 75 #[.pointer (some ⟨r, 2, none⟩), .string n] w fun e w' => RemEnd r b B n w e w' := by
  have hlt : r < w.heap.size := by obtain ⟨cs, fr, e⟩ := hty; exact (Array.getElem?_eq_some_iff.1 e).1
  obtain ⟨j0, hj, hy0, hy1, hy2⟩ := info_parts Try.infoPtr
  obtain ⟨a, cap, rfl⟩ := slice_of_owns h.row
  have HH := hide fun w1 v' hb1 hn => BankAt.removed (n := n) (w1 := w1) (v' := v') hr hty hc h hb1 hn
  have Hh := hide h
  clear hty h
  go_enter Try.func75, Try.ntmps75
  go_wp2
  go_loopw [4, 5] (fun tv i wr => ∃ k : Nat, k ≤ B.length ∧ i = .int .i64 k ∧ wr.ownsRow w.heap.size 130 1 tv (remB (B.take k) n).length ((remB (B.take k) n).map Bk.ptr) ∧ Below w.heap.size w wr) (fun _ i _ => B.length - (intOf i).toNat)
  case atStart => exact ⟨0, Nat.zero_le _, rfl, World.ownsRow_nil _ _ _ _, Below.refl _ _⟩
  case round =>
    obtain ⟨k, hk, rfl, hown, hbe⟩ := hrel
    obtain ⟨ta, tc, rfl⟩ := slice_of_owns hown
    have hc2 : wr.cell? ⟨r, 2, none⟩ = some (.slice a B.length cap) := (hbe.cell (p := ⟨r, 2, none⟩) hlt).trans hc
    have hf2 : wr.frozen? ⟨r, 2, none⟩ = false := (hbe.frozen (p := ⟨r, 2, none⟩) hlt).trans hf
    have hs := hbe.size
    by_cases hlt2 : k < B.length
    · obtain ⟨g, rfl, _, hcap, hg, _, hcell⟩ := (unhide Hh).cell (by omega)
      obtain ⟨q, hq⟩ : ∃ q, q = B[k] := ⟨_, rfl⟩
      have hd := (unhide Hh).drv q (by rw [hq]; exact List.getElem_mem hlt2)
      have d0 : wr.cell? ⟨g, k, none⟩ = some (.pointer (some ⟨q.p, 0, none⟩)) := by rw [hq]; exact (hbe.cell (p := ⟨g, k, none⟩) hg).trans (hcell k hlt2)
      have d1 : wr.cell? ⟨q.p, 0, none⟩ = some (.string q.d.name) := by
        have := (hbe.block q.p hd.lt).trans hd.blk
        simp [World.cell?, this, drvCells]
      have hlt' : (k : Int) < (B.length : Int) := by omega
      have hstep : remB (B.take (k + 1)) n = remB (B.take k) n ++ (if q.d.name = n then [] else [q]) := by
        rw [List.take_succ_eq_append_getElem hlt2, ← hq]
        unfold remB
        rw [List.filter_append]
        congr 1
        by_cases e : q.d.name = n <;> simp [e]
      by_cases he : q.d.name = n
      · rw [if_pos he, List.append_nil] at hstep
        have Hst := hide hstep
        have he' : (q.d.name.toList == n.toList) = true := by rw [he]; simp
        clear hstep he hq hd hcell
        go_wp2
        go_roundw
        case rel => exact ⟨k + 1, by omega, by go_num, by rw [unhide Hst]; exact hown, hbe⟩
        case measure => simp [intOf]; omega
      · rw [if_neg he] at hstep
        have Hst := hide hstep
        have he' : (q.d.name.toList == n.toList) = false := by rw [beq_eq_false_iff_ne]; exact fun e => he (tl_inj e)
        have hlr : (remB (B.take k) n).length ≤ 1000 := Nat.le_trans (List.length_filter_le _ _) (by rw [List.length_take]; omega)
        clear hstep he hq hd hcell
        generalize hT : remB (B.take k) n = T at *
        clear hT
        go_wp2_with (at_builtin; refine wpList_append_own _ rfl _ _ 86 rfl w.heap.size 130 j0 (.pointer none) 1 8 Try.underlying86 hj hy0 hy1 hy2 rfl (by decide) (.slice ta T.length tc) T.length (T.map Bk.ptr) ?hs ?c0 ⟨wr.heap.size, 0, none⟩ 1 1 [.pointer (some ⟨q.p, 0, none⟩)] ?hx rfl ?c1 (one_ptr _) ?c3 ?c4 ?c5 ?_)
        case c0 => exact hown.alloc _
        case c3 => unfold maxLen; omega
        case c4 => omega
        case c5 => first | omega | (simp; omega)
        intro v' w2 hown' hgrow _
        have hba := hbe.alloc hs (.cells #[.pointer (some ⟨q.p, 0, none⟩)] 130)
        have hb2 : Below w.heap.size w w2 := hba.grown hgrow (by have := hba.size; simp; omega) (fun k e => (hown.lt k e).1)
        clear hgrow
        go_wp2
        go_roundw
        case rel => exact ⟨k + 1, by omega, by go_num, by rw [unhide Hst, List.length_append, List.map_append]; exact hown', hb2⟩
        case measure => simp [intOf]; omega
    · have hkl : k = B.length := by omega
      have hall : B.take k = B := List.take_of_length_le (by omega)
      rw [hall] at hown ⊢
      have HE := hide (unhide HH _ _ hbe hown)
      have hnl : ¬ (k : Int) < (B.length : Int) := by omega
      clear hall hkl hown HH
      go_wp2
      go_end0
      exact unhide HE

end Go.Proofs.Ytdlhgbhaeedbdab

/- Sessions in memory; 'Table.Tell', 'Table.Of', 'Rack.endSessions', where no session is meant. -/
namespace Go.Proofs.Ytdlhgbhaeedbdab
open Go.RowKit

def sesCells1 (s : Ses) : List Value := [.int .i64 s.number, .string s.target, .string s.host, .bool s.news]
def sesCells (S : List Ses) : List Value := S.flatMap sesCells1

/-- A session lies in block g from offset o on. -/
structure SesAt (w : World) (g o : Nat) (s : Ses) : Prop where
  c0 : w.cell? ⟨g, o, none⟩ = some (.int .i64 s.number)
  c1 : w.cell? ⟨g, o + 1, none⟩ = some (.string s.target)
  c2 : w.cell? ⟨g, o + 2, none⟩ = some (.string s.host)
  c3 : w.cell? ⟨g, o + 3, none⟩ = some (.bool s.news)

theorem sesCells_get (S : List Ses) (i : Nat) (h : i < S.length) (c : Nat) (hc : c < 4) : (sesCells S)[i * 4 + c]? = (sesCells1 S[i])[c]? := by
  induction S generalizing i with
  | nil => simp at h
  | cons a l ih =>
    simp only [sesCells, List.flatMap_cons]
    have h8 : (sesCells1 a).length = 4 := by simp [sesCells1]
    match i with
    | 0 => rw [List.getElem?_append_left (by omega)]; simp
    | i + 1 =>
      rw [List.getElem?_append_right (by omega), h8, show (i + 1) * 4 + c - 4 = i * 4 + c from by omega]
      exact ih i (by simpa using h)

/-- The sessions S, in the row v. -/
def SesRow (w : World) (base : Nat) (v : Value) (S : List Ses) : Prop := w.ownsRow base 127 4 v S.length (sesCells S)

theorem SesRow.cells {w : World} {base : Nat} {v : Value} {S : List Ses} (h : SesRow w base v S) : (v = .slice none 0 0 ∧ S = []) ∨ ∃ g cap, v = .slice (some ⟨g, 0, none⟩) S.length cap ∧ S.length ≤ cap ∧ base ≤ g ∧ g < w.heap.size ∧ (∃ cs, w.heap[g]? = some (Obj.cells cs 127 (0, 0))) ∧ ∀ i (hi : i < S.length), SesAt w g (i * 4) S[i] := by
  have hh := h
  obtain ⟨_, ⟨rfl, h0⟩ | ⟨g, cap, cur, rfl, hb, hg, hc, _, _, _⟩⟩ := hh
  · exact Or.inl ⟨rfl, List.length_eq_zero_iff.1 h0⟩
  · refine Or.inr ⟨g, cap, rfl, hc, hb, (World.ownsRow.lt h g rfl).2, ⟨_, hg⟩, fun i hi => ?_⟩
    have hcl := World.ownsRow.cells h (g := g) rfl
    have key : ∀ c, c < 4 → ∀ u, (sesCells1 S[i])[c]? = some u → w.cell? ⟨g, i * 4 + c, none⟩ = some u := by
      intro c hc u hu
      have := hcl (i * 4 + c) u (by rw [sesCells_get S i hi c hc]; exact hu)
      rwa [addr_add] at this
    exact ⟨key 0 (by omega) _ rfl, key 1 (by omega) _ rfl, key 2 (by omega) _ rfl, key 3 (by omega) _ rfl⟩

theorem ofB_cases {t h : ByteArray} {s : Ses} (e : ofB t h s = false) : (s.target.toList == t.toList) = false ∨ ((s.target.toList == t.toList) = true ∧ (s.host.toList == h.toList) = false) := by
  simp only [ofB, decide_eq_false_iff_not] at e
  by_cases h1 : s.target = t
  · right
    refine ⟨by rw [h1]; simp, ?_⟩
    rw [beq_eq_false_iff_ne]
    exact fun e2 => e ⟨h1, tl_inj e2⟩
  · left
    rw [beq_eq_false_iff_ne]
    exact fun e2 => h1 (tl_inj e2)

set_option maxRecDepth 100000 in
set_option maxHeartbeats 400000 in
theorem tell_none (r base : Nat) (t h : ByteArray) (v : Value) (S : List Ses) (w : World) (hS : S.length ≤ 1000) (hc : w.cell? ⟨r, 3, none⟩ = some v) (hrow : SesRow w base v S) (hno : ∀ s ∈ S, ofB t h s = false) :
    Calls Try.prog 77 #[.pointer (some ⟨r, 3, none⟩), .string t, .string h] w fun e w' => e = .returned (.tuple #[]) ∧ w' = w := by
  rcases hrow.cells with ⟨rfl, rfl⟩ | ⟨g, cap, rfl, hcap, _, hg, _, hit⟩
  · clear hrow
    go_enter Try.func77, Try.ntmps77
    go_wp2
    refine wp_loop_rounds 1 ?_
    rw [rounds_succ]
    go_wp2
    go_end0
    exact ⟨rfl, rfl⟩
  · have Hno := hide hno
    clear hno hrow
    go_enter Try.func77, Try.ntmps77
    go_wp2
    go_loopw [6] (fun i wr => ∃ k : Nat, k ≤ S.length ∧ i = .int .i64 k ∧ wr = w) (fun i _ => S.length - (intOf i).toNat)
    case atStart => exact ⟨0, Nat.zero_le _, rfl, rfl⟩
    case round =>
      obtain ⟨k, hk, rfl, rfl⟩ := hrel
      by_cases hlt : k < S.length
      · obtain ⟨s, hs⟩ : ∃ s, s = S[k] := ⟨_, rfl⟩
        have hi := hit k hlt
        rw [← hs] at hi
        have hof := unhide Hno s (by rw [hs]; exact List.getElem_mem hlt)
        obtain ⟨c0, c1, c2, c3⟩ := hi
        have hlt' : (k : Int) < (S.length : Int) := by omega
        clear hs
        rcases ofB_cases hof with h1 | ⟨h1, h2⟩
        all_goals
          clear hof
          go_wp2
          go_roundw
          case rel => exact ⟨k + 1, by omega, by go_num, by first | rfl | trivial⟩
          case measure => simp [intOf]; omega
      · have hnl : ¬ (k : Int) < (S.length : Int) := by omega
        go_wp2
        go_end0
        exact ⟨rfl, rfl⟩

set_option maxRecDepth 100000 in
set_option maxHeartbeats 400000 in
theorem of_none (r base : Nat) (t h : ByteArray) (v : Value) (S : List Ses) (w : World) (hS : S.length ≤ 1000) (hc : w.cell? ⟨r, 3, none⟩ = some v) (hrow : SesRow w base v S) (hno : ∀ s ∈ S, ofB t h s = false) :
    Calls Try.prog 94 #[.pointer (some ⟨r, 3, none⟩), .string t, .string h] w fun e w' => e = .returned (.slice none 0 0) ∧ w' = w := by
  rcases hrow.cells with ⟨rfl, rfl⟩ | ⟨g, cap, rfl, hcap, _, hg, _, hit⟩
  · clear hrow
    go_enter Try.func94, Try.ntmps94
    go_wp2
    refine wp_loop_rounds 1 ?_
    rw [rounds_succ]
    go_wp2
    go_ret
    exact ⟨rfl, rfl⟩
  · have Hno := hide hno
    clear hno hrow
    go_enter Try.func94, Try.ntmps94
    go_wp2
    go_loopw [7, 8] (fun u i wr => ∃ k : Nat, k ≤ S.length ∧ u = .slice none 0 0 ∧ i = .int .i64 k ∧ wr = w) (fun _ i _ => S.length - (intOf i).toNat)
    case atStart => exact ⟨0, Nat.zero_le _, rfl, rfl, rfl⟩
    case round =>
      obtain ⟨k, hk, rfl, rfl, rfl⟩ := hrel
      by_cases hlt : k < S.length
      · obtain ⟨s, hs⟩ : ∃ s, s = S[k] := ⟨_, rfl⟩
        have hi := hit k hlt
        rw [← hs] at hi
        have hof := unhide Hno s (by rw [hs]; exact List.getElem_mem hlt)
        obtain ⟨c0, c1, c2, c3⟩ := hi
        have hlt' : (k : Int) < (S.length : Int) := by omega
        clear hs
        rcases ofB_cases hof with h1 | ⟨h1, h2⟩
        all_goals
          clear hof
          go_wp2
          go_roundw
          case rel => exact ⟨k + 1, by omega, rfl, by go_num, by first | rfl | trivial⟩
          case measure => simp [intOf]; omega
      · have hnl : ¬ (k : Int) < (S.length : Int) := by omega
        go_wp2
        go_ret
        exact ⟨rfl, rfl⟩

set_option maxRecDepth 100000 in
set_option maxHeartbeats 400000 in
theorem ends_none (r base : Nat) (t h : ByteArray) (v : Value) (S : List Ses) (w : World) (hS : S.length ≤ 1000) (hc : w.cell? ⟨r, 3, none⟩ = some v) (hrow : SesRow w base v S) (hno : ∀ s ∈ S, ofB t h s = false) :
    Calls Try.prog 76 #[.pointer (some ⟨r, 0, none⟩), .string t, .string h] w fun e w' => e = .returned (.tuple #[]) ∧ w' = w := by
  have HO := hide (of_none r base t h v S w hS hc hrow hno)
  clear hrow hno hc
  go_enter Try.func76, Try.ntmps76
  go_wp2_with fail
  refine (unhide HO).mono ?_
  rintro e w1 ⟨rfl, rfl⟩
  go_wp2
  refine wp_loop_rounds 1 ?_
  rw [rounds_succ]
  go_wp2
  go_end0
  exact ⟨rfl, rfl⟩

end Go.Proofs.Ytdlhgbhaeedbdab

/- 'pieces', 'awake'. -/
namespace Go.Proofs.Ytdlhgbhaeedbdab
open Go.RowKit

theorem Try.infoString : (Try.prog.info? 9).map (fun i => (i.zero, i.size, i.bytes)) = some (some (.string ⟨#[]⟩), 1, 16) := by kernel_rfl

/-- The pieces of the first k bytes, and where the next one begins. -/
def pcsTo (s : ByteArray) : Nat → List ByteArray × Nat
  | 0 => ([], 0)
  | k + 1 => if byteAt s k = 59 then ((pcsTo s k).1 ++ [s.extract (pcsTo s k).2 (k + 1)], k + 1) else pcsTo s k
/-- The pieces of a text. -/
def pcs (s : ByteArray) : List ByteArray := if (pcsTo s s.size).2 < s.size then (pcsTo s s.size).1 ++ [s.extract (pcsTo s s.size).2 s.size] else (pcsTo s s.size).1

theorem pcsTo_le (s : ByteArray) (k : Nat) : (pcsTo s k).2 ≤ k ∧ (pcsTo s k).1.length ≤ k := by
  induction k with
  | zero => simp [pcsTo]
  | succ k ih =>
    simp only [pcsTo]
    split
    · simp; omega
    · omega

def strVals (l : List ByteArray) : List Value := l.map Value.string

theorem one_str (x : ByteArray) : ∀ u ∈ [Value.string x], u.oneCell' = true := by intro u hu; simp at hu; subst hu; rfl

end Go.Proofs.Ytdlhgbhaeedbdab

/- As many pieces as items; 'awake'. -/
namespace Go.Proofs.Ytdlhgbhaeedbdab
open Go.RowKit

theorem byteAt_lt {s : ByteArray} {p : Nat} {c : Int} (h : byteAt s p = c) (hc : 0 ≤ c) : p < s.size := by
  by_cases hp : p < s.size
  · exact hp
  · rw [byteAt_out hp] at h; omega

theorem end_of {s : ByteArray} {st : Nat × Bool} {p : Nat} (hp : p ≤ st.1) (h : (wd s [59] st).2 = false) : ∃ r, p ≤ r ∧ wd s [59] st = (r + 1, false) ∧ byteAt s r = 59 ∧ st = (r, false) := by
  obtain ⟨h1, h2, h3⟩ := tk_ok (s := s) (lo := ((59 : UInt8).toNat : Int)) (hi := ((59 : UInt8).toNat : Int)) (st := st) h
  refine ⟨st.1, hp, h3, ?_, Prod.ext rfl h1⟩
  simp [seesB] at h2
  omega

theorem item_endC {s : ByteArray} {p : Nat} (h : (itemS s (p, false)).2 = false) : ∃ r, p ≤ r ∧ itemS s (p, false) = (r + 1, false) ∧ byteAt s r = 59 := by
  have t := tk_mono s
  have d := wd_mono s
  have n := nmS_mono s
  have m := mdS_mono s
  unfold itemS at h ⊢
  simp only at h ⊢
  by_cases h1 : byteAt s p = 100
  · simp only [h1, if_true] at h ⊢
    obtain ⟨r, a, b, c, _⟩ := end_of (p := p) (st := diskS4 s (p, false)) (Nat.le_trans (d _ (p, false)) (Nat.le_trans (n _) (Nat.le_trans (d _ _) (t _ _ _)))) h
    exact ⟨r, a, b, c⟩
  rw [if_neg h1] at h ⊢
  by_cases h2 : byteAt s p = 116
  · rw [if_pos h2] at h ⊢
    obtain ⟨r, a, b, c, _⟩ := end_of (p := p) (st := targetS2 s (p, false)) (Nat.le_trans (d _ (p, false)) (n _)) h
    exact ⟨r, a, b, c⟩
  rw [if_neg h2] at h ⊢
  by_cases h3 : byteAt s p = 108
  · rw [if_pos h3] at h ⊢
    obtain ⟨r, a, b, c, _⟩ := end_of (p := p) (st := lunS8 s (p, false)) (Nat.le_trans (d _ (p, false)) (Nat.le_trans (n _) (Nat.le_trans (d _ _) (Nat.le_trans (t _ _ _) (Nat.le_trans (d _ _) (Nat.le_trans (n _) (Nat.le_trans (d _ _) (m _)))))))) h
    exact ⟨r, a, b, c⟩
  rw [if_neg h3] at h ⊢
  by_cases h4 : byteAt s p = 104
  · rw [if_pos h4] at h ⊢
    obtain ⟨r, a, b, c, _⟩ := end_of (p := p) (st := hostS4 s (p, false)) (Nat.le_trans (d _ (p, false)) (Nat.le_trans (n _) (Nat.le_trans (d _ _) (n _)))) h
    exact ⟨r, a, b, c⟩
  rw [if_neg h4] at h ⊢
  by_cases h5 : byteAt s p = 109
  · rw [if_pos h5] at h ⊢
    obtain ⟨r, a, b, c, _⟩ := end_of (p := p) (st := mapsS8 s (p, false)) (Nat.le_trans (d _ (p, false)) (Nat.le_trans (n _) (Nat.le_trans (d _ _) (Nat.le_trans (n _) (Nat.le_trans (d _ _) (Nat.le_trans (t _ _ _) (Nat.le_trans (d _ _) (t _ _ _)))))))) h
    exact ⟨r, a, b, c⟩
  rw [if_neg h5] at h
  simp at h

theorem cnt_mono (s : ByteArray) {a b : Nat} (h : a ≤ b) : (pcsTo s a).1.length ≤ (pcsTo s b).1.length := by
  induction b with
  | zero => have : a = 0 := by omega
            rw [this]; exact Nat.le_refl _
  | succ b ih =>
    by_cases e : a = b + 1
    · rw [e]; exact Nat.le_refl _
    · refine Nat.le_trans (ih (by omega)) ?_
      simp only [pcsTo]
      split
      · simp
      · exact Nat.le_refl _

theorem cnt_step (s : ByteArray) {r : Nat} (h : byteAt s r = 59) : (pcsTo s (r + 1)).1.length = (pcsTo s r).1.length + 1 := by simp [pcsTo, h]

theorem rdAll_cnt (s : ByteArray) (n p : Nat) (acc : List Item) (hp : p ≤ s.size) : (rdAll s n p acc).1.length + (pcsTo s p).1.length ≤ acc.length + (pcsTo s s.size).1.length := by
  induction n generalizing p acc with
  | zero =>
    have := cnt_mono s hp
    unfold rdAll; split
    · simp; omega
    · simp; omega
  | succ n ih =>
    have := cnt_mono s hp
    unfold rdAll; split
    · split
      · simp; omega
      · rename_i hb
        obtain ⟨r, a, b, c⟩ := item_endC (s := s) (p := p) (by simpa using hb)
        rw [b]
        have hr := byteAt_lt c (by omega)
        have := ih (r + 1) (acc ++ [itemAt s p]) (by omega)
        have h2 := cnt_mono s a
        rw [cnt_step s c] at this
        simp at this ⊢
        omega
    · simp; omega

theorem items_le_pieces (s : ByteArray) : (itemsOf s).length ≤ (pcs s).length := by
  have := rdAll_cnt s 24 0 [] (Nat.zero_le _)
  simp [pcsTo] at this
  unfold pcs itemsOf
  split
  · simp; omega
  · omega

set_option maxRecDepth 100000 in
theorem chk_a0 : chk ⟨#[100, 105, 115, 107, 32, 97, 32, 48, 59]⟩ = (2, 7) := by decide +kernel

end Go.Proofs.Ytdlhgbhaeedbdab

/- 'awake', 'Places'. -/
namespace Go.Proofs.Ytdlhgbhaeedbdab
open Go.RowKit

def tA : ByteArray := ⟨#[116, 97, 114, 103, 101, 116, 32, 120, 59, 100, 105, 115, 107, 32, 98, 32, 49, 59, 100, 105, 115, 107, 32, 97, 98, 32, 50, 59, 100, 105, 115, 107, 32, 97, 32, 51, 59]⟩
def tB : ByteArray := ⟨#[100, 105, 115, 107, 32, 97, 32, 51, 59, 100, 105, 115, 107, 32, 97, 98, 32, 50, 59, 100, 105, 115, 107, 32, 98, 32, 49, 59, 116, 97, 114, 103, 101, 116, 32, 120, 59]⟩

set_option maxRecDepth 100000 in
theorem chk_a1 : chk tA = (0, 0) := by decide +kernel
set_option maxRecDepth 100000 in
theorem prt_a1 : (prt tA).data = tB.data := by decide +kernel

theorem prt_a : prt ⟨#[116, 97, 114, 103, 101, 116, 32, 120, 59, 100, 105, 115, 107, 32, 98, 32, 49, 59, 100, 105, 115, 107, 32, 97, 98, 32, 50, 59, 100, 105, 115, 107, 32, 97, 32, 51, 59]⟩ = ⟨#[100, 105, 115, 107, 32, 97, 32, 51, 59, 100, 105, 115, 107, 32, 97, 98, 32, 50, 59, 100, 105, 115, 107, 32, 98, 32, 49, 59, 116, 97, 114, 103, 101, 116, 32, 120, 59]⟩ := congrArg ByteArray.mk prt_a1
theorem chk_a : chk ⟨#[116, 97, 114, 103, 101, 116, 32, 120, 59, 100, 105, 115, 107, 32, 98, 32, 49, 59, 100, 105, 115, 107, 32, 97, 98, 32, 50, 59, 100, 105, 115, 107, 32, 97, 32, 51, 59]⟩ = (0, 0) := chk_a1

set_option maxRecDepth 100000 in
set_option maxHeartbeats 400000 in
theorem awake_any (w : World) : Calls Try.prog 45 #[] w fun e w' => e = .returned (.bool true) ∧ Below w.heap.size w w' := by
  have h1 := check_any ⟨#[100, 105, 115, 107, 32, 97, 32, 48, 59]⟩ w (by decide)
  rw [chk_a0] at h1
  have h2 : ∀ wx, Calls Try.prog 13 #[.string ⟨#[116, 97, 114, 103, 101, 116, 32, 120, 59, 100, 105, 115, 107, 32, 98, 32, 49, 59, 100, 105, 115, 107, 32, 97, 98, 32, 50, 59, 100, 105, 115, 107, 32, 97, 32, 51, 59]⟩] wx fun e w' => e = .returned (.tuple #[.string ⟨#[100, 105, 115, 107, 32, 97, 32, 51, 59, 100, 105, 115, 107, 32, 97, 98, 32, 50, 59, 100, 105, 115, 107, 32, 98, 32, 49, 59, 116, 97, 114, 103, 101, 116, 32, 120, 59]⟩, .int .i64 0]) ∧ Below wx.heap.size wx w' := by
    intro wx
    have := print_any ⟨#[116, 97, 114, 103, 101, 116, 32, 120, 59, 100, 105, 115, 107, 32, 98, 32, 49, 59, 100, 105, 115, 107, 32, 97, 98, 32, 50, 59, 100, 105, 115, 107, 32, 97, 32, 51, 59]⟩ wx (by decide)
    rw [prt_a, chk_a] at this
    exact this
  have H2 := hide h2
  clear h2
  go_enter Try.func45, Try.ntmps45
  go_wp2_with fail
  refine h1.mono ?_
  rintro e w1 ⟨rfl, hb1⟩
  go_wp2_with fail
  refine (unhide H2 _).mono ?_
  rintro e w2 ⟨rfl, hb2⟩
  go_wp2
  go_ret
  exact ⟨rfl, hb1.trans (hb2.mono hb1.size)⟩

end Go.Proofs.Ytdlhgbhaeedbdab

/- 'stepping', 'planned'. -/
namespace Go.Proofs.Ytdlhgbhaeedbdab
open Go.RowKit

/-- A list of texts in new memory. -/
theorem tx_of_owns {w : World} {base : Nat} {v : Value} {ss : List ByteArray} (h : w.ownsRow base 9 1 v ss.length (ss.map Value.string)) :
    ∃ a cap, v = .slice a ss.length cap ∧ ss.length ≤ cap ∧ ((a = none ∧ ss = [] ∧ cap = 0) ∨ ∃ g, a = some ⟨g, 0, none⟩ ∧ base ≤ g ∧ g < w.heap.size ∧ ∀ i (h : i < ss.length), w.cell? ⟨g, i, none⟩ = some (.string ss[i])) := by
  have hh := h
  obtain ⟨_, ⟨rfl, h0⟩ | ⟨g, cap, cur, rfl, hb, hg, hc, _, _, _⟩⟩ := hh
  · have : ss = [] := List.length_eq_zero_iff.1 h0
    exact ⟨none, 0, by rw [h0], by omega, Or.inl ⟨rfl, this, rfl⟩⟩
  · refine ⟨some ⟨g, 0, none⟩, cap, rfl, hc, Or.inr ⟨g, rfl, hb, (h.lt g rfl).2, fun i hi => ?_⟩⟩
    have := h.cells (g := g) rfl i (.string ss[i]) (by simp [hi])
    rwa [addr_add] at this

theorem TxAt.of_new {w : World} {base : Nat} {a : Option Addr} {cap : Nat} {ss : List ByteArray} (h : (a = none ∧ ss = [] ∧ cap = 0) ∨ ∃ g, a = some ⟨g, 0, none⟩ ∧ base ≤ g ∧ g < w.heap.size ∧ ∀ i (h : i < ss.length), w.cell? ⟨g, i, none⟩ = some (.string ss[i])) : TxAt w a ss := by
  rcases h with ⟨_, h, _⟩ | ⟨g, h1, _, h2, h3⟩
  · exact Or.inl h
  · exact Or.inr ⟨g, 0, h1, h2, fun i hi => by rw [Nat.zero_add]; exact h3 i hi⟩

theorem data_inj {l m : List ByteArray} (h : l.map ByteArray.data = m.map ByteArray.data) : l = m := by
  induction l generalizing m with
  | nil => cases m with
           | nil => rfl
           | cons a m => simp at h
  | cons a l ih =>
    cases m with
    | nil => simp at h
    | cons b m =>
      simp only [List.map_cons, List.cons.injEq] at h
      rw [ih h.2, ByteArray.ext h.1]

def dA : ByteArray := ⟨#[100, 105, 115, 107, 32, 97, 32, 52, 59]⟩
def dB : ByteArray := ⟨#[100, 105, 115, 107, 32, 97, 32, 53, 59]⟩
def dS : List ByteArray := [⟨#[45, 100, 105, 115, 107, 32, 97, 32, 52, 59]⟩, ⟨#[43, 100, 105, 115, 107, 32, 97, 32, 53, 59]⟩]

set_option maxRecDepth 100000 in
theorem pl_d0 : (pl dA dB).map ByteArray.data = dS.map ByteArray.data ∧ plErr dA dB = 0 := by decide +kernel
set_option maxRecDepth 100000 in
theorem wk_d0 : (wkTxt dA dS).data = dB.data ∧ wkN dA dS = 2 ∧ wkErr dA dS = 0 := by decide +kernel
theorem pl_d : pl dA dB = dS := data_inj pl_d0.1
theorem wk_d : wkTxt dA dS = dB := ByteArray.ext wk_d0.1

set_option maxRecDepth 100000 in
set_option maxHeartbeats 400000 in
theorem stepping_any (w : World) : Calls Try.prog 20 #[] w fun e w' => e = .returned (.bool true) ∧ Below w.heap.size w w' := by
  have h1 : ∀ wx, Calls Try.prog 22 #[.string ⟨#[100, 105, 115, 107, 32, 97, 32, 52, 59]⟩, .string ⟨#[100, 105, 115, 107, 32, 97, 32, 53, 59]⟩] wx fun e w' => ∃ g cap, e = .returned (.tuple #[.slice (some ⟨g, 0, none⟩) 2 cap, .int .i64 0]) ∧ g < w'.heap.size ∧ TxAt w' (some ⟨g, 0, none⟩) dS ∧ w'.cell? ⟨g, 0, none⟩ = some (.string ⟨#[45, 100, 105, 115, 107, 32, 97, 32, 52, 59]⟩) ∧ Below wx.heap.size wx w' := by
    intro wx
    refine (plan_any dA dB wx (by decide) (by decide)).mono ?_
    rintro e w' ⟨v, rfl, ho, hb⟩
    rw [pl_d] at ho
    rw [pl_d0.2]
    obtain ⟨a, cap, rfl, _, h⟩ := tx_of_owns ho
    have ht := TxAt.of_new h
    rcases h with ⟨_, h, _⟩ | ⟨g, rfl, _, hg, hc⟩
    · simp [dS] at h
    · exact ⟨g, cap, rfl, hg, ht, hc 0 (by decide), hb⟩
  have h2 : ∀ wx a cap, TxAt wx a dS → Calls Try.prog 10 #[.string ⟨#[100, 105, 115, 107, 32, 97, 32, 52, 59]⟩, .slice a 2 cap] wx fun e w' => e = .returned (.tuple #[.string ⟨#[100, 105, 115, 107, 32, 97, 32, 53, 59]⟩, .int .i64 2, .int .i64 0]) ∧ Below wx.heap.size wx w' := by
    intro wx a cap ht
    have := walk_any dA a cap dS wx (by decide) (by decide) (by decide) ht
    rw [wk_d, wk_d0.2.1, wk_d0.2.2] at this
    exact this
  have H1 := hide h1
  have H2 := hide h2
  clear h1 h2
  go_enter Try.func20, Try.ntmps20
  go_wp2_with fail
  refine (awake_any _).mono ?_
  rintro e w1 ⟨rfl, hb1⟩
  have hl1 := hb1.size
  go_wp2_with fail
  refine (unhide H1 _).mono ?_
  rintro e w2 ⟨g, cap, rfl, hg, ht, hc, hb2⟩
  have hl2 := hb2.size
  go_wp2_with fail
  refine (unhide H2 _ _ _ ht).mono ?_
  rintro e w3 ⟨rfl, hb3⟩
  have hc3 := (hb3.cell (p := ⟨g, 0, none⟩) hg).trans hc
  clear hc
  go_wp2
  go_ret
  exact ⟨rfl, (hb1.trans (hb2.mono hl1)).trans (hb3.mono (by omega))⟩

/-- Are both texts arrangements? -/
def bothB (s t : ByteArray) : Bool := decide (plErr s t = 0)

theorem plErr_le (s t : ByteArray) : plErr s t ≤ 4 := by unfold plErr; split <;> exact chk_le _

set_option maxRecDepth 100000 in
set_option maxHeartbeats 400000 in
theorem planned_any (s t : ByteArray) (w : World) (hs : s.size ≤ maxLen) (ht : t.size ≤ maxLen) :
    Calls Try.prog 5 #[.string s, .string t] w fun e w' => ∃ v, e = .returned (.tuple #[v, .bool (bothB s t), .bool true]) ∧ w'.ownsRow w.heap.size 9 1 v (pl s t).length ((pl s t).map Value.string) ∧ Below w.heap.size w w' := by
  have hc1 := fun wx => check_any s wx hs
  have hc2 := fun wx => check_any t wx ht
  have hpl := fun wx => plan_any s t wx hs ht
  have hlen : plErr s t ≠ 0 → (pl s t).length = 0 := fun h => by simp [pl, h]
  have hdef : plErr s t = if (chk s).1 = 0 then (chk t).1 else (chk s).1 := rfl
  unfold bothB
  by_cases h0 : (chk s).1 = 0
  · rw [if_pos h0] at hdef
    have h0' : ((((chk s).1 : Nat) : Int) == 0) = true := by rw [beq_iff_eq]; omega
    rw [hdef] at hpl hlen ⊢
    by_cases h1 : (chk t).1 = 0
    · have h1' : ((((chk t).1 : Nat) : Int) == 0) = true := by rw [beq_iff_eq]; omega
      rw [show decide ((chk t).1 = 0) = true from decide_eq_true h1]
      generalize (chk s).1 = c1 at *
      generalize (chk t).1 = c2 at *
      have H1 := hide hc1
      have H2 := hide hc2
      have H3 := hide hpl
      clear hc1 hc2 hpl hdef hlen h0 h1
      go_enter Try.func5, Try.ntmps5
      go_wp2_with fail
      refine (stepping_any _).mono ?_
      rintro e w1 ⟨rfl, hb1⟩
      have hl1 := hb1.size
      go_wp2_with fail
      refine (unhide H1 _).mono ?_
      rintro e w2 ⟨rfl, hb2⟩
      have hl2 := hb2.size
      go_wp2_with fail
      refine (unhide H2 _).mono ?_
      rintro e w3 ⟨rfl, hb3⟩
      have hl3 := hb3.size
      go_wp2_with fail
      refine (unhide H3 _).mono ?_
      rintro e w4 ⟨v, rfl, hown, hb4⟩
      obtain ⟨a, cap, rfl⟩ := slice_of_owns hown
      go_wp2
      go_ret3
      exact ⟨_, rfl, owns_mono hown (by omega), ((hb1.trans (hb2.mono hl1)).trans (hb3.mono (by omega))).trans (hb4.mono (by omega))⟩
    · have h1' : ((((chk t).1 : Nat) : Int) == 0) = false := by rw [beq_eq_false_iff_ne]; omega
      rw [show decide ((chk t).1 = 0) = false from decide_eq_false h1]
      have hl0 := hlen h1
      simp only [hl0] at hpl
      rw [hl0]
      clear hl0
      generalize (chk s).1 = c1 at *
      generalize (chk t).1 = c2 at *
      have H1 := hide hc1
      have H2 := hide hc2
      have H3 := hide hpl
      clear hc1 hc2 hpl hdef hlen h0 h1
      go_enter Try.func5, Try.ntmps5
      go_wp2_with fail
      refine (stepping_any _).mono ?_
      rintro e w1 ⟨rfl, hb1⟩
      have hl1 := hb1.size
      go_wp2_with fail
      refine (unhide H1 _).mono ?_
      rintro e w2 ⟨rfl, hb2⟩
      have hl2 := hb2.size
      go_wp2_with fail
      refine (unhide H2 _).mono ?_
      rintro e w3 ⟨rfl, hb3⟩
      have hl3 := hb3.size
      go_wp2_with fail
      refine (unhide H3 _).mono ?_
      rintro e w4 ⟨v, rfl, hown, hb4⟩
      obtain ⟨a, cap, rfl⟩ := slice_of_owns hown
      go_wp2
      go_ret3
      exact ⟨_, rfl, owns_mono hown (by omega), ((hb1.trans (hb2.mono hl1)).trans (hb3.mono (by omega))).trans (hb4.mono (by omega))⟩
  · rw [if_neg h0] at hdef
    have h0' : ((((chk s).1 : Nat) : Int) == 0) = false := by rw [beq_eq_false_iff_ne]; omega
    rw [hdef] at hpl hlen ⊢
    rw [show decide ((chk s).1 = 0) = false from decide_eq_false h0]
    have hl0 := hlen h0
    simp only [hl0] at hpl
    rw [hl0]
    clear hl0
    generalize (chk s).1 = c1 at *
    generalize (chk t).1 = c2 at *
    have H1 := hide hc1
    have H2 := hide hc2
    have H3 := hide hpl
    clear hc1 hc2 hpl hdef hlen h0
    go_enter Try.func5, Try.ntmps5
    go_wp2_with fail
    refine (stepping_any _).mono ?_
    rintro e w1 ⟨rfl, hb1⟩
    have hl1 := hb1.size
    go_wp2_with fail
    refine (unhide H1 _).mono ?_
    rintro e w2 ⟨rfl, hb2⟩
    have hl2 := hb2.size
    go_wp2_with fail
    refine (unhide H2 _).mono ?_
    rintro e w3 ⟨rfl, hb3⟩
    have hl3 := hb3.size
    go_wp2_with fail
    refine (unhide H3 _).mono ?_
    rintro e w4 ⟨v, rfl, hown, hb4⟩
    obtain ⟨a, cap, rfl⟩ := slice_of_owns hown
    go_wp2
    go_ret3
    exact ⟨_, rfl, owns_mono hown (by omega), ((hb1.trans (hb2.mono hl1)).trans (hb3.mono (by omega))).trans (hb4.mono (by omega))⟩

end Go.Proofs.Ytdlhgbhaeedbdab
