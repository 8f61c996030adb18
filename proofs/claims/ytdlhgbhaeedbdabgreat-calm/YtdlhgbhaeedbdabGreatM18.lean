/- Pieces, Count, Awake, Kp1, Kp2, Rk1. -/
import Derived.Test.YtdlhgbhaeedbdabGreatM5
import Derived.Test.YtdlhgbhaeedbdabGreatM9
import Derived.Test.YtdlhgbhaeedbdabGreatM10
import Derived.Test.YtdlhgbhaeedbdabGreatM15
import Derived.Test.YtdlhgbhaeedbdabGreatM16

/- 'pieces', 'awake'. -/
namespace Go.Proofs.YtdlhgbhaeedbdabGreat
open Go.RowKit

theorem Tryz.infoString : (Tryz.prog.info? 9).map (fun i => (i.zero, i.size, i.bytes)) = some (some (.string ⟨#[]⟩), 1, 16) := by kernel_rfl

/-- The pieces of the first k bytes, and where the next one begins. -/
def pcsTo (s : ByteArray) : Nat → List ByteArray × Nat
  | 0 => ([], 0)
  | k + 1 => if byteAt s k = 59 then ((pcsTo s k).1 ++ [s.extract (pcsTo s k).2 (k + 1)], k + 1) else pcsTo s k
/-- The pieces of a text. -/
def pcs (s : ByteArray) : List ByteArray := if (pcsTo s s.size).2 < s.size then (pcsTo s s.size).1 ++ [s.extract (pcsTo s s.size).2 s.size] else (pcsTo s s.size).1

theorem pcsTo_le (s : ByteArray) (k : Nat) : (pcsTo s k).2 ≤ k ∧ (pcsTo s k).1.length ≤ k := by
  induction k with
  | zero => simp [pcsTo]
  | succ k ih =>
    simp only [pcsTo]
    split
    · simp; omega
    · omega

def strVals (l : List ByteArray) : List Value := l.map Value.string

theorem one_str (x : ByteArray) : ∀ u ∈ [Value.string x], u.oneCell' = true := by intro u hu; simp at hu; subst hu; rfl

set_option maxRecDepth 100000 in
set_option maxHeartbeats 400000 in
theorem pieces_any (s : ByteArray) (w : World) (hs : s.size ≤ 100000) :
    Calls Tryz.prog 10 #[.string s] w fun e w' => ∃ v, e = .returned v ∧ w'.ownsRow w.heap.size 9 1 v (pcs s).length (strVals (pcs s)) ∧ Below w.heap.size w w' := by
  obtain ⟨i0, hi, hz0, hz1, hz2⟩ := info_parts Tryz.infoString
  go_enter Tryz.func10, Tryz.ntmps10
  go_wp2
  go_loopw [3, 4, 5] (fun v f i wr => ∃ k : Nat, k ≤ s.size ∧ i = .int .i64 k ∧ f = .int .i64 (pcsTo s k).2 ∧ wr.ownsRow w.heap.size 9 1 v (pcsTo s k).1.length (strVals (pcsTo s k).1) ∧ Below w.heap.size w wr) (fun _ _ i _ => s.size - (intOf i).toNat)
  case atStart => exact ⟨0, Nat.zero_le _, rfl, rfl, World.ownsRow_nil _ _ _ _, Below.refl _ _⟩
  case round =>
    obtain ⟨k, hk, rfl, rfl, hown, hbe⟩ := hrel
    obtain ⟨a, cap, rfl⟩ := slice_of_owns hown
    have hle := pcsTo_le s k
    obtain ⟨hle1, hle2⟩ := hle
    have hsz := hbe.size
    by_cases hlt : k < s.size
    · have hlt' : (k : Int) < (s.size : Int) := by omega
      by_cases hc : byteAt s k = 59
      · have hstep : pcsTo s (k + 1) = ((pcsTo s k).1 ++ [s.extract (pcsTo s k).2 (k + 1)], k + 1) := by simp [pcsTo, hc]
        have Hstep := hide hstep
        have hc' : ((s[k].toNat : Int) == 59) = true := by rw [byteAt_in hlt] at hc; rw [beq_iff_eq]; exact hc
        have hfk : ((pcsTo s k).2 : Int) ≤ (k : Int) + 1 := by omega
        have hks : (k : Int) + 1 ≤ (s.size : Int) := by omega
        clear hstep hc
        generalize hf : (pcsTo s k).2 = f at *
        generalize hl : (pcsTo s k).1 = l at *
        have Hf := hide hf
        have Hl := hide hl
        clear hf hl
        go_wp2_with (at_builtin; refine wpList_append_own _ rfl _ _ 26 rfl w.heap.size 9 i0 (.string ⟨#[]⟩) 1 16 Tryz.underlying26 hi hz0 hz1 hz2 rfl (by decide) (.slice a l.length cap) l.length (strVals l) ?hs ?c0 ⟨wr.heap.size, 0, none⟩ 1 1 [.string (s.extract f (k + 1))] ?hx rfl ?c1 (one_str _) ?c3 ?c4 ?c5 ?_)
        case hs => rfl
        case c0 => exact hown.alloc _
        case hx => rfl
        case c1 => exact cell_one_new _ _ _
        case c3 => unfold maxLen; omega
        case c4 => omega
        case c5 => simp; omega
        intro v' w2 hown' hgrow _
        have hbe2 := (hbe.alloc hsz _).grown hgrow (by simp; omega) (fun k e => (hown.lt k e).1)
        clear hgrow
        go_wp2
        go_roundw
        case rel =>
          refine ⟨k + 1, by omega, by go_num, ?_, ?_, hbe2⟩
          · rw [unhide Hstep]; go_num
          · rw [unhide Hstep]
            simp only [List.length_append, strVals, List.map_append]
            exact hown'
        case measure => simp [intOf]; omega
      · have hstep : pcsTo s (k + 1) = pcsTo s k := by simp [pcsTo, hc]
        have Hstep := hide hstep
        have hc' : ((s[k].toNat : Int) == 59) = false := by rw [byteAt_in hlt] at hc; rw [beq_eq_false_iff_ne]; exact hc
        clear hstep hc
        go_wp2
        go_roundw
        case rel => exact ⟨k + 1, by omega, by go_num, by rw [unhide Hstep], by rw [unhide Hstep]; exact hown, hbe⟩
        case measure => simp [intOf]; omega
    · have hks : k = s.size := by omega
      by_cases hf : (pcsTo s s.size).2 < s.size
      · have hp : pcs s = (pcsTo s s.size).1 ++ [s.extract (pcsTo s s.size).2 s.size] := by simp [pcs, hf]
        have Hp := hide hp
        rw [hks] at hown hle1 hle2 ⊢
        clear hp hks hlt hk
        have hf' : ((pcsTo s s.size).2 : Int) < (s.size : Int) := by omega
        generalize hfe : (pcsTo s s.size).2 = f at *
        generalize hle : (pcsTo s s.size).1 = l at *
        have Hf := hide hfe
        have Hl := hide hle
        clear hfe hle
        go_wp2_with (at_builtin; refine wpList_append_own _ rfl _ _ 26 rfl w.heap.size 9 i0 (.string ⟨#[]⟩) 1 16 Tryz.underlying26 hi hz0 hz1 hz2 rfl (by decide) (.slice a l.length cap) l.length (strVals l) ?hs ?c0 ⟨wr.heap.size, 0, none⟩ 1 1 [.string (s.extract f s.size)] ?hx rfl ?c1 (one_str _) ?c3 ?c4 ?c5 ?_)
        case hs => rfl
        case c0 => exact hown.alloc _
        case hx => rfl
        case c1 => exact cell_one_new _ _ _
        case c3 => unfold maxLen; omega
        case c4 => omega
        case c5 => simp; omega
        intro v' w2 hown' hgrow _
        have hbe2 := (hbe.alloc hsz _).grown hgrow (by simp; omega) (fun k e => (hown.lt k e).1)
        clear hgrow
        go_wp2
        go_ret
        refine ⟨v', rfl, ?_, hbe2⟩
        rw [unhide Hp]
        simp only [List.length_append, strVals, List.map_append]
        exact hown'
      · have hp : pcs s = (pcsTo s s.size).1 := by simp [pcs, hf]
        have Hp := hide hp
        rw [hks] at hown ⊢
        have hf' : ¬ ((pcsTo s s.size).2 : Int) < (s.size : Int) := by omega
        clear hp hks
        go_wp2
        go_ret
        refine ⟨_, rfl, ?_, hbe⟩
        rw [unhide Hp]
        exact hown

end Go.Proofs.YtdlhgbhaeedbdabGreat

/- As many pieces as items; 'awake'. -/
namespace Go.Proofs.YtdlhgbhaeedbdabGreat
open Go.RowKit

theorem byteAt_lt {s : ByteArray} {p : Nat} {c : Int} (h : byteAt s p = c) (hc : 0 ≤ c) : p < s.size := by
  by_cases hp : p < s.size
  · exact hp
  · rw [byteAt_out hp] at h; omega

theorem end_of {s : ByteArray} {st : Nat × Bool} {p : Nat} (hp : p ≤ st.1) (h : (wd s [59] st).2 = false) : ∃ r, p ≤ r ∧ wd s [59] st = (r + 1, false) ∧ byteAt s r = 59 ∧ st = (r, false) := by
  obtain ⟨h1, h2, h3⟩ := tk_ok (s := s) (lo := ((59 : UInt8).toNat : Int)) (hi := ((59 : UInt8).toNat : Int)) (st := st) h
  refine ⟨st.1, hp, h3, ?_, Prod.ext rfl h1⟩
  simp [seesB] at h2
  omega

theorem item_endC {s : ByteArray} {p : Nat} (h : (itemS s (p, false)).2 = false) : ∃ r, p ≤ r ∧ itemS s (p, false) = (r + 1, false) ∧ byteAt s r = 59 := by
  have t := tk_mono s
  have d := wd_mono s
  have n := nmS_mono s
  have m := mdS_mono s
  unfold itemS at h ⊢
  simp only at h ⊢
  by_cases h1 : byteAt s p = 100
  · simp only [h1, if_true] at h ⊢
    obtain ⟨r, a, b, c, _⟩ := end_of (p := p) (st := diskS4 s (p, false)) (Nat.le_trans (d _ (p, false)) (Nat.le_trans (n _) (Nat.le_trans (d _ _) (t _ _ _)))) h
    exact ⟨r, a, b, c⟩
  rw [if_neg h1] at h ⊢
  by_cases h2 : byteAt s p = 116
  · rw [if_pos h2] at h ⊢
    obtain ⟨r, a, b, c, _⟩ := end_of (p := p) (st := targetS2 s (p, false)) (Nat.le_trans (d _ (p, false)) (n _)) h
    exact ⟨r, a, b, c⟩
  rw [if_neg h2] at h ⊢
  by_cases h3 : byteAt s p = 108
  · rw [if_pos h3] at h ⊢
    obtain ⟨r, a, b, c, _⟩ := end_of (p := p) (st := lunS8 s (p, false)) (Nat.le_trans (d _ (p, false)) (Nat.le_trans (n _) (Nat.le_trans (d _ _) (Nat.le_trans (t _ _ _) (Nat.le_trans (d _ _) (Nat.le_trans (n _) (Nat.le_trans (d _ _) (m _)))))))) h
    exact ⟨r, a, b, c⟩
  rw [if_neg h3] at h ⊢
  by_cases h4 : byteAt s p = 104
  · rw [if_pos h4] at h ⊢
    obtain ⟨r, a, b, c, _⟩ := end_of (p := p) (st := hostS4 s (p, false)) (Nat.le_trans (d _ (p, false)) (Nat.le_trans (n _) (Nat.le_trans (d _ _) (n _)))) h
    exact ⟨r, a, b, c⟩
  rw [if_neg h4] at h ⊢
  by_cases h5 : byteAt s p = 109
  · rw [if_pos h5] at h ⊢
    obtain ⟨r, a, b, c, _⟩ := end_of (p := p) (st := mapsS8 s (p, false)) (Nat.le_trans (d _ (p, false)) (Nat.le_trans (n _) (Nat.le_trans (d _ _) (Nat.le_trans (n _) (Nat.le_trans (d _ _) (Nat.le_trans (t _ _ _) (Nat.le_trans (d _ _) (t _ _ _)))))))) h
    exact ⟨r, a, b, c⟩
  rw [if_neg h5] at h
  simp at h

theorem cnt_mono (s : ByteArray) {a b : Nat} (h : a ≤ b) : (pcsTo s a).1.length ≤ (pcsTo s b).1.length := by
  induction b with
  | zero => have : a = 0 := by omega
            rw [this]; exact Nat.le_refl _
  | succ b ih =>
    by_cases e : a = b + 1
    · rw [e]; exact Nat.le_refl _
    · refine Nat.le_trans (ih (by omega)) ?_
      simp only [pcsTo]
      split
      · simp
      · exact Nat.le_refl _

theorem cnt_step (s : ByteArray) {r : Nat} (h : byteAt s r = 59) : (pcsTo s (r + 1)).1.length = (pcsTo s r).1.length + 1 := by simp [pcsTo, h]

theorem rdAll_cnt (s : ByteArray) (n p : Nat) (acc : List Item) (hp : p ≤ s.size) : (rdAll s n p acc).1.length + (pcsTo s p).1.length ≤ acc.length + (pcsTo s s.size).1.length := by
  induction n generalizing p acc with
  | zero =>
    have := cnt_mono s hp
    unfold rdAll; split
    · simp; omega
    · simp; omega
  | succ n ih =>
    have := cnt_mono s hp
    unfold rdAll; split
    · split
      · simp; omega
      · rename_i hb
        obtain ⟨r, a, b, c⟩ := item_endC (s := s) (p := p) (by simpa using hb)
        rw [b]
        have hr := byteAt_lt c (by omega)
        have := ih (r + 1) (acc ++ [itemAt s p]) (by omega)
        have h2 := cnt_mono s a
        rw [cnt_step s c] at this
        simp at this ⊢
        omega
    · simp; omega

theorem items_le_pieces (s : ByteArray) : (itemsOf s).length ≤ (pcs s).length := by
  have := rdAll_cnt s 24 0 [] (Nat.zero_le _)
  simp [pcsTo] at this
  unfold pcs itemsOf
  split
  · simp; omega
  · omega

set_option maxRecDepth 100000 in
theorem chk_a0 : chk ⟨#[100, 105, 115, 107, 32, 97, 32, 48, 59]⟩ = (2, 7) := by decide +kernel

end Go.Proofs.YtdlhgbhaeedbdabGreat

/- 'awake', 'Places'. -/
namespace Go.Proofs.YtdlhgbhaeedbdabGreat
open Go.RowKit

def tA : ByteArray := ⟨#[116, 97, 114, 103, 101, 116, 32, 120, 59, 100, 105, 115, 107, 32, 98, 32, 49, 59, 100, 105, 115, 107, 32, 97, 98, 32, 50, 59, 100, 105, 115, 107, 32, 97, 32, 51, 59]⟩
def tB : ByteArray := ⟨#[100, 105, 115, 107, 32, 97, 32, 51, 59, 100, 105, 115, 107, 32, 97, 98, 32, 50, 59, 100, 105, 115, 107, 32, 98, 32, 49, 59, 116, 97, 114, 103, 101, 116, 32, 120, 59]⟩

set_option maxRecDepth 100000 in
theorem chk_a1 : chk tA = (0, 0) := by decide +kernel
set_option maxRecDepth 100000 in
theorem prt_a1 : (prt tA).data = tB.data := by decide +kernel

theorem prt_a : prt ⟨#[116, 97, 114, 103, 101, 116, 32, 120, 59, 100, 105, 115, 107, 32, 98, 32, 49, 59, 100, 105, 115, 107, 32, 97, 98, 32, 50, 59, 100, 105, 115, 107, 32, 97, 32, 51, 59]⟩ = ⟨#[100, 105, 115, 107, 32, 97, 32, 51, 59, 100, 105, 115, 107, 32, 97, 98, 32, 50, 59, 100, 105, 115, 107, 32, 98, 32, 49, 59, 116, 97, 114, 103, 101, 116, 32, 120, 59]⟩ := congrArg ByteArray.mk prt_a1
theorem chk_a : chk ⟨#[116, 97, 114, 103, 101, 116, 32, 120, 59, 100, 105, 115, 107, 32, 98, 32, 49, 59, 100, 105, 115, 107, 32, 97, 98, 32, 50, 59, 100, 105, 115, 107, 32, 97, 32, 51, 59]⟩ = (0, 0) := chk_a1

set_option maxRecDepth 100000 in
set_option maxHeartbeats 400000 in
theorem awake_any (w : World) : Calls Tryz.prog 50 #[] w fun e w' => e = .returned (.bool true) ∧ Below w.heap.size w w' := by
  have h1 := check_any ⟨#[100, 105, 115, 107, 32, 97, 32, 48, 59]⟩ w (by decide)
  rw [chk_a0] at h1
  have h2 : ∀ wx, Calls Tryz.prog 30 #[.string ⟨#[116, 97, 114, 103, 101, 116, 32, 120, 59, 100, 105, 115, 107, 32, 98, 32, 49, 59, 100, 105, 115, 107, 32, 97, 98, 32, 50, 59, 100, 105, 115, 107, 32, 97, 32, 51, 59]⟩] wx fun e w' => e = .returned (.tuple #[.string ⟨#[100, 105, 115, 107, 32, 97, 32, 51, 59, 100, 105, 115, 107, 32, 97, 98, 32, 50, 59, 100, 105, 115, 107, 32, 98, 32, 49, 59, 116, 97, 114, 103, 101, 116, 32, 120, 59]⟩, .int .i64 0]) ∧ Below wx.heap.size wx w' := by
    intro wx
    have := print_any ⟨#[116, 97, 114, 103, 101, 116, 32, 120, 59, 100, 105, 115, 107, 32, 98, 32, 49, 59, 100, 105, 115, 107, 32, 97, 98, 32, 50, 59, 100, 105, 115, 107, 32, 97, 32, 51, 59]⟩ wx (by decide)
    rw [prt_a, chk_a] at this
    exact this
  have H2 := hide h2
  clear h2
  go_enter Tryz.func50, Tryz.ntmps50
  go_wp2_with fail
  refine h1.mono ?_
  rintro e w1 ⟨rfl, hb1⟩
  go_wp2_with fail
  refine (unhide H2 _).mono ?_
  rintro e w2 ⟨rfl, hb2⟩
  go_wp2
  go_ret
  exact ⟨rfl, hb1.trans (hb2.mono hb1.size)⟩

end Go.Proofs.YtdlhgbhaeedbdabGreat

/- 'stepping', 'planned'. -/
namespace Go.Proofs.YtdlhgbhaeedbdabGreat
open Go.RowKit

/-- A list of texts in new memory. -/
theorem tx_of_owns {w : World} {base : Nat} {v : Value} {ss : List ByteArray} (h : w.ownsRow base 9 1 v ss.length (ss.map Value.string)) :
    ∃ a cap, v = .slice a ss.length cap ∧ ss.length ≤ cap ∧ ((a = none ∧ ss = [] ∧ cap = 0) ∨ ∃ g, a = some ⟨g, 0, none⟩ ∧ base ≤ g ∧ g < w.heap.size ∧ ∀ i (h : i < ss.length), w.cell? ⟨g, i, none⟩ = some (.string ss[i])) := by
  have hh := h
  obtain ⟨_, ⟨rfl, h0⟩ | ⟨g, cap, cur, rfl, hb, hg, hc, _, _, _⟩⟩ := hh
  · have : ss = [] := List.length_eq_zero_iff.1 h0
    exact ⟨none, 0, by rw [h0], by omega, Or.inl ⟨rfl, this, rfl⟩⟩
  · refine ⟨some ⟨g, 0, none⟩, cap, rfl, hc, Or.inr ⟨g, rfl, hb, (h.lt g rfl).2, fun i hi => ?_⟩⟩
    have := h.cells (g := g) rfl i (.string ss[i]) (by simp [hi])
    rwa [addr_add] at this

theorem TxAt.of_new {w : World} {base : Nat} {a : Option Addr} {cap : Nat} {ss : List ByteArray} (h : (a = none ∧ ss = [] ∧ cap = 0) ∨ ∃ g, a = some ⟨g, 0, none⟩ ∧ base ≤ g ∧ g < w.heap.size ∧ ∀ i (h : i < ss.length), w.cell? ⟨g, i, none⟩ = some (.string ss[i])) : TxAt w a ss := by
  rcases h with ⟨_, h, _⟩ | ⟨g, h1, _, h2, h3⟩
  · exact Or.inl h
  · exact Or.inr ⟨g, 0, h1, h2, fun i hi => by rw [Nat.zero_add]; exact h3 i hi⟩

theorem data_inj {l m : List ByteArray} (h : l.map ByteArray.data = m.map ByteArray.data) : l = m := by
  induction l generalizing m with
  | nil => cases m with
           | nil => rfl
           | cons a m => simp at h
  | cons a l ih =>
    cases m with
    | nil => simp at h
    | cons b m =>
      simp only [List.map_cons, List.cons.injEq] at h
      rw [ih h.2, ByteArray.ext h.1]

def dA : ByteArray := ⟨#[100, 105, 115, 107, 32, 97, 32, 52, 59]⟩
def dB : ByteArray := ⟨#[100, 105, 115, 107, 32, 97, 32, 53, 59]⟩
def dS : List ByteArray := [⟨#[45, 100, 105, 115, 107, 32, 97, 32, 52, 59]⟩, ⟨#[43, 100, 105, 115, 107, 32, 97, 32, 53, 59]⟩]

set_option maxRecDepth 100000 in
theorem pl_d0 : (pl dA dB).map ByteArray.data = dS.map ByteArray.data ∧ plErr dA dB = 0 := by decide +kernel
set_option maxRecDepth 100000 in
theorem wk_d0 : (wkTxt dA dS).data = dB.data ∧ wkN dA dS = 2 ∧ wkErr dA dS = 0 := by decide +kernel
theorem pl_d : pl dA dB = dS := data_inj pl_d0.1
theorem wk_d : wkTxt dA dS = dB := ByteArray.ext wk_d0.1

set_option maxRecDepth 100000 in
set_option maxHeartbeats 400000 in
theorem stepping_any (w : World) : Calls Tryz.prog 20 #[] w fun e w' => e = .returned (.bool true) ∧ Below w.heap.size w w' := by
  have h1 : ∀ wx, Calls Tryz.prog 22 #[.string ⟨#[100, 105, 115, 107, 32, 97, 32, 52, 59]⟩, .string ⟨#[100, 105, 115, 107, 32, 97, 32, 53, 59]⟩] wx fun e w' => ∃ g cap, e = .returned (.tuple #[.slice (some ⟨g, 0, none⟩) 2 cap, .int .i64 0]) ∧ g < w'.heap.size ∧ TxAt w' (some ⟨g, 0, none⟩) dS ∧ w'.cell? ⟨g, 0, none⟩ = some (.string ⟨#[45, 100, 105, 115, 107, 32, 97, 32, 52, 59]⟩) ∧ Below wx.heap.size wx w' := by
    intro wx
    refine (plan_any dA dB wx (by decide) (by decide)).mono ?_
    rintro e w' ⟨v, rfl, ho, hb⟩
    rw [pl_d] at ho
    rw [pl_d0.2]
    obtain ⟨a, cap, rfl, _, h⟩ := tx_of_owns ho
    have ht := TxAt.of_new h
    rcases h with ⟨_, h, _⟩ | ⟨g, rfl, _, hg, hc⟩
    · simp [dS] at h
    · exact ⟨g, cap, rfl, hg, ht, hc 0 (by decide), hb⟩
  have h2 : ∀ wx a cap, TxAt wx a dS → Calls Tryz.prog 51 #[.string ⟨#[100, 105, 115, 107, 32, 97, 32, 52, 59]⟩, .slice a 2 cap] wx fun e w' => e = .returned (.tuple #[.string ⟨#[100, 105, 115, 107, 32, 97, 32, 53, 59]⟩, .int .i64 2, .int .i64 0]) ∧ Below wx.heap.size wx w' := by
    intro wx a cap ht
    have := walk_any dA a cap dS wx (by decide) (by decide) (by decide) ht
    rw [wk_d, wk_d0.2.1, wk_d0.2.2] at this
    exact this
  have H1 := hide h1
  have H2 := hide h2
  clear h1 h2
  go_enter Tryz.func20, Tryz.ntmps20
  go_wp2_with fail
  refine (awake_any _).mono ?_
  rintro e w1 ⟨rfl, hb1⟩
  have hl1 := hb1.size
  go_wp2_with fail
  refine (unhide H1 _).mono ?_
  rintro e w2 ⟨g, cap, rfl, hg, ht, hc, hb2⟩
  have hl2 := hb2.size
  go_wp2_with fail
  refine (unhide H2 _ _ _ ht).mono ?_
  rintro e w3 ⟨rfl, hb3⟩
  have hc3 := (hb3.cell (p := ⟨g, 0, none⟩) hg).trans hc
  clear hc
  go_wp2
  go_ret
  exact ⟨rfl, (hb1.trans (hb2.mono hl1)).trans (hb3.mono (by omega))⟩

/-- Are both texts arrangements? -/
def bothB (s t : ByteArray) : Bool := decide (plErr s t = 0)

theorem plErr_le (s t : ByteArray) : plErr s t ≤ 4 := by unfold plErr; split <;> exact chk_le _

set_option maxRecDepth 100000 in
set_option maxHeartbeats 400000 in
theorem planned_any (s t : ByteArray) (w : World) (hs : s.size ≤ maxLen) (ht : t.size ≤ maxLen) :
    Calls Tryz.prog 7 #[.string s, .string t] w fun e w' => ∃ v, e = .returned (.tuple #[v, .bool (bothB s t), .bool true]) ∧ w'.ownsRow w.heap.size 9 1 v (pl s t).length ((pl s t).map Value.string) ∧ Below w.heap.size w w' := by
  have hc1 := fun wx => check_any s wx hs
  have hc2 := fun wx => check_any t wx ht
  have hpl := fun wx => plan_any s t wx hs ht
  have hlen : plErr s t ≠ 0 → (pl s t).length = 0 := fun h => by simp [pl, h]
  have hdef : plErr s t = if (chk s).1 = 0 then (chk t).1 else (chk s).1 := rfl
  unfold bothB
  by_cases h0 : (chk s).1 = 0
  · rw [if_pos h0] at hdef
    have h0' : ((((chk s).1 : Nat) : Int) == 0) = true := by rw [beq_iff_eq]; omega
    rw [hdef] at hpl hlen ⊢
    by_cases h1 : (chk t).1 = 0
    · have h1' : ((((chk t).1 : Nat) : Int) == 0) = true := by rw [beq_iff_eq]; omega
      rw [show decide ((chk t).1 = 0) = true from decide_eq_true h1]
      generalize (chk s).1 = c1 at *
      generalize (chk t).1 = c2 at *
      have H1 := hide hc1
      have H2 := hide hc2
      have H3 := hide hpl
      clear hc1 hc2 hpl hdef hlen h0 h1
      go_enter Tryz.func7, Tryz.ntmps7
      go_wp2_with fail
      refine (stepping_any _).mono ?_
      rintro e w1 ⟨rfl, hb1⟩
      have hl1 := hb1.size
      go_wp2_with fail
      refine (unhide H1 _).mono ?_
      rintro e w2 ⟨rfl, hb2⟩
      have hl2 := hb2.size
      go_wp2_with fail
      refine (unhide H2 _).mono ?_
      rintro e w3 ⟨rfl, hb3⟩
      have hl3 := hb3.size
      go_wp2_with fail
      refine (unhide H3 _).mono ?_
      rintro e w4 ⟨v, rfl, hown, hb4⟩
      obtain ⟨a, cap, rfl⟩ := slice_of_owns hown
      go_wp2
      go_ret3
      exact ⟨_, rfl, owns_mono hown (by omega), ((hb1.trans (hb2.mono hl1)).trans (hb3.mono (by omega))).trans (hb4.mono (by omega))⟩
    · have h1' : ((((chk t).1 : Nat) : Int) == 0) = false := by rw [beq_eq_false_iff_ne]; omega
      rw [show decide ((chk t).1 = 0) = false from decide_eq_false h1]
      have hl0 := hlen h1
      simp only [hl0] at hpl
      rw [hl0]
      clear hl0
      generalize (chk s).1 = c1 at *
      generalize (chk t).1 = c2 at *
      have H1 := hide hc1
      have H2 := hide hc2
      have H3 := hide hpl
      clear hc1 hc2 hpl hdef hlen h0 h1
      go_enter Tryz.func7, Tryz.ntmps7
      go_wp2_with fail
      refine (stepping_any _).mono ?_
      rintro e w1 ⟨rfl, hb1⟩
      have hl1 := hb1.size
      go_wp2_with fail
      refine (unhide H1 _).mono ?_
      rintro e w2 ⟨rfl, hb2⟩
      have hl2 := hb2.size
      go_wp2_with fail
      refine (unhide H2 _).mono ?_
      rintro e w3 ⟨rfl, hb3⟩
      have hl3 := hb3.size
      go_wp2_with fail
      refine (unhide H3 _).mono ?_
      rintro e w4 ⟨v, rfl, hown, hb4⟩
      obtain ⟨a, cap, rfl⟩ := slice_of_owns hown
      go_wp2
      go_ret3
      exact ⟨_, rfl, owns_mono hown (by omega), ((hb1.trans (hb2.mono hl1)).trans (hb3.mono (by omega))).trans (hb4.mono (by omega))⟩
  · rw [if_neg h0] at hdef
    have h0' : ((((chk s).1 : Nat) : Int) == 0) = false := by rw [beq_eq_false_iff_ne]; omega
    rw [hdef] at hpl hlen ⊢
    rw [show decide ((chk s).1 = 0) = false from decide_eq_false h0]
    have hl0 := hlen h0
    simp only [hl0] at hpl
    rw [hl0]
    clear hl0
    generalize (chk s).1 = c1 at *
    generalize (chk t).1 = c2 at *
    have H1 := hide hc1
    have H2 := hide hc2
    have H3 := hide hpl
    clear hc1 hc2 hpl hdef hlen h0
    go_enter Tryz.func7, Tryz.ntmps7
    go_wp2_with fail
    refine (stepping_any _).mono ?_
    rintro e w1 ⟨rfl, hb1⟩
    have hl1 := hb1.size
    go_wp2_with fail
    refine (unhide H1 _).mono ?_
    rintro e w2 ⟨rfl, hb2⟩
    have hl2 := hb2.size
    go_wp2_with fail
    refine (unhide H2 _).mono ?_
    rintro e w3 ⟨rfl, hb3⟩
    have hl3 := hb3.size
    go_wp2_with fail
    refine (unhide H3 _).mono ?_
    rintro e w4 ⟨v, rfl, hown, hb4⟩
    obtain ⟨a, cap, rfl⟩ := slice_of_owns hown
    go_wp2
    go_ret3
    exact ⟨_, rfl, owns_mono hown (by omega), ((hb1.trans (hb2.mono hl1)).trans (hb3.mono (by omega))).trans (hb4.mono (by omega))⟩

end Go.Proofs.YtdlhgbhaeedbdabGreat

/- 'Arrives'. -/
namespace Go.Proofs.YtdlhgbhaeedbdabGreat
open Go.RowKit

theorem arrI_of_chk {s : ByteArray} (h : (chk s).1 = 0) : ArrI (itemsOf s) := by
  obtain ⟨L, hL, _, e⟩ := arr_of_chk (chkZero h)
  rw [e]; exact hL.arrI

theorem plErr_zero {s t : ByteArray} (h : plErr s t = 0) : (chk s).1 = 0 ∧ (chk t).1 = 0 := by
  unfold plErr at h
  split at h
  · rename_i h0; exact ⟨h0, h⟩
  · rename_i h0; exact absurd h h0

theorem stTxt_size (b : Bool) (t : ByteArray) : (stTxt b t).size = 1 + t.size := by
  unfold stTxt
  rw [ByteArray.size_append]
  cases b <;> rfl

theorem pl_small (s t : ByteArray) : (pl s t).length ≤ 48 ∧ ∀ x ∈ pl s t, x.size ≤ 401 := by
  unfold pl
  split
  · rename_i h
    obtain ⟨h1, h2⟩ := plErr_zero h
    have f1 := fits_of_chk h1
    have f2 := fits_of_chk h2
    refine ⟨by simp [stTxts]; exact mk_len _ _ f1.1 f2.1, fun x hx => ?_⟩
    obtain ⟨p, hp, rfl⟩ := List.mem_map.1 hx
    rw [stTxt_size]
    rcases mem_mk hp with h | h
    · have := f1.text _ h; omega
    · have := f2.text _ h; omega
  · simp

theorem prt_of_perm {t : ByteArray} (ht : (chk t).1 = 0) {m : List Item} (hm : m.Perm (itemsOf t)) : (⟨(catB (sortTo m m.length)).toArray⟩ : ByteArray) = prt t := by
  unfold prt
  rw [if_pos ht, sortTo_all, sortTo_all, sorted_of_perm hm ((arrI_of_chk ht).perm hm.symm).dist]

/-- The plan leads there: what Walk tells of it. -/
theorem plan_end {s t : ByteArray} (h : plErr s t = 0) : wkErr s (pl s t) = 0 ∧ wkN s (pl s t) = (pl s t).length ∧ wkTxt s (pl s t) = prt t := by
  obtain ⟨h1, h2⟩ := plErr_zero h
  obtain ⟨_, m, hm, hp⟩ := plan_walk (arrI_of_chk h1) (arrI_of_chk h2)
  have hpl : pl s t = stTxts (mk (itemsOf s) (itemsOf t)) := by simp [pl, h]
  rw [← hpl] at hm
  refine ⟨by simp [wkErr, h1, wErr, hm], by rw [wkN, if_pos h1, wlkN_some hm], ?_⟩
  rw [wkTxt, if_pos h1, wOut, hm]
  exact prt_of_perm h2 hp

end Go.Proofs.YtdlhgbhaeedbdabGreat

/- A rack in memory; 'Open', 'Config'. -/
namespace Go.Proofs.YtdlhgbhaeedbdabGreat
open Go.RowKit

/-- What a call on a rack may change. -/
def KT (t : TypeId) : Prop := AT t ∨ KB t ∨ t = 157

/-- The steps that are left, in block g. -/
def LeftAt (w : World) (g : Nat) (v : Value) (l : List (Bool × Item)) : Prop :=
  (l = [] ∧ ∃ a cap, v = .slice a 0 cap) ∨ (0 < l.length ∧ ∃ o cap, v = .slice (some ⟨g, o, none⟩) l.length cap ∧ l.length ≤ cap ∧ (∃ cs fr, w.heap[g]? = some (Obj.cells cs 157 fr)) ∧ ∀ i (h : i < l.length), StAt w g (o + i * 10) l[i])

/-- The types of what a rack without a plan holds. -/
def YT (t : TypeId) : Prop := t = 79 ∨ t = 83 ∨ t = 126 ∨ t = 172 ∨ t = 3 ∨ t = 113

/-- The types of what hosts' calls hold. -/
structure NH (T : TypeId → Prop) : Prop where
  h1 : ¬ T 126
  h2 : ¬ T 172
  h3 : ¬ T 3
  h4 : ¬ T 113

theorem nh_false : NH (fun _ => False) := ⟨id, id, id, id⟩

/-- What is not the rack's. -/
structure GapAt (w : World) (r : Nat) (g : Gh) : Prop where
  own : ¬ g.out r
  lt : ∀ k, g.out k → k < w.heap.size
  fro : ∀ k o, g.fro k o → g.out k ∧ w.heap[k]? = some o ∧ ∃ cs t fr, o = .cells cs t fr ∧ YT t

theorem GapAt.nil (w : World) (r : Nat) : GapAt w r gh0 := ⟨id, fun _ h => h.elim, fun _ _ h => h.elim⟩

theorem GapAt.foot {w w' : World} {r : Nat} {g : Gh} (h : GapAt w r g) (hs : w.heap.size ≤ w'.heap.size) (hb : ∀ k, g.out k → w'.heap[k]? = w.heap[k]?) : GapAt w' r g :=
  ⟨h.own, fun k hk => Nat.lt_of_lt_of_le (h.lt k hk) hs, fun k o e => ⟨(h.fro k o e).1, (hb k (h.fro k o e).1).trans (h.fro k o e).2.1, (h.fro k o e).2.2⟩⟩

theorem GapAt.keep {T : TypeId → Prop} {w w' : World} {r : Nat} {g : Gh} (h : GapAt w r g) (hk : TK T w w') (h1 : ¬ T 79) (h2 : ¬ T 83) (h3 : NH T) : GapAt w' r g := by
  refine ⟨h.own, fun k hk' => Nat.lt_of_lt_of_le (h.lt k hk') hk.size, fun k o e => ?_⟩
  obtain ⟨a1, a2, cs, t, fr, rfl, a3⟩ := h.fro k o e
  refine ⟨a1, (hk.block k cs t fr a2 ?_).trans a2, cs, t, fr, rfl, a3⟩
  rcases a3 with rfl | rfl | rfl | rfl | rfl | rfl
  · exact h1
  · exact h2
  · exact h3.h1
  · exact h3.h2
  · exact h3.h3
  · exact h3.h4

theorem GapAt.set {w : World} {r : Nat} {g : Gh} (h : GapAt w r g) (o : Nat) (u : Value) : GapAt (w.setCell ⟨r, o, none⟩ u) r g :=
  h.foot (by simp [World.setCell]) fun k hk => block_set_ne _ (fun e => h.own (e ▸ hk))

theorem GapAt.feet {w w' : World} {r : Nat} {g : Gh} (h : GapAt w r g) {v : Value} {B : List Bk} (hO : BOut g.out v B) (hf : ∀ k, k < w.heap.size → k ≠ r → v.ownBlock ≠ some k → w'.heap[k]? = w.heap[k]?) : ∀ k, g.out k → w'.heap[k]? = w.heap[k]? :=
  fun k hk => hf k (h.lt k hk) (fun e => h.own (e ▸ hk)) (fun e => hO.1 k e hk)

/-- A rack's hosts: its drives, its sessions, the next session's number. -/
structure HostsAt (w : World) (r b : Nat) (H : Hs) : Prop where
  bank : ∃ v B, w.cell? ⟨r, 2, none⟩ = some v ∧ BankAt w (b + 1) v B ∧ B.map Bk.d = H.disks ∧ BOut H.g.out v B
  ses : ∃ v, w.cell? ⟨r, 3, none⟩ = some v ∧ SesRow w (b + 1) v H.ses ∧ ∀ k, v.ownBlock = some k → ¬ H.g.out k
  next : w.cell? ⟨r, 4, none⟩ = some (.int .i64 H.next)
  gap : GapAt w r H.g

theorem HostsAt.keep {T : TypeId → Prop} {w w' : World} {r b : Nat} {H : Hs} (h : HostsAt w r b H) (hk : TK T w w') (hT : NH T) (hc : ∀ o, 2 ≤ o → o ≤ 4 → w'.cell? ⟨r, o, none⟩ = w.cell? ⟨r, o, none⟩) (hg : GapAt w r H.g → GapAt w' r H.g) : HostsAt w' r b H := by
  obtain ⟨⟨v, B, c2, hB, e, hO⟩, ⟨v3, c3, hS, hso⟩, c4, hG⟩ := h
  exact ⟨⟨v, B, (hc 2 (by omega) (by omega)).trans c2, hB.keep hk hT.h1 hT.h2 hT.h3, e, hO⟩, ⟨v3, (hc 3 (by omega) (by omega)).trans c3, hk.row hT.h4 hS, hso⟩, (hc 4 (by omega) (by omega)).trans c4, hg hG⟩

/-- A rack that runs, in block r, on the device in block b: what is there, what the plan has done, what is left, the hosts. -/
structure RackF (w : World) (r b : Nat) (l : List Item) (did left : List (Bool × Item)) (H : Hs) : Prop where
  ty : ∃ cs fr, w.heap[r]? = some (Obj.cells cs 79 fr)
  c0 : w.cell? ⟨r, 0, none⟩ = some (.pointer (some ⟨b, 0, none⟩))
  c1 : ∃ v, w.cell? ⟨r, 1, none⟩ = some v ∧ w.ownsRow (b + 1) 83 9 v l.length (allCells l)
  c2 : ∃ g v2 v3, b ≤ g ∧ w.cell? ⟨r, 5, none⟩ = some v2 ∧ w.cell? ⟨r, 6, none⟩ = some v3 ∧ w.ownsRow (g + 1) 157 10 v2 did.length (stsCells did) ∧ LeftAt w g v3 left ∧ (did = [] → v2 = .slice none 0 0)
  c4 : w.cell? ⟨r, 7, none⟩ = some (.bool false)
  fz : ∀ o, w.frozen? ⟨r, o, none⟩ = false
  lt : r < w.heap.size
  br : b < r
  hs : HostsAt w r b H

/-- A rack that has met that the power has gone. -/
structure DeadAt (w : World) (r : Nat) : Prop where
  ty : ∃ cs fr, w.heap[r]? = some (Obj.cells cs 79 fr)
  c4 : w.cell? ⟨r, 7, none⟩ = some (.bool true)
  lt : r < w.heap.size

theorem StAt.of_cells {w w' : World} {g o : Nat} {p : Bool × Item} (h : StAt w g o p) (hc : ∀ o, w'.cell? ⟨g, o, none⟩ = w.cell? ⟨g, o, none⟩) : StAt w' g o p :=
  ⟨(hc _).trans h.c0, (hc _).trans h.c1, (hc _).trans h.c2, (hc _).trans h.c3, (hc _).trans h.c4, (hc _).trans h.c5, (hc _).trans h.c6, (hc _).trans h.c7, (hc _).trans h.c8, (hc _).trans h.c9⟩

theorem LeftAt.block {w w' : World} {g : Nat} {v : Value} {l : List (Bool × Item)} (h : LeftAt w g v l) (hb : (∃ cs fr, w.heap[g]? = some (Obj.cells cs 157 fr)) → w'.heap[g]? = w.heap[g]?) : LeftAt w' g v l := by
  rcases h with h | ⟨h0, o, cap, rfl, hc, hty, hs⟩
  · exact .inl h
  · have he := hb hty
    exact .inr ⟨h0, o, cap, rfl, hc, by rw [he]; exact hty, fun i hi => (hs i hi).of_cells fun o => World.cell?_of_block he⟩

theorem RackF.keep {T : TypeId → Prop} {w w' : World} {r b : Nat} {l : List Item} {did left : List (Bool × Item)} {H : Hs} (h : RackF w r b l did left H) (hk : TK T w w') (h1 : ¬ T 79) (h2 : ¬ T 83) (h3 : ¬ T 157) (h4 : NH T) : RackF w' r b l did left H := by
  obtain ⟨⟨cs, fr, hty⟩, c0, ⟨v, c1, hrow⟩, ⟨g, v2, v3, hg, c2, c3, hdid, hleft, hn⟩, c4, fz, lt, br, hs⟩ := h
  have hb := hk.block r cs _ fr hty h1
  have hc : ∀ o, w'.cell? ⟨r, o, none⟩ = w.cell? ⟨r, o, none⟩ := fun o => World.cell?_of_block hb
  have hf : ∀ o, w'.frozen? ⟨r, o, none⟩ = w.frozen? ⟨r, o, none⟩ := fun o => World.frozen?_of_block hb
  exact ⟨⟨cs, fr, hb.trans hty⟩, (hc _).trans c0, ⟨v, (hc _).trans c1, hk.row h2 hrow⟩, ⟨g, v2, v3, hg, (hc _).trans c2, (hc _).trans c3, hk.row h3 hdid, hleft.block (fun ⟨cs', fr', ht'⟩ => hk.block g cs' _ fr' ht' h3), hn⟩, (hc _).trans c4, fun o => (hf o).trans (fz o), Nat.lt_of_lt_of_le lt hk.size, br, hs.keep hk h4 (fun o _ _ => hc o) fun hG => hG.keep hk h1 h2 h4⟩

theorem RackF.later {w w' : World} {r b : Nat} {l : List Item} {did left : List (Bool × Item)} {H : Hs} (h : RackF w r b l did left H) (hk : Below w.heap.size w w') : RackF w' r b l did left H :=
  h.keep (T := fun _ => False) (TK.of_below hk) id id id nh_false

theorem DeadAt.keep {T : TypeId → Prop} {w w' : World} {r : Nat} (h : DeadAt w r) (hk : TK T w w') (h1 : ¬ T 79) : DeadAt w' r := by
  obtain ⟨⟨cs, fr, hty⟩, c4, lt⟩ := h
  have hb := hk.block r cs _ fr hty h1
  exact ⟨⟨cs, fr, hb.trans hty⟩, (World.cell?_of_block hb).trans c4, Nat.lt_of_lt_of_le lt hk.size⟩

theorem ApiAt.later {w w' : World} {b : Nat} {S E : Nat → UInt8} {U : List Lg} {l : Int} {d : Bool} (h : ApiAt w b S E U l d) (hk : Below w.heap.size w w') : ApiAt w' b S E U l d :=
  h.keep (T := fun _ => False) (TK.of_below hk) id id

/-- What Config tells. -/
def prI (l : List Item) : ByteArray := ⟨(catB (sortTo l l.length)).toArray⟩

set_option maxHeartbeats 400000 in
theorem printAt (v : Value) (l : List Item) (w : World) (hl : Fits l) (hv : ItemsAt w v l) :
    Calls Tryz.prog 61 #[v] w fun e w' => e = .returned (.string (prI l)) ∧ Below w.heap.size w w' := by
  rcases hv with ⟨rfl, rfl⟩ | ⟨g, cap, rfl, _, hit⟩
  · exact aprint_nil w
  · exact aprint_in g cap l w hl.1 (fun x hx => hl.text x (mem_sortTo hx)) hit

set_option maxRecDepth 100000 in
set_option maxHeartbeats 400000 in
theorem fconfig_any (r b : Nat) (l : List Item) (did left : List (Bool × Item)) (H : Hs) (w : World) (hl : Fits l) (h : RackF w r b l did left H) :
    Calls Tryz.prog 62 #[.pointer (some ⟨r, 0, none⟩)] w fun e w' => e = .returned (.tuple #[.string (prI l), .int .i64 0]) ∧ Below w.heap.size w w' := by
  obtain ⟨v, c1, hrow⟩ := h.c1
  have c4 := h.c4
  have HP := hide (printAt v l w hl (items_of_owns hrow))
  clear hrow h
  go_enter Tryz.func62, Tryz.ntmps62
  go_wp2_with fail
  refine (unhide HP).mono ?_
  rintro e w1 ⟨rfl, hb1⟩
  go_wp2_with fail
  go_ret2
  exact ⟨rfl, hb1⟩

set_option maxRecDepth 100000 in
set_option maxHeartbeats 400000 in
theorem config_dead (r : Nat) (w : World) (h : DeadAt w r) :
    Calls Tryz.prog 62 #[.pointer (some ⟨r, 0, none⟩)] w fun e w' => e = .returned (.tuple #[.string ⟨#[]⟩, .int .i64 7]) ∧ w' = w := by
  have c4 := h.c4
  clear h
  go_enter Tryz.func62, Tryz.ntmps62
  go_wp2_with fail
  go_ret2
  exact ⟨rfl, rfl⟩

def rackCells (b : Nat) (v : Value) : Array Value := #[.pointer (some ⟨b, 0, none⟩), v, .slice none 0 0, .slice none 0 0, .int .i64 0, .slice none 0 0, .slice none 0 0, .bool false]

theorem not_kt8 : ¬ KT 5 := by unfold KT AT KB; decide
theorem not_ktItem : ¬ KT 83 := by unfold KT AT KB; decide
theorem not_ktString : ¬ KT 9 := by unfold KT AT KB; decide
theorem not_atRack : ¬ AT 79 := by unfold AT; decide
theorem not_atItem : ¬ AT 83 := by unfold AT; decide
theorem not_atStep : ¬ AT 157 := by unfold AT; decide

theorem rack_new {w : World} {b : Nat} {v : Value} {l : List Item} (hb : b < w.heap.size) (h : w.ownsRow (b + 1) 83 9 v l.length (allCells l)) :
    RackF (w.alloc (.cells (rackCells b v) 79)) w.heap.size b l [] [] ⟨[], [], 0, gh0⟩ := by
  unfold rackCells
  refine ⟨⟨_, (0, 0), heap_alloc_last w _⟩, by go_simp, ⟨v, by go_simp, h.alloc _⟩, ⟨b, .slice none 0 0, .slice none 0 0, Nat.le_refl _, by go_simp, by go_simp, World.ownsRow_nil _ _ _ _, .inl ⟨rfl, none, 0, rfl⟩, fun _ => rfl⟩, by go_simp, fun o => World.frozen?_alloc_at _ _ _ _ rfl, by simp, hb, ⟨⟨.slice none 0 0, [], by go_simp, ⟨World.ownsRow_nil _ _ _ _, by simp, List.Pairwise.nil⟩, rfl, ⟨fun _ _ => id, by simp⟩⟩, ⟨.slice none 0 0, by go_simp, World.ownsRow_nil _ _ _ _, fun _ _ => id⟩, by go_simp, GapAt.nil _ _⟩⟩

/-- What Open leaves: no rack, and the power has gone; or a rack. -/
def FOpenEnd (b : Nat) (S E : Nat → UInt8) (U : List Lg) (l : Int) (d : Bool) (w : World) (e : Ending) (w' : World) : Prop :=
  ∃ l' d', ApiAt w' b S E U l' d' ∧ l' ≤ 9223372036854775807 ∧ Below b w w' ∧ TK KT w w' ∧ (l < 0 → l' = l ∧ d' = d) ∧
      ((d' = true ∧ e = .returned (.tuple #[.pointer none, .int .i64 7])) ∨ (d' = false ∧ d = false ∧ ∃ r, w.heap.size ≤ r ∧ e = .returned (.tuple #[.pointer (some ⟨r, 0, none⟩), .int .i64 0]) ∧ RackF w' r b (itemsOf (held E)) [] [] ⟨newD (itemsOf (held E)), [], 0, gh0⟩))

theorem newD_take (l : List Item) (k : Nat) (hk : k < l.length) : newD (l.take (k + 1)) = newD (l.take k) ++ (if l[k].kind = 0 then [⟨l[k].name, List.replicate l[k].size.toNat 0, -1⟩] else []) := by
  unfold newD
  rw [List.take_succ_eq_append_getElem hk, List.filter_append, List.map_append]
  congr 1
  by_cases h : l[k].kind = 0
  · rw [if_pos h, List.filter_cons_of_pos (by simpa [dkB] using h)]; rfl
  · rw [if_neg h, List.filter_cons_of_neg (by simpa [dkB] using h)]; rfl

theorem newD_len (l : List Item) : (newD l).length ≤ l.length := by
  unfold newD
  rw [List.length_map]
  exact List.length_filter_le _ _

/-- The drives of a rack are others now. -/
theorem RackF.banked {w w' : World} {r b : Nat} {l : List Item} {did left : List (Bool × Item)} {H : Hs} (h : RackF w r b l did left H) (hk : TK KB w w') (hc : RCell r (fun o => o ≠ 2) w w') {D : List Drv} (hb : ∃ v B, w'.cell? ⟨r, 2, none⟩ = some v ∧ BankAt w' (b + 1) v B ∧ B.map Bk.d = D ∧ BOut H.g.out v B) (hfoot : ∀ k, H.g.out k → w'.heap[k]? = w.heap[k]?) :
    RackF w' r b l did left { H with disks := D } := by
  obtain ⟨hty, c0, ⟨v1, c1, hrow⟩, ⟨g, v2, v3, hg, c2, c3, hdid, hleft, hn⟩, c4, fz, lt, br, hs⟩ := h
  obtain ⟨_, ⟨v3', c3', hS, hso⟩, c4', hG⟩ := hs
  exact ⟨hc.ty hty, (hc.cell _ (by omega)).trans c0, ⟨v1, (hc.cell _ (by omega)).trans c1, hk.row (by unfold KB; decide) hrow⟩, ⟨g, v2, v3, hg, (hc.cell _ (by omega)).trans c2, (hc.cell _ (by omega)).trans c3, hk.row (by unfold KB; decide) hdid, hleft.block (fun ⟨cs', fr', ht'⟩ => hk.block g cs' _ fr' ht' (by unfold KB; decide)), hn⟩,
    (hc.cell _ (by omega)).trans c4, fun o => (hc.fz o).trans (fz o), Nat.lt_of_lt_of_le lt hk.size, br, ⟨hb, ⟨v3', (hc.cell _ (by omega)).trans c3', hk.row (by unfold KB; decide) hS, hso⟩, (hc.cell _ (by omega)).trans c4', hG.foot hk.size hfoot⟩⟩

set_option maxRecDepth 100000 in
set_option maxHeartbeats 400000 in
theorem fopen_any (b : Nat) (S E : Nat → UInt8) (U : List Lg) (l : Int) (d : Bool) (w : World) (hl : l ≤ 9223372036854775807) (hE : (chk (held E)).1 = 0) (h : ApiAt w b S E U l d) :
    Calls Tryz.prog 79 #[.pointer (some ⟨b, 0, none⟩)] w fun e w' => FOpenEnd b S E U l d w e w' := by
  have HL := hide (load_any b S E U l d w hl h)
  have hlt := h.lt
  have hsz : (held E).size ≤ maxLen := by have := chk_size hE; unfold maxLen; omega
  have HP := hide fun wx => parse_any (held E) wx hsz
  rw [hE] at HP
  have hfit := fits_of_chk hE
  have HG := hide (arrI_of_chk hE).good
  clear h hE hsz
  go_enter Tryz.func79, Tryz.ntmps79
  go_wp2_with fail
  refine (unhide HL).mono ?_
  rintro e w1 ⟨l1, d1, ha1, hl1, hbe1, htk1, hlow1, hcase⟩
  have hs1 := hbe1.size
  have hkt1 : TK KT w w1 := htk1.mono fun t ht => .inl ht
  have hlt1 := ha1.lt
  rcases hcase with ⟨rfl, rfl⟩ | ⟨rfl, rfl, rfl⟩
  · clear HL HP HG
    go_wp2_with fail
    go_ret2
    exact ⟨_, _, ha1, hl1, hbe1, hkt1, hlow1, .inl ⟨rfl, rfl⟩⟩
  · generalize hT : held E = T at *
    have HT := hide hT
    clear hT
    go_wp2_with fail
    refine (unhide HP w1).mono ?_
    rintro e w2 ⟨v, rfl, hown, hb2⟩
    replace hown := hown trivial
    have hs2 := hb2.size
    have hown2 := owns_mono (base' := b + 1) hown (by omega)
    have ha2 := ha1.later hb2
    have hbe2 : Below b w w2 := hbe1.trans (hb2.mono (by omega))
    have hkt2 : TK KT w w2 := hkt1.trans (TK.of_below hb2)
    obtain ⟨va, vc, rfl⟩ := slice_of_owns hown2
    have Hr := hide (rack_new (b := b) (w := w2) (by omega) hown2)
    have hbn := below_new w2 (.cells (rackCells b (.slice va (itemsOf T).length vc)) 79)
    have ha3 := ha2.later hbn
    have hbe3 := hbe2.trans (hbn.mono (by omega : b ≤ _))
    have hkt3 : TK KT w _ := hkt2.trans (TK.of_below hbn)
    have Hown3 := hide (owns_later hown2 hbn)
    have hwr : w.heap.size ≤ w2.heap.size := by omega
    generalize hI : itemsOf T = I at *
    have HI := hide hI
    clear hI
    clear hown hown2 HL HP ha2 hbe2 hkt2 hkt1 hbe1 htk1
    unfold rackCells at *
    go_wp2_with fail
    generalize hW : w2.alloc (.cells #[.pointer (some ⟨b, 0, none⟩), .slice va I.length vc, .slice none 0 0, .slice none 0 0, .int .i64 0, .slice none 0 0, .slice none 0 0, .bool false] 79) = w3 at *
    have hR0 := unhide Hr
    generalize hr : w2.heap.size = r at *
    clear hW hbn
    have Hfin := hide (⟨ha3, hbe3, hkt3⟩ : _ ∧ _ ∧ _)
    clear ha3 hbe3 hkt3 Hr
    go_loopw [10] (fun i wr => ∃ k : Nat, k ≤ I.length ∧ i = .int .i64 k ∧ RackF wr r b I [] [] ⟨newD (I.take k), [], 0, gh0⟩ ∧ TK KB w3 wr ∧ Below (b + 1) w3 wr) (fun i _ => I.length - (intOf i).toNat)
    case atStart => exact ⟨0, Nat.zero_le _, rfl, hR0, TK.refl _ _, Below.refl _ _⟩
    case round =>
      obtain ⟨k, hk, rfl, hR, htk, hbe⟩ := hrel
      have h24 := hfit.1
      clear hR0
      by_cases hlt2 : k < I.length
      · rcases items_of_owns (htk.row (by unfold KB; decide) (unhide Hown3)) with ⟨_, e0⟩ | ⟨g, cap, e1, hcap, hii⟩
        · rw [e0] at hlt2; simp at hlt2
        simp only [Value.slice.injEq] at e1
        obtain ⟨rfl, _, rfl⟩ := e1
        obtain ⟨x, hx⟩ : ∃ x, x = I[k] := ⟨_, rfl⟩
        have hix := hii.2 k hlt2
        have hst := newD_take I k hlt2
        rw [← hx] at hix hst
        obtain ⟨hz1, hz2⟩ := good_size (unhide HG x (by rw [hx]; exact List.getElem_mem hlt2))
        obtain ⟨sz, hsz⟩ : ∃ n : Nat, x.size = n := ⟨x.size.toNat, by omega⟩
        obtain ⟨c0, c1, c2, c3, c4, c5, c6, c7, c8⟩ := hix
        rw [hsz] at c4
        have hlt' : (k : Int) < (I.length : Int) := by omega
        have hlen := newD_len (I.take k)
        rw [List.length_take] at hlen
        by_cases hk0 : x.kind = 0
        · rw [if_pos hk0, hsz, Int.toNat_natCast] at hst
          have Hst := hide hst
          have hk0' : (((x.kind : Nat) : Int) == 0) = true := by rw [hk0]; rfl
          have HA := hide fun (n : Nat) => (show ∃ v B, B.map Bk.d = newD (I.take k) ∧ BOut gh0.out v B ∧ Calls Tryz.prog 118 #[.pointer (some ⟨r, 2, none⟩), .string x.name, .int .i64 sz] (wr.drewN n) fun e w' => AddEnd r b v B ⟨x.name, List.replicate sz 0, -1⟩ (wr.drewN n) e w' from by
            have hR1 := hR.later (below_drewN (Below.refl _ _) n)
            obtain ⟨v, B, c2, hB, e, hO⟩ := hR1.hs.bank
            have hBl : B.length = (newD (I.take k)).length := by rw [← List.length_map (f := Bk.d), e]
            exact ⟨v, B, e, hO, add_any r b sz x.name v B _ (by omega) (by omega) hR1.br hR1.ty c2 (hR1.fz 2) hB⟩)
          have HR := hide hR
          clear hst hk0 hsz hR hlen hz1 hz2 hii hx
          go_wp2
          go_region_with (go_at_call 118; obtain ⟨bv, B, eB, hO, hcall⟩ := unhide HA 1; refine hcall.mono ?_; rintro e w4 ⟨rfl, ⟨v', q, hq, c2', hB', hO4⟩, htk4, hbe4, hrc4, hft4⟩; have HO4 := hide hO4; have HF4 := hide hft4; clear hO4 hft4)
          all_goals
            have hb0 := below_drewN (Below.refl wr.heap.size wr) 1
            have hG4 := ((unhide HR).later hb0).hs.gap
            have hR4 := ((unhide HR).later hb0).banked htk4 hrc4 ⟨v', _, c2', hB', rfl, unhide HO4 _ hG4.lt hO⟩ (hG4.feet hO (unhide HF4))
            have hD4 : (B ++ [q]).map Bk.d = newD (I.take (k + 1)) := by rw [List.map_append, eB, unhide Hst, List.map_singleton, hq]
            rw [hD4] at hR4
            have htk5 := (htk.trans (TK.of_below hb0)).trans htk4
            have hbe5 := (hbe.trans (hb0.mono (by have := (unhide HR).lt; have := (unhide HR).br; omega))).trans hbe4
            clear hB' c2' htk4 hbe4 hrc4 hD4 HA hG4 hO HO4 HF4
            go_wp2
            go_roundw
            case rel => exact ⟨k + 1, by omega, by go_num, hR4, htk5, hbe5⟩
            case measure => simp [intOf]; omega
        · rw [if_neg hk0, List.append_nil] at hst
          rw [← hst] at hR
          have hk0' : (((x.kind : Nat) : Int) == 0) = false := by rw [beq_eq_false_iff_ne]; omega
          have HR := hide hR
          clear hst hk0 hR hii hx hsz
          go_wp2
          go_roundw
          case rel => exact ⟨k + 1, by omega, by go_num, unhide HR, htk, hbe⟩
          case measure => simp [intOf]; omega
      · have hkl : k = I.length := by omega
        have hall : I.take k = I := List.take_of_length_le (by omega)
        rw [hall] at hR
        have hnl : ¬ (k : Int) < (I.length : Int) := by omega
        obtain ⟨ha3, hbe3, hkt3⟩ := unhide Hfin
        have haf := ha3.keep htk (by unfold KB; decide) (by unfold KB; decide)
        have hbf := hbe3.trans (hbe.mono (by omega))
        have hkf : TK KT w wr := hkt3.trans (htk.mono fun _ e => .inr (.inl e))
        have HR := hide hR
        clear hall hkl ha3 hbe3 hkt3 hR
        go_wp2
        go_ret2
        exact ⟨_, _, haf, hl1, hbf, hkf, fun h0 => ⟨(hlow1 h0).1, rfl⟩, .inr ⟨rfl, rfl, r, by omega, rfl, by rw [unhide HT, unhide HI]; exact unhide HR⟩⟩

end Go.Proofs.YtdlhgbhaeedbdabGreat
