/- Pieces, Count, Awake, Kp1, Kp2, PureD. -/
import Derived.Test.YtgbkkolohloacabM5
import Derived.Test.YtgbkkolohloacabM13
import Derived.Test.YtgbkkolohloacabM14
import Derived.Test.YtgbkkolohloacabM15

/- 'pieces', 'awake'. -/
namespace Go.Proofs.Ytgbkkolohloacab
open Go.RowKit

theorem Try.infoString : (Try.prog.info? 9).map (fun i => (i.zero, i.size, i.bytes)) = some (some (.string ⟨#[]⟩), 1, 16) := by kernel_rfl

/-- The pieces of the first k bytes, and where the next one begins. -/
def pcsTo (s : ByteArray) : Nat → List ByteArray × Nat
  | 0 => ([], 0)
  | k + 1 => if byteAt s k = 59 then ((pcsTo s k).1 ++ [s.extract (pcsTo s k).2 (k + 1)], k + 1) else pcsTo s k
/-- The pieces of a text. -/
def pcs (s : ByteArray) : List ByteArray := if (pcsTo s s.size).2 < s.size then (pcsTo s s.size).1 ++ [s.extract (pcsTo s s.size).2 s.size] else (pcsTo s s.size).1

theorem pcsTo_le (s : ByteArray) (k : Nat) : (pcsTo s k).2 ≤ k ∧ (pcsTo s k).1.length ≤ k := by
  induction k with
  | zero => simp [pcsTo]
  | succ k ih =>
    simp only [pcsTo]
    split
    · simp; omega
    · omega

def strVals (l : List ByteArray) : List Value := l.map Value.string

theorem one_str (x : ByteArray) : ∀ u ∈ [Value.string x], u.oneCell' = true := by intro u hu; simp at hu; subst hu; rfl

set_option maxRecDepth 100000 in
set_option maxHeartbeats 400000 in
theorem pieces_any (s : ByteArray) (w : World) (hs : s.size ≤ 100000) :
    Calls Try.prog 16 #[.string s] w fun e w' => ∃ v, e = .returned v ∧ w'.ownsRow w.heap.size 9 1 v (pcs s).length (strVals (pcs s)) ∧ Below w.heap.size w w' := by
  obtain ⟨i0, hi, hz0, hz1, hz2⟩ := info_parts Try.infoString
  go_enter Try.func16, Try.ntmps16
  go_wp2
  go_loopw [3, 4, 5] (fun v f i wr => ∃ k : Nat, k ≤ s.size ∧ i = .int .i64 k ∧ f = .int .i64 (pcsTo s k).2 ∧ wr.ownsRow w.heap.size 9 1 v (pcsTo s k).1.length (strVals (pcsTo s k).1) ∧ Below w.heap.size w wr) (fun _ _ i _ => s.size - (intOf i).toNat)
  case atStart => exact ⟨0, Nat.zero_le _, rfl, rfl, World.ownsRow_nil _ _ _ _, Below.refl _ _⟩
  case round =>
    obtain ⟨k, hk, rfl, rfl, hown, hbe⟩ := hrel
    obtain ⟨a, cap, rfl⟩ := slice_of_owns hown
    have hle := pcsTo_le s k
    obtain ⟨hle1, hle2⟩ := hle
    have hsz := hbe.size
    by_cases hlt : k < s.size
    · have hlt' : (k : Int) < (s.size : Int) := by omega
      by_cases hc : byteAt s k = 59
      · have hstep : pcsTo s (k + 1) = ((pcsTo s k).1 ++ [s.extract (pcsTo s k).2 (k + 1)], k + 1) := by simp [pcsTo, hc]
        have Hstep := hide hstep
        have hc' : ((s[k].toNat : Int) == 59) = true := by rw [byteAt_in hlt] at hc; rw [beq_iff_eq]; exact hc
        have hfk : ((pcsTo s k).2 : Int) ≤ (k : Int) + 1 := by omega
        have hks : (k : Int) + 1 ≤ (s.size : Int) := by omega
        clear hstep hc
        generalize hf : (pcsTo s k).2 = f at *
        generalize hl : (pcsTo s k).1 = l at *
        have Hf := hide hf
        have Hl := hide hl
        clear hf hl
        go_wp2_with (at_builtin; refine wpList_append_own _ rfl _ _ 22 rfl w.heap.size 9 i0 (.string ⟨#[]⟩) 1 16 Try.underlying22 hi hz0 hz1 hz2 rfl (by decide) (.slice a l.length cap) l.length (strVals l) ?hs ?c0 ⟨wr.heap.size, 0, none⟩ 1 1 [.string (s.extract f (k + 1))] ?hx rfl ?c1 (one_str _) ?c3 ?c4 ?c5 ?_)
        case hs => rfl
        case c0 => exact hown.alloc _
        case hx => rfl
        case c1 => exact cell_one_new _ _ _
        case c3 => unfold maxLen; omega
        case c4 => omega
        case c5 => simp; omega
        intro v' w2 hown' hgrow _
        have hbe2 := (hbe.alloc hsz _).grown hgrow (by simp; omega) (fun k e => (hown.lt k e).1)
        clear hgrow
        go_wp2
        go_roundw
        case rel =>
          refine ⟨k + 1, by omega, by go_num, ?_, ?_, hbe2⟩
          · rw [unhide Hstep]; go_num
          · rw [unhide Hstep]
            simp only [List.length_append, strVals, List.map_append]
            exact hown'
        case measure => simp [intOf]; omega
      · have hstep : pcsTo s (k + 1) = pcsTo s k := by simp [pcsTo, hc]
        have Hstep := hide hstep
        have hc' : ((s[k].toNat : Int) == 59) = false := by rw [byteAt_in hlt] at hc; rw [beq_eq_false_iff_ne]; exact hc
        clear hstep hc
        go_wp2
        go_roundw
        case rel => exact ⟨k + 1, by omega, by go_num, by rw [unhide Hstep], by rw [unhide Hstep]; exact hown, hbe⟩
        case measure => simp [intOf]; omega
    · have hks : k = s.size := by omega
      by_cases hf : (pcsTo s s.size).2 < s.size
      · have hp : pcs s = (pcsTo s s.size).1 ++ [s.extract (pcsTo s s.size).2 s.size] := by simp [pcs, hf]
        have Hp := hide hp
        rw [hks] at hown hle1 hle2 ⊢
        clear hp hks hlt hk
        have hf' : ((pcsTo s s.size).2 : Int) < (s.size : Int) := by omega
        generalize hfe : (pcsTo s s.size).2 = f at *
        generalize hle : (pcsTo s s.size).1 = l at *
        have Hf := hide hfe
        have Hl := hide hle
        clear hfe hle
        go_wp2_with (at_builtin; refine wpList_append_own _ rfl _ _ 22 rfl w.heap.size 9 i0 (.string ⟨#[]⟩) 1 16 Try.underlying22 hi hz0 hz1 hz2 rfl (by decide) (.slice a l.length cap) l.length (strVals l) ?hs ?c0 ⟨wr.heap.size, 0, none⟩ 1 1 [.string (s.extract f s.size)] ?hx rfl ?c1 (one_str _) ?c3 ?c4 ?c5 ?_)
        case hs => rfl
        case c0 => exact hown.alloc _
        case hx => rfl
        case c1 => exact cell_one_new _ _ _
        case c3 => unfold maxLen; omega
        case c4 => omega
        case c5 => simp; omega
        intro v' w2 hown' hgrow _
        have hbe2 := (hbe.alloc hsz _).grown hgrow (by simp; omega) (fun k e => (hown.lt k e).1)
        clear hgrow
        go_wp2
        go_ret
        refine ⟨v', rfl, ?_, hbe2⟩
        rw [unhide Hp]
        simp only [List.length_append, strVals, List.map_append]
        exact hown'
      · have hp : pcs s = (pcsTo s s.size).1 := by simp [pcs, hf]
        have Hp := hide hp
        rw [hks] at hown ⊢
        have hf' : ¬ ((pcsTo s s.size).2 : Int) < (s.size : Int) := by omega
        clear hp hks
        go_wp2
        go_ret
        refine ⟨_, rfl, ?_, hbe⟩
        rw [unhide Hp]
        exact hown

end Go.Proofs.Ytgbkkolohloacab

/- As many pieces as items; 'awake'. -/
namespace Go.Proofs.Ytgbkkolohloacab
open Go.RowKit

theorem byteAt_lt {s : ByteArray} {p : Nat} {c : Int} (h : byteAt s p = c) (hc : 0 ≤ c) : p < s.size := by
  by_cases hp : p < s.size
  · exact hp
  · rw [byteAt_out hp] at h; omega

theorem end_of {s : ByteArray} {st : Nat × Bool} {p : Nat} (hp : p ≤ st.1) (h : (wd s [59] st).2 = false) : ∃ r, p ≤ r ∧ wd s [59] st = (r + 1, false) ∧ byteAt s r = 59 ∧ st = (r, false) := by
  obtain ⟨h1, h2, h3⟩ := tk_ok (s := s) (lo := ((59 : UInt8).toNat : Int)) (hi := ((59 : UInt8).toNat : Int)) (st := st) h
  refine ⟨st.1, hp, h3, ?_, Prod.ext rfl h1⟩
  simp [seesB] at h2
  omega

theorem item_endC {s : ByteArray} {p : Nat} (h : (itemS s (p, false)).2 = false) : ∃ r, p ≤ r ∧ itemS s (p, false) = (r + 1, false) ∧ byteAt s r = 59 := by
  have t := tk_mono s
  have d := wd_mono s
  have n := nmS_mono s
  have m := mdS_mono s
  unfold itemS at h ⊢
  simp only at h ⊢
  by_cases h1 : byteAt s p = 100
  · simp only [h1, if_true] at h ⊢
    obtain ⟨r, a, b, c, _⟩ := end_of (p := p) (st := diskS4 s (p, false)) (Nat.le_trans (d _ (p, false)) (Nat.le_trans (n _) (Nat.le_trans (d _ _) (t _ _ _)))) h
    exact ⟨r, a, b, c⟩
  rw [if_neg h1] at h ⊢
  by_cases h2 : byteAt s p = 116
  · rw [if_pos h2] at h ⊢
    obtain ⟨r, a, b, c, _⟩ := end_of (p := p) (st := targetS2 s (p, false)) (Nat.le_trans (d _ (p, false)) (n _)) h
    exact ⟨r, a, b, c⟩
  rw [if_neg h2] at h ⊢
  by_cases h3 : byteAt s p = 108
  · rw [if_pos h3] at h ⊢
    obtain ⟨r, a, b, c, _⟩ := end_of (p := p) (st := lunS8 s (p, false)) (Nat.le_trans (d _ (p, false)) (Nat.le_trans (n _) (Nat.le_trans (d _ _) (Nat.le_trans (t _ _ _) (Nat.le_trans (d _ _) (Nat.le_trans (n _) (Nat.le_trans (d _ _) (m _)))))))) h
    exact ⟨r, a, b, c⟩
  rw [if_neg h3] at h ⊢
  by_cases h4 : byteAt s p = 104
  · rw [if_pos h4] at h ⊢
    obtain ⟨r, a, b, c, _⟩ := end_of (p := p) (st := hostS4 s (p, false)) (Nat.le_trans (d _ (p, false)) (Nat.le_trans (n _) (Nat.le_trans (d _ _) (n _)))) h
    exact ⟨r, a, b, c⟩
  rw [if_neg h4] at h ⊢
  by_cases h5 : byteAt s p = 109
  · rw [if_pos h5] at h ⊢
    obtain ⟨r, a, b, c, _⟩ := end_of (p := p) (st := mapsS8 s (p, false)) (Nat.le_trans (d _ (p, false)) (Nat.le_trans (n _) (Nat.le_trans (d _ _) (Nat.le_trans (n _) (Nat.le_trans (d _ _) (Nat.le_trans (t _ _ _) (Nat.le_trans (d _ _) (t _ _ _)))))))) h
    exact ⟨r, a, b, c⟩
  rw [if_neg h5] at h
  simp at h

theorem cnt_mono (s : ByteArray) {a b : Nat} (h : a ≤ b) : (pcsTo s a).1.length ≤ (pcsTo s b).1.length := by
  induction b with
  | zero => have : a = 0 := by omega
            rw [this]; exact Nat.le_refl _
  | succ b ih =>
    by_cases e : a = b + 1
    · rw [e]; exact Nat.le_refl _
    · refine Nat.le_trans (ih (by omega)) ?_
      simp only [pcsTo]
      split
      · simp
      · exact Nat.le_refl _

theorem cnt_step (s : ByteArray) {r : Nat} (h : byteAt s r = 59) : (pcsTo s (r + 1)).1.length = (pcsTo s r).1.length + 1 := by simp [pcsTo, h]

theorem rdAll_cnt (s : ByteArray) (n p : Nat) (acc : List Item) (hp : p ≤ s.size) : (rdAll s n p acc).1.length + (pcsTo s p).1.length ≤ acc.length + (pcsTo s s.size).1.length := by
  induction n generalizing p acc with
  | zero =>
    have := cnt_mono s hp
    unfold rdAll; split
    · simp; omega
    · simp; omega
  | succ n ih =>
    have := cnt_mono s hp
    unfold rdAll; split
    · split
      · simp; omega
      · rename_i hb
        obtain ⟨r, a, b, c⟩ := item_endC (s := s) (p := p) (by simpa using hb)
        rw [b]
        have hr := byteAt_lt c (by omega)
        have := ih (r + 1) (acc ++ [itemAt s p]) (by omega)
        have h2 := cnt_mono s a
        rw [cnt_step s c] at this
        simp at this ⊢
        omega
    · simp; omega

theorem items_le_pieces (s : ByteArray) : (itemsOf s).length ≤ (pcs s).length := by
  have := rdAll_cnt s 24 0 [] (Nat.zero_le _)
  simp [pcsTo] at this
  unfold pcs itemsOf
  split
  · simp; omega
  · omega

set_option maxRecDepth 100000 in
theorem chk_a0 : chk ⟨#[100, 105, 115, 107, 32, 97, 32, 48, 59]⟩ = (2, 7) := by decide +kernel

end Go.Proofs.Ytgbkkolohloacab

/- 'awake', 'Places'. -/
namespace Go.Proofs.Ytgbkkolohloacab
open Go.RowKit

def tA : ByteArray := ⟨#[116, 97, 114, 103, 101, 116, 32, 120, 59, 100, 105, 115, 107, 32, 98, 32, 49, 59, 100, 105, 115, 107, 32, 97, 98, 32, 50, 59, 100, 105, 115, 107, 32, 97, 32, 51, 59]⟩
def tB : ByteArray := ⟨#[100, 105, 115, 107, 32, 97, 32, 51, 59, 100, 105, 115, 107, 32, 97, 98, 32, 50, 59, 100, 105, 115, 107, 32, 98, 32, 49, 59, 116, 97, 114, 103, 101, 116, 32, 120, 59]⟩

set_option maxRecDepth 100000 in
theorem chk_a1 : chk tA = (0, 0) := by decide +kernel
set_option maxRecDepth 100000 in
theorem prt_a1 : (prt tA).data = tB.data := by decide +kernel

theorem prt_a : prt ⟨#[116, 97, 114, 103, 101, 116, 32, 120, 59, 100, 105, 115, 107, 32, 98, 32, 49, 59, 100, 105, 115, 107, 32, 97, 98, 32, 50, 59, 100, 105, 115, 107, 32, 97, 32, 51, 59]⟩ = ⟨#[100, 105, 115, 107, 32, 97, 32, 51, 59, 100, 105, 115, 107, 32, 97, 98, 32, 50, 59, 100, 105, 115, 107, 32, 98, 32, 49, 59, 116, 97, 114, 103, 101, 116, 32, 120, 59]⟩ := congrArg ByteArray.mk prt_a1
theorem chk_a : chk ⟨#[116, 97, 114, 103, 101, 116, 32, 120, 59, 100, 105, 115, 107, 32, 98, 32, 49, 59, 100, 105, 115, 107, 32, 97, 98, 32, 50, 59, 100, 105, 115, 107, 32, 97, 32, 51, 59]⟩ = (0, 0) := chk_a1

set_option maxRecDepth 100000 in
set_option maxHeartbeats 400000 in
theorem awake_any (w : World) : Calls Try.prog 45 #[] w fun e w' => e = .returned (.bool true) ∧ Below w.heap.size w w' := by
  have h1 := check_any ⟨#[100, 105, 115, 107, 32, 97, 32, 48, 59]⟩ w (by decide)
  rw [chk_a0] at h1
  have h2 : ∀ wx, Calls Try.prog 13 #[.string ⟨#[116, 97, 114, 103, 101, 116, 32, 120, 59, 100, 105, 115, 107, 32, 98, 32, 49, 59, 100, 105, 115, 107, 32, 97, 98, 32, 50, 59, 100, 105, 115, 107, 32, 97, 32, 51, 59]⟩] wx fun e w' => e = .returned (.tuple #[.string ⟨#[100, 105, 115, 107, 32, 97, 32, 51, 59, 100, 105, 115, 107, 32, 97, 98, 32, 50, 59, 100, 105, 115, 107, 32, 98, 32, 49, 59, 116, 97, 114, 103, 101, 116, 32, 120, 59]⟩, .int .i64 0]) ∧ Below wx.heap.size wx w' := by
    intro wx
    have := print_any ⟨#[116, 97, 114, 103, 101, 116, 32, 120, 59, 100, 105, 115, 107, 32, 98, 32, 49, 59, 100, 105, 115, 107, 32, 97, 98, 32, 50, 59, 100, 105, 115, 107, 32, 97, 32, 51, 59]⟩ wx (by decide)
    rw [prt_a, chk_a] at this
    exact this
  have H2 := hide h2
  clear h2
  go_enter Try.func45, Try.ntmps45
  go_wp2_with fail
  refine h1.mono ?_
  rintro e w1 ⟨rfl, hb1⟩
  go_wp2_with fail
  refine (unhide H2 _).mono ?_
  rintro e w2 ⟨rfl, hb2⟩
  go_wp2
  go_ret
  exact ⟨rfl, hb1.trans (hb2.mono hb1.size)⟩

end Go.Proofs.Ytgbkkolohloacab

/- 'stepping', 'planned'. -/
namespace Go.Proofs.Ytgbkkolohloacab
open Go.RowKit

/-- A list of texts in new memory. -/
theorem tx_of_owns {w : World} {base : Nat} {v : Value} {ss : List ByteArray} (h : w.ownsRow base 9 1 v ss.length (ss.map Value.string)) :
    ∃ a cap, v = .slice a ss.length cap ∧ ss.length ≤ cap ∧ ((a = none ∧ ss = [] ∧ cap = 0) ∨ ∃ g, a = some ⟨g, 0, none⟩ ∧ base ≤ g ∧ g < w.heap.size ∧ ∀ i (h : i < ss.length), w.cell? ⟨g, i, none⟩ = some (.string ss[i])) := by
  have hh := h
  obtain ⟨_, ⟨rfl, h0⟩ | ⟨g, cap, cur, rfl, hb, hg, hc, _, _, _⟩⟩ := hh
  · have : ss = [] := List.length_eq_zero_iff.1 h0
    exact ⟨none, 0, by rw [h0], by omega, Or.inl ⟨rfl, this, rfl⟩⟩
  · refine ⟨some ⟨g, 0, none⟩, cap, rfl, hc, Or.inr ⟨g, rfl, hb, (h.lt g rfl).2, fun i hi => ?_⟩⟩
    have := h.cells (g := g) rfl i (.string ss[i]) (by simp [hi])
    rwa [addr_add] at this

theorem TxAt.of_new {w : World} {base : Nat} {a : Option Addr} {cap : Nat} {ss : List ByteArray} (h : (a = none ∧ ss = [] ∧ cap = 0) ∨ ∃ g, a = some ⟨g, 0, none⟩ ∧ base ≤ g ∧ g < w.heap.size ∧ ∀ i (h : i < ss.length), w.cell? ⟨g, i, none⟩ = some (.string ss[i])) : TxAt w a ss := by
  rcases h with ⟨_, h, _⟩ | ⟨g, h1, _, h2, h3⟩
  · exact Or.inl h
  · exact Or.inr ⟨g, 0, h1, h2, fun i hi => by rw [Nat.zero_add]; exact h3 i hi⟩

theorem data_inj {l m : List ByteArray} (h : l.map ByteArray.data = m.map ByteArray.data) : l = m := by
  induction l generalizing m with
  | nil => cases m with
           | nil => rfl
           | cons a m => simp at h
  | cons a l ih =>
    cases m with
    | nil => simp at h
    | cons b m =>
      simp only [List.map_cons, List.cons.injEq] at h
      rw [ih h.2, ByteArray.ext h.1]

def dA : ByteArray := ⟨#[100, 105, 115, 107, 32, 97, 32, 52, 59]⟩
def dB : ByteArray := ⟨#[100, 105, 115, 107, 32, 97, 32, 53, 59]⟩
def dS : List ByteArray := [⟨#[45, 100, 105, 115, 107, 32, 97, 32, 52, 59]⟩, ⟨#[43, 100, 105, 115, 107, 32, 97, 32, 53, 59]⟩]

set_option maxRecDepth 100000 in
theorem pl_d0 : (pl dA dB).map ByteArray.data = dS.map ByteArray.data ∧ plErr dA dB = 0 := by decide +kernel
set_option maxRecDepth 100000 in
theorem wk_d0 : (wkTxt dA dS).data = dB.data ∧ wkN dA dS = 2 ∧ wkErr dA dS = 0 := by decide +kernel
theorem pl_d : pl dA dB = dS := data_inj pl_d0.1
theorem wk_d : wkTxt dA dS = dB := ByteArray.ext wk_d0.1

set_option maxRecDepth 100000 in
set_option maxHeartbeats 400000 in
theorem stepping_any (w : World) : Calls Try.prog 22 #[] w fun e w' => e = .returned (.bool true) ∧ Below w.heap.size w w' := by
  have h1 : ∀ wx, Calls Try.prog 24 #[.string ⟨#[100, 105, 115, 107, 32, 97, 32, 52, 59]⟩, .string ⟨#[100, 105, 115, 107, 32, 97, 32, 53, 59]⟩] wx fun e w' => ∃ g cap, e = .returned (.tuple #[.slice (some ⟨g, 0, none⟩) 2 cap, .int .i64 0]) ∧ g < w'.heap.size ∧ TxAt w' (some ⟨g, 0, none⟩) dS ∧ w'.cell? ⟨g, 0, none⟩ = some (.string ⟨#[45, 100, 105, 115, 107, 32, 97, 32, 52, 59]⟩) ∧ Below wx.heap.size wx w' := by
    intro wx
    refine (plan_any dA dB wx (by decide) (by decide)).mono ?_
    rintro e w' ⟨v, rfl, ho, hb⟩
    rw [pl_d] at ho
    rw [pl_d0.2]
    obtain ⟨a, cap, rfl, _, h⟩ := tx_of_owns ho
    have ht := TxAt.of_new h
    rcases h with ⟨_, h, _⟩ | ⟨g, rfl, _, hg, hc⟩
    · simp [dS] at h
    · exact ⟨g, cap, rfl, hg, ht, hc 0 (by decide), hb⟩
  have h2 : ∀ wx a cap, TxAt wx a dS → Calls Try.prog 10 #[.string ⟨#[100, 105, 115, 107, 32, 97, 32, 52, 59]⟩, .slice a 2 cap] wx fun e w' => e = .returned (.tuple #[.string ⟨#[100, 105, 115, 107, 32, 97, 32, 53, 59]⟩, .int .i64 2, .int .i64 0]) ∧ Below wx.heap.size wx w' := by
    intro wx a cap ht
    have := walk_any dA a cap dS wx (by decide) (by decide) (by decide) ht
    rw [wk_d, wk_d0.2.1, wk_d0.2.2] at this
    exact this
  have H1 := hide h1
  have H2 := hide h2
  clear h1 h2
  go_enter Try.func22, Try.ntmps22
  go_wp2_with fail
  refine (awake_any _).mono ?_
  rintro e w1 ⟨rfl, hb1⟩
  have hl1 := hb1.size
  go_wp2_with fail
  refine (unhide H1 _).mono ?_
  rintro e w2 ⟨g, cap, rfl, hg, ht, hc, hb2⟩
  have hl2 := hb2.size
  go_wp2_with fail
  refine (unhide H2 _ _ _ ht).mono ?_
  rintro e w3 ⟨rfl, hb3⟩
  have hc3 := (hb3.cell (p := ⟨g, 0, none⟩) hg).trans hc
  clear hc
  go_wp2
  go_ret
  exact ⟨rfl, (hb1.trans (hb2.mono hl1)).trans (hb3.mono (by omega))⟩

/-- Are both texts arrangements? -/
def bothB (s t : ByteArray) : Bool := decide (plErr s t = 0)

theorem plErr_le (s t : ByteArray) : plErr s t ≤ 4 := by unfold plErr; split <;> exact chk_le _

set_option maxRecDepth 100000 in
set_option maxHeartbeats 400000 in
theorem planned_any (s t : ByteArray) (w : World) (hs : s.size ≤ maxLen) (ht : t.size ≤ maxLen) :
    Calls Try.prog 5 #[.string s, .string t] w fun e w' => ∃ v, e = .returned (.tuple #[v, .bool (bothB s t), .bool true]) ∧ w'.ownsRow w.heap.size 9 1 v (pl s t).length ((pl s t).map Value.string) ∧ Below w.heap.size w w' := by
  have hc1 := fun wx => check_any s wx hs
  have hc2 := fun wx => check_any t wx ht
  have hpl := fun wx => plan_any s t wx hs ht
  have hlen : plErr s t ≠ 0 → (pl s t).length = 0 := fun h => by simp [pl, h]
  have hdef : plErr s t = if (chk s).1 = 0 then (chk t).1 else (chk s).1 := rfl
  unfold bothB
  by_cases h0 : (chk s).1 = 0
  · rw [if_pos h0] at hdef
    have h0' : ((((chk s).1 : Nat) : Int) == 0) = true := by rw [beq_iff_eq]; omega
    rw [hdef] at hpl hlen ⊢
    by_cases h1 : (chk t).1 = 0
    · have h1' : ((((chk t).1 : Nat) : Int) == 0) = true := by rw [beq_iff_eq]; omega
      rw [show decide ((chk t).1 = 0) = true from decide_eq_true h1]
      generalize (chk s).1 = c1 at *
      generalize (chk t).1 = c2 at *
      have H1 := hide hc1
      have H2 := hide hc2
      have H3 := hide hpl
      clear hc1 hc2 hpl hdef hlen h0 h1
      go_enter Try.func5, Try.ntmps5
      go_wp2_with fail
      refine (stepping_any _).mono ?_
      rintro e w1 ⟨rfl, hb1⟩
      have hl1 := hb1.size
      go_wp2_with fail
      refine (unhide H1 _).mono ?_
      rintro e w2 ⟨rfl, hb2⟩
      have hl2 := hb2.size
      go_wp2_with fail
      refine (unhide H2 _).mono ?_
      rintro e w3 ⟨rfl, hb3⟩
      have hl3 := hb3.size
      go_wp2_with fail
      refine (unhide H3 _).mono ?_
      rintro e w4 ⟨v, rfl, hown, hb4⟩
      obtain ⟨a, cap, rfl⟩ := slice_of_owns hown
      go_wp2
      go_ret3
      exact ⟨_, rfl, owns_mono hown (by omega), ((hb1.trans (hb2.mono hl1)).trans (hb3.mono (by omega))).trans (hb4.mono (by omega))⟩
    · have h1' : ((((chk t).1 : Nat) : Int) == 0) = false := by rw [beq_eq_false_iff_ne]; omega
      rw [show decide ((chk t).1 = 0) = false from decide_eq_false h1]
      have hl0 := hlen h1
      simp only [hl0] at hpl
      rw [hl0]
      clear hl0
      generalize (chk s).1 = c1 at *
      generalize (chk t).1 = c2 at *
      have H1 := hide hc1
      have H2 := hide hc2
      have H3 := hide hpl
      clear hc1 hc2 hpl hdef hlen h0 h1
      go_enter Try.func5, Try.ntmps5
      go_wp2_with fail
      refine (stepping_any _).mono ?_
      rintro e w1 ⟨rfl, hb1⟩
      have hl1 := hb1.size
      go_wp2_with fail
      refine (unhide H1 _).mono ?_
      rintro e w2 ⟨rfl, hb2⟩
      have hl2 := hb2.size
      go_wp2_with fail
      refine (unhide H2 _).mono ?_
      rintro e w3 ⟨rfl, hb3⟩
      have hl3 := hb3.size
      go_wp2_with fail
      refine (unhide H3 _).mono ?_
      rintro e w4 ⟨v, rfl, hown, hb4⟩
      obtain ⟨a, cap, rfl⟩ := slice_of_owns hown
      go_wp2
      go_ret3
      exact ⟨_, rfl, owns_mono hown (by omega), ((hb1.trans (hb2.mono hl1)).trans (hb3.mono (by omega))).trans (hb4.mono (by omega))⟩
  · rw [if_neg h0] at hdef
    have h0' : ((((chk s).1 : Nat) : Int) == 0) = false := by rw [beq_eq_false_iff_ne]; omega
    rw [hdef] at hpl hlen ⊢
    rw [show decide ((chk s).1 = 0) = false from decide_eq_false h0]
    have hl0 := hlen h0
    simp only [hl0] at hpl
    rw [hl0]
    clear hl0
    generalize (chk s).1 = c1 at *
    generalize (chk t).1 = c2 at *
    have H1 := hide hc1
    have H2 := hide hc2
    have H3 := hide hpl
    clear hc1 hc2 hpl hdef hlen h0
    go_enter Try.func5, Try.ntmps5
    go_wp2_with fail
    refine (stepping_any _).mono ?_
    rintro e w1 ⟨rfl, hb1⟩
    have hl1 := hb1.size
    go_wp2_with fail
    refine (unhide H1 _).mono ?_
    rintro e w2 ⟨rfl, hb2⟩
    have hl2 := hb2.size
    go_wp2_with fail
    refine (unhide H2 _).mono ?_
    rintro e w3 ⟨rfl, hb3⟩
    have hl3 := hb3.size
    go_wp2_with fail
    refine (unhide H3 _).mono ?_
    rintro e w4 ⟨v, rfl, hown, hb4⟩
    obtain ⟨a, cap, rfl⟩ := slice_of_owns hown
    go_wp2
    go_ret3
    exact ⟨_, rfl, owns_mono hown (by omega), ((hb1.trans (hb2.mono hl1)).trans (hb3.mono (by omega))).trans (hb4.mono (by omega))⟩

end Go.Proofs.Ytgbkkolohloacab

/- 'Arrives'. -/
namespace Go.Proofs.Ytgbkkolohloacab
open Go.RowKit

theorem arrI_of_chk {s : ByteArray} (h : (chk s).1 = 0) : ArrI (itemsOf s) := by
  obtain ⟨L, hL, _, e⟩ := arr_of_chk (chkZero h)
  rw [e]; exact hL.arrI

theorem plErr_zero {s t : ByteArray} (h : plErr s t = 0) : (chk s).1 = 0 ∧ (chk t).1 = 0 := by
  unfold plErr at h
  split at h
  · rename_i h0; exact ⟨h0, h⟩
  · rename_i h0; exact absurd h h0

theorem stTxt_size (b : Bool) (t : ByteArray) : (stTxt b t).size = 1 + t.size := by
  unfold stTxt
  rw [ByteArray.size_append]
  cases b <;> rfl

theorem pl_small (s t : ByteArray) : (pl s t).length ≤ 48 ∧ ∀ x ∈ pl s t, x.size ≤ 401 := by
  unfold pl
  split
  · rename_i h
    obtain ⟨h1, h2⟩ := plErr_zero h
    have f1 := fits_of_chk h1
    have f2 := fits_of_chk h2
    refine ⟨by simp [stTxts]; exact mk_len _ _ f1.1 f2.1, fun x hx => ?_⟩
    obtain ⟨p, hp, rfl⟩ := List.mem_map.1 hx
    rw [stTxt_size]
    rcases mem_mk hp with h | h
    · have := f1.text _ h; omega
    · have := f2.text _ h; omega
  · simp

theorem prt_of_perm {t : ByteArray} (ht : (chk t).1 = 0) {m : List Item} (hm : m.Perm (itemsOf t)) : (⟨(catB (sortTo m m.length)).toArray⟩ : ByteArray) = prt t := by
  unfold prt
  rw [if_pos ht, sortTo_all, sortTo_all, sorted_of_perm hm ((arrI_of_chk ht).perm hm.symm).dist]

/-- The plan leads there: what Walk tells of it. -/
theorem plan_end {s t : ByteArray} (h : plErr s t = 0) : wkErr s (pl s t) = 0 ∧ wkN s (pl s t) = (pl s t).length ∧ wkTxt s (pl s t) = prt t := by
  obtain ⟨h1, h2⟩ := plErr_zero h
  obtain ⟨_, m, hm, hp⟩ := plan_walk (arrI_of_chk h1) (arrI_of_chk h2)
  have hpl : pl s t = stTxts (mk (itemsOf s) (itemsOf t)) := by simp [pl, h]
  rw [← hpl] at hm
  refine ⟨by simp [wkErr, h1, wErr, hm], by rw [wkN, if_pos h1, wlkN_some hm], ?_⟩
  rw [wkTxt, if_pos h1, wOut, hm]
  exact prt_of_perm h2 hp

end Go.Proofs.Ytgbkkolohloacab

/- Texts that Print tells: plain mathematics. -/
namespace Go.Proofs.Ytgbkkolohloacab
open Go.RowKit

/-- A text that Print tells of itself. -/
def Canon (s : ByteArray) : Prop := (chk s).1 = 0 ∧ prI (itemsOf s) = s

theorem prI_perm {l m : List Item} (h : ArrI l) (hp : l.Perm m) : prI l = prI m := by
  unfold prI
  rw [sortTo_all, sortTo_all, sorted_of_perm hp h.dist]

theorem Canon.arr {s : ByteArray} (h : Canon s) : ArrI (itemsOf s) := arrI_of_chk h.1

theorem prt_prI {s : ByteArray} (h : (chk s).1 = 0) : prt s = prI (itemsOf s) := by
  unfold prt prI
  rw [if_pos h]

theorem letter_ne {c : UInt8} (h : letter c) : c ≠ 0 := by
  unfold letter at h
  rintro rfl
  revert h
  decide

theorem dg_ne {n : Nat} (h : n ≤ 9) : dg n ≠ 0 := by
  have : ∀ n, n ≤ 9 → dg n ≠ 0 := by decide
  exact this n h
theorem md_ne (m : Nat) : md m ≠ 0 := by unfold md; split <;> decide

theorem text_nz {x : It} (hx : x.ok) : ∀ c ∈ x.text, c ≠ 0 := by
  obtain ⟨ha, hk⟩ := hx
  have hA : ∀ c ∈ x.a, c ≠ 0 := fun c hc => letter_ne (ha.2.2 c hc)
  intro c hc
  unfold It.text at hc
  rcases List.mem_append.1 hc with hc | hc
  · unfold It.body at hc
    rcases hk with ⟨e, hb, h1, h2, h3⟩ | ⟨e, hb, h1, h2⟩ | ⟨e, hb, h1, h2⟩ | ⟨e, hb, h1, h2⟩ | ⟨e, hb, h1, h2⟩
    · simp only [e, if_true, List.mem_append, List.mem_cons, List.not_mem_nil, or_false] at hc
      have := dg_ne h2
      rcases hc with (rfl | rfl | rfl | rfl | rfl) | hc | rfl | rfl <;> first | decide | exact hA _ hc | assumption
    · simp [e] at hc
      rcases hc with rfl | rfl | rfl | rfl | rfl | rfl | rfl | hc <;> first | decide | exact hA _ hc
    · have hB : ∀ c ∈ x.b, c ≠ 0 := fun c hc => letter_ne (hb.2.2 c hc)
      have h4 := dg_ne (n := x.n) (by omega)
      have h5 := md_ne x.m
      simp [e] at hc
      rcases hc with rfl | rfl | rfl | rfl | hc | rfl | rfl | rfl | hc | rfl | rfl | rfl <;> first | decide | exact hA _ hc | exact hB _ hc | assumption
    · have hB : ∀ c ∈ x.b, c ≠ 0 := fun c hc => letter_ne (hb.2.2 c hc)
      simp [e] at hc
      rcases hc with rfl | rfl | rfl | rfl | rfl | hc | rfl | hc <;> first | decide | exact hA _ hc | exact hB _ hc
    · have hB : ∀ c ∈ x.b, c ≠ 0 := fun c hc => letter_ne (hb.2.2 c hc)
      have h4 := dg_ne (n := x.n) (by omega)
      have h5 := dg_ne (n := x.m) (by omega)
      simp [e] at hc
      rcases hc with rfl | rfl | rfl | rfl | hc | rfl | hc | rfl | rfl | rfl | rfl <;> first | decide | exact hA _ hc | exact hB _ hc | assumption
  · simp at hc
    subst hc
    decide

theorem prI_txt {L : List It} (h : Arr L) : prI (L.map It.item) = txt (sortI L) := by
  rw [← h.prt, prt_prI (by rw [h.chk.1]), h.chk.2]

theorem prI_canon {t : List Item} (h : ArrI t) : Canon (prI t) ∧ (itemsOf (prI t)).Perm t ∧ (prI t).size ≤ 400 ∧ ∀ c ∈ (prI t).data.toList, c ≠ 0 := by
  obtain ⟨L, hL, rfl⟩ := h.arr
  have hM := arr_sortI hL
  rw [prI_txt hL]
  obtain ⟨h1, h2⟩ := hM.chk
  refine ⟨⟨by rw [h1], ?_⟩, ?_, ?_, ?_⟩
  · rw [h2, prI_txt hM]
    exact sortI_of_perm hM (sortI_perm L)
  · rw [h2]
    exact (sortI_perm L).map _
  · rw [txt_size]; exact hM.short
  · intro c hc
    simp only [txt, List.toList_toArray] at hc
    obtain ⟨x, hx, hcx⟩ := List.mem_flatMap.1 hc
    exact text_nz (hM.ok x hx) c hcx

theorem canon_nil : Canon ⟨#[]⟩ := by
  have hA : ArrI ([] : List Item) := ⟨by simp, ⟨by simp, by simp [sizeI]⟩, by unfold Dist; exact List.Pairwise.nil, by unfold Refs; simp⟩
  have : prI [] = ⟨#[]⟩ := rfl
  rw [← this]
  exact (prI_canon hA).1

theorem pl_canon {s t : ByteArray} (hs : (chk s).1 = 0) (ht : (chk t).1 = 0) : pl s t = stTxts (mk (itemsOf s) (itemsOf t)) := by
  have : plErr s t = 0 := by unfold plErr; rw [if_pos hs]; exact ht
  unfold pl
  rw [if_pos this]

theorem stTxts_len (l : List (Bool × Item)) : (stTxts l).length = l.length := by simp [stTxts]

end Go.Proofs.Ytgbkkolohloacab
