/- The law's play of a script. -/
import Derived.Test.YtdlhgbhaeedbdaaGreatLaw2
namespace Go.Proofs.YtdlhgbhaeedbdaaGreat
open Go.RowKit

/-- One step of a script, as its eight cells say. -/
structure Opx where
  (K A B C D : Int)
  (s t : ByteArray)
  (la : Option Addr)
  (ll lc : Nat)

def Opx.val (x : Opx) : Value := opv x.K x.A x.B x.C x.D x.s x.t x.la x.ll x.lc

structure OpAt (w : World) (g o : Nat) (x : Opx) : Prop where
  c0 : w.cell? ⟨g, o, none⟩ = some (.int .i64 x.K)
  c1 : w.cell? ⟨g, o + 1, none⟩ = some (.int .i64 x.A)
  c2 : w.cell? ⟨g, o + 2, none⟩ = some (.int .i64 x.B)
  c3 : w.cell? ⟨g, o + 3, none⟩ = some (.int .i64 x.C)
  c4 : w.cell? ⟨g, o + 4, none⟩ = some (.int .i64 x.D)
  c5 : w.cell? ⟨g, o + 5, none⟩ = some (.string x.s)
  c6 : w.cell? ⟨g, o + 6, none⟩ = some (.string x.t)
  c7 : w.cell? ⟨g, o + 7, none⟩ = some (.slice x.la x.ll x.lc)

theorem OpAt.below {B : Nat} {w w' : World} {g o : Nat} {x : Opx} (h : OpAt w g o x) (hb : Below B w w') (hg : g < B) : OpAt w' g o x :=
  ⟨(hb.cell (p := ⟨g, o, none⟩) hg).trans h.c0, (hb.cell (p := ⟨g, o + 1, none⟩) hg).trans h.c1, (hb.cell (p := ⟨g, o + 2, none⟩) hg).trans h.c2, (hb.cell (p := ⟨g, o + 3, none⟩) hg).trans h.c3,
   (hb.cell (p := ⟨g, o + 4, none⟩) hg).trans h.c4, (hb.cell (p := ⟨g, o + 5, none⟩) hg).trans h.c5, (hb.cell (p := ⟨g, o + 6, none⟩) hg).trans h.c6, (hb.cell (p := ⟨g, o + 7, none⟩) hg).trans h.c7⟩

/-- What a step of a kind up to u (or a mark) does. -/
def Steps (u : Int) : Prop := ∀ (b : Nat) (x : Opx) (w : World), Wd w b → x.s.size ≤ maxLen → (x.K ≤ u ∨ x.K = 19) →
  Calls Tryz.prog 10 #[.pointer (some ⟨b, 0, none⟩), x.val] w fun e w' => e = .returned (.bool true) ∧ Below w.heap.size w w'

theorem steps_one : Steps 1 := by
  rintro b ⟨K, A, B, C, D, s, t, la, ll, lc⟩ w h hs hK
  simp only [Opx.val] at hs hK ⊢
  by_cases h1 : K = 1
  · subst h1; exact step_check b A B C D s t la ll lc w hs
  · rcases hK with hK | rfl
    · exact step_low b K A B C D s t la ll lc w h (by omega)
    · exact step_mark b A B C D s t la ll lc w h

set_option maxRecDepth 100000 in
set_option maxHeartbeats 1000000 in
theorem plays_some (u lo hi : Int) (hu : Steps u) (g o n cap : Nat) (f : Nat → Opx) (w : World) (hn : n ≤ maxLen) (hg : g < w.heap.size) (hs : ∀ i, i < n → (f i).s.size ≤ maxLen) (hit : ∀ i, i < n → OpAt w g (o + i * 8) (f i)) :
    Calls Tryz.prog 8 #[.slice (some ⟨g, o, none⟩) n cap, .int .i64 u, .int .i64 lo, .int .i64 hi] w fun e w' => e = .returned (.bool true) ∧ Below w.heap.size w w' := by
  have Hs := hide hs
  have Hit := hide hit
  have Hn := hide hn
  have hn' : (n : Int) ≤ 9223372036854775807 := by unfold maxLen at hn; omega
  clear hs hit hn
  go_enter Tryz.func8, Tryz.ntmps8
  go_wp2_with fail
  refine (start_any w).mono ?_
  rintro e w1 ⟨b, rfl, hwb, hWd, hB1⟩
  obtain ⟨d, c0⟩ := hWd.c0
  have hsz1 := hB1.size
  go_wp2_with fail
  go_loopw [10] (fun i wr => ∃ k : Nat, k ≤ n ∧ i = .int .i64 k ∧ Below w1.heap.size w1 wr) (fun i _ => n - (intOf i).toNat)
  case atStart => exact ⟨0, Nat.zero_le _, rfl, Below.refl _ _⟩
  case round =>
    obtain ⟨k, hk, rfl, hbe⟩ := hrel
    by_cases hlt : k < n
    · have hlt' : (k : Int) < (n : Int) := by omega
      obtain ⟨x, hx⟩ : ∃ x, x = f k := ⟨_, rfl⟩
      have hx1 : OpAt w1 g (o + k * 8) x := by rw [hx]; exact (unhide Hit k hlt).below hB1 hg
      have hx2 : OpAt wr g (o + k * 8) x := hx1.below hbe (by omega)
      have hxs : x.s.size ≤ maxLen := by rw [hx]; exact unhide Hs k hlt
      have hW2 : Wd wr b := hWd.later hbe
      clear hx hx1
      obtain ⟨K, A, B, C, D, s, t, la, ll, lc⟩ := x
      obtain ⟨c0, c1, c2, c3, c4, c5, c6, c7⟩ := hx2
      simp only at c0 c1 c2 c3 c4 c5 c6 c7 hxs
      have hsz := hbe.size
      by_cases hK : K ≤ u ∨ K = 19
      · have H1 := hide (fun wx hw => hu b ⟨K, A, B, C, D, s, t, la, ll, lc⟩ wx hw hxs hK)
        have hb2 : Below wr.heap.size wr (wr.alloc (.cells #[.int .i64 K, .int .i64 A, .int .i64 B, .int .i64 C, .int .i64 D, .string s, .string t, .slice la ll lc] 36)) := (Below.refl _ _).alloc (Nat.le_refl _) _
        have hW3 := hW2.later hb2
        simp only [Opx.val, opv] at H1
        by_cases h19 : u < K
        · have h19' : K = 19 := by omega
          subst h19'
          have g1 : decide (u < 19) = true := by simp; omega
          clear hK
          go_wp2_with fail
          refine (unhide H1 _ hW3).mono ?_
          rintro e w2 ⟨rfl, hb3⟩
          have hW4 : Wd w2 b := hW3.later hb3
          have e0 : w2.cell? ⟨wr.heap.size, 0, none⟩ = some (.int .i64 19) := (hb3.cell (by simp)).trans (by go_simp)
          go_wp2_with fail
          refine (looks_any b _ hW4).mono ?_
          rintro e w3 ⟨rfl, rfl⟩
          go_wp2_with fail
          go_roundw
          case rel => exact ⟨k + 1, by omega, by go_num, hbe.trans ((hb2.trans (hb3.mono (by simp))).mono hsz)⟩
          case measure => simp [intOf]; omega
        · have g1 : decide (u < K) = false := by simp; omega
          clear hK
          go_wp2_with fail
          refine (unhide H1 _ hW3).mono ?_
          rintro e w2 ⟨rfl, hb3⟩
          have hW4 : Wd w2 b := hW3.later hb3
          have e0 : w2.cell? ⟨wr.heap.size, 0, none⟩ = some (.int .i64 K) := (hb3.cell (by simp)).trans (by go_simp)
          go_wp2_with fail
          refine (looks_any b _ hW4).mono ?_
          rintro e w3 ⟨rfl, rfl⟩
          go_wp2_with fail
          go_roundw
          case rel => exact ⟨k + 1, by omega, by go_num, hbe.trans ((hb2.trans (hb3.mono (by simp))).mono hsz)⟩
          case measure => simp [intOf]; omega
      · have g1 : decide (u < K) = true := by simp; omega
        have g2 : (K == 19) = false := by simp; omega
        clear hK
        go_wp2_with fail
        go_roundw
        case rel => exact ⟨k + 1, by omega, by go_num, hbe.alloc hsz _⟩
        case measure => simp [intOf]; omega
    · go_wp2_with fail
      go_ret
      exact ⟨rfl, hB1.trans (hbe.mono hsz1)⟩

set_option maxRecDepth 100000 in
set_option maxHeartbeats 400000 in
theorem plays_none (u lo hi : Int) (a : Option Addr) (cap : Nat) (w : World) :
    Calls Tryz.prog 8 #[.slice a 0 cap, .int .i64 u, .int .i64 lo, .int .i64 hi] w fun e w' => e = .returned (.bool true) ∧ Below w.heap.size w w' := by
  go_enter Tryz.func8, Tryz.ntmps8
  go_wp2_with fail
  refine (start_any w).mono ?_
  rintro e w1 ⟨b, rfl, hwb, hWd, hB1⟩
  obtain ⟨d, c0⟩ := hWd.c0
  go_wp2_with fail
  refine wp_loop_rounds 1 ?_
  rw [rounds_succ]
  go_wp2_with fail
  go_ret
  exact ⟨rfl, hB1⟩

end Go.Proofs.YtdlhgbhaeedbdaaGreat
