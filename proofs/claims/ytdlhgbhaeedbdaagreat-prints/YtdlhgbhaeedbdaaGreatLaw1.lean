/- The law's own functions: 'num', 'start', 'writes', 'looks', 'texts' at a Check, 'step'. -/
import Derived.Test.YtdlhgbhaeedbdaaGreatRef12
import Derived.Test.YtdlhgbhaeedbdaaGreatDev0
namespace Go.Proofs.YtdlhgbhaeedbdaaGreat
open Go.RowKit

/-- The law's world in block b: a device, no rack, no lists. -/
structure Wd (w : World) (b : Nat) : Prop where
  c0 : ∃ d, w.cell? ⟨b, 0, none⟩ = some (.pointer (some ⟨d, 0, none⟩))
  c1 : w.cell? ⟨b, 1, none⟩ = some (.pointer none)
  c4 : w.cell? ⟨b, 4, none⟩ = some (.slice none 0 0)
  c6 : w.cell? ⟨b, 6, none⟩ = some (.slice none 0 0)
  lt : b < w.heap.size

theorem Wd.below {B : Nat} {w w' : World} {b : Nat} (h : Wd w b) (hb : Below B w w') (hlt : b < B) : Wd w' b := by
  obtain ⟨⟨d, c0⟩, c1, c4, c6, lt⟩ := h
  exact ⟨⟨d, (hb.cell (p := ⟨b, 0, none⟩) hlt).trans c0⟩, (hb.cell (p := ⟨b, 1, none⟩) hlt).trans c1, (hb.cell (p := ⟨b, 4, none⟩) hlt).trans c4, (hb.cell (p := ⟨b, 6, none⟩) hlt).trans c6, Nat.lt_of_lt_of_le lt hb.size⟩
theorem Wd.later {w w' : World} {b : Nat} (h : Wd w b) (hb : Below w.heap.size w w') : Wd w' b := h.below hb h.lt

set_option maxHeartbeats 400000 in
theorem num_any (x : Int) (w : World) : Calls Tryz.prog 24 #[.int .i64 x] w fun e w' => e = .returned (.int .i64 x) ∧ w' = w := by
  go_enter Tryz.func24, Tryz.ntmps24
  go_wp2
  go_ret
  exact ⟨rfl, rfl⟩

set_option maxRecDepth 100000 in
set_option maxHeartbeats 400000 in
theorem start_any (w : World) : Calls Tryz.prog 9 #[] w fun e w' => ∃ b, e = .returned (.pointer (some ⟨b, 0, none⟩)) ∧ w.heap.size ≤ b ∧ Wd w' b ∧ Below w.heap.size w w' := by
  go_enter Tryz.func9, Tryz.ntmps9
  go_wp2_with fail
  refine (newDevice_any w).mono ?_
  rintro e w1 ⟨rfl, hw⟩
  have hs1 : w1.heap.size = w.heap.size + 1 := by rw [hw]; simp
  have hB : Below w.heap.size w w1 := by rw [hw]; exact (Below.refl _ _).alloc (Nat.le_refl _) _
  have Hs := hide hs1
  clear hw hs1
  go_wp2_with fail
  go_ret
  have hs1 := unhide Hs
  refine ⟨_, rfl, by omega, ⟨⟨w.heap.size, by go_simp⟩, by go_simp, by go_simp, by go_simp, by simp⟩, (hB.alloc (by omega) _).alloc (by simp; omega) _⟩

set_option maxRecDepth 100000 in
set_option maxHeartbeats 400000 in
theorem looks_any (b : Nat) (w : World) (h : Wd w b) : Calls Tryz.prog 11 #[.pointer (some ⟨b, 0, none⟩)] w fun e w' => e = .returned (.bool true) ∧ w' = w := by
  have c4 := h.c4
  have c6 := h.c6
  go_enter Tryz.func11, Tryz.ntmps11
  go_wp2_with fail
  refine wp_loop_rounds 1 ?_
  rw [rounds_succ]
  go_wp2_with fail
  refine wp_loop_rounds 1 ?_
  rw [rounds_succ]
  go_wp2_with fail
  go_ret
  exact ⟨rfl, rfl⟩

set_option maxRecDepth 100000 in
set_option maxHeartbeats 400000 in
theorem writes_any (b : Nat) (x y z : Int) (w : World) (h : Wd w b) : Calls Tryz.prog 17 #[.pointer (some ⟨b, 0, none⟩), .int .i64 x, .int .i64 y, .int .i64 z] w fun e w' => e = .returned (.tuple #[]) ∧ w' = w := by
  have c4 := h.c4
  have c6 := h.c6
  go_enter Tryz.func17, Tryz.ntmps17
  go_wp2_with fail
  go_end0
  exact ⟨rfl, rfl⟩

set_option maxRecDepth 100000 in
set_option maxHeartbeats 400000 in
theorem texts_check (b : Nat) (A B C D : Int) (s t : ByteArray) (la : Option Addr) (ll lc : Nat) (w : World) (hs : s.size ≤ maxLen) :
    Calls Tryz.prog 13 #[.pointer (some ⟨b, 0, none⟩), .agg #[.int .i64 1, .int .i64 A, .int .i64 B, .int .i64 C, .int .i64 D, .string s, .string t, .slice la ll lc]] w fun e w' => e = .returned (.bool true) ∧ Below w.heap.size w w' := by
  have H1 := hide (fun wx => check_any s wx hs)
  have H2 := hide (fun wx => rcheck_any s wx)
  generalize (chk s).1 = p at *
  generalize (chk s).2 = q at *
  clear hs
  go_enter Tryz.func13, Tryz.ntmps13
  go_wp2_with fail
  refine (unhide H1 _).mono ?_
  rintro e w1 ⟨rfl, hb1⟩
  have d5 : w1.cell? ⟨w.heap.size, 5, none⟩ = some (.string s) := (hb1.cell (by simp)).trans (by go_simp)
  go_wp2_with fail
  refine (unhide H2 _).mono ?_
  rintro e w2 ⟨rfl, hb2⟩
  go_wp2_with (go_at_call 24; refine (num_any _ _).mono ?_; rintro e w3 ⟨rfl, rfl⟩)
  go_ret
  have hs1 := hb1.size
  simp at hs1
  refine ⟨ret_bool (by simp), ((Below.refl _ _).alloc (Nat.le_refl _) _).trans ((hb1.mono (by simp)).trans (hb2.mono (by omega)))⟩

end Go.Proofs.YtdlhgbhaeedbdaaGreat
