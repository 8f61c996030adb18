/- One step of the law's play. -/
import Derived.Test.YtdlhgbhaeedbdaaGreatLaw1
namespace Go.Proofs.YtdlhgbhaeedbdaaGreat
open Go.RowKit

def opv (K A B C D : Int) (s t : ByteArray) (la : Option Addr) (ll lc : Nat) : Value := .agg #[.int .i64 K, .int .i64 A, .int .i64 B, .int .i64 C, .int .i64 D, .string s, .string t, .slice la ll lc]

set_option maxRecDepth 100000 in
set_option maxHeartbeats 400000 in
theorem step_check (b : Nat) (A B C D : Int) (s t : ByteArray) (la : Option Addr) (ll lc : Nat) (w : World) (hs : s.size ≤ maxLen) :
    Calls Tryz.prog 10 #[.pointer (some ⟨b, 0, none⟩), opv 1 A B C D s t la ll lc] w fun e w' => e = .returned (.bool true) ∧ Below w.heap.size w w' := by
  have H1 := hide (fun wx => texts_check b A B C D s t la ll lc wx hs)
  clear hs
  unfold opv
  go_enter Tryz.func10, Tryz.ntmps10
  go_wp2_with fail
  refine (unhide H1 _).mono ?_
  rintro e w1 ⟨rfl, hb1⟩
  go_wp2_with fail
  go_ret
  exact ⟨rfl, ((Below.refl _ _).alloc (Nat.le_refl _) _).trans (hb1.mono (by simp))⟩

set_option maxRecDepth 100000 in
set_option maxHeartbeats 400000 in
theorem step_mark (b : Nat) (A B C D : Int) (s t : ByteArray) (la : Option Addr) (ll lc : Nat) (w : World) (h : Wd w b) :
    Calls Tryz.prog 10 #[.pointer (some ⟨b, 0, none⟩), opv 19 A B C D s t la ll lc] w fun e w' => e = .returned (.bool true) ∧ Below w.heap.size w w' := by
  unfold opv
  go_enter Tryz.func10, Tryz.ntmps10
  go_wp2_with fail
  refine (writes_any b _ _ _ _ (h.later ((Below.refl _ _).alloc (Nat.le_refl _) _))).mono ?_
  rintro e w1 ⟨rfl, rfl⟩
  go_wp2_with fail
  go_ret
  exact ⟨rfl, (Below.refl _ _).alloc (Nat.le_refl _) _⟩

set_option maxRecDepth 100000 in
set_option maxHeartbeats 400000 in
theorem step_low (b : Nat) (K A B C D : Int) (s t : ByteArray) (la : Option Addr) (ll lc : Nat) (w : World) (h : Wd w b) (hK : K ≤ 0) :
    Calls Tryz.prog 10 #[.pointer (some ⟨b, 0, none⟩), opv K A B C D s t la ll lc] w fun e w' => e = .returned (.bool true) ∧ Below w.heap.size w w' := by
  have c1 : (w.alloc (.cells #[.int .i64 K, .int .i64 A, .int .i64 B, .int .i64 C, .int .i64 D, .string s, .string t, .slice la ll lc] 36)).cell? ⟨b, 1, none⟩ = some (.pointer none) := (h.later ((Below.refl _ _).alloc (Nat.le_refl _) _)).c1
  have g1 : decide (1 ≤ K) = false := by simp; omega
  have g5 : (K == 5) = false := by simp; omega
  have g10 : (K == 10) = false := by simp; omega
  have g11 : (K == 11) = false := by simp; omega
  have g19 : (K == 19) = false := by simp; omega
  clear h
  unfold opv
  go_enter Tryz.func10, Tryz.ntmps10
  go_wp2_with fail
  go_ret
  exact ⟨rfl, (Below.refl _ _).alloc (Nat.le_refl _) _⟩

end Go.Proofs.YtdlhgbhaeedbdaaGreat
