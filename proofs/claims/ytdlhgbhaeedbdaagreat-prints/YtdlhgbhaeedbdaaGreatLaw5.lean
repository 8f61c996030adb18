/- A Print in the law's play. -/
import Derived.Test.YtdlhgbhaeedbdaaGreatRef17
import Derived.Test.YtdlhgbhaeedbdaaGreatLaw3
namespace Go.Proofs.YtdlhgbhaeedbdaaGreat
open Go.RowKit

set_option maxRecDepth 100000 in
set_option maxHeartbeats 400000 in
theorem texts_print (b : Nat) (A B C D : Int) (s t : ByteArray) (la : Option Addr) (ll lc : Nat) (w : World) (hs : s.size ≤ maxLen) :
    Calls Tryz.prog 13 #[.pointer (some ⟨b, 0, none⟩), .agg #[.int .i64 2, .int .i64 A, .int .i64 B, .int .i64 C, .int .i64 D, .string s, .string t, .slice la ll lc]] w fun e w' => e = .returned (.bool true) ∧ Below w.heap.size w w' := by
  have H1 := hide (fun wx => print_any s wx hs)
  have H2 := hide (fun wx => rprint_any s wx)
  generalize (chk s).1 = p at *
  generalize prt s = q at *
  clear hs
  go_enter Tryz.func13, Tryz.ntmps13
  go_wp2_with fail
  refine (unhide H1 _).mono ?_
  rintro e w1 ⟨rfl, hb1⟩
  have d5 : w1.cell? ⟨w.heap.size, 5, none⟩ = some (.string s) := (hb1.cell (by simp)).trans (by go_simp)
  go_wp2_with fail
  refine (unhide H2 _).mono ?_
  rintro e w2 ⟨rfl, hb2⟩
  go_wp2_with (go_at_call 24; refine (num_any _ _).mono ?_; rintro e w3 ⟨rfl, rfl⟩)
  go_ret
  have hs1 := hb1.size
  simp at hs1
  refine ⟨ret_bool (by simp), ((Below.refl _ _).alloc (Nat.le_refl _) _).trans ((hb1.mono (by simp)).trans (hb2.mono (by omega)))⟩

set_option maxRecDepth 100000 in
set_option maxHeartbeats 400000 in
theorem step_print (b : Nat) (A B C D : Int) (s t : ByteArray) (la : Option Addr) (ll lc : Nat) (w : World) (hs : s.size ≤ maxLen) :
    Calls Tryz.prog 10 #[.pointer (some ⟨b, 0, none⟩), opv 2 A B C D s t la ll lc] w fun e w' => e = .returned (.bool true) ∧ Below w.heap.size w w' := by
  have H1 := hide (fun wx => texts_print b A B C D s t la ll lc wx hs)
  clear hs
  unfold opv
  go_enter Tryz.func10, Tryz.ntmps10
  go_wp2_with fail
  refine (unhide H1 _).mono ?_
  rintro e w1 ⟨rfl, hb1⟩
  go_wp2_with fail
  go_ret
  exact ⟨rfl, ((Below.refl _ _).alloc (Nat.le_refl _) _).trans (hb1.mono (by simp))⟩

theorem steps_two : Steps 2 := by
  rintro b ⟨K, A, B, C, D, s, t, la, ll, lc⟩ w h hs hK
  simp only [Opx.val] at hs hK ⊢
  by_cases h2 : K = 2
  · subst h2; exact step_print b A B C D s t la ll lc w hs
  · exact steps_one b ⟨K, A, B, C, D, s, t, la, ll, lc⟩ w h hs (by simp only; omega)

end Go.Proofs.YtdlhgbhaeedbdaaGreat
