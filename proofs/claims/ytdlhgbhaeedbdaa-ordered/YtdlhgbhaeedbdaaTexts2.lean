/- 'joined', 'pick', 'ordered'. -/
import Derived.Test.YtdlhgbhaeedbdaaTexts
import Derived.OpenShut
namespace Go.Proofs.Ytdlhgbhaeedbdaa
open Go.RowKit

/-- The texts, one behind the other. -/
def catS (l : List ByteArray) : ByteArray := l.foldl (· ++ ·) ⟨#[]⟩

theorem catS_snoc (l : List ByteArray) (x : ByteArray) : catS (l ++ [x]) = catS l ++ x := by simp [catS]

set_option maxHeartbeats 400000 in
theorem joined_in (g o cap : Nat) (l : List ByteArray) (w : World) (hl : l.length ≤ 1000000) (hz : ∀ k, (catS (l.take k)).size ≤ 1000000) (hit : StrsIn w g o l) :
    Calls Try.prog 29 #[.slice (some ⟨g, o, none⟩) l.length cap] w fun e w' => e = .returned (.string (catS l)) ∧ w' = w := by
  go_enter Try.func29, Try.ntmps29
  go_wp2
  go_loop [3, 4] (fun s i => ∃ k : Nat, k ≤ l.length ∧ i = .int .i64 k ∧ s = .string (catS (l.take k))) (fun _ i => l.length - (intOf i).toNat)
  case atStart => exact ⟨0, Nat.zero_le _, rfl, rfl⟩
  case round =>
    obtain ⟨k, hk, rfl, rfl⟩ := hrel
    by_cases hlt : k < l.length
    · have hc := hit.2 k hlt
      have hstep : catS (l.take (k + 1)) = catS (l.take k) ++ l[k] := by rw [List.take_succ_eq_append_getElem hlt, catS_snoc]
      have hz1 := hz (k + 1)
      rw [hstep] at hz1
      have Hs := hide hstep
      generalize l[k] = x at *
      generalize catS (l.take k) = y at *
      have hlt' : (k : Int) < (l.length : Int) := by omega
      have hz2 : ((y.size : Nat) : Int) + (x.size : Int) ≤ 1000000 := by simp at hz1; omega
      clear hstep hz
      go_wp2
      go_round
      case rel => exact ⟨k + 1, by omega, by go_num, by rw [unhide Hs]⟩
      case measure => simp [intOf]; omega
    · rw [List.take_of_length_le (by omega)]
      go_wp2
      go_ret
      exact ⟨rfl, rfl⟩

set_option maxHeartbeats 400000 in
theorem joined_nil (w : World) : Calls Try.prog 29 #[.slice none 0 0] w fun e w' => e = .returned (.string ⟨#[]⟩) ∧ w' = w := by
  go_enter Try.func29, Try.ntmps29
  go_wp2
  refine wp_loop_rounds 1 ?_
  rw [rounds_succ]
  go_wp2
  go_ret
  exact ⟨rfl, rfl⟩

theorem ret_int {a b : Int} (h : a = b) : Ending.returned (.int .i64 a) = .returned (.int .i64 b) := by rw [h]

theorem pk_bd {c : Int} (h : (Lit.int .i64 c).wf = true) : -9223372036854775808 ≤ c ∧ c ≤ 9223372036854775807 := bounds_i64 h
theorem pk_neg {c : Int} (h : (Lit.int .i64 c).wf = true) (h0 : c < 0) : 0 ≤ wrap64 (-wrap64 (c + 1)) := by
  obtain ⟨a, b⟩ := pk_bd h
  unfold wrap64
  omega
theorem pk_mod (x : Int) (_h : 0 ≤ x) (n : Nat) (hn : 0 < n) : ∃ j : Nat, j < n ∧ x % (n : Int) = (j : Int) :=
  ⟨(x % (n : Int)).toNat, by have := Int.emod_lt_of_pos x (show (0 : Int) < n by omega); have := Int.emod_nonneg x (show (n : Int) ≠ 0 by omega); omega, by have := Int.emod_nonneg x (show (n : Int) ≠ 0 by omega); omega⟩

set_option maxHeartbeats 400000 in
theorem pick_any (c : Int) (n : Nat) (w : World) (hc : (Lit.int .i64 c).wf = true) (hn : 0 < n) (hn2 : n ≤ 1000000) :
    Calls Try.prog 28 #[.int .i64 c, .int .i64 (n : Nat)] w fun e w' => (∃ j : Nat, j < n ∧ e = .returned (.int .i64 (j : Nat))) ∧ w' = w := by
  by_cases h0 : c < 0
  · have hx := pk_neg hc h0
    have hm := pk_mod _ hx n hn
    rw [← Int.tmod_eq_emod_of_nonneg hx] at hm
    obtain ⟨j, hj, hm⟩ := hm
    have Hm := hide hm
    clear hm hx
    go_enter Try.func28, Try.ntmps28
    go_wp2
    go_ret
    refine ⟨⟨j, hj, ?_⟩, rfl⟩
    exact ret_int (unhide Hm)
  · obtain ⟨j, hj, hm⟩ := pk_mod c (by omega) n hn
    have Hm := hide hm
    clear hm
    go_enter Try.func28, Try.ntmps28
    go_wp2
    go_ret
    refine ⟨⟨j, hj, ?_⟩, rfl⟩
    exact ret_int (unhide Hm)

/-- Do the texts stand in order? -/
def ordB (l : List ByteArray) (i : Nat) : Bool :=
  match l[i]?, l[i + 1]? with
  | some x, some y => decide (rankB x ≤ rankB y) && (decide (rankB x ≠ rankB y) || Op.bytesLess x.toList y.toList)
  | _, _ => true

set_option maxRecDepth 100000 in
set_option maxHeartbeats 400000 in
theorem ordered_in (g cap : Nat) (l : List ByteArray) (w : World) (hl : l.length ≤ 1000000) (hz : ∀ x ∈ l, x.size ≤ 1000000) (hit : StrsIn w g 0 l) (ho : ∀ i, i + 1 < l.length → ordB l i = true) :
    Calls Try.prog 26 #[.slice (some ⟨g, 0, none⟩) l.length cap] w fun e w' => e = .returned (.bool true) ∧ ∃ n, w' = w.drewN n := by
  go_enter Try.func26, Try.ntmps26
  go_wp2
  go_loopw [3] (fun i wr => ∃ k : Nat, k ≤ l.length ∧ i = .int .i64 k ∧ ∃ n, wr = w.drewN n) (fun i _ => l.length - (intOf i).toNat)
  case atStart => exact ⟨0, Nat.zero_le _, rfl, 0, rfl⟩
  case round =>
    obtain ⟨k, hk, rfl, nq, rfl⟩ := hrel
    by_cases hlt : k + 1 < l.length
    · have hc := hit.2 k (by omega)
      have hd := hit.2 (k + 1) hlt
      rw [Nat.zero_add] at hc hd
      obtain ⟨x, hx⟩ : ∃ x, x = l[k] := ⟨_, rfl⟩
      obtain ⟨y, hy⟩ : ∃ y, y = l[k + 1] := ⟨_, rfl⟩
      rw [← hx] at hc
      rw [← hy] at hd
      have hxs : x.size ≤ 1000000 := by rw [hx]; exact hz _ (List.getElem_mem _)
      have hys : y.size ≤ 1000000 := by rw [hy]; exact hz _ (List.getElem_mem _)
      have hoo := ho k hlt
      simp only [ordB, List.getElem?_eq_getElem (show k < l.length by omega), List.getElem?_eq_getElem hlt, ← hx, ← hy] at hoo
      have HX := hide (fun wx => rank_any x wx hxs)
      have HY := hide (fun wx => rank_any y wx hys)
      clear hx hy
      have hlt' : (k : Int) + 1 < (l.length : Int) := by omega
      have hlt2 : (k : Int) < (l.length : Int) := by omega
      generalize rankB x = rx at *
      generalize rankB y = ry at *
      have hle : rx ≤ ry := by simp at hoo; exact hoo.1
      have hg1 : decide (ry < rx) = false := by simp; omega
      by_cases he : rx = ry
      · have hb : Op.bytesLess x.toList y.toList = true := by simp [he] at hoo; exact hoo
        have he' : ((rx : Int) == (ry : Int)) = true := by rw [beq_iff_eq]; omega
        clear hoo he hle
        go_wp2_with fail
        refine (unhide HX _).mono ?_
        rintro e w1 ⟨rfl, rfl⟩
        go_wp2_with fail
        refine (unhide HY _).mono ?_
        rintro e w1 ⟨rfl, rfl⟩
        go_wp2_with fail
        go_quiet (fail)
        go_wp2
        go_roundw
        case rel => exact ⟨k + 1, by omega, by go_num, _, rfl⟩
        case measure => simp [intOf]; omega
      · have he' : ((rx : Int) == (ry : Int)) = false := by rw [beq_eq_false_iff_ne]; omega
        clear hoo he hle
        go_wp2_with fail
        refine (unhide HX _).mono ?_
        rintro e w1 ⟨rfl, rfl⟩
        go_wp2_with fail
        refine (unhide HY _).mono ?_
        rintro e w1 ⟨rfl, rfl⟩
        go_wp2_with fail
        go_quiet (fail)
        go_wp2
        go_roundw
        case rel => exact ⟨k + 1, by omega, by go_num, _, rfl⟩
        case measure => simp [intOf]; omega
    · have hlt' : ¬ (k : Int) + 1 < (l.length : Int) := by omega
      go_wp2
      go_ret
      exact ⟨rfl, _, rfl⟩

set_option maxHeartbeats 400000 in
theorem ordered_nil (w : World) : Calls Try.prog 26 #[.slice none 0 0] w fun e w' => e = .returned (.bool true) ∧ w' = w := by
  go_enter Try.func26, Try.ntmps26
  go_wp2
  refine wp_loop_rounds 1 ?_
  rw [rounds_succ]
  go_wp2
  go_ret
  exact ⟨rfl, rfl⟩

end Go.Proofs.Ytdlhgbhaeedbdaa
