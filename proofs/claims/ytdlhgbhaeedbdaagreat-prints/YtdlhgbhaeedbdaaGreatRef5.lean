/- The document's answer, walked: 'first', 'place'. -/
import Derived.Test.YtdlhgbhaeedbdaaGreatRef4
namespace Go.Proofs.YtdlhgbhaeedbdaaGreat
open Go.RowKit

theorem farTo_le (s : ByteArray) (p k : Nat) (hp : p ≤ s.size) : farTo s p k ≤ s.size := by
  induction k with
  | zero => exact hp
  | succ k ih =>
    simp only [farTo]
    split
    · exact foldl_le s _ (p, false) hp
    · exact ih

set_option maxRecDepth 100000 in
set_option maxHeartbeats 400000 in
theorem rfirst_any (s : ByteArray) (p : Nat) (w : World) (hs : s.size ≤ 140737488355328) (hp : p ≤ s.size) :
    Calls Tryz.prog 87 #[.string s, .int .i64 (p : Nat)] w fun e w' => e = .returned (.tuple #[.int .i64 ((itemS s (p, false)).1 : Nat), .bool !(itemS s (p, false)).2]) ∧ w' = w := by
  go_enter Tryz.func87, Tryz.ntmps87
  go_wp2_with fail
  go_loop [6, 7] (fun f i => ∃ k : Nat, k ≤ 5 ∧ i = .int .i64 k ∧ f = .int .i64 (farTo s p k : Nat) ∧ ∀ i, i < k → (reachS s i p).2 = true) (fun _ i => 5 - (intOf i).toNat)
  case atStart => exact ⟨0, by omega, rfl, rfl, by intro i hi; omega⟩
  case round =>
    obtain ⟨k, hk, rfl, rfl, hbad⟩ := hrel
    have Hbad := hide hbad
    clear hbad
    have hfl := farTo_le s p k hp
    by_cases hlt : k < 5
    · have hlt' : (k : Int) < 5 := by omega
      have hr := rreach_any s p k (by omega) w hs hp
      have hrl := foldl_le s (formL k) (p, false) hp
      rw [show (formL k).foldl (stepB s) (p, false) = reachS s k p from rfl] at hrl
      cases hb : (reachS s k p).2 with
      | false =>
        have hi := reach_item (by omega) hb
        rw [hb] at hr
        have Hr := hide hr
        have Hi := hide hi
        have Hb := hide hb
        clear hr hi hb
        go_wp2_with (go_at_call 130; refine (unhide Hr).mono ?_; rintro e w1 ⟨rfl, rfl⟩)
        go_ret2
        exact ⟨ret2_int (by rw [unhide Hi]) (by rw [unhide Hi, unhide Hb]; rfl), rfl⟩
      | true =>
        rw [hb] at hr
        have Hr := hide hr
        have H2 : Hid (∀ i, i < k + 1 → (reachS s i p).2 = true) := fun i hi => by
          by_cases e : i = k
          · rw [e]; exact hb
          · exact unhide Hbad i (by omega)
        have hfs : farTo s p (k + 1) = if farTo s p k < (reachS s k p).1 then (reachS s k p).1 else farTo s p k := rfl
        by_cases hf : farTo s p k < (reachS s k p).1
        · rw [if_pos hf] at hfs
          have Hfs := hide hfs
          have hf' : ((farTo s p k : Nat) : Int) < (((reachS s k p).1 : Nat) : Int) := by omega
          clear hr hb hfs
          go_wp2_with (go_at_call 130; refine (unhide Hr).mono ?_; rintro e w1 ⟨rfl, rfl⟩)
          go_round
          case rel => exact ⟨k + 1, by omega, by go_num, by rw [unhide Hfs], unhide H2⟩
          case measure => simp [intOf]; omega
        · rw [if_neg hf] at hfs
          have Hfs := hide hfs
          have hf' : ¬ ((farTo s p k : Nat) : Int) < (((reachS s k p).1 : Nat) : Int) := by omega
          clear hr hb hfs
          go_wp2_with (go_at_call 130; refine (unhide Hr).mono ?_; rintro e w1 ⟨rfl, rfl⟩)
          go_round
          case rel => exact ⟨k + 1, by omega, by go_num, by rw [unhide Hfs], unhide H2⟩
          case measure => simp [intOf]; omega
    · have hk5 : k = 5 := by omega
      subst hk5
      have hi := farTo_item (s := s) (p := p) (fun k hk => unhide Hbad k (by omega))
      have Hi := hide hi
      clear hi
      go_wp2_with fail
      go_ret2
      exact ⟨ret2_int (by rw [unhide Hi]) (by rw [unhide Hi]; rfl), rfl⟩

theorem rt_int {a b : Int} (h : a = b) : Ending.returned (.int .i64 a) = .returned (.int .i64 b) := by rw [h]

/-- What 'place' tells. -/
def plc (s : ByteArray) : Int := if (rdP s 24 0).2 then -1 else ((rdP s 24 0).1 : Nat)

set_option maxRecDepth 100000 in
set_option maxHeartbeats 400000 in
theorem rplace_any (s : ByteArray) (w : World) (hs : s.size ≤ 140737488355328) :
    Calls Tryz.prog 50 #[.string s] w fun e w' => e = .returned (.int .i64 (plc s)) ∧ w' = w := by
  have hnot : ∀ (x : Bool) (w : World), (Op.unary .not (.bool x)).run Tryz.prog w = .ok (.bool (!x)) w := fun _ _ => rfl
  go_enter Tryz.func50, Tryz.ntmps50
  go_wp2_with fail
  go_loop [3, 4] (fun a i => ∃ n p : Nat, n ≤ 24 ∧ p ≤ s.size ∧ i = .int .i64 (n : Nat) ∧ a = .int .i64 (p : Nat) ∧ rdP s (24 - n) p = rdP s 24 0) (fun _ i => 24 - (intOf i).toNat)
  case atStart => exact ⟨0, 0, by omega, Nat.zero_le _, rfl, rfl, rfl⟩
  case round =>
    obtain ⟨n, p, hn, hp, rfl, rfl, hr⟩ := hrel
    by_cases hlt : n < 24
    · have hlt' : (n : Int) < 24 := by omega
      rw [show 24 - n = (24 - (n + 1)) + 1 from by omega] at hr
      by_cases he : p = s.size
      · have hfin : plc s = -1 := by
          unfold plc
          rw [← hr]
          simp [rdP, he]
        have Hf := hide hfin
        have he' : ((p : Int) == (s.size : Int)) = true := bt (by omega)
        clear hfin hr he
        go_wp2_with fail
        go_ret
        exact ⟨rt_int (unhide Hf).symm, rfl⟩
      · have he' : ((p : Int) == (s.size : Int)) = false := bf (by omega)
        have hps : p < s.size := by omega
        have hi := rfirst_any s p w hs hp
        have hil := itemS_le s p hp
        cases hb : (itemS s (p, false)).2 with
        | true =>
          have hfin : plc s = ((itemS s (p, false)).1 : Nat) := by
            unfold plc
            rw [← hr]
            simp [rdP, hps, hb]
          rw [hb] at hi
          have Hf := hide hfin
          have Hi := hide hi
          clear hfin hr hi hb he
          go_wp2_with (go_at_call 87; refine (unhide Hi).mono ?_; rintro e w1 ⟨rfl, rfl⟩)
          go_ret
          exact ⟨rt_int (unhide Hf).symm, rfl⟩
        | false =>
          have hnx : rdP s (24 - (n + 1)) (itemS s (p, false)).1 = rdP s 24 0 := by
            rw [← hr]
            conv => rhs; unfold rdP
            simp [hps, hb]
          rw [hb] at hi
          have Hx := hide hnx
          have Hi := hide hi
          clear hnx hr hi hb he
          go_wp2_with (go_at_call 87; refine (unhide Hi).mono ?_; rintro e w1 ⟨rfl, rfl⟩)
          go_round
          case rel => exact ⟨n + 1, (itemS s (p, false)).1, by omega, hil, by go_num, rfl, unhide Hx⟩
          case measure => simp [intOf]; omega
    · have hlt' : ¬ (n : Int) < 24 := by omega
      have hn24 : n = 24 := by omega
      subst hn24
      by_cases he : p = s.size
      · have hfin : plc s = -1 := by
          unfold plc
          rw [← hr]
          simp [rdP, he]
        have Hf := hide hfin
        have he' : ((p : Int) == (s.size : Int)) = true := bt (by omega)
        clear hfin hr he
        go_wp2_with fail
        go_ret
        exact ⟨rt_int (unhide Hf).symm, rfl⟩
      · have he' : ((p : Int) == (s.size : Int)) = false := bf (by omega)
        have hps : p < s.size := by omega
        have hfin : plc s = (p : Nat) := by
          unfold plc
          rw [← hr]
          simp [rdP, hps]
        have Hf := hide hfin
        clear hfin hr he
        go_wp2_with fail
        go_ret
        exact ⟨rt_int (unhide Hf).symm, rfl⟩

end Go.Proofs.YtdlhgbhaeedbdaaGreat
