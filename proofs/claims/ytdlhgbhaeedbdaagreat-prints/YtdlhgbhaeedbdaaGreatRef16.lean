/- The document's answer: 'Sorted', walked. -/
import Derived.Test.YtdlhgbhaeedbdaaGreatRef15
namespace Go.Proofs.YtdlhgbhaeedbdaaGreat
open Go.RowKit

theorem put_placed {L : List It} (h : Arr L) {r : List ByteArray} (hr : r.length = L.length) {k : Nat} (hk : k < L.length) (hp : ∀ i, i < k → ∀ hi : i < L.length, r[placeOf L L[i]]? = some (bodyOf L[i])) :
    ∀ i, i < k + 1 → ∀ hi : i < L.length, (r.set (placeOf L L[k]) (bodyOf L[k]))[placeOf L L[i]]? = some (bodyOf L[i]) := by
  intro i hi1 hi
  by_cases e : placeOf L L[k] = placeOf L L[i]
  · have := place_inj h (List.getElem_mem hk) (List.getElem_mem hi) e
    rw [e, this, List.getElem?_set_self (by rw [hr]; exact place_lt h (List.getElem_mem hi))]
  · rw [List.getElem?_set_ne e]
    refine hp i ?_ hi
    by_cases e2 : i = k
    · subst e2; exact absurd rfl e
    · omega

set_option maxRecDepth 100000 in
set_option maxHeartbeats 1000000 in
theorem rsorted_any (L : List It) (h : Arr L) (hz : ∀ x ∈ L, (bodyOf x).size ≤ 10000) (g cap : Nat) (w : World) (hit : RStrs w g 0 (L.map bodyOf)) :
    Calls Tryz.prog 92 #[.slice (some ⟨g, 0, none⟩) L.length cap] w fun e w' => e = .returned (.slice (some ⟨w.heap.size, 0, none⟩) L.length L.length) ∧ RStrs w' w.heap.size 0 ((sortI L).map bodyOf) ∧ Below w.heap.size w w' := by
  have hl := h.few
  have hmk := run_makeStrs L.length hl
  have hg0 := hit.1
  have hm0 := strs_made w L.length
  have HArr := hide h
  have HA := hide (fun (q k : Nat) (hq : q < L.length) (hk : k < L.length) wx => rahead_any L[q] L[k] (h.ok _ (List.getElem_mem hq)) (h.ok _ (List.getElem_mem hk)) (hz _ (List.getElem_mem hq)) (hz _ (List.getElem_mem hk)) wx)
  have HC := hide (show ∀ k (hk : k < L.length), w.cell? ⟨g, k, none⟩ = some (.string (bodyOf L[k])) from fun k hk => by
    have := hit.2 k (by simpa using hk)
    rw [Nat.zero_add, List.getElem_map] at this
    exact this)
  clear h hz hit
  go_enter Tryz.func92, Tryz.ntmps92
  go_wp2_with fail
  go_loopw [4] (fun i wr => ∃ (k : Nat) (r : List ByteArray), k ≤ L.length ∧ i = .int .i64 k ∧ r.length = L.length ∧ (∀ i, i < k → ∀ hi : i < L.length, r[placeOf L L[i]]? = some (bodyOf L[i])) ∧ RStrsW wr w.heap.size r ∧ Below w.heap.size w wr) (fun i _ => L.length - (intOf i).toNat)
  case atStart => exact ⟨0, List.replicate L.length ⟨#[]⟩, Nat.zero_le _, rfl, by simp, fun i hi => by omega, hm0, (Below.refl _ _).alloc (Nat.le_refl _) _⟩
  case round =>
    obtain ⟨k, r, hk, rfl, hr, hpl, hrw, hbe⟩ := hrel
    have Hr := hide hr
    have Hpl := hide hpl
    clear hr hpl
    by_cases hlt : k < L.length
    · have hlt' : (k : Int) < (L.length : Int) := by omega
      have HLk := hide (place_lt (unhide HArr) (List.getElem_mem hlt))
      have HPk := hide (put_placed (unhide HArr) (unhide Hr) hlt (unhide Hpl))
      have ck := (hbe.cell (p := ⟨g, k, none⟩) hg0).trans (unhide HC k hlt)
      have hszr := hrw.1.1
      go_wp2_with fail
      go_loopw [5, 6] (fun cv jv wr2 => ∃ q c : Nat, q ≤ L.length ∧ jv = .int .i64 q ∧ cv = .int .i64 c ∧ c ≤ q ∧ c = (L.take q).countP (fun y => aheadB y L[k]) ∧ Below wr.heap.size wr wr2) (fun _ jv _ => L.length - (intOf jv).toNat)
      case atStart => exact ⟨0, 0, Nat.zero_le _, rfl, rfl, Nat.le_refl _, by simp, Below.refl _ _⟩
      case round =>
        obtain ⟨q, c, hq, rfl, rfl, hcq, hcc, hbe2⟩ := hrel
        have Hcc := hide hcc
        clear hcc
        have ck2 := (hbe2.cell (p := ⟨g, k, none⟩) (Nat.lt_of_lt_of_le hg0 hbe.size)).trans ck
        by_cases hlq : q < L.length
        · have hlq' : (q : Int) < (L.length : Int) := by omega
          have cq2 := (hbe2.cell (p := ⟨g, q, none⟩) (Nat.lt_of_lt_of_le hg0 hbe.size)).trans ((hbe.cell (p := ⟨g, q, none⟩) hg0).trans (unhide HC q hlq))
          have HAq := hide (unhide HA q k hlq hlt)
          have Hst := hide (show (L.take (q + 1)).countP (fun y => aheadB y L[k]) = (L.take q).countP (fun y => aheadB y L[k]) + (if aheadB L[q] L[k] then 1 else 0) by
            rw [List.take_succ_eq_append_getElem hlq, List.countP_append]; simp [List.countP_cons])
          have hsz2 := hbe2.size
          cases hd : aheadB L[q] L[k] with
          | true =>
            have HAq2 := hide (show ∀ wx, Calls Tryz.prog 132 #[.string (bodyOf L[q]), .string (bodyOf L[k])] wx fun e w' => e = .returned (.bool true) ∧ Below wx.heap.size wx w' from fun wx => by have := unhide HAq wx; rw [hd] at this; exact this)
            have Hst2 := hide (show c + 1 = (L.take (q + 1)).countP (fun y => aheadB y L[k]) by rw [unhide Hst, hd, unhide Hcc]; rfl)
            clear hd
            generalize bodyOf L[q] = by_ at *
            generalize bodyOf L[k] = bx at *
            go_wp2_with fail
            go_region_with (go_at_call 132; refine (unhide HAq2 _).mono ?_; rintro e w1 ⟨rfl, hb1⟩)
            all_goals
              go_wp2_with fail
              go_roundw
              case rel => exact ⟨q + 1, c + 1, by omega, by go_num, by go_num, by omega, unhide Hst2, hbe2.drew.trans (hb1.mono hsz2)⟩
              case measure => simp [intOf]; omega
          | false =>
            have HAq2 := hide (show ∀ wx, Calls Tryz.prog 132 #[.string (bodyOf L[q]), .string (bodyOf L[k])] wx fun e w' => e = .returned (.bool false) ∧ Below wx.heap.size wx w' from fun wx => by have := unhide HAq wx; rw [hd] at this; exact this)
            have Hst2 := hide (show c = (L.take (q + 1)).countP (fun y => aheadB y L[k]) by rw [unhide Hst, hd, unhide Hcc]; rfl)
            clear hd
            generalize bodyOf L[q] = by_ at *
            generalize bodyOf L[k] = bx at *
            go_wp2_with fail
            go_region_with (go_at_call 132; refine (unhide HAq2 _).mono ?_; rintro e w1 ⟨rfl, hb1⟩)
            all_goals
              go_wp2_with fail
              go_roundw
              case rel => exact ⟨q + 1, c, by omega, by go_num, rfl, by omega, unhide Hst2, hbe2.drew.trans (hb1.mono hsz2)⟩
              case measure => simp [intOf]; omega
        · have hlq' : ¬ (q : Int) < (L.length : Int) := by omega
          have hcp : c = placeOf L L[k] := by
            have := unhide Hcc
            rw [List.take_of_length_le (by omega)] at this
            exact this
          have hcl : c < L.length := by rw [hcp]; exact unhide HLk
          have hcl' : (c : Int) < (L.length : Int) := by omega
          have hcr : c < r.length := by rw [unhide Hr]; exact hcl
          have hrw2 := hrw.later hbe2
          have cc := hrw2.1.2 c hcr
          rw [Nat.zero_add] at cc
          have hfz := hrw2.2
          have Hset := hide (show ∀ i, i < k + 1 → ∀ hi : i < L.length, (r.set c (bodyOf L[k]))[placeOf L L[i]]? = some (bodyOf L[i]) by rw [hcp]; exact unhide HPk)
          have Hcp := hide hcp
          clear hcp
          go_wp2_with fail
          go_roundw
          case rel => exact ⟨k + 1, r.set c (bodyOf L[k]), by omega, by go_num, by rw [List.length_set]; exact unhide Hr, unhide Hset, hrw2.set hcr _, (hbe.trans (hbe2.mono (by have := hbe.size; omega))).setCell (p := ⟨w.heap.size, c, none⟩) (Nat.le_refl _) _⟩
          case measure => simp [intOf]; omega
    · have hlt' : ¬ (k : Int) < (L.length : Int) := by omega
      have hfin : r = (sortI L).map bodyOf := placed (unhide HArr) (unhide Hr) (fun i hi => unhide Hpl i (by omega) hi)
      have Hfin := hide hfin
      clear hfin
      go_wp2_with fail
      go_ret
      exact ⟨rfl, by rw [← unhide Hfin]; exact hrw.1, hbe⟩

end Go.Proofs.YtdlhgbhaeedbdaaGreat
