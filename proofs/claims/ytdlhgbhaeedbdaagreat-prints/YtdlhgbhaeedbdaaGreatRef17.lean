/- The document's answer: 'Joined', 'Print'. -/
import Derived.Test.YtdlhgbhaeedbdaaGreatRef16
namespace Go.Proofs.YtdlhgbhaeedbdaaGreat
open Go.RowKit

theorem body_small' {L : List It} (h : (catT L).length ≤ 400) : ∀ x ∈ L, (bodyOf x).size ≤ 10000 := by
  intro x hx
  have : (bodyOf x).size = x.body.length := mkS_size _
  obtain ⟨A, B, e⟩ := List.append_of_mem hx
  rw [e] at h
  simp [catT, It.text] at h
  omega

theorem chk_zero {s : ByteArray} (h : (chk s).1 = 0) : chk s = (0, 0) := by
  unfold chk at h ⊢
  split
  · rename_i h1; simp [h1] at h
  · rename_i h1
    rw [if_neg h1] at h
    split
    · rename_i h2; simp [h2] at h
    · rename_i h2
      rw [if_neg h2] at h
      split
      · rename_i h3; simp [h3] at h
      · rename_i h3
        rw [if_neg h3] at h
        split
        · rename_i h4; simp [h4] at h
        · rfl

theorem sc_mk : (⟨#[59]⟩ : ByteArray) = mkS [59] := rfl

set_option maxRecDepth 100000 in
set_option maxHeartbeats 400000 in
theorem rjoined_any (L : List It) (h : Arr L) (g cap : Nat) (w : World) (hit : RStrs w g 0 (L.map bodyOf)) :
    Calls Tryz.prog 56 #[.slice (some ⟨g, 0, none⟩) L.length cap] w fun e w' => e = .returned (.string (txt (sortI L))) ∧ Below w.heap.size w w' := by
  have HS := hide (rsorted_any L h (body_small' h.short) g cap w hit)
  have hln := (sortI_perm L).length_eq
  have hB : (segs 59 ((sortI L).map It.body)).length ≤ 400 := by rw [← catT_segs]; exact (arr_sortI h).short
  have hl := h.few
  have HT := hide (show txt (sortI L) = mkS (segs 59 ((sortI L).map It.body)) by rw [← catT_segs]; rfl)
  have hmm : (sortI L).map bodyOf = ((sortI L).map It.body).map mkS := by simp [bodyOf]
  rw [hmm] at HS
  generalize txt (sortI L) = res at *
  have hbl : ((sortI L).map It.body).length = L.length := by simp [hln]
  generalize (sortI L).map It.body = B at *
  have Hbl := hide hbl
  clear hmm hbl hln h hit
  go_enter Tryz.func56, Tryz.ntmps56
  go_wp2_with fail
  refine (unhide HS).mono ?_
  rintro e w1 ⟨rfl, hst, hb1⟩
  have Hcell := hide (show ∀ k (hk : k < B.length), w1.cell? ⟨w.heap.size, k, none⟩ = some (.string (mkS B[k])) from fun k hk => by
    have := hst.2 k (by simpa using hk)
    rw [Nat.zero_add, List.getElem_map] at this
    exact this)
  clear hst HS
  go_wp2_with fail
  go_loop [4, 5] (fun s i => ∃ k : Nat, k ≤ L.length ∧ i = .int .i64 k ∧ s = .string (mkS (segs 59 (B.take k)))) (fun _ i => L.length - (intOf i).toNat)
  case atStart => exact ⟨0, Nat.zero_le _, rfl, rfl⟩
  case round =>
    obtain ⟨k, hk, rfl, rfl⟩ := hrel
    by_cases hlt : k < L.length
    · have hkb : k < B.length := by rw [unhide Hbl]; exact hlt
      have hc := unhide Hcell k hkb
      have hlt' : (k : Int) < (L.length : Int) := by omega
      have hst : segs 59 (B.take (k + 1)) = segs 59 (B.take k) ++ (B[k] ++ [59]) := by rw [List.take_succ_eq_append_getElem hkb, segs_snoc]
      have hz := segs_le 59 B (k + 1)
      rw [hst] at hz
      simp only [List.length_append, List.length_singleton] at hz
      have Hst : Hid (mkS (segs 59 (B.take (k + 1))) = mkS (segs 59 (B.take k)) ++ mkS B[k] ++ ⟨#[59]⟩) := hide <| by
        rw [hst, sc_mk, mkS_app, mkS_app, List.append_assoc]
      have hz1 : (mkS (segs 59 (B.take k))).size + (mkS B[k]).size + 1 ≤ 400 := by rw [mkS_size, mkS_size]; omega
      clear hst hz hB
      generalize mkS (segs 59 (B.take k)) = X at *
      generalize mkS B[k] = Y at *
      have hz2 : (X.size : Int) + (Y.size : Int) + 1 ≤ 400 := by omega
      have hz3 : (X.size : Int) + (Y.size : Int) ≤ 400 := by omega
      go_wp2
      go_round
      case rel => exact ⟨k + 1, by omega, by go_num, by rw [unhide Hst]⟩
      case measure => simp [intOf]; omega
    · have hlt' : ¬ (k : Int) < (L.length : Int) := by omega
      rw [List.take_of_length_le (by rw [unhide Hbl]; omega), ← unhide HT]
      go_wp2
      go_ret
      exact ⟨rfl, hb1⟩

set_option maxRecDepth 100000 in
set_option maxHeartbeats 400000 in
theorem rprint_any (s : ByteArray) (w : World) :
    Calls Tryz.prog 26 #[.string s] w fun e w' => e = .returned (.tuple #[.string (prt s), .int .i64 ((chk s).1 : Nat)]) ∧ Below w.heap.size w w' := by
  have HC := hide (rcheck_any s w)
  by_cases h0 : (chk s).1 = 0
  · have hz := chk_zero h0
    obtain ⟨L, hA, hs, _⟩ := arr_of_chk hz
    have HP := hide (show prt s = txt (sortI L) by rw [hs]; exact hA.prt)
    have HI := hide (fun wx => ritems_any L hA.ok (by rw [txt_size]; have := hA.short; omega) (by have := hA.few; omega) wx)
    have HJ := hide (fun g cap wx hit => rjoined_any L hA g cap wx hit)
    rw [← hs] at HI
    rw [hz] at HC ⊢
    rw [unhide HP]
    generalize txt (sortI L) = res at *
    clear hz h0 hs hA
    go_enter Tryz.func26, Tryz.ntmps26
    go_wp2_with fail
    refine (unhide HC).mono ?_
    rintro e w1 ⟨rfl, hb1⟩
    go_wp2_with fail
    refine (unhide HI _).mono ?_
    rintro e w2 ⟨g, cap, rfl, hcap, hg, hst, hb2⟩
    go_wp2_with fail
    refine (unhide HJ g cap _ hst).mono ?_
    rintro e w3 ⟨rfl, hb3⟩
    go_wp2_with fail
    go_ret2
    exact ⟨rfl, hb1.trans ((hb2.mono hb1.size).trans (hb3.mono (Nat.le_trans hb1.size hb2.size)))⟩
  · have HP := hide (show prt s = ⟨#[]⟩ by simp [prt, h0])
    rw [unhide HP]
    generalize (chk s).1 = c at *
    generalize (chk s).2 = d at *
    have g0 : ((c : Int) == 0) = false := by rw [beq_eq_false_iff_ne]; omega
    clear h0
    go_enter Tryz.func26, Tryz.ntmps26
    go_wp2_with fail
    refine (unhide HC).mono ?_
    rintro e w1 ⟨rfl, hb1⟩
    go_wp2_with fail
    go_ret2
    exact ⟨rfl, hb1⟩

end Go.Proofs.YtdlhgbhaeedbdaaGreat
