/- 'Arrives'. -/
import Derived.Test.YtdlhgbhaeedbdaaKp1
namespace Go.Proofs.Ytdlhgbhaeedbdaa
open Go.RowKit

theorem arrI_of_chk {s : ByteArray} (h : (chk s).1 = 0) : ArrI (itemsOf s) := by
  obtain ⟨L, hL, _, e⟩ := arr_of_chk (chkZero h)
  rw [e]; exact hL.arrI

theorem plErr_zero {s t : ByteArray} (h : plErr s t = 0) : (chk s).1 = 0 ∧ (chk t).1 = 0 := by
  unfold plErr at h
  split at h
  · rename_i h0; exact ⟨h0, h⟩
  · rename_i h0; exact absurd h h0

theorem stTxt_size (b : Bool) (t : ByteArray) : (stTxt b t).size = 1 + t.size := by
  unfold stTxt
  rw [ByteArray.size_append]
  cases b <;> rfl

theorem pl_small (s t : ByteArray) : (pl s t).length ≤ 48 ∧ ∀ x ∈ pl s t, x.size ≤ 401 := by
  unfold pl
  split
  · rename_i h
    obtain ⟨h1, h2⟩ := plErr_zero h
    have f1 := fits_of_chk h1
    have f2 := fits_of_chk h2
    refine ⟨by simp [stTxts]; exact mk_len _ _ f1.1 f2.1, fun x hx => ?_⟩
    obtain ⟨p, hp, rfl⟩ := List.mem_map.1 hx
    rw [stTxt_size]
    rcases mem_mk hp with h | h
    · have := f1.text _ h; omega
    · have := f2.text _ h; omega
  · simp

theorem prt_of_perm {t : ByteArray} (ht : (chk t).1 = 0) {m : List Item} (hm : m.Perm (itemsOf t)) : (⟨(catB (sortTo m m.length)).toArray⟩ : ByteArray) = prt t := by
  unfold prt
  rw [if_pos ht, sortTo_all, sortTo_all, sorted_of_perm hm ((arrI_of_chk ht).perm hm.symm).dist]

/-- The plan leads there: what Walk tells of it. -/
theorem plan_end {s t : ByteArray} (h : plErr s t = 0) : wkErr s (pl s t) = 0 ∧ wkN s (pl s t) = (pl s t).length ∧ wkTxt s (pl s t) = prt t := by
  obtain ⟨h1, h2⟩ := plErr_zero h
  obtain ⟨_, m, hm, hp⟩ := plan_walk (arrI_of_chk h1) (arrI_of_chk h2)
  have hpl : pl s t = stTxts (mk (itemsOf s) (itemsOf t)) := by simp [pl, h]
  rw [← hpl] at hm
  refine ⟨by simp [wkErr, h1, wErr, hm], by rw [wkN, if_pos h1, wlkN_some hm], ?_⟩
  rw [wkTxt, if_pos h1, wOut, hm]
  exact prt_of_perm h2 hp

set_option maxRecDepth 100000 in
set_option maxHeartbeats 400000 in
theorem arrives_any (s t : ByteArray) (w : World) (hs : s.size ≤ maxLen) (ht : t.size ≤ maxLen) :
    Calls Try.prog 6 #[.string s, .string t] w fun e w' => e = .returned (.bool true) ∧ Below w.heap.size w w' := by
  have hpl := planned_any s t w hs ht
  have hnot : ∀ (x : Bool) (w : World), (Op.unary .not (.bool x)).run Try.prog w = .ok (.bool (!x)) w := fun _ _ => rfl
  unfold bothB at hpl
  by_cases h : plErr s t = 0
  · rw [show decide (plErr s t = 0) = true from decide_eq_true h] at hpl
    obtain ⟨e1, e2, e3⟩ := plan_end h
    obtain ⟨_, h2⟩ := plErr_zero h
    have hsm := pl_small s t
    have hwk : ∀ wx a cap, TxAt wx a (pl s t) → Calls Try.prog 31 #[.string s, .slice a (pl s t).length cap] wx fun e w' => e = .returned (.tuple #[.string (prt t), .int .i64 ((pl s t).length : Nat), .int .i64 0]) ∧ Below wx.heap.size wx w' := by
      intro wx a cap hx
      have := walk_any s a cap (pl s t) wx hs (by unfold maxLen; omega) (fun x hx => by have := hsm.2 x hx; unfold maxLen; omega) hx
      rw [e1, e2, e3] at this
      exact this
    have hpr : ∀ wx, Calls Try.prog 12 #[.string t] wx fun e w' => e = .returned (.tuple #[.string (prt t), .int .i64 0]) ∧ Below wx.heap.size wx w' := by
      intro wx
      have := print_any t wx ht
      rw [h2] at this
      exact this
    have hq : ((prt t).toList == (prt t).toList) = true := by simp
    have Hpl := hide hpl
    have Hwk := hide hwk
    have Hpr := hide hpr
    have hln : (pl s t).length ≤ 48 := hsm.1
    clear hpl hwk hpr e1 e2 e3 h2 hsm h
    generalize prt t = T at *
    generalize hP : pl s t = P at *
    clear hP
    go_enter Try.func6, Try.ntmps6
    go_wp2_with fail
    refine (unhide Hpl).mono ?_
    rintro e w1 ⟨v, rfl, hown, hb1⟩
    have hl1 := hb1.size
    obtain ⟨a, cap, rfl, _, hx⟩ := tx_of_owns hown
    have htx := TxAt.of_new hx
    clear hown hx
    go_wp2_with fail
    refine (unhide Hwk _ _ _ htx).mono ?_
    rintro e w2 ⟨rfl, hb2⟩
    have hl2 := hb2.size
    go_wp2_with fail
    refine (unhide Hpr _).mono ?_
    rintro e w3 ⟨rfl, hb3⟩
    go_wp2
    go_ret
    exact ⟨rfl, (hb1.trans (hb2.mono hl1)).trans (hb3.mono (by omega))⟩
  · rw [show decide (plErr s t = 0) = false from decide_eq_false h] at hpl
    have Hpl := hide hpl
    clear hpl h
    go_enter Try.func6, Try.ntmps6
    go_wp2_with fail
    refine (unhide Hpl).mono ?_
    rintro e w1 ⟨v, rfl, hown, hb1⟩
    clear hown
    go_wp2
    go_ret
    exact ⟨rfl, hb1⟩

end Go.Proofs.Ytdlhgbhaeedbdaa
