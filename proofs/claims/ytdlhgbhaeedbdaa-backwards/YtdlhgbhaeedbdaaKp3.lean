/- 'opposite'; each beginning of a plan. -/
import Derived.Test.YtdlhgbhaeedbdaaKp2
import Derived.Test.YtdlhgbhaeedbdaaTexts2
namespace Go.Proofs.Ytdlhgbhaeedbdaa
open Go.RowKit

theorem stTxt_tl (b : Bool) (t : ByteArray) : (stTxt b t).toList = (if b then 43 else 45) :: t.toList := by
  rw [ByteArray.toList_eq, ByteArray.toList_eq]
  unfold stTxt
  rw [ByteArray.data_append]
  cases b <;> simp

theorem stTxt_rest (b : Bool) (t : ByteArray) : (stTxt b t).extract 1 (stTxt b t).size = t := by
  apply tl_inj
  rw [ByteArray.toList_eq, ByteArray.data_extract, Array.toList_extract, List.extract_eq_take_drop, ← ByteArray.toList_eq, stTxt_tl, stTxt_size]
  rw [show 1 + t.size - 1 = t.size from by omega, List.drop_one, List.tail_cons, ByteArray.toList_eq]
  rw [List.take_of_length_le (by simp)]

theorem beg_sign (b : Bool) (t : ByteArray) (c : UInt8) : begB (stTxt b t) ⟨#[c]⟩ = decide (c = if b then 43 else 45) := by
  unfold begB
  have h1 : (⟨#[c]⟩ : ByteArray).size = 1 := rfl
  have h2 : ((stTxt b t).extract 0 1).toList = [if b then 43 else 45] := by
    rw [ByteArray.toList_eq, ByteArray.data_extract, Array.toList_extract, List.extract_eq_take_drop, ← ByteArray.toList_eq, stTxt_tl]
    rfl
  have h3 : (⟨#[c]⟩ : ByteArray).toList = [c] := by rw [ByteArray.toList_eq]
  rw [h1, h2, h3, stTxt_size]
  have h4 : decide (1 ≤ 1 + t.size) = true := by simp
  rw [h4, Bool.true_and, Bool.eq_iff_iff, beq_iff_eq, decide_eq_true_iff]
  constructor
  · intro h; simp at h; exact h.symm
  · intro h; simp [h]

set_option maxRecDepth 100000 in
set_option maxHeartbeats 400000 in
theorem opposite_any (b : Bool) (t : ByteArray) (w : World) (ht : t.size ≤ 100000) :
    Calls Try.prog 32 #[.string (stTxt b t)] w fun e w' => e = .returned (.string (stTxt (!b) t)) ∧ w' = w := by
  have hsz := stTxt_size b t
  have hB : ∀ c wx, Calls Try.prog 53 #[.string (stTxt b t), .string ⟨#[c]⟩] wx fun e w' => e = .returned (.bool (decide (c = if b then 43 else 45))) ∧ w' = wx := by
    intro c wx
    have := begins_any (stTxt b t) ⟨#[c]⟩ wx (by omega) (by have : (⟨#[c]⟩ : ByteArray).size = 1 := rfl; omega)
    rw [beg_sign] at this
    exact this
  have hr := stTxt_rest b t
  have hs1 : (1 : Int) ≤ ((stTxt b t).size : Int) := by omega
  have ha : ∀ (c : UInt8) (wx : World), (Op.stringOp .add ⟨#[c]⟩ t).run Try.prog wx = .ok (.string (⟨#[c]⟩ ++ t)) wx := fun c wx => run_string_add_sum (P := Try.prog) wx ⟨#[c]⟩ t (by have : (⟨#[c]⟩ : ByteArray).size = 1 := rfl; omega)
  cases b with
  | true =>
    have h1 := hide (hB 43 w)
    have ha1 := ha 45
    have hfin : (⟨#[45]⟩ ++ t : ByteArray) = stTxt false t := rfl
    rw [hfin] at ha1
    generalize stTxt true t = X at *
    clear hB ha hsz
    go_enter Try.func32, Try.ntmps32
    go_wp2_with fail
    refine (unhide h1).mono ?_
    rintro e w1 ⟨rfl, rfl⟩
    go_wp2
    go_ret
    exact ⟨rfl, rfl⟩
  | false =>
    have h1 := hide (hB 43 w)
    have h2 := hide (hB 45 w)
    have ha1 := ha 43
    have hfin : (⟨#[43]⟩ ++ t : ByteArray) = stTxt true t := rfl
    rw [hfin] at ha1
    generalize stTxt false t = X at *
    clear hB ha hsz
    go_enter Try.func32, Try.ntmps32
    go_wp2_with fail
    refine (unhide h1).mono ?_
    rintro e w1 ⟨rfl, rfl⟩
    go_wp2_with fail
    refine (unhide h2).mono ?_
    rintro e w1 ⟨rfl, rfl⟩
    go_wp2
    go_ret
    exact ⟨rfl, rfl⟩

/-- What is told of a beginning of n steps. -/
theorem plan_part {s t : ByteArray} (h : plErr s t = 0) (n : Nat) (hn : n ≤ (pl s t).length) :
    ∃ (X : ByteArray) (S : List (Bool × Item)), pl s t = stTxts S ∧ X.size ≤ 400 ∧ wkErr s ((pl s t).take n) = 0 ∧ wkN s ((pl s t).take n) = n ∧ wkTxt s ((pl s t).take n) = X ∧ (chk X).1 = 0 ∧
      (wkErr X (stTxts (flips (S.take n).reverse)) = 0 ∧ wkN X (stTxts (flips (S.take n).reverse)) = n ∧ wkTxt X (stTxts (flips (S.take n).reverse)) = prt s) ∧
      wkErr X ((pl s t).drop n) = 0 ∧ wkN X ((pl s t).drop n) = (pl s t).length - n ∧ wkTxt X ((pl s t).drop n) = prt t := by
  obtain ⟨h1, h2⟩ := plErr_zero h
  have a1 := arrI_of_chk h1
  obtain ⟨hg, m, hm, hp⟩ := plan_walk a1 (arrI_of_chk h2)
  have hpl : pl s t = stTxts (mk (itemsOf s) (itemsOf t)) := by simp [pl, h]
  rw [hpl] at hn ⊢
  generalize mk (itemsOf s) (itemsOf t) = S at *
  have ht1 : (stTxts S).take n = stTxts (S.take n) := by simp [stTxts, List.map_take]
  have ht2 : (stTxts S).drop n = stTxts (S.drop n) := by simp [stTxts, List.map_drop]
  have hSl : n ≤ S.length := by simpa [stTxts] using hn
  have hgt : ∀ p ∈ S.take n, Good p.2 := fun p hp => hg p (List.mem_of_mem_take hp)
  rw [ht1, ht2]
  have hsplit : stTxts S = stTxts (S.take n) ++ stTxts (S.drop n) := by rw [← stTxts_append, List.take_append_drop]
  rw [hsplit, wlk_append] at hm
  cases hw : wlk (itemsOf s) (stTxts (S.take n)) with
  | none => rw [hw] at hm; simp at hm
  | some k =>
    rw [hw] at hm
    have ak := wlk_arr hgt a1 hw
    obtain ⟨c, hc, hcp⟩ := wlk_back hgt a1 hw
    have aks : ArrI (sorted k) := ak.perm (sorted_perm k).symm
    obtain ⟨L, hL, eL⟩ := aks.arr
    have hX : (⟨(catB (sortTo k k.length)).toArray⟩ : ByteArray) = txt L := by rw [sortTo_all, eL, catB_map]; rfl
    obtain ⟨hchk, hit⟩ := hL.chk
    rw [← eL] at hit
    obtain ⟨c', hc', hcp'⟩ := wlk_perm (sorted_perm k).symm hc
    obtain ⟨m', hm', hmp'⟩ := wlk_perm (sorted_perm k).symm hm
    rw [← hit] at hc' hm'
    have h0 : (chk (txt L)).1 = 0 := by rw [hchk]
    refine ⟨txt L, S, rfl, by rw [txt_size]; exact hL.short, by simp [wkErr, h1, wErr, hw], ?_, ?_, h0, ⟨by simp [wkErr, h0, wErr, hc'], ?_, ?_⟩, by simp [wkErr, h0, wErr, hm'], ?_, ?_⟩
    · rw [wkN, if_pos h1, wlkN_some hw]; simp [stTxts]; omega
    · rw [wkTxt, if_pos h1, wOut, hw]; exact hX
    · rw [wkN, if_pos h0, wlkN_some hc']; simp [stTxts, flips]; omega
    · rw [wkTxt, if_pos h0, wOut, hc']; exact prt_of_perm h1 (hcp'.symm.trans hcp)
    · rw [wkN, if_pos h0, wlkN_some hm']; simp [stTxts]
    · rw [wkTxt, if_pos h0, wOut, hm']; exact prt_of_perm h2 (hmp'.symm.trans hp)

theorem back_get (S : List (Bool × Item)) (n c : Nat) (hn : n ≤ S.length) (hc : c < n) (i : Nat) (hi : i < S.length) (e : i = n - 1 - c) : (stTxts (flips (S.take n).reverse)).take (c + 1) = (stTxts (flips (S.take n).reverse)).take c ++ [stTxt (!S[i].1) S[i].2.text] := by
  have hl : c < (stTxts (flips (S.take n).reverse)).length := by simp [stTxts, flips]; omega
  rw [List.take_succ_eq_append_getElem hl]
  congr 2
  subst e
  simp only [stTxts, flips, List.getElem_map, List.getElem_reverse, List.getElem_take, List.length_take]
  have : min n S.length - 1 - c = n - 1 - c := by rw [Nat.min_eq_left hn]
  simp only [this]

end Go.Proofs.Ytdlhgbhaeedbdaa
