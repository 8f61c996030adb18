/- 'Ordered', walked. -/
import Derived.Test.YtdlhgbhaeedbdaaOrd3
import Derived.Test.YtdlhgbhaeedbdaaAwake
import Derived.Test.YtdlhgbhaeedbdaaPureA
import Derived.Deep.RegionWith
namespace Go.Proofs.Ytdlhgbhaeedbdaa
open Go.RowKit

set_option maxRecDepth 100000 in
set_option maxHeartbeats 400000 in
theorem ordered_no (s : ByteArray) (k : Int) (w : World) (hs : s.size ≤ maxLen) (hc : (chk s).1 ≠ 0) :
    Calls Try.prog 5 #[.string s, .int .i64 k] w fun e w' => e = .returned (.bool true) ∧ Below w.heap.size w w' := by
  have hp : prt s = ⟨#[]⟩ := by simp [prt, hc]
  have h1 : ∀ wx, Calls Try.prog 24 #[.string s] wx fun e w' => e = .returned (.tuple #[.int .i64 ((chk s).1 : Nat), .int .i64 ((chk s).2 : Nat)]) ∧ Below wx.heap.size wx w' := fun wx => check_any s wx hs
  have h2 : ∀ wx, Calls Try.prog 12 #[.string s] wx fun e w' => e = .returned (.tuple #[.string ⟨#[]⟩, .int .i64 ((chk s).1 : Nat)]) ∧ Below wx.heap.size wx w' := by
    intro wx; have := print_any s wx hs; rw [hp] at this; exact this
  have hc' : ((((chk s).1 : Nat) : Int) != 0) = true := by rw [bne_iff_ne]; omega
  generalize (chk s).1 = c at *
  generalize (chk s).2 = q at *
  have H1 := hide h1
  have H2 := hide h2
  clear h1 h2 hp hc hs
  go_enter Try.func5, Try.ntmps5
  go_wp2_with fail
  refine (awake_any w).mono ?_
  rintro e w1 ⟨rfl, hb1⟩
  go_wp2_with fail
  refine (unhide H1 _).mono ?_
  rintro e w2 ⟨rfl, hb2⟩
  go_wp2_with fail
  refine (unhide H2 _).mono ?_
  rintro e w3 ⟨rfl, hb3⟩
  go_wp2
  go_ret
  exact ⟨rfl, (hb1.trans (hb2.mono hb1.size)).trans (hb3.mono (Nat.le_trans hb1.size hb2.size))⟩

theorem catT_append (A B : List It) : catT (A ++ B) = catT A ++ catT B := by simp [catT]

theorem txt_append (L M : List It) : txt L ++ txt M = txt (L ++ M) := by
  apply ByteArray.ext
  apply Array.toList_inj.1
  simp [txt, catT]

theorem catS_bound {L : List It} (h : Arr L) (j k : Nat) : (catS (((L.map textOf).drop j).take k)).size ≤ 1000000 ∧ (catS (((L.map textOf).take j).take k)).size ≤ 1000000 := by
  have hs := h.short
  have key : ∀ M : List It, (∃ A B, A ++ M ++ B = L) → (txt M).size ≤ 400 := by
    rintro M ⟨A, B, rfl⟩
    rw [txt_size]
    simp [catT] at hs ⊢
    omega
  rw [← List.map_drop, ← List.map_take, ← List.map_take, ← List.map_take, catS_map, catS_map]
  refine ⟨Nat.le_trans (key _ ⟨L.take j, (L.drop j).drop k, ?_⟩) (by omega), Nat.le_trans (key _ ⟨[], (L.take j).drop k ++ L.drop j, ?_⟩) (by omega)⟩
  · rw [List.append_assoc, List.take_append_drop, List.take_append_drop]
  · rw [List.nil_append, ← List.append_assoc, List.take_append_drop, List.take_append_drop]

set_option maxRecDepth 100000 in
set_option maxHeartbeats 1000000 in
theorem ordered_yes (L : List It) (h : Arr L) (hne : 0 < L.length) (k : Int) (hk : (Lit.int .i64 k).wf = true) (w : World) :
    Calls Try.prog 5 #[.string (txt L), .int .i64 k] w fun e w' => e = .returned (.bool true) ∧ Below w.heap.size w w' := by
  have hA := arr_sortI h
  have hsz : (txt L).size ≤ 400 := by rw [txt_size]; exact h.short
  have hsz2 : (txt (sortI L)).size ≤ 400 := by rw [txt_size]; exact hA.short
  have heq : (txt (sortI L)).size = (txt L).size := by rw [txt_size, txt_size]; exact catT_perm (sortI_perm L)
  have hll : (sortI L).length = L.length := (sortI_perm L).length_eq
  have hfew := h.few
  have h1 : ∀ wx, Calls Try.prog 24 #[.string (txt L)] wx fun e w' => e = .returned (.tuple #[.int .i64 0, .int .i64 0]) ∧ Below wx.heap.size wx w' := by
    intro wx; have := check_any (txt L) wx (by unfold maxLen; omega); rw [h.chk.1] at this; exact this
  have h2 : ∀ wx, Calls Try.prog 12 #[.string (txt L)] wx fun e w' => e = .returned (.tuple #[.string (txt (sortI L)), .int .i64 0]) ∧ Below wx.heap.size wx w' := by
    intro wx; have := print_any (txt L) wx (by unfold maxLen; omega); rw [h.chk.1, h.prt] at this; exact this
  have h3 : ∀ wx, Calls Try.prog 25 #[.string (txt L)] wx fun e w' => ∃ g cap, e = .returned (.slice (some ⟨g, 0, none⟩) L.length cap) ∧ L.length ≤ cap ∧ StrsIn w' g 0 (L.map textOf) ∧ Below wx.heap.size wx w' := by
    intro wx
    refine (pieces_any (txt L) wx (by omega)).mono ?_
    rintro e w' ⟨v, rfl, hown, hb⟩
    rw [pcs_txt L h.ok] at hown
    rcases strs_of_owns hown with ⟨_, hn⟩ | ⟨g, cap, rfl, hc, hs⟩
    · simp at hn; rw [hn] at hne; simp at hne
    · simp only [List.length_map] at hc ⊢
      exact ⟨g, cap, rfl, hc, hs, hb⟩
  have h4 : ∀ wx, Calls Try.prog 25 #[.string (txt (sortI L))] wx fun e w' => ∃ g cap, e = .returned (.slice (some ⟨g, 0, none⟩) L.length cap) ∧ StrsIn w' g 0 ((sortI L).map textOf) ∧ Below wx.heap.size wx w' := by
    intro wx
    refine (pieces_any (txt (sortI L)) wx (by omega)).mono ?_
    rintro e w' ⟨v, rfl, hown, hb⟩
    rw [pcs_txt (sortI L) hA.ok] at hown
    rcases strs_of_owns hown with ⟨_, hn⟩ | ⟨g, cap, rfl, hc, hs⟩
    · simp at hn; rw [hn] at hll; simp at hll; omega
    · simp only [List.length_map, hll]
      exact ⟨g, cap, rfl, hs, hb⟩
  have h5 : ∀ wx g cap, StrsIn wx g 0 ((sortI L).map textOf) → Calls Try.prog 26 #[.slice (some ⟨g, 0, none⟩) L.length cap] wx fun e w' => e = .returned (.bool true) ∧ ∃ n, w' = wx.drewN n := by
    intro wx g cap hs
    have := ordered_in g cap ((sortI L).map textOf) wx (by simp; omega) (by
      intro x hx
      obtain ⟨y, hy, rfl⟩ := List.mem_map.1 hx
      have : y.text.length ≤ (catT (sortI L)).length := by
        obtain ⟨A, B, e⟩ := List.append_of_mem hy
        rw [e]; simp [catT]; omega
      have h2 := hA.short
      show (textOf y).size ≤ _
      simp [textOf, ByteArray.size]; omega) hs (ord_sorted h)
    rw [List.length_map, hll] at this
    exact this
  have h6 : ∀ wx g cap i (hi : i < L.length), StrsIn wx g 0 ((sortI L).map textOf) → Calls Try.prog 27 #[.slice (some ⟨g, 0, none⟩) L.length cap, .string (textOf L[i])] wx fun e w' => e = .returned (.bool true) ∧ w' = wx := by
    intro wx g cap i hi hs
    have := in_any g cap ((sortI L).map textOf) (textOf L[i]) wx (by simp; omega) hs
    rw [List.length_map, hll, inB_true.2 (List.mem_map.2 ⟨L[i], (sortI_perm L).mem_iff.2 (List.getElem_mem hi), rfl⟩)] at this
    exact this
  have h7 : ∀ wx, Calls Try.prog 24 #[.string (txt (sortI L))] wx fun e w' => e = .returned (.tuple #[.int .i64 0, .int .i64 0]) ∧ Below wx.heap.size wx w' := by
    intro wx; have := check_any (txt (sortI L)) wx (by unfold maxLen; omega); rw [hA.chk.1] at this; exact this
  have h8 : ∀ wx j, Calls Try.prog 12 #[.string (txt (L.drop j) ++ txt (L.take j))] wx fun e w' => e = .returned (.tuple #[.string (txt (sortI L)), .int .i64 0]) ∧ Below wx.heap.size wx w' := by
    intro wx j
    have hp : L.Perm (L.drop j ++ L.take j) := by
      have := List.perm_append_comm (l₁ := L.take j) (l₂ := L.drop j)
      rw [List.take_append_drop] at this
      exact this
    have hB := h.perm hp
    rw [txt_append]
    have := print_any (txt (L.drop j ++ L.take j)) wx (by rw [txt_size]; unfold maxLen; have := hB.short; omega)
    rw [hB.chk.1, hB.prt, ← sortI_of_perm h hp] at this
    exact this
  have h9 : ∀ wx g cap j, j ≤ L.length → StrsIn wx g 0 (L.map textOf) → Calls Try.prog 29 #[.slice (some ⟨g, j, none⟩) (L.length - j) (cap - j)] wx fun e w' => e = .returned (.string (txt (L.drop j))) ∧ w' = wx := by
    intro wx g cap j hj hs
    have hd := hs.drop j
    rw [Nat.zero_add] at hd
    have := joined_in g j (cap - j) ((L.map textOf).drop j) wx (by simp; omega) (fun k => (catS_bound h j k).1) hd
    rw [← List.map_drop, List.length_map, List.length_drop, catS_map] at this
    exact this
  have h10 : ∀ wx g cap j, j ≤ L.length → StrsIn wx g 0 (L.map textOf) → Calls Try.prog 29 #[.slice (some ⟨g, 0, none⟩) j cap] wx fun e w' => e = .returned (.string (txt (L.take j))) ∧ w' = wx := by
    intro wx g cap j hj hs
    have := joined_in g 0 cap ((L.map textOf).take j) wx (by simp; omega) (fun k => (catS_bound h j k).2) (hs.take j)
    rw [← List.map_take, List.length_map, List.length_take, Nat.min_eq_left hj, catS_map] at this
    exact this
  have H1 := hide h1
  have H2 := hide h2
  have H3 := hide h3
  have H4 := hide h4
  have H5 := hide h5
  have H6 := hide h6
  have H7 := hide h7
  have H8 := hide h8
  have H9 := hide h9
  have H10 := hide h10
  have Heq := hide heq
  clear h1 h2 h3 h4 h5 h6 h7 h8 h9 h10 heq hll
  have hq : (((txt (sortI L)).size : Int) != ((txt L).size : Int)) = false := by rw [unhide Heq]; simp
  have hn0 : (0 : Int) < (L.length : Int) := by omega
  go_enter Try.func5, Try.ntmps5
  go_wp2_with fail
  refine (awake_any w).mono ?_
  rintro e w1 ⟨rfl, hb1⟩
  go_wp2_with fail
  refine (unhide H1 _).mono ?_
  rintro e w2 ⟨rfl, hb2⟩
  go_wp2_with fail
  refine (unhide H2 _).mono ?_
  rintro e w3 ⟨rfl, hb3⟩
  go_wp2_with fail
  refine (unhide H3 _).mono ?_
  rintro e w4 ⟨g, cap, rfl, hcap, hs4, hb4⟩
  go_wp2_with fail
  refine (unhide H4 _).mono ?_
  rintro e w5 ⟨g2, cap2, rfl, hs5, hb5⟩
  have hs4' := hs4.later hb5
  go_wp2_with fail
  refine (unhide H5 _ _ _ hs5).mono ?_
  rintro e w6 ⟨rfl, nq, rfl⟩
  have hB5 : Below w.heap.size w w5 := (((hb1.trans (hb2.mono hb1.size)).trans (hb3.mono (Nat.le_trans hb1.size hb2.size))).trans (hb4.mono (Nat.le_trans hb1.size (Nat.le_trans hb2.size hb3.size)))).trans (hb5.mono (Nat.le_trans hb1.size (Nat.le_trans hb2.size (Nat.le_trans hb3.size hb4.size))))
  go_wp2_with fail
  have hs4n : StrsIn (w5.drewN nq) g 0 (L.map textOf) := hs4'
  have hs5n : StrsIn (w5.drewN nq) g2 0 ((sortI L).map textOf) := hs5
  have hBn : Below w.heap.size w (w5.drewN nq) := below_drewN hB5 nq
  have hsn : w.heap.size ≤ (w5.drewN nq).heap.size := hBn.size
  clear hb1 hb2 hb3 hb4 hb5 hs4 hs4' hs5 hB5
  generalize w5.drewN nq = W at *
  go_loop [12] (fun i => ∃ q : Nat, q ≤ L.length ∧ i = .int .i64 q) (fun i => L.length - (intOf i).toNat)
  case atStart => exact ⟨0, Nat.zero_le _, rfl⟩
  case round =>
    obtain ⟨q, hq', rfl⟩ := hrel
    by_cases hlt : q < L.length
    · have hlt' : (q : Int) < (L.length : Int) := by omega
      have hc := hs4n.2 q (by simpa using hlt)
      rw [Nat.zero_add, List.getElem_map] at hc
      have hin := unhide H6 W g2 cap2 q hlt hs5n
      generalize textOf L[q] = z at *
      have Hin := hide hin
      clear hin
      go_wp2_with (go_at_call 27; refine (unhide Hin).mono ?_; rintro e w7 ⟨rfl, rfl⟩)
      go_round
      case rel => exact ⟨q + 1, by omega, by go_num⟩
      case measure => simp [intOf]; omega
    · have hlt' : ¬ (q : Int) < (L.length : Int) := by omega
      go_wp2_with fail
      refine (pick_any k L.length _ hk hne (by omega)).mono ?_
      rintro e w8 ⟨⟨j, hj, rfl⟩, rfl⟩
      have hj' : (j : Int) ≤ (L.length : Int) := by omega
      have hj2 : (j : Int) ≤ (cap : Int) := by omega
      have hj3 : (L.length : Int) ≤ (cap : Int) := by omega
      have hcat : ((txt (L.drop j)).size : Int) + ((txt (L.take j)).size : Int) ≤ 400 := by
        have := h.short
        rw [txt_size, txt_size]
        have e : (catT L).length = (catT (L.take j)).length + (catT (L.drop j)).length := by
          have q := catT_append (L.take j) (L.drop j)
          rw [List.take_append_drop] at q
          rw [q, List.length_append]
        omega
      have P9 := hide (fun wx hs => unhide H9 wx g cap j (Nat.le_of_lt hj) hs)
      have P10 := hide (fun wx hs => unhide H10 wx g cap j (Nat.le_of_lt hj) hs)
      have P8 := hide (fun wx => unhide H8 wx j)
      generalize txt (L.drop j) = X at *
      generalize txt (L.take j) = Y at *
      go_wp2_with fail
      go_region_with (first
        | (go_at_call_of 29 (Value.slice (some ⟨g, j, none⟩) (L.length - j) (cap - j)); refine (unhide P9 _ (by exact hs4n)).mono ?_; rintro e w9 ⟨rfl, rfl⟩)
        | (go_at_call_of 29 (Value.slice (some ⟨g, 0, none⟩) j cap); refine (unhide P10 _ (by exact hs4n)).mono ?_; rintro e w9 ⟨rfl, rfl⟩)
        | (go_at_call 12; refine (unhide P8 _).mono ?_; rintro e w9 ⟨rfl, hb9⟩))
      all_goals
        go_wp2_with fail
        refine (unhide H7 _).mono ?_
        rintro e w10 ⟨rfl, hb10⟩
        go_wp2
        go_ret
        exact ⟨rfl, (hBn.drew.trans (hb9.mono hsn)).trans (hb10.mono (Nat.le_trans hsn hb9.size))⟩

set_option maxRecDepth 100000 in
set_option maxHeartbeats 400000 in
theorem ordered_empty (k : Int) (w : World) :
    Calls Try.prog 5 #[.string ⟨#[]⟩, .int .i64 k] w fun e w' => e = .returned (.bool true) ∧ Below w.heap.size w w' := by
  have hA : Arr [] := ⟨by simp, by simp, by simp [catT], List.Pairwise.nil, by intro y hy; simp at hy⟩
  have hE : txt [] = ⟨#[]⟩ := rfl
  have c0 : chk ⟨#[]⟩ = (0, 0) := hA.chk.1
  have p0 : prt ⟨#[]⟩ = ⟨#[]⟩ := hA.prt
  have h1 : ∀ wx, Calls Try.prog 24 #[.string ⟨#[]⟩] wx fun e w' => e = .returned (.tuple #[.int .i64 0, .int .i64 0]) ∧ Below wx.heap.size wx w' := by
    intro wx; have := check_any ⟨#[]⟩ wx (by decide); rw [c0] at this; exact this
  have h2 : ∀ wx, Calls Try.prog 12 #[.string ⟨#[]⟩] wx fun e w' => e = .returned (.tuple #[.string ⟨#[]⟩, .int .i64 0]) ∧ Below wx.heap.size wx w' := by
    intro wx; have := print_any ⟨#[]⟩ wx (by decide); rw [c0, p0] at this; exact this
  have h3 : ∀ wx, Calls Try.prog 25 #[.string ⟨#[]⟩] wx fun e w' => e = .returned (.slice none 0 0) ∧ w' = wx := by
    intro wx
    go_enter Try.func25, Try.ntmps25
    go_wp2
    refine wp_loop_rounds 1 ?_
    rw [rounds_succ]
    go_wp2
    go_ret
    exact ⟨rfl, rfl⟩
  have H1 := hide h1
  have H2 := hide h2
  have H3 := hide h3
  clear h1 h2 h3 c0 p0 hE hA
  go_enter Try.func5, Try.ntmps5
  go_wp2_with fail
  refine (awake_any w).mono ?_
  rintro e w1 ⟨rfl, hb1⟩
  go_wp2_with fail
  refine (unhide H1 _).mono ?_
  rintro e w2 ⟨rfl, hb2⟩
  go_wp2_with fail
  refine (unhide H2 _).mono ?_
  rintro e w3 ⟨rfl, hb3⟩
  go_wp2_with fail
  refine (unhide H3 _).mono ?_
  rintro e w4 ⟨rfl, rfl⟩
  go_wp2_with fail
  refine (unhide H3 _).mono ?_
  rintro e w4 ⟨rfl, rfl⟩
  go_wp2_with fail
  refine (ordered_nil _).mono ?_
  rintro e w4 ⟨rfl, rfl⟩
  go_wp2_with fail
  refine wp_loop_rounds 1 ?_
  rw [rounds_succ]
  go_wp2_with fail
  go_region_with (first
    | (go_at_call 29; refine (joined_nil _).mono ?_; rintro e w9 ⟨rfl, rfl⟩)
    | (go_at_call 12; refine (unhide H2 _).mono ?_; rintro e w9 ⟨rfl, hb9⟩))
  all_goals
    go_wp2_with fail
    refine (unhide H1 _).mono ?_
    rintro e w10 ⟨rfl, hb10⟩
    go_wp2
    go_ret
    have hB := (hb1.trans (hb2.mono hb1.size)).trans (hb3.mono (Nat.le_trans hb1.size hb2.size))
    exact ⟨rfl, (hB.drew.trans (hb9.mono hB.size)).trans (hb10.mono (Nat.le_trans hB.size hb9.size))⟩

theorem ordered_any (s : ByteArray) (k : Int) (w : World) (hs : s.size ≤ maxLen) (hk : (Lit.int .i64 k).wf = true) :
    Calls Try.prog 5 #[.string s, .int .i64 k] w fun e w' => e = .returned (.bool true) ∧ Below w.heap.size w w' := by
  by_cases hc : (chk s).1 = 0
  · have h0 : chk s = (0, 0) := by
      rcases chk_cases s with ⟨_, e⟩ | ⟨_, ⟨e, _⟩ | ⟨_, ⟨q, _, e⟩ | ⟨q, _, e⟩ | e⟩⟩
      · rw [e] at hc; simp at hc
      · rw [e] at hc; simp at hc
      · rw [e] at hc; simp at hc
      · rw [e] at hc; simp at hc
      · exact e
    obtain ⟨L, hL, rfl, _⟩ := arr_of_chk h0
    cases L with
    | nil => exact ordered_empty k w
    | cons x L => exact ordered_yes (x :: L) hL (by simp) k hk w
  · exact ordered_no s k w hs hc

end Go.Proofs.Ytdlhgbhaeedbdaa
