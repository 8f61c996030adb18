/- The document's answer: 'Check', walked. -/
import Derived.Test.YtdlhgbhaeedbdaaGreatRef11
import Derived.Deep.RegionWith
namespace Go.Proofs.YtdlhgbhaeedbdaaGreat
open Go.RowKit

theorem ret2_nat {a b c d : Nat} (h : (a, c) = (b, d)) : Ending.returned (.tuple #[.int .i64 (a : Int), .int .i64 (c : Int)]) = .returned (.tuple #[.int .i64 (b : Int), .int .i64 (d : Int)]) := by
  simp only [Prod.mk.injEq] at h
  rw [h.1, h.2]

set_option maxRecDepth 100000 in
set_option maxHeartbeats 400000 in
theorem rcheck_long (s : ByteArray) (w : World) (h4 : 400 < s.size) :
    Calls Tryz.prog 23 #[.string s] w fun e w' => e = .returned (.tuple #[.int .i64 1, .int .i64 0]) ∧ Below w.heap.size w w' := by
  have h4' : (400 : Int) < (s.size : Int) := by omega
  go_enter Tryz.func23, Tryz.ntmps23
  go_wp2_with fail
  go_ret2
  exact ⟨rfl, Below.refl _ _⟩

set_option maxRecDepth 100000 in
set_option maxHeartbeats 400000 in
theorem rcheck_form (s : ByteArray) (w : World) (h4 : ¬ 400 < s.size) (m : Nat) (hm : plc s = (m : Nat)) :
    Calls Tryz.prog 23 #[.string s] w fun e w' => e = .returned (.tuple #[.int .i64 2, .int .i64 (m : Nat)]) ∧ Below w.heap.size w w' := by
  have h4' : ¬ (400 : Int) < (s.size : Int) := by omega
  have hp := rplace_any s w (by omega)
  rw [hm] at hp
  have Hp := hide hp
  have hm0 : (0 : Int) ≤ (m : Int) := by omega
  clear hp hm
  go_enter Tryz.func23, Tryz.ntmps23
  go_wp2_with fail
  refine (unhide Hp).mono ?_
  rintro e w1 ⟨rfl, rfl⟩
  go_wp2_with fail
  go_ret2
  exact ⟨rfl, Below.refl _ _⟩

theorem body_small {L : List It} (h : (txt L).size ≤ 400) : ∀ x ∈ L, (bodyOf x).size ≤ 100000 := by
  intro x hx
  rw [txt_size] at h
  have : (bodyOf x).size = x.body.length := mkS_size _
  obtain ⟨A, B, e⟩ := List.append_of_mem hx
  rw [e] at h
  simp [catT, It.text] at h
  omega

set_option maxRecDepth 100000 in
set_option maxHeartbeats 1000000 in
theorem rcheck_items (L : List It) (hL : ∀ x ∈ L, x.ok) (hne : 0 < L.length) (hf : L.length ≤ 24) (h4 : ¬ 400 < (txt L).size) (hpl : plc (txt L) = -1) (c d : Nat)
    (hcd : (c, d) = if firstIx (twiceAt (L.map It.item)) L.length < L.length then (3, firstIx (twiceAt (L.map It.item)) L.length) else if firstIx (lostAt (L.map It.item)) L.length < L.length then (4, firstIx (lostAt (L.map It.item)) L.length) else (0, 0)) (w : World) :
    Calls Tryz.prog 23 #[.string (txt L)] w fun e w' => e = .returned (.tuple #[.int .i64 (c : Nat), .int .i64 (d : Nat)]) ∧ Below w.heap.size w w' := by
  have h4' : ¬ (400 : Int) < ((txt L).size : Int) := by omega
  have hnot : ∀ (x : Bool) (w : World), (Op.unary .not (.bool x)).run Tryz.prog w = .ok (.bool (!x)) w := fun _ _ => rfl
  have hp := rplace_any (txt L) w (by omega)
  rw [hpl] at hp
  have hz := body_small (L := L) (by omega)
  have Hp := hide hp
  have Hcd := hide hcd
  clear hp hpl hcd
  go_enter Tryz.func23, Tryz.ntmps23
  go_wp2_with fail
  refine (unhide Hp).mono ?_
  rintro e w0 ⟨rfl, rfl⟩
  go_wp2_with fail
  refine (ritems_any L hL (by omega) (by omega) _).mono ?_
  rintro e w1 ⟨g, cap, rfl, hcap, hg, hst, hb1⟩
  go_wp2_with fail
  refine (rkeys_in g cap L hL hz (by omega) w1 hst).mono ?_
  rintro e w2 ⟨kv, rfl, hown, hb2⟩
  obtain ⟨g2, cap2, rfl, hcap2, _, hks⟩ := rstrs_of_owns hown (by intro e; rw [List.map_eq_nil_iff] at e; rw [e] at hne; simp at hne)
  rw [List.length_map] at hcap2 ⊢
  have hst2 := hst.later hb2
  have hB2 := hb1.trans (hb2.mono hb1.size)
  clear hown hst hb1 hb2 Hp
  go_wp2_with fail
  go_loopw [7] (fun i wr => ∃ k : Nat, k ≤ L.length ∧ i = .int .i64 (k : Nat) ∧ (∀ j, j < k → twiceAt (L.map It.item) j = false) ∧ ∃ n, wr = w2.drewN n) (fun i _ => L.length - (intOf i).toNat)
  case atStart => exact ⟨0, Nat.zero_le _, rfl, by intro j hj; omega, 0, rfl⟩
  case round =>
    obtain ⟨k, hk, rfl, hno, nq, rfl⟩ := hrel
    have Hno := hide hno
    clear hno
    by_cases hlt : k < L.length
    · have hlt' : (k : Int) < (L.length : Int) := by omega
      have hkc : (k : Int) ≤ (cap2 : Int) := by omega
      have hkl : (k : Int) ≤ (L.length : Int) := by omega
      have hc := hks.2 k (by simpa using hlt)
      rw [Nat.zero_add, List.getElem_map] at hc
      have htk : RStrs w2 g2 0 ((L.map keyOf).take k) := hks.take k
      have hin : ∀ n, Calls Tryz.prog 53 #[.slice (some ⟨g2, 0, none⟩) k cap2, .string (keyOf L[k])] (w2.drewN n) fun e w' => e = .returned (.bool (twiceAt (L.map It.item) k)) ∧ w' = w2.drewN n := by
        intro n
        have := rin_in g2 cap2 ((L.map keyOf).take k) (keyOf L[k]) (w2.drewN n) (by simp; omega) htk
        rw [List.length_take, List.length_map, Nat.min_eq_left (by omega), twice_iff hL hlt] at this
        exact this
      cases hd : twiceAt (L.map It.item) k with
      | true =>
        have hfx := firstIx_hit hlt hd (unhide Hno)
        have hfin := unhide Hcd
        rw [hfx, if_pos hlt] at hfin
        rw [hd] at hin
        have Hin := hide hin
        have Hf := hide hfin
        clear hin hd hfx hfin
        generalize keyOf L[k] = Z at *
        go_wp2_with fail
        go_region_with (go_at_call 53; refine (unhide Hin (nq + 1)).mono ?_; rintro e w3 ⟨rfl, rfl⟩)
        all_goals
          go_wp2_with fail
          go_ret2
          exact ⟨ret2_nat (unhide Hf).symm, below_drewN hB2 _⟩
      | false =>
        have hno' : ∀ j, j < k + 1 → twiceAt (L.map It.item) j = false := fun j hj => by
          by_cases e : j = k
          · rw [e]; exact hd
          · exact unhide Hno j (by omega)
        rw [hd] at hin
        have Hin := hide hin
        have Hn2 := hide hno'
        clear hin hd hno'
        generalize keyOf L[k] = Z at *
        go_wp2_with fail
        go_region_with (go_at_call 53; refine (unhide Hin (nq + 1)).mono ?_; rintro e w3 ⟨rfl, rfl⟩)
        all_goals
          go_wp2_with fail
          go_roundw
          case rel => exact ⟨k + 1, by omega, by go_num, unhide Hn2, _, rfl⟩
          case measure => simp [intOf]; omega
    · have hlt' : ¬ (k : Int) < (L.length : Int) := by omega
      have hf1 : firstIx (twiceAt (L.map It.item)) L.length = L.length := firstIx_none (fun j hj => unhide Hno j (by omega))
      have hcd := unhide Hcd
      rw [hf1, if_neg (Nat.lt_irrefl _)] at hcd
      have Hc2 := hide hcd
      have hst3 : RStrs (w2.drewN nq) g 0 (L.map bodyOf) := hst2
      have hB3 := below_drewN hB2 nq
      have hsz3 := hB3.size
      clear hf1 hcd Hcd Hno hst2 hB2 hks
      generalize w2.drewN nq = W at *
      go_wp2_with fail
      go_loopw [9] (fun i wr => ∃ k : Nat, k ≤ L.length ∧ i = .int .i64 (k : Nat) ∧ (∀ j, j < k → lostAt (L.map It.item) j = false) ∧ Below W.heap.size W wr) (fun i _ => L.length - (intOf i).toNat)
      case atStart => exact ⟨0, Nat.zero_le _, rfl, by intro j hj; omega, Below.refl _ _⟩
      case round =>
        obtain ⟨q, hq, rfl, hno, hbe⟩ := hrel
        have Hno := hide hno
        clear hno
        by_cases hql : q < L.length
        · have hql' : (q : Int) < (L.length : Int) := by omega
          have hst4 := hst3.later hbe
          have hc := hst4.2 q (by simpa using hql)
          rw [Nat.zero_add, List.getElem_map] at hc
          have hwh := rwhole_in g cap L hL hz (by omega) L[q] (hL _ (List.getElem_mem hql)) (hz _ (List.getElem_mem hql)) _ hst4
          rw [whole_iff hL hql] at hwh
          have hbs := hbe.size
          cases hd : lostAt (L.map It.item) q with
          | true =>
            have hfx := firstIx_hit hql hd (unhide Hno)
            have hfin := unhide Hc2
            rw [hfx, if_pos hql] at hfin
            rw [hd] at hwh
            have Hw := hide hwh
            have Hf := hide hfin
            clear hwh hd hfx hfin
            generalize bodyOf L[q] = Z at *
            go_wp2_with (go_at_call 54; refine (unhide Hw).mono ?_; rintro e w3 ⟨rfl, hb3⟩)
            go_ret2
            exact ⟨ret2_nat (unhide Hf).symm, hB3.trans ((hbe.mono hsz3).trans (hb3.mono (by omega)))⟩
          | false =>
            have hno' : ∀ j, j < q + 1 → lostAt (L.map It.item) j = false := fun j hj => by
              by_cases e : j = q
              · rw [e]; exact hd
              · exact unhide Hno j (by omega)
            rw [hd] at hwh
            have Hw := hide hwh
            have Hn2 := hide hno'
            clear hwh hd hno'
            generalize bodyOf L[q] = Z at *
            go_wp2_with (go_at_call 54; refine (unhide Hw).mono ?_; rintro e w3 ⟨rfl, hb3⟩)
            go_roundw
            case rel => exact ⟨q + 1, by omega, by go_num, unhide Hn2, hbe.trans (hb3.mono hbs)⟩
            case measure => simp [intOf]; omega
        · have hql' : ¬ (q : Int) < (L.length : Int) := by omega
          have hf1 : firstIx (lostAt (L.map It.item)) L.length = L.length := firstIx_none (fun j hj => unhide Hno j (by omega))
          have hcd := unhide Hc2
          rw [hf1, if_neg (Nat.lt_irrefl _)] at hcd
          have Hf := hide hcd
          clear hf1 hcd
          go_wp2_with fail
          go_ret2
          exact ⟨ret2_nat (unhide Hf).symm, hB3.trans (hbe.mono hsz3)⟩

set_option maxRecDepth 100000 in
set_option maxHeartbeats 400000 in
theorem rcheck_empty (w : World) : Calls Tryz.prog 23 #[.string (txt [])] w fun e w' => e = .returned (.tuple #[.int .i64 0, .int .i64 0]) ∧ Below w.heap.size w w' := by
  have hp := rplace_any (txt []) w (by decide)
  rw [show plc (txt []) = -1 from rfl] at hp
  have Hp := hide hp
  have h4' : ¬ (400 : Int) < ((txt []).size : Int) := by decide
  clear hp
  go_enter Tryz.func23, Tryz.ntmps23
  go_wp2_with fail
  refine (unhide Hp).mono ?_
  rintro e w0 ⟨rfl, rfl⟩
  go_wp2_with fail
  refine (ritems_any [] (by simp) (by decide) (by simp) _).mono ?_
  rintro e w1 ⟨g, cap, rfl, hcap, hg, hst, hb1⟩
  go_wp2_with fail
  refine (rkeys_in g cap [] (by simp) (by simp) (by simp) w1 hst).mono ?_
  rintro e w2 ⟨kv, rfl, hown, hb2⟩
  have hB2 := hb1.trans (hb2.mono hb1.size)
  clear hown hst hb1 hb2 Hp
  go_wp2_with fail
  refine wp_loop_rounds 1 ?_
  rw [rounds_succ]
  go_wp2_with fail
  refine wp_loop_rounds 1 ?_
  rw [rounds_succ]
  go_wp2_with fail
  go_ret2
  exact ⟨rfl, hB2⟩

/-- The document's Check is the program's. -/
theorem rcheck_any (s : ByteArray) (w : World) :
    Calls Tryz.prog 23 #[.string s] w fun e w' => e = .returned (.tuple #[.int .i64 ((chk s).1 : Nat), .int .i64 ((chk s).2 : Nat)]) ∧ Below w.heap.size w w' := by
  by_cases h4 : 400 < s.size
  · have : chk s = (1, 0) := by simp [chk, h4]
    rw [this]
    exact rcheck_long s w h4
  · have e := rdAll_rdP s 24 0 []
    cases hb : (rdP s 24 0).2 with
    | false =>
      have h1 := chk_form h4 (m := (rdP s 24 0).1) (Prod.ext rfl hb)
      rw [h1]
      exact rcheck_form s w h4 _ (by simp [plc, hb])
    | true =>
      obtain ⟨L, l1, l2, l3, l4⟩ := rd_read s 24 0 [] (by rw [e]; exact hb)
      rw [rest_zero] at l3
      have hs : s = txt L := by unfold txt; rw [← l3, bytes_mk]
      have hi : itemsOf s = L.map It.item := by unfold itemsOf; rw [l4]; simp
      have hpl : plc s = -1 := by simp [plc, hb]
      have hck : chk s = if firstIx (twiceAt (L.map It.item)) L.length < L.length then (3, firstIx (twiceAt (L.map It.item)) L.length) else if firstIx (lostAt (L.map It.item)) L.length < L.length then (4, firstIx (lostAt (L.map It.item)) L.length) else (0, 0) := by
        unfold chk
        rw [if_neg h4, e, hb, hi, List.length_map]
        simp
      by_cases hne : 0 < L.length
      · subst hs
        exact rcheck_items L l1 hne l2 h4 hpl _ _ hck w
      · have : L = [] := List.length_eq_zero_iff.1 (by omega)
        subst this
        rw [show chk s = (0, 0) from by rw [hck]; rfl, hs]
        exact rcheck_empty w

end Go.Proofs.YtdlhgbhaeedbdaaGreat
