/- 'Backwards'. -/
import Derived.Test.YtdlhgbhaeedbdaaKp3
namespace Go.Proofs.Ytdlhgbhaeedbdaa
open Go.RowKit

set_option maxRecDepth 100000 in
set_option maxHeartbeats 1000000 in
theorem backwards_ok (s t : ByteArray) (k : Int) (w : World) (hs : s.size ≤ maxLen) (ht : t.size ≤ maxLen) (hk : (Lit.int .i64 k).wf = true) (h : plErr s t = 0) :
    Calls Try.prog 7 #[.string s, .string t, .int .i64 k] w fun e w' => e = .returned (.bool true) ∧ Below w.heap.size w w' := by
  have hpl := planned_any s t w hs ht
  have hnot : ∀ (x : Bool) (w : World), (Op.unary .not (.bool x)).run Try.prog w = .ok (.bool (!x)) w := fun _ _ => rfl
  unfold bothB at hpl
  rw [show decide (plErr s t = 0) = true from decide_eq_true h] at hpl
  obtain ⟨h1, h2⟩ := plErr_zero h
  have hsm := pl_small s t
  have hwk : ∀ x ss wx a cap, x.size ≤ 400 ∨ x = s → ss.length ≤ 48 → (∀ y ∈ ss, y.size ≤ 401) → TxAt wx a ss → Calls Try.prog 31 #[.string x, .slice a ss.length cap] wx fun e w' => e = .returned (.tuple #[.string (wkTxt x ss), .int .i64 (wkN x ss), .int .i64 (wkErr x ss)]) ∧ Below wx.heap.size wx w' := by
    intro x ss wx a cap hx hl hy hx2
    exact walk_any x a cap ss wx (by rcases hx with hx | hx; · unfold maxLen; omega
                                     · rw [hx]; exact hs) (by unfold maxLen; omega) (fun y hy' => by have := hy y hy'; unfold maxLen; omega) hx2
  have hp1 : ∀ wx, Calls Try.prog 12 #[.string s] wx fun e w' => e = .returned (.tuple #[.string (prt s), .int .i64 0]) ∧ Below wx.heap.size wx w' := by
    intro wx; have := print_any s wx hs; rw [h1] at this; exact this
  have hp2 : ∀ wx, Calls Try.prog 12 #[.string t] wx fun e w' => e = .returned (.tuple #[.string (prt t), .int .i64 0]) ∧ Below wx.heap.size wx w' := by
    intro wx; have := print_any t wx ht; rw [h2] at this; exact this
  have hpart := fun n hn => plan_part h n hn
  have hq1 : ((prt s).toList == (prt s).toList) = true := by simp
  have hq2 : ((prt t).toList == (prt t).toList) = true := by simp
  have hln : (pl s t).length ≤ 48 := hsm.1
  have Hpl := hide hpl
  have Hwk := hide hwk
  have Hp1 := hide hp1
  have Hp2 := hide hp2
  have Hpart := hide hpart
  have Hsz := hide hsm.2
  clear hpl hwk hp1 hp2 hpart hsm h h1 h2
  generalize hP : pl s t = P at *
  clear hP
  generalize prt s = U1 at *
  generalize prt t = U2 at *
  go_enter Try.func7, Try.ntmps7
  go_wp2_with fail
  refine (unhide Hpl).mono ?_
  rintro e w1 ⟨v, rfl, hown, hb1⟩
  have hl1 := hb1.size
  obtain ⟨a, cap, rfl, hcap, hx⟩ := tx_of_owns hown
  clear hown Hpl
  go_wp2_with fail
  refine (pick_any k (P.length + 1) _ hk (by omega) (by omega)).mono ?_
  rintro e w2 ⟨⟨n, hn, rfl⟩, rfl⟩
  obtain ⟨X, S, hS, hXs, e1, e2, e3, e4, ⟨e5, e6, e7⟩, e8, e9, e10⟩ := unhide Hpart n (by omega)
  have hn' : n ≤ P.length := by omega
  have hni : (n : Int) ≤ (P.length : Int) := by omega
  have hnc : (n : Int) ≤ (cap : Int) := by omega
  have hpc : (P.length : Int) ≤ (cap : Int) := by omega
  have hSl : S.length = P.length := by rw [hS]; simp [stTxts]
  obtain ⟨B, hB⟩ : ∃ B, B = stTxts (flips (S.take n).reverse) := ⟨_, rfl⟩
  have hBl : B.length = n := by rw [hB]; simp [stTxts, flips]; omega
  have hSz : ∀ p ∈ S, (stTxt p.1 p.2.text).size ≤ 401 := fun p hp => unhide Hsz _ (by rw [hS]; exact List.mem_map.2 ⟨p, hp, rfl⟩)
  have hBs : ∀ y ∈ B, y.size ≤ 401 := by
    intro y hy
    rw [hB] at hy
    obtain ⟨p, hp, rfl⟩ := List.mem_map.1 hy
    obtain ⟨q, hq, rfl⟩ := List.mem_map.1 hp
    have := hSz q (List.mem_of_mem_take (List.mem_reverse.1 hq))
    rw [stTxt_size] at this ⊢
    exact this
  rw [← hB] at e5 e6 e7
  have HS := hide hS
  have HSl := hide hSl
  have HBe := hide hB
  have HBl := hide hBl
  clear hS hSl hB hBl
  rcases hx with ⟨rfl, hP0, rfl⟩ | ⟨g, rfl, hgb, hg, hc⟩
  · have hn0 : n = 0 := by rw [hP0] at hn'; simpa using hn'
    subst hn0
    subst hP0
    have hB0 : B = [] := List.length_eq_zero_iff.1 (unhide HBl)
    subst hB0
    simp only [List.take_nil, List.drop_nil, List.length_nil, Nat.sub_zero] at e1 e2 e3 e8 e9 e10
    have W1 := fun wx => unhide Hwk s [] wx none 0 (Or.inr rfl) (by simp) (by simp) (Or.inl rfl)
    have W2 := fun wx => unhide Hwk X [] wx none 0 (Or.inl hXs) (by simp) (by simp) (Or.inl rfl)
    have W3 := W2
    have C1 := fun wx => check_any X wx (by unfold maxLen; omega)
    simp only [e1, e2, e3, List.length_nil] at W1
    simp only [e5, e6, e7, List.length_nil] at W2
    simp only [e8, e9, e10, List.length_nil] at W3
    simp only [e4] at C1
    have hW1 := hide W1
    have hW2 := hide W2
    have hW3 := hide W3
    have hC1 := hide C1
    have he : U1.toList = U2.toList → True := fun _ => trivial
    clear W1 W2 W3 C1 e1 e2 e3 e4 e5 e6 e7 e8 e9 e10 HBe HBl HS HSl hSz hBs he
    go_wp2_with fail
    refine (unhide hW1 _).mono ?_
    rintro e w3 ⟨rfl, hb3⟩
    have hl3 := hb3.size
    go_wp2_with fail
    refine (unhide hC1 _).mono ?_
    rintro e w4 ⟨rfl, hb4⟩
    have hl4 := hb4.size
    have hb24 : Below w2.heap.size w2 w4 := hb3.trans (hb4.mono hl3)
    go_wp2
    refine wp_loop_rounds 1 ?_
    rw [rounds_succ]
    go_wp2_with fail
    refine (unhide hW2 _).mono ?_
    rintro e w5 ⟨rfl, hb5⟩
    have hl5 := hb5.size
    have hb25 : Below w2.heap.size w2 w5 := hb24.trans (hb5.mono (by omega))
    go_wp2_with fail
    refine (unhide hW3 _).mono ?_
    rintro e w6 ⟨rfl, hb6⟩
    have hl6 := hb6.size
    have hb26 : Below w2.heap.size w2 w6 := hb25.trans (hb6.mono (by omega))
    go_wp2_with fail
    refine (unhide Hp1 _).mono ?_
    rintro e w7 ⟨rfl, hb7⟩
    have hl7 := hb7.size
    have hb27 : Below w2.heap.size w2 w7 := hb26.trans (hb7.mono (by omega))
    go_wp2_with fail
    refine (unhide Hp2 _).mono ?_
    rintro e w8 ⟨rfl, hb8⟩
    have hb28 : Below w2.heap.size w2 w8 := hb27.trans (hb8.mono (by omega))
    go_wp2
    go_ret
    exact ⟨rfl, hb1.trans (hb28.mono hl1)⟩
  · have W1 := unhide Hwk s (P.take n) w2 (some ⟨g, 0, none⟩) cap (Or.inr rfl) (by simp; omega) (fun y hy => unhide Hsz y (List.mem_of_mem_take hy)) (Or.inr ⟨g, 0, rfl, hg, fun i hi => by rw [Nat.zero_add, List.getElem_take]; exact hc i (by simp at hi; omega)⟩)
    rw [e1, e2, e3, show (P.take n).length = n from by simp; omega] at W1
    have hW1 := hide W1
    clear W1
    go_wp2_with fail
    refine (unhide hW1).mono ?_
    rintro e w3 ⟨rfl, hb3⟩
    have hl3 := hb3.size
    have C1 := check_any X w3 (by unfold maxLen; omega)
    rw [e4] at C1
    have hC1 := hide C1
    clear C1
    go_wp2_with fail
    refine (unhide hC1).mono ?_
    rintro e w4 ⟨rfl, hb4⟩
    have hl4 := hb4.size
    have hb14 : Below w2.heap.size w2 w4 := hb3.trans (hb4.mono hl3)
    have Hall := hide (⟨e5, e6, e7, e8, e9, e10⟩ : _ ∧ _ ∧ _ ∧ _ ∧ _ ∧ _)
    have Hc := hide hc
    obtain ⟨i0, hi, hz0, hz1, hz2⟩ := info_parts Try.infoTx
    clear e1 e2 e3 e4 e5 e6 e7 e8 e9 e10 hc hW1 hC1
    go_wp2
    go_loopw [16, 17] (fun bv i wr => ∃ c : Nat, c ≤ n ∧ i = .int .i64 ((n : Int) - 1 - (c : Int)) ∧ wr.ownsRow w2.heap.size 9 1 bv c ((B.take c).map Value.string) ∧ Below w2.heap.size w2 wr) (fun _ i _ => (intOf i + 1).toNat)
    case atStart => exact ⟨0, Nat.zero_le _, by go_num, World.ownsRow_nil _ _ _ _, hb14⟩
    case round =>
      obtain ⟨c, hcn, rfl, hown, hbe⟩ := hrel
      obtain ⟨ba, bc, rfl⟩ := slice_of_owns hown
      have hsz := hbe.size
      by_cases hlt : c < n
      · have hge : (0 : Int) ≤ (n : Int) - 1 - (c : Int) := by omega
        obtain ⟨j, hj⟩ : ∃ j, j = n - 1 - c := ⟨_, rfl⟩
        have hji : (n : Int) - 1 - (c : Int) = (j : Int) := by omega
        have hjP : j < P.length := by omega
        have hjS : j < S.length := by rw [unhide HSl]; exact hjP
        have hcell := (hbe.cell (p := ⟨g, j, none⟩) hg).trans (unhide Hc j hjP)
        have hPj : P[j] = stTxt S[j].1 S[j].2.text := by
          have := unhide HS
          simp only [this, stTxts, List.getElem_map]
        rw [hPj] at hcell
        have hstep := back_get S n c (by rw [unhide HSl]; exact hn') hlt j hjS hj
        rw [← unhide HBe] at hstep
        have htz : S[j].2.text.size ≤ 100000 := by
          have := hSz S[j] (List.getElem_mem hjS)
          rw [stTxt_size] at this; omega
        generalize S[j] = p at *
        obtain ⟨pb, px⟩ := p
        simp only at hcell hstep htz
        have Hst := hide hstep
        have hjl : (j : Int) < (P.length : Int) := by omega
        rw [hji]
        generalize hT : (B.take c).map Value.string = T at *
        have HT := hide hT
        have Hji := hide hji
        have HPj := hide hPj
        have Hj := hide hj
        clear hT hstep hPj hji hge hj
        go_wp2_with (first
          | (go_at_call 32; refine (opposite_any pb px.text _ htz).mono ?_; rintro e w5 ⟨rfl, he5⟩; replace he5 := he5.symm; subst he5)
          | (at_builtin; refine wpList_append_own _ rfl _ _ 47 rfl w2.heap.size 9 i0 (.string ⟨#[]⟩) 1 16 Try.underlying47 hi hz0 hz1 hz2 rfl (by decide) (.slice ba c bc) c T ?hs ?c0 ⟨wr.heap.size, 0, none⟩ 1 1 [.string (stTxt (!pb) px.text)] ?hx rfl ?c1 (one_tx _) ?c3 ?c4 ?c5 ?_))
        case hs => rfl
        case c0 => exact hown.alloc _
        case hx => rfl
        case c1 => exact cell_one_new _ _ _
        case c3 => unfold maxLen; omega
        case c4 => omega
        case c5 => simp; omega
        intro v' w6 hown' hgrow _
        have hbe2 : Below w2.heap.size w2 w6 := (hbe.alloc hsz _).grown hgrow (by simp; omega) (fun k e => (hown.lt k e).1)
        clear hgrow hcell
        go_wp2
        go_roundw
        case rel =>
          refine ⟨c + 1, by omega, ?_, ?_, hbe2⟩
          · have := unhide Hji
            have := unhide Hj
            go_num
          · rw [unhide Hst, List.map_append, unhide HT]; exact hown'
        case measure => simp [intOf]
      · have hcn' : c = n := by omega
        subst hcn'
        rw [List.take_of_length_le (Nat.le_of_eq (unhide HBl))] at hown
        obtain ⟨ba', bc', hbv, _, hbx⟩ := tx_of_owns (ss := B) (by rw [unhide HBl]; exact hown)
        have hbt := TxAt.of_new hbx
        have hbv' : Value.slice ba c bc = .slice ba' c bc' := by rw [hbv, unhide HBl]
        have hba : ba = ba' := by injection hbv'
        obtain ⟨f5, f6, f7, f8, f9, f10⟩ := unhide Hall
        have W2 := unhide Hwk X B wr ba bc (Or.inl hXs) (by rw [unhide HBl]; omega) hBs (by rw [hba]; exact hbt)
        rw [f5, f6, f7, unhide HBl] at W2
        have hW2 := hide W2
        have hc' := unhide Hc
        have W3 : ∀ wx o cp, Below w2.heap.size w2 wx → (o = c ∨ P.length ≤ c) → Calls Try.prog 31 #[.string X, .slice (some ⟨g, o, none⟩) (P.length - c) cp] wx fun e w' => e = .returned (.tuple #[.string U2, .int .i64 ((P.length : Int) - (c : Int)), .int .i64 0]) ∧ Below wx.heap.size wx w' := by
          intro wx o cp hbx ho
          have := unhide Hwk X (P.drop c) wx (some ⟨g, o, none⟩) cp (Or.inl hXs) (by simp; omega) (fun y hy => unhide Hsz y (List.mem_of_mem_drop hy)) (Or.inr ⟨g, o, rfl, Nat.lt_of_lt_of_le hg hbx.size, fun i hi => by
            rw [List.getElem_drop]
            simp at hi
            rcases ho with rfl | ho
            · exact (hbx.cell (p := ⟨g, o + i, none⟩) hg).trans (hc' (o + i) (by omega))
            · omega⟩)
          rw [f8, f9, f10, List.length_drop, show ((P.length - c : Nat) : Int) = (P.length : Int) - (c : Int) from by omega] at this
          exact this
        have hW3 := hide W3
        have hge : ¬ (0 : Int) ≤ (c : Int) - 1 - (c : Int) := by omega
        clear W2 W3 hc' f5 f6 f7 f8 f9 f10 hbv hbv' hbx hba hown
        go_wp2_with fail
        refine (unhide hW2).mono ?_
        rintro e w5 ⟨rfl, hb5⟩
        have hl5 := hb5.size
        have hb25 : Below w2.heap.size w2 w5 := hbe.trans (hb5.mono hsz)
        go_wp2_with fail
        all_goals
          refine (unhide hW3 _ _ _ hb25 (by first | exact Or.inl rfl | (right; omega))).mono ?_
          rintro e w6 ⟨rfl, hb6⟩
          have hl6 := hb6.size
          have hb26 : Below w2.heap.size w2 w6 := hb25.trans (hb6.mono (by omega))
          go_wp2_with fail
          refine (unhide Hp1 _).mono ?_
          rintro e w7 ⟨rfl, hb7⟩
          have hl7 := hb7.size
          have hb27 : Below w2.heap.size w2 w7 := hb26.trans (hb7.mono (by omega))
          go_wp2_with fail
          refine (unhide Hp2 _).mono ?_
          rintro e w8 ⟨rfl, hb8⟩
          have hb28 : Below w2.heap.size w2 w8 := hb27.trans (hb8.mono (by omega))
          go_wp2
          go_ret
          exact ⟨rfl, hb1.trans (hb28.mono hl1)⟩

set_option maxRecDepth 100000 in
set_option maxHeartbeats 400000 in
theorem backwards_any (s t : ByteArray) (k : Int) (w : World) (hs : s.size ≤ maxLen) (ht : t.size ≤ maxLen) (hk : (Lit.int .i64 k).wf = true) :
    Calls Try.prog 7 #[.string s, .string t, .int .i64 k] w fun e w' => e = .returned (.bool true) ∧ Below w.heap.size w w' := by
  by_cases h : plErr s t = 0
  · exact backwards_ok s t k w hs ht hk h
  · have hpl := planned_any s t w hs ht
    have hnot : ∀ (x : Bool) (w : World), (Op.unary .not (.bool x)).run Try.prog w = .ok (.bool (!x)) w := fun _ _ => rfl
    unfold bothB at hpl
    rw [show decide (plErr s t = 0) = false from decide_eq_false h] at hpl
    have Hpl := hide hpl
    clear hpl h
    go_enter Try.func7, Try.ntmps7
    go_wp2_with fail
    refine (unhide Hpl).mono ?_
    rintro e w1 ⟨v, rfl, hown, hb1⟩
    clear hown
    go_wp2
    go_ret
    exact ⟨rfl, hb1⟩

end Go.Proofs.Ytdlhgbhaeedbdaa
