/- The document's answer: 'ahead'. -/
import Derived.Test.YtdlhgbhaeedbdaaGreatRef12
namespace Go.Proofs.YtdlhgbhaeedbdaaGreat
open Go.RowKit

/-- The first two texts that differ tell. -/
def lexB : List ByteArray → List ByteArray → Bool
  | a :: l, b :: m => if a = b then lexB l m else Op.bytesLess a.toList b.toList
  | _, _ => false

def keyW (x : It) : List ByteArray := ((words x).take (kn x) ++ [[]]).map mkS

theorem cut_key {x : It} (hx : x.ok) : cutS (mkS (keyT x)) 32 = keyW x := by
  have h := words_sp hx
  have := cutS_segs 32 ((words x).take (kn x)) (fun y hy => by
    have hy' := List.mem_of_mem_take hy
    simp only [words, List.mem_append, List.mem_singleton] at hy'
    rcases hy' with h1 | rfl
    · exact h.1 _ h1
    · exact h.2) [] (by simp)
  rw [List.append_nil] at this
  exact this

theorem keyT_size {x : It} (hx : x.ok) : (mkS (keyT x)).size ≤ (bodyOf x).size + 1 := by
  rw [bodyOf, mkS_size, mkS_size, ← body_total hx]
  exact segs_le 32 (words x) (kn x)

theorem keyW_len (x : It) : 1 ≤ (keyW x).length ∧ (keyW x).length ≤ 6 := by
  have : kn x ≤ 4 := by unfold kn; split; · omega
                        split; · omega
                        split; · omega
                        split <;> omega
  simp only [keyW, List.length_map, List.length_append, List.length_take, List.length_singleton]
  omega

def aheadB (x y : It) : Bool := if x.kind = y.kind then lexB (keyW x) (keyW y) else decide (x.kind < y.kind)

theorem lexB_drop {l m : List ByteArray} {k : Nat} (hl : k < l.length) (hm : k < m.length) :
    lexB (l.drop k) (m.drop k) = if l[k] = m[k] then lexB (l.drop (k + 1)) (m.drop (k + 1)) else Op.bytesLess l[k].toList m[k].toList := by
  rw [List.drop_eq_getElem_cons hl, List.drop_eq_getElem_cons hm]
  rfl

set_option maxRecDepth 100000 in
set_option maxHeartbeats 1000000 in
theorem rahead_any (x y : It) (hx : x.ok) (hy : y.ok) (hsx : (bodyOf x).size ≤ 10000) (hsy : (bodyOf y).size ≤ 10000) (w : World) :
    Calls Tryz.prog 132 #[.string (bodyOf x), .string (bodyOf y)] w fun e w' => e = .returned (.bool (aheadB x y)) ∧ Below w.heap.size w w' := by
  have Hkx := hide (fun wx => rkind_any x hx (by omega) wx)
  have Hky := hide (fun wx => rkind_any y hy (by omega) wx)
  have Hcx := hide (fun wx => rkey_any x hx (by omega) wx)
  have Hcy := hide (fun wx => rkey_any y hy (by omega) wx)
  have Hux := hide (fun wx => by
    have := rcut_any (mkS (keyT x)) 32 wx (by have := keyT_size hx; omega)
    rw [cut_key hx] at this
    exact this)
  have Huy := hide (fun wx => by
    have := rcut_any (mkS (keyT y)) 32 wx (by have := keyT_size hy; omega)
    rw [cut_key hy] at this
    exact this)
  obtain ⟨lx1, lx6⟩ := keyW_len x
  obtain ⟨ly1, ly6⟩ := keyW_len y
  by_cases hk : x.kind = y.kind
  · have HA := hide (show aheadB x y = lexB (keyW x) (keyW y) by simp [aheadB, hk])
    have g1 : ((x.kind : Int) == (y.kind : Int)) = true := by simp [hk]
    generalize keyW x = l at *
    generalize keyW y = m at *
    generalize mkS (keyT x) = kx at *
    generalize mkS (keyT y) = ky at *
    generalize aheadB x y = res at *
    clear hsx hsy hk
    go_enter Tryz.func132, Tryz.ntmps132
    go_wp2_with fail
    refine (unhide Hkx _).mono ?_
    rintro e w1 ⟨rfl, hb1⟩
    go_wp2_with fail
    refine (unhide Hky _).mono ?_
    rintro e w2 ⟨rfl, hb2⟩
    go_wp2_with fail
    refine (unhide Hcx _).mono ?_
    rintro e w3 ⟨rfl, hb3⟩
    go_wp2_with fail
    refine (unhide Hux _).mono ?_
    rintro e w4 ⟨v, rfl, hown, hb4⟩
    obtain ⟨gx, capx, rfl, hcapx, hgx, hstx⟩ := rstrs_of_owns hown (by intro h; rw [h] at lx1; simp at lx1)
    clear hown
    go_wp2_with fail
    refine (unhide Hcy _).mono ?_
    rintro e w5 ⟨rfl, hb5⟩
    have hstx5 := hstx.later hb5
    go_wp2_with fail
    refine (unhide Huy _).mono ?_
    rintro e w6 ⟨v, rfl, hown, hb6⟩
    obtain ⟨gy, capy, rfl, hcapy, hgy, hsty⟩ := rstrs_of_owns hown (by intro h; rw [h] at ly1; simp at ly1)
    have hstx6 := hstx5.later hb6
    have HB := hide (show Below w.heap.size w w6 from
      hb1.trans ((hb2.mono hb1.size).trans ((hb3.mono (by have := hb1.size; have := hb2.size; omega)).trans ((hb4.mono (by have := hb1.size; have := hb2.size; have := hb3.size; omega)).trans
        ((hb5.mono (by have := hb1.size; have := hb2.size; have := hb3.size; have := hb4.size; omega)).trans (hb6.mono (by have := hb1.size; have := hb2.size; have := hb3.size; have := hb4.size; have := hb5.size; omega)))))))
    have hs6 := (unhide HB).size
    clear hown hstx hstx5 hb1 hb2 hb3 hb4 hb5 hb6
    go_wp2_with fail
    go_loopw [9] (fun i wr => ∃ k : Nat, k ≤ l.length ∧ k ≤ m.length ∧ i = .int .i64 k ∧ lexB l m = lexB (l.drop k) (m.drop k) ∧ Below w6.heap.size w6 wr) (fun i _ => l.length - (intOf i).toNat)
    case atStart => exact ⟨0, Nat.zero_le _, Nat.zero_le _, rfl, rfl, Below.refl _ _⟩
    case round =>
      obtain ⟨k, hkl, hkm, rfl, hlex, hbe⟩ := hrel
      have Hlex := hide hlex
      clear hlex
      by_cases h1 : k < l.length
      · by_cases h2 : k < m.length
        · have cx := (hstx6.later hbe).2 k h1
          have cy := (hsty.later hbe).2 k h2
          rw [Nat.zero_add] at cx cy
          have HD := hide (lexB_drop h1 h2)
          generalize l[k] = a at *
          generalize m[k] = b at *
          have h1' : (k : Int) < (l.length : Int) := by omega
          have h2' : (k : Int) < (m.length : Int) := by omega
          by_cases he : a = b
          · have he' : (a.toList == b.toList) = true := by rw [he]; simp
            have HR := hide (show lexB l m = lexB (l.drop (k + 1)) (m.drop (k + 1)) by rw [unhide Hlex, unhide HD, if_pos he])
            clear he
            go_wp2_with fail
            go_quiet (fail)
            go_wp2
            go_roundw
            case rel => exact ⟨k + 1, by omega, by omega, by go_num, unhide HR, below_drewN hbe _⟩
            case measure => simp [intOf]; omega
          · have he' : (a.toList == b.toList) = false := by
              rw [beq_eq_false_iff_ne]; exact fun h => he (tl_inj h)
            have HR := hide (show res = Op.bytesLess a.toList b.toList by rw [unhide HA, unhide Hlex, unhide HD, if_neg he])
            clear he
            go_wp2_with fail
            go_quiet (fail)
            go_wp2
            go_quiet (fail)
            go_wp2
            go_ret
            exact ⟨ret_bool (unhide HR).symm, (unhide HB).trans ((below_drewN (below_drewN hbe _) _).mono hs6)⟩
        · have h1' : (k : Int) < (l.length : Int) := by omega
          have h2' : ¬ (k : Int) < (m.length : Int) := by omega
          have HR := hide (show res = false by rw [unhide HA, unhide Hlex, List.drop_of_length_le (show m.length ≤ k by omega)]; cases l.drop k <;> rfl)
          go_wp2_with fail
          go_ret
          exact ⟨ret_bool (unhide HR).symm, (unhide HB).trans (hbe.mono hs6)⟩
      · have h1' : ¬ (k : Int) < (l.length : Int) := by omega
        have HR := hide (show res = false by rw [unhide HA, unhide Hlex, List.drop_of_length_le (show l.length ≤ k by omega)]; rfl)
        go_wp2_with fail
        go_ret
        exact ⟨ret_bool (unhide HR).symm, (unhide HB).trans (hbe.mono hs6)⟩
  · have g1 : ((x.kind : Int) == (y.kind : Int)) = false := by rw [beq_eq_false_iff_ne]; omega
    have HA := hide (show aheadB x y = decide (x.kind < y.kind) by simp [aheadB, hk])
    generalize aheadB x y = res at *
    clear hsx hsy hk Hcx Hcy Hux Huy
    go_enter Tryz.func132, Tryz.ntmps132
    go_wp2_with fail
    refine (unhide Hkx _).mono ?_
    rintro e w1 ⟨rfl, hb1⟩
    go_wp2_with fail
    refine (unhide Hky _).mono ?_
    rintro e w2 ⟨rfl, hb2⟩
    go_wp2_with fail
    go_ret
    exact ⟨ret_bool (unhide HA).symm, hb1.trans (hb2.mono hb1.size)⟩

end Go.Proofs.YtdlhgbhaeedbdaaGreat
