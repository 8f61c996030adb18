/- 'plan.Make', walked. -/
import Derived.Test.YtdlhgbhaeedbdaaMk2
namespace Go.Proofs.Ytdlhgbhaeedbdaa
open Go.RowKit

/-- What Make answers. -/
def mk (l t : List Item) : List (Bool × Item) := dn (spl t (sortTo l l.length)).2 5 ++ ups (spl t (sortTo l l.length)).1 (sortTo t t.length)

theorem mk_len (l t : List Item) (hl : l.length ≤ 24) (ht : t.length ≤ 24) : (mk l t).length ≤ 48 := by
  unfold mk
  have h1 := dn_le (spl t (sortTo l l.length)).2 5
  have h2 := ups_len (spl t (sortTo l l.length)).1 (sortTo t t.length)
  have h3 := spl_len t (sortTo l l.length) (sortTo l l.length).length (Nat.le_refl _)
  rw [List.take_of_length_le (Nat.le_refl _), sortTo_length l _ (Nat.le_refl _)] at h3
  rw [sortTo_length t _ (Nat.le_refl _)] at h2
  rw [List.length_append]
  omega

set_option maxRecDepth 100000 in
set_option maxHeartbeats 2000000 in
theorem make_at (v1 v2 : Value) (l t : List Item) (w : World) (hl : l.length ≤ 24) (ht : t.length ≤ 24) (h1 : ItemsAt w v1 l) (h2 : ItemsAt w v2 t) :
    Calls Try.prog 64 #[v1, v2] w fun e w' => ∃ v, e = .returned v ∧ w'.ownsRow w.heap.size 101 10 v (mk l t).length (stsCells (mk l t)) ∧ Below w.heap.size w w' := by
  have hnot : ∀ (x : Bool) (w : World), (Op.unary .not (.bool x)).run Try.prog w = .ok (.bool (!x)) w := fun _ _ => rfl
  have hsp := split_at v1 v2 l t w hl ht h1 h2
  have hmk : mk l t = dn (spl t (sortTo l l.length)).2 5 ++ ups (spl t (sortTo l l.length)).1 (sortTo t t.length) := rfl
  have h3 := spl_len t (sortTo l l.length) (sortTo l l.length).length (Nat.le_refl _)
  rw [List.take_of_length_le (Nat.le_refl _), sortTo_length l _ (Nat.le_refl _)] at h3
  rw [hmk]
  obtain ⟨m, hm⟩ : ∃ m, m = sortTo t t.length := ⟨_, rfl⟩
  have hml : m.length = t.length := by rw [hm]; exact sortTo_length t _ (Nat.le_refl _)
  have hlm : m.length ≤ 24 := by omega
  have hord : ∀ wx, ItemsAt wx v2 t → Calls Try.prog 63 #[v2] wx fun e w' => e = .returned (.slice (some ⟨wx.heap.size, 0, none⟩) m.length m.length) ∧ ItemsIn w' wx.heap.size m ∧ Below wx.heap.size wx w' := by
    intro wx hx
    rw [hml, hm]
    exact inOrder_at v2 t wx ht hx
  rw [← hm]
  generalize spl t (sortTo l l.length) = P at *
  obtain ⟨st, gn⟩ := P
  simp only at h3 hsp ⊢
  have hgn : gn.length ≤ 24 := by omega
  have hst : st.length ≤ 24 := by omega
  have Hsp := hide hsp
  have Hord := hide hord
  obtain ⟨a1, c1, rfl⟩ := slice_of_items h1
  obtain ⟨a2, c2, rfl⟩ := slice_of_items h2
  clear hsp hord hm hml hmk h3
  obtain ⟨i0, hi, hz0, hz1, hz2⟩ := info_parts Try.infoStep
  go_enter Try.func64, Try.ntmps64
  go_wp2_with fail
  refine (unhide Hsp).mono ?_
  rintro e w1 ⟨u1, u2, rfl, hs1, hs2, hb1⟩
  obtain ⟨a3, c3, rfl⟩ := slice_of_items hs1
  obtain ⟨a4, c4, rfl⟩ := slice_of_items hs2
  have h21 := h2.below hb1 (Nat.le_refl _)
  have hls := hb1.size
  clear Hsp h1 h2
  go_wp2
  go_loopw [7, 8] (fun tv kd wr => ∃ c : Nat, c ≤ 5 ∧ kd = .int .i64 (4 - (c : Int)) ∧ wr.ownsRow w1.heap.size 101 10 tv (dn gn c).length (stsCells (dn gn c)) ∧ Below w1.heap.size w1 wr) (fun _ kd _ => (intOf kd + 1).toNat)
  case atStart => exact ⟨0, by omega, rfl, World.ownsRow_nil _ _ _ _, Below.refl _ _⟩
  case round =>
    obtain ⟨c, hc, rfl, hown, hbe⟩ := hrel
    obtain ⟨b1, d1, rfl⟩ := slice_of_owns hown
    have hsz := hbe.size
    have hdl := dn_le gn c
    by_cases hlt : c < 5
    · have hge : (0 : Int) ≤ 4 - (c : Int) := by omega
      have hdec : decide ((c : Int) ≤ 4) = true := by simp; omega
      go_wp2
      go_loopw [7, 9] (fun tv i wr => ∃ k : Nat, k ≤ gn.length ∧ i = .int .i64 k ∧ wr.ownsRow w1.heap.size 101 10 tv (dn gn c ++ outs (gn.take k) c).length (stsCells (dn gn c ++ outs (gn.take k) c)) ∧ Below w1.heap.size w1 wr) (fun _ i _ => gn.length - (intOf i).toNat)
      case atStart => exact ⟨0, Nat.zero_le _, rfl, by simpa [outs] using hown, hbe⟩
      case round =>
        obtain ⟨k, hk, rfl, hown2, hbe2⟩ := hrel
        obtain ⟨b2, d2, rfl⟩ := slice_of_owns hown2
        have hsz2 := hbe2.size
        have hol := outs_len (gn.take k) c
        by_cases hlt2 : k < gn.length
        · obtain ⟨x, hx⟩ : ∃ x, x = gn[k] := ⟨_, rfl⟩
          rcases hs2 with ⟨_, h0⟩ | ⟨g, cap, hve, _, hit⟩
          · rw [h0] at hlt2; simp at hlt2
          have hix := (hit.2 k hlt2).below hbe2 hit.1
          rw [← hx] at hix
          obtain ⟨q0, q1, q2, q3, q4, q5, q6, q7, q8⟩ := hix
          have hlt2' : (k : Int) < (gn.length : Int) := by omega
          have hstep := outs_take gn c k hlt2
          rw [← hx] at hstep
          have hae : a4 = some ⟨g, 0, none⟩ := by injection hve
          subst hae
          have hlen : (dn gn c ++ outs (gn.take k) c).length ≤ 48 := by simp at hol ⊢; omega
          clear hx hve hol
          generalize hD : dn gn c ++ outs (gn.take k) c = D at *
          have HD := hide hD
          clear hD
          by_cases he : (x.kind : Int) = 4 - (c : Int)
          · rw [if_pos he] at hstep
            have hstep2 : dn gn c ++ outs (gn.take (k + 1)) c = D ++ [(false, x)] := by rw [hstep, ← List.append_assoc, unhide HD]
            have Hst := hide hstep2
            have he' : ((x.kind : Int) == 4 - (c : Int)) = true := by rw [beq_iff_eq]; exact he
            clear hstep hstep2 he
            go_wp2_with (at_builtin; refine wpList_append_own _ rfl _ _ 116 rfl w1.heap.size 101 i0 (.agg zStep) 10 112 Try.underlying116 hi hz0 hz1 hz2 rfl (by decide) (.slice b2 D.length d2) D.length (stsCells D) ?hs ?c0 ⟨wr.heap.size, 0, none⟩ 1 1 (stCells false x).toList ?hx ?hl ?c1 (step_oneCell _ _) ?c3 ?c4 ?c5 ?_)
            case hs => rfl
            case c0 => exact hown2.alloc _
            case hx => rfl
            case hl => rfl
            case c1 => exact cells_new _ _ _ _ rfl
            case c3 => unfold maxLen; omega
            case c4 => omega
            case c5 => simp; omega
            intro v' w3 hown3 hgrow _
            have hbe3 : Below w1.heap.size w1 w3 := (hbe2.alloc hsz2 _).grown hgrow (by simp; omega) (fun k e => (hown2.lt k e).1)
            clear hgrow q0 q1 q2 q3 q4 q5 q6 q7 q8
            go_wp2
            go_roundw
            case rel => exact ⟨k + 1, by omega, by go_num, by rw [unhide Hst, stsCells_snoc, List.length_append]; exact hown3, hbe3⟩
            case measure => simp [intOf]; omega
          · rw [if_neg he] at hstep
            have hstep2 : dn gn c ++ outs (gn.take (k + 1)) c = D := by rw [hstep, unhide HD]
            have Hst := hide hstep2
            have he' : ((x.kind : Int) == 4 - (c : Int)) = false := by rw [beq_eq_false_iff_ne]; exact he
            clear hstep hstep2 he
            go_wp2
            go_roundw
            case rel => exact ⟨k + 1, by omega, by go_num, by rw [unhide Hst]; exact hown2, hbe2⟩
            case measure => simp [intOf]; omega
        · have hall : gn.take k = gn := List.take_of_length_le (by omega)
          rw [hall] at hown2 ⊢
          have hdn : dn gn c ++ outs gn c = dn gn (c + 1) := rfl
          rw [hdn] at hown2 ⊢
          clear hall hdn
          go_wp2
          go_roundw
          case rel => exact ⟨c + 1, by omega, by go_num, hown2, hbe2⟩
          case measure => simp [intOf]; omega
    · have hc5 : c = 5 := by omega
      subst hc5
      have h21w := h21.below hbe (Nat.le_refl _)
      go_wp2_with fail
      refine (unhide Hord _ h21w).mono ?_
      rintro e w2 ⟨rfl, hit, hb2⟩
      have hl2 := hb2.size
      have hown2 := owns_later hown hb2
      have hbe2 : Below w1.heap.size w1 w2 := hbe.trans (hb2.mono hsz)
      have hne0 : (Value.slice b1 (dn gn 5).length d1).ownBlock ≠ some wr.heap.size := fun e => by have := (hown.lt _ e).2; omega
      obtain ⟨wz, hwz⟩ : ∃ wz, wz = wr.heap.size := ⟨_, rfl⟩
      rw [← hwz] at hit hne0 ⊢
      have hwz2 : w1.heap.size ≤ wz := by omega
      have hwz3 : wz ≤ w2.heap.size := by omega
      clear hwz hown hbe hb2 hl2 hsz h21w h21 hs2
      generalize hD : dn gn 5 = D at *
      have HD := hide hD
      clear hD
      go_wp2
      go_loopw [7, 11] (fun tv i wr => ∃ k : Nat, k ≤ m.length ∧ i = .int .i64 k ∧ wr.ownsRow w1.heap.size 101 10 tv (D ++ ups st (m.take k)).length (stsCells (D ++ ups st (m.take k))) ∧ tv.ownBlock ≠ some wz ∧ ItemsIn wr wz m ∧ Below w1.heap.size w1 wr) (fun _ i _ => m.length - (intOf i).toNat)
      case atStart => exact ⟨0, Nat.zero_le _, rfl, by simpa [ups] using hown2, hne0, hit, hbe2⟩
      case round =>
        obtain ⟨k, hk, rfl, hown3, hne3, hit3, hbe3⟩ := hrel
        obtain ⟨b3, d3, rfl⟩ := slice_of_owns hown3
        have hsz3 := hbe3.size
        have hul := ups_len st (m.take k)
        by_cases hlt3 : k < m.length
        · obtain ⟨x, hx⟩ : ∃ x, x = m[k] := ⟨_, rfl⟩
          have hix := hit3.2 k hlt3
          rw [← hx] at hix
          have hix' := hix
          obtain ⟨q0, q1, q2, q3, q4, q5, q6, q7, q8⟩ := hix'
          have hlt3' : (k : Int) < (m.length : Int) := by omega
          have hstep := ups_take st m k hlt3
          rw [← hx] at hstep
          have hlen : (D ++ ups st (m.take k)).length ≤ 48 := by simp at hul ⊢; omega
          have hho := holds_at _ st x wr hst (hs1.below hbe3 (Nat.le_refl _))
          have hlz := hit3.1
          clear hx hul
          generalize hE : D ++ ups st (m.take k) = E at *
          have HE := hide hE
          clear hE
          cases hhd : holdsB st x.text with
          | true =>
            rw [hhd] at hstep hho
            rw [if_pos rfl] at hstep
            have hstep2 : D ++ ups st (m.take (k + 1)) = E := by rw [hstep, unhide HE]
            have Hst := hide hstep2
            have Hho := hide hho
            clear hstep hstep2 hho hhd
            go_wp2_with fail
            refine (unhide Hho).mono ?_
            rintro e w4 ⟨rfl, hb4⟩
            have hown4 := owns_later hown3 hb4
            have hit4 := hit3.below hb4 hlz
            have hbe4 : Below w1.heap.size w1 w4 := hbe3.trans (hb4.mono hsz3)
            clear q0 q1 q2 q3 q4 q5 q6 q7 q8
            go_wp2
            go_roundw
            case rel => exact ⟨k + 1, by omega, by go_num, by rw [unhide Hst]; exact hown4, hne3, hit4, hbe4⟩
            case measure => simp [intOf]; omega
          | false =>
            rw [hhd] at hstep hho
            rw [if_neg (by simp)] at hstep
            have hstep2 : D ++ ups st (m.take (k + 1)) = E ++ [(true, x)] := by rw [hstep, ← List.append_assoc, unhide HE]
            have Hst := hide hstep2
            have Hho := hide hho
            clear hstep hstep2 hho hhd
            go_wp2_with fail
            refine (unhide Hho).mono ?_
            rintro e w4 ⟨rfl, hb4⟩
            have hown4 := owns_later hown3 hb4
            have hit4 := hit3.below hb4 hlz
            have hbe4 : Below w1.heap.size w1 w4 := hbe3.trans (hb4.mono hsz3)
            have hl4 := hb4.size
            clear q0 q1 q2 q3 q4 q5 q6 q7 q8
            obtain ⟨q0, q1, q2, q3, q4, q5, q6, q7, q8⟩ := hix.below hb4 hlz
            go_wp2_with (at_builtin; refine wpList_append_lies _ rfl _ _ 116 rfl w1.heap.size 101 i0 (.agg zStep) 10 112 Try.underlying116 hi hz0 hz1 hz2 rfl (by decide) (.slice b3 E.length d3) E.length (stsCells E) ?hs ?c0 ⟨w4.heap.size, 0, none⟩ 1 1 (stCells true x).toList ?hx ?hl ?c1 (step_oneCell _ _) (by decide) ?c3 ?c4 ?c5 _ rfl ?_)
            case hs => rfl
            case c0 => exact hown4.alloc _
            case hx => rfl
            case hl => rfl
            case c1 => exact cells_new _ _ _ _ rfl
            case c3 => unfold maxLen; omega
            case c4 => omega
            case c5 => simp; omega
            intro g cap w5 hown5 hgrow hat hglt
            have hit5 : ItemsIn w5 wz m := (hit4.below (below_new _ _) hit4.1).kept hgrow hne3
            have hne5 : (Value.slice (some ⟨g, 0, none⟩) (E.length + 1) cap).ownBlock ≠ some wz := by
              intro e
              have e' : g = wz := by simpa [Value.ownBlock] using e
              rcases hat with h | h
              · exact hne3 (by rw [h, e'])
              · have := hit4.1
                omega
            have hbe5 : Below w1.heap.size w1 w5 := (hbe4.alloc (by omega) _).grown hgrow (by simp; omega) (fun k e => (hown3.lt k e).1)
            clear hgrow q0 q1 q2 q3 q4 q5 q6 q7 q8
            go_wp2
            go_roundw
            case rel => exact ⟨k + 1, by omega, by go_num, by rw [unhide Hst, stsCells_snoc, List.length_append]; exact hown5, hne5, hit5, hbe5⟩
            case measure => simp [intOf]; omega
        · have hall : m.take k = m := List.take_of_length_le (by omega)
          rw [hall] at hown3 ⊢
          clear hall
          go_wp2
          go_ret
          refine ⟨_, rfl, ?_, hb1.trans (hbe3.mono hls)⟩
          rw [unhide HD]
          exact owns_mono hown3 hls

end Go.Proofs.Ytdlhgbhaeedbdaa
