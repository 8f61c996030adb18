/- The reader: 'take', 'word'. -/
import Derived.Test.YtdlhgbhaeedbdaaGreatReader
namespace Go.Proofs.YtdlhgbhaeedbdaaGreat
open Go.RowKit

set_option maxHeartbeats 400000 in
theorem take_any (b : Nat) (s : ByteArray) (st : Nat × Bool) (lo hi : Int) (w : World) (h : Rd w b s st) (h0 : 0 ≤ lo) (hs : s.size ≤ 9223372036854775807) :
    Calls Tryz.prog 169 #[.pointer (some ⟨b, 0, none⟩), .int .u8 lo, .int .u8 hi] w fun e w' => e = .returned (.tuple #[]) ∧ Rd w' b s (tk s lo hi st) ∧ w.grownBy w' (some b) := by
  obtain ⟨p, bad⟩ := st
  have hs1 := sees_any b s (p, bad) lo hi w h h0
  have h' := h
  obtain ⟨c0, c1, c2, f1, f2, le, lt⟩ := h'
  simp only at c1 c2 le hs1
  have hnot : ∀ (x : Bool) (w : World), (Op.unary .not (.bool x)).run Tryz.prog w = .ok (.bool (!x)) w := fun _ _ => rfl
  cases bad with
  | true =>
    have hfin : tk s lo hi (p, true) = (p, true) := by simp [tk]
    rw [hfin]
    go_enter Tryz.func169, Tryz.ntmps169
    go_wp2_with fail
    refine hs1.mono ?_
    rintro e w' ⟨rfl, n, rfl⟩
    go_wp2
    refine bodyPost_ret (results_none rfl _ _ _) rfl ?_
    exact ⟨rfl, (h.drewN n).fail, gb_setCell (gb_drewN (World.grownBy.refl _ _) _) _⟩
  | false =>
    cases hb : seesB s p lo hi with
    | true =>
      have hfin : tk s lo hi (p, false) = (p + 1, false) := by simp [tk, hb]
      have hlt := seesB_in h0 hb
      rw [hfin]
      rw [hb] at hs1
      go_enter Tryz.func169, Tryz.ntmps169
      go_wp2_with fail
      refine hs1.mono ?_
      rintro e w' ⟨rfl, n, rfl⟩
      go_wp2
      go_end0
      exact ⟨rfl, (h.drewN n).step rfl hlt, gb_setCell (gb_drewN (World.grownBy.refl _ _) _) _⟩
    | false =>
      have hfin : tk s lo hi (p, false) = (p, true) := by simp [tk, hb]
      rw [hfin]
      rw [hb] at hs1
      go_enter Tryz.func169, Tryz.ntmps169
      go_wp2_with fail
      refine hs1.mono ?_
      rintro e w' ⟨rfl, n, rfl⟩
      go_wp2
      refine bodyPost_ret (results_none rfl _ _ _) rfl ?_
      exact ⟨rfl, (h.drewN n).fail, gb_setCell (gb_drewN (World.grownBy.refl _ _) _) _⟩

end Go.Proofs.YtdlhgbhaeedbdaaGreat
