/- The reader: 'item', at whatever byte. -/
import Derived.Test.YtdlhgbhaeedbdaaGreatReader7
namespace Go.Proofs.YtdlhgbhaeedbdaaGreat
open Go.RowKit

set_option maxHeartbeats 400000 in
theorem item_none (b : Nat) (s : ByteArray) (st : Nat × Bool) (w : World) (h : Rd w b s st) (hp : st.1 < s.size)
    (n1 : ((s[st.1].toNat : Int) == 100) = false) (n2 : ((s[st.1].toNat : Int) == 116) = false) (n3 : ((s[st.1].toNat : Int) == 108) = false) (n4 : ((s[st.1].toNat : Int) == 104) = false) (n5 : ((s[st.1].toNat : Int) == 109) = false) :
    Calls Tryz.prog 150 #[.pointer (some ⟨b, 0, none⟩)] w fun e w' => e = .returned (.agg noItem.cells) ∧ Rd w' b s (st.1, true) ∧ w.grownBy w' (some b) := by
  have hlt := h.lt
  have h1 := h.alloc (.cells zItem 101)
  have c0 := h1.c0
  have c1 := h1.c1
  have c2 := h1.c2
  have f2 := h1.f2
  have hp' : (st.1 : Int) < (s.size : Int) := by omega
  unfold zItem at c0 c1 c2 f2
  have hng : decide ((s.size : Int) ≤ (st.1 : Int)) = false := by simp; omega
  have hne : (w.heap.size == b) = false := by simp; omega
  go_enter Tryz.func150, Tryz.ntmps150
  go_wp2
  go_quiet (fail)
  go_wp2
  go_quiet (fail)
  go_wp2_with fail
  refine bodyPost_ret (v := .agg noItem.cells) (by simp [results, Tryz.results150, go_sem, Item.cells, noItem]) rfl ⟨rfl, ?_, ?_⟩
  · exact ((h.alloc _).drewN _).fail.set9 (by omega) _ _ _ _ _ _ _ _ _
  · exact gb_set9 (gb_setCell (p := ⟨b, 2, none⟩) (gb_drewN (World.grownBy_alloc _ _ _) _) _) (Nat.le_refl _) _ _ _ _ _ _ _ _ _

set_option maxHeartbeats 400000 in
theorem item_end (b : Nat) (s : ByteArray) (st : Nat × Bool) (w : World) (h : Rd w b s st) (hp : st.1 = s.size) :
    Calls Tryz.prog 150 #[.pointer (some ⟨b, 0, none⟩)] w fun e w' => e = .returned (.agg noItem.cells) ∧ Rd w' b s (st.1, true) ∧ w.grownBy w' (some b) := by
  have hlt := h.lt
  have h1 := h.alloc (.cells zItem 101)
  have c0 := h1.c0
  have c1 := h1.c1
  have c2 := h1.c2
  have f2 := h1.f2
  unfold zItem at c0 c1 c2 f2
  have hng : decide ((s.size : Int) ≤ (st.1 : Int)) = true := by simp; omega
  have hne : (w.heap.size == b) = false := by simp; omega
  go_enter Tryz.func150, Tryz.ntmps150
  go_wp2
  go_quiet (fail)
  go_wp2_with fail
  refine bodyPost_ret (v := .agg noItem.cells) (by simp [results, Tryz.results150, go_sem, Item.cells, noItem]) rfl ⟨rfl, ?_, ?_⟩
  · exact ((h.alloc _).drewN _).fail.set9 (by omega) _ _ _ _ _ _ _ _ _
  · exact gb_set9 (gb_setCell (p := ⟨b, 2, none⟩) (gb_drewN (World.grownBy_alloc _ _ _) _) _) (Nat.le_refl _) _ _ _ _ _ _ _ _ _

theorem kind_any (b : Nat) (s : ByteArray) (st : Nat × Bool) (w : World) (h : Rd w b s st) (hs : s.size ≤ 9223372036854775807) :
    Calls Tryz.prog 150 #[.pointer (some ⟨b, 0, none⟩)] w fun e w' => e = .returned (.agg (itemI s st).cells) ∧ Rd w' b s (itemS s st) ∧ w.grownBy w' (some b) := by
  by_cases hp : st.1 < s.size
  case neg =>
    have e0 := byteAt_out hp
    have e1 : itemI s st = noItem := by simp [itemI, e0]
    have e2 : itemS s st = (st.1, true) := by simp [itemS, e0]
    rw [e1, e2]
    exact item_end b s st w h (by have := h.le; omega)
  have hB := byteAt_in hp
  by_cases h1 : (s[st.1].toNat : Int) = 100
  · have e1 : itemI s st = diskI s st := by simp only [itemI, hB, h1, if_true]
    have e2 : itemS s st = diskS5 s st := by simp only [itemS, hB, h1, if_true]
    rw [e1, e2]; exact item_disk b s st w h hs hp h1
  by_cases h2 : (s[st.1].toNat : Int) = 116
  · have e1 : itemI s st = targetI s st := by simp only [itemI, hB, h2]; simp
    have e2 : itemS s st = targetS3 s st := by simp only [itemS, hB, h2]; simp
    rw [e1, e2]; exact item_target b s st w h hs hp h2
  by_cases h3 : (s[st.1].toNat : Int) = 108
  · have e1 : itemI s st = lunI s st := by simp only [itemI, hB, h3]; simp
    have e2 : itemS s st = lunS9 s st := by simp only [itemS, hB, h3]; simp
    rw [e1, e2]; exact item_lun b s st w h hs hp h3
  by_cases h4 : (s[st.1].toNat : Int) = 104
  · have e1 : itemI s st = hostI s st := by simp only [itemI, hB, h4]; simp
    have e2 : itemS s st = hostS5 s st := by simp only [itemS, hB, h4]; simp
    rw [e1, e2]; exact item_host b s st w h hs hp h4
  by_cases h5 : (s[st.1].toNat : Int) = 109
  · have e1 : itemI s st = mapsI s st := by simp only [itemI, hB, h5]; simp
    have e2 : itemS s st = mapsS9 s st := by simp only [itemS, hB, h5]; simp
    rw [e1, e2]; exact item_maps b s st w h hs hp h5
  · have e1 : itemI s st = noItem := by simp only [itemI, hB, if_neg h1, if_neg h2, if_neg h3, if_neg h4, if_neg h5]
    have e2 : itemS s st = (st.1, true) := by simp only [itemS, hB, if_neg h1, if_neg h2, if_neg h3, if_neg h4, if_neg h5]
    rw [e1, e2]
    exact item_none b s st w h hp (beq_eq_false_iff_ne.2 h1) (beq_eq_false_iff_ne.2 h2) (beq_eq_false_iff_ne.2 h3) (beq_eq_false_iff_ne.2 h4) (beq_eq_false_iff_ne.2 h5)

end Go.Proofs.YtdlhgbhaeedbdaaGreat
