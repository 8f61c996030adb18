/- Reader7, Reader8, Reader9, ReadAll. -/
import Derived.Test.YtdlhgbhaeedbdabGreatM1

/- The reader: 'item'. (Laid by mkitem.py.) -/
namespace Go.Proofs.YtdlhgbhaeedbdabGreat
open Go.RowKit

def noItem : Item := ⟨0, ⟨#[]⟩, ⟨#[]⟩, 0, 0, ⟨#[]⟩, false, 0, ⟨#[]⟩⟩

/-- An item of any kind is read: the first byte tells which. -/
def itemI (s : ByteArray) (st : Nat × Bool) : Item :=
  if byteAt s st.1 = 100 then diskI s st else if byteAt s st.1 = 116 then targetI s st else if byteAt s st.1 = 108 then lunI s st else if byteAt s st.1 = 104 then hostI s st else if byteAt s st.1 = 109 then mapsI s st else noItem
def itemS (s : ByteArray) (st : Nat × Bool) : Nat × Bool :=
  if byteAt s st.1 = 100 then diskS5 s st else if byteAt s st.1 = 116 then targetS3 s st else if byteAt s st.1 = 108 then lunS9 s st else if byteAt s st.1 = 104 then hostS5 s st else if byteAt s st.1 = 109 then mapsS9 s st else (st.1, true)

set_option maxHeartbeats 400000 in
theorem item_disk (b : Nat) (s : ByteArray) (st : Nat × Bool) (w : World) (h : Rd w b s st) (hs : s.size ≤ 9223372036854775807) (hp : st.1 < s.size) (hb : (s[st.1].toNat : Int) = 100) :
    Calls Tryz.prog 166 #[.pointer (some ⟨b, 0, none⟩)] w fun e w' => e = .returned (.agg (diskI s st).cells) ∧ Rd w' b s (diskS5 s st) ∧ w.grownBy w' (some b) := by
  have hlt := h.lt
  have c0 := (h.alloc (.cells zItem 83)).c0
  have c1 := (h.alloc (.cells zItem 83)).c1
  have hp' : (st.1 : Int) < (s.size : Int) := by omega
  unfold zItem at c0 c1
  have hng : decide ((s.size : Int) ≤ (st.1 : Int)) = false := by simp; omega
  have hd : ∀ i : Item, i.cells = #[.int .i64 i.kind, .string i.name, .string i.host, .int .i64 i.number, .int .i64 i.size, .string i.disk, .bool i.only, .int .i64 i.lun, .string i.text] := fun _ => rfl
  go_enter Tryz.func166, Tryz.ntmps166
  go_wp2
  go_quiet (fail)
  go_wp2
  go_quiet (fail)
  go_wp2_with fail
  clear c0 c1
  refine (disk_any b s st _ ((h.alloc (.cells zItem 83)).drewN _) hs).mono ?_
  rintro e w1 ⟨rfl, hrd1, hg1⟩
  have hgg : (w.alloc (.cells zItem 83)).grownBy w1 (some b) := gb_trans (gb_drewN (World.grownBy.refl _ _) _) hg1
  obtain ⟨c0, c1, c2, c3, c4, c5, c6, c7, c8, f0, f1, f2, f3, f4, f5, f6, f7, f8⟩ := Cells9.of_grown hlt hgg
  go_wp2_with fail
  refine bodyPost_ret (v := .agg (diskI s st).cells) (by simp [results, Tryz.results166, go_sem, c0, c1, c2, c3, c4, c5, c6, c7, c8, Item.cells]) rfl ⟨rfl, ?_, ?_⟩
  · exact hrd1.set9 (by omega) _ _ _ _ _ _ _ _ _
  · exact gb_set9 (gb_trans (World.grownBy_alloc _ _ _) hgg) (Nat.le_refl _) _ _ _ _ _ _ _ _ _

set_option maxHeartbeats 400000 in
theorem item_target (b : Nat) (s : ByteArray) (st : Nat × Bool) (w : World) (h : Rd w b s st) (hs : s.size ≤ 9223372036854775807) (hp : st.1 < s.size) (hb : (s[st.1].toNat : Int) = 116) :
    Calls Tryz.prog 166 #[.pointer (some ⟨b, 0, none⟩)] w fun e w' => e = .returned (.agg (targetI s st).cells) ∧ Rd w' b s (targetS3 s st) ∧ w.grownBy w' (some b) := by
  have hlt := h.lt
  have c0 := (h.alloc (.cells zItem 83)).c0
  have c1 := (h.alloc (.cells zItem 83)).c1
  have hp' : (st.1 : Int) < (s.size : Int) := by omega
  unfold zItem at c0 c1
  have hng : decide ((s.size : Int) ≤ (st.1 : Int)) = false := by simp; omega
  have hd : ∀ i : Item, i.cells = #[.int .i64 i.kind, .string i.name, .string i.host, .int .i64 i.number, .int .i64 i.size, .string i.disk, .bool i.only, .int .i64 i.lun, .string i.text] := fun _ => rfl
  go_enter Tryz.func166, Tryz.ntmps166
  go_wp2
  go_quiet (fail)
  go_wp2
  go_quiet (fail)
  go_wp2_with fail
  clear c0 c1
  refine (target_any b s st _ ((h.alloc (.cells zItem 83)).drewN _) hs).mono ?_
  rintro e w1 ⟨rfl, hrd1, hg1⟩
  have hgg : (w.alloc (.cells zItem 83)).grownBy w1 (some b) := gb_trans (gb_drewN (World.grownBy.refl _ _) _) hg1
  obtain ⟨c0, c1, c2, c3, c4, c5, c6, c7, c8, f0, f1, f2, f3, f4, f5, f6, f7, f8⟩ := Cells9.of_grown hlt hgg
  go_wp2_with fail
  refine bodyPost_ret (v := .agg (targetI s st).cells) (by simp [results, Tryz.results166, go_sem, c0, c1, c2, c3, c4, c5, c6, c7, c8, Item.cells]) rfl ⟨rfl, ?_, ?_⟩
  · exact hrd1.set9 (by omega) _ _ _ _ _ _ _ _ _
  · exact gb_set9 (gb_trans (World.grownBy_alloc _ _ _) hgg) (Nat.le_refl _) _ _ _ _ _ _ _ _ _

set_option maxHeartbeats 400000 in
theorem item_lun (b : Nat) (s : ByteArray) (st : Nat × Bool) (w : World) (h : Rd w b s st) (hs : s.size ≤ 9223372036854775807) (hp : st.1 < s.size) (hb : (s[st.1].toNat : Int) = 108) :
    Calls Tryz.prog 166 #[.pointer (some ⟨b, 0, none⟩)] w fun e w' => e = .returned (.agg (lunI s st).cells) ∧ Rd w' b s (lunS9 s st) ∧ w.grownBy w' (some b) := by
  have hlt := h.lt
  have c0 := (h.alloc (.cells zItem 83)).c0
  have c1 := (h.alloc (.cells zItem 83)).c1
  have hp' : (st.1 : Int) < (s.size : Int) := by omega
  unfold zItem at c0 c1
  have hng : decide ((s.size : Int) ≤ (st.1 : Int)) = false := by simp; omega
  have hd : ∀ i : Item, i.cells = #[.int .i64 i.kind, .string i.name, .string i.host, .int .i64 i.number, .int .i64 i.size, .string i.disk, .bool i.only, .int .i64 i.lun, .string i.text] := fun _ => rfl
  go_enter Tryz.func166, Tryz.ntmps166
  go_wp2
  go_quiet (fail)
  go_wp2
  go_quiet (fail)
  go_wp2_with fail
  clear c0 c1
  refine (lun_any b s st _ ((h.alloc (.cells zItem 83)).drewN _) hs).mono ?_
  rintro e w1 ⟨rfl, hrd1, hg1⟩
  have hgg : (w.alloc (.cells zItem 83)).grownBy w1 (some b) := gb_trans (gb_drewN (World.grownBy.refl _ _) _) hg1
  obtain ⟨c0, c1, c2, c3, c4, c5, c6, c7, c8, f0, f1, f2, f3, f4, f5, f6, f7, f8⟩ := Cells9.of_grown hlt hgg
  go_wp2_with fail
  refine bodyPost_ret (v := .agg (lunI s st).cells) (by simp [results, Tryz.results166, go_sem, c0, c1, c2, c3, c4, c5, c6, c7, c8, Item.cells]) rfl ⟨rfl, ?_, ?_⟩
  · exact hrd1.set9 (by omega) _ _ _ _ _ _ _ _ _
  · exact gb_set9 (gb_trans (World.grownBy_alloc _ _ _) hgg) (Nat.le_refl _) _ _ _ _ _ _ _ _ _

set_option maxHeartbeats 400000 in
theorem item_host (b : Nat) (s : ByteArray) (st : Nat × Bool) (w : World) (h : Rd w b s st) (hs : s.size ≤ 9223372036854775807) (hp : st.1 < s.size) (hb : (s[st.1].toNat : Int) = 104) :
    Calls Tryz.prog 166 #[.pointer (some ⟨b, 0, none⟩)] w fun e w' => e = .returned (.agg (hostI s st).cells) ∧ Rd w' b s (hostS5 s st) ∧ w.grownBy w' (some b) := by
  have hlt := h.lt
  have c0 := (h.alloc (.cells zItem 83)).c0
  have c1 := (h.alloc (.cells zItem 83)).c1
  have hp' : (st.1 : Int) < (s.size : Int) := by omega
  unfold zItem at c0 c1
  have hng : decide ((s.size : Int) ≤ (st.1 : Int)) = false := by simp; omega
  have hd : ∀ i : Item, i.cells = #[.int .i64 i.kind, .string i.name, .string i.host, .int .i64 i.number, .int .i64 i.size, .string i.disk, .bool i.only, .int .i64 i.lun, .string i.text] := fun _ => rfl
  go_enter Tryz.func166, Tryz.ntmps166
  go_wp2
  go_quiet (fail)
  go_wp2
  go_quiet (fail)
  go_wp2_with fail
  clear c0 c1
  refine (host_any b s st _ ((h.alloc (.cells zItem 83)).drewN _) hs).mono ?_
  rintro e w1 ⟨rfl, hrd1, hg1⟩
  have hgg : (w.alloc (.cells zItem 83)).grownBy w1 (some b) := gb_trans (gb_drewN (World.grownBy.refl _ _) _) hg1
  obtain ⟨c0, c1, c2, c3, c4, c5, c6, c7, c8, f0, f1, f2, f3, f4, f5, f6, f7, f8⟩ := Cells9.of_grown hlt hgg
  go_wp2_with fail
  refine bodyPost_ret (v := .agg (hostI s st).cells) (by simp [results, Tryz.results166, go_sem, c0, c1, c2, c3, c4, c5, c6, c7, c8, Item.cells]) rfl ⟨rfl, ?_, ?_⟩
  · exact hrd1.set9 (by omega) _ _ _ _ _ _ _ _ _
  · exact gb_set9 (gb_trans (World.grownBy_alloc _ _ _) hgg) (Nat.le_refl _) _ _ _ _ _ _ _ _ _

set_option maxHeartbeats 400000 in
theorem item_maps (b : Nat) (s : ByteArray) (st : Nat × Bool) (w : World) (h : Rd w b s st) (hs : s.size ≤ 9223372036854775807) (hp : st.1 < s.size) (hb : (s[st.1].toNat : Int) = 109) :
    Calls Tryz.prog 166 #[.pointer (some ⟨b, 0, none⟩)] w fun e w' => e = .returned (.agg (mapsI s st).cells) ∧ Rd w' b s (mapsS9 s st) ∧ w.grownBy w' (some b) := by
  have hlt := h.lt
  have c0 := (h.alloc (.cells zItem 83)).c0
  have c1 := (h.alloc (.cells zItem 83)).c1
  have hp' : (st.1 : Int) < (s.size : Int) := by omega
  unfold zItem at c0 c1
  have hng : decide ((s.size : Int) ≤ (st.1 : Int)) = false := by simp; omega
  have hd : ∀ i : Item, i.cells = #[.int .i64 i.kind, .string i.name, .string i.host, .int .i64 i.number, .int .i64 i.size, .string i.disk, .bool i.only, .int .i64 i.lun, .string i.text] := fun _ => rfl
  go_enter Tryz.func166, Tryz.ntmps166
  go_wp2
  go_quiet (fail)
  go_wp2
  go_quiet (fail)
  go_wp2_with fail
  clear c0 c1
  refine (maps_any b s st _ ((h.alloc (.cells zItem 83)).drewN _) hs).mono ?_
  rintro e w1 ⟨rfl, hrd1, hg1⟩
  have hgg : (w.alloc (.cells zItem 83)).grownBy w1 (some b) := gb_trans (gb_drewN (World.grownBy.refl _ _) _) hg1
  obtain ⟨c0, c1, c2, c3, c4, c5, c6, c7, c8, f0, f1, f2, f3, f4, f5, f6, f7, f8⟩ := Cells9.of_grown hlt hgg
  go_wp2_with fail
  refine bodyPost_ret (v := .agg (mapsI s st).cells) (by simp [results, Tryz.results166, go_sem, c0, c1, c2, c3, c4, c5, c6, c7, c8, Item.cells]) rfl ⟨rfl, ?_, ?_⟩
  · exact hrd1.set9 (by omega) _ _ _ _ _ _ _ _ _
  · exact gb_set9 (gb_trans (World.grownBy_alloc _ _ _) hgg) (Nat.le_refl _) _ _ _ _ _ _ _ _ _

end Go.Proofs.YtdlhgbhaeedbdabGreat

/- The reader: 'item', at whatever byte. -/
namespace Go.Proofs.YtdlhgbhaeedbdabGreat
open Go.RowKit

set_option maxHeartbeats 400000 in
theorem item_none (b : Nat) (s : ByteArray) (st : Nat × Bool) (w : World) (h : Rd w b s st) (hp : st.1 < s.size)
    (n1 : ((s[st.1].toNat : Int) == 100) = false) (n2 : ((s[st.1].toNat : Int) == 116) = false) (n3 : ((s[st.1].toNat : Int) == 108) = false) (n4 : ((s[st.1].toNat : Int) == 104) = false) (n5 : ((s[st.1].toNat : Int) == 109) = false) :
    Calls Tryz.prog 166 #[.pointer (some ⟨b, 0, none⟩)] w fun e w' => e = .returned (.agg noItem.cells) ∧ Rd w' b s (st.1, true) ∧ w.grownBy w' (some b) := by
  have hlt := h.lt
  have h1 := h.alloc (.cells zItem 83)
  have c0 := h1.c0
  have c1 := h1.c1
  have c2 := h1.c2
  have f2 := h1.f2
  have hp' : (st.1 : Int) < (s.size : Int) := by omega
  unfold zItem at c0 c1 c2 f2
  have hng : decide ((s.size : Int) ≤ (st.1 : Int)) = false := by simp; omega
  have hne : (w.heap.size == b) = false := by simp; omega
  go_enter Tryz.func166, Tryz.ntmps166
  go_wp2
  go_quiet (fail)
  go_wp2
  go_quiet (fail)
  go_wp2_with fail
  refine bodyPost_ret (v := .agg noItem.cells) (by simp [results, Tryz.results166, go_sem, Item.cells, noItem]) rfl ⟨rfl, ?_, ?_⟩
  · exact ((h.alloc _).drewN _).fail.set9 (by omega) _ _ _ _ _ _ _ _ _
  · exact gb_set9 (gb_setCell (p := ⟨b, 2, none⟩) (gb_drewN (World.grownBy_alloc _ _ _) _) _) (Nat.le_refl _) _ _ _ _ _ _ _ _ _

set_option maxHeartbeats 400000 in
theorem item_end (b : Nat) (s : ByteArray) (st : Nat × Bool) (w : World) (h : Rd w b s st) (hp : st.1 = s.size) :
    Calls Tryz.prog 166 #[.pointer (some ⟨b, 0, none⟩)] w fun e w' => e = .returned (.agg noItem.cells) ∧ Rd w' b s (st.1, true) ∧ w.grownBy w' (some b) := by
  have hlt := h.lt
  have h1 := h.alloc (.cells zItem 83)
  have c0 := h1.c0
  have c1 := h1.c1
  have c2 := h1.c2
  have f2 := h1.f2
  unfold zItem at c0 c1 c2 f2
  have hng : decide ((s.size : Int) ≤ (st.1 : Int)) = true := by simp; omega
  have hne : (w.heap.size == b) = false := by simp; omega
  go_enter Tryz.func166, Tryz.ntmps166
  go_wp2
  go_quiet (fail)
  go_wp2_with fail
  refine bodyPost_ret (v := .agg noItem.cells) (by simp [results, Tryz.results166, go_sem, Item.cells, noItem]) rfl ⟨rfl, ?_, ?_⟩
  · exact ((h.alloc _).drewN _).fail.set9 (by omega) _ _ _ _ _ _ _ _ _
  · exact gb_set9 (gb_setCell (p := ⟨b, 2, none⟩) (gb_drewN (World.grownBy_alloc _ _ _) _) _) (Nat.le_refl _) _ _ _ _ _ _ _ _ _

theorem kind_any (b : Nat) (s : ByteArray) (st : Nat × Bool) (w : World) (h : Rd w b s st) (hs : s.size ≤ 9223372036854775807) :
    Calls Tryz.prog 166 #[.pointer (some ⟨b, 0, none⟩)] w fun e w' => e = .returned (.agg (itemI s st).cells) ∧ Rd w' b s (itemS s st) ∧ w.grownBy w' (some b) := by
  by_cases hp : st.1 < s.size
  case neg =>
    have e0 := byteAt_out hp
    have e1 : itemI s st = noItem := by simp [itemI, e0]
    have e2 : itemS s st = (st.1, true) := by simp [itemS, e0]
    rw [e1, e2]
    exact item_end b s st w h (by have := h.le; omega)
  have hB := byteAt_in hp
  by_cases h1 : (s[st.1].toNat : Int) = 100
  · have e1 : itemI s st = diskI s st := by simp only [itemI, hB, h1, if_true]
    have e2 : itemS s st = diskS5 s st := by simp only [itemS, hB, h1, if_true]
    rw [e1, e2]; exact item_disk b s st w h hs hp h1
  by_cases h2 : (s[st.1].toNat : Int) = 116
  · have e1 : itemI s st = targetI s st := by simp only [itemI, hB, h2]; simp
    have e2 : itemS s st = targetS3 s st := by simp only [itemS, hB, h2]; simp
    rw [e1, e2]; exact item_target b s st w h hs hp h2
  by_cases h3 : (s[st.1].toNat : Int) = 108
  · have e1 : itemI s st = lunI s st := by simp only [itemI, hB, h3]; simp
    have e2 : itemS s st = lunS9 s st := by simp only [itemS, hB, h3]; simp
    rw [e1, e2]; exact item_lun b s st w h hs hp h3
  by_cases h4 : (s[st.1].toNat : Int) = 104
  · have e1 : itemI s st = hostI s st := by simp only [itemI, hB, h4]; simp
    have e2 : itemS s st = hostS5 s st := by simp only [itemS, hB, h4]; simp
    rw [e1, e2]; exact item_host b s st w h hs hp h4
  by_cases h5 : (s[st.1].toNat : Int) = 109
  · have e1 : itemI s st = mapsI s st := by simp only [itemI, hB, h5]; simp
    have e2 : itemS s st = mapsS9 s st := by simp only [itemS, hB, h5]; simp
    rw [e1, e2]; exact item_maps b s st w h hs hp h5
  · have e1 : itemI s st = noItem := by simp only [itemI, hB, if_neg h1, if_neg h2, if_neg h3, if_neg h4, if_neg h5]
    have e2 : itemS s st = (st.1, true) := by simp only [itemS, hB, if_neg h1, if_neg h2, if_neg h3, if_neg h4, if_neg h5]
    rw [e1, e2]
    exact item_none b s st w h hp (beq_eq_false_iff_ne.2 h1) (beq_eq_false_iff_ne.2 h2) (beq_eq_false_iff_ne.2 h3) (beq_eq_false_iff_ne.2 h4) (beq_eq_false_iff_ne.2 h5)

end Go.Proofs.YtdlhgbhaeedbdabGreat

/- The reader: 'item', with its text. -/
namespace Go.Proofs.YtdlhgbhaeedbdabGreat
open Go.RowKit

/-- The item that is read from a place on, with its text. -/
def itemT (s : ByteArray) (st : Nat × Bool) : Item := { itemI s st with text := s.extract st.1 (itemS s st).1 }

theorem wd_mono (s : ByteArray) (l : List UInt8) (st : Nat × Bool) : st.1 ≤ (wd s l st).1 := by
  induction l generalizing st with
  | nil => exact Nat.le_refl _
  | cons c l ih => exact Nat.le_trans (tk_mono s _ _ st) (ih _)

theorem mdS_mono (s : ByteArray) (st : Nat × Bool) : st.1 ≤ (mdS s st).1 := by
  unfold mdS
  split <;> exact Nat.le_trans (wd_mono _ _ _) (wd_mono _ _ _)

theorem itemS_mono (s : ByteArray) (st : Nat × Bool) : st.1 ≤ (itemS s st).1 := by
  unfold itemS
  have t := tk_mono s
  have d := wd_mono s
  have n := nmS_mono s
  have m := mdS_mono s
  repeat' split
  · exact Nat.le_trans (d _ _) (Nat.le_trans (n _) (Nat.le_trans (d _ _) (Nat.le_trans (t _ _ _) (d _ _))))
  · exact Nat.le_trans (d _ _) (Nat.le_trans (n _) (d _ _))
  · exact Nat.le_trans (d _ _) (Nat.le_trans (n _) (Nat.le_trans (d _ _) (Nat.le_trans (t _ _ _) (Nat.le_trans (d _ _) (Nat.le_trans (n _) (Nat.le_trans (d _ _) (Nat.le_trans (m _) (d _ _))))))))
  · exact Nat.le_trans (d _ _) (Nat.le_trans (n _) (Nat.le_trans (d _ _) (Nat.le_trans (n _) (d _ _))))
  · exact Nat.le_trans (d _ _) (Nat.le_trans (n _) (Nat.le_trans (d _ _) (Nat.le_trans (n _) (Nat.le_trans (d _ _) (Nat.le_trans (t _ _ _) (Nat.le_trans (d _ _) (Nat.le_trans (t _ _ _) (d _ _))))))))
  · exact Nat.le_refl _

set_option maxRecDepth 100000 in
set_option maxHeartbeats 400000 in
theorem item_any (b : Nat) (s : ByteArray) (st : Nat × Bool) (w : World) (h : Rd w b s st) (hs : s.size ≤ 9223372036854775807) :
    Calls Tryz.prog 132 #[.pointer (some ⟨b, 0, none⟩)] w fun e w' => e = .returned (.agg (itemT s st).cells) ∧ Rd w' b s (itemS s st) ∧ w.grownBy w' (some b) := by
  have hlt := h.lt
  have c1 := (h.alloc (.cells zItem 83)).c1
  unfold zItem at c1
  have hmo := itemS_mono s st
  have hd : ∀ i : Item, i.cells = #[.int .i64 i.kind, .string i.name, .string i.host, .int .i64 i.number, .int .i64 i.size, .string i.disk, .bool i.only, .int .i64 i.lun, .string i.text] := fun _ => rfl
  go_enter Tryz.func132, Tryz.ntmps132
  go_wp2_with fail
  clear c1
  refine (kind_any b s st _ (h.alloc (.cells zItem 83)) hs).mono ?_
  rintro e w1 ⟨rfl, hrd1, hg1⟩
  obtain ⟨c0, c1, c2, c3, c4, c5, c6, c7, c8, f0, f1, f2, f3, f4, f5, f6, f7, f8⟩ := Cells9.of_grown hlt hg1
  have q0 := hrd1.c0
  have q1 := hrd1.c1
  have qle := hrd1.le
  have qlt := hrd1.lt
  have hsz := hg1.size
  simp at hsz
  have hb1 := fun o => Below.heap_alloc w1 o w.heap.size (by omega)
  have kc : ∀ o j, (w1.alloc o).cell? ⟨w.heap.size, j, none⟩ = w1.cell? ⟨w.heap.size, j, none⟩ := fun o j => World.cell?_of_block (a := ⟨w.heap.size, j, none⟩) (hb1 o)
  have kf : ∀ o j, (w1.alloc o).frozen? ⟨w.heap.size, j, none⟩ = w1.frozen? ⟨w.heap.size, j, none⟩ := fun o j => World.frozen?_of_block (a := ⟨w.heap.size, j, none⟩) (hb1 o)
  clear hb1
  go_wp2_with fail
  go_region
  go_wp2
  refine bodyPost_ret (v := .agg (itemT s st).cells) (by simp [results, Tryz.results132, go_sem, kc, c0, c1, c2, c3, c4, c5, c6, c7, c8, Item.cells, itemT]) rfl ⟨rfl, ?_, ?_⟩
  · exact ((hrd1.alloc _).set9 (by omega) _ _ _ _ _ _ _ _ _).drewN 1
  · exact gb_drewN (gb_set9 (gb_alloc (gb_trans (World.grownBy_alloc _ _ _) hg1) _) (Nat.le_refl _) _ _ _ _ _ _ _ _ _) 1

end Go.Proofs.YtdlhgbhaeedbdabGreat

/- 'readAll'. -/
namespace Go.Proofs.YtdlhgbhaeedbdabGreat
open Go.RowKit

theorem Tryz.infoItem : (Tryz.prog.info? 83).map (fun i => (i.zero, i.size, i.bytes)) = some (some (.agg zItem), 9, 104) := by kernel_rfl

/-- The item that begins at p, with its text. -/
def itemAt (s : ByteArray) (p : Nat) : Item := itemT s (p, false)

/-- At most n items more are read, from p on, behind those of acc. -/
def rdAll (s : ByteArray) : Nat → Nat → List Item → List Item × Nat × Bool
  | 0, p, acc => if p < s.size then ([], p, false) else (acc, 0, true)
  | n + 1, p, acc => if p < s.size then (if (itemS s (p, false)).2 then ([], (itemS s (p, false)).1, false) else rdAll s n (itemS s (p, false)).1 (acc ++ [itemAt s p])) else (acc, 0, true)

def lenOf : Value → Nat | .slice _ n _ => n | _ => 0

/-- All cells of a list of items. -/
def allCells (l : List Item) : List Value := l.flatMap (fun i => i.cells.toList)

theorem allCells_length (l : List Item) : (allCells l).length = l.length * 9 := by
  induction l with
  | nil => rfl
  | cons a l ih => simp only [allCells, List.flatMap_cons, List.length_append, List.length_cons] at ih ⊢; rw [ih]; simp [Item.cells]; omega

theorem lenOf_owns {w : World} {base : Nat} {e : TypeId} {size : Nat} {v : Value} {n : Nat} {xs : List Value} (h : w.ownsRow base e size v n xs) : lenOf v = n := by
  obtain ⟨_, ⟨rfl, rfl⟩ | ⟨g, cap, cur, rfl, _⟩⟩ := h <;> rfl

theorem slice_of_owns {w : World} {base : Nat} {e : TypeId} {size : Nat} {v : Value} {n : Nat} {xs : List Value} (h : w.ownsRow base e size v n xs) : ∃ a cap, v = .slice a n cap := by
  obtain ⟨_, ⟨rfl, rfl⟩ | ⟨g, cap, cur, rfl, _⟩⟩ := h
  · exact ⟨none, 0, rfl⟩
  · exact ⟨_, _, rfl⟩

theorem cells_new (w : World) (xs : Array Value) (e : TypeId) (b : Nat) (hb : b = w.heap.size) : ∀ (j : Nat) (u : Value), xs.toList[j]? = some u → (w.alloc (.cells xs e)).cell? ((⟨b, 0, none⟩ : Addr).add j) = some u := by
  subst hb
  intro j u h
  rw [show ((⟨w.heap.size, 0, none⟩ : Addr).add j) = ⟨w.heap.size, j, none⟩ from by simp [Addr.add]; intro h; exact h.symm]
  rw [World.cell?_alloc_at _ _ _ _ rfl]
  simpa using h

theorem item_oneCell (i : Item) : ∀ u ∈ i.cells.toList, u.oneCell' = true := by
  intro u hu
  simp [Item.cells] at hu
  rcases hu with rfl | rfl | rfl | rfl | rfl | rfl | rfl | rfl | rfl <;> rfl

theorem rd_start (w : World) (s : ByteArray) : Rd (w.alloc (.cells #[.string s, .int .i64 0, .bool false] 196)) w.heap.size s (0, false) :=
  ⟨by go_simp, by go_simp, by go_simp, by go_simp, by go_simp, Nat.zero_le _, by simp⟩

theorem own_ne {w : World} {base : Nat} {e : TypeId} {size : Nat} {v : Value} {n : Nat} {xs : List Value} (h : w.ownsRow base e size v n xs) {k : Nat} (hk : k < base) : v.ownBlock ≠ some k := by
  intro e
  have := (h.lt _ e).1
  omega

theorem ra_step {w wr w1 w2 : World} {s : ByteArray} {st : Nat × Bool} {l : List Item} {v : Value} (hbe : Below w.heap.size w wr) (hown : wr.ownsRow (w.heap.size + 1) 83 9 v l.length (allCells l))
    (hg1 : wr.grownBy w1 (some w.heap.size)) (hrd1 : Rd w1 w.heap.size s st) (o1 o2 : Obj) (hgrow : ((w1.alloc o1).alloc o2).grownBy w2 v.ownBlock) : Rd w2 w.heap.size s st ∧ Below w.heap.size w w2 := by
  have hr2 := (hrd1.alloc o1).alloc o2
  have hsz := hbe.size
  have hsz1 := hg1.size
  refine ⟨hr2.of_block (hgrow.block _ hr2.lt (fun e => own_ne hown (by omega) e.symm)) hgrow.size, ?_⟩
  have hb1 : Below w.heap.size w w1 := hbe.trans (gb_below hg1 hsz (Nat.le_refl _))
  exact ((hb1.alloc (by omega) o1).alloc (by simp; omega) o2).grown hgrow (by simp; omega) (fun k e => by have := (hown.lt k e).1; omega)

theorem allCells_snoc (l : List Item) (i : Item) : allCells (l ++ [i]) = allCells l ++ i.cells.toList := by simp [allCells]

theorem rdAll_more {s : ByteArray} {l : List Item} {p : Nat} (hl : l.length < 24) (hp : p < s.size) (hb : (itemS s (p, false)).2 = false) :
    rdAll s (24 - (l ++ [itemAt s p]).length) (itemS s (p, false)).1 (l ++ [itemAt s p]) = rdAll s (24 - l.length) p l := by
  rw [show 24 - l.length = (24 - (l ++ [itemAt s p]).length) + 1 from by simp; omega]
  conv => rhs; unfold rdAll
  simp [hp, hb]

theorem rdAll_bad {s : ByteArray} {l : List Item} {p : Nat} (hl : l.length < 24) (hp : p < s.size) (hb : (itemS s (p, false)).2 = true) : rdAll s (24 - l.length) p l = ([], (itemS s (p, false)).1, false) := by
  rw [show 24 - l.length = (24 - l.length - 1) + 1 from by omega]
  unfold rdAll
  simp [hp, hb]

theorem rdAll_full {s : ByteArray} {l : List Item} {p : Nat} (hl : l.length = 24) (hp : p < s.size) : rdAll s (24 - l.length) p l = ([], p, false) := by
  rw [hl]
  simp [rdAll, hp]

theorem rdAll_end {s : ByteArray} {l : List Item} {p : Nat} (hp : ¬ p < s.size) : rdAll s (24 - l.length) p l = (l, 0, true) := by
  cases 24 - l.length <;> simp [rdAll, hp]

set_option maxRecDepth 100000 in
set_option maxHeartbeats 400000 in
theorem readAll_any (s : ByteArray) (w : World) (hs : s.size ≤ 400) :
    Calls Tryz.prog 94 #[.string s] w fun e w' => ∃ v, e = .returned (.tuple #[v, .int .i64 (rdAll s 24 0 []).2.1, .bool (rdAll s 24 0 []).2.2]) ∧
      w'.ownsRow (w.heap.size + 1) 83 9 v (rdAll s 24 0 []).1.length (allCells (rdAll s 24 0 []).1) ∧ Below w.heap.size w w' := by
  have h0 := rd_start w s
  go_enter Tryz.func94, Tryz.ntmps94
  go_wp2
  go_loopw [5] (fun v wr => ∃ (l : List Item) (p : Nat), l.length ≤ 24 ∧ wr.ownsRow (w.heap.size + 1) 83 9 v l.length (allCells l) ∧ Rd wr w.heap.size s (p, false) ∧ rdAll s (24 - l.length) p l = rdAll s 24 0 [] ∧ Below w.heap.size w wr) (fun v _ => 24 - lenOf v)
  case atStart => exact ⟨[], 0, by simp, World.ownsRow_nil _ _ _ _, h0, rfl, (Below.refl _ _).alloc (Nat.le_refl _) _⟩
  case round =>
    obtain ⟨l, p, hl, hown, hrd, hr, hbe⟩ := hrel
    obtain ⟨a, cap, rfl⟩ := slice_of_owns hown
    have HR : Hid (rdAll s (24 - l.length) p l = rdAll s 24 0 []) := hr
    clear hr
    have d1 := hrd.c1
    by_cases hp : p < s.size
    · by_cases h24 : l.length = 24
      · have hfin := HR.out
        rw [rdAll_full h24 hp] at hfin
        have hne : (((l.length : Nat) : Int) == 24) = true := by rw [beq_iff_eq]; omega
        go_wp2
        go_quiet (fail)
        go_wp2
        go_ret3
        refine ⟨.slice none 0 0, ?_, ?_, ?_⟩
        · simp only [← hfin]; rfl
        · rw [← hfin]; exact World.ownsRow_nil _ _ _ _
        · exact below_drewN hbe _
      · have hne : (((l.length : Nat) : Int) == 24) = false := by rw [beq_eq_false_iff_ne]; omega
        cases hb : (itemS s (p, false)).2 with
        | true =>
          have hfin := HR.out
          rw [rdAll_bad (by omega) hp hb] at hfin
          have HF : Hid _ := hfin
          clear hfin
          have hhd : ∀ i : Item, i.cells = #[.int .i64 i.kind, .string i.name, .string i.host, .int .i64 i.number, .int .i64 i.size, .string i.disk, .bool i.only, .int .i64 i.lun, .string i.text] := fun _ => rfl
          go_wp2_with (go_at_call 132; refine (item_any _ s _ _ hrd (by omega)).mono ?_; rintro e w1 ⟨rfl, hrd1, hg1⟩; have q0 := hrd1.c0; have q1 := hrd1.c1; have q2 := hrd1.c2; rw [hb] at q2; have qlt := hrd1.lt; have qle := hrd1.le)
          go_quiet (fail)
          go_wp2
          go_ret3
          have hsz := hbe.size
          refine ⟨.slice none 0 0, ?_, ?_, ?_⟩
          · simp only [← HF.out]; rfl
          · rw [← HF.out]; exact World.ownsRow_nil _ _ _ _
          · exact below_drewN ((hbe.trans (gb_below hg1 hsz (Nat.le_refl _))).alloc (by omega) _) _
        | false =>
          have hhd : ∀ i : Item, i.cells = #[.int .i64 i.kind, .string i.name, .string i.host, .int .i64 i.number, .int .i64 i.size, .string i.disk, .bool i.only, .int .i64 i.lun, .string i.text] := fun _ => rfl
          have hmo := itemS_mono s (p, false)
          simp only at hmo
          obtain ⟨i0, hi, hz0, hz1, hz2⟩ := info_parts Tryz.infoItem
          go_wp2_with (first
            | (go_at_call 132; refine (item_any _ s _ _ hrd (by omega)).mono ?_; rintro e w1 ⟨rfl, hrd1, hg1⟩; have q0 := hrd1.c0; have q1 := hrd1.c1; have q2 := hrd1.c2; rw [hb] at q2; have qlt := hrd1.lt; have qle := hrd1.le)
            | (at_builtin; refine wpList_append_own _ rfl _ _ 70 rfl (w.heap.size + 1) 83 i0 (.agg zItem) 9 104 Tryz.underlying70 hi hz0 hz1 hz2 rfl (by decide) (.slice a l.length cap) l.length (allCells l) ?hs ?c0 ⟨w1.heap.size + 1, 0, none⟩ 1 1 (itemAt s p).cells.toList ?hx ?hl ?c1 (item_oneCell _) ?c3 ?c4 ?c5 ?_))
          case hs => rfl
          case hx => rfl
          case hl => rfl
          case c0 => exact ((hown.kept hg1 (Or.inr (own_ne hown (by omega)))).alloc _).alloc _
          case c1 => exact cells_new _ _ _ _ (by simp)
          case c3 => unfold maxLen; omega
          case c4 => omega
          case c5 => simp; omega
          intro v' w2 hown' hgrow _
          have R := ra_step hbe hown hg1 hrd1 _ _ hgrow
          have hlv := lenOf_owns hown'
          clear hgrow q0 q1 q2
          go_wp2
          go_roundw
          case rel =>
            refine ⟨l ++ [itemAt s p], (itemS s (p, false)).1, by simp; omega, ?_, ?_, ?_, R.2⟩
            · rw [allCells_snoc, List.length_append]; exact hown'
            · have := R.1; rw [show itemS s (p, false) = ((itemS s (p, false)).1, false) from Prod.ext rfl hb] at this; exact this
            · rw [rdAll_more (by omega) hp hb]; exact HR.out
          case measure => simp [lenOf] at hlv ⊢; omega
    · have hfin := HR.out
      rw [rdAll_end hp] at hfin
      have HF : Hid _ := hfin
      clear hfin
      go_wp2
      go_ret3
      refine ⟨.slice a l.length cap, ?_, ?_, ?_⟩
      · simp only [← HF.out]; rfl
      · rw [← HF.out]; exact hown
      · exact hbe

end Go.Proofs.YtdlhgbhaeedbdabGreat
