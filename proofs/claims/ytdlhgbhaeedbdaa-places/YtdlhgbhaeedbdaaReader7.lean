/- The reader: 'item'. (Laid by mkitem.py.) -/
import Derived.Test.YtdlhgbhaeedbdaaReader6
namespace Go.Proofs.Ytdlhgbhaeedbdaa
open Go.RowKit

def noItem : Item := ⟨0, ⟨#[]⟩, ⟨#[]⟩, 0, 0, ⟨#[]⟩, false, 0, ⟨#[]⟩⟩

/-- An item of any kind is read: the first byte tells which. -/
def itemI (s : ByteArray) (st : Nat × Bool) : Item :=
  if byteAt s st.1 = 100 then diskI s st else if byteAt s st.1 = 116 then targetI s st else if byteAt s st.1 = 108 then lunI s st else if byteAt s st.1 = 104 then hostI s st else if byteAt s st.1 = 109 then mapsI s st else noItem
def itemS (s : ByteArray) (st : Nat × Bool) : Nat × Bool :=
  if byteAt s st.1 = 100 then diskS5 s st else if byteAt s st.1 = 116 then targetS3 s st else if byteAt s st.1 = 108 then lunS9 s st else if byteAt s st.1 = 104 then hostS5 s st else if byteAt s st.1 = 109 then mapsS9 s st else (st.1, true)

set_option maxHeartbeats 400000 in
theorem item_disk (b : Nat) (s : ByteArray) (st : Nat × Bool) (w : World) (h : Rd w b s st) (hs : s.size ≤ 9223372036854775807) (hp : st.1 < s.size) (hb : (s[st.1].toNat : Int) = 100) :
    Calls Try.prog 93 #[.pointer (some ⟨b, 0, none⟩)] w fun e w' => e = .returned (.agg (diskI s st).cells) ∧ Rd w' b s (diskS5 s st) ∧ w.grownBy w' (some b) := by
  have hlt := h.lt
  have c0 := (h.alloc (.cells zItem 99)).c0
  have c1 := (h.alloc (.cells zItem 99)).c1
  have hp' : (st.1 : Int) < (s.size : Int) := by omega
  unfold zItem at c0 c1
  have hng : decide ((s.size : Int) ≤ (st.1 : Int)) = false := by simp; omega
  have hd : ∀ i : Item, i.cells = #[.int .i64 i.kind, .string i.name, .string i.host, .int .i64 i.number, .int .i64 i.size, .string i.disk, .bool i.only, .int .i64 i.lun, .string i.text] := fun _ => rfl
  go_enter Try.func93, Try.ntmps93
  go_wp2
  go_quiet (fail)
  go_wp2
  go_quiet (fail)
  go_wp2_with fail
  clear c0 c1
  refine (disk_any b s st _ ((h.alloc (.cells zItem 99)).drewN _) hs).mono ?_
  rintro e w1 ⟨rfl, hrd1, hg1⟩
  have hgg : (w.alloc (.cells zItem 99)).grownBy w1 (some b) := gb_trans (gb_drewN (World.grownBy.refl _ _) _) hg1
  obtain ⟨c0, c1, c2, c3, c4, c5, c6, c7, c8, f0, f1, f2, f3, f4, f5, f6, f7, f8⟩ := Cells9.of_grown hlt hgg
  go_wp2_with fail
  refine bodyPost_ret (v := .agg (diskI s st).cells) (by simp [results, Try.results93, go_sem, c0, c1, c2, c3, c4, c5, c6, c7, c8, Item.cells]) rfl ⟨rfl, ?_, ?_⟩
  · exact hrd1.set9 (by omega) _ _ _ _ _ _ _ _ _
  · exact gb_set9 (gb_trans (World.grownBy_alloc _ _ _) hgg) (Nat.le_refl _) _ _ _ _ _ _ _ _ _

set_option maxHeartbeats 400000 in
theorem item_target (b : Nat) (s : ByteArray) (st : Nat × Bool) (w : World) (h : Rd w b s st) (hs : s.size ≤ 9223372036854775807) (hp : st.1 < s.size) (hb : (s[st.1].toNat : Int) = 116) :
    Calls Try.prog 93 #[.pointer (some ⟨b, 0, none⟩)] w fun e w' => e = .returned (.agg (targetI s st).cells) ∧ Rd w' b s (targetS3 s st) ∧ w.grownBy w' (some b) := by
  have hlt := h.lt
  have c0 := (h.alloc (.cells zItem 99)).c0
  have c1 := (h.alloc (.cells zItem 99)).c1
  have hp' : (st.1 : Int) < (s.size : Int) := by omega
  unfold zItem at c0 c1
  have hng : decide ((s.size : Int) ≤ (st.1 : Int)) = false := by simp; omega
  have hd : ∀ i : Item, i.cells = #[.int .i64 i.kind, .string i.name, .string i.host, .int .i64 i.number, .int .i64 i.size, .string i.disk, .bool i.only, .int .i64 i.lun, .string i.text] := fun _ => rfl
  go_enter Try.func93, Try.ntmps93
  go_wp2
  go_quiet (fail)
  go_wp2
  go_quiet (fail)
  go_wp2_with fail
  clear c0 c1
  refine (target_any b s st _ ((h.alloc (.cells zItem 99)).drewN _) hs).mono ?_
  rintro e w1 ⟨rfl, hrd1, hg1⟩
  have hgg : (w.alloc (.cells zItem 99)).grownBy w1 (some b) := gb_trans (gb_drewN (World.grownBy.refl _ _) _) hg1
  obtain ⟨c0, c1, c2, c3, c4, c5, c6, c7, c8, f0, f1, f2, f3, f4, f5, f6, f7, f8⟩ := Cells9.of_grown hlt hgg
  go_wp2_with fail
  refine bodyPost_ret (v := .agg (targetI s st).cells) (by simp [results, Try.results93, go_sem, c0, c1, c2, c3, c4, c5, c6, c7, c8, Item.cells]) rfl ⟨rfl, ?_, ?_⟩
  · exact hrd1.set9 (by omega) _ _ _ _ _ _ _ _ _
  · exact gb_set9 (gb_trans (World.grownBy_alloc _ _ _) hgg) (Nat.le_refl _) _ _ _ _ _ _ _ _ _

set_option maxHeartbeats 400000 in
theorem item_lun (b : Nat) (s : ByteArray) (st : Nat × Bool) (w : World) (h : Rd w b s st) (hs : s.size ≤ 9223372036854775807) (hp : st.1 < s.size) (hb : (s[st.1].toNat : Int) = 108) :
    Calls Try.prog 93 #[.pointer (some ⟨b, 0, none⟩)] w fun e w' => e = .returned (.agg (lunI s st).cells) ∧ Rd w' b s (lunS9 s st) ∧ w.grownBy w' (some b) := by
  have hlt := h.lt
  have c0 := (h.alloc (.cells zItem 99)).c0
  have c1 := (h.alloc (.cells zItem 99)).c1
  have hp' : (st.1 : Int) < (s.size : Int) := by omega
  unfold zItem at c0 c1
  have hng : decide ((s.size : Int) ≤ (st.1 : Int)) = false := by simp; omega
  have hd : ∀ i : Item, i.cells = #[.int .i64 i.kind, .string i.name, .string i.host, .int .i64 i.number, .int .i64 i.size, .string i.disk, .bool i.only, .int .i64 i.lun, .string i.text] := fun _ => rfl
  go_enter Try.func93, Try.ntmps93
  go_wp2
  go_quiet (fail)
  go_wp2
  go_quiet (fail)
  go_wp2_with fail
  clear c0 c1
  refine (lun_any b s st _ ((h.alloc (.cells zItem 99)).drewN _) hs).mono ?_
  rintro e w1 ⟨rfl, hrd1, hg1⟩
  have hgg : (w.alloc (.cells zItem 99)).grownBy w1 (some b) := gb_trans (gb_drewN (World.grownBy.refl _ _) _) hg1
  obtain ⟨c0, c1, c2, c3, c4, c5, c6, c7, c8, f0, f1, f2, f3, f4, f5, f6, f7, f8⟩ := Cells9.of_grown hlt hgg
  go_wp2_with fail
  refine bodyPost_ret (v := .agg (lunI s st).cells) (by simp [results, Try.results93, go_sem, c0, c1, c2, c3, c4, c5, c6, c7, c8, Item.cells]) rfl ⟨rfl, ?_, ?_⟩
  · exact hrd1.set9 (by omega) _ _ _ _ _ _ _ _ _
  · exact gb_set9 (gb_trans (World.grownBy_alloc _ _ _) hgg) (Nat.le_refl _) _ _ _ _ _ _ _ _ _

set_option maxHeartbeats 400000 in
theorem item_host (b : Nat) (s : ByteArray) (st : Nat × Bool) (w : World) (h : Rd w b s st) (hs : s.size ≤ 9223372036854775807) (hp : st.1 < s.size) (hb : (s[st.1].toNat : Int) = 104) :
    Calls Try.prog 93 #[.pointer (some ⟨b, 0, none⟩)] w fun e w' => e = .returned (.agg (hostI s st).cells) ∧ Rd w' b s (hostS5 s st) ∧ w.grownBy w' (some b) := by
  have hlt := h.lt
  have c0 := (h.alloc (.cells zItem 99)).c0
  have c1 := (h.alloc (.cells zItem 99)).c1
  have hp' : (st.1 : Int) < (s.size : Int) := by omega
  unfold zItem at c0 c1
  have hng : decide ((s.size : Int) ≤ (st.1 : Int)) = false := by simp; omega
  have hd : ∀ i : Item, i.cells = #[.int .i64 i.kind, .string i.name, .string i.host, .int .i64 i.number, .int .i64 i.size, .string i.disk, .bool i.only, .int .i64 i.lun, .string i.text] := fun _ => rfl
  go_enter Try.func93, Try.ntmps93
  go_wp2
  go_quiet (fail)
  go_wp2
  go_quiet (fail)
  go_wp2_with fail
  clear c0 c1
  refine (host_any b s st _ ((h.alloc (.cells zItem 99)).drewN _) hs).mono ?_
  rintro e w1 ⟨rfl, hrd1, hg1⟩
  have hgg : (w.alloc (.cells zItem 99)).grownBy w1 (some b) := gb_trans (gb_drewN (World.grownBy.refl _ _) _) hg1
  obtain ⟨c0, c1, c2, c3, c4, c5, c6, c7, c8, f0, f1, f2, f3, f4, f5, f6, f7, f8⟩ := Cells9.of_grown hlt hgg
  go_wp2_with fail
  refine bodyPost_ret (v := .agg (hostI s st).cells) (by simp [results, Try.results93, go_sem, c0, c1, c2, c3, c4, c5, c6, c7, c8, Item.cells]) rfl ⟨rfl, ?_, ?_⟩
  · exact hrd1.set9 (by omega) _ _ _ _ _ _ _ _ _
  · exact gb_set9 (gb_trans (World.grownBy_alloc _ _ _) hgg) (Nat.le_refl _) _ _ _ _ _ _ _ _ _

set_option maxHeartbeats 400000 in
theorem item_maps (b : Nat) (s : ByteArray) (st : Nat × Bool) (w : World) (h : Rd w b s st) (hs : s.size ≤ 9223372036854775807) (hp : st.1 < s.size) (hb : (s[st.1].toNat : Int) = 109) :
    Calls Try.prog 93 #[.pointer (some ⟨b, 0, none⟩)] w fun e w' => e = .returned (.agg (mapsI s st).cells) ∧ Rd w' b s (mapsS9 s st) ∧ w.grownBy w' (some b) := by
  have hlt := h.lt
  have c0 := (h.alloc (.cells zItem 99)).c0
  have c1 := (h.alloc (.cells zItem 99)).c1
  have hp' : (st.1 : Int) < (s.size : Int) := by omega
  unfold zItem at c0 c1
  have hng : decide ((s.size : Int) ≤ (st.1 : Int)) = false := by simp; omega
  have hd : ∀ i : Item, i.cells = #[.int .i64 i.kind, .string i.name, .string i.host, .int .i64 i.number, .int .i64 i.size, .string i.disk, .bool i.only, .int .i64 i.lun, .string i.text] := fun _ => rfl
  go_enter Try.func93, Try.ntmps93
  go_wp2
  go_quiet (fail)
  go_wp2
  go_quiet (fail)
  go_wp2_with fail
  clear c0 c1
  refine (maps_any b s st _ ((h.alloc (.cells zItem 99)).drewN _) hs).mono ?_
  rintro e w1 ⟨rfl, hrd1, hg1⟩
  have hgg : (w.alloc (.cells zItem 99)).grownBy w1 (some b) := gb_trans (gb_drewN (World.grownBy.refl _ _) _) hg1
  obtain ⟨c0, c1, c2, c3, c4, c5, c6, c7, c8, f0, f1, f2, f3, f4, f5, f6, f7, f8⟩ := Cells9.of_grown hlt hgg
  go_wp2_with fail
  refine bodyPost_ret (v := .agg (mapsI s st).cells) (by simp [results, Try.results93, go_sem, c0, c1, c2, c3, c4, c5, c6, c7, c8, Item.cells]) rfl ⟨rfl, ?_, ?_⟩
  · exact hrd1.set9 (by omega) _ _ _ _ _ _ _ _ _
  · exact gb_set9 (gb_trans (World.grownBy_alloc _ _ _) hgg) (Nat.le_refl _) _ _ _ _ _ _ _ _ _

end Go.Proofs.Ytdlhgbhaeedbdaa
