/- Reader5, Reader6, Reader7. -/
import Derived.Test.YtdlhgbhaeedbdabM1

/- The reader: 'digit', 'number', 'mode'. -/
namespace Go.Proofs.Ytdlhgbhaeedbdab
open Go.RowKit

theorem tk_ok {s : ByteArray} {lo hi : Int} {st : Nat × Bool} (h : (tk s lo hi st).2 = false) : st.2 = false ∧ seesB s st.1 lo hi = true ∧ tk s lo hi st = (st.1 + 1, false) := by
  unfold tk at h ⊢
  split at h
  · rename_i hc; simp at hc; simp [hc]
  · simp at h

set_option maxHeartbeats 400000 in
theorem digit_any (b : Nat) (s : ByteArray) (lo hi : Int) (st : Nat × Bool) (w : World) (h : Rd w b s st) (h0 : 48 ≤ lo) (h1 : hi ≤ 57) (hs : s.size ≤ 9223372036854775807) :
    Calls Try.prog 108 #[.pointer (some ⟨b, 0, none⟩), .int .u8 lo, .int .u8 hi] w fun e w' => e = .returned (.int .i64 (dgV s lo hi st)) ∧ Rd w' b s (tk s lo hi st) ∧ w.grownBy w' (some b) := by
  have hc1 := h.c1
  have hle := h.le
  cases hb : (tk s lo hi st).2 with
  | true =>
    have hv : dgV s lo hi st = 0 := by simp [dgV, hb]
    rw [hv]
    go_enter Try.func108, Try.ntmps108
    go_wp2_with (go_at_call 111; refine (take_any b s _ _ _ _ h (by omega) hs).mono ?_; rintro e w1 ⟨rfl, hrd1, hg1⟩; have d2 := hrd1.c2; rw [hb] at d2)
    go_ret
    exact ⟨rfl, hrd1, hg1⟩
  | false =>
    obtain ⟨h1', h2, h3⟩ := tk_ok hb
    have hp : st.1 < s.size := seesB_in (by omega) h2
    have hv : dgV s lo hi st = (s[st.1].toNat : Int) - 48 := by simp [dgV, hb, byteAt_in hp]
    have hlo : lo ≤ (s[st.1].toNat : Int) ∧ (s[st.1].toNat : Int) ≤ hi := by simpa [seesB, byteAt_in hp] using h2
    have hlo1 : (48 : Int) ≤ (s[st.1].toNat : Int) := by omega
    have hhi : (s[st.1].toNat : Int) ≤ 57 := by omega
    have hp' : (st.1 : Int) < (s.size : Int) := by omega
    rw [hv]
    have Hs : Hid ((tk s lo hi st) = (st.1 + 1, false)) := h3
    have H0 : Hid (0 ≤ lo) := (by omega : 0 ≤ lo)
    clear h1' h2 h3 hv hlo h0 h1
    go_enter Try.func108, Try.ntmps108
    go_wp2_with (go_at_call 111; refine (take_any b s _ _ _ _ h H0.out hs).mono ?_; rintro e w1 ⟨rfl, hrd1, hg1⟩; have d2 := hrd1.c2; rw [hb] at d2; have d0 := hrd1.c0)
    go_ret
    refine ⟨?_, hrd1, hg1⟩
    first | rfl | go_num | skip

theorem number_any (b : Nat) (s : ByteArray) (st : Nat × Bool) (w : World) (h : Rd w b s st) (hs : s.size ≤ 9223372036854775807) :
    Calls Try.prog 109 #[.pointer (some ⟨b, 0, none⟩)] w fun e w' => e = .returned (.int .i64 (nbV s st)) ∧ Rd w' b s (nbS s st) ∧ w.grownBy w' (some b) := by
  have hn : nbV s st = dgV s 48 55 st := rfl
  have hS : nbS s st = tk s 48 55 st := rfl
  rw [hn, hS]
  go_enter Try.func109, Try.ntmps109
  go_wp2_with fail
  refine (digit_any b s 48 55 st w h (by omega) (by omega) hs).mono ?_
  rintro e w1 ⟨rfl, hrd1, hg1⟩
  go_wp2
  go_ret
  exact ⟨rfl, hrd1, hg1⟩

set_option maxHeartbeats 400000 in
theorem mode_any (b : Nat) (s : ByteArray) (st : Nat × Bool) (w : World) (h : Rd w b s st) (hs : s.size ≤ 9223372036854775807) :
    Calls Try.prog 110 #[.pointer (some ⟨b, 0, none⟩)] w fun e w' => e = .returned (.bool (mdV s st)) ∧ Rd w' b s (mdS s st) ∧ w.grownBy w' (some b) := by
  cases hb : seesB s (wd s [114] st).1 111 111 with
  | true =>
    have hv : mdS s st = wd s [111] (wd s [114] st) := by simp [mdS, hb]
    have hv' : mdV s st = true := hb
    rw [hv, hv']
    clear hv hv'
    go_enter Try.func110, Try.ntmps110
    go_wp2_with fail
    refine (word_any b s _ _ _ h hs (by decide)).mono ?_
    rintro e w1 ⟨rfl, hrd1, hg1⟩
    have hrd1' : Rd w1 b s (wd s [114] st) := hrd1
    clear hrd1
    have hsee := sees_any b s _ 111 111 w1 hrd1' (by omega)
    rw [hb] at hsee
    go_wp2_with fail
    refine hsee.mono ?_
    rintro e w2 ⟨rfl, n2, rfl⟩
    go_wp2_with fail
    refine (word_any b s _ _ _ (hrd1'.drewN _) hs (by decide)).mono ?_
    rintro e w3 ⟨rfl, hrd3, hg3⟩
    go_wp2
    go_ret
    exact ⟨rfl, hrd3, gb_trans (gb_drewN hg1 _) hg3⟩
  | false =>
    have hv : mdS s st = wd s [119] (wd s [114] st) := by simp [mdS, hb]
    have hv' : mdV s st = false := hb
    rw [hv, hv']
    clear hv hv'
    go_enter Try.func110, Try.ntmps110
    go_wp2_with fail
    refine (word_any b s _ _ _ h hs (by decide)).mono ?_
    rintro e w1 ⟨rfl, hrd1, hg1⟩
    have hrd1' : Rd w1 b s (wd s [114] st) := hrd1
    clear hrd1
    have hsee := sees_any b s _ 111 111 w1 hrd1' (by omega)
    rw [hb] at hsee
    go_wp2_with fail
    refine hsee.mono ?_
    rintro e w2 ⟨rfl, n2, rfl⟩
    go_wp2_with fail
    refine (word_any b s _ _ _ (hrd1'.drewN _) hs (by decide)).mono ?_
    rintro e w3 ⟨rfl, hrd3, hg3⟩
    go_wp2
    go_ret
    exact ⟨rfl, hrd3, gb_trans (gb_drewN hg1 _) hg3⟩

end Go.Proofs.Ytdlhgbhaeedbdab

/- The reader: the five kinds of items. (Laid by mkitems.py.) -/
namespace Go.Proofs.Ytdlhgbhaeedbdab
open Go.RowKit

/-- The program's item. -/
structure Item where
  kind : Nat
  name : ByteArray
  host : ByteArray
  number : Int
  size : Int
  disk : ByteArray
  only : Bool
  lun : Int
  text : ByteArray

def Item.cells (i : Item) : Array Value := #[.int .i64 i.kind, .string i.name, .string i.host, .int .i64 i.number, .int .i64 i.size, .string i.disk, .bool i.only, .int .i64 i.lun, .string i.text]

/-- The zero item's cells. -/
def zItem : Array Value := #[.int .i64 0, .string ⟨#[]⟩, .string ⟨#[]⟩, .int .i64 0, .int .i64 0, .string ⟨#[]⟩, .bool false, .int .i64 0, .string ⟨#[]⟩]

/-- A block of an item's nine cells, as it was laid. -/
structure Cells9 (w : World) (b : Nat) : Prop where
  c0 : w.cell? ⟨b, 0, none⟩ = some (.int .i64 0)
  c1 : w.cell? ⟨b, 1, none⟩ = some (.string ⟨#[]⟩)
  c2 : w.cell? ⟨b, 2, none⟩ = some (.string ⟨#[]⟩)
  c3 : w.cell? ⟨b, 3, none⟩ = some (.int .i64 0)
  c4 : w.cell? ⟨b, 4, none⟩ = some (.int .i64 0)
  c5 : w.cell? ⟨b, 5, none⟩ = some (.string ⟨#[]⟩)
  c6 : w.cell? ⟨b, 6, none⟩ = some (.bool false)
  c7 : w.cell? ⟨b, 7, none⟩ = some (.int .i64 0)
  c8 : w.cell? ⟨b, 8, none⟩ = some (.string ⟨#[]⟩)
  f0 : w.frozen? ⟨b, 0, none⟩ = false
  f1 : w.frozen? ⟨b, 1, none⟩ = false
  f2 : w.frozen? ⟨b, 2, none⟩ = false
  f3 : w.frozen? ⟨b, 3, none⟩ = false
  f4 : w.frozen? ⟨b, 4, none⟩ = false
  f5 : w.frozen? ⟨b, 5, none⟩ = false
  f6 : w.frozen? ⟨b, 6, none⟩ = false
  f7 : w.frozen? ⟨b, 7, none⟩ = false
  f8 : w.frozen? ⟨b, 8, none⟩ = false

theorem Cells9.of_block {w : World} {b : Nat} (hb : w.heap[b]? = some (.cells zItem 73 (0, 0))) : Cells9 w b := by
  constructor <;> simp [World.cell?, World.frozen?, hb, zItem]

theorem Cells9.of_grown {w w' : World} {b : Nat} (hb : b < w.heap.size) (hg : (w.alloc (.cells zItem 73)).grownBy w' (some b)) : Cells9 w' w.heap.size := by
  refine Cells9.of_block ?_
  rw [hg.block w.heap.size (by simp) (by simp; omega)]
  show (w.heap.push _)[w.heap.size]? = _
  simp

theorem Rd.setOther {w : World} {b : Nat} {s : ByteArray} {st : Nat × Bool} (h : Rd w b s st) {p : Addr} (hp : b ≠ p.block) (u : Value) : Rd (w.setCell p u) b s st :=
  h.of_block (Below.heap_setCell _ _ _ _ hp) (by simp [World.setCell])

/-- Nine cells of one block are stored. -/
theorem Rd.set9 {w : World} {b : Nat} {s : ByteArray} {st : Nat × Bool} (h : Rd w b s st) {n : Nat} (hp : b ≠ n) (u0 u1 u2 u3 u4 u5 u6 u7 u8 : Value) :
    Rd (((((((((w.setCell ⟨n, 0, none⟩ u0).setCell ⟨n, 1, none⟩ u1).setCell ⟨n, 2, none⟩ u2).setCell ⟨n, 3, none⟩ u3).setCell ⟨n, 4, none⟩ u4).setCell ⟨n, 5, none⟩ u5).setCell ⟨n, 6, none⟩ u6).setCell ⟨n, 7, none⟩ u7).setCell ⟨n, 8, none⟩ u8) b s st :=
  (((((((((h.setOther (p := ⟨n, 0, none⟩) hp u0).setOther (p := ⟨n, 1, none⟩) hp u1).setOther (p := ⟨n, 2, none⟩) hp u2).setOther (p := ⟨n, 3, none⟩) hp u3).setOther (p := ⟨n, 4, none⟩) hp u4).setOther (p := ⟨n, 5, none⟩) hp u5).setOther (p := ⟨n, 6, none⟩) hp u6).setOther (p := ⟨n, 7, none⟩) hp u7).setOther (p := ⟨n, 8, none⟩) hp u8)

theorem gb_set9 {a w : World} {r : Option Nat} (h : a.grownBy w r) {n : Nat} (hp : a.heap.size ≤ n) (u0 u1 u2 u3 u4 u5 u6 u7 u8 : Value) :
    a.grownBy (((((((((w.setCell ⟨n, 0, none⟩ u0).setCell ⟨n, 1, none⟩ u1).setCell ⟨n, 2, none⟩ u2).setCell ⟨n, 3, none⟩ u3).setCell ⟨n, 4, none⟩ u4).setCell ⟨n, 5, none⟩ u5).setCell ⟨n, 6, none⟩ u6).setCell ⟨n, 7, none⟩ u7).setCell ⟨n, 8, none⟩ u8) r :=
  (gb_setNew (p := ⟨n, 8, none⟩) (gb_setNew (p := ⟨n, 7, none⟩) (gb_setNew (p := ⟨n, 6, none⟩) (gb_setNew (p := ⟨n, 5, none⟩) (gb_setNew (p := ⟨n, 4, none⟩) (gb_setNew (p := ⟨n, 3, none⟩) (gb_setNew (p := ⟨n, 2, none⟩) (gb_setNew (p := ⟨n, 1, none⟩) (gb_setNew (p := ⟨n, 0, none⟩) h hp u0) hp u1) hp u2) hp u3) hp u4) hp u5) hp u6) hp u7) hp u8)

def diskS1 (s : ByteArray) (st : Nat × Bool) : Nat × Bool := wd s [100, 105, 115, 107, 32] st
def diskS2 (s : ByteArray) (st : Nat × Bool) : Nat × Bool := nmS s (diskS1 s st)
def diskS3 (s : ByteArray) (st : Nat × Bool) : Nat × Bool := wd s [32] (diskS2 s st)
def diskS4 (s : ByteArray) (st : Nat × Bool) : Nat × Bool := tk s 49 57 (diskS3 s st)
def diskS5 (s : ByteArray) (st : Nat × Bool) : Nat × Bool := wd s [59] (diskS4 s st)
def diskI (s : ByteArray) (st : Nat × Bool) : Item := ⟨0, (nmV s (diskS1 s st)), ⟨#[]⟩, 0, (dgV s 49 57 (diskS3 s st)), ⟨#[]⟩, false, 0, ⟨#[]⟩⟩

set_option maxHeartbeats 400000 in
theorem disk_any (b : Nat) (s : ByteArray) (st : Nat × Bool) (w : World) (h : Rd w b s st) (hs : s.size ≤ 9223372036854775807) :
    Calls Try.prog 101 #[.pointer (some ⟨b, 0, none⟩)] w fun e w' => e = .returned (.agg (diskI s st).cells) ∧ Rd w' b s (diskS5 s st) ∧ w.grownBy w' (some b) := by
  have hlt := h.lt
  go_enter Try.func101, Try.ntmps101
  go_wp2_with fail
  refine (word_any b s _ _ _ (h.alloc _) hs (by decide)).mono ?_
  rintro e w1 ⟨rfl, hrd1, hg1⟩
  replace hrd1 : Rd w1 b s (diskS1 s st) := hrd1
  go_wp2_with fail
  refine (name_any b s _ _ hrd1 hs).mono ?_
  rintro e w2 ⟨rfl, hrd2, hg2⟩
  replace hrd2 : Rd w2 b s (diskS2 s st) := hrd2
  go_wp2_with fail
  refine (word_any b s _ _ _ hrd2 hs (by decide)).mono ?_
  rintro e w3 ⟨rfl, hrd3, hg3⟩
  replace hrd3 : Rd w3 b s (diskS3 s st) := hrd3
  go_wp2_with fail
  refine (digit_any b s 49 57 _ _ hrd3 (by omega) (by omega) hs).mono ?_
  rintro e w4 ⟨rfl, hrd4, hg4⟩
  replace hrd4 : Rd w4 b s (diskS4 s st) := hrd4
  go_wp2_with fail
  refine (word_any b s _ _ _ hrd4 hs (by decide)).mono ?_
  rintro e w5 ⟨rfl, hrd5, hg5⟩
  replace hrd5 : Rd w5 b s (diskS5 s st) := hrd5
  have hgg := (gb_trans hg1 (gb_trans hg2 (gb_trans hg3 (gb_trans hg4 hg5))))
  obtain ⟨c0, c1, c2, c3, c4, c5, c6, c7, c8, f0, f1, f2, f3, f4, f5, f6, f7, f8⟩ := Cells9.of_grown hlt hgg
  go_wp2_with fail
  refine bodyPost_ret (v := .agg #[.int .i64 0, .string (nmV s (diskS1 s st)), .string ⟨#[]⟩, .int .i64 0, .int .i64 (dgV s 49 57 (diskS3 s st)), .string ⟨#[]⟩, .bool false, .int .i64 0, .string ⟨#[]⟩]) (by simp [results, Try.results101, go_sem, c0, c1, c2, c3, c4, c5, c6, c7, c8]) rfl ⟨rfl, ?_, ?_⟩
  · exact hrd5.set9 (by omega) _ _ _ _ _ _ _ _ _
  · exact gb_set9 (gb_trans (World.grownBy_alloc _ _ _) hgg) (Nat.le_refl _) _ _ _ _ _ _ _ _ _

def targetS1 (s : ByteArray) (st : Nat × Bool) : Nat × Bool := wd s [116, 97, 114, 103, 101, 116, 32] st
def targetS2 (s : ByteArray) (st : Nat × Bool) : Nat × Bool := nmS s (targetS1 s st)
def targetS3 (s : ByteArray) (st : Nat × Bool) : Nat × Bool := wd s [59] (targetS2 s st)
def targetI (s : ByteArray) (st : Nat × Bool) : Item := ⟨1, (nmV s (targetS1 s st)), ⟨#[]⟩, 0, 0, ⟨#[]⟩, false, 0, ⟨#[]⟩⟩

set_option maxHeartbeats 400000 in
theorem target_any (b : Nat) (s : ByteArray) (st : Nat × Bool) (w : World) (h : Rd w b s st) (hs : s.size ≤ 9223372036854775807) :
    Calls Try.prog 102 #[.pointer (some ⟨b, 0, none⟩)] w fun e w' => e = .returned (.agg (targetI s st).cells) ∧ Rd w' b s (targetS3 s st) ∧ w.grownBy w' (some b) := by
  have hlt := h.lt
  go_enter Try.func102, Try.ntmps102
  go_wp2_with fail
  refine (word_any b s _ _ _ (h.alloc _) hs (by decide)).mono ?_
  rintro e w1 ⟨rfl, hrd1, hg1⟩
  replace hrd1 : Rd w1 b s (targetS1 s st) := hrd1
  go_wp2_with fail
  refine (name_any b s _ _ hrd1 hs).mono ?_
  rintro e w2 ⟨rfl, hrd2, hg2⟩
  replace hrd2 : Rd w2 b s (targetS2 s st) := hrd2
  go_wp2_with fail
  refine (word_any b s _ _ _ hrd2 hs (by decide)).mono ?_
  rintro e w3 ⟨rfl, hrd3, hg3⟩
  replace hrd3 : Rd w3 b s (targetS3 s st) := hrd3
  have hgg := (gb_trans hg1 (gb_trans hg2 hg3))
  obtain ⟨c0, c1, c2, c3, c4, c5, c6, c7, c8, f0, f1, f2, f3, f4, f5, f6, f7, f8⟩ := Cells9.of_grown hlt hgg
  go_wp2_with fail
  refine bodyPost_ret (v := .agg #[.int .i64 1, .string (nmV s (targetS1 s st)), .string ⟨#[]⟩, .int .i64 0, .int .i64 0, .string ⟨#[]⟩, .bool false, .int .i64 0, .string ⟨#[]⟩]) (by simp [results, Try.results102, go_sem, c0, c1, c2, c3, c4, c5, c6, c7, c8]) rfl ⟨rfl, ?_, ?_⟩
  · exact hrd3.set9 (by omega) _ _ _ _ _ _ _ _ _
  · exact gb_set9 (gb_trans (World.grownBy_alloc _ _ _) hgg) (Nat.le_refl _) _ _ _ _ _ _ _ _ _

def lunS1 (s : ByteArray) (st : Nat × Bool) : Nat × Bool := wd s [108, 117, 110, 32] st
def lunS2 (s : ByteArray) (st : Nat × Bool) : Nat × Bool := nmS s (lunS1 s st)
def lunS3 (s : ByteArray) (st : Nat × Bool) : Nat × Bool := wd s [32] (lunS2 s st)
def lunS4 (s : ByteArray) (st : Nat × Bool) : Nat × Bool := nbS s (lunS3 s st)
def lunS5 (s : ByteArray) (st : Nat × Bool) : Nat × Bool := wd s [32] (lunS4 s st)
def lunS6 (s : ByteArray) (st : Nat × Bool) : Nat × Bool := nmS s (lunS5 s st)
def lunS7 (s : ByteArray) (st : Nat × Bool) : Nat × Bool := wd s [32] (lunS6 s st)
def lunS8 (s : ByteArray) (st : Nat × Bool) : Nat × Bool := mdS s (lunS7 s st)
def lunS9 (s : ByteArray) (st : Nat × Bool) : Nat × Bool := wd s [59] (lunS8 s st)
def lunI (s : ByteArray) (st : Nat × Bool) : Item := ⟨2, (nmV s (lunS1 s st)), ⟨#[]⟩, (nbV s (lunS3 s st)), 0, (nmV s (lunS5 s st)), (mdV s (lunS7 s st)), 0, ⟨#[]⟩⟩

set_option maxHeartbeats 400000 in
theorem lun_any (b : Nat) (s : ByteArray) (st : Nat × Bool) (w : World) (h : Rd w b s st) (hs : s.size ≤ 9223372036854775807) :
    Calls Try.prog 103 #[.pointer (some ⟨b, 0, none⟩)] w fun e w' => e = .returned (.agg (lunI s st).cells) ∧ Rd w' b s (lunS9 s st) ∧ w.grownBy w' (some b) := by
  have hlt := h.lt
  go_enter Try.func103, Try.ntmps103
  go_wp2_with fail
  refine (word_any b s _ _ _ (h.alloc _) hs (by decide)).mono ?_
  rintro e w1 ⟨rfl, hrd1, hg1⟩
  replace hrd1 : Rd w1 b s (lunS1 s st) := hrd1
  go_wp2_with fail
  refine (name_any b s _ _ hrd1 hs).mono ?_
  rintro e w2 ⟨rfl, hrd2, hg2⟩
  replace hrd2 : Rd w2 b s (lunS2 s st) := hrd2
  go_wp2_with fail
  refine (word_any b s _ _ _ hrd2 hs (by decide)).mono ?_
  rintro e w3 ⟨rfl, hrd3, hg3⟩
  replace hrd3 : Rd w3 b s (lunS3 s st) := hrd3
  go_wp2_with fail
  refine (number_any b s _ _ hrd3 hs).mono ?_
  rintro e w4 ⟨rfl, hrd4, hg4⟩
  replace hrd4 : Rd w4 b s (lunS4 s st) := hrd4
  go_wp2_with fail
  refine (word_any b s _ _ _ hrd4 hs (by decide)).mono ?_
  rintro e w5 ⟨rfl, hrd5, hg5⟩
  replace hrd5 : Rd w5 b s (lunS5 s st) := hrd5
  go_wp2_with fail
  refine (name_any b s _ _ hrd5 hs).mono ?_
  rintro e w6 ⟨rfl, hrd6, hg6⟩
  replace hrd6 : Rd w6 b s (lunS6 s st) := hrd6
  go_wp2_with fail
  refine (word_any b s _ _ _ hrd6 hs (by decide)).mono ?_
  rintro e w7 ⟨rfl, hrd7, hg7⟩
  replace hrd7 : Rd w7 b s (lunS7 s st) := hrd7
  go_wp2_with fail
  refine (mode_any b s _ _ hrd7 hs).mono ?_
  rintro e w8 ⟨rfl, hrd8, hg8⟩
  replace hrd8 : Rd w8 b s (lunS8 s st) := hrd8
  go_wp2_with fail
  refine (word_any b s _ _ _ hrd8 hs (by decide)).mono ?_
  rintro e w9 ⟨rfl, hrd9, hg9⟩
  replace hrd9 : Rd w9 b s (lunS9 s st) := hrd9
  have hgg := (gb_trans hg1 (gb_trans hg2 (gb_trans hg3 (gb_trans hg4 (gb_trans hg5 (gb_trans hg6 (gb_trans hg7 (gb_trans hg8 hg9))))))))
  obtain ⟨c0, c1, c2, c3, c4, c5, c6, c7, c8, f0, f1, f2, f3, f4, f5, f6, f7, f8⟩ := Cells9.of_grown hlt hgg
  go_wp2_with fail
  refine bodyPost_ret (v := .agg #[.int .i64 2, .string (nmV s (lunS1 s st)), .string ⟨#[]⟩, .int .i64 (nbV s (lunS3 s st)), .int .i64 0, .string (nmV s (lunS5 s st)), .bool (mdV s (lunS7 s st)), .int .i64 0, .string ⟨#[]⟩]) (by simp [results, Try.results103, go_sem, c0, c1, c2, c3, c4, c5, c6, c7, c8]) rfl ⟨rfl, ?_, ?_⟩
  · exact hrd9.set9 (by omega) _ _ _ _ _ _ _ _ _
  · exact gb_set9 (gb_trans (World.grownBy_alloc _ _ _) hgg) (Nat.le_refl _) _ _ _ _ _ _ _ _ _

def hostS1 (s : ByteArray) (st : Nat × Bool) : Nat × Bool := wd s [104, 111, 115, 116, 32] st
def hostS2 (s : ByteArray) (st : Nat × Bool) : Nat × Bool := nmS s (hostS1 s st)
def hostS3 (s : ByteArray) (st : Nat × Bool) : Nat × Bool := wd s [32] (hostS2 s st)
def hostS4 (s : ByteArray) (st : Nat × Bool) : Nat × Bool := nmS s (hostS3 s st)
def hostS5 (s : ByteArray) (st : Nat × Bool) : Nat × Bool := wd s [59] (hostS4 s st)
def hostI (s : ByteArray) (st : Nat × Bool) : Item := ⟨3, (nmV s (hostS1 s st)), (nmV s (hostS3 s st)), 0, 0, ⟨#[]⟩, false, 0, ⟨#[]⟩⟩

set_option maxHeartbeats 400000 in
theorem host_any (b : Nat) (s : ByteArray) (st : Nat × Bool) (w : World) (h : Rd w b s st) (hs : s.size ≤ 9223372036854775807) :
    Calls Try.prog 104 #[.pointer (some ⟨b, 0, none⟩)] w fun e w' => e = .returned (.agg (hostI s st).cells) ∧ Rd w' b s (hostS5 s st) ∧ w.grownBy w' (some b) := by
  have hlt := h.lt
  go_enter Try.func104, Try.ntmps104
  go_wp2_with fail
  refine (word_any b s _ _ _ (h.alloc _) hs (by decide)).mono ?_
  rintro e w1 ⟨rfl, hrd1, hg1⟩
  replace hrd1 : Rd w1 b s (hostS1 s st) := hrd1
  go_wp2_with fail
  refine (name_any b s _ _ hrd1 hs).mono ?_
  rintro e w2 ⟨rfl, hrd2, hg2⟩
  replace hrd2 : Rd w2 b s (hostS2 s st) := hrd2
  go_wp2_with fail
  refine (word_any b s _ _ _ hrd2 hs (by decide)).mono ?_
  rintro e w3 ⟨rfl, hrd3, hg3⟩
  replace hrd3 : Rd w3 b s (hostS3 s st) := hrd3
  go_wp2_with fail
  refine (name_any b s _ _ hrd3 hs).mono ?_
  rintro e w4 ⟨rfl, hrd4, hg4⟩
  replace hrd4 : Rd w4 b s (hostS4 s st) := hrd4
  go_wp2_with fail
  refine (word_any b s _ _ _ hrd4 hs (by decide)).mono ?_
  rintro e w5 ⟨rfl, hrd5, hg5⟩
  replace hrd5 : Rd w5 b s (hostS5 s st) := hrd5
  have hgg := (gb_trans hg1 (gb_trans hg2 (gb_trans hg3 (gb_trans hg4 hg5))))
  obtain ⟨c0, c1, c2, c3, c4, c5, c6, c7, c8, f0, f1, f2, f3, f4, f5, f6, f7, f8⟩ := Cells9.of_grown hlt hgg
  go_wp2_with fail
  refine bodyPost_ret (v := .agg #[.int .i64 3, .string (nmV s (hostS1 s st)), .string (nmV s (hostS3 s st)), .int .i64 0, .int .i64 0, .string ⟨#[]⟩, .bool false, .int .i64 0, .string ⟨#[]⟩]) (by simp [results, Try.results104, go_sem, c0, c1, c2, c3, c4, c5, c6, c7, c8]) rfl ⟨rfl, ?_, ?_⟩
  · exact hrd5.set9 (by omega) _ _ _ _ _ _ _ _ _
  · exact gb_set9 (gb_trans (World.grownBy_alloc _ _ _) hgg) (Nat.le_refl _) _ _ _ _ _ _ _ _ _

def mapsS1 (s : ByteArray) (st : Nat × Bool) : Nat × Bool := wd s [109, 97, 112, 32] st
def mapsS2 (s : ByteArray) (st : Nat × Bool) : Nat × Bool := nmS s (mapsS1 s st)
def mapsS3 (s : ByteArray) (st : Nat × Bool) : Nat × Bool := wd s [32] (mapsS2 s st)
def mapsS4 (s : ByteArray) (st : Nat × Bool) : Nat × Bool := nmS s (mapsS3 s st)
def mapsS5 (s : ByteArray) (st : Nat × Bool) : Nat × Bool := wd s [32] (mapsS4 s st)
def mapsS6 (s : ByteArray) (st : Nat × Bool) : Nat × Bool := nbS s (mapsS5 s st)
def mapsS7 (s : ByteArray) (st : Nat × Bool) : Nat × Bool := wd s [32] (mapsS6 s st)
def mapsS8 (s : ByteArray) (st : Nat × Bool) : Nat × Bool := nbS s (mapsS7 s st)
def mapsS9 (s : ByteArray) (st : Nat × Bool) : Nat × Bool := wd s [59] (mapsS8 s st)
def mapsI (s : ByteArray) (st : Nat × Bool) : Item := ⟨4, (nmV s (mapsS1 s st)), (nmV s (mapsS3 s st)), (nbV s (mapsS5 s st)), 0, ⟨#[]⟩, false, (nbV s (mapsS7 s st)), ⟨#[]⟩⟩

set_option maxHeartbeats 400000 in
theorem maps_any (b : Nat) (s : ByteArray) (st : Nat × Bool) (w : World) (h : Rd w b s st) (hs : s.size ≤ 9223372036854775807) :
    Calls Try.prog 105 #[.pointer (some ⟨b, 0, none⟩)] w fun e w' => e = .returned (.agg (mapsI s st).cells) ∧ Rd w' b s (mapsS9 s st) ∧ w.grownBy w' (some b) := by
  have hlt := h.lt
  go_enter Try.func105, Try.ntmps105
  go_wp2_with fail
  refine (word_any b s _ _ _ (h.alloc _) hs (by decide)).mono ?_
  rintro e w1 ⟨rfl, hrd1, hg1⟩
  replace hrd1 : Rd w1 b s (mapsS1 s st) := hrd1
  go_wp2_with fail
  refine (name_any b s _ _ hrd1 hs).mono ?_
  rintro e w2 ⟨rfl, hrd2, hg2⟩
  replace hrd2 : Rd w2 b s (mapsS2 s st) := hrd2
  go_wp2_with fail
  refine (word_any b s _ _ _ hrd2 hs (by decide)).mono ?_
  rintro e w3 ⟨rfl, hrd3, hg3⟩
  replace hrd3 : Rd w3 b s (mapsS3 s st) := hrd3
  go_wp2_with fail
  refine (name_any b s _ _ hrd3 hs).mono ?_
  rintro e w4 ⟨rfl, hrd4, hg4⟩
  replace hrd4 : Rd w4 b s (mapsS4 s st) := hrd4
  go_wp2_with fail
  refine (word_any b s _ _ _ hrd4 hs (by decide)).mono ?_
  rintro e w5 ⟨rfl, hrd5, hg5⟩
  replace hrd5 : Rd w5 b s (mapsS5 s st) := hrd5
  go_wp2_with fail
  refine (number_any b s _ _ hrd5 hs).mono ?_
  rintro e w6 ⟨rfl, hrd6, hg6⟩
  replace hrd6 : Rd w6 b s (mapsS6 s st) := hrd6
  go_wp2_with fail
  refine (word_any b s _ _ _ hrd6 hs (by decide)).mono ?_
  rintro e w7 ⟨rfl, hrd7, hg7⟩
  replace hrd7 : Rd w7 b s (mapsS7 s st) := hrd7
  go_wp2_with fail
  refine (number_any b s _ _ hrd7 hs).mono ?_
  rintro e w8 ⟨rfl, hrd8, hg8⟩
  replace hrd8 : Rd w8 b s (mapsS8 s st) := hrd8
  go_wp2_with fail
  refine (word_any b s _ _ _ hrd8 hs (by decide)).mono ?_
  rintro e w9 ⟨rfl, hrd9, hg9⟩
  replace hrd9 : Rd w9 b s (mapsS9 s st) := hrd9
  have hgg := (gb_trans hg1 (gb_trans hg2 (gb_trans hg3 (gb_trans hg4 (gb_trans hg5 (gb_trans hg6 (gb_trans hg7 (gb_trans hg8 hg9))))))))
  obtain ⟨c0, c1, c2, c3, c4, c5, c6, c7, c8, f0, f1, f2, f3, f4, f5, f6, f7, f8⟩ := Cells9.of_grown hlt hgg
  go_wp2_with fail
  refine bodyPost_ret (v := .agg #[.int .i64 4, .string (nmV s (mapsS1 s st)), .string (nmV s (mapsS3 s st)), .int .i64 (nbV s (mapsS5 s st)), .int .i64 0, .string ⟨#[]⟩, .bool false, .int .i64 (nbV s (mapsS7 s st)), .string ⟨#[]⟩]) (by simp [results, Try.results105, go_sem, c0, c1, c2, c3, c4, c5, c6, c7, c8]) rfl ⟨rfl, ?_, ?_⟩
  · exact hrd9.set9 (by omega) _ _ _ _ _ _ _ _ _
  · exact gb_set9 (gb_trans (World.grownBy_alloc _ _ _) hgg) (Nat.le_refl _) _ _ _ _ _ _ _ _ _

end Go.Proofs.Ytdlhgbhaeedbdab

/- The reader: 'item'. (Laid by mkitem.py.) -/
namespace Go.Proofs.Ytdlhgbhaeedbdab
open Go.RowKit

def noItem : Item := ⟨0, ⟨#[]⟩, ⟨#[]⟩, 0, 0, ⟨#[]⟩, false, 0, ⟨#[]⟩⟩

/-- An item of any kind is read: the first byte tells which. -/
def itemI (s : ByteArray) (st : Nat × Bool) : Item :=
  if byteAt s st.1 = 100 then diskI s st else if byteAt s st.1 = 116 then targetI s st else if byteAt s st.1 = 108 then lunI s st else if byteAt s st.1 = 104 then hostI s st else if byteAt s st.1 = 109 then mapsI s st else noItem
def itemS (s : ByteArray) (st : Nat × Bool) : Nat × Bool :=
  if byteAt s st.1 = 100 then diskS5 s st else if byteAt s st.1 = 116 then targetS3 s st else if byteAt s st.1 = 108 then lunS9 s st else if byteAt s st.1 = 104 then hostS5 s st else if byteAt s st.1 = 109 then mapsS9 s st else (st.1, true)

set_option maxHeartbeats 400000 in
theorem item_disk (b : Nat) (s : ByteArray) (st : Nat × Bool) (w : World) (h : Rd w b s st) (hs : s.size ≤ 9223372036854775807) (hp : st.1 < s.size) (hb : (s[st.1].toNat : Int) = 100) :
    Calls Try.prog 98 #[.pointer (some ⟨b, 0, none⟩)] w fun e w' => e = .returned (.agg (diskI s st).cells) ∧ Rd w' b s (diskS5 s st) ∧ w.grownBy w' (some b) := by
  have hlt := h.lt
  have c0 := (h.alloc (.cells zItem 73)).c0
  have c1 := (h.alloc (.cells zItem 73)).c1
  have hp' : (st.1 : Int) < (s.size : Int) := by omega
  unfold zItem at c0 c1
  have hng : decide ((s.size : Int) ≤ (st.1 : Int)) = false := by simp; omega
  have hd : ∀ i : Item, i.cells = #[.int .i64 i.kind, .string i.name, .string i.host, .int .i64 i.number, .int .i64 i.size, .string i.disk, .bool i.only, .int .i64 i.lun, .string i.text] := fun _ => rfl
  go_enter Try.func98, Try.ntmps98
  go_wp2
  go_quiet (fail)
  go_wp2
  go_quiet (fail)
  go_wp2_with fail
  clear c0 c1
  refine (disk_any b s st _ ((h.alloc (.cells zItem 73)).drewN _) hs).mono ?_
  rintro e w1 ⟨rfl, hrd1, hg1⟩
  have hgg : (w.alloc (.cells zItem 73)).grownBy w1 (some b) := gb_trans (gb_drewN (World.grownBy.refl _ _) _) hg1
  obtain ⟨c0, c1, c2, c3, c4, c5, c6, c7, c8, f0, f1, f2, f3, f4, f5, f6, f7, f8⟩ := Cells9.of_grown hlt hgg
  go_wp2_with fail
  refine bodyPost_ret (v := .agg (diskI s st).cells) (by simp [results, Try.results98, go_sem, c0, c1, c2, c3, c4, c5, c6, c7, c8, Item.cells]) rfl ⟨rfl, ?_, ?_⟩
  · exact hrd1.set9 (by omega) _ _ _ _ _ _ _ _ _
  · exact gb_set9 (gb_trans (World.grownBy_alloc _ _ _) hgg) (Nat.le_refl _) _ _ _ _ _ _ _ _ _

set_option maxHeartbeats 400000 in
theorem item_target (b : Nat) (s : ByteArray) (st : Nat × Bool) (w : World) (h : Rd w b s st) (hs : s.size ≤ 9223372036854775807) (hp : st.1 < s.size) (hb : (s[st.1].toNat : Int) = 116) :
    Calls Try.prog 98 #[.pointer (some ⟨b, 0, none⟩)] w fun e w' => e = .returned (.agg (targetI s st).cells) ∧ Rd w' b s (targetS3 s st) ∧ w.grownBy w' (some b) := by
  have hlt := h.lt
  have c0 := (h.alloc (.cells zItem 73)).c0
  have c1 := (h.alloc (.cells zItem 73)).c1
  have hp' : (st.1 : Int) < (s.size : Int) := by omega
  unfold zItem at c0 c1
  have hng : decide ((s.size : Int) ≤ (st.1 : Int)) = false := by simp; omega
  have hd : ∀ i : Item, i.cells = #[.int .i64 i.kind, .string i.name, .string i.host, .int .i64 i.number, .int .i64 i.size, .string i.disk, .bool i.only, .int .i64 i.lun, .string i.text] := fun _ => rfl
  go_enter Try.func98, Try.ntmps98
  go_wp2
  go_quiet (fail)
  go_wp2
  go_quiet (fail)
  go_wp2_with fail
  clear c0 c1
  refine (target_any b s st _ ((h.alloc (.cells zItem 73)).drewN _) hs).mono ?_
  rintro e w1 ⟨rfl, hrd1, hg1⟩
  have hgg : (w.alloc (.cells zItem 73)).grownBy w1 (some b) := gb_trans (gb_drewN (World.grownBy.refl _ _) _) hg1
  obtain ⟨c0, c1, c2, c3, c4, c5, c6, c7, c8, f0, f1, f2, f3, f4, f5, f6, f7, f8⟩ := Cells9.of_grown hlt hgg
  go_wp2_with fail
  refine bodyPost_ret (v := .agg (targetI s st).cells) (by simp [results, Try.results98, go_sem, c0, c1, c2, c3, c4, c5, c6, c7, c8, Item.cells]) rfl ⟨rfl, ?_, ?_⟩
  · exact hrd1.set9 (by omega) _ _ _ _ _ _ _ _ _
  · exact gb_set9 (gb_trans (World.grownBy_alloc _ _ _) hgg) (Nat.le_refl _) _ _ _ _ _ _ _ _ _

set_option maxHeartbeats 400000 in
theorem item_lun (b : Nat) (s : ByteArray) (st : Nat × Bool) (w : World) (h : Rd w b s st) (hs : s.size ≤ 9223372036854775807) (hp : st.1 < s.size) (hb : (s[st.1].toNat : Int) = 108) :
    Calls Try.prog 98 #[.pointer (some ⟨b, 0, none⟩)] w fun e w' => e = .returned (.agg (lunI s st).cells) ∧ Rd w' b s (lunS9 s st) ∧ w.grownBy w' (some b) := by
  have hlt := h.lt
  have c0 := (h.alloc (.cells zItem 73)).c0
  have c1 := (h.alloc (.cells zItem 73)).c1
  have hp' : (st.1 : Int) < (s.size : Int) := by omega
  unfold zItem at c0 c1
  have hng : decide ((s.size : Int) ≤ (st.1 : Int)) = false := by simp; omega
  have hd : ∀ i : Item, i.cells = #[.int .i64 i.kind, .string i.name, .string i.host, .int .i64 i.number, .int .i64 i.size, .string i.disk, .bool i.only, .int .i64 i.lun, .string i.text] := fun _ => rfl
  go_enter Try.func98, Try.ntmps98
  go_wp2
  go_quiet (fail)
  go_wp2
  go_quiet (fail)
  go_wp2_with fail
  clear c0 c1
  refine (lun_any b s st _ ((h.alloc (.cells zItem 73)).drewN _) hs).mono ?_
  rintro e w1 ⟨rfl, hrd1, hg1⟩
  have hgg : (w.alloc (.cells zItem 73)).grownBy w1 (some b) := gb_trans (gb_drewN (World.grownBy.refl _ _) _) hg1
  obtain ⟨c0, c1, c2, c3, c4, c5, c6, c7, c8, f0, f1, f2, f3, f4, f5, f6, f7, f8⟩ := Cells9.of_grown hlt hgg
  go_wp2_with fail
  refine bodyPost_ret (v := .agg (lunI s st).cells) (by simp [results, Try.results98, go_sem, c0, c1, c2, c3, c4, c5, c6, c7, c8, Item.cells]) rfl ⟨rfl, ?_, ?_⟩
  · exact hrd1.set9 (by omega) _ _ _ _ _ _ _ _ _
  · exact gb_set9 (gb_trans (World.grownBy_alloc _ _ _) hgg) (Nat.le_refl _) _ _ _ _ _ _ _ _ _

set_option maxHeartbeats 400000 in
theorem item_host (b : Nat) (s : ByteArray) (st : Nat × Bool) (w : World) (h : Rd w b s st) (hs : s.size ≤ 9223372036854775807) (hp : st.1 < s.size) (hb : (s[st.1].toNat : Int) = 104) :
    Calls Try.prog 98 #[.pointer (some ⟨b, 0, none⟩)] w fun e w' => e = .returned (.agg (hostI s st).cells) ∧ Rd w' b s (hostS5 s st) ∧ w.grownBy w' (some b) := by
  have hlt := h.lt
  have c0 := (h.alloc (.cells zItem 73)).c0
  have c1 := (h.alloc (.cells zItem 73)).c1
  have hp' : (st.1 : Int) < (s.size : Int) := by omega
  unfold zItem at c0 c1
  have hng : decide ((s.size : Int) ≤ (st.1 : Int)) = false := by simp; omega
  have hd : ∀ i : Item, i.cells = #[.int .i64 i.kind, .string i.name, .string i.host, .int .i64 i.number, .int .i64 i.size, .string i.disk, .bool i.only, .int .i64 i.lun, .string i.text] := fun _ => rfl
  go_enter Try.func98, Try.ntmps98
  go_wp2
  go_quiet (fail)
  go_wp2
  go_quiet (fail)
  go_wp2_with fail
  clear c0 c1
  refine (host_any b s st _ ((h.alloc (.cells zItem 73)).drewN _) hs).mono ?_
  rintro e w1 ⟨rfl, hrd1, hg1⟩
  have hgg : (w.alloc (.cells zItem 73)).grownBy w1 (some b) := gb_trans (gb_drewN (World.grownBy.refl _ _) _) hg1
  obtain ⟨c0, c1, c2, c3, c4, c5, c6, c7, c8, f0, f1, f2, f3, f4, f5, f6, f7, f8⟩ := Cells9.of_grown hlt hgg
  go_wp2_with fail
  refine bodyPost_ret (v := .agg (hostI s st).cells) (by simp [results, Try.results98, go_sem, c0, c1, c2, c3, c4, c5, c6, c7, c8, Item.cells]) rfl ⟨rfl, ?_, ?_⟩
  · exact hrd1.set9 (by omega) _ _ _ _ _ _ _ _ _
  · exact gb_set9 (gb_trans (World.grownBy_alloc _ _ _) hgg) (Nat.le_refl _) _ _ _ _ _ _ _ _ _

set_option maxHeartbeats 400000 in
theorem item_maps (b : Nat) (s : ByteArray) (st : Nat × Bool) (w : World) (h : Rd w b s st) (hs : s.size ≤ 9223372036854775807) (hp : st.1 < s.size) (hb : (s[st.1].toNat : Int) = 109) :
    Calls Try.prog 98 #[.pointer (some ⟨b, 0, none⟩)] w fun e w' => e = .returned (.agg (mapsI s st).cells) ∧ Rd w' b s (mapsS9 s st) ∧ w.grownBy w' (some b) := by
  have hlt := h.lt
  have c0 := (h.alloc (.cells zItem 73)).c0
  have c1 := (h.alloc (.cells zItem 73)).c1
  have hp' : (st.1 : Int) < (s.size : Int) := by omega
  unfold zItem at c0 c1
  have hng : decide ((s.size : Int) ≤ (st.1 : Int)) = false := by simp; omega
  have hd : ∀ i : Item, i.cells = #[.int .i64 i.kind, .string i.name, .string i.host, .int .i64 i.number, .int .i64 i.size, .string i.disk, .bool i.only, .int .i64 i.lun, .string i.text] := fun _ => rfl
  go_enter Try.func98, Try.ntmps98
  go_wp2
  go_quiet (fail)
  go_wp2
  go_quiet (fail)
  go_wp2_with fail
  clear c0 c1
  refine (maps_any b s st _ ((h.alloc (.cells zItem 73)).drewN _) hs).mono ?_
  rintro e w1 ⟨rfl, hrd1, hg1⟩
  have hgg : (w.alloc (.cells zItem 73)).grownBy w1 (some b) := gb_trans (gb_drewN (World.grownBy.refl _ _) _) hg1
  obtain ⟨c0, c1, c2, c3, c4, c5, c6, c7, c8, f0, f1, f2, f3, f4, f5, f6, f7, f8⟩ := Cells9.of_grown hlt hgg
  go_wp2_with fail
  refine bodyPost_ret (v := .agg (mapsI s st).cells) (by simp [results, Try.results98, go_sem, c0, c1, c2, c3, c4, c5, c6, c7, c8, Item.cells]) rfl ⟨rfl, ?_, ?_⟩
  · exact hrd1.set9 (by omega) _ _ _ _ _ _ _ _ _
  · exact gb_set9 (gb_trans (World.grownBy_alloc _ _ _) hgg) (Nat.le_refl _) _ _ _ _ _ _ _ _ _

end Go.Proofs.Ytdlhgbhaeedbdab
