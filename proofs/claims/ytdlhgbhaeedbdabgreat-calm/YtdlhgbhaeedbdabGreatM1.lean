/- Base, Reader, Reader2, Reader3, Reader4, Reader5, Reader6. -/
import Derived.WalkKit
import Derived.WalkSpells
import Derived.WalkLawsBesides
import Derived.Deep.QuietTactic
import Derived.BigQuiet
import Derived.Test.YtdlhgbhaeedbdabGreatProg
import Derived.Deep.RegionWith

/- Small facts on worlds: a call that writes into one block of its own ('grownBy .. (some b)') and makes new ones. -/
namespace Go.Proofs.YtdlhgbhaeedbdabGreat
open Go.RowKit

theorem hide {p : Prop} (h : p) : Hid p := h
theorem unhide {p : Prop} (h : Hid p) : p := h

theorem gb_trans {a b c : World} {r : Option Nat} (h : a.grownBy b r) (k : b.grownBy c r) : a.grownBy c r :=
  ⟨k.os.trans h.os, k.tape.trans h.tape, k.output.trans h.output, Nat.le_trans h.size k.size, fun i hi hr => (k.block i (Nat.lt_of_lt_of_le hi h.size) hr).trans (h.block i hi hr)⟩

theorem gb_drewN {a b : World} {r : Option Nat} (h : a.grownBy b r) (n : Nat) : a.grownBy (b.drewN n) r := ⟨h.os, h.tape, h.output, h.size, h.block⟩

theorem gb_alloc {a b : World} {r : Option Nat} (h : a.grownBy b r) (o : Obj) : a.grownBy (b.alloc o) r := gb_trans h (World.grownBy_alloc b o r)

theorem gb_setCell {a b : World} {p : Addr} (h : a.grownBy b (some p.block)) (u : Value) : a.grownBy (b.setCell p u) (some p.block) :=
  gb_trans h ⟨rfl, rfl, rfl, by simp [World.setCell], fun k _ hr => Below.heap_setCell _ _ _ _ (fun e => hr (by rw [e]))⟩

/-- A store into a block that is new since. -/
theorem gb_setNew {a b : World} {r : Option Nat} (h : a.grownBy b r) {p : Addr} (hp : a.heap.size ≤ p.block) (u : Value) : a.grownBy (b.setCell p u) r :=
  ⟨h.os, h.tape, h.output, by simpa [World.setCell] using h.size, fun k hk hr => by rw [Below.heap_setCell _ _ _ _ (by omega)]; exact h.block k hk hr⟩

theorem gb_below {a b : World} {k : Nat} (h : a.grownBy b (some k)) {B : Nat} (hB : B ≤ a.heap.size) (hk : B ≤ k) : Below B a b :=
  ⟨h.os, h.tape, h.output, h.size, fun i hi => h.block i (by omega) (fun e => by simp at e; omega)⟩

end Go.Proofs.YtdlhgbhaeedbdabGreat

/- The reader: its methods 'sees', 'take', 'word', by their contracts. -/
namespace Go.Proofs.YtdlhgbhaeedbdabGreat
open Go.RowKit

/-- The byte at p, or -1 behind the end. -/
def byteAt (s : ByteArray) (p : Nat) : Int := if h : p < s.size then (s[p].toNat : Int) else -1

/-- Is the byte at p one from lo to hi? -/
def seesB (s : ByteArray) (p : Nat) (lo hi : Int) : Bool := decide (lo ≤ byteAt s p) && decide (byteAt s p ≤ hi)

/-- One byte from lo to hi is read. -/
def tk (s : ByteArray) (lo hi : Int) (st : Nat × Bool) : Nat × Bool := if !st.2 && seesB s st.1 lo hi then (st.1 + 1, false) else (st.1, true)

/-- Just these bytes are read. -/
def wd (s : ByteArray) (ws : List UInt8) (st : Nat × Bool) : Nat × Bool := ws.foldl (fun st c => tk s (c.toNat : Int) (c.toNat : Int) st) st

/-- The reader in block b: its text, its place, is it bad. -/
structure Rd (w : World) (b : Nat) (s : ByteArray) (st : Nat × Bool) : Prop where
  c0 : w.cell? ⟨b, 0, none⟩ = some (.string s)
  c1 : w.cell? ⟨b, 1, none⟩ = some (.int .i64 st.1)
  c2 : w.cell? ⟨b, 2, none⟩ = some (.bool st.2)
  f1 : w.frozen? ⟨b, 1, none⟩ = false
  f2 : w.frozen? ⟨b, 2, none⟩ = false
  le : st.1 ≤ s.size
  lt : b < w.heap.size

theorem byteAt_in {s : ByteArray} {p : Nat} (h : p < s.size) : byteAt s p = (s[p].toNat : Int) := by simp [byteAt, h]
theorem byteAt_out {s : ByteArray} {p : Nat} (h : ¬ p < s.size) : byteAt s p = -1 := by simp [byteAt, h]

theorem seesB_in {s : ByteArray} {p : Nat} {lo hi : Int} (h0 : 0 ≤ lo) (h : seesB s p lo hi = true) : p < s.size := by
  by_cases hp : p < s.size
  · exact hp
  · simp [seesB, byteAt_out hp] at h; omega

theorem tk_le {s : ByteArray} {lo hi : Int} (h0 : 0 ≤ lo) {st : Nat × Bool} (h : st.1 ≤ s.size) : (tk s lo hi st).1 ≤ s.size := by
  unfold tk
  split
  · rename_i hc; simp at hc; have := seesB_in h0 hc.2; simp; omega
  · exact h

set_option maxHeartbeats 400000 in
theorem sees_in (b p : Nat) (s : ByteArray) (lo hi : Int) (w : World) (c0 : w.cell? ⟨b, 0, none⟩ = some (.string s)) (c1 : w.cell? ⟨b, 1, none⟩ = some (.int .i64 p)) (hp : p < s.size) (h1 : lo ≤ (s[p].toNat : Int)) :
    Calls Tryz.prog 192 #[.pointer (some ⟨b, 0, none⟩), .int .u8 lo, .int .u8 hi] w fun e w' => e = .returned (.bool (decide ((s[p].toNat : Int) ≤ hi))) ∧ ∃ n, w' = w.drewN n := by
  have hp' : (p : Int) < (s.size : Int) := by omega
  go_enter Tryz.func192, Tryz.ntmps192
  go_wp2
  go_quiet (fail)
  go_wp2
  go_ret
  exact ⟨rfl, _, rfl⟩

set_option maxHeartbeats 400000 in
theorem sees_low (b p : Nat) (s : ByteArray) (lo hi : Int) (w : World) (c0 : w.cell? ⟨b, 0, none⟩ = some (.string s)) (c1 : w.cell? ⟨b, 1, none⟩ = some (.int .i64 p)) (hp : p < s.size) (h1 : decide (lo ≤ (s[p].toNat : Int)) = false) :
    Calls Tryz.prog 192 #[.pointer (some ⟨b, 0, none⟩), .int .u8 lo, .int .u8 hi] w fun e w' => e = .returned (.bool false) ∧ ∃ n, w' = w.drewN n := by
  have hp' : (p : Int) < (s.size : Int) := by omega
  go_enter Tryz.func192, Tryz.ntmps192
  go_wp2
  go_quiet (fail)
  go_wp2
  go_ret
  exact ⟨rfl, _, rfl⟩

set_option maxHeartbeats 400000 in
theorem sees_out (b p : Nat) (s : ByteArray) (lo hi : Int) (w : World) (c0 : w.cell? ⟨b, 0, none⟩ = some (.string s)) (c1 : w.cell? ⟨b, 1, none⟩ = some (.int .i64 p)) (hp : decide (p < s.size) = false) :
    Calls Tryz.prog 192 #[.pointer (some ⟨b, 0, none⟩), .int .u8 lo, .int .u8 hi] w fun e w' => e = .returned (.bool false) ∧ ∃ n, w' = w.drewN n := by
  go_enter Tryz.func192, Tryz.ntmps192
  go_wp2
  go_quiet (fail)
  go_wp2
  go_ret
  exact ⟨rfl, _, rfl⟩

theorem sees_any (b : Nat) (s : ByteArray) (st : Nat × Bool) (lo hi : Int) (w : World) (h : Rd w b s st) (h0 : 0 ≤ lo) :
    Calls Tryz.prog 192 #[.pointer (some ⟨b, 0, none⟩), .int .u8 lo, .int .u8 hi] w fun e w' => e = .returned (.bool (seesB s st.1 lo hi)) ∧ ∃ n, w' = w.drewN n := by
  by_cases hp : st.1 < s.size
  · by_cases h1 : lo ≤ (s[st.1].toNat : Int)
    · refine (sees_in b st.1 s lo hi w h.c0 h.c1 hp h1).mono ?_
      rintro e w' ⟨rfl, hw⟩
      exact ⟨by simp [seesB, byteAt_in hp, h1], hw⟩
    · refine (sees_low b st.1 s lo hi w h.c0 h.c1 hp (by simpa using h1)).mono ?_
      rintro e w' ⟨rfl, hw⟩
      refine ⟨?_, hw⟩
      have : seesB s st.1 lo hi = false := by simp [seesB, byteAt_in hp]; intro h; exact absurd h h1
      rw [this]
  · refine (sees_out b st.1 s lo hi w h.c0 h.c1 (by simpa using hp)).mono ?_
    rintro e w' ⟨rfl, hw⟩
    refine ⟨?_, hw⟩
    have : seesB s st.1 lo hi = false := by simp [seesB, byteAt_out hp]; intro h; omega
    rw [this]

theorem Rd.drewN {w : World} {b : Nat} {s : ByteArray} {st : Nat × Bool} (h : Rd w b s st) (n : Nat) : Rd (w.drewN n) b s st :=
  ⟨h.c0, h.c1, h.c2, h.f1, h.f2, h.le, h.lt⟩

/-- The reader is still there in a world in which its block is as it was. -/
theorem Rd.of_block {w w' : World} {b : Nat} {s : ByteArray} {st : Nat × Bool} (h : Rd w b s st) (hb : w'.heap[b]? = w.heap[b]?) (hs : w.heap.size ≤ w'.heap.size) : Rd w' b s st :=
  ⟨(World.cell?_of_block (a := ⟨b, 0, none⟩) hb).trans h.c0, (World.cell?_of_block (a := ⟨b, 1, none⟩) hb).trans h.c1, (World.cell?_of_block (a := ⟨b, 2, none⟩) hb).trans h.c2,
   (World.frozen?_of_block (a := ⟨b, 1, none⟩) hb).trans h.f1, (World.frozen?_of_block (a := ⟨b, 2, none⟩) hb).trans h.f2, h.le, Nat.lt_of_lt_of_le h.lt hs⟩

theorem Rd.alloc {w : World} {b : Nat} {s : ByteArray} {st : Nat × Bool} (h : Rd w b s st) (o : Obj) : Rd (w.alloc o) b s st :=
  h.of_block (Below.heap_alloc _ _ _ h.lt) (by simp)

/-- What 'take' leaves where it reads no byte. -/
theorem Rd.fail {w : World} {b : Nat} {s : ByteArray} {st : Nat × Bool} (h : Rd w b s st) : Rd (w.setCell ⟨b, 2, none⟩ (.bool true)) b s (st.1, true) := by
  obtain ⟨c0, c1, c2, f1, f2, le, lt⟩ := h
  refine ⟨by go_simp, by go_simp, by go_simp, by go_simp, by go_simp, le, by simpa [World.setCell] using lt⟩

theorem Rd.step {w : World} {b : Nat} {s : ByteArray} {st : Nat × Bool} (h : Rd w b s st) (hb : st.2 = false) (hl : st.1 + 1 ≤ s.size) : Rd (w.setCell ⟨b, 1, none⟩ (.int .i64 (st.1 + 1 : Nat))) b s (st.1 + 1, false) := by
  obtain ⟨c0, c1, c2, f1, f2, le, lt⟩ := h
  rw [hb] at c2
  refine ⟨by go_simp, by go_simp, by go_simp, by go_simp, by go_simp, hl, by simpa [World.setCell] using lt⟩

end Go.Proofs.YtdlhgbhaeedbdabGreat

/- The reader: 'take', 'word'. -/
namespace Go.Proofs.YtdlhgbhaeedbdabGreat
open Go.RowKit

set_option maxHeartbeats 400000 in
theorem take_any (b : Nat) (s : ByteArray) (st : Nat × Bool) (lo hi : Int) (w : World) (h : Rd w b s st) (h0 : 0 ≤ lo) (hs : s.size ≤ 9223372036854775807) :
    Calls Tryz.prog 191 #[.pointer (some ⟨b, 0, none⟩), .int .u8 lo, .int .u8 hi] w fun e w' => e = .returned (.tuple #[]) ∧ Rd w' b s (tk s lo hi st) ∧ w.grownBy w' (some b) := by
  obtain ⟨p, bad⟩ := st
  have hs1 := sees_any b s (p, bad) lo hi w h h0
  have h' := h
  obtain ⟨c0, c1, c2, f1, f2, le, lt⟩ := h'
  simp only at c1 c2 le hs1
  have hnot : ∀ (x : Bool) (w : World), (Op.unary .not (.bool x)).run Tryz.prog w = .ok (.bool (!x)) w := fun _ _ => rfl
  cases bad with
  | true =>
    have hfin : tk s lo hi (p, true) = (p, true) := by simp [tk]
    rw [hfin]
    go_enter Tryz.func191, Tryz.ntmps191
    go_wp2_with fail
    refine hs1.mono ?_
    rintro e w' ⟨rfl, n, rfl⟩
    go_wp2
    refine bodyPost_ret (results_none rfl _ _ _) rfl ?_
    exact ⟨rfl, (h.drewN n).fail, gb_setCell (gb_drewN (World.grownBy.refl _ _) _) _⟩
  | false =>
    cases hb : seesB s p lo hi with
    | true =>
      have hfin : tk s lo hi (p, false) = (p + 1, false) := by simp [tk, hb]
      have hlt := seesB_in h0 hb
      rw [hfin]
      rw [hb] at hs1
      go_enter Tryz.func191, Tryz.ntmps191
      go_wp2_with fail
      refine hs1.mono ?_
      rintro e w' ⟨rfl, n, rfl⟩
      go_wp2
      go_end0
      exact ⟨rfl, (h.drewN n).step rfl hlt, gb_setCell (gb_drewN (World.grownBy.refl _ _) _) _⟩
    | false =>
      have hfin : tk s lo hi (p, false) = (p, true) := by simp [tk, hb]
      rw [hfin]
      rw [hb] at hs1
      go_enter Tryz.func191, Tryz.ntmps191
      go_wp2_with fail
      refine hs1.mono ?_
      rintro e w' ⟨rfl, n, rfl⟩
      go_wp2
      refine bodyPost_ret (results_none rfl _ _ _) rfl ?_
      exact ⟨rfl, (h.drewN n).fail, gb_setCell (gb_drewN (World.grownBy.refl _ _) _) _⟩

end Go.Proofs.YtdlhgbhaeedbdabGreat

/- The reader: 'word'. -/
namespace Go.Proofs.YtdlhgbhaeedbdabGreat
open Go.RowKit

theorem wd_snoc (s : ByteArray) (l : List UInt8) (c : UInt8) (st : Nat × Bool) : wd s (l ++ [c]) st = tk s (c.toNat : Int) (c.toNat : Int) (wd s l st) := by simp [wd]

theorem take_snoc' (ws : ByteArray) (k : Nat) (h : k < ws.size) : ws.data.toList.take (k + 1) = ws.data.toList.take k ++ [ws[k]] := by
  rw [List.take_succ_eq_append_getElem (by simpa using h)]; rfl

set_option maxHeartbeats 400000 in
theorem word_any (b : Nat) (s ws : ByteArray) (st : Nat × Bool) (w : World) (h : Rd w b s st) (hs : s.size ≤ 9223372036854775807) (hws : ws.size ≤ 400) :
    Calls Tryz.prog 185 #[.pointer (some ⟨b, 0, none⟩), .string ws] w fun e w' => e = .returned (.tuple #[]) ∧ Rd w' b s (wd s ws.data.toList st) ∧ w.grownBy w' (some b) := by
  go_enter Tryz.func185, Tryz.ntmps185
  go_wp2
  go_loopw [4] (fun i wr => ∃ k : Nat, k ≤ ws.size ∧ i = .int .i64 k ∧ Rd wr b s (wd s (ws.data.toList.take k) st) ∧ w.grownBy wr (some b)) (fun i _ => ws.size - (intOf i).toNat)
  case atStart => exact ⟨0, Nat.zero_le _, rfl, h, World.grownBy.refl _ _⟩
  case round =>
    obtain ⟨k, hk, rfl, hrd, hg⟩ := hrel
    by_cases hlt : k < ws.size
    · have hlt' : (k : Int) < (ws.size : Int) := by omega
      have HT : Hid (ws.data.toList.take (k + 1) = ws.data.toList.take k ++ [ws[k]]) := take_snoc' ws k hlt
      go_wp2
      go_region_with (go_at_call 191; refine (take_any b s _ _ _ _ (by exact hrd.drewN _) (by omega) hs).mono ?_; rintro e w1 ⟨rfl, hrd1, hg1⟩)
      all_goals
        go_wp2
        go_roundw
        case rel => exact ⟨k + 1, by omega, by go_num, by rw [HT.out, wd_snoc]; exact hrd1, gb_trans (gb_drewN hg _) hg1⟩
        case measure => simp [intOf]; omega
    · go_wp2
      go_end0
      exact ⟨rfl, by rw [List.take_of_length_le (by simp; omega)] at hrd; exact hrd, hg⟩

end Go.Proofs.YtdlhgbhaeedbdabGreat

/- The reader: 'name', 'number', 'mode'. -/
namespace Go.Proofs.YtdlhgbhaeedbdabGreat
open Go.RowKit

/-- One letter more of a name, if there is one. -/
def nmStep (s : ByteArray) (st : Nat × Bool) : Nat × Bool := if seesB s st.1 97 122 then tk s 97 122 st else st
def nmIter (s : ByteArray) : Nat → Nat × Bool → Nat × Bool
  | 0, st => st
  | k + 1, st => nmStep s (nmIter s k st)
/-- A name is read. -/
def nmS (s : ByteArray) (st : Nat × Bool) : Nat × Bool := nmIter s 3 (tk s 97 122 st)
def nmV (s : ByteArray) (st : Nat × Bool) : ByteArray := s.extract st.1 (nmS s st).1
/-- A digit 0 to 7 is read. -/
def nbS (s : ByteArray) (st : Nat × Bool) : Nat × Bool := tk s 48 55 st
def nbV (s : ByteArray) (st : Nat × Bool) : Int := if (nbS s st).2 then 0 else byteAt s st.1 - 48
/-- The digit that is read. -/
def dgV (s : ByteArray) (lo hi : Int) (st : Nat × Bool) : Int := if (tk s lo hi st).2 then 0 else byteAt s st.1 - 48
/-- A mode is read. -/
def mdS (s : ByteArray) (st : Nat × Bool) : Nat × Bool :=
  if seesB s (wd s [114] st).1 111 111 then wd s [111] (wd s [114] st) else wd s [119] (wd s [114] st)
/-- Is it the mode for reading alone? -/
def mdV (s : ByteArray) (st : Nat × Bool) : Bool := seesB s (wd s [114] st).1 111 111

theorem tk_mono (s : ByteArray) (lo hi : Int) (st : Nat × Bool) : st.1 ≤ (tk s lo hi st).1 := by
  unfold tk; split <;> simp
theorem nmStep_mono (s : ByteArray) (st : Nat × Bool) : st.1 ≤ (nmStep s st).1 := by
  unfold nmStep; split
  · exact tk_mono _ _ _ _
  · exact Nat.le_refl _
theorem nmIter_mono (s : ByteArray) (k : Nat) (st : Nat × Bool) : st.1 ≤ (nmIter s k st).1 := by
  induction k with
  | zero => exact Nat.le_refl _
  | succ k ih => exact Nat.le_trans ih (nmStep_mono _ _)
theorem nmS_mono (s : ByteArray) (st : Nat × Bool) : st.1 ≤ (nmS s st).1 := Nat.le_trans (tk_mono _ _ _ _) (nmIter_mono _ _ _)

set_option maxHeartbeats 400000 in
theorem name_any (b : Nat) (s : ByteArray) (st : Nat × Bool) (w : World) (h : Rd w b s st) (hs : s.size ≤ 9223372036854775807) :
    Calls Tryz.prog 186 #[.pointer (some ⟨b, 0, none⟩)] w fun e w' => e = .returned (.string (nmV s st)) ∧ Rd w' b s (nmS s st) ∧ w.grownBy w' (some b) := by
  have hc1 := h.c1
  have hle := h.le
  have hm := nmS_mono s st
  go_enter Tryz.func186, Tryz.ntmps186
  go_wp2_with (go_at_call 191; refine (take_any b s _ _ _ _ h (by omega) hs).mono ?_; rintro e w1 ⟨rfl, hrd1, hg1⟩)
  clear hc1
  go_loopw [4] (fun i wr => ∃ k : Nat, k ≤ 3 ∧ i = .int .i64 (k + 1 : Nat) ∧ Rd wr b s (nmIter s k (tk s 97 122 st)) ∧ w.grownBy wr (some b)) (fun i _ => 4 - (intOf i).toNat)
  case atStart => exact ⟨0, by omega, rfl, hrd1, hg1⟩
  case round =>
    obtain ⟨k, hk, rfl, hrd, hg⟩ := hrel
    by_cases hlt : k < 3
    · cases hb : seesB s (nmIter s k (tk s 97 122 st)).1 97 122 with
      | true =>
        have HB : Hid (nmIter s (k + 1) (tk s 97 122 st) = tk s 97 122 (nmIter s k (tk s 97 122 st))) := by
          show nmStep s _ = _
          simp [nmStep, hb]
        have hsee := sees_any b s _ 97 122 wr hrd (by omega)
        rw [hb] at hsee
        clear hb
        go_wp2_with (first | (go_at_call 192; refine hsee.mono ?_; rintro e w2 ⟨rfl, n2, rfl⟩) | (go_at_call 191; refine (take_any b s _ _ _ _ (hrd.drewN _) (by omega) hs).mono ?_; rintro e w3 ⟨rfl, hrd3, hg3⟩))
        go_roundw
        case rel => exact ⟨k + 1, by omega, by go_num, by rw [HB.out]; exact hrd3, gb_trans (gb_drewN hg _) hg3⟩
        case measure => simp [intOf]; omega
      | false =>
        have HB : Hid (nmIter s (k + 1) (tk s 97 122 st) = nmIter s k (tk s 97 122 st)) := by
          show nmStep s _ = _
          simp [nmStep, hb]
        have hsee := sees_any b s _ 97 122 wr hrd (by omega)
        rw [hb] at hsee
        clear hb
        go_wp2_with (go_at_call 192; refine hsee.mono ?_; rintro e w2 ⟨rfl, n2, rfl⟩)
        go_roundw
        case rel => exact ⟨k + 1, by omega, by go_num, by rw [HB.out]; exact hrd.drewN _, gb_drewN hg _⟩
        case measure => simp [intOf]; omega
    · have : k = 3 := by omega
      subst this
      have hrd' : Rd wr b s (nmS s st) := hrd
      clear hrd
      have d0 := hrd'.c0
      have d1 := hrd'.c1
      have dle := hrd'.le
      go_wp2
      go_quiet (fail)
      go_wp2
      go_ret
      exact ⟨by simp [nmV], hrd'.drewN _, gb_drewN hg _⟩

end Go.Proofs.YtdlhgbhaeedbdabGreat

/- The reader: 'digit', 'number', 'mode'. -/
namespace Go.Proofs.YtdlhgbhaeedbdabGreat
open Go.RowKit

theorem tk_ok {s : ByteArray} {lo hi : Int} {st : Nat × Bool} (h : (tk s lo hi st).2 = false) : st.2 = false ∧ seesB s st.1 lo hi = true ∧ tk s lo hi st = (st.1 + 1, false) := by
  unfold tk at h ⊢
  split at h
  · rename_i hc; simp at hc; simp [hc]
  · simp at h

set_option maxHeartbeats 400000 in
theorem digit_any (b : Nat) (s : ByteArray) (lo hi : Int) (st : Nat × Bool) (w : World) (h : Rd w b s st) (h0 : 48 ≤ lo) (h1 : hi ≤ 57) (hs : s.size ≤ 9223372036854775807) :
    Calls Tryz.prog 187 #[.pointer (some ⟨b, 0, none⟩), .int .u8 lo, .int .u8 hi] w fun e w' => e = .returned (.int .i64 (dgV s lo hi st)) ∧ Rd w' b s (tk s lo hi st) ∧ w.grownBy w' (some b) := by
  have hc1 := h.c1
  have hle := h.le
  cases hb : (tk s lo hi st).2 with
  | true =>
    have hv : dgV s lo hi st = 0 := by simp [dgV, hb]
    rw [hv]
    go_enter Tryz.func187, Tryz.ntmps187
    go_wp2_with (go_at_call 191; refine (take_any b s _ _ _ _ h (by omega) hs).mono ?_; rintro e w1 ⟨rfl, hrd1, hg1⟩; have d2 := hrd1.c2; rw [hb] at d2)
    go_ret
    exact ⟨rfl, hrd1, hg1⟩
  | false =>
    obtain ⟨h1', h2, h3⟩ := tk_ok hb
    have hp : st.1 < s.size := seesB_in (by omega) h2
    have hv : dgV s lo hi st = (s[st.1].toNat : Int) - 48 := by simp [dgV, hb, byteAt_in hp]
    have hlo : lo ≤ (s[st.1].toNat : Int) ∧ (s[st.1].toNat : Int) ≤ hi := by simpa [seesB, byteAt_in hp] using h2
    have hlo1 : (48 : Int) ≤ (s[st.1].toNat : Int) := by omega
    have hhi : (s[st.1].toNat : Int) ≤ 57 := by omega
    have hp' : (st.1 : Int) < (s.size : Int) := by omega
    rw [hv]
    have Hs : Hid ((tk s lo hi st) = (st.1 + 1, false)) := h3
    have H0 : Hid (0 ≤ lo) := (by omega : 0 ≤ lo)
    clear h1' h2 h3 hv hlo h0 h1
    go_enter Tryz.func187, Tryz.ntmps187
    go_wp2_with (go_at_call 191; refine (take_any b s _ _ _ _ h H0.out hs).mono ?_; rintro e w1 ⟨rfl, hrd1, hg1⟩; have d2 := hrd1.c2; rw [hb] at d2; have d0 := hrd1.c0)
    go_ret
    refine ⟨?_, hrd1, hg1⟩
    first | rfl | go_num | skip

theorem number_any (b : Nat) (s : ByteArray) (st : Nat × Bool) (w : World) (h : Rd w b s st) (hs : s.size ≤ 9223372036854775807) :
    Calls Tryz.prog 188 #[.pointer (some ⟨b, 0, none⟩)] w fun e w' => e = .returned (.int .i64 (nbV s st)) ∧ Rd w' b s (nbS s st) ∧ w.grownBy w' (some b) := by
  have hn : nbV s st = dgV s 48 55 st := rfl
  have hS : nbS s st = tk s 48 55 st := rfl
  rw [hn, hS]
  go_enter Tryz.func188, Tryz.ntmps188
  go_wp2_with fail
  refine (digit_any b s 48 55 st w h (by omega) (by omega) hs).mono ?_
  rintro e w1 ⟨rfl, hrd1, hg1⟩
  go_wp2
  go_ret
  exact ⟨rfl, hrd1, hg1⟩

set_option maxHeartbeats 400000 in
theorem mode_any (b : Nat) (s : ByteArray) (st : Nat × Bool) (w : World) (h : Rd w b s st) (hs : s.size ≤ 9223372036854775807) :
    Calls Tryz.prog 189 #[.pointer (some ⟨b, 0, none⟩)] w fun e w' => e = .returned (.bool (mdV s st)) ∧ Rd w' b s (mdS s st) ∧ w.grownBy w' (some b) := by
  cases hb : seesB s (wd s [114] st).1 111 111 with
  | true =>
    have hv : mdS s st = wd s [111] (wd s [114] st) := by simp [mdS, hb]
    have hv' : mdV s st = true := hb
    rw [hv, hv']
    clear hv hv'
    go_enter Tryz.func189, Tryz.ntmps189
    go_wp2_with fail
    refine (word_any b s _ _ _ h hs (by decide)).mono ?_
    rintro e w1 ⟨rfl, hrd1, hg1⟩
    have hrd1' : Rd w1 b s (wd s [114] st) := hrd1
    clear hrd1
    have hsee := sees_any b s _ 111 111 w1 hrd1' (by omega)
    rw [hb] at hsee
    go_wp2_with fail
    refine hsee.mono ?_
    rintro e w2 ⟨rfl, n2, rfl⟩
    go_wp2_with fail
    refine (word_any b s _ _ _ (hrd1'.drewN _) hs (by decide)).mono ?_
    rintro e w3 ⟨rfl, hrd3, hg3⟩
    go_wp2
    go_ret
    exact ⟨rfl, hrd3, gb_trans (gb_drewN hg1 _) hg3⟩
  | false =>
    have hv : mdS s st = wd s [119] (wd s [114] st) := by simp [mdS, hb]
    have hv' : mdV s st = false := hb
    rw [hv, hv']
    clear hv hv'
    go_enter Tryz.func189, Tryz.ntmps189
    go_wp2_with fail
    refine (word_any b s _ _ _ h hs (by decide)).mono ?_
    rintro e w1 ⟨rfl, hrd1, hg1⟩
    have hrd1' : Rd w1 b s (wd s [114] st) := hrd1
    clear hrd1
    have hsee := sees_any b s _ 111 111 w1 hrd1' (by omega)
    rw [hb] at hsee
    go_wp2_with fail
    refine hsee.mono ?_
    rintro e w2 ⟨rfl, n2, rfl⟩
    go_wp2_with fail
    refine (word_any b s _ _ _ (hrd1'.drewN _) hs (by decide)).mono ?_
    rintro e w3 ⟨rfl, hrd3, hg3⟩
    go_wp2
    go_ret
    exact ⟨rfl, hrd3, gb_trans (gb_drewN hg1 _) hg3⟩

end Go.Proofs.YtdlhgbhaeedbdabGreat

/- The reader: the five kinds of items. (Laid by mkitems.py.) -/
namespace Go.Proofs.YtdlhgbhaeedbdabGreat
open Go.RowKit

/-- The program's item. -/
structure Item where
  kind : Nat
  name : ByteArray
  host : ByteArray
  number : Int
  size : Int
  disk : ByteArray
  only : Bool
  lun : Int
  text : ByteArray

def Item.cells (i : Item) : Array Value := #[.int .i64 i.kind, .string i.name, .string i.host, .int .i64 i.number, .int .i64 i.size, .string i.disk, .bool i.only, .int .i64 i.lun, .string i.text]

/-- The zero item's cells. -/
def zItem : Array Value := #[.int .i64 0, .string ⟨#[]⟩, .string ⟨#[]⟩, .int .i64 0, .int .i64 0, .string ⟨#[]⟩, .bool false, .int .i64 0, .string ⟨#[]⟩]

/-- A block of an item's nine cells, as it was laid. -/
structure Cells9 (w : World) (b : Nat) : Prop where
  c0 : w.cell? ⟨b, 0, none⟩ = some (.int .i64 0)
  c1 : w.cell? ⟨b, 1, none⟩ = some (.string ⟨#[]⟩)
  c2 : w.cell? ⟨b, 2, none⟩ = some (.string ⟨#[]⟩)
  c3 : w.cell? ⟨b, 3, none⟩ = some (.int .i64 0)
  c4 : w.cell? ⟨b, 4, none⟩ = some (.int .i64 0)
  c5 : w.cell? ⟨b, 5, none⟩ = some (.string ⟨#[]⟩)
  c6 : w.cell? ⟨b, 6, none⟩ = some (.bool false)
  c7 : w.cell? ⟨b, 7, none⟩ = some (.int .i64 0)
  c8 : w.cell? ⟨b, 8, none⟩ = some (.string ⟨#[]⟩)
  f0 : w.frozen? ⟨b, 0, none⟩ = false
  f1 : w.frozen? ⟨b, 1, none⟩ = false
  f2 : w.frozen? ⟨b, 2, none⟩ = false
  f3 : w.frozen? ⟨b, 3, none⟩ = false
  f4 : w.frozen? ⟨b, 4, none⟩ = false
  f5 : w.frozen? ⟨b, 5, none⟩ = false
  f6 : w.frozen? ⟨b, 6, none⟩ = false
  f7 : w.frozen? ⟨b, 7, none⟩ = false
  f8 : w.frozen? ⟨b, 8, none⟩ = false

theorem Cells9.of_block {w : World} {b : Nat} (hb : w.heap[b]? = some (.cells zItem 83 (0, 0))) : Cells9 w b := by
  constructor <;> simp [World.cell?, World.frozen?, hb, zItem]

theorem Cells9.of_grown {w w' : World} {b : Nat} (hb : b < w.heap.size) (hg : (w.alloc (.cells zItem 83)).grownBy w' (some b)) : Cells9 w' w.heap.size := by
  refine Cells9.of_block ?_
  rw [hg.block w.heap.size (by simp) (by simp; omega)]
  show (w.heap.push _)[w.heap.size]? = _
  simp

theorem Rd.setOther {w : World} {b : Nat} {s : ByteArray} {st : Nat × Bool} (h : Rd w b s st) {p : Addr} (hp : b ≠ p.block) (u : Value) : Rd (w.setCell p u) b s st :=
  h.of_block (Below.heap_setCell _ _ _ _ hp) (by simp [World.setCell])

/-- Nine cells of one block are stored. -/
theorem Rd.set9 {w : World} {b : Nat} {s : ByteArray} {st : Nat × Bool} (h : Rd w b s st) {n : Nat} (hp : b ≠ n) (u0 u1 u2 u3 u4 u5 u6 u7 u8 : Value) :
    Rd (((((((((w.setCell ⟨n, 0, none⟩ u0).setCell ⟨n, 1, none⟩ u1).setCell ⟨n, 2, none⟩ u2).setCell ⟨n, 3, none⟩ u3).setCell ⟨n, 4, none⟩ u4).setCell ⟨n, 5, none⟩ u5).setCell ⟨n, 6, none⟩ u6).setCell ⟨n, 7, none⟩ u7).setCell ⟨n, 8, none⟩ u8) b s st :=
  (((((((((h.setOther (p := ⟨n, 0, none⟩) hp u0).setOther (p := ⟨n, 1, none⟩) hp u1).setOther (p := ⟨n, 2, none⟩) hp u2).setOther (p := ⟨n, 3, none⟩) hp u3).setOther (p := ⟨n, 4, none⟩) hp u4).setOther (p := ⟨n, 5, none⟩) hp u5).setOther (p := ⟨n, 6, none⟩) hp u6).setOther (p := ⟨n, 7, none⟩) hp u7).setOther (p := ⟨n, 8, none⟩) hp u8)

theorem gb_set9 {a w : World} {r : Option Nat} (h : a.grownBy w r) {n : Nat} (hp : a.heap.size ≤ n) (u0 u1 u2 u3 u4 u5 u6 u7 u8 : Value) :
    a.grownBy (((((((((w.setCell ⟨n, 0, none⟩ u0).setCell ⟨n, 1, none⟩ u1).setCell ⟨n, 2, none⟩ u2).setCell ⟨n, 3, none⟩ u3).setCell ⟨n, 4, none⟩ u4).setCell ⟨n, 5, none⟩ u5).setCell ⟨n, 6, none⟩ u6).setCell ⟨n, 7, none⟩ u7).setCell ⟨n, 8, none⟩ u8) r :=
  (gb_setNew (p := ⟨n, 8, none⟩) (gb_setNew (p := ⟨n, 7, none⟩) (gb_setNew (p := ⟨n, 6, none⟩) (gb_setNew (p := ⟨n, 5, none⟩) (gb_setNew (p := ⟨n, 4, none⟩) (gb_setNew (p := ⟨n, 3, none⟩) (gb_setNew (p := ⟨n, 2, none⟩) (gb_setNew (p := ⟨n, 1, none⟩) (gb_setNew (p := ⟨n, 0, none⟩) h hp u0) hp u1) hp u2) hp u3) hp u4) hp u5) hp u6) hp u7) hp u8)

def diskS1 (s : ByteArray) (st : Nat × Bool) : Nat × Bool := wd s [100, 105, 115, 107, 32] st
def diskS2 (s : ByteArray) (st : Nat × Bool) : Nat × Bool := nmS s (diskS1 s st)
def diskS3 (s : ByteArray) (st : Nat × Bool) : Nat × Bool := wd s [32] (diskS2 s st)
def diskS4 (s : ByteArray) (st : Nat × Bool) : Nat × Bool := tk s 49 57 (diskS3 s st)
def diskS5 (s : ByteArray) (st : Nat × Bool) : Nat × Bool := wd s [59] (diskS4 s st)
def diskI (s : ByteArray) (st : Nat × Bool) : Item := ⟨0, (nmV s (diskS1 s st)), ⟨#[]⟩, 0, (dgV s 49 57 (diskS3 s st)), ⟨#[]⟩, false, 0, ⟨#[]⟩⟩

set_option maxHeartbeats 400000 in
theorem disk_any (b : Nat) (s : ByteArray) (st : Nat × Bool) (w : World) (h : Rd w b s st) (hs : s.size ≤ 9223372036854775807) :
    Calls Tryz.prog 178 #[.pointer (some ⟨b, 0, none⟩)] w fun e w' => e = .returned (.agg (diskI s st).cells) ∧ Rd w' b s (diskS5 s st) ∧ w.grownBy w' (some b) := by
  have hlt := h.lt
  go_enter Tryz.func178, Tryz.ntmps178
  go_wp2_with fail
  refine (word_any b s _ _ _ (h.alloc _) hs (by decide)).mono ?_
  rintro e w1 ⟨rfl, hrd1, hg1⟩
  replace hrd1 : Rd w1 b s (diskS1 s st) := hrd1
  go_wp2_with fail
  refine (name_any b s _ _ hrd1 hs).mono ?_
  rintro e w2 ⟨rfl, hrd2, hg2⟩
  replace hrd2 : Rd w2 b s (diskS2 s st) := hrd2
  go_wp2_with fail
  refine (word_any b s _ _ _ hrd2 hs (by decide)).mono ?_
  rintro e w3 ⟨rfl, hrd3, hg3⟩
  replace hrd3 : Rd w3 b s (diskS3 s st) := hrd3
  go_wp2_with fail
  refine (digit_any b s 49 57 _ _ hrd3 (by omega) (by omega) hs).mono ?_
  rintro e w4 ⟨rfl, hrd4, hg4⟩
  replace hrd4 : Rd w4 b s (diskS4 s st) := hrd4
  go_wp2_with fail
  refine (word_any b s _ _ _ hrd4 hs (by decide)).mono ?_
  rintro e w5 ⟨rfl, hrd5, hg5⟩
  replace hrd5 : Rd w5 b s (diskS5 s st) := hrd5
  have hgg := (gb_trans hg1 (gb_trans hg2 (gb_trans hg3 (gb_trans hg4 hg5))))
  obtain ⟨c0, c1, c2, c3, c4, c5, c6, c7, c8, f0, f1, f2, f3, f4, f5, f6, f7, f8⟩ := Cells9.of_grown hlt hgg
  go_wp2_with fail
  refine bodyPost_ret (v := .agg #[.int .i64 0, .string (nmV s (diskS1 s st)), .string ⟨#[]⟩, .int .i64 0, .int .i64 (dgV s 49 57 (diskS3 s st)), .string ⟨#[]⟩, .bool false, .int .i64 0, .string ⟨#[]⟩]) (by simp [results, Tryz.results178, go_sem, c0, c1, c2, c3, c4, c5, c6, c7, c8]) rfl ⟨rfl, ?_, ?_⟩
  · exact hrd5.set9 (by omega) _ _ _ _ _ _ _ _ _
  · exact gb_set9 (gb_trans (World.grownBy_alloc _ _ _) hgg) (Nat.le_refl _) _ _ _ _ _ _ _ _ _

def targetS1 (s : ByteArray) (st : Nat × Bool) : Nat × Bool := wd s [116, 97, 114, 103, 101, 116, 32] st
def targetS2 (s : ByteArray) (st : Nat × Bool) : Nat × Bool := nmS s (targetS1 s st)
def targetS3 (s : ByteArray) (st : Nat × Bool) : Nat × Bool := wd s [59] (targetS2 s st)
def targetI (s : ByteArray) (st : Nat × Bool) : Item := ⟨1, (nmV s (targetS1 s st)), ⟨#[]⟩, 0, 0, ⟨#[]⟩, false, 0, ⟨#[]⟩⟩

set_option maxHeartbeats 400000 in
theorem target_any (b : Nat) (s : ByteArray) (st : Nat × Bool) (w : World) (h : Rd w b s st) (hs : s.size ≤ 9223372036854775807) :
    Calls Tryz.prog 179 #[.pointer (some ⟨b, 0, none⟩)] w fun e w' => e = .returned (.agg (targetI s st).cells) ∧ Rd w' b s (targetS3 s st) ∧ w.grownBy w' (some b) := by
  have hlt := h.lt
  go_enter Tryz.func179, Tryz.ntmps179
  go_wp2_with fail
  refine (word_any b s _ _ _ (h.alloc _) hs (by decide)).mono ?_
  rintro e w1 ⟨rfl, hrd1, hg1⟩
  replace hrd1 : Rd w1 b s (targetS1 s st) := hrd1
  go_wp2_with fail
  refine (name_any b s _ _ hrd1 hs).mono ?_
  rintro e w2 ⟨rfl, hrd2, hg2⟩
  replace hrd2 : Rd w2 b s (targetS2 s st) := hrd2
  go_wp2_with fail
  refine (word_any b s _ _ _ hrd2 hs (by decide)).mono ?_
  rintro e w3 ⟨rfl, hrd3, hg3⟩
  replace hrd3 : Rd w3 b s (targetS3 s st) := hrd3
  have hgg := (gb_trans hg1 (gb_trans hg2 hg3))
  obtain ⟨c0, c1, c2, c3, c4, c5, c6, c7, c8, f0, f1, f2, f3, f4, f5, f6, f7, f8⟩ := Cells9.of_grown hlt hgg
  go_wp2_with fail
  refine bodyPost_ret (v := .agg #[.int .i64 1, .string (nmV s (targetS1 s st)), .string ⟨#[]⟩, .int .i64 0, .int .i64 0, .string ⟨#[]⟩, .bool false, .int .i64 0, .string ⟨#[]⟩]) (by simp [results, Tryz.results179, go_sem, c0, c1, c2, c3, c4, c5, c6, c7, c8]) rfl ⟨rfl, ?_, ?_⟩
  · exact hrd3.set9 (by omega) _ _ _ _ _ _ _ _ _
  · exact gb_set9 (gb_trans (World.grownBy_alloc _ _ _) hgg) (Nat.le_refl _) _ _ _ _ _ _ _ _ _

def lunS1 (s : ByteArray) (st : Nat × Bool) : Nat × Bool := wd s [108, 117, 110, 32] st
def lunS2 (s : ByteArray) (st : Nat × Bool) : Nat × Bool := nmS s (lunS1 s st)
def lunS3 (s : ByteArray) (st : Nat × Bool) : Nat × Bool := wd s [32] (lunS2 s st)
def lunS4 (s : ByteArray) (st : Nat × Bool) : Nat × Bool := nbS s (lunS3 s st)
def lunS5 (s : ByteArray) (st : Nat × Bool) : Nat × Bool := wd s [32] (lunS4 s st)
def lunS6 (s : ByteArray) (st : Nat × Bool) : Nat × Bool := nmS s (lunS5 s st)
def lunS7 (s : ByteArray) (st : Nat × Bool) : Nat × Bool := wd s [32] (lunS6 s st)
def lunS8 (s : ByteArray) (st : Nat × Bool) : Nat × Bool := mdS s (lunS7 s st)
def lunS9 (s : ByteArray) (st : Nat × Bool) : Nat × Bool := wd s [59] (lunS8 s st)
def lunI (s : ByteArray) (st : Nat × Bool) : Item := ⟨2, (nmV s (lunS1 s st)), ⟨#[]⟩, (nbV s (lunS3 s st)), 0, (nmV s (lunS5 s st)), (mdV s (lunS7 s st)), 0, ⟨#[]⟩⟩

set_option maxHeartbeats 400000 in
theorem lun_any (b : Nat) (s : ByteArray) (st : Nat × Bool) (w : World) (h : Rd w b s st) (hs : s.size ≤ 9223372036854775807) :
    Calls Tryz.prog 180 #[.pointer (some ⟨b, 0, none⟩)] w fun e w' => e = .returned (.agg (lunI s st).cells) ∧ Rd w' b s (lunS9 s st) ∧ w.grownBy w' (some b) := by
  have hlt := h.lt
  go_enter Tryz.func180, Tryz.ntmps180
  go_wp2_with fail
  refine (word_any b s _ _ _ (h.alloc _) hs (by decide)).mono ?_
  rintro e w1 ⟨rfl, hrd1, hg1⟩
  replace hrd1 : Rd w1 b s (lunS1 s st) := hrd1
  go_wp2_with fail
  refine (name_any b s _ _ hrd1 hs).mono ?_
  rintro e w2 ⟨rfl, hrd2, hg2⟩
  replace hrd2 : Rd w2 b s (lunS2 s st) := hrd2
  go_wp2_with fail
  refine (word_any b s _ _ _ hrd2 hs (by decide)).mono ?_
  rintro e w3 ⟨rfl, hrd3, hg3⟩
  replace hrd3 : Rd w3 b s (lunS3 s st) := hrd3
  go_wp2_with fail
  refine (number_any b s _ _ hrd3 hs).mono ?_
  rintro e w4 ⟨rfl, hrd4, hg4⟩
  replace hrd4 : Rd w4 b s (lunS4 s st) := hrd4
  go_wp2_with fail
  refine (word_any b s _ _ _ hrd4 hs (by decide)).mono ?_
  rintro e w5 ⟨rfl, hrd5, hg5⟩
  replace hrd5 : Rd w5 b s (lunS5 s st) := hrd5
  go_wp2_with fail
  refine (name_any b s _ _ hrd5 hs).mono ?_
  rintro e w6 ⟨rfl, hrd6, hg6⟩
  replace hrd6 : Rd w6 b s (lunS6 s st) := hrd6
  go_wp2_with fail
  refine (word_any b s _ _ _ hrd6 hs (by decide)).mono ?_
  rintro e w7 ⟨rfl, hrd7, hg7⟩
  replace hrd7 : Rd w7 b s (lunS7 s st) := hrd7
  go_wp2_with fail
  refine (mode_any b s _ _ hrd7 hs).mono ?_
  rintro e w8 ⟨rfl, hrd8, hg8⟩
  replace hrd8 : Rd w8 b s (lunS8 s st) := hrd8
  go_wp2_with fail
  refine (word_any b s _ _ _ hrd8 hs (by decide)).mono ?_
  rintro e w9 ⟨rfl, hrd9, hg9⟩
  replace hrd9 : Rd w9 b s (lunS9 s st) := hrd9
  have hgg := (gb_trans hg1 (gb_trans hg2 (gb_trans hg3 (gb_trans hg4 (gb_trans hg5 (gb_trans hg6 (gb_trans hg7 (gb_trans hg8 hg9))))))))
  obtain ⟨c0, c1, c2, c3, c4, c5, c6, c7, c8, f0, f1, f2, f3, f4, f5, f6, f7, f8⟩ := Cells9.of_grown hlt hgg
  go_wp2_with fail
  refine bodyPost_ret (v := .agg #[.int .i64 2, .string (nmV s (lunS1 s st)), .string ⟨#[]⟩, .int .i64 (nbV s (lunS3 s st)), .int .i64 0, .string (nmV s (lunS5 s st)), .bool (mdV s (lunS7 s st)), .int .i64 0, .string ⟨#[]⟩]) (by simp [results, Tryz.results180, go_sem, c0, c1, c2, c3, c4, c5, c6, c7, c8]) rfl ⟨rfl, ?_, ?_⟩
  · exact hrd9.set9 (by omega) _ _ _ _ _ _ _ _ _
  · exact gb_set9 (gb_trans (World.grownBy_alloc _ _ _) hgg) (Nat.le_refl _) _ _ _ _ _ _ _ _ _

def hostS1 (s : ByteArray) (st : Nat × Bool) : Nat × Bool := wd s [104, 111, 115, 116, 32] st
def hostS2 (s : ByteArray) (st : Nat × Bool) : Nat × Bool := nmS s (hostS1 s st)
def hostS3 (s : ByteArray) (st : Nat × Bool) : Nat × Bool := wd s [32] (hostS2 s st)
def hostS4 (s : ByteArray) (st : Nat × Bool) : Nat × Bool := nmS s (hostS3 s st)
def hostS5 (s : ByteArray) (st : Nat × Bool) : Nat × Bool := wd s [59] (hostS4 s st)
def hostI (s : ByteArray) (st : Nat × Bool) : Item := ⟨3, (nmV s (hostS1 s st)), (nmV s (hostS3 s st)), 0, 0, ⟨#[]⟩, false, 0, ⟨#[]⟩⟩

set_option maxHeartbeats 400000 in
theorem host_any (b : Nat) (s : ByteArray) (st : Nat × Bool) (w : World) (h : Rd w b s st) (hs : s.size ≤ 9223372036854775807) :
    Calls Tryz.prog 181 #[.pointer (some ⟨b, 0, none⟩)] w fun e w' => e = .returned (.agg (hostI s st).cells) ∧ Rd w' b s (hostS5 s st) ∧ w.grownBy w' (some b) := by
  have hlt := h.lt
  go_enter Tryz.func181, Tryz.ntmps181
  go_wp2_with fail
  refine (word_any b s _ _ _ (h.alloc _) hs (by decide)).mono ?_
  rintro e w1 ⟨rfl, hrd1, hg1⟩
  replace hrd1 : Rd w1 b s (hostS1 s st) := hrd1
  go_wp2_with fail
  refine (name_any b s _ _ hrd1 hs).mono ?_
  rintro e w2 ⟨rfl, hrd2, hg2⟩
  replace hrd2 : Rd w2 b s (hostS2 s st) := hrd2
  go_wp2_with fail
  refine (word_any b s _ _ _ hrd2 hs (by decide)).mono ?_
  rintro e w3 ⟨rfl, hrd3, hg3⟩
  replace hrd3 : Rd w3 b s (hostS3 s st) := hrd3
  go_wp2_with fail
  refine (name_any b s _ _ hrd3 hs).mono ?_
  rintro e w4 ⟨rfl, hrd4, hg4⟩
  replace hrd4 : Rd w4 b s (hostS4 s st) := hrd4
  go_wp2_with fail
  refine (word_any b s _ _ _ hrd4 hs (by decide)).mono ?_
  rintro e w5 ⟨rfl, hrd5, hg5⟩
  replace hrd5 : Rd w5 b s (hostS5 s st) := hrd5
  have hgg := (gb_trans hg1 (gb_trans hg2 (gb_trans hg3 (gb_trans hg4 hg5))))
  obtain ⟨c0, c1, c2, c3, c4, c5, c6, c7, c8, f0, f1, f2, f3, f4, f5, f6, f7, f8⟩ := Cells9.of_grown hlt hgg
  go_wp2_with fail
  refine bodyPost_ret (v := .agg #[.int .i64 3, .string (nmV s (hostS1 s st)), .string (nmV s (hostS3 s st)), .int .i64 0, .int .i64 0, .string ⟨#[]⟩, .bool false, .int .i64 0, .string ⟨#[]⟩]) (by simp [results, Tryz.results181, go_sem, c0, c1, c2, c3, c4, c5, c6, c7, c8]) rfl ⟨rfl, ?_, ?_⟩
  · exact hrd5.set9 (by omega) _ _ _ _ _ _ _ _ _
  · exact gb_set9 (gb_trans (World.grownBy_alloc _ _ _) hgg) (Nat.le_refl _) _ _ _ _ _ _ _ _ _

def mapsS1 (s : ByteArray) (st : Nat × Bool) : Nat × Bool := wd s [109, 97, 112, 32] st
def mapsS2 (s : ByteArray) (st : Nat × Bool) : Nat × Bool := nmS s (mapsS1 s st)
def mapsS3 (s : ByteArray) (st : Nat × Bool) : Nat × Bool := wd s [32] (mapsS2 s st)
def mapsS4 (s : ByteArray) (st : Nat × Bool) : Nat × Bool := nmS s (mapsS3 s st)
def mapsS5 (s : ByteArray) (st : Nat × Bool) : Nat × Bool := wd s [32] (mapsS4 s st)
def mapsS6 (s : ByteArray) (st : Nat × Bool) : Nat × Bool := nbS s (mapsS5 s st)
def mapsS7 (s : ByteArray) (st : Nat × Bool) : Nat × Bool := wd s [32] (mapsS6 s st)
def mapsS8 (s : ByteArray) (st : Nat × Bool) : Nat × Bool := nbS s (mapsS7 s st)
def mapsS9 (s : ByteArray) (st : Nat × Bool) : Nat × Bool := wd s [59] (mapsS8 s st)
def mapsI (s : ByteArray) (st : Nat × Bool) : Item := ⟨4, (nmV s (mapsS1 s st)), (nmV s (mapsS3 s st)), (nbV s (mapsS5 s st)), 0, ⟨#[]⟩, false, (nbV s (mapsS7 s st)), ⟨#[]⟩⟩

set_option maxHeartbeats 400000 in
theorem maps_any (b : Nat) (s : ByteArray) (st : Nat × Bool) (w : World) (h : Rd w b s st) (hs : s.size ≤ 9223372036854775807) :
    Calls Tryz.prog 182 #[.pointer (some ⟨b, 0, none⟩)] w fun e w' => e = .returned (.agg (mapsI s st).cells) ∧ Rd w' b s (mapsS9 s st) ∧ w.grownBy w' (some b) := by
  have hlt := h.lt
  go_enter Tryz.func182, Tryz.ntmps182
  go_wp2_with fail
  refine (word_any b s _ _ _ (h.alloc _) hs (by decide)).mono ?_
  rintro e w1 ⟨rfl, hrd1, hg1⟩
  replace hrd1 : Rd w1 b s (mapsS1 s st) := hrd1
  go_wp2_with fail
  refine (name_any b s _ _ hrd1 hs).mono ?_
  rintro e w2 ⟨rfl, hrd2, hg2⟩
  replace hrd2 : Rd w2 b s (mapsS2 s st) := hrd2
  go_wp2_with fail
  refine (word_any b s _ _ _ hrd2 hs (by decide)).mono ?_
  rintro e w3 ⟨rfl, hrd3, hg3⟩
  replace hrd3 : Rd w3 b s (mapsS3 s st) := hrd3
  go_wp2_with fail
  refine (name_any b s _ _ hrd3 hs).mono ?_
  rintro e w4 ⟨rfl, hrd4, hg4⟩
  replace hrd4 : Rd w4 b s (mapsS4 s st) := hrd4
  go_wp2_with fail
  refine (word_any b s _ _ _ hrd4 hs (by decide)).mono ?_
  rintro e w5 ⟨rfl, hrd5, hg5⟩
  replace hrd5 : Rd w5 b s (mapsS5 s st) := hrd5
  go_wp2_with fail
  refine (number_any b s _ _ hrd5 hs).mono ?_
  rintro e w6 ⟨rfl, hrd6, hg6⟩
  replace hrd6 : Rd w6 b s (mapsS6 s st) := hrd6
  go_wp2_with fail
  refine (word_any b s _ _ _ hrd6 hs (by decide)).mono ?_
  rintro e w7 ⟨rfl, hrd7, hg7⟩
  replace hrd7 : Rd w7 b s (mapsS7 s st) := hrd7
  go_wp2_with fail
  refine (number_any b s _ _ hrd7 hs).mono ?_
  rintro e w8 ⟨rfl, hrd8, hg8⟩
  replace hrd8 : Rd w8 b s (mapsS8 s st) := hrd8
  go_wp2_with fail
  refine (word_any b s _ _ _ hrd8 hs (by decide)).mono ?_
  rintro e w9 ⟨rfl, hrd9, hg9⟩
  replace hrd9 : Rd w9 b s (mapsS9 s st) := hrd9
  have hgg := (gb_trans hg1 (gb_trans hg2 (gb_trans hg3 (gb_trans hg4 (gb_trans hg5 (gb_trans hg6 (gb_trans hg7 (gb_trans hg8 hg9))))))))
  obtain ⟨c0, c1, c2, c3, c4, c5, c6, c7, c8, f0, f1, f2, f3, f4, f5, f6, f7, f8⟩ := Cells9.of_grown hlt hgg
  go_wp2_with fail
  refine bodyPost_ret (v := .agg #[.int .i64 4, .string (nmV s (mapsS1 s st)), .string (nmV s (mapsS3 s st)), .int .i64 (nbV s (mapsS5 s st)), .int .i64 0, .string ⟨#[]⟩, .bool false, .int .i64 (nbV s (mapsS7 s st)), .string ⟨#[]⟩]) (by simp [results, Tryz.results182, go_sem, c0, c1, c2, c3, c4, c5, c6, c7, c8]) rfl ⟨rfl, ?_, ?_⟩
  · exact hrd9.set9 (by omega) _ _ _ _ _ _ _ _ _
  · exact gb_set9 (gb_trans (World.grownBy_alloc _ _ _) hgg) (Nat.le_refl _) _ _ _ _ _ _ _ _ _

end Go.Proofs.YtdlhgbhaeedbdabGreat
