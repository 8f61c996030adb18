/- The reader: its methods 'sees', 'take', 'word', by their contracts. -/
import Derived.Test.YtdlhgbhaeedbdaaGreatProg
import Derived.Test.YtdlhgbhaeedbdaaGreatBase
import Derived.Deep.RegionWith
namespace Go.Proofs.YtdlhgbhaeedbdaaGreat
open Go.RowKit

/-- The byte at p, or -1 behind the end. -/
def byteAt (s : ByteArray) (p : Nat) : Int := if h : p < s.size then (s[p].toNat : Int) else -1

/-- Is the byte at p one from lo to hi? -/
def seesB (s : ByteArray) (p : Nat) (lo hi : Int) : Bool := decide (lo ≤ byteAt s p) && decide (byteAt s p ≤ hi)

/-- One byte from lo to hi is read. -/
def tk (s : ByteArray) (lo hi : Int) (st : Nat × Bool) : Nat × Bool := if !st.2 && seesB s st.1 lo hi then (st.1 + 1, false) else (st.1, true)

/-- Just these bytes are read. -/
def wd (s : ByteArray) (ws : List UInt8) (st : Nat × Bool) : Nat × Bool := ws.foldl (fun st c => tk s (c.toNat : Int) (c.toNat : Int) st) st

/-- The reader in block b: its text, its place, is it bad. -/
structure Rd (w : World) (b : Nat) (s : ByteArray) (st : Nat × Bool) : Prop where
  c0 : w.cell? ⟨b, 0, none⟩ = some (.string s)
  c1 : w.cell? ⟨b, 1, none⟩ = some (.int .i64 st.1)
  c2 : w.cell? ⟨b, 2, none⟩ = some (.bool st.2)
  f1 : w.frozen? ⟨b, 1, none⟩ = false
  f2 : w.frozen? ⟨b, 2, none⟩ = false
  le : st.1 ≤ s.size
  lt : b < w.heap.size

theorem byteAt_in {s : ByteArray} {p : Nat} (h : p < s.size) : byteAt s p = (s[p].toNat : Int) := by simp [byteAt, h]
theorem byteAt_out {s : ByteArray} {p : Nat} (h : ¬ p < s.size) : byteAt s p = -1 := by simp [byteAt, h]

theorem seesB_in {s : ByteArray} {p : Nat} {lo hi : Int} (h0 : 0 ≤ lo) (h : seesB s p lo hi = true) : p < s.size := by
  by_cases hp : p < s.size
  · exact hp
  · simp [seesB, byteAt_out hp] at h; omega

theorem tk_le {s : ByteArray} {lo hi : Int} (h0 : 0 ≤ lo) {st : Nat × Bool} (h : st.1 ≤ s.size) : (tk s lo hi st).1 ≤ s.size := by
  unfold tk
  split
  · rename_i hc; simp at hc; have := seesB_in h0 hc.2; simp; omega
  · exact h

set_option maxHeartbeats 400000 in
theorem sees_in (b p : Nat) (s : ByteArray) (lo hi : Int) (w : World) (c0 : w.cell? ⟨b, 0, none⟩ = some (.string s)) (c1 : w.cell? ⟨b, 1, none⟩ = some (.int .i64 p)) (hp : p < s.size) (h1 : lo ≤ (s[p].toNat : Int)) :
    Calls Tryz.prog 170 #[.pointer (some ⟨b, 0, none⟩), .int .u8 lo, .int .u8 hi] w fun e w' => e = .returned (.bool (decide ((s[p].toNat : Int) ≤ hi))) ∧ ∃ n, w' = w.drewN n := by
  have hp' : (p : Int) < (s.size : Int) := by omega
  go_enter Tryz.func170, Tryz.ntmps170
  go_wp2
  go_quiet (fail)
  go_wp2
  go_ret
  exact ⟨rfl, _, rfl⟩

set_option maxHeartbeats 400000 in
theorem sees_low (b p : Nat) (s : ByteArray) (lo hi : Int) (w : World) (c0 : w.cell? ⟨b, 0, none⟩ = some (.string s)) (c1 : w.cell? ⟨b, 1, none⟩ = some (.int .i64 p)) (hp : p < s.size) (h1 : decide (lo ≤ (s[p].toNat : Int)) = false) :
    Calls Tryz.prog 170 #[.pointer (some ⟨b, 0, none⟩), .int .u8 lo, .int .u8 hi] w fun e w' => e = .returned (.bool false) ∧ ∃ n, w' = w.drewN n := by
  have hp' : (p : Int) < (s.size : Int) := by omega
  go_enter Tryz.func170, Tryz.ntmps170
  go_wp2
  go_quiet (fail)
  go_wp2
  go_ret
  exact ⟨rfl, _, rfl⟩

set_option maxHeartbeats 400000 in
theorem sees_out (b p : Nat) (s : ByteArray) (lo hi : Int) (w : World) (c0 : w.cell? ⟨b, 0, none⟩ = some (.string s)) (c1 : w.cell? ⟨b, 1, none⟩ = some (.int .i64 p)) (hp : decide (p < s.size) = false) :
    Calls Tryz.prog 170 #[.pointer (some ⟨b, 0, none⟩), .int .u8 lo, .int .u8 hi] w fun e w' => e = .returned (.bool false) ∧ ∃ n, w' = w.drewN n := by
  go_enter Tryz.func170, Tryz.ntmps170
  go_wp2
  go_quiet (fail)
  go_wp2
  go_ret
  exact ⟨rfl, _, rfl⟩

theorem sees_any (b : Nat) (s : ByteArray) (st : Nat × Bool) (lo hi : Int) (w : World) (h : Rd w b s st) (h0 : 0 ≤ lo) :
    Calls Tryz.prog 170 #[.pointer (some ⟨b, 0, none⟩), .int .u8 lo, .int .u8 hi] w fun e w' => e = .returned (.bool (seesB s st.1 lo hi)) ∧ ∃ n, w' = w.drewN n := by
  by_cases hp : st.1 < s.size
  · by_cases h1 : lo ≤ (s[st.1].toNat : Int)
    · refine (sees_in b st.1 s lo hi w h.c0 h.c1 hp h1).mono ?_
      rintro e w' ⟨rfl, hw⟩
      exact ⟨by simp [seesB, byteAt_in hp, h1], hw⟩
    · refine (sees_low b st.1 s lo hi w h.c0 h.c1 hp (by simpa using h1)).mono ?_
      rintro e w' ⟨rfl, hw⟩
      refine ⟨?_, hw⟩
      have : seesB s st.1 lo hi = false := by simp [seesB, byteAt_in hp]; intro h; exact absurd h h1
      rw [this]
  · refine (sees_out b st.1 s lo hi w h.c0 h.c1 (by simpa using hp)).mono ?_
    rintro e w' ⟨rfl, hw⟩
    refine ⟨?_, hw⟩
    have : seesB s st.1 lo hi = false := by simp [seesB, byteAt_out hp]; intro h; omega
    rw [this]

theorem Rd.drewN {w : World} {b : Nat} {s : ByteArray} {st : Nat × Bool} (h : Rd w b s st) (n : Nat) : Rd (w.drewN n) b s st :=
  ⟨h.c0, h.c1, h.c2, h.f1, h.f2, h.le, h.lt⟩

/-- The reader is still there in a world in which its block is as it was. -/
theorem Rd.of_block {w w' : World} {b : Nat} {s : ByteArray} {st : Nat × Bool} (h : Rd w b s st) (hb : w'.heap[b]? = w.heap[b]?) (hs : w.heap.size ≤ w'.heap.size) : Rd w' b s st :=
  ⟨(World.cell?_of_block (a := ⟨b, 0, none⟩) hb).trans h.c0, (World.cell?_of_block (a := ⟨b, 1, none⟩) hb).trans h.c1, (World.cell?_of_block (a := ⟨b, 2, none⟩) hb).trans h.c2,
   (World.frozen?_of_block (a := ⟨b, 1, none⟩) hb).trans h.f1, (World.frozen?_of_block (a := ⟨b, 2, none⟩) hb).trans h.f2, h.le, Nat.lt_of_lt_of_le h.lt hs⟩

theorem Rd.alloc {w : World} {b : Nat} {s : ByteArray} {st : Nat × Bool} (h : Rd w b s st) (o : Obj) : Rd (w.alloc o) b s st :=
  h.of_block (Below.heap_alloc _ _ _ h.lt) (by simp)

/-- What 'take' leaves where it reads no byte. -/
theorem Rd.fail {w : World} {b : Nat} {s : ByteArray} {st : Nat × Bool} (h : Rd w b s st) : Rd (w.setCell ⟨b, 2, none⟩ (.bool true)) b s (st.1, true) := by
  obtain ⟨c0, c1, c2, f1, f2, le, lt⟩ := h
  refine ⟨by go_simp, by go_simp, by go_simp, by go_simp, by go_simp, le, by simpa [World.setCell] using lt⟩

theorem Rd.step {w : World} {b : Nat} {s : ByteArray} {st : Nat × Bool} (h : Rd w b s st) (hb : st.2 = false) (hl : st.1 + 1 ≤ s.size) : Rd (w.setCell ⟨b, 1, none⟩ (.int .i64 (st.1 + 1 : Nat))) b s (st.1 + 1, false) := by
  obtain ⟨c0, c1, c2, f1, f2, le, lt⟩ := h
  rw [hb] at c2
  refine ⟨by go_simp, by go_simp, by go_simp, by go_simp, by go_simp, hl, by simpa [World.setCell] using lt⟩

end Go.Proofs.YtdlhgbhaeedbdaaGreat
