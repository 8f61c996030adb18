/- Base, Dv1, Dv2, Reader, Reader2, Reader3, Reader4. -/
import Derived.WalkKit
import Derived.WalkSpells
import Derived.WalkLawsBesides
import Derived.Deep.QuietTactic
import Derived.BigQuiet
import Derived.Test.YtdlhgbhaeedbdabProg
import Derived.Deep.WholeRow
import Derived.Deep.RegionWith

/- Small facts on worlds: a call that writes into one block of its own ('grownBy .. (some b)') and makes new ones. -/
namespace Go.Proofs.Ytdlhgbhaeedbdab
open Go.RowKit

theorem hide {p : Prop} (h : p) : Hid p := h
theorem unhide {p : Prop} (h : Hid p) : p := h

theorem gb_trans {a b c : World} {r : Option Nat} (h : a.grownBy b r) (k : b.grownBy c r) : a.grownBy c r :=
  ⟨k.os.trans h.os, k.tape.trans h.tape, k.output.trans h.output, Nat.le_trans h.size k.size, fun i hi hr => (k.block i (Nat.lt_of_lt_of_le hi h.size) hr).trans (h.block i hi hr)⟩

theorem gb_drewN {a b : World} {r : Option Nat} (h : a.grownBy b r) (n : Nat) : a.grownBy (b.drewN n) r := ⟨h.os, h.tape, h.output, h.size, h.block⟩

theorem gb_alloc {a b : World} {r : Option Nat} (h : a.grownBy b r) (o : Obj) : a.grownBy (b.alloc o) r := gb_trans h (World.grownBy_alloc b o r)

theorem gb_setCell {a b : World} {p : Addr} (h : a.grownBy b (some p.block)) (u : Value) : a.grownBy (b.setCell p u) (some p.block) :=
  gb_trans h ⟨rfl, rfl, rfl, by simp [World.setCell], fun k _ hr => Below.heap_setCell _ _ _ _ (fun e => hr (by rw [e]))⟩

/-- A store into a block that is new since. -/
theorem gb_setNew {a b : World} {r : Option Nat} (h : a.grownBy b r) {p : Addr} (hp : a.heap.size ≤ p.block) (u : Value) : a.grownBy (b.setCell p u) r :=
  ⟨h.os, h.tape, h.output, by simpa [World.setCell] using h.size, fun k hk hr => by rw [Below.heap_setCell _ _ _ _ (by omega)]; exact h.block k hk hr⟩

theorem gb_below {a b : World} {k : Nat} (h : a.grownBy b (some k)) {B : Nat} (hB : B ≤ a.heap.size) (hk : B ≤ k) : Below B a b :=
  ⟨h.os, h.tape, h.output, h.size, fun i hi => h.block i (by omega) (fun e => by simp at e; omega)⟩

end Go.Proofs.Ytdlhgbhaeedbdab

/- The two devices: power. -/
namespace Go.Proofs.Ytdlhgbhaeedbdab
open Go.RowKit

set_option maxHeartbeats 400000 in
theorem aspend_zero (b : Nat) (d : Bool) (w : World) (c3 : w.cell? ⟨b, 4097, none⟩ = some (.int .i64 0)) (c4 : w.cell? ⟨b, 4098, none⟩ = some (.bool d)) (fz : ∀ o, w.frozen? ⟨b, o, none⟩ = false) :
    Calls Try.prog 100 #[.pointer (some ⟨b, 0, none⟩)] w fun e w' => e = .returned (.bool false) ∧ w' = w.setCell ⟨b, 4098, none⟩ (.bool true) := by
  go_enter Try.func100, Try.ntmps100
  go_wp2
  go_ret
  exact ⟨rfl, rfl⟩

set_option maxHeartbeats 400000 in
theorem aspend_pos (b : Nat) (n : Nat) (d : Bool) (w : World) (hn : (n : Int) + 1 ≤ 9223372036854775807) (c3 : w.cell? ⟨b, 4097, none⟩ = some (.int .i64 ((n : Int) + 1))) (c4 : w.cell? ⟨b, 4098, none⟩ = some (.bool d)) (fz : ∀ o, w.frozen? ⟨b, o, none⟩ = false) :
    Calls Try.prog 100 #[.pointer (some ⟨b, 0, none⟩)] w fun e w' => e = .returned (.bool (!d)) ∧ w' = w.setCell ⟨b, 4097, none⟩ (.int .i64 n) := by
  have hnot : ∀ (x : Bool) (w : World), (Op.unary .not (.bool x)).run Try.prog w = .ok (.bool (!x)) w := fun _ _ => rfl
  have g0 : (((n : Int) + 1) == 0) = false := by rw [beq_eq_false_iff_ne]; omega
  have g1 : (0 : Int) < (n : Int) + 1 := by omega
  have hw1 : IntKind.i64.wrap (n : Int) = (n : Int) := by rw [IntKind.wrap_i64]; omega
  go_enter Try.func100, Try.ntmps100
  go_wp2
  go_ret
  exact ⟨rfl, rfl⟩

set_option maxHeartbeats 400000 in
theorem aspend_neg (b : Nat) (l : Int) (d : Bool) (w : World) (hl : l < 0) (c3 : w.cell? ⟨b, 4097, none⟩ = some (.int .i64 l)) (c4 : w.cell? ⟨b, 4098, none⟩ = some (.bool d)) :
    Calls Try.prog 100 #[.pointer (some ⟨b, 0, none⟩)] w fun e w' => e = .returned (.bool (!d)) ∧ w' = w := by
  have hnot : ∀ (x : Bool) (w : World), (Op.unary .not (.bool x)).run Try.prog w = .ok (.bool (!x)) w := fun _ _ => rfl
  have g0 : (l == 0) = false := by rw [beq_eq_false_iff_ne]; omega
  have g1 : ¬ (0 : Int) < l := by omega
  go_enter Try.func100, Try.ntmps100
  go_wp2
  go_ret
  exact ⟨rfl, rfl⟩

set_option maxHeartbeats 400000 in
theorem adead_any (b : Nat) (d : Bool) (w : World) (c4 : w.cell? ⟨b, 4098, none⟩ = some (.bool d)) :
    Calls Try.prog 25 #[.pointer (some ⟨b, 0, none⟩)] w fun e w' => e = .returned (.bool d) ∧ w' = w := by
  go_enter Try.func25, Try.ntmps25
  go_wp2
  go_ret
  exact ⟨rfl, rfl⟩

/-- What a call leaves of the power: the program's device. -/
def spW (w : World) (b : Nat) (l : Int) : World := if l = 0 then w.setCell ⟨b, 4098, none⟩ (.bool true) else if 0 < l then w.setCell ⟨b, 4097, none⟩ (.int .i64 (l - 1)) else w
def spR (l : Int) (d : Bool) : Bool := if l = 0 then false else !d

theorem aspend_any (b : Nat) (l : Int) (d : Bool) (w : World) (hl : l ≤ 9223372036854775807) (c3 : w.cell? ⟨b, 4097, none⟩ = some (.int .i64 l)) (c4 : w.cell? ⟨b, 4098, none⟩ = some (.bool d)) (fz : ∀ o, w.frozen? ⟨b, o, none⟩ = false) :
    Calls Try.prog 100 #[.pointer (some ⟨b, 0, none⟩)] w fun e w' => e = .returned (.bool (spR l d)) ∧ w' = spW w b l := by
  by_cases h0 : l = 0
  · subst h0; exact aspend_zero b d w c3 c4 fz
  · by_cases h1 : 0 < l
    · obtain ⟨n, rfl⟩ : ∃ n : Nat, l = (n : Int) + 1 := ⟨(l - 1).toNat, by omega⟩
      have := aspend_pos b n d w hl c3 c4 fz
      simp only [spR, spW, h0, h1, if_false, if_true, Int.add_sub_cancel]
      exact this
    · have := aspend_neg b l d w (by omega) c3 c4
      simp only [spR, spW, h0, h1, if_false]
      exact this

/-- The document's device. -/
def rcW (w : World) (b : Nat) (l : Int) (d : Bool) : World := if d = true ∨ l = 0 then w.setCell ⟨b, 2, none⟩ (.bool true) else if 0 < l then w.setCell ⟨b, 1, none⟩ (.int .i64 (l - 1)) else w
def rcR (l : Int) (d : Bool) : Bool := if d = true ∨ l = 0 then false else true

end Go.Proofs.Ytdlhgbhaeedbdab

/- The two devices: Read of the program's device. -/
namespace Go.Proofs.Ytdlhgbhaeedbdab
open Go.RowKit

def madeBytes (n : Nat) : Array Value := madeCells #[.int .u8 0] n

theorem Try.infoU8 : (Try.prog.info? 5).map (fun i => (i.zero, i.size, i.bytes)) = some (some (.int .u8 0), 1, 1) := by kernel_rfl

theorem run_make32 (w : World) : (Instr.makeSlice 109 (.int .i64 32) (.int .i64 32)).run Try.prog w = .ok (.slice (some ⟨w.heap.size, 0, none⟩) 32 32) (w.alloc (.cells (madeBytes 32) 5)) := by
  obtain ⟨i0, hi, hz0, hz1, hz2⟩ := info_parts Try.infoU8
  have := run_make (P := Try.prog) w 109 5 i0 (.int .u8 0) Try.underlying109 hi hz0 .i64 .i64 32 32 (by omega) (by omega) (by rw [hz2]; omega) (by omega)
  rw [hz1] at this
  simpa [Value.cells, madeBytes] using this

theorem ty_set {w : World} {b o : Nat} {t : TypeId} (h : ∃ cs fr, w.heap[b]? = some (Obj.cells cs t fr)) (u : Value) : ∃ cs fr, (w.setCell ⟨b, o, none⟩ u).heap[b]? = some (Obj.cells cs t fr) := by
  obtain ⟨cs, fr, h⟩ := h
  refine ⟨cs.setIfInBounds o u, fr, ?_⟩
  simp [World.setCell, Array.getElem?_modify, h]

/-- Bytes in a block of their own. -/
structure BytesW (w : World) (g : Nat) (n : Nat) (f : Nat → UInt8) : Prop where
  cell : ∀ k, k < n → w.cell? ⟨g, k, none⟩ = some (.int .u8 (f k).toNat)
  fz : ∀ o, w.frozen? ⟨g, o, none⟩ = false
  lt : g < w.heap.size
  ty : ∃ cs fr, w.heap[g]? = some (Obj.cells cs 5 fr)

theorem bytes_made (w : World) (n : Nat) : BytesW (w.alloc (.cells (madeBytes n) 5)) w.heap.size n fun _ => 0 := by
  refine ⟨fun k hk => ?_, fun o => World.frozen?_alloc_at _ _ _ _ rfl, by simp, ⟨madeBytes n, (0, 0), heap_alloc_last w _⟩⟩
  rw [World.cell?_alloc_at _ _ _ _ rfl]
  unfold madeBytes madeCells
  rw [Array.getElem?_map, Array.getElem?_range, if_pos (by omega)]
  simp
  rw [show k % 1 = 0 by omega]
  rfl

theorem BytesW.set {w : World} {g n : Nat} {f : Nat → UInt8} (h : BytesW w g n f) {j : Nat} (hj : j < n) (x : UInt8) : BytesW (w.setCell ⟨g, j, none⟩ (.int .u8 x.toNat)) g n fun k => if k = j then x else f k := by
  obtain ⟨hc, hf, hl, hty⟩ := h
  refine ⟨fun k hk => ?_, fun o => by simp [hf o], by simpa [World.setCell] using hl, ty_set hty _⟩
  have ck := hc k hk
  have cj := hc j hj
  by_cases e : k = j
  · subst e
    simp only [if_true]
    go_simp
  · simp only [e, if_false]
    have : (⟨g, k, none⟩ : Addr) ≠ ⟨g, j, none⟩ := by
      intro he
      simp only [Addr.mk.injEq] at he
      omega
    go_simp

theorem BytesW.congr {w : World} {g n : Nat} {f f' : Nat → UInt8} (h : BytesW w g n f) (e : ∀ k, k < n → f k = f' k) : BytesW w g n f' :=
  ⟨fun k hk => by rw [← e k hk]; exact h.cell k hk, h.fz, h.lt, h.ty⟩

set_option maxRecDepth 100000 in
set_option maxHeartbeats 400000 in
theorem aread_arg (b : Nat) (i : Int) (w : World) (hi : i < 0 ∨ 64 ≤ i) :
    Calls Try.prog 87 #[.pointer (some ⟨b, 0, none⟩), .int .i64 i] w fun e w' => e = .returned (.tuple #[.slice none 0 0, .int .i64 6]) ∧ w' = w := by
  by_cases h : i < 0
  · clear hi
    go_enter Try.func87, Try.ntmps87
    go_wp2_with fail
    go_ret2
    exact ⟨rfl, rfl⟩
  · have h2 : 64 ≤ i := by omega
    clear hi
    go_enter Try.func87, Try.ntmps87
    go_wp2_with fail
    go_ret2
    exact ⟨rfl, rfl⟩

set_option maxRecDepth 100000 in
set_option maxHeartbeats 400000 in
theorem aread_dead (b : Nat) (i : Nat) (l : Int) (d : Bool) (w : World) (hi : i < 64) (hl : l ≤ 9223372036854775807) (hsp : spR l d = false)
    (c3 : w.cell? ⟨b, 4097, none⟩ = some (.int .i64 l)) (c4 : w.cell? ⟨b, 4098, none⟩ = some (.bool d)) (fz : ∀ o, w.frozen? ⟨b, o, none⟩ = false) :
    Calls Try.prog 87 #[.pointer (some ⟨b, 0, none⟩), .int .i64 i] w fun e w' => e = .returned (.tuple #[.slice none 0 0, .int .i64 7]) ∧ w' = spW w b l := by
  have HS := hide (aspend_any b l d w hl c3 c4 fz)
  rw [hsp] at HS
  have h1 : ¬ (i : Int) < 0 := by omega
  have h2 : ¬ 64 ≤ (i : Int) := by omega
  clear c3 c4 fz hsp hl
  go_enter Try.func87, Try.ntmps87
  go_wp2_with fail
  refine (unhide HS).mono ?_
  rintro e w1 ⟨rfl, hw1⟩
  go_wp2_with fail
  go_ret2
  exact ⟨rfl, rfl⟩

set_option maxRecDepth 100000 in
set_option maxHeartbeats 400000 in
theorem aread_ok (b : Nat) (i : Nat) (l : Int) (d : Bool) (w : World) (f : Nat → UInt8) (hi : i < 64) (hl : l ≤ 9223372036854775807) (hsp : spR l d = true)
    (c3 : w.cell? ⟨b, 4097, none⟩ = some (.int .i64 l)) (c4 : w.cell? ⟨b, 4098, none⟩ = some (.bool d)) (fz : ∀ o, w.frozen? ⟨b, o, none⟩ = false)
    (hseen : ∀ j, j < 2048 → (spW w b l).cell? ⟨b, 2048 + j, none⟩ = some (.int .u8 (f j).toNat)) (hlt : b < (spW w b l).heap.size) :
    Calls Try.prog 87 #[.pointer (some ⟨b, 0, none⟩), .int .i64 i] w fun e w' => e = .returned (.tuple #[.slice (some ⟨(spW w b l).heap.size, 0, none⟩) 32 32, .int .i64 0]) ∧ BytesW w' (spW w b l).heap.size 32 (fun k => f (i * 32 + k)) ∧ Below (spW w b l).heap.size (spW w b l) w' := by
  have HS := hide (aspend_any b l d w hl c3 c4 fz)
  rw [hsp] at HS
  have h1 : ¬ (i : Int) < 0 := by omega
  have h2 : ¬ 64 ≤ (i : Int) := by omega
  have h3 : (i : Int) < 64 := by omega
  have hmk := run_make32
  have hm0 := bytes_made (spW w b l) 32
  generalize spW w b l = W at *
  have Hseen := hide hseen
  clear c3 c4 fz hsp hl hseen
  go_enter Try.func87, Try.ntmps87
  go_wp2_with fail
  refine (unhide HS).mono ?_
  rintro e w1 ⟨rfl, rfl⟩
  go_wp2_with fail
  go_loopw [8] (fun kv wr => ∃ k : Nat, k ≤ 32 ∧ kv = .int .i64 k ∧ BytesW wr w1.heap.size 32 (fun j => if j < k then f (i * 32 + j) else 0) ∧ Below w1.heap.size w1 wr) (fun kv _ => 32 - (intOf kv).toNat)
  case atStart => exact ⟨0, by omega, rfl, hm0.congr (fun k _ => by simp), (Below.refl _ _).alloc (Nat.le_refl _) _⟩
  case round =>
    obtain ⟨k, hk, rfl, hbw, hbe⟩ := hrel
    by_cases hk32 : k < 32
    · have hk' : (k : Int) < 32 := by omega
      have cs := (hbe.cell (p := ⟨b, 2048 + (i * 32 + k), none⟩) hlt).trans (unhide Hseen (i * 32 + k) (by omega))
      rw [← Nat.add_assoc] at cs
      have ck := hbw.cell k hk32
      have hfz := hbw.fz
      have Hrow := hide (show BytesW (wr.setCell ⟨w1.heap.size, k, none⟩ (.int .u8 (f (i * 32 + k)).toNat)) w1.heap.size 32 (fun j => if j < k + 1 then f (i * 32 + j) else 0) from
        (hbw.set hk32 (f (i * 32 + k))).congr (fun j _ => by
          by_cases e : j = k
          · subst e; simp
          · by_cases h : j < k
            · simp [e, h, show j < k + 1 by omega]
            · simp [e, h, show ¬ j < k + 1 by omega]))
      generalize f (i * 32 + k) = x at *
      go_wp2_with fail
      go_roundw
      case rel => exact ⟨k + 1, by omega, by go_num, unhide Hrow, hbe.setCell (p := ⟨w1.heap.size, k, none⟩) (Nat.le_refl _) _⟩
      case measure => simp [intOf]; omega
    · have hk' : ¬ (k : Int) < 32 := by omega
      go_wp2_with fail
      go_ret2
      exact ⟨rfl, hbw.congr (fun j hj => by simp [show j < k by omega]), hbe⟩

end Go.Proofs.Ytdlhgbhaeedbdab

/- The reader: its methods 'sees', 'take', 'word', by their contracts. -/
namespace Go.Proofs.Ytdlhgbhaeedbdab
open Go.RowKit

/-- The byte at p, or -1 behind the end. -/
def byteAt (s : ByteArray) (p : Nat) : Int := if h : p < s.size then (s[p].toNat : Int) else -1

/-- Is the byte at p one from lo to hi? -/
def seesB (s : ByteArray) (p : Nat) (lo hi : Int) : Bool := decide (lo ≤ byteAt s p) && decide (byteAt s p ≤ hi)

/-- One byte from lo to hi is read. -/
def tk (s : ByteArray) (lo hi : Int) (st : Nat × Bool) : Nat × Bool := if !st.2 && seesB s st.1 lo hi then (st.1 + 1, false) else (st.1, true)

/-- Just these bytes are read. -/
def wd (s : ByteArray) (ws : List UInt8) (st : Nat × Bool) : Nat × Bool := ws.foldl (fun st c => tk s (c.toNat : Int) (c.toNat : Int) st) st

/-- The reader in block b: its text, its place, is it bad. -/
structure Rd (w : World) (b : Nat) (s : ByteArray) (st : Nat × Bool) : Prop where
  c0 : w.cell? ⟨b, 0, none⟩ = some (.string s)
  c1 : w.cell? ⟨b, 1, none⟩ = some (.int .i64 st.1)
  c2 : w.cell? ⟨b, 2, none⟩ = some (.bool st.2)
  f1 : w.frozen? ⟨b, 1, none⟩ = false
  f2 : w.frozen? ⟨b, 2, none⟩ = false
  le : st.1 ≤ s.size
  lt : b < w.heap.size

theorem byteAt_in {s : ByteArray} {p : Nat} (h : p < s.size) : byteAt s p = (s[p].toNat : Int) := by simp [byteAt, h]
theorem byteAt_out {s : ByteArray} {p : Nat} (h : ¬ p < s.size) : byteAt s p = -1 := by simp [byteAt, h]

theorem seesB_in {s : ByteArray} {p : Nat} {lo hi : Int} (h0 : 0 ≤ lo) (h : seesB s p lo hi = true) : p < s.size := by
  by_cases hp : p < s.size
  · exact hp
  · simp [seesB, byteAt_out hp] at h; omega

theorem tk_le {s : ByteArray} {lo hi : Int} (h0 : 0 ≤ lo) {st : Nat × Bool} (h : st.1 ≤ s.size) : (tk s lo hi st).1 ≤ s.size := by
  unfold tk
  split
  · rename_i hc; simp at hc; have := seesB_in h0 hc.2; simp; omega
  · exact h

set_option maxHeartbeats 400000 in
theorem sees_in (b p : Nat) (s : ByteArray) (lo hi : Int) (w : World) (c0 : w.cell? ⟨b, 0, none⟩ = some (.string s)) (c1 : w.cell? ⟨b, 1, none⟩ = some (.int .i64 p)) (hp : p < s.size) (h1 : lo ≤ (s[p].toNat : Int)) :
    Calls Try.prog 112 #[.pointer (some ⟨b, 0, none⟩), .int .u8 lo, .int .u8 hi] w fun e w' => e = .returned (.bool (decide ((s[p].toNat : Int) ≤ hi))) ∧ ∃ n, w' = w.drewN n := by
  have hp' : (p : Int) < (s.size : Int) := by omega
  go_enter Try.func112, Try.ntmps112
  go_wp2
  go_quiet (fail)
  go_wp2
  go_ret
  exact ⟨rfl, _, rfl⟩

set_option maxHeartbeats 400000 in
theorem sees_low (b p : Nat) (s : ByteArray) (lo hi : Int) (w : World) (c0 : w.cell? ⟨b, 0, none⟩ = some (.string s)) (c1 : w.cell? ⟨b, 1, none⟩ = some (.int .i64 p)) (hp : p < s.size) (h1 : decide (lo ≤ (s[p].toNat : Int)) = false) :
    Calls Try.prog 112 #[.pointer (some ⟨b, 0, none⟩), .int .u8 lo, .int .u8 hi] w fun e w' => e = .returned (.bool false) ∧ ∃ n, w' = w.drewN n := by
  have hp' : (p : Int) < (s.size : Int) := by omega
  go_enter Try.func112, Try.ntmps112
  go_wp2
  go_quiet (fail)
  go_wp2
  go_ret
  exact ⟨rfl, _, rfl⟩

set_option maxHeartbeats 400000 in
theorem sees_out (b p : Nat) (s : ByteArray) (lo hi : Int) (w : World) (c0 : w.cell? ⟨b, 0, none⟩ = some (.string s)) (c1 : w.cell? ⟨b, 1, none⟩ = some (.int .i64 p)) (hp : decide (p < s.size) = false) :
    Calls Try.prog 112 #[.pointer (some ⟨b, 0, none⟩), .int .u8 lo, .int .u8 hi] w fun e w' => e = .returned (.bool false) ∧ ∃ n, w' = w.drewN n := by
  go_enter Try.func112, Try.ntmps112
  go_wp2
  go_quiet (fail)
  go_wp2
  go_ret
  exact ⟨rfl, _, rfl⟩

theorem sees_any (b : Nat) (s : ByteArray) (st : Nat × Bool) (lo hi : Int) (w : World) (h : Rd w b s st) (h0 : 0 ≤ lo) :
    Calls Try.prog 112 #[.pointer (some ⟨b, 0, none⟩), .int .u8 lo, .int .u8 hi] w fun e w' => e = .returned (.bool (seesB s st.1 lo hi)) ∧ ∃ n, w' = w.drewN n := by
  by_cases hp : st.1 < s.size
  · by_cases h1 : lo ≤ (s[st.1].toNat : Int)
    · refine (sees_in b st.1 s lo hi w h.c0 h.c1 hp h1).mono ?_
      rintro e w' ⟨rfl, hw⟩
      exact ⟨by simp [seesB, byteAt_in hp, h1], hw⟩
    · refine (sees_low b st.1 s lo hi w h.c0 h.c1 hp (by simpa using h1)).mono ?_
      rintro e w' ⟨rfl, hw⟩
      refine ⟨?_, hw⟩
      have : seesB s st.1 lo hi = false := by simp [seesB, byteAt_in hp]; intro h; exact absurd h h1
      rw [this]
  · refine (sees_out b st.1 s lo hi w h.c0 h.c1 (by simpa using hp)).mono ?_
    rintro e w' ⟨rfl, hw⟩
    refine ⟨?_, hw⟩
    have : seesB s st.1 lo hi = false := by simp [seesB, byteAt_out hp]; intro h; omega
    rw [this]

theorem Rd.drewN {w : World} {b : Nat} {s : ByteArray} {st : Nat × Bool} (h : Rd w b s st) (n : Nat) : Rd (w.drewN n) b s st :=
  ⟨h.c0, h.c1, h.c2, h.f1, h.f2, h.le, h.lt⟩

/-- The reader is still there in a world in which its block is as it was. -/
theorem Rd.of_block {w w' : World} {b : Nat} {s : ByteArray} {st : Nat × Bool} (h : Rd w b s st) (hb : w'.heap[b]? = w.heap[b]?) (hs : w.heap.size ≤ w'.heap.size) : Rd w' b s st :=
  ⟨(World.cell?_of_block (a := ⟨b, 0, none⟩) hb).trans h.c0, (World.cell?_of_block (a := ⟨b, 1, none⟩) hb).trans h.c1, (World.cell?_of_block (a := ⟨b, 2, none⟩) hb).trans h.c2,
   (World.frozen?_of_block (a := ⟨b, 1, none⟩) hb).trans h.f1, (World.frozen?_of_block (a := ⟨b, 2, none⟩) hb).trans h.f2, h.le, Nat.lt_of_lt_of_le h.lt hs⟩

theorem Rd.alloc {w : World} {b : Nat} {s : ByteArray} {st : Nat × Bool} (h : Rd w b s st) (o : Obj) : Rd (w.alloc o) b s st :=
  h.of_block (Below.heap_alloc _ _ _ h.lt) (by simp)

/-- What 'take' leaves where it reads no byte. -/
theorem Rd.fail {w : World} {b : Nat} {s : ByteArray} {st : Nat × Bool} (h : Rd w b s st) : Rd (w.setCell ⟨b, 2, none⟩ (.bool true)) b s (st.1, true) := by
  obtain ⟨c0, c1, c2, f1, f2, le, lt⟩ := h
  refine ⟨by go_simp, by go_simp, by go_simp, by go_simp, by go_simp, le, by simpa [World.setCell] using lt⟩

theorem Rd.step {w : World} {b : Nat} {s : ByteArray} {st : Nat × Bool} (h : Rd w b s st) (hb : st.2 = false) (hl : st.1 + 1 ≤ s.size) : Rd (w.setCell ⟨b, 1, none⟩ (.int .i64 (st.1 + 1 : Nat))) b s (st.1 + 1, false) := by
  obtain ⟨c0, c1, c2, f1, f2, le, lt⟩ := h
  rw [hb] at c2
  refine ⟨by go_simp, by go_simp, by go_simp, by go_simp, by go_simp, hl, by simpa [World.setCell] using lt⟩

end Go.Proofs.Ytdlhgbhaeedbdab

/- The reader: 'take', 'word'. -/
namespace Go.Proofs.Ytdlhgbhaeedbdab
open Go.RowKit

set_option maxHeartbeats 400000 in
theorem take_any (b : Nat) (s : ByteArray) (st : Nat × Bool) (lo hi : Int) (w : World) (h : Rd w b s st) (h0 : 0 ≤ lo) (hs : s.size ≤ 9223372036854775807) :
    Calls Try.prog 111 #[.pointer (some ⟨b, 0, none⟩), .int .u8 lo, .int .u8 hi] w fun e w' => e = .returned (.tuple #[]) ∧ Rd w' b s (tk s lo hi st) ∧ w.grownBy w' (some b) := by
  obtain ⟨p, bad⟩ := st
  have hs1 := sees_any b s (p, bad) lo hi w h h0
  have h' := h
  obtain ⟨c0, c1, c2, f1, f2, le, lt⟩ := h'
  simp only at c1 c2 le hs1
  have hnot : ∀ (x : Bool) (w : World), (Op.unary .not (.bool x)).run Try.prog w = .ok (.bool (!x)) w := fun _ _ => rfl
  cases bad with
  | true =>
    have hfin : tk s lo hi (p, true) = (p, true) := by simp [tk]
    rw [hfin]
    go_enter Try.func111, Try.ntmps111
    go_wp2_with fail
    refine hs1.mono ?_
    rintro e w' ⟨rfl, n, rfl⟩
    go_wp2
    refine bodyPost_ret (results_none rfl _ _ _) rfl ?_
    exact ⟨rfl, (h.drewN n).fail, gb_setCell (gb_drewN (World.grownBy.refl _ _) _) _⟩
  | false =>
    cases hb : seesB s p lo hi with
    | true =>
      have hfin : tk s lo hi (p, false) = (p + 1, false) := by simp [tk, hb]
      have hlt := seesB_in h0 hb
      rw [hfin]
      rw [hb] at hs1
      go_enter Try.func111, Try.ntmps111
      go_wp2_with fail
      refine hs1.mono ?_
      rintro e w' ⟨rfl, n, rfl⟩
      go_wp2
      go_end0
      exact ⟨rfl, (h.drewN n).step rfl hlt, gb_setCell (gb_drewN (World.grownBy.refl _ _) _) _⟩
    | false =>
      have hfin : tk s lo hi (p, false) = (p, true) := by simp [tk, hb]
      rw [hfin]
      rw [hb] at hs1
      go_enter Try.func111, Try.ntmps111
      go_wp2_with fail
      refine hs1.mono ?_
      rintro e w' ⟨rfl, n, rfl⟩
      go_wp2
      refine bodyPost_ret (results_none rfl _ _ _) rfl ?_
      exact ⟨rfl, (h.drewN n).fail, gb_setCell (gb_drewN (World.grownBy.refl _ _) _) _⟩

end Go.Proofs.Ytdlhgbhaeedbdab

/- The reader: 'word'. -/
namespace Go.Proofs.Ytdlhgbhaeedbdab
open Go.RowKit

theorem wd_snoc (s : ByteArray) (l : List UInt8) (c : UInt8) (st : Nat × Bool) : wd s (l ++ [c]) st = tk s (c.toNat : Int) (c.toNat : Int) (wd s l st) := by simp [wd]

theorem take_snoc' (ws : ByteArray) (k : Nat) (h : k < ws.size) : ws.data.toList.take (k + 1) = ws.data.toList.take k ++ [ws[k]] := by
  rw [List.take_succ_eq_append_getElem (by simpa using h)]; rfl

set_option maxHeartbeats 400000 in
theorem word_any (b : Nat) (s ws : ByteArray) (st : Nat × Bool) (w : World) (h : Rd w b s st) (hs : s.size ≤ 9223372036854775807) (hws : ws.size ≤ 400) :
    Calls Try.prog 106 #[.pointer (some ⟨b, 0, none⟩), .string ws] w fun e w' => e = .returned (.tuple #[]) ∧ Rd w' b s (wd s ws.data.toList st) ∧ w.grownBy w' (some b) := by
  go_enter Try.func106, Try.ntmps106
  go_wp2
  go_loopw [4] (fun i wr => ∃ k : Nat, k ≤ ws.size ∧ i = .int .i64 k ∧ Rd wr b s (wd s (ws.data.toList.take k) st) ∧ w.grownBy wr (some b)) (fun i _ => ws.size - (intOf i).toNat)
  case atStart => exact ⟨0, Nat.zero_le _, rfl, h, World.grownBy.refl _ _⟩
  case round =>
    obtain ⟨k, hk, rfl, hrd, hg⟩ := hrel
    by_cases hlt : k < ws.size
    · have hlt' : (k : Int) < (ws.size : Int) := by omega
      have HT : Hid (ws.data.toList.take (k + 1) = ws.data.toList.take k ++ [ws[k]]) := take_snoc' ws k hlt
      go_wp2
      go_region_with (go_at_call 111; refine (take_any b s _ _ _ _ (by exact hrd.drewN _) (by omega) hs).mono ?_; rintro e w1 ⟨rfl, hrd1, hg1⟩)
      all_goals
        go_wp2
        go_roundw
        case rel => exact ⟨k + 1, by omega, by go_num, by rw [HT.out, wd_snoc]; exact hrd1, gb_trans (gb_drewN hg _) hg1⟩
        case measure => simp [intOf]; omega
    · go_wp2
      go_end0
      exact ⟨rfl, by rw [List.take_of_length_le (by simp; omega)] at hrd; exact hrd, hg⟩

end Go.Proofs.Ytdlhgbhaeedbdab

/- The reader: 'name', 'number', 'mode'. -/
namespace Go.Proofs.Ytdlhgbhaeedbdab
open Go.RowKit

/-- One letter more of a name, if there is one. -/
def nmStep (s : ByteArray) (st : Nat × Bool) : Nat × Bool := if seesB s st.1 97 122 then tk s 97 122 st else st
def nmIter (s : ByteArray) : Nat → Nat × Bool → Nat × Bool
  | 0, st => st
  | k + 1, st => nmStep s (nmIter s k st)
/-- A name is read. -/
def nmS (s : ByteArray) (st : Nat × Bool) : Nat × Bool := nmIter s 3 (tk s 97 122 st)
def nmV (s : ByteArray) (st : Nat × Bool) : ByteArray := s.extract st.1 (nmS s st).1
/-- A digit 0 to 7 is read. -/
def nbS (s : ByteArray) (st : Nat × Bool) : Nat × Bool := tk s 48 55 st
def nbV (s : ByteArray) (st : Nat × Bool) : Int := if (nbS s st).2 then 0 else byteAt s st.1 - 48
/-- The digit that is read. -/
def dgV (s : ByteArray) (lo hi : Int) (st : Nat × Bool) : Int := if (tk s lo hi st).2 then 0 else byteAt s st.1 - 48
/-- A mode is read. -/
def mdS (s : ByteArray) (st : Nat × Bool) : Nat × Bool :=
  if seesB s (wd s [114] st).1 111 111 then wd s [111] (wd s [114] st) else wd s [119] (wd s [114] st)
/-- Is it the mode for reading alone? -/
def mdV (s : ByteArray) (st : Nat × Bool) : Bool := seesB s (wd s [114] st).1 111 111

theorem tk_mono (s : ByteArray) (lo hi : Int) (st : Nat × Bool) : st.1 ≤ (tk s lo hi st).1 := by
  unfold tk; split <;> simp
theorem nmStep_mono (s : ByteArray) (st : Nat × Bool) : st.1 ≤ (nmStep s st).1 := by
  unfold nmStep; split
  · exact tk_mono _ _ _ _
  · exact Nat.le_refl _
theorem nmIter_mono (s : ByteArray) (k : Nat) (st : Nat × Bool) : st.1 ≤ (nmIter s k st).1 := by
  induction k with
  | zero => exact Nat.le_refl _
  | succ k ih => exact Nat.le_trans ih (nmStep_mono _ _)
theorem nmS_mono (s : ByteArray) (st : Nat × Bool) : st.1 ≤ (nmS s st).1 := Nat.le_trans (tk_mono _ _ _ _) (nmIter_mono _ _ _)

set_option maxHeartbeats 400000 in
theorem name_any (b : Nat) (s : ByteArray) (st : Nat × Bool) (w : World) (h : Rd w b s st) (hs : s.size ≤ 9223372036854775807) :
    Calls Try.prog 107 #[.pointer (some ⟨b, 0, none⟩)] w fun e w' => e = .returned (.string (nmV s st)) ∧ Rd w' b s (nmS s st) ∧ w.grownBy w' (some b) := by
  have hc1 := h.c1
  have hle := h.le
  have hm := nmS_mono s st
  go_enter Try.func107, Try.ntmps107
  go_wp2_with (go_at_call 111; refine (take_any b s _ _ _ _ h (by omega) hs).mono ?_; rintro e w1 ⟨rfl, hrd1, hg1⟩)
  clear hc1
  go_loopw [4] (fun i wr => ∃ k : Nat, k ≤ 3 ∧ i = .int .i64 (k + 1 : Nat) ∧ Rd wr b s (nmIter s k (tk s 97 122 st)) ∧ w.grownBy wr (some b)) (fun i _ => 4 - (intOf i).toNat)
  case atStart => exact ⟨0, by omega, rfl, hrd1, hg1⟩
  case round =>
    obtain ⟨k, hk, rfl, hrd, hg⟩ := hrel
    by_cases hlt : k < 3
    · cases hb : seesB s (nmIter s k (tk s 97 122 st)).1 97 122 with
      | true =>
        have HB : Hid (nmIter s (k + 1) (tk s 97 122 st) = tk s 97 122 (nmIter s k (tk s 97 122 st))) := by
          show nmStep s _ = _
          simp [nmStep, hb]
        have hsee := sees_any b s _ 97 122 wr hrd (by omega)
        rw [hb] at hsee
        clear hb
        go_wp2_with (first | (go_at_call 112; refine hsee.mono ?_; rintro e w2 ⟨rfl, n2, rfl⟩) | (go_at_call 111; refine (take_any b s _ _ _ _ (hrd.drewN _) (by omega) hs).mono ?_; rintro e w3 ⟨rfl, hrd3, hg3⟩))
        go_roundw
        case rel => exact ⟨k + 1, by omega, by go_num, by rw [HB.out]; exact hrd3, gb_trans (gb_drewN hg _) hg3⟩
        case measure => simp [intOf]; omega
      | false =>
        have HB : Hid (nmIter s (k + 1) (tk s 97 122 st) = nmIter s k (tk s 97 122 st)) := by
          show nmStep s _ = _
          simp [nmStep, hb]
        have hsee := sees_any b s _ 97 122 wr hrd (by omega)
        rw [hb] at hsee
        clear hb
        go_wp2_with (go_at_call 112; refine hsee.mono ?_; rintro e w2 ⟨rfl, n2, rfl⟩)
        go_roundw
        case rel => exact ⟨k + 1, by omega, by go_num, by rw [HB.out]; exact hrd.drewN _, gb_drewN hg _⟩
        case measure => simp [intOf]; omega
    · have : k = 3 := by omega
      subst this
      have hrd' : Rd wr b s (nmS s st) := hrd
      clear hrd
      have d0 := hrd'.c0
      have d1 := hrd'.c1
      have dle := hrd'.le
      go_wp2
      go_quiet (fail)
      go_wp2
      go_ret
      exact ⟨by simp [nmV], hrd'.drewN _, gb_drewN hg _⟩

end Go.Proofs.Ytdlhgbhaeedbdab
