/- The two devices: Read of the program's device. -/
import Derived.Test.YtdlhgbhaeedbdaaDv1
import Derived.Deep.WholeRow
namespace Go.Proofs.Ytdlhgbhaeedbdaa
open Go.RowKit

def madeBytes (n : Nat) : Array Value := madeCells #[.int .u8 0] n

theorem Try.infoU8 : (Try.prog.info? 5).map (fun i => (i.zero, i.size, i.bytes)) = some (some (.int .u8 0), 1, 1) := by kernel_rfl

theorem run_make32 (w : World) : (Instr.makeSlice 30 (.int .i64 32) (.int .i64 32)).run Try.prog w = .ok (.slice (some ⟨w.heap.size, 0, none⟩) 32 32) (w.alloc (.cells (madeBytes 32) 5)) := by
  obtain ⟨i0, hi, hz0, hz1, hz2⟩ := info_parts Try.infoU8
  have := run_make (P := Try.prog) w 30 5 i0 (.int .u8 0) Try.underlying30 hi hz0 .i64 .i64 32 32 (by omega) (by omega) (by rw [hz2]; omega) (by omega)
  rw [hz1] at this
  simpa [Value.cells, madeBytes] using this

theorem ty_set {w : World} {b o : Nat} {t : TypeId} (h : ∃ cs fr, w.heap[b]? = some (Obj.cells cs t fr)) (u : Value) : ∃ cs fr, (w.setCell ⟨b, o, none⟩ u).heap[b]? = some (Obj.cells cs t fr) := by
  obtain ⟨cs, fr, h⟩ := h
  refine ⟨cs.setIfInBounds o u, fr, ?_⟩
  simp [World.setCell, Array.getElem?_modify, h]

/-- Bytes in a block of their own. -/
structure BytesW (w : World) (g : Nat) (n : Nat) (f : Nat → UInt8) : Prop where
  cell : ∀ k, k < n → w.cell? ⟨g, k, none⟩ = some (.int .u8 (f k).toNat)
  fz : ∀ o, w.frozen? ⟨g, o, none⟩ = false
  lt : g < w.heap.size
  ty : ∃ cs fr, w.heap[g]? = some (Obj.cells cs 5 fr)

theorem bytes_made (w : World) (n : Nat) : BytesW (w.alloc (.cells (madeBytes n) 5)) w.heap.size n fun _ => 0 := by
  refine ⟨fun k hk => ?_, fun o => World.frozen?_alloc_at _ _ _ _ rfl, by simp, ⟨madeBytes n, (0, 0), heap_alloc_last w _⟩⟩
  rw [World.cell?_alloc_at _ _ _ _ rfl]
  unfold madeBytes madeCells
  rw [Array.getElem?_map, Array.getElem?_range, if_pos (by omega)]
  simp
  rw [show k % 1 = 0 by omega]
  rfl

theorem BytesW.set {w : World} {g n : Nat} {f : Nat → UInt8} (h : BytesW w g n f) {j : Nat} (hj : j < n) (x : UInt8) : BytesW (w.setCell ⟨g, j, none⟩ (.int .u8 x.toNat)) g n fun k => if k = j then x else f k := by
  obtain ⟨hc, hf, hl, hty⟩ := h
  refine ⟨fun k hk => ?_, fun o => by simp [hf o], by simpa [World.setCell] using hl, ty_set hty _⟩
  have ck := hc k hk
  have cj := hc j hj
  by_cases e : k = j
  · subst e
    simp only [if_true]
    go_simp
  · simp only [e, if_false]
    have : (⟨g, k, none⟩ : Addr) ≠ ⟨g, j, none⟩ := by
      intro he
      simp only [Addr.mk.injEq] at he
      omega
    go_simp

theorem BytesW.congr {w : World} {g n : Nat} {f f' : Nat → UInt8} (h : BytesW w g n f) (e : ∀ k, k < n → f k = f' k) : BytesW w g n f' :=
  ⟨fun k hk => by rw [← e k hk]; exact h.cell k hk, h.fz, h.lt, h.ty⟩

set_option maxRecDepth 100000 in
set_option maxHeartbeats 400000 in
theorem aread_arg (b : Nat) (i : Int) (w : World) (hi : i < 0 ∨ 64 ≤ i) :
    Calls Try.prog 42 #[.pointer (some ⟨b, 0, none⟩), .int .i64 i] w fun e w' => e = .returned (.tuple #[.slice none 0 0, .int .i64 6]) ∧ w' = w := by
  by_cases h : i < 0
  · clear hi
    go_enter Try.func42, Try.ntmps42
    go_wp2_with fail
    go_ret2
    exact ⟨rfl, rfl⟩
  · have h2 : 64 ≤ i := by omega
    clear hi
    go_enter Try.func42, Try.ntmps42
    go_wp2_with fail
    go_ret2
    exact ⟨rfl, rfl⟩

set_option maxRecDepth 100000 in
set_option maxHeartbeats 400000 in
theorem aread_dead (b : Nat) (i : Nat) (l : Int) (d : Bool) (w : World) (hi : i < 64) (hl : l ≤ 9223372036854775807) (hsp : spR l d = false)
    (c3 : w.cell? ⟨b, 4097, none⟩ = some (.int .i64 l)) (c4 : w.cell? ⟨b, 4098, none⟩ = some (.bool d)) (fz : ∀ o, w.frozen? ⟨b, o, none⟩ = false) :
    Calls Try.prog 42 #[.pointer (some ⟨b, 0, none⟩), .int .i64 i] w fun e w' => e = .returned (.tuple #[.slice none 0 0, .int .i64 7]) ∧ w' = spW w b l := by
  have HS := hide (aspend_any b l d w hl c3 c4 fz)
  rw [hsp] at HS
  have h1 : ¬ (i : Int) < 0 := by omega
  have h2 : ¬ 64 ≤ (i : Int) := by omega
  clear c3 c4 fz hsp hl
  go_enter Try.func42, Try.ntmps42
  go_wp2_with fail
  refine (unhide HS).mono ?_
  rintro e w1 ⟨rfl, hw1⟩
  go_wp2_with fail
  go_ret2
  exact ⟨rfl, rfl⟩

set_option maxRecDepth 100000 in
set_option maxHeartbeats 400000 in
theorem aread_ok (b : Nat) (i : Nat) (l : Int) (d : Bool) (w : World) (f : Nat → UInt8) (hi : i < 64) (hl : l ≤ 9223372036854775807) (hsp : spR l d = true)
    (c3 : w.cell? ⟨b, 4097, none⟩ = some (.int .i64 l)) (c4 : w.cell? ⟨b, 4098, none⟩ = some (.bool d)) (fz : ∀ o, w.frozen? ⟨b, o, none⟩ = false)
    (hseen : ∀ j, j < 2048 → (spW w b l).cell? ⟨b, 2048 + j, none⟩ = some (.int .u8 (f j).toNat)) (hlt : b < (spW w b l).heap.size) :
    Calls Try.prog 42 #[.pointer (some ⟨b, 0, none⟩), .int .i64 i] w fun e w' => e = .returned (.tuple #[.slice (some ⟨(spW w b l).heap.size, 0, none⟩) 32 32, .int .i64 0]) ∧ BytesW w' (spW w b l).heap.size 32 (fun k => f (i * 32 + k)) ∧ Below (spW w b l).heap.size (spW w b l) w' := by
  have HS := hide (aspend_any b l d w hl c3 c4 fz)
  rw [hsp] at HS
  have h1 : ¬ (i : Int) < 0 := by omega
  have h2 : ¬ 64 ≤ (i : Int) := by omega
  have h3 : (i : Int) < 64 := by omega
  have hmk := run_make32
  have hm0 := bytes_made (spW w b l) 32
  generalize spW w b l = W at *
  have Hseen := hide hseen
  clear c3 c4 fz hsp hl hseen
  go_enter Try.func42, Try.ntmps42
  go_wp2_with fail
  refine (unhide HS).mono ?_
  rintro e w1 ⟨rfl, rfl⟩
  go_wp2_with fail
  go_loopw [8] (fun kv wr => ∃ k : Nat, k ≤ 32 ∧ kv = .int .i64 k ∧ BytesW wr w1.heap.size 32 (fun j => if j < k then f (i * 32 + j) else 0) ∧ Below w1.heap.size w1 wr) (fun kv _ => 32 - (intOf kv).toNat)
  case atStart => exact ⟨0, by omega, rfl, hm0.congr (fun k _ => by simp), (Below.refl _ _).alloc (Nat.le_refl _) _⟩
  case round =>
    obtain ⟨k, hk, rfl, hbw, hbe⟩ := hrel
    by_cases hk32 : k < 32
    · have hk' : (k : Int) < 32 := by omega
      have cs := (hbe.cell (p := ⟨b, 2048 + (i * 32 + k), none⟩) hlt).trans (unhide Hseen (i * 32 + k) (by omega))
      rw [← Nat.add_assoc] at cs
      have ck := hbw.cell k hk32
      have hfz := hbw.fz
      have Hrow := hide (show BytesW (wr.setCell ⟨w1.heap.size, k, none⟩ (.int .u8 (f (i * 32 + k)).toNat)) w1.heap.size 32 (fun j => if j < k + 1 then f (i * 32 + j) else 0) from
        (hbw.set hk32 (f (i * 32 + k))).congr (fun j _ => by
          by_cases e : j = k
          · subst e; simp
          · by_cases h : j < k
            · simp [e, h, show j < k + 1 by omega]
            · simp [e, h, show ¬ j < k + 1 by omega]))
      generalize f (i * 32 + k) = x at *
      go_wp2_with fail
      go_roundw
      case rel => exact ⟨k + 1, by omega, by go_num, unhide Hrow, hbe.setCell (p := ⟨w1.heap.size, k, none⟩) (Nat.le_refl _) _⟩
      case measure => simp [intOf]; omega
    · have hk' : ¬ (k : Int) < 32 := by omega
      go_wp2_with fail
      go_ret2
      exact ⟨rfl, hbw.congr (fun j hj => by simp [show j < k by omega]), hbe⟩

end Go.Proofs.Ytdlhgbhaeedbdaa
