/- The document's device: Flush. -/
import Derived.Test.YtdlhgbhaeedbdaaDv6
namespace Go.Proofs.Ytdlhgbhaeedbdaa
open Go.RowKit

def Lg.mark (x : Lg) : Lg := { x with sure := true }

theorem lg_set (l : List Lg) (k : Nat) (hk : k < l.length) : (lgCells l).set (k * 3 + 2) (.bool true) = lgCells (l.set k l[k].mark) := by
  induction l generalizing k with
  | nil => simp at hk
  | cons a l ih =>
    cases k with
    | zero => simp [lgCells, Lg.cells, Lg.mark]
    | succ k =>
      have := ih k (by simpa using hk)
      have e : (k + 1) * 3 + 2 = k * 3 + 2 + 1 + 1 + 1 := by omega
      rw [e]
      simp only [lgCells, List.flatMap_cons, Lg.cells, List.cons_append, List.nil_append, List.set_cons_succ, List.getElem_cons_succ] at this ⊢
      rw [this]

def flushed (L : List Lg) (k : Nat) : List Lg := (L.take k).map Lg.mark ++ L.drop k

theorem flushed_len (L : List Lg) (k : Nat) : (flushed L k).length = L.length := by simp [flushed]; omega
theorem flushed_at {L : List Lg} {k : Nat} (hk : k < L.length) : (flushed L k)[k]'(by rw [flushed_len]; exact hk) = L[k] := by
  unfold flushed
  rw [List.getElem_append_right (by simp; omega)]
  simp [Nat.min_eq_left (Nat.le_of_lt hk)]
theorem flushed_succ {L : List Lg} {k : Nat} (hk : k < L.length) : (flushed L k).set k L[k].mark = flushed L (k + 1) := by
  unfold flushed
  rw [List.set_append_right _ _ (by simp; omega)]
  simp only [List.length_map, List.length_take, Nat.min_eq_left (Nat.le_of_lt hk), Nat.sub_self]
  rw [List.drop_eq_getElem_cons hk, List.set_cons_zero, List.take_succ_eq_append_getElem hk, List.map_append, List.append_assoc]
  rfl

set_option maxRecDepth 100000 in
set_option maxHeartbeats 400000 in
theorem rflush_any (b : Nat) (L : List Lg) (l : Int) (d : Bool) (w : World) (hl : l ≤ 9223372036854775807) (hn : L.length ≤ 4398046511000) (h : RefAt w b L l d) :
    Calls Try.prog 16 #[.pointer (some ⟨b, 0, none⟩)] w fun e w' => e = .returned (.int .i64 (if rcR l d then 0 else 7)) ∧
      RefAt w' b (if rcR l d then L.map Lg.mark else L) (rcLeft l d) (rcGone l d) ∧ Below b w w' ∧ TK RT w w' := by
  have HK := hide (rcall_any b l d w hl h.c1 h.c2 h.fz)
  obtain ⟨hr1, hr2, hr3⟩ := h.call
  have hr3' : TK RT w (rcW w b l d) := hr3
  cases hr : rcR l d with
  | false =>
    simp only [if_false, Bool.false_eq_true]
    rw [hr] at HK
    have HC := hide hr1
    clear h hr1 hr3
    go_enter Try.func16, Try.ntmps16
    go_wp2_with fail
    refine (unhide HK).mono ?_
    rintro e w1 ⟨rfl, hw1⟩
    go_wp2_with fail
    go_ret
    exact ⟨rfl, unhide HC, hr2, hr3'⟩
  | true =>
    simp only [if_true]
    rw [hr] at HK
    generalize rcW w b l d = W at *
    generalize rcLeft l d = l' at *
    generalize rcGone l d = d' at *
    obtain ⟨v, c0, hlog⟩ := hr1.c0
    obtain ⟨a, cap, rfl⟩ := slice_of_owns hlog
    have HC := hide hr1
    have Hlog := hide hlog
    have hblt := hr1.lt
    clear h hr1 hr3 hlog
    go_enter Try.func16, Try.ntmps16
    go_wp2_with fail
    refine (unhide HK).mono ?_
    rintro e w1 ⟨rfl, rfl⟩
    go_wp2_with fail
    go_loopw [4] (fun kv wr => ∃ k : Nat, k ≤ L.length ∧ kv = .int .i64 k ∧ LogW wr (b + 1) (.slice a L.length cap) (flushed L k) ∧ Below (b + 1) w1 wr ∧ TK RT w1 wr) (fun kv _ => L.length - (intOf kv).toNat)
    case atStart => exact ⟨0, Nat.zero_le _, rfl, by simpa [flushed] using unhide Hlog, Below.refl _ _, TK.refl _ _⟩
    case round =>
      obtain ⟨k, hk, rfl, hlg, hbe, htk⟩ := hrel
      have c0' := (hbe.cell (p := ⟨b, 0, none⟩) (by simp)).trans c0
      by_cases hlt : k < L.length
      · have hlt' : (k : Int) < (L.length : Int) := by omega
        have hkf : k < (flushed L k).length := by rw [flushed_len]; exact hlt
        obtain ⟨g, rfl, _, hbg, hglt, hcap, hcs⟩ := hlg.at hkf
        obtain ⟨_, _, q2⟩ := hcs k hkf
        have hst : (wr.setCell ⟨g, k * 3 + 2, none⟩ (.bool true)).ownsRow (b + 1) 91 3 (.slice (some ⟨g, 0, none⟩) L.length cap) L.length ((lgCells (flushed L k)).set (k * 3 + 2) (.bool true)) ∧ wr.grownBy (wr.setCell ⟨g, k * 3 + 2, none⟩ (.bool true)) (some g) :=
          World.ownsRow.stored (by have := hlg; unfold LogW at this; rw [flushed_len] at this; exact this) (k * 3 + 2) (.bool true)
        have hfz : wr.frozen? ⟨g, k * 3 + 2, none⟩ = false := World.ownsRow.frozenAt (by have := hlg; unfold LogW at this; rw [flushed_len] at this; exact this) (k * 3 + 2)
        have HL := hide (show LogW (wr.setCell ⟨g, k * 3 + 2, none⟩ (.bool true)) (b + 1) (.slice (some ⟨g, 0, none⟩) L.length cap) (flushed L (k + 1)) by
          unfold LogW
          rw [flushed_len, ← flushed_succ hlt, ← flushed_at hlt, ← lg_set _ k hkf]
          exact hst.1)
        have HT := hide (show TK RT wr (wr.setCell ⟨g, k * 3 + 2, none⟩ (.bool true)) from TK.grown hlg hst.2 (.inr rfl))
        clear hst hcs
        go_wp2_with fail
        go_roundw
        case rel => exact ⟨k + 1, by omega, by go_num, unhide HL, Below.setCell (B := b + 1) hbe (p := ⟨g, k * 3 + 2, none⟩) hbg _, htk.trans (unhide HT)⟩
        case measure => simp [intOf]; omega
      · have hlt' : ¬ (k : Int) < (L.length : Int) := by omega
        have hfin : flushed L k = L.map Lg.mark := by unfold flushed; rw [List.take_of_length_le (by omega), List.drop_of_length_le (by omega), List.append_nil]
        have HL := hide (show LogW wr (b + 1) (.slice a L.length cap) (L.map Lg.mark) by rw [← hfin]; exact hlg)
        clear hfin hlg
        go_wp2_with fail
        go_ret
        have hR := unhide HC
        obtain ⟨cs, fr, hty⟩ := hR.ty
        refine ⟨rfl, ⟨⟨cs, fr, (hbe.block b (by omega)).trans hty⟩, ⟨_, c0', unhide HL⟩, (hbe.cell (p := ⟨b, 1, none⟩) (by simp)).trans hR.c1, (hbe.cell (p := ⟨b, 2, none⟩) (by simp)).trans hR.c2, fun o => (hbe.frozen (p := ⟨b, o, none⟩) (by simp)).trans (hR.fz o), Nat.lt_of_lt_of_le hblt hbe.size⟩, hr2.trans (hbe.mono (Nat.le_succ b)), hr3'.trans htk⟩

end Go.Proofs.Ytdlhgbhaeedbdaa
