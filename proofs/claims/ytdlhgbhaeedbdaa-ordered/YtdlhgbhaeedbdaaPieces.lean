/- 'pieces', 'awake'. -/
import Derived.Test.YtdlhgbhaeedbdaaPrint2
namespace Go.Proofs.Ytdlhgbhaeedbdaa
open Go.RowKit

theorem Try.infoString : (Try.prog.info? 9).map (fun i => (i.zero, i.size, i.bytes)) = some (some (.string ⟨#[]⟩), 1, 16) := by kernel_rfl

/-- The pieces of the first k bytes, and where the next one begins. -/
def pcsTo (s : ByteArray) : Nat → List ByteArray × Nat
  | 0 => ([], 0)
  | k + 1 => if byteAt s k = 59 then ((pcsTo s k).1 ++ [s.extract (pcsTo s k).2 (k + 1)], k + 1) else pcsTo s k
/-- The pieces of a text. -/
def pcs (s : ByteArray) : List ByteArray := if (pcsTo s s.size).2 < s.size then (pcsTo s s.size).1 ++ [s.extract (pcsTo s s.size).2 s.size] else (pcsTo s s.size).1

theorem pcsTo_le (s : ByteArray) (k : Nat) : (pcsTo s k).2 ≤ k ∧ (pcsTo s k).1.length ≤ k := by
  induction k with
  | zero => simp [pcsTo]
  | succ k ih =>
    simp only [pcsTo]
    split
    · simp; omega
    · omega

def strVals (l : List ByteArray) : List Value := l.map Value.string

theorem one_str (x : ByteArray) : ∀ u ∈ [Value.string x], u.oneCell' = true := by intro u hu; simp at hu; subst hu; rfl

set_option maxRecDepth 100000 in
set_option maxHeartbeats 400000 in
theorem pieces_any (s : ByteArray) (w : World) (hs : s.size ≤ 100000) :
    Calls Try.prog 25 #[.string s] w fun e w' => ∃ v, e = .returned v ∧ w'.ownsRow w.heap.size 9 1 v (pcs s).length (strVals (pcs s)) ∧ Below w.heap.size w w' := by
  obtain ⟨i0, hi, hz0, hz1, hz2⟩ := info_parts Try.infoString
  go_enter Try.func25, Try.ntmps25
  go_wp2
  go_loopw [3, 4, 5] (fun v f i wr => ∃ k : Nat, k ≤ s.size ∧ i = .int .i64 k ∧ f = .int .i64 (pcsTo s k).2 ∧ wr.ownsRow w.heap.size 9 1 v (pcsTo s k).1.length (strVals (pcsTo s k).1) ∧ Below w.heap.size w wr) (fun _ _ i _ => s.size - (intOf i).toNat)
  case atStart => exact ⟨0, Nat.zero_le _, rfl, rfl, World.ownsRow_nil _ _ _ _, Below.refl _ _⟩
  case round =>
    obtain ⟨k, hk, rfl, rfl, hown, hbe⟩ := hrel
    obtain ⟨a, cap, rfl⟩ := slice_of_owns hown
    have hle := pcsTo_le s k
    obtain ⟨hle1, hle2⟩ := hle
    have hsz := hbe.size
    by_cases hlt : k < s.size
    · have hlt' : (k : Int) < (s.size : Int) := by omega
      by_cases hc : byteAt s k = 59
      · have hstep : pcsTo s (k + 1) = ((pcsTo s k).1 ++ [s.extract (pcsTo s k).2 (k + 1)], k + 1) := by simp [pcsTo, hc]
        have Hstep := hide hstep
        have hc' : ((s[k].toNat : Int) == 59) = true := by rw [byteAt_in hlt] at hc; rw [beq_iff_eq]; exact hc
        have hfk : ((pcsTo s k).2 : Int) ≤ (k : Int) + 1 := by omega
        have hks : (k : Int) + 1 ≤ (s.size : Int) := by omega
        clear hstep hc
        generalize hf : (pcsTo s k).2 = f at *
        generalize hl : (pcsTo s k).1 = l at *
        have Hf := hide hf
        have Hl := hide hl
        clear hf hl
        go_wp2_with (at_builtin; refine wpList_append_own _ rfl _ _ 47 rfl w.heap.size 9 i0 (.string ⟨#[]⟩) 1 16 Try.underlying47 hi hz0 hz1 hz2 rfl (by decide) (.slice a l.length cap) l.length (strVals l) ?hs ?c0 ⟨wr.heap.size, 0, none⟩ 1 1 [.string (s.extract f (k + 1))] ?hx rfl ?c1 (one_str _) ?c3 ?c4 ?c5 ?_)
        case hs => rfl
        case c0 => exact hown.alloc _
        case hx => rfl
        case c1 => exact cell_one_new _ _ _
        case c3 => unfold maxLen; omega
        case c4 => omega
        case c5 => simp; omega
        intro v' w2 hown' hgrow _
        have hbe2 := (hbe.alloc hsz _).grown hgrow (by simp; omega) (fun k e => (hown.lt k e).1)
        clear hgrow
        go_wp2
        go_roundw
        case rel =>
          refine ⟨k + 1, by omega, by go_num, ?_, ?_, hbe2⟩
          · rw [unhide Hstep]; go_num
          · rw [unhide Hstep]
            simp only [List.length_append, strVals, List.map_append]
            exact hown'
        case measure => simp [intOf]; omega
      · have hstep : pcsTo s (k + 1) = pcsTo s k := by simp [pcsTo, hc]
        have Hstep := hide hstep
        have hc' : ((s[k].toNat : Int) == 59) = false := by rw [byteAt_in hlt] at hc; rw [beq_eq_false_iff_ne]; exact hc
        clear hstep hc
        go_wp2
        go_roundw
        case rel => exact ⟨k + 1, by omega, by go_num, by rw [unhide Hstep], by rw [unhide Hstep]; exact hown, hbe⟩
        case measure => simp [intOf]; omega
    · have hks : k = s.size := by omega
      by_cases hf : (pcsTo s s.size).2 < s.size
      · have hp : pcs s = (pcsTo s s.size).1 ++ [s.extract (pcsTo s s.size).2 s.size] := by simp [pcs, hf]
        have Hp := hide hp
        rw [hks] at hown hle1 hle2 ⊢
        clear hp hks hlt hk
        have hf' : ((pcsTo s s.size).2 : Int) < (s.size : Int) := by omega
        generalize hfe : (pcsTo s s.size).2 = f at *
        generalize hle : (pcsTo s s.size).1 = l at *
        have Hf := hide hfe
        have Hl := hide hle
        clear hfe hle
        go_wp2_with (at_builtin; refine wpList_append_own _ rfl _ _ 47 rfl w.heap.size 9 i0 (.string ⟨#[]⟩) 1 16 Try.underlying47 hi hz0 hz1 hz2 rfl (by decide) (.slice a l.length cap) l.length (strVals l) ?hs ?c0 ⟨wr.heap.size, 0, none⟩ 1 1 [.string (s.extract f s.size)] ?hx rfl ?c1 (one_str _) ?c3 ?c4 ?c5 ?_)
        case hs => rfl
        case c0 => exact hown.alloc _
        case hx => rfl
        case c1 => exact cell_one_new _ _ _
        case c3 => unfold maxLen; omega
        case c4 => omega
        case c5 => simp; omega
        intro v' w2 hown' hgrow _
        have hbe2 := (hbe.alloc hsz _).grown hgrow (by simp; omega) (fun k e => (hown.lt k e).1)
        clear hgrow
        go_wp2
        go_ret
        refine ⟨v', rfl, ?_, hbe2⟩
        rw [unhide Hp]
        simp only [List.length_append, strVals, List.map_append]
        exact hown'
      · have hp : pcs s = (pcsTo s s.size).1 := by simp [pcs, hf]
        have Hp := hide hp
        rw [hks] at hown ⊢
        have hf' : ¬ ((pcsTo s s.size).2 : Int) < (s.size : Int) := by omega
        clear hp hks
        go_wp2
        go_ret
        refine ⟨_, rfl, ?_, hbe⟩
        rw [unhide Hp]
        exact hown

end Go.Proofs.Ytdlhgbhaeedbdaa
