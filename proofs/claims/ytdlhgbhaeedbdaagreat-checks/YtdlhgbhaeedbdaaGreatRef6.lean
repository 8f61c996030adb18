/- The document's answer: 'cut', walked; and what it makes of a text of segments. -/
import Derived.Test.YtdlhgbhaeedbdaaGreatRef5
namespace Go.Proofs.YtdlhgbhaeedbdaaGreat
open Go.RowKit

theorem Tryz.infoStr : (Tryz.prog.info? 9).map (fun i => (i.zero, i.size, i.bytes)) = some (some (.string ⟨#[]⟩), 1, 16) := by kernel_rfl

/-- What is cut off the first k bytes, and where the next part begins. -/
def cutTo (s : ByteArray) (c : Int) : Nat → List ByteArray × Nat
  | 0 => ([], 0)
  | k + 1 => if byteAt s k = c then ((cutTo s c k).1 ++ [s.extract (cutTo s c k).2 k], k + 1) else cutTo s c k
def cutS (s : ByteArray) (c : Int) : List ByteArray := (cutTo s c s.size).1 ++ [s.extract (cutTo s c s.size).2 s.size]

theorem cutTo_le (s : ByteArray) (c : Int) (k : Nat) : (cutTo s c k).2 ≤ k ∧ (cutTo s c k).1.length ≤ k := by
  induction k with
  | zero => simp [cutTo]
  | succ k ih =>
    simp only [cutTo]
    split
    · simp; omega
    · omega

def strsV (l : List ByteArray) : List Value := l.map Value.string
theorem one_strV (x : ByteArray) : ∀ u ∈ [Value.string x], u.oneCell' = true := by intro u hu; simp at hu; subst hu; rfl

set_option maxRecDepth 100000 in
set_option maxHeartbeats 400000 in
theorem rcut_any (s : ByteArray) (c : Int) (w : World) (hs : s.size ≤ 1000000) :
    Calls Tryz.prog 88 #[.string s, .int .u8 c] w fun e w' => ∃ v, e = .returned v ∧ w'.ownsRow w.heap.size 9 1 v (cutS s c).length (strsV (cutS s c)) ∧ Below w.heap.size w w' := by
  obtain ⟨i0, hi, hz0, hz1, hz2⟩ := info_parts Tryz.infoStr
  go_enter Tryz.func88, Tryz.ntmps88
  go_wp2
  go_loopw [5, 6, 7] (fun v f i wr => ∃ k : Nat, k ≤ s.size ∧ i = .int .i64 k ∧ f = .int .i64 (cutTo s c k).2 ∧ wr.ownsRow w.heap.size 9 1 v (cutTo s c k).1.length (strsV (cutTo s c k).1) ∧ Below w.heap.size w wr) (fun _ _ i _ => s.size - (intOf i).toNat)
  case atStart => exact ⟨0, Nat.zero_le _, rfl, rfl, World.ownsRow_nil _ _ _ _, Below.refl _ _⟩
  case round =>
    obtain ⟨k, hk, rfl, rfl, hown, hbe⟩ := hrel
    obtain ⟨a, cap, rfl⟩ := slice_of_owns hown
    obtain ⟨hle1, hle2⟩ := cutTo_le s c k
    have hsz := hbe.size
    by_cases hlt : k < s.size
    · have hlt' : (k : Int) < (s.size : Int) := by omega
      by_cases hc : byteAt s k = c
      · have hstep : cutTo s c (k + 1) = ((cutTo s c k).1 ++ [s.extract (cutTo s c k).2 k], k + 1) := by simp [cutTo, hc]
        have Hstep := hide hstep
        have hc' : ((s[k].toNat : Int) == c) = true := by rw [byteAt_in hlt] at hc; exact bt hc
        have hfk : ((cutTo s c k).2 : Int) ≤ (k : Int) := by omega
        have hks : (k : Int) ≤ (s.size : Int) := by omega
        clear hstep hc
        generalize hf : (cutTo s c k).2 = f at *
        generalize hl : (cutTo s c k).1 = l at *
        have Hf := hide hf
        have Hl := hide hl
        clear hf hl
        go_wp2_with (at_builtin; refine wpList_append_own _ rfl _ _ 30 rfl w.heap.size 9 i0 (.string ⟨#[]⟩) 1 16 Tryz.underlying30 hi hz0 hz1 hz2 rfl (by decide) (.slice a l.length cap) l.length (strsV l) ?hs ?c0 ⟨wr.heap.size, 0, none⟩ 1 1 [.string (s.extract f k)] ?hx rfl ?c1 (one_strV _) ?c3 ?c4 ?c5 ?_)
        case hs => rfl
        case c0 => exact hown.alloc _
        case hx => rfl
        case c1 => exact cell_one_new _ _ _
        case c3 => unfold maxLen; omega
        case c4 => omega
        case c5 => simp; omega
        intro v' w2 hown' hgrow _
        have hbe2 := (hbe.alloc hsz _).grown hgrow (by simp; omega) (fun k e => (hown.lt k e).1)
        clear hgrow
        go_wp2
        go_roundw
        case rel =>
          refine ⟨k + 1, by omega, by go_num, ?_, ?_, hbe2⟩
          · rw [unhide Hstep]; go_num
          · rw [unhide Hstep]
            simp only [List.length_append, strsV, List.map_append]
            exact hown'
        case measure => simp [intOf]; omega
      · have hstep : cutTo s c (k + 1) = cutTo s c k := by simp [cutTo, hc]
        have Hstep := hide hstep
        have hc' : ((s[k].toNat : Int) == c) = false := by rw [byteAt_in hlt] at hc; exact bf hc
        clear hstep hc
        go_wp2
        go_roundw
        case rel => exact ⟨k + 1, by omega, by go_num, by rw [unhide Hstep], by rw [unhide Hstep]; exact hown, hbe⟩
        case measure => simp [intOf]; omega
    · have hks : k = s.size := by omega
      have hp : cutS s c = (cutTo s c s.size).1 ++ [s.extract (cutTo s c s.size).2 s.size] := rfl
      have Hp := hide hp
      rw [hks] at hown hle1 hle2 ⊢
      clear hp hks hlt hk
      have hf' : ((cutTo s c s.size).2 : Int) ≤ (s.size : Int) := by omega
      generalize hfe : (cutTo s c s.size).2 = f at *
      generalize hle : (cutTo s c s.size).1 = l at *
      have Hf := hide hfe
      have Hl := hide hle
      clear hfe hle
      go_wp2_with (at_builtin; refine wpList_append_own _ rfl _ _ 30 rfl w.heap.size 9 i0 (.string ⟨#[]⟩) 1 16 Tryz.underlying30 hi hz0 hz1 hz2 rfl (by decide) (.slice a l.length cap) l.length (strsV l) ?hs ?c0 ⟨wr.heap.size, 0, none⟩ 1 1 [.string (s.extract f s.size)] ?hx rfl ?c1 (one_strV _) ?c3 ?c4 ?c5 ?_)
      case hs => rfl
      case c0 => exact hown.alloc _
      case hx => rfl
      case c1 => exact cell_one_new _ _ _
      case c3 => unfold maxLen; omega
      case c4 => omega
      case c5 => simp; omega
      intro v' w2 hown' hgrow _
      have hbe2 := (hbe.alloc hsz _).grown hgrow (by simp; omega) (fun k e => (hown.lt k e).1)
      clear hgrow
      go_wp2
      go_ret
      refine ⟨v', rfl, ?_, hbe2⟩
      rw [unhide Hp]
      simp only [List.length_append, strsV, List.map_append]
      exact hown'

/-- Segments, each with the sign behind it. -/
def segs (c : UInt8) (l : List (List UInt8)) : List UInt8 := l.flatMap (· ++ [c])
def mkS (l : List UInt8) : ByteArray := ⟨l.toArray⟩

theorem cutTo_plain (s : ByteArray) (c : UInt8) (k : Nat) (l r : List UInt8) (h : rest s k = l ++ r) (hl : c ∉ l) : cutTo s (c.toNat : Int) (k + l.length) = cutTo s (c.toNat : Int) k := by
  induction l generalizing k with
  | nil => rfl
  | cons d l ih =>
    have h1 : rest s k = d :: (l ++ r) := h
    have h2 : rest s (k + 1) = l ++ r := rest_of (a := [d]) (by rw [h1]; rfl)
    rw [List.length_cons, show k + (l.length + 1) = (k + 1) + l.length from by omega, ih (k + 1) h2 (fun e => hl (by simp [e]))]
    have hc : byteAt s k ≠ (c.toNat : Int) := by
      rw [byteAt_cons h1]
      intro e
      exact hl (by rw [UInt8.toNat_inj.1 (show d.toNat = c.toNat by omega)]; simp)
    simp [cutTo, hc]

theorem cutTo_segs (s : ByteArray) (c : UInt8) (l : List (List UInt8)) (hl : ∀ x ∈ l, c ∉ x) (k : Nat) (r : List UInt8) (h : rest s k = segs c l ++ r) (h0 : (cutTo s (c.toNat : Int) k).2 = k) :
    cutTo s (c.toNat : Int) (k + (segs c l).length) = ((cutTo s (c.toNat : Int) k).1 ++ l.map mkS, k + (segs c l).length) := by
  induction l generalizing k with
  | nil => simp [segs]; exact Prod.ext rfl h0
  | cons x l ih =>
    have e : segs c (x :: l) = (x ++ [c]) ++ segs c l := rfl
    rw [e] at h ⊢
    have hb : rest s k = x ++ ([c] ++ (segs c l ++ r)) := by rw [h]; simp
    have h1 := cutTo_plain s c k x _ hb (hl x (by simp))
    have hs : rest s (k + x.length) = [c] ++ (segs c l ++ r) := rest_of hb
    have hc : byteAt s (k + x.length) = (c.toNat : Int) := byteAt_cons (c := c) (by rw [hs]; rfl)
    have h2 : cutTo s (c.toNat : Int) (k + x.length + 1) = ((cutTo s (c.toNat : Int) k).1 ++ [mkS x], k + x.length + 1) := by
      simp only [cutTo, hc, if_true]
      rw [h1, h0, extract_rest hb]
      rfl
    have h3 := ih (fun y hy => hl y (by simp [hy])) (k + x.length + 1) (by exact rest_of (a := [c]) hs) (by rw [h2])
    rw [List.length_append, List.length_append, List.length_singleton, show k + (x.length + 1 + (segs c l).length) = k + x.length + 1 + (segs c l).length from by omega, h3, h2]
    simp

/-- A text of segments is cut into them. -/
theorem cutS_segs (c : UInt8) (l : List (List UInt8)) (hl : ∀ x ∈ l, c ∉ x) (z : List UInt8) (hz : c ∉ z) : cutS (mkS (segs c l ++ z)) (c.toNat : Int) = (l ++ [z]).map mkS := by
  have h0 : rest (mkS (segs c l ++ z)) 0 = segs c l ++ z := by rw [rest_zero]; simp [mkS]
  have h1 := cutTo_segs (mkS (segs c l ++ z)) c l hl 0 z h0 rfl
  rw [Nat.zero_add] at h1
  have h2 : rest (mkS (segs c l ++ z)) (segs c l).length = z ++ [] := by
    have := rest_of h0
    rw [Nat.zero_add] at this
    rw [this]; simp
  have h3 := cutTo_plain (mkS (segs c l ++ z)) c (segs c l).length z [] h2 hz
  have hsz : (mkS (segs c l ++ z)).size = (segs c l).length + z.length := by simp [mkS, ByteArray.size]
  unfold cutS
  rw [hsz, h3, h1]
  simp only
  rw [extract_rest h2]
  simp [cutTo, mkS]

end Go.Proofs.YtdlhgbhaeedbdaaGreat
