/- The document's log, its flushed and its late part. Plain mathematics. -/
import Derived.Test.YtdlhgbhaeedbdaaDv8
namespace Go.Proofs.Ytdlhgbhaeedbdaa
open Go.RowKit

theorem readOf_snoc (L : List Lg) (x : Lg) (i : Nat) : readOf (L ++ [x]) i = if x.sec = i then x.data else readOf L i := by
  unfold readOf
  rw [lastIn_snoc]
  by_cases h : x.sec = i <;> simp [h]

/-- The byte at a place of the 64 sectors of 32 bytes. -/
def byteIn (L : List Lg) (j : Nat) : UInt8 := (readOf L (j / 32)).data.toList.getD (j % 32) 0

theorem byteIn_snoc (L : List Lg) (x : Lg) (j : Nat) : byteIn (L ++ [x]) j = if x.sec = j / 32 then x.data.data.toList.getD (j % 32) 0 else byteIn L j := by
  unfold byteIn
  rw [readOf_snoc]
  split <;> rfl

theorem byteIn_nil (j : Nat) : byteIn [] j = 0 := by
  have h : j % 32 < 32 := by omega
  show ((List.replicate 32 (0 : UInt8))[j % 32]?).getD 0 = 0
  rw [List.getElem?_replicate, if_pos h]
  rfl

/-- Every text in the log has 32 bytes and a sector below 64. -/
def Fine (L : List Lg) : Prop := ∀ x ∈ L, x.sec < 64 ∧ x.data.size = 32

theorem readOf_size {L : List Lg} (h : Fine L) (i : Nat) : (readOf L i).size = 32 := by
  unfold readOf lastIn
  cases e : L.reverse.find? fun x => x.sec == i with
  | none => rfl
  | some x =>
    have := List.mem_of_find?_eq_some e
    exact (h x (by simpa using this)).2

theorem fine_snoc {L : List Lg} {x : Lg} (h : Fine L) (h1 : x.sec < 64) (h2 : x.data.size = 32) : Fine (L ++ [x]) := by
  intro y hy
  rcases List.mem_append.1 hy with hy | hy
  · exact h y hy
  · simp at hy; subst hy; exact ⟨h1, h2⟩

/-- A text of 32 bytes is told by its bytes. -/
theorem text_bytes {L : List Lg} (h : Fine L) (i : Nat) : (readOf L i).data.toList = (List.range 32).map fun k => byteIn L (i * 32 + k) := by
  have hs : (readOf L i).data.toList.length = 32 := by rw [Array.length_toList]; exact readOf_size h i
  apply List.ext_getElem?
  intro k
  by_cases hk : k < 32
  · have e1 : (i * 32 + k) / 32 = i := by omega
    have e2 : (i * 32 + k) % 32 = k := by omega
    have hk' : k < (readOf L i).data.toList.length := by rw [hs]; exact hk
    rw [List.getElem?_map, List.getElem?_range hk, List.getElem?_eq_getElem hk']
    simp only [byteIn, e1, e2, Option.map_some, List.getD, List.getElem?_eq_getElem hk', Option.getD_some]
  · rw [List.getElem?_eq_none (by omega), List.getElem?_eq_none (by rw [List.length_map, List.length_range]; omega)]

theorem byteIn_mark (L : List Lg) (j : Nat) : byteIn (L.map Lg.mark) j = byteIn L j := by
  have : ∀ i, readOf (L.map Lg.mark) i = readOf L i := fun i => by
    unfold readOf lastIn
    rw [← List.map_reverse, List.find?_map]
    have : ((fun x : Lg => x.sec == i) ∘ Lg.mark) = fun x => x.sec == i := rfl
    rw [this]
    cases L.reverse.find? fun x => x.sec == i <;> rfl
  unfold byteIn
  rw [this]

/-- The late writes that a Restore keeps. -/
def keptTo (keep : Int) (U : List Lg) : Nat → List Lg
  | 0 => []
  | k + 1 => keptTo keep U k ++ (if bitOf keep k then (U[k]?.map Lg.mark).toList else [])

theorem restTo_sure (keep : Int) {S : List Lg} (U : List Lg) (hS : ∀ x ∈ S, x.sure = true) (k : Nat) (hk : k ≤ S.length) : restTo keep (S ++ U) k = (S.take k, 0) := by
  induction k with
  | zero => rfl
  | succ k ih =>
    have hks : k < S.length := by omega
    rw [restTo_succ keep (show k < (S ++ U).length by simp; omega), ih (by omega), List.getElem_append_left hks]
    have h1 := hS S[k] (List.getElem_mem hks)
    have h2 : S[k].mark = S[k] := by
      generalize S[k] = x at h1
      cases x; simp only at h1; subst h1; rfl
    simp only [rest1, h1, if_true, h2, List.take_succ_eq_append_getElem hks]

theorem restTo_late (keep : Int) {S U : List Lg} (hS : ∀ x ∈ S, x.sure = true) (hU : ∀ x ∈ U, x.sure = false) (k : Nat) (hk : k ≤ U.length) : restTo keep (S ++ U) (S.length + k) = (S ++ keptTo keep U k, k) := by
  induction k with
  | zero => rw [Nat.add_zero, restTo_sure keep U hS _ (Nat.le_refl _), List.take_length]; simp [keptTo]
  | succ k ih =>
    have hku : k < U.length := by omega
    rw [← Nat.add_assoc, restTo_succ keep (show S.length + k < (S ++ U).length by simp; omega), ih (by omega), List.getElem_append_right (by omega)]
    have h1 := hU U[k] (List.getElem_mem hku)
    simp only [Nat.add_sub_cancel_left]
    simp only [rest1, h1, Bool.false_eq_true, if_false, keptTo, List.getElem?_eq_getElem hku, Option.map_some, Option.toList_some]
    split <;> simp

theorem mark_sure {S : List Lg} (hS : ∀ x ∈ S, x.sure = true) : S.map Lg.mark = S := by
  conv => rhs; rw [← List.map_id S]
  refine List.map_congr_left fun x hx => ?_
  have := hS x hx
  cases x; simp only at this; subst this; rfl

end Go.Proofs.Ytdlhgbhaeedbdaa
