/- The small functions on texts and lists of texts: 'begins', 'rank', 'in', 'joined', 'pick', 'ordered'. -/
import Derived.Test.YtdlhgbhaeedbdaaPieces
namespace Go.Proofs.Ytdlhgbhaeedbdaa
open Go.RowKit

/-- The texts l lie in block g from offset o on. -/
def StrsIn (w : World) (g o : Nat) (l : List ByteArray) : Prop := g < w.heap.size ∧ ∀ i (h : i < l.length), w.cell? ⟨g, o + i, none⟩ = some (.string l[i])

theorem StrsIn.below {B : Nat} {w w' : World} {g o : Nat} {l : List ByteArray} (h : StrsIn w g o l) (hb : Below B w w') (hg : g < B) : StrsIn w' g o l :=
  ⟨Nat.lt_of_lt_of_le h.1 hb.size, fun i hi => (hb.cell (p := ⟨g, o + i, none⟩) hg).trans (h.2 i hi)⟩

theorem StrsIn.later {w w' : World} {g o : Nat} {l : List ByteArray} (h : StrsIn w g o l) (hb : Below w.heap.size w w') : StrsIn w' g o l := h.below hb h.1

theorem StrsIn.drop {w : World} {g o : Nat} {l : List ByteArray} (h : StrsIn w g o l) (k : Nat) : StrsIn w g (o + k) (l.drop k) :=
  ⟨h.1, fun i hi => by
    have := h.2 (k + i) (by simp at hi; omega)
    rw [List.getElem_drop]
    rw [show o + k + i = o + (k + i) from by omega]
    exact this⟩

theorem StrsIn.take {w : World} {g o : Nat} {l : List ByteArray} (h : StrsIn w g o l) (k : Nat) : StrsIn w g o (l.take k) :=
  ⟨h.1, fun i hi => by
    have := h.2 i (by simp at hi; omega)
    rw [List.getElem_take]
    exact this⟩

/-- v is a list of the texts l. -/
def StrsAt (w : World) (v : Value) (l : List ByteArray) : Prop :=
  (v = .slice none 0 0 ∧ l = []) ∨ ∃ g cap, v = .slice (some ⟨g, 0, none⟩) l.length cap ∧ l.length ≤ cap ∧ StrsIn w g 0 l

theorem strs_of_owns {w : World} {base : Nat} {v : Value} {l : List ByteArray} (h : w.ownsRow base 9 1 v l.length (strVals l)) : StrsAt w v l := by
  have hh := h
  obtain ⟨_, ⟨rfl, h0⟩ | ⟨g, cap, cur, rfl, hb, hg, hc, _, _, _⟩⟩ := hh
  · exact Or.inl ⟨rfl, List.length_eq_zero_iff.1 h0⟩
  · refine Or.inr ⟨g, cap, rfl, hc, (h.lt g rfl).2, fun i hi => ?_⟩
    have := h.cells (g := g) rfl i (.string l[i]) (by simp [strVals, List.getElem?_eq_getElem hi])
    rw [addr_add] at this
    rw [Nat.zero_add]
    exact this

/-- Does s begin with t? -/
def begB (s t : ByteArray) : Bool := decide (t.size ≤ s.size) && ((s.extract 0 t.size).toList == t.toList)

set_option maxHeartbeats 400000 in
theorem begins_any (s t : ByteArray) (w : World) (_hs : s.size ≤ 1000000) (_ht : t.size ≤ 1000000) :
    Calls Try.prog 53 #[.string s, .string t] w fun e w' => e = .returned (.bool (begB s t)) ∧ w' = w := by
  by_cases h : t.size ≤ s.size
  · have h' : (t.size : Int) ≤ (s.size : Int) := by omega
    have hf : begB s t = ((s.extract 0 t.size).toList == t.toList) := by simp [begB, h]
    rw [hf]
    go_enter Try.func53, Try.ntmps53
    go_wp2
    go_ret
    exact ⟨rfl, rfl⟩
  · have h' : ¬ (t.size : Int) ≤ (s.size : Int) := by omega
    have hf : begB s t = false := by simp [begB, h]
    rw [hf]
    go_enter Try.func53, Try.ntmps53
    go_wp2
    go_ret
    exact ⟨rfl, rfl⟩

def rankB (p : ByteArray) : Nat :=
  if begB p ⟨#[100, 105, 115, 107, 32]⟩ then 0 else if begB p ⟨#[116, 97, 114, 103, 101, 116, 32]⟩ then 1 else if begB p ⟨#[108, 117, 110, 32]⟩ then 2 else if begB p ⟨#[104, 111, 115, 116, 32]⟩ then 3 else 4

set_option maxHeartbeats 400000 in
theorem rank_any (p : ByteArray) (w : World) (hp : p.size ≤ 1000000) :
    Calls Try.prog 49 #[.string p] w fun e w' => e = .returned (.int .i64 (rankB p : Nat)) ∧ w' = w := by
  have B : ∀ t : ByteArray, t.size ≤ 1000000 → Calls Try.prog 53 #[.string p, .string t] w fun e w' => e = .returned (.bool (begB p t)) ∧ w' = w := fun t ht => begins_any p t w hp ht
  have H0 := hide (B ⟨#[100, 105, 115, 107, 32]⟩ (by decide))
  have H1 := hide (B ⟨#[116, 97, 114, 103, 101, 116, 32]⟩ (by decide))
  have H2 := hide (B ⟨#[108, 117, 110, 32]⟩ (by decide))
  have H3 := hide (B ⟨#[104, 111, 115, 116, 32]⟩ (by decide))
  clear B
  unfold rankB
  generalize begB p ⟨#[100, 105, 115, 107, 32]⟩ = b0 at *
  generalize begB p ⟨#[116, 97, 114, 103, 101, 116, 32]⟩ = b1 at *
  generalize begB p ⟨#[108, 117, 110, 32]⟩ = b2 at *
  generalize begB p ⟨#[104, 111, 115, 116, 32]⟩ = b3 at *
  cases b0 with
  | true =>
    go_enter Try.func49, Try.ntmps49
    go_wp2_with fail
    refine (unhide H0).mono ?_
    rintro e w1 ⟨rfl, rfl⟩
    go_wp2_with fail
    go_ret
    exact ⟨rfl, rfl⟩
  | false =>
    cases b1 with
    | true =>
      go_enter Try.func49, Try.ntmps49
      go_wp2_with fail
      refine (unhide H0).mono ?_
      rintro e w1 ⟨rfl, rfl⟩
      go_wp2_with fail
      refine (unhide H1).mono ?_
      rintro e w1 ⟨rfl, rfl⟩
      go_wp2_with fail
      go_ret
      exact ⟨rfl, rfl⟩
    | false =>
      cases b2 with
      | true =>
        go_enter Try.func49, Try.ntmps49
        go_wp2_with fail
        refine (unhide H0).mono ?_
        rintro e w1 ⟨rfl, rfl⟩
        go_wp2_with fail
        refine (unhide H1).mono ?_
        rintro e w1 ⟨rfl, rfl⟩
        go_wp2_with fail
        refine (unhide H2).mono ?_
        rintro e w1 ⟨rfl, rfl⟩
        go_wp2_with fail
        go_ret
        exact ⟨rfl, rfl⟩
      | false =>
        cases b3 with
        | true =>
          go_enter Try.func49, Try.ntmps49
          go_wp2_with fail
          refine (unhide H0).mono ?_
          rintro e w1 ⟨rfl, rfl⟩
          go_wp2_with fail
          refine (unhide H1).mono ?_
          rintro e w1 ⟨rfl, rfl⟩
          go_wp2_with fail
          refine (unhide H2).mono ?_
          rintro e w1 ⟨rfl, rfl⟩
          go_wp2_with fail
          refine (unhide H3).mono ?_
          rintro e w1 ⟨rfl, rfl⟩
          go_wp2_with fail
          go_ret
          exact ⟨rfl, rfl⟩
        | false =>
          go_enter Try.func49, Try.ntmps49
          go_wp2_with fail
          refine (unhide H0).mono ?_
          rintro e w1 ⟨rfl, rfl⟩
          go_wp2_with fail
          refine (unhide H1).mono ?_
          rintro e w1 ⟨rfl, rfl⟩
          go_wp2_with fail
          refine (unhide H2).mono ?_
          rintro e w1 ⟨rfl, rfl⟩
          go_wp2_with fail
          refine (unhide H3).mono ?_
          rintro e w1 ⟨rfl, rfl⟩
          go_wp2_with fail
          go_ret
          exact ⟨rfl, rfl⟩

/-- Does the text stand in the list? -/
def inB (l : List ByteArray) (s : ByteArray) : Bool := l.any fun x => decide (x = s)
theorem inB_true {l : List ByteArray} {s : ByteArray} : inB l s = true ↔ s ∈ l := by
  simp [inB]
theorem inB_false {l : List ByteArray} {s : ByteArray} : inB l s = false ↔ s ∉ l := by
  rw [← inB_true]; simp

set_option maxHeartbeats 400000 in
theorem in_any (g cap : Nat) (l : List ByteArray) (s : ByteArray) (w : World) (hl : l.length ≤ 1000000) (hit : StrsIn w g 0 l) :
    Calls Try.prog 27 #[.slice (some ⟨g, 0, none⟩) l.length cap, .string s] w fun e w' => e = .returned (.bool (inB l s)) ∧ w' = w := by
  go_enter Try.func27, Try.ntmps27
  go_wp2
  go_loop [5] (fun i => ∃ k : Nat, k ≤ l.length ∧ i = .int .i64 k ∧ s ∉ l.take k) (fun i => l.length - (intOf i).toNat)
  case atStart => exact ⟨0, Nat.zero_le _, rfl, by simp⟩
  case round =>
    obtain ⟨k, hk, rfl, hno⟩ := hrel
    have Hno := hide hno
    clear hno
    by_cases hlt : k < l.length
    · have hc := hit.2 k hlt
      rw [Nat.zero_add] at hc
      obtain ⟨x, hx⟩ : ∃ x, x = l[k] := ⟨_, rfl⟩
      rw [← hx] at hc
      have Hx := hide hx
      clear hx
      have hlt' : (k : Int) < (l.length : Int) := by omega
      by_cases he : x = s
      · have hmem : s ∈ l := by rw [← he, unhide Hx]; exact List.getElem_mem hlt
        have hf : inB l s = true := inB_true.2 hmem
        have Hf := hide hf
        have he' : (x.toList == s.toList) = true := by rw [he]; simp
        clear hmem hf he
        go_wp2
        go_ret
        exact ⟨ret_bool (unhide Hf).symm, rfl⟩
      · have hno : s ∉ l.take (k + 1) := by
          rw [List.take_succ_eq_append_getElem hlt, List.mem_append]
          rintro (h | h)
          · exact unhide Hno h
          · simp at h; exact he (by rw [unhide Hx]; exact h.symm)
        have H2 := hide hno
        have he' : (x.toList == s.toList) = false := by
          rw [beq_eq_false_iff_ne]; exact fun h => he (tl_inj h)
        clear hno he
        go_wp2
        go_round
        case rel => exact ⟨k + 1, by omega, by go_num, unhide H2⟩
        case measure => simp [intOf]; omega
    · have hno := unhide Hno
      rw [List.take_of_length_le (by omega)] at hno
      have hf : inB l s = false := inB_false.2 hno
      have Hf := hide hf
      clear hno hf
      go_wp2
      go_ret
      exact ⟨ret_bool (unhide Hf).symm, rfl⟩

end Go.Proofs.Ytdlhgbhaeedbdaa
