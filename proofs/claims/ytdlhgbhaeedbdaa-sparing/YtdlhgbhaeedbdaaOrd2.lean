/- Pieces and ranks of an arrangement's items; their texts in order. Plain mathematics. -/
import Derived.Test.YtdlhgbhaeedbdaaPureA
import Derived.Test.YtdlhgbhaeedbdaaTexts2
namespace Go.Proofs.Ytdlhgbhaeedbdaa
open Go.RowKit

def noSemi (l : List UInt8) : Prop := ∀ c ∈ l, c ≠ 59

theorem letter_semi {c : UInt8} (h : letter c) : c ≠ 59 := by rintro rfl; exact sc_no h
theorem name_semi {a : List UInt8} (h : isName a) : noSemi a := fun c hc => letter_semi (h.2.2 c hc)
theorem dg_semi {n : Nat} (h : n ≤ 9) : dg n ≠ 59 := by
  intro e
  have := dg_nat h
  rw [e] at this
  simp at this
  omega
theorem md_semi (m : Nat) : md m ≠ 59 := by unfold md; split <;> decide

theorem body_semi {x : It} (hx : x.ok) : noSemi x.body := by
  intro c hc
  rcases hx with ⟨ha, ⟨e, e2, _, h2, _⟩ | ⟨e, e2, _⟩ | ⟨e, hb, h2, _⟩ | ⟨e, hb, _⟩ | ⟨e, hb, h2, h3⟩⟩
  · simp only [It.body, e, if_true, List.mem_append, List.mem_cons, List.not_mem_nil, or_false] at hc
    rcases hc with (rfl | rfl | rfl | rfl | rfl) | hc | rfl | rfl
    any_goals decide
    · exact name_semi ha c hc
    · exact dg_semi (by omega)
  · simp only [It.body, e] at hc
    simp at hc
    rcases hc with rfl | rfl | rfl | rfl | rfl | rfl | rfl | hc
    any_goals decide
    · exact name_semi ha c hc
  · simp only [It.body, e] at hc
    simp at hc
    rcases hc with rfl | rfl | rfl | rfl | hc | rfl | rfl | rfl | hc | rfl | rfl | rfl
    any_goals decide
    · exact name_semi ha c hc
    · exact dg_semi (by omega)
    · exact name_semi hb c hc
    · exact md_semi _
  · simp only [It.body, e] at hc
    simp at hc
    rcases hc with rfl | rfl | rfl | rfl | rfl | hc | rfl | hc
    any_goals decide
    · exact name_semi ha c hc
    · exact name_semi hb c hc
  · simp only [It.body, e] at hc
    simp at hc
    rcases hc with rfl | rfl | rfl | rfl | hc | rfl | hc | rfl | rfl | rfl | rfl
    any_goals decide
    · exact name_semi ha c hc
    · exact name_semi hb c hc
    · exact dg_semi (by omega)
    · exact dg_semi (by omega)

/-- Over bytes that are no semicolon nothing is cut. -/
theorem pcsTo_plain (s : ByteArray) (k : Nat) (l r : List UInt8) (h : rest s k = l ++ r) (hl : noSemi l) : pcsTo s (k + l.length) = pcsTo s k := by
  induction l generalizing k with
  | nil => rfl
  | cons c l ih =>
    have h1 : rest s k = c :: (l ++ r) := h
    have h2 : rest s (k + 1) = l ++ r := rest_of (a := [c]) (by rw [h1]; rfl)
    rw [List.length_cons, show k + (l.length + 1) = (k + 1) + l.length from by omega, ih (k + 1) h2 (fun d hd => hl d (by simp [hd]))]
    have hc : byteAt s k ≠ 59 := by
      rw [byteAt_cons h1]
      intro e
      exact hl c (by simp) (UInt8.toNat_inj.1 (by have : ((59 : UInt8).toNat : Int) = 59 := rfl; omega))
    simp [pcsTo, hc]

def textOf (x : It) : ByteArray := ⟨x.text.toArray⟩

theorem pcsTo_cat (s : ByteArray) (L : List It) (hL : ∀ x ∈ L, x.ok) (k : Nat) (r : List UInt8) (h : rest s k = catT L ++ r) (h0 : (pcsTo s k).2 = k) :
    pcsTo s (k + (catT L).length) = ((pcsTo s k).1 ++ L.map textOf, k + (catT L).length) := by
  induction L generalizing k with
  | nil => simp [catT]; exact Prod.ext rfl h0
  | cons x L ih =>
    have e : catT (x :: L) = x.text ++ catT L := rfl
    rw [e] at h ⊢
    have hb : rest s k = x.body ++ ([59] ++ (catT L ++ r)) := by rw [h]; simp [It.text]
    have h1 := pcsTo_plain s k x.body _ hb (body_semi (hL x (by simp)))
    have hs : rest s (k + x.body.length) = [59] ++ (catT L ++ r) := rest_of hb
    have hc : byteAt s (k + x.body.length) = 59 := byteAt_cons (c := 59) (by rw [hs]; rfl)
    have hx : x.text.length = x.body.length + 1 := by simp [It.text]
    have h2 : pcsTo s (k + x.text.length) = ((pcsTo s k).1 ++ [textOf x], k + x.text.length) := by
      rw [hx, show k + (x.body.length + 1) = (k + x.body.length) + 1 from by omega]
      simp only [pcsTo, hc, if_true]
      rw [h1, h0, show k + x.body.length + 1 = k + x.text.length from by omega, extract_rest (a := x.text) (r := catT L ++ r) (by rw [h]; simp)]
      rfl
    have h3 := ih (fun y hy => hL y (by simp [hy])) (k + x.text.length) (by rw [rest_of (a := x.text) (r := catT L ++ r) (by rw [h]; simp)]) (by rw [h2])
    rw [List.length_append, show k + (x.text.length + (catT L).length) = k + x.text.length + (catT L).length from by omega, h3, h2]
    simp

theorem pcs_txt (L : List It) (hL : ∀ x ∈ L, x.ok) : pcs (txt L) = L.map textOf := by
  have h := pcsTo_cat (txt L) L hL 0 [] (by rw [rest_zero]; simp [txt]) rfl
  rw [Nat.zero_add, ← txt_size] at h
  unfold pcs
  rw [h]
  simp [pcsTo]

theorem begB_iff (t w : List UInt8) : begB ⟨t.toArray⟩ ⟨w.toArray⟩ = true ↔ w <+: t := by
  unfold begB
  rw [Bool.and_eq_true, decide_eq_true_iff, beq_iff_eq, ByteArray.toList_eq, ByteArray.toList_eq, ByteArray.data_extract]
  simp only [ByteArray.size, List.size_toArray, Array.toList_extract, List.extract_eq_take_drop, List.drop_zero, Nat.sub_zero]
  constructor
  · rintro ⟨_, h⟩; rw [List.prefix_iff_eq_take]; exact h.symm
  · intro h; exact ⟨h.length_le, (List.prefix_iff_eq_take.1 h).symm⟩

theorem begB_no {t w : List UInt8} (h : ¬ w <+: t) : begB ⟨t.toArray⟩ ⟨w.toArray⟩ = false := by
  rw [← Bool.not_eq_true, begB_iff]; exact h

theorem rank_text {x : It} (hx : x.ok) : rankB (textOf x) = x.kind := by
  have B : ∀ w, begB (textOf x) ⟨w⟩ = true ↔ w.toList <+: x.text := fun w => begB_iff x.text w.toList
  unfold rankB
  rcases hx with ⟨_, ⟨e, _⟩ | ⟨e, _⟩ | ⟨e, _⟩ | ⟨e, _⟩ | ⟨e, _⟩⟩
  · rw [if_pos ((B _).2 (by simp [It.text, It.body, e])), e]
  · rw [if_neg (by rw [B]; simp [It.text, It.body, e]), if_pos ((B _).2 (by simp [It.text, It.body, e])), e]
  · rw [if_neg (by rw [B]; simp [It.text, It.body, e]), if_neg (by rw [B]; simp [It.text, It.body, e]), if_pos ((B _).2 (by simp [It.text, It.body, e])), e]
  · rw [if_neg (by rw [B]; simp [It.text, It.body, e]), if_neg (by rw [B]; simp [It.text, It.body, e]), if_neg (by rw [B]; simp [It.text, It.body, e]), if_pos ((B _).2 (by simp [It.text, It.body, e])), e]
  · rw [if_neg (by rw [B]; simp [It.text, It.body, e]), if_neg (by rw [B]; simp [It.text, It.body, e]), if_neg (by rw [B]; simp [It.text, It.body, e]), if_neg (by rw [B]; simp [It.text, It.body, e]), e]

theorem bl_app (p u v : List UInt8) : Op.bytesLess (p ++ u) (p ++ v) = Op.bytesLess u v := by
  induction p with
  | nil => rfl
  | cons c p ih => simp [Op.bytesLess, ih]

theorem bl_name {a b : List UInt8} (hb : ∀ c ∈ b, letter c) (h : Op.bytesLess a b = true) (c d : UInt8) (hc : (c.toNat : Int) < 97) (u v : List UInt8) : Op.bytesLess (a ++ c :: u) (b ++ d :: v) = true := by
  induction a generalizing b with
  | nil =>
    cases b with
    | nil => simp [Op.bytesLess] at h
    | cons b0 b =>
      have := hb b0 (by simp)
      simp only [letter] at this
      simp only [List.nil_append, List.cons_append, Op.bytesLess, Bool.or_eq_true, decide_eq_true_eq]
      exact Or.inl (UInt8.lt_iff_toNat_lt.2 (by omega))
  | cons a0 a ih =>
    cases b with
    | nil => simp [Op.bytesLess] at h
    | cons b0 b =>
      simp only [List.cons_append, Op.bytesLess, Bool.or_eq_true, Bool.and_eq_true, decide_eq_true_eq, beq_iff_eq] at h ⊢
      rcases h with h | ⟨h1, h⟩
      · exact Or.inl h
      · exact Or.inr ⟨h1, ih (fun c hc => hb c (by simp [hc])) h⟩

theorem bl_digit {n m : Nat} (hn : n ≤ 9) (hm : m ≤ 9) (h : n < m) (u v : List UInt8) : Op.bytesLess (dg n :: u) (dg m :: v) = true := by
  simp only [Op.bytesLess, Bool.or_eq_true, decide_eq_true_eq]
  exact Or.inl (UInt8.lt_iff_toNat_lt.2 (by rw [dg_nat hn, dg_nat hm]; omega))

theorem mk_tl (a : List UInt8) : (⟨a.toArray⟩ : ByteArray).toList = a := by rw [ByteArray.toList_eq]
theorem mk_inj {a b : List UInt8} (h : (⟨a.toArray⟩ : ByteArray) = ⟨b.toArray⟩) : a = b := by
  have := congrArg ByteArray.toList h
  rwa [mk_tl, mk_tl] at this

end Go.Proofs.Ytdlhgbhaeedbdaa
