/- The words of an item; the item that a key tells. Plain mathematics. -/
import Derived.Test.YtigpohommoogeaaSp1
import Derived.Test.YtigpohommoogeaaOrd2
namespace Go.Proofs.Ytigpohommoogeaa
open Go.RowKit

def noSep (u : List UInt8) : Prop := ∀ c ∈ u, ¬ (c = 32 ∨ c = 59)

theorem wrdL_hit (u : List UInt8) (hu : noSep u) (c : UInt8) (hc : c = 32 ∨ c = 59) (r acc : List UInt8) : wrdL (u ++ c :: r) 0 acc = acc ++ u := by
  induction u generalizing acc with
  | nil => rw [List.nil_append, wrdL_cons, if_pos hc, List.append_nil]
  | cons b u ih =>
    rw [List.cons_append, wrdL_cons, if_neg (hu b (by simp)), ih (fun c hc => hu c (by simp [hc]))]
    simp

theorem wrdL_skip (u : List UInt8) (hu : noSep u) (c : UInt8) (hc : c = 32 ∨ c = 59) (r acc : List UInt8) (n : Nat) : wrdL (u ++ c :: r) (n + 1) acc = wrdL r n [] := by
  induction u generalizing acc with
  | nil => rw [List.nil_append, wrdL_cons, if_pos hc]
  | cons b u ih => rw [List.cons_append, wrdL_cons, if_neg (hu b (by simp)), ih (fun c hc => hu c (by simp [hc]))]

theorem letter_sep {c : UInt8} (h : letter c) : ¬ (c = 32 ∨ c = 59) := by
  unfold letter at h
  rintro (rfl | rfl)
  · have : ((32 : UInt8).toNat : Int) = 32 := rfl
    omega
  · have : ((59 : UInt8).toNat : Int) = 59 := rfl
    omega
theorem name_sep {a : List UInt8} (h : isName a) : noSep a := fun c hc => letter_sep (h.2.2 c hc)
theorem dg_sep {n : Nat} (h : n ≤ 9) : noSep [dg n] := by
  intro c hc
  simp at hc
  subst hc
  have := dg_nat h
  rintro (e | e) <;> rw [e] at this <;> simp at this <;> omega

theorem rest_text (x : It) : rest (textOf x) 0 = x.text := by rw [rest_zero]; rfl

theorem word_lun {x : It} (hx : x.ok) (hk : x.kind = 2) : wrd (textOf x) 1 = ⟨x.a.toArray⟩ ∧ wrd (textOf x) 3 = ⟨x.b.toArray⟩ := by
  obtain ⟨ha, h⟩ := hx
  have hb : isName x.b ∧ x.n ≤ 7 := by rcases h with ⟨e, _⟩ | ⟨e, _⟩ | ⟨e, h1, h2, _⟩ | ⟨e, _⟩ | ⟨e, _⟩ <;> first | exact ⟨h1, h2⟩ | omega
  have ht : x.text = [108, 117, 110] ++ 32 :: (x.a ++ 32 :: ([dg x.n] ++ 32 :: (x.b ++ 32 :: [114, md x.m, 59]))) := by simp [It.text, It.body, hk]
  have h0 : noSep [108, 117, 110] := by intro c hc; simp at hc; rcases hc with rfl | rfl | rfl <;> decide
  unfold wrd
  rw [rest_text, ht]
  constructor
  · rw [wrdL_skip _ h0 _ (Or.inl rfl), wrdL_hit _ (name_sep ha) _ (Or.inl rfl)]; rfl
  · rw [wrdL_skip _ h0 _ (Or.inl rfl), wrdL_skip _ (name_sep ha) _ (Or.inl rfl), wrdL_skip _ (dg_sep (by omega)) _ (Or.inl rfl), wrdL_hit _ (name_sep hb.1) _ (Or.inl rfl)]; rfl

theorem word_host {x : It} (hx : x.ok) (hk : x.kind = 3) : wrd (textOf x) 1 = ⟨x.a.toArray⟩ := by
  obtain ⟨ha, h⟩ := hx
  have ht : x.text = [104, 111, 115, 116] ++ 32 :: (x.a ++ 32 :: (x.b ++ [59])) := by simp [It.text, It.body, hk]
  have h0 : noSep [104, 111, 115, 116] := by intro c hc; simp at hc; rcases hc with rfl | rfl | rfl | rfl <;> decide
  unfold wrd
  rw [rest_text, ht, wrdL_skip _ h0 _ (Or.inl rfl), wrdL_hit _ (name_sep ha) _ (Or.inl rfl)]
  rfl

theorem word_map {x : It} (hx : x.ok) (hk : x.kind = 4) : wrd (textOf x) 1 = ⟨x.a.toArray⟩ ∧ wrd (textOf x) 2 = ⟨x.b.toArray⟩ ∧ wrd (textOf x) 4 = ⟨#[dg x.m]⟩ := by
  obtain ⟨ha, h⟩ := hx
  have hb : isName x.b ∧ x.n ≤ 7 ∧ x.m ≤ 7 := by rcases h with ⟨e, _⟩ | ⟨e, _⟩ | ⟨e, _⟩ | ⟨e, _⟩ | ⟨e, h1, h2, h3⟩ <;> first | exact ⟨h1, h2, h3⟩ | omega
  have ht : x.text = [109, 97, 112] ++ 32 :: (x.a ++ 32 :: (x.b ++ 32 :: ([dg x.n] ++ 32 :: ([dg x.m] ++ 59 :: [])))) := by simp [It.text, It.body, hk]
  have h0 : noSep [109, 97, 112] := by intro c hc; simp at hc; rcases hc with rfl | rfl | rfl <;> decide
  unfold wrd
  rw [rest_text, ht]
  refine ⟨?_, ?_, ?_⟩
  · rw [wrdL_skip _ h0 _ (Or.inl rfl), wrdL_hit _ (name_sep ha) _ (Or.inl rfl)]; rfl
  · rw [wrdL_skip _ h0 _ (Or.inl rfl), wrdL_skip _ (name_sep ha) _ (Or.inl rfl), wrdL_hit _ (name_sep hb.1) _ (Or.inl rfl)]; rfl
  · rw [wrdL_skip _ h0 _ (Or.inl rfl), wrdL_skip _ (name_sep ha) _ (Or.inl rfl), wrdL_skip _ (name_sep hb.1) _ (Or.inl rfl), wrdL_skip _ (dg_sep (by omega)) _ (Or.inl rfl), wrdL_hit _ (dg_sep (by omega)) _ (Or.inr rfl)]; rfl

theorem name_pre {u v : List UInt8} (hu : ∀ c ∈ u, letter c) (hv : ∀ c ∈ v, letter c) {c d : UInt8} (hc : ¬ letter c) (hd : ¬ letter d) {r r' : List UInt8} : (u ++ c :: r) <+: (v ++ d :: r') ↔ u = v ∧ c = d ∧ r <+: r' := by
  induction u generalizing v with
  | nil =>
    cases v with
    | nil => simp [List.cons_prefix_cons]
    | cons b v =>
      simp only [List.nil_append, List.cons_append, List.cons_prefix_cons]
      constructor
      · rintro ⟨e, _⟩; exact absurd (e ▸ hv b (by simp)) hc
      · rintro ⟨e, _⟩; simp at e
  | cons a u ih =>
    cases v with
    | nil =>
      simp only [List.nil_append, List.cons_append, List.cons_prefix_cons]
      constructor
      · rintro ⟨e, _⟩; exact absurd (e ▸ hu a (by simp)) hd
      · rintro ⟨e, _⟩; simp at e
    | cons b v =>
      simp only [List.cons_append, List.cons_prefix_cons, List.cons.injEq]
      rw [ih (fun c hc => hu c (by simp [hc])) (fun c hc => hv c (by simp [hc]))]
      constructor
      · rintro ⟨e, f, g⟩; exact ⟨⟨e, f⟩, g⟩
      · rintro ⟨⟨e, f⟩, g⟩; exact ⟨e, f, g⟩

theorem no32 : ¬ letter 32 := by intro h; exact letter_sep h (Or.inl rfl)
theorem no59 : ¬ letter 59 := by intro h; exact letter_sep h (Or.inr rfl)

theorem dg_eq {n m : Nat} (hn : n ≤ 9) (hm : m ≤ 9) : dg n = dg m ↔ n = m := by
  constructor
  · intro h
    have := congrArg UInt8.toNat h
    rw [dg_nat hn, dg_nat hm] at this
    omega
  · intro h; rw [h]

theorem pre_target {y : It} (hy : y.ok) {a : List UInt8} (ha : isName a) : ([116, 97, 114, 103, 101, 116, 32] ++ (a ++ [59])) <+: y.text ↔ y.kind = 1 ∧ y.a = a := by
  obtain ⟨hya, h⟩ := hy
  rcases h with ⟨e, _⟩ | ⟨e, _⟩ | ⟨e, _⟩ | ⟨e, _⟩ | ⟨e, _⟩
  · simp [It.text, It.body, e, List.cons_prefix_cons]
  · have ht : y.text = [116, 97, 114, 103, 101, 116, 32] ++ (y.a ++ 59 :: []) := by simp [It.text, It.body, e]
    rw [ht, List.prefix_append_right_inj, name_pre ha.2.2 hya.2.2 no59 no59]
    simp [e, eq_comm]
  · simp [It.text, It.body, e, List.cons_prefix_cons]
  · simp [It.text, It.body, e, List.cons_prefix_cons]
  · simp [It.text, It.body, e, List.cons_prefix_cons]

theorem pre_disk {y : It} (hy : y.ok) {a : List UInt8} (ha : isName a) : ([100, 105, 115, 107, 32] ++ (a ++ [32])) <+: y.text ↔ y.kind = 0 ∧ y.a = a := by
  obtain ⟨hya, h⟩ := hy
  rcases h with ⟨e, _⟩ | ⟨e, _⟩ | ⟨e, _⟩ | ⟨e, _⟩ | ⟨e, _⟩
  · have ht : y.text = [100, 105, 115, 107, 32] ++ (y.a ++ 32 :: [dg y.n, 59]) := by simp [It.text, It.body, e]
    rw [ht, List.prefix_append_right_inj, name_pre ha.2.2 hya.2.2 no32 no32]
    simp [e, eq_comm]
  · simp [It.text, It.body, e, List.cons_prefix_cons]
  · simp [It.text, It.body, e, List.cons_prefix_cons]
  · simp [It.text, It.body, e, List.cons_prefix_cons]
  · simp [It.text, It.body, e, List.cons_prefix_cons]

theorem pre_host {y : It} (hy : y.ok) {a b : List UInt8} (ha : isName a) (hb : isName b) : ([104, 111, 115, 116, 32] ++ (a ++ 32 :: (b ++ [59]))) <+: y.text ↔ y.kind = 3 ∧ y.a = a ∧ y.b = b := by
  obtain ⟨hya, h⟩ := hy
  rcases h with ⟨e, _⟩ | ⟨e, _⟩ | ⟨e, _⟩ | ⟨e, hyb, _⟩ | ⟨e, _⟩
  · simp [It.text, It.body, e, List.cons_prefix_cons]
  · simp [It.text, It.body, e, List.cons_prefix_cons]
  · simp [It.text, It.body, e, List.cons_prefix_cons]
  · have ht : y.text = [104, 111, 115, 116, 32] ++ (y.a ++ 32 :: (y.b ++ 59 :: [])) := by simp [It.text, It.body, e]
    rw [ht, List.prefix_append_right_inj, name_pre ha.2.2 hya.2.2 no32 no32, name_pre hb.2.2 hyb.2.2 no59 no59]
    simp [e, eq_comm]
  · simp [It.text, It.body, e, List.cons_prefix_cons]

theorem pre_lun {y : It} (hy : y.ok) {a : List UInt8} (ha : isName a) {n : Nat} (hn : n ≤ 9) : ([108, 117, 110, 32] ++ (a ++ 32 :: [dg n, 32])) <+: y.text ↔ y.kind = 2 ∧ y.a = a ∧ y.n = n := by
  obtain ⟨hya, h⟩ := hy
  rcases h with ⟨e, _⟩ | ⟨e, _⟩ | ⟨e, _, h7, _⟩ | ⟨e, _⟩ | ⟨e, _⟩
  · simp [It.text, It.body, e, List.cons_prefix_cons]
  · simp [It.text, It.body, e, List.cons_prefix_cons]
  · have ht : y.text = [108, 117, 110, 32] ++ (y.a ++ 32 :: (dg y.n :: 32 :: (y.b ++ [32, 114, md y.m, 59]))) := by simp [It.text, It.body, e]
    rw [ht, List.prefix_append_right_inj, name_pre ha.2.2 hya.2.2 no32 no32]
    simp only [List.cons_prefix_cons, List.nil_prefix, and_true, true_and, dg_eq hn (by omega : y.n ≤ 9), e]
    constructor
    · rintro ⟨f, g⟩; exact ⟨f.symm, g.symm⟩
    · rintro ⟨f, g⟩; exact ⟨f.symm, g.symm⟩
  · simp [It.text, It.body, e, List.cons_prefix_cons]
  · simp [It.text, It.body, e, List.cons_prefix_cons]

theorem mk_eq {a b : List UInt8} : (⟨a.toArray⟩ : ByteArray) = ⟨b.toArray⟩ ↔ a = b := ⟨mk_inj, fun h => by rw [h]⟩

theorem find_congr {α : Type} {l : List α} {p q : α → Bool} (h : ∀ x ∈ l, p x = q x) : l.find? p = l.find? q := by
  induction l with
  | nil => rfl
  | cons a l ih => rw [List.find?_cons, List.find?_cons, h a (by simp), ih (fun x hx => h x (by simp [hx]))]

/-- The item of the list that has the key, told by its text. -/
def ndT (L : List It) (k : Key) : ByteArray := match L.find? (fun y => keyIs k y.item) with | some y => textOf y | none => ⟨#[]⟩

theorem fnd_key {L : List It} {q : ByteArray} {k : Key} (h : ∀ y ∈ L, begB (textOf y) q = keyIs k y.item) : fnd (L.map textOf) q = ndT L k := by
  unfold fnd ndT
  rw [List.find?_map, find_congr (p := (fun s => begB s q) ∘ textOf) (q := fun y => keyIs k y.item) (fun x hx => h x hx)]
  cases L.find? (fun y => keyIs k y.item) <;> rfl

theorem beg_pre (y : It) (w : List UInt8) : begB (textOf y) ⟨w.toArray⟩ = true ↔ w <+: y.text := begB_iff y.text w

theorem key_target {y : It} (a : List UInt8) : keyIs ⟨1, ⟨a.toArray⟩, ⟨#[]⟩, 0⟩ y.item = true ↔ y.kind = 1 ∧ y.a = a := by
  unfold keyIs
  rw [decide_eq_true_iff]
  simp only [It.item]
  constructor
  · rintro ⟨h1, h2, _⟩; exact ⟨by omega, mk_inj h2⟩
  · rintro ⟨h1, h2⟩; simp [h1, h2]
theorem key_disk {y : It} (a : List UInt8) : keyIs ⟨0, ⟨a.toArray⟩, ⟨#[]⟩, 0⟩ y.item = true ↔ y.kind = 0 ∧ y.a = a := by
  unfold keyIs
  rw [decide_eq_true_iff]
  simp only [It.item]
  constructor
  · rintro ⟨h1, h2, _⟩; exact ⟨by omega, mk_inj h2⟩
  · rintro ⟨h1, h2⟩; simp [h1, h2]
theorem key_host {y : It} (a b : List UInt8) : keyIs ⟨3, ⟨a.toArray⟩, ⟨b.toArray⟩, 0⟩ y.item = true ↔ y.kind = 3 ∧ y.a = a ∧ y.b = b := by
  unfold keyIs
  rw [decide_eq_true_iff]
  simp only [It.item]
  constructor
  · rintro ⟨h1, h2, h3, _⟩
    have hk : y.kind = 3 := by omega
    rw [if_pos (Or.inl hk)] at h3
    exact ⟨hk, mk_inj h2, mk_inj h3⟩
  · rintro ⟨h1, h2, h3⟩; simp [h1, h2, h3]
theorem key_lun {y : It} (a : List UInt8) (n : Nat) : keyIs ⟨2, ⟨a.toArray⟩, ⟨#[]⟩, (n : Int)⟩ y.item = true ↔ y.kind = 2 ∧ y.a = a ∧ y.n = n := by
  unfold keyIs
  rw [decide_eq_true_iff]
  simp only [It.item]
  constructor
  · rintro ⟨h1, h2, _, h4⟩
    have hk : y.kind = 2 := by omega
    rw [if_pos (Or.inl hk)] at h4
    exact ⟨hk, mk_inj h2, by omega⟩
  · rintro ⟨h1, h2, h3⟩; simp [h1, h2, h3]

end Go.Proofs.Ytigpohommoogeaa
