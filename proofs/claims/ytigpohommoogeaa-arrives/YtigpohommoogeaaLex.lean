/- The order of keys; sorting. Plain mathematics. -/
import Derived.Test.YtigpohommoogeaaIt4
namespace Go.Proofs.Ytigpohommoogeaa
open Go.RowKit

theorem bl_irrefl (x : List UInt8) : Op.bytesLess x x = false := by
  induction x with
  | nil => rfl
  | cons a x ih => simp [Op.bytesLess, ih]

theorem bl_trans : ∀ {x y z : List UInt8}, Op.bytesLess x y = true → Op.bytesLess y z = true → Op.bytesLess x z = true
  | _, [], _, h, _ => by simp [Op.bytesLess] at h
  | _, _ :: _, [], _, h => by simp [Op.bytesLess] at h
  | [], _ :: _, _ :: _, _, _ => rfl
  | a :: x, b :: y, c :: z, h1, h2 => by
    simp only [Op.bytesLess, Bool.or_eq_true, Bool.and_eq_true, decide_eq_true_eq, beq_iff_eq] at h1 h2 ⊢
    rcases h1 with h1 | ⟨rfl, h1⟩
    · rcases h2 with h2 | ⟨rfl, h2⟩
      · exact Or.inl (UInt8.lt_trans h1 h2)
      · exact Or.inl h1
    · rcases h2 with h2 | ⟨rfl, h2⟩
      · exact Or.inl h2
      · exact Or.inr ⟨rfl, bl_trans h1 h2⟩

theorem bl_total : ∀ {x y : List UInt8}, x ≠ y → Op.bytesLess x y = true ∨ Op.bytesLess y x = true
  | [], [], h => absurd rfl h
  | [], _ :: _, _ => Or.inl rfl
  | _ :: _, [], _ => Or.inr rfl
  | a :: x, b :: y, h => by
    simp only [Op.bytesLess, Bool.or_eq_true, Bool.and_eq_true, decide_eq_true_eq, beq_iff_eq]
    by_cases e : a = b
    · subst e
      have : x ≠ y := fun e => h (by rw [e])
      rcases bl_total this with h1 | h1
      · exact Or.inl (Or.inr ⟨rfl, h1⟩)
      · exact Or.inr (Or.inr ⟨rfl, h1⟩)
    · rcases UInt8.lt_or_lt_of_ne e with h1 | h1
      · exact Or.inl (Or.inl h1)
      · exact Or.inr (Or.inl h1)

theorem tl_eq {a b : ByteArray} : a.toList = b.toList ↔ a = b := ⟨tl_inj, fun h => by rw [h]⟩

/-- The order, said by cases. -/
def LtK (x y : Item) : Prop :=
  x.kind < y.kind ∨ (x.kind = y.kind ∧ (Op.bytesLess x.name.toList y.name.toList = true ∨ (x.name = y.name ∧ (Op.bytesLess x.host.toList y.host.toList = true ∨ (x.host = y.host ∧ x.number < y.number)))))

theorem lessIt_iff (x y : Item) : lessIt x y = true ↔ LtK x y := by
  unfold lessIt lessK LtK
  by_cases h1 : x.kind = y.kind
  · by_cases h2 : x.name = y.name
    · by_cases h3 : x.host = y.host
      · simp [h1, h2, h3, bl_irrefl]
      · simp [h1, h2, h3, bl_irrefl]
    · simp [h1, h2]
  · have : ((x.kind : Int) ≠ (y.kind : Int)) := by omega
    rw [if_pos this]
    simp [h1]

def sameK (x y : Item) : Prop := x.kind = y.kind ∧ x.name = y.name ∧ x.host = y.host ∧ x.number = y.number

theorem LtK.irrefl {x y : Item} (h : sameK x y) : ¬ LtK x y := by
  obtain ⟨h1, h2, h3, h4⟩ := h
  unfold LtK
  simp [h1, h2, h3, h4, bl_irrefl]

theorem LtK.trans {x y z : Item} (a : LtK x y) (b : LtK y z) : LtK x z := by
  unfold LtK at *
  rcases a with a | ⟨a0, a⟩
  · rcases b with b | ⟨b0, _⟩
    · exact Or.inl (by omega)
    · exact Or.inl (by omega)
  · rcases b with b | ⟨b0, b⟩
    · exact Or.inl (by omega)
    · refine Or.inr ⟨by omega, ?_⟩
      rcases a with a | ⟨a1, a⟩
      · rcases b with b | ⟨b1, _⟩
        · exact Or.inl (bl_trans a b)
        · exact Or.inl (by rw [← b1]; exact a)
      · rcases b with b | ⟨b1, b⟩
        · exact Or.inl (by rw [a1]; exact b)
        · refine Or.inr ⟨by rw [a1, b1], ?_⟩
          rcases a with a | ⟨a2, a⟩
          · rcases b with b | ⟨b2, _⟩
            · exact Or.inl (bl_trans a b)
            · exact Or.inl (by rw [← b2]; exact a)
          · rcases b with b | ⟨b2, b⟩
            · exact Or.inl (by rw [a2]; exact b)
            · exact Or.inr ⟨by rw [a2, b2], by omega⟩

theorem LtK.total {x y : Item} (h : ¬ sameK x y) : LtK x y ∨ LtK y x := by
  unfold LtK
  by_cases h1 : x.kind = y.kind
  · by_cases h2 : x.name = y.name
    · by_cases h3 : x.host = y.host
      · have h4 : x.number ≠ y.number := fun e => h ⟨h1, h2, h3, e⟩
        rcases Int.lt_or_gt_of_ne h4 with h5 | h5
        · exact Or.inl (Or.inr ⟨h1, Or.inr ⟨h2, Or.inr ⟨h3, h5⟩⟩⟩)
        · exact Or.inr (Or.inr ⟨h1.symm, Or.inr ⟨h2.symm, Or.inr ⟨h3.symm, h5⟩⟩⟩)
      · rcases bl_total (fun e => h3 (tl_inj e)) with h5 | h5
        · exact Or.inl (Or.inr ⟨h1, Or.inr ⟨h2, Or.inl h5⟩⟩)
        · exact Or.inr (Or.inr ⟨h1.symm, Or.inr ⟨h2.symm, Or.inl h5⟩⟩)
    · rcases bl_total (fun e => h2 (tl_inj e)) with h5 | h5
      · exact Or.inl (Or.inr ⟨h1, Or.inl h5⟩)
      · exact Or.inr (Or.inr ⟨h1.symm, Or.inl h5⟩)
  · rcases Nat.lt_or_gt_of_ne h1 with h5 | h5
    · exact Or.inl (Or.inl h5)
    · exact Or.inr (Or.inl h5)

theorem downTo_le (p : Nat → Bool) (k : Nat) : downTo p k ≤ k := by
  induction k with
  | zero => exact Nat.le_refl _
  | succ k ih => simp only [downTo]; split <;> omega
theorem downTo_above (p : Nat → Bool) (k : Nat) : ∀ t, downTo p k ≤ t → t < k → p t = true := by
  induction k with
  | zero => intro t _ h; omega
  | succ k ih =>
    intro t h1 h2
    simp only [downTo] at h1
    split at h1
    · by_cases e : t = k
      · rw [e]; assumption
      · exact ih t h1 (by omega)
    · omega
theorem downTo_below (p : Nat → Bool) (k : Nat) : downTo p k = 0 ∨ p (downTo p k - 1) = false := by
  induction k with
  | zero => exact Or.inl rfl
  | succ k ih =>
    simp only [downTo]
    split
    · exact ih
    · rename_i h; exact Or.inr (by simpa using h)

theorem ins_perm (l : List Item) (x : Item) : (ins l x).Perm (x :: l) := by
  unfold ins
  have := List.perm_middle (a := x) (l₁ := l.take (downTo (lessAt l x) l.length)) (l₂ := l.drop (downTo (lessAt l x) l.length))
  rw [List.take_append_drop] at this
  exact this

theorem foldl_ins_perm (l acc : List Item) : (l.foldl ins acc).Perm (acc ++ l) := by
  induction l generalizing acc with
  | nil => simp
  | cons a l ih =>
    refine (ih (ins acc a)).trans ?_
    refine ((ins_perm acc a).append_right l).trans ?_
    exact (List.perm_middle (a := a) (l₁ := acc) (l₂ := l)).symm

theorem ins_sorted (l : List Item) (x : Item) (hl : l.Pairwise LtK) (hx : ∀ y ∈ l, ¬ sameK x y) : (ins l x).Pairwise LtK := by
  unfold ins
  generalize hj : downTo (lessAt l x) l.length = j
  have ha := downTo_above (lessAt l x) l.length
  have hb := downTo_below (lessAt l x) l.length
  have hle := downTo_le (lessAt l x) l.length
  rw [hj] at ha hb hle
  have hsp : (l.take j ++ l.drop j).Pairwise LtK := by rw [List.take_append_drop]; exact hl
  rw [List.pairwise_append] at hsp ⊢
  obtain ⟨h1, h2, h3⟩ := hsp
  have hup : ∀ y ∈ l.drop j, LtK x y := by
    intro y hy
    obtain ⟨i, hi, e⟩ := List.getElem_of_mem hy
    rw [List.getElem_drop] at e
    have hi' : j + i < l.length := by simp at hi; omega
    have := ha (j + i) (by omega) hi'
    simp only [lessAt, List.getElem?_eq_getElem hi', e] at this
    exact (lessIt_iff x y).1 this
  have hdn : ∀ y ∈ l.take j, LtK y x := by
    rcases hb with hb | hb
    · intro y hy; rw [hb] at hy; simp at hy
    · by_cases hj0 : j = 0
      · intro y hy; rw [hj0] at hy; simp at hy
      · have hjl : j - 1 < l.length := by omega
        have hz : LtK l[j - 1] x := by
          simp only [lessAt, List.getElem?_eq_getElem hjl] at hb
          rcases LtK.total (hx l[j - 1] (List.getElem_mem hjl)) with h | h
          · rw [(lessIt_iff _ _).2 h] at hb; simp at hb
          · exact h
        intro y hy
        obtain ⟨i, hi, e⟩ := List.getElem_of_mem hy
        rw [List.getElem_take] at e
        have hi' : i < j := by simp at hi; omega
        by_cases e2 : i = j - 1
        · subst e2; rw [← e]; exact hz
        · rw [List.pairwise_iff_getElem] at hl
          have := hl i (j - 1) (by omega) hjl (by omega)
          rw [e] at this
          exact this.trans hz
  refine ⟨h1, ?_, ?_⟩
  · rw [List.pairwise_cons]; exact ⟨hup, h2⟩
  · intro a ha' b hb'
    rcases List.mem_cons.1 hb' with rfl | hb'
    · exact hdn a ha'
    · exact h3 a ha' b hb'

/-- No two items have one key. -/
def Dist (l : List Item) : Prop := l.Pairwise fun x y => ¬ sameK x y

theorem sameK.symm {x y : Item} (h : sameK x y) : sameK y x := ⟨h.1.symm, h.2.1.symm, h.2.2.1.symm, h.2.2.2.symm⟩

theorem foldl_ins_sorted (l acc : List Item) (ha : acc.Pairwise LtK) (hd : Dist (acc ++ l)) : (l.foldl ins acc).Pairwise LtK := by
  induction l generalizing acc with
  | nil => exact ha
  | cons a l ih =>
    have hd' := hd
    unfold Dist at hd'
    rw [List.pairwise_append] at hd'
    refine ih (ins acc a) (ins_sorted acc a ha ?_) ?_
    · intro y hy h
      exact hd'.2.2 y hy a (by simp) h.symm
    · have hp : (ins acc a ++ l).Perm (acc ++ a :: l) := ((ins_perm acc a).append_right l).trans (List.perm_middle (a := a) (l₁ := acc) (l₂ := l)).symm
      exact hd.perm hp.symm (fun h k => h k.symm)

/-- The items in order. -/
def sorted (l : List Item) : List Item := l.foldl ins []
theorem sortTo_all (l : List Item) : sortTo l l.length = sorted l := by simp [sortTo, sorted]

theorem sorted_perm (l : List Item) : (sorted l).Perm l := foldl_ins_perm l []
theorem sorted_sorted (l : List Item) (h : Dist l) : (sorted l).Pairwise LtK := foldl_ins_sorted l [] List.Pairwise.nil h

theorem LtK.asymm {x y : Item} (a : LtK x y) (b : LtK y x) : False := LtK.irrefl ⟨rfl, rfl, rfl, rfl⟩ (a.trans b)

/-- Whatever turn they stood in. -/
theorem sorted_of_perm {l m : List Item} (h : l.Perm m) (hd : Dist l) : sorted l = sorted m := by
  have hm : Dist m := hd.perm h (fun h k => h k.symm)
  exact List.Perm.eq_of_pairwise (le := LtK) (fun a b _ _ h1 h2 => (LtK.asymm h1 h2).elim) (sorted_sorted l hd) (sorted_sorted m hm) ((sorted_perm l).trans (h.trans (sorted_perm m).symm))

end Go.Proofs.Ytigpohommoogeaa
