/- Insertion from the right, as the program does it; plain lists. And: a row of items that is written. -/
import Derived.Test.YtdlhgbhaeedbdaaGreatParse
namespace Go.Proofs.YtdlhgbhaeedbdaaGreat
open Go.RowKit

def lessIt (x y : Item) : Bool := lessK x.kind x.name x.host x.number y.kind y.name y.host y.number

/-- The lowest place to which one comes from j down, while p holds of the place below. -/
def downTo (p : Nat → Bool) : Nat → Nat
  | 0 => 0
  | j + 1 => if p j then downTo p j else j + 1

def lessAt (m : List Item) (x : Item) (t : Nat) : Bool := match m[t]? with | some y => lessIt x y | none => false

/-- x is laid into l, behind the last one that it does not stand ahead of. -/
def ins (l : List Item) (x : Item) : List Item := l.take (downTo (lessAt l x) l.length) ++ x :: l.drop (downTo (lessAt l x) l.length)

def sortTo (l : List Item) (k : Nat) : List Item := (l.take k).foldl ins []

theorem ins_length (l : List Item) (x : Item) : (ins l x).length = l.length + 1 := by simp [ins]; omega

theorem sortTo_length (l : List Item) (k : Nat) (h : k ≤ l.length) : (sortTo l k).length = k := by
  induction k with
  | zero => simp [sortTo]
  | succ k ih =>
    unfold sortTo at ih ⊢
    rw [List.take_succ_eq_append_getElem (by omega), List.foldl_append]
    simp only [List.foldl_cons, List.foldl_nil, ins_length]
    rw [ih (by omega)]

theorem sortTo_succ (l : List Item) (k : Nat) (h : k < l.length) : sortTo l (k + 1) = ins (sortTo l k) l[k] := by
  unfold sortTo
  rw [List.take_succ_eq_append_getElem h, List.foldl_append]
  rfl

theorem downTo_congr {p q : Nat → Bool} {j : Nat} (h : ∀ t, t < j → p t = q t) : downTo p j = downTo q j := by
  induction j with
  | zero => rfl
  | succ j ih => simp only [downTo]; rw [h j (by omega), ih (fun t ht => h t (by omega))]

/-- What the shifted row holds: from j on each one place further, up to k. -/
def Shifted (m m' : List Item) (j k : Nat) : Prop := m'.length = m.length ∧ ∀ t, m'[t]? = if j < t ∧ t ≤ k then m[t - 1]? else m[t]?

theorem Shifted.refl (m : List Item) (k : Nat) : Shifted m m k k := ⟨rfl, fun t => by rw [if_neg (by omega)]⟩

theorem Shifted.step {m m' : List Item} {j k : Nat} {y : Item} (h : Shifted m m' (j + 1) k) (hk : j + 1 ≤ k) (hkm : k < m.length) (hy : m[j]? = some y) : Shifted m (m'.set (j + 1) y) j k := by
  refine ⟨by simp [h.1], fun t => ?_⟩
  rw [List.getElem?_set]
  by_cases e : j + 1 = t
  · subst e
    rw [if_pos rfl, if_pos (by rw [h.1]; omega), if_pos (by omega)]
    exact hy.symm
  · rw [if_neg e, h.2 t]
    by_cases c : j < t ∧ t ≤ k
    · rw [if_pos c, if_pos (by omega)]
    · rw [if_neg c, if_neg (by omega)]

theorem Shifted.at {m m' : List Item} {j k : Nat} (h : Shifted m m' j k) {t : Nat} (ht : t ≤ j) : m'[t]? = m[t]? := by
  rw [h.2 t, if_neg (by omega)]

/-- Where the row is shifted and x stands at its place, the first k + 1 are those of 'ins'. -/
theorem Shifted.done {m m' s : List Item} {j k : Nat} {x : Item} (h : Shifted m m' j k) (hjk : j ≤ k) (hkm : k < m.length) (hs : m.take k = s) (hj : downTo (lessAt m x) k = j) : (m'.set j x).take (k + 1) = ins s x := by
  have hsl : s.length = k := by rw [← hs]; simp; omega
  have hd : downTo (lessAt s x) s.length = j := by
    rw [hsl, ← hj]
    refine downTo_congr fun t ht => ?_
    unfold lessAt
    rw [← hs, List.getElem?_take_of_lt ht]
  unfold ins
  rw [hd]
  apply List.ext_getElem?
  intro t
  rw [List.getElem?_take, List.getElem?_set, List.getElem?_append, List.length_take, hsl, Nat.min_eq_left hjk, h.1]
  by_cases c1 : t < k + 1
  · rw [if_pos c1]
    by_cases e : j = t
    · subst e
      rw [if_pos rfl, if_pos (by omega), if_neg (by omega)]
      simp
    · rw [if_neg e]
      by_cases c2 : t < j
      · rw [if_pos c2, h.2 t, if_neg (by omega), List.getElem?_take_of_lt c2, ← hs, List.getElem?_take_of_lt (by omega)]
      · rw [if_neg c2, h.2 t, if_pos (by omega)]
        rw [show t - j = (t - j - 1) + 1 from by omega, List.getElem?_cons_succ, List.getElem?_drop, ← hs, List.getElem?_take_of_lt (by omega)]
        congr 1; omega
  · rw [if_neg c1, if_neg (by omega)]
    rw [show t - j = (t - j - 1) + 1 from by omega, List.getElem?_cons_succ, List.getElem?_drop, List.getElem?_eq_none (by omega)]

/-- A row of items that may be written. -/
def ItemsW (w : World) (g : Nat) (m : List Item) : Prop := ItemsIn w g m ∧ ∀ o, w.frozen? ⟨g, o, none⟩ = false

theorem cell_set9_same {w : World} {g o : Nat} {x : Item} (h : ∀ c, c < 9 → (w.cell? ⟨g, o + c, none⟩).isSome) :
    ItAt (((((((((w.setCell ⟨g, o, none⟩ (.int .i64 x.kind)).setCell ⟨g, o + 1, none⟩ (.string x.name)).setCell ⟨g, o + 2, none⟩ (.string x.host)).setCell ⟨g, o + 3, none⟩ (.int .i64 x.number)).setCell ⟨g, o + 4, none⟩ (.int .i64 x.size)).setCell ⟨g, o + 5, none⟩ (.string x.disk)).setCell ⟨g, o + 6, none⟩ (.bool x.only)).setCell ⟨g, o + 7, none⟩ (.int .i64 x.lun)).setCell ⟨g, o + 8, none⟩ (.string x.text)) g o x := by
  obtain ⟨v0, h0⟩ := Option.isSome_iff_exists.1 (h 0 (by omega))
  obtain ⟨v1, h1⟩ := Option.isSome_iff_exists.1 (h 1 (by omega))
  obtain ⟨v2, h2⟩ := Option.isSome_iff_exists.1 (h 2 (by omega))
  obtain ⟨v3, h3⟩ := Option.isSome_iff_exists.1 (h 3 (by omega))
  obtain ⟨v4, h4⟩ := Option.isSome_iff_exists.1 (h 4 (by omega))
  obtain ⟨v5, h5⟩ := Option.isSome_iff_exists.1 (h 5 (by omega))
  obtain ⟨v6, h6⟩ := Option.isSome_iff_exists.1 (h 6 (by omega))
  obtain ⟨v7, h7⟩ := Option.isSome_iff_exists.1 (h 7 (by omega))
  obtain ⟨v8, h8⟩ := Option.isSome_iff_exists.1 (h 8 (by omega))
  rw [Nat.add_zero] at h0
  constructor <;> go_simp

end Go.Proofs.YtdlhgbhaeedbdaaGreat
