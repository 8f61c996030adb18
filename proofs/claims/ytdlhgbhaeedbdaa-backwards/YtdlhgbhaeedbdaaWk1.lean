/- Steps on lists of items: plain mathematics. -/
import Derived.Test.YtdlhgbhaeedbdaaPl10
import Derived.Test.YtdlhgbhaeedbdaaPureA
namespace Go.Proofs.Ytdlhgbhaeedbdaa
open Go.RowKit

def itText (x : It) : ByteArray := ⟨x.text.toArray⟩

theorem itText_size (x : It) : (itText x).size = x.text.length := by simp [itText, ByteArray.size]

theorem text_len {x : It} (hx : x.ok) : x.text.length ≤ 25 := by
  rcases hx with ⟨ha, ⟨e, _⟩ | ⟨e, _⟩ | ⟨e, hb, _⟩ | ⟨e, hb, _⟩ | ⟨e, hb, _⟩⟩
  all_goals simp [It.text, It.body, e]
  all_goals (have := ha.2.1; try have := hb.2.1); omega

/-- A text that is one item. -/
theorem good_read {s : ByteArray} (h : goodI s = true) : ∃ x : It, x.ok ∧ s = itText x ∧ oneI s = x.item := by
  have h2 : (itemS s (0, false)).2 = false ∧ (itemS s (0, false)).1 = s.size := by simpa [goodI] using h
  obtain ⟨x, hx, e1, e2, e3⟩ := item_read h2.1
  refine ⟨x, hx, ?_, by rw [oneI, if_pos h]; exact e3⟩
  have hl : x.text.length = s.size := by have := h2.2; rw [e1] at this; simpa using this
  rw [Nat.zero_add, rest_zero, show rest s x.text.length = [] from rest_nil.2 (by omega), List.append_nil] at e2
  unfold itText
  rw [← e2, bytes_mk]

theorem good_gives {x : It} (hx : x.ok) : goodI (itText x) = true ∧ oneI (itText x) = x.item := by
  obtain ⟨e1, e2⟩ := item_gives (s := itText x) (p := 0) hx (r := []) (by rw [rest_zero]; simp [itText])
  have hg : goodI (itText x) = true := by simp [goodI, e1, itText_size]
  exact ⟨hg, by rw [oneI, if_pos hg]; exact e2⟩

theorem oneI_size (s : ByteArray) : (oneI s).text.size ≤ 400 := by
  cases h : goodI s with
  | true => obtain ⟨x, hx, _, e⟩ := good_read h
            rw [e, show x.item.text = itText x from rfl, itText_size]
            have := text_len hx; omega
  | false => simp only [oneI, h, Bool.false_eq_true, if_false]; exact Nat.zero_le _

theorem itS_size (s : ByteArray) : (itS s).text.size ≤ 400 := by
  unfold itS
  split
  · exact oneI_size _
  · exact Nat.zero_le _

/-- One step, of any text. -/
def step1 (l : List Item) (s : ByteArray) : Option (List Item) := if goodS s && doB (addsS s) l (itS s) then some (doI (addsS s) l (itS s)) else none

/-- Steps, of any texts. -/
def wlk (l : List Item) : List ByteArray → Option (List Item)
  | [] => some l
  | s :: r => match step1 l s with | none => none | some m => wlk m r
/-- How many of them can be done. -/
def wlkN (l : List Item) : List ByteArray → Nat
  | [] => 0
  | s :: r => match step1 l s with | none => 0 | some m => wlkN m r + 1

theorem wlk_append (l : List Item) (a b : List ByteArray) : wlk l (a ++ b) = match wlk l a with | none => none | some m => wlk m b := by
  induction a generalizing l with
  | nil => rfl
  | cons s a ih =>
    simp only [List.cons_append, wlk]
    cases step1 l s with
    | none => rfl
    | some m => exact ih m

theorem wlk_snoc {l m : List Item} {a : List ByteArray} {s : ByteArray} (h : wlk l a = some m) : wlk l (a ++ [s]) = step1 m s := by
  rw [wlk_append, h]
  simp only [wlk]
  cases step1 m s <;> rfl

theorem wlkN_some {l m : List Item} {a : List ByteArray} (h : wlk l a = some m) : wlkN l a = a.length := by
  induction a generalizing l with
  | nil => rfl
  | cons s a ih =>
    simp only [wlk] at h
    simp only [wlkN]
    cases e : step1 l s with
    | none => rw [e] at h; simp at h
    | some m' => rw [e] at h; simp only [List.length_cons]; rw [ih h]

theorem wlkN_stop {l m : List Item} {a b : List ByteArray} {s : ByteArray} (h : wlk l a = some m) (hs : step1 m s = none) : wlkN l (a ++ s :: b) = a.length ∧ wlk l (a ++ s :: b) = none := by
  induction a generalizing l with
  | nil =>
    simp only [wlk, Option.some.injEq] at h
    subst h
    simp [wlkN, wlk, hs]
  | cons t a ih =>
    simp only [wlk] at h
    simp only [List.cons_append, wlkN, wlk]
    cases e : step1 l t with
    | none => rw [e] at h; simp at h
    | some m' => rw [e] at h; simp only [List.length_cons]; rw [(ih h).1, (ih h).2]; exact ⟨rfl, rfl⟩

/-- The bounds of an arrangement. -/
def Fits (l : List Item) : Prop := l.length ≤ 24 ∧ sizeI l ≤ 400

theorem sizeI_mem {l : List Item} {x : Item} (h : x ∈ l) : x.text.size ≤ sizeI l := by
  induction l with
  | nil => simp at h
  | cons a l ih =>
    simp only [sizeI, List.map_cons, List.sum_cons] at ih ⊢
    rcases List.mem_cons.1 h with rfl | h
    · omega
    · have := ih h; omega

theorem Fits.text {l : List Item} (h : Fits l) : ∀ x ∈ l, x.text.size ≤ 400 := fun _ hx => Nat.le_trans (sizeI_mem hx) h.2

theorem sizeI_append (a b : List Item) : sizeI (a ++ b) = sizeI a + sizeI b := by simp [sizeI]

theorem sizeI_without (l : List Item) (y : Item) : sizeI (without l y) ≤ sizeI l := by
  unfold without sizeI
  induction l with
  | nil => simp
  | cons a l ih =>
    rw [List.filter_cons]
    split <;> simp only [List.map_cons, List.sum_cons] <;> omega

theorem fits_step {l m : List Item} {s : ByteArray} (h : Fits l) (hs : step1 l s = some m) : Fits m := by
  unfold step1 at hs
  split at hs
  · rename_i hc
    have hc2 : goodS s = true ∧ doB (addsS s) l (itS s) = true := by simpa using hc
    simp only [Option.some.injEq] at hs
    subst hs
    unfold doI
    cases hb : addsS s with
    | true =>
      have hd := hc2.2
      rw [hb] at hd
      have hr : roomB l (itS s) = true := by
        have : roomB l (itS s) = true ∧ freeB l (itS s) = true := by simpa [doB] using hd
        exact this.1
      obtain ⟨r1, r2⟩ := roomB_iff hr
      have hwl := without_len l (itS s)
      have hws := sizeI_without l (itS s)
      refine ⟨by simp; omega, ?_⟩
      simp only [if_true]
      rw [sizeI_append]
      refine Nat.le_trans ?_ r2
      refine Nat.add_le_add hws ?_
      simp [sizeI]
    | false =>
      simp only [Bool.false_eq_true, if_false]
      exact ⟨Nat.le_trans (without_len _ _) h.1, Nat.le_trans (sizeI_without _ _) h.2⟩
  · simp at hs

theorem sizeI_map (L : List It) : sizeI (L.map It.item) = (catT L).length := by
  induction L with
  | nil => rfl
  | cons a L ih =>
    simp only [sizeI, catT, List.map_cons, List.sum_cons, List.flatMap_cons, List.length_append] at ih ⊢
    rw [ih, show a.item.text = itText a from rfl, itText_size]

theorem chkZero {s : ByteArray} (h : (chk s).1 = 0) : chk s = (0, 0) := by
  rcases chk_cases s with ⟨_, h1⟩ | ⟨_, ⟨h1, _⟩ | ⟨_, ⟨k, _, h1⟩ | ⟨k, _, h1⟩ | h1⟩⟩
  · rw [h1] at h; simp at h
  · rw [h1] at h; simp at h
  · rw [h1] at h; simp at h
  · rw [h1] at h; simp at h
  · exact h1

theorem Arr.fits {L : List It} (h : Arr L) : Fits (L.map It.item) := ⟨by simp; exact h.few, by rw [sizeI_map]; exact h.short⟩

theorem fits_of_chk {s : ByteArray} (h : (chk s).1 = 0) : Fits (itemsOf s) := by
  obtain ⟨L, hL, _, e⟩ := arr_of_chk (chkZero h)
  rw [e]; exact hL.fits

/-- What Walk tells of an arrangement. -/
def wOut (s : ByteArray) (ss : List ByteArray) : ByteArray := match wlk (itemsOf s) ss with | some m => ⟨(catB (sortTo m m.length)).toArray⟩ | none => ⟨#[]⟩
def wErr (s : ByteArray) (ss : List ByteArray) : Nat := match wlk (itemsOf s) ss with | some _ => 0 | none => 5

end Go.Proofs.Ytdlhgbhaeedbdaa
