/- Steps and arrangements: plain mathematics. -/
import Derived.Test.YtigpohommoogeaaMk4
namespace Go.Proofs.Ytigpohommoogeaa
open Go.RowKit

/-- An item as the reader makes it. -/
def Good (x : Item) : Prop := ∃ i : It, i.ok ∧ x = i.item

theorem Good.inj {x y : Item} (hx : Good x) (hy : Good y) (h : x.text = y.text) : x = y := by
  obtain ⟨i, hi, rfl⟩ := hx
  obtain ⟨j, hj, rfl⟩ := hy
  rw [← (good_gives hi).2, ← (good_gives hj).2]
  exact congrArg oneI h

theorem Good.kind {x : Item} (hx : Good x) : x.kind ≤ 4 := by
  obtain ⟨i, hi, rfl⟩ := hx
  exact kind_le hi

/-- A list of items that is an arrangement. -/
structure ArrI (l : List Item) : Prop where
  good : ∀ x ∈ l, Good x
  fits : Fits l
  dist : Dist l
  refs : Refs l

theorem Arr.arrI {L : List It} (h : Arr L) : ArrI (L.map It.item) :=
  ⟨fun x hx => by obtain ⟨i, hi, rfl⟩ := List.mem_map.1 hx; exact ⟨i, h.ok i hi, rfl⟩, h.fits, h.dist, h.refs⟩

theorem good_list {l : List Item} (h : ∀ x ∈ l, Good x) : ∃ L : List It, (∀ i ∈ L, i.ok) ∧ l = L.map It.item := by
  induction l with
  | nil => exact ⟨[], by simp, rfl⟩
  | cons a l ih =>
    obtain ⟨L, h1, h2⟩ := ih (fun x hx => h x (by simp [hx]))
    obtain ⟨i, hi, e⟩ := h a (by simp)
    exact ⟨i :: L, by simpa [hi] using h1, by simp [e, h2]⟩

theorem ArrI.arr {l : List Item} (h : ArrI l) : ∃ L : List It, Arr L ∧ l = L.map It.item := by
  obtain ⟨L, h1, rfl⟩ := good_list h.good
  refine ⟨L, ⟨h1, by have := h.fits.1; simpa using this, ?_, h.dist, h.refs⟩, rfl⟩
  rw [← sizeI_map]; exact h.fits.2

theorem sizeI_perm {l m : List Item} (h : l.Perm m) : sizeI l = sizeI m := (h.map _).sum_nat

theorem ArrI.perm {l m : List Item} (h : ArrI l) (hp : l.Perm m) : ArrI m :=
  ⟨fun x hx => h.good x (hp.mem_iff.2 hx), ⟨by rw [← hp.length_eq]; exact h.fits.1, by rw [← sizeI_perm hp]; exact h.fits.2⟩,
   h.dist.perm hp (fun h k => h k.symm), refs_perm hp h.refs⟩

theorem any_perm {l m : List Item} (h : l.Perm m) (p : Item → Bool) : l.any p = m.any p := by
  rw [Bool.eq_iff_iff, List.any_eq_true, List.any_eq_true]
  constructor
  · rintro ⟨x, hx, hp⟩; exact ⟨x, h.mem_iff.1 hx, hp⟩
  · rintro ⟨x, hx, hp⟩; exact ⟨x, h.mem_iff.2 hx, hp⟩

theorem doB_perm {l m : List Item} (h : l.Perm m) (b : Bool) (y : Item) : doB b l y = doB b m y := by
  unfold doB roomB freeB goB holdsB namedB
  rw [any_perm h, any_perm h, any_perm h, h.length_eq, sizeI_perm h]
  have : (fun k => l.any (keyIs k)) = fun k => m.any (keyIs k) := funext fun k => any_perm h _
  rw [this]

theorem doI_perm {l m : List Item} (h : l.Perm m) (b : Bool) (y : Item) : (doI b l y).Perm (doI b m y) := by
  unfold doI without
  cases b
  · exact h.filter _
  · exact h.append_right _

theorem step1_perm {l l' m : List Item} {s : ByteArray} (h : l.Perm l') (hs : step1 l s = some m) : ∃ m', step1 l' s = some m' ∧ m.Perm m' := by
  unfold step1 at hs ⊢
  rw [← doB_perm h]
  split at hs
  · rename_i hc
    rw [if_pos hc]
    simp only [Option.some.injEq] at hs
    subst hs
    exact ⟨_, rfl, doI_perm h _ _⟩
  · simp at hs

theorem wlk_perm {l l' m : List Item} {ss : List ByteArray} (h : l.Perm l') (hs : wlk l ss = some m) : ∃ m', wlk l' ss = some m' ∧ m.Perm m' := by
  induction ss generalizing l l' with
  | nil => simp only [wlk, Option.some.injEq] at hs; subst hs; exact ⟨l', rfl, h⟩
  | cons s ss ih =>
    simp only [wlk] at hs ⊢
    cases e : step1 l s with
    | none => rw [e] at hs; simp at hs
    | some k =>
      rw [e] at hs
      obtain ⟨k', e', hp⟩ := step1_perm h e
      rw [e']
      exact ih hp hs

/-- The text of a step is read as the step. -/
theorem stTxt_good {b : Bool} {x : Item} (hx : Good x) : goodS (stTxt b x.text) = true ∧ addsS (stTxt b x.text) = b ∧ itS (stTxt b x.text) = x := by
  obtain ⟨i, hi, rfl⟩ := hx
  have hsz : (stTxt b i.item.text).size = 1 + i.text.length := by
    unfold stTxt
    rw [ByteArray.size_append, show i.item.text = itText i from rfl, itText_size]
    cases b <;> rfl
  have he : (stTxt b i.item.text).extract 1 (stTxt b i.item.text).size = itText i := by
    apply ByteArray.ext
    rw [ByteArray.data_extract, hsz]
    unfold stTxt
    rw [ByteArray.data_append]
    apply Array.toList_inj.1
    rw [Array.toList_extract]
    cases b <;> simp [List.extract_eq_take_drop, itText, It.item]
  have h0 : byteAt (stTxt b i.item.text) 0 = if b then 43 else 45 := by
    rw [byteAt_rest, rest_zero]
    unfold stTxt
    cases b <;> simp [ByteArray.data_append]
  have hg : goodS (stTxt b i.item.text) = true := by
    unfold goodS
    rw [he, (good_gives hi).1, h0]
    cases b <;> simp
  refine ⟨hg, ?_, ?_⟩
  · unfold addsS
    rw [hg, h0]
    cases b <;> simp
  · unfold itS
    rw [if_pos hg, he]
    exact (good_gives hi).2

theorem step1_txt {b : Bool} {x : Item} (hx : Good x) (l : List Item) : step1 l (stTxt b x.text) = if doB b l x then some (doI b l x) else none := by
  obtain ⟨h1, h2, h3⟩ := stTxt_good (b := b) hx
  unfold step1
  rw [h1, h2, h3, Bool.true_and]

/-- A text that is a step. -/
theorem goodS_read {s : ByteArray} (h : goodS s = true) : ∃ (b : Bool) (x : Item), Good x ∧ s = stTxt b x.text := by
  have h2 : (byteAt s 0 = 43 ∨ byteAt s 0 = 45) ∧ goodI (s.extract 1 s.size) = true := by simpa [goodS] using h
  obtain ⟨i, hi, e, _⟩ := good_read h2.2
  have hs : 0 < s.size := by
    rcases Nat.eq_zero_or_pos s.size with h | h
    · have := h2.1; rw [byteAt_out (by omega)] at this; omega
    · exact h
  have hr : ∃ c, rest s 0 = c :: rest s 1 ∧ (c.toNat : Int) = byteAt s 0 := by
    obtain ⟨c, hc, hr⟩ := cons_of_byte (s := s) (p := 0) rfl (by rcases h2.1 with h | h <;> omega)
    exact ⟨c, hr, hc⟩
  obtain ⟨c, hr, hc⟩ := hr
  have ht : rest s 1 = i.text := by
    have e2 := congrArg (fun b : ByteArray => b.data.toList) e
    simp only [ByteArray.data_extract, Array.toList_extract, List.extract_eq_take_drop, itText] at e2
    rw [← e2]
    unfold rest
    rw [List.take_of_length_le (by simp)]
  have hd : s.data.toList = c :: i.text := by rw [← rest_zero, hr, ht]
  have hs2 : s = ⟨(c :: i.text).toArray⟩ := by rw [← hd, bytes_mk]
  rcases h2.1 with h | h
  · refine ⟨true, i.item, ⟨i, hi, rfl⟩, ?_⟩
    have : c = 43 := UInt8.toNat_inj.1 (by have : ((43 : UInt8).toNat : Int) = 43 := rfl; omega)
    rw [hs2, this]
    apply ByteArray.ext
    simp [stTxt, ByteArray.data_append, It.item]
  · refine ⟨false, i.item, ⟨i, hi, rfl⟩, ?_⟩
    have : c = 45 := UInt8.toNat_inj.1 (by have : ((45 : UInt8).toNat : Int) = 45 := rfl; omega)
    rw [hs2, this]
    apply ByteArray.ext
    simp [stTxt, ByteArray.data_append, It.item]

end Go.Proofs.Ytigpohommoogeaa
