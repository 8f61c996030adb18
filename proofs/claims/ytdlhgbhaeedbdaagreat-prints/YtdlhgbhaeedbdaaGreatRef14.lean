/- 'ahead' is the order of items; each item's place is the number of those ahead of it. Plain mathematics. -/
import Derived.Test.YtdlhgbhaeedbdaaGreatRef13
namespace Go.Proofs.YtdlhgbhaeedbdaaGreat
open Go.RowKit

theorem mkS_tl (a : List UInt8) : (mkS a).toList = a := by unfold mkS; rw [ByteArray.toList_eq]

theorem bl_dg {n m : Nat} (hn : n ≤ 9) (hm : m ≤ 9) : Op.bytesLess (mkS [dg n]).toList (mkS [dg m]).toList = decide (n < m) := by
  rw [mkS_tl, mkS_tl]
  have h1 := dg_nat hn
  have h2 := dg_nat hm
  by_cases h : n < m
  · have : dg n < dg m := by rw [UInt8.lt_iff_toNat_lt]; omega
    simp [Op.bytesLess, h, this]
  · have h3 : ¬ dg n < dg m := by rw [UInt8.lt_iff_toNat_lt]; omega
    simp [Op.bytesLess, h, h3]

theorem lexB_cons (a : ByteArray) (l : List ByteArray) (b : ByteArray) (m : List ByteArray) : lexB (a :: l) (b :: m) = if a = b then lexB l m else Op.bytesLess a.toList b.toList := rfl
theorem lexB_nil (m : List ByteArray) : lexB [] m = false := by cases m <;> rfl
theorem mkS_eq {a b : List UInt8} : mkS a = mkS b ↔ a = b := ⟨mkS_inj, fun h => by rw [h]⟩

theorem itm_host (x : It) : x.item.host = mkS (hostL x) := by
  unfold It.item hostL mkS
  by_cases c : x.kind = 3 ∨ x.kind = 4 <;> simp [c]
theorem itm_number (x : It) : x.item.number = (numL x : Int) := by
  unfold It.item numL
  by_cases d : x.kind = 2 ∨ x.kind = 4 <;> simp [d]
theorem itm_name (x : It) : x.item.name = mkS x.a := rfl

theorem ahead_lt {x y : It} (hx : x.ok) (hy : y.ok) : aheadB x y = true ↔ LtK x.item y.item := by
  unfold aheadB LtK
  rw [itm_host, itm_host, itm_number, itm_number, itm_name, itm_name, show x.item.kind = x.kind from rfl, show y.item.kind = y.kind from rfl]
  by_cases hk : x.kind = y.kind
  · rw [if_pos hk]
    have hirr := bl_irrefl
    rcases hx with ⟨_, ⟨e, _, _, _, _⟩ | ⟨e, _⟩ | ⟨e, hb, hn, _⟩ | ⟨e, hb, _⟩ | ⟨e, hb, hn, _⟩⟩
    · have e' : y.kind = 0 := by omega
      simp only [keyW, kn, words, winit, wlast, hostL, numL, e, e']
      by_cases ha : x.a = y.a <;> simp [lexB_cons, lexB_nil, mkS_eq, ha, hirr]
    · have e' : y.kind = 1 := by omega
      simp only [keyW, kn, words, winit, wlast, hostL, numL, e, e']
      by_cases ha : x.a = y.a <;> simp [lexB_cons, lexB_nil, mkS_eq, ha, hirr]
    · have e' : y.kind = 2 := by omega
      have hn' : y.n ≤ 7 := by rcases hy with ⟨_, ⟨q, _⟩ | ⟨q, _⟩ | ⟨_, _, q, _⟩ | ⟨q, _⟩ | ⟨q, _⟩⟩ <;> omega
      have hd := bl_dg (n := x.n) (m := y.n) (by omega) (by omega)
      simp only [keyW, kn, words, winit, wlast, hostL, numL, e, e']
      by_cases ha : x.a = y.a
      · by_cases hnn : x.n = y.n
        · simp [lexB_cons, lexB_nil, ha, hirr, hnn]
        · have : dg x.n ≠ dg y.n := fun h => hnn (dg_inj (by omega) (by omega) h)
          simp [lexB_cons, mkS_eq, ha, hirr, this, hd]
      · simp [lexB_cons, mkS_eq, ha, hirr]
    · have e' : y.kind = 3 := by omega
      simp only [keyW, kn, words, winit, wlast, hostL, numL, e, e']
      by_cases ha : x.a = y.a
      · by_cases hbb : x.b = y.b <;> simp [lexB_cons, lexB_nil, mkS_eq, ha, hirr, hbb]
      · simp [lexB_cons, mkS_eq, ha]
    · have e' : y.kind = 4 := by omega
      have hn' : y.n ≤ 7 := by rcases hy with ⟨_, ⟨q, _⟩ | ⟨q, _⟩ | ⟨q, _⟩ | ⟨q, _⟩ | ⟨_, _, q, _⟩⟩ <;> omega
      have hd := bl_dg (n := x.n) (m := y.n) (by omega) (by omega)
      simp only [keyW, kn, words, winit, wlast, hostL, numL, e, e']
      by_cases ha : x.a = y.a
      · by_cases hbb : x.b = y.b
        · by_cases hnn : x.n = y.n
          · simp [lexB_cons, lexB_nil, ha, hirr, hbb, hnn]
          · have : dg x.n ≠ dg y.n := fun h => hnn (dg_inj (by omega) (by omega) h)
            simp [lexB_cons, mkS_eq, ha, hirr, hbb, this, hd]
        · simp [lexB_cons, mkS_eq, ha, hirr, hbb]
      · simp [lexB_cons, mkS_eq, ha]
  · rw [if_neg hk]
    simp [hk]

/-- How many of L are ahead of x. -/
def placeOf (L : List It) (x : It) : Nat := L.countP fun y => aheadB y x

theorem place_sorted {L : List It} (h : Arr L) {p : Nat} (hp : p < (sortI L).length) : placeOf L (sortI L)[p] = p := by
  have hok := (arr_sortI h).ok
  have hs : (sortI L).Pairwise fun x y => LtK x.item y.item := by
    have := sorted_sorted (L.map It.item) h.dist
    rw [← sortI_map, List.pairwise_map] at this
    exact this
  unfold placeOf
  rw [← (sortI_perm L).countP_eq]
  generalize sortI L = S at *
  have hx := hok S[p] (List.getElem_mem hp)
  rw [List.pairwise_iff_getElem] at hs
  conv => lhs; arg 2; rw [← List.take_append_drop p S]
  rw [List.countP_append]
  have h1 : (S.take p).countP (fun y => aheadB y S[p]) = p := by
    have : (S.take p).countP (fun y => aheadB y S[p]) = (S.take p).length := by
      rw [List.countP_eq_length]
      intro y hy
      obtain ⟨i, hi, rfl⟩ := List.mem_take_iff_getElem.1 hy
      exact (ahead_lt (hok _ (List.getElem_mem _)) hx).2 (hs i p (by omega) hp (by omega))
    rw [this, List.length_take]; omega
  have h2 : (S.drop p).countP (fun y => aheadB y S[p]) = 0 := by
    rw [List.countP_eq_zero]
    intro y hy hc
    obtain ⟨i, hi, rfl⟩ := List.mem_drop_iff_getElem.1 hy
    have hlt := (ahead_lt (hok _ (List.getElem_mem _)) hx).1 hc
    by_cases e : i = 0
    · subst e
      simp only [Nat.add_zero] at hlt
      exact LtK.irrefl ⟨rfl, rfl, rfl, rfl⟩ hlt
    · exact LtK.asymm hlt (hs p (p + i) hp (by omega) (by omega))
  omega

theorem place_lt {L : List It} (h : Arr L) {x : It} (hx : x ∈ L) : placeOf L x < L.length := by
  obtain ⟨p, hp, rfl⟩ := List.getElem_of_mem ((sortI_perm L).mem_iff.2 hx)
  rw [place_sorted h hp]
  have := (sortI_perm L).length_eq
  omega

/-- A row in which each item stands at its place is the items in order. -/
theorem placed {L : List It} (h : Arr L) {r : List ByteArray} (hr : r.length = L.length) (hp : ∀ i (hi : i < L.length), r[placeOf L L[i]]? = some (bodyOf L[i])) : r = (sortI L).map bodyOf := by
  have hlen := (sortI_perm L).length_eq
  apply List.ext_getElem?
  intro p
  by_cases hpl : p < L.length
  · have hpS : p < (sortI L).length := by omega
    have hm : (sortI L)[p] ∈ L := (sortI_perm L).mem_iff.1 (List.getElem_mem hpS)
    obtain ⟨i, hi, e⟩ := List.getElem_of_mem hm
    have := hp i hi
    rw [e, place_sorted h hpS] at this
    rw [this, List.getElem?_map, List.getElem?_eq_getElem hpS]
    rfl
  · rw [List.getElem?_eq_none (by omega), List.getElem?_eq_none (by simp; omega)]

/-- Two items have different places. -/
theorem place_inj {L : List It} (h : Arr L) {x y : It} (hx : x ∈ L) (hy : y ∈ L) (e : placeOf L x = placeOf L y) : x = y := by
  obtain ⟨p, hp, rfl⟩ := List.getElem_of_mem ((sortI_perm L).mem_iff.2 hx)
  obtain ⟨q, hq, rfl⟩ := List.getElem_of_mem ((sortI_perm L).mem_iff.2 hy)
  rw [place_sorted h hp, place_sorted h hq] at e
  subst e
  rfl

end Go.Proofs.YtdlhgbhaeedbdaaGreat
