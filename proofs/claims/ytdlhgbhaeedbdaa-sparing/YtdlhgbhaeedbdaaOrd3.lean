/- The order of keys is the order of texts. -/
import Derived.Test.YtdlhgbhaeedbdaaOrd2
namespace Go.Proofs.Ytdlhgbhaeedbdaa
open Go.RowKit

theorem lt32 : ((32 : UInt8).toNat : Int) < 97 := by decide
theorem lt59 : ((59 : UInt8).toNat : Int) < 97 := by decide

theorem text_less {x y : It} (hx : x.ok) (hy : y.ok) (hk : x.kind = y.kind) (h : LtK x.item y.item) : Op.bytesLess x.text y.text = true := by
  have h' : Op.bytesLess x.a y.a = true ∨ (x.a = y.a ∧ (Op.bytesLess x.item.host.toList y.item.host.toList = true ∨ (x.item.host = y.item.host ∧ x.item.number < y.item.number))) := by
    rcases h with h | ⟨_, h⟩
    · exact absurd h (by simp [It.item, hk])
    · rcases h with h | ⟨h1, h⟩
      · left
        rw [show x.item.name = ⟨x.a.toArray⟩ from rfl, show y.item.name = ⟨y.a.toArray⟩ from rfl, mk_tl, mk_tl] at h
        exact h
      · exact Or.inr ⟨mk_inj h1, h⟩
  have yb := hy.1.2.2
  rcases hx with ⟨_, ⟨e, _, _, _, _⟩ | ⟨e, _⟩ | ⟨e, hb, hn, _⟩ | ⟨e, hb, _⟩ | ⟨e, hb, hn, _⟩⟩
  · have e' : y.kind = 0 := by omega
    simp only [It.text, It.body, e, e', if_true, List.append_assoc]
    rw [bl_app]
    rcases h' with h' | ⟨h1, h' | ⟨_, h'⟩⟩
    · exact bl_name yb h' _ _ lt32 _ _
    · simp [It.item, e, e', Op.bytesLess] at h'
    · simp [It.item, e, e'] at h'
  · have e' : y.kind = 1 := by omega
    have tx : ∀ z : It, z.kind = 1 → z.text = [116, 97, 114, 103, 101, 116, 32] ++ (z.a ++ 59 :: []) := fun z hz => by simp [It.text, It.body, hz]
    rw [tx x e, tx y e', bl_app]
    rcases h' with h' | ⟨h1, h' | ⟨_, h'⟩⟩
    · exact bl_name yb h' _ _ lt59 _ _
    · simp [It.item, e, e', Op.bytesLess] at h'
    · simp [It.item, e, e'] at h'
  · have e' : y.kind = 2 := by omega
    have hn' : y.n ≤ 7 := by rcases hy with ⟨_, ⟨q, _⟩ | ⟨q, _⟩ | ⟨_, _, q, _⟩ | ⟨q, _⟩ | ⟨q, _⟩⟩ <;> omega
    have tx : ∀ z : It, z.kind = 2 → z.text = [108, 117, 110, 32] ++ (z.a ++ (32 :: dg z.n :: ([32] ++ (z.b ++ [32, 114, md z.m, 59])))) := fun z hz => by simp [It.text, It.body, hz]
    rw [tx x e, tx y e', bl_app]
    rcases h' with h' | ⟨h1, h' | ⟨_, h'⟩⟩
    · exact bl_name yb h' _ _ lt32 _ _
    · simp [It.item, e, e', Op.bytesLess] at h'
    · simp [It.item, e, e'] at h'
      rw [h1, bl_app, show ∀ u v : List UInt8, Op.bytesLess (32 :: u) (32 :: v) = Op.bytesLess u v from fun u v => bl_app [32] u v]
      exact bl_digit (by omega) (by omega) h' _ _
  · have e' : y.kind = 3 := by omega
    have hb' : isName y.b := by rcases hy with ⟨_, ⟨q, _⟩ | ⟨q, _⟩ | ⟨q, _⟩ | ⟨_, q, _⟩ | ⟨q, _⟩⟩ <;> first | omega | exact q
    have tx : ∀ z : It, z.kind = 3 → z.text = [104, 111, 115, 116, 32] ++ (z.a ++ (32 :: (z.b ++ 59 :: []))) := fun z hz => by simp [It.text, It.body, hz]
    rw [tx x e, tx y e', bl_app]
    rcases h' with h' | ⟨h1, h' | ⟨_, h'⟩⟩
    · exact bl_name yb h' _ _ lt32 _ _
    · simp [It.item, e, e'] at h'
      rw [h1, bl_app, show ∀ u v : List UInt8, Op.bytesLess (32 :: u) (32 :: v) = Op.bytesLess u v from fun u v => bl_app [32] u v]
      exact bl_name hb'.2.2 h' _ _ lt59 _ _
    · simp [It.item, e, e'] at h'
  · have e' : y.kind = 4 := by omega
    have hb' : isName y.b ∧ y.n ≤ 7 := by rcases hy with ⟨_, ⟨q, _⟩ | ⟨q, _⟩ | ⟨q, _⟩ | ⟨q, _⟩ | ⟨_, q, r, _⟩⟩ <;> first | omega | exact ⟨q, r⟩
    have tx : ∀ z : It, z.kind = 4 → z.text = [109, 97, 112, 32] ++ (z.a ++ (32 :: (z.b ++ 32 :: dg z.n :: [32, dg z.m, 59]))) := fun z hz => by simp [It.text, It.body, hz]
    rw [tx x e, tx y e', bl_app]
    rcases h' with h' | ⟨h1, h' | ⟨h2, h'⟩⟩
    · exact bl_name yb h' _ _ lt32 _ _
    · simp [It.item, e, e'] at h'
      rw [h1, bl_app, show ∀ u v : List UInt8, Op.bytesLess (32 :: u) (32 :: v) = Op.bytesLess u v from fun u v => bl_app [32] u v]
      exact bl_name hb'.1.2.2 h' _ _ lt32 _ _
    · simp [It.item, e, e'] at h'
      have h3 : x.b = y.b := by
        have : x.item.host = ⟨x.b.toArray⟩ := by simp [It.item, e]
        have h4 : y.item.host = ⟨y.b.toArray⟩ := by simp [It.item, e']
        rw [this, h4] at h2
        exact mk_inj h2
      rw [h1, bl_app, show ∀ u v : List UInt8, Op.bytesLess (32 :: u) (32 :: v) = Op.bytesLess u v from fun u v => bl_app [32] u v, h3, bl_app, show ∀ u v : List UInt8, Op.bytesLess (32 :: u) (32 :: v) = Op.bytesLess u v from fun u v => bl_app [32] u v]
      exact bl_digit (by omega) (by omega) h' _ _

theorem ord_sorted {L : List It} (h : Arr L) : ∀ i, i + 1 < ((sortI L).map textOf).length → ordB ((sortI L).map textOf) i = true := by
  intro i hi
  have ha := arr_sortI h
  have hs := sorted_sorted _ h.dist
  rw [← sortI_map] at hs
  have hi' : i + 1 < (sortI L).length := by simpa using hi
  rw [List.pairwise_iff_getElem] at hs
  have hl := hs i (i + 1) (by simp; omega) (by simpa using hi') (by omega)
  simp only [List.getElem_map] at hl
  have hx := ha.ok (sortI L)[i] (List.getElem_mem _)
  have hy := ha.ok (sortI L)[i + 1] (List.getElem_mem _)
  simp only [ordB, List.getElem?_map, List.getElem?_eq_getElem (show i < (sortI L).length by omega), List.getElem?_eq_getElem hi', Option.map_some]
  rw [rank_text hx, rank_text hy]
  generalize (sortI L)[i] = x at *
  generalize (sortI L)[i + 1] = y at *
  by_cases hk : x.kind = y.kind
  · have := text_less hx hy hk hl
    simp only [textOf, mk_tl, this]
    simp [hk]
  · have hlt : x.kind < y.kind := by
      rcases hl with hl | ⟨hl, _⟩
      · exact hl
      · exact absurd hl hk
    simp [hk]; omega

theorem catS_map (L : List It) : catS (L.map textOf) = txt L := by
  have : ∀ (L : List It) (acc : ByteArray), (L.map textOf).foldl (· ++ ·) acc = acc ++ txt L := by
    intro L
    induction L with
    | nil => intro acc; simp [txt, catT]; apply ByteArray.ext; simp
    | cons x L ih =>
      intro acc
      simp only [List.map_cons, List.foldl_cons]
      rw [ih]
      apply ByteArray.ext
      apply Array.toList_inj.1
      simp [textOf, txt, catT]
  rw [catS, this]
  apply ByteArray.ext
  simp

end Go.Proofs.Ytdlhgbhaeedbdaa
