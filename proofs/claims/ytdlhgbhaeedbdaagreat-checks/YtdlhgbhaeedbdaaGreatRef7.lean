/- The document's answer: 'items', 'word', 'Kind'. -/
import Derived.Test.YtdlhgbhaeedbdaaGreatRef6
import Derived.Test.YtdlhgbhaeedbdaaGreatPureA
namespace Go.Proofs.YtdlhgbhaeedbdaaGreat
open Go.RowKit

/-- The texts l lie in block g from offset o on. -/
def RStrs (w : World) (g o : Nat) (l : List ByteArray) : Prop := g < w.heap.size ∧ ∀ i (h : i < l.length), w.cell? ⟨g, o + i, none⟩ = some (.string l[i])

theorem RStrs.below {B : Nat} {w w' : World} {g o : Nat} {l : List ByteArray} (h : RStrs w g o l) (hb : Below B w w') (hg : g < B) : RStrs w' g o l :=
  ⟨Nat.lt_of_lt_of_le h.1 hb.size, fun i hi => (hb.cell (p := ⟨g, o + i, none⟩) hg).trans (h.2 i hi)⟩
theorem RStrs.later {w w' : World} {g o : Nat} {l : List ByteArray} (h : RStrs w g o l) (hb : Below w.heap.size w w') : RStrs w' g o l := h.below hb h.1
theorem RStrs.take {w : World} {g o : Nat} {l : List ByteArray} (h : RStrs w g o l) (k : Nat) : RStrs w g o (l.take k) :=
  ⟨h.1, fun i hi => by
    have := h.2 i (by simp at hi; omega)
    rw [List.getElem_take]
    exact this⟩

theorem rstrs_of_owns {w : World} {base : Nat} {v : Value} {l : List ByteArray} (h : w.ownsRow base 9 1 v l.length (strsV l)) (hl : l ≠ []) :
    ∃ g cap, v = .slice (some ⟨g, 0, none⟩) l.length cap ∧ l.length ≤ cap ∧ base ≤ g ∧ RStrs w g 0 l := by
  have hh := h
  obtain ⟨_, ⟨rfl, h0⟩ | ⟨g, cap, cur, rfl, hb, hg, hc, _, _, _⟩⟩ := hh
  · exact absurd (List.length_eq_zero_iff.1 h0) hl
  · refine ⟨g, cap, rfl, hc, hb, (h.lt g rfl).2, fun i hi => ?_⟩
    have := h.cells (g := g) rfl i (.string l[i]) (by simp [strsV, List.getElem?_eq_getElem hi])
    rw [addr_add] at this
    rw [Nat.zero_add]
    exact this

/-- The words of an item but the last, and the last. -/
def winit (x : It) : List (List UInt8) :=
  if x.kind = 0 then [[100, 105, 115, 107], x.a] else if x.kind = 1 then [[116, 97, 114, 103, 101, 116]] else if x.kind = 2 then [[108, 117, 110], x.a, [dg x.n], x.b]
  else if x.kind = 3 then [[104, 111, 115, 116], x.a] else [[109, 97, 112], x.a, x.b, [dg x.n]]
def wlast (x : It) : List UInt8 :=
  if x.kind = 0 then [dg x.n] else if x.kind = 1 then x.a else if x.kind = 2 then [114, md x.m] else if x.kind = 3 then x.b else [dg x.m]
def words (x : It) : List (List UInt8) := winit x ++ [wlast x]

theorem body_words {x : It} (hx : x.ok) : x.body = segs 32 (winit x) ++ wlast x := by
  rcases hx with ⟨_, ⟨e, _⟩ | ⟨e, _⟩ | ⟨e, _⟩ | ⟨e, _⟩ | ⟨e, _⟩⟩ <;> simp [It.body, winit, wlast, segs, e]

theorem name_sp {a : List UInt8} (h : isName a) : (32 : UInt8) ∉ a := fun hc => sp_no (h.2.2 32 hc)
theorem dg_sp {n : Nat} (h : n ≤ 9) : (32 : UInt8) ≠ dg n := by
  intro e
  have := dg_nat h
  rw [← e] at this
  simp at this
  omega
theorem md_sp (m : Nat) : (32 : UInt8) ≠ md m := by unfold md; split <;> decide

theorem words_sp {x : It} (hx : x.ok) : (∀ y ∈ winit x, (32 : UInt8) ∉ y) ∧ (32 : UInt8) ∉ wlast x := by
  rcases hx with ⟨ha, ⟨e, _, _, h2, _⟩ | ⟨e, _⟩ | ⟨e, hb, h2, _⟩ | ⟨e, hb, _⟩ | ⟨e, hb, h2, h3⟩⟩
  · simp [winit, wlast, e, name_sp ha, dg_sp (show x.n ≤ 9 by omega)]
  · simp [winit, wlast, e, name_sp ha]
  · simp [winit, wlast, e, name_sp ha, name_sp hb, dg_sp (show x.n ≤ 9 by omega), md_sp]
  · simp [winit, wlast, e, name_sp ha, name_sp hb]
  · simp [winit, wlast, e, name_sp ha, name_sp hb, dg_sp (show x.n ≤ 9 by omega), dg_sp (show x.m ≤ 9 by omega)]

def bodyOf (x : It) : ByteArray := mkS x.body

theorem cut_body {x : It} (hx : x.ok) : cutS (bodyOf x) 32 = (words x).map mkS := by
  have := words_sp hx
  unfold bodyOf words
  rw [body_words hx]
  exact cutS_segs 32 (winit x) this.1 (wlast x) this.2

theorem catT_segs (L : List It) : catT L = segs 59 (L.map It.body) := by
  induction L with
  | nil => rfl
  | cons x L ih => simp only [catT, segs, List.map_cons, List.flatMap_cons] at ih ⊢; rw [ih]; rfl

theorem body_no {x : It} (hx : x.ok) : (59 : UInt8) ∉ x.body := by
  intro hc
  rcases hx with ⟨ha, ⟨e, e2, _, h2, _⟩ | ⟨e, e2, _⟩ | ⟨e, hb, h2, _⟩ | ⟨e, hb, _⟩ | ⟨e, hb, h2, h3⟩⟩
  all_goals
    have na : (59 : UInt8) ∉ x.a := fun h => sc_no (ha.2.2 59 h)
    have nd : ∀ n, n ≤ 9 → (59 : UInt8) ≠ dg n := fun n hn e => by
      have := dg_nat hn
      rw [← e] at this
      simp at this
      omega
    have nm : ∀ m, (59 : UInt8) ≠ md m := fun m => by unfold md; split <;> decide
  · simp [It.body, e, na, nd x.n h2] at hc
  · simp [It.body, e, na] at hc
  · have nb : (59 : UInt8) ∉ x.b := fun h => sc_no (hb.2.2 59 h)
    simp [It.body, e, na, nb, nd x.n (by omega), nm] at hc
  · have nb : (59 : UInt8) ∉ x.b := fun h => sc_no (hb.2.2 59 h)
    simp [It.body, e, na, nb] at hc
  · have nb : (59 : UInt8) ∉ x.b := fun h => sc_no (hb.2.2 59 h)
    simp [It.body, e, na, nb, nd x.n (by omega), nd x.m (by omega)] at hc

theorem cut_txt {L : List It} (hL : ∀ x ∈ L, x.ok) : cutS (txt L) 59 = L.map bodyOf ++ [mkS []] := by
  have := cutS_segs 59 (L.map It.body) (by
    intro y hy
    obtain ⟨x, hx, rfl⟩ := List.mem_map.1 hy
    exact body_no (hL x hx)) [] (by simp)
  rw [List.append_nil, ← catT_segs] at this
  rw [show txt L = mkS (catT L) from rfl]
  rw [show ((59 : UInt8).toNat : Int) = 59 from rfl] at this
  rw [this, List.map_append, List.map_map]
  rfl

set_option maxRecDepth 100000 in
set_option maxHeartbeats 400000 in
theorem ritems_any (L : List It) (hL : ∀ x ∈ L, x.ok) (hs : (txt L).size ≤ 1000000) (hn : L.length ≤ 1000000) (w : World) :
    Calls Tryz.prog 51 #[.string (txt L)] w fun e w' => ∃ g cap, e = .returned (.slice (some ⟨g, 0, none⟩) L.length cap) ∧ L.length ≤ cap ∧ w.heap.size ≤ g ∧ RStrs w' g 0 (L.map bodyOf) ∧ Below w.heap.size w w' := by
  have hc := rcut_any (txt L) 59 w hs
  have hl : (cutS (txt L) 59).length = L.length + 1 := by rw [cut_txt hL]; simp
  rw [hl] at hc
  go_enter Tryz.func51, Tryz.ntmps51
  go_wp2_with fail
  refine hc.mono ?_
  rintro e w1 ⟨v, rfl, hown, hb⟩
  rw [← hl] at hown
  obtain ⟨g, cap, rfl, hcap, hg, hst⟩ := rstrs_of_owns hown (by rw [cut_txt hL]; simp)
  rw [hl] at hcap ⊢
  have hst2 := hst.take L.length
  rw [cut_txt hL, List.take_left' (by simp)] at hst2
  have hcap' : (L.length : Int) ≤ (cap : Int) := by omega
  have hcap2 : L.length ≤ cap := by omega
  have hw1 : IntKind.i64.wrap (L.length : Int) = (L.length : Int) := by rw [IntKind.wrap_i64]; omega
  clear hown hst hcap
  go_wp2
  go_ret
  exact ⟨g, cap, rfl, hcap2, hg, hst2, hb⟩

set_option maxRecDepth 100000 in
set_option maxHeartbeats 400000 in
theorem rword_any (x : It) (hx : x.ok) (i : Nat) (hi : i < (words x).length) (hs : (bodyOf x).size ≤ 1000000) (w : World) :
    Calls Tryz.prog 109 #[.string (bodyOf x), .int .i64 (i : Nat)] w fun e w' => e = .returned (.string (mkS ((words x)[i]))) ∧ Below w.heap.size w w' := by
  have hc := rcut_any (bodyOf x) 32 w hs
  rw [cut_body hx] at hc
  have hl : ((words x).map mkS).length = (words x).length := by simp
  have hwl : (words x).length ≤ 5 := by
    unfold words winit
    simp only [List.length_append, List.length_singleton]
    split
    · simp
    · split
      · simp
      · split
        · simp
        · split <;> simp
  have hi' : (i : Int) < ((words x).length : Int) := by omega
  have hi2 : ¬ ((words x).length : Int) ≤ (i : Int) := by omega
  go_enter Tryz.func109, Tryz.ntmps109
  go_wp2_with fail
  refine hc.mono ?_
  rintro e w1 ⟨v, rfl, hown, hb⟩
  obtain ⟨g, cap, rfl, hcap, hg, hst⟩ := rstrs_of_owns hown (by unfold words; simp)
  rw [hl]
  have hcell : w1.cell? ⟨g, i, none⟩ = some (.string (mkS ((words x)[i]))) := by
    have := hst.2 i (by omega)
    rw [Nat.zero_add, List.getElem_map] at this
    exact this
  clear hown hst hcap hl
  go_wp2
  go_ret
  exact ⟨rfl, hb⟩

theorem words_zero (x : It) : (words x).length > 0 := by unfold words; simp

set_option maxRecDepth 100000 in
set_option maxHeartbeats 400000 in
theorem rkind_any (x : It) (hx : x.ok) (hs : (bodyOf x).size ≤ 1000000) (w : World) :
    Calls Tryz.prog 97 #[.string (bodyOf x)] w fun e w' => e = .returned (.int .i64 (x.kind : Nat)) ∧ Below w.heap.size w w' := by
  have hw := rword_any x hx 0 (words_zero x) hs w
  have hk : x.kind = 0 ∨ x.kind = 1 ∨ x.kind = 2 ∨ x.kind = 3 ∨ x.kind = 4 := by have := kind_le hx; omega
  rcases hk with hk | hk | hk | hk | hk
  · have e : mkS ((words x)[0]'(words_zero x)) = ⟨#[100, 105, 115, 107]⟩ := by simp [words, winit, hk, mkS]
    rw [e] at hw
    rw [hk]
    clear e hk
    go_enter Tryz.func97, Tryz.ntmps97
    go_wp2_with fail
    refine hw.mono ?_
    rintro e w1 ⟨rfl, hb⟩
    go_wp2
    go_ret
    exact ⟨rfl, hb⟩
  · have e : mkS ((words x)[0]'(words_zero x)) = ⟨#[116, 97, 114, 103, 101, 116]⟩ := by simp [words, winit, hk, mkS]
    rw [e] at hw
    rw [hk]
    clear e hk
    go_enter Tryz.func97, Tryz.ntmps97
    go_wp2_with fail
    refine hw.mono ?_
    rintro e w1 ⟨rfl, hb⟩
    go_wp2
    go_ret
    exact ⟨rfl, hb⟩
  · have e : mkS ((words x)[0]'(words_zero x)) = ⟨#[108, 117, 110]⟩ := by simp [words, winit, hk, mkS]
    rw [e] at hw
    rw [hk]
    clear e hk
    go_enter Tryz.func97, Tryz.ntmps97
    go_wp2_with fail
    refine hw.mono ?_
    rintro e w1 ⟨rfl, hb⟩
    go_wp2
    go_ret
    exact ⟨rfl, hb⟩
  · have e : mkS ((words x)[0]'(words_zero x)) = ⟨#[104, 111, 115, 116]⟩ := by simp [words, winit, hk, mkS]
    rw [e] at hw
    rw [hk]
    clear e hk
    go_enter Tryz.func97, Tryz.ntmps97
    go_wp2_with fail
    refine hw.mono ?_
    rintro e w1 ⟨rfl, hb⟩
    go_wp2
    go_ret
    exact ⟨rfl, hb⟩
  · have e : mkS ((words x)[0]'(words_zero x)) = ⟨#[109, 97, 112]⟩ := by simp [words, winit, hk, mkS]
    rw [e] at hw
    rw [hk]
    clear e hk
    go_enter Tryz.func97, Tryz.ntmps97
    go_wp2_with fail
    refine hw.mono ?_
    rintro e w1 ⟨rfl, hb⟩
    go_wp2
    go_ret
    exact ⟨rfl, hb⟩

end Go.Proofs.YtdlhgbhaeedbdaaGreat
