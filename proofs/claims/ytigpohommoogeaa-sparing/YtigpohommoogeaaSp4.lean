/- 'stays'. -/
import Derived.Test.YtigpohommoogeaaSp3
namespace Go.Proofs.Ytigpohommoogeaa
open Go.RowKit

theorem StrsAt.later {w w' : World} {v : Value} {l : List ByteArray} (h : StrsAt w v l) (hb : Below w.heap.size w w') : StrsAt w' v l := by
  rcases h with h | ⟨g, cap, e, hc, hi⟩
  · exact Or.inl h
  · exact Or.inr ⟨g, cap, e, hc, hi.later hb⟩

theorem slice_of_strs {w : World} {v : Value} {l : List ByteArray} (hv : StrsAt w v l) : ∃ a cap, v = .slice a l.length cap := by
  rcases hv with ⟨rfl, rfl⟩ | ⟨g, cap, rfl, _⟩
  · exact ⟨none, 0, rfl⟩
  · exact ⟨_, _, rfl⟩

set_option maxRecDepth 100000 in
set_option maxHeartbeats 400000 in
theorem in_at (v : Value) (l : List ByteArray) (s : ByteArray) (w : World) (hl : l.length ≤ 1000000) (hv : StrsAt w v l) :
    Calls Try.prog 26 #[v, .string s] w fun e w' => e = .returned (.bool (inB l s)) ∧ w' = w := by
  rcases hv with ⟨rfl, rfl⟩ | ⟨g, cap, rfl, _, hit⟩
  · go_enter Try.func26, Try.ntmps26
    go_wp2
    refine wp_loop_rounds 1 ?_
    rw [rounds_succ]
    go_wp2
    go_ret
    exact ⟨rfl, rfl⟩
  · exact in_any g cap l s w hl hit

/-- Does an item stay, looked at so deep? -/
def stB (L M : List It) : Nat → It → Bool
  | 0, x => inB (M.map textOf) (textOf x)
  | d + 1, x => inB (M.map textOf) (textOf x) && (namesOf x.item).all fun k => match L.find? (fun y => keyIs k y.item) with | some y => stB L M d y | none => false

set_option maxRecDepth 100000 in
set_option maxHeartbeats 400000 in
theorem stays_zero (L M : List It) (a b : Value) (ac bc : Nat) (aa ba : Option Addr) (x : It) (w : World) (hm : M.length ≤ 24) (ea : a = .slice aa L.length ac) (eb : b = .slice ba M.length bc) (hb : StrsAt w b (M.map textOf)) :
    Calls Try.prog 32 #[a, b, .string (textOf x), .int .i64 0] w fun e w' => e = .returned (.bool (stB L M 0 x)) ∧ Below w.heap.size w w' := by
  have hin := in_at b (M.map textOf) (textOf x) w (by simp; omega) hb
  have hnot : ∀ (x : Bool) (w : World), (Op.unary .not (.bool x)).run Try.prog w = .ok (.bool (!x)) w := fun _ _ => rfl
  show Calls Try.prog _ _ _ fun e w' => e = .returned (.bool (inB (M.map textOf) (textOf x))) ∧ _
  generalize inB (M.map textOf) (textOf x) = B at *
  generalize textOf x = X at *
  have Hin := hide hin
  clear hin hb
  subst ea
  subst eb
  go_enter Try.func32, Try.ntmps32
  go_wp2_with fail
  refine (unhide Hin).mono ?_
  rintro e w1 ⟨rfl, he⟩
  replace he := he.symm
  subst he
  go_wp2
  go_ret
  exact ⟨rfl, Below.refl _ _⟩

theorem all_take {α : Type} (l : List α) (p : α → Bool) (k : Nat) (h : k < l.length) (h1 : (l.take k).all p = true) : (l.take (k + 1)).all p = p l[k] := by
  rw [List.take_succ_eq_append_getElem h, List.all_append, h1]
  simp

set_option maxRecDepth 100000 in
set_option maxHeartbeats 1000000 in
theorem stays_step (L M : List It) (hL : ∀ y ∈ L, y.ok) (hl : L.length ≤ 24) (hm : M.length ≤ 24) (hR : Refs (L.map It.item)) (g ac bc : Nat) (b : Value) (ba : Option Addr) (eb : b = .slice ba M.length bc) (d : Nat) (D : Int) (hD : D = d + 1) (hd : d ≤ 5)
    (ih : ∀ y ∈ L, ∀ wx, StrsIn wx g 0 (L.map textOf) → StrsAt wx b (M.map textOf) → Calls Try.prog 32 #[.slice (some ⟨g, 0, none⟩) L.length ac, b, .string (textOf y), .int .i64 (D - 1)] wx fun e w' => e = .returned (.bool (stB L M d y)) ∧ Below wx.heap.size wx w')
    (x : It) (hx : x ∈ L) (w : World) (hit : StrsIn w g 0 (L.map textOf)) (hb : StrsAt w b (M.map textOf)) :
    Calls Try.prog 32 #[.slice (some ⟨g, 0, none⟩) L.length ac, b, .string (textOf x), .int .i64 D] w fun e w' => e = .returned (.bool (stB L M (d + 1) x)) ∧ Below w.heap.size w w' := by
  have hin := in_at b (M.map textOf) (textOf x) w (by simp; omega) hb
  have hnot : ∀ (x : Bool) (w : World), (Op.unary .not (.bool x)).run Try.prog w = .ok (.bool (!x)) w := fun _ _ => rfl
  have hDl : ¬ D ≤ 0 := by omega
  have hDr : D ≤ 6 := by omega
  have hD0 : 0 < D := by omega
  have hneed := needs_any g ac L hL hl x (hL x hx) w hit
  have hfull : stB L M (d + 1) x = (inB (M.map textOf) (textOf x) && (namesOf x.item).all fun k => match L.find? (fun y => keyIs k y.item) with | some y => stB L M d y | none => false) := rfl
  -- what is named is there
  have hk : ∀ k ∈ namesOf x.item, ∃ y ∈ L, L.find? (fun y => keyIs k y.item) = some y ∧ ndT L k = textOf y := by
    intro k hk
    obtain ⟨z, hz, hkz⟩ := hR x.item (List.mem_map.2 ⟨x, hx, rfl⟩) k hk
    obtain ⟨y, hy, rfl⟩ := List.mem_map.1 hz
    cases hf : L.find? (fun y => keyIs k y.item) with
    | none => rw [List.find?_eq_none] at hf; exact absurd hkz (hf y hy)
    | some q => exact ⟨q, List.mem_of_find?_eq_some hf, rfl, by simp [ndT, hf]⟩
  have hnl : (namesOf x.item).length ≤ 2 := namesOf_len x.item
  have hlen : (ndL L x).length = (namesOf x.item).length := by simp [ndL]
  cases hi0 : inB (M.map textOf) (textOf x) with
  | false =>
    rw [hi0] at hin
    have hfin : stB L M (d + 1) x = false := by rw [hfull, hi0]; rfl
    rw [hfin]
    generalize textOf x = X at *
    have Hin := hide hin
    clear hin hfin hi0 hneed hfull hD ih hk hlen hb
    subst eb
    go_enter Try.func32, Try.ntmps32
    go_wp2_with fail
    refine (unhide Hin).mono ?_
    rintro e w1 ⟨rfl, he⟩
    replace he := he.symm
    subst he
    go_wp2
    go_ret
    exact ⟨rfl, Below.refl _ _⟩
  | true =>
    rw [hi0] at hin
    rw [hi0, Bool.true_and] at hfull
    rw [hfull]
    obtain ⟨F, hF⟩ : ∃ F : Key → Bool, F = fun k => match L.find? (fun y => keyIs k y.item) with | some y => stB L M d y | none => false := ⟨_, rfl⟩
    rw [← hF]
    have hk2 : ∀ (i : Nat) (hi : i < (namesOf x.item).length), ∃ y ∈ L, (ndL L x)[i]? = some (textOf y) ∧ F (namesOf x.item)[i] = stB L M d y := by
      intro i hi
      obtain ⟨y, hy, e1, e2⟩ := hk _ (List.getElem_mem hi)
      exact ⟨y, hy, by simp [ndL, hi, e2], by rw [hF]; simp [e1]⟩
    have Hk := hide hk2
    have Hlen := hide hlen
    have Hin := hide hin
    have Hneed := hide hneed
    have Hih := hide ih
    have HitL := hide hit
    have HbM := hide hb
    clear hin hneed hfull ih hk hk2 hlen hF hi0 hD hit hb
    generalize textOf x = X at *
    generalize ndL L x = N at *
    generalize namesOf x.item = K at *
    have eb' := hide eb
    rw [eb]
    clear eb
    go_enter Try.func32, Try.ntmps32
    go_wp2_with fail
    refine (unhide (unhide eb' ▸ Hin)).mono ?_
    rintro e w1 ⟨rfl, he⟩
    replace he := he.symm
    subst he
    go_wp2_with fail
    refine (unhide Hneed).mono ?_
    rintro e w1 ⟨v, rfl, hnv, hb1⟩
    have hl1 := hb1.size
    obtain ⟨na, nc, rfl⟩ := slice_of_strs hnv
    rw [unhide Hlen]
    go_wp2
    go_loopw [9, 11] (fun ok i wr => ∃ k : Nat, k ≤ K.length ∧ i = .int .i64 k ∧ (K.take k).all F = true ∧ Below w1.heap.size w1 wr) (fun _ i _ => K.length - (intOf i).toNat)
    case atStart => exact ⟨0, Nat.zero_le _, rfl, by simp, Below.refl _ _⟩
    case round =>
      obtain ⟨k, hkk, rfl, hall, hbe⟩ := hrel
      have Hall := hide hall
      clear hall
      have hsz := hbe.size
      by_cases hlt : k < K.length
      · obtain ⟨y, hy, hyN, hyF⟩ := unhide Hk k hlt
        have hkN : k < N.length := by rw [unhide Hlen]; exact hlt
        have hyN' : N[k] = textOf y := by rw [List.getElem?_eq_getElem hkN] at hyN; simpa using hyN
        rcases hnv with ⟨_, hnil⟩ | ⟨ng, ncap, hve, _, hni⟩
        · rw [hnil] at hkN; simp at hkN
        have hae : na = some ⟨ng, 0, none⟩ := by injection hve
        subst hae
        have hcell := (hbe.cell (p := ⟨ng, 0 + k, none⟩) hni.1).trans (hni.2 k hkN)
        rw [hyN', Nat.zero_add] at hcell
        have hlt' : (k : Int) < (K.length : Int) := by omega
        have hrec := unhide Hih y hy wr ((unhide HitL).later (hb1.trans (hbe.mono hl1))) ((unhide HbM).later (hb1.trans (hbe.mono hl1)))
        have hstep := all_take K F k hlt (unhide Hall)
        rw [hyF] at hstep
        rw [unhide eb'] at hrec
        cases hs : stB L M d y with
        | true =>
          rw [hs] at hrec hstep
          have Hrec := hide hrec
          have Hst := hide hstep
          clear hrec hstep hs hyF hyN hyN' hve
          generalize textOf y = Y at *
          go_wp2_with (go_at_call 32; refine (unhide Hrec).mono ?_; rintro e w2 ⟨rfl, hb2⟩)
          go_roundw
          case rel => exact ⟨k + 1, by omega, by go_num, unhide Hst, hbe.trans (hb2.mono hsz)⟩
          case measure => simp [intOf]; omega
        | false =>
          rw [hs] at hrec hstep
          have hfin : K.all F = false := by
            rw [List.all_eq_false] at hstep ⊢
            obtain ⟨z, hz, hp⟩ := hstep
            exact ⟨z, List.mem_of_mem_take hz, hp⟩
          have Hrec := hide hrec
          have Hf := hide hfin
          clear hrec hstep hs hyF hyN hyN' hve hfin
          generalize textOf y = Y at *
          go_wp2_with (go_at_call 32; refine (unhide Hrec).mono ?_; rintro e w2 ⟨rfl, hb2⟩)
          go_ret
          exact ⟨ret_bool (unhide Hf).symm, hb1.trans ((hbe.trans (hb2.mono hsz)).mono hl1)⟩
      · have hfin := unhide Hall
        rw [List.take_of_length_le (by omega)] at hfin
        have Hf := hide hfin
        clear hfin
        go_wp2
        go_ret
        exact ⟨ret_bool (unhide Hf).symm, hb1.trans (hbe.mono hl1)⟩

end Go.Proofs.Ytigpohommoogeaa
