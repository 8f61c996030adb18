/- The document's answer: 'in', 'keys', 'whole'. -/
import Derived.Test.YtdlhgbhaeedbdaaGreatRef9
namespace Go.Proofs.YtdlhgbhaeedbdaaGreat
open Go.RowKit

/-- Does the text stand in the list? -/
def inR (l : List ByteArray) (s : ByteArray) : Bool := l.any fun x => decide (x = s)
theorem inR_true {l : List ByteArray} {s : ByteArray} : inR l s = true ↔ s ∈ l := by simp [inR]
theorem inR_false {l : List ByteArray} {s : ByteArray} : inR l s = false ↔ s ∉ l := by rw [← inR_true]; simp

set_option maxHeartbeats 400000 in
theorem rin_in (g cap : Nat) (l : List ByteArray) (s : ByteArray) (w : World) (hl : l.length ≤ 1000000) (hit : RStrs w g 0 l) :
    Calls Tryz.prog 53 #[.slice (some ⟨g, 0, none⟩) l.length cap, .string s] w fun e w' => e = .returned (.bool (inR l s)) ∧ w' = w := by
  go_enter Tryz.func53, Tryz.ntmps53
  go_wp2
  go_loop [5] (fun i => ∃ k : Nat, k ≤ l.length ∧ i = .int .i64 k ∧ s ∉ l.take k) (fun i => l.length - (intOf i).toNat)
  case atStart => exact ⟨0, Nat.zero_le _, rfl, by simp⟩
  case round =>
    obtain ⟨k, hk, rfl, hno⟩ := hrel
    have Hno := hide hno
    clear hno
    by_cases hlt : k < l.length
    · have hc := hit.2 k hlt
      rw [Nat.zero_add] at hc
      obtain ⟨x, hx⟩ : ∃ x, x = l[k] := ⟨_, rfl⟩
      rw [← hx] at hc
      have Hx := hide hx
      clear hx
      have hlt' : (k : Int) < (l.length : Int) := by omega
      by_cases he : x = s
      · have hmem : s ∈ l := by rw [← he, unhide Hx]; exact List.getElem_mem hlt
        have Hf := hide (inR_true.2 hmem)
        have he' : (x.toList == s.toList) = true := by rw [he]; simp
        clear hmem he
        go_wp2
        go_ret
        exact ⟨ret_bool (unhide Hf).symm, rfl⟩
      · have hno : s ∉ l.take (k + 1) := by
          rw [List.take_succ_eq_append_getElem hlt, List.mem_append]
          rintro (h | h)
          · exact unhide Hno h
          · simp at h; exact he (by rw [unhide Hx]; exact h.symm)
        have H2 := hide hno
        have he' : (x.toList == s.toList) = false := by
          rw [beq_eq_false_iff_ne]; exact fun h => he (tl_inj h)
        clear hno he
        go_wp2
        go_round
        case rel => exact ⟨k + 1, by omega, by go_num, unhide H2⟩
        case measure => simp [intOf]; omega
    · have hno := unhide Hno
      rw [List.take_of_length_le (by omega)] at hno
      have Hf := hide (inR_false.2 hno)
      clear hno
      go_wp2
      go_ret
      exact ⟨ret_bool (unhide Hf).symm, rfl⟩

set_option maxHeartbeats 400000 in
theorem rin_any (v : Value) (l : List ByteArray) (s : ByteArray) (w : World) (hl : l.length ≤ 1000000) (h : RAt w v l) :
    Calls Tryz.prog 53 #[v, .string s] w fun e w' => e = .returned (.bool (inR l s)) ∧ w' = w := by
  rcases h with ⟨rfl, rfl⟩ | ⟨g, cap, rfl, _, hs⟩
  · go_enter Tryz.func53, Tryz.ntmps53
    go_wp2
    refine wp_loop_rounds 1 ?_
    rw [rounds_succ]
    go_wp2
    go_ret
    exact ⟨rfl, rfl⟩
  · exact rin_in g cap l s w hl hs

def keyOf (x : It) : ByteArray := mkS (keyT x)

theorem rat_of_owns {w : World} {base : Nat} {v : Value} {l : List ByteArray} (h : w.ownsRow base 9 1 v l.length (strsV l)) : RAt w v l := by
  by_cases e : l = []
  · subst e
    have hh := h
    obtain ⟨_, ⟨rfl, _⟩ | ⟨g, cap, cur, rfl, hb, hg, hc, _, _, _⟩⟩ := hh
    · exact Or.inl ⟨rfl, rfl⟩
    · exact Or.inr ⟨g, cap, rfl, hc, (h.lt g rfl).2, by intro i hi; simp at hi⟩
  · obtain ⟨g, cap, a, b, _, c⟩ := rstrs_of_owns h e
    exact Or.inr ⟨g, cap, a, b, c⟩

set_option maxRecDepth 100000 in
set_option maxHeartbeats 400000 in
theorem rkeys_in (g cap : Nat) (L : List It) (hL : ∀ x ∈ L, x.ok) (hz : ∀ x ∈ L, (bodyOf x).size ≤ 100000) (hn : L.length ≤ 100000) (w : World) (hit : RStrs w g 0 (L.map bodyOf)) :
    Calls Tryz.prog 52 #[.slice (some ⟨g, 0, none⟩) L.length cap] w fun e w' => ∃ v, e = .returned v ∧ w'.ownsRow w.heap.size 9 1 v (L.map keyOf).length (strsV (L.map keyOf)) ∧ Below w.heap.size w w' := by
  obtain ⟨i0, hi, hz0, hz1, hz2⟩ := info_parts Tryz.infoStr
  have hg := hit.1
  go_enter Tryz.func52, Tryz.ntmps52
  go_wp2
  go_loopw [3, 4] (fun v i wr => ∃ k : Nat, k ≤ L.length ∧ i = .int .i64 k ∧ wr.ownsRow w.heap.size 9 1 v k (strsV ((L.map keyOf).take k)) ∧ Below w.heap.size w wr) (fun _ i _ => L.length - (intOf i).toNat)
  case atStart => exact ⟨0, Nat.zero_le _, rfl, World.ownsRow_nil _ _ _ _, Below.refl _ _⟩
  case round =>
    obtain ⟨k, hk, rfl, hown, hbe⟩ := hrel
    obtain ⟨a, kc, rfl⟩ := slice_of_owns hown
    have hsz := hbe.size
    by_cases hlt : k < L.length
    · have hlt' : (k : Int) < (L.length : Int) := by omega
      have hc := (hit.below hbe hg).2 k (by simpa using hlt)
      rw [Nat.zero_add, List.getElem_map] at hc
      have hkey := rkey_any L[k] (hL _ (List.getElem_mem hlt)) (hz _ (List.getElem_mem hlt)) wr
      have hst : strsV ((L.map keyOf).take (k + 1)) = strsV ((L.map keyOf).take k) ++ [.string (keyOf L[k])] := by
        rw [List.take_succ_eq_append_getElem (by simpa using hlt), List.getElem_map]; simp only [strsV, List.map_append, List.map_cons, List.map_nil]
      rw [show mkS (keyT L[k]) = keyOf L[k] from rfl] at hkey
      have Hst := hide hst
      have Hkey := hide hkey
      clear hst hkey
      generalize bodyOf L[k] = X at *
      generalize keyOf L[k] = Y at *
      go_wp2_with (first
        | (go_at_call 89; refine (unhide Hkey).mono ?_; rintro e w1 ⟨rfl, hb1⟩; have hown1 := owns_later hown hb1)
        | (at_builtin; refine wpList_append_own _ rfl _ _ 30 rfl w.heap.size 9 i0 (.string ⟨#[]⟩) 1 16 Tryz.underlying30 hi hz0 hz1 hz2 rfl (by decide) (.slice a k kc) k (strsV ((L.map keyOf).take k)) ?hs ?c0 ⟨w1.heap.size, 0, none⟩ 1 1 [.string Y] ?hx rfl ?c1 (one_strV _) ?c3 ?c4 ?c5 ?_))
      case hs => rfl
      case c0 => exact hown1.alloc _
      case hx => rfl
      case c1 => exact cell_one_new _ _ _
      case c3 => unfold maxLen; omega
      case c4 => omega
      case c5 => have := hb1.size; simp; omega
      intro v' w2 hown' hgrow _
      have hb1s := hb1.size
      have hbe2 := ((hbe.trans (hb1.mono hsz)).alloc (by omega) _).grown hgrow (by simp; omega) (fun k e => (hown.lt k e).1)
      clear hgrow
      go_wp2
      go_roundw
      case rel => exact ⟨k + 1, by omega, by go_num, by rw [unhide Hst]; exact hown', hbe2⟩
      case measure => simp [intOf]; omega
    · have hkl : k = L.length := by omega
      subst hkl
      rw [List.take_of_length_le (by simp)] at hown
      go_wp2
      go_ret
      exact ⟨_, rfl, by rw [List.length_map]; exact hown, hbe⟩

set_option maxRecDepth 100000 in
set_option maxHeartbeats 400000 in
theorem rwhole_in (g cap : Nat) (L : List It) (hL : ∀ x ∈ L, x.ok) (hz : ∀ x ∈ L, (bodyOf x).size ≤ 100000) (hn : L.length ≤ 100000) (y : It) (hy : y.ok) (hyz : (bodyOf y).size ≤ 100000) (w : World) (hit : RStrs w g 0 (L.map bodyOf)) :
    Calls Tryz.prog 54 #[.slice (some ⟨g, 0, none⟩) L.length cap, .string (bodyOf y)] w fun e w' => e = .returned (.bool ((namedT y).all fun t => inR (L.map keyOf) (mkS t))) ∧ Below w.heap.size w w' := by
  have hnot : ∀ (x : Bool) (w : World), (Op.unary .not (.bool x)).run Tryz.prog w = .ok (.bool (!x)) w := fun _ _ => rfl
  have hk := rkeys_in g cap L hL hz hn w hit
  have hnl : (namedT y).length ≤ 2 := by
    unfold namedT
    split
    · simp
    · split
      · simp
      · split <;> simp
  go_enter Tryz.func54, Tryz.ntmps54
  go_wp2_with fail
  refine hk.mono ?_
  rintro e w1 ⟨kv, rfl, hown, hb1⟩
  have hrk := rat_of_owns hown
  go_wp2_with fail
  refine (rnamed_any y hy hyz w1).mono ?_
  rintro e w2 ⟨nv, rfl, hrn, hb2⟩
  have hrk2 := hrk.later hb2
  have hB := hb1.trans (hb2.mono hb1.size)
  have hin : ∀ s, Calls Tryz.prog 53 #[kv, .string s] w2 fun e w' => e = .returned (.bool (inR (L.map keyOf) s)) ∧ w' = w2 := fun s => rin_any kv (L.map keyOf) s w2 (by simp; omega) hrk2
  have Hin := hide hin
  clear hin hrk hrk2 hown hk
  obtain ⟨N, hN0⟩ : ∃ N, N = namedT y := ⟨_, rfl⟩
  have HN := hide hN0
  rw [← hN0] at hrn hnl
  clear hN0
  rcases hrn with ⟨rfl, hnil⟩ | ⟨g2, cap2, rfl, _, hs2⟩
  · have hN : N = [] := List.map_eq_nil_iff.1 hnil
    subst hN
    go_wp2_with fail
    refine wp_loop_rounds 1 ?_
    rw [rounds_succ]
    go_wp2_with fail
    go_ret
    exact ⟨ret_bool (by rw [← unhide HN]; rfl), hB⟩
  · rw [List.length_map]
    go_wp2_with fail
    go_loop [7] (fun i => ∃ k : Nat, k ≤ N.length ∧ i = .int .i64 k ∧ ((N.take k).all fun t => inR (L.map keyOf) (mkS t)) = true) (fun i => N.length - (intOf i).toNat)
    case atStart => exact ⟨0, Nat.zero_le _, rfl, by simp⟩
    case round =>
      obtain ⟨k, hkk, rfl, hall⟩ := hrel
      have Hall := hide hall
      clear hall
      by_cases hlt : k < N.length
      · have hlt' : (k : Int) < (N.length : Int) := by omega
        have hc := hs2.2 k (by simpa using hlt)
        rw [Nat.zero_add, List.getElem_map] at hc
        have hst : ((N.take (k + 1)).all fun t => inR (L.map keyOf) (mkS t)) = inR (L.map keyOf) (mkS N[k]) := by
          rw [List.take_succ_eq_append_getElem hlt, List.all_append, unhide Hall]; simp
        have hcall := unhide Hin (mkS N[k])
        cases hd : inR (L.map keyOf) (mkS N[k]) with
        | true =>
          rw [hd] at hcall hst
          have Hc := hide hcall
          have Hs := hide hst
          clear hcall hst hd
          generalize mkS N[k] = Z at *
          go_wp2_with (go_at_call 53; refine (unhide Hc).mono ?_; rintro e w3 ⟨rfl, rfl⟩)
          go_round
          case rel => exact ⟨k + 1, by omega, by go_num, unhide Hs⟩
          case measure => simp [intOf]; omega
        | false =>
          rw [hd] at hcall hst
          have hfin : (N.all fun t => inR (L.map keyOf) (mkS t)) = false := by
            rw [List.all_eq_false] at hst ⊢
            obtain ⟨z, hz, hp⟩ := hst
            exact ⟨z, List.mem_of_mem_take hz, hp⟩
          have Hf := hide hfin
          have Hc := hide hcall
          clear hcall hst hd hfin
          generalize mkS N[k] = Z at *
          go_wp2_with (go_at_call 53; refine (unhide Hc).mono ?_; rintro e w3 ⟨rfl, rfl⟩)
          go_ret
          exact ⟨ret_bool (by rw [← unhide HN]; exact (unhide Hf).symm), hB⟩
      · have hfin := unhide Hall
        rw [List.take_of_length_le (by omega)] at hfin
        have Hf := hide hfin
        clear hfin
        have hlt' : ¬ (k : Int) < (N.length : Int) := by omega
        go_wp2_with fail
        go_ret
        exact ⟨ret_bool (by rw [← unhide HN]; exact (unhide Hf).symm), hB⟩

end Go.Proofs.YtdlhgbhaeedbdaaGreat
