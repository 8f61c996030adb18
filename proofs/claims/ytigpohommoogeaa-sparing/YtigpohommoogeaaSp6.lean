/- 'stays' is what stays; 'turns'. -/
import Derived.Test.YtigpohommoogeaaSp5
namespace Go.Proofs.Ytigpohommoogeaa
open Go.RowKit

def dep (k : Nat) : Nat := if k ≤ 1 then 0 else if k ≤ 3 then 1 else 2

theorem dep_names {x : Item} {k : Key} (h : k ∈ namesOf x) {y : Item} (hy : keyIs k y = true) : dep y.kind + 1 ≤ dep x.kind := by
  have hk := (keyIs_iff'.1 hy).1
  unfold namesOf at h
  split at h
  · rename_i e
    simp only [List.mem_cons, List.not_mem_nil, or_false] at h
    rcases h with rfl | rfl <;> simp only at hk <;> have : y.kind ≤ 1 := by omega
    all_goals simp [dep, this, e]
  · split at h
    · rename_i e
      simp only [List.mem_cons, List.not_mem_nil, or_false] at h
      subst h
      simp only at hk
      have : y.kind ≤ 1 := by omega
      simp [dep, this, e]
    · split at h
      · rename_i e
        simp only [List.mem_cons, List.not_mem_nil, or_false] at h
        rcases h with rfl | rfl <;> simp only at hk
        · have : y.kind = 3 := by omega
          simp [dep, this, e]
        · have : y.kind = 2 := by omega
          simp [dep, this, e]
      · simp at h

theorem names_flat {x : Item} (h : dep x.kind = 0) : namesOf x = [] := by
  cases e : namesOf x with
  | nil => rfl
  | cons k r =>
    exfalso
    have hk : k ∈ namesOf x := by rw [e]; simp
    have h1 : x.kind = 2 ∨ x.kind = 3 ∨ x.kind = 4 := by
      unfold namesOf at e
      split at e
      · rename_i e2; exact Or.inl e2
      · split at e
        · rename_i e2; exact Or.inr (Or.inl e2)
        · split at e
          · rename_i e2; exact Or.inr (Or.inr e2)
          · simp at e
    rcases h1 with h1 | h1 | h1 <;> rw [h1] at h <;> simp [dep] at h

theorem in_holds (M : List It) (x : It) : inB (M.map textOf) (textOf x) = holdsB (M.map It.item) x.item.text := by
  unfold inB holdsB
  rw [List.any_map, List.any_map]
  rfl

theorem stB_stay {L M : List It} (hL : Arr L) (hM : Arr M) (d : Nat) : ∀ x ∈ L, dep x.kind ≤ d → stB L M d x = holdsB (stayI (L.map It.item) (M.map It.item)) x.item.text := by
  have hP := planIs hL.arrI hM.arrI
  have hmem : ∀ y ∈ L, y.item ∈ L.map It.item := fun y hy => List.mem_map.2 ⟨y, hy, rfl⟩
  induction d with
  | zero =>
    intro x hx h0
    have hf := names_flat (x := x.item) (show dep x.item.kind = 0 from Nat.le_zero.1 h0)
    rw [Bool.eq_iff_iff, hP.stay x.item (hmem x hx)]
    show inB (M.map textOf) (textOf x) = true ↔ _
    rw [in_holds, hf]
    simp
  | succ d ih =>
    intro x hx hd
    rw [Bool.eq_iff_iff, hP.stay x.item (hmem x hx)]
    show (inB (M.map textOf) (textOf x) && (namesOf x.item).all fun k => match L.find? (fun y => keyIs k y.item) with | some y => stB L M d y | none => false) = true ↔ _
    rw [Bool.and_eq_true, in_holds, List.all_eq_true]
    refine and_congr_right fun _ => ?_
    constructor
    · intro h k hk y' hy' hky
      obtain ⟨y, hy, rfl⟩ := List.mem_map.1 hy'
      have hk1 := h k hk
      cases hf : L.find? (fun y => keyIs k y.item) with
      | none => rw [List.find?_eq_none] at hf; exact absurd hky (hf y hy)
      | some q =>
        rw [hf] at hk1
        have hq := List.mem_of_find?_eq_some hf
        have hkq : keyIs k q.item = true := by have := List.find?_some hf; exact this
        have e : q.item = y.item := dist_eq hL.dist (hmem q hq) (hmem y hy) (keyIs_same hkq hky)
        have hdq : dep q.kind ≤ d := by have := dep_names hk hkq; have h2 : dep x.item.kind = dep x.kind := rfl; have h3 : dep q.item.kind = dep q.kind := rfl; omega
        simp only at hk1
        rw [ih q hq hdq, e] at hk1
        exact hk1
    · intro h k hk
      obtain ⟨z, hz, hkz⟩ := hL.refs x.item (hmem x hx) k hk
      obtain ⟨y, hy, rfl⟩ := List.mem_map.1 hz
      cases hf : L.find? (fun y => keyIs k y.item) with
      | none => rw [List.find?_eq_none] at hf; exact absurd hkz (hf y hy)
      | some q =>
        have hq := List.mem_of_find?_eq_some hf
        have hkq : keyIs k q.item = true := by have := List.find?_some hf; exact this
        have hdq : dep q.kind ≤ d := by have := dep_names hk hkq; have h2 : dep x.item.kind = dep x.kind := rfl; have h3 : dep q.item.kind = dep q.kind := rfl; omega
        simp only
        rw [ih q hq hdq]
        exact h k hk q.item (hmem q hq) hkq

theorem dep_le (k : Nat) : dep k ≤ 3 := by unfold dep; split <;> (try split) <;> omega

theorem stTxt_tl' (b : Bool) (t : ByteArray) : (stTxt b t).toList = (if b then 43 else 45) :: t.toList := by
  rw [ByteArray.toList_eq, ByteArray.toList_eq]
  unfold stTxt
  rw [ByteArray.data_append]
  cases b <;> simp

theorem stTxt_first (b : Bool) (t : ByteArray) (h : 0 < (stTxt b t).size) : ((stTxt b t)[0].toNat : Int) = if b then 43 else 45 := by
  have h1 := byteAt_in h
  rw [← h1, byteAt_rest, rest_zero, ← ByteArray.toList_eq, stTxt_tl']
  cases b <;> rfl

theorem stTxt_rest' (b : Bool) (t : ByteArray) : (stTxt b t).extract 1 (stTxt b t).size = t := by
  have hsz : (stTxt b t).size = 1 + t.size := by
    unfold stTxt
    rw [ByteArray.size_append]
    cases b <;> rfl
  apply tl_inj
  rw [ByteArray.toList_eq, ByteArray.data_extract, Array.toList_extract, List.extract_eq_take_drop, ← ByteArray.toList_eq, stTxt_tl', hsz]
  rw [show 1 + t.size - 1 = t.size from by omega, List.drop_one, List.tail_cons, ByteArray.toList_eq]
  rw [List.take_of_length_le (by simp)]

set_option maxRecDepth 100000 in
set_option maxHeartbeats 2000000 in
theorem turns_in (g cap : Nat) (S : List (Bool × Item)) (hS : ∀ p ∈ S, Good p.2) (ht : S.Pairwise turnR) (hl : S.length ≤ 48) (w : World) (hit : StrsIn w g 0 (stTxts S)) :
    Calls Try.prog 34 #[.slice (some ⟨g, 0, none⟩) S.length cap] w fun e w' => e = .returned (.bool true) ∧ ∃ n, w' = w.drewN n := by
  have hlen0 : (stTxts S).length = S.length := by simp [stTxts]
  have HL := hide hlen0
  clear hlen0
  go_enter Try.func34, Try.ntmps34
  go_wp2
  go_loopw [3] (fun i wr => ∃ k n : Nat, k ≤ S.length ∧ i = .int .i64 k ∧ wr = w.drewN n) (fun i _ => S.length - (intOf i).toNat)
  case atStart => exact ⟨0, 0, Nat.zero_le _, rfl, rfl⟩
  case round =>
    obtain ⟨k, n, hk, rfl, rfl⟩ := hrel
    by_cases hlt : k + 1 < S.length
    · have hk1 : k < S.length := by omega
      have hR := List.pairwise_iff_getElem.1 ht k (k + 1) hk1 hlt (by omega)
      have hlen := unhide HL
      have hc1 := hit.2 k (by omega)
      have hc2 := hit.2 (k + 1) (by omega)
      rw [Nat.zero_add] at hc1 hc2
      have e1 : (stTxts S)[k]'(by omega) = stTxt S[k].1 S[k].2.text := by simp [stTxts]
      have e2 : (stTxts S)[k + 1]'(by omega) = stTxt S[k + 1].1 S[k + 1].2.text := by simp [stTxts]
      rw [e1] at hc1
      rw [e2] at hc2
      have hg1 := hS S[k] (List.getElem_mem hk1)
      have hg2 := hS S[k + 1] (List.getElem_mem hlt)
      generalize S[k] = p at *
      generalize S[k + 1] = q at *
      obtain ⟨pb, px⟩ := p
      obtain ⟨qb, qx⟩ := q
      simp only at hc1 hc2 hg1 hg2
      obtain ⟨i, hi, rfl⟩ := hg1
      obtain ⟨j, hj, rfl⟩ := hg2
      have hlt' : (k : Int) + 1 < (S.length : Int) := by omega
      have hX0 : 0 < (stTxt pb i.item.text).size := by unfold stTxt; rw [ByteArray.size_append]; cases pb <;> (have : (⟨#[43]⟩ : ByteArray).size = 1 := rfl; have : (⟨#[45]⟩ : ByteArray).size = 1 := rfl; simp; omega)
      have hY0 : 0 < (stTxt qb j.item.text).size := by unfold stTxt; rw [ByteArray.size_append]; cases qb <;> (have : (⟨#[43]⟩ : ByteArray).size = 1 := rfl; have : (⟨#[45]⟩ : ByteArray).size = 1 := rfl; simp; omega)
      have hfX := stTxt_first pb i.item.text hX0
      have hfY := stTxt_first qb j.item.text hY0
      have hrX := stTxt_rest' pb i.item.text
      have hrY := stTxt_rest' qb j.item.text
      have hXe : (stTxt pb i.item.text).toList.isEmpty = false := by rw [stTxt_tl']; rfl
      have hYe : (stTxt qb j.item.text).toList.isEmpty = false := by rw [stTxt_tl']; rfl
      have hXn : ¬ (stTxt pb i.item.text).toList = [] := by rw [stTxt_tl']; simp
      have hYn : ¬ (stTxt qb j.item.text).toList = [] := by rw [stTxt_tl']; simp
      have hk1' : ∀ wx, Calls Try.prog 44 #[.string i.item.text] wx fun e w' => e = .returned (.int .i64 (i.kind : Nat)) ∧ w' = wx := by
        intro wx
        have := rank_any (textOf i) wx (by have := textOf_size hi; omega)
        rw [rank_text hi] at this
        exact this
      have hk2' : ∀ wx, Calls Try.prog 44 #[.string j.item.text] wx fun e w' => e = .returned (.int .i64 (j.kind : Nat)) ∧ w' = wx := by
        intro wx
        have := rank_any (textOf j) wx (by have := textOf_size hj; omega)
        rw [rank_text hj] at this
        exact this
      have hless : i.kind = j.kind → LtK i.item j.item → pb = qb → Op.bytesLess (stTxt pb i.item.text).toList (stTxt qb j.item.text).toList = true := by
        intro h1 h2 h3
        rw [stTxt_tl', stTxt_tl', h3]
        have := text_less hi hj h1 h2
        have e : ∀ x : It, x.item.text.toList = x.text := fun x => by rw [show x.item.text = ⟨x.text.toArray⟩ from rfl, mk_tl]
        rw [e, e]
        simp [Op.bytesLess, this]
      have hki : i.item.kind = i.kind := rfl
      have hkj : j.item.kind = j.kind := rfl
      have hX0' : (0 : Int) < ((stTxt pb i.item.text).size : Int) := by omega
      have hY0' : (0 : Int) < ((stTxt qb j.item.text).size : Int) := by omega
      have hX1' : (1 : Int) ≤ ((stTxt pb i.item.text).size : Int) := by omega
      have hY1' : (1 : Int) ≤ ((stTxt qb j.item.text).size : Int) := by omega
      unfold turnR at hR
      simp only [hki, hkj] at hR
      have K1 := hide hk1'
      have K2 := hide hk2'
      clear hk1' hk2' e1 e2 hki hkj hlen
      generalize hX : stTxt pb i.item.text = X at *
      generalize hY : stTxt qb j.item.text = Y at *
      generalize i.item.text = TI at *
      generalize j.item.text = TJ at *
      clear hX hY
      rcases hR with ⟨rfl, rfl⟩ | ⟨rfl, rfl, hkk⟩ | ⟨rfl, rfl, hlk⟩
      · have x43 : ((X[0].toNat : Int) == 43) = false := by rw [hfX]; rfl
        have x45 : ((X[0].toNat : Int) == 45) = true := by rw [hfX]; rfl
        have y43 : ((Y[0].toNat : Int) == 43) = true := by rw [hfY]; rfl
        have y45 : ((Y[0].toNat : Int) == 45) = false := by rw [hfY]; rfl
        clear hless hfX hfY
        go_wp2
        go_quiet (fail)
        go_wp2_with fail
        refine (unhide K1 _).mono ?_
        rintro e w1 ⟨rfl, he⟩
        replace he := he.symm
        subst he
        go_wp2_with fail
        refine (unhide K2 _).mono ?_
        rintro e w1 ⟨rfl, he⟩
        replace he := he.symm
        subst he
        go_wp2
        go_roundw
        case rel => exact ⟨k + 1, _, by omega, by go_num, rfl⟩
        case measure => simp [intOf]; omega
      · have x43 : ((X[0].toNat : Int) == 43) = false := by rw [hfX]; rfl
        have x45 : ((X[0].toNat : Int) == 45) = true := by rw [hfX]; rfl
        have y43 : ((Y[0].toNat : Int) == 43) = false := by rw [hfY]; rfl
        have y45 : ((Y[0].toNat : Int) == 45) = true := by rw [hfY]; rfl
        rcases hkk with hkk | ⟨hkk, hlk⟩
        · have hne : ((i.kind : Int) == (j.kind : Int)) = false := by rw [beq_eq_false_iff_ne]; omega
          have hnl : ¬ (i.kind : Int) < (j.kind : Int) := by omega
          clear hless hfX hfY
          go_wp2
          go_quiet (fail)
          go_wp2_with fail
          refine (unhide K1 _).mono ?_
          rintro e w1 ⟨rfl, he⟩
          replace he := he.symm
          subst he
          go_wp2_with fail
          refine (unhide K2 _).mono ?_
          rintro e w1 ⟨rfl, he⟩
          replace he := he.symm
          subst he
          go_wp2
          go_roundw
          case rel => exact ⟨k + 1, _, by omega, by go_num, rfl⟩
          case measure => simp [intOf]; omega
        · have hls := hless hkk.symm hlk rfl
          have hne : ((i.kind : Int) == (j.kind : Int)) = true := by rw [beq_iff_eq]; omega
          have hnl : ¬ (i.kind : Int) < (j.kind : Int) := by omega
          clear hless hfX hfY hkk
          go_wp2
          go_quiet (fail)
          go_wp2_with fail
          refine (unhide K1 _).mono ?_
          rintro e w1 ⟨rfl, he⟩
          replace he := he.symm
          subst he
          go_wp2_with fail
          refine (unhide K2 _).mono ?_
          rintro e w1 ⟨rfl, he⟩
          replace he := he.symm
          subst he
          go_wp2
          go_roundw
          case rel => exact ⟨k + 1, _, by omega, by go_num, rfl⟩
          case measure => simp [intOf]; omega
      · have x43 : ((X[0].toNat : Int) == 43) = true := by rw [hfX]; rfl
        have x45 : ((X[0].toNat : Int) == 45) = false := by rw [hfX]; rfl
        have y43 : ((Y[0].toNat : Int) == 43) = true := by rw [hfY]; rfl
        have y45 : ((Y[0].toNat : Int) == 45) = false := by rw [hfY]; rfl
        by_cases hkk : i.kind = j.kind
        · have hls := hless hkk hlk rfl
          have hne : ((i.kind : Int) == (j.kind : Int)) = true := by rw [beq_iff_eq]; omega
          have hnl : ¬ (j.kind : Int) < (i.kind : Int) := by omega
          clear hless hfX hfY hkk
          go_wp2
          go_quiet (fail)
          go_wp2_with fail
          refine (unhide K1 _).mono ?_
          rintro e w1 ⟨rfl, he⟩
          replace he := he.symm
          subst he
          go_wp2_with fail
          refine (unhide K2 _).mono ?_
          rintro e w1 ⟨rfl, he⟩
          replace he := he.symm
          subst he
          go_wp2
          go_roundw
          case rel => exact ⟨k + 1, _, by omega, by go_num, rfl⟩
          case measure => simp [intOf]; omega
        · have hlt2 : i.kind < j.kind := by
            rcases hlk with h | h
            · exact h
            · exact absurd h.1 hkk
          have hne : ((i.kind : Int) == (j.kind : Int)) = false := by rw [beq_eq_false_iff_ne]; omega
          have hnl : ¬ (j.kind : Int) < (i.kind : Int) := by omega
          clear hless hfX hfY hkk
          go_wp2
          go_quiet (fail)
          go_wp2_with fail
          refine (unhide K1 _).mono ?_
          rintro e w1 ⟨rfl, he⟩
          replace he := he.symm
          subst he
          go_wp2_with fail
          refine (unhide K2 _).mono ?_
          rintro e w1 ⟨rfl, he⟩
          replace he := he.symm
          subst he
          go_wp2
          go_roundw
          case rel => exact ⟨k + 1, _, by omega, by go_num, rfl⟩
          case measure => simp [intOf]; omega
    · have hlt' : ¬ (k : Int) + 1 < (S.length : Int) := by omega
      go_wp2
      go_ret
      exact ⟨rfl, _, rfl⟩

end Go.Proofs.Ytigpohommoogeaa
