/- Sp7, CmG, CmH, CmK. -/
import Derived.Test.YtdlhgbhaeedbdabGreatM25
import Derived.Test.YtdlhgbhaeedbdabGreatM18
import Derived.Test.YtdlhgbhaeedbdabGreatM24
import Derived.Test.YtdlhgbhaeedbdabGreatM30
import Derived.Deep.RegionHeld3
import Derived.Deep.CutRange

/- 'Sparing'. -/
namespace Go.Proofs.YtdlhgbhaeedbdabGreat
open Go.RowKit

theorem stays_three (L M : List It) (hL : ∀ y ∈ L, y.ok) (hl : L.length ≤ 24) (hm : M.length ≤ 24) (hR : Refs (L.map It.item)) (g ac bc : Nat) (ba : Option Addr) :
    ∀ x ∈ L, ∀ w, StrsIn w g 0 (L.map textOf) → StrsAt w (.slice ba M.length bc) (M.map textOf) → Calls Tryz.prog 58 #[.slice (some ⟨g, 0, none⟩) L.length ac, .slice ba M.length bc, .string (textOf x), .int .i64 3] w fun e w' => e = .returned (.bool (stB L M 3 x)) ∧ Below w.heap.size w w' := by
  have h0 : ∀ y ∈ L, ∀ wx, StrsIn wx g 0 (L.map textOf) → StrsAt wx (.slice ba M.length bc) (M.map textOf) → Calls Tryz.prog 58 #[.slice (some ⟨g, 0, none⟩) L.length ac, .slice ba M.length bc, .string (textOf y), .int .i64 (1 - 1)] wx fun e w' => e = .returned (.bool (stB L M 0 y)) ∧ Below wx.heap.size wx w' :=
    fun y _ wx _ hb => stays_zero L M _ _ ac bc (some ⟨g, 0, none⟩) ba y wx hm rfl rfl hb
  have h1 := fun y hy wx h2 h3 => stays_step L M hL hl hm hR g ac bc _ ba rfl 0 1 (by omega) (by omega) h0 y hy wx h2 h3
  have h2 := fun y hy wx h3 h4 => stays_step L M hL hl hm hR g ac bc _ ba rfl 1 2 (by omega) (by omega) h1 y hy wx h3 h4
  exact fun y hy wx h3 h4 => stays_step L M hL hl hm hR g ac bc _ ba rfl 2 3 (by omega) (by omega) h2 y hy wx h3 h4

theorem countP_take {α : Type} (l : List α) (p : α → Bool) (k : Nat) (h : k < l.length) : (l.take (k + 1)).countP p = (l.take k).countP p + if p l[k] then 1 else 0 := by
  rw [List.take_succ_eq_append_getElem h, List.countP_append]
  congr 1
  rw [List.countP_cons]
  simp

theorem strs_owned {w : World} {base : Nat} {v : Value} {l : List ByteArray} (h : w.ownsRow base 9 1 v l.length (l.map Value.string)) : StrsAt w v l := strs_of_owns h

/-- Which of the wanted ones come. -/
def comes (L M : List It) (y : It) : Bool := !(inB (L.map textOf) (textOf y) && holdsB (stayI (L.map It.item) (M.map It.item)) y.item.text)

end Go.Proofs.YtdlhgbhaeedbdabGreat

/- 'untouched'. -/
namespace Go.Proofs.YtdlhgbhaeedbdabGreat
open Go.RowKit

theorem word_host2 {x : It} (hx : x.ok) (hk : x.kind = 3) : wrd (textOf x) 2 = ⟨x.b.toArray⟩ := by
  obtain ⟨ha, h⟩ := hx
  have hb : isName x.b := by rcases h with ⟨e, _⟩ | ⟨e, _⟩ | ⟨e, _⟩ | ⟨e, h1, _⟩ | ⟨e, _⟩ <;> first | exact h1 | omega
  have ht : x.text = [104, 111, 115, 116] ++ 32 :: (x.a ++ 32 :: (x.b ++ 59 :: [])) := by simp [It.text, It.body, hk]
  have h0 : noSep [104, 111, 115, 116] := by intro c hc; simp at hc; rcases hc with rfl | rfl | rfl | rfl <;> decide
  unfold wrd
  rw [rest_text, ht, wrdL_skip _ h0 _ (Or.inl rfl), wrdL_skip _ (name_sep ha) _ (Or.inl rfl), wrdL_hit _ (name_sep hb) _ (Or.inr rfl)]
  rfl

theorem host_names {x : It} (hx : x.ok) (hk : x.kind = 3) : isName x.a ∧ isName x.b := by
  obtain ⟨ha, h⟩ := hx
  rcases h with ⟨e, _⟩ | ⟨e, _⟩ | ⟨e, _⟩ | ⟨e, h1, _⟩ | ⟨e, _⟩ <;> first | exact ⟨ha, h1⟩ | omega

theorem all_false {α : Type} (l : List α) (p : α → Bool) (k : Nat) (h : (l.take k).all p = false) : l.all p = false := by
  rw [List.all_eq_false] at h ⊢
  obtain ⟨z, hz, hp⟩ := h
  exact ⟨z, List.mem_of_mem_take hz, hp⟩

set_option maxRecDepth 100000 in
set_option maxHeartbeats 1000000 in
theorem untouched_any (L M : List It) (hL : Arr L) (hM : Arr M) (g ac bc : Nat) (ba : Option Addr) (x : It) (hx : x ∈ L) (hk : x.kind = 3) (w : World) (hit : StrsIn w g 0 (L.map textOf)) (hb : StrsAt w (.slice ba M.length bc) (M.map textOf)) (hac : L.length ≤ ac) :
    Calls Tryz.prog 26 #[.slice (some ⟨g, 0, none⟩) L.length ac, .slice ba M.length bc, .string (textOf x)] w fun e w' => e = .returned (.bool (untB L M x)) ∧ Below w.heap.size w w' := by
  have hnot : ∀ (x : Bool) (w : World), (Op.unary .not (.bool x)).run Tryz.prog w = .ok (.bool (!x)) w := fun _ _ => rfl
  have hxok := hL.ok x hx
  have hst := stays_three L M hL.ok hL.few hM.few hL.refs g ac bc ba
  have hsz := textOf_size hxok
  have hw1 := fun wx => word_n (textOf x) 1 wx (by omega) (by omega)
  have hw2 := fun wx => word_n (textOf x) 2 wx (by omega) (by omega)
  rw [word_host hxok hk] at hw1
  rw [word_host2 hxok hk] at hw2
  obtain ⟨hna, hnb⟩ := host_names hxok hk
  have hAs : (⟨x.a.toArray⟩ : ByteArray).size ≤ 4 := by rw [mk_size]; exact hna.2.1
  have hBs : (⟨x.b.toArray⟩ : ByteArray).size ≤ 4 := by rw [mk_size]; exact hnb.2.1
  have z4 : (⟨#[109, 97, 112, 32]⟩ : ByteArray).size = 4 := rfl
  have z1 : (⟨#[32]⟩ : ByteArray).size = 1 := rfl
  have a1 := add_run ⟨#[109, 97, 112, 32]⟩ ⟨x.a.toArray⟩ (by omega)
  have a2 := add_run (⟨#[109, 97, 112, 32]⟩ ++ ⟨x.a.toArray⟩) ⟨#[32]⟩ (by rw [ByteArray.size_append]; omega)
  have a3 := add_run ((⟨#[109, 97, 112, 32]⟩ ++ ⟨x.a.toArray⟩) ++ ⟨#[32]⟩) ⟨x.b.toArray⟩ (by rw [ByteArray.size_append, ByteArray.size_append]; omega)
  have a4 := add_run (((⟨#[109, 97, 112, 32]⟩ ++ ⟨x.a.toArray⟩) ++ ⟨#[32]⟩) ++ ⟨x.b.toArray⟩) ⟨#[32]⟩ (by rw [ByteArray.size_append, ByteArray.size_append, ByteArray.size_append]; omega)
  have q1 : ((((⟨#[109, 97, 112, 32]⟩ ++ ⟨x.a.toArray⟩ : ByteArray) ++ ⟨#[32]⟩) ++ ⟨x.b.toArray⟩) ++ ⟨#[32]⟩ : ByteArray) = mapTxt x := cat5 [109, 97, 112, 32] x.a [32] x.b [32]
  have hts : (mapTxt x).size ≤ 100 := by rw [← q1]; simp only [ByteArray.size_append]; omega
  rw [q1] at a4
  have hbg := fun (y : It) (hy : y.ok) wx => begins_any (textOf y) (mapTxt x) wx (by have := textOf_size hy; omega) (by omega)
  have hin := fun (y : It) wx (h : StrsIn wx g 0 (L.map textOf)) => in_at (.slice (some ⟨g, 0, none⟩) L.length ac) (L.map textOf) (textOf y) wx (by rw [List.length_map]; have := hL.few; omega) (.inr ⟨g, ac, by rw [List.length_map], by rw [List.length_map]; exact hac, h⟩)
  obtain ⟨P1, hP1⟩ : ∃ P : It → Bool, P = fun y => !(begB (textOf y) (mapTxt x)) || stB L M 3 y := ⟨_, rfl⟩
  obtain ⟨P2, hP2⟩ : ∃ P : It → Bool, P = fun y => !(begB (textOf y) (mapTxt x)) || inB (L.map textOf) (textOf y) := ⟨_, rfl⟩
  have hun : untB L M x = (stB L M 3 x && L.all P1 && M.all P2) := by rw [hP1, hP2]; rfl
  have e1 : ∀ y, P1 y = (!(begB (textOf y) (mapTxt x)) || stB L M 3 y) := fun y => by rw [hP1]
  have e2 : ∀ y, P2 y = (!(begB (textOf y) (mapTxt x)) || inB (L.map textOf) (textOf y)) := fun y => by rw [hP2]
  rw [hun]
  have Hst := hide hst
  have W1 := hide hw1
  have W2 := hide hw2
  have Hbg := hide hbg
  have Hin := hide hin
  have E1 := hide e1
  have E2 := hide e2
  have Hit := hide hit
  have HbM := hide hb
  have hll := hL.few
  have hml := hM.few
  have Hs0 := hide (hst x hx w hit hb)
  clear hst hw1 hw2 hbg hin e1 e2 hit hun hP1 hP2 hna hnb hxok
  generalize mapTxt x = MT at *
  generalize hX : textOf x = X at *
  generalize (⟨x.a.toArray⟩ : ByteArray) = A at *
  generalize (⟨x.b.toArray⟩ : ByteArray) = B at *
  generalize (⟨#[109, 97, 112, 32]⟩ ++ A : ByteArray) = Q1 at *
  generalize (Q1 ++ ⟨#[32]⟩ : ByteArray) = Q2 at *
  generalize (Q2 ++ B : ByteArray) = Q3 at *
  clear q1
  cases hs : stB L M 3 x with
  | false =>
    rw [hs] at Hs0
    rw [Bool.false_and, Bool.false_and]
    clear hX hb hs
    go_enter Tryz.func26, Tryz.ntmps26
    go_wp2_with fail
    refine (unhide Hs0).mono ?_
    rintro e w1 ⟨rfl, hb1⟩
    go_wp2
    go_ret
    exact ⟨rfl, hb1⟩
  | true =>
    rw [hs] at Hs0
    rw [Bool.true_and]
    clear hX hb hs
    go_enter Tryz.func26, Tryz.ntmps26
    go_wp2_with fail
    refine (unhide Hs0).mono ?_
    rintro e w1 ⟨rfl, hb1⟩
    have hl1 := hb1.size
    go_wp2_with fail
    refine (unhide W1 _).mono ?_
    rintro e w2 ⟨rfl, he⟩
    replace he := he.symm
    subst he
    go_wp2_with fail
    refine (unhide W2 _).mono ?_
    rintro e w2 ⟨rfl, he⟩
    replace he := he.symm
    subst he
    go_wp2
    go_loopw [7, 9] (fun ok i wr => ∃ k : Nat, k ≤ L.length ∧ ok = .bool true ∧ i = .int .i64 k ∧ (L.take k).all P1 = true ∧ Below w.heap.size w wr) (fun _ i _ => L.length - (intOf i).toNat)
    case atStart => exact ⟨0, Nat.zero_le _, rfl, rfl, by simp, hb1⟩
    case round =>
      obtain ⟨k, hkk, rfl, rfl, hall, hbe⟩ := hrel
      have Hall := hide hall
      clear hall
      have hsz := hbe.size
      by_cases hlt : k < L.length
      · obtain ⟨y, hy⟩ : ∃ y, y = L[k] := ⟨_, rfl⟩
        have hyL : y ∈ L := by rw [hy]; exact List.getElem_mem hlt
        have hitr := (unhide Hit).later hbe
        have hcell := hitr.2 k (by rw [List.length_map]; exact hlt)
        rw [List.getElem_map, ← hy, Nat.zero_add] at hcell
        have hstep := all_take L P1 k hlt (unhide Hall)
        rw [← hy, unhide E1 y] at hstep
        have hlt' : (k : Int) < (L.length : Int) := by omega
        have HB := hide (unhide Hbg y (hL.ok y hyL) wr)
        have HS := hide (unhide Hst y hyL wr hitr ((unhide HbM).later hbe))
        clear hy hitr
        generalize textOf y = Y at *
        cases hb0 : begB Y MT with
        | false =>
          rw [hb0] at HB hstep
          simp only [Bool.not_false, Bool.true_or] at hstep
          have Hstep := hide hstep
          clear hstep hb0 HS
          go_wp2_with fail
          refine (unhide HB).mono ?_
          rintro e w2 ⟨rfl, he⟩
          replace he := he.symm
          subst he
          go_wp2
          go_roundw
          case rel => exact ⟨k + 1, by omega, rfl, by go_num, unhide Hstep, hbe⟩
          case measure => simp [intOf]; omega
        | true =>
          rw [hb0] at HB hstep
          simp only [Bool.not_true, Bool.false_or] at hstep
          cases hs3 : stB L M 3 y with
          | true =>
            rw [hs3] at HS hstep
            have Hstep := hide hstep
            clear hstep hb0 hs3
            go_wp2_with fail
            refine (unhide HB).mono ?_
            rintro e w2 ⟨rfl, he⟩
            replace he := he.symm
            subst he
            go_wp2_with fail
            refine (unhide HS).mono ?_
            rintro e w3 ⟨rfl, hb3⟩
            go_wp2
            go_roundw
            case rel => exact ⟨k + 1, by omega, rfl, by go_num, unhide Hstep, hbe.trans (hb3.mono hsz)⟩
            case measure => simp [intOf]; omega
          | false =>
            rw [hs3] at HS hstep
            have hfin := all_false L P1 _ hstep
            have hv : (L.all P1 && M.all P2) = false := by rw [hfin, Bool.false_and]
            have Hv := hide hv
            clear hstep hb0 hs3 hfin hv
            go_wp2_with fail
            refine (unhide HB).mono ?_
            rintro e w2 ⟨rfl, he⟩
            replace he := he.symm
            subst he
            go_wp2_with fail
            refine (unhide HS).mono ?_
            rintro e w3 ⟨rfl, hb3⟩
            go_wp2
            go_ret
            exact ⟨ret_bool (unhide Hv).symm, hbe.trans (hb3.mono hsz)⟩
      · have hfin := unhide Hall
        rw [List.take_of_length_le (by omega)] at hfin
        have Hf1 := hide hfin
        have hkl : k = L.length := by omega
        subst hkl
        clear hfin Hall hlt hkk
        have hnl : ¬ (L.length : Int) < (L.length : Int) := by omega
        go_wp2_with fail
        go_loopw [10] (fun i wr2 => ∃ j : Nat, j ≤ M.length ∧ i = .int .i64 j ∧ (M.take j).all P2 = true ∧ Below w.heap.size w wr2) (fun i _ => M.length - (intOf i).toNat)
        case atStart => exact ⟨0, Nat.zero_le _, rfl, by simp, hbe⟩
        case round =>
          obtain ⟨j, hjj, rfl, hall, hbe2⟩ := hrel
          have Hall := hide hall
          clear hall
          by_cases hlt : j < M.length
          · rcases unhide HbM with ⟨_, hnil⟩ | ⟨g2, cap2, hve, hcap2, hit2⟩
            · have : M.length = 0 := by rw [← List.length_map (f := textOf), hnil]; rfl
              omega
            simp only [Value.slice.injEq] at hve
            obtain ⟨rfl, -, rfl⟩ := hve
            obtain ⟨y, hy⟩ : ∃ y, y = M[j] := ⟨_, rfl⟩
            have hyM : y ∈ M := by rw [hy]; exact List.getElem_mem hlt
            have hcell := (hit2.later hbe2).2 j (by rw [List.length_map]; exact hlt)
            rw [List.getElem_map, ← hy, Nat.zero_add] at hcell
            have hstep := all_take M P2 j hlt (unhide Hall)
            rw [← hy, unhide E2 y] at hstep
            have hlt' : (j : Int) < (M.length : Int) := by omega
            have HB := hide (unhide Hbg y (hM.ok y hyM) wr)
            have HI := hide (unhide Hin y wr ((unhide Hit).later hbe2))
            clear hy hit2
            generalize textOf y = Y at *
            cases hb0 : begB Y MT with
            | false =>
              rw [hb0] at HB hstep
              simp only [Bool.not_false, Bool.true_or] at hstep
              have Hstep := hide hstep
              clear hstep hb0 HI
              go_wp2_with fail
              refine (unhide HB).mono ?_
              rintro e w2 ⟨rfl, he⟩
              replace he := he.symm
              subst he
              go_wp2
              go_roundw
              case rel => exact ⟨j + 1, by omega, by go_num, unhide Hstep, hbe2⟩
              case measure => simp [intOf]; omega
            | true =>
              rw [hb0] at HB hstep
              simp only [Bool.not_true, Bool.false_or] at hstep
              cases hs3 : inB (L.map textOf) Y with
              | true =>
                rw [hs3] at HI hstep
                have Hstep := hide hstep
                clear hstep hb0 hs3
                go_wp2_with fail
                refine (unhide HB).mono ?_
                rintro e w2 ⟨rfl, he⟩
                replace he := he.symm
                subst he
                go_wp2_with fail
                refine (unhide HI).mono ?_
                rintro e w3 ⟨rfl, he⟩
                replace he := he.symm
                subst he
                go_wp2
                go_roundw
                case rel => exact ⟨j + 1, by omega, by go_num, unhide Hstep, hbe2⟩
                case measure => simp [intOf]; omega
              | false =>
                rw [hs3] at HI hstep
                have hfin := all_false M P2 _ hstep
                have hv : (L.all P1 && M.all P2) = false := by rw [hfin, Bool.and_false]
                have Hv := hide hv
                clear hstep hb0 hs3 hfin hv
                go_wp2_with fail
                refine (unhide HB).mono ?_
                rintro e w2 ⟨rfl, he⟩
                replace he := he.symm
                subst he
                go_wp2_with fail
                refine (unhide HI).mono ?_
                rintro e w3 ⟨rfl, he⟩
                replace he := he.symm
                subst he
                go_wp2
                go_ret
                exact ⟨ret_bool (unhide Hv).symm, hbe2⟩
          · have hfin := unhide Hall
            rw [List.take_of_length_le (by omega)] at hfin
            have hv : (L.all P1 && M.all P2) = true := by rw [unhide Hf1, hfin, Bool.true_and]
            have Hv := hide hv
            clear hv
            have hjl : j = M.length := by omega
            subst hjl
            have hnl2 : ¬ (M.length : Int) < (M.length : Int) := by omega
            clear hfin Hall
            go_wp2
            go_ret
            exact ⟨ret_bool (unhide Hv).symm, hbe2⟩

end Go.Proofs.YtdlhgbhaeedbdabGreat

/- 'chosen'. -/
namespace Go.Proofs.YtdlhgbhaeedbdabGreat
open Go.RowKit

/-- A host that the plan does not touch. -/
def isChosen (L M : List It) (s : ByteArray) : Prop := ∃ x ∈ L, x.kind = 3 ∧ untB L M x = true ∧ s = textOf x

set_option maxRecDepth 100000 in
set_option maxHeartbeats 1000000 in
theorem chosen_any (L M : List It) (hL : Arr L) (hM : Arr M) (va vb : Value) (n : Int) (w : World) (hn : (Lit.int .i64 n).wf = true) (hva : StrsAt w va (L.map textOf)) (hvb : StrsAt w vb (M.map textOf)) :
    Calls Tryz.prog 9 #[va, vb, .int .i64 n] w fun e w' => (∃ s, e = .returned (.string s) ∧ (s = ⟨#[]⟩ ∨ isChosen L M s)) ∧ Below w.heap.size w w' := by
  have hnot : ∀ (x : Bool) (w : World), (Op.unary .not (.bool x)).run Tryz.prog w = .ok (.bool (!x)) w := fun _ _ => rfl
  obtain ⟨i0, hi, hz0, hz1, hz2⟩ := info_parts Tryz.infoString
  obtain ⟨aa, ac, rfl⟩ := slice_of_strs hva
  obtain ⟨ba, bc, rfl⟩ := slice_of_strs hvb
  rw [List.length_map] at hva hvb ⊢
  rw [List.length_map]
  have hll := hL.few
  have HA := hide hva
  have HB := hide hvb
  have Hpk := hide fun (m : Nat) (wx : World) (h0 : 0 < m) (h1 : m ≤ 1000) => pick_any n m wx hn h0 (by omega)
  clear hva hvb hn
  go_enter Tryz.func9, Tryz.ntmps9
  go_wp2
  go_loopw [7, 8] (fun v i wr => ∃ k : Nat, k ≤ L.length ∧ i = .int .i64 k ∧ ∃ ss : List ByteArray, ss.length ≤ k ∧ (∀ s ∈ ss, isChosen L M s) ∧ wr.ownsRow w.heap.size 9 1 v ss.length (strVals ss) ∧ Below w.heap.size w wr) (fun _ i _ => L.length - (intOf i).toNat)
  case atStart => exact ⟨0, Nat.zero_le _, rfl, [], Nat.le_refl _, by simp, World.ownsRow_nil _ _ _ _, Below.refl _ _⟩
  case round =>
    obtain ⟨k, hk, rfl, ss, hsk, hss, hown, hbe⟩ := hrel
    obtain ⟨ta, tc, rfl⟩ := slice_of_owns hown
    have hsz := hbe.size
    have Hss := hide hss
    clear hss
    by_cases hlt : k < L.length
    · have hlt' : (k : Int) < (L.length : Int) := by omega
      rcases unhide HA with ⟨_, hnil⟩ | ⟨g, cap, hve, hcap, hit⟩
      · have : L.length = 0 := by rw [← List.length_map (f := textOf), hnil]; rfl
        omega
      simp only [Value.slice.injEq] at hve
      obtain ⟨rfl, -, rfl⟩ := hve
      obtain ⟨y, hy⟩ : ∃ y, y = L[k] := ⟨_, rfl⟩
      have hyL : y ∈ L := by rw [hy]; exact List.getElem_mem hlt
      have hitr := hit.later hbe
      have hcell := hitr.2 k (by rw [List.length_map]; exact hlt)
      rw [List.getElem_map, ← hy, Nat.zero_add] at hcell
      have hys := textOf_size (hL.ok y hyL)
      have hr := rank_any (textOf y) wr (by omega)
      rw [rank_text (hL.ok y hyL)] at hr
      have Hr := hide hr
      rw [List.length_map] at hcap
      by_cases hk3 : y.kind = 3
      · have HU := hide (untouched_any L M hL hM g ac bc ba y hyL hk3 wr hitr ((unhide HB).later hbe) hcap)
        have hk3' : (((y.kind : Nat) : Int) == 3) = true := by rw [hk3]; rfl
        clear hy hr hit
        cases hu : untB L M y with
        | false =>
          rw [hu] at HU
          clear hu hk3 hitr
          generalize textOf y = Y at *
          go_wp2_with fail
          refine (unhide Hr).mono ?_
          rintro e w2 ⟨rfl, he⟩
          replace he := he.symm
          subst he
          go_wp2_with fail
          refine (unhide HU).mono ?_
          rintro e w3 ⟨rfl, hb3⟩
          have hown3 := owns_later hown hb3
          have hbe3 := hbe.trans (hb3.mono hsz)
          clear hown
          go_wp2
          go_roundw
          case rel => exact ⟨k + 1, by omega, by go_num, ss, by omega, unhide Hss, hown3, hbe3⟩
          case measure => simp [intOf]; omega
        | true =>
          rw [hu] at HU
          have hch : isChosen L M (textOf y) := ⟨y, hyL, hk3, hu, rfl⟩
          have Hch := hide hch
          have Hitr := hide hitr
          have hgl : g < wr.heap.size := hitr.1
          clear hu hk3 hitr hch
          generalize textOf y = Y at *
          go_wp2_with fail
          refine (unhide Hr).mono ?_
          rintro e w2 ⟨rfl, he⟩
          replace he := he.symm
          subst he
          go_wp2_with fail
          refine (unhide HU).mono ?_
          rintro e w3 ⟨rfl, hb3⟩
          have hown3 := owns_later hown hb3
          have hbe3 := hbe.trans (hb3.mono hsz)
          have hcell3 := (hb3.cell (p := ⟨g, k, none⟩) hgl).trans hcell
          have hsz3 := hbe3.size
          clear hown hcell
          go_wp2_with (at_builtin; refine wpList_append_own _ rfl _ _ 26 rfl w.heap.size 9 i0 (.string ⟨#[]⟩) 1 16 Tryz.underlying26 hi hz0 hz1 hz2 rfl (by decide) (.slice ta ss.length tc) ss.length (strVals ss) ?hs ?c0 ⟨w3.heap.size, 0, none⟩ 1 1 [.string Y] ?hx rfl ?c1 (one_str _) ?c3 ?c4 ?c5 ?_)
          case hs => rfl
          case c0 => exact hown3.alloc _
          case hx => rfl
          case c1 => exact cell_one_new _ _ _
          case c3 => unfold maxLen; omega
          case c4 => omega
          case c5 => simp; omega
          intro v' w4 hown' hgrow _
          have hbe4 := (hbe3.alloc hsz3 _).grown hgrow (by simp; omega) (fun k e => (hown3.lt k e).1)
          clear hgrow
          go_wp2
          go_roundw
          case rel =>
            refine ⟨k + 1, by omega, by go_num, ss ++ [Y], by simp; omega, ?_, ?_, hbe4⟩
            · intro s hs
              rcases List.mem_append.1 hs with h | h
              · exact unhide Hss s h
              · rw [List.mem_singleton.1 h]; exact unhide Hch
            · simp only [List.length_append, strVals, List.map_append]
              exact hown'
          case measure => simp [intOf]; omega
      · have hk3' : (((y.kind : Nat) : Int) == 3) = false := by rw [beq_eq_false_iff_ne]; omega
        clear hy hr hit hitr
        generalize textOf y = Y at *
        go_wp2_with fail
        refine (unhide Hr).mono ?_
        rintro e w2 ⟨rfl, he⟩
        replace he := he.symm
        subst he
        go_wp2
        go_roundw
        case rel => exact ⟨k + 1, by omega, by go_num, ss, by omega, unhide Hss, hown, hbe⟩
        case measure => simp [intOf]; omega
    · have hnl : ¬ (k : Int) < (L.length : Int) := by omega
      by_cases h0 : ss.length = 0
      · rw [h0]
        clear hown
        go_wp2
        go_ret
        exact ⟨⟨_, rfl, .inl rfl⟩, hbe⟩
      · have h0' : ((ss.length : Int) == 0) = false := by rw [beq_eq_false_iff_ne]; omega
        have HP := hide (unhide Hpk ss.length wr (by omega) (by omega))
        rcases strs_of_owns hown with ⟨_, hnil⟩ | ⟨g, cap, hve, hcap, hit⟩
        · rw [hnil] at h0; simp at h0
        simp only [Value.slice.injEq] at hve
        obtain ⟨rfl, -, rfl⟩ := hve
        have Hit := hide hit
        clear hown hit
        go_wp2_with fail
        refine (unhide HP).mono ?_
        rintro e w2 ⟨⟨j, hj, rfl⟩, he⟩
        replace he := he.symm
        subst he
        have hcell := (unhide Hit).2 j hj
        rw [Nat.zero_add] at hcell
        have hj' : (j : Int) < (ss.length : Int) := by omega
        have Hc := hide (unhide Hss _ (List.getElem_mem hj))
        generalize ss[j] = Y at *
        go_wp2
        go_ret
        exact ⟨⟨_, rfl, .inr (unhide Hc)⟩, hbe⟩

end Go.Proofs.YtdlhgbhaeedbdabGreat

/- 'Calm', walked. -/
namespace Go.Proofs.YtdlhgbhaeedbdabGreat
open Go.RowKit

set_option maxRecDepth 100000 in
set_option maxHeartbeats 400000 in
theorem calm_not (s t : ByteArray) (n : Int) (a0 : Option Addr) (len cap : Nat) (w : World) (hs : s.size ≤ maxLen) (ht : t.size ≤ maxLen) (h : plErr s t ≠ 0) :
    Calls Tryz.prog 4 #[.string s, .string t, .int .i64 n, .slice a0 len cap] w fun e w' => e = .returned (.bool true) ∧ Below w.heap.size w w' := by
  have hnot : ∀ (x : Bool) (w : World), (Op.unary .not (.bool x)).run Tryz.prog w = .ok (.bool (!x)) w := fun _ _ => rfl
  have hpl := planned_any s t w hs ht
  unfold bothB at hpl
  rw [show decide (plErr s t = 0) = false from decide_eq_false h] at hpl
  have Hpl := hide hpl
  clear hpl h
  go_enter Tryz.func4, Tryz.ntmps4
  go_wp2_with fail
  refine (unhide Hpl).mono ?_
  rintro e w1 ⟨v, rfl, hown, hb1⟩
  clear hown
  go_wp2
  go_ret
  exact ⟨rfl, hb1⟩

/-- What the chosen host is. -/
theorem chosen_is {L M : List It} (hL : Arr L) (hM : Arr M) {h : ByteArray} (hc : isChosen L M h) : ∃ tn hn S, wrd h 1 = tn ∧ wrd h 2 = hn ∧ Quiet (L.map It.item) (M.map It.item) S tn hn ∧ h.size ≤ 100 ∧ (h.toList == []) = false := by
  obtain ⟨x, hx, hk, hu, rfl⟩ := hc
  have hok := hL.ok x hx
  refine ⟨_, _, _, word_host hok hk, word_host2 hok hk, quiet_of hL hM hL.ok hM.ok hx hk hu, textOf_size hok, ?_⟩
  rw [beq_eq_false_iff_ne]
  intro e
  have h1 : (textOf x).toList = x.text := by rw [ByteArray.toList_eq]; rfl
  rw [h1] at e
  simp [It.text, It.body, hk] at e

set_option maxRecDepth 100000 in
set_option maxHeartbeats 8000000 in
theorem calm_ok (s t : ByteArray) (n : Int) (a0 : Option Addr) (len cap : Nat) (f : Nat → Iox) (w : World) (hs : s.size ≤ maxLen) (ht : t.size ≤ maxLen) (hn : (Lit.int .i64 n).wf = true) (hlen : len ≤ 4398046511000) (ha : len = 0 ∨ ∃ g o, a0 = some ⟨g, o, none⟩ ∧ g < w.heap.size ∧ ∀ i, i < len → IoAt w g (o + i * 6) (f i)) (h : plErr s t = 0) :
    Calls Tryz.prog 4 #[.string s, .string t, .int .i64 n, .slice a0 len cap] w fun e w' => e = .returned (.bool true) ∧ Below w.heap.size w w' := by
  have hnot : ∀ (x : Bool) (w : World), (Op.unary .not (.bool x)).run Tryz.prog w = .ok (.bool (!x)) w := fun _ _ => rfl
  have hpl := planned_any s t w hs ht
  unfold bothB at hpl
  rw [show decide (plErr s t = 0) = true from decide_eq_true h] at hpl
  obtain ⟨h1, h2⟩ := plErr_zero h
  obtain ⟨L, hL, hLs, hLi⟩ := arr_of_chk (chkZero h1)
  obtain ⟨M, hM, hMt, hMi⟩ := arr_of_chk (chkZero h2)
  have hp1 := fun wx => pieces_any s wx (by have := chk_size h1; omega)
  have hp2 := fun wx => pieces_any t wx (by have := chk_size h2; omega)
  rw [hLs, pcs_txt L hL.ok, ← hLs] at hp1
  rw [hMt, pcs_txt M hM.ok, ← hMt] at hp2
  have Hpl := hide hpl
  have Hp1 := hide hp1
  have Hp2 := hide hp2
  have Hmade := hide fun wx => made_any s wx hs h1
  have Hch := hide fun (va vb : Value) (wx : World) (hva : StrsAt wx va (L.map textOf)) (hvb : StrsAt wx vb (M.map textOf)) => chosen_any L M hL hM va vb n wx hn hva hvb
  have Hw1 := hide fun (p : ByteArray) (wx : World) (hp : p.size ≤ 1000) => word_n p 1 wx (by omega) (by omega)
  have Hw2 := hide fun (p : ByteArray) (wx : World) (hp : p.size ≤ 1000) => word_n p 2 wx (by omega) (by omega)
  have Ha := hide ha
  have HL := hide hL
  have HM := hide hM
  have HLi := hide hLi
  have HMi := hide hMi
  have HC1 := hide h1
  have HC2 := hide h2
  have hLl := hL.few
  have hMl := hM.few
  clear hpl hp1 hp2 ha hn hL hM hLi hMi hLs hMt h1 h2 h
  go_enter Tryz.func4, Tryz.ntmps4
  go_wp2_with fail
  refine (unhide Hpl).mono ?_
  rintro e w1 ⟨v, rfl, hown, hb1⟩
  have hl1 := hb1.size
  obtain ⟨va, vc, rfl⟩ := slice_of_owns hown
  clear hown Hpl
  go_wp2_with fail
  refine (unhide Hmade _).mono ?_
  rintro e w2 ⟨x, bx, rx, G, rfl, hbx, hb2, hI⟩
  have hl2 := hb2.size
  have hxl := hI.site.lt
  have HI := hide hI
  clear hI
  go_wp2_with fail
  refine (unhide Hmade _).mono ?_
  rintro e w3 ⟨y, bY, ry, G', rfl, hbY, hb3, hIy⟩
  have hl3 := hb3.size
  have hyb := hIy.site.bx
  have hyl := hIy.site.lt
  have HIy := hide hIy
  clear hIy Hmade
  go_wp2_with fail
  refine (unhide Hp1 _).mono ?_
  rintro e w4 ⟨v1, rfl, ho1, hb4⟩
  have hl4 := hb4.size
  obtain ⟨a1, k1, rfl⟩ := slice_of_owns ho1
  go_wp2_with fail
  refine (unhide Hp2 _).mono ?_
  rintro e w5 ⟨v2, rfl, ho2, hb5⟩
  have hl5 := hb5.size
  obtain ⟨a2, k2, rfl⟩ := slice_of_owns ho2
  have HCh := hide (unhide Hch _ _ w5 ((strs_owned ho1).later hb5) (strs_owned ho2))
  simp only [List.length_map] at HCh
  clear Hp1 Hp2 Hch ho1 ho2
  go_wp2_with fail
  refine (unhide HCh).mono ?_
  rintro e w6 ⟨⟨ho, rfl, hch⟩, hb6⟩
  have hl6 := hb6.size
  have hb36 : Below w3.heap.size w3 w6 := (hb4.trans (hb5.mono hl4)).trans (hb6.mono (by omega))
  have hwx : w.heap.size ≤ bx := by omega
  have hwY : w.heap.size ≤ bY := by omega
  have hb06 : Below w.heap.size w w6 := ((hb1.trans (hb2.mono hl1)).trans (hb3.mono (by omega))).trans (hb36.mono (by omega))
  clear HCh
  rcases hch with rfl | hch
  · go_wp2
    go_ret
    exact ⟨rfl, hb06⟩
  · obtain ⟨tn, hn, S, e1, e2, hq, hosz, hne⟩ := chosen_is (unhide HL) (unhide HM) hch
    have hne' : (ho.toList == []) = false := hne
    have hqs : Quiet (itemsOf s) (itemsOf t) S tn hn := by rw [unhide HLi, unhide HMi]; exact hq
    have HQ := hide hqs
    have W1 := hide fun wx => unhide Hw1 ho wx (by omega)
    have W2 := hide fun wx => unhide Hw2 ho wx (by omega)
    rw [e1] at W1
    rw [e2] at W2
    have HW := hide (fun (m : Int) (wx : World) (hm : m = 1 ∨ m = 2) => (show Calls Tryz.prog 12 #[.string ho, .int .i64 m] wx fun e w' => e = .returned (.string (if m = 1 then tn else hn)) ∧ w' = wx from by
      rcases hm with rfl | rfl
      · rw [if_pos rfl]; exact unhide W1 wx
      · rw [if_neg (by decide)]; exact unhide W2 wx))
    clear W1 W2
    have hcan := (prt_canon (unhide HC1)).2
    have hhost : ∀ l, l.Perm (itemsOf (prt s)) → l.length ≤ 24 ∧ hostB l tn hn = true := fun l hl => by
      have hm := Mid.first hqs.stay (hl.trans hcan)
      exact ⟨hm.arr.fits.1, hqs.hostIn hm⟩
    have HPair := hide fun (wx : World) (hb : Below w6.heap.size w6 wx) => pair_of (unhide HI) hb3 (unhide HIy) hbY (hb36.trans (hb.mono (by omega)))
    have hcx := (unhide HPair w6 (Below.refl _ _)).cell
    have HLx := hide fun (wx : World) (hb : Below w6.heap.size w6 wx) => pair_login (unhide HPair wx hb) hhost
    have HLy := hide fun (wx : World) (h : Pair1 wx x bx rx y bY ry (prt s) tn hn) => pair1_login (E := prt t) (t := itemsOf t) (by omega) h (prt_canon (unhide HC1)).1.arr hhost
    clear hch hq hqs hhost HI HIy Hw1 Hw2 e1 e2 hne
    go_wp2_with fail
    go_cut [15, 16] from 24 (fun sv ev wx => sv = .int .i64 0 ∧ ev = .int .i64 0 ∧ Pair1 wx x bx rx y bY ry (prt s) tn hn ∧ Below w.heap.size w wx)
    case first =>
      go_region_held3 (fun w' => w'.cell? ⟨x, 1, none⟩ = some (.pointer (some ⟨rx, 0, none⟩))) (go_keep) (first
        | (go_at_call 12; refine (unhide HW _ _ (by first | exact .inl rfl | exact .inr rfl)).mono ?_; rintro e wz ⟨rfl, hez⟩; replace hez := hez.symm; subst hez)
        | (go_at_call 11; refine (unhide HLx _ (by first | exact (Below.refl _ _).drew | exact Below.refl _ _ | exact below_drewN (Below.refl _ _) _)).mono ?_; rintro e w7 ⟨rfl, hbe7, hP7⟩; have p1 := hP7.cellx))
      all_goals
        go_wp2_with fail
        go_meet
        exact ⟨rfl, rfl, hP7, hb06.trans (Below.trans (by first | exact (Below.refl _ _).drew | exact Below.refl _ _ | exact below_drewN (Below.refl _ _) _) (hbe7.mono hwx))⟩
    case rest =>
      obtain ⟨rfl, rfl, hP7, hb07⟩ := hcut
      obtain ⟨w7, hw7⟩ : ∃ w7, w7 = wc := ⟨_, rfl⟩
      subst hw7
      have hcy := hP7.cell
      have HLy7 := hide fun (wx : World) (hb : Below w7.heap.size w7 wx) => unhide HLy wx (hP7.later hb)
      clear HLx HPair hcx HLy hP7
      go_wp2_with fail
      go_cut [17, 18] from 24 (fun sv ev wx => sv = .int .i64 0 ∧ ev = .int .i64 0 ∧ Fixed x bx rx y bY ry (prt s) (prt t) tn hn (itemsOf t) wx ∧ Below w.heap.size w wx)
      case first =>
        go_region_held3 (fun w' => w'.cell? ⟨y, 1, none⟩ = some (.pointer (some ⟨ry, 0, none⟩))) (go_keep) (first
          | (go_at_call 12; refine (unhide HW _ _ (by first | exact .inl rfl | exact .inr rfl)).mono ?_; rintro e wz ⟨rfl, hez⟩; replace hez := hez.symm; subst hez)
          | (go_at_call 11; refine (unhide HLy7 _ (by first | exact (Below.refl _ _).drew | exact Below.refl _ _ | exact below_drewN (Below.refl _ _) _)).mono ?_; rintro e w8 ⟨rfl, hbe8, hF8⟩; have p1 := hF8.celly))
        all_goals
          go_wp2_with fail
          go_meet
          exact ⟨rfl, rfl, hF8, hb07.trans (Below.trans (by first | exact (Below.refl _ _).drew | exact Below.refl _ _ | exact below_drewN (Below.refl _ _) _) (hbe8.mono hwY))⟩
      case rest =>
        obtain ⟨rfl, rfl, ⟨c, rfl, rfl, rfl, rfl, rfl, eT, eE, et, rfl, rfl, hly, ⟨G0, t0, hB⟩, hcyf⟩, hb08⟩ := hcut
        obtain ⟨w8, hw8⟩ : ∃ w8, w8 = wc := ⟨_, rfl⟩
        subst hw8
        rw [← eT] at hly
        have hok := cx_ok c (unhide HC1) (unhide HC2) eT eE et hly (unhide HQ)
        have HS := hide (duo_start c ht (unhide HC1) (unhide HC2) eT eE et hly (unhide HQ) w8 hB)
        clear HLy7 HW HQ HL HM HLi HMi HC1 HC2 eT eE et hly hB hcy hne'
        go_wp2_with fail
        refine (unhide HS).mono ?_
        rintro e w9 ⟨rfl, hD9, hb9⟩
        have hb09 : Below w.heap.size w w9 := hb08.trans (hb9.mono hwx)
        clear HS
        go_wp2_with fail
        go_loopw [19] (fun i wr => ∃ k : Nat, k ≤ len ∧ i = .int .i64 k ∧ Duo c wr ∧ Below w.heap.size w wr) (fun i _ => len - (intOf i).toNat)
        case atStart => exact ⟨0, Nat.zero_le _, rfl, hD9, hb09⟩
        case round =>
          obtain ⟨k, hk, rfl, hD, hbe⟩ := hrel
          clear hD9 hb09 hb08 hb07 hb06 hb36 hb9
          by_cases hlt : k < len
          · have hlt' : (k : Int) < (len : Int) := by omega
            obtain ⟨g, o, rfl, hg, hio⟩ : ∃ g o, a0 = some ⟨g, o, none⟩ ∧ g < w.heap.size ∧ ∀ i, i < len → IoAt w g (o + i * 6) (f i) := by
              rcases unhide Ha with h | h
              · omega
              · exact h
            obtain ⟨q, hq⟩ : ∃ q, q = f k := ⟨_, rfl⟩
            have HIO := hide fun (wx : World) (hb : Below w.heap.size w wx) => hq ▸ (hio k hlt).below hb hg
            have hix : IoAt wr g (o + k * 6) q := unhide HIO wr hbe
            obtain ⟨c0, c1, c2, c3, c4, c5⟩ := hix
            have HMv := hide (moved_any c q.S wr hD)
            clear hio hq Ha hD
            go_wp2_with fail
            refine (unhide HMv).mono ?_
            rintro e w2 ⟨rfl, hD2, hbm⟩
            have hbe2 : Below w.heap.size w w2 := hbe.trans (hbm.mono hwx)
            have hsw := hbe2.size
            have hix2 : IoAt w2 g (o + k * 6) q := unhide HIO w2 hbe2
            clear c0 c1 c2 c3 c4 c5 HMv hbm hbe
            obtain ⟨c0, c1, c2, c3, c4, c5⟩ := hix2
            obtain ⟨m2, _, s1, hbxl⟩ := hD2.left
            have hxl2 : c.x < w2.heap.size := hD2.lt
            have hne1 : ¬ c.x = w2.heap.size := by omega
            have hne2 : ¬ w2.heap.size = c.x := by omega
            have hne3 : ¬ g = w2.heap.size := by omega
            have hne4 : ¬ w2.heap.size = g := by omega
            have HC := hide fun (wx : World) (hb : Below w2.heap.size w2 wx) => duo_callx c hok q wx (hD2.later hb)
            clear hD2
            go_wp2_with fail
            go_cut [21] from 101 to 150 (fun p wx => ∃ N, p = .pointer (some ⟨N, 0, none⟩) ∧ ToldX c q w wx N)
            case first =>
              go_region_held3 (fun w' => w'.cell? ⟨c.x, 1, none⟩ = some (.pointer (some ⟨c.rx, 0, none⟩)) ∧ w'.cell? ⟨g, o + k * 6, none⟩ = some (.int .i64 q.K) ∧ w'.cell? ⟨g, o + k * 6 + 1, none⟩ = some (.int .i64 q.N) ∧ w'.cell? ⟨g, o + k * 6 + 2, none⟩ = some (.int .i64 q.B) ∧ w'.cell? ⟨g, o + k * 6 + 3, none⟩ = some (.int .i64 q.V) ∧ w'.cell? ⟨g, o + k * 6 + 4, none⟩ = some (.int .i64 q.S) ∧ w'.cell? ⟨g, o + k * 6 + 5, none⟩ = some (.int .i64 q.W)) (go_keep)
                (first
                  | (go_at_call 15; refine (unhide HC _ ((Below.refl w2.heap.size w2).drew.alloc (Nat.le_refl _) _)).mono ?_; rintro e w3 ⟨u, T, rfl, hu, hl, e12, e13, hbe3, htk3, hX⟩; obtain ⟨ua, uc, rfl⟩ := nums_slice hu; have hblk := (htk3.block w2.heap.size _ _ _ (heap_alloc_new w2.drew (.cells zTd 47)) (by unfold KD; decide)).trans (heap_alloc_new w2.drew (.cells zTd 47)); obtain ⟨t0, t1, t2, tf⟩ := td_cells hblk; have hbI : Below w.heap.size w2 w3 := (((Below.refl w2.heap.size w2).drew.alloc (Nat.le_refl _) _).mono hsw).trans (hbe3.mono hwx); have p1 := hX.cells; have q0 := (hbI.cell (p := ⟨g, o + k * 6, none⟩) hg).trans c0; have q1 := (hbI.cell (p := ⟨g, o + k * 6 + 1, none⟩) hg).trans c1; have q2 := (hbI.cell (p := ⟨g, o + k * 6 + 2, none⟩) hg).trans c2; have q3 := (hbI.cell (p := ⟨g, o + k * 6 + 3, none⟩) hg).trans c3; have q4 := (hbI.cell (p := ⟨g, o + k * 6 + 4, none⟩) hg).trans c4; have q5 := (hbI.cell (p := ⟨g, o + k * 6 + 5, none⟩) hg).trans c5)
                  | (go_at_call 15; refine (unhide HC _ (Below.refl w2.heap.size w2).drew).mono ?_; rintro e w3 ⟨u, T, rfl, hu, hl, e12, e13, hbe3, htk3, hX⟩; obtain ⟨ua, uc, rfl⟩ := nums_slice hu; have hbI : Below w.heap.size w2 w3 := ((Below.refl w2.heap.size w2).drew.mono hsw).trans (hbe3.mono hwx); have p1 := hX.cells; have q0 := (hbI.cell (p := ⟨g, o + k * 6, none⟩) hg).trans c0; have q1 := (hbI.cell (p := ⟨g, o + k * 6 + 1, none⟩) hg).trans c1; have q2 := (hbI.cell (p := ⟨g, o + k * 6 + 2, none⟩) hg).trans c2; have q3 := (hbI.cell (p := ⟨g, o + k * 6 + 3, none⟩) hg).trans c3; have q4 := (hbI.cell (p := ⟨g, o + k * 6 + 4, none⟩) hg).trans c4; have q5 := (hbI.cell (p := ⟨g, o + k * 6 + 5, none⟩) hg).trans c5))
              all_goals
                go_wp2_with fail
                go_meet
                first
                  | exact ⟨_, rfl, toldx_set hu hl e12 e13 hX (hbe2.trans hbI) hsw (by simp) hblk⟩
                  | exact ⟨_, rfl, toldx_alloc hu hl e12 e13 hX (hbe2.trans hbI)⟩
            case rest =>
              obtain ⟨N, rfl, T, s0, ua, uc, fr, hkN, hu1, hTl, e12, e13, hX, hb3⟩ := hcut
              obtain ⟨w3, hw3⟩ : ∃ w3, w3 = wc := ⟨_, rfl⟩
              subst hw3
              clear HC c0 c1 c2 c3 c4 c5 hne1 hne2 hne3 hne4 s1 hbxl hxl2 hbe2
              have hsw3 := hb3.size
              have hix3 : IoAt w3 g (o + k * 6) q := unhide HIO w3 hb3
              obtain ⟨c0, c1, c2, c3, c4, c5⟩ := hix3
              have s1 := hcyf w3 hX.site
              have hyl3 : y < w3.heap.size := cell_lt s1
              have hne1 : ¬ y = w3.heap.size := by omega
              have hne2 : ¬ w3.heap.size = y := by omega
              have hne3 : ¬ g = w3.heap.size := by omega
              have hne4 : ¬ w3.heap.size = g := by omega
              have HC := hide fun (wx : World) (hb : Below w3.heap.size w3 wx) => duo_cally c hok q T s0 wx (hX.later hb)
              have Hk := hide (⟨hkN, hu1⟩ : _ ∧ _)
              clear hX hkN hu1
              go_wp2_with fail
              go_cut [22] from 101 to 150 (fun p wx => ∃ N2, p = .pointer (some ⟨N2, 0, none⟩) ∧ ToldY c w wx T ua uc N N2)
              case first =>
                go_region_held3 (fun w' => w'.cell? ⟨y, 1, none⟩ = some (.pointer (some ⟨c.ry, 0, none⟩)) ∧ w'.cell? ⟨g, o + k * 6, none⟩ = some (.int .i64 q.K) ∧ w'.cell? ⟨g, o + k * 6 + 1, none⟩ = some (.int .i64 q.N) ∧ w'.cell? ⟨g, o + k * 6 + 2, none⟩ = some (.int .i64 q.B) ∧ w'.cell? ⟨g, o + k * 6 + 3, none⟩ = some (.int .i64 q.V) ∧ w'.cell? ⟨g, o + k * 6 + 4, none⟩ = some (.int .i64 q.S) ∧ w'.cell? ⟨g, o + k * 6 + 5, none⟩ = some (.int .i64 q.W)) (go_keep)
                  (first
                    | (go_at_call 15; refine (unhide HC _ ((Below.refl w3.heap.size w3).drew.alloc (Nat.le_refl _) _)).mono ?_; rintro e w4 ⟨u, rfl, hu, hbe4, htk4, hD4, hst4⟩; obtain ⟨ub, ud, rfl⟩ := nums_slice hu; have hba := (Below.refl w3.heap.size w3).drew.alloc (Nat.le_refl _) (.cells zTd 47); have hblk := (htk4.block w3.heap.size _ _ _ (heap_alloc_new w3.drew (.cells zTd 47)) (by unfold KD; decide)).trans (heap_alloc_new w3.drew (.cells zTd 47)); obtain ⟨t0, t1, t2, tf⟩ := td_cells hblk; have hbI : Below w.heap.size w3 w4 := (hba.mono hsw3).trans (hbe4.mono hwY); have p1 := hcyf w4 hD4.site; have q0 := (hbI.cell (p := ⟨g, o + k * 6, none⟩) hg).trans c0; have q1 := (hbI.cell (p := ⟨g, o + k * 6 + 1, none⟩) hg).trans c1; have q2 := (hbI.cell (p := ⟨g, o + k * 6 + 2, none⟩) hg).trans c2; have q3 := (hbI.cell (p := ⟨g, o + k * 6 + 3, none⟩) hg).trans c3; have q4 := (hbI.cell (p := ⟨g, o + k * 6 + 4, none⟩) hg).trans c4; have q5 := (hbI.cell (p := ⟨g, o + k * 6 + 5, none⟩) hg).trans c5)
                    | (go_at_call 15; refine (unhide HC _ (Below.refl w3.heap.size w3).drew).mono ?_; rintro e w4 ⟨u, rfl, hu, hbe4, htk4, hD4, hst4⟩; obtain ⟨ub, ud, rfl⟩ := nums_slice hu; have hba := (Below.refl w3.heap.size w3).drew; have hbI : Below w.heap.size w3 w4 := (hba.mono hsw3).trans (hbe4.mono hwY); have p1 := hcyf w4 hD4.site; have q0 := (hbI.cell (p := ⟨g, o + k * 6, none⟩) hg).trans c0; have q1 := (hbI.cell (p := ⟨g, o + k * 6 + 1, none⟩) hg).trans c1; have q2 := (hbI.cell (p := ⟨g, o + k * 6 + 2, none⟩) hg).trans c2; have q3 := (hbI.cell (p := ⟨g, o + k * 6 + 3, none⟩) hg).trans c3; have q4 := (hbI.cell (p := ⟨g, o + k * 6 + 4, none⟩) hg).trans c4; have q5 := (hbI.cell (p := ⟨g, o + k * 6 + 5, none⟩) hg).trans c5))
                all_goals
                  go_wp2_with fail
                  go_meet
                  first
                    | exact ⟨_, rfl, toldy_set (unhide Hk).1 (unhide Hk).2 hba htk4 hst4 hu hD4 (hb3.trans hbI) hsw3 (by simp) hblk⟩
                    | exact ⟨_, rfl, toldy_alloc (unhide Hk).1 (unhide Hk).2 hba htk4 hst4 hu hD4 (hb3.trans hbI)⟩
              case rest =>
                obtain ⟨N2, rfl, ub, ud, b1, b2, fr1, fr2, hk1, hk2, hn1, hn2, hD5, hb5⟩ := hcut
                obtain ⟨w5, hw5⟩ : ∃ w5, w5 = wc := ⟨_, rfl⟩
                subst hw5
                clear HC Hk c0 c1 c2 c3 c4 c5 hne1 hne2 hne3 hne4 s1 hb3
                obtain ⟨f0, f1, f2⟩ := tdc hk1
                obtain ⟨g0, g1, g2⟩ := tdc hk2
                have hNl : N < w5.heap.size := (Array.getElem?_eq_some_iff.1 hk1).1
                have HSm := hide (same_law T.n T.e (.slice ua T.l.length uc) (.slice ub T.l.length ud) T.l b1 b2 w5 (by omega) hn1 hn2)
                have h12 : (T.e == 12) = false := by rw [beq_eq_false_iff_ne]; exact e12
                have h13 : (T.e == 13) = false := by rw [beq_eq_false_iff_ne]; exact e13
                clear hk1 hk2 hn1 hn2
                go_wp2_with fail
                refine (unhide HSm).mono ?_
                rintro e w6 ⟨rfl, hb6⟩
                have v2 := (hb6.cell (p := ⟨N, 2, none⟩) hNl).trans f2
                have hD6 := hD5.later hb6
                have hbf : Below w.heap.size w w6 := hb5.trans (hb6.mono hb5.size)
                clear HSm f0 f1 f2 g0 g1 g2 hD5
                go_wp2_with fail
                go_roundw
                case rel => exact ⟨k + 1, by omega, by go_num, hD6, hbf⟩
                case measure => simp [intOf]; omega
          · have hnl : ¬ (k : Int) < (len : Int) := by omega
            clear hD Ha
            go_wp2_with fail
            go_ret
            exact ⟨rfl, hbe⟩

end Go.Proofs.YtdlhgbhaeedbdabGreat
