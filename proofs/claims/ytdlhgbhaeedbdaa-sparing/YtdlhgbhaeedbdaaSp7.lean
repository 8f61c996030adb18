/- 'Sparing'. -/
import Derived.Test.YtdlhgbhaeedbdaaSpB
import Derived.Test.YtdlhgbhaeedbdaaKp2
namespace Go.Proofs.Ytdlhgbhaeedbdaa
open Go.RowKit

theorem stays_three (L M : List It) (hL : ∀ y ∈ L, y.ok) (hl : L.length ≤ 24) (hm : M.length ≤ 24) (hR : Refs (L.map It.item)) (g ac bc : Nat) (ba : Option Addr) :
    ∀ x ∈ L, ∀ w, StrsIn w g 0 (L.map textOf) → StrsAt w (.slice ba M.length bc) (M.map textOf) → Calls Try.prog 33 #[.slice (some ⟨g, 0, none⟩) L.length ac, .slice ba M.length bc, .string (textOf x), .int .i64 3] w fun e w' => e = .returned (.bool (stB L M 3 x)) ∧ Below w.heap.size w w' := by
  have h0 : ∀ y ∈ L, ∀ wx, StrsIn wx g 0 (L.map textOf) → StrsAt wx (.slice ba M.length bc) (M.map textOf) → Calls Try.prog 33 #[.slice (some ⟨g, 0, none⟩) L.length ac, .slice ba M.length bc, .string (textOf y), .int .i64 (1 - 1)] wx fun e w' => e = .returned (.bool (stB L M 0 y)) ∧ Below wx.heap.size wx w' :=
    fun y _ wx _ hb => stays_zero L M _ _ ac bc (some ⟨g, 0, none⟩) ba y wx hm rfl rfl hb
  have h1 := fun y hy wx h2 h3 => stays_step L M hL hl hm hR g ac bc _ ba rfl 0 1 (by omega) (by omega) h0 y hy wx h2 h3
  have h2 := fun y hy wx h3 h4 => stays_step L M hL hl hm hR g ac bc _ ba rfl 1 2 (by omega) (by omega) h1 y hy wx h3 h4
  exact fun y hy wx h3 h4 => stays_step L M hL hl hm hR g ac bc _ ba rfl 2 3 (by omega) (by omega) h2 y hy wx h3 h4

set_option maxRecDepth 100000 in
set_option maxHeartbeats 400000 in
theorem times_at (v : Value) (l : List ByteArray) (s : ByteArray) (w : World) (hl : l.length ≤ 1000000) (hv : StrsAt w v l) :
    Calls Try.prog 34 #[v, .string s] w fun e w' => e = .returned (.int .i64 (cnt l s : Nat)) ∧ w' = w := by
  rcases hv with ⟨rfl, rfl⟩ | ⟨g, cap, rfl, _, hit⟩
  · go_enter Try.func34, Try.ntmps34
    go_wp2
    refine wp_loop_rounds 1 ?_
    rw [rounds_succ]
    go_wp2
    go_ret
    exact ⟨rfl, rfl⟩
  · exact times_in g 0 cap l s w hl hit rfl

set_option maxRecDepth 100000 in
set_option maxHeartbeats 400000 in
theorem turns_at (v : Value) (S : List (Bool × Item)) (hS : ∀ p ∈ S, Good p.2) (ht : S.Pairwise turnR) (hl : S.length ≤ 48) (w : World) (hv : StrsAt w v (stTxts S)) :
    Calls Try.prog 35 #[v] w fun e w' => e = .returned (.bool true) ∧ Below w.heap.size w w' := by
  rcases hv with ⟨rfl, _⟩ | ⟨g, cap, rfl, _, hit⟩
  · go_enter Try.func35, Try.ntmps35
    go_wp2
    refine wp_loop_rounds 1 ?_
    rw [rounds_succ]
    go_wp2
    go_ret
    exact ⟨rfl, Below.refl _ _⟩
  · have h := turns_in g cap S hS ht hl w hit
    rw [show (stTxts S).length = S.length from by simp [stTxts]]
    refine h.mono ?_
    rintro e w' ⟨rfl, n, rfl⟩
    exact ⟨rfl, below_drewN (Below.refl _ _) n⟩

theorem countP_take {α : Type} (l : List α) (p : α → Bool) (k : Nat) (h : k < l.length) : (l.take (k + 1)).countP p = (l.take k).countP p + if p l[k] then 1 else 0 := by
  rw [List.take_succ_eq_append_getElem h, List.countP_append]
  congr 1
  rw [List.countP_cons]
  simp

theorem strs_owned {w : World} {base : Nat} {v : Value} {l : List ByteArray} (h : w.ownsRow base 9 1 v l.length (l.map Value.string)) : StrsAt w v l := strs_of_owns h

/-- Which of the wanted ones come. -/
def comes (L M : List It) (y : It) : Bool := !(inB (L.map textOf) (textOf y) && holdsB (stayI (L.map It.item) (M.map It.item)) y.item.text)

set_option maxRecDepth 100000 in
set_option maxHeartbeats 2000000 in
theorem sparing_ok (L M : List It) (hL : Arr L) (hM : Arr M) (w : World) :
    Calls Try.prog 8 #[.string (txt L), .string (txt M)] w fun e w' => e = .returned (.bool true) ∧ Below w.heap.size w w' := by
  have hnot : ∀ (x : Bool) (w : World), (Op.unary .not (.bool x)).run Try.prog w = .ok (.bool (!x)) w := fun _ _ => rfl
  have sL : (txt L).size ≤ 400 := by rw [txt_size]; exact hL.short
  have sM : (txt M).size ≤ 400 := by rw [txt_size]; exact hM.short
  obtain ⟨cL, iL⟩ := hL.chk
  obtain ⟨cM, iM⟩ := hM.chk
  have hpe : plErr (txt L) (txt M) = 0 := by simp [plErr, cL, cM]
  have hpl := planned_any (txt L) (txt M) w (by unfold maxLen; omega) (by unfold maxLen; omega)
  unfold bothB at hpl
  rw [show decide (plErr (txt L) (txt M) = 0) = true from decide_eq_true hpe] at hpl
  have hP : pl (txt L) (txt M) = stTxts (mk (L.map It.item) (M.map It.item)) := by simp [pl, hpe, iL, iM]
  have hI := planIs hL.arrI hM.arrI
  have hgd : ∀ p ∈ mk (L.map It.item) (M.map It.item), Good p.2 := fun p hp => (mem_mk hp).elim (hL.arrI.good _) (hM.arrI.good _)
  have hln : (mk (L.map It.item) (M.map It.item)).length ≤ 48 := mk_len _ _ hL.arrI.fits.1 hM.arrI.fits.1
  have hp1 := fun wx => pieces_any (txt L) wx (by omega)
  have hp2 := fun wx => pieces_any (txt M) wx (by omega)
  rw [pcs_txt L hL.ok] at hp1
  rw [pcs_txt M hM.ok] at hp2
  rw [hP] at hpl
  have hlen : (mk (L.map It.item) (M.map It.item)).length = L.countP (fun x => !holdsB (stayI (L.map It.item) (M.map It.item)) x.item.text) + M.countP (fun y => !holdsB (stayI (L.map It.item) (M.map It.item)) y.item.text) := by
    have := hI.len
    rw [List.countP_map, List.countP_map] at this
    exact this
  have hout : ∀ x ∈ L, cnt (stTxts (mk (L.map It.item) (M.map It.item))) (stTxt false (textOf x)) = if holdsB (stayI (L.map It.item) (M.map It.item)) x.item.text then 0 else 1 := by
    intro x hx
    have h := hI.out x.item (List.mem_map.2 ⟨x, hx, rfl⟩)
    cases e : holdsB (stayI (L.map It.item) (M.map It.item)) x.item.text with
    | false => rw [if_neg (by simp)]; exact cnt_one hI.nodup (h.2 e)
    | true => rw [if_pos rfl]; exact cnt_none fun hm => by rw [h.1 hm] at e; simp at e
  have hinn : ∀ y ∈ M, cnt (stTxts (mk (L.map It.item) (M.map It.item))) (stTxt true (textOf y)) = if holdsB (stayI (L.map It.item) (M.map It.item)) y.item.text then 0 else 1 := by
    intro y hy
    have h := hI.inn y.item (List.mem_map.2 ⟨y, hy, rfl⟩)
    cases e : holdsB (stayI (L.map It.item) (M.map It.item)) y.item.text with
    | false => rw [if_neg (by simp)]; exact cnt_one hI.nodup (h.2 e)
    | true => rw [if_pos rfl]; exact cnt_none fun hm => by rw [h.1 hm] at e; simp at e
  have hstb : ∀ x ∈ L, stB L M 3 x = holdsB (stayI (L.map It.item) (M.map It.item)) x.item.text := fun x hx => stB_stay hL hM 3 x hx (dep_le _)
  have hlate : ∀ y ∈ M, inB (L.map textOf) (textOf y) = false → holdsB (stayI (L.map It.item) (M.map It.item)) y.item.text = false := by
    intro y hy h
    cases e : holdsB (stayI (L.map It.item) (M.map It.item)) y.item.text with
    | false => rfl
    | true =>
      have h1 := hI.sub y.item ⟨y, hM.ok y hy, rfl⟩ e
      obtain ⟨x, hx, ex⟩ := List.mem_map.1 h1
      have : textOf y ∈ L.map textOf := List.mem_map.2 ⟨x, hx, congrArg Item.text ex⟩
      rw [inB_true.2 this] at h
      simp at h
  have htn : ∀ v wx, StrsAt wx v (stTxts (mk (L.map It.item) (M.map It.item))) → Calls Try.prog 35 #[v] wx fun e w' => e = .returned (.bool true) ∧ Below wx.heap.size wx w' := fun v wx hv => turns_at v _ hgd hI.turn hln wx hv
  have htm : ∀ v s wx, StrsAt wx v (stTxts (mk (L.map It.item) (M.map It.item))) → Calls Try.prog 34 #[v, .string s] wx fun e w' => e = .returned (.int .i64 (cnt (stTxts (mk (L.map It.item) (M.map It.item))) s : Nat)) ∧ w' = wx := fun v s wx hv => times_at v _ s wx (by simp [stTxts]; omega) hv
  have hll := hL.few
  have hml := hM.few
  have hok1 := hL.ok
  have hok2 := hM.ok
  have hz1 : ∀ x ∈ L, (textOf x).size ≤ 100 := fun x hx => textOf_size (hL.ok x hx)
  have hz2 : ∀ x ∈ M, (textOf x).size ≤ 100 := fun x hx => textOf_size (hM.ok x hx)
  have hsl : (stTxts (mk (L.map It.item) (M.map It.item))).length = (mk (L.map It.item) (M.map It.item)).length := by simp [stTxts]
  have hst3 := fun g ac bc ba => stays_three L M hL.ok hL.few hM.few hL.refs g ac bc ba
  generalize stayI (L.map It.item) (M.map It.item) = ST at *
  generalize mk (L.map It.item) (M.map It.item) = S at *
  generalize hPP : stTxts S = P at *
  generalize txt L = TL at *
  generalize txt M = TM at *
  have Hlen := hide (hsl.trans hlen)
  have Hpl := hide hpl
  have Hp1 := hide hp1
  have Hp2 := hide hp2
  have Hout := hide hout
  have Hinn := hide hinn
  have Hstb := hide hstb
  have Hlate := hide hlate
  have Htn := hide htn
  have Htm := hide htm
  have Hst3 := hide hst3
  have hPl : P.length ≤ 48 := by omega
  clear hpl hp1 hp2 hout hinn hstb hlate htn htm hst3 hlen hsl hP hI hgd hln cL cM iL iM hpe hPP sL sM
  go_enter Try.func8, Try.ntmps8
  go_wp2_with fail
  refine (unhide Hpl).mono ?_
  rintro e w1 ⟨v, rfl, hown, hb1⟩
  have hl1 := hb1.size
  have hvP := strs_owned hown
  obtain ⟨pa, pc, rfl⟩ := slice_of_strs hvP
  clear hown Hpl
  go_wp2_with fail
  refine (unhide Hp1 _).mono ?_
  rintro e w2 ⟨va, rfl, hown2, hb2⟩
  have hl2 := hb2.size
  have hvA := strs_of_owns hown2
  obtain ⟨aa, ac, rfl⟩ := slice_of_strs hvA
  clear hown2 Hp1
  rw [List.length_map] at hvA ⊢
  go_wp2_with fail
  refine (unhide Hp2 _).mono ?_
  rintro e w3 ⟨vb, rfl, hown3, hb3⟩
  have hl3 := hb3.size
  have hvB := strs_of_owns hown3
  obtain ⟨ba, bc, rfl⟩ := slice_of_strs hvB
  rw [List.length_map] at hvB ⊢
  clear hown3 Hp2
  have hvA3 := hvA.later hb3
  have hvP3 := (hvP.later hb2).later hb3
  have hb03 : Below w.heap.size w w3 := (hb1.trans (hb2.mono hl1)).trans (hb3.mono (by omega))
  clear hvA hvP hb1 hb2 hb3
  go_wp2
  go_loopw [10, 11] (fun n i wr => ∃ k : Nat, k ≤ L.length ∧ i = .int .i64 k ∧ n = .int .i64 ((L.take k).countP (fun x => !holdsB ST x.item.text) : Nat) ∧ Below w3.heap.size w3 wr) (fun _ i _ => L.length - (intOf i).toNat)
  case atStart => exact ⟨0, Nat.zero_le _, rfl, rfl, Below.refl _ _⟩
  case round =>
    obtain ⟨k, hk, rfl, rfl, hbe⟩ := hrel
    have hsz := hbe.size
    have hcl : (L.take k).countP (fun x => !holdsB ST x.item.text) ≤ 24 := by
      have := List.countP_le_length (p := fun x : It => !holdsB ST x.item.text) (l := L.take k)
      simp at this; omega
    by_cases hlt : k < L.length
    · have hvAr := hvA3.later hbe
      have hvBr := hvB.later hbe
      have hvPr := hvP3.later hbe
      rcases hvA3 with ⟨_, h0⟩ | ⟨g, cap, hve, _, hit⟩
      · have : L = [] := by simpa using h0
        rw [this] at hlt; simp at hlt
      have hae : aa = some ⟨g, 0, none⟩ := by injection hve
      subst hae
      have hitr := hit.later hbe
      have hcell := hitr.2 k (by simpa using hlt)
      rw [Nat.zero_add, List.getElem_map] at hcell
      have hxm : L[k] ∈ L := List.getElem_mem hlt
      have hstep := countP_take L (fun x => !holdsB ST x.item.text) k hlt
      obtain ⟨x, hx⟩ : ∃ x, x = L[k] := ⟨_, rfl⟩
      rw [← hx] at hcell hxm hstep
      have hlt' : (k : Int) < (L.length : Int) := by omega
      have hst := unhide Hst3 g ac bc ba x hxm wr hitr hvBr
      rw [unhide Hstb x hxm] at hst
      have hcn := unhide Hout x hxm
      have hxz := hz1 x hxm
      have hadd := add_run ⟨#[45]⟩ (textOf x) (by have : (⟨#[45]⟩ : ByteArray).size = 1 := rfl; omega)
      have htx : (⟨#[45]⟩ ++ textOf x : ByteArray) = stTxt false (textOf x) := rfl
      rw [htx] at hadd
      generalize hCC : (L.take k).countP (fun x => !holdsB ST x.item.text) = C at *
      have HC := hide hCC
      clear hCC hx hve htx
      cases hh : holdsB ST x.item.text with
      | true =>
        rw [hh] at hst hcn hstep
        rw [if_pos rfl] at hcn
        simp only [Bool.not_true, Bool.false_eq_true, if_false, Nat.add_zero] at hstep
        have Hst := hide hst
        have Hcn := hide hcn
        have Hstep := hide hstep
        clear hst hcn hstep hh
        generalize stTxt false (textOf x) = Y at *
        generalize textOf x = X at *
        go_wp2_with fail
        refine (unhide Hst).mono ?_
        rintro e w4 ⟨rfl, hb4⟩
        have hl4 := hb4.size
        have hbe4 : Below w3.heap.size w3 w4 := hbe.trans (hb4.mono hsz)
        have hcell4 := (hb4.cell (p := ⟨g, k, none⟩) hitr.1).trans hcell
        have T4 := unhide Htm _ Y w4 (hvPr.later hb4)
        rw [unhide Hcn] at T4
        have HT := hide T4
        clear hcell T4
        go_wp2_with fail
        refine (unhide HT).mono ?_
        rintro e w5 ⟨rfl, he⟩
        replace he := he.symm
        subst he
        go_wp2
        go_roundw
        case rel => exact ⟨k + 1, by omega, by go_num, by rw [unhide Hstep], hbe4⟩
        case measure => simp [intOf]; omega
      | false =>
        rw [hh] at hst hcn hstep
        rw [if_neg (by simp)] at hcn
        simp only [Bool.not_false, if_true] at hstep
        have Hst := hide hst
        have Hcn := hide hcn
        have Hstep := hide hstep
        clear hst hcn hstep hh
        generalize stTxt false (textOf x) = Y at *
        generalize textOf x = X at *
        go_wp2_with fail
        refine (unhide Hst).mono ?_
        rintro e w4 ⟨rfl, hb4⟩
        have hl4 := hb4.size
        have hbe4 : Below w3.heap.size w3 w4 := hbe.trans (hb4.mono hsz)
        have hcell4 := (hb4.cell (p := ⟨g, k, none⟩) hitr.1).trans hcell
        have T4 := unhide Htm _ Y w4 (hvPr.later hb4)
        rw [unhide Hcn] at T4
        have HT := hide T4
        clear hcell T4
        go_wp2_with fail
        refine (unhide HT).mono ?_
        rintro e w5 ⟨rfl, he⟩
        replace he := he.symm
        subst he
        go_wp2
        go_roundw
        case rel => exact ⟨k + 1, by omega, by go_num, by rw [unhide Hstep]; go_num, hbe4⟩
        case measure => simp [intOf]; omega
    · have hall : L.take k = L := List.take_of_length_le (by omega)
      rw [hall] at hcl ⊢
      generalize hCL : L.countP (fun x => !holdsB ST x.item.text) = CL at *
      clear hCL hall
      go_wp2
      go_loopw [10, 14] (fun n i wr2 => ∃ m : Nat, m ≤ M.length ∧ i = .int .i64 m ∧ n = .int .i64 (CL + (M.take m).countP (fun y => !holdsB ST y.item.text) : Nat) ∧ Below w3.heap.size w3 wr2) (fun _ i _ => M.length - (intOf i).toNat)
      case atStart => exact ⟨0, Nat.zero_le _, rfl, rfl, hbe⟩
      case round =>
        obtain ⟨m, hm, rfl, rfl, hbe2⟩ := hrel
        have hsz2 := hbe2.size
        have hcl2 : (M.take m).countP (fun y => !holdsB ST y.item.text) ≤ 24 := by
          have := List.countP_le_length (p := fun y : It => !holdsB ST y.item.text) (l := M.take m)
          simp at this; omega
        by_cases hltm : m < M.length
        · have hvAr := hvA3.later hbe2
          have hvPr := hvP3.later hbe2
          have hvBr := hvB.later hbe2
          rcases hvB with ⟨_, h0⟩ | ⟨gb, capb, hve, _, hitb⟩
          · have : M = [] := by simpa using h0
            rw [this] at hltm; simp at hltm
          have hbae : ba = some ⟨gb, 0, none⟩ := by injection hve
          subst hbae
          have hitr := hitb.later hbe2
          have hcell := hitr.2 m (by simpa using hltm)
          rw [Nat.zero_add, List.getElem_map] at hcell
          have hym : M[m] ∈ M := List.getElem_mem hltm
          have hstep := countP_take M (fun y => !holdsB ST y.item.text) m hltm
          obtain ⟨y, hy⟩ : ∃ y, y = M[m] := ⟨_, rfl⟩
          rw [← hy] at hcell hym hstep
          have hltm' : (m : Int) < (M.length : Int) := by omega
          have hcn := unhide Hinn y hym
          have hyz := hz2 y hym
          have hadd := add_run ⟨#[43]⟩ (textOf y) (by have : (⟨#[43]⟩ : ByteArray).size = 1 := rfl; omega)
          have htx : (⟨#[43]⟩ ++ textOf y : ByteArray) = stTxt true (textOf y) := rfl
          rw [htx] at hadd
          have hin := in_at _ (L.map textOf) (textOf y) wr (by simp; omega) hvAr
          generalize hCC : (M.take m).countP (fun y => !holdsB ST y.item.text) = C at *
          clear hCC hy hve htx
          cases hi : inB (L.map textOf) (textOf y) with
          | false =>
            rw [unhide Hlate y hym hi] at hcn hstep
            rw [if_neg (by simp)] at hcn
            simp only [Bool.not_false, if_true] at hstep
            rw [hi] at hin
            have Hin := hide hin
            have Hcn := hide hcn
            have Hstep := hide hstep
            clear hin hcn hstep hi
            generalize stTxt true (textOf y) = Y at *
            generalize textOf y = X at *
            have T4 := unhide Htm _ Y wr hvPr
            rw [unhide Hcn] at T4
            have HT := hide T4
            clear T4
            go_wp2_with fail
            refine (unhide Hin).mono ?_
            rintro e w4 ⟨rfl, he⟩
            replace he := he.symm
            subst he
            go_wp2_with fail
            refine (unhide HT).mono ?_
            rintro e w5 ⟨rfl, he⟩
            replace he := he.symm
            subst he
            go_wp2
            go_roundw
            case rel => exact ⟨m + 1, by omega, by go_num, by rw [unhide Hstep]; go_num, hbe2⟩
            case measure => simp [intOf]; omega
          | true =>
            obtain ⟨x, hxm, hxy⟩ := List.mem_map.1 (inB_true.1 hi)
            rcases hvA3 with ⟨_, h0⟩ | ⟨g, cap, hvea, _, hita⟩
            · have : L = [] := by simpa using h0
              rw [this] at hxm; simp at hxm
            have hae : aa = some ⟨g, 0, none⟩ := by injection hvea
            subst hae
            have hst := unhide Hst3 g ac bc (some ⟨gb, 0, none⟩) x hxm wr (hita.later hbe2) hvBr
            rw [unhide Hstb x hxm, show x.item.text = y.item.text from hxy, hxy] at hst
            rw [hi] at hin
            have Hin := hide hin
            clear hin hi hvea hxy
            cases hh : holdsB ST y.item.text with
            | true =>
              rw [hh] at hst hcn hstep
              rw [if_pos rfl] at hcn
              simp only [Bool.not_true, Bool.false_eq_true, if_false, Nat.add_zero] at hstep
              have Hst := hide hst
              have Hcn := hide hcn
              have Hstep := hide hstep
              clear hst hcn hstep hh
              generalize stTxt true (textOf y) = Y at *
              generalize textOf y = X at *
              go_wp2_with fail
              refine (unhide Hin).mono ?_
              rintro e w4 ⟨rfl, he⟩
              replace he := he.symm
              subst he
              go_wp2_with fail
              refine (unhide Hst).mono ?_
              rintro e w4 ⟨rfl, hb4⟩
              have hl4 := hb4.size
              have hbe4 : Below w3.heap.size w3 w4 := hbe2.trans (hb4.mono hsz2)
              have hcell4 := (hb4.cell (p := ⟨gb, m, none⟩) hitr.1).trans hcell
              have T4 := unhide Htm _ Y w4 (hvPr.later hb4)
              rw [unhide Hcn] at T4
              have HT := hide T4
              clear hcell T4
              go_wp2_with fail
              refine (unhide HT).mono ?_
              rintro e w5 ⟨rfl, he⟩
              replace he := he.symm
              subst he
              go_wp2
              go_roundw
              case rel => exact ⟨m + 1, by omega, by go_num, by rw [unhide Hstep]; go_num, hbe4⟩
              case measure => simp [intOf]; omega
            | false =>
              rw [hh] at hst hcn hstep
              rw [if_neg (by simp)] at hcn
              simp only [Bool.not_false, if_true] at hstep
              have Hst := hide hst
              have Hcn := hide hcn
              have Hstep := hide hstep
              clear hst hcn hstep hh
              generalize stTxt true (textOf y) = Y at *
              generalize textOf y = X at *
              go_wp2_with fail
              refine (unhide Hin).mono ?_
              rintro e w4 ⟨rfl, he⟩
              replace he := he.symm
              subst he
              go_wp2_with fail
              refine (unhide Hst).mono ?_
              rintro e w4 ⟨rfl, hb4⟩
              have hl4 := hb4.size
              have hbe4 : Below w3.heap.size w3 w4 := hbe2.trans (hb4.mono hsz2)
              have hcell4 := (hb4.cell (p := ⟨gb, m, none⟩) hitr.1).trans hcell
              have T4 := unhide Htm _ Y w4 (hvPr.later hb4)
              rw [unhide Hcn] at T4
              have HT := hide T4
              clear hcell T4
              go_wp2_with fail
              refine (unhide HT).mono ?_
              rintro e w5 ⟨rfl, he⟩
              replace he := he.symm
              subst he
              go_wp2
              go_roundw
              case rel => exact ⟨m + 1, by omega, by go_num, by rw [unhide Hstep]; go_num, hbe4⟩
              case measure => simp [intOf]; omega
        · have hall : M.take m = M := List.take_of_length_le (by omega)
          have hN : CL + M.countP (fun y => !holdsB ST y.item.text) = P.length := by rw [unhide Hlen]
          have hT := unhide Htn _ wr (hvP3.later hbe2)
          have HT := hide hT
          rw [hall, hN]
          clear hall hN hT
          go_wp2_with fail
          refine (unhide HT).mono ?_
          rintro e w5 ⟨rfl, hb5⟩
          go_wp2
          go_ret
          exact ⟨rfl, hb03.trans ((hbe2.trans (hb5.mono hsz2)).mono (by have := hb03.size; omega))⟩

set_option maxRecDepth 100000 in
set_option maxHeartbeats 400000 in
theorem sparing_any (s t : ByteArray) (w : World) (hs : s.size ≤ maxLen) (ht : t.size ≤ maxLen) :
    Calls Try.prog 8 #[.string s, .string t] w fun e w' => e = .returned (.bool true) ∧ Below w.heap.size w w' := by
  by_cases h : plErr s t = 0
  · obtain ⟨h1, h2⟩ := plErr_zero h
    obtain ⟨L, hL, rfl, _⟩ := arr_of_chk (chkZero h1)
    obtain ⟨M, hM, rfl, _⟩ := arr_of_chk (chkZero h2)
    exact sparing_ok L M hL hM w
  · have hpl := planned_any s t w hs ht
    have hnot : ∀ (x : Bool) (w : World), (Op.unary .not (.bool x)).run Try.prog w = .ok (.bool (!x)) w := fun _ _ => rfl
    unfold bothB at hpl
    rw [show decide (plErr s t = 0) = false from decide_eq_false h] at hpl
    have Hpl := hide hpl
    clear hpl h
    go_enter Try.func8, Try.ntmps8
    go_wp2_with fail
    refine (unhide Hpl).mono ?_
    rintro e w1 ⟨v, rfl, hown, hb1⟩
    clear hown
    go_wp2
    go_ret
    exact ⟨rfl, hb1⟩

end Go.Proofs.Ytdlhgbhaeedbdaa
