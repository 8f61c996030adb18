/- Texts2, Sp1, Ord2, SpA. -/
import Derived.Test.YtdlhgbhaeedbdabGreatM23
import Derived.OpenShut
import Derived.Test.YtdlhgbhaeedbdabGreatM9

/- 'joined', 'pick', 'ordered'. -/
namespace Go.Proofs.YtdlhgbhaeedbdabGreat
open Go.RowKit

/-- The texts, one behind the other. -/
def catS (l : List ByteArray) : ByteArray := l.foldl (· ++ ·) ⟨#[]⟩

theorem catS_snoc (l : List ByteArray) (x : ByteArray) : catS (l ++ [x]) = catS l ++ x := by simp [catS]

theorem ret_int {a b : Int} (h : a = b) : Ending.returned (.int .i64 a) = .returned (.int .i64 b) := by rw [h]

theorem pk_bd {c : Int} (h : (Lit.int .i64 c).wf = true) : -9223372036854775808 ≤ c ∧ c ≤ 9223372036854775807 := bounds_i64 h
theorem pk_neg {c : Int} (h : (Lit.int .i64 c).wf = true) (h0 : c < 0) : 0 ≤ wrap64 (-wrap64 (c + 1)) := by
  obtain ⟨a, b⟩ := pk_bd h
  unfold wrap64
  omega
theorem pk_mod (x : Int) (_h : 0 ≤ x) (n : Nat) (hn : 0 < n) : ∃ j : Nat, j < n ∧ x % (n : Int) = (j : Int) :=
  ⟨(x % (n : Int)).toNat, by have := Int.emod_lt_of_pos x (show (0 : Int) < n by omega); have := Int.emod_nonneg x (show (n : Int) ≠ 0 by omega); omega, by have := Int.emod_nonneg x (show (n : Int) ≠ 0 by omega); omega⟩

set_option maxHeartbeats 400000 in
theorem pick_any (c : Int) (n : Nat) (w : World) (hc : (Lit.int .i64 c).wf = true) (hn : 0 < n) (hn2 : n ≤ 1000000) :
    Calls Tryz.prog 27 #[.int .i64 c, .int .i64 (n : Nat)] w fun e w' => (∃ j : Nat, j < n ∧ e = .returned (.int .i64 (j : Nat))) ∧ w' = w := by
  by_cases h0 : c < 0
  · have hx := pk_neg hc h0
    have hm := pk_mod _ hx n hn
    rw [← Int.tmod_eq_emod_of_nonneg hx] at hm
    obtain ⟨j, hj, hm⟩ := hm
    have Hm := hide hm
    clear hm hx
    go_enter Tryz.func27, Tryz.ntmps27
    go_wp2
    go_ret
    refine ⟨⟨j, hj, ?_⟩, rfl⟩
    exact ret_int (unhide Hm)
  · obtain ⟨j, hj, hm⟩ := pk_mod c (by omega) n hn
    have Hm := hide hm
    clear hm
    go_enter Tryz.func27, Tryz.ntmps27
    go_wp2
    go_ret
    refine ⟨⟨j, hj, ?_⟩, rfl⟩
    exact ret_int (unhide Hm)

/-- Do the texts stand in order? -/
def ordB (l : List ByteArray) (i : Nat) : Bool :=
  match l[i]?, l[i + 1]? with
  | some x, some y => decide (rankB x ≤ rankB y) && (decide (rankB x ≠ rankB y) || Op.bytesLess x.toList y.toList)
  | _, _ => true

end Go.Proofs.YtdlhgbhaeedbdabGreat

/- 'word', 'find', 'times'. -/
namespace Go.Proofs.YtdlhgbhaeedbdabGreat
open Go.RowKit

/-- A word: the bytes up to the next blank or semicolon, n of them passed by. -/
def wrdL : List UInt8 → Nat → List UInt8 → List UInt8
  | [], _, _ => []
  | c :: r, n, acc => if c = 32 ∨ c = 59 then (match n with | 0 => acc | n + 1 => wrdL r n []) else wrdL r n (acc ++ [c])

theorem wrdL_cons (c : UInt8) (r : List UInt8) (n : Nat) (acc : List UInt8) : wrdL (c :: r) n acc = if c = 32 ∨ c = 59 then (match n with | 0 => acc | n + 1 => wrdL r n []) else wrdL r n (acc ++ [c]) := by
  cases n <;> rfl

def wrd (p : ByteArray) (n : Nat) : ByteArray := ⟨(wrdL (rest p 0) n []).toArray⟩

theorem rest_cons {p : ByteArray} {i : Nat} (h : i < p.size) : rest p i = p[i] :: rest p (i + 1) := by
  have hl : i < p.data.toList.length := by simpa using h
  unfold rest
  rw [List.drop_eq_getElem_cons hl]
  rfl

theorem ext_self (p : ByteArray) (i : Nat) : (p.extract i i).data.toList = [] := by
  rw [ByteArray.data_extract, Array.toList_extract, List.extract_eq_take_drop]; simp

theorem ext_more {p : ByteArray} {f i : Nat} (hf : f ≤ i) (h : i < p.size) : (p.extract f (i + 1)).data.toList = (p.extract f i).data.toList ++ [p[i]] := by
  rw [ByteArray.data_extract, Array.toList_extract, ByteArray.data_extract, Array.toList_extract, List.extract_eq_take_drop, List.extract_eq_take_drop]
  have hsz : p.data.toList.length = p.size := by simp
  have hl : i - f < (p.data.toList.drop f).length := by rw [List.length_drop]; omega
  rw [show i + 1 - f = (i - f) + 1 from by omega, List.take_succ_eq_append_getElem hl]
  congr 2
  rw [List.getElem_drop]
  simp only [show f + (i - f) = i from by omega]
  rfl

theorem byte_ne {c : UInt8} {k : Nat} (hk : k < 256) (h : ¬ c = UInt8.ofNat k) : ((c.toNat : Int) == (k : Int)) = false := by
  rw [beq_eq_false_iff_ne]
  intro e
  apply h
  apply UInt8.toNat_inj.1
  rw [UInt8.toNat_ofNat']
  omega

theorem ret_str {a b : ByteArray} (h : a = b) : Ending.returned (.string a) = .returned (.string b) := by rw [h]

set_option maxRecDepth 100000 in
set_option maxHeartbeats 400000 in
theorem word_n (p : ByteArray) (n0 : Nat) (w : World) (hp : p.size ≤ 1000000) (hn0 : n0 ≤ 10) :
    Calls Tryz.prog 12 #[.string p, .int .i64 (n0 : Nat)] w fun e w' => e = .returned (.string (wrd p n0)) ∧ w' = w := by
  go_enter Tryz.func12, Tryz.ntmps12
  go_wp2
  go_loop [1, 5, 6] (fun nv fv i => ∃ n f k : Nat, n ≤ 10 ∧ f ≤ k ∧ k ≤ p.size ∧ nv = .int .i64 (n : Nat) ∧ fv = .int .i64 (f : Nat) ∧ i = .int .i64 (k : Nat) ∧ wrdL (rest p k) n ((p.extract f k).data.toList) = wrdL (rest p 0) n0 []) (fun _ _ i => p.size - (intOf i).toNat)
  case atStart => exact ⟨n0, 0, 0, hn0, Nat.le_refl _, Nat.zero_le _, rfl, rfl, rfl, by rw [ext_self]⟩
  case round =>
    obtain ⟨n, f, k, hn, hfk, hk, rfl, rfl, rfl, hinv⟩ := hrel
    by_cases hlt : k < p.size
    · have hlt' : (k : Int) < (p.size : Int) := by omega
      have hfk' : (f : Int) ≤ (k : Int) := by omega
      rw [rest_cons hlt, wrdL_cons] at hinv
      have hmore := ext_more hfk hlt
      have hself := ext_self p (k + 1)
      by_cases hsep : p[k] = 32 ∨ p[k] = 59
      · rw [if_pos hsep] at hinv
        have hb : (((p[k].toNat : Int) == 32) = true) ∨ (((p[k].toNat : Int) == 32) = false ∧ ((p[k].toNat : Int) == 59) = true) := by
          rcases hsep with h | h
          · left; rw [h]; rfl
          · right; rw [h]; exact ⟨rfl, rfl⟩
        cases n with
        | zero =>
          have hfin : p.extract f k = wrd p n0 := by
            unfold wrd
            rw [← hinv, bytes_mk]
          have Hf := hide hfin
          clear hinv hmore hself hsep hfin
          rcases hb with h1 | ⟨h1, h2⟩
          · go_wp2
            go_ret
            exact ⟨ret_str (unhide Hf), rfl⟩
          · go_wp2
            go_ret
            exact ⟨ret_str (unhide Hf), rfl⟩
        | succ n =>
          have hz : (((n + 1 : Nat) : Int) == 0) = false := by rw [beq_eq_false_iff_ne]; omega
          simp only at hinv
          have hinv2 : wrdL (rest p (k + 1)) n (p.extract (k + 1) (k + 1)).data.toList = wrdL (rest p 0) n0 [] := by rw [hself]; exact hinv
          have Hi := hide hinv2
          clear hinv hinv2 hmore hself hsep
          rcases hb with h1 | ⟨h1, h2⟩
          · go_wp2
            go_round
            case rel => exact ⟨n, k + 1, k + 1, by omega, Nat.le_refl _, by omega, by go_num, by go_num, by go_num, unhide Hi⟩
            case measure => simp [intOf]; omega
          · go_wp2
            go_round
            case rel => exact ⟨n, k + 1, k + 1, by omega, Nat.le_refl _, by omega, by go_num, by go_num, by go_num, unhide Hi⟩
            case measure => simp [intOf]; omega
      · rw [if_neg hsep, ← hmore] at hinv
        have h1 : ((p[k].toNat : Int) == 32) = false := byte_ne (k := 32) (by omega) (fun h => hsep (Or.inl h))
        have h2 : ((p[k].toNat : Int) == 59) = false := byte_ne (k := 59) (by omega) (fun h => hsep (Or.inr h))
        have Hi := hide hinv
        clear hinv hmore hself hsep
        go_wp2
        go_round
        case rel => exact ⟨n, f, k + 1, hn, by omega, by omega, rfl, rfl, by go_num, unhide Hi⟩
        case measure => simp [intOf]; omega
    · have hr : rest p k = [] := rest_nil.2 (by omega)
      rw [hr] at hinv
      have hfin : (⟨#[]⟩ : ByteArray) = wrd p n0 := by unfold wrd; rw [← hinv]; rfl
      have Hf := hide hfin
      clear hinv hr hfin
      go_wp2
      go_ret
      exact ⟨ret_str (unhide Hf), rfl⟩

/-- The first text that begins so, or none. -/
def fnd (l : List ByteArray) (t : ByteArray) : ByteArray := (l.find? fun s => begB s t).getD ⟨#[]⟩

set_option maxRecDepth 100000 in
set_option maxHeartbeats 400000 in
theorem sfind_in (g cap : Nat) (l : List ByteArray) (t : ByteArray) (w : World) (hl : l.length ≤ 1000000) (hs : ∀ x ∈ l, x.size ≤ 1000000) (ht : t.size ≤ 1000000) (hit : StrsIn w g 0 l) :
    Calls Tryz.prog 142 #[.slice (some ⟨g, 0, none⟩) l.length cap, .string t] w fun e w' => e = .returned (.string (fnd l t)) ∧ w' = w := by
  go_enter Tryz.func142, Tryz.ntmps142
  go_wp2
  go_loop [5] (fun i => ∃ k : Nat, k ≤ l.length ∧ i = .int .i64 k ∧ ∀ x ∈ l.take k, begB x t = false) (fun i => l.length - (intOf i).toNat)
  case atStart => exact ⟨0, Nat.zero_le _, rfl, by simp⟩
  case round =>
    obtain ⟨k, hk, rfl, hno⟩ := hrel
    have Hno := hide hno
    clear hno
    by_cases hlt : k < l.length
    · have hc := hit.2 k hlt
      rw [Nat.zero_add] at hc
      obtain ⟨x, hx⟩ : ∃ x, x = l[k] := ⟨_, rfl⟩
      rw [← hx] at hc
      have hlt' : (k : Int) < (l.length : Int) := by omega
      have hb := begins_any x t w (hs x (by rw [hx]; exact List.getElem_mem hlt)) ht
      have hsplit : l = l.take k ++ x :: l.drop (k + 1) := by rw [hx, List.getElem_cons_drop, List.take_append_drop]
      cases hd : begB x t with
      | true =>
        rw [hd] at hb
        have hfin : fnd l t = x := by
          unfold fnd
          rw [hsplit, List.find?_append, List.find?_eq_none.2 (fun y hy => by rw [unhide Hno y hy]; simp), Option.none_or, List.find?_cons, hd]
          rfl
        have Hf := hide hfin
        have Hb := hide hb
        clear hb hd hfin hsplit hx
        go_wp2_with (go_at_call 57; refine (unhide Hb).mono ?_; rintro e w1 ⟨rfl, he⟩; replace he := he.symm; subst he)
        go_ret
        exact ⟨ret_str (unhide Hf).symm, rfl⟩
      | false =>
        rw [hd] at hb
        have hno : ∀ y ∈ l.take (k + 1), begB y t = false := by
          intro y hy
          rw [List.take_succ_eq_append_getElem hlt, List.mem_append] at hy
          rcases hy with h | h
          · exact unhide Hno y h
          · simp at h; rw [h, ← hx]; exact hd
        have H2 := hide hno
        have Hb := hide hb
        clear hb hd hno hsplit hx
        go_wp2_with (go_at_call 57; refine (unhide Hb).mono ?_; rintro e w1 ⟨rfl, he⟩; replace he := he.symm; subst he)
        go_round
        case rel => exact ⟨k + 1, by omega, by go_num, unhide H2⟩
        case measure => simp [intOf]; omega
    · have hfin : fnd l t = ⟨#[]⟩ := by
        have hno := unhide Hno
        rw [List.take_of_length_le (by omega)] at hno
        unfold fnd
        rw [List.find?_eq_none.2 (fun y hy => by rw [hno y hy]; simp)]
        rfl
      have Hf := hide hfin
      clear hfin
      go_wp2
      go_ret
      exact ⟨ret_str (unhide Hf).symm, rfl⟩

/-- How often a text stands in a list. -/
def cnt (l : List ByteArray) (s : ByteArray) : Nat := l.countP fun x => decide (x = s)

theorem cnt_take (l : List ByteArray) (s : ByteArray) (k : Nat) (h : k < l.length) : cnt (l.take (k + 1)) s = cnt (l.take k) s + if l[k] = s then 1 else 0 := by
  unfold cnt
  rw [List.take_succ_eq_append_getElem h, List.countP_append]
  congr 1
  rw [List.countP_cons]
  simp

theorem cnt_le (l : List ByteArray) (s : ByteArray) : cnt l s ≤ l.length := List.countP_le_length

end Go.Proofs.YtdlhgbhaeedbdabGreat

/- Pieces and ranks of an arrangement's items; their texts in order. Plain mathematics. -/
namespace Go.Proofs.YtdlhgbhaeedbdabGreat
open Go.RowKit

def noSemi (l : List UInt8) : Prop := ∀ c ∈ l, c ≠ 59

theorem letter_semi {c : UInt8} (h : letter c) : c ≠ 59 := by rintro rfl; exact sc_no h
theorem name_semi {a : List UInt8} (h : isName a) : noSemi a := fun c hc => letter_semi (h.2.2 c hc)
theorem dg_semi {n : Nat} (h : n ≤ 9) : dg n ≠ 59 := by
  intro e
  have := dg_nat h
  rw [e] at this
  simp at this
  omega
theorem md_semi (m : Nat) : md m ≠ 59 := by unfold md; split <;> decide

theorem body_semi {x : It} (hx : x.ok) : noSemi x.body := by
  intro c hc
  rcases hx with ⟨ha, ⟨e, e2, _, h2, _⟩ | ⟨e, e2, _⟩ | ⟨e, hb, h2, _⟩ | ⟨e, hb, _⟩ | ⟨e, hb, h2, h3⟩⟩
  · simp only [It.body, e, if_true, List.mem_append, List.mem_cons, List.not_mem_nil, or_false] at hc
    rcases hc with (rfl | rfl | rfl | rfl | rfl) | hc | rfl | rfl
    any_goals decide
    · exact name_semi ha c hc
    · exact dg_semi (by omega)
  · simp only [It.body, e] at hc
    simp at hc
    rcases hc with rfl | rfl | rfl | rfl | rfl | rfl | rfl | hc
    any_goals decide
    · exact name_semi ha c hc
  · simp only [It.body, e] at hc
    simp at hc
    rcases hc with rfl | rfl | rfl | rfl | hc | rfl | rfl | rfl | hc | rfl | rfl | rfl
    any_goals decide
    · exact name_semi ha c hc
    · exact dg_semi (by omega)
    · exact name_semi hb c hc
    · exact md_semi _
  · simp only [It.body, e] at hc
    simp at hc
    rcases hc with rfl | rfl | rfl | rfl | rfl | hc | rfl | hc
    any_goals decide
    · exact name_semi ha c hc
    · exact name_semi hb c hc
  · simp only [It.body, e] at hc
    simp at hc
    rcases hc with rfl | rfl | rfl | rfl | hc | rfl | hc | rfl | rfl | rfl | rfl
    any_goals decide
    · exact name_semi ha c hc
    · exact name_semi hb c hc
    · exact dg_semi (by omega)
    · exact dg_semi (by omega)

/-- Over bytes that are no semicolon nothing is cut. -/
theorem pcsTo_plain (s : ByteArray) (k : Nat) (l r : List UInt8) (h : rest s k = l ++ r) (hl : noSemi l) : pcsTo s (k + l.length) = pcsTo s k := by
  induction l generalizing k with
  | nil => rfl
  | cons c l ih =>
    have h1 : rest s k = c :: (l ++ r) := h
    have h2 : rest s (k + 1) = l ++ r := rest_of (a := [c]) (by rw [h1]; rfl)
    rw [List.length_cons, show k + (l.length + 1) = (k + 1) + l.length from by omega, ih (k + 1) h2 (fun d hd => hl d (by simp [hd]))]
    have hc : byteAt s k ≠ 59 := by
      rw [byteAt_cons h1]
      intro e
      exact hl c (by simp) (UInt8.toNat_inj.1 (by have : ((59 : UInt8).toNat : Int) = 59 := rfl; omega))
    simp [pcsTo, hc]

def textOf (x : It) : ByteArray := ⟨x.text.toArray⟩

theorem pcsTo_cat (s : ByteArray) (L : List It) (hL : ∀ x ∈ L, x.ok) (k : Nat) (r : List UInt8) (h : rest s k = catT L ++ r) (h0 : (pcsTo s k).2 = k) :
    pcsTo s (k + (catT L).length) = ((pcsTo s k).1 ++ L.map textOf, k + (catT L).length) := by
  induction L generalizing k with
  | nil => simp [catT]; exact Prod.ext rfl h0
  | cons x L ih =>
    have e : catT (x :: L) = x.text ++ catT L := rfl
    rw [e] at h ⊢
    have hb : rest s k = x.body ++ ([59] ++ (catT L ++ r)) := by rw [h]; simp [It.text]
    have h1 := pcsTo_plain s k x.body _ hb (body_semi (hL x (by simp)))
    have hs : rest s (k + x.body.length) = [59] ++ (catT L ++ r) := rest_of hb
    have hc : byteAt s (k + x.body.length) = 59 := byteAt_cons (c := 59) (by rw [hs]; rfl)
    have hx : x.text.length = x.body.length + 1 := by simp [It.text]
    have h2 : pcsTo s (k + x.text.length) = ((pcsTo s k).1 ++ [textOf x], k + x.text.length) := by
      rw [hx, show k + (x.body.length + 1) = (k + x.body.length) + 1 from by omega]
      simp only [pcsTo, hc, if_true]
      rw [h1, h0, show k + x.body.length + 1 = k + x.text.length from by omega, extract_rest (a := x.text) (r := catT L ++ r) (by rw [h]; simp)]
      rfl
    have h3 := ih (fun y hy => hL y (by simp [hy])) (k + x.text.length) (by rw [rest_of (a := x.text) (r := catT L ++ r) (by rw [h]; simp)]) (by rw [h2])
    rw [List.length_append, show k + (x.text.length + (catT L).length) = k + x.text.length + (catT L).length from by omega, h3, h2]
    simp

theorem pcs_txt (L : List It) (hL : ∀ x ∈ L, x.ok) : pcs (txt L) = L.map textOf := by
  have h := pcsTo_cat (txt L) L hL 0 [] (by rw [rest_zero]; simp [txt]) rfl
  rw [Nat.zero_add, ← txt_size] at h
  unfold pcs
  rw [h]
  simp [pcsTo]

theorem begB_iff (t w : List UInt8) : begB ⟨t.toArray⟩ ⟨w.toArray⟩ = true ↔ w <+: t := by
  unfold begB
  rw [Bool.and_eq_true, decide_eq_true_iff, beq_iff_eq, ByteArray.toList_eq, ByteArray.toList_eq, ByteArray.data_extract]
  simp only [ByteArray.size, List.size_toArray, Array.toList_extract, List.extract_eq_take_drop, List.drop_zero, Nat.sub_zero]
  constructor
  · rintro ⟨_, h⟩; rw [List.prefix_iff_eq_take]; exact h.symm
  · intro h; exact ⟨h.length_le, (List.prefix_iff_eq_take.1 h).symm⟩

theorem begB_no {t w : List UInt8} (h : ¬ w <+: t) : begB ⟨t.toArray⟩ ⟨w.toArray⟩ = false := by
  rw [← Bool.not_eq_true, begB_iff]; exact h

theorem rank_text {x : It} (hx : x.ok) : rankB (textOf x) = x.kind := by
  have B : ∀ w, begB (textOf x) ⟨w⟩ = true ↔ w.toList <+: x.text := fun w => begB_iff x.text w.toList
  unfold rankB
  rcases hx with ⟨_, ⟨e, _⟩ | ⟨e, _⟩ | ⟨e, _⟩ | ⟨e, _⟩ | ⟨e, _⟩⟩
  · rw [if_pos ((B _).2 (by simp [It.text, It.body, e])), e]
  · rw [if_neg (by rw [B]; simp [It.text, It.body, e]), if_pos ((B _).2 (by simp [It.text, It.body, e])), e]
  · rw [if_neg (by rw [B]; simp [It.text, It.body, e]), if_neg (by rw [B]; simp [It.text, It.body, e]), if_pos ((B _).2 (by simp [It.text, It.body, e])), e]
  · rw [if_neg (by rw [B]; simp [It.text, It.body, e]), if_neg (by rw [B]; simp [It.text, It.body, e]), if_neg (by rw [B]; simp [It.text, It.body, e]), if_pos ((B _).2 (by simp [It.text, It.body, e])), e]
  · rw [if_neg (by rw [B]; simp [It.text, It.body, e]), if_neg (by rw [B]; simp [It.text, It.body, e]), if_neg (by rw [B]; simp [It.text, It.body, e]), if_neg (by rw [B]; simp [It.text, It.body, e]), e]

theorem bl_app (p u v : List UInt8) : Op.bytesLess (p ++ u) (p ++ v) = Op.bytesLess u v := by
  induction p with
  | nil => rfl
  | cons c p ih => simp [Op.bytesLess, ih]

theorem bl_name {a b : List UInt8} (hb : ∀ c ∈ b, letter c) (h : Op.bytesLess a b = true) (c d : UInt8) (hc : (c.toNat : Int) < 97) (u v : List UInt8) : Op.bytesLess (a ++ c :: u) (b ++ d :: v) = true := by
  induction a generalizing b with
  | nil =>
    cases b with
    | nil => simp [Op.bytesLess] at h
    | cons b0 b =>
      have := hb b0 (by simp)
      simp only [letter] at this
      simp only [List.nil_append, List.cons_append, Op.bytesLess, Bool.or_eq_true, decide_eq_true_eq]
      exact Or.inl (UInt8.lt_iff_toNat_lt.2 (by omega))
  | cons a0 a ih =>
    cases b with
    | nil => simp [Op.bytesLess] at h
    | cons b0 b =>
      simp only [List.cons_append, Op.bytesLess, Bool.or_eq_true, Bool.and_eq_true, decide_eq_true_eq, beq_iff_eq] at h ⊢
      rcases h with h | ⟨h1, h⟩
      · exact Or.inl h
      · exact Or.inr ⟨h1, ih (fun c hc => hb c (by simp [hc])) h⟩

theorem bl_digit {n m : Nat} (hn : n ≤ 9) (hm : m ≤ 9) (h : n < m) (u v : List UInt8) : Op.bytesLess (dg n :: u) (dg m :: v) = true := by
  simp only [Op.bytesLess, Bool.or_eq_true, decide_eq_true_eq]
  exact Or.inl (UInt8.lt_iff_toNat_lt.2 (by rw [dg_nat hn, dg_nat hm]; omega))

theorem mk_tl (a : List UInt8) : (⟨a.toArray⟩ : ByteArray).toList = a := by rw [ByteArray.toList_eq]
theorem mk_inj {a b : List UInt8} (h : (⟨a.toArray⟩ : ByteArray) = ⟨b.toArray⟩) : a = b := by
  have := congrArg ByteArray.toList h
  rwa [mk_tl, mk_tl] at this

end Go.Proofs.YtdlhgbhaeedbdabGreat

/- Sp2, Sp3, Sp4. -/
/- The words of an item; the item that a key tells. Plain mathematics. -/
namespace Go.Proofs.YtdlhgbhaeedbdabGreat
open Go.RowKit

def noSep (u : List UInt8) : Prop := ∀ c ∈ u, ¬ (c = 32 ∨ c = 59)

theorem wrdL_hit (u : List UInt8) (hu : noSep u) (c : UInt8) (hc : c = 32 ∨ c = 59) (r acc : List UInt8) : wrdL (u ++ c :: r) 0 acc = acc ++ u := by
  induction u generalizing acc with
  | nil => rw [List.nil_append, wrdL_cons, if_pos hc, List.append_nil]
  | cons b u ih =>
    rw [List.cons_append, wrdL_cons, if_neg (hu b (by simp)), ih (fun c hc => hu c (by simp [hc]))]
    simp

theorem wrdL_skip (u : List UInt8) (hu : noSep u) (c : UInt8) (hc : c = 32 ∨ c = 59) (r acc : List UInt8) (n : Nat) : wrdL (u ++ c :: r) (n + 1) acc = wrdL r n [] := by
  induction u generalizing acc with
  | nil => rw [List.nil_append, wrdL_cons, if_pos hc]
  | cons b u ih => rw [List.cons_append, wrdL_cons, if_neg (hu b (by simp)), ih (fun c hc => hu c (by simp [hc]))]

theorem letter_sep {c : UInt8} (h : letter c) : ¬ (c = 32 ∨ c = 59) := by
  unfold letter at h
  rintro (rfl | rfl)
  · have : ((32 : UInt8).toNat : Int) = 32 := rfl
    omega
  · have : ((59 : UInt8).toNat : Int) = 59 := rfl
    omega
theorem name_sep {a : List UInt8} (h : isName a) : noSep a := fun c hc => letter_sep (h.2.2 c hc)
theorem dg_sep {n : Nat} (h : n ≤ 9) : noSep [dg n] := by
  intro c hc
  simp at hc
  subst hc
  have := dg_nat h
  rintro (e | e) <;> rw [e] at this <;> simp at this <;> omega

theorem rest_text (x : It) : rest (textOf x) 0 = x.text := by rw [rest_zero]; rfl

theorem word_lun {x : It} (hx : x.ok) (hk : x.kind = 2) : wrd (textOf x) 1 = ⟨x.a.toArray⟩ ∧ wrd (textOf x) 3 = ⟨x.b.toArray⟩ := by
  obtain ⟨ha, h⟩ := hx
  have hb : isName x.b ∧ x.n ≤ 7 := by rcases h with ⟨e, _⟩ | ⟨e, _⟩ | ⟨e, h1, h2, _⟩ | ⟨e, _⟩ | ⟨e, _⟩ <;> first | exact ⟨h1, h2⟩ | omega
  have ht : x.text = [108, 117, 110] ++ 32 :: (x.a ++ 32 :: ([dg x.n] ++ 32 :: (x.b ++ 32 :: [114, md x.m, 59]))) := by simp [It.text, It.body, hk]
  have h0 : noSep [108, 117, 110] := by intro c hc; simp at hc; rcases hc with rfl | rfl | rfl <;> decide
  unfold wrd
  rw [rest_text, ht]
  constructor
  · rw [wrdL_skip _ h0 _ (Or.inl rfl), wrdL_hit _ (name_sep ha) _ (Or.inl rfl)]; rfl
  · rw [wrdL_skip _ h0 _ (Or.inl rfl), wrdL_skip _ (name_sep ha) _ (Or.inl rfl), wrdL_skip _ (dg_sep (by omega)) _ (Or.inl rfl), wrdL_hit _ (name_sep hb.1) _ (Or.inl rfl)]; rfl

theorem word_host {x : It} (hx : x.ok) (hk : x.kind = 3) : wrd (textOf x) 1 = ⟨x.a.toArray⟩ := by
  obtain ⟨ha, h⟩ := hx
  have ht : x.text = [104, 111, 115, 116] ++ 32 :: (x.a ++ 32 :: (x.b ++ [59])) := by simp [It.text, It.body, hk]
  have h0 : noSep [104, 111, 115, 116] := by intro c hc; simp at hc; rcases hc with rfl | rfl | rfl | rfl <;> decide
  unfold wrd
  rw [rest_text, ht, wrdL_skip _ h0 _ (Or.inl rfl), wrdL_hit _ (name_sep ha) _ (Or.inl rfl)]
  rfl

theorem word_map {x : It} (hx : x.ok) (hk : x.kind = 4) : wrd (textOf x) 1 = ⟨x.a.toArray⟩ ∧ wrd (textOf x) 2 = ⟨x.b.toArray⟩ ∧ wrd (textOf x) 4 = ⟨#[dg x.m]⟩ := by
  obtain ⟨ha, h⟩ := hx
  have hb : isName x.b ∧ x.n ≤ 7 ∧ x.m ≤ 7 := by rcases h with ⟨e, _⟩ | ⟨e, _⟩ | ⟨e, _⟩ | ⟨e, _⟩ | ⟨e, h1, h2, h3⟩ <;> first | exact ⟨h1, h2, h3⟩ | omega
  have ht : x.text = [109, 97, 112] ++ 32 :: (x.a ++ 32 :: (x.b ++ 32 :: ([dg x.n] ++ 32 :: ([dg x.m] ++ 59 :: [])))) := by simp [It.text, It.body, hk]
  have h0 : noSep [109, 97, 112] := by intro c hc; simp at hc; rcases hc with rfl | rfl | rfl <;> decide
  unfold wrd
  rw [rest_text, ht]
  refine ⟨?_, ?_, ?_⟩
  · rw [wrdL_skip _ h0 _ (Or.inl rfl), wrdL_hit _ (name_sep ha) _ (Or.inl rfl)]; rfl
  · rw [wrdL_skip _ h0 _ (Or.inl rfl), wrdL_skip _ (name_sep ha) _ (Or.inl rfl), wrdL_hit _ (name_sep hb.1) _ (Or.inl rfl)]; rfl
  · rw [wrdL_skip _ h0 _ (Or.inl rfl), wrdL_skip _ (name_sep ha) _ (Or.inl rfl), wrdL_skip _ (name_sep hb.1) _ (Or.inl rfl), wrdL_skip _ (dg_sep (by omega)) _ (Or.inl rfl), wrdL_hit _ (dg_sep (by omega)) _ (Or.inr rfl)]; rfl

theorem name_pre {u v : List UInt8} (hu : ∀ c ∈ u, letter c) (hv : ∀ c ∈ v, letter c) {c d : UInt8} (hc : ¬ letter c) (hd : ¬ letter d) {r r' : List UInt8} : (u ++ c :: r) <+: (v ++ d :: r') ↔ u = v ∧ c = d ∧ r <+: r' := by
  induction u generalizing v with
  | nil =>
    cases v with
    | nil => simp [List.cons_prefix_cons]
    | cons b v =>
      simp only [List.nil_append, List.cons_append, List.cons_prefix_cons]
      constructor
      · rintro ⟨e, _⟩; exact absurd (e ▸ hv b (by simp)) hc
      · rintro ⟨e, _⟩; simp at e
  | cons a u ih =>
    cases v with
    | nil =>
      simp only [List.nil_append, List.cons_append, List.cons_prefix_cons]
      constructor
      · rintro ⟨e, _⟩; exact absurd (e ▸ hu a (by simp)) hd
      · rintro ⟨e, _⟩; simp at e
    | cons b v =>
      simp only [List.cons_append, List.cons_prefix_cons, List.cons.injEq]
      rw [ih (fun c hc => hu c (by simp [hc])) (fun c hc => hv c (by simp [hc]))]
      constructor
      · rintro ⟨e, f, g⟩; exact ⟨⟨e, f⟩, g⟩
      · rintro ⟨⟨e, f⟩, g⟩; exact ⟨e, f, g⟩

theorem no32 : ¬ letter 32 := by intro h; exact letter_sep h (Or.inl rfl)
theorem no59 : ¬ letter 59 := by intro h; exact letter_sep h (Or.inr rfl)

theorem dg_eq {n m : Nat} (hn : n ≤ 9) (hm : m ≤ 9) : dg n = dg m ↔ n = m := by
  constructor
  · intro h
    have := congrArg UInt8.toNat h
    rw [dg_nat hn, dg_nat hm] at this
    omega
  · intro h; rw [h]

theorem pre_target {y : It} (hy : y.ok) {a : List UInt8} (ha : isName a) : ([116, 97, 114, 103, 101, 116, 32] ++ (a ++ [59])) <+: y.text ↔ y.kind = 1 ∧ y.a = a := by
  obtain ⟨hya, h⟩ := hy
  rcases h with ⟨e, _⟩ | ⟨e, _⟩ | ⟨e, _⟩ | ⟨e, _⟩ | ⟨e, _⟩
  · simp [It.text, It.body, e, List.cons_prefix_cons]
  · have ht : y.text = [116, 97, 114, 103, 101, 116, 32] ++ (y.a ++ 59 :: []) := by simp [It.text, It.body, e]
    rw [ht, List.prefix_append_right_inj, name_pre ha.2.2 hya.2.2 no59 no59]
    simp [e, eq_comm]
  · simp [It.text, It.body, e, List.cons_prefix_cons]
  · simp [It.text, It.body, e, List.cons_prefix_cons]
  · simp [It.text, It.body, e, List.cons_prefix_cons]

theorem pre_disk {y : It} (hy : y.ok) {a : List UInt8} (ha : isName a) : ([100, 105, 115, 107, 32] ++ (a ++ [32])) <+: y.text ↔ y.kind = 0 ∧ y.a = a := by
  obtain ⟨hya, h⟩ := hy
  rcases h with ⟨e, _⟩ | ⟨e, _⟩ | ⟨e, _⟩ | ⟨e, _⟩ | ⟨e, _⟩
  · have ht : y.text = [100, 105, 115, 107, 32] ++ (y.a ++ 32 :: [dg y.n, 59]) := by simp [It.text, It.body, e]
    rw [ht, List.prefix_append_right_inj, name_pre ha.2.2 hya.2.2 no32 no32]
    simp [e, eq_comm]
  · simp [It.text, It.body, e, List.cons_prefix_cons]
  · simp [It.text, It.body, e, List.cons_prefix_cons]
  · simp [It.text, It.body, e, List.cons_prefix_cons]
  · simp [It.text, It.body, e, List.cons_prefix_cons]

theorem pre_host {y : It} (hy : y.ok) {a b : List UInt8} (ha : isName a) (hb : isName b) : ([104, 111, 115, 116, 32] ++ (a ++ 32 :: (b ++ [59]))) <+: y.text ↔ y.kind = 3 ∧ y.a = a ∧ y.b = b := by
  obtain ⟨hya, h⟩ := hy
  rcases h with ⟨e, _⟩ | ⟨e, _⟩ | ⟨e, _⟩ | ⟨e, hyb, _⟩ | ⟨e, _⟩
  · simp [It.text, It.body, e, List.cons_prefix_cons]
  · simp [It.text, It.body, e, List.cons_prefix_cons]
  · simp [It.text, It.body, e, List.cons_prefix_cons]
  · have ht : y.text = [104, 111, 115, 116, 32] ++ (y.a ++ 32 :: (y.b ++ 59 :: [])) := by simp [It.text, It.body, e]
    rw [ht, List.prefix_append_right_inj, name_pre ha.2.2 hya.2.2 no32 no32, name_pre hb.2.2 hyb.2.2 no59 no59]
    simp [e, eq_comm]
  · simp [It.text, It.body, e, List.cons_prefix_cons]

theorem pre_lun {y : It} (hy : y.ok) {a : List UInt8} (ha : isName a) {n : Nat} (hn : n ≤ 9) : ([108, 117, 110, 32] ++ (a ++ 32 :: [dg n, 32])) <+: y.text ↔ y.kind = 2 ∧ y.a = a ∧ y.n = n := by
  obtain ⟨hya, h⟩ := hy
  rcases h with ⟨e, _⟩ | ⟨e, _⟩ | ⟨e, _, h7, _⟩ | ⟨e, _⟩ | ⟨e, _⟩
  · simp [It.text, It.body, e, List.cons_prefix_cons]
  · simp [It.text, It.body, e, List.cons_prefix_cons]
  · have ht : y.text = [108, 117, 110, 32] ++ (y.a ++ 32 :: (dg y.n :: 32 :: (y.b ++ [32, 114, md y.m, 59]))) := by simp [It.text, It.body, e]
    rw [ht, List.prefix_append_right_inj, name_pre ha.2.2 hya.2.2 no32 no32]
    simp only [List.cons_prefix_cons, List.nil_prefix, and_true, true_and, dg_eq hn (by omega : y.n ≤ 9), e]
    constructor
    · rintro ⟨f, g⟩; exact ⟨f.symm, g.symm⟩
    · rintro ⟨f, g⟩; exact ⟨f.symm, g.symm⟩
  · simp [It.text, It.body, e, List.cons_prefix_cons]
  · simp [It.text, It.body, e, List.cons_prefix_cons]

theorem mk_eq {a b : List UInt8} : (⟨a.toArray⟩ : ByteArray) = ⟨b.toArray⟩ ↔ a = b := ⟨mk_inj, fun h => by rw [h]⟩

theorem find_congr {α : Type} {l : List α} {p q : α → Bool} (h : ∀ x ∈ l, p x = q x) : l.find? p = l.find? q := by
  induction l with
  | nil => rfl
  | cons a l ih => rw [List.find?_cons, List.find?_cons, h a (by simp), ih (fun x hx => h x (by simp [hx]))]

/-- The item of the list that has the key, told by its text. -/
def ndT (L : List It) (k : Key) : ByteArray := match L.find? (fun y => keyIs k y.item) with | some y => textOf y | none => ⟨#[]⟩

theorem fnd_key {L : List It} {q : ByteArray} {k : Key} (h : ∀ y ∈ L, begB (textOf y) q = keyIs k y.item) : fnd (L.map textOf) q = ndT L k := by
  unfold fnd ndT
  rw [List.find?_map, find_congr (p := (fun s => begB s q) ∘ textOf) (q := fun y => keyIs k y.item) (fun x hx => h x hx)]
  cases L.find? (fun y => keyIs k y.item) <;> rfl

theorem beg_pre (y : It) (w : List UInt8) : begB (textOf y) ⟨w.toArray⟩ = true ↔ w <+: y.text := begB_iff y.text w

theorem key_target {y : It} (a : List UInt8) : keyIs ⟨1, ⟨a.toArray⟩, ⟨#[]⟩, 0⟩ y.item = true ↔ y.kind = 1 ∧ y.a = a := by
  unfold keyIs
  rw [decide_eq_true_iff]
  simp only [It.item]
  constructor
  · rintro ⟨h1, h2, _⟩; exact ⟨by omega, mk_inj h2⟩
  · rintro ⟨h1, h2⟩; simp [h1, h2]
theorem key_disk {y : It} (a : List UInt8) : keyIs ⟨0, ⟨a.toArray⟩, ⟨#[]⟩, 0⟩ y.item = true ↔ y.kind = 0 ∧ y.a = a := by
  unfold keyIs
  rw [decide_eq_true_iff]
  simp only [It.item]
  constructor
  · rintro ⟨h1, h2, _⟩; exact ⟨by omega, mk_inj h2⟩
  · rintro ⟨h1, h2⟩; simp [h1, h2]
theorem key_host {y : It} (a b : List UInt8) : keyIs ⟨3, ⟨a.toArray⟩, ⟨b.toArray⟩, 0⟩ y.item = true ↔ y.kind = 3 ∧ y.a = a ∧ y.b = b := by
  unfold keyIs
  rw [decide_eq_true_iff]
  simp only [It.item]
  constructor
  · rintro ⟨h1, h2, h3, _⟩
    have hk : y.kind = 3 := by omega
    rw [if_pos (Or.inl hk)] at h3
    exact ⟨hk, mk_inj h2, mk_inj h3⟩
  · rintro ⟨h1, h2, h3⟩; simp [h1, h2, h3]
theorem key_lun {y : It} (a : List UInt8) (n : Nat) : keyIs ⟨2, ⟨a.toArray⟩, ⟨#[]⟩, (n : Int)⟩ y.item = true ↔ y.kind = 2 ∧ y.a = a ∧ y.n = n := by
  unfold keyIs
  rw [decide_eq_true_iff]
  simp only [It.item]
  constructor
  · rintro ⟨h1, h2, _, h4⟩
    have hk : y.kind = 2 := by omega
    rw [if_pos (Or.inl hk)] at h4
    exact ⟨hk, mk_inj h2, by omega⟩
  · rintro ⟨h1, h2, h3⟩; simp [h1, h2, h3]

end Go.Proofs.YtdlhgbhaeedbdabGreat

/- 'needs'. -/
namespace Go.Proofs.YtdlhgbhaeedbdabGreat
open Go.RowKit

/-- What an item names, told by the texts of the list's items. -/
def ndL (L : List It) (x : It) : List ByteArray := (namesOf x.item).map (ndT L)

theorem cat3 (a b c : List UInt8) : ((⟨a.toArray⟩ ++ ⟨b.toArray⟩ : ByteArray) ++ ⟨c.toArray⟩) = ⟨(a ++ (b ++ c)).toArray⟩ := by
  apply ByteArray.ext
  simp [ByteArray.data_append]
theorem cat5 (a b c d e : List UInt8) : ((((⟨a.toArray⟩ ++ ⟨b.toArray⟩ : ByteArray) ++ ⟨c.toArray⟩) ++ ⟨d.toArray⟩) ++ ⟨e.toArray⟩) = ⟨(a ++ (b ++ (c ++ (d ++ e)))).toArray⟩ := by
  apply ByteArray.ext
  simp [ByteArray.data_append]

theorem mk_size (a : List UInt8) : (⟨a.toArray⟩ : ByteArray).size = a.length := by simp [ByteArray.size]

theorem textOf_size {x : It} (hx : x.ok) : (textOf x).size ≤ 100 := by
  rw [show textOf x = ⟨x.text.toArray⟩ from rfl, mk_size]
  rcases hx with ⟨ha, ⟨e, _⟩ | ⟨e, _⟩ | ⟨e, hb, _⟩ | ⟨e, hb, _⟩ | ⟨e, hb, _⟩⟩
  all_goals simp [It.text, It.body, e]
  all_goals (have := ha.2.1; try have := hb.2.1); omega

theorem bool_eq {a b : Bool} {p : Prop} (h1 : a = true ↔ p) (h2 : b = true ↔ p) : a = b := by
  rw [Bool.eq_iff_iff, h1, h2]

theorem fnd_target {L : List It} (hL : ∀ y ∈ L, y.ok) {a : List UInt8} (ha : isName a) : fnd (L.map textOf) ⟨([116, 97, 114, 103, 101, 116, 32] ++ (a ++ [59])).toArray⟩ = ndT L ⟨1, ⟨a.toArray⟩, ⟨#[]⟩, 0⟩ :=
  fnd_key fun y hy => bool_eq ((beg_pre y _).trans (pre_target (hL y hy) ha)) (key_target a)
theorem fnd_disk {L : List It} (hL : ∀ y ∈ L, y.ok) {a : List UInt8} (ha : isName a) : fnd (L.map textOf) ⟨([100, 105, 115, 107, 32] ++ (a ++ [32])).toArray⟩ = ndT L ⟨0, ⟨a.toArray⟩, ⟨#[]⟩, 0⟩ :=
  fnd_key fun y hy => bool_eq ((beg_pre y _).trans (pre_disk (hL y hy) ha)) (key_disk a)
theorem fnd_host {L : List It} (hL : ∀ y ∈ L, y.ok) {a b : List UInt8} (ha : isName a) (hb : isName b) : fnd (L.map textOf) ⟨([104, 111, 115, 116, 32] ++ (a ++ ([32] ++ (b ++ [59])))).toArray⟩ = ndT L ⟨3, ⟨a.toArray⟩, ⟨b.toArray⟩, 0⟩ :=
  fnd_key fun y hy => bool_eq ((beg_pre y _).trans (pre_host (hL y hy) ha hb)) (key_host a b)
theorem fnd_lun {L : List It} (hL : ∀ y ∈ L, y.ok) {a : List UInt8} (ha : isName a) {n : Nat} (hn : n ≤ 9) : fnd (L.map textOf) ⟨([108, 117, 110, 32] ++ (a ++ ([32] ++ ([dg n] ++ [32])))).toArray⟩ = ndT L ⟨2, ⟨a.toArray⟩, ⟨#[]⟩, (n : Int)⟩ :=
  fnd_key fun y hy => bool_eq ((beg_pre y _).trans (pre_lun (hL y hy) ha hn)) (key_lun a n)

theorem strs_two (w : World) (o : Nat → Obj) (a b : ByteArray) : o 0 = .cells #[.string a, .string b] 9 → StrsAt (w.alloc (o 0)) (.slice (some ⟨w.heap.size, 0, none⟩) 2 2) [a, b] := by
  intro e
  rw [e]
  refine Or.inr ⟨_, 2, rfl, by simp, by simp, fun i hi => ?_⟩
  match i, hi with
  | 0, _ => go_simp
  | 1, _ => go_simp
theorem strs_one (w : World) (a : ByteArray) : StrsAt (w.alloc (.cells #[.string a] 9)) (.slice (some ⟨w.heap.size, 0, none⟩) 1 1) [a] := by
  refine Or.inr ⟨_, 1, rfl, by simp, by simp, fun i hi => ?_⟩
  match i, hi with
  | 0, _ => go_simp

theorem add_run (a b : ByteArray) (h : a.size + b.size ≤ 1000) (w : World) : (Op.stringOp .add a b).run Tryz.prog w = .ok (.string (a ++ b)) w := run_string_add_sum (P := Tryz.prog) w a b (by omega)

set_option maxRecDepth 100000 in
set_option maxHeartbeats 1000000 in
theorem needs_any (g cap : Nat) (L : List It) (hL : ∀ y ∈ L, y.ok) (hl : L.length ≤ 24) (x : It) (hx : x.ok) (w : World) (hit : StrsIn w g 0 (L.map textOf)) :
    Calls Tryz.prog 103 #[.slice (some ⟨g, 0, none⟩) L.length cap, .string (textOf x)] w fun e w' => ∃ v, e = .returned v ∧ StrsAt w' v (ndL L x) ∧ Below w.heap.size w w' := by
  have hsz := textOf_size hx
  have hfind : ∀ q : ByteArray, q.size ≤ 1000 → Calls Tryz.prog 142 #[.slice (some ⟨g, 0, none⟩) L.length cap, .string q] w fun e w' => e = .returned (.string (fnd (L.map textOf) q)) ∧ w' = w := by
    intro q hq
    have := sfind_in g cap (L.map textOf) q w (by simp; omega) (by intro y hy; obtain ⟨z, hz, rfl⟩ := List.mem_map.1 hy; have := textOf_size (hL z hz); omega) (by omega) hit
    rw [List.length_map] at this
    exact this
  have hw : ∀ n : Nat, n ≤ 10 → Calls Tryz.prog 12 #[.string (textOf x), .int .i64 (n : Nat)] w fun e w' => e = .returned (.string (wrd (textOf x) n)) ∧ w' = w := fun n hn => word_n (textOf x) n w (by omega) hn
  have hr := rank_any (textOf x) w (by omega)
  rw [rank_text hx] at hr
  have hxa : isName x.a := hx.1
  have hal : x.a.length ≤ 4 := hxa.2.1
  have hAs : (⟨x.a.toArray⟩ : ByteArray).size ≤ 4 := by rw [mk_size]; exact hal
  by_cases h2 : x.kind = 2
  · obtain ⟨e1, e3⟩ := word_lun hx h2
    have hxb : isName x.b := by rcases hx.2 with ⟨e, _⟩ | ⟨e, _⟩ | ⟨e, h1, _⟩ | ⟨e, _⟩ | ⟨e, _⟩ <;> first | exact h1 | omega
    have hBs : (⟨x.b.toArray⟩ : ByteArray).size ≤ 4 := by rw [mk_size]; exact hxb.2.1
    have hnd : ndL L x = [ndT L ⟨1, ⟨x.a.toArray⟩, ⟨#[]⟩, 0⟩, ndT L ⟨0, ⟨x.b.toArray⟩, ⟨#[]⟩, 0⟩] := by simp [ndL, namesOf, It.item, h2]
    rw [hnd]
    have hw1 := hw 1 (by omega)
    have hw3 := hw 3 (by omega)
    rw [e1] at hw1
    rw [e3] at hw3
    rw [h2] at hr
    have a1 := add_run ⟨#[116, 97, 114, 103, 101, 116, 32]⟩ ⟨x.a.toArray⟩ (by have : (⟨#[116, 97, 114, 103, 101, 116, 32]⟩ : ByteArray).size = 7 := rfl; omega)
    have a2 := add_run (⟨#[116, 97, 114, 103, 101, 116, 32]⟩ ++ ⟨x.a.toArray⟩) ⟨#[59]⟩ (by rw [ByteArray.size_append]; have : (⟨#[116, 97, 114, 103, 101, 116, 32]⟩ : ByteArray).size = 7 := rfl; have : (⟨#[59]⟩ : ByteArray).size = 1 := rfl; omega)
    have a3 := add_run ⟨#[100, 105, 115, 107, 32]⟩ ⟨x.b.toArray⟩ (by have : (⟨#[100, 105, 115, 107, 32]⟩ : ByteArray).size = 5 := rfl; omega)
    have a4 := add_run (⟨#[100, 105, 115, 107, 32]⟩ ++ ⟨x.b.toArray⟩) ⟨#[32]⟩ (by rw [ByteArray.size_append]; have : (⟨#[100, 105, 115, 107, 32]⟩ : ByteArray).size = 5 := rfl; have : (⟨#[32]⟩ : ByteArray).size = 1 := rfl; omega)
    have q1 := cat3 [116, 97, 114, 103, 101, 116, 32] x.a [59]
    have q2 := cat3 [100, 105, 115, 107, 32] x.b [32]
    have f1 := hfind ⟨([116, 97, 114, 103, 101, 116, 32] ++ (x.a ++ [59])).toArray⟩ (by rw [mk_size]; simp; omega)
    have f2 := hfind ⟨([100, 105, 115, 107, 32] ++ (x.b ++ [32])).toArray⟩ (by rw [mk_size]; simp; have := hxb.2.1; omega)
    rw [fnd_target hL hxa, ← q1] at f1
    rw [fnd_disk hL hxb, ← q2] at f2
    generalize ndT L ⟨1, ⟨x.a.toArray⟩, ⟨#[]⟩, 0⟩ = N1 at *
    generalize ndT L ⟨0, ⟨x.b.toArray⟩, ⟨#[]⟩, 0⟩ = N2 at *
    generalize (⟨x.a.toArray⟩ : ByteArray) = A at *
    generalize (⟨x.b.toArray⟩ : ByteArray) = B at *
    generalize hQ1 : (⟨[116, 97, 114, 103, 101, 116, 32].toArray⟩ ++ A : ByteArray) = Q1 at *
    generalize hQ2 : (⟨[100, 105, 115, 107, 32].toArray⟩ ++ B : ByteArray) = Q2 at *
    generalize hR1 : (Q1 ++ ⟨[59].toArray⟩ : ByteArray) = R1 at *
    generalize hR2 : (Q2 ++ ⟨[32].toArray⟩ : ByteArray) = R2 at *
    generalize textOf x = X at *
    have F1 := hide f1
    have F2 := hide f2
    have W1 := hide hw1
    have W3 := hide hw3
    have HR := hide hr
    clear f1 f2 hw1 hw3 hr q1 q2 hQ1 hQ2 hR1 hR2 hfind hw hnd e1 e3 h2
    go_enter Tryz.func103, Tryz.ntmps103
    go_wp2_with fail
    refine (unhide W1).mono ?_
    rintro e w1 ⟨rfl, he⟩
    replace he := he.symm
    subst he
    go_wp2_with fail
    refine (unhide HR).mono ?_
    rintro e w1 ⟨rfl, he⟩
    replace he := he.symm
    subst he
    go_wp2_with fail
    refine (unhide F1).mono ?_
    rintro e w1 ⟨rfl, he⟩
    replace he := he.symm
    subst he
    go_wp2_with fail
    refine (unhide W3).mono ?_
    rintro e w1 ⟨rfl, he⟩
    replace he := he.symm
    subst he
    go_wp2_with fail
    refine (unhide F2).mono ?_
    rintro e w1 ⟨rfl, he⟩
    replace he := he.symm
    subst he
    go_wp2
    go_ret
    exact ⟨_, rfl, strs_two w (fun _ => .cells #[.string N1, .string N2] 9) N1 N2 rfl, (Below.refl _ _).alloc (Nat.le_refl _) _⟩
  by_cases h3 : x.kind = 3
  · have e1 := word_host hx h3
    have hnd : ndL L x = [ndT L ⟨1, ⟨x.a.toArray⟩, ⟨#[]⟩, 0⟩] := by simp [ndL, namesOf, It.item, h3]
    rw [hnd]
    have hw1 := hw 1 (by omega)
    rw [e1] at hw1
    rw [h3] at hr
    have a1 := add_run ⟨#[116, 97, 114, 103, 101, 116, 32]⟩ ⟨x.a.toArray⟩ (by have : (⟨#[116, 97, 114, 103, 101, 116, 32]⟩ : ByteArray).size = 7 := rfl; omega)
    have a2 := add_run (⟨#[116, 97, 114, 103, 101, 116, 32]⟩ ++ ⟨x.a.toArray⟩) ⟨#[59]⟩ (by rw [ByteArray.size_append]; have : (⟨#[116, 97, 114, 103, 101, 116, 32]⟩ : ByteArray).size = 7 := rfl; have : (⟨#[59]⟩ : ByteArray).size = 1 := rfl; omega)
    have q1 := cat3 [116, 97, 114, 103, 101, 116, 32] x.a [59]
    have f1 := hfind ⟨([116, 97, 114, 103, 101, 116, 32] ++ (x.a ++ [59])).toArray⟩ (by rw [mk_size]; simp; omega)
    rw [fnd_target hL hxa, ← q1] at f1
    generalize ndT L ⟨1, ⟨x.a.toArray⟩, ⟨#[]⟩, 0⟩ = N1 at *
    generalize (⟨x.a.toArray⟩ : ByteArray) = A at *
    generalize hQ1 : (⟨[116, 97, 114, 103, 101, 116, 32].toArray⟩ ++ A : ByteArray) = Q1 at *
    generalize hR1 : (Q1 ++ ⟨[59].toArray⟩ : ByteArray) = R1 at *
    generalize textOf x = X at *
    have F1 := hide f1
    have W1 := hide hw1
    have HR := hide hr
    clear f1 hw1 hr q1 hQ1 hR1 hfind hw hnd e1 h2 h3
    go_enter Tryz.func103, Tryz.ntmps103
    go_wp2_with fail
    refine (unhide W1).mono ?_
    rintro e w1 ⟨rfl, he⟩
    replace he := he.symm
    subst he
    go_wp2_with fail
    refine (unhide HR).mono ?_
    rintro e w1 ⟨rfl, he⟩
    replace he := he.symm
    subst he
    go_wp2_with fail
    refine (unhide F1).mono ?_
    rintro e w1 ⟨rfl, he⟩
    replace he := he.symm
    subst he
    go_wp2
    go_ret
    exact ⟨_, rfl, strs_one w N1, (Below.refl _ _).alloc (Nat.le_refl _) _⟩
  by_cases h4 : x.kind = 4
  · obtain ⟨e1, e2, e4⟩ := word_map hx h4
    have hxb : isName x.b ∧ x.m ≤ 7 := by rcases hx.2 with ⟨e, _⟩ | ⟨e, _⟩ | ⟨e, _⟩ | ⟨e, _⟩ | ⟨e, h1, _, h5⟩ <;> first | exact ⟨h1, h5⟩ | omega
    have hBs : (⟨x.b.toArray⟩ : ByteArray).size ≤ 4 := by rw [mk_size]; exact hxb.1.2.1
    have hMs : (⟨[dg x.m].toArray⟩ : ByteArray).size = 1 := rfl
    have hnd : ndL L x = [ndT L ⟨3, ⟨x.a.toArray⟩, ⟨x.b.toArray⟩, 0⟩, ndT L ⟨2, ⟨x.a.toArray⟩, ⟨#[]⟩, (x.m : Int)⟩] := by simp [ndL, namesOf, It.item, h4]
    rw [hnd]
    have hw1 := hw 1 (by omega)
    have hw2 := hw 2 (by omega)
    have hw4 := hw 4 (by omega)
    rw [e1] at hw1
    rw [e2] at hw2
    rw [e4, show (⟨#[dg x.m]⟩ : ByteArray) = ⟨[dg x.m].toArray⟩ from rfl] at hw4
    rw [h4] at hr
    have zH : (⟨#[104, 111, 115, 116, 32]⟩ : ByteArray).size = 5 := rfl
    have zU : (⟨#[108, 117, 110, 32]⟩ : ByteArray).size = 4 := rfl
    have z1 : (⟨#[32]⟩ : ByteArray).size = 1 := rfl
    have z2 : (⟨#[59]⟩ : ByteArray).size = 1 := rfl
    have a1 := add_run ⟨#[104, 111, 115, 116, 32]⟩ ⟨x.a.toArray⟩ (by omega)
    have a2 := add_run (⟨#[104, 111, 115, 116, 32]⟩ ++ ⟨x.a.toArray⟩) ⟨#[32]⟩ (by rw [ByteArray.size_append]; omega)
    have a3 := add_run ((⟨#[104, 111, 115, 116, 32]⟩ ++ ⟨x.a.toArray⟩) ++ ⟨#[32]⟩) ⟨x.b.toArray⟩ (by rw [ByteArray.size_append, ByteArray.size_append]; omega)
    have a4 := add_run (((⟨#[104, 111, 115, 116, 32]⟩ ++ ⟨x.a.toArray⟩) ++ ⟨#[32]⟩) ++ ⟨x.b.toArray⟩) ⟨#[59]⟩ (by rw [ByteArray.size_append, ByteArray.size_append, ByteArray.size_append]; omega)
    have b1 := add_run ⟨#[108, 117, 110, 32]⟩ ⟨x.a.toArray⟩ (by omega)
    have b2 := add_run (⟨#[108, 117, 110, 32]⟩ ++ ⟨x.a.toArray⟩) ⟨#[32]⟩ (by rw [ByteArray.size_append]; omega)
    have b3 := add_run ((⟨#[108, 117, 110, 32]⟩ ++ ⟨x.a.toArray⟩) ++ ⟨#[32]⟩) ⟨[dg x.m].toArray⟩ (by rw [ByteArray.size_append, ByteArray.size_append]; omega)
    have b4 := add_run (((⟨#[108, 117, 110, 32]⟩ ++ ⟨x.a.toArray⟩) ++ ⟨#[32]⟩) ++ ⟨[dg x.m].toArray⟩) ⟨#[32]⟩ (by rw [ByteArray.size_append, ByteArray.size_append, ByteArray.size_append]; omega)
    have q1 := cat5 [104, 111, 115, 116, 32] x.a [32] x.b [59]
    have q2 := cat5 [108, 117, 110, 32] x.a [32] [dg x.m] [32]
    have f1 := hfind ⟨([104, 111, 115, 116, 32] ++ (x.a ++ ([32] ++ (x.b ++ [59])))).toArray⟩ (by rw [mk_size]; simp; have := hxb.1.2.1; omega)
    have f2 := hfind ⟨([108, 117, 110, 32] ++ (x.a ++ ([32] ++ ([dg x.m] ++ [32])))).toArray⟩ (by rw [mk_size]; simp; omega)
    rw [fnd_host hL hxa hxb.1, ← q1] at f1
    rw [fnd_lun hL hxa (by omega), ← q2] at f2
    generalize ndT L ⟨3, ⟨x.a.toArray⟩, ⟨x.b.toArray⟩, 0⟩ = N1 at *
    generalize ndT L ⟨2, ⟨x.a.toArray⟩, ⟨#[]⟩, (x.m : Int)⟩ = N2 at *
    generalize (⟨x.a.toArray⟩ : ByteArray) = A at *
    generalize (⟨x.b.toArray⟩ : ByteArray) = B at *
    generalize (⟨[dg x.m].toArray⟩ : ByteArray) = D at *
    generalize hQ1 : (⟨[104, 111, 115, 116, 32].toArray⟩ ++ A : ByteArray) = Q1 at *
    generalize hQ2 : (⟨[108, 117, 110, 32].toArray⟩ ++ A : ByteArray) = Q2 at *
    generalize hR1 : (Q1 ++ ⟨[32].toArray⟩ : ByteArray) = R1 at *
    generalize hR2 : (Q2 ++ ⟨[32].toArray⟩ : ByteArray) = R2 at *
    generalize hS1 : (R1 ++ B : ByteArray) = S1 at *
    generalize hS2 : (R2 ++ D : ByteArray) = S2 at *
    generalize hT1 : (S1 ++ ⟨[59].toArray⟩ : ByteArray) = T1 at *
    generalize hT2 : (S2 ++ ⟨[32].toArray⟩ : ByteArray) = T2 at *
    generalize textOf x = X at *
    have F1 := hide f1
    have F2 := hide f2
    have W1 := hide hw1
    have W2 := hide hw2
    have W4 := hide hw4
    have HR := hide hr
    clear f1 f2 hw1 hw2 hw4 hr q1 q2 hQ1 hQ2 hR1 hR2 hS1 hS2 hT1 hT2 hfind hw hnd e1 e2 e4 h2 h3 h4
    go_enter Tryz.func103, Tryz.ntmps103
    go_wp2_with fail
    refine (unhide W1).mono ?_
    rintro e w1 ⟨rfl, he⟩
    replace he := he.symm
    subst he
    go_wp2_with fail
    refine (unhide HR).mono ?_
    rintro e w1 ⟨rfl, he⟩
    replace he := he.symm
    subst he
    go_wp2_with fail
    refine (unhide W2).mono ?_
    rintro e w1 ⟨rfl, he⟩
    replace he := he.symm
    subst he
    go_wp2_with fail
    refine (unhide F1).mono ?_
    rintro e w1 ⟨rfl, he⟩
    replace he := he.symm
    subst he
    go_wp2_with fail
    refine (unhide W4).mono ?_
    rintro e w1 ⟨rfl, he⟩
    replace he := he.symm
    subst he
    go_wp2_with fail
    refine (unhide F2).mono ?_
    rintro e w1 ⟨rfl, he⟩
    replace he := he.symm
    subst he
    go_wp2
    go_ret
    exact ⟨_, rfl, strs_two w (fun _ => .cells #[.string N1, .string N2] 9) N1 N2 rfl, (Below.refl _ _).alloc (Nat.le_refl _) _⟩
  · have hnd : ndL L x = [] := by simp [ndL, namesOf, It.item, h2, h3, h4]
    rw [hnd]
    have hw1 := hw 1 (by omega)
    have r2 : ((x.kind : Int) == 2) = false := by rw [beq_eq_false_iff_ne]; omega
    have r3 : ((x.kind : Int) == 3) = false := by rw [beq_eq_false_iff_ne]; omega
    have r4 : ((x.kind : Int) == 4) = false := by rw [beq_eq_false_iff_ne]; omega
    generalize wrd (textOf x) 1 = A at *
    generalize textOf x = X at *
    have W1 := hide hw1
    have HR := hide hr
    clear hw1 hr hfind hw hnd h2 h3 h4
    go_enter Tryz.func103, Tryz.ntmps103
    go_wp2_with fail
    refine (unhide W1).mono ?_
    rintro e w1 ⟨rfl, he⟩
    replace he := he.symm
    subst he
    go_wp2_with fail
    refine (unhide HR).mono ?_
    rintro e w1 ⟨rfl, he⟩
    replace he := he.symm
    subst he
    go_wp2
    go_ret
    exact ⟨_, rfl, Or.inl ⟨rfl, rfl⟩, Below.refl _ _⟩

end Go.Proofs.YtdlhgbhaeedbdabGreat

/- 'stays'. -/
namespace Go.Proofs.YtdlhgbhaeedbdabGreat
open Go.RowKit

theorem StrsAt.later {w w' : World} {v : Value} {l : List ByteArray} (h : StrsAt w v l) (hb : Below w.heap.size w w') : StrsAt w' v l := by
  rcases h with h | ⟨g, cap, e, hc, hi⟩
  · exact Or.inl h
  · exact Or.inr ⟨g, cap, e, hc, hi.later hb⟩

theorem slice_of_strs {w : World} {v : Value} {l : List ByteArray} (hv : StrsAt w v l) : ∃ a cap, v = .slice a l.length cap := by
  rcases hv with ⟨rfl, rfl⟩ | ⟨g, cap, rfl, _⟩
  · exact ⟨none, 0, rfl⟩
  · exact ⟨_, _, rfl⟩

set_option maxRecDepth 100000 in
set_option maxHeartbeats 400000 in
theorem in_at (v : Value) (l : List ByteArray) (s : ByteArray) (w : World) (hl : l.length ≤ 1000000) (hv : StrsAt w v l) :
    Calls Tryz.prog 59 #[v, .string s] w fun e w' => e = .returned (.bool (inB l s)) ∧ w' = w := by
  rcases hv with ⟨rfl, rfl⟩ | ⟨g, cap, rfl, _, hit⟩
  · go_enter Tryz.func59, Tryz.ntmps59
    go_wp2
    refine wp_loop_rounds 1 ?_
    rw [rounds_succ]
    go_wp2
    go_ret
    exact ⟨rfl, rfl⟩
  · exact in_any g cap l s w hl hit

/-- Does an item stay, looked at so deep? -/
def stB (L M : List It) : Nat → It → Bool
  | 0, x => inB (M.map textOf) (textOf x)
  | d + 1, x => inB (M.map textOf) (textOf x) && (namesOf x.item).all fun k => match L.find? (fun y => keyIs k y.item) with | some y => stB L M d y | none => false

set_option maxRecDepth 100000 in
set_option maxHeartbeats 400000 in
theorem stays_zero (L M : List It) (a b : Value) (ac bc : Nat) (aa ba : Option Addr) (x : It) (w : World) (hm : M.length ≤ 24) (ea : a = .slice aa L.length ac) (eb : b = .slice ba M.length bc) (hb : StrsAt w b (M.map textOf)) :
    Calls Tryz.prog 58 #[a, b, .string (textOf x), .int .i64 0] w fun e w' => e = .returned (.bool (stB L M 0 x)) ∧ Below w.heap.size w w' := by
  have hin := in_at b (M.map textOf) (textOf x) w (by simp; omega) hb
  have hnot : ∀ (x : Bool) (w : World), (Op.unary .not (.bool x)).run Tryz.prog w = .ok (.bool (!x)) w := fun _ _ => rfl
  show Calls Tryz.prog _ _ _ fun e w' => e = .returned (.bool (inB (M.map textOf) (textOf x))) ∧ _
  generalize inB (M.map textOf) (textOf x) = B at *
  generalize textOf x = X at *
  have Hin := hide hin
  clear hin hb
  subst ea
  subst eb
  go_enter Tryz.func58, Tryz.ntmps58
  go_wp2_with fail
  refine (unhide Hin).mono ?_
  rintro e w1 ⟨rfl, he⟩
  replace he := he.symm
  subst he
  go_wp2
  go_ret
  exact ⟨rfl, Below.refl _ _⟩

theorem all_take {α : Type} (l : List α) (p : α → Bool) (k : Nat) (h : k < l.length) (h1 : (l.take k).all p = true) : (l.take (k + 1)).all p = p l[k] := by
  rw [List.take_succ_eq_append_getElem h, List.all_append, h1]
  simp

set_option maxRecDepth 100000 in
set_option maxHeartbeats 1000000 in
theorem stays_step (L M : List It) (hL : ∀ y ∈ L, y.ok) (hl : L.length ≤ 24) (hm : M.length ≤ 24) (hR : Refs (L.map It.item)) (g ac bc : Nat) (b : Value) (ba : Option Addr) (eb : b = .slice ba M.length bc) (d : Nat) (D : Int) (hD : D = d + 1) (hd : d ≤ 5)
    (ih : ∀ y ∈ L, ∀ wx, StrsIn wx g 0 (L.map textOf) → StrsAt wx b (M.map textOf) → Calls Tryz.prog 58 #[.slice (some ⟨g, 0, none⟩) L.length ac, b, .string (textOf y), .int .i64 (D - 1)] wx fun e w' => e = .returned (.bool (stB L M d y)) ∧ Below wx.heap.size wx w')
    (x : It) (hx : x ∈ L) (w : World) (hit : StrsIn w g 0 (L.map textOf)) (hb : StrsAt w b (M.map textOf)) :
    Calls Tryz.prog 58 #[.slice (some ⟨g, 0, none⟩) L.length ac, b, .string (textOf x), .int .i64 D] w fun e w' => e = .returned (.bool (stB L M (d + 1) x)) ∧ Below w.heap.size w w' := by
  have hin := in_at b (M.map textOf) (textOf x) w (by simp; omega) hb
  have hnot : ∀ (x : Bool) (w : World), (Op.unary .not (.bool x)).run Tryz.prog w = .ok (.bool (!x)) w := fun _ _ => rfl
  have hDl : ¬ D ≤ 0 := by omega
  have hDr : D ≤ 6 := by omega
  have hD0 : 0 < D := by omega
  have hneed := needs_any g ac L hL hl x (hL x hx) w hit
  have hfull : stB L M (d + 1) x = (inB (M.map textOf) (textOf x) && (namesOf x.item).all fun k => match L.find? (fun y => keyIs k y.item) with | some y => stB L M d y | none => false) := rfl
  -- what is named is there
  have hk : ∀ k ∈ namesOf x.item, ∃ y ∈ L, L.find? (fun y => keyIs k y.item) = some y ∧ ndT L k = textOf y := by
    intro k hk
    obtain ⟨z, hz, hkz⟩ := hR x.item (List.mem_map.2 ⟨x, hx, rfl⟩) k hk
    obtain ⟨y, hy, rfl⟩ := List.mem_map.1 hz
    cases hf : L.find? (fun y => keyIs k y.item) with
    | none => rw [List.find?_eq_none] at hf; exact absurd hkz (hf y hy)
    | some q => exact ⟨q, List.mem_of_find?_eq_some hf, rfl, by simp [ndT, hf]⟩
  have hnl : (namesOf x.item).length ≤ 2 := namesOf_len x.item
  have hlen : (ndL L x).length = (namesOf x.item).length := by simp [ndL]
  cases hi0 : inB (M.map textOf) (textOf x) with
  | false =>
    rw [hi0] at hin
    have hfin : stB L M (d + 1) x = false := by rw [hfull, hi0]; rfl
    rw [hfin]
    generalize textOf x = X at *
    have Hin := hide hin
    clear hin hfin hi0 hneed hfull hD ih hk hlen hb
    subst eb
    go_enter Tryz.func58, Tryz.ntmps58
    go_wp2_with fail
    refine (unhide Hin).mono ?_
    rintro e w1 ⟨rfl, he⟩
    replace he := he.symm
    subst he
    go_wp2
    go_ret
    exact ⟨rfl, Below.refl _ _⟩
  | true =>
    rw [hi0] at hin
    rw [hi0, Bool.true_and] at hfull
    rw [hfull]
    obtain ⟨F, hF⟩ : ∃ F : Key → Bool, F = fun k => match L.find? (fun y => keyIs k y.item) with | some y => stB L M d y | none => false := ⟨_, rfl⟩
    rw [← hF]
    have hk2 : ∀ (i : Nat) (hi : i < (namesOf x.item).length), ∃ y ∈ L, (ndL L x)[i]? = some (textOf y) ∧ F (namesOf x.item)[i] = stB L M d y := by
      intro i hi
      obtain ⟨y, hy, e1, e2⟩ := hk _ (List.getElem_mem hi)
      exact ⟨y, hy, by simp [ndL, hi, e2], by rw [hF]; simp [e1]⟩
    have Hk := hide hk2
    have Hlen := hide hlen
    have Hin := hide hin
    have Hneed := hide hneed
    have Hih := hide ih
    have HitL := hide hit
    have HbM := hide hb
    clear hin hneed hfull ih hk hk2 hlen hF hi0 hD hit hb
    generalize textOf x = X at *
    generalize ndL L x = N at *
    generalize namesOf x.item = K at *
    have eb' := hide eb
    rw [eb]
    clear eb
    go_enter Tryz.func58, Tryz.ntmps58
    go_wp2_with fail
    refine (unhide (unhide eb' ▸ Hin)).mono ?_
    rintro e w1 ⟨rfl, he⟩
    replace he := he.symm
    subst he
    go_wp2_with fail
    refine (unhide Hneed).mono ?_
    rintro e w1 ⟨v, rfl, hnv, hb1⟩
    have hl1 := hb1.size
    obtain ⟨na, nc, rfl⟩ := slice_of_strs hnv
    rw [unhide Hlen]
    go_wp2
    go_loopw [9, 11] (fun ok i wr => ∃ k : Nat, k ≤ K.length ∧ i = .int .i64 k ∧ (K.take k).all F = true ∧ Below w1.heap.size w1 wr) (fun _ i _ => K.length - (intOf i).toNat)
    case atStart => exact ⟨0, Nat.zero_le _, rfl, by simp, Below.refl _ _⟩
    case round =>
      obtain ⟨k, hkk, rfl, hall, hbe⟩ := hrel
      have Hall := hide hall
      clear hall
      have hsz := hbe.size
      by_cases hlt : k < K.length
      · obtain ⟨y, hy, hyN, hyF⟩ := unhide Hk k hlt
        have hkN : k < N.length := by rw [unhide Hlen]; exact hlt
        have hyN' : N[k] = textOf y := by rw [List.getElem?_eq_getElem hkN] at hyN; simpa using hyN
        rcases hnv with ⟨_, hnil⟩ | ⟨ng, ncap, hve, _, hni⟩
        · rw [hnil] at hkN; simp at hkN
        have hae : na = some ⟨ng, 0, none⟩ := by injection hve
        subst hae
        have hcell := (hbe.cell (p := ⟨ng, 0 + k, none⟩) hni.1).trans (hni.2 k hkN)
        rw [hyN', Nat.zero_add] at hcell
        have hlt' : (k : Int) < (K.length : Int) := by omega
        have hrec := unhide Hih y hy wr ((unhide HitL).later (hb1.trans (hbe.mono hl1))) ((unhide HbM).later (hb1.trans (hbe.mono hl1)))
        have hstep := all_take K F k hlt (unhide Hall)
        rw [hyF] at hstep
        rw [unhide eb'] at hrec
        cases hs : stB L M d y with
        | true =>
          rw [hs] at hrec hstep
          have Hrec := hide hrec
          have Hst := hide hstep
          clear hrec hstep hs hyF hyN hyN' hve
          generalize textOf y = Y at *
          go_wp2_with (go_at_call 58; refine (unhide Hrec).mono ?_; rintro e w2 ⟨rfl, hb2⟩)
          go_roundw
          case rel => exact ⟨k + 1, by omega, by go_num, unhide Hst, hbe.trans (hb2.mono hsz)⟩
          case measure => simp [intOf]; omega
        | false =>
          rw [hs] at hrec hstep
          have hfin : K.all F = false := by
            rw [List.all_eq_false] at hstep ⊢
            obtain ⟨z, hz, hp⟩ := hstep
            exact ⟨z, List.mem_of_mem_take hz, hp⟩
          have Hrec := hide hrec
          have Hf := hide hfin
          clear hrec hstep hs hyF hyN hyN' hve hfin
          generalize textOf y = Y at *
          go_wp2_with (go_at_call 58; refine (unhide Hrec).mono ?_; rintro e w2 ⟨rfl, hb2⟩)
          go_ret
          exact ⟨ret_bool (unhide Hf).symm, hb1.trans ((hbe.trans (hb2.mono hsz)).mono hl1)⟩
      · have hfin := unhide Hall
        rw [List.take_of_length_le (by omega)] at hfin
        have Hf := hide hfin
        clear hfin
        go_wp2
        go_ret
        exact ⟨ret_bool (unhide Hf).symm, hb1.trans (hbe.mono hl1)⟩

end Go.Proofs.YtdlhgbhaeedbdabGreat
