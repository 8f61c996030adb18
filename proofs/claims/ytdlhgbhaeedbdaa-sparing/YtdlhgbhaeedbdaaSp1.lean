/- 'word', 'find', 'times'. -/
import Derived.Test.YtdlhgbhaeedbdaaTexts2
import Derived.Test.YtdlhgbhaeedbdaaPureA
namespace Go.Proofs.Ytdlhgbhaeedbdaa
open Go.RowKit

/-- A word: the bytes up to the next blank or semicolon, n of them passed by. -/
def wrdL : List UInt8 → Nat → List UInt8 → List UInt8
  | [], _, _ => []
  | c :: r, n, acc => if c = 32 ∨ c = 59 then (match n with | 0 => acc | n + 1 => wrdL r n []) else wrdL r n (acc ++ [c])

theorem wrdL_cons (c : UInt8) (r : List UInt8) (n : Nat) (acc : List UInt8) : wrdL (c :: r) n acc = if c = 32 ∨ c = 59 then (match n with | 0 => acc | n + 1 => wrdL r n []) else wrdL r n (acc ++ [c]) := by
  cases n <;> rfl

def wrd (p : ByteArray) (n : Nat) : ByteArray := ⟨(wrdL (rest p 0) n []).toArray⟩

theorem rest_cons {p : ByteArray} {i : Nat} (h : i < p.size) : rest p i = p[i] :: rest p (i + 1) := by
  have hl : i < p.data.toList.length := by simpa using h
  unfold rest
  rw [List.drop_eq_getElem_cons hl]
  rfl

theorem ext_self (p : ByteArray) (i : Nat) : (p.extract i i).data.toList = [] := by
  rw [ByteArray.data_extract, Array.toList_extract, List.extract_eq_take_drop]; simp

theorem ext_more {p : ByteArray} {f i : Nat} (hf : f ≤ i) (h : i < p.size) : (p.extract f (i + 1)).data.toList = (p.extract f i).data.toList ++ [p[i]] := by
  rw [ByteArray.data_extract, Array.toList_extract, ByteArray.data_extract, Array.toList_extract, List.extract_eq_take_drop, List.extract_eq_take_drop]
  have hsz : p.data.toList.length = p.size := by simp
  have hl : i - f < (p.data.toList.drop f).length := by rw [List.length_drop]; omega
  rw [show i + 1 - f = (i - f) + 1 from by omega, List.take_succ_eq_append_getElem hl]
  congr 2
  rw [List.getElem_drop]
  simp only [show f + (i - f) = i from by omega]
  rfl

theorem byte_ne {c : UInt8} {k : Nat} (hk : k < 256) (h : ¬ c = UInt8.ofNat k) : ((c.toNat : Int) == (k : Int)) = false := by
  rw [beq_eq_false_iff_ne]
  intro e
  apply h
  apply UInt8.toNat_inj.1
  rw [UInt8.toNat_ofNat']
  omega

theorem ret_str {a b : ByteArray} (h : a = b) : Ending.returned (.string a) = .returned (.string b) := by rw [h]

set_option maxRecDepth 100000 in
set_option maxHeartbeats 400000 in
theorem word_n (p : ByteArray) (n0 : Nat) (w : World) (hp : p.size ≤ 1000000) (hn0 : n0 ≤ 10) :
    Calls Try.prog 69 #[.string p, .int .i64 (n0 : Nat)] w fun e w' => e = .returned (.string (wrd p n0)) ∧ w' = w := by
  go_enter Try.func69, Try.ntmps69
  go_wp2
  go_loop [1, 5, 6] (fun nv fv i => ∃ n f k : Nat, n ≤ 10 ∧ f ≤ k ∧ k ≤ p.size ∧ nv = .int .i64 (n : Nat) ∧ fv = .int .i64 (f : Nat) ∧ i = .int .i64 (k : Nat) ∧ wrdL (rest p k) n ((p.extract f k).data.toList) = wrdL (rest p 0) n0 []) (fun _ _ i => p.size - (intOf i).toNat)
  case atStart => exact ⟨n0, 0, 0, hn0, Nat.le_refl _, Nat.zero_le _, rfl, rfl, rfl, by rw [ext_self]⟩
  case round =>
    obtain ⟨n, f, k, hn, hfk, hk, rfl, rfl, rfl, hinv⟩ := hrel
    by_cases hlt : k < p.size
    · have hlt' : (k : Int) < (p.size : Int) := by omega
      have hfk' : (f : Int) ≤ (k : Int) := by omega
      rw [rest_cons hlt, wrdL_cons] at hinv
      have hmore := ext_more hfk hlt
      have hself := ext_self p (k + 1)
      by_cases hsep : p[k] = 32 ∨ p[k] = 59
      · rw [if_pos hsep] at hinv
        have hb : (((p[k].toNat : Int) == 32) = true) ∨ (((p[k].toNat : Int) == 32) = false ∧ ((p[k].toNat : Int) == 59) = true) := by
          rcases hsep with h | h
          · left; rw [h]; rfl
          · right; rw [h]; exact ⟨rfl, rfl⟩
        cases n with
        | zero =>
          have hfin : p.extract f k = wrd p n0 := by
            unfold wrd
            rw [← hinv, bytes_mk]
          have Hf := hide hfin
          clear hinv hmore hself hsep hfin
          rcases hb with h1 | ⟨h1, h2⟩
          · go_wp2
            go_ret
            exact ⟨ret_str (unhide Hf), rfl⟩
          · go_wp2
            go_ret
            exact ⟨ret_str (unhide Hf), rfl⟩
        | succ n =>
          have hz : (((n + 1 : Nat) : Int) == 0) = false := by rw [beq_eq_false_iff_ne]; omega
          simp only at hinv
          have hinv2 : wrdL (rest p (k + 1)) n (p.extract (k + 1) (k + 1)).data.toList = wrdL (rest p 0) n0 [] := by rw [hself]; exact hinv
          have Hi := hide hinv2
          clear hinv hinv2 hmore hself hsep
          rcases hb with h1 | ⟨h1, h2⟩
          · go_wp2
            go_round
            case rel => exact ⟨n, k + 1, k + 1, by omega, Nat.le_refl _, by omega, by go_num, by go_num, by go_num, unhide Hi⟩
            case measure => simp [intOf]; omega
          · go_wp2
            go_round
            case rel => exact ⟨n, k + 1, k + 1, by omega, Nat.le_refl _, by omega, by go_num, by go_num, by go_num, unhide Hi⟩
            case measure => simp [intOf]; omega
      · rw [if_neg hsep, ← hmore] at hinv
        have h1 : ((p[k].toNat : Int) == 32) = false := byte_ne (k := 32) (by omega) (fun h => hsep (Or.inl h))
        have h2 : ((p[k].toNat : Int) == 59) = false := byte_ne (k := 59) (by omega) (fun h => hsep (Or.inr h))
        have Hi := hide hinv
        clear hinv hmore hself hsep
        go_wp2
        go_round
        case rel => exact ⟨n, f, k + 1, hn, by omega, by omega, rfl, rfl, by go_num, unhide Hi⟩
        case measure => simp [intOf]; omega
    · have hr : rest p k = [] := rest_nil.2 (by omega)
      rw [hr] at hinv
      have hfin : (⟨#[]⟩ : ByteArray) = wrd p n0 := by unfold wrd; rw [← hinv]; rfl
      have Hf := hide hfin
      clear hinv hr hfin
      go_wp2
      go_ret
      exact ⟨ret_str (unhide Hf), rfl⟩

/-- The first text that begins so, or none. -/
def fnd (l : List ByteArray) (t : ByteArray) : ByteArray := (l.find? fun s => begB s t).getD ⟨#[]⟩

set_option maxRecDepth 100000 in
set_option maxHeartbeats 400000 in
theorem sfind_in (g cap : Nat) (l : List ByteArray) (t : ByteArray) (w : World) (hl : l.length ≤ 1000000) (hs : ∀ x ∈ l, x.size ≤ 1000000) (ht : t.size ≤ 1000000) (hit : StrsIn w g 0 l) :
    Calls Try.prog 70 #[.slice (some ⟨g, 0, none⟩) l.length cap, .string t] w fun e w' => e = .returned (.string (fnd l t)) ∧ w' = w := by
  go_enter Try.func70, Try.ntmps70
  go_wp2
  go_loop [5] (fun i => ∃ k : Nat, k ≤ l.length ∧ i = .int .i64 k ∧ ∀ x ∈ l.take k, begB x t = false) (fun i => l.length - (intOf i).toNat)
  case atStart => exact ⟨0, Nat.zero_le _, rfl, by simp⟩
  case round =>
    obtain ⟨k, hk, rfl, hno⟩ := hrel
    have Hno := hide hno
    clear hno
    by_cases hlt : k < l.length
    · have hc := hit.2 k hlt
      rw [Nat.zero_add] at hc
      obtain ⟨x, hx⟩ : ∃ x, x = l[k] := ⟨_, rfl⟩
      rw [← hx] at hc
      have hlt' : (k : Int) < (l.length : Int) := by omega
      have hb := begins_any x t w (hs x (by rw [hx]; exact List.getElem_mem hlt)) ht
      have hsplit : l = l.take k ++ x :: l.drop (k + 1) := by rw [hx, List.getElem_cons_drop, List.take_append_drop]
      cases hd : begB x t with
      | true =>
        rw [hd] at hb
        have hfin : fnd l t = x := by
          unfold fnd
          rw [hsplit, List.find?_append, List.find?_eq_none.2 (fun y hy => by rw [unhide Hno y hy]; simp), Option.none_or, List.find?_cons, hd]
          rfl
        have Hf := hide hfin
        have Hb := hide hb
        clear hb hd hfin hsplit hx
        go_wp2_with (go_at_call 53; refine (unhide Hb).mono ?_; rintro e w1 ⟨rfl, he⟩; replace he := he.symm; subst he)
        go_ret
        exact ⟨ret_str (unhide Hf).symm, rfl⟩
      | false =>
        rw [hd] at hb
        have hno : ∀ y ∈ l.take (k + 1), begB y t = false := by
          intro y hy
          rw [List.take_succ_eq_append_getElem hlt, List.mem_append] at hy
          rcases hy with h | h
          · exact unhide Hno y h
          · simp at h; rw [h, ← hx]; exact hd
        have H2 := hide hno
        have Hb := hide hb
        clear hb hd hno hsplit hx
        go_wp2_with (go_at_call 53; refine (unhide Hb).mono ?_; rintro e w1 ⟨rfl, he⟩; replace he := he.symm; subst he)
        go_round
        case rel => exact ⟨k + 1, by omega, by go_num, unhide H2⟩
        case measure => simp [intOf]; omega
    · have hfin : fnd l t = ⟨#[]⟩ := by
        have hno := unhide Hno
        rw [List.take_of_length_le (by omega)] at hno
        unfold fnd
        rw [List.find?_eq_none.2 (fun y hy => by rw [hno y hy]; simp)]
        rfl
      have Hf := hide hfin
      clear hfin
      go_wp2
      go_ret
      exact ⟨ret_str (unhide Hf).symm, rfl⟩

/-- How often a text stands in a list. -/
def cnt (l : List ByteArray) (s : ByteArray) : Nat := l.countP fun x => decide (x = s)

theorem cnt_take (l : List ByteArray) (s : ByteArray) (k : Nat) (h : k < l.length) : cnt (l.take (k + 1)) s = cnt (l.take k) s + if l[k] = s then 1 else 0 := by
  unfold cnt
  rw [List.take_succ_eq_append_getElem h, List.countP_append]
  congr 1
  rw [List.countP_cons]
  simp

theorem cnt_le (l : List ByteArray) (s : ByteArray) : cnt l s ≤ l.length := List.countP_le_length

set_option maxRecDepth 100000 in
set_option maxHeartbeats 400000 in
theorem times_in (g o cap : Nat) (l : List ByteArray) (s : ByteArray) (w : World) (hl : l.length ≤ 1000000) (hit : StrsIn w g o l) (ho : o = 0) :
    Calls Try.prog 34 #[.slice (some ⟨g, o, none⟩) l.length cap, .string s] w fun e w' => e = .returned (.int .i64 (cnt l s : Nat)) ∧ w' = w := by
  subst ho
  go_enter Try.func34, Try.ntmps34
  go_wp2
  go_loop [5, 6] (fun c i => ∃ k : Nat, k ≤ l.length ∧ i = .int .i64 k ∧ c = .int .i64 (cnt (l.take k) s : Nat)) (fun _ i => l.length - (intOf i).toNat)
  case atStart => exact ⟨0, Nat.zero_le _, rfl, rfl⟩
  case round =>
    obtain ⟨k, hk, rfl, rfl⟩ := hrel
    have hcl := cnt_le (l.take k) s
    have hcl2 : cnt (l.take k) s ≤ 1000000 := by simp at hcl; omega
    by_cases hlt : k < l.length
    · have hc := hit.2 k hlt
      rw [Nat.zero_add] at hc
      have hst := cnt_take l s k hlt
      obtain ⟨x, hx⟩ : ∃ x, x = l[k] := ⟨_, rfl⟩
      rw [← hx] at hc hst
      have hlt' : (k : Int) < (l.length : Int) := by omega
      clear hx hcl
      by_cases he : x = s
      · rw [if_pos he] at hst
        have he' : (x.toList == s.toList) = true := by rw [he]; simp
        have Hs := hide hst
        clear he hst
        generalize cnt (l.take k) s = C at *
        go_wp2
        go_round
        case rel => exact ⟨k + 1, by omega, by go_num, by rw [unhide Hs]; go_num⟩
        case measure => simp [intOf]; omega
      · rw [if_neg he, Nat.add_zero] at hst
        have he' : (x.toList == s.toList) = false := by rw [beq_eq_false_iff_ne]; exact fun h => he (tl_inj h)
        have Hs := hide hst
        clear he hst
        go_wp2
        go_round
        case rel => exact ⟨k + 1, by omega, by go_num, by rw [unhide Hs]; rfl⟩
        case measure => simp [intOf]; omega
    · have hall : l.take k = l := List.take_of_length_le (by omega)
      rw [hall]
      go_wp2
      go_ret
      exact ⟨rfl, rfl⟩

end Go.Proofs.Ytdlhgbhaeedbdaa
