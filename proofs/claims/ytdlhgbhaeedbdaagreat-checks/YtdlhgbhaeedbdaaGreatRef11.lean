/- Keys as texts, and as the program has them: the same. Plain mathematics. -/
import Derived.Test.YtdlhgbhaeedbdaaGreatRef10
namespace Go.Proofs.YtdlhgbhaeedbdaaGreat
open Go.RowKit

/-- A key's text. -/
def kq (k : Nat) (a b : List UInt8) (n : Nat) : List UInt8 :=
  if k = 0 then [100, 105, 115, 107, 32] ++ (a ++ 32 :: []) else if k = 1 then [116, 97, 114, 103, 101, 116, 32] ++ (a ++ 32 :: []) else if k = 2 then [108, 117, 110, 32] ++ (a ++ 32 :: ([dg n] ++ 32 :: []))
  else if k = 3 then [104, 111, 115, 116, 32] ++ (a ++ 32 :: (b ++ 32 :: [])) else [109, 97, 112, 32] ++ (a ++ 32 :: (b ++ 32 :: ([dg n] ++ 32 :: [])))

/-- What a key of this kind may hold. -/
def kok (k : Nat) (a b : List UInt8) (n : Nat) : Prop := k ≤ 4 ∧ isName a ∧ ((k = 3 ∨ k = 4) ∧ isName b ∨ (k ≠ 3 ∧ k ≠ 4) ∧ b = []) ∧ ((k = 2 ∨ k = 4) ∧ n ≤ 7 ∨ (k ≠ 2 ∧ k ≠ 4) ∧ n = 0)

theorem split_sp {a b u v : List UInt8} (ha : (32 : UInt8) ∉ a) (hb : (32 : UInt8) ∉ b) (h : a ++ 32 :: u = b ++ 32 :: v) : a = b ∧ u = v := by
  induction a generalizing b with
  | nil =>
    cases b with
    | nil => simpa using h
    | cons c b => simp at h; exact absurd (by rw [← h.1]; simp) hb
  | cons d a ih =>
    cases b with
    | nil => simp at h; exact absurd (by rw [h.1]; simp) ha
    | cons c b =>
      simp only [List.cons_append, List.cons.injEq] at h
      obtain ⟨h1, h2⟩ := ih (fun e => ha (by simp [e])) (fun e => hb (by simp [e])) h.2
      exact ⟨by rw [h.1, h1], h2⟩

theorem dg_inj {n m : Nat} (hn : n ≤ 9) (hm : m ≤ 9) (h : dg n = dg m) : n = m := by
  have := dg_nat hn
  rw [h, dg_nat hm] at this
  omega

theorem kq_inj {k k' : Nat} {a a' b b' : List UInt8} {n n' : Nat} (h : kok k a b n) (h' : kok k' a' b' n') (e : kq k a b n = kq k' a' b' n') : k = k' ∧ a = a' ∧ b = b' ∧ n = n' := by
  obtain ⟨hk, ha, hb, hn⟩ := h
  obtain ⟨hk', ha', hb', hn'⟩ := h'
  have hd : k = k' := by
    have hf := congrArg List.head? e
    have c1 : k = 0 ∨ k = 1 ∨ k = 2 ∨ k = 3 ∨ k = 4 := by omega
    have c2 : k' = 0 ∨ k' = 1 ∨ k' = 2 ∨ k' = 3 ∨ k' = 4 := by omega
    rcases c1 with rfl | rfl | rfl | rfl | rfl <;> rcases c2 with rfl | rfl | rfl | rfl | rfl <;> first | rfl | (simp [kq] at hf)
  subst hd
  have sa := name_sp ha
  have sa' := name_sp ha'
  have c1 : k = 0 ∨ k = 1 ∨ k = 2 ∨ k = 3 ∨ k = 4 := by omega
  refine ⟨rfl, ?_⟩
  rcases c1 with rfl | rfl | rfl | rfl | rfl
  · simp only [kq, if_true] at e
    obtain ⟨h1, _⟩ := split_sp sa sa' (List.append_cancel_left e)
    rcases hb with ⟨q, _⟩ | ⟨_, rfl⟩
    · omega
    rcases hb' with ⟨q, _⟩ | ⟨_, rfl⟩
    · omega
    exact ⟨h1, rfl, by omega⟩
  · have e2 : [116, 97, 114, 103, 101, 116, 32] ++ (a ++ 32 :: []) = [116, 97, 114, 103, 101, 116, 32] ++ (a' ++ 32 :: []) := by simpa [kq] using e
    obtain ⟨h1, _⟩ := split_sp sa sa' (List.append_cancel_left e2)
    rcases hb with ⟨q, _⟩ | ⟨_, rfl⟩
    · omega
    rcases hb' with ⟨q, _⟩ | ⟨_, rfl⟩
    · omega
    exact ⟨h1, rfl, by omega⟩
  · have e2 : [108, 117, 110, 32] ++ (a ++ 32 :: ([dg n] ++ 32 :: [])) = [108, 117, 110, 32] ++ (a' ++ 32 :: ([dg n'] ++ 32 :: [])) := by simpa [kq] using e
    obtain ⟨h1, h2⟩ := split_sp sa sa' (List.append_cancel_left e2)
    simp at h2
    rcases hb with ⟨q, _⟩ | ⟨_, rfl⟩
    · omega
    rcases hb' with ⟨q, _⟩ | ⟨_, rfl⟩
    · omega
    exact ⟨h1, rfl, dg_inj (by omega) (by omega) h2⟩
  · have e2 : [104, 111, 115, 116, 32] ++ (a ++ 32 :: (b ++ 32 :: [])) = [104, 111, 115, 116, 32] ++ (a' ++ 32 :: (b' ++ 32 :: [])) := by simpa [kq] using e
    obtain ⟨h1, h2⟩ := split_sp sa sa' (List.append_cancel_left e2)
    have hb1 : isName b := by rcases hb with ⟨_, q⟩ | ⟨q, _⟩ <;> first | exact q | omega
    have hb2 : isName b' := by rcases hb' with ⟨_, q⟩ | ⟨q, _⟩ <;> first | exact q | omega
    obtain ⟨h3, _⟩ := split_sp (name_sp hb1) (name_sp hb2) h2
    exact ⟨h1, h3, by omega⟩
  · have e2 : [109, 97, 112, 32] ++ (a ++ 32 :: (b ++ 32 :: ([dg n] ++ 32 :: []))) = [109, 97, 112, 32] ++ (a' ++ 32 :: (b' ++ 32 :: ([dg n'] ++ 32 :: []))) := by simpa [kq] using e
    obtain ⟨h1, h2⟩ := split_sp sa sa' (List.append_cancel_left e2)
    have hb1 : isName b := by rcases hb with ⟨_, q⟩ | ⟨q, _⟩ <;> first | exact q | omega
    have hb2 : isName b' := by rcases hb' with ⟨_, q⟩ | ⟨q, _⟩ <;> first | exact q | omega
    obtain ⟨h3, h4⟩ := split_sp (name_sp hb1) (name_sp hb2) h2
    simp at h4
    exact ⟨h1, h3, dg_inj (by omega) (by omega) h4⟩

def hostL (x : It) : List UInt8 := if x.kind = 3 ∨ x.kind = 4 then x.b else []
def numL (x : It) : Nat := if x.kind = 2 ∨ x.kind = 4 then x.n else 0

theorem keyT_kq {x : It} (hx : x.ok) : keyT x = kq x.kind x.a (hostL x) (numL x) ∧ kok x.kind x.a (hostL x) (numL x) := by
  rcases hx with ⟨ha, ⟨e, e1, _, _, _⟩ | ⟨e, e1, _⟩ | ⟨e, hb, hn, _⟩ | ⟨e, hb, hn, _⟩ | ⟨e, hb, hn, _⟩⟩
  · exact ⟨by simp [keyT, kn, words, winit, wlast, segs, kq, e], by simp [kok, hostL, numL, e, ha]⟩
  · exact ⟨by simp [keyT, kn, words, winit, wlast, segs, kq, e], by simp [kok, hostL, numL, e, ha]⟩
  · exact ⟨by simp [keyT, kn, words, winit, wlast, segs, kq, e, numL], by simp [kok, hostL, numL, e, ha, hn]⟩
  · exact ⟨by simp [keyT, kn, words, winit, wlast, segs, kq, e, hostL], by simp [kok, hostL, numL, e, ha, hb]⟩
  · exact ⟨by simp [keyT, kn, words, winit, wlast, segs, kq, e, hostL, numL], by simp [kok, hostL, numL, e, ha, hb, hn]⟩

theorem mkS_inj {a b : List UInt8} (h : mkS a = mkS b) : a = b := by
  have := congrArg (fun s : ByteArray => s.data.toList) h
  simpa [mkS] using this

/-- The program's look at a key is the document's. -/
theorem keyIs_q {x : It} (k : Nat) (a b : List UInt8) (n : Nat) : keyIs ⟨(k : Int), mkS a, mkS b, (n : Int)⟩ x.item = true ↔ (x.kind = k ∧ x.a = a ∧ hostL x = b ∧ numL x = n) := by
  unfold keyIs
  rw [decide_eq_true_iff]
  have hh : x.item.host = mkS (hostL x) := by
    unfold It.item hostL mkS
    by_cases c : x.kind = 3 ∨ x.kind = 4
    · simp [c]
    · simp [c]
  have hn : x.item.number = (numL x : Int) := by
    unfold It.item numL
    by_cases c : x.kind = 2 ∨ x.kind = 4
    · simp [c]
    · simp [c]
  constructor
  · rintro ⟨h1, h2, h3, h4⟩
    rw [hh] at h3
    rw [hn] at h4
    exact ⟨Int.ofNat_inj.1 h1, mkS_inj h2, mkS_inj h3, Int.ofNat_inj.1 h4⟩
  · rintro ⟨h1, h2, h3, h4⟩
    exact ⟨Int.ofNat_inj.2 h1, congrArg mkS h2, by rw [hh, h3], by rw [hn, h4]⟩

theorem item_key (x : It) : x.item.key = ⟨(x.kind : Int), mkS x.a, mkS (hostL x), (numL x : Int)⟩ := by
  unfold Item.key It.item hostL numL mkS
  by_cases c : x.kind = 3 ∨ x.kind = 4 <;> by_cases d : x.kind = 2 ∨ x.kind = 4 <;> simp [c, d]

theorem key_iff {x y : It} (hx : x.ok) (hy : y.ok) : keyOf x = keyOf y ↔ keyIs y.item.key x.item = true := by
  rw [item_key, keyIs_q]
  obtain ⟨e1, k1⟩ := keyT_kq hx
  obtain ⟨e2, k2⟩ := keyT_kq hy
  constructor
  · intro h
    have := mkS_inj h
    rw [e1, e2] at this
    exact kq_inj k1 k2 this
  · rintro ⟨h1, h2, h3, h4⟩
    unfold keyOf
    rw [e1, e2, h1, h2, h3, h4]

theorem twice_iff {L : List It} (hL : ∀ x ∈ L, x.ok) {i : Nat} (hi : i < L.length) : inR ((L.map keyOf).take i) (keyOf L[i]) = twiceAt (L.map It.item) i := by
  rw [Bool.eq_iff_iff, inR_true]
  simp only [twiceAt, List.getElem?_map, List.getElem?_eq_getElem hi, Option.map_some]
  rw [← List.map_take, ← List.map_take, List.any_map, List.any_eq_true, List.mem_map]
  constructor
  · rintro ⟨x, hx, e⟩
    exact ⟨x, hx, (key_iff (hL x (List.mem_of_mem_take hx)) (hL _ (List.getElem_mem hi))).1 e⟩
  · rintro ⟨x, hx, e⟩
    exact ⟨x, hx, (key_iff (hL x (List.mem_of_mem_take hx)) (hL _ (List.getElem_mem hi))).2 e⟩

/-- One key that is named. -/
theorem named_one {L : List It} (hL : ∀ x ∈ L, x.ok) {k : Nat} {a b : List UInt8} {n : Nat} (hk : kok k a b n) : inR (L.map keyOf) (mkS (kq k a b n)) = (L.map It.item).any (keyIs ⟨(k : Int), mkS a, mkS b, (n : Int)⟩) := by
  rw [Bool.eq_iff_iff, inR_true, List.any_map, List.any_eq_true, List.mem_map]
  constructor
  · rintro ⟨x, hx, e⟩
    obtain ⟨e1, k1⟩ := keyT_kq (hL x hx)
    have := mkS_inj e
    rw [e1] at this
    exact ⟨x, hx, (keyIs_q k a b n).2 (kq_inj k1 hk this)⟩
  · rintro ⟨x, hx, e⟩
    obtain ⟨h1, h2, h3, h4⟩ := (keyIs_q k a b n).1 e
    obtain ⟨e1, _⟩ := keyT_kq (hL x hx)
    exact ⟨x, hx, by unfold keyOf; rw [e1, h1, h2, h3, h4]⟩

theorem named_all {L : List It} (hL : ∀ x ∈ L, x.ok) {y : It} (hy : y.ok) : ((namedT y).all fun t => inR (L.map keyOf) (mkS t)) = (namesOf y.item).all fun k => (L.map It.item).any (keyIs k) := by
  rcases hy with ⟨ha, ⟨e, _⟩ | ⟨e, _⟩ | ⟨e, hb, _, _⟩ | ⟨e, hb, _⟩ | ⟨e, hb, _, hm⟩⟩
  · simp [namedT, namesOf, It.item, e]
  · simp [namedT, namesOf, It.item, e]
  · have q1 := named_one hL (k := 1) (a := y.a) (b := []) (n := 0) (by simp [kok, ha])
    have q2 := named_one hL (k := 0) (a := y.b) (b := []) (n := 0) (by simp [kok, hb])
    rw [show (namedT y) = [kq 1 y.a [] 0, kq 0 y.b [] 0] from by simp [namedT, kq, e],
      show namesOf y.item = [⟨(1 : Nat), mkS y.a, mkS [], ((0 : Nat) : Int)⟩, ⟨(0 : Nat), mkS y.b, mkS [], ((0 : Nat) : Int)⟩] from by simp [namesOf, It.item, e, mkS]]
    simp only [List.all_cons, List.all_nil, q1, q2]
  · have q1 := named_one hL (k := 1) (a := y.a) (b := []) (n := 0) (by simp [kok, ha])
    rw [show (namedT y) = [kq 1 y.a [] 0] from by simp [namedT, kq, e],
      show namesOf y.item = [⟨(1 : Nat), mkS y.a, mkS [], ((0 : Nat) : Int)⟩] from by simp [namesOf, It.item, e, mkS]]
    simp only [List.all_cons, List.all_nil, q1]
  · have q1 := named_one hL (k := 3) (a := y.a) (b := y.b) (n := 0) (by simp [kok, ha, hb])
    have q2 := named_one hL (k := 2) (a := y.a) (b := []) (n := y.m) (by simp [kok, ha, hm])
    rw [show (namedT y) = [kq 3 y.a y.b 0, kq 2 y.a [] y.m] from by simp [namedT, kq, e],
      show namesOf y.item = [⟨(3 : Nat), mkS y.a, mkS y.b, ((0 : Nat) : Int)⟩, ⟨(2 : Nat), mkS y.a, mkS [], (y.m : Int)⟩] from by simp [namesOf, It.item, e, mkS]]
    simp only [List.all_cons, List.all_nil, q1, q2]

theorem whole_iff {L : List It} (hL : ∀ x ∈ L, x.ok) {i : Nat} (hi : i < L.length) : ((namedT L[i]).all fun t => inR (L.map keyOf) (mkS t)) = !(lostAt (L.map It.item) i) := by
  rw [named_all hL (hL _ (List.getElem_mem hi))]
  simp only [lostAt, List.getElem?_map, List.getElem?_eq_getElem hi, Option.map_some, Bool.not_not]

end Go.Proofs.YtdlhgbhaeedbdaaGreat
