/- Sp2, Sp3, Sp4. -/
import Derived.Test.YtdlhgbhaeedbdaaSp1
import Derived.Test.YtdlhgbhaeedbdaaOrd2

/- The words of an item; the item that a key tells. Plain mathematics. -/
namespace Go.Proofs.Ytdlhgbhaeedbdaa
open Go.RowKit

def noSep (u : List UInt8) : Prop := ∀ c ∈ u, ¬ (c = 32 ∨ c = 59)

theorem wrdL_hit (u : List UInt8) (hu : noSep u) (c : UInt8) (hc : c = 32 ∨ c = 59) (r acc : List UInt8) : wrdL (u ++ c :: r) 0 acc = acc ++ u := by
  induction u generalizing acc with
  | nil => rw [List.nil_append, wrdL_cons, if_pos hc, List.append_nil]
  | cons b u ih =>
    rw [List.cons_append, wrdL_cons, if_neg (hu b (by simp)), ih (fun c hc => hu c (by simp [hc]))]
    simp

theorem wrdL_skip (u : List UInt8) (hu : noSep u) (c : UInt8) (hc : c = 32 ∨ c = 59) (r acc : List UInt8) (n : Nat) : wrdL (u ++ c :: r) (n + 1) acc = wrdL r n [] := by
  induction u generalizing acc with
  | nil => rw [List.nil_append, wrdL_cons, if_pos hc]
  | cons b u ih => rw [List.cons_append, wrdL_cons, if_neg (hu b (by simp)), ih (fun c hc => hu c (by simp [hc]))]

theorem letter_sep {c : UInt8} (h : letter c) : ¬ (c = 32 ∨ c = 59) := by
  unfold letter at h
  rintro (rfl | rfl)
  · have : ((32 : UInt8).toNat : Int) = 32 := rfl
    omega
  · have : ((59 : UInt8).toNat : Int) = 59 := rfl
    omega
theorem name_sep {a : List UInt8} (h : isName a) : noSep a := fun c hc => letter_sep (h.2.2 c hc)
theorem dg_sep {n : Nat} (h : n ≤ 9) : noSep [dg n] := by
  intro c hc
  simp at hc
  subst hc
  have := dg_nat h
  rintro (e | e) <;> rw [e] at this <;> simp at this <;> omega

theorem rest_text (x : It) : rest (textOf x) 0 = x.text := by rw [rest_zero]; rfl

theorem word_lun {x : It} (hx : x.ok) (hk : x.kind = 2) : wrd (textOf x) 1 = ⟨x.a.toArray⟩ ∧ wrd (textOf x) 3 = ⟨x.b.toArray⟩ := by
  obtain ⟨ha, h⟩ := hx
  have hb : isName x.b ∧ x.n ≤ 7 := by rcases h with ⟨e, _⟩ | ⟨e, _⟩ | ⟨e, h1, h2, _⟩ | ⟨e, _⟩ | ⟨e, _⟩ <;> first | exact ⟨h1, h2⟩ | omega
  have ht : x.text = [108, 117, 110] ++ 32 :: (x.a ++ 32 :: ([dg x.n] ++ 32 :: (x.b ++ 32 :: [114, md x.m, 59]))) := by simp [It.text, It.body, hk]
  have h0 : noSep [108, 117, 110] := by intro c hc; simp at hc; rcases hc with rfl | rfl | rfl <;> decide
  unfold wrd
  rw [rest_text, ht]
  constructor
  · rw [wrdL_skip _ h0 _ (Or.inl rfl), wrdL_hit _ (name_sep ha) _ (Or.inl rfl)]; rfl
  · rw [wrdL_skip _ h0 _ (Or.inl rfl), wrdL_skip _ (name_sep ha) _ (Or.inl rfl), wrdL_skip _ (dg_sep (by omega)) _ (Or.inl rfl), wrdL_hit _ (name_sep hb.1) _ (Or.inl rfl)]; rfl

theorem word_host {x : It} (hx : x.ok) (hk : x.kind = 3) : wrd (textOf x) 1 = ⟨x.a.toArray⟩ := by
  obtain ⟨ha, h⟩ := hx
  have ht : x.text = [104, 111, 115, 116] ++ 32 :: (x.a ++ 32 :: (x.b ++ [59])) := by simp [It.text, It.body, hk]
  have h0 : noSep [104, 111, 115, 116] := by intro c hc; simp at hc; rcases hc with rfl | rfl | rfl | rfl <;> decide
  unfold wrd
  rw [rest_text, ht, wrdL_skip _ h0 _ (Or.inl rfl), wrdL_hit _ (name_sep ha) _ (Or.inl rfl)]
  rfl

theorem word_map {x : It} (hx : x.ok) (hk : x.kind = 4) : wrd (textOf x) 1 = ⟨x.a.toArray⟩ ∧ wrd (textOf x) 2 = ⟨x.b.toArray⟩ ∧ wrd (textOf x) 4 = ⟨#[dg x.m]⟩ := by
  obtain ⟨ha, h⟩ := hx
  have hb : isName x.b ∧ x.n ≤ 7 ∧ x.m ≤ 7 := by rcases h with ⟨e, _⟩ | ⟨e, _⟩ | ⟨e, _⟩ | ⟨e, _⟩ | ⟨e, h1, h2, h3⟩ <;> first | exact ⟨h1, h2, h3⟩ | omega
  have ht : x.text = [109, 97, 112] ++ 32 :: (x.a ++ 32 :: (x.b ++ 32 :: ([dg x.n] ++ 32 :: ([dg x.m] ++ 59 :: [])))) := by simp [It.text, It.body, hk]
  have h0 : noSep [109, 97, 112] := by intro c hc; simp at hc; rcases hc with rfl | rfl | rfl <;> decide
  unfold wrd
  rw [rest_text, ht]
  refine ⟨?_, ?_, ?_⟩
  · rw [wrdL_skip _ h0 _ (Or.inl rfl), wrdL_hit _ (name_sep ha) _ (Or.inl rfl)]; rfl
  · rw [wrdL_skip _ h0 _ (Or.inl rfl), wrdL_skip _ (name_sep ha) _ (Or.inl rfl), wrdL_hit _ (name_sep hb.1) _ (Or.inl rfl)]; rfl
  · rw [wrdL_skip _ h0 _ (Or.inl rfl), wrdL_skip _ (name_sep ha) _ (Or.inl rfl), wrdL_skip _ (name_sep hb.1) _ (Or.inl rfl), wrdL_skip _ (dg_sep (by omega)) _ (Or.inl rfl), wrdL_hit _ (dg_sep (by omega)) _ (Or.inr rfl)]; rfl

theorem name_pre {u v : List UInt8} (hu : ∀ c ∈ u, letter c) (hv : ∀ c ∈ v, letter c) {c d : UInt8} (hc : ¬ letter c) (hd : ¬ letter d) {r r' : List UInt8} : (u ++ c :: r) <+: (v ++ d :: r') ↔ u = v ∧ c = d ∧ r <+: r' := by
  induction u generalizing v with
  | nil =>
    cases v with
    | nil => simp [List.cons_prefix_cons]
    | cons b v =>
      simp only [List.nil_append, List.cons_append, List.cons_prefix_cons]
      constructor
      · rintro ⟨e, _⟩; exact absurd (e ▸ hv b (by simp)) hc
      · rintro ⟨e, _⟩; simp at e
  | cons a u ih =>
    cases v with
    | nil =>
      simp only [List.nil_append, List.cons_append, List.cons_prefix_cons]
      constructor
      · rintro ⟨e, _⟩; exact absurd (e ▸ hu a (by simp)) hd
      · rintro ⟨e, _⟩; simp at e
    | cons b v =>
      simp only [List.cons_append, List.cons_prefix_cons, List.cons.injEq]
      rw [ih (fun c hc => hu c (by simp [hc])) (fun c hc => hv c (by simp [hc]))]
      constructor
      · rintro ⟨e, f, g⟩; exact ⟨⟨e, f⟩, g⟩
      · rintro ⟨⟨e, f⟩, g⟩; exact ⟨e, f, g⟩

theorem no32 : ¬ letter 32 := by intro h; exact letter_sep h (Or.inl rfl)
theorem no59 : ¬ letter 59 := by intro h; exact letter_sep h (Or.inr rfl)

theorem dg_eq {n m : Nat} (hn : n ≤ 9) (hm : m ≤ 9) : dg n = dg m ↔ n = m := by
  constructor
  · intro h
    have := congrArg UInt8.toNat h
    rw [dg_nat hn, dg_nat hm] at this
    omega
  · intro h; rw [h]

theorem pre_target {y : It} (hy : y.ok) {a : List UInt8} (ha : isName a) : ([116, 97, 114, 103, 101, 116, 32] ++ (a ++ [59])) <+: y.text ↔ y.kind = 1 ∧ y.a = a := by
  obtain ⟨hya, h⟩ := hy
  rcases h with ⟨e, _⟩ | ⟨e, _⟩ | ⟨e, _⟩ | ⟨e, _⟩ | ⟨e, _⟩
  · simp [It.text, It.body, e, List.cons_prefix_cons]
  · have ht : y.text = [116, 97, 114, 103, 101, 116, 32] ++ (y.a ++ 59 :: []) := by simp [It.text, It.body, e]
    rw [ht, List.prefix_append_right_inj, name_pre ha.2.2 hya.2.2 no59 no59]
    simp [e, eq_comm]
  · simp [It.text, It.body, e, List.cons_prefix_cons]
  · simp [It.text, It.body, e, List.cons_prefix_cons]
  · simp [It.text, It.body, e, List.cons_prefix_cons]

theorem pre_disk {y : It} (hy : y.ok) {a : List UInt8} (ha : isName a) : ([100, 105, 115, 107, 32] ++ (a ++ [32])) <+: y.text ↔ y.kind = 0 ∧ y.a = a := by
  obtain ⟨hya, h⟩ := hy
  rcases h with ⟨e, _⟩ | ⟨e, _⟩ | ⟨e, _⟩ | ⟨e, _⟩ | ⟨e, _⟩
  · have ht : y.text = [100, 105, 115, 107, 32] ++ (y.a ++ 32 :: [dg y.n, 59]) := by simp [It.text, It.body, e]
    rw [ht, List.prefix_append_right_inj, name_pre ha.2.2 hya.2.2 no32 no32]
    simp [e, eq_comm]
  · simp [It.text, It.body, e, List.cons_prefix_cons]
  · simp [It.text, It.body, e, List.cons_prefix_cons]
  · simp [It.text, It.body, e, List.cons_prefix_cons]
  · simp [It.text, It.body, e, List.cons_prefix_cons]

theorem pre_host {y : It} (hy : y.ok) {a b : List UInt8} (ha : isName a) (hb : isName b) : ([104, 111, 115, 116, 32] ++ (a ++ 32 :: (b ++ [59]))) <+: y.text ↔ y.kind = 3 ∧ y.a = a ∧ y.b = b := by
  obtain ⟨hya, h⟩ := hy
  rcases h with ⟨e, _⟩ | ⟨e, _⟩ | ⟨e, _⟩ | ⟨e, hyb, _⟩ | ⟨e, _⟩
  · simp [It.text, It.body, e, List.cons_prefix_cons]
  · simp [It.text, It.body, e, List.cons_prefix_cons]
  · simp [It.text, It.body, e, List.cons_prefix_cons]
  · have ht : y.text = [104, 111, 115, 116, 32] ++ (y.a ++ 32 :: (y.b ++ 59 :: [])) := by simp [It.text, It.body, e]
    rw [ht, List.prefix_append_right_inj, name_pre ha.2.2 hya.2.2 no32 no32, name_pre hb.2.2 hyb.2.2 no59 no59]
    simp [e, eq_comm]
  · simp [It.text, It.body, e, List.cons_prefix_cons]

theorem pre_lun {y : It} (hy : y.ok) {a : List UInt8} (ha : isName a) {n : Nat} (hn : n ≤ 9) : ([108, 117, 110, 32] ++ (a ++ 32 :: [dg n, 32])) <+: y.text ↔ y.kind = 2 ∧ y.a = a ∧ y.n = n := by
  obtain ⟨hya, h⟩ := hy
  rcases h with ⟨e, _⟩ | ⟨e, _⟩ | ⟨e, _, h7, _⟩ | ⟨e, _⟩ | ⟨e, _⟩
  · simp [It.text, It.body, e, List.cons_prefix_cons]
  · simp [It.text, It.body, e, List.cons_prefix_cons]
  · have ht : y.text = [108, 117, 110, 32] ++ (y.a ++ 32 :: (dg y.n :: 32 :: (y.b ++ [32, 114, md y.m, 59]))) := by simp [It.text, It.body, e]
    rw [ht, List.prefix_append_right_inj, name_pre ha.2.2 hya.2.2 no32 no32]
    simp only [List.cons_prefix_cons, List.nil_prefix, and_true, true_and, dg_eq hn (by omega : y.n ≤ 9), e]
    constructor
    · rintro ⟨f, g⟩; exact ⟨f.symm, g.symm⟩
    · rintro ⟨f, g⟩; exact ⟨f.symm, g.symm⟩
  · simp [It.text, It.body, e, List.cons_prefix_cons]
  · simp [It.text, It.body, e, List.cons_prefix_cons]

theorem mk_eq {a b : List UInt8} : (⟨a.toArray⟩ : ByteArray) = ⟨b.toArray⟩ ↔ a = b := ⟨mk_inj, fun h => by rw [h]⟩

theorem find_congr {α : Type} {l : List α} {p q : α → Bool} (h : ∀ x ∈ l, p x = q x) : l.find? p = l.find? q := by
  induction l with
  | nil => rfl
  | cons a l ih => rw [List.find?_cons, List.find?_cons, h a (by simp), ih (fun x hx => h x (by simp [hx]))]

/-- The item of the list that has the key, told by its text. -/
def ndT (L : List It) (k : Key) : ByteArray := match L.find? (fun y => keyIs k y.item) with | some y => textOf y | none => ⟨#[]⟩

theorem fnd_key {L : List It} {q : ByteArray} {k : Key} (h : ∀ y ∈ L, begB (textOf y) q = keyIs k y.item) : fnd (L.map textOf) q = ndT L k := by
  unfold fnd ndT
  rw [List.find?_map, find_congr (p := (fun s => begB s q) ∘ textOf) (q := fun y => keyIs k y.item) (fun x hx => h x hx)]
  cases L.find? (fun y => keyIs k y.item) <;> rfl

theorem beg_pre (y : It) (w : List UInt8) : begB (textOf y) ⟨w.toArray⟩ = true ↔ w <+: y.text := begB_iff y.text w

theorem key_target {y : It} (a : List UInt8) : keyIs ⟨1, ⟨a.toArray⟩, ⟨#[]⟩, 0⟩ y.item = true ↔ y.kind = 1 ∧ y.a = a := by
  unfold keyIs
  rw [decide_eq_true_iff]
  simp only [It.item]
  constructor
  · rintro ⟨h1, h2, _⟩; exact ⟨by omega, mk_inj h2⟩
  · rintro ⟨h1, h2⟩; simp [h1, h2]
theorem key_disk {y : It} (a : List UInt8) : keyIs ⟨0, ⟨a.toArray⟩, ⟨#[]⟩, 0⟩ y.item = true ↔ y.kind = 0 ∧ y.a = a := by
  unfold keyIs
  rw [decide_eq_true_iff]
  simp only [It.item]
  constructor
  · rintro ⟨h1, h2, _⟩; exact ⟨by omega, mk_inj h2⟩
  · rintro ⟨h1, h2⟩; simp [h1, h2]
theorem key_host {y : It} (a b : List UInt8) : keyIs ⟨3, ⟨a.toArray⟩, ⟨b.toArray⟩, 0⟩ y.item = true ↔ y.kind = 3 ∧ y.a = a ∧ y.b = b := by
  unfold keyIs
  rw [decide_eq_true_iff]
  simp only [It.item]
  constructor
  · rintro ⟨h1, h2, h3, _⟩
    have hk : y.kind = 3 := by omega
    rw [if_pos (Or.inl hk)] at h3
    exact ⟨hk, mk_inj h2, mk_inj h3⟩
  · rintro ⟨h1, h2, h3⟩; simp [h1, h2, h3]
theorem key_lun {y : It} (a : List UInt8) (n : Nat) : keyIs ⟨2, ⟨a.toArray⟩, ⟨#[]⟩, (n : Int)⟩ y.item = true ↔ y.kind = 2 ∧ y.a = a ∧ y.n = n := by
  unfold keyIs
  rw [decide_eq_true_iff]
  simp only [It.item]
  constructor
  · rintro ⟨h1, h2, _, h4⟩
    have hk : y.kind = 2 := by omega
    rw [if_pos (Or.inl hk)] at h4
    exact ⟨hk, mk_inj h2, by omega⟩
  · rintro ⟨h1, h2, h3⟩; simp [h1, h2, h3]

end Go.Proofs.Ytdlhgbhaeedbdaa

/- 'needs'. -/
namespace Go.Proofs.Ytdlhgbhaeedbdaa
open Go.RowKit

/-- What an item names, told by the texts of the list's items. -/
def ndL (L : List It) (x : It) : List ByteArray := (namesOf x.item).map (ndT L)

theorem cat3 (a b c : List UInt8) : ((⟨a.toArray⟩ ++ ⟨b.toArray⟩ : ByteArray) ++ ⟨c.toArray⟩) = ⟨(a ++ (b ++ c)).toArray⟩ := by
  apply ByteArray.ext
  simp [ByteArray.data_append]
theorem cat5 (a b c d e : List UInt8) : ((((⟨a.toArray⟩ ++ ⟨b.toArray⟩ : ByteArray) ++ ⟨c.toArray⟩) ++ ⟨d.toArray⟩) ++ ⟨e.toArray⟩) = ⟨(a ++ (b ++ (c ++ (d ++ e)))).toArray⟩ := by
  apply ByteArray.ext
  simp [ByteArray.data_append]

theorem mk_size (a : List UInt8) : (⟨a.toArray⟩ : ByteArray).size = a.length := by simp [ByteArray.size]

theorem textOf_size {x : It} (hx : x.ok) : (textOf x).size ≤ 100 := by
  rw [show textOf x = ⟨x.text.toArray⟩ from rfl, mk_size]
  rcases hx with ⟨ha, ⟨e, _⟩ | ⟨e, _⟩ | ⟨e, hb, _⟩ | ⟨e, hb, _⟩ | ⟨e, hb, _⟩⟩
  all_goals simp [It.text, It.body, e]
  all_goals (have := ha.2.1; try have := hb.2.1); omega

theorem bool_eq {a b : Bool} {p : Prop} (h1 : a = true ↔ p) (h2 : b = true ↔ p) : a = b := by
  rw [Bool.eq_iff_iff, h1, h2]

theorem fnd_target {L : List It} (hL : ∀ y ∈ L, y.ok) {a : List UInt8} (ha : isName a) : fnd (L.map textOf) ⟨([116, 97, 114, 103, 101, 116, 32] ++ (a ++ [59])).toArray⟩ = ndT L ⟨1, ⟨a.toArray⟩, ⟨#[]⟩, 0⟩ :=
  fnd_key fun y hy => bool_eq ((beg_pre y _).trans (pre_target (hL y hy) ha)) (key_target a)
theorem fnd_disk {L : List It} (hL : ∀ y ∈ L, y.ok) {a : List UInt8} (ha : isName a) : fnd (L.map textOf) ⟨([100, 105, 115, 107, 32] ++ (a ++ [32])).toArray⟩ = ndT L ⟨0, ⟨a.toArray⟩, ⟨#[]⟩, 0⟩ :=
  fnd_key fun y hy => bool_eq ((beg_pre y _).trans (pre_disk (hL y hy) ha)) (key_disk a)
theorem fnd_host {L : List It} (hL : ∀ y ∈ L, y.ok) {a b : List UInt8} (ha : isName a) (hb : isName b) : fnd (L.map textOf) ⟨([104, 111, 115, 116, 32] ++ (a ++ ([32] ++ (b ++ [59])))).toArray⟩ = ndT L ⟨3, ⟨a.toArray⟩, ⟨b.toArray⟩, 0⟩ :=
  fnd_key fun y hy => bool_eq ((beg_pre y _).trans (pre_host (hL y hy) ha hb)) (key_host a b)
theorem fnd_lun {L : List It} (hL : ∀ y ∈ L, y.ok) {a : List UInt8} (ha : isName a) {n : Nat} (hn : n ≤ 9) : fnd (L.map textOf) ⟨([108, 117, 110, 32] ++ (a ++ ([32] ++ ([dg n] ++ [32])))).toArray⟩ = ndT L ⟨2, ⟨a.toArray⟩, ⟨#[]⟩, (n : Int)⟩ :=
  fnd_key fun y hy => bool_eq ((beg_pre y _).trans (pre_lun (hL y hy) ha hn)) (key_lun a n)

theorem strs_two (w : World) (o : Nat → Obj) (a b : ByteArray) : o 0 = .cells #[.string a, .string b] 9 → StrsAt (w.alloc (o 0)) (.slice (some ⟨w.heap.size, 0, none⟩) 2 2) [a, b] := by
  intro e
  rw [e]
  refine Or.inr ⟨_, 2, rfl, by simp, by simp, fun i hi => ?_⟩
  match i, hi with
  | 0, _ => go_simp
  | 1, _ => go_simp
theorem strs_one (w : World) (a : ByteArray) : StrsAt (w.alloc (.cells #[.string a] 9)) (.slice (some ⟨w.heap.size, 0, none⟩) 1 1) [a] := by
  refine Or.inr ⟨_, 1, rfl, by simp, by simp, fun i hi => ?_⟩
  match i, hi with
  | 0, _ => go_simp

theorem add_run (a b : ByteArray) (h : a.size + b.size ≤ 1000) (w : World) : (Op.stringOp .add a b).run Try.prog w = .ok (.string (a ++ b)) w := run_string_add_sum (P := Try.prog) w a b (by omega)

set_option maxRecDepth 100000 in
set_option maxHeartbeats 1000000 in
theorem needs_any (g cap : Nat) (L : List It) (hL : ∀ y ∈ L, y.ok) (hl : L.length ≤ 24) (x : It) (hx : x.ok) (w : World) (hit : StrsIn w g 0 (L.map textOf)) :
    Calls Try.prog 54 #[.slice (some ⟨g, 0, none⟩) L.length cap, .string (textOf x)] w fun e w' => ∃ v, e = .returned v ∧ StrsAt w' v (ndL L x) ∧ Below w.heap.size w w' := by
  have hsz := textOf_size hx
  have hfind : ∀ q : ByteArray, q.size ≤ 1000 → Calls Try.prog 70 #[.slice (some ⟨g, 0, none⟩) L.length cap, .string q] w fun e w' => e = .returned (.string (fnd (L.map textOf) q)) ∧ w' = w := by
    intro q hq
    have := sfind_in g cap (L.map textOf) q w (by simp; omega) (by intro y hy; obtain ⟨z, hz, rfl⟩ := List.mem_map.1 hy; have := textOf_size (hL z hz); omega) (by omega) hit
    rw [List.length_map] at this
    exact this
  have hw : ∀ n : Nat, n ≤ 10 → Calls Try.prog 69 #[.string (textOf x), .int .i64 (n : Nat)] w fun e w' => e = .returned (.string (wrd (textOf x) n)) ∧ w' = w := fun n hn => word_n (textOf x) n w (by omega) hn
  have hr := rank_any (textOf x) w (by omega)
  rw [rank_text hx] at hr
  have hxa : isName x.a := hx.1
  have hal : x.a.length ≤ 4 := hxa.2.1
  have hAs : (⟨x.a.toArray⟩ : ByteArray).size ≤ 4 := by rw [mk_size]; exact hal
  by_cases h2 : x.kind = 2
  · obtain ⟨e1, e3⟩ := word_lun hx h2
    have hxb : isName x.b := by rcases hx.2 with ⟨e, _⟩ | ⟨e, _⟩ | ⟨e, h1, _⟩ | ⟨e, _⟩ | ⟨e, _⟩ <;> first | exact h1 | omega
    have hBs : (⟨x.b.toArray⟩ : ByteArray).size ≤ 4 := by rw [mk_size]; exact hxb.2.1
    have hnd : ndL L x = [ndT L ⟨1, ⟨x.a.toArray⟩, ⟨#[]⟩, 0⟩, ndT L ⟨0, ⟨x.b.toArray⟩, ⟨#[]⟩, 0⟩] := by simp [ndL, namesOf, It.item, h2]
    rw [hnd]
    have hw1 := hw 1 (by omega)
    have hw3 := hw 3 (by omega)
    rw [e1] at hw1
    rw [e3] at hw3
    rw [h2] at hr
    have a1 := add_run ⟨#[116, 97, 114, 103, 101, 116, 32]⟩ ⟨x.a.toArray⟩ (by have : (⟨#[116, 97, 114, 103, 101, 116, 32]⟩ : ByteArray).size = 7 := rfl; omega)
    have a2 := add_run (⟨#[116, 97, 114, 103, 101, 116, 32]⟩ ++ ⟨x.a.toArray⟩) ⟨#[59]⟩ (by rw [ByteArray.size_append]; have : (⟨#[116, 97, 114, 103, 101, 116, 32]⟩ : ByteArray).size = 7 := rfl; have : (⟨#[59]⟩ : ByteArray).size = 1 := rfl; omega)
    have a3 := add_run ⟨#[100, 105, 115, 107, 32]⟩ ⟨x.b.toArray⟩ (by have : (⟨#[100, 105, 115, 107, 32]⟩ : ByteArray).size = 5 := rfl; omega)
    have a4 := add_run (⟨#[100, 105, 115, 107, 32]⟩ ++ ⟨x.b.toArray⟩) ⟨#[32]⟩ (by rw [ByteArray.size_append]; have : (⟨#[100, 105, 115, 107, 32]⟩ : ByteArray).size = 5 := rfl; have : (⟨#[32]⟩ : ByteArray).size = 1 := rfl; omega)
    have q1 := cat3 [116, 97, 114, 103, 101, 116, 32] x.a [59]
    have q2 := cat3 [100, 105, 115, 107, 32] x.b [32]
    have f1 := hfind ⟨([116, 97, 114, 103, 101, 116, 32] ++ (x.a ++ [59])).toArray⟩ (by rw [mk_size]; simp; omega)
    have f2 := hfind ⟨([100, 105, 115, 107, 32] ++ (x.b ++ [32])).toArray⟩ (by rw [mk_size]; simp; have := hxb.2.1; omega)
    rw [fnd_target hL hxa, ← q1] at f1
    rw [fnd_disk hL hxb, ← q2] at f2
    generalize ndT L ⟨1, ⟨x.a.toArray⟩, ⟨#[]⟩, 0⟩ = N1 at *
    generalize ndT L ⟨0, ⟨x.b.toArray⟩, ⟨#[]⟩, 0⟩ = N2 at *
    generalize (⟨x.a.toArray⟩ : ByteArray) = A at *
    generalize (⟨x.b.toArray⟩ : ByteArray) = B at *
    generalize hQ1 : (⟨[116, 97, 114, 103, 101, 116, 32].toArray⟩ ++ A : ByteArray) = Q1 at *
    generalize hQ2 : (⟨[100, 105, 115, 107, 32].toArray⟩ ++ B : ByteArray) = Q2 at *
    generalize hR1 : (Q1 ++ ⟨[59].toArray⟩ : ByteArray) = R1 at *
    generalize hR2 : (Q2 ++ ⟨[32].toArray⟩ : ByteArray) = R2 at *
    generalize textOf x = X at *
    have F1 := hide f1
    have F2 := hide f2
    have W1 := hide hw1
    have W3 := hide hw3
    have HR := hide hr
    clear f1 f2 hw1 hw3 hr q1 q2 hQ1 hQ2 hR1 hR2 hfind hw hnd e1 e3 h2
    go_enter Try.func54, Try.ntmps54
    go_wp2_with fail
    refine (unhide W1).mono ?_
    rintro e w1 ⟨rfl, he⟩
    replace he := he.symm
    subst he
    go_wp2_with fail
    refine (unhide HR).mono ?_
    rintro e w1 ⟨rfl, he⟩
    replace he := he.symm
    subst he
    go_wp2_with fail
    refine (unhide F1).mono ?_
    rintro e w1 ⟨rfl, he⟩
    replace he := he.symm
    subst he
    go_wp2_with fail
    refine (unhide W3).mono ?_
    rintro e w1 ⟨rfl, he⟩
    replace he := he.symm
    subst he
    go_wp2_with fail
    refine (unhide F2).mono ?_
    rintro e w1 ⟨rfl, he⟩
    replace he := he.symm
    subst he
    go_wp2
    go_ret
    exact ⟨_, rfl, strs_two w (fun _ => .cells #[.string N1, .string N2] 9) N1 N2 rfl, (Below.refl _ _).alloc (Nat.le_refl _) _⟩
  by_cases h3 : x.kind = 3
  · have e1 := word_host hx h3
    have hnd : ndL L x = [ndT L ⟨1, ⟨x.a.toArray⟩, ⟨#[]⟩, 0⟩] := by simp [ndL, namesOf, It.item, h3]
    rw [hnd]
    have hw1 := hw 1 (by omega)
    rw [e1] at hw1
    rw [h3] at hr
    have a1 := add_run ⟨#[116, 97, 114, 103, 101, 116, 32]⟩ ⟨x.a.toArray⟩ (by have : (⟨#[116, 97, 114, 103, 101, 116, 32]⟩ : ByteArray).size = 7 := rfl; omega)
    have a2 := add_run (⟨#[116, 97, 114, 103, 101, 116, 32]⟩ ++ ⟨x.a.toArray⟩) ⟨#[59]⟩ (by rw [ByteArray.size_append]; have : (⟨#[116, 97, 114, 103, 101, 116, 32]⟩ : ByteArray).size = 7 := rfl; have : (⟨#[59]⟩ : ByteArray).size = 1 := rfl; omega)
    have q1 := cat3 [116, 97, 114, 103, 101, 116, 32] x.a [59]
    have f1 := hfind ⟨([116, 97, 114, 103, 101, 116, 32] ++ (x.a ++ [59])).toArray⟩ (by rw [mk_size]; simp; omega)
    rw [fnd_target hL hxa, ← q1] at f1
    generalize ndT L ⟨1, ⟨x.a.toArray⟩, ⟨#[]⟩, 0⟩ = N1 at *
    generalize (⟨x.a.toArray⟩ : ByteArray) = A at *
    generalize hQ1 : (⟨[116, 97, 114, 103, 101, 116, 32].toArray⟩ ++ A : ByteArray) = Q1 at *
    generalize hR1 : (Q1 ++ ⟨[59].toArray⟩ : ByteArray) = R1 at *
    generalize textOf x = X at *
    have F1 := hide f1
    have W1 := hide hw1
    have HR := hide hr
    clear f1 hw1 hr q1 hQ1 hR1 hfind hw hnd e1 h2 h3
    go_enter Try.func54, Try.ntmps54
    go_wp2_with fail
    refine (unhide W1).mono ?_
    rintro e w1 ⟨rfl, he⟩
    replace he := he.symm
    subst he
    go_wp2_with fail
    refine (unhide HR).mono ?_
    rintro e w1 ⟨rfl, he⟩
    replace he := he.symm
    subst he
    go_wp2_with fail
    refine (unhide F1).mono ?_
    rintro e w1 ⟨rfl, he⟩
    replace he := he.symm
    subst he
    go_wp2
    go_ret
    exact ⟨_, rfl, strs_one w N1, (Below.refl _ _).alloc (Nat.le_refl _) _⟩
  by_cases h4 : x.kind = 4
  · obtain ⟨e1, e2, e4⟩ := word_map hx h4
    have hxb : isName x.b ∧ x.m ≤ 7 := by rcases hx.2 with ⟨e, _⟩ | ⟨e, _⟩ | ⟨e, _⟩ | ⟨e, _⟩ | ⟨e, h1, _, h5⟩ <;> first | exact ⟨h1, h5⟩ | omega
    have hBs : (⟨x.b.toArray⟩ : ByteArray).size ≤ 4 := by rw [mk_size]; exact hxb.1.2.1
    have hMs : (⟨[dg x.m].toArray⟩ : ByteArray).size = 1 := rfl
    have hnd : ndL L x = [ndT L ⟨3, ⟨x.a.toArray⟩, ⟨x.b.toArray⟩, 0⟩, ndT L ⟨2, ⟨x.a.toArray⟩, ⟨#[]⟩, (x.m : Int)⟩] := by simp [ndL, namesOf, It.item, h4]
    rw [hnd]
    have hw1 := hw 1 (by omega)
    have hw2 := hw 2 (by omega)
    have hw4 := hw 4 (by omega)
    rw [e1] at hw1
    rw [e2] at hw2
    rw [e4, show (⟨#[dg x.m]⟩ : ByteArray) = ⟨[dg x.m].toArray⟩ from rfl] at hw4
    rw [h4] at hr
    have zH : (⟨#[104, 111, 115, 116, 32]⟩ : ByteArray).size = 5 := rfl
    have zU : (⟨#[108, 117, 110, 32]⟩ : ByteArray).size = 4 := rfl
    have z1 : (⟨#[32]⟩ : ByteArray).size = 1 := rfl
    have z2 : (⟨#[59]⟩ : ByteArray).size = 1 := rfl
    have a1 := add_run ⟨#[104, 111, 115, 116, 32]⟩ ⟨x.a.toArray⟩ (by omega)
    have a2 := add_run (⟨#[104, 111, 115, 116, 32]⟩ ++ ⟨x.a.toArray⟩) ⟨#[32]⟩ (by rw [ByteArray.size_append]; omega)
    have a3 := add_run ((⟨#[104, 111, 115, 116, 32]⟩ ++ ⟨x.a.toArray⟩) ++ ⟨#[32]⟩) ⟨x.b.toArray⟩ (by rw [ByteArray.size_append, ByteArray.size_append]; omega)
    have a4 := add_run (((⟨#[104, 111, 115, 116, 32]⟩ ++ ⟨x.a.toArray⟩) ++ ⟨#[32]⟩) ++ ⟨x.b.toArray⟩) ⟨#[59]⟩ (by rw [ByteArray.size_append, ByteArray.size_append, ByteArray.size_append]; omega)
    have b1 := add_run ⟨#[108, 117, 110, 32]⟩ ⟨x.a.toArray⟩ (by omega)
    have b2 := add_run (⟨#[108, 117, 110, 32]⟩ ++ ⟨x.a.toArray⟩) ⟨#[32]⟩ (by rw [ByteArray.size_append]; omega)
    have b3 := add_run ((⟨#[108, 117, 110, 32]⟩ ++ ⟨x.a.toArray⟩) ++ ⟨#[32]⟩) ⟨[dg x.m].toArray⟩ (by rw [ByteArray.size_append, ByteArray.size_append]; omega)
    have b4 := add_run (((⟨#[108, 117, 110, 32]⟩ ++ ⟨x.a.toArray⟩) ++ ⟨#[32]⟩) ++ ⟨[dg x.m].toArray⟩) ⟨#[32]⟩ (by rw [ByteArray.size_append, ByteArray.size_append, ByteArray.size_append]; omega)
    have q1 := cat5 [104, 111, 115, 116, 32] x.a [32] x.b [59]
    have q2 := cat5 [108, 117, 110, 32] x.a [32] [dg x.m] [32]
    have f1 := hfind ⟨([104, 111, 115, 116, 32] ++ (x.a ++ ([32] ++ (x.b ++ [59])))).toArray⟩ (by rw [mk_size]; simp; have := hxb.1.2.1; omega)
    have f2 := hfind ⟨([108, 117, 110, 32] ++ (x.a ++ ([32] ++ ([dg x.m] ++ [32])))).toArray⟩ (by rw [mk_size]; simp; omega)
    rw [fnd_host hL hxa hxb.1, ← q1] at f1
    rw [fnd_lun hL hxa (by omega), ← q2] at f2
    generalize ndT L ⟨3, ⟨x.a.toArray⟩, ⟨x.b.toArray⟩, 0⟩ = N1 at *
    generalize ndT L ⟨2, ⟨x.a.toArray⟩, ⟨#[]⟩, (x.m : Int)⟩ = N2 at *
    generalize (⟨x.a.toArray⟩ : ByteArray) = A at *
    generalize (⟨x.b.toArray⟩ : ByteArray) = B at *
    generalize (⟨[dg x.m].toArray⟩ : ByteArray) = D at *
    generalize hQ1 : (⟨[104, 111, 115, 116, 32].toArray⟩ ++ A : ByteArray) = Q1 at *
    generalize hQ2 : (⟨[108, 117, 110, 32].toArray⟩ ++ A : ByteArray) = Q2 at *
    generalize hR1 : (Q1 ++ ⟨[32].toArray⟩ : ByteArray) = R1 at *
    generalize hR2 : (Q2 ++ ⟨[32].toArray⟩ : ByteArray) = R2 at *
    generalize hS1 : (R1 ++ B : ByteArray) = S1 at *
    generalize hS2 : (R2 ++ D : ByteArray) = S2 at *
    generalize hT1 : (S1 ++ ⟨[59].toArray⟩ : ByteArray) = T1 at *
    generalize hT2 : (S2 ++ ⟨[32].toArray⟩ : ByteArray) = T2 at *
    generalize textOf x = X at *
    have F1 := hide f1
    have F2 := hide f2
    have W1 := hide hw1
    have W2 := hide hw2
    have W4 := hide hw4
    have HR := hide hr
    clear f1 f2 hw1 hw2 hw4 hr q1 q2 hQ1 hQ2 hR1 hR2 hS1 hS2 hT1 hT2 hfind hw hnd e1 e2 e4 h2 h3 h4
    go_enter Try.func54, Try.ntmps54
    go_wp2_with fail
    refine (unhide W1).mono ?_
    rintro e w1 ⟨rfl, he⟩
    replace he := he.symm
    subst he
    go_wp2_with fail
    refine (unhide HR).mono ?_
    rintro e w1 ⟨rfl, he⟩
    replace he := he.symm
    subst he
    go_wp2_with fail
    refine (unhide W2).mono ?_
    rintro e w1 ⟨rfl, he⟩
    replace he := he.symm
    subst he
    go_wp2_with fail
    refine (unhide F1).mono ?_
    rintro e w1 ⟨rfl, he⟩
    replace he := he.symm
    subst he
    go_wp2_with fail
    refine (unhide W4).mono ?_
    rintro e w1 ⟨rfl, he⟩
    replace he := he.symm
    subst he
    go_wp2_with fail
    refine (unhide F2).mono ?_
    rintro e w1 ⟨rfl, he⟩
    replace he := he.symm
    subst he
    go_wp2
    go_ret
    exact ⟨_, rfl, strs_two w (fun _ => .cells #[.string N1, .string N2] 9) N1 N2 rfl, (Below.refl _ _).alloc (Nat.le_refl _) _⟩
  · have hnd : ndL L x = [] := by simp [ndL, namesOf, It.item, h2, h3, h4]
    rw [hnd]
    have hw1 := hw 1 (by omega)
    have r2 : ((x.kind : Int) == 2) = false := by rw [beq_eq_false_iff_ne]; omega
    have r3 : ((x.kind : Int) == 3) = false := by rw [beq_eq_false_iff_ne]; omega
    have r4 : ((x.kind : Int) == 4) = false := by rw [beq_eq_false_iff_ne]; omega
    generalize wrd (textOf x) 1 = A at *
    generalize textOf x = X at *
    have W1 := hide hw1
    have HR := hide hr
    clear hw1 hr hfind hw hnd h2 h3 h4
    go_enter Try.func54, Try.ntmps54
    go_wp2_with fail
    refine (unhide W1).mono ?_
    rintro e w1 ⟨rfl, he⟩
    replace he := he.symm
    subst he
    go_wp2_with fail
    refine (unhide HR).mono ?_
    rintro e w1 ⟨rfl, he⟩
    replace he := he.symm
    subst he
    go_wp2
    go_ret
    exact ⟨_, rfl, Or.inl ⟨rfl, rfl⟩, Below.refl _ _⟩

end Go.Proofs.Ytdlhgbhaeedbdaa

/- 'stays'. -/
namespace Go.Proofs.Ytdlhgbhaeedbdaa
open Go.RowKit

theorem StrsAt.later {w w' : World} {v : Value} {l : List ByteArray} (h : StrsAt w v l) (hb : Below w.heap.size w w') : StrsAt w' v l := by
  rcases h with h | ⟨g, cap, e, hc, hi⟩
  · exact Or.inl h
  · exact Or.inr ⟨g, cap, e, hc, hi.later hb⟩

theorem slice_of_strs {w : World} {v : Value} {l : List ByteArray} (hv : StrsAt w v l) : ∃ a cap, v = .slice a l.length cap := by
  rcases hv with ⟨rfl, rfl⟩ | ⟨g, cap, rfl, _⟩
  · exact ⟨none, 0, rfl⟩
  · exact ⟨_, _, rfl⟩

set_option maxRecDepth 100000 in
set_option maxHeartbeats 400000 in
theorem in_at (v : Value) (l : List ByteArray) (s : ByteArray) (w : World) (hl : l.length ≤ 1000000) (hv : StrsAt w v l) :
    Calls Try.prog 27 #[v, .string s] w fun e w' => e = .returned (.bool (inB l s)) ∧ w' = w := by
  rcases hv with ⟨rfl, rfl⟩ | ⟨g, cap, rfl, _, hit⟩
  · go_enter Try.func27, Try.ntmps27
    go_wp2
    refine wp_loop_rounds 1 ?_
    rw [rounds_succ]
    go_wp2
    go_ret
    exact ⟨rfl, rfl⟩
  · exact in_any g cap l s w hl hit

/-- Does an item stay, looked at so deep? -/
def stB (L M : List It) : Nat → It → Bool
  | 0, x => inB (M.map textOf) (textOf x)
  | d + 1, x => inB (M.map textOf) (textOf x) && (namesOf x.item).all fun k => match L.find? (fun y => keyIs k y.item) with | some y => stB L M d y | none => false

set_option maxRecDepth 100000 in
set_option maxHeartbeats 400000 in
theorem stays_zero (L M : List It) (a b : Value) (ac bc : Nat) (aa ba : Option Addr) (x : It) (w : World) (hm : M.length ≤ 24) (ea : a = .slice aa L.length ac) (eb : b = .slice ba M.length bc) (hb : StrsAt w b (M.map textOf)) :
    Calls Try.prog 33 #[a, b, .string (textOf x), .int .i64 0] w fun e w' => e = .returned (.bool (stB L M 0 x)) ∧ Below w.heap.size w w' := by
  have hin := in_at b (M.map textOf) (textOf x) w (by simp; omega) hb
  have hnot : ∀ (x : Bool) (w : World), (Op.unary .not (.bool x)).run Try.prog w = .ok (.bool (!x)) w := fun _ _ => rfl
  show Calls Try.prog _ _ _ fun e w' => e = .returned (.bool (inB (M.map textOf) (textOf x))) ∧ _
  generalize inB (M.map textOf) (textOf x) = B at *
  generalize textOf x = X at *
  have Hin := hide hin
  clear hin hb
  subst ea
  subst eb
  go_enter Try.func33, Try.ntmps33
  go_wp2_with fail
  refine (unhide Hin).mono ?_
  rintro e w1 ⟨rfl, he⟩
  replace he := he.symm
  subst he
  go_wp2
  go_ret
  exact ⟨rfl, Below.refl _ _⟩

theorem all_take {α : Type} (l : List α) (p : α → Bool) (k : Nat) (h : k < l.length) (h1 : (l.take k).all p = true) : (l.take (k + 1)).all p = p l[k] := by
  rw [List.take_succ_eq_append_getElem h, List.all_append, h1]
  simp

set_option maxRecDepth 100000 in
set_option maxHeartbeats 1000000 in
theorem stays_step (L M : List It) (hL : ∀ y ∈ L, y.ok) (hl : L.length ≤ 24) (hm : M.length ≤ 24) (hR : Refs (L.map It.item)) (g ac bc : Nat) (b : Value) (ba : Option Addr) (eb : b = .slice ba M.length bc) (d : Nat) (D : Int) (hD : D = d + 1) (hd : d ≤ 5)
    (ih : ∀ y ∈ L, ∀ wx, StrsIn wx g 0 (L.map textOf) → StrsAt wx b (M.map textOf) → Calls Try.prog 33 #[.slice (some ⟨g, 0, none⟩) L.length ac, b, .string (textOf y), .int .i64 (D - 1)] wx fun e w' => e = .returned (.bool (stB L M d y)) ∧ Below wx.heap.size wx w')
    (x : It) (hx : x ∈ L) (w : World) (hit : StrsIn w g 0 (L.map textOf)) (hb : StrsAt w b (M.map textOf)) :
    Calls Try.prog 33 #[.slice (some ⟨g, 0, none⟩) L.length ac, b, .string (textOf x), .int .i64 D] w fun e w' => e = .returned (.bool (stB L M (d + 1) x)) ∧ Below w.heap.size w w' := by
  have hin := in_at b (M.map textOf) (textOf x) w (by simp; omega) hb
  have hnot : ∀ (x : Bool) (w : World), (Op.unary .not (.bool x)).run Try.prog w = .ok (.bool (!x)) w := fun _ _ => rfl
  have hDl : ¬ D ≤ 0 := by omega
  have hDr : D ≤ 6 := by omega
  have hD0 : 0 < D := by omega
  have hneed := needs_any g ac L hL hl x (hL x hx) w hit
  have hfull : stB L M (d + 1) x = (inB (M.map textOf) (textOf x) && (namesOf x.item).all fun k => match L.find? (fun y => keyIs k y.item) with | some y => stB L M d y | none => false) := rfl
  -- what is named is there
  have hk : ∀ k ∈ namesOf x.item, ∃ y ∈ L, L.find? (fun y => keyIs k y.item) = some y ∧ ndT L k = textOf y := by
    intro k hk
    obtain ⟨z, hz, hkz⟩ := hR x.item (List.mem_map.2 ⟨x, hx, rfl⟩) k hk
    obtain ⟨y, hy, rfl⟩ := List.mem_map.1 hz
    cases hf : L.find? (fun y => keyIs k y.item) with
    | none => rw [List.find?_eq_none] at hf; exact absurd hkz (hf y hy)
    | some q => exact ⟨q, List.mem_of_find?_eq_some hf, rfl, by simp [ndT, hf]⟩
  have hnl : (namesOf x.item).length ≤ 2 := namesOf_len x.item
  have hlen : (ndL L x).length = (namesOf x.item).length := by simp [ndL]
  cases hi0 : inB (M.map textOf) (textOf x) with
  | false =>
    rw [hi0] at hin
    have hfin : stB L M (d + 1) x = false := by rw [hfull, hi0]; rfl
    rw [hfin]
    generalize textOf x = X at *
    have Hin := hide hin
    clear hin hfin hi0 hneed hfull hD ih hk hlen hb
    subst eb
    go_enter Try.func33, Try.ntmps33
    go_wp2_with fail
    refine (unhide Hin).mono ?_
    rintro e w1 ⟨rfl, he⟩
    replace he := he.symm
    subst he
    go_wp2
    go_ret
    exact ⟨rfl, Below.refl _ _⟩
  | true =>
    rw [hi0] at hin
    rw [hi0, Bool.true_and] at hfull
    rw [hfull]
    obtain ⟨F, hF⟩ : ∃ F : Key → Bool, F = fun k => match L.find? (fun y => keyIs k y.item) with | some y => stB L M d y | none => false := ⟨_, rfl⟩
    rw [← hF]
    have hk2 : ∀ (i : Nat) (hi : i < (namesOf x.item).length), ∃ y ∈ L, (ndL L x)[i]? = some (textOf y) ∧ F (namesOf x.item)[i] = stB L M d y := by
      intro i hi
      obtain ⟨y, hy, e1, e2⟩ := hk _ (List.getElem_mem hi)
      exact ⟨y, hy, by simp [ndL, hi, e2], by rw [hF]; simp [e1]⟩
    have Hk := hide hk2
    have Hlen := hide hlen
    have Hin := hide hin
    have Hneed := hide hneed
    have Hih := hide ih
    have HitL := hide hit
    have HbM := hide hb
    clear hin hneed hfull ih hk hk2 hlen hF hi0 hD hit hb
    generalize textOf x = X at *
    generalize ndL L x = N at *
    generalize namesOf x.item = K at *
    have eb' := hide eb
    rw [eb]
    clear eb
    go_enter Try.func33, Try.ntmps33
    go_wp2_with fail
    refine (unhide (unhide eb' ▸ Hin)).mono ?_
    rintro e w1 ⟨rfl, he⟩
    replace he := he.symm
    subst he
    go_wp2_with fail
    refine (unhide Hneed).mono ?_
    rintro e w1 ⟨v, rfl, hnv, hb1⟩
    have hl1 := hb1.size
    obtain ⟨na, nc, rfl⟩ := slice_of_strs hnv
    rw [unhide Hlen]
    go_wp2
    go_loopw [9, 11] (fun ok i wr => ∃ k : Nat, k ≤ K.length ∧ i = .int .i64 k ∧ (K.take k).all F = true ∧ Below w1.heap.size w1 wr) (fun _ i _ => K.length - (intOf i).toNat)
    case atStart => exact ⟨0, Nat.zero_le _, rfl, by simp, Below.refl _ _⟩
    case round =>
      obtain ⟨k, hkk, rfl, hall, hbe⟩ := hrel
      have Hall := hide hall
      clear hall
      have hsz := hbe.size
      by_cases hlt : k < K.length
      · obtain ⟨y, hy, hyN, hyF⟩ := unhide Hk k hlt
        have hkN : k < N.length := by rw [unhide Hlen]; exact hlt
        have hyN' : N[k] = textOf y := by rw [List.getElem?_eq_getElem hkN] at hyN; simpa using hyN
        rcases hnv with ⟨_, hnil⟩ | ⟨ng, ncap, hve, _, hni⟩
        · rw [hnil] at hkN; simp at hkN
        have hae : na = some ⟨ng, 0, none⟩ := by injection hve
        subst hae
        have hcell := (hbe.cell (p := ⟨ng, 0 + k, none⟩) hni.1).trans (hni.2 k hkN)
        rw [hyN', Nat.zero_add] at hcell
        have hlt' : (k : Int) < (K.length : Int) := by omega
        have hrec := unhide Hih y hy wr ((unhide HitL).later (hb1.trans (hbe.mono hl1))) ((unhide HbM).later (hb1.trans (hbe.mono hl1)))
        have hstep := all_take K F k hlt (unhide Hall)
        rw [hyF] at hstep
        rw [unhide eb'] at hrec
        cases hs : stB L M d y with
        | true =>
          rw [hs] at hrec hstep
          have Hrec := hide hrec
          have Hst := hide hstep
          clear hrec hstep hs hyF hyN hyN' hve
          generalize textOf y = Y at *
          go_wp2_with (go_at_call 33; refine (unhide Hrec).mono ?_; rintro e w2 ⟨rfl, hb2⟩)
          go_roundw
          case rel => exact ⟨k + 1, by omega, by go_num, unhide Hst, hbe.trans (hb2.mono hsz)⟩
          case measure => simp [intOf]; omega
        | false =>
          rw [hs] at hrec hstep
          have hfin : K.all F = false := by
            rw [List.all_eq_false] at hstep ⊢
            obtain ⟨z, hz, hp⟩ := hstep
            exact ⟨z, List.mem_of_mem_take hz, hp⟩
          have Hrec := hide hrec
          have Hf := hide hfin
          clear hrec hstep hs hyF hyN hyN' hve hfin
          generalize textOf y = Y at *
          go_wp2_with (go_at_call 33; refine (unhide Hrec).mono ?_; rintro e w2 ⟨rfl, hb2⟩)
          go_ret
          exact ⟨ret_bool (unhide Hf).symm, hb1.trans ((hbe.trans (hb2.mono hsz)).mono hl1)⟩
      · have hfin := unhide Hall
        rw [List.take_of_length_le (by omega)] at hfin
        have Hf := hide hfin
        clear hfin
        go_wp2
        go_ret
        exact ⟨ret_bool (unhide Hf).symm, hb1.trans (hbe.mono hl1)⟩

end Go.Proofs.Ytdlhgbhaeedbdaa
