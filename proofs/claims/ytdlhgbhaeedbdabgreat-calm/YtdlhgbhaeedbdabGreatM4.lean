/- First, Parse, Sort, Order. -/
import Derived.Test.YtdlhgbhaeedbdabGreatM3

/- 'firstTwice', 'firstLost'. -/
namespace Go.Proofs.YtdlhgbhaeedbdabGreat
open Go.RowKit

/-- v is a list of the items l. -/
def ItemsAt (w : World) (v : Value) (l : List Item) : Prop :=
  (v = .slice none 0 0 ∧ l = []) ∨ ∃ g cap, v = .slice (some ⟨g, 0, none⟩) l.length cap ∧ l.length ≤ cap ∧ ItemsIn w g l

theorem not_t {b : Bool} (h : true = !b) : b = false := by cases b <;> simp at h ⊢
theorem not_f {b : Bool} (h : false = !b) : b = true := by cases b <;> simp at h ⊢
theorem namesOf_len (y : Item) : (namesOf y).length ≤ 2 := by
  unfold namesOf
  split
  · simp
  · split
    · simp
    · split <;> simp

theorem ret_num {a b : Nat} (h : a = b) : Ending.returned (.int .i64 (a : Int)) = .returned (.int .i64 (b : Int)) := by rw [h]

set_option maxRecDepth 100000 in
set_option maxHeartbeats 400000 in
theorem firstTwice_any (v : Value) (l : List Item) (w : World) (hl : l.length ≤ 24) (hv : ItemsAt w v l) :
    Calls Tryz.prog 95 #[v] w fun e w' => e = .returned (.int .i64 (firstIx (twiceAt l) l.length)) ∧ Below w.heap.size w w' := by
  rcases hv with ⟨rfl, rfl⟩ | ⟨g, cap, rfl, hcap, hit⟩
  · go_enter Tryz.func95, Tryz.ntmps95
    go_wp2
    refine wp_loop_rounds 1 ?_
    rw [rounds_succ]
    go_wp2
    go_ret
    exact ⟨rfl, Below.refl _ _⟩
  · have hcap' : (l.length : Int) ≤ (cap : Int) := by omega
    go_enter Tryz.func95, Tryz.ntmps95
    go_wp2
    go_loopw [3] (fun i wr => ∃ k : Nat, k ≤ l.length ∧ i = .int .i64 k ∧ (∀ j, j < k → twiceAt l j = false) ∧ Below w.heap.size w wr) (fun i _ => l.length - (intOf i).toNat)
    case atStart => exact ⟨0, Nat.zero_le _, rfl, by intro j hj; omega, Below.refl _ _⟩
    case round =>
      obtain ⟨k, hkk, rfl, hno, hbe⟩ := hrel
      have Hno : Hid _ := hno
      clear hno
      by_cases hlt : k < l.length
      · obtain ⟨y, hy⟩ : ∃ y, y = l[k] := ⟨_, rfl⟩
        have hiy := ((hit.2 k hlt).below hbe hit.1)
        rw [← hy] at hiy
        obtain ⟨c0, c1, c2, c3, c4, c5, c6, c7, c8⟩ := hiy
        have hlt' : (k : Int) < (l.length : Int) := by omega
        have hkc : (k : Int) ≤ (cap : Int) := by omega
        have hhas : ∀ nq, Calls Tryz.prog 133 #[.slice (some ⟨g, 0, none⟩) k cap, .agg #[.int .i64 (y.kind : Int), .string y.name, .string y.host, .int .i64 y.number]] (wr.drewN nq) fun e w' =>
            e = .returned (.bool (twiceAt l k)) ∧ Below (wr.drewN nq).heap.size (wr.drewN nq) w' := by
          intro nq
          have := has_in g k cap l y.kind y.name y.host y.number (wr.drewN nq) hl (by omega) (hit.below (below_drewN hbe nq) hit.1)
          rw [show twiceAt l k = (l.take k).any (fun x => decide ((x.kind : Int) = (y.kind : Int) ∧ x.name = y.name ∧ x.host = y.host ∧ x.number = y.number)) from by
            simp only [twiceAt, List.getElem?_eq_getElem hlt, ← hy]; rfl]
          exact this
        have hsz := hbe.size
        clear hy
        cases hd : twiceAt l k with
        | true =>
          have hfin := firstIx_hit hlt hd Hno.out
          have Hf : Hid _ := hfin
          rw [hd] at hhas
          have Hh := hide hhas
          clear hd hhas hfin
          go_wp2
          go_region_with (go_at_call 133; refine (unhide Hh 1).mono ?_; rintro e w1 ⟨rfl, hb1⟩)
          all_goals
            go_wp2
            go_ret
            exact ⟨ret_num Hf.out.symm, hbe.drew.trans (hb1.mono hsz)⟩
        | false =>
          have hno' : ∀ j, j < k + 1 → twiceAt l j = false := fun j hj => by
            by_cases e : j = k
            · rw [e]; exact hd
            · exact Hno.out j (by omega)
          have Hf : Hid _ := hno'
          rw [hd] at hhas
          have Hh := hide hhas
          clear hd hhas hno'
          go_wp2
          go_region_with (go_at_call 133; refine (unhide Hh 1).mono ?_; rintro e w1 ⟨rfl, hb1⟩)
          all_goals
            go_wp2
            go_roundw
            case rel => exact ⟨k + 1, by omega, by go_num, Hf.out, hbe.drew.trans (hb1.mono hsz)⟩
            case measure => simp [intOf]; omega
      · have hfin := firstIx_none (n := l.length) (fun j hj => Hno.out j (by omega))
        have Hf : Hid _ := hfin
        clear hfin
        go_wp2
        go_ret
        exact ⟨ret_num Hf.out.symm, hbe⟩

set_option maxRecDepth 100000 in
set_option maxHeartbeats 400000 in
theorem firstLost_any (v : Value) (l : List Item) (w : World) (hl : l.length ≤ 24) (hv : ItemsAt w v l) :
    Calls Tryz.prog 96 #[v] w fun e w' => e = .returned (.int .i64 (firstIx (lostAt l) l.length)) ∧ Below w.heap.size w w' := by
  have hnot : ∀ (x : Bool) (w : World), (Op.unary .not (.bool x)).run Tryz.prog w = .ok (.bool (!x)) w := fun _ _ => rfl
  rcases hv with ⟨rfl, rfl⟩ | ⟨g, cap, rfl, hcap, hit⟩
  · go_enter Tryz.func96, Tryz.ntmps96
    go_wp2
    refine wp_loop_rounds 1 ?_
    rw [rounds_succ]
    go_wp2
    go_ret
    exact ⟨rfl, Below.refl _ _⟩
  · go_enter Tryz.func96, Tryz.ntmps96
    go_wp2
    go_loopw [3] (fun i wr => ∃ k : Nat, k ≤ l.length ∧ i = .int .i64 k ∧ (∀ j, j < k → lostAt l j = false) ∧ Below w.heap.size w wr) (fun i _ => l.length - (intOf i).toNat)
    case atStart => exact ⟨0, Nat.zero_le _, rfl, by intro j hj; omega, Below.refl _ _⟩
    case round =>
      obtain ⟨k, hkk, rfl, hno, hbe⟩ := hrel
      have Hno : Hid _ := hno
      clear hno
      by_cases hlt : k < l.length
      · obtain ⟨y, hy⟩ : ∃ y, y = l[k] := ⟨_, rfl⟩
        have hiy := ((hit.2 k hlt).below hbe hit.1)
        rw [← hy] at hiy
        obtain ⟨c0, c1, c2, c3, c4, c5, c6, c7, c8⟩ := hiy
        have hlt' : (k : Int) < (l.length : Int) := by omega
        have hlo : lostAt l k = !((namesOf y).all fun k => l.any (keyIs k)) := by simp only [lostAt, List.getElem?_eq_getElem hlt, ← hy]
        have hkl : (namesOf y).length ≤ 2 := namesOf_len y
        have hsz := hbe.size
        clear hy
        cases hd : lostAt l k with
        | true =>
          have hfin := firstIx_hit hlt hd Hno.out
          have Hf : Hid _ := hfin
          have Ha : Hid (((namesOf y).all fun k => l.any (keyIs k)) = false) := by rw [hd] at hlo; exact not_t hlo
          clear hd hfin hlo
          go_wp2_with fail
          refine (names_any y _).mono ?_
          rintro e w1 ⟨kv, rfl, hkv, hb1⟩
          have hall := hasAll_in g cap l kv (namesOf y) w1 hl ((hit.below hbe hit.1).below hb1 (by have := hit.1; omega)) _ hkv hkl
          rw [Ha.out] at hall
          have Hh := hide hall
          clear hall
          go_wp2_with fail
          refine (unhide Hh).mono ?_
          rintro e w2 ⟨rfl, hb2⟩
          go_wp2
          go_ret
          exact ⟨ret_num Hf.out.symm, (hbe.trans (hb1.mono hsz)).trans (hb2.mono (by have := hb1.size; omega))⟩
        | false =>
          have hno' : ∀ j, j < k + 1 → lostAt l j = false := fun j hj => by
            by_cases e : j = k
            · rw [e]; exact hd
            · exact Hno.out j (by omega)
          have Hf : Hid _ := hno'
          have Ha : Hid (((namesOf y).all fun k => l.any (keyIs k)) = true) := by rw [hd] at hlo; exact not_f hlo
          clear hd hno' hlo
          go_wp2_with fail
          refine (names_any y _).mono ?_
          rintro e w1 ⟨kv, rfl, hkv, hb1⟩
          have hall := hasAll_in g cap l kv (namesOf y) w1 hl ((hit.below hbe hit.1).below hb1 (by have := hit.1; omega)) _ hkv hkl
          rw [Ha.out] at hall
          have Hh := hide hall
          clear hall
          go_wp2_with fail
          refine (unhide Hh).mono ?_
          rintro e w2 ⟨rfl, hb2⟩
          go_wp2
          go_roundw
          case rel => exact ⟨k + 1, by omega, by go_num, Hf.out, (hbe.trans (hb1.mono hsz)).trans (hb2.mono (by have := hb1.size; omega))⟩
          case measure => simp [intOf]; omega
      · have hfin := firstIx_none (n := l.length) (fun j hj => Hno.out j (by omega))
        have Hf : Hid _ := hfin
        clear hfin
        go_wp2
        go_ret
        exact ⟨ret_num Hf.out.symm, hbe⟩

end Go.Proofs.YtdlhgbhaeedbdabGreat

/- 'Parse', 'Check'. -/
namespace Go.Proofs.YtdlhgbhaeedbdabGreat
open Go.RowKit

theorem rdAll_len (s : ByteArray) (n p : Nat) (acc : List Item) : (rdAll s n p acc).1.length ≤ acc.length + n := by
  induction n generalizing p acc with
  | zero => unfold rdAll; split <;> simp
  | succ n ih =>
    unfold rdAll
    split
    · split
      · simp
      · have := ih (itemS s (p, false)).1 (acc ++ [itemAt s p]); simp at this; omega
    · simp

theorem allCells_get (l : List Item) (i : Nat) (h : i < l.length) (c : Nat) (hc : c < 9) : (allCells l)[i * 9 + c]? = l[i].cells[c]? := by
  induction l generalizing i with
  | nil => simp at h
  | cons a l ih =>
    simp only [allCells, List.flatMap_cons]
    have h7 : a.cells.toList.length = 9 := by simp [Item.cells]
    match i with
    | 0 => rw [List.getElem?_append_left (by omega)]; simp
    | i + 1 =>
      rw [List.getElem?_append_right (by omega), h7, show (i + 1) * 9 + c - 9 = i * 9 + c from by omega]
      exact ih i (by simpa using h)

theorem addr_add (g j : Nat) : (⟨g, 0, none⟩ : Addr).add j = ⟨g, j, none⟩ := by simp [Addr.add]; intro h; exact h.symm

theorem items_of_owns {w : World} {base : Nat} {v : Value} {l : List Item} (h : w.ownsRow base 83 9 v l.length (allCells l)) : ItemsAt w v l := by
  have hh := h
  obtain ⟨_, ⟨rfl, h0⟩ | ⟨g, cap, cur, rfl, hb, hg, hc, _, _, _⟩⟩ := hh
  · exact Or.inl ⟨rfl, List.length_eq_zero_iff.1 h0⟩
  · refine Or.inr ⟨g, cap, rfl, hc, (h.lt g rfl).2, fun i hi => ?_⟩
    have hcl := h.cells (g := g) rfl
    have key : ∀ c, c < 9 → ∀ u, l[i].cells[c]? = some u → w.cell? ⟨g, i * 9 + c, none⟩ = some u := by
      intro c hc u hu
      have := hcl (i * 9 + c) u (by rw [allCells_get l i hi c hc]; exact hu)
      rwa [addr_add] at this
    exact ⟨key 0 (by omega) _ rfl, key 1 (by omega) _ rfl, key 2 (by omega) _ rfl, key 3 (by omega) _ rfl, key 4 (by omega) _ rfl, key 5 (by omega) _ rfl, key 6 (by omega) _ rfl, key 7 (by omega) _ rfl, key 8 (by omega) _ rfl⟩

/-- What is owned stays owned while nothing that is there turns. -/
theorem owns_later {w w' : World} {base : Nat} {e : TypeId} {size : Nat} {v : Value} {n : Nat} {xs : List Value} (h : w.ownsRow base e size v n xs) (hb : Below w.heap.size w w') : w'.ownsRow base e size v n xs :=
  h.kept (row := none) ⟨hb.os, hb.tape, hb.output, hb.size, fun k hk _ => hb.block k hk⟩ (by cases e : v.ownBlock <;> simp)

/-- The items of a text that has its form. -/
def itemsOf (s : ByteArray) : List Item := (rdAll s 24 0 []).1

/-- What Check answers: the error, and the place or the number. -/
def chk (s : ByteArray) : Nat × Nat :=
  if 400 < s.size then (1, 0)
  else if (rdAll s 24 0 []).2.2 = false then (2, (rdAll s 24 0 []).2.1)
  else if firstIx (twiceAt (itemsOf s)) (itemsOf s).length < (itemsOf s).length then (3, firstIx (twiceAt (itemsOf s)) (itemsOf s).length)
  else if firstIx (lostAt (itemsOf s)) (itemsOf s).length < (itemsOf s).length then (4, firstIx (lostAt (itemsOf s)) (itemsOf s).length)
  else (0, 0)

set_option maxRecDepth 100000 in
set_option maxHeartbeats 400000 in
theorem parse_any (s : ByteArray) (w : World) (hs : s.size ≤ maxLen) :
    Calls Tryz.prog 52 #[.string s] w fun e w' => ∃ v, e = .returned (.tuple #[v, .int .i64 ((chk s).1 : Nat), .int .i64 ((chk s).2 : Nat)]) ∧
      ((chk s).1 = 0 → w'.ownsRow (w.heap.size + 1) 83 9 v (itemsOf s).length (allCells (itemsOf s))) ∧ Below w.heap.size w w' := by
  have hnot : ∀ (x : Bool) (w : World), (Op.unary .not (.bool x)).run Tryz.prog w = .ok (.bool (!x)) w := fun _ _ => rfl
  unfold maxLen at hs
  by_cases h4 : 400 < s.size
  · have hc : chk s = (1, 0) := by simp [chk, h4]
    rw [hc]
    have h4' : (400 : Int) < (s.size : Int) := by omega
    go_enter Tryz.func52, Tryz.ntmps52
    go_wp2
    go_ret3
    exact ⟨.slice none 0 0, rfl, fun h => by simp at h, Below.refl _ _⟩
  · have h4' : ¬ (400 : Int) < (s.size : Int) := by omega
    have hr := readAll_any s w (by omega)
    have hll : (itemsOf s).length ≤ 24 := by have := rdAll_len s 24 0 []; simp at this; exact this
    cases hf : (rdAll s 24 0 []).2.2 with
    | false =>
      have hc : chk s = (2, (rdAll s 24 0 []).2.1) := by simp [chk, h4, hf]
      rw [hc]
      rw [hf] at hr
      clear hc hf
      go_enter Tryz.func52, Tryz.ntmps52
      go_wp2_with fail
      refine hr.mono ?_
      rintro e w1 ⟨v, rfl, hown, hb1⟩
      go_wp2
      go_ret3
      exact ⟨.slice none 0 0, rfl, fun h => by simp at h, hb1⟩
    | true =>
      rw [hf] at hr
      by_cases ht : firstIx (twiceAt (itemsOf s)) (itemsOf s).length < (itemsOf s).length
      · have hc : chk s = (3, firstIx (twiceAt (itemsOf s)) (itemsOf s).length) := by simp [chk, h4, hf, ht]
        rw [hc]
        clear hc hf
        go_enter Tryz.func52, Tryz.ntmps52
        go_wp2_with fail
        refine hr.mono ?_
        rintro e w1 ⟨v, rfl, hown, hb1⟩
        obtain ⟨a, cap, hv⟩ := slice_of_owns hown
        have hat := items_of_owns hown
        rw [show (rdAll s 24 0 []).1 = itemsOf s from rfl] at hat hv hown
        rw [hv] at hat ⊢
        go_wp2_with fail
        refine (firstTwice_any _ _ _ hll hat).mono ?_
        rintro e w2 ⟨rfl, hb2⟩
        go_wp2
        go_ret3
        exact ⟨.slice none 0 0, rfl, fun h => by simp at h, hb1.trans (hb2.mono hb1.size)⟩
      · by_cases hlo : firstIx (lostAt (itemsOf s)) (itemsOf s).length < (itemsOf s).length
        · have hc : chk s = (4, firstIx (lostAt (itemsOf s)) (itemsOf s).length) := by simp [chk, h4, hf, ht, hlo]
          rw [hc]
          clear hc hf
          go_enter Tryz.func52, Tryz.ntmps52
          go_wp2_with fail
          refine hr.mono ?_
          rintro e w1 ⟨v, rfl, hown, hb1⟩
          obtain ⟨a, cap, hv⟩ := slice_of_owns hown
          have hat := items_of_owns hown
          rw [show (rdAll s 24 0 []).1 = itemsOf s from rfl] at hat hv hown
          rw [hv] at hat hown ⊢
          go_wp2_with fail
          refine (firstTwice_any _ _ _ hll hat).mono ?_
          rintro e w2 ⟨rfl, hb2⟩
          have hown2 := owns_later hown hb2
          have hat2 := items_of_owns hown2
          go_wp2_with fail
          refine (firstLost_any _ _ _ hll hat2).mono ?_
          rintro e w3 ⟨rfl, hb3⟩
          go_wp2
          go_ret3
          exact ⟨.slice none 0 0, rfl, fun h => by simp at h, (hb1.trans (hb2.mono hb1.size)).trans (hb3.mono (Nat.le_trans hb1.size hb2.size))⟩
        · have hc : chk s = (0, 0) := by simp [chk, h4, hf, ht, hlo]
          rw [hc]
          clear hc hf
          go_enter Tryz.func52, Tryz.ntmps52
          go_wp2_with fail
          refine hr.mono ?_
          rintro e w1 ⟨v, rfl, hown, hb1⟩
          obtain ⟨a, cap, hv⟩ := slice_of_owns hown
          have hat := items_of_owns hown
          rw [show (rdAll s 24 0 []).1 = itemsOf s from rfl] at hat hv hown
          rw [hv] at hat hown ⊢
          go_wp2_with fail
          refine (firstTwice_any _ _ _ hll hat).mono ?_
          rintro e w2 ⟨rfl, hb2⟩
          have hown2 := owns_later hown hb2
          have hat2 := items_of_owns hown2
          go_wp2_with fail
          refine (firstLost_any _ _ _ hll hat2).mono ?_
          rintro e w3 ⟨rfl, hb3⟩
          go_wp2
          go_ret3
          exact ⟨_, rfl, fun _ => owns_later hown2 hb3, (hb1.trans (hb2.mono hb1.size)).trans (hb3.mono (Nat.le_trans hb1.size hb2.size))⟩

set_option maxHeartbeats 400000 in
theorem check_any (s : ByteArray) (w : World) (hs : s.size ≤ maxLen) :
    Calls Tryz.prog 21 #[.string s] w fun e w' => e = .returned (.tuple #[.int .i64 ((chk s).1 : Nat), .int .i64 ((chk s).2 : Nat)]) ∧ Below w.heap.size w w' := by
  go_enter Tryz.func21, Tryz.ntmps21
  go_wp2_with fail
  refine (parse_any s w hs).mono ?_
  rintro e w1 ⟨v, rfl, _, hb1⟩
  go_wp2
  go_ret2
  exact ⟨rfl, hb1⟩

end Go.Proofs.YtdlhgbhaeedbdabGreat

/- Insertion from the right, as the program does it; plain lists. And: a row of items that is written. -/
namespace Go.Proofs.YtdlhgbhaeedbdabGreat
open Go.RowKit

def lessIt (x y : Item) : Bool := lessK x.kind x.name x.host x.number y.kind y.name y.host y.number

/-- The lowest place to which one comes from j down, while p holds of the place below. -/
def downTo (p : Nat → Bool) : Nat → Nat
  | 0 => 0
  | j + 1 => if p j then downTo p j else j + 1

def lessAt (m : List Item) (x : Item) (t : Nat) : Bool := match m[t]? with | some y => lessIt x y | none => false

/-- x is laid into l, behind the last one that it does not stand ahead of. -/
def ins (l : List Item) (x : Item) : List Item := l.take (downTo (lessAt l x) l.length) ++ x :: l.drop (downTo (lessAt l x) l.length)

def sortTo (l : List Item) (k : Nat) : List Item := (l.take k).foldl ins []

theorem ins_length (l : List Item) (x : Item) : (ins l x).length = l.length + 1 := by simp [ins]; omega

theorem sortTo_length (l : List Item) (k : Nat) (h : k ≤ l.length) : (sortTo l k).length = k := by
  induction k with
  | zero => simp [sortTo]
  | succ k ih =>
    unfold sortTo at ih ⊢
    rw [List.take_succ_eq_append_getElem (by omega), List.foldl_append]
    simp only [List.foldl_cons, List.foldl_nil, ins_length]
    rw [ih (by omega)]

theorem sortTo_succ (l : List Item) (k : Nat) (h : k < l.length) : sortTo l (k + 1) = ins (sortTo l k) l[k] := by
  unfold sortTo
  rw [List.take_succ_eq_append_getElem h, List.foldl_append]
  rfl

theorem downTo_congr {p q : Nat → Bool} {j : Nat} (h : ∀ t, t < j → p t = q t) : downTo p j = downTo q j := by
  induction j with
  | zero => rfl
  | succ j ih => simp only [downTo]; rw [h j (by omega), ih (fun t ht => h t (by omega))]

/-- What the shifted row holds: from j on each one place further, up to k. -/
def Shifted (m m' : List Item) (j k : Nat) : Prop := m'.length = m.length ∧ ∀ t, m'[t]? = if j < t ∧ t ≤ k then m[t - 1]? else m[t]?

theorem Shifted.refl (m : List Item) (k : Nat) : Shifted m m k k := ⟨rfl, fun t => by rw [if_neg (by omega)]⟩

theorem Shifted.step {m m' : List Item} {j k : Nat} {y : Item} (h : Shifted m m' (j + 1) k) (hk : j + 1 ≤ k) (hkm : k < m.length) (hy : m[j]? = some y) : Shifted m (m'.set (j + 1) y) j k := by
  refine ⟨by simp [h.1], fun t => ?_⟩
  rw [List.getElem?_set]
  by_cases e : j + 1 = t
  · subst e
    rw [if_pos rfl, if_pos (by rw [h.1]; omega), if_pos (by omega)]
    exact hy.symm
  · rw [if_neg e, h.2 t]
    by_cases c : j < t ∧ t ≤ k
    · rw [if_pos c, if_pos (by omega)]
    · rw [if_neg c, if_neg (by omega)]

theorem Shifted.at {m m' : List Item} {j k : Nat} (h : Shifted m m' j k) {t : Nat} (ht : t ≤ j) : m'[t]? = m[t]? := by
  rw [h.2 t, if_neg (by omega)]

/-- Where the row is shifted and x stands at its place, the first k + 1 are those of 'ins'. -/
theorem Shifted.done {m m' s : List Item} {j k : Nat} {x : Item} (h : Shifted m m' j k) (hjk : j ≤ k) (hkm : k < m.length) (hs : m.take k = s) (hj : downTo (lessAt m x) k = j) : (m'.set j x).take (k + 1) = ins s x := by
  have hsl : s.length = k := by rw [← hs]; simp; omega
  have hd : downTo (lessAt s x) s.length = j := by
    rw [hsl, ← hj]
    refine downTo_congr fun t ht => ?_
    unfold lessAt
    rw [← hs, List.getElem?_take_of_lt ht]
  unfold ins
  rw [hd]
  apply List.ext_getElem?
  intro t
  rw [List.getElem?_take, List.getElem?_set, List.getElem?_append, List.length_take, hsl, Nat.min_eq_left hjk, h.1]
  by_cases c1 : t < k + 1
  · rw [if_pos c1]
    by_cases e : j = t
    · subst e
      rw [if_pos rfl, if_pos (by omega), if_neg (by omega)]
      simp
    · rw [if_neg e]
      by_cases c2 : t < j
      · rw [if_pos c2, h.2 t, if_neg (by omega), List.getElem?_take_of_lt c2, ← hs, List.getElem?_take_of_lt (by omega)]
      · rw [if_neg c2, h.2 t, if_pos (by omega)]
        rw [show t - j = (t - j - 1) + 1 from by omega, List.getElem?_cons_succ, List.getElem?_drop, ← hs, List.getElem?_take_of_lt (by omega)]
        congr 1; omega
  · rw [if_neg c1, if_neg (by omega)]
    rw [show t - j = (t - j - 1) + 1 from by omega, List.getElem?_cons_succ, List.getElem?_drop, List.getElem?_eq_none (by omega)]

/-- A row of items that may be written. -/
def ItemsW (w : World) (g : Nat) (m : List Item) : Prop := ItemsIn w g m ∧ ∀ o, w.frozen? ⟨g, o, none⟩ = false

theorem cell_set9_same {w : World} {g o : Nat} {x : Item} (h : ∀ c, c < 9 → (w.cell? ⟨g, o + c, none⟩).isSome) :
    ItAt (((((((((w.setCell ⟨g, o, none⟩ (.int .i64 x.kind)).setCell ⟨g, o + 1, none⟩ (.string x.name)).setCell ⟨g, o + 2, none⟩ (.string x.host)).setCell ⟨g, o + 3, none⟩ (.int .i64 x.number)).setCell ⟨g, o + 4, none⟩ (.int .i64 x.size)).setCell ⟨g, o + 5, none⟩ (.string x.disk)).setCell ⟨g, o + 6, none⟩ (.bool x.only)).setCell ⟨g, o + 7, none⟩ (.int .i64 x.lun)).setCell ⟨g, o + 8, none⟩ (.string x.text)) g o x := by
  obtain ⟨v0, h0⟩ := Option.isSome_iff_exists.1 (h 0 (by omega))
  obtain ⟨v1, h1⟩ := Option.isSome_iff_exists.1 (h 1 (by omega))
  obtain ⟨v2, h2⟩ := Option.isSome_iff_exists.1 (h 2 (by omega))
  obtain ⟨v3, h3⟩ := Option.isSome_iff_exists.1 (h 3 (by omega))
  obtain ⟨v4, h4⟩ := Option.isSome_iff_exists.1 (h 4 (by omega))
  obtain ⟨v5, h5⟩ := Option.isSome_iff_exists.1 (h 5 (by omega))
  obtain ⟨v6, h6⟩ := Option.isSome_iff_exists.1 (h 6 (by omega))
  obtain ⟨v7, h7⟩ := Option.isSome_iff_exists.1 (h 7 (by omega))
  obtain ⟨v8, h8⟩ := Option.isSome_iff_exists.1 (h 8 (by omega))
  rw [Nat.add_zero] at h0
  constructor <;> go_simp

end Go.Proofs.YtdlhgbhaeedbdabGreat

/- 'inOrder'. -/
namespace Go.Proofs.YtdlhgbhaeedbdabGreat
open Go.RowKit

theorem cell_set9_other {w : World} {g o : Nat} {q : Addr} (u0 u1 u2 u3 u4 u5 u6 u7 u8 : Value) (h : ∀ c, c < 9 → q ≠ ⟨g, o + c, none⟩) :
    (((((((((w.setCell ⟨g, o, none⟩ u0).setCell ⟨g, o + 1, none⟩ u1).setCell ⟨g, o + 2, none⟩ u2).setCell ⟨g, o + 3, none⟩ u3).setCell ⟨g, o + 4, none⟩ u4).setCell ⟨g, o + 5, none⟩ u5).setCell ⟨g, o + 6, none⟩ u6).setCell ⟨g, o + 7, none⟩ u7).setCell ⟨g, o + 8, none⟩ u8).cell? q = w.cell? q := by
  have e : ∀ (w : World) (c : Nat) (u : Value), c < 9 → (w.setCell ⟨g, o + c, none⟩ u).cell? q = w.cell? q := fun w c u hc => World.cell?_setCell_other _ _ _ _ (Ne.symm (h c hc))
  rw [e _ 8 _ (by omega), e _ 7 _ (by omega), e _ 6 _ (by omega), e _ 5 _ (by omega), e _ 4 _ (by omega), e _ 3 _ (by omega), e _ 2 _ (by omega), e _ 1 _ (by omega)]
  exact e _ 0 _ (by omega)

/-- An item is stored at place j. -/
theorem ItemsW.set {w : World} {g : Nat} {m : List Item} (h : ItemsW w g m) {j : Nat} (hj : j < m.length) (x : Item) :
    ItemsW (((((((((w.setCell ⟨g, j * 9, none⟩ (.int .i64 x.kind)).setCell ⟨g, j * 9 + 1, none⟩ (.string x.name)).setCell ⟨g, j * 9 + 2, none⟩ (.string x.host)).setCell ⟨g, j * 9 + 3, none⟩ (.int .i64 x.number)).setCell ⟨g, j * 9 + 4, none⟩ (.int .i64 x.size)).setCell ⟨g, j * 9 + 5, none⟩ (.string x.disk)).setCell ⟨g, j * 9 + 6, none⟩ (.bool x.only)).setCell ⟨g, j * 9 + 7, none⟩ (.int .i64 x.lun)).setCell ⟨g, j * 9 + 8, none⟩ (.string x.text)) g (m.set j x) := by
  obtain ⟨⟨hg, hit⟩, hf⟩ := h
  refine ⟨⟨by simpa [World.setCell] using hg, fun i hi => ?_⟩, fun o => by simp [hf o]⟩
  have hi' : i < m.length := by simpa using hi
  by_cases e : i = j
  · subst e
    simp only [List.getElem_set_self]
    refine cell_set9_same fun c hc => ?_
    obtain ⟨c0, c1, c2, c3, c4, c5, c6, c7, c8⟩ := hit i hi'
    match c, hc with
    | 0, _ => rw [Nat.add_zero, c0]; rfl
    | 1, _ => rw [c1]; rfl
    | 2, _ => rw [c2]; rfl
    | 3, _ => rw [c3]; rfl
    | 4, _ => rw [c4]; rfl
    | 5, _ => rw [c5]; rfl
    | 6, _ => rw [c6]; rfl
    | 7, _ => rw [c7]; rfl
    | 8, _ => rw [c8]; rfl
  · rw [List.getElem_set_ne (Ne.symm e)]
    obtain ⟨c0, c1, c2, c3, c4, c5, c6, c7, c8⟩ := hit i hi'
    have oth : ∀ d, d < 9 → ∀ c, c < 9 → (⟨g, i * 9 + d, none⟩ : Addr) ≠ ⟨g, j * 9 + c, none⟩ := by
      intro d hd c hc he
      simp only [Addr.mk.injEq] at he
      omega
    have oth0 : ∀ c, c < 9 → (⟨g, i * 9, none⟩ : Addr) ≠ ⟨g, j * 9 + c, none⟩ := by
      intro c hc he
      simp only [Addr.mk.injEq] at he
      omega
    exact ⟨(cell_set9_other _ _ _ _ _ _ _ _ _ oth0).trans c0, (cell_set9_other _ _ _ _ _ _ _ _ _ (oth 1 (by omega))).trans c1, (cell_set9_other _ _ _ _ _ _ _ _ _ (oth 2 (by omega))).trans c2, (cell_set9_other _ _ _ _ _ _ _ _ _ (oth 3 (by omega))).trans c3, (cell_set9_other _ _ _ _ _ _ _ _ _ (oth 4 (by omega))).trans c4, (cell_set9_other _ _ _ _ _ _ _ _ _ (oth 5 (by omega))).trans c5, (cell_set9_other _ _ _ _ _ _ _ _ _ (oth 6 (by omega))).trans c6, (cell_set9_other _ _ _ _ _ _ _ _ _ (oth 7 (by omega))).trans c7, (cell_set9_other _ _ _ _ _ _ _ _ _ (oth 8 (by omega))).trans c8⟩

/-- What 'make' lays for n items. -/
def madeItems (n : Nat) : Array Value := madeCells zItem (n * 9)

theorem madeItems_get (n i c : Nat) (hi : i < n) (hc : c < 9) : (madeItems n)[i * 9 + c]? = zItem[c]? := by
  have h7 : zItem.size = 9 := rfl
  unfold madeItems madeCells
  rw [Array.getElem?_map, Array.getElem?_range, if_pos (by omega), h7, Option.map_some, show (i * 9 + c) % 9 = c from by omega]
  have : c < zItem.size := by omega
  simp [this]

theorem items_made (w : World) (n : Nat) : ItemsW (w.alloc (.cells (madeItems n) 83)) w.heap.size (List.replicate n noItem) := by
  refine ⟨⟨by simp, fun i hi => ?_⟩, fun o => World.frozen?_alloc_at _ _ _ _ rfl⟩
  have hi' : i < n := by simpa using hi
  have key : ∀ c, c < 9 → ∀ u, zItem[c]? = some u → (w.alloc (.cells (madeItems n) 83)).cell? ⟨w.heap.size, i * 9 + c, none⟩ = some u := by
    intro c hc u hu
    rw [World.cell?_alloc_at _ _ _ _ rfl]
    rw [madeItems_get n i c hi' hc]
    exact hu
  rw [List.getElem_replicate]
  exact ⟨key 0 (by omega) _ rfl, key 1 (by omega) _ rfl, key 2 (by omega) _ rfl, key 3 (by omega) _ rfl, key 4 (by omega) _ rfl, key 5 (by omega) _ rfl, key 6 (by omega) _ rfl, key 7 (by omega) _ rfl, key 8 (by omega) _ rfl⟩

theorem run_makeItems (n : Nat) (hn : n ≤ 24) (w : World) : (Instr.makeSlice 70 (.int .i64 (n : Int)) (.int .i64 (n : Int))).run Tryz.prog w = .ok (.slice (some ⟨w.heap.size, 0, none⟩) n n) (w.alloc (.cells (madeItems n) 83)) := by
  obtain ⟨i0, hi, hz0, hz1, hz2⟩ := info_parts Tryz.infoItem
  have := run_make (P := Tryz.prog) w 70 83 i0 (.agg zItem) Tryz.underlying70 hi hz0 .i64 .i64 n n (by omega) (by omega) (by rw [hz2]; omega) (by omega)
  rw [hz1] at this
  simpa [Value.cells, madeItems] using this

end Go.Proofs.YtdlhgbhaeedbdabGreat
