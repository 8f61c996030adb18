/- 'hasAll', 'firstTwice', 'firstLost'. -/
import Derived.Test.YtdlhgbhaeedbdaaHas
import Derived.Test.YtdlhgbhaeedbdaaNames
namespace Go.Proofs.Ytdlhgbhaeedbdaa
open Go.RowKit

def keyIs (k : Key) (x : Item) : Bool := decide ((x.kind : Int) = k.kind ∧ x.name = k.name ∧ x.host = k.host ∧ x.number = k.number)
def Item.key (x : Item) : Key := ⟨x.kind, x.name, x.host, x.number⟩

/-- The first place below n at which p holds, or n. -/
def firstIx (p : Nat → Bool) (n : Nat) : Nat := ((List.range n).find? p).getD n

theorem firstIx_hit {p : Nat → Bool} {n k : Nat} (hk : k < n) (h : p k = true) (hno : ∀ j, j < k → p j = false) : firstIx p n = k := by
  unfold firstIx
  rw [show (List.range n).find? p = some k from by
    rw [List.find?_range_eq_some]
    exact ⟨h, by simpa using hk, fun j hj => by simp [hno j hj]⟩]
  rfl

theorem firstIx_none {p : Nat → Bool} {n : Nat} (hno : ∀ j, j < n → p j = false) : firstIx p n = n := by
  unfold firstIx
  rw [show (List.range n).find? p = none from by
    rw [List.find?_eq_none]
    intro x hx
    simp [hno x (by simpa using hx)]]
  rfl

/-- Has an earlier item the key of item i? -/
def twiceAt (l : List Item) (i : Nat) : Bool := match l[i]? with | some y => (l.take i).any (keyIs y.key) | none => false
/-- Does item i name what is not there? -/
def lostAt (l : List Item) (i : Nat) : Bool := match l[i]? with | some y => !((namesOf y).all fun k => l.any (keyIs k)) | none => false

set_option maxRecDepth 100000 in
set_option maxHeartbeats 400000 in
theorem hasAll_in (g cap : Nat) (l : List Item) (v : Value) (ks : List Key) (w : World) (hl : l.length ≤ 24) (hit : ItemsIn w g l) (B : Nat) (hks : KeysAt w B v ks) (hkl : ks.length ≤ 2) :
    Calls Try.prog 80 #[.slice (some ⟨g, 0, none⟩) l.length cap, v] w fun e w' => e = .returned (.bool (ks.all fun k => l.any (keyIs k))) ∧ Below w.heap.size w w' := by
  have hnot : ∀ (x : Bool) (w : World), (Op.unary .not (.bool x)).run Try.prog w = .ok (.bool (!x)) w := fun _ _ => rfl
  rcases hks with ⟨rfl, rfl⟩ | ⟨kg, kc, rfl, _, hkg, hk⟩
  · go_enter Try.func80, Try.ntmps80
    go_wp2
    refine wp_loop_rounds 1 ?_
    rw [rounds_succ]
    go_wp2
    go_ret
    exact ⟨rfl, Below.refl _ _⟩
  · go_enter Try.func80, Try.ntmps80
    go_wp2
    go_loopw [5] (fun i wr => ∃ k : Nat, k ≤ ks.length ∧ i = .int .i64 k ∧ ((ks.take k).all fun k => l.any (keyIs k)) = true ∧ Below w.heap.size w wr) (fun i _ => ks.length - (intOf i).toNat)
    case atStart => exact ⟨0, Nat.zero_le _, rfl, by simp, Below.refl _ _⟩
    case round =>
      obtain ⟨k, hkk, rfl, hno, hbe⟩ := hrel
      have Hno : Hid _ := hno
      clear hno
      by_cases hlt : k < ks.length
      · obtain ⟨y, hy⟩ : ∃ y, y = ks[k] := ⟨_, rfl⟩
        have hky := hk k hlt
        rw [← hy] at hky
        have c0 := (hbe.cell (p := ⟨kg, k * 4, none⟩) hkg).trans hky.c0
        have c1 := (hbe.cell (p := ⟨kg, k * 4 + 1, none⟩) hkg).trans hky.c1
        have c2 := (hbe.cell (p := ⟨kg, k * 4 + 2, none⟩) hkg).trans hky.c2
        have c3 := (hbe.cell (p := ⟨kg, k * 4 + 3, none⟩) hkg).trans hky.c3
        have hlt' : (k : Int) < (ks.length : Int) := by omega
        have hstep : ((ks.take (k + 1)).all fun k => l.any (keyIs k)) = l.any (keyIs y) := by
          rw [List.take_succ_eq_append_getElem (by omega), List.all_append, Hno.out, ← hy]; simp
        have hhas := has_in g l.length cap l y.kind y.name y.host y.number wr hl (Nat.le_refl _) (hit.below hbe hit.1)
        rw [List.take_of_length_le (Nat.le_refl _), show (l.any fun x => decide ((x.kind : Int) = y.kind ∧ x.name = y.name ∧ x.host = y.host ∧ x.number = y.number)) = l.any (keyIs y) from rfl] at hhas
        have hsz := hbe.size
        clear hy hky
        cases hd : l.any (keyIs y) with
        | true =>
          rw [hd] at hhas hstep
          have Hf : Hid _ := hstep
          have Hh := hide hhas
          clear hstep hd hhas
          go_wp2_with (go_at_call 78; refine (unhide Hh).mono ?_; rintro e w1 ⟨rfl, hb1⟩)
          go_roundw
          case rel => exact ⟨k + 1, by omega, by go_num, Hf.out, hbe.trans (hb1.mono hsz)⟩
          case measure => simp [intOf]; omega
        | false =>
          rw [hd] at hhas hstep
          have hfin : (ks.all fun k => l.any (keyIs k)) = false := by
            rw [List.all_eq_false] at hstep ⊢
            obtain ⟨z, hz, hp⟩ := hstep
            exact ⟨z, List.mem_of_mem_take hz, hp⟩
          have Hf : Hid _ := hfin
          have Hh := hide hhas
          clear hstep hd hhas hfin
          go_wp2_with (go_at_call 78; refine (unhide Hh).mono ?_; rintro e w1 ⟨rfl, hb1⟩)
          go_ret
          exact ⟨ret_bool Hf.out.symm, hbe.trans (hb1.mono hsz)⟩
      · have hfin := Hno.out
        rw [List.take_of_length_le (by omega)] at hfin
        have Hf : Hid _ := hfin
        clear hfin
        go_wp2
        go_ret
        exact ⟨ret_bool Hf.out.symm, hbe⟩

end Go.Proofs.Ytdlhgbhaeedbdaa
