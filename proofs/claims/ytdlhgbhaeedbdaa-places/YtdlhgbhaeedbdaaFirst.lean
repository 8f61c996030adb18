/- 'firstTwice', 'firstLost'. -/
import Derived.Test.YtdlhgbhaeedbdaaFind
namespace Go.Proofs.Ytdlhgbhaeedbdaa
open Go.RowKit

/-- v is a list of the items l. -/
def ItemsAt (w : World) (v : Value) (l : List Item) : Prop :=
  (v = .slice none 0 0 ∧ l = []) ∨ ∃ g cap, v = .slice (some ⟨g, 0, none⟩) l.length cap ∧ l.length ≤ cap ∧ ItemsIn w g l

theorem not_t {b : Bool} (h : true = !b) : b = false := by cases b <;> simp at h ⊢
theorem not_f {b : Bool} (h : false = !b) : b = true := by cases b <;> simp at h ⊢
theorem namesOf_len (y : Item) : (namesOf y).length ≤ 2 := by
  unfold namesOf
  split
  · simp
  · split
    · simp
    · split <;> simp

theorem ret_num {a b : Nat} (h : a = b) : Ending.returned (.int .i64 (a : Int)) = .returned (.int .i64 (b : Int)) := by rw [h]

set_option maxRecDepth 100000 in
set_option maxHeartbeats 400000 in
theorem firstTwice_any (v : Value) (l : List Item) (w : World) (hl : l.length ≤ 24) (hv : ItemsAt w v l) :
    Calls Try.prog 61 #[v] w fun e w' => e = .returned (.int .i64 (firstIx (twiceAt l) l.length)) ∧ Below w.heap.size w w' := by
  rcases hv with ⟨rfl, rfl⟩ | ⟨g, cap, rfl, hcap, hit⟩
  · go_enter Try.func61, Try.ntmps61
    go_wp2
    refine wp_loop_rounds 1 ?_
    rw [rounds_succ]
    go_wp2
    go_ret
    exact ⟨rfl, Below.refl _ _⟩
  · have hcap' : (l.length : Int) ≤ (cap : Int) := by omega
    go_enter Try.func61, Try.ntmps61
    go_wp2
    go_loopw [3] (fun i wr => ∃ k : Nat, k ≤ l.length ∧ i = .int .i64 k ∧ (∀ j, j < k → twiceAt l j = false) ∧ Below w.heap.size w wr) (fun i _ => l.length - (intOf i).toNat)
    case atStart => exact ⟨0, Nat.zero_le _, rfl, by intro j hj; omega, Below.refl _ _⟩
    case round =>
      obtain ⟨k, hkk, rfl, hno, hbe⟩ := hrel
      have Hno : Hid _ := hno
      clear hno
      by_cases hlt : k < l.length
      · obtain ⟨y, hy⟩ : ∃ y, y = l[k] := ⟨_, rfl⟩
        have hiy := ((hit.2 k hlt).below hbe hit.1)
        rw [← hy] at hiy
        obtain ⟨c0, c1, c2, c3, c4, c5, c6, c7, c8⟩ := hiy
        have hlt' : (k : Int) < (l.length : Int) := by omega
        have hkc : (k : Int) ≤ (cap : Int) := by omega
        have hhas : ∀ nq, Calls Try.prog 78 #[.slice (some ⟨g, 0, none⟩) k cap, .agg #[.int .i64 (y.kind : Int), .string y.name, .string y.host, .int .i64 y.number]] (wr.drewN nq) fun e w' =>
            e = .returned (.bool (twiceAt l k)) ∧ Below (wr.drewN nq).heap.size (wr.drewN nq) w' := by
          intro nq
          have := has_in g k cap l y.kind y.name y.host y.number (wr.drewN nq) hl (by omega) (hit.below (below_drewN hbe nq) hit.1)
          rw [show twiceAt l k = (l.take k).any (fun x => decide ((x.kind : Int) = (y.kind : Int) ∧ x.name = y.name ∧ x.host = y.host ∧ x.number = y.number)) from by
            simp only [twiceAt, List.getElem?_eq_getElem hlt, ← hy]; rfl]
          exact this
        have hsz := hbe.size
        clear hy
        cases hd : twiceAt l k with
        | true =>
          have hfin := firstIx_hit hlt hd Hno.out
          have Hf : Hid _ := hfin
          rw [hd] at hhas
          have Hh := hide hhas
          clear hd hhas hfin
          go_wp2
          go_region_with (go_at_call 78; refine (unhide Hh 1).mono ?_; rintro e w1 ⟨rfl, hb1⟩)
          all_goals
            go_wp2
            go_ret
            exact ⟨ret_num Hf.out.symm, hbe.drew.trans (hb1.mono hsz)⟩
        | false =>
          have hno' : ∀ j, j < k + 1 → twiceAt l j = false := fun j hj => by
            by_cases e : j = k
            · rw [e]; exact hd
            · exact Hno.out j (by omega)
          have Hf : Hid _ := hno'
          rw [hd] at hhas
          have Hh := hide hhas
          clear hd hhas hno'
          go_wp2
          go_region_with (go_at_call 78; refine (unhide Hh 1).mono ?_; rintro e w1 ⟨rfl, hb1⟩)
          all_goals
            go_wp2
            go_roundw
            case rel => exact ⟨k + 1, by omega, by go_num, Hf.out, hbe.drew.trans (hb1.mono hsz)⟩
            case measure => simp [intOf]; omega
      · have hfin := firstIx_none (n := l.length) (fun j hj => Hno.out j (by omega))
        have Hf : Hid _ := hfin
        clear hfin
        go_wp2
        go_ret
        exact ⟨ret_num Hf.out.symm, hbe⟩

set_option maxRecDepth 100000 in
set_option maxHeartbeats 400000 in
theorem firstLost_any (v : Value) (l : List Item) (w : World) (hl : l.length ≤ 24) (hv : ItemsAt w v l) :
    Calls Try.prog 62 #[v] w fun e w' => e = .returned (.int .i64 (firstIx (lostAt l) l.length)) ∧ Below w.heap.size w w' := by
  have hnot : ∀ (x : Bool) (w : World), (Op.unary .not (.bool x)).run Try.prog w = .ok (.bool (!x)) w := fun _ _ => rfl
  rcases hv with ⟨rfl, rfl⟩ | ⟨g, cap, rfl, hcap, hit⟩
  · go_enter Try.func62, Try.ntmps62
    go_wp2
    refine wp_loop_rounds 1 ?_
    rw [rounds_succ]
    go_wp2
    go_ret
    exact ⟨rfl, Below.refl _ _⟩
  · go_enter Try.func62, Try.ntmps62
    go_wp2
    go_loopw [3] (fun i wr => ∃ k : Nat, k ≤ l.length ∧ i = .int .i64 k ∧ (∀ j, j < k → lostAt l j = false) ∧ Below w.heap.size w wr) (fun i _ => l.length - (intOf i).toNat)
    case atStart => exact ⟨0, Nat.zero_le _, rfl, by intro j hj; omega, Below.refl _ _⟩
    case round =>
      obtain ⟨k, hkk, rfl, hno, hbe⟩ := hrel
      have Hno : Hid _ := hno
      clear hno
      by_cases hlt : k < l.length
      · obtain ⟨y, hy⟩ : ∃ y, y = l[k] := ⟨_, rfl⟩
        have hiy := ((hit.2 k hlt).below hbe hit.1)
        rw [← hy] at hiy
        obtain ⟨c0, c1, c2, c3, c4, c5, c6, c7, c8⟩ := hiy
        have hlt' : (k : Int) < (l.length : Int) := by omega
        have hlo : lostAt l k = !((namesOf y).all fun k => l.any (keyIs k)) := by simp only [lostAt, List.getElem?_eq_getElem hlt, ← hy]
        have hkl : (namesOf y).length ≤ 2 := namesOf_len y
        have hsz := hbe.size
        clear hy
        cases hd : lostAt l k with
        | true =>
          have hfin := firstIx_hit hlt hd Hno.out
          have Hf : Hid _ := hfin
          have Ha : Hid (((namesOf y).all fun k => l.any (keyIs k)) = false) := by rw [hd] at hlo; exact not_t hlo
          clear hd hfin hlo
          go_wp2_with fail
          refine (names_any y _).mono ?_
          rintro e w1 ⟨kv, rfl, hkv, hb1⟩
          have hall := hasAll_in g cap l kv (namesOf y) w1 hl ((hit.below hbe hit.1).below hb1 (by have := hit.1; omega)) _ hkv hkl
          rw [Ha.out] at hall
          have Hh := hide hall
          clear hall
          go_wp2_with fail
          refine (unhide Hh).mono ?_
          rintro e w2 ⟨rfl, hb2⟩
          go_wp2
          go_ret
          exact ⟨ret_num Hf.out.symm, (hbe.trans (hb1.mono hsz)).trans (hb2.mono (by have := hb1.size; omega))⟩
        | false =>
          have hno' : ∀ j, j < k + 1 → lostAt l j = false := fun j hj => by
            by_cases e : j = k
            · rw [e]; exact hd
            · exact Hno.out j (by omega)
          have Hf : Hid _ := hno'
          have Ha : Hid (((namesOf y).all fun k => l.any (keyIs k)) = true) := by rw [hd] at hlo; exact not_f hlo
          clear hd hno' hlo
          go_wp2_with fail
          refine (names_any y _).mono ?_
          rintro e w1 ⟨kv, rfl, hkv, hb1⟩
          have hall := hasAll_in g cap l kv (namesOf y) w1 hl ((hit.below hbe hit.1).below hb1 (by have := hit.1; omega)) _ hkv hkl
          rw [Ha.out] at hall
          have Hh := hide hall
          clear hall
          go_wp2_with fail
          refine (unhide Hh).mono ?_
          rintro e w2 ⟨rfl, hb2⟩
          go_wp2
          go_roundw
          case rel => exact ⟨k + 1, by omega, by go_num, Hf.out, (hbe.trans (hb1.mono hsz)).trans (hb2.mono (by have := hb1.size; omega))⟩
          case measure => simp [intOf]; omega
      · have hfin := firstIx_none (n := l.length) (fun j hj => Hno.out j (by omega))
        have Hf : Hid _ := hfin
        clear hfin
        go_wp2
        go_ret
        exact ⟨ret_num Hf.out.symm, hbe⟩

end Go.Proofs.Ytdlhgbhaeedbdaa
