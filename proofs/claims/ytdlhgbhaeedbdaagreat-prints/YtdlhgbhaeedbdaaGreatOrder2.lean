/- 'inOrder', walked. -/
import Derived.Test.YtdlhgbhaeedbdaaGreatOrder
import Derived.Deep.RegionHeld3
namespace Go.Proofs.YtdlhgbhaeedbdaaGreat
open Go.RowKit

theorem lessAt_eq {m : List Item} {x y : Item} {t : Nat} (h : m[t]? = some y) : lessAt m x t = lessIt x y := by simp [lessAt, h]

theorem ItemsW.below {B : Nat} {w w' : World} {g : Nat} {m : List Item} (h : ItemsW w g m) (hb : Below B w w') (hg : g < B) : ItemsW w' g m :=
  ⟨h.1.below hb hg, fun o => (hb.frozen (p := ⟨g, o, none⟩) hg).trans (h.2 o)⟩

theorem keep4 {B : Nat} {w w1 : World} (hb : Below B w w1) {g o : Nat} (hg : g < B) {a b c d : Value} (h0 : w.cell? ⟨g, o, none⟩ = some a) (h1 : w.cell? ⟨g, o + 1, none⟩ = some b) (h2 : w.cell? ⟨g, o + 2, none⟩ = some c) (h3 : w.cell? ⟨g, o + 3, none⟩ = some d) :
    w1.cell? ⟨g, o, none⟩ = some a ∧ w1.cell? ⟨g, o + 1, none⟩ = some b ∧ w1.cell? ⟨g, o + 2, none⟩ = some c ∧ w1.cell? ⟨g, o + 3, none⟩ = some d :=
  ⟨(hb.cell (p := ⟨g, o, none⟩) hg).trans h0, (hb.cell (p := ⟨g, o + 1, none⟩) hg).trans h1, (hb.cell (p := ⟨g, o + 2, none⟩) hg).trans h2, (hb.cell (p := ⟨g, o + 3, none⟩) hg).trans h3⟩

theorem ItemsW.drewN {w : World} {g : Nat} {m : List Item} (h : ItemsW w g m) (n : Nat) : ItemsW (w.drewN n) g m :=
  ⟨⟨h.1.1, fun i hi => ⟨(h.1.2 i hi).c0, (h.1.2 i hi).c1, (h.1.2 i hi).c2, (h.1.2 i hi).c3, (h.1.2 i hi).c4, (h.1.2 i hi).c5, (h.1.2 i hi).c6, (h.1.2 i hi).c7, (h.1.2 i hi).c8⟩⟩, h.2⟩

theorem ItemsW.drew {w : World} {g : Nat} {m : List Item} (h : ItemsW w g m) : ItemsW w.drew g m :=
  ⟨⟨h.1.1, fun i hi => ⟨(h.1.2 i hi).c0, (h.1.2 i hi).c1, (h.1.2 i hi).c2, (h.1.2 i hi).c3, (h.1.2 i hi).c4, (h.1.2 i hi).c5, (h.1.2 i hi).c6, (h.1.2 i hi).c7, (h.1.2 i hi).c8⟩⟩, h.2⟩

theorem ord_done {l m m' : List Item} {x : Item} {j k : Nat} (hlt : k < l.length) (hx : x = l[k]) (hml : m.length = l.length) (hmt : m.take k = sortTo l k) (hsh : Shifted m m' j k) (hjk : j ≤ k) (hdn : downTo (lessAt m x) k = downTo (lessAt m x) j) (hst : downTo (lessAt m x) j = j) :
    (m'.set j x).length = l.length ∧ (m'.set j x).take (k + 1) = sortTo l (k + 1) :=
  ⟨by simp [hsh.1, hml], by rw [sortTo_succ l k hlt, ← hx, hsh.done hjk (by omega) hmt (by rw [hdn, hst])]⟩

set_option maxRecDepth 100000 in
set_option maxHeartbeats 400000 in
theorem inOrder_in (g cap : Nat) (l : List Item) (w : World) (hl : l.length ≤ 24) (hit : ItemsIn w g l) :
    Calls Tryz.prog 91 #[.slice (some ⟨g, 0, none⟩) l.length cap] w fun e w' => e = .returned (.slice (some ⟨w.heap.size, 0, none⟩) l.length l.length) ∧ ItemsIn w' w.heap.size (sortTo l l.length) ∧ Below w.heap.size w w' := by
  have hmk := run_makeItems l.length hl
  have hg0 := hit.1
  have hm0 := items_made w l.length
  go_enter Tryz.func91, Tryz.ntmps91
  go_wp2
  go_loopw [4] (fun i wr => ∃ (k : Nat) (m : List Item), k ≤ l.length ∧ i = .int .i64 k ∧ m.length = l.length ∧ m.take k = sortTo l k ∧ ItemsW wr w.heap.size m ∧ Below w.heap.size w wr) (fun i _ => l.length - (intOf i).toNat)
  case atStart => exact ⟨0, List.replicate l.length noItem, Nat.zero_le _, rfl, by simp, by simp [sortTo], hm0, (Below.refl _ _).alloc (Nat.le_refl _) _⟩
  case round =>
    obtain ⟨k, m, hk, rfl, hml, hmt, hmw, hbe⟩ := hrel
    have Hml := hide hml
    have Hmt := hide hmt
    clear hml hmt
    by_cases hlt : k < l.length
    · obtain ⟨x, hx⟩ : ∃ x, x = l[k] := ⟨_, rfl⟩
      have Hx := hide hx
      have hix := hit.2 k hlt
      rw [← hx] at hix
      clear hx
      have hlt' : (k : Int) < (l.length : Int) := by omega
      go_wp2
      go_loopw [5] (fun t wr2 => ∃ (j : Nat) (m' : List Item), j ≤ k ∧ t = .int .i64 j ∧ Shifted m m' j k ∧ downTo (lessAt m x) k = downTo (lessAt m x) j ∧ ItemsW wr2 w.heap.size m' ∧ Below w.heap.size w wr2) (fun t _ => (intOf t).toNat)
      case atStart => exact ⟨k, m, Nat.le_refl _, rfl, Shifted.refl _ _, rfl, hmw, hbe⟩
      case round =>
        obtain ⟨j, m', hjk, rfl, hsh, hdn, hmw', hbe'⟩ := hrel
        have Hdn := hide hdn
        clear hdn
        have Hsh := hide hsh
        clear hsh
        have hix2 := hix.below hbe' hg0
        obtain ⟨c0, c1, c2, c3, c4, c5, c6, c7, c8⟩ := hix2
        have hkm : k < m.length := by rw [unhide Hml]; exact hlt
        have hml' : m'.length = m.length := (unhide Hsh).1
        have Hml' := hide hml'
        clear hml'
        match j, hjk with
        | 0, hjk =>
          have hj0 : 0 < m'.length := by rw [unhide Hml']; omega
          obtain ⟨d0, d1, d2, d3, d4, d5, d6, d7, d8⟩ := hmw'.1.2 0 hj0
          have hfz := hmw'.2
          simp only [Nat.zero_mul, Nat.zero_add] at d0 d1 d2 d3 d4 d5 d6 d7 d8
          have R := ord_done hlt (unhide Hx) (unhide Hml) (unhide Hmt) (unhide Hsh) (Nat.zero_le _) (unhide Hdn) rfl
          have HR := hide R
          clear R
          go_wp2
          go_quiet (fail)
          go_wp2
          go_roundw
          case rel => exact ⟨k + 1, m'.set 0 x, by omega, by go_num, (unhide HR).1, (unhide HR).2, (hmw'.drewN _).set hj0 x, below_set9 (below_drewN hbe' _) (Nat.le_refl _) 0 _ _ _ _ _ _ _ _ _⟩
          case measure => simp [intOf]; omega
        | j + 1, hjk =>
          have hjm : j < m'.length := by rw [unhide Hml']; omega
          have hjm1 : j + 1 < m'.length := by rw [unhide Hml']; omega
          obtain ⟨y, hy⟩ : ∃ y, y = m'[j] := ⟨_, rfl⟩
          have hym : m[j]? = some y := by rw [← (unhide Hsh).at (by omega), hy]; exact List.getElem?_eq_getElem hjm
          have hiy := hmw'.1.2 j hjm
          rw [← hy] at hiy
          obtain ⟨e0, e1, e2, e3, e4, e5, e6, e7, e8⟩ := hiy
          obtain ⟨d0, d1, d2, d3, d4, d5, d6, d7, d8⟩ := hmw'.1.2 (j + 1) hjm1
          have hfz := hmw'.2
          have hle := lessAt_eq (x := x) hym
          have Hym := hide hym
          have Hy := hide hy
          clear hym hy
          have hjl : ((j + 1 : Nat) : Int) < (l.length : Int) := by omega
          have hjl2 : (j : Int) < (l.length : Int) := by omega
          have hgd : (0 : Int) < (j : Int) + 1 := by omega
          have hsz2 := hmw'.1.1
          have hgs := Nat.lt_trans hg0 hsz2
          have hw1 : IntKind.i64.wrap (j : Int) = (j : Int) := by rw [IntKind.wrap_i64]; omega
          cases hd : lessIt x y with
          | true =>
            have hless : ∀ wx, Calls Tryz.prog 131 #[.agg #[.int .i64 x.kind, .string x.name, .string x.host, .int .i64 x.number], .agg #[.int .i64 y.kind, .string y.name, .string y.host, .int .i64 y.number]] wx fun e w' => e = .returned (.bool true) ∧ Below wx.heap.size wx w' := by
              intro wx; have := less_any x.kind x.name x.host x.number y.kind y.name y.host y.number wx; rw [show lessK x.kind x.name x.host x.number y.kind y.name y.host y.number = true from hd] at this; exact this
            have hdn2 : downTo (lessAt m x) k = downTo (lessAt m x) j := by rw [unhide Hdn]; simp only [downTo]; rw [hle, hd]; rfl
            have Hd2 := hide hdn2
            have Hl := hide hless
            clear hdn2 hless hd hle
            go_wp2
            go_region_held3 (fun w' => w'.cell? ⟨g, k * 9, none⟩ = some (.int .i64 x.kind) ∧ w'.cell? ⟨g, k * 9 + 1, none⟩ = some (.string x.name) ∧ w'.cell? ⟨g, k * 9 + 2, none⟩ = some (.string x.host) ∧ w'.cell? ⟨g, k * 9 + 3, none⟩ = some (.int .i64 x.number) ∧
                w'.cell? ⟨w.heap.size, j * 9, none⟩ = some (.int .i64 y.kind) ∧ w'.cell? ⟨w.heap.size, j * 9 + 1, none⟩ = some (.string y.name) ∧ w'.cell? ⟨w.heap.size, j * 9 + 2, none⟩ = some (.string y.host) ∧ w'.cell? ⟨w.heap.size, j * 9 + 3, none⟩ = some (.int .i64 y.number)) (go_keep)
              (first | (go_at_call 131; refine (unhide Hl _).mono ?_; rintro e w1 ⟨rfl, hb1⟩; obtain ⟨q0, q1, q2, q3⟩ := keep4 hb1 hgs c0 c1 c2 c3; obtain ⟨q4, q5, q6, q7⟩ := keep4 hb1 hsz2 e0 e1 e2 e3))
            all_goals
              have hmw1 := hmw'.drew.below hb1 hsz2
              clear c0 c1 c2 c3 c4 c5 c6 c7 c8 d0 d1 d2 d3 d4 d5 d6 d7 d8 e0 e1 e2 e3 e4 e5 e6 e7 e8 q0 q1 q2 q3 q4 q5 q6 q7 hfz
              have hiy := hmw1.1.2 j hjm
              rw [← unhide Hy] at hiy
              obtain ⟨e0, e1, e2, e3, e4, e5, e6, e7, e8⟩ := hiy
              obtain ⟨d0, d1, d2, d3, d4, d5, d6, d7, d8⟩ := hmw1.1.2 (j + 1) hjm1
              have hfz := hmw1.2
              go_wp2
              go_roundw
              case rel => exact ⟨j, m'.set (j + 1) y, by omega, rfl, (unhide Hsh).step hjk hkm (unhide Hym), unhide Hd2, hmw1.set hjm1 y, below_set9 (hbe'.drew.trans (hb1.mono (Nat.le_of_lt hsz2))) (Nat.le_refl _) _ _ _ _ _ _ _ _ _ _⟩
              case measure => simp [intOf]
          | false =>
            have hless : ∀ wx, Calls Tryz.prog 131 #[.agg #[.int .i64 x.kind, .string x.name, .string x.host, .int .i64 x.number], .agg #[.int .i64 y.kind, .string y.name, .string y.host, .int .i64 y.number]] wx fun e w' => e = .returned (.bool false) ∧ Below wx.heap.size wx w' := by
              intro wx; have := less_any x.kind x.name x.host x.number y.kind y.name y.host y.number wx; rw [show lessK x.kind x.name x.host x.number y.kind y.name y.host y.number = false from hd] at this; exact this
            have hst : downTo (lessAt m x) (j + 1) = j + 1 := by simp only [downTo]; rw [hle, hd]; rfl
            have R := ord_done hlt (unhide Hx) (unhide Hml) (unhide Hmt) (unhide Hsh) hjk (unhide Hdn) hst
            have HR := hide R
            have Hl := hide hless
            clear R hst hless hd hle
            go_wp2
            go_region_held3 (fun w' => w'.cell? ⟨g, k * 9, none⟩ = some (.int .i64 x.kind) ∧ w'.cell? ⟨g, k * 9 + 1, none⟩ = some (.string x.name) ∧ w'.cell? ⟨g, k * 9 + 2, none⟩ = some (.string x.host) ∧ w'.cell? ⟨g, k * 9 + 3, none⟩ = some (.int .i64 x.number) ∧
                w'.cell? ⟨w.heap.size, j * 9, none⟩ = some (.int .i64 y.kind) ∧ w'.cell? ⟨w.heap.size, j * 9 + 1, none⟩ = some (.string y.name) ∧ w'.cell? ⟨w.heap.size, j * 9 + 2, none⟩ = some (.string y.host) ∧ w'.cell? ⟨w.heap.size, j * 9 + 3, none⟩ = some (.int .i64 y.number)) (go_keep)
              (first | (go_at_call 131; refine (unhide Hl _).mono ?_; rintro e w1 ⟨rfl, hb1⟩; obtain ⟨q0, q1, q2, q3⟩ := keep4 hb1 hgs c0 c1 c2 c3; obtain ⟨q4, q5, q6, q7⟩ := keep4 hb1 hsz2 e0 e1 e2 e3))
            all_goals
              have hmw1 := hmw'.drew.below hb1 hsz2
              have hix1 := hix.below (hbe'.drew.trans (hb1.mono (Nat.le_of_lt hsz2))) hg0
              clear c0 c1 c2 c3 c4 c5 c6 c7 c8 d0 d1 d2 d3 d4 d5 d6 d7 d8 e0 e1 e2 e3 e4 e5 e6 e7 e8 q0 q1 q2 q3 q4 q5 q6 q7 hfz
              obtain ⟨c0, c1, c2, c3, c4, c5, c6, c7, c8⟩ := hix1
              obtain ⟨d0, d1, d2, d3, d4, d5, d6, d7, d8⟩ := hmw1.1.2 (j + 1) hjm1
              have hfz := hmw1.2
              go_wp2
              go_roundw
              case rel => exact ⟨k + 1, m'.set (j + 1) x, by omega, by go_num, (unhide HR).1, (unhide HR).2, hmw1.set hjm1 x, below_set9 (hbe'.drew.trans (hb1.mono (Nat.le_of_lt hsz2))) (Nat.le_refl _) _ _ _ _ _ _ _ _ _ _⟩
              case measure => simp [intOf]; omega
    · have hkl : k = l.length := by omega
      subst hkl
      have hmt := unhide Hmt
      rw [List.take_of_length_le (by rw [unhide Hml]; exact Nat.le_refl _)] at hmt
      have Hf := hide hmt
      clear hmt
      go_wp2
      go_ret
      exact ⟨rfl, by rw [← unhide Hf]; exact hmw.1, hbe⟩

end Go.Proofs.YtdlhgbhaeedbdaaGreat
