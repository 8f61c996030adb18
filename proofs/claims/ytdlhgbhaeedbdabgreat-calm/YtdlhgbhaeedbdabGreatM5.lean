/- Order2, Print, Print2, Pl1. -/
import Derived.Test.YtdlhgbhaeedbdabGreatM4
import Derived.Deep.RegionHeld3
import Derived.Lib.AppendStr

/- 'inOrder', walked. -/
namespace Go.Proofs.YtdlhgbhaeedbdabGreat
open Go.RowKit

theorem lessAt_eq {m : List Item} {x y : Item} {t : Nat} (h : m[t]? = some y) : lessAt m x t = lessIt x y := by simp [lessAt, h]

theorem ItemsW.below {B : Nat} {w w' : World} {g : Nat} {m : List Item} (h : ItemsW w g m) (hb : Below B w w') (hg : g < B) : ItemsW w' g m :=
  ⟨h.1.below hb hg, fun o => (hb.frozen (p := ⟨g, o, none⟩) hg).trans (h.2 o)⟩

theorem keep4 {B : Nat} {w w1 : World} (hb : Below B w w1) {g o : Nat} (hg : g < B) {a b c d : Value} (h0 : w.cell? ⟨g, o, none⟩ = some a) (h1 : w.cell? ⟨g, o + 1, none⟩ = some b) (h2 : w.cell? ⟨g, o + 2, none⟩ = some c) (h3 : w.cell? ⟨g, o + 3, none⟩ = some d) :
    w1.cell? ⟨g, o, none⟩ = some a ∧ w1.cell? ⟨g, o + 1, none⟩ = some b ∧ w1.cell? ⟨g, o + 2, none⟩ = some c ∧ w1.cell? ⟨g, o + 3, none⟩ = some d :=
  ⟨(hb.cell (p := ⟨g, o, none⟩) hg).trans h0, (hb.cell (p := ⟨g, o + 1, none⟩) hg).trans h1, (hb.cell (p := ⟨g, o + 2, none⟩) hg).trans h2, (hb.cell (p := ⟨g, o + 3, none⟩) hg).trans h3⟩

theorem ItemsW.drewN {w : World} {g : Nat} {m : List Item} (h : ItemsW w g m) (n : Nat) : ItemsW (w.drewN n) g m :=
  ⟨⟨h.1.1, fun i hi => ⟨(h.1.2 i hi).c0, (h.1.2 i hi).c1, (h.1.2 i hi).c2, (h.1.2 i hi).c3, (h.1.2 i hi).c4, (h.1.2 i hi).c5, (h.1.2 i hi).c6, (h.1.2 i hi).c7, (h.1.2 i hi).c8⟩⟩, h.2⟩

theorem ItemsW.drew {w : World} {g : Nat} {m : List Item} (h : ItemsW w g m) : ItemsW w.drew g m :=
  ⟨⟨h.1.1, fun i hi => ⟨(h.1.2 i hi).c0, (h.1.2 i hi).c1, (h.1.2 i hi).c2, (h.1.2 i hi).c3, (h.1.2 i hi).c4, (h.1.2 i hi).c5, (h.1.2 i hi).c6, (h.1.2 i hi).c7, (h.1.2 i hi).c8⟩⟩, h.2⟩

theorem ord_done {l m m' : List Item} {x : Item} {j k : Nat} (hlt : k < l.length) (hx : x = l[k]) (hml : m.length = l.length) (hmt : m.take k = sortTo l k) (hsh : Shifted m m' j k) (hjk : j ≤ k) (hdn : downTo (lessAt m x) k = downTo (lessAt m x) j) (hst : downTo (lessAt m x) j = j) :
    (m'.set j x).length = l.length ∧ (m'.set j x).take (k + 1) = sortTo l (k + 1) :=
  ⟨by simp [hsh.1, hml], by rw [sortTo_succ l k hlt, ← hx, hsh.done hjk (by omega) hmt (by rw [hdn, hst])]⟩

set_option maxRecDepth 100000 in
set_option maxHeartbeats 400000 in
theorem inOrder_in (g cap : Nat) (l : List Item) (w : World) (hl : l.length ≤ 24) (hit : ItemsIn w g l) :
    Calls Tryz.prog 65 #[.slice (some ⟨g, 0, none⟩) l.length cap] w fun e w' => e = .returned (.slice (some ⟨w.heap.size, 0, none⟩) l.length l.length) ∧ ItemsIn w' w.heap.size (sortTo l l.length) ∧ Below w.heap.size w w' := by
  have hmk := run_makeItems l.length hl
  have hg0 := hit.1
  have hm0 := items_made w l.length
  go_enter Tryz.func65, Tryz.ntmps65
  go_wp2
  go_loopw [4] (fun i wr => ∃ (k : Nat) (m : List Item), k ≤ l.length ∧ i = .int .i64 k ∧ m.length = l.length ∧ m.take k = sortTo l k ∧ ItemsW wr w.heap.size m ∧ Below w.heap.size w wr) (fun i _ => l.length - (intOf i).toNat)
  case atStart => exact ⟨0, List.replicate l.length noItem, Nat.zero_le _, rfl, by simp, by simp [sortTo], hm0, (Below.refl _ _).alloc (Nat.le_refl _) _⟩
  case round =>
    obtain ⟨k, m, hk, rfl, hml, hmt, hmw, hbe⟩ := hrel
    have Hml := hide hml
    have Hmt := hide hmt
    clear hml hmt
    by_cases hlt : k < l.length
    · obtain ⟨x, hx⟩ : ∃ x, x = l[k] := ⟨_, rfl⟩
      have Hx := hide hx
      have hix := hit.2 k hlt
      rw [← hx] at hix
      clear hx
      have hlt' : (k : Int) < (l.length : Int) := by omega
      go_wp2
      go_loopw [5] (fun t wr2 => ∃ (j : Nat) (m' : List Item), j ≤ k ∧ t = .int .i64 j ∧ Shifted m m' j k ∧ downTo (lessAt m x) k = downTo (lessAt m x) j ∧ ItemsW wr2 w.heap.size m' ∧ Below w.heap.size w wr2) (fun t _ => (intOf t).toNat)
      case atStart => exact ⟨k, m, Nat.le_refl _, rfl, Shifted.refl _ _, rfl, hmw, hbe⟩
      case round =>
        obtain ⟨j, m', hjk, rfl, hsh, hdn, hmw', hbe'⟩ := hrel
        have Hdn := hide hdn
        clear hdn
        have Hsh := hide hsh
        clear hsh
        have hix2 := hix.below hbe' hg0
        obtain ⟨c0, c1, c2, c3, c4, c5, c6, c7, c8⟩ := hix2
        have hkm : k < m.length := by rw [unhide Hml]; exact hlt
        have hml' : m'.length = m.length := (unhide Hsh).1
        have Hml' := hide hml'
        clear hml'
        match j, hjk with
        | 0, hjk =>
          have hj0 : 0 < m'.length := by rw [unhide Hml']; omega
          obtain ⟨d0, d1, d2, d3, d4, d5, d6, d7, d8⟩ := hmw'.1.2 0 hj0
          have hfz := hmw'.2
          simp only [Nat.zero_mul, Nat.zero_add] at d0 d1 d2 d3 d4 d5 d6 d7 d8
          have R := ord_done hlt (unhide Hx) (unhide Hml) (unhide Hmt) (unhide Hsh) (Nat.zero_le _) (unhide Hdn) rfl
          have HR := hide R
          clear R
          go_wp2
          go_quiet (fail)
          go_wp2
          go_roundw
          case rel => exact ⟨k + 1, m'.set 0 x, by omega, by go_num, (unhide HR).1, (unhide HR).2, (hmw'.drewN _).set hj0 x, below_set9 (below_drewN hbe' _) (Nat.le_refl _) 0 _ _ _ _ _ _ _ _ _⟩
          case measure => simp [intOf]; omega
        | j + 1, hjk =>
          have hjm : j < m'.length := by rw [unhide Hml']; omega
          have hjm1 : j + 1 < m'.length := by rw [unhide Hml']; omega
          obtain ⟨y, hy⟩ : ∃ y, y = m'[j] := ⟨_, rfl⟩
          have hym : m[j]? = some y := by rw [← (unhide Hsh).at (by omega), hy]; exact List.getElem?_eq_getElem hjm
          have hiy := hmw'.1.2 j hjm
          rw [← hy] at hiy
          obtain ⟨e0, e1, e2, e3, e4, e5, e6, e7, e8⟩ := hiy
          obtain ⟨d0, d1, d2, d3, d4, d5, d6, d7, d8⟩ := hmw'.1.2 (j + 1) hjm1
          have hfz := hmw'.2
          have hle := lessAt_eq (x := x) hym
          have Hym := hide hym
          have Hy := hide hy
          clear hym hy
          have hjl : ((j + 1 : Nat) : Int) < (l.length : Int) := by omega
          have hjl2 : (j : Int) < (l.length : Int) := by omega
          have hgd : (0 : Int) < (j : Int) + 1 := by omega
          have hsz2 := hmw'.1.1
          have hgs := Nat.lt_trans hg0 hsz2
          have hw1 : IntKind.i64.wrap (j : Int) = (j : Int) := by rw [IntKind.wrap_i64]; omega
          cases hd : lessIt x y with
          | true =>
            have hless : ∀ wx, Calls Tryz.prog 105 #[.agg #[.int .i64 x.kind, .string x.name, .string x.host, .int .i64 x.number], .agg #[.int .i64 y.kind, .string y.name, .string y.host, .int .i64 y.number]] wx fun e w' => e = .returned (.bool true) ∧ Below wx.heap.size wx w' := by
              intro wx; have := less_any x.kind x.name x.host x.number y.kind y.name y.host y.number wx; rw [show lessK x.kind x.name x.host x.number y.kind y.name y.host y.number = true from hd] at this; exact this
            have hdn2 : downTo (lessAt m x) k = downTo (lessAt m x) j := by rw [unhide Hdn]; simp only [downTo]; rw [hle, hd]; rfl
            have Hd2 := hide hdn2
            have Hl := hide hless
            clear hdn2 hless hd hle
            go_wp2
            go_region_held3 (fun w' => w'.cell? ⟨g, k * 9, none⟩ = some (.int .i64 x.kind) ∧ w'.cell? ⟨g, k * 9 + 1, none⟩ = some (.string x.name) ∧ w'.cell? ⟨g, k * 9 + 2, none⟩ = some (.string x.host) ∧ w'.cell? ⟨g, k * 9 + 3, none⟩ = some (.int .i64 x.number) ∧
                w'.cell? ⟨w.heap.size, j * 9, none⟩ = some (.int .i64 y.kind) ∧ w'.cell? ⟨w.heap.size, j * 9 + 1, none⟩ = some (.string y.name) ∧ w'.cell? ⟨w.heap.size, j * 9 + 2, none⟩ = some (.string y.host) ∧ w'.cell? ⟨w.heap.size, j * 9 + 3, none⟩ = some (.int .i64 y.number)) (go_keep)
              (first | (go_at_call 105; refine (unhide Hl _).mono ?_; rintro e w1 ⟨rfl, hb1⟩; obtain ⟨q0, q1, q2, q3⟩ := keep4 hb1 hgs c0 c1 c2 c3; obtain ⟨q4, q5, q6, q7⟩ := keep4 hb1 hsz2 e0 e1 e2 e3))
            all_goals
              have hmw1 := hmw'.drew.below hb1 hsz2
              clear c0 c1 c2 c3 c4 c5 c6 c7 c8 d0 d1 d2 d3 d4 d5 d6 d7 d8 e0 e1 e2 e3 e4 e5 e6 e7 e8 q0 q1 q2 q3 q4 q5 q6 q7 hfz
              have hiy := hmw1.1.2 j hjm
              rw [← unhide Hy] at hiy
              obtain ⟨e0, e1, e2, e3, e4, e5, e6, e7, e8⟩ := hiy
              obtain ⟨d0, d1, d2, d3, d4, d5, d6, d7, d8⟩ := hmw1.1.2 (j + 1) hjm1
              have hfz := hmw1.2
              go_wp2
              go_roundw
              case rel => exact ⟨j, m'.set (j + 1) y, by omega, rfl, (unhide Hsh).step hjk hkm (unhide Hym), unhide Hd2, hmw1.set hjm1 y, below_set9 (hbe'.drew.trans (hb1.mono (Nat.le_of_lt hsz2))) (Nat.le_refl _) _ _ _ _ _ _ _ _ _ _⟩
              case measure => simp [intOf]
          | false =>
            have hless : ∀ wx, Calls Tryz.prog 105 #[.agg #[.int .i64 x.kind, .string x.name, .string x.host, .int .i64 x.number], .agg #[.int .i64 y.kind, .string y.name, .string y.host, .int .i64 y.number]] wx fun e w' => e = .returned (.bool false) ∧ Below wx.heap.size wx w' := by
              intro wx; have := less_any x.kind x.name x.host x.number y.kind y.name y.host y.number wx; rw [show lessK x.kind x.name x.host x.number y.kind y.name y.host y.number = false from hd] at this; exact this
            have hst : downTo (lessAt m x) (j + 1) = j + 1 := by simp only [downTo]; rw [hle, hd]; rfl
            have R := ord_done hlt (unhide Hx) (unhide Hml) (unhide Hmt) (unhide Hsh) hjk (unhide Hdn) hst
            have HR := hide R
            have Hl := hide hless
            clear R hst hless hd hle
            go_wp2
            go_region_held3 (fun w' => w'.cell? ⟨g, k * 9, none⟩ = some (.int .i64 x.kind) ∧ w'.cell? ⟨g, k * 9 + 1, none⟩ = some (.string x.name) ∧ w'.cell? ⟨g, k * 9 + 2, none⟩ = some (.string x.host) ∧ w'.cell? ⟨g, k * 9 + 3, none⟩ = some (.int .i64 x.number) ∧
                w'.cell? ⟨w.heap.size, j * 9, none⟩ = some (.int .i64 y.kind) ∧ w'.cell? ⟨w.heap.size, j * 9 + 1, none⟩ = some (.string y.name) ∧ w'.cell? ⟨w.heap.size, j * 9 + 2, none⟩ = some (.string y.host) ∧ w'.cell? ⟨w.heap.size, j * 9 + 3, none⟩ = some (.int .i64 y.number)) (go_keep)
              (first | (go_at_call 105; refine (unhide Hl _).mono ?_; rintro e w1 ⟨rfl, hb1⟩; obtain ⟨q0, q1, q2, q3⟩ := keep4 hb1 hgs c0 c1 c2 c3; obtain ⟨q4, q5, q6, q7⟩ := keep4 hb1 hsz2 e0 e1 e2 e3))
            all_goals
              have hmw1 := hmw'.drew.below hb1 hsz2
              have hix1 := hix.below (hbe'.drew.trans (hb1.mono (Nat.le_of_lt hsz2))) hg0
              clear c0 c1 c2 c3 c4 c5 c6 c7 c8 d0 d1 d2 d3 d4 d5 d6 d7 d8 e0 e1 e2 e3 e4 e5 e6 e7 e8 q0 q1 q2 q3 q4 q5 q6 q7 hfz
              obtain ⟨c0, c1, c2, c3, c4, c5, c6, c7, c8⟩ := hix1
              obtain ⟨d0, d1, d2, d3, d4, d5, d6, d7, d8⟩ := hmw1.1.2 (j + 1) hjm1
              have hfz := hmw1.2
              go_wp2
              go_roundw
              case rel => exact ⟨k + 1, m'.set (j + 1) x, by omega, by go_num, (unhide HR).1, (unhide HR).2, hmw1.set hjm1 x, below_set9 (hbe'.drew.trans (hb1.mono (Nat.le_of_lt hsz2))) (Nat.le_refl _) _ _ _ _ _ _ _ _ _ _⟩
              case measure => simp [intOf]; omega
    · have hkl : k = l.length := by omega
      subst hkl
      have hmt := unhide Hmt
      rw [List.take_of_length_le (by rw [unhide Hml]; exact Nat.le_refl _)] at hmt
      have Hf := hide hmt
      clear hmt
      go_wp2
      go_ret
      exact ⟨rfl, by rw [← unhide Hf]; exact hmw.1, hbe⟩

end Go.Proofs.YtdlhgbhaeedbdabGreat

/- 'arrange.Print', 'rack.Print'. -/
namespace Go.Proofs.YtdlhgbhaeedbdabGreat
open Go.RowKit

theorem Tryz.infoByte : (Tryz.prog.info? 5).map (fun i => (i.zero, i.size, i.bytes)) = some (some (.int .u8 0), 1, 1) := by kernel_rfl

/-- The items' texts, one behind the other. -/
def catB (l : List Item) : List UInt8 := l.flatMap fun x => x.text.data.toList
def byteCells (l : List UInt8) : List Value := l.map fun b => Value.int .u8 b.toNat

theorem catB_snoc (l : List Item) (x : Item) : catB (l ++ [x]) = catB l ++ x.text.data.toList := by simp [catB]
theorem catB_len (l : List Item) (h : ∀ x ∈ l, x.text.size ≤ 400) : (catB l).length ≤ 400 * l.length := by
  induction l with
  | nil => simp [catB]
  | cons a l ih =>
    have h1 := ih (fun x hx => h x (by simp [hx]))
    have h2 := h a (by simp)
    have h3 : a.text.data.toList.length = a.text.size := by simp
    simp only [catB, List.flatMap_cons, List.length_append, List.length_cons] at h1 ⊢
    omega

/-- string(b), b a row of the call's own. -/
theorem conv_owned {w : World} {base : Nat} {v : Value} {l : List UInt8} (h : w.ownsRow base 5 1 v l.length (byteCells l)) :
    (convert 115 9 v).run Tryz.prog w = .ok (.string ⟨l.toArray⟩) w := by
  have hh := h
  obtain ⟨_, ⟨rfl, h0⟩ | ⟨g, cap, cur, rfl, _⟩⟩ := hh
  · have : l = [] := List.length_eq_zero_iff.1 h0
    subst this
    exact run_convert_bytes_nil w 115 5 Tryz.underlying115 Tryz.underlying5 0 0 9 Tryz.underlying9
  · refine run_convert_bytes_back w 115 9 5 ⟨g, 0, none⟩ cap l Tryz.underlying115 Tryz.underlying5 Tryz.underlying9 fun j hj => ?_
    exact h.cells rfl j _ (by simp [byteCells, List.getElem?_eq_getElem hj])

set_option maxRecDepth 100000 in
set_option maxHeartbeats 400000 in
theorem aprint_in (g cap : Nat) (l : List Item) (w : World) (hl : l.length ≤ 24) (ht : ∀ x ∈ sortTo l l.length, x.text.size ≤ 400) (hit : ItemsIn w g l) :
    Calls Tryz.prog 61 #[.slice (some ⟨g, 0, none⟩) l.length cap] w fun e w' => e = .returned (.string ⟨(catB (sortTo l l.length)).toArray⟩) ∧ Below w.heap.size w w' := by
  obtain ⟨m, hm⟩ : ∃ m, m = sortTo l l.length := ⟨_, rfl⟩
  have hord := inOrder_in g cap l w hl hit
  have hml : m.length = l.length := by rw [hm]; exact sortTo_length l _ (Nat.le_refl _)
  rw [← hm] at hord ht ⊢
  rw [← hml] at hord
  have hlm : m.length ≤ 24 := by omega
  have Hord := hide hord
  clear hord
  rw [← hml]
  clear hm hml hit
  go_enter Tryz.func61, Tryz.ntmps61
  go_wp2_with fail
  refine (unhide Hord).mono ?_
  rintro e w1 ⟨rfl, hit, hb1⟩
  have hg1 := hit.1
  go_wp2
  go_loopw [4, 5] (fun tv i wr => ∃ k : Nat, k ≤ m.length ∧ i = .int .i64 k ∧ wr.ownsRow w1.heap.size 5 1 tv (catB (m.take k)).length (byteCells (catB (m.take k))) ∧ Below w1.heap.size w1 wr) (fun _ i _ => m.length - (intOf i).toNat)
  case atStart => exact ⟨0, Nat.zero_le _, rfl, World.ownsRow_nil _ _ _ _, Below.refl _ _⟩
  case round =>
    obtain ⟨k, hk, rfl, hown, hbe⟩ := hrel
    obtain ⟨a, tc, rfl⟩ := slice_of_owns hown
    by_cases hlt : k < m.length
    · obtain ⟨x, hx⟩ : ∃ x, x = m[k] := ⟨_, rfl⟩
      have hix := (hit.2 k hlt).below hbe hg1
      rw [← hx] at hix
      have hstep : catB (m.take (k + 1)) = catB (m.take k) ++ x.text.data.toList := by rw [List.take_succ_eq_append_getElem hlt, catB_snoc, ← hx]
      have Hstep := hide hstep
      have hxs : x.text.size ≤ 400 := ht x (by rw [hx]; exact List.getElem_mem hlt)
      have hcl : (catB (m.take k)).length ≤ 9600 := by
        have := catB_len (m.take k) (fun y hy => ht y (List.mem_of_mem_take hy))
        simp at this; omega
      obtain ⟨c0, c1, c2, c3, c4, c5, c6, c7, c8⟩ := hix
      have hlt' : (k : Int) < (m.length : Int) := by omega
      have hsz := hbe.size
      obtain ⟨i0, hi, hz0, hz1, hz2⟩ := info_parts Tryz.infoByte
      clear hstep hx
      go_wp2_with (at_builtin; refine Lib.wpList_append_own_string _ rfl _ _ 115 9 rfl w1.heap.size 5 i0 Tryz.underlying115 Tryz.underlying9 hi hz0 hz1 hz2 (.slice a (catB (m.take k)).length tc) (catB (m.take k)).length (byteCells (catB (m.take k))) ?hs hown x.text ?hx ?c3 ?c4 ?c5 ?_)
      case hs => rfl
      case hx => rfl
      case c3 => unfold maxLen; omega
      case c4 => omega
      case c5 => exact hsz
      intro v' w2 hown' hgrow _
      have hbe2 := hbe.grown hgrow hsz (fun k e => (hown.lt k e).1)
      clear hgrow c0 c1 c2 c3 c4 c5 c6 c7 c8
      go_wp2
      go_roundw
      case rel =>
        refine ⟨k + 1, by omega, by go_num, ?_, hbe2⟩
        rw [unhide Hstep, List.length_append, show x.text.data.toList.length = x.text.size from by simp]
        rw [show byteCells (catB (m.take k) ++ x.text.data.toList) = byteCells (catB (m.take k)) ++ Lib.strCells x.text from by simp [byteCells, Lib.strCells]]
        exact hown'
      case measure => simp [intOf]; omega
    · have hkm : k = m.length := by omega
      have hall : m.take k = m := List.take_of_length_le (by omega)
      rw [hall] at hown
      have hcv := conv_owned hown
      clear hall hkm
      rw [show m.take k = m from List.take_of_length_le (by omega)]
      go_wp2
      go_ret
      exact ⟨rfl, hb1.trans (hbe.mono hb1.size)⟩

end Go.Proofs.YtdlhgbhaeedbdabGreat

/- 'rack.Print'. -/
namespace Go.Proofs.YtdlhgbhaeedbdabGreat
open Go.RowKit

theorem rdAll_mem (s : ByteArray) (n p : Nat) (acc : List Item) (x : Item) (h : x ∈ (rdAll s n p acc).1) : x ∈ acc ∨ ∃ q, x = itemAt s q := by
  induction n generalizing p acc with
  | zero =>
    unfold rdAll at h
    split at h
    · simp at h
    · exact Or.inl h
  | succ n ih =>
    unfold rdAll at h
    split at h
    · split at h
      · simp at h
      · rcases ih _ _ h with h1 | h1
        · rcases List.mem_append.1 h1 with h2 | h2
          · exact Or.inl h2
          · exact Or.inr ⟨p, by simpa using h2⟩
        · exact Or.inr h1
    · exact Or.inl h

theorem itemsOf_text (s : ByteArray) (hs : s.size ≤ 400) : ∀ x ∈ itemsOf s, x.text.size ≤ 400 := by
  intro x hx
  rcases rdAll_mem s 24 0 [] x hx with h | ⟨q, rfl⟩
  · simp at h
  · simp [itemAt, itemT]; omega

theorem mem_ins {l : List Item} {x y : Item} (h : y ∈ ins l x) : y = x ∨ y ∈ l := by
  unfold ins at h
  rcases List.mem_append.1 h with h | h
  · exact Or.inr (List.mem_of_mem_take h)
  · rcases List.mem_cons.1 h with h | h
    · exact Or.inl h
    · exact Or.inr (List.mem_of_mem_drop h)

theorem mem_foldl_ins {l acc : List Item} {y : Item} (h : y ∈ l.foldl ins acc) : y ∈ acc ∨ y ∈ l := by
  induction l generalizing acc with
  | nil => exact Or.inl h
  | cons a l ih =>
    rcases ih h with h | h
    · rcases mem_ins h with rfl | h
      · exact Or.inr (by simp)
      · exact Or.inl h
    · exact Or.inr (by simp [h])

theorem mem_sortTo {l : List Item} {k : Nat} {y : Item} (h : y ∈ sortTo l k) : y ∈ l := by
  rcases mem_foldl_ins h with h | h
  · simp at h
  · exact List.mem_of_mem_take h

set_option maxRecDepth 100000 in
set_option maxHeartbeats 400000 in
theorem inOrder_nil (w : World) :
    Calls Tryz.prog 65 #[.slice none 0 0] w fun e w' => e = .returned (.slice (some ⟨w.heap.size, 0, none⟩) 0 0) ∧ Below w.heap.size w w' := by
  have hmk : ∀ w, (Instr.makeSlice 70 (.int .i64 0) (.int .i64 0)).run Tryz.prog w = .ok (.slice (some ⟨w.heap.size, 0, none⟩) 0 0) (w.alloc (.cells (madeItems 0) 83)) := fun w => run_makeItems 0 (by omega) w
  go_enter Tryz.func65, Tryz.ntmps65
  go_wp2
  refine wp_loop_rounds 1 ?_
  rw [rounds_succ]
  go_wp2
  go_ret
  exact ⟨rfl, (Below.refl _ _).alloc (Nat.le_refl _) _⟩

set_option maxRecDepth 100000 in
set_option maxHeartbeats 400000 in
theorem aprint_nil (w : World) :
    Calls Tryz.prog 61 #[.slice none 0 0] w fun e w' => e = .returned (.string ⟨#[]⟩) ∧ Below w.heap.size w w' := by
  go_enter Tryz.func61, Tryz.ntmps61
  go_wp2_with fail
  refine (inOrder_nil w).mono ?_
  rintro e w1 ⟨rfl, hb1⟩
  have hcv : ∀ wx : World, (convert 115 9 (.slice none 0 0)).run Tryz.prog wx = .ok (.string ⟨#[]⟩) wx := fun wx => conv_owned (base := 0) (l := []) (World.ownsRow_nil wx 0 _ 1)
  go_wp2
  refine wp_loop_rounds 1 ?_
  rw [rounds_succ]
  go_wp2
  go_ret
  exact ⟨rfl, hb1⟩

/-- What Print tells. -/
def prt (s : ByteArray) : ByteArray := if (chk s).1 = 0 then ⟨(catB (sortTo (itemsOf s) (itemsOf s).length)).toArray⟩ else ⟨#[]⟩

theorem chk_size {s : ByteArray} (h : (chk s).1 = 0) : s.size ≤ 400 := by
  by_cases h4 : 400 < s.size
  · simp [chk, h4] at h
  · omega

theorem chk_le (s : ByteArray) : (chk s).1 ≤ 4 := by
  unfold chk
  repeat' split
  all_goals simp

set_option maxHeartbeats 400000 in
theorem print_any (s : ByteArray) (w : World) (hs : s.size ≤ maxLen) :
    Calls Tryz.prog 30 #[.string s] w fun e w' => e = .returned (.tuple #[.string (prt s), .int .i64 ((chk s).1 : Nat)]) ∧ Below w.heap.size w w' := by
  have hp := parse_any s w hs
  by_cases h0 : (chk s).1 = 0
  · have hpr : prt s = ⟨(catB (sortTo (itemsOf s) (itemsOf s).length)).toArray⟩ := by simp [prt, h0]
    have hs4 := chk_size h0
    have hll : (itemsOf s).length ≤ 24 := by have := rdAll_len s 24 0 []; simp at this; exact this
    have htx : ∀ x ∈ sortTo (itemsOf s) (itemsOf s).length, x.text.size ≤ 400 := fun x hx => itemsOf_text s hs4 x (mem_sortTo hx)
    rw [h0] at hp
    rw [hpr, h0]
    clear hpr h0
    go_enter Tryz.func30, Tryz.ntmps30
    go_wp2_with fail
    refine hp.mono ?_
    rintro e w1 ⟨v, rfl, hown, hb1⟩
    replace hown := hown trivial
    have hat := items_of_owns hown
    rcases hat with ⟨rfl, hnil⟩ | ⟨g, cap, rfl, hcap, hit⟩
    · have hr : (catB (sortTo (itemsOf s) (itemsOf s).length)) = [] := by rw [hnil]; rfl
      have Hr := hide hr
      clear hr hnil
      go_wp2_with fail
      refine (aprint_nil _).mono ?_
      rintro e w2 ⟨rfl, hb2⟩
      go_wp2
      go_ret2
      exact ⟨by rw [unhide Hr]; rfl, hb1.trans (hb2.mono hb1.size)⟩
    · go_wp2_with fail
      refine (aprint_in g cap (itemsOf s) _ hll htx hit).mono ?_
      rintro e w2 ⟨rfl, hb2⟩
      go_wp2
      go_ret2
      exact ⟨rfl, hb1.trans (hb2.mono hb1.size)⟩
  · have hpr : prt s = ⟨#[]⟩ := by simp [prt, h0]
    have h0' : ((((chk s).1 : Nat) : Int) != 0) = true := by rw [bne_iff_ne]; omega
    rw [hpr]
    generalize (chk s).1 = c at *
    clear hpr h0
    go_enter Tryz.func30, Tryz.ntmps30
    go_wp2_with fail
    refine hp.mono ?_
    rintro e w1 ⟨v, rfl, hown, hb1⟩
    go_wp2
    go_ret2
    exact ⟨rfl, hb1⟩

end Go.Proofs.YtdlhgbhaeedbdabGreat

/- 'Has', 'HasAll', 'Holds', 'Named', 'Size', at whatever list of items. -/
namespace Go.Proofs.YtdlhgbhaeedbdabGreat
open Go.RowKit

theorem ItemsAt.below {B : Nat} {w w' : World} {v : Value} {l : List Item} (h : ItemsAt w v l) (hb : Below B w w') (hB : w.heap.size ≤ B) : ItemsAt w' v l := by
  rcases h with h | ⟨g, cap, e, hc, hi⟩
  · exact Or.inl h
  · exact Or.inr ⟨g, cap, e, hc, hi.below hb (Nat.lt_of_lt_of_le hi.1 hB)⟩

/-- A list of items in blocks below B stays while nothing below B turns. -/
def ItemsBel (w : World) (B : Nat) (v : Value) (l : List Item) : Prop :=
  (v = .slice none 0 0 ∧ l = []) ∨ ∃ g cap, v = .slice (some ⟨g, 0, none⟩) l.length cap ∧ l.length ≤ cap ∧ g < B ∧ ItemsIn w g l

theorem has_nil (k : Key) (w : World) :
    Calls Tryz.prog 133 #[.slice none 0 0, .agg #[.int .i64 k.kind, .string k.name, .string k.host, .int .i64 k.number]] w fun e w' => e = .returned (.bool false) ∧ Below w.heap.size w w' := has_of _ k.kind k.name k.host k.number noItem false w fun wx _ => find_nil k.kind k.name k.host k.number wx

theorem find_at (v : Value) (l : List Item) (k : Key) (w : World) (hl : l.length ≤ 24) (hv : ItemsAt w v l) :
    Calls Tryz.prog 28 #[v, .agg #[.int .i64 k.kind, .string k.name, .string k.host, .int .i64 k.number]] w fun e w' => e = .returned (findV l (keyIs k)) ∧ Below w.heap.size w w' := by
  rcases hv with ⟨rfl, rfl⟩ | ⟨g, cap, rfl, hcap, hit⟩
  · exact find_nil k.kind k.name k.host k.number w
  · have h := find_in g l.length cap l k.kind k.name k.host k.number w hl (Nat.le_refl _) hit
    rw [List.take_of_length_le (Nat.le_refl _)] at h
    exact h

theorem has_at (v : Value) (l : List Item) (k : Key) (w : World) (hl : l.length ≤ 24) (hv : ItemsAt w v l) :
    Calls Tryz.prog 133 #[v, .agg #[.int .i64 k.kind, .string k.name, .string k.host, .int .i64 k.number]] w fun e w' => e = .returned (.bool (l.any (keyIs k))) ∧ Below w.heap.size w w' := by
  rcases hv with ⟨rfl, rfl⟩ | ⟨g, cap, rfl, hcap, hit⟩
  · exact has_nil k w
  · have h := has_in g l.length cap l k.kind k.name k.host k.number w hl (Nat.le_refl _) hit
    rw [List.take_of_length_le (Nat.le_refl _)] at h
    exact h

set_option maxRecDepth 100000 in
set_option maxHeartbeats 400000 in
theorem hasAll_at (v : Value) (l : List Item) (kv : Value) (ks : List Key) (w : World) (hl : l.length ≤ 24) (hv : ItemsAt w v l) (B : Nat) (hks : KeysAt w B kv ks) (hkl : ks.length ≤ 2) :
    Calls Tryz.prog 135 #[v, kv] w fun e w' => e = .returned (.bool (ks.all fun k => l.any (keyIs k))) ∧ Below w.heap.size w w' := by
  rcases hv with ⟨rfl, rfl⟩ | ⟨g, cap, rfl, hcap, hit⟩
  · have hnot : ∀ (x : Bool) (w : World), (Op.unary .not (.bool x)).run Tryz.prog w = .ok (.bool (!x)) w := fun _ _ => rfl
    rcases hks with ⟨rfl, rfl⟩ | ⟨kg, kc, rfl, _, hkg, hk⟩
    · go_enter Tryz.func135, Tryz.ntmps135
      go_wp2
      refine wp_loop_rounds 1 ?_
      rw [rounds_succ]
      go_wp2
      go_ret
      exact ⟨rfl, Below.refl _ _⟩
    · cases ks with
      | nil =>
        go_enter Tryz.func135, Tryz.ntmps135
        go_wp2
        refine wp_loop_rounds 1 ?_
        rw [rounds_succ]
        go_wp2
        go_ret
        exact ⟨rfl, Below.refl _ _⟩
      | cons y ks =>
        obtain ⟨c0, c1, c2, c3⟩ := hk 0 (by simp)
        simp only [Nat.zero_mul, Nat.zero_add, List.getElem_cons_zero] at c0 c1 c2 c3
        obtain ⟨n, hn⟩ : ∃ n, n = (y :: ks).length := ⟨_, rfl⟩
        have hn' : (0 : Int) < (n : Int) := by rw [hn]; simp
        have hfin : ((y :: ks).all fun k => ([] : List Item).any (keyIs k)) = false := by simp
        rw [hfin, ← hn]
        clear hn hfin hk
        go_enter Tryz.func135, Tryz.ntmps135
        go_wp2
        refine wp_loop_rounds 1 ?_
        rw [rounds_succ]
        go_wp2_with (go_at_call 133; refine (has_nil y _).mono ?_; rintro e w1 ⟨rfl, hb1⟩)
        go_ret
        exact ⟨rfl, hb1⟩
  · exact hasAll_in g cap l kv ks w hl hit B hks hkl

/-- Is an item with this text one of the items? -/
def holdsB (l : List Item) (t : ByteArray) : Bool := l.any fun x => decide (x.text = t)

set_option maxRecDepth 100000 in
set_option maxHeartbeats 400000 in
theorem holds_at (v : Value) (l : List Item) (y : Item) (w : World) (hl : l.length ≤ 24) (hv : ItemsAt w v l) :
    Calls Tryz.prog 98 #[v, .agg #[.int .i64 y.kind, .string y.name, .string y.host, .int .i64 y.number, .int .i64 y.size, .string y.disk, .bool y.only, .int .i64 y.lun, .string y.text]] w fun e w' => e = .returned (.bool (holdsB l y.text)) ∧ Below w.heap.size w w' := by
  rcases hv with ⟨rfl, rfl⟩ | ⟨g, cap, rfl, hcap, hit⟩
  · go_enter Tryz.func98, Tryz.ntmps98
    go_wp2
    refine wp_loop_rounds 1 ?_
    rw [rounds_succ]
    go_wp2
    go_ret
    exact ⟨rfl, (Below.refl _ _).alloc (Nat.le_refl _) _⟩
  · have hg := hit.1
    have b6 : (w.alloc (.cells #[.int .i64 y.kind, .string y.name, .string y.host, .int .i64 y.number, .int .i64 y.size, .string y.disk, .bool y.only, .int .i64 y.lun, .string y.text] 83)).cell? ⟨w.heap.size, 8, none⟩ = some (.string y.text) := by go_simp
    have hb0 : Below (w.heap.size + 1) (w.alloc (.cells #[.int .i64 y.kind, .string y.name, .string y.host, .int .i64 y.number, .int .i64 y.size, .string y.disk, .bool y.only, .int .i64 y.lun, .string y.text] 83)) (w.alloc (.cells #[.int .i64 y.kind, .string y.name, .string y.host, .int .i64 y.number, .int .i64 y.size, .string y.disk, .bool y.only, .int .i64 y.lun, .string y.text] 83)) := Below.refl _ _
    have hit0 := hit.below ((Below.refl w.heap.size w).alloc (Nat.le_refl _) (.cells #[.int .i64 y.kind, .string y.name, .string y.host, .int .i64 y.number, .int .i64 y.size, .string y.disk, .bool y.only, .int .i64 y.lun, .string y.text] 83)) hg
    go_enter Tryz.func98, Tryz.ntmps98
    go_wp2
    generalize hW : w.alloc (.cells #[.int .i64 y.kind, .string y.name, .string y.host, .int .i64 y.number, .int .i64 y.size, .string y.disk, .bool y.only, .int .i64 y.lun, .string y.text] 83) = w0 at *
    have hfin : Below w.heap.size w w0 := by rw [← hW]; exact (Below.refl _ _).alloc (Nat.le_refl _) _
    clear hW hit
    go_loopw [5] (fun i wr => ∃ k : Nat, k ≤ l.length ∧ i = .int .i64 k ∧ (∀ x ∈ l.take k, ¬ x.text = y.text) ∧ Below (w.heap.size + 1) w0 wr) (fun i _ => l.length - (intOf i).toNat)
    case atStart => exact ⟨0, Nat.zero_le _, rfl, by simp, hb0⟩
    case round =>
      obtain ⟨k, hk, rfl, hno, hbe⟩ := hrel
      have Hno := hide hno
      clear hno
      by_cases hlt : k < l.length
      · obtain ⟨x, hx⟩ : ∃ x, x = l[k] := ⟨_, rfl⟩
        have hi := (hit0.2 k hlt).below hbe (by omega)
        rw [← hx] at hi
        have c8 := hi.c8
        have d6 := (hbe.cell (p := ⟨w.heap.size, 8, none⟩) (by simp)).trans b6
        have Hx := hide hx
        have hlt' : (k : Int) < (l.length : Int) := by omega
        clear hx hi
        by_cases he : x.text = y.text
        · have hf : holdsB l y.text = true := by unfold holdsB; rw [List.any_eq_true]; exact ⟨x, by rw [unhide Hx]; exact List.getElem_mem hlt, by simpa using he⟩
          have Hf := hide hf
          have he' : (x.text.toList == y.text.toList) = true := by rw [he]; simp
          clear hf he
          go_wp2
          go_quiet (fail)
          go_wp2
          go_ret
          exact ⟨ret_bool (unhide Hf).symm, hfin.trans ((below_drewN hbe _).mono (by omega))⟩
        · have hno : ∀ x ∈ l.take (k + 1), ¬ x.text = y.text := by
            intro z hz
            rw [List.take_succ_eq_append_getElem hlt, List.mem_append] at hz
            rcases hz with h | h
            · exact unhide Hno z h
            · simp at h; rw [h, ← unhide Hx]; exact he
          have H2 := hide hno
          have he' : (x.text.toList == y.text.toList) = false := by
            rw [beq_eq_false_iff_ne]; exact fun h => he (tl_inj h)
          clear hno he
          go_wp2
          go_quiet (fail)
          go_wp2
          go_roundw
          case rel => exact ⟨k + 1, by omega, by go_num, unhide H2, below_drewN hbe _⟩
          case measure => simp [intOf]; omega
      · have hno := unhide Hno
        rw [List.take_of_length_le (by omega)] at hno
        have hf : holdsB l y.text = false := by unfold holdsB; rw [List.any_eq_false]; intro x hx; simpa using hno x hx
        have Hf := hide hf
        clear hno hf
        go_wp2
        go_ret
        exact ⟨ret_bool (unhide Hf).symm, hfin.trans (hbe.mono (by omega))⟩

/-- How many bytes the items have. -/
def sizeI (l : List Item) : Nat := (l.map fun x => x.text.size).sum

theorem sizeI_take (l : List Item) (k : Nat) (h : k < l.length) : sizeI (l.take (k + 1)) = sizeI (l.take k) + l[k].text.size := by
  unfold sizeI
  rw [List.take_succ_eq_append_getElem h, List.map_append, List.sum_append]
  simp

theorem sizeI_le (l : List Item) (k : Nat) : sizeI (l.take k) ≤ sizeI l := by
  unfold sizeI
  conv => rhs; rw [← List.take_append_drop k l]
  rw [List.map_append, List.sum_append]
  omega

set_option maxRecDepth 100000 in
set_option maxHeartbeats 400000 in
theorem size_at (v : Value) (l : List Item) (w : World) (hl : l.length ≤ 24) (hsz : sizeI l ≤ 1000000) (hv : ItemsAt w v l) :
    Calls Tryz.prog 177 #[v] w fun e w' => e = .returned (.int .i64 (sizeI l)) ∧ w' = w := by
  rcases hv with ⟨rfl, rfl⟩ | ⟨g, cap, rfl, hcap, hit⟩
  · go_enter Tryz.func177, Tryz.ntmps177
    go_wp2
    refine wp_loop_rounds 1 ?_
    rw [rounds_succ]
    go_wp2
    go_ret
    exact ⟨rfl, rfl⟩
  · go_enter Tryz.func177, Tryz.ntmps177
    go_wp2
    go_loop [3, 4] (fun t i => ∃ k : Nat, k ≤ l.length ∧ i = .int .i64 k ∧ t = .int .i64 (sizeI (l.take k))) (fun _ i => l.length - (intOf i).toNat)
    case atStart => exact ⟨0, Nat.zero_le _, rfl, rfl⟩
    case round =>
      obtain ⟨k, hk, rfl, rfl⟩ := hrel
      by_cases hlt : k < l.length
      · have hc := (hit.2 k hlt).c8
        have hs1 := sizeI_take l k hlt
        have hs2 := sizeI_le l (k + 1)
        obtain ⟨x, hx⟩ : ∃ x, x = l[k] := ⟨_, rfl⟩
        rw [← hx] at hc hs1
        have hlt' : (k : Int) < (l.length : Int) := by omega
        have hs3 : ((sizeI (l.take k) : Nat) : Int) + (x.text.size : Int) ≤ 1000000 := by omega
        have H1 := hide hs1
        clear hx hs1 hs2
        go_wp2
        go_round
        case rel => exact ⟨k + 1, by omega, by go_num, by rw [unhide H1]; go_num⟩
        case measure => simp [intOf]; omega
      · have hkl : k = l.length := by omega
        have ht : l.take k = l := List.take_of_length_le (by omega)
        rw [ht]
        go_wp2
        go_ret
        exact ⟨rfl, rfl⟩

end Go.Proofs.YtdlhgbhaeedbdabGreat
