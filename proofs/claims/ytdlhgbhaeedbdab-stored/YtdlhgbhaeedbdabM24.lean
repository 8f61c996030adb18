/- Sd3, PureD, Sd7. -/
import Derived.Test.YtdlhgbhaeedbdabM23
import Derived.Test.YtdlhgbhaeedbdabM11
import Derived.Test.YtdlhgbhaeedbdabM18

/- The law Stored: 'wants'. -/
namespace Go.Proofs.Ytdlhgbhaeedbdab
open Go.RowKit

/-- The shelf: its twenty numbers: nine blocks, nine blocks, two holders. -/
structure ShelfAt (w : World) (z : Nat) (Z : Nat → Int) : Prop where
  ty : ∃ cs fr, w.heap[z]? = some (Obj.cells cs 49 fr)
  cell : ∀ j, j < 20 → w.cell? ⟨z, j, none⟩ = some (.int .i64 (Z j))
  fz : ∀ j, w.frozen? ⟨z, j, none⟩ = false
  lt : z < w.heap.size

def setZ (Z : Nat → Int) (j : Nat) (x : Int) : Nat → Int := fun i => if i = j then x else Z i

theorem ShelfAt.keep {T : TypeId → Prop} {w w' : World} {z : Nat} {Z : Nat → Int} (h : ShelfAt w z Z) (hk : TK T w w') (h1 : ¬ T 49) : ShelfAt w' z Z := by
  obtain ⟨⟨cs, fr, hty⟩, hc, hf, hlt⟩ := h
  have hb := hk.block z cs _ fr hty h1
  exact ⟨⟨cs, fr, hb.trans hty⟩, fun j hj => (World.cell?_of_block hb).trans (hc j hj), fun j => (World.frozen?_of_block hb).trans (hf j), Nat.lt_of_lt_of_le hlt hk.size⟩

theorem ShelfAt.set {w : World} {z : Nat} {Z : Nat → Int} (h : ShelfAt w z Z) {j : Nat} (hj : j < 20) (x : Int) : ShelfAt (w.setCell ⟨z, j, none⟩ (.int .i64 x)) z (setZ Z j x) := by
  obtain ⟨hty, hc, hf, hlt⟩ := h
  refine ⟨ty_set hty _, fun i hi => ?_, fun i => by simp [hf i], by simpa [World.setCell] using hlt⟩
  unfold setZ
  by_cases e : i = j
  · subst e
    rw [if_pos rfl]
    exact World.cell?_setCell_same _ _ _ (hc i hi)
  · rw [if_neg e]
    exact cell_set_ne (hc i hi) e

/-- The place of a holder, the place of a block. -/
def hAt (d : Int) : Nat := (18 + d).toNat
def bAt (d k : Int) : Nat := (9 * d + k).toNat
def szD (d : Int) : Int := if d = 1 then 9 else 4

/-- What a call must tell of the shelf, and what it does to it. -/
def wantT (Z : Nat → Int) (s : Int) (o : Iox) : Td :=
  if o.K = 1 then (if s = 0 then ⟨0, [0], 0⟩ else if s = 1 then ⟨0, [5, 6], 0⟩ else ⟨0, [6], 0⟩)
  else if (seesD s o.N).1 < 0 then ⟨0, [], 14⟩
  else if o.K = 3 ∧ (seesD s o.N).2 = true then ⟨0, [], 15⟩
  else if 0 ≤ Z (hAt (seesD s o.N).1) ∧ Z (hAt (seesD s o.N).1) ≠ s then ⟨0, [], 16⟩
  else if o.K ≠ 2 ∧ o.K ≠ 3 then ⟨0, [], 0⟩
  else if o.B < 0 ∨ szD (seesD s o.N).1 ≤ o.B then ⟨0, [], 17⟩
  else if o.K = 2 then ⟨Z (bAt (seesD s o.N).1 o.B), [], 0⟩
  else if o.V < 0 ∨ 255 < o.V then ⟨0, [], 6⟩ else ⟨0, [], 0⟩
def wantZ (Z : Nat → Int) (s : Int) (o : Iox) : Nat → Int :=
  if o.K = 1 then Z
  else if (seesD s o.N).1 < 0 then Z
  else if o.K = 3 ∧ (seesD s o.N).2 = true then Z
  else if 0 ≤ Z (hAt (seesD s o.N).1) ∧ Z (hAt (seesD s o.N).1) ≠ s then Z
  else if o.K = 4 then setZ Z (hAt (seesD s o.N).1) s
  else if o.K ≠ 2 ∧ o.K ≠ 3 then setZ Z (hAt (seesD s o.N).1) (-1)
  else if o.B < 0 ∨ szD (seesD s o.N).1 ≤ o.B then Z
  else if o.K = 2 then Z
  else if o.V < 0 ∨ 255 < o.V then Z else setZ Z (bAt (seesD s o.N).1 o.B) o.V

theorem seesD_cases (s n : Int) : (seesD s n).1 = -1 ∨ (seesD s n).1 = 0 ∨ (seesD s n).1 = 1 := by
  unfold seesD
  repeat' split
  all_goals simp

/-- What 'wants' leaves. -/
def WantEnd (z : Nat) (Z' : Nat → Int) (t : Td) (w : World) (e : Ending) (w' : World) : Prop :=
  ∃ u, e = .returned (.agg #[.int .i64 t.n, u, .int .i64 t.e]) ∧ NumsAt w' w.heap.size u t.l ∧ ShelfAt w' z Z' ∧ w.grownBy w' (some z)

theorem callW_gb (w : World) (o : Iox) (r : Option Nat) : w.grownBy (callW w o) r := gb_alloc (World.grownBy_alloc w _ r) _

/-- How 'wants' ends. -/
theorem want_end {z : Nat} {Z' : Nat → Int} {w w3 : World} (hz : ShelfAt w3 z Z') (hgr : w.grownBy w3 (some z)) (hblk : w3.heap[w.heap.size + 1]? = some (.cells zTd 54 (0, 0))) {n m : Int} {u : Value} {L : List Int} (hu : NumsAt w3 (w.heap.size + 2) u L) :
    (w3.cell? ⟨w.heap.size + 1, 0, none⟩ = some (.int .i64 0) ∧ w3.cell? ⟨w.heap.size + 1, 1, none⟩ = some (.slice none 0 0) ∧ w3.cell? ⟨w.heap.size + 1, 2, none⟩ = some (.int .i64 0) ∧ ∀ o, w3.frozen? ⟨w.heap.size + 1, o, none⟩ = false) ∧
    WantEnd z Z' ⟨n, L, m⟩ w (.returned (.agg #[.int .i64 n, u, .int .i64 m])) (((w3.setCell ⟨w.heap.size + 1, 0, none⟩ (.int .i64 n)).setCell ⟨w.heap.size + 1, 1, none⟩ u).setCell ⟨w.heap.size + 1, 2, none⟩ (.int .i64 m)) := by
  have hk := td_tk ⟨_, _, hblk⟩ (.int .i64 n) u (.int .i64 m)
  refine ⟨td_cells hblk, u, rfl, ?_, hz.keep hk (by unfold KTd; decide), gb_setNew (p := ⟨w.heap.size + 1, 2, none⟩) (gb_setNew (p := ⟨w.heap.size + 1, 1, none⟩) (gb_setNew (p := ⟨w.heap.size + 1, 0, none⟩) hgr (by simp) _) (by simp) _) (by simp) _⟩
  rcases hu with h | ⟨g, cap, rfl, h1, h2, h3, h4⟩
  · exact .inl h
  · refine .inr ⟨g, cap, rfl, by omega, by simp [World.setCell]; omega, h3, fun i hi => ?_⟩
    rw [World.cell?_setCell_other _ _ _ _ (by intro e; simp only [Addr.mk.injEq] at e; omega), World.cell?_setCell_other _ _ _ _ (by intro e; simp only [Addr.mk.injEq] at e; omega), World.cell?_setCell_other _ _ _ _ (by intro e; simp only [Addr.mk.injEq] at e; omega)]
    exact h4 i hi

/-- Nothing is written but what is told. -/
theorem want_same {z : Nat} {Z : Nat → Int} {w : World} {o : Iox} (h : ShelfAt w z Z) (n m : Int) :
    ((callW w o).cell? ⟨w.heap.size + 1, 0, none⟩ = some (.int .i64 0) ∧ (callW w o).cell? ⟨w.heap.size + 1, 1, none⟩ = some (.slice none 0 0) ∧ (callW w o).cell? ⟨w.heap.size + 1, 2, none⟩ = some (.int .i64 0) ∧ ∀ j, (callW w o).frozen? ⟨w.heap.size + 1, j, none⟩ = false) ∧
    WantEnd z Z ⟨n, [], m⟩ w (.returned (.agg #[.int .i64 n, .slice none 0 0, .int .i64 m])) ((((callW w o).setCell ⟨w.heap.size + 1, 0, none⟩ (.int .i64 n)).setCell ⟨w.heap.size + 1, 1, none⟩ (.slice none 0 0)).setCell ⟨w.heap.size + 1, 2, none⟩ (.int .i64 m)) := by
  obtain ⟨f1, f2, f3, f4⟩ := callW_facts w o
  exact want_end (h.keep (T := fun _ => False) (TK.of_below f1) id) (callW_gb w o _) f3 (NumsAt.nil _ _)

set_option maxRecDepth 100000 in
set_option maxHeartbeats 800000 in
theorem want_list (z : Nat) (Z : Nat → Int) (s : Int) (o : Iox) (w : World) (hK : o.K = 1) (h : ShelfAt w z Z) :
    Calls Try.prog 17 #[.pointer (some ⟨z, 0, none⟩), .int .i64 s, .agg #[.int .i64 o.K, .int .i64 o.N, .int .i64 o.B, .int .i64 o.V, .int .i64 o.S, .int .i64 o.W]] w fun e w' => WantEnd z (wantZ Z s o) (wantT Z s o) w e w' := by
  obtain ⟨f1, f2, f3, f4⟩ := callW_facts w o
  obtain ⟨i0, i1, i2, i3⟩ := f4.zero
  have HS := hide fun wx => sees_law s o.N wx
  have hzw := h.lt
  have h2 := h.keep (T := fun _ => False) (TK.of_below f1) id
  have HE := hide fun (c : Array Value) (n : Nat) (L : List Int) (hL : c = (L.map (Value.int .i64)).toArray) (hn : n = L.length) (hpos : 0 < n) => (show ((((((callW w o).setCell ⟨w.heap.size + 1, 0, none⟩ (.int .i64 0)).setCell ⟨w.heap.size + 1, 1, none⟩ (.slice (some ⟨w.heap.size + 2, 0, none⟩) n n)).setCell ⟨w.heap.size + 1, 2, none⟩ (.int .i64 0)).alloc (.cells c 3)).cell? ⟨w.heap.size + 1, 0, none⟩ = some (.int .i64 0) ∧ (((((callW w o).setCell ⟨w.heap.size + 1, 0, none⟩ (.int .i64 0)).setCell ⟨w.heap.size + 1, 1, none⟩ (.slice (some ⟨w.heap.size + 2, 0, none⟩) n n)).setCell ⟨w.heap.size + 1, 2, none⟩ (.int .i64 0)).alloc (.cells c 3)).cell? ⟨w.heap.size + 1, 1, none⟩ = some (.slice (some ⟨w.heap.size + 2, 0, none⟩) n n) ∧ (((((callW w o).setCell ⟨w.heap.size + 1, 0, none⟩ (.int .i64 0)).setCell ⟨w.heap.size + 1, 1, none⟩ (.slice (some ⟨w.heap.size + 2, 0, none⟩) n n)).setCell ⟨w.heap.size + 1, 2, none⟩ (.int .i64 0)).alloc (.cells c 3)).cell? ⟨w.heap.size + 1, 2, none⟩ = some (.int .i64 0)) ∧ WantEnd z Z ⟨0, L, 0⟩ w (.returned (.agg #[.int .i64 0, .slice (some ⟨w.heap.size + 2, 0, none⟩) n n, .int .i64 0])) (((((callW w o).setCell ⟨w.heap.size + 1, 0, none⟩ (.int .i64 0)).setCell ⟨w.heap.size + 1, 1, none⟩ (.slice (some ⟨w.heap.size + 2, 0, none⟩) n n)).setCell ⟨w.heap.size + 1, 2, none⟩ (.int .i64 0)).alloc (.cells c 3)) from by
    have e1 := World.setCell_alloc_past (w := callW w o) (.cells c 3) (w.heap.size + 1) 0 (.int .i64 0) (by omega)
    have e2 := World.setCell_alloc_past (w := (callW w o).setCell ⟨w.heap.size + 1, 0, none⟩ (.int .i64 0)) (.cells c 3) (w.heap.size + 1) 1 (.slice (some ⟨w.heap.size + 2, 0, none⟩) n n) (by simp [World.setCell]; omega)
    have e3 := World.setCell_alloc_past (w := ((callW w o).setCell ⟨w.heap.size + 1, 0, none⟩ (.int .i64 0)).setCell ⟨w.heap.size + 1, 1, none⟩ (.slice (some ⟨w.heap.size + 2, 0, none⟩) n n)) (.cells c 3) (w.heap.size + 1) 2 (.int .i64 0) (by simp [World.setCell]; omega)
    rw [← e3, ← e2, ← e1]
    have hbl : ((callW w o).alloc (.cells c 3)).heap[w.heap.size + 1]? = some (.cells zTd 54 (0, 0)) := (Below.heap_alloc _ _ (w.heap.size + 1) (by omega)).trans f3
    have hbn := below_new (callW w o) (.cells c 3)
    obtain ⟨q0, q1, q2, _⟩ := td_cells hbl
    refine ⟨⟨cell_set_ne (cell_set_ne (World.cell?_setCell_same _ _ _ q0) (by omega)) (by omega), cell_set_ne (World.cell?_setCell_same _ _ _ (cell_set_ne q1 (by omega))) (by omega), World.cell?_setCell_same _ _ _ (cell_set_ne (cell_set_ne q2 (by omega)) (by omega))⟩, (want_end (h2.keep (T := fun _ => False) (TK.of_below hbn) id) (gb_alloc (callW_gb w o _) _) hbl (.inr ⟨w.heap.size + 2, n, by rw [hn], Nat.le_refl _, by rw [show ((callW w o).alloc (.cells c 3)).heap.size = (callW w o).heap.size + 1 from by simp, f2]; omega, by omega, fun i hi => ?_⟩)).2⟩
    rw [← f2, World.cell?_alloc_at _ _ _ _ rfl, hL]
    simp [hi])
  have hT : wantZ Z s o = Z := by unfold wantZ; rw [if_pos hK]
  have hTT : wantT Z s o = (if s = 0 then ⟨0, [0], 0⟩ else if s = 1 then ⟨0, [5, 6], 0⟩ else ⟨0, [6], 0⟩) := by unfold wantT; rw [if_pos hK]
  rw [hT, hTT]
  have hK' : (o.K == 1) = true := by simpa using hK
  clear hT hTT hK h h2 f4
  obtain ⟨z0, z1, z2, zf⟩ := td_cells f3
  generalize hsd : seesD s o.N = du at *
  obtain ⟨d, u⟩ := du
  simp only at HS
  clear hsd
  have hlt2 : w.heap.size + 1 < (callW w o).heap.size := by omega
  have hsz2 : (callW w o).heap.size = w.heap.size + 2 := f2
  have Hsz := hide hsz2
  clear f1 f2 hsz2 f3
  by_cases s0 : s = 0
  · have s0' : (s == 0) = true := by simpa using s0
    rw [if_pos s0]
    obtain ⟨hC, hE⟩ := unhide HE #[.int .i64 0] 1 [0] rfl rfl (by omega)
    rw [← unhide Hsz] at hE hC
    obtain ⟨y0, y1, y2⟩ := hC
    have HE0 := hide hE
    clear HE hE s0
    unfold callW at *
    go_enter Try.func17, Try.ntmps17
    go_wp2_with fail
    generalize hW : (w.alloc (.cells #[.int .i64 o.K, .int .i64 o.N, .int .i64 o.B, .int .i64 o.V, .int .i64 o.S, .int .i64 o.W] 51)).alloc (.cells #[.int .i64 0, .slice none 0 0, .int .i64 0] 54) = W2 at *
    refine (unhide HS _).mono ?_
    rintro e w1 ⟨rfl, rfl⟩
    clear HS hW
    go_wp2_with fail
    all_goals
      refine bodyPost_ret (v := .agg #[.int .i64 0, .slice (some ⟨w1.heap.size, 0, none⟩) 1 1, .int .i64 0]) (by simp [results, Try.results17, go_sem, y0, y1, y2]) rfl ?_
      exact unhide HE0
  · have s0' : (s == 0) = false := by simpa using s0
    rw [if_neg s0]
    by_cases s1 : s = 1
    · have s1' : (s == 1) = true := by simpa using s1
      rw [if_pos s1]
      obtain ⟨hC, hE⟩ := unhide HE #[.int .i64 5, .int .i64 6] 2 [5, 6] rfl rfl (by omega)
      rw [← unhide Hsz] at hE hC
      obtain ⟨y0, y1, y2⟩ := hC
      have HE0 := hide hE
      clear HE hE s0 s1
      unfold callW at *
      go_enter Try.func17, Try.ntmps17
      go_wp2_with fail
      generalize hW : (w.alloc (.cells #[.int .i64 o.K, .int .i64 o.N, .int .i64 o.B, .int .i64 o.V, .int .i64 o.S, .int .i64 o.W] 51)).alloc (.cells #[.int .i64 0, .slice none 0 0, .int .i64 0] 54) = W2 at *
      refine (unhide HS _).mono ?_
      rintro e w1 ⟨rfl, rfl⟩
      clear HS hW
      go_wp2_with fail
      all_goals
        refine bodyPost_ret (v := .agg #[.int .i64 0, .slice (some ⟨w1.heap.size, 0, none⟩) 2 2, .int .i64 0]) (by simp [results, Try.results17, go_sem, y0, y1, y2]) rfl ?_
        exact unhide HE0
    · have s1' : (s == 1) = false := by simpa using s1
      rw [if_neg s1]
      obtain ⟨hC, hE⟩ := unhide HE #[.int .i64 6] 1 [6] rfl rfl (by omega)
      rw [← unhide Hsz] at hE hC
      obtain ⟨y0, y1, y2⟩ := hC
      have HE0 := hide hE
      clear HE hE s0 s1
      unfold callW at *
      go_enter Try.func17, Try.ntmps17
      go_wp2_with fail
      generalize hW : (w.alloc (.cells #[.int .i64 o.K, .int .i64 o.N, .int .i64 o.B, .int .i64 o.V, .int .i64 o.S, .int .i64 o.W] 51)).alloc (.cells #[.int .i64 0, .slice none 0 0, .int .i64 0] 54) = W2 at *
      refine (unhide HS _).mono ?_
      rintro e w1 ⟨rfl, rfl⟩
      clear HS hW
      go_wp2_with fail
      all_goals
        refine bodyPost_ret (v := .agg #[.int .i64 0, .slice (some ⟨w1.heap.size, 0, none⟩) 1 1, .int .i64 0]) (by simp [results, Try.results17, go_sem, y0, y1, y2]) rfl ?_
        exact unhide HE0

/-- A number of the shelf is written, and nothing is told but OK. -/
theorem want_set {z : Nat} {Z : Nat → Int} {w : World} {o : Iox} (h : ShelfAt w z Z) {j : Nat} (hj : j < 20) (x : Int) :
    (((callW w o).setCell ⟨z, j, none⟩ (.int .i64 x)).cell? ⟨w.heap.size + 1, 0, none⟩ = some (.int .i64 0) ∧ ((callW w o).setCell ⟨z, j, none⟩ (.int .i64 x)).cell? ⟨w.heap.size + 1, 1, none⟩ = some (.slice none 0 0) ∧ ((callW w o).setCell ⟨z, j, none⟩ (.int .i64 x)).cell? ⟨w.heap.size + 1, 2, none⟩ = some (.int .i64 0) ∧ ∀ i, ((callW w o).setCell ⟨z, j, none⟩ (.int .i64 x)).frozen? ⟨w.heap.size + 1, i, none⟩ = false) ∧
    WantEnd z (setZ Z j x) ⟨0, [], 0⟩ w (.returned (.agg #[.int .i64 0, .slice none 0 0, .int .i64 0])) (((((callW w o).setCell ⟨z, j, none⟩ (.int .i64 x)).setCell ⟨w.heap.size + 1, 0, none⟩ (.int .i64 0)).setCell ⟨w.heap.size + 1, 1, none⟩ (.slice none 0 0)).setCell ⟨w.heap.size + 1, 2, none⟩ (.int .i64 0)) := by
  obtain ⟨f1, f2, f3, f4⟩ := callW_facts w o
  have h2 := h.keep (T := fun _ => False) (TK.of_below f1) id
  obtain ⟨cs, fr, hty⟩ := h2.ty
  have hlt := h.lt
  exact want_end (h2.set hj x) (gb_setCell (p := ⟨z, j, none⟩) (callW_gb w o _) _) ((block_set_ne _ (by omega)).trans f3) (NumsAt.nil _ _)

end Go.Proofs.Ytdlhgbhaeedbdab

/- Texts that Print tells: plain mathematics. -/
namespace Go.Proofs.Ytdlhgbhaeedbdab
open Go.RowKit

/-- A text that Print tells of itself. -/
def Canon (s : ByteArray) : Prop := (chk s).1 = 0 ∧ prI (itemsOf s) = s

theorem prI_perm {l m : List Item} (h : ArrI l) (hp : l.Perm m) : prI l = prI m := by
  unfold prI
  rw [sortTo_all, sortTo_all, sorted_of_perm hp h.dist]

theorem Canon.arr {s : ByteArray} (h : Canon s) : ArrI (itemsOf s) := arrI_of_chk h.1

theorem prt_prI {s : ByteArray} (h : (chk s).1 = 0) : prt s = prI (itemsOf s) := by
  unfold prt prI
  rw [if_pos h]

theorem letter_ne {c : UInt8} (h : letter c) : c ≠ 0 := by
  unfold letter at h
  rintro rfl
  revert h
  decide

theorem dg_ne {n : Nat} (h : n ≤ 9) : dg n ≠ 0 := by
  have : ∀ n, n ≤ 9 → dg n ≠ 0 := by decide
  exact this n h
theorem md_ne (m : Nat) : md m ≠ 0 := by unfold md; split <;> decide

theorem text_nz {x : It} (hx : x.ok) : ∀ c ∈ x.text, c ≠ 0 := by
  obtain ⟨ha, hk⟩ := hx
  have hA : ∀ c ∈ x.a, c ≠ 0 := fun c hc => letter_ne (ha.2.2 c hc)
  intro c hc
  unfold It.text at hc
  rcases List.mem_append.1 hc with hc | hc
  · unfold It.body at hc
    rcases hk with ⟨e, hb, h1, h2, h3⟩ | ⟨e, hb, h1, h2⟩ | ⟨e, hb, h1, h2⟩ | ⟨e, hb, h1, h2⟩ | ⟨e, hb, h1, h2⟩
    · simp only [e, if_true, List.mem_append, List.mem_cons, List.not_mem_nil, or_false] at hc
      have := dg_ne h2
      rcases hc with (rfl | rfl | rfl | rfl | rfl) | hc | rfl | rfl <;> first | decide | exact hA _ hc | assumption
    · simp [e] at hc
      rcases hc with rfl | rfl | rfl | rfl | rfl | rfl | rfl | hc <;> first | decide | exact hA _ hc
    · have hB : ∀ c ∈ x.b, c ≠ 0 := fun c hc => letter_ne (hb.2.2 c hc)
      have h4 := dg_ne (n := x.n) (by omega)
      have h5 := md_ne x.m
      simp [e] at hc
      rcases hc with rfl | rfl | rfl | rfl | hc | rfl | rfl | rfl | hc | rfl | rfl | rfl <;> first | decide | exact hA _ hc | exact hB _ hc | assumption
    · have hB : ∀ c ∈ x.b, c ≠ 0 := fun c hc => letter_ne (hb.2.2 c hc)
      simp [e] at hc
      rcases hc with rfl | rfl | rfl | rfl | rfl | hc | rfl | hc <;> first | decide | exact hA _ hc | exact hB _ hc
    · have hB : ∀ c ∈ x.b, c ≠ 0 := fun c hc => letter_ne (hb.2.2 c hc)
      have h4 := dg_ne (n := x.n) (by omega)
      have h5 := dg_ne (n := x.m) (by omega)
      simp [e] at hc
      rcases hc with rfl | rfl | rfl | rfl | hc | rfl | hc | rfl | rfl | rfl | rfl <;> first | decide | exact hA _ hc | exact hB _ hc | assumption
  · simp at hc
    subst hc
    decide

theorem prI_txt {L : List It} (h : Arr L) : prI (L.map It.item) = txt (sortI L) := by
  rw [← h.prt, prt_prI (by rw [h.chk.1]), h.chk.2]

theorem prI_canon {t : List Item} (h : ArrI t) : Canon (prI t) ∧ (itemsOf (prI t)).Perm t ∧ (prI t).size ≤ 400 ∧ ∀ c ∈ (prI t).data.toList, c ≠ 0 := by
  obtain ⟨L, hL, rfl⟩ := h.arr
  have hM := arr_sortI hL
  rw [prI_txt hL]
  obtain ⟨h1, h2⟩ := hM.chk
  refine ⟨⟨by rw [h1], ?_⟩, ?_, ?_, ?_⟩
  · rw [h2, prI_txt hM]
    exact sortI_of_perm hM (sortI_perm L)
  · rw [h2]
    exact (sortI_perm L).map _
  · rw [txt_size]; exact hM.short
  · intro c hc
    simp only [txt, List.toList_toArray] at hc
    obtain ⟨x, hx, hcx⟩ := List.mem_flatMap.1 hc
    exact text_nz (hM.ok x hx) c hcx

theorem canon_nil : Canon ⟨#[]⟩ := by
  have hA : ArrI ([] : List Item) := ⟨by simp, ⟨by simp, by simp [sizeI]⟩, by unfold Dist; exact List.Pairwise.nil, by unfold Refs; simp⟩
  have : prI [] = ⟨#[]⟩ := rfl
  rw [← this]
  exact (prI_canon hA).1

theorem pl_canon {s t : ByteArray} (hs : (chk s).1 = 0) (ht : (chk t).1 = 0) : pl s t = stTxts (mk (itemsOf s) (itemsOf t)) := by
  have : plErr s t = 0 := by unfold plErr; rw [if_pos hs]; exact ht
  unfold pl
  rw [if_pos this]

theorem stTxts_len (l : List (Bool × Item)) : (stTxts l).length = l.length := by simp [stTxts]

end Go.Proofs.Ytdlhgbhaeedbdab

/- The law Stored: the arrangement, what its sessions see, and the shelf beside the drives: plain mathematics. -/
namespace Go.Proofs.Ytdlhgbhaeedbdab
open Go.RowKit

/-- A text's bytes. -/
def bs (l : List UInt8) : ByteArray := ⟨l.toArray⟩
/-- The items of the arrangement. -/
def shopL : List It := [⟨0, [97], [], 4, 0⟩, ⟨0, [98], [], 9, 0⟩, ⟨1, [120], [], 0, 0⟩, ⟨1, [121], [], 0, 0⟩, ⟨2, [120], [97], 1, 1⟩, ⟨2, [121], [97], 2, 0⟩, ⟨2, [121], [98], 3, 1⟩, ⟨3, [120], [104], 0, 0⟩, ⟨3, [121], [104], 0, 0⟩, ⟨3, [121], [107], 0, 0⟩,
  ⟨4, [120], [104], 0, 1⟩, ⟨4, [121], [104], 5, 2⟩, ⟨4, [121], [104], 6, 3⟩, ⟨4, [121], [107], 6, 3⟩]
def shopI : List Item := shopL.map It.item

/-- The same item has a key, whatever turn they stand in. -/
theorem find_perm {l m : List Item} (h : l.Perm m) (hd : Dist l) (k : Key) : l.find? (keyIs k) = m.find? (keyIs k) := by
  cases h1 : l.find? (keyIs k) with
  | none =>
    symm
    rw [List.find?_eq_none] at h1 ⊢
    exact fun x hx => h1 x (h.mem_iff.2 hx)
  | some x =>
    have hx := List.mem_of_find?_eq_some h1
    have hk := List.find?_some h1
    cases h2 : m.find? (keyIs k) with
    | none =>
      rw [List.find?_eq_none] at h2
      exact absurd hk (h2 x (h.mem_iff.1 hx))
    | some y =>
      have hy := h.mem_iff.2 (List.mem_of_find?_eq_some h2)
      have hky := List.find?_some h2
      rw [dist_eq hd hx hy (keyIs_same hk hky)]

theorem shop_ok : ∀ x ∈ shopL, x.ok := by
  intro x hx
  simp only [shopL, List.mem_cons, List.not_mem_nil, or_false] at hx
  rcases hx with rfl | rfl | rfl | rfl | rfl | rfl | rfl | rfl | rfl | rfl | rfl | rfl | rfl | rfl <;> (unfold It.ok isName letter; simp)

/-- The text of the arrangement, as the law has it. -/
def shopT : ByteArray := txt shopL

theorem shop_few : shopL.length ≤ 24 := by decide
theorem shop_size : (txt shopL).size ≤ 400 := by decide +kernel

theorem shop_mem {P : Item → Prop} (h : ∀ i, i < 14 → ∀ x, shopL[i]? = some x → P x.item) : ∀ x ∈ shopI, P x := by
  intro x hx
  obtain ⟨y, hy, rfl⟩ := List.mem_map.1 hx
  obtain ⟨i, hi, rfl⟩ := List.getElem_of_mem hy
  exact h i hi _ (by simp [hi])

/-- No such map. -/
theorem map_none (t h : ByteArray) (n : Int) (hn : ¬ ((t = bs [120] ∧ h = bs [104] ∧ n = 0) ∨ (t = bs [121] ∧ h = bs [104] ∧ (n = 5 ∨ n = 6)) ∨ (t = bs [121] ∧ h = bs [107] ∧ n = 6))) : shopI.find? (keyIs ⟨4, t, h, n⟩) = none := by
  rw [List.find?_eq_none]
  intro x hx hk
  obtain ⟨k1, k2, k3, k4⟩ : (x.kind : Int) = 4 ∧ x.name = t ∧ x.host = h ∧ x.number = n := by simpa [keyIs] using hk
  simp only [shopI, shopL, List.map_cons, List.map_nil, List.mem_cons, List.not_mem_nil, or_false] at hx
  rcases hx with rfl | rfl | rfl | rfl | rfl | rfl | rfl | rfl | rfl | rfl | rfl | rfl | rfl | rfl
  all_goals first | (simp [It.item] at k1; done) | skip
  · exact hn (.inl ⟨k2.symm, k3.symm, by simpa [It.item] using k4.symm⟩)
  · exact hn (.inr (.inl ⟨k2.symm, k3.symm, .inl (by simpa [It.item] using k4.symm)⟩))
  · exact hn (.inr (.inl ⟨k2.symm, k3.symm, .inr (by simpa [It.item] using k4.symm)⟩))
  · exact hn (.inr (.inr ⟨k2.symm, k3.symm, by simpa [It.item] using k4.symm⟩))

theorem map_xh : shopI.find? (keyIs ⟨4, bs [120], bs [104], 0⟩) = some (It.item ⟨4, [120], [104], 0, 1⟩) := by rfl
theorem map_yh5 : shopI.find? (keyIs ⟨4, bs [121], bs [104], 5⟩) = some (It.item ⟨4, [121], [104], 5, 2⟩) := by rfl
theorem map_yh6 : shopI.find? (keyIs ⟨4, bs [121], bs [104], 6⟩) = some (It.item ⟨4, [121], [104], 6, 3⟩) := by rfl
theorem map_yk6 : shopI.find? (keyIs ⟨4, bs [121], bs [107], 6⟩) = some (It.item ⟨4, [121], [107], 6, 3⟩) := by rfl
theorem lun_x1 : shopI.find? (keyIs ⟨2, bs [120], ⟨#[]⟩, 1⟩) = some (It.item ⟨2, [120], [97], 1, 1⟩) := by rfl
theorem lun_y2 : shopI.find? (keyIs ⟨2, bs [121], ⟨#[]⟩, 2⟩) = some (It.item ⟨2, [121], [97], 2, 0⟩) := by rfl
theorem lun_y3 : shopI.find? (keyIs ⟨2, bs [121], ⟨#[]⟩, 3⟩) = some (It.item ⟨2, [121], [98], 3, 1⟩) := by rfl

theorem shop_items : itemsOf shopT = shopI := by
  unfold itemsOf shopT
  rw [rd_txt shop_ok shop_few]
  rfl

set_option maxRecDepth 100000 in
theorem shop_chk : (chk shopT).1 = 0 := by decide +kernel

theorem shop_arr : ArrI shopI := by
  have := arrI_of_chk shop_chk
  rwa [shop_items] at this

/-- The three sessions. -/
def shopS : List Ses := [⟨0, bs [120], bs [104], false⟩, ⟨1, bs [121], bs [104], false⟩, ⟨2, bs [121], bs [107], false⟩]

/-- The blocks of the two disks, on the shelf. -/
def blkA (Z : Nat → Int) : List Int := (List.range 4).map Z
def blkB (Z : Nat → Int) : List Int := (List.range 9).map fun j => Z (9 + j)

/-- The drives, beside the shelf. -/
structure ShRel (D : List Drv) (Z : Nat → Int) (ia ib : Nat) : Prop where
  turn : (ia = 0 ∧ ib = 1) ∨ (ia = 1 ∧ ib = 0)
  two : D.length = 2
  a : D[ia]? = some ⟨bs [97], blkA Z, Z 18⟩
  b : D[ib]? = some ⟨bs [98], blkB Z, Z 19⟩
  ha : -1 ≤ Z 18
  hb : -1 ≤ Z 19

theorem ShRel.list {D : List Drv} {Z : Nat → Int} {ia ib : Nat} (h : ShRel D Z ia ib) : (ia = 0 ∧ ib = 1 ∧ D = [⟨bs [97], blkA Z, Z 18⟩, ⟨bs [98], blkB Z, Z 19⟩]) ∨ (ia = 1 ∧ ib = 0 ∧ D = [⟨bs [98], blkB Z, Z 19⟩, ⟨bs [97], blkA Z, Z 18⟩]) := by
  obtain ⟨ht, h2, ha, hb, _, _⟩ := h
  match D, h2 with
  | [x, y], _ =>
    rcases ht with ⟨rfl, rfl⟩ | ⟨rfl, rfl⟩
    · left
      simp at ha hb
      exact ⟨rfl, rfl, by rw [ha, hb]⟩
    · right
      simp at ha hb
      exact ⟨rfl, rfl, by rw [ha, hb]⟩

theorem ne_ab : ¬ bs [97] = bs [98] := by decide
theorem ne_ba : ¬ bs [98] = bs [97] := by decide

theorem ShRel.fix {D : List Drv} {Z : Nat → Int} {ia ib : Nat} (h : ShRel D Z ia ib) : fixD D (bs [97]) = some ia ∧ fixD D (bs [98]) = some ib := by
  rcases h.list with ⟨rfl, rfl, rfl⟩ | ⟨rfl, rfl, rfl⟩
  · simp [fixD, List.findIdx?_cons, ne_ab]
  · simp [fixD, List.findIdx?_cons, ne_ba]

/-- What the sessions see. -/
theorem see_shop {l : List Item} {D : List Drv} {Z : Nat → Int} {ia ib : Nat} {nx : Int} (hp : l.Perm shopI) (h : ShRel D Z ia ib) (s n : Int) (hs : s = 0 ∨ s = 1 ∨ s = 2) :
    seeO ⟨D, shopS, nx⟩ l s n = (if (seesD s n).1 < 0 then (14, none) else (0, some (if (seesD s n).1 = 0 then ia else ib, (seesD s n).2))) := by
  have hd : Dist l := (shop_arr.perm hp.symm).dist
  obtain ⟨fa, fb⟩ := h.fix
  unfold seeO
  simp only [find_perm hp hd]
  rcases hs with rfl | rfl | rfl
  · have e : shopS.find? (fun z => decide (z.number = 0)) = some ⟨0, bs [120], bs [104], false⟩ := rfl
    simp only [e]
    by_cases h0 : n = 0
    · subst h0
      rw [map_xh]
      simp only [show (It.item ⟨4, [120], [104], 0, 1⟩).lun = 1 from rfl]
      rw [lun_x1]
      simp only [show (It.item ⟨2, [120], [97], 1, 1⟩).disk = bs [97] from rfl, fa]
      rfl
    · rw [map_none _ _ _ (by
        rintro (⟨_, _, h⟩ | ⟨h, _⟩ | ⟨h, _⟩)
        · exact h0 h
        · exact absurd h (by decide)
        · exact absurd h (by decide))]
      have : seesD 0 n = (-1, false) := by simp [seesD, h0]
      rw [this]
      rfl
  · have e : shopS.find? (fun z => decide (z.number = 1)) = some ⟨1, bs [121], bs [104], false⟩ := rfl
    simp only [e]
    by_cases h5 : n = 5
    · subst h5
      rw [map_yh5]
      simp only [show (It.item ⟨4, [121], [104], 5, 2⟩).lun = 2 from rfl]
      rw [lun_y2]
      simp only [show (It.item ⟨2, [121], [97], 2, 0⟩).disk = bs [97] from rfl, fa]
      rfl
    · by_cases h6 : n = 6
      · subst h6
        rw [map_yh6]
        simp only [show (It.item ⟨4, [121], [104], 6, 3⟩).lun = 3 from rfl]
        rw [lun_y3]
        simp only [show (It.item ⟨2, [121], [98], 3, 1⟩).disk = bs [98] from rfl, fb]
        rfl
      · rw [map_none _ _ _ (by
          rintro (⟨h, _⟩ | ⟨_, _, h | h⟩ | ⟨_, h, _⟩)
          · exact absurd h (by decide)
          · exact h5 h
          · exact h6 h
          · exact absurd h (by decide))]
        have : seesD 1 n = (-1, false) := by simp [seesD, h5, h6]
        rw [this]
        rfl
  · have e : shopS.find? (fun z => decide (z.number = 2)) = some ⟨2, bs [121], bs [107], false⟩ := rfl
    simp only [e]
    by_cases h6 : n = 6
    · subst h6
      rw [map_yk6]
      simp only [show (It.item ⟨4, [121], [107], 6, 3⟩).lun = 3 from rfl]
      rw [lun_y3]
      simp only [show (It.item ⟨2, [121], [98], 3, 1⟩).disk = bs [98] from rfl, fb]
      rfl
    · rw [map_none _ _ _ (by
        rintro (⟨h, _⟩ | ⟨_, h, _⟩ | ⟨_, _, h⟩)
        · exact absurd h (by decide)
        · exact absurd h (by decide)
        · exact h6 h)]
      have : seesD 2 n = (-1, false) := by simp [seesD, h6]
      rw [this]
      rfl

/-- What List tells them. -/
theorem list_shop {l : List Item} {D : List Drv} {nx : Int} (hp : l.Perm shopI) (s : Int) (hs : s = 0 ∨ s = 1 ∨ s = 2) :
    lsR ⟨D, shopS, nx⟩ l s = (if s = 0 then ([0], 0) else if s = 1 then ([5, 6], 0) else ([6], 0)) := by
  have hd : Dist l := (shop_arr.perm hp.symm).dist
  have hsort : sortTo l l.length = sortTo shopI shopI.length := by rw [sortTo_all, sortTo_all, sorted_of_perm hp hd]
  unfold lsR
  rw [hsort]
  have n0 : numsOf ⟨0, bs [120], bs [104], false⟩ (sortTo shopI shopI.length) = [0] := by decide +kernel
  have n1 : numsOf ⟨1, bs [121], bs [104], false⟩ (sortTo shopI shopI.length) = [5, 6] := by decide +kernel
  have n2 : numsOf ⟨2, bs [121], bs [107], false⟩ (sortTo shopI shopI.length) = [6] := by decide +kernel
  rcases hs with rfl | rfl | rfl
  · have e : shopS.find? (fun z => decide (z.number = 0)) = some ⟨0, bs [120], bs [104], false⟩ := rfl
    simp only [e, n0]
    rfl
  · have e : shopS.find? (fun z => decide (z.number = 1)) = some ⟨1, bs [121], bs [104], false⟩ := rfl
    simp only [e, n1]
    rfl
  · have e : shopS.find? (fun z => decide (z.number = 2)) = some ⟨2, bs [121], bs [107], false⟩ := rfl
    simp only [e, n2]
    rfl

theorem range_getD (f : Nat → Int) (n m : Nat) (h : m < n) : ((List.range n).map f).getD m 0 = f m := by
  simp [List.getD_eq_getElem?_getD, h]

theorem range_set' (f : Nat → Int) (n m : Nat) (x : Int) : ((List.range n).map f).set m x = (List.range n).map fun j => if j = m then x else f j := by
  apply List.ext_getElem
  · simp
  · intro j h1 h2
    by_cases e : m = j
    · subst e; simp
    · simp [e, Ne.symm e]

theorem modify_at {D : List Drv} {i : Nat} {d : Drv} (h : D[i]? = some d) (f : Drv → Drv) : (D.modify i f)[i]? = some (f d) := by
  rw [List.getElem?_modify]
  simp [h]
theorem modify_off {D : List Drv} {i j : Nat} (h : i ≠ j) (f : Drv → Drv) : (D.modify i f)[j]? = D[j]? := by
  rw [List.getElem?_modify]
  simp [h]

/-- One drive of the two: the first, or the second. -/
theorem ShRel.at {D : List Drv} {Z : Nat → Int} {ia ib : Nat} (h : ShRel D Z ia ib) {d : Int} (hd : d = 0 ∨ d = 1) : ∃ x, D[if d = 0 then ia else ib]? = some x ∧ x.holder = Z (hAt d) ∧ (x.blocks.length : Int) = szD d ∧ (∀ m : Nat, (m : Int) < szD d → x.blocks.getD m 0 = Z (bAt d m)) ∧ -1 ≤ Z (hAt d) ∧
    (∀ s, -1 ≤ s → ShRel (D.modify (if d = 0 then ia else ib) fun y => { y with holder := s }) (setZ Z (hAt d) s) ia ib) ∧ (∀ (m : Nat) v, (m : Int) < szD d → ShRel (D.modify (if d = 0 then ia else ib) fun y => { y with blocks := y.blocks.set m v }) (setZ Z (bAt d m) v) ia ib) := by
  obtain ⟨ht, h2, ha, hb, h18, h19⟩ := h
  have hne : ia ≠ ib := by omega
  rcases hd with rfl | rfl
  · rw [if_pos rfl]
    refine ⟨_, ha, rfl, by simp [blkA, szD], fun m hm => ?_, h18, fun s hs => ?_, fun m v hm => ?_⟩
    · have hm' : m < 4 := by simp [szD] at hm; omega
      rw [show bAt 0 (m : Int) = m from by unfold bAt; omega]
      exact range_getD Z 4 m hm'
    · refine ⟨ht, by simpa using h2, ?_, ?_, by simp [setZ, hAt]; exact hs, by simp [setZ, hAt]; exact h19⟩
      · rw [modify_at ha]
        congr 2
      · rw [modify_off hne, hb]
        congr 2
    · have hm' : m < 4 := by simp [szD] at hm; omega
      rw [show bAt 0 (m : Int) = m from by unfold bAt; omega]
      have e18 : setZ Z m v 18 = Z 18 := by unfold setZ; rw [if_neg (by omega)]
      have e19 : setZ Z m v 19 = Z 19 := by unfold setZ; rw [if_neg (by omega)]
      refine ⟨ht, by simpa using h2, ?_, ?_, by rw [e18]; exact h18, by rw [e19]; exact h19⟩
      · rw [modify_at ha, e18]
        simp only [Option.some.injEq, Drv.mk.injEq, true_and, and_true]
        exact range_set' Z 4 m v
      · rw [modify_off hne, hb, e19]
        have : blkB (setZ Z m v) = blkB Z := by
          unfold blkB
          apply List.map_congr_left
          intro j _
          unfold setZ
          rw [if_neg (by omega)]
        rw [this]
  · rw [if_neg (by omega)]
    refine ⟨_, hb, rfl, by simp [blkB, szD], fun m hm => ?_, h19, fun s hs => ?_, fun m v hm => ?_⟩
    · have hm' : m < 9 := by simp [szD] at hm; omega
      rw [show bAt 1 (m : Int) = 9 + m from by unfold bAt; omega]
      exact range_getD (fun j => Z (9 + j)) 9 m hm'
    · refine ⟨ht, by simpa using h2, ?_, ?_, by simp [setZ, hAt]; exact h18, by simp [setZ, hAt]; exact hs⟩
      · rw [modify_off (Ne.symm hne), ha]
        congr 2
      · rw [modify_at hb]
        congr 2
    · have hm' : m < 9 := by simp [szD] at hm; omega
      rw [show bAt 1 (m : Int) = 9 + m from by unfold bAt; omega]
      have e18 : setZ Z (9 + m) v 18 = Z 18 := by unfold setZ; rw [if_neg (by omega)]
      have e19 : setZ Z (9 + m) v 19 = Z 19 := by unfold setZ; rw [if_neg (by omega)]
      refine ⟨ht, by simpa using h2, ?_, ?_, by rw [e18]; exact h18, by rw [e19]; exact h19⟩
      · rw [modify_off (Ne.symm hne), ha, e18]
        have : blkA (setZ Z (9 + m) v) = blkA Z := by
          unfold blkA
          apply List.map_congr_left
          intro j hj
          rw [List.mem_range] at hj
          unfold setZ
          rw [if_neg (by omega)]
        rw [this]
      · rw [modify_at hb, e19]
        simp only [Option.some.injEq, Drv.mk.injEq, true_and, and_true]
        unfold blkB
        rw [range_set']
        apply List.map_congr_left
        intro j _
        unfold setZ
        by_cases e : j = m
        · rw [if_pos e, if_pos (by omega)]
        · rw [if_neg e, if_neg (by omega)]

end Go.Proofs.Ytdlhgbhaeedbdab
