/- Pl6, Pl7, Pl8, Pl9. -/
import Derived.Test.YtdlhgbhaeedbdabGreatM6
import Derived.Laws.AppendOwnNone

/- 'plan.Parse', 'Step.Text', 'Texts'. -/
namespace Go.Proofs.YtdlhgbhaeedbdabGreat
open Go.RowKit

theorem byteAt_zero {s : ByteArray} (h : 0 < s.size) : byteAt s 0 = (s[0].toNat : Int) := byteAt_in h

theorem stParse_any (s : ByteArray) (w : World) (hm : s.size ≤ 9223372036854775807) :
    Calls Tryz.prog 92 #[.string s] w fun e w' => e = .returned (.tuple #[.agg (stCells (addsS s) (itS s)), .bool (goodS s)]) ∧ Below w.heap.size w w' := by
  have hbad : goodS s = false → addsS s = false ∧ itS s = noItem := fun h => by simp [addsS, itS, h]
  by_cases h0 : s.size = 0
  · have hg : goodS s = false := by simp [goodS, byteAt, h0]
    rw [(hbad hg).1, (hbad hg).2, hg]
    exact stParse_none s w h0
  · have hs : 0 < s.size := by omega
    have hz := byteAt_zero hs
    by_cases h1 : (s[0].toNat : Int) = 43 ∨ (s[0].toNat : Int) = 45
    · cases hgi : goodI (s.extract 1 s.size) with
      | false =>
        have hg : goodS s = false := by simp [goodS, hgi]
        rw [(hbad hg).1, (hbad hg).2, hg]
        exact stParse_bad s w hm hs h1 hgi
      | true =>
        have hg : goodS s = true := by simp only [goodS, hgi, hz, Bool.and_true, decide_eq_true_eq]; exact h1
        have hi : itS s = oneI (s.extract 1 s.size) := by simp [itS, hg]
        rw [hi, hg]
        refine stParse_ok s w hm hs (addsS s) ?_ hgi
        rcases h1 with h | h
        · exact Or.inl ⟨by simp [addsS, hg, hz, h], h⟩
        · exact Or.inr ⟨by simp [addsS, hg, hz, h], h⟩
    · have hg : goodS s = false := by
        have : decide (byteAt s 0 = 43 ∨ byteAt s 0 = 45) = false := by rw [hz]; simpa using h1
        simp only [goodS, this, Bool.false_and]
      rw [(hbad hg).1, (hbad hg).2, hg]
      exact stParse_sign s w hs (fun h => h1 (Or.inl h)) (fun h => h1 (Or.inr h))

/-- The text of a step. -/
def stTxt (b : Bool) (t : ByteArray) : ByteArray := (if b then ⟨#[43]⟩ else ⟨#[45]⟩) ++ t

set_option maxRecDepth 100000 in
set_option maxHeartbeats 400000 in
theorem stText_any (b : Bool) (x : Item) (w : World) (hx : x.text.size ≤ 1000000) :
    Calls Tryz.prog 99 #[.agg #[.bool b, .int .i64 x.kind, .string x.name, .string x.host, .int .i64 x.number, .int .i64 x.size, .string x.disk, .bool x.only, .int .i64 x.lun, .string x.text]] w fun e w' => e = .returned (.string (stTxt b x.text)) ∧ Below w.heap.size w w' := by
  have ha1 : ∀ wx : World, (Op.stringOp .add ⟨#[43]⟩ x.text).run Tryz.prog wx = .ok (.string (stTxt true x.text)) wx := fun wx => by
    have := run_string_add_sum (P := Tryz.prog) wx ⟨#[43]⟩ x.text (by have : (⟨#[43]⟩ : ByteArray).size = 1 := rfl; omega); exact this
  have ha2 : ∀ wx : World, (Op.stringOp .add ⟨#[45]⟩ x.text).run Tryz.prog wx = .ok (.string (stTxt false x.text)) wx := fun wx => by
    have := run_string_add_sum (P := Tryz.prog) wx ⟨#[45]⟩ x.text (by have : (⟨#[45]⟩ : ByteArray).size = 1 := rfl; omega); exact this
  cases b with
  | true =>
    go_enter Tryz.func99, Tryz.ntmps99
    go_wp2
    go_ret
    exact ⟨rfl, (Below.refl _ _).alloc (Nat.le_refl _) _⟩
  | false =>
    go_enter Tryz.func99, Tryz.ntmps99
    go_wp2
    go_ret
    exact ⟨rfl, (Below.refl _ _).alloc (Nat.le_refl _) _⟩

/-- A step lies in block g from offset o on. -/
structure StAt (w : World) (g o : Nat) (p : Bool × Item) : Prop where
  c0 : w.cell? ⟨g, o, none⟩ = some (.bool p.1)
  c1 : w.cell? ⟨g, o + 1, none⟩ = some (.int .i64 p.2.kind)
  c2 : w.cell? ⟨g, o + 2, none⟩ = some (.string p.2.name)
  c3 : w.cell? ⟨g, o + 3, none⟩ = some (.string p.2.host)
  c4 : w.cell? ⟨g, o + 4, none⟩ = some (.int .i64 p.2.number)
  c5 : w.cell? ⟨g, o + 5, none⟩ = some (.int .i64 p.2.size)
  c6 : w.cell? ⟨g, o + 6, none⟩ = some (.string p.2.disk)
  c7 : w.cell? ⟨g, o + 7, none⟩ = some (.bool p.2.only)
  c8 : w.cell? ⟨g, o + 8, none⟩ = some (.int .i64 p.2.lun)
  c9 : w.cell? ⟨g, o + 9, none⟩ = some (.string p.2.text)

theorem StAt.below {B : Nat} {w w' : World} {g o : Nat} {p : Bool × Item} (h : StAt w g o p) (hb : Below B w w') (hg : g < B) : StAt w' g o p :=
  ⟨(hb.cell (p := ⟨g, o, none⟩) hg).trans h.c0, (hb.cell (p := ⟨g, o + 1, none⟩) hg).trans h.c1, (hb.cell (p := ⟨g, o + 2, none⟩) hg).trans h.c2, (hb.cell (p := ⟨g, o + 3, none⟩) hg).trans h.c3,
   (hb.cell (p := ⟨g, o + 4, none⟩) hg).trans h.c4, (hb.cell (p := ⟨g, o + 5, none⟩) hg).trans h.c5, (hb.cell (p := ⟨g, o + 6, none⟩) hg).trans h.c6, (hb.cell (p := ⟨g, o + 7, none⟩) hg).trans h.c7, (hb.cell (p := ⟨g, o + 8, none⟩) hg).trans h.c8, (hb.cell (p := ⟨g, o + 9, none⟩) hg).trans h.c9⟩

/-- All cells of a list of steps. -/
def stsCells (l : List (Bool × Item)) : List Value := l.flatMap fun p => (stCells p.1 p.2).toList

theorem stsCells_snoc (l : List (Bool × Item)) (p : Bool × Item) : stsCells (l ++ [p]) = stsCells l ++ (stCells p.1 p.2).toList := by simp [stsCells]

theorem stsCells_get (l : List (Bool × Item)) (i : Nat) (h : i < l.length) (c : Nat) (hc : c < 10) : (stsCells l)[i * 10 + c]? = (stCells l[i].1 l[i].2)[c]? := by
  induction l generalizing i with
  | nil => simp at h
  | cons a l ih =>
    simp only [stsCells, List.flatMap_cons]
    have h8 : (stCells a.1 a.2).toList.length = 10 := by simp [stCells]
    match i with
    | 0 => rw [List.getElem?_append_left (by omega)]; simp
    | i + 1 =>
      rw [List.getElem?_append_right (by omega), h8, show (i + 1) * 10 + c - 10 = i * 10 + c from by omega]
      exact ih i (by simpa using h)

/-- v is a list of the steps l. -/
def StepsAt (w : World) (v : Value) (l : List (Bool × Item)) : Prop :=
  (v = .slice none 0 0 ∧ l = []) ∨ ∃ g cap, v = .slice (some ⟨g, 0, none⟩) l.length cap ∧ g < w.heap.size ∧ ∀ i (h : i < l.length), StAt w g (i * 10) l[i]

theorem steps_of_owns {w : World} {base : Nat} {v : Value} {l : List (Bool × Item)} (h : w.ownsRow base 157 10 v l.length (stsCells l)) : StepsAt w v l := by
  have hh := h
  obtain ⟨_, ⟨rfl, h0⟩ | ⟨g, cap, cur, rfl, hb, hg, hc, _, _, _⟩⟩ := hh
  · exact Or.inl ⟨rfl, List.length_eq_zero_iff.1 h0⟩
  · refine Or.inr ⟨g, cap, rfl, (h.lt g rfl).2, fun i hi => ?_⟩
    have hcl := h.cells (g := g) rfl
    have key : ∀ c, c < 10 → ∀ u, (stCells l[i].1 l[i].2)[c]? = some u → w.cell? ⟨g, i * 10 + c, none⟩ = some u := by
      intro c hc u hu
      have := hcl (i * 10 + c) u (by rw [stsCells_get l i hi c hc]; exact hu)
      rwa [addr_add] at this
    exact ⟨key 0 (by omega) _ rfl, key 1 (by omega) _ rfl, key 2 (by omega) _ rfl, key 3 (by omega) _ rfl, key 4 (by omega) _ rfl, key 5 (by omega) _ rfl, key 6 (by omega) _ rfl, key 7 (by omega) _ rfl, key 8 (by omega) _ rfl, key 9 (by omega) _ rfl⟩

theorem Tryz.infoTx : (Tryz.prog.info? 9).map (fun i => (i.zero, i.size, i.bytes)) = some (some (.string ⟨#[]⟩), 1, 16) := by kernel_rfl

theorem one_tx (x : ByteArray) : ∀ u ∈ [Value.string x], u.oneCell' = true := by intro u hu; simp at hu; subst hu; rfl

/-- The texts of steps. -/
def stTxts (l : List (Bool × Item)) : List ByteArray := l.map fun p => stTxt p.1 p.2.text

set_option maxRecDepth 100000 in
set_option maxHeartbeats 400000 in
theorem texts_at (v : Value) (l : List (Bool × Item)) (w : World) (hl : l.length ≤ 48) (ht : ∀ p ∈ l, p.2.text.size ≤ 1000000) (hv : StepsAt w v l) :
    Calls Tryz.prog 54 #[v] w fun e w' => ∃ v', e = .returned v' ∧ w'.ownsRow w.heap.size 9 1 v' (stTxts l).length ((stTxts l).map Value.string) ∧ Below w.heap.size w w' := by
  rcases hv with ⟨rfl, rfl⟩ | ⟨g, cap, rfl, hg, hit⟩
  · go_enter Tryz.func54, Tryz.ntmps54
    go_wp2
    refine wp_loop_rounds 1 ?_
    rw [rounds_succ]
    go_wp2
    go_ret
    exact ⟨_, rfl, World.ownsRow_nil _ _ _ _, Below.refl _ _⟩
  · obtain ⟨i0, hi, hz0, hz1, hz2⟩ := info_parts Tryz.infoTx
    go_enter Tryz.func54, Tryz.ntmps54
    go_wp2
    go_loopw [3, 4] (fun tv i wr => ∃ k : Nat, k ≤ l.length ∧ i = .int .i64 k ∧ wr.ownsRow w.heap.size 9 1 tv k ((stTxts (l.take k)).map Value.string) ∧ Below w.heap.size w wr) (fun _ i _ => l.length - (intOf i).toNat)
    case atStart => exact ⟨0, Nat.zero_le _, rfl, World.ownsRow_nil _ _ _ _, Below.refl _ _⟩
    case round =>
      obtain ⟨k, hk, rfl, hown, hbe⟩ := hrel
      obtain ⟨a, tc, rfl⟩ := slice_of_owns hown
      by_cases hlt : k < l.length
      · obtain ⟨p, hp⟩ : ∃ p, p = l[k] := ⟨_, rfl⟩
        have hix := (hit k hlt).below hbe hg
        rw [← hp] at hix
        have hstep : (stTxts (l.take (k + 1))).map Value.string = (stTxts (l.take k)).map Value.string ++ [.string (stTxt p.1 p.2.text)] := by
          rw [List.take_succ_eq_append_getElem hlt, ← hp]; simp [stTxts]
        have Hst := hide hstep
        have hps : p.2.text.size ≤ 1000000 := ht p (by rw [hp]; exact List.getElem_mem hlt)
        obtain ⟨c0, c1, c2, c3, c4, c5, c6, c7, c8, c9⟩ := hix
        have hlt' : (k : Int) < (l.length : Int) := by omega
        have hsz := hbe.size
        obtain ⟨pb, px⟩ := p
        clear hstep hp
        simp only at c0 c1 c2 c3 c4 c5 c6 c7 c8 c9 hps Hst
        generalize hT : (stTxts (l.take k)).map Value.string = T at *
        clear hT
        go_wp2_with (first
          | (go_at_call 99; refine (stText_any pb px _ hps).mono ?_; rintro e w1 ⟨rfl, hb1⟩)
          | (at_builtin; refine wpList_append_own _ rfl _ _ 26 rfl w.heap.size 9 i0 (.string ⟨#[]⟩) 1 16 Tryz.underlying26 hi hz0 hz1 hz2 rfl (by decide) (.slice a k tc) k T ?hs ?c0 ⟨w1.heap.size, 0, none⟩ 1 1 [.string (stTxt pb px.text)] ?hx rfl ?c1 (one_tx _) ?c3 ?c4 ?c5 ?_))
        case hs => rfl
        case c0 => exact (owns_later hown hb1).alloc _
        case hx => rfl
        case c1 => exact cell_one_new _ _ _
        case c3 => unfold maxLen; omega
        case c4 => omega
        case c5 => have := hb1.size; simp; omega
        intro v' w2 hown' hgrow _
        have hsz1 := hb1.size
        have hbe2 := ((hbe.trans (hb1.mono hsz)).alloc (by omega) _).grown hgrow (by simp; omega) (fun k e => (hown.lt k e).1)
        clear hgrow c0 c1 c2 c3 c4 c5 c6 c7 c8 c9
        go_wp2
        go_roundw
        case rel => exact ⟨k + 1, by omega, by go_num, by rw [unhide Hst]; exact hown', hbe2⟩
        case measure => simp [intOf]; omega
      · have hkl : k = l.length := by omega
        have hall : l.take k = l := List.take_of_length_le (by omega)
        rw [hall] at hown
        have hlen : (stTxts l).length = k := by simp [stTxts, hkl]
        have Hl := hide hlen
        clear hall hkl hlen
        go_wp2
        go_ret
        exact ⟨_, rfl, by rw [unhide Hl]; exact hown, hbe⟩

end Go.Proofs.YtdlhgbhaeedbdabGreat

/- 'plan.canAdd'. -/
namespace Go.Proofs.YtdlhgbhaeedbdabGreat
open Go.RowKit

/-- Is there room for one item more? -/
def roomB (l : List Item) (y : Item) : Bool := decide (l.length < 24) && decide (sizeI l + y.text.size ≤ 400)
/-- Is its key free, and is there what it names? -/
def freeB (l : List Item) (y : Item) : Bool := !(l.any (keyIs y.key)) && (namesOf y).all fun k => l.any (keyIs k)

def itCells (y : Item) : Array Value := #[.int .i64 y.kind, .string y.name, .string y.host, .int .i64 y.number, .int .i64 y.size, .string y.disk, .bool y.only, .int .i64 y.lun, .string y.text]

theorem ItAt.new (w : World) (y : Item) : ItAt (w.alloc (.cells (itCells y) 83)) w.heap.size 0 y := by
  unfold itCells
  constructor <;> go_simp

theorem below_new (w : World) (o : Obj) : Below w.heap.size w (w.alloc o) := (Below.refl _ _).alloc (Nat.le_refl _) o

set_option maxRecDepth 100000 in
set_option maxHeartbeats 400000 in
theorem canAdd_full (v : Value) (l : List Item) (y : Item) (w : World) (hl : l.length ≤ 24) (hsz : sizeI l ≤ 1000000) (hy : y.text.size ≤ 1000000) (hv : ItemsAt w v l) (hr : roomB l y = false) :
    Calls Tryz.prog 164 #[v, .agg #[.int .i64 y.kind, .string y.name, .string y.host, .int .i64 y.number, .int .i64 y.size, .string y.disk, .bool y.only, .int .i64 y.lun, .string y.text]] w fun e w' => e = .returned (.bool false) ∧ Below w.heap.size w w' := by
  have hv0 := hv.below (below_new w (.cells (itCells y) 83)) (Nat.le_refl _)
  have hS : ∀ n, Calls Tryz.prog 177 #[v] ((w.alloc (.cells (itCells y) 83)).drewN n) fun e w' => e = .returned (.int .i64 (sizeI l)) ∧ w' = (w.alloc (.cells (itCells y) 83)).drewN n := fun n =>
    size_at v l _ hl hsz (hv0.below (below_drewN (Below.refl _ _) n) (Nat.le_refl _))
  have hvs : ∃ a cap, v = .slice a l.length cap := by
    rcases hv with ⟨rfl, rfl⟩ | ⟨g, cap, rfl, _⟩
    · exact ⟨none, 0, rfl⟩
    · exact ⟨_, _, rfl⟩
  obtain ⟨a, cap, rfl⟩ := hvs
  unfold itCells at hS
  have HS := hide hS
  clear hS hv hv0
  unfold roomB at hr
  by_cases h24 : l.length < 24
  · have hbig : ¬ ((sizeI l : Nat) : Int) + (y.text.size : Int) ≤ 400 := by simp [h24] at hr; omega
    have h24' : ¬ (24 : Int) ≤ (l.length : Int) := by omega
    have hbig' : (400 : Int) < ((sizeI l : Nat) : Int) + (y.text.size : Int) := by omega
    clear hr
    go_enter Tryz.func164, Tryz.ntmps164
    go_wp2
    go_quiet (first | (go_at_call 177; exact (unhide HS _).mono (fun e w1 h => ⟨h.1, _, h.2⟩)))
    go_wp2
    go_ret
    exact ⟨rfl, below_drewN (below_new _ _) _⟩
  · have h24' : (24 : Int) ≤ (l.length : Int) := by omega
    clear hr
    go_enter Tryz.func164, Tryz.ntmps164
    go_wp2
    go_quiet (first | (go_at_call 177; exact (unhide HS _).mono (fun e w1 h => ⟨h.1, _, h.2⟩)))
    go_wp2
    go_ret
    exact ⟨rfl, below_drewN (below_new _ _) _⟩

end Go.Proofs.YtdlhgbhaeedbdabGreat

/- 'plan.canAdd', on. -/
namespace Go.Proofs.YtdlhgbhaeedbdabGreat
open Go.RowKit

theorem roomB_iff {l : List Item} {y : Item} (h : roomB l y = true) : l.length < 24 ∧ sizeI l + y.text.size ≤ 400 := by
  simpa [roomB] using h

theorem ItAt.zero {w : World} {g : Nat} {x : Item} (h : ItAt w g 0 x) : w.cell? ⟨g, 0, none⟩ = some (.int .i64 x.kind) ∧ w.cell? ⟨g, 1, none⟩ = some (.string x.name) ∧ w.cell? ⟨g, 2, none⟩ = some (.string x.host) ∧ w.cell? ⟨g, 3, none⟩ = some (.int .i64 x.number) ∧
    w.cell? ⟨g, 4, none⟩ = some (.int .i64 x.size) ∧ w.cell? ⟨g, 5, none⟩ = some (.string x.disk) ∧ w.cell? ⟨g, 6, none⟩ = some (.bool x.only) ∧ w.cell? ⟨g, 7, none⟩ = some (.int .i64 x.lun) ∧ w.cell? ⟨g, 8, none⟩ = some (.string x.text) := by
  obtain ⟨c0, c1, c2, c3, c4, c5, c6, c7, c8⟩ := h
  simp only [Nat.zero_add] at c1 c2 c3 c4 c5 c6 c7 c8
  exact ⟨c0, c1, c2, c3, c4, c5, c6, c7, c8⟩

theorem slice_of_items {w : World} {v : Value} {l : List Item} (hv : ItemsAt w v l) : ∃ a cap, v = .slice a l.length cap := by
  rcases hv with ⟨rfl, rfl⟩ | ⟨g, cap, rfl, _⟩
  · exact ⟨none, 0, rfl⟩
  · exact ⟨_, _, rfl⟩

theorem items_cells {w : World} {g : Nat} {l : List Item} (h : ItemsIn w g l) : ∀ (j : Nat) (u : Value), (allCells l)[j]? = some u → w.cell? ((⟨g, 0, none⟩ : Addr).add j) = some u := by
  intro j u hu
  have hj : j < l.length * 9 := by rw [← allCells_length]; exact (List.getElem?_eq_some_iff.1 hu).1
  obtain ⟨i, c, hc, e⟩ : ∃ i c, c < 9 ∧ j = i * 9 + c := ⟨j / 9, j % 9, Nat.mod_lt _ (by omega), by omega⟩
  subst e
  have hi : i < l.length := by omega
  rw [allCells_get l i hi c hc] at hu
  rw [addr_add]
  obtain ⟨c0, c1, c2, c3, c4, c5, c6, c7, c8⟩ := h.2 i hi
  match c, hc with
  | 0, _ => rw [Nat.add_zero, c0]; simpa [Item.cells] using hu
  | 1, _ => rw [c1]; simpa [Item.cells] using hu
  | 2, _ => rw [c2]; simpa [Item.cells] using hu
  | 3, _ => rw [c3]; simpa [Item.cells] using hu
  | 4, _ => rw [c4]; simpa [Item.cells] using hu
  | 5, _ => rw [c5]; simpa [Item.cells] using hu
  | 6, _ => rw [c6]; simpa [Item.cells] using hu
  | 7, _ => rw [c7]; simpa [Item.cells] using hu
  | 8, _ => rw [c8]; simpa [Item.cells] using hu

theorem items_oneCell (l : List Item) : ∀ u ∈ allCells l, u.oneCell' = true := by
  intro u hu
  obtain ⟨x, _, hx⟩ := List.mem_flatMap.1 hu
  exact item_oneCell x u hx

set_option maxRecDepth 100000 in
set_option maxHeartbeats 400000 in
theorem canAdd_room (v : Value) (l : List Item) (y : Item) (w : World) (hv : ItemsAt w v l) (hr : roomB l y = true) :
    Calls Tryz.prog 164 #[v, .agg #[.int .i64 y.kind, .string y.name, .string y.host, .int .i64 y.number, .int .i64 y.size, .string y.disk, .bool y.only, .int .i64 y.lun, .string y.text]] w fun e w' => e = .returned (.bool (freeB l y)) ∧ Below w.heap.size w w' := by
  obtain ⟨hl, hsz⟩ := roomB_iff hr
  have hnot : ∀ (x : Bool) (w : World), (Op.unary .not (.bool x)).run Tryz.prog w = .ok (.bool (!x)) w := fun _ _ => rfl
  have hnew := ItAt.new w y
  have hbn := below_new w (.cells (itCells y) 83)
  have hv0 := hv.below hbn (Nat.le_refl _)
  have hs0 : (w.alloc (.cells (itCells y) 83)).heap.size = w.heap.size + 1 := by simp
  obtain ⟨a, cap, hvs⟩ := slice_of_items hv
  have hS : ∀ n, Calls Tryz.prog 177 #[v] ((w.alloc (.cells (itCells y) 83)).drewN n) fun e w' => e = .returned (.int .i64 (sizeI l)) ∧ w' = (w.alloc (.cells (itCells y) 83)).drewN n := fun n =>
    size_at v l _ (by omega) (by omega) (hv0.below (below_drewN (Below.refl _ _) n) (Nat.le_refl _))
  have h24' : ¬ (24 : Int) ≤ (l.length : Int) := by omega
  have hbig' : ¬ (400 : Int) < ((sizeI l : Nat) : Int) + (y.text.size : Int) := by omega
  have hys : ((sizeI l : Nat) : Int) + (y.text.size : Int) ≤ 400 := by omega
  unfold itCells at hS
  have HS := hide hS
  have HV := hide hv0
  have HN := hide hnew
  have HB := hide hbn
  have Hs0 := hide hs0
  clear hS hv hv0 hnew hbn hs0 hr
  subst hvs
  go_enter Tryz.func164, Tryz.ntmps164
  go_wp2
  go_quiet (first | (go_at_call 177; exact (unhide HS _).mono (fun e w1 h => ⟨h.1, _, h.2⟩)))
  generalize hW : (w.alloc (.cells #[.int .i64 y.kind, .string y.name, .string y.host, .int .i64 y.number, .int .i64 y.size, .string y.disk, .bool y.only, .int .i64 y.lun, .string y.text] 83)) = w0 at *
  have e0 : w.alloc (.cells (itCells y) 83) = w0 := hW
  rw [e0] at HV HN HB Hs0
  clear hW e0 HS
  have hlt : w.heap.size < w0.heap.size := by have := unhide Hs0; omega
  clear Hs0
  have hv1 := (unhide HV).below (below_drewN (Below.refl w0.heap.size w0) nq) (Nat.le_refl _)
  have hn1 : ItAt (w0.drewN nq) w.heap.size 0 y := ⟨(unhide HN).c0, (unhide HN).c1, (unhide HN).c2, (unhide HN).c3, (unhide HN).c4, (unhide HN).c5, (unhide HN).c6, (unhide HN).c7, (unhide HN).c8⟩
  obtain ⟨b0, b1, b2, b3, b4, b5, b6, b7, b8⟩ := (unhide HN).zero
  have hh := has_at (.slice a l.length cap) l y.key (w0.drewN nq) (by omega) hv1
  have hb0 : Below w.heap.size w (w0.drewN nq) := below_drewN (unhide HB) nq
  have hsz0 : (w0.drewN nq).heap.size = w0.heap.size := rfl
  have Hsz0 := hide hsz0
  clear HB HN HV hsz0
  cases hk : l.any (keyIs y.key) with
  | true =>
    have hfr : freeB l y = false := by simp [freeB, hk]
    rw [hk] at hh
    have Hfr := hide hfr
    have Hh := hide hh
    clear hh hk hfr
    go_wp2_with fail
    refine (unhide Hh).mono ?_
    rintro e w1 ⟨rfl, hb1⟩
    have hl1 : w.heap.size < w1.heap.size := by have := hb1.size; have := unhide Hsz0; omega
    have hb01 : Below w.heap.size w w1 := hb0.trans (hb1.mono (by have := unhide Hsz0; omega))
    have hn2 := hn1.below hb1 (by have := unhide Hsz0; omega)
    have hv2 := hv1.below hb1 (Nat.le_refl _)
    clear b0 b1 b2 b3 b4 b5 b6 b7 b8
    obtain ⟨b0, b1, b2, b3, b4, b5, b6, b7, b8⟩ := hn2.zero
    go_wp2_with fail
    refine (names_any y _).mono ?_
    rintro e w2 ⟨kv, rfl, hkv, hb2⟩
    have hb02 : Below w.heap.size w w2 := hb01.trans (hb2.mono (by omega))
    clear b0 b1 b2 b3 b4 b5 b6 b7 b8
    go_wp2
    go_ret
    exact ⟨by rw [unhide Hfr]; rfl, hb02⟩
  | false =>
    have hfr : freeB l y = (namesOf y).all fun k => l.any (keyIs k) := by simp [freeB, hk]
    rw [hk] at hh
    have Hfr := hide hfr
    have Hh := hide hh
    clear hh hk hfr
    go_wp2_with fail
    refine (unhide Hh).mono ?_
    rintro e w1 ⟨rfl, hb1⟩
    have hl1 : w.heap.size < w1.heap.size := by have := hb1.size; have := unhide Hsz0; omega
    have hb01 : Below w.heap.size w w1 := hb0.trans (hb1.mono (by have := unhide Hsz0; omega))
    have hn2 := hn1.below hb1 (by have := unhide Hsz0; omega)
    have hv2 := hv1.below hb1 (Nat.le_refl _)
    clear b0 b1 b2 b3 b4 b5 b6 b7 b8
    obtain ⟨b0, b1, b2, b3, b4, b5, b6, b7, b8⟩ := hn2.zero
    go_wp2_with fail
    refine (names_any y _).mono ?_
    rintro e w2 ⟨kv, rfl, hkv, hb2⟩
    have hb02 : Below w.heap.size w w2 := hb01.trans (hb2.mono (by omega))
    have hall := hasAll_at _ l kv (namesOf y) w2 (by omega) (hv2.below hb2 (Nat.le_refl _)) _ hkv (namesOf_len y)
    have Ha := hide hall
    clear hall b0 b1 b2 b3 b4 b5 b6 b7 b8
    go_wp2_with fail
    refine (unhide Ha).mono ?_
    rintro e w3 ⟨rfl, hb3⟩
    go_wp2
    go_ret
    exact ⟨by rw [unhide Hfr]; rfl, hb02.trans (hb3.mono (by have := hb2.size; omega))⟩

theorem canAdd_at (v : Value) (l : List Item) (y : Item) (w : World) (hl : l.length ≤ 24) (hsz : sizeI l ≤ 1000000) (hy : y.text.size ≤ 1000000) (hv : ItemsAt w v l) :
    Calls Tryz.prog 164 #[v, .agg #[.int .i64 y.kind, .string y.name, .string y.host, .int .i64 y.number, .int .i64 y.size, .string y.disk, .bool y.only, .int .i64 y.lun, .string y.text]] w fun e w' => e = .returned (.bool (roomB l y && freeB l y)) ∧ Below w.heap.size w w' := by
  cases hr : roomB l y with
  | false => rw [Bool.false_and]; exact canAdd_full v l y w hl hsz hy hv hr
  | true => rw [Bool.true_and]; exact canAdd_room v l y w hv hr

end Go.Proofs.YtdlhgbhaeedbdabGreat

/- 'Step.fits', 'Step.After'. -/
namespace Go.Proofs.YtdlhgbhaeedbdabGreat
open Go.RowKit

/-- Can the item go? -/
def goB (l : List Item) (y : Item) : Bool := holdsB l y.text && !(namedB l y.key)
/-- What is left without it. -/
def without (l : List Item) (y : Item) : List Item := l.filter fun x => decide (¬ x.text = y.text)

theorem without_take (l : List Item) (y : Item) (k : Nat) (h : k < l.length) : without (l.take (k + 1)) y = if l[k].text = y.text then without (l.take k) y else without (l.take k) y ++ [l[k]] := by
  unfold without
  rw [List.take_succ_eq_append_getElem h, List.filter_append]
  split
  · rename_i e; simp [e]
  · rename_i e; simp [e]

theorem without_len (l : List Item) (y : Item) : (without l y).length ≤ l.length := List.length_filter_le _ _

theorem owns_mono {w : World} {base base' : Nat} {e : TypeId} {size : Nat} {v : Value} {n : Nat} {xs : List Value} (h : w.ownsRow base e size v n xs) (hb : base' ≤ base) : w.ownsRow base' e size v n xs := by
  obtain ⟨h1, h2 | ⟨g, cap, cur, e1, e2, e3⟩⟩ := h
  · exact ⟨h1, Or.inl h2⟩
  · exact ⟨h1, Or.inr ⟨g, cap, cur, e1, Nat.le_trans hb e2, e3⟩⟩

/-- Can the step be done? -/
def doB (b : Bool) (l : List Item) (y : Item) : Bool := if b then roomB l y && freeB l y else goB l y
/-- What is there behind it. -/
def doI (b : Bool) (l : List Item) (y : Item) : List Item := if b then without l y ++ [y] else without l y

theorem StAt.new (w : World) (b : Bool) (y : Item) : StAt (w.alloc (.cells #[.bool b, .int .i64 y.kind, .string y.name, .string y.host, .int .i64 y.number, .int .i64 y.size, .string y.disk, .bool y.only, .int .i64 y.lun, .string y.text] 157)) w.heap.size 0 (b, y) := by
  constructor <;> go_simp

theorem StAt.zero {w : World} {g : Nat} {p : Bool × Item} (h : StAt w g 0 p) : w.cell? ⟨g, 0, none⟩ = some (.bool p.1) ∧ w.cell? ⟨g, 1, none⟩ = some (.int .i64 p.2.kind) ∧ w.cell? ⟨g, 2, none⟩ = some (.string p.2.name) ∧ w.cell? ⟨g, 3, none⟩ = some (.string p.2.host) ∧ w.cell? ⟨g, 4, none⟩ = some (.int .i64 p.2.number) ∧
    w.cell? ⟨g, 5, none⟩ = some (.int .i64 p.2.size) ∧ w.cell? ⟨g, 6, none⟩ = some (.string p.2.disk) ∧ w.cell? ⟨g, 7, none⟩ = some (.bool p.2.only) ∧ w.cell? ⟨g, 8, none⟩ = some (.int .i64 p.2.lun) ∧ w.cell? ⟨g, 9, none⟩ = some (.string p.2.text) := by
  obtain ⟨c0, c1, c2, c3, c4, c5, c6, c7, c8, c9⟩ := h
  simp only [Nat.zero_add] at c1 c2 c3 c4 c5 c6 c7 c8 c9
  exact ⟨c0, c1, c2, c3, c4, c5, c6, c7, c8, c9⟩

set_option maxRecDepth 100000 in
set_option maxHeartbeats 400000 in
theorem fits_at (b : Bool) (v : Value) (l : List Item) (y : Item) (w : World) (hl : l.length ≤ 24) (hsz : sizeI l ≤ 1000000) (hy : y.text.size ≤ 1000000) (hv : ItemsAt w v l) :
    Calls Tryz.prog 130 #[.agg #[.bool b, .int .i64 y.kind, .string y.name, .string y.host, .int .i64 y.number, .int .i64 y.size, .string y.disk, .bool y.only, .int .i64 y.lun, .string y.text], v] w fun e w' => e = .returned (.bool (doB b l y)) ∧ Below w.heap.size w w' := by
  have hnot : ∀ (x : Bool) (w : World), (Op.unary .not (.bool x)).run Tryz.prog w = .ok (.bool (!x)) w := fun _ _ => rfl
  have hbn := below_new w (.cells #[.bool b, .int .i64 y.kind, .string y.name, .string y.host, .int .i64 y.number, .int .i64 y.size, .string y.disk, .bool y.only, .int .i64 y.lun, .string y.text] 157)
  have hv0 := hv.below hbn (Nat.le_refl _)
  have hle : w.heap.size < (w.alloc (.cells #[.bool b, .int .i64 y.kind, .string y.name, .string y.host, .int .i64 y.number, .int .i64 y.size, .string y.disk, .bool y.only, .int .i64 y.lun, .string y.text] 157)).heap.size := by simp
  have hn0 := StAt.new w b y
  cases b with
  | true =>
    have hc := canAdd_at v l y _ hl hsz hy hv0
    have Hc := hide hc
    clear hc hn0
    unfold doB
    rw [if_pos rfl]
    go_enter Tryz.func130, Tryz.ntmps130
    go_wp2_with fail
    refine (unhide Hc).mono ?_
    rintro e w1 ⟨rfl, hb1⟩
    go_wp2
    go_ret
    exact ⟨rfl, hbn.trans (hb1.mono (Nat.le_of_lt hle))⟩
  | false =>
    have hh := holds_at v l y _ hl hv0
    unfold doB goB
    rw [if_neg (by simp)]
    cases hk : holdsB l y.text with
    | false =>
      rw [hk] at hh
      rw [Bool.false_and]
      have Hh := hide hh
      clear hh hn0
      go_enter Tryz.func130, Tryz.ntmps130
      go_wp2_with fail
      refine (unhide Hh).mono ?_
      rintro e w1 ⟨rfl, hb1⟩
      go_wp2
      go_ret
      exact ⟨rfl, hbn.trans (hb1.mono (Nat.le_of_lt hle))⟩
    | true =>
      rw [hk] at hh
      rw [Bool.true_and]
      have Hh := hide hh
      clear hh
      go_enter Tryz.func130, Tryz.ntmps130
      go_wp2_with fail
      refine (unhide Hh).mono ?_
      rintro e w1 ⟨rfl, hb1⟩
      have hv1 := hv0.below hb1 (Nat.le_refl _)
      obtain ⟨b0, b1, b2, b3, b4, b5, b6, b7, b8, b9⟩ := (hn0.below hb1 hle).zero
      have hq := named_at _ l y.key w1 hl hv1
      have Hq := hide hq
      clear hq
      go_wp2_with fail
      refine (unhide Hq).mono ?_
      rintro e w2 ⟨rfl, hb2⟩
      go_wp2
      go_ret
      exact ⟨rfl, (hbn.trans (hb1.mono (Nat.le_of_lt hle))).trans (hb2.mono (by have := hb1.size; omega))⟩

set_option maxRecDepth 100000 in
set_option maxHeartbeats 400000 in
theorem after_at (b : Bool) (v : Value) (l : List Item) (y : Item) (w : World) (hl : l.length ≤ 24) (hv : ItemsAt w v l) :
    Calls Tryz.prog 131 #[.agg #[.bool b, .int .i64 y.kind, .string y.name, .string y.host, .int .i64 y.number, .int .i64 y.size, .string y.disk, .bool y.only, .int .i64 y.lun, .string y.text], v] w fun e w' => ∃ v', e = .returned v' ∧ w'.ownsRow w.heap.size 83 9 v' (doI b l y).length (allCells (doI b l y)) ∧ Below w.heap.size w w' := by
  have hnot : ∀ (x : Bool) (w : World), (Op.unary .not (.bool x)).run Tryz.prog w = .ok (.bool (!x)) w := fun _ _ => rfl
  have hbn := below_new w (.cells #[.bool b, .int .i64 y.kind, .string y.name, .string y.host, .int .i64 y.number, .int .i64 y.size, .string y.disk, .bool y.only, .int .i64 y.lun, .string y.text] 157)
  have hn0 := StAt.new w b y
  have hlw : w.heap.size < (w.alloc (.cells #[.bool b, .int .i64 y.kind, .string y.name, .string y.host, .int .i64 y.number, .int .i64 y.size, .string y.disk, .bool y.only, .int .i64 y.lun, .string y.text] 157)).heap.size := by simp
  obtain ⟨i0, hi, hz0, hz1, hz2⟩ := info_parts Tryz.infoItem
  obtain ⟨a, cap, hvs⟩ := slice_of_items hv
  subst hvs
  go_enter Tryz.func131, Tryz.ntmps131
  go_wp2
  generalize hW : w.alloc (.cells #[.bool b, .int .i64 y.kind, .string y.name, .string y.host, .int .i64 y.number, .int .i64 y.size, .string y.disk, .bool y.only, .int .i64 y.lun, .string y.text] 157) = w0 at *
  clear hW
  go_loopw [5, 6] (fun tv i wr => ∃ k : Nat, k ≤ l.length ∧ i = .int .i64 k ∧ wr.ownsRow (w.heap.size + 1) 83 9 tv (without (l.take k) y).length (allCells (without (l.take k) y)) ∧ Below w.heap.size w wr ∧ Below (w.heap.size + 1) w0 wr) (fun _ i _ => l.length - (intOf i).toNat)
  case atStart => exact ⟨0, Nat.zero_le _, rfl, World.ownsRow_nil _ _ _ _, hbn, Below.refl _ _⟩
  case round =>
    obtain ⟨k, hk, rfl, hown, hbe, hbe2⟩ := hrel
    obtain ⟨ta, tc, rfl⟩ := slice_of_owns hown
    have hsz := hbe.size
    have hsz2 := hbe2.size
    have hn1 := hn0.below hbe2 (by omega)
    by_cases hltk : k < l.length
    · obtain ⟨x, hx⟩ : ∃ x, x = l[k] := ⟨_, rfl⟩
      have hv1 := hv.below hbe (Nat.le_refl _)
      rcases hv1 with ⟨_, h0⟩ | ⟨g, cap', ev, _, hit⟩
      · rw [h0] at hltk; simp at hltk
      cases ev
      have hix := hit.2 k hltk
      rw [← hx] at hix
      obtain ⟨c0, c1, c2, c3, c4, c5, c6, c7, c8⟩ := hix
      have z7 := hn1.zero.2.2.2.2.2.2.2
      have hstep := without_take l y k hltk
      rw [← hx] at hstep
      have hwl := without_len (l.take k) y
      have hwl2 : (without (l.take k) y).length ≤ 24 := by simp at hwl; omega
      have hltk' : (k : Int) < (l.length : Int) := by omega
      clear hx hwl hit hv hn0 hn1
      by_cases he : x.text = y.text
      · rw [if_pos he] at hstep
        have Hst := hide hstep
        have he' : (x.text.toList == y.text.toList) = true := by rw [he]; simp
        clear hstep he
        go_wp2
        go_quiet (fail)
        go_wp2
        go_roundw
        case rel => exact ⟨k + 1, by omega, by go_num, by rw [unhide Hst]; exact owns_later hown (below_drewN (Below.refl _ _) _), below_drewN hbe _, below_drewN hbe2 _⟩
        case measure => simp [intOf]; omega
      · rw [if_neg he] at hstep
        have Hst := hide hstep
        have he' : (x.text.toList == y.text.toList) = false := by
          rw [beq_eq_false_iff_ne]; exact fun h => he (tl_inj h)
        clear hstep he
        generalize hM : without (l.take k) y = M at *
        clear hM
        go_wp2
        go_quiet (fail)
        have hown1 := owns_later hown (below_drewN (Below.refl wr.heap.size wr) nq)
        go_wp2_with (at_builtin; refine wpList_append_own _ rfl _ _ 70 rfl (w.heap.size + 1) 83 i0 (.agg zItem) 9 104 Tryz.underlying70 hi hz0 hz1 hz2 rfl (by decide) (.slice ta M.length tc) M.length (allCells M) ?hs ?c0 ⟨wr.heap.size, 0, none⟩ 1 1 x.cells.toList ?hx ?hl ?c1 (item_oneCell _) ?c3 ?c4 ?c5 ?_)
        case hs => rfl
        case c0 => exact hown1.alloc _
        case hx => rfl
        case hl => rfl
        case c1 => exact cells_new _ _ _ _ rfl
        case c3 => unfold maxLen; omega
        case c4 => omega
        case c5 => simp; omega
        intro v' w3 hown3 hgrow _
        have hbe3 := ((below_drewN hbe nq).alloc (by simp; omega) _).grown hgrow (by simp; omega) (fun k e => by have := (hown.lt k e).1; omega)
        have hbe4 := ((below_drewN hbe2 nq).alloc (by simp; omega) _).grown hgrow (by simp; omega) (fun k e => (hown.lt k e).1)
        clear hgrow c0 c1 c2 c3 c4 c5 c6 c7 c8
        go_wp2
        go_roundw
        case rel => exact ⟨k + 1, by omega, by go_num, by rw [unhide Hst, allCells_snoc, List.length_append]; exact hown3, hbe3, hbe4⟩
        case measure => simp [intOf]; omega
    · have hall : l.take k = l := List.take_of_length_le (by omega)
      rw [hall] at hown
      rw [hall]
      have hwl := without_len l y
      obtain ⟨b0, b1, b2, b3, b4, b5, b6, b7, b8, b9⟩ := hn1.zero
      clear hn0 hn1 hv hall
      have hd : doI b l y = if b then without l y ++ [y] else without l y := rfl
      have Hd := hide hd
      clear hd
      generalize without l y = M at *
      cases b with
      | false =>
        clear b1 b2 b3 b4 b5 b6 b7
        go_wp2
        go_ret
        exact ⟨_, rfl, by rw [unhide Hd]; exact owns_mono hown (by omega), hbe⟩
      | true =>
        go_wp2_with (at_builtin; refine wpList_append_own _ rfl _ _ 70 rfl (w.heap.size + 1) 83 i0 (.agg zItem) 9 104 Tryz.underlying70 hi hz0 hz1 hz2 rfl (by decide) (.slice ta M.length tc) M.length (allCells M) ?hs ?c0 ⟨wr.heap.size, 0, none⟩ 1 1 y.cells.toList ?hx ?hl ?c1 (item_oneCell _) ?c3 ?c4 ?c5 ?_)
        case c0 => exact hown.alloc _
        case hl => rfl
        case c1 => intro j u h; simpa [Item.cells] using h
        case c3 => unfold maxLen; omega
        case c4 => omega
        intro v' w3 hown3 hgrow _
        have hbe3 := (hbe.alloc (by omega) _).grown hgrow (by simp; omega) (fun k e => by have := (hown.lt k e).1; omega)
        clear hgrow b0 b1 b2 b3 b4 b5 b6 b7 b8 b9
        go_wp2
        go_ret
        exact ⟨_, rfl, by rw [unhide Hd]; simp only [if_true]; rw [allCells_snoc, List.length_append]; exact owns_mono hown3 (by omega), hbe3⟩

end Go.Proofs.YtdlhgbhaeedbdabGreat
