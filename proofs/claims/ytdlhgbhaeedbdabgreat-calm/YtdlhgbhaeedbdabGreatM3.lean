/- Keys, Has, Names, Find. -/
import Derived.Test.YtdlhgbhaeedbdabGreatM2

/- Keys: 'same', 'less'. -/
namespace Go.Proofs.YtdlhgbhaeedbdabGreat
open Go.RowKit

/-- The program's key. -/
structure Key where
  kind : Int
  name : ByteArray
  host : ByteArray
  number : Int

def Key.cells (k : Key) : Array Value := #[.int .i64 k.kind, .string k.name, .string k.host, .int .i64 k.number]

theorem tl_inj {a b : ByteArray} (h : a.toList = b.toList) : a = b := by
  rw [ByteArray.toList_eq, ByteArray.toList_eq] at h
  cases a; cases b; exact congrArg ByteArray.mk (Array.toList_inj.1 h)
theorem tl_ne {a b : ByteArray} (h : ¬ a.toList = b.toList) : ¬ a = b := fun e => h (by rw [e])

/-- Does a key stand ahead of another? -/
def lessK (k1 : Int) (n1 h1 : ByteArray) (m1 : Int) (k2 : Int) (n2 h2 : ByteArray) (m2 : Int) : Bool :=
  if k1 ≠ k2 then decide (k1 < k2) else if n1 ≠ n2 then Op.bytesLess n1.toList n2.toList else if h1 ≠ h2 then Op.bytesLess h1.toList h2.toList else decide (m1 < m2)

set_option maxHeartbeats 400000 in
theorem same_any (k1 : Int) (n1 h1 : ByteArray) (m1 : Int) (k2 : Int) (n2 h2 : ByteArray) (m2 : Int) (w : World) :
    Calls Tryz.prog 60 #[.agg #[.int .i64 k1, .string n1, .string h1, .int .i64 m1], .agg #[.int .i64 k2, .string n2, .string h2, .int .i64 m2]] w fun e w' => e = .returned (.bool (decide (k1 = k2 ∧ n1 = n2 ∧ h1 = h2 ∧ m1 = m2))) ∧ Below w.heap.size w w' := by
  have hB : ∀ o1 o2, Below w.heap.size w ((w.alloc o1).alloc o2) := fun o1 o2 => ((Below.refl _ _).alloc (Nat.le_refl _) o1).alloc (by simp) o2
  go_enter Tryz.func60, Tryz.ntmps60
  go_wp2
  · go_ret
    refine ⟨?_, hB _ _⟩
    rename_i e1 e2 e3
    simp [e1, tl_inj e2, tl_inj e3, Bool.beq_eq_decide_eq]
  · go_ret
    refine ⟨?_, hB _ _⟩
    rename_i e1 e2 e3
    simp [tl_ne e3]
  · go_ret
    refine ⟨?_, hB _ _⟩
    rename_i e1 e2
    simp [tl_ne e2]
  · go_ret
    refine ⟨?_, hB _ _⟩
    rename_i e1
    simp [e1]

theorem lk1 {k1 : Int} {n1 h1 : ByteArray} {m1 : Int} {k2 : Int} {n2 h2 : ByteArray} {m2 : Int} (a : (k1 != k2) = true) : decide (k1 < k2) = lessK k1 n1 h1 m1 k2 n2 h2 m2 := by
  simp at a; simp [lessK, a]
theorem lk2 {k1 : Int} {n1 h1 : ByteArray} {m1 : Int} {k2 : Int} {n2 h2 : ByteArray} {m2 : Int} (a : (k1 != k2) = false) (b : (!n1.toList == n2.toList) = true) : Op.bytesLess n1.toList n2.toList = lessK k1 n1 h1 m1 k2 n2 h2 m2 := by
  simp at a b; simp [lessK, a, tl_ne b]
theorem lk3 {k1 : Int} {n1 h1 : ByteArray} {m1 : Int} {k2 : Int} {n2 h2 : ByteArray} {m2 : Int} (a : (k1 != k2) = false) (b : (!n1.toList == n2.toList) = false) (c : (!h1.toList == h2.toList) = true) : Op.bytesLess h1.toList h2.toList = lessK k1 n1 h1 m1 k2 n2 h2 m2 := by
  simp at a b c; simp [lessK, a, tl_inj b, tl_ne c]
theorem lk4 {k1 : Int} {n1 h1 : ByteArray} {m1 : Int} {k2 : Int} {n2 h2 : ByteArray} {m2 : Int} (a : (k1 != k2) = false) (b : (!n1.toList == n2.toList) = false) (c : (!h1.toList == h2.toList) = false) : decide (m1 < m2) = lessK k1 n1 h1 m1 k2 n2 h2 m2 := by
  simp at a b c; simp [lessK, a, tl_inj b, tl_inj c]
theorem ret_bool {a b : Bool} (h : a = b) : Ending.returned (.bool a) = .returned (.bool b) := by rw [h]

set_option maxHeartbeats 400000 in
theorem less_any (k1 : Int) (n1 h1 : ByteArray) (m1 : Int) (k2 : Int) (n2 h2 : ByteArray) (m2 : Int) (w : World) :
    Calls Tryz.prog 105 #[.agg #[.int .i64 k1, .string n1, .string h1, .int .i64 m1], .agg #[.int .i64 k2, .string n2, .string h2, .int .i64 m2]] w fun e w' => e = .returned (.bool (lessK k1 n1 h1 m1 k2 n2 h2 m2)) ∧ Below w.heap.size w w' := by
  have hB : ∀ o1 o2, Below w.heap.size w ((w.alloc o1).alloc o2) := fun o1 o2 => ((Below.refl _ _).alloc (Nat.le_refl _) o1).alloc (by simp) o2
  go_enter Tryz.func105, Tryz.ntmps105
  go_wp2
  · go_ret
    exact ⟨ret_bool (lk1 ‹_›), hB _ _⟩
  · go_ret
    exact ⟨ret_bool (lk2 ‹_› ‹_›), hB _ _⟩
  · go_ret
    exact ⟨ret_bool (lk3 ‹_› ‹_› ‹_›), hB _ _⟩
  · go_ret
    exact ⟨ret_bool (lk4 ‹_› ‹_› ‹_›), hB _ _⟩

end Go.Proofs.YtdlhgbhaeedbdabGreat

/- 'Find', 'Has'. -/
namespace Go.Proofs.YtdlhgbhaeedbdabGreat
open Go.RowKit

/-- The item x lies in block g from offset o on. -/
structure ItAt (w : World) (g o : Nat) (x : Item) : Prop where
  c0 : w.cell? ⟨g, o, none⟩ = some (.int .i64 x.kind)
  c1 : w.cell? ⟨g, o + 1, none⟩ = some (.string x.name)
  c2 : w.cell? ⟨g, o + 2, none⟩ = some (.string x.host)
  c3 : w.cell? ⟨g, o + 3, none⟩ = some (.int .i64 x.number)
  c4 : w.cell? ⟨g, o + 4, none⟩ = some (.int .i64 x.size)
  c5 : w.cell? ⟨g, o + 5, none⟩ = some (.string x.disk)
  c6 : w.cell? ⟨g, o + 6, none⟩ = some (.bool x.only)
  c7 : w.cell? ⟨g, o + 7, none⟩ = some (.int .i64 x.lun)
  c8 : w.cell? ⟨g, o + 8, none⟩ = some (.string x.text)

/-- The items l lie in block g, one behind the other. -/
def ItemsIn (w : World) (g : Nat) (l : List Item) : Prop := g < w.heap.size ∧ ∀ i (h : i < l.length), ItAt w g (i * 9) l[i]

theorem ItAt.below {B : Nat} {w w' : World} {g o : Nat} {x : Item} (h : ItAt w g o x) (hb : Below B w w') (hg : g < B) : ItAt w' g o x :=
  ⟨(hb.cell (p := ⟨g, o, none⟩) hg).trans h.c0, (hb.cell (p := ⟨g, o + 1, none⟩) hg).trans h.c1, (hb.cell (p := ⟨g, o + 2, none⟩) hg).trans h.c2, (hb.cell (p := ⟨g, o + 3, none⟩) hg).trans h.c3,
   (hb.cell (p := ⟨g, o + 4, none⟩) hg).trans h.c4, (hb.cell (p := ⟨g, o + 5, none⟩) hg).trans h.c5, (hb.cell (p := ⟨g, o + 6, none⟩) hg).trans h.c6, (hb.cell (p := ⟨g, o + 7, none⟩) hg).trans h.c7, (hb.cell (p := ⟨g, o + 8, none⟩) hg).trans h.c8⟩

theorem ItemsIn.below {B : Nat} {w w' : World} {g : Nat} {l : List Item} (h : ItemsIn w g l) (hb : Below B w w') (hg : g < B) : ItemsIn w' g l :=
  ⟨Nat.lt_of_lt_of_le h.1 hb.size, fun i hi => (h.2 i hi).below hb hg⟩

/-- Is this the item's key? -/
def keyP (k2 : Int) (n2 h2 : ByteArray) (m2 : Int) (x : Item) : Bool := decide ((x.kind : Int) = k2 ∧ x.name = n2 ∧ x.host = h2 ∧ x.number = m2)

theorem find_hit {l : List Item} {p : Item → Bool} {k n : Nat} (hk : k < n) (hn : n ≤ l.length) (hno : (l.take k).any p = false) (hx : p (l[k]'(by omega)) = true) : (l.take n).find? p = some (l[k]'(by omega)) := by
  have e : l.take n = l.take k ++ (l.take n).drop k := by
    have := (List.take_append_drop k (l.take n)).symm
    rwa [List.take_take, Nat.min_eq_left (by omega)] at this
  have e2 : (l.take n).drop k = l[k]'(by omega) :: (l.take n).drop (k + 1) := by
    rw [List.drop_eq_getElem_cons (by simp; omega)]
    simp
  have h0 : (l.take k).find? p = none := by
    rw [List.find?_eq_none]
    intro y hy hp
    rw [List.any_eq_false] at hno
    exact hno y hy hp
  rw [e, List.find?_append, h0, e2, List.find?_cons, hx]
  rfl

theorem find_miss {l : List Item} {p : Item → Bool} (hno : l.any p = false) : l.find? p = none := by
  rw [List.find?_eq_none]
  intro y hy hp
  rw [List.any_eq_false] at hno
  exact hno y hy hp

/-- What Find tells. -/
def findV (l : List Item) (p : Item → Bool) : Value := .tuple #[.agg ((l.find? p).getD noItem).cells, .bool (l.any p)]

theorem findV_hit {l : List Item} {p : Item → Bool} {x : Item} (h : l.find? p = some x) : findV l p = .tuple #[.agg x.cells, .bool true] := by
  unfold findV
  rw [h, show l.any p = true from by rw [List.any_eq_true]; exact ⟨x, List.mem_of_find?_eq_some h, List.find?_some h⟩]
  rfl

theorem findV_miss {l : List Item} {p : Item → Bool} (h : l.any p = false) : findV l p = .tuple #[.agg zItem, .bool false] := by
  unfold findV
  rw [find_miss h, h]
  rfl

theorem below_set9 {B : Nat} {a w : World} (h : Below B a w) {g : Nat} (hg : B ≤ g) (o : Nat) (u0 u1 u2 u3 u4 u5 u6 u7 u8 : Value) :
    Below B a (((((((((w.setCell ⟨g, o, none⟩ u0).setCell ⟨g, o + 1, none⟩ u1).setCell ⟨g, o + 2, none⟩ u2).setCell ⟨g, o + 3, none⟩ u3).setCell ⟨g, o + 4, none⟩ u4).setCell ⟨g, o + 5, none⟩ u5).setCell ⟨g, o + 6, none⟩ u6).setCell ⟨g, o + 7, none⟩ u7).setCell ⟨g, o + 8, none⟩ u8) :=
  (((((((((h.setCell (p := ⟨g, o, none⟩) hg u0).setCell (p := ⟨g, o + 1, none⟩) hg u1).setCell (p := ⟨g, o + 2, none⟩) hg u2).setCell (p := ⟨g, o + 3, none⟩) hg u3).setCell (p := ⟨g, o + 4, none⟩) hg u4).setCell (p := ⟨g, o + 5, none⟩) hg u5).setCell (p := ⟨g, o + 6, none⟩) hg u6).setCell (p := ⟨g, o + 7, none⟩) hg u7).setCell (p := ⟨g, o + 8, none⟩) hg u8)

/-- What Find lays first. -/
def findW (w : World) (k2 : Int) (n2 h2 : ByteArray) (m2 : Int) : World := (w.alloc (.cells #[.int .i64 k2, .string n2, .string h2, .int .i64 m2] 81)).alloc (.cells #[.int .i64 0, .string ⟨#[]⟩, .string ⟨#[]⟩, .int .i64 0, .int .i64 0, .string ⟨#[]⟩, .bool false, .int .i64 0, .string ⟨#[]⟩] 83)

theorem findW_facts (w : World) (k2 : Int) (n2 h2 : ByteArray) (m2 : Int) :
    Below w.heap.size w (findW w k2 n2 h2 m2) ∧ (findW w k2 n2 h2 m2).heap.size = w.heap.size + 2 ∧ (findW w k2 n2 h2 m2).heap[w.heap.size + 1]? = some (.cells zItem 83 (0, 0)) ∧
    (findW w k2 n2 h2 m2).cell? ⟨w.heap.size, 0, none⟩ = some (.int .i64 k2) ∧ (findW w k2 n2 h2 m2).cell? ⟨w.heap.size, 1, none⟩ = some (.string n2) ∧ (findW w k2 n2 h2 m2).cell? ⟨w.heap.size, 2, none⟩ = some (.string h2) ∧ (findW w k2 n2 h2 m2).cell? ⟨w.heap.size, 3, none⟩ = some (.int .i64 m2) := by
  refine ⟨((Below.refl _ _).alloc (Nat.le_refl _) _).alloc (by simp) _, by simp [findW], ?_, by unfold findW; go_simp, by unfold findW; go_simp, by unfold findW; go_simp, by unfold findW; go_simp⟩
  have := heap_alloc_new (w.alloc (.cells #[.int .i64 k2, .string n2, .string h2, .int .i64 m2] 81)) (.cells zItem 83)
  rw [show (w.alloc (.cells #[.int .i64 k2, .string n2, .string h2, .int .i64 m2] 81)).heap.size = w.heap.size + 1 from by simp] at this
  exact this

set_option maxRecDepth 100000 in
set_option maxHeartbeats 400000 in
theorem find_in (g n cap : Nat) (l : List Item) (k2 : Int) (n2 h2 : ByteArray) (m2 : Int) (w : World) (hl : l.length ≤ 24) (hn : n ≤ l.length) (hit : ItemsIn w g l) :
    Calls Tryz.prog 28 #[.slice (some ⟨g, 0, none⟩) n cap, .agg #[.int .i64 k2, .string n2, .string h2, .int .i64 m2]] w fun e w' =>
      e = .returned (findV (l.take n) (keyP k2 n2 h2 m2)) ∧ Below w.heap.size w w' := by
  have hg := hit.1
  obtain ⟨f1, f2, f3, f4, f5, f6, f7⟩ := findW_facts w k2 n2 h2 m2
  have hit0 := hit.below f1 hg
  go_enter Tryz.func28, Tryz.ntmps28
  go_wp2
  generalize hW : findW w k2 n2 h2 m2 = W0 at *
  unfold findW at hW
  rw [hW]
  clear hW hit
  go_loopw [6] (fun i wr => ∃ k : Nat, k ≤ n ∧ i = .int .i64 k ∧ (l.take k).any (keyP k2 n2 h2 m2) = false ∧ Below (w.heap.size + 2) W0 wr) (fun i _ => n - (intOf i).toNat)
  case atStart => exact ⟨0, Nat.zero_le _, rfl, by simp, Below.refl _ _⟩
  case round =>
    obtain ⟨k, hk, rfl, hno, hbe⟩ := hrel
    have Hno := hide hno
    clear hno
    have b0 := (hbe.cell (p := ⟨w.heap.size, 0, none⟩) (by simp)).trans f4
    have b1 := (hbe.cell (p := ⟨w.heap.size, 1, none⟩) (by simp)).trans f5
    have b2 := (hbe.cell (p := ⟨w.heap.size, 2, none⟩) (by simp)).trans f6
    have b3 := (hbe.cell (p := ⟨w.heap.size, 3, none⟩) (by simp)).trans f7
    have hz := (hbe.block (w.heap.size + 1) (by omega)).trans f3
    have hsz : w.heap.size + 2 ≤ wr.heap.size := by have := hbe.size; omega
    by_cases hlt : k < n
    · have hi2 := (hit0.2 k (by omega)).below hbe (by omega)
      obtain ⟨x, hx⟩ : ∃ x, x = l[k] := ⟨_, rfl⟩
      rw [← hx] at hi2
      have Hi := hide hi2
      obtain ⟨c0, c1, c2, c3, c4, c5, c6, c7, c8⟩ := hi2
      have hlt' : (k : Int) < (n : Int) := by omega
      have Hx : Hid (x = l[k]) := hx
      clear hx
      cases hd : decide ((x.kind : Int) = k2 ∧ x.name = n2 ∧ x.host = h2 ∧ x.number = m2) with
      | true =>
        have hsame : ∀ wx, Calls Tryz.prog 60 #[.agg #[.int .i64 x.kind, .string x.name, .string x.host, .int .i64 x.number], .agg #[.int .i64 k2, .string n2, .string h2, .int .i64 m2]] wx fun e w' => e = .returned (.bool true) ∧ Below wx.heap.size wx w' := by
          intro wx; have := same_any x.kind x.name x.host x.number k2 n2 h2 m2 wx; rw [hd] at this; exact this
        have hfin : findV (l.take n) (keyP k2 n2 h2 m2) = .tuple #[.agg x.cells, .bool true] := findV_hit (by rw [find_hit hlt hn (unhide Hno) (by rw [← unhide Hx]; exact hd), ← unhide Hx])
        have Hf := hide hfin
        clear hfin hd
        have Hs := hide hsame
        clear hsame
        go_wp2
        go_region_with (go_at_call 60; refine (unhide Hs _).mono ?_; rintro e w1 ⟨rfl, hb1⟩)
        all_goals
          have hb2 : Below wr.heap.size wr w1 := (Below.refl wr.heap.size wr).drew.trans hb1
          clear c0 c1 c2 c3 c4 c5 c6 c7 c8 b0 b1 b2 b3
          obtain ⟨c0, c1, c2, c3, c4, c5, c6, c7, c8⟩ := (unhide Hi).below hb2 (by omega)
          obtain ⟨z0, z1, z2, z3, z4, z5, z6, z7, z8, y0, y1, y2, y3, y4, y5, y6, y7, y8⟩ := Cells9.of_block ((hb2.block (w.heap.size + 1) (by omega)).trans hz)
          have HB := hide ((f1.trans (hbe.mono (by omega))).trans (hb2.mono (by omega : w.heap.size ≤ _)))
          clear hb1 hb2 hbe
          go_wp2
          rw [unhide Hf]
          refine bodyPost_ret (v := .tuple #[.agg x.cells, .bool true]) (by simp [results, Tryz.results28, go_sem, z0, z1, z2, z3, z4, z5, z6, z7, z8, Item.cells]) rfl ⟨rfl, ?_⟩
          exact below_set9 (unhide HB) (by omega) 0 _ _ _ _ _ _ _ _ _
      | false =>
        have hsame : ∀ wx, Calls Tryz.prog 60 #[.agg #[.int .i64 x.kind, .string x.name, .string x.host, .int .i64 x.number], .agg #[.int .i64 k2, .string n2, .string h2, .int .i64 m2]] wx fun e w' => e = .returned (.bool false) ∧ Below wx.heap.size wx w' := by
          intro wx; have := same_any x.kind x.name x.host x.number k2 n2 h2 m2 wx; rw [hd] at this; exact this
        have hstep : (l.take (k + 1)).any (keyP k2 n2 h2 m2) = false := by
          rw [List.take_succ_eq_append_getElem (by omega), List.any_append, Hno.out, ← Hx.out]
          simpa [keyP] using hd
        have Hf := hide hstep
        clear hstep hd
        have Hs := hide hsame
        clear hsame
        go_wp2
        go_region_with (go_at_call 60; refine (unhide Hs _).mono ?_; rintro e w1 ⟨rfl, hb1⟩)
        all_goals
          go_wp2
          go_roundw
          case rel => exact ⟨k + 1, by omega, by go_num, Hf.out, hbe.drew.trans (hb1.mono (by simp; omega))⟩
          case measure => simp [intOf]; omega
    · have : k = n := by omega
      subst this
      have Hf := hide (findV_miss (unhide Hno))
      obtain ⟨z0, z1, z2, z3, z4, z5, z6, z7, z8, y0, y1, y2, y3, y4, y5, y6, y7, y8⟩ := Cells9.of_block hz
      have HB := hide (f1.trans (hbe.mono (by omega)))
      clear hbe
      go_wp2
      rw [unhide Hf]
      refine bodyPost_ret (v := .tuple #[.agg zItem, .bool false]) (by simp [results, Tryz.results28, go_sem, z0, z1, z2, z3, z4, z5, z6, z7, z8, zItem]) rfl ⟨rfl, ?_⟩
      exact below_set9 (unhide HB) (by omega) 0 _ _ _ _ _ _ _ _ _

set_option maxHeartbeats 400000 in
theorem find_nil (k2 : Int) (n2 h2 : ByteArray) (m2 : Int) (w : World) :
    Calls Tryz.prog 28 #[.slice none 0 0, .agg #[.int .i64 k2, .string n2, .string h2, .int .i64 m2]] w fun e w' => e = .returned (.tuple #[.agg zItem, .bool false]) ∧ Below w.heap.size w w' := by
  obtain ⟨f1, f2, f3, f4, f5, f6, f7⟩ := findW_facts w k2 n2 h2 m2
  go_enter Tryz.func28, Tryz.ntmps28
  go_wp2
  generalize hW : findW w k2 n2 h2 m2 = W0 at *
  unfold findW at hW
  rw [hW]
  clear hW
  refine wp_loop_rounds 1 ?_
  rw [rounds_succ]
  obtain ⟨z0, z1, z2, z3, z4, z5, z6, z7, z8, y0, y1, y2, y3, y4, y5, y6, y7, y8⟩ := Cells9.of_block f3
  go_wp2
  refine bodyPost_ret (v := .tuple #[.agg zItem, .bool false]) (by simp [results, Tryz.results28, go_sem, z0, z1, z2, z3, z4, z5, z6, z7, z8, zItem]) rfl ⟨rfl, ?_⟩
  exact below_set9 f1 (by omega) 0 _ _ _ _ _ _ _ _ _

set_option maxHeartbeats 400000 in
/-- 'Has', from what Find tells. -/
theorem has_of (v : Value) (k2 : Int) (n2 h2 : ByteArray) (m2 : Int) (x : Item) (b : Bool) (w : World)
    (hf : ∀ wx, Below w.heap.size w wx → Calls Tryz.prog 28 #[v, .agg #[.int .i64 k2, .string n2, .string h2, .int .i64 m2]] wx fun e w' => e = .returned (.tuple #[.agg x.cells, .bool b]) ∧ Below wx.heap.size wx w') :
    Calls Tryz.prog 133 #[v, .agg #[.int .i64 k2, .string n2, .string h2, .int .i64 m2]] w fun e w' => e = .returned (.bool b) ∧ Below w.heap.size w w' := by
  have hbn : Below w.heap.size w (w.alloc (.cells #[.int .i64 k2, .string n2, .string h2, .int .i64 m2] 81)) := (Below.refl _ _).alloc (Nat.le_refl _) _
  have HF := hide (hf _ hbn)
  have hle : w.heap.size ≤ (w.alloc (.cells #[.int .i64 k2, .string n2, .string h2, .int .i64 m2] 81)).heap.size := hbn.size
  have hd : x.cells = #[.int .i64 x.kind, .string x.name, .string x.host, .int .i64 x.number, .int .i64 x.size, .string x.disk, .bool x.only, .int .i64 x.lun, .string x.text] := rfl
  clear hf
  go_enter Tryz.func133, Tryz.ntmps133
  go_wp2_with fail
  refine (unhide HF).mono ?_
  rintro e w1 ⟨rfl, hb1⟩
  have hb2 := hbn.trans (hb1.mono hle)
  have hs2 := hb2.size
  go_wp2_with fail
  go_ret
  exact ⟨rfl, hb2.alloc hs2 _⟩

theorem has_in (g n cap : Nat) (l : List Item) (k2 : Int) (n2 h2 : ByteArray) (m2 : Int) (w : World) (hl : l.length ≤ 24) (hn : n ≤ l.length) (hit : ItemsIn w g l) :
    Calls Tryz.prog 133 #[.slice (some ⟨g, 0, none⟩) n cap, .agg #[.int .i64 k2, .string n2, .string h2, .int .i64 m2]] w fun e w' =>
      e = .returned (.bool ((l.take n).any fun x => decide ((x.kind : Int) = k2 ∧ x.name = n2 ∧ x.host = h2 ∧ x.number = m2))) ∧ Below w.heap.size w w' :=
  has_of _ k2 n2 h2 m2 (((l.take n).find? (keyP k2 n2 h2 m2)).getD noItem) ((l.take n).any (keyP k2 n2 h2 m2)) w fun wx hb => find_in g n cap l k2 n2 h2 m2 wx hl hn (hit.below hb hit.1)

end Go.Proofs.YtdlhgbhaeedbdabGreat

/- 'names': the keys of the items that an item names. -/
namespace Go.Proofs.YtdlhgbhaeedbdabGreat
open Go.RowKit

/-- The keys of what an item names. -/
def namesOf (x : Item) : List Key :=
  if x.kind = 2 then [⟨1, x.name, ⟨#[]⟩, 0⟩, ⟨0, x.disk, ⟨#[]⟩, 0⟩]
  else if x.kind = 3 then [⟨1, x.name, ⟨#[]⟩, 0⟩]
  else if x.kind = 4 then [⟨3, x.name, x.host, 0⟩, ⟨2, x.name, ⟨#[]⟩, x.lun⟩]
  else []

/-- The key y lies in block g from offset o on. -/
structure KeyAt (w : World) (g o : Nat) (y : Key) : Prop where
  c0 : w.cell? ⟨g, o, none⟩ = some (.int .i64 y.kind)
  c1 : w.cell? ⟨g, o + 1, none⟩ = some (.string y.name)
  c2 : w.cell? ⟨g, o + 2, none⟩ = some (.string y.host)
  c3 : w.cell? ⟨g, o + 3, none⟩ = some (.int .i64 y.number)

/-- v is a list of the keys l, in a block from B on. -/
def KeysAt (w : World) (B : Nat) (v : Value) (l : List Key) : Prop :=
  (v = .slice none 0 0 ∧ l = []) ∨ ∃ g cap, v = .slice (some ⟨g, 0, none⟩) l.length cap ∧ B ≤ g ∧ g < w.heap.size ∧ ∀ i (h : i < l.length), KeyAt w g (i * 4) l[i]

theorem keys_two (w : World) (o : Obj) (y z : Key) : KeysAt ((w.alloc o).alloc (.cells #[.int .i64 y.kind, .string y.name, .string y.host, .int .i64 y.number, .int .i64 z.kind, .string z.name, .string z.host, .int .i64 z.number] 81)) w.heap.size (.slice (some ⟨w.heap.size + 1, 0, none⟩) 2 2) [y, z] := by
  refine Or.inr ⟨_, _, rfl, by omega, by simp, ?_⟩
  intro i hi
  match i, hi with
  | 0, _ => constructor <;> go_simp
  | 1, _ => constructor <;> go_simp

theorem keys_one (w : World) (o : Obj) (y : Key) : KeysAt ((w.alloc o).alloc (.cells #[.int .i64 y.kind, .string y.name, .string y.host, .int .i64 y.number] 81)) w.heap.size (.slice (some ⟨w.heap.size + 1, 0, none⟩) 1 1) [y] := by
  refine Or.inr ⟨_, _, rfl, by omega, by simp, ?_⟩
  intro i hi
  match i, hi with
  | 0, _ => constructor <;> go_simp

set_option maxHeartbeats 400000 in
theorem names_any (x : Item) (w : World) :
    Calls Tryz.prog 134 #[.agg #[.int .i64 x.kind, .string x.name, .string x.host, .int .i64 x.number, .int .i64 x.size, .string x.disk, .bool x.only, .int .i64 x.lun, .string x.text]] w fun e w' =>
      ∃ v, e = .returned v ∧ KeysAt w' w.heap.size v (namesOf x) ∧ Below w.heap.size w w' := by
  have hB : ∀ o1 o2, Below w.heap.size w ((w.alloc o1).alloc o2) := fun o1 o2 => ((Below.refl _ _).alloc (Nat.le_refl _) o1).alloc (by simp) o2
  by_cases h2 : x.kind = 2
  · have hn : namesOf x = [⟨1, x.name, ⟨#[]⟩, 0⟩, ⟨0, x.disk, ⟨#[]⟩, 0⟩] := by simp [namesOf, h2]
    have t2 : ((x.kind : Int) == 2) = true := by rw [beq_iff_eq]; omega
    rw [hn]
    go_enter Tryz.func134, Tryz.ntmps134
    go_wp2
    go_ret
    exact ⟨_, rfl, keys_two w _ ⟨1, x.name, ⟨#[]⟩, 0⟩ ⟨0, x.disk, ⟨#[]⟩, 0⟩, hB _ _⟩
  · have t2 : ((x.kind : Int) == 2) = false := by rw [beq_eq_false_iff_ne]; omega
    by_cases h3 : x.kind = 3
    · have hn : namesOf x = [⟨1, x.name, ⟨#[]⟩, 0⟩] := by simp [namesOf, h3]
      have t3 : ((x.kind : Int) == 3) = true := by rw [beq_iff_eq]; omega
      rw [hn]
      clear h3 h2
      go_enter Tryz.func134, Tryz.ntmps134
      go_wp2
      go_ret
      exact ⟨_, rfl, keys_one w _ ⟨1, x.name, ⟨#[]⟩, 0⟩, hB _ _⟩
    · have t3 : ((x.kind : Int) == 3) = false := by rw [beq_eq_false_iff_ne]; omega
      by_cases h4 : x.kind = 4
      · have hn : namesOf x = [⟨3, x.name, x.host, 0⟩, ⟨2, x.name, ⟨#[]⟩, x.lun⟩] := by simp [namesOf, h4]
        have t4 : ((x.kind : Int) == 4) = true := by rw [beq_iff_eq]; omega
        rw [hn]
        clear h4 h3 h2
        go_enter Tryz.func134, Tryz.ntmps134
        go_wp2
        go_ret
        exact ⟨_, rfl, keys_two w _ ⟨3, x.name, x.host, 0⟩ ⟨2, x.name, ⟨#[]⟩, x.lun⟩, hB _ _⟩
      · have t4 : ((x.kind : Int) == 4) = false := by rw [beq_eq_false_iff_ne]; omega
        have hn : namesOf x = [] := by simp [namesOf, h2, h3, h4]
        rw [hn]
        go_enter Tryz.func134, Tryz.ntmps134
        go_wp2
        go_ret
        exact ⟨_, rfl, Or.inl ⟨rfl, rfl⟩, (Below.refl _ _).alloc (Nat.le_refl _) _⟩

end Go.Proofs.YtdlhgbhaeedbdabGreat

/- 'hasAll', 'firstTwice', 'firstLost'. -/
namespace Go.Proofs.YtdlhgbhaeedbdabGreat
open Go.RowKit

def keyIs (k : Key) (x : Item) : Bool := decide ((x.kind : Int) = k.kind ∧ x.name = k.name ∧ x.host = k.host ∧ x.number = k.number)
def Item.key (x : Item) : Key := ⟨x.kind, x.name, x.host, x.number⟩

/-- The first place below n at which p holds, or n. -/
def firstIx (p : Nat → Bool) (n : Nat) : Nat := ((List.range n).find? p).getD n

theorem firstIx_hit {p : Nat → Bool} {n k : Nat} (hk : k < n) (h : p k = true) (hno : ∀ j, j < k → p j = false) : firstIx p n = k := by
  unfold firstIx
  rw [show (List.range n).find? p = some k from by
    rw [List.find?_range_eq_some]
    exact ⟨h, by simpa using hk, fun j hj => by simp [hno j hj]⟩]
  rfl

theorem firstIx_none {p : Nat → Bool} {n : Nat} (hno : ∀ j, j < n → p j = false) : firstIx p n = n := by
  unfold firstIx
  rw [show (List.range n).find? p = none from by
    rw [List.find?_eq_none]
    intro x hx
    simp [hno x (by simpa using hx)]]
  rfl

/-- Has an earlier item the key of item i? -/
def twiceAt (l : List Item) (i : Nat) : Bool := match l[i]? with | some y => (l.take i).any (keyIs y.key) | none => false
/-- Does item i name what is not there? -/
def lostAt (l : List Item) (i : Nat) : Bool := match l[i]? with | some y => !((namesOf y).all fun k => l.any (keyIs k)) | none => false

set_option maxRecDepth 100000 in
set_option maxHeartbeats 400000 in
theorem hasAll_in (g cap : Nat) (l : List Item) (v : Value) (ks : List Key) (w : World) (hl : l.length ≤ 24) (hit : ItemsIn w g l) (B : Nat) (hks : KeysAt w B v ks) (hkl : ks.length ≤ 2) :
    Calls Tryz.prog 135 #[.slice (some ⟨g, 0, none⟩) l.length cap, v] w fun e w' => e = .returned (.bool (ks.all fun k => l.any (keyIs k))) ∧ Below w.heap.size w w' := by
  have hnot : ∀ (x : Bool) (w : World), (Op.unary .not (.bool x)).run Tryz.prog w = .ok (.bool (!x)) w := fun _ _ => rfl
  rcases hks with ⟨rfl, rfl⟩ | ⟨kg, kc, rfl, _, hkg, hk⟩
  · go_enter Tryz.func135, Tryz.ntmps135
    go_wp2
    refine wp_loop_rounds 1 ?_
    rw [rounds_succ]
    go_wp2
    go_ret
    exact ⟨rfl, Below.refl _ _⟩
  · go_enter Tryz.func135, Tryz.ntmps135
    go_wp2
    go_loopw [5] (fun i wr => ∃ k : Nat, k ≤ ks.length ∧ i = .int .i64 k ∧ ((ks.take k).all fun k => l.any (keyIs k)) = true ∧ Below w.heap.size w wr) (fun i _ => ks.length - (intOf i).toNat)
    case atStart => exact ⟨0, Nat.zero_le _, rfl, by simp, Below.refl _ _⟩
    case round =>
      obtain ⟨k, hkk, rfl, hno, hbe⟩ := hrel
      have Hno : Hid _ := hno
      clear hno
      by_cases hlt : k < ks.length
      · obtain ⟨y, hy⟩ : ∃ y, y = ks[k] := ⟨_, rfl⟩
        have hky := hk k hlt
        rw [← hy] at hky
        have c0 := (hbe.cell (p := ⟨kg, k * 4, none⟩) hkg).trans hky.c0
        have c1 := (hbe.cell (p := ⟨kg, k * 4 + 1, none⟩) hkg).trans hky.c1
        have c2 := (hbe.cell (p := ⟨kg, k * 4 + 2, none⟩) hkg).trans hky.c2
        have c3 := (hbe.cell (p := ⟨kg, k * 4 + 3, none⟩) hkg).trans hky.c3
        have hlt' : (k : Int) < (ks.length : Int) := by omega
        have hstep : ((ks.take (k + 1)).all fun k => l.any (keyIs k)) = l.any (keyIs y) := by
          rw [List.take_succ_eq_append_getElem (by omega), List.all_append, Hno.out, ← hy]; simp
        have hhas := has_in g l.length cap l y.kind y.name y.host y.number wr hl (Nat.le_refl _) (hit.below hbe hit.1)
        rw [List.take_of_length_le (Nat.le_refl _), show (l.any fun x => decide ((x.kind : Int) = y.kind ∧ x.name = y.name ∧ x.host = y.host ∧ x.number = y.number)) = l.any (keyIs y) from rfl] at hhas
        have hsz := hbe.size
        clear hy hky
        cases hd : l.any (keyIs y) with
        | true =>
          rw [hd] at hhas hstep
          have Hf : Hid _ := hstep
          have Hh := hide hhas
          clear hstep hd hhas
          go_wp2_with (go_at_call 133; refine (unhide Hh).mono ?_; rintro e w1 ⟨rfl, hb1⟩)
          go_roundw
          case rel => exact ⟨k + 1, by omega, by go_num, Hf.out, hbe.trans (hb1.mono hsz)⟩
          case measure => simp [intOf]; omega
        | false =>
          rw [hd] at hhas hstep
          have hfin : (ks.all fun k => l.any (keyIs k)) = false := by
            rw [List.all_eq_false] at hstep ⊢
            obtain ⟨z, hz, hp⟩ := hstep
            exact ⟨z, List.mem_of_mem_take hz, hp⟩
          have Hf : Hid _ := hfin
          have Hh := hide hhas
          clear hstep hd hhas hfin
          go_wp2_with (go_at_call 133; refine (unhide Hh).mono ?_; rintro e w1 ⟨rfl, hb1⟩)
          go_ret
          exact ⟨ret_bool Hf.out.symm, hbe.trans (hb1.mono hsz)⟩
      · have hfin := Hno.out
        rw [List.take_of_length_le (by omega)] at hfin
        have Hf : Hid _ := hfin
        clear hfin
        go_wp2
        go_ret
        exact ⟨ret_bool Hf.out.symm, hbe⟩

end Go.Proofs.YtdlhgbhaeedbdabGreat
