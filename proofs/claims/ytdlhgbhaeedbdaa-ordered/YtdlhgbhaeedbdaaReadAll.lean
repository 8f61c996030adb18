/- 'readAll'. -/
import Derived.Test.YtdlhgbhaeedbdaaReader9
namespace Go.Proofs.Ytdlhgbhaeedbdaa
open Go.RowKit

theorem Try.infoItem : (Try.prog.info? 99).map (fun i => (i.zero, i.size, i.bytes)) = some (some (.agg zItem), 9, 104) := by kernel_rfl

/-- The item that begins at p, with its text. -/
def itemAt (s : ByteArray) (p : Nat) : Item := itemT s (p, false)

/-- At most n items more are read, from p on, behind those of acc. -/
def rdAll (s : ByteArray) : Nat → Nat → List Item → List Item × Nat × Bool
  | 0, p, acc => if p < s.size then ([], p, false) else (acc, 0, true)
  | n + 1, p, acc => if p < s.size then (if (itemS s (p, false)).2 then ([], (itemS s (p, false)).1, false) else rdAll s n (itemS s (p, false)).1 (acc ++ [itemAt s p])) else (acc, 0, true)

def lenOf : Value → Nat | .slice _ n _ => n | _ => 0

/-- All cells of a list of items. -/
def allCells (l : List Item) : List Value := l.flatMap (fun i => i.cells.toList)

theorem allCells_length (l : List Item) : (allCells l).length = l.length * 9 := by
  induction l with
  | nil => rfl
  | cons a l ih => simp only [allCells, List.flatMap_cons, List.length_append, List.length_cons] at ih ⊢; rw [ih]; simp [Item.cells]; omega

theorem lenOf_owns {w : World} {base : Nat} {e : TypeId} {size : Nat} {v : Value} {n : Nat} {xs : List Value} (h : w.ownsRow base e size v n xs) : lenOf v = n := by
  obtain ⟨_, ⟨rfl, rfl⟩ | ⟨g, cap, cur, rfl, _⟩⟩ := h <;> rfl

theorem slice_of_owns {w : World} {base : Nat} {e : TypeId} {size : Nat} {v : Value} {n : Nat} {xs : List Value} (h : w.ownsRow base e size v n xs) : ∃ a cap, v = .slice a n cap := by
  obtain ⟨_, ⟨rfl, rfl⟩ | ⟨g, cap, cur, rfl, _⟩⟩ := h
  · exact ⟨none, 0, rfl⟩
  · exact ⟨_, _, rfl⟩

theorem cells_new (w : World) (xs : Array Value) (e : TypeId) (b : Nat) (hb : b = w.heap.size) : ∀ (j : Nat) (u : Value), xs.toList[j]? = some u → (w.alloc (.cells xs e)).cell? ((⟨b, 0, none⟩ : Addr).add j) = some u := by
  subst hb
  intro j u h
  rw [show ((⟨w.heap.size, 0, none⟩ : Addr).add j) = ⟨w.heap.size, j, none⟩ from by simp [Addr.add]; intro h; exact h.symm]
  rw [World.cell?_alloc_at _ _ _ _ rfl]
  simpa using h

theorem item_oneCell (i : Item) : ∀ u ∈ i.cells.toList, u.oneCell' = true := by
  intro u hu
  simp [Item.cells] at hu
  rcases hu with rfl | rfl | rfl | rfl | rfl | rfl | rfl | rfl | rfl <;> rfl

theorem rd_start (w : World) (s : ByteArray) : Rd (w.alloc (.cells #[.string s, .int .i64 0, .bool false] 139)) w.heap.size s (0, false) :=
  ⟨by go_simp, by go_simp, by go_simp, by go_simp, by go_simp, Nat.zero_le _, by simp⟩

theorem own_ne {w : World} {base : Nat} {e : TypeId} {size : Nat} {v : Value} {n : Nat} {xs : List Value} (h : w.ownsRow base e size v n xs) {k : Nat} (hk : k < base) : v.ownBlock ≠ some k := by
  intro e
  have := (h.lt _ e).1
  omega

theorem ra_step {w wr w1 w2 : World} {s : ByteArray} {st : Nat × Bool} {l : List Item} {v : Value} (hbe : Below w.heap.size w wr) (hown : wr.ownsRow (w.heap.size + 1) 99 9 v l.length (allCells l))
    (hg1 : wr.grownBy w1 (some w.heap.size)) (hrd1 : Rd w1 w.heap.size s st) (o1 o2 : Obj) (hgrow : ((w1.alloc o1).alloc o2).grownBy w2 v.ownBlock) : Rd w2 w.heap.size s st ∧ Below w.heap.size w w2 := by
  have hr2 := (hrd1.alloc o1).alloc o2
  have hsz := hbe.size
  have hsz1 := hg1.size
  refine ⟨hr2.of_block (hgrow.block _ hr2.lt (fun e => own_ne hown (by omega) e.symm)) hgrow.size, ?_⟩
  have hb1 : Below w.heap.size w w1 := hbe.trans (gb_below hg1 hsz (Nat.le_refl _))
  exact ((hb1.alloc (by omega) o1).alloc (by simp; omega) o2).grown hgrow (by simp; omega) (fun k e => by have := (hown.lt k e).1; omega)

theorem allCells_snoc (l : List Item) (i : Item) : allCells (l ++ [i]) = allCells l ++ i.cells.toList := by simp [allCells]

theorem rdAll_more {s : ByteArray} {l : List Item} {p : Nat} (hl : l.length < 24) (hp : p < s.size) (hb : (itemS s (p, false)).2 = false) :
    rdAll s (24 - (l ++ [itemAt s p]).length) (itemS s (p, false)).1 (l ++ [itemAt s p]) = rdAll s (24 - l.length) p l := by
  rw [show 24 - l.length = (24 - (l ++ [itemAt s p]).length) + 1 from by simp; omega]
  conv => rhs; unfold rdAll
  simp [hp, hb]

theorem rdAll_bad {s : ByteArray} {l : List Item} {p : Nat} (hl : l.length < 24) (hp : p < s.size) (hb : (itemS s (p, false)).2 = true) : rdAll s (24 - l.length) p l = ([], (itemS s (p, false)).1, false) := by
  rw [show 24 - l.length = (24 - l.length - 1) + 1 from by omega]
  unfold rdAll
  simp [hp, hb]

theorem rdAll_full {s : ByteArray} {l : List Item} {p : Nat} (hl : l.length = 24) (hp : p < s.size) : rdAll s (24 - l.length) p l = ([], p, false) := by
  rw [hl]
  simp [rdAll, hp]

theorem rdAll_end {s : ByteArray} {l : List Item} {p : Nat} (hp : ¬ p < s.size) : rdAll s (24 - l.length) p l = (l, 0, true) := by
  cases 24 - l.length <;> simp [rdAll, hp]

set_option maxRecDepth 100000 in
set_option maxHeartbeats 400000 in
theorem readAll_any (s : ByteArray) (w : World) (hs : s.size ≤ 400) :
    Calls Try.prog 60 #[.string s] w fun e w' => ∃ v, e = .returned (.tuple #[v, .int .i64 (rdAll s 24 0 []).2.1, .bool (rdAll s 24 0 []).2.2]) ∧
      w'.ownsRow (w.heap.size + 1) 99 9 v (rdAll s 24 0 []).1.length (allCells (rdAll s 24 0 []).1) ∧ Below w.heap.size w w' := by
  have h0 := rd_start w s
  go_enter Try.func60, Try.ntmps60
  go_wp2
  go_loopw [5] (fun v wr => ∃ (l : List Item) (p : Nat), l.length ≤ 24 ∧ wr.ownsRow (w.heap.size + 1) 99 9 v l.length (allCells l) ∧ Rd wr w.heap.size s (p, false) ∧ rdAll s (24 - l.length) p l = rdAll s 24 0 [] ∧ Below w.heap.size w wr) (fun v _ => 24 - lenOf v)
  case atStart => exact ⟨[], 0, by simp, World.ownsRow_nil _ _ _ _, h0, rfl, (Below.refl _ _).alloc (Nat.le_refl _) _⟩
  case round =>
    obtain ⟨l, p, hl, hown, hrd, hr, hbe⟩ := hrel
    obtain ⟨a, cap, rfl⟩ := slice_of_owns hown
    have HR : Hid (rdAll s (24 - l.length) p l = rdAll s 24 0 []) := hr
    clear hr
    have d1 := hrd.c1
    by_cases hp : p < s.size
    · by_cases h24 : l.length = 24
      · have hfin := HR.out
        rw [rdAll_full h24 hp] at hfin
        have hne : (((l.length : Nat) : Int) == 24) = true := by rw [beq_iff_eq]; omega
        go_wp2
        go_quiet (fail)
        go_wp2
        go_ret3
        refine ⟨.slice none 0 0, ?_, ?_, ?_⟩
        · simp only [← hfin]; rfl
        · rw [← hfin]; exact World.ownsRow_nil _ _ _ _
        · exact below_drewN hbe _
      · have hne : (((l.length : Nat) : Int) == 24) = false := by rw [beq_eq_false_iff_ne]; omega
        cases hb : (itemS s (p, false)).2 with
        | true =>
          have hfin := HR.out
          rw [rdAll_bad (by omega) hp hb] at hfin
          have HF : Hid _ := hfin
          clear hfin
          have hhd : ∀ i : Item, i.cells = #[.int .i64 i.kind, .string i.name, .string i.host, .int .i64 i.number, .int .i64 i.size, .string i.disk, .bool i.only, .int .i64 i.lun, .string i.text] := fun _ => rfl
          go_wp2_with (go_at_call 77; refine (item_any _ s _ _ hrd (by omega)).mono ?_; rintro e w1 ⟨rfl, hrd1, hg1⟩; have q0 := hrd1.c0; have q1 := hrd1.c1; have q2 := hrd1.c2; rw [hb] at q2; have qlt := hrd1.lt; have qle := hrd1.le)
          go_quiet (fail)
          go_wp2
          go_ret3
          have hsz := hbe.size
          refine ⟨.slice none 0 0, ?_, ?_, ?_⟩
          · simp only [← HF.out]; rfl
          · rw [← HF.out]; exact World.ownsRow_nil _ _ _ _
          · exact below_drewN ((hbe.trans (gb_below hg1 hsz (Nat.le_refl _))).alloc (by omega) _) _
        | false =>
          have hhd : ∀ i : Item, i.cells = #[.int .i64 i.kind, .string i.name, .string i.host, .int .i64 i.number, .int .i64 i.size, .string i.disk, .bool i.only, .int .i64 i.lun, .string i.text] := fun _ => rfl
          have hmo := itemS_mono s (p, false)
          simp only at hmo
          obtain ⟨i0, hi, hz0, hz1, hz2⟩ := info_parts Try.infoItem
          go_wp2_with (first
            | (go_at_call 77; refine (item_any _ s _ _ hrd (by omega)).mono ?_; rintro e w1 ⟨rfl, hrd1, hg1⟩; have q0 := hrd1.c0; have q1 := hrd1.c1; have q2 := hrd1.c2; rw [hb] at q2; have qlt := hrd1.lt; have qle := hrd1.le)
            | (at_builtin; refine wpList_append_own _ rfl _ _ 78 rfl (w.heap.size + 1) 99 i0 (.agg zItem) 9 104 Try.underlying78 hi hz0 hz1 hz2 rfl (by decide) (.slice a l.length cap) l.length (allCells l) ?hs ?c0 ⟨w1.heap.size + 1, 0, none⟩ 1 1 (itemAt s p).cells.toList ?hx ?hl ?c1 (item_oneCell _) ?c3 ?c4 ?c5 ?_))
          case hs => rfl
          case hx => rfl
          case hl => rfl
          case c0 => exact ((hown.kept hg1 (Or.inr (own_ne hown (by omega)))).alloc _).alloc _
          case c1 => exact cells_new _ _ _ _ (by simp)
          case c3 => unfold maxLen; omega
          case c4 => omega
          case c5 => simp; omega
          intro v' w2 hown' hgrow _
          have R := ra_step hbe hown hg1 hrd1 _ _ hgrow
          have hlv := lenOf_owns hown'
          clear hgrow q0 q1 q2
          go_wp2
          go_roundw
          case rel =>
            refine ⟨l ++ [itemAt s p], (itemS s (p, false)).1, by simp; omega, ?_, ?_, ?_, R.2⟩
            · rw [allCells_snoc, List.length_append]; exact hown'
            · have := R.1; rw [show itemS s (p, false) = ((itemS s (p, false)).1, false) from Prod.ext rfl hb] at this; exact this
            · rw [rdAll_more (by omega) hp hb]; exact HR.out
          case measure => simp [lenOf] at hlv ⊢; omega
    · have hfin := HR.out
      rw [rdAll_end hp] at hfin
      have HF : Hid _ := hfin
      clear hfin
      go_wp2
      go_ret3
      refine ⟨.slice a l.length cap, ?_, ?_, ?_⟩
      · simp only [← HF.out]; rfl
      · rw [← HF.out]; exact hown
      · exact hbe

end Go.Proofs.Ytdlhgbhaeedbdaa
