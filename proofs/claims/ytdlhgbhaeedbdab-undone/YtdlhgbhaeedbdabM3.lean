/- Reader8, Reader9, ReadAll, Keys, Has. -/
import Derived.Test.YtdlhgbhaeedbdabM2

/- The reader: 'item', at whatever byte. -/
namespace Go.Proofs.Ytdlhgbhaeedbdab
open Go.RowKit

set_option maxHeartbeats 400000 in
theorem item_none (b : Nat) (s : ByteArray) (st : Nat × Bool) (w : World) (h : Rd w b s st) (hp : st.1 < s.size)
    (n1 : ((s[st.1].toNat : Int) == 100) = false) (n2 : ((s[st.1].toNat : Int) == 116) = false) (n3 : ((s[st.1].toNat : Int) == 108) = false) (n4 : ((s[st.1].toNat : Int) == 104) = false) (n5 : ((s[st.1].toNat : Int) == 109) = false) :
    Calls Try.prog 98 #[.pointer (some ⟨b, 0, none⟩)] w fun e w' => e = .returned (.agg noItem.cells) ∧ Rd w' b s (st.1, true) ∧ w.grownBy w' (some b) := by
  have hlt := h.lt
  have h1 := h.alloc (.cells zItem 73)
  have c0 := h1.c0
  have c1 := h1.c1
  have c2 := h1.c2
  have f2 := h1.f2
  have hp' : (st.1 : Int) < (s.size : Int) := by omega
  unfold zItem at c0 c1 c2 f2
  have hng : decide ((s.size : Int) ≤ (st.1 : Int)) = false := by simp; omega
  have hne : (w.heap.size == b) = false := by simp; omega
  go_enter Try.func98, Try.ntmps98
  go_wp2
  go_quiet (fail)
  go_wp2
  go_quiet (fail)
  go_wp2_with fail
  refine bodyPost_ret (v := .agg noItem.cells) (by simp [results, Try.results98, go_sem, Item.cells, noItem]) rfl ⟨rfl, ?_, ?_⟩
  · exact ((h.alloc _).drewN _).fail.set9 (by omega) _ _ _ _ _ _ _ _ _
  · exact gb_set9 (gb_setCell (p := ⟨b, 2, none⟩) (gb_drewN (World.grownBy_alloc _ _ _) _) _) (Nat.le_refl _) _ _ _ _ _ _ _ _ _

set_option maxHeartbeats 400000 in
theorem item_end (b : Nat) (s : ByteArray) (st : Nat × Bool) (w : World) (h : Rd w b s st) (hp : st.1 = s.size) :
    Calls Try.prog 98 #[.pointer (some ⟨b, 0, none⟩)] w fun e w' => e = .returned (.agg noItem.cells) ∧ Rd w' b s (st.1, true) ∧ w.grownBy w' (some b) := by
  have hlt := h.lt
  have h1 := h.alloc (.cells zItem 73)
  have c0 := h1.c0
  have c1 := h1.c1
  have c2 := h1.c2
  have f2 := h1.f2
  unfold zItem at c0 c1 c2 f2
  have hng : decide ((s.size : Int) ≤ (st.1 : Int)) = true := by simp; omega
  have hne : (w.heap.size == b) = false := by simp; omega
  go_enter Try.func98, Try.ntmps98
  go_wp2
  go_quiet (fail)
  go_wp2_with fail
  refine bodyPost_ret (v := .agg noItem.cells) (by simp [results, Try.results98, go_sem, Item.cells, noItem]) rfl ⟨rfl, ?_, ?_⟩
  · exact ((h.alloc _).drewN _).fail.set9 (by omega) _ _ _ _ _ _ _ _ _
  · exact gb_set9 (gb_setCell (p := ⟨b, 2, none⟩) (gb_drewN (World.grownBy_alloc _ _ _) _) _) (Nat.le_refl _) _ _ _ _ _ _ _ _ _

theorem kind_any (b : Nat) (s : ByteArray) (st : Nat × Bool) (w : World) (h : Rd w b s st) (hs : s.size ≤ 9223372036854775807) :
    Calls Try.prog 98 #[.pointer (some ⟨b, 0, none⟩)] w fun e w' => e = .returned (.agg (itemI s st).cells) ∧ Rd w' b s (itemS s st) ∧ w.grownBy w' (some b) := by
  by_cases hp : st.1 < s.size
  case neg =>
    have e0 := byteAt_out hp
    have e1 : itemI s st = noItem := by simp [itemI, e0]
    have e2 : itemS s st = (st.1, true) := by simp [itemS, e0]
    rw [e1, e2]
    exact item_end b s st w h (by have := h.le; omega)
  have hB := byteAt_in hp
  by_cases h1 : (s[st.1].toNat : Int) = 100
  · have e1 : itemI s st = diskI s st := by simp only [itemI, hB, h1, if_true]
    have e2 : itemS s st = diskS5 s st := by simp only [itemS, hB, h1, if_true]
    rw [e1, e2]; exact item_disk b s st w h hs hp h1
  by_cases h2 : (s[st.1].toNat : Int) = 116
  · have e1 : itemI s st = targetI s st := by simp only [itemI, hB, h2]; simp
    have e2 : itemS s st = targetS3 s st := by simp only [itemS, hB, h2]; simp
    rw [e1, e2]; exact item_target b s st w h hs hp h2
  by_cases h3 : (s[st.1].toNat : Int) = 108
  · have e1 : itemI s st = lunI s st := by simp only [itemI, hB, h3]; simp
    have e2 : itemS s st = lunS9 s st := by simp only [itemS, hB, h3]; simp
    rw [e1, e2]; exact item_lun b s st w h hs hp h3
  by_cases h4 : (s[st.1].toNat : Int) = 104
  · have e1 : itemI s st = hostI s st := by simp only [itemI, hB, h4]; simp
    have e2 : itemS s st = hostS5 s st := by simp only [itemS, hB, h4]; simp
    rw [e1, e2]; exact item_host b s st w h hs hp h4
  by_cases h5 : (s[st.1].toNat : Int) = 109
  · have e1 : itemI s st = mapsI s st := by simp only [itemI, hB, h5]; simp
    have e2 : itemS s st = mapsS9 s st := by simp only [itemS, hB, h5]; simp
    rw [e1, e2]; exact item_maps b s st w h hs hp h5
  · have e1 : itemI s st = noItem := by simp only [itemI, hB, if_neg h1, if_neg h2, if_neg h3, if_neg h4, if_neg h5]
    have e2 : itemS s st = (st.1, true) := by simp only [itemS, hB, if_neg h1, if_neg h2, if_neg h3, if_neg h4, if_neg h5]
    rw [e1, e2]
    exact item_none b s st w h hp (beq_eq_false_iff_ne.2 h1) (beq_eq_false_iff_ne.2 h2) (beq_eq_false_iff_ne.2 h3) (beq_eq_false_iff_ne.2 h4) (beq_eq_false_iff_ne.2 h5)

end Go.Proofs.Ytdlhgbhaeedbdab

/- The reader: 'item', with its text. -/
namespace Go.Proofs.Ytdlhgbhaeedbdab
open Go.RowKit

/-- The item that is read from a place on, with its text. -/
def itemT (s : ByteArray) (st : Nat × Bool) : Item := { itemI s st with text := s.extract st.1 (itemS s st).1 }

theorem wd_mono (s : ByteArray) (l : List UInt8) (st : Nat × Bool) : st.1 ≤ (wd s l st).1 := by
  induction l generalizing st with
  | nil => exact Nat.le_refl _
  | cons c l ih => exact Nat.le_trans (tk_mono s _ _ st) (ih _)

theorem mdS_mono (s : ByteArray) (st : Nat × Bool) : st.1 ≤ (mdS s st).1 := by
  unfold mdS
  split <;> exact Nat.le_trans (wd_mono _ _ _) (wd_mono _ _ _)

theorem itemS_mono (s : ByteArray) (st : Nat × Bool) : st.1 ≤ (itemS s st).1 := by
  unfold itemS
  have t := tk_mono s
  have d := wd_mono s
  have n := nmS_mono s
  have m := mdS_mono s
  repeat' split
  · exact Nat.le_trans (d _ _) (Nat.le_trans (n _) (Nat.le_trans (d _ _) (Nat.le_trans (t _ _ _) (d _ _))))
  · exact Nat.le_trans (d _ _) (Nat.le_trans (n _) (d _ _))
  · exact Nat.le_trans (d _ _) (Nat.le_trans (n _) (Nat.le_trans (d _ _) (Nat.le_trans (t _ _ _) (Nat.le_trans (d _ _) (Nat.le_trans (n _) (Nat.le_trans (d _ _) (Nat.le_trans (m _) (d _ _))))))))
  · exact Nat.le_trans (d _ _) (Nat.le_trans (n _) (Nat.le_trans (d _ _) (Nat.le_trans (n _) (d _ _))))
  · exact Nat.le_trans (d _ _) (Nat.le_trans (n _) (Nat.le_trans (d _ _) (Nat.le_trans (n _) (Nat.le_trans (d _ _) (Nat.le_trans (t _ _ _) (Nat.le_trans (d _ _) (Nat.le_trans (t _ _ _) (d _ _))))))))
  · exact Nat.le_refl _

set_option maxRecDepth 100000 in
set_option maxHeartbeats 400000 in
theorem item_any (b : Nat) (s : ByteArray) (st : Nat × Bool) (w : World) (h : Rd w b s st) (hs : s.size ≤ 9223372036854775807) :
    Calls Try.prog 79 #[.pointer (some ⟨b, 0, none⟩)] w fun e w' => e = .returned (.agg (itemT s st).cells) ∧ Rd w' b s (itemS s st) ∧ w.grownBy w' (some b) := by
  have hlt := h.lt
  have c1 := (h.alloc (.cells zItem 73)).c1
  unfold zItem at c1
  have hmo := itemS_mono s st
  have hd : ∀ i : Item, i.cells = #[.int .i64 i.kind, .string i.name, .string i.host, .int .i64 i.number, .int .i64 i.size, .string i.disk, .bool i.only, .int .i64 i.lun, .string i.text] := fun _ => rfl
  go_enter Try.func79, Try.ntmps79
  go_wp2_with fail
  clear c1
  refine (kind_any b s st _ (h.alloc (.cells zItem 73)) hs).mono ?_
  rintro e w1 ⟨rfl, hrd1, hg1⟩
  obtain ⟨c0, c1, c2, c3, c4, c5, c6, c7, c8, f0, f1, f2, f3, f4, f5, f6, f7, f8⟩ := Cells9.of_grown hlt hg1
  have q0 := hrd1.c0
  have q1 := hrd1.c1
  have qle := hrd1.le
  have qlt := hrd1.lt
  have hsz := hg1.size
  simp at hsz
  have hb1 := fun o => Below.heap_alloc w1 o w.heap.size (by omega)
  have kc : ∀ o j, (w1.alloc o).cell? ⟨w.heap.size, j, none⟩ = w1.cell? ⟨w.heap.size, j, none⟩ := fun o j => World.cell?_of_block (a := ⟨w.heap.size, j, none⟩) (hb1 o)
  have kf : ∀ o j, (w1.alloc o).frozen? ⟨w.heap.size, j, none⟩ = w1.frozen? ⟨w.heap.size, j, none⟩ := fun o j => World.frozen?_of_block (a := ⟨w.heap.size, j, none⟩) (hb1 o)
  clear hb1
  go_wp2_with fail
  go_region
  go_wp2
  refine bodyPost_ret (v := .agg (itemT s st).cells) (by simp [results, Try.results79, go_sem, kc, c0, c1, c2, c3, c4, c5, c6, c7, c8, Item.cells, itemT]) rfl ⟨rfl, ?_, ?_⟩
  · exact ((hrd1.alloc _).set9 (by omega) _ _ _ _ _ _ _ _ _).drewN 1
  · exact gb_drewN (gb_set9 (gb_alloc (gb_trans (World.grownBy_alloc _ _ _) hg1) _) (Nat.le_refl _) _ _ _ _ _ _ _ _ _) 1

end Go.Proofs.Ytdlhgbhaeedbdab

/- 'readAll'. -/
namespace Go.Proofs.Ytdlhgbhaeedbdab
open Go.RowKit

theorem Try.infoItem : (Try.prog.info? 73).map (fun i => (i.zero, i.size, i.bytes)) = some (some (.agg zItem), 9, 104) := by kernel_rfl

/-- The item that begins at p, with its text. -/
def itemAt (s : ByteArray) (p : Nat) : Item := itemT s (p, false)

/-- At most n items more are read, from p on, behind those of acc. -/
def rdAll (s : ByteArray) : Nat → Nat → List Item → List Item × Nat × Bool
  | 0, p, acc => if p < s.size then ([], p, false) else (acc, 0, true)
  | n + 1, p, acc => if p < s.size then (if (itemS s (p, false)).2 then ([], (itemS s (p, false)).1, false) else rdAll s n (itemS s (p, false)).1 (acc ++ [itemAt s p])) else (acc, 0, true)

def lenOf : Value → Nat | .slice _ n _ => n | _ => 0

/-- All cells of a list of items. -/
def allCells (l : List Item) : List Value := l.flatMap (fun i => i.cells.toList)

theorem allCells_length (l : List Item) : (allCells l).length = l.length * 9 := by
  induction l with
  | nil => rfl
  | cons a l ih => simp only [allCells, List.flatMap_cons, List.length_append, List.length_cons] at ih ⊢; rw [ih]; simp [Item.cells]; omega

theorem lenOf_owns {w : World} {base : Nat} {e : TypeId} {size : Nat} {v : Value} {n : Nat} {xs : List Value} (h : w.ownsRow base e size v n xs) : lenOf v = n := by
  obtain ⟨_, ⟨rfl, rfl⟩ | ⟨g, cap, cur, rfl, _⟩⟩ := h <;> rfl

theorem slice_of_owns {w : World} {base : Nat} {e : TypeId} {size : Nat} {v : Value} {n : Nat} {xs : List Value} (h : w.ownsRow base e size v n xs) : ∃ a cap, v = .slice a n cap := by
  obtain ⟨_, ⟨rfl, rfl⟩ | ⟨g, cap, cur, rfl, _⟩⟩ := h
  · exact ⟨none, 0, rfl⟩
  · exact ⟨_, _, rfl⟩

theorem cells_new (w : World) (xs : Array Value) (e : TypeId) (b : Nat) (hb : b = w.heap.size) : ∀ (j : Nat) (u : Value), xs.toList[j]? = some u → (w.alloc (.cells xs e)).cell? ((⟨b, 0, none⟩ : Addr).add j) = some u := by
  subst hb
  intro j u h
  rw [show ((⟨w.heap.size, 0, none⟩ : Addr).add j) = ⟨w.heap.size, j, none⟩ from by simp [Addr.add]; intro h; exact h.symm]
  rw [World.cell?_alloc_at _ _ _ _ rfl]
  simpa using h

theorem item_oneCell (i : Item) : ∀ u ∈ i.cells.toList, u.oneCell' = true := by
  intro u hu
  simp [Item.cells] at hu
  rcases hu with rfl | rfl | rfl | rfl | rfl | rfl | rfl | rfl | rfl <;> rfl

theorem rd_start (w : World) (s : ByteArray) : Rd (w.alloc (.cells #[.string s, .int .i64 0, .bool false] 145)) w.heap.size s (0, false) :=
  ⟨by go_simp, by go_simp, by go_simp, by go_simp, by go_simp, Nat.zero_le _, by simp⟩

theorem own_ne {w : World} {base : Nat} {e : TypeId} {size : Nat} {v : Value} {n : Nat} {xs : List Value} (h : w.ownsRow base e size v n xs) {k : Nat} (hk : k < base) : v.ownBlock ≠ some k := by
  intro e
  have := (h.lt _ e).1
  omega

theorem ra_step {w wr w1 w2 : World} {s : ByteArray} {st : Nat × Bool} {l : List Item} {v : Value} (hbe : Below w.heap.size w wr) (hown : wr.ownsRow (w.heap.size + 1) 73 9 v l.length (allCells l))
    (hg1 : wr.grownBy w1 (some w.heap.size)) (hrd1 : Rd w1 w.heap.size s st) (o1 o2 : Obj) (hgrow : ((w1.alloc o1).alloc o2).grownBy w2 v.ownBlock) : Rd w2 w.heap.size s st ∧ Below w.heap.size w w2 := by
  have hr2 := (hrd1.alloc o1).alloc o2
  have hsz := hbe.size
  have hsz1 := hg1.size
  refine ⟨hr2.of_block (hgrow.block _ hr2.lt (fun e => own_ne hown (by omega) e.symm)) hgrow.size, ?_⟩
  have hb1 : Below w.heap.size w w1 := hbe.trans (gb_below hg1 hsz (Nat.le_refl _))
  exact ((hb1.alloc (by omega) o1).alloc (by simp; omega) o2).grown hgrow (by simp; omega) (fun k e => by have := (hown.lt k e).1; omega)

theorem allCells_snoc (l : List Item) (i : Item) : allCells (l ++ [i]) = allCells l ++ i.cells.toList := by simp [allCells]

theorem rdAll_more {s : ByteArray} {l : List Item} {p : Nat} (hl : l.length < 24) (hp : p < s.size) (hb : (itemS s (p, false)).2 = false) :
    rdAll s (24 - (l ++ [itemAt s p]).length) (itemS s (p, false)).1 (l ++ [itemAt s p]) = rdAll s (24 - l.length) p l := by
  rw [show 24 - l.length = (24 - (l ++ [itemAt s p]).length) + 1 from by simp; omega]
  conv => rhs; unfold rdAll
  simp [hp, hb]

theorem rdAll_bad {s : ByteArray} {l : List Item} {p : Nat} (hl : l.length < 24) (hp : p < s.size) (hb : (itemS s (p, false)).2 = true) : rdAll s (24 - l.length) p l = ([], (itemS s (p, false)).1, false) := by
  rw [show 24 - l.length = (24 - l.length - 1) + 1 from by omega]
  unfold rdAll
  simp [hp, hb]

theorem rdAll_full {s : ByteArray} {l : List Item} {p : Nat} (hl : l.length = 24) (hp : p < s.size) : rdAll s (24 - l.length) p l = ([], p, false) := by
  rw [hl]
  simp [rdAll, hp]

theorem rdAll_end {s : ByteArray} {l : List Item} {p : Nat} (hp : ¬ p < s.size) : rdAll s (24 - l.length) p l = (l, 0, true) := by
  cases 24 - l.length <;> simp [rdAll, hp]

set_option maxRecDepth 100000 in
set_option maxHeartbeats 400000 in
theorem readAll_any (s : ByteArray) (w : World) (hs : s.size ≤ 400) :
    Calls Try.prog 52 #[.string s] w fun e w' => ∃ v, e = .returned (.tuple #[v, .int .i64 (rdAll s 24 0 []).2.1, .bool (rdAll s 24 0 []).2.2]) ∧
      w'.ownsRow (w.heap.size + 1) 73 9 v (rdAll s 24 0 []).1.length (allCells (rdAll s 24 0 []).1) ∧ Below w.heap.size w w' := by
  have h0 := rd_start w s
  go_enter Try.func52, Try.ntmps52
  go_wp2
  go_loopw [5] (fun v wr => ∃ (l : List Item) (p : Nat), l.length ≤ 24 ∧ wr.ownsRow (w.heap.size + 1) 73 9 v l.length (allCells l) ∧ Rd wr w.heap.size s (p, false) ∧ rdAll s (24 - l.length) p l = rdAll s 24 0 [] ∧ Below w.heap.size w wr) (fun v _ => 24 - lenOf v)
  case atStart => exact ⟨[], 0, by simp, World.ownsRow_nil _ _ _ _, h0, rfl, (Below.refl _ _).alloc (Nat.le_refl _) _⟩
  case round =>
    obtain ⟨l, p, hl, hown, hrd, hr, hbe⟩ := hrel
    obtain ⟨a, cap, rfl⟩ := slice_of_owns hown
    have HR : Hid (rdAll s (24 - l.length) p l = rdAll s 24 0 []) := hr
    clear hr
    have d1 := hrd.c1
    by_cases hp : p < s.size
    · by_cases h24 : l.length = 24
      · have hfin := HR.out
        rw [rdAll_full h24 hp] at hfin
        have hne : (((l.length : Nat) : Int) == 24) = true := by rw [beq_iff_eq]; omega
        go_wp2
        go_quiet (fail)
        go_wp2
        go_ret3
        refine ⟨.slice none 0 0, ?_, ?_, ?_⟩
        · simp only [← hfin]; rfl
        · rw [← hfin]; exact World.ownsRow_nil _ _ _ _
        · exact below_drewN hbe _
      · have hne : (((l.length : Nat) : Int) == 24) = false := by rw [beq_eq_false_iff_ne]; omega
        cases hb : (itemS s (p, false)).2 with
        | true =>
          have hfin := HR.out
          rw [rdAll_bad (by omega) hp hb] at hfin
          have HF : Hid _ := hfin
          clear hfin
          have hhd : ∀ i : Item, i.cells = #[.int .i64 i.kind, .string i.name, .string i.host, .int .i64 i.number, .int .i64 i.size, .string i.disk, .bool i.only, .int .i64 i.lun, .string i.text] := fun _ => rfl
          go_wp2_with (go_at_call 79; refine (item_any _ s _ _ hrd (by omega)).mono ?_; rintro e w1 ⟨rfl, hrd1, hg1⟩; have q0 := hrd1.c0; have q1 := hrd1.c1; have q2 := hrd1.c2; rw [hb] at q2; have qlt := hrd1.lt; have qle := hrd1.le)
          go_quiet (fail)
          go_wp2
          go_ret3
          have hsz := hbe.size
          refine ⟨.slice none 0 0, ?_, ?_, ?_⟩
          · simp only [← HF.out]; rfl
          · rw [← HF.out]; exact World.ownsRow_nil _ _ _ _
          · exact below_drewN ((hbe.trans (gb_below hg1 hsz (Nat.le_refl _))).alloc (by omega) _) _
        | false =>
          have hhd : ∀ i : Item, i.cells = #[.int .i64 i.kind, .string i.name, .string i.host, .int .i64 i.number, .int .i64 i.size, .string i.disk, .bool i.only, .int .i64 i.lun, .string i.text] := fun _ => rfl
          have hmo := itemS_mono s (p, false)
          simp only at hmo
          obtain ⟨i0, hi, hz0, hz1, hz2⟩ := info_parts Try.infoItem
          go_wp2_with (first
            | (go_at_call 79; refine (item_any _ s _ _ hrd (by omega)).mono ?_; rintro e w1 ⟨rfl, hrd1, hg1⟩; have q0 := hrd1.c0; have q1 := hrd1.c1; have q2 := hrd1.c2; rw [hb] at q2; have qlt := hrd1.lt; have qle := hrd1.le)
            | (at_builtin; refine wpList_append_own _ rfl _ _ 67 rfl (w.heap.size + 1) 73 i0 (.agg zItem) 9 104 Try.underlying67 hi hz0 hz1 hz2 rfl (by decide) (.slice a l.length cap) l.length (allCells l) ?hs ?c0 ⟨w1.heap.size + 1, 0, none⟩ 1 1 (itemAt s p).cells.toList ?hx ?hl ?c1 (item_oneCell _) ?c3 ?c4 ?c5 ?_))
          case hs => rfl
          case hx => rfl
          case hl => rfl
          case c0 => exact ((hown.kept hg1 (Or.inr (own_ne hown (by omega)))).alloc _).alloc _
          case c1 => exact cells_new _ _ _ _ (by simp)
          case c3 => unfold maxLen; omega
          case c4 => omega
          case c5 => simp; omega
          intro v' w2 hown' hgrow _
          have R := ra_step hbe hown hg1 hrd1 _ _ hgrow
          have hlv := lenOf_owns hown'
          clear hgrow q0 q1 q2
          go_wp2
          go_roundw
          case rel =>
            refine ⟨l ++ [itemAt s p], (itemS s (p, false)).1, by simp; omega, ?_, ?_, ?_, R.2⟩
            · rw [allCells_snoc, List.length_append]; exact hown'
            · have := R.1; rw [show itemS s (p, false) = ((itemS s (p, false)).1, false) from Prod.ext rfl hb] at this; exact this
            · rw [rdAll_more (by omega) hp hb]; exact HR.out
          case measure => simp [lenOf] at hlv ⊢; omega
    · have hfin := HR.out
      rw [rdAll_end hp] at hfin
      have HF : Hid _ := hfin
      clear hfin
      go_wp2
      go_ret3
      refine ⟨.slice a l.length cap, ?_, ?_, ?_⟩
      · simp only [← HF.out]; rfl
      · rw [← HF.out]; exact hown
      · exact hbe

end Go.Proofs.Ytdlhgbhaeedbdab

/- Keys: 'same', 'less'. -/
namespace Go.Proofs.Ytdlhgbhaeedbdab
open Go.RowKit

/-- The program's key. -/
structure Key where
  kind : Int
  name : ByteArray
  host : ByteArray
  number : Int

def Key.cells (k : Key) : Array Value := #[.int .i64 k.kind, .string k.name, .string k.host, .int .i64 k.number]

theorem tl_inj {a b : ByteArray} (h : a.toList = b.toList) : a = b := by
  rw [ByteArray.toList_eq, ByteArray.toList_eq] at h
  cases a; cases b; exact congrArg ByteArray.mk (Array.toList_inj.1 h)
theorem tl_ne {a b : ByteArray} (h : ¬ a.toList = b.toList) : ¬ a = b := fun e => h (by rw [e])

/-- Does a key stand ahead of another? -/
def lessK (k1 : Int) (n1 h1 : ByteArray) (m1 : Int) (k2 : Int) (n2 h2 : ByteArray) (m2 : Int) : Bool :=
  if k1 ≠ k2 then decide (k1 < k2) else if n1 ≠ n2 then Op.bytesLess n1.toList n2.toList else if h1 ≠ h2 then Op.bytesLess h1.toList h2.toList else decide (m1 < m2)

set_option maxHeartbeats 400000 in
theorem same_any (k1 : Int) (n1 h1 : ByteArray) (m1 : Int) (k2 : Int) (n2 h2 : ByteArray) (m2 : Int) (w : World) :
    Calls Try.prog 61 #[.agg #[.int .i64 k1, .string n1, .string h1, .int .i64 m1], .agg #[.int .i64 k2, .string n2, .string h2, .int .i64 m2]] w fun e w' => e = .returned (.bool (decide (k1 = k2 ∧ n1 = n2 ∧ h1 = h2 ∧ m1 = m2))) ∧ Below w.heap.size w w' := by
  have hB : ∀ o1 o2, Below w.heap.size w ((w.alloc o1).alloc o2) := fun o1 o2 => ((Below.refl _ _).alloc (Nat.le_refl _) o1).alloc (by simp) o2
  go_enter Try.func61, Try.ntmps61
  go_wp2
  · go_ret
    refine ⟨?_, hB _ _⟩
    rename_i e1 e2 e3
    simp [e1, tl_inj e2, tl_inj e3, Bool.beq_eq_decide_eq]
  · go_ret
    refine ⟨?_, hB _ _⟩
    rename_i e1 e2 e3
    simp [tl_ne e3]
  · go_ret
    refine ⟨?_, hB _ _⟩
    rename_i e1 e2
    simp [tl_ne e2]
  · go_ret
    refine ⟨?_, hB _ _⟩
    rename_i e1
    simp [e1]

theorem lk1 {k1 : Int} {n1 h1 : ByteArray} {m1 : Int} {k2 : Int} {n2 h2 : ByteArray} {m2 : Int} (a : (k1 != k2) = true) : decide (k1 < k2) = lessK k1 n1 h1 m1 k2 n2 h2 m2 := by
  simp at a; simp [lessK, a]
theorem lk2 {k1 : Int} {n1 h1 : ByteArray} {m1 : Int} {k2 : Int} {n2 h2 : ByteArray} {m2 : Int} (a : (k1 != k2) = false) (b : (!n1.toList == n2.toList) = true) : Op.bytesLess n1.toList n2.toList = lessK k1 n1 h1 m1 k2 n2 h2 m2 := by
  simp at a b; simp [lessK, a, tl_ne b]
theorem lk3 {k1 : Int} {n1 h1 : ByteArray} {m1 : Int} {k2 : Int} {n2 h2 : ByteArray} {m2 : Int} (a : (k1 != k2) = false) (b : (!n1.toList == n2.toList) = false) (c : (!h1.toList == h2.toList) = true) : Op.bytesLess h1.toList h2.toList = lessK k1 n1 h1 m1 k2 n2 h2 m2 := by
  simp at a b c; simp [lessK, a, tl_inj b, tl_ne c]
theorem lk4 {k1 : Int} {n1 h1 : ByteArray} {m1 : Int} {k2 : Int} {n2 h2 : ByteArray} {m2 : Int} (a : (k1 != k2) = false) (b : (!n1.toList == n2.toList) = false) (c : (!h1.toList == h2.toList) = false) : decide (m1 < m2) = lessK k1 n1 h1 m1 k2 n2 h2 m2 := by
  simp at a b c; simp [lessK, a, tl_inj b, tl_inj c]
theorem ret_bool {a b : Bool} (h : a = b) : Ending.returned (.bool a) = .returned (.bool b) := by rw [h]

set_option maxHeartbeats 400000 in
theorem less_any (k1 : Int) (n1 h1 : ByteArray) (m1 : Int) (k2 : Int) (n2 h2 : ByteArray) (m2 : Int) (w : World) :
    Calls Try.prog 85 #[.agg #[.int .i64 k1, .string n1, .string h1, .int .i64 m1], .agg #[.int .i64 k2, .string n2, .string h2, .int .i64 m2]] w fun e w' => e = .returned (.bool (lessK k1 n1 h1 m1 k2 n2 h2 m2)) ∧ Below w.heap.size w w' := by
  have hB : ∀ o1 o2, Below w.heap.size w ((w.alloc o1).alloc o2) := fun o1 o2 => ((Below.refl _ _).alloc (Nat.le_refl _) o1).alloc (by simp) o2
  go_enter Try.func85, Try.ntmps85
  go_wp2
  · go_ret
    exact ⟨ret_bool (lk1 ‹_›), hB _ _⟩
  · go_ret
    exact ⟨ret_bool (lk2 ‹_› ‹_›), hB _ _⟩
  · go_ret
    exact ⟨ret_bool (lk3 ‹_› ‹_› ‹_›), hB _ _⟩
  · go_ret
    exact ⟨ret_bool (lk4 ‹_› ‹_› ‹_›), hB _ _⟩

end Go.Proofs.Ytdlhgbhaeedbdab

/- 'Find', 'Has'. -/
namespace Go.Proofs.Ytdlhgbhaeedbdab
open Go.RowKit

/-- The item x lies in block g from offset o on. -/
structure ItAt (w : World) (g o : Nat) (x : Item) : Prop where
  c0 : w.cell? ⟨g, o, none⟩ = some (.int .i64 x.kind)
  c1 : w.cell? ⟨g, o + 1, none⟩ = some (.string x.name)
  c2 : w.cell? ⟨g, o + 2, none⟩ = some (.string x.host)
  c3 : w.cell? ⟨g, o + 3, none⟩ = some (.int .i64 x.number)
  c4 : w.cell? ⟨g, o + 4, none⟩ = some (.int .i64 x.size)
  c5 : w.cell? ⟨g, o + 5, none⟩ = some (.string x.disk)
  c6 : w.cell? ⟨g, o + 6, none⟩ = some (.bool x.only)
  c7 : w.cell? ⟨g, o + 7, none⟩ = some (.int .i64 x.lun)
  c8 : w.cell? ⟨g, o + 8, none⟩ = some (.string x.text)

/-- The items l lie in block g, one behind the other. -/
def ItemsIn (w : World) (g : Nat) (l : List Item) : Prop := g < w.heap.size ∧ ∀ i (h : i < l.length), ItAt w g (i * 9) l[i]

theorem ItAt.below {B : Nat} {w w' : World} {g o : Nat} {x : Item} (h : ItAt w g o x) (hb : Below B w w') (hg : g < B) : ItAt w' g o x :=
  ⟨(hb.cell (p := ⟨g, o, none⟩) hg).trans h.c0, (hb.cell (p := ⟨g, o + 1, none⟩) hg).trans h.c1, (hb.cell (p := ⟨g, o + 2, none⟩) hg).trans h.c2, (hb.cell (p := ⟨g, o + 3, none⟩) hg).trans h.c3,
   (hb.cell (p := ⟨g, o + 4, none⟩) hg).trans h.c4, (hb.cell (p := ⟨g, o + 5, none⟩) hg).trans h.c5, (hb.cell (p := ⟨g, o + 6, none⟩) hg).trans h.c6, (hb.cell (p := ⟨g, o + 7, none⟩) hg).trans h.c7, (hb.cell (p := ⟨g, o + 8, none⟩) hg).trans h.c8⟩

theorem ItemsIn.below {B : Nat} {w w' : World} {g : Nat} {l : List Item} (h : ItemsIn w g l) (hb : Below B w w') (hg : g < B) : ItemsIn w' g l :=
  ⟨Nat.lt_of_lt_of_le h.1 hb.size, fun i hi => (h.2 i hi).below hb hg⟩

/-- Is this the item's key? -/
def keyP (k2 : Int) (n2 h2 : ByteArray) (m2 : Int) (x : Item) : Bool := decide ((x.kind : Int) = k2 ∧ x.name = n2 ∧ x.host = h2 ∧ x.number = m2)

theorem find_hit {l : List Item} {p : Item → Bool} {k n : Nat} (hk : k < n) (hn : n ≤ l.length) (hno : (l.take k).any p = false) (hx : p (l[k]'(by omega)) = true) : (l.take n).find? p = some (l[k]'(by omega)) := by
  have e : l.take n = l.take k ++ (l.take n).drop k := by
    have := (List.take_append_drop k (l.take n)).symm
    rwa [List.take_take, Nat.min_eq_left (by omega)] at this
  have e2 : (l.take n).drop k = l[k]'(by omega) :: (l.take n).drop (k + 1) := by
    rw [List.drop_eq_getElem_cons (by simp; omega)]
    simp
  have h0 : (l.take k).find? p = none := by
    rw [List.find?_eq_none]
    intro y hy hp
    rw [List.any_eq_false] at hno
    exact hno y hy hp
  rw [e, List.find?_append, h0, e2, List.find?_cons, hx]
  rfl

theorem find_miss {l : List Item} {p : Item → Bool} (hno : l.any p = false) : l.find? p = none := by
  rw [List.find?_eq_none]
  intro y hy hp
  rw [List.any_eq_false] at hno
  exact hno y hy hp

/-- What Find tells. -/
def findV (l : List Item) (p : Item → Bool) : Value := .tuple #[.agg ((l.find? p).getD noItem).cells, .bool (l.any p)]

theorem findV_hit {l : List Item} {p : Item → Bool} {x : Item} (h : l.find? p = some x) : findV l p = .tuple #[.agg x.cells, .bool true] := by
  unfold findV
  rw [h, show l.any p = true from by rw [List.any_eq_true]; exact ⟨x, List.mem_of_find?_eq_some h, List.find?_some h⟩]
  rfl

theorem findV_miss {l : List Item} {p : Item → Bool} (h : l.any p = false) : findV l p = .tuple #[.agg zItem, .bool false] := by
  unfold findV
  rw [find_miss h, h]
  rfl

theorem below_set9 {B : Nat} {a w : World} (h : Below B a w) {g : Nat} (hg : B ≤ g) (o : Nat) (u0 u1 u2 u3 u4 u5 u6 u7 u8 : Value) :
    Below B a (((((((((w.setCell ⟨g, o, none⟩ u0).setCell ⟨g, o + 1, none⟩ u1).setCell ⟨g, o + 2, none⟩ u2).setCell ⟨g, o + 3, none⟩ u3).setCell ⟨g, o + 4, none⟩ u4).setCell ⟨g, o + 5, none⟩ u5).setCell ⟨g, o + 6, none⟩ u6).setCell ⟨g, o + 7, none⟩ u7).setCell ⟨g, o + 8, none⟩ u8) :=
  (((((((((h.setCell (p := ⟨g, o, none⟩) hg u0).setCell (p := ⟨g, o + 1, none⟩) hg u1).setCell (p := ⟨g, o + 2, none⟩) hg u2).setCell (p := ⟨g, o + 3, none⟩) hg u3).setCell (p := ⟨g, o + 4, none⟩) hg u4).setCell (p := ⟨g, o + 5, none⟩) hg u5).setCell (p := ⟨g, o + 6, none⟩) hg u6).setCell (p := ⟨g, o + 7, none⟩) hg u7).setCell (p := ⟨g, o + 8, none⟩) hg u8)

/-- What Find lays first. -/
def findW (w : World) (k2 : Int) (n2 h2 : ByteArray) (m2 : Int) : World := (w.alloc (.cells #[.int .i64 k2, .string n2, .string h2, .int .i64 m2] 71)).alloc (.cells #[.int .i64 0, .string ⟨#[]⟩, .string ⟨#[]⟩, .int .i64 0, .int .i64 0, .string ⟨#[]⟩, .bool false, .int .i64 0, .string ⟨#[]⟩] 73)

theorem findW_facts (w : World) (k2 : Int) (n2 h2 : ByteArray) (m2 : Int) :
    Below w.heap.size w (findW w k2 n2 h2 m2) ∧ (findW w k2 n2 h2 m2).heap.size = w.heap.size + 2 ∧ (findW w k2 n2 h2 m2).heap[w.heap.size + 1]? = some (.cells zItem 73 (0, 0)) ∧
    (findW w k2 n2 h2 m2).cell? ⟨w.heap.size, 0, none⟩ = some (.int .i64 k2) ∧ (findW w k2 n2 h2 m2).cell? ⟨w.heap.size, 1, none⟩ = some (.string n2) ∧ (findW w k2 n2 h2 m2).cell? ⟨w.heap.size, 2, none⟩ = some (.string h2) ∧ (findW w k2 n2 h2 m2).cell? ⟨w.heap.size, 3, none⟩ = some (.int .i64 m2) := by
  refine ⟨((Below.refl _ _).alloc (Nat.le_refl _) _).alloc (by simp) _, by simp [findW], ?_, by unfold findW; go_simp, by unfold findW; go_simp, by unfold findW; go_simp, by unfold findW; go_simp⟩
  have := heap_alloc_new (w.alloc (.cells #[.int .i64 k2, .string n2, .string h2, .int .i64 m2] 71)) (.cells zItem 73)
  rw [show (w.alloc (.cells #[.int .i64 k2, .string n2, .string h2, .int .i64 m2] 71)).heap.size = w.heap.size + 1 from by simp] at this
  exact this

set_option maxRecDepth 100000 in
set_option maxHeartbeats 400000 in
theorem find_in (g n cap : Nat) (l : List Item) (k2 : Int) (n2 h2 : ByteArray) (m2 : Int) (w : World) (hl : l.length ≤ 24) (hn : n ≤ l.length) (hit : ItemsIn w g l) :
    Calls Try.prog 35 #[.slice (some ⟨g, 0, none⟩) n cap, .agg #[.int .i64 k2, .string n2, .string h2, .int .i64 m2]] w fun e w' =>
      e = .returned (findV (l.take n) (keyP k2 n2 h2 m2)) ∧ Below w.heap.size w w' := by
  have hg := hit.1
  obtain ⟨f1, f2, f3, f4, f5, f6, f7⟩ := findW_facts w k2 n2 h2 m2
  have hit0 := hit.below f1 hg
  go_enter Try.func35, Try.ntmps35
  go_wp2
  generalize hW : findW w k2 n2 h2 m2 = W0 at *
  unfold findW at hW
  rw [hW]
  clear hW hit
  go_loopw [6] (fun i wr => ∃ k : Nat, k ≤ n ∧ i = .int .i64 k ∧ (l.take k).any (keyP k2 n2 h2 m2) = false ∧ Below (w.heap.size + 2) W0 wr) (fun i _ => n - (intOf i).toNat)
  case atStart => exact ⟨0, Nat.zero_le _, rfl, by simp, Below.refl _ _⟩
  case round =>
    obtain ⟨k, hk, rfl, hno, hbe⟩ := hrel
    have Hno := hide hno
    clear hno
    have b0 := (hbe.cell (p := ⟨w.heap.size, 0, none⟩) (by simp)).trans f4
    have b1 := (hbe.cell (p := ⟨w.heap.size, 1, none⟩) (by simp)).trans f5
    have b2 := (hbe.cell (p := ⟨w.heap.size, 2, none⟩) (by simp)).trans f6
    have b3 := (hbe.cell (p := ⟨w.heap.size, 3, none⟩) (by simp)).trans f7
    have hz := (hbe.block (w.heap.size + 1) (by omega)).trans f3
    have hsz : w.heap.size + 2 ≤ wr.heap.size := by have := hbe.size; omega
    by_cases hlt : k < n
    · have hi2 := (hit0.2 k (by omega)).below hbe (by omega)
      obtain ⟨x, hx⟩ : ∃ x, x = l[k] := ⟨_, rfl⟩
      rw [← hx] at hi2
      have Hi := hide hi2
      obtain ⟨c0, c1, c2, c3, c4, c5, c6, c7, c8⟩ := hi2
      have hlt' : (k : Int) < (n : Int) := by omega
      have Hx : Hid (x = l[k]) := hx
      clear hx
      cases hd : decide ((x.kind : Int) = k2 ∧ x.name = n2 ∧ x.host = h2 ∧ x.number = m2) with
      | true =>
        have hsame : ∀ wx, Calls Try.prog 61 #[.agg #[.int .i64 x.kind, .string x.name, .string x.host, .int .i64 x.number], .agg #[.int .i64 k2, .string n2, .string h2, .int .i64 m2]] wx fun e w' => e = .returned (.bool true) ∧ Below wx.heap.size wx w' := by
          intro wx; have := same_any x.kind x.name x.host x.number k2 n2 h2 m2 wx; rw [hd] at this; exact this
        have hfin : findV (l.take n) (keyP k2 n2 h2 m2) = .tuple #[.agg x.cells, .bool true] := findV_hit (by rw [find_hit hlt hn (unhide Hno) (by rw [← unhide Hx]; exact hd), ← unhide Hx])
        have Hf := hide hfin
        clear hfin hd
        have Hs := hide hsame
        clear hsame
        go_wp2
        go_region_with (go_at_call 61; refine (unhide Hs _).mono ?_; rintro e w1 ⟨rfl, hb1⟩)
        all_goals
          have hb2 : Below wr.heap.size wr w1 := (Below.refl wr.heap.size wr).drew.trans hb1
          clear c0 c1 c2 c3 c4 c5 c6 c7 c8 b0 b1 b2 b3
          obtain ⟨c0, c1, c2, c3, c4, c5, c6, c7, c8⟩ := (unhide Hi).below hb2 (by omega)
          obtain ⟨z0, z1, z2, z3, z4, z5, z6, z7, z8, y0, y1, y2, y3, y4, y5, y6, y7, y8⟩ := Cells9.of_block ((hb2.block (w.heap.size + 1) (by omega)).trans hz)
          have HB := hide ((f1.trans (hbe.mono (by omega))).trans (hb2.mono (by omega : w.heap.size ≤ _)))
          clear hb1 hb2 hbe
          go_wp2
          rw [unhide Hf]
          refine bodyPost_ret (v := .tuple #[.agg x.cells, .bool true]) (by simp [results, Try.results35, go_sem, z0, z1, z2, z3, z4, z5, z6, z7, z8, Item.cells]) rfl ⟨rfl, ?_⟩
          exact below_set9 (unhide HB) (by omega) 0 _ _ _ _ _ _ _ _ _
      | false =>
        have hsame : ∀ wx, Calls Try.prog 61 #[.agg #[.int .i64 x.kind, .string x.name, .string x.host, .int .i64 x.number], .agg #[.int .i64 k2, .string n2, .string h2, .int .i64 m2]] wx fun e w' => e = .returned (.bool false) ∧ Below wx.heap.size wx w' := by
          intro wx; have := same_any x.kind x.name x.host x.number k2 n2 h2 m2 wx; rw [hd] at this; exact this
        have hstep : (l.take (k + 1)).any (keyP k2 n2 h2 m2) = false := by
          rw [List.take_succ_eq_append_getElem (by omega), List.any_append, Hno.out, ← Hx.out]
          simpa [keyP] using hd
        have Hf := hide hstep
        clear hstep hd
        have Hs := hide hsame
        clear hsame
        go_wp2
        go_region_with (go_at_call 61; refine (unhide Hs _).mono ?_; rintro e w1 ⟨rfl, hb1⟩)
        all_goals
          go_wp2
          go_roundw
          case rel => exact ⟨k + 1, by omega, by go_num, Hf.out, hbe.drew.trans (hb1.mono (by simp; omega))⟩
          case measure => simp [intOf]; omega
    · have : k = n := by omega
      subst this
      have Hf := hide (findV_miss (unhide Hno))
      obtain ⟨z0, z1, z2, z3, z4, z5, z6, z7, z8, y0, y1, y2, y3, y4, y5, y6, y7, y8⟩ := Cells9.of_block hz
      have HB := hide (f1.trans (hbe.mono (by omega)))
      clear hbe
      go_wp2
      rw [unhide Hf]
      refine bodyPost_ret (v := .tuple #[.agg zItem, .bool false]) (by simp [results, Try.results35, go_sem, z0, z1, z2, z3, z4, z5, z6, z7, z8, zItem]) rfl ⟨rfl, ?_⟩
      exact below_set9 (unhide HB) (by omega) 0 _ _ _ _ _ _ _ _ _

set_option maxHeartbeats 400000 in
theorem find_nil (k2 : Int) (n2 h2 : ByteArray) (m2 : Int) (w : World) :
    Calls Try.prog 35 #[.slice none 0 0, .agg #[.int .i64 k2, .string n2, .string h2, .int .i64 m2]] w fun e w' => e = .returned (.tuple #[.agg zItem, .bool false]) ∧ Below w.heap.size w w' := by
  obtain ⟨f1, f2, f3, f4, f5, f6, f7⟩ := findW_facts w k2 n2 h2 m2
  go_enter Try.func35, Try.ntmps35
  go_wp2
  generalize hW : findW w k2 n2 h2 m2 = W0 at *
  unfold findW at hW
  rw [hW]
  clear hW
  refine wp_loop_rounds 1 ?_
  rw [rounds_succ]
  obtain ⟨z0, z1, z2, z3, z4, z5, z6, z7, z8, y0, y1, y2, y3, y4, y5, y6, y7, y8⟩ := Cells9.of_block f3
  go_wp2
  refine bodyPost_ret (v := .tuple #[.agg zItem, .bool false]) (by simp [results, Try.results35, go_sem, z0, z1, z2, z3, z4, z5, z6, z7, z8, zItem]) rfl ⟨rfl, ?_⟩
  exact below_set9 f1 (by omega) 0 _ _ _ _ _ _ _ _ _

set_option maxHeartbeats 400000 in
/-- 'Has', from what Find tells. -/
theorem has_of (v : Value) (k2 : Int) (n2 h2 : ByteArray) (m2 : Int) (x : Item) (b : Bool) (w : World)
    (hf : ∀ wx, Below w.heap.size w wx → Calls Try.prog 35 #[v, .agg #[.int .i64 k2, .string n2, .string h2, .int .i64 m2]] wx fun e w' => e = .returned (.tuple #[.agg x.cells, .bool b]) ∧ Below wx.heap.size wx w') :
    Calls Try.prog 80 #[v, .agg #[.int .i64 k2, .string n2, .string h2, .int .i64 m2]] w fun e w' => e = .returned (.bool b) ∧ Below w.heap.size w w' := by
  have hbn : Below w.heap.size w (w.alloc (.cells #[.int .i64 k2, .string n2, .string h2, .int .i64 m2] 71)) := (Below.refl _ _).alloc (Nat.le_refl _) _
  have HF := hide (hf _ hbn)
  have hle : w.heap.size ≤ (w.alloc (.cells #[.int .i64 k2, .string n2, .string h2, .int .i64 m2] 71)).heap.size := hbn.size
  have hd : x.cells = #[.int .i64 x.kind, .string x.name, .string x.host, .int .i64 x.number, .int .i64 x.size, .string x.disk, .bool x.only, .int .i64 x.lun, .string x.text] := rfl
  clear hf
  go_enter Try.func80, Try.ntmps80
  go_wp2_with fail
  refine (unhide HF).mono ?_
  rintro e w1 ⟨rfl, hb1⟩
  have hb2 := hbn.trans (hb1.mono hle)
  have hs2 := hb2.size
  go_wp2_with fail
  go_ret
  exact ⟨rfl, hb2.alloc hs2 _⟩

theorem has_in (g n cap : Nat) (l : List Item) (k2 : Int) (n2 h2 : ByteArray) (m2 : Int) (w : World) (hl : l.length ≤ 24) (hn : n ≤ l.length) (hit : ItemsIn w g l) :
    Calls Try.prog 80 #[.slice (some ⟨g, 0, none⟩) n cap, .agg #[.int .i64 k2, .string n2, .string h2, .int .i64 m2]] w fun e w' =>
      e = .returned (.bool ((l.take n).any fun x => decide ((x.kind : Int) = k2 ∧ x.name = n2 ∧ x.host = h2 ∧ x.number = m2))) ∧ Below w.heap.size w w' :=
  has_of _ k2 n2 h2 m2 (((l.take n).find? (keyP k2 n2 h2 m2)).getD noItem) ((l.take n).any (keyP k2 n2 h2 m2)) w fun wx hb => find_in g n cap l k2 n2 h2 m2 wx hl hn (hit.below hb hit.1)

end Go.Proofs.Ytdlhgbhaeedbdab
