/- 'has', 'hasAll'. -/
import Derived.Test.YtgbkkolohloacaaGreatKeys
namespace Go.Proofs.YtgbkkolohloacaaGreat
open Go.RowKit

/-- The item x lies in block g from offset o on. -/
structure ItAt (w : World) (g o : Nat) (x : Item) : Prop where
  c0 : w.cell? ⟨g, o, none⟩ = some (.int .i64 x.kind)
  c1 : w.cell? ⟨g, o + 1, none⟩ = some (.string x.name)
  c2 : w.cell? ⟨g, o + 2, none⟩ = some (.string x.host)
  c3 : w.cell? ⟨g, o + 3, none⟩ = some (.int .i64 x.number)
  c4 : w.cell? ⟨g, o + 4, none⟩ = some (.string x.disk)
  c5 : w.cell? ⟨g, o + 5, none⟩ = some (.int .i64 x.lun)
  c6 : w.cell? ⟨g, o + 6, none⟩ = some (.string x.text)

/-- The items l lie in block g, one behind the other. -/
def ItemsIn (w : World) (g : Nat) (l : List Item) : Prop := g < w.heap.size ∧ ∀ i (h : i < l.length), ItAt w g (i * 7) l[i]

theorem ItAt.below {B : Nat} {w w' : World} {g o : Nat} {x : Item} (h : ItAt w g o x) (hb : Below B w w') (hg : g < B) : ItAt w' g o x :=
  ⟨(hb.cell (p := ⟨g, o, none⟩) hg).trans h.c0, (hb.cell (p := ⟨g, o + 1, none⟩) hg).trans h.c1, (hb.cell (p := ⟨g, o + 2, none⟩) hg).trans h.c2, (hb.cell (p := ⟨g, o + 3, none⟩) hg).trans h.c3,
   (hb.cell (p := ⟨g, o + 4, none⟩) hg).trans h.c4, (hb.cell (p := ⟨g, o + 5, none⟩) hg).trans h.c5, (hb.cell (p := ⟨g, o + 6, none⟩) hg).trans h.c6⟩

theorem ItemsIn.below {B : Nat} {w w' : World} {g : Nat} {l : List Item} (h : ItemsIn w g l) (hb : Below B w w') (hg : g < B) : ItemsIn w' g l :=
  ⟨Nat.lt_of_lt_of_le h.1 hb.size, fun i hi => (h.2 i hi).below hb hg⟩

set_option maxRecDepth 100000 in
set_option maxHeartbeats 400000 in
theorem has_in (g n cap : Nat) (l : List Item) (k2 : Int) (n2 h2 : ByteArray) (m2 : Int) (w : World) (hl : l.length ≤ 24) (hn : n ≤ l.length) (hit : ItemsIn w g l) :
    Calls Tryz.prog 117 #[.slice (some ⟨g, 0, none⟩) n cap, .agg #[.int .i64 k2, .string n2, .string h2, .int .i64 m2]] w fun e w' =>
      e = .returned (.bool ((l.take n).any fun x => decide ((x.kind : Int) = k2 ∧ x.name = n2 ∧ x.host = h2 ∧ x.number = m2))) ∧ Below w.heap.size w w' := by
  have hg := hit.1
  have hb0 : Below (w.heap.size + 1) (w.alloc (.cells #[.int .i64 k2, .string n2, .string h2, .int .i64 m2] 99)) (w.alloc (.cells #[.int .i64 k2, .string n2, .string h2, .int .i64 m2] 99)) := Below.refl _ _
  go_enter Tryz.func117, Tryz.ntmps117
  go_wp2
  go_loopw [5] (fun i wr => ∃ k : Nat, k ≤ n ∧ i = .int .i64 k ∧ ((l.take k).any fun x => decide ((x.kind : Int) = k2 ∧ x.name = n2 ∧ x.host = h2 ∧ x.number = m2)) = false ∧
      Below (w.heap.size + 1) (w.alloc (.cells #[.int .i64 k2, .string n2, .string h2, .int .i64 m2] 99)) wr) (fun i _ => n - (intOf i).toNat)
  case atStart => exact ⟨0, Nat.zero_le _, rfl, by simp, hb0⟩
  case round =>
    obtain ⟨k, hk, rfl, hno, hbe⟩ := hrel
    have Hno : Hid _ := hno
    clear hno
    by_cases hlt : k < n
    · have hi := (hit.2 k (by omega)).below ((Below.refl w.heap.size w).alloc (Nat.le_refl _) (.cells #[.int .i64 k2, .string n2, .string h2, .int .i64 m2] 99)) hg
      have hi2 := hi.below hbe (by omega)
      obtain ⟨x, hx⟩ : ∃ x, x = l[k] := ⟨_, rfl⟩
      rw [← hx] at hi2
      obtain ⟨c0, c1, c2, c3, c4, c5, c6⟩ := hi2
      have b0 : wr.cell? ⟨w.heap.size, 0, none⟩ = some (.int .i64 k2) := (hbe.cell (by simp)).trans (by go_simp)
      have b1 : wr.cell? ⟨w.heap.size, 1, none⟩ = some (.string n2) := (hbe.cell (by simp)).trans (by go_simp)
      have b2 : wr.cell? ⟨w.heap.size, 2, none⟩ = some (.string h2) := (hbe.cell (by simp)).trans (by go_simp)
      have b3 : wr.cell? ⟨w.heap.size, 3, none⟩ = some (.int .i64 m2) := (hbe.cell (by simp)).trans (by go_simp)
      have hlt' : (k : Int) < (n : Int) := by omega
      have Hx : Hid (x = l[k]) := hx
      clear hx hi
      have hstep : ((l.take (k + 1)).any fun x => decide ((x.kind : Int) = k2 ∧ x.name = n2 ∧ x.host = h2 ∧ x.number = m2)) = (decide ((x.kind : Int) = k2 ∧ x.name = n2 ∧ x.host = h2 ∧ x.number = m2)) := by
        rw [List.take_succ_eq_append_getElem (by omega), List.any_append, Hno.out, ← Hx.out]; simp
      have hsz : w.heap.size + 1 ≤ wr.heap.size := by have := hbe.size; simpa using this
      cases hd : decide ((x.kind : Int) = k2 ∧ x.name = n2 ∧ x.host = h2 ∧ x.number = m2) with
      | true =>
        have hsame : ∀ wx, Calls Tryz.prog 131 #[.agg #[.int .i64 x.kind, .string x.name, .string x.host, .int .i64 x.number], .agg #[.int .i64 k2, .string n2, .string h2, .int .i64 m2]] wx fun e w' => e = .returned (.bool true) ∧ Below wx.heap.size wx w' := by
          intro wx; have := same_any x.kind x.name x.host x.number k2 n2 h2 m2 wx; rw [hd] at this; exact this
        have hfin : ((l.take n).any fun x => decide ((x.kind : Int) = k2 ∧ x.name = n2 ∧ x.host = h2 ∧ x.number = m2)) = true := by
          rw [hd] at hstep
          rw [List.any_eq_true] at hstep ⊢
          obtain ⟨y, hy, hp⟩ := hstep
          exact ⟨y, List.mem_of_mem_take (by rw [List.take_take, Nat.min_eq_left (by omega)]; exact hy : y ∈ (l.take n).take (k + 1)), hp⟩
        have Hf : Hid _ := hfin
        clear hfin hstep hd
        have Hs := hide hsame
        clear hsame
        go_wp2
        go_region_with (go_at_call 131; refine (unhide Hs _).mono ?_; rintro e w1 ⟨rfl, hb1⟩)
        all_goals
          go_wp2
          go_ret
          refine ⟨ret_bool Hf.out.symm, ?_⟩
          exact ((Below.refl w.heap.size w).alloc (Nat.le_refl _) _).trans ((hbe.drew.mono (by omega)).trans (hb1.mono (by simp; omega)))
      | false =>
        have hsame : ∀ wx, Calls Tryz.prog 131 #[.agg #[.int .i64 x.kind, .string x.name, .string x.host, .int .i64 x.number], .agg #[.int .i64 k2, .string n2, .string h2, .int .i64 m2]] wx fun e w' => e = .returned (.bool false) ∧ Below wx.heap.size wx w' := by
          intro wx; have := same_any x.kind x.name x.host x.number k2 n2 h2 m2 wx; rw [hd] at this; exact this
        rw [hd] at hstep
        have Hf : Hid _ := hstep
        clear hstep hd
        have Hs := hide hsame
        clear hsame
        go_wp2
        go_region_with (go_at_call 131; refine (unhide Hs _).mono ?_; rintro e w1 ⟨rfl, hb1⟩)
        all_goals
          go_wp2
          go_roundw
          case rel => exact ⟨k + 1, by omega, by go_num, Hf.out, hbe.drew.trans (hb1.mono (by simp; omega))⟩
          case measure => simp [intOf]; omega
    · have : k = n := by omega
      subst this
      have Hf : Hid _ := Hno.out
      go_wp2
      go_ret
      exact ⟨ret_bool Hf.out.symm, ((Below.refl w.heap.size w).alloc (Nat.le_refl _) _).trans (hbe.mono (by omega))⟩

end Go.Proofs.YtgbkkolohloacaaGreat
