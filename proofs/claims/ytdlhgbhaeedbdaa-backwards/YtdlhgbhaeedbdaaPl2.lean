/- 'Named', at whatever list of items. -/
import Derived.Test.YtdlhgbhaeedbdaaPl1
namespace Go.Proofs.Ytdlhgbhaeedbdaa
open Go.RowKit

/-- Are two keys the same? -/
def sameKey (a b : Key) : Bool := decide (a.kind = b.kind ∧ a.name = b.name ∧ a.host = b.host ∧ a.number = b.number)

/-- Does one of the items name what has the key? -/
def namedB (l : List Item) (k : Key) : Bool := l.any fun x => (namesOf x).any fun q => sameKey q k

theorem keyAt_below {B : Nat} {w w' : World} {g o : Nat} {y : Key} (h : KeyAt w g o y) (hb : Below B w w') (hg : g < B) : KeyAt w' g o y :=
  ⟨(hb.cell (p := ⟨g, o, none⟩) hg).trans h.c0, (hb.cell (p := ⟨g, o + 1, none⟩) hg).trans h.c1, (hb.cell (p := ⟨g, o + 2, none⟩) hg).trans h.c2, (hb.cell (p := ⟨g, o + 3, none⟩) hg).trans h.c3⟩

set_option maxRecDepth 100000 in
set_option maxHeartbeats 1000000 in
theorem named_at (v : Value) (l : List Item) (y : Key) (w : World) (hl : l.length ≤ 24) (hv : ItemsAt w v l) :
    Calls Try.prog 86 #[v, .agg #[.int .i64 y.kind, .string y.name, .string y.host, .int .i64 y.number]] w fun e w' => e = .returned (.bool (namedB l y)) ∧ Below w.heap.size w w' := by
  rcases hv with ⟨rfl, rfl⟩ | ⟨g, cap, rfl, hcap, hit⟩
  · go_enter Try.func86, Try.ntmps86
    go_wp2
    refine wp_loop_rounds 1 ?_
    rw [rounds_succ]
    go_wp2
    go_ret
    exact ⟨rfl, (Below.refl _ _).alloc (Nat.le_refl _) _⟩
  · have hg := hit.1
    have b0 : (w.alloc (.cells #[.int .i64 y.kind, .string y.name, .string y.host, .int .i64 y.number] 97)).cell? ⟨w.heap.size, 0, none⟩ = some (.int .i64 y.kind) := by go_simp
    have b1 : (w.alloc (.cells #[.int .i64 y.kind, .string y.name, .string y.host, .int .i64 y.number] 97)).cell? ⟨w.heap.size, 1, none⟩ = some (.string y.name) := by go_simp
    have b2 : (w.alloc (.cells #[.int .i64 y.kind, .string y.name, .string y.host, .int .i64 y.number] 97)).cell? ⟨w.heap.size, 2, none⟩ = some (.string y.host) := by go_simp
    have b3 : (w.alloc (.cells #[.int .i64 y.kind, .string y.name, .string y.host, .int .i64 y.number] 97)).cell? ⟨w.heap.size, 3, none⟩ = some (.int .i64 y.number) := by go_simp
    have hb0 : Below (w.heap.size + 1) (w.alloc (.cells #[.int .i64 y.kind, .string y.name, .string y.host, .int .i64 y.number] 97)) (w.alloc (.cells #[.int .i64 y.kind, .string y.name, .string y.host, .int .i64 y.number] 97)) := Below.refl _ _
    have hit0 := hit.below ((Below.refl w.heap.size w).alloc (Nat.le_refl _) (.cells #[.int .i64 y.kind, .string y.name, .string y.host, .int .i64 y.number] 97)) hg
    go_enter Try.func86, Try.ntmps86
    go_wp2
    have hs0 : (w.alloc (.cells #[.int .i64 y.kind, .string y.name, .string y.host, .int .i64 y.number] 97)).heap.size = w.heap.size + 1 := by simp
    generalize hW : w.alloc (.cells #[.int .i64 y.kind, .string y.name, .string y.host, .int .i64 y.number] 97) = w0 at *
    have hfin : Below w.heap.size w w0 := by rw [← hW]; exact (Below.refl _ _).alloc (Nat.le_refl _) _
    clear hW hit
    go_loopw [5] (fun i wr => ∃ k : Nat, k ≤ l.length ∧ i = .int .i64 k ∧ namedB (l.take k) y = false ∧ Below (w.heap.size + 1) w0 wr) (fun i _ => l.length - (intOf i).toNat)
    case atStart => exact ⟨0, Nat.zero_le _, rfl, rfl, hb0⟩
    case round =>
      obtain ⟨k, hk, rfl, hno, hbe⟩ := hrel
      have Hno := hide hno
      clear hno
      by_cases hlt : k < l.length
      · obtain ⟨x, hx⟩ : ∃ x, x = l[k] := ⟨_, rfl⟩
        have hi := (hit0.2 k hlt).below hbe (by omega)
        rw [← hx] at hi
        obtain ⟨c0, c1, c2, c3, c4, c5, c6, c7, c8⟩ := hi
        have Hx := hide hx
        have hlt' : (k : Int) < (l.length : Int) := by omega
        have hsz := hbe.size
        rw [hs0] at hsz
        clear hx
        go_wp2_with fail
        refine (names_any x _).mono ?_
        rintro e w1 ⟨kv, rfl, hkv, hb1⟩
        have hbe1 : Below (w.heap.size + 1) w0 w1 := hbe.trans (hb1.mono hsz)
        have hsz1 := hb1.size
        have hkl := namesOf_len x
        clear c0 c1 c2 c3 c4 c5 c6 c7 c8
        have hstep : namedB (l.take (k + 1)) y = ((namesOf x).any fun q => sameKey q y) := by
          unfold namedB
          rw [List.take_succ_eq_append_getElem hlt, List.any_append, show (l.take k).any _ = false from unhide Hno, ← unhide Hx]
          simp
        have Hst := hide hstep
        clear hstep
        rcases hkv with ⟨rfl, hnil⟩ | ⟨kg, kc, rfl, _, hkg, hk2⟩
        · have hst : namedB (l.take (k + 1)) y = false := by rw [unhide Hst, hnil]; rfl
          have H2 := hide hst
          clear hst hnil hkl
          go_wp2
          refine wp_loop_rounds 1 ?_
          rw [rounds_succ]
          go_wp2
          go_roundw
          case rel => exact ⟨k + 1, by omega, by go_num, unhide H2, hbe1⟩
          case measure => simp [intOf]; omega
        · go_wp2
          go_loopw [7] (fun i wr => ∃ m : Nat, m ≤ (namesOf x).length ∧ i = .int .i64 m ∧ (((namesOf x).take m).any fun q => sameKey q y) = false ∧ Below (w.heap.size + 1) w0 wr ∧ Below w1.heap.size w1 wr) (fun i _ => (namesOf x).length - (intOf i).toNat)
          case atStart => exact ⟨0, Nat.zero_le _, rfl, rfl, hbe1, Below.refl _ _⟩
          case round =>
            obtain ⟨m, hm, rfl, hno2, hbe2, hbe3⟩ := hrel
            have Hno2 := hide hno2
            clear hno2
            by_cases hlt2 : m < (namesOf x).length
            · obtain ⟨q, hq⟩ : ∃ q, q = (namesOf x)[m] := ⟨_, rfl⟩
              have hkq := keyAt_below (hk2 m hlt2) hbe3 hkg
              rw [← hq] at hkq
              obtain ⟨e0, e1, e2, e3⟩ := hkq
              have a0 := (hbe2.cell (p := ⟨w.heap.size, 0, none⟩) (by simp)).trans b0
              have a1 := (hbe2.cell (p := ⟨w.heap.size, 1, none⟩) (by simp)).trans b1
              have a2 := (hbe2.cell (p := ⟨w.heap.size, 2, none⟩) (by simp)).trans b2
              have a3 := (hbe2.cell (p := ⟨w.heap.size, 3, none⟩) (by simp)).trans b3
              have hlt2' : (m : Int) < ((namesOf x).length : Int) := by omega
              have hst2 : (((namesOf x).take (m + 1)).any fun q => sameKey q y) = sameKey q y := by
                rw [List.take_succ_eq_append_getElem hlt2, List.any_append, unhide Hno2, ← hq]; simp
              have hmem : q ∈ namesOf x := by rw [hq]; exact List.getElem_mem hlt2
              have hsz2 := hbe2.size
              rw [hs0] at hsz2
              have hsz3 := hbe3.size
              clear hq
              cases hd : sameKey q y with
              | true =>
                have hsame : ∀ wx, Calls Try.prog 96 #[.agg #[.int .i64 q.kind, .string q.name, .string q.host, .int .i64 q.number], .agg #[.int .i64 y.kind, .string y.name, .string y.host, .int .i64 y.number]] wx fun e w' => e = .returned (.bool true) ∧ Below wx.heap.size wx w' := by
                  intro wx; have := same_any q.kind q.name q.host q.number y.kind y.name y.host y.number wx; rw [show decide (q.kind = y.kind ∧ q.name = y.name ∧ q.host = y.host ∧ q.number = y.number) = true from hd] at this; exact this
                have hf : namedB l y = true := by
                  unfold namedB
                  rw [List.any_eq_true]
                  exact ⟨x, by rw [unhide Hx]; exact List.getElem_mem hlt, by rw [List.any_eq_true]; exact ⟨q, hmem, hd⟩⟩
                have Hf := hide hf
                have Hs := hide hsame
                clear hf hsame hd hst2 hmem
                go_wp2
                go_region_with (go_at_call 96; refine (unhide Hs _).mono ?_; rintro e w2 ⟨rfl, hb2⟩)
                all_goals
                  go_wp2
                  go_ret
                  exact ⟨ret_bool (unhide Hf).symm, hfin.trans ((hbe2.drew.mono (by omega)).trans (hb2.mono (by simp; omega)))⟩
              | false =>
                have hsame : ∀ wx, Calls Try.prog 96 #[.agg #[.int .i64 q.kind, .string q.name, .string q.host, .int .i64 q.number], .agg #[.int .i64 y.kind, .string y.name, .string y.host, .int .i64 y.number]] wx fun e w' => e = .returned (.bool false) ∧ Below wx.heap.size wx w' := by
                  intro wx; have := same_any q.kind q.name q.host q.number y.kind y.name y.host y.number wx; rw [show decide (q.kind = y.kind ∧ q.name = y.name ∧ q.host = y.host ∧ q.number = y.number) = false from hd] at this; exact this
                rw [hd] at hst2
                have Hf := hide hst2
                have Hs := hide hsame
                clear hsame hd hst2 hmem
                go_wp2
                go_region_with (go_at_call 96; refine (unhide Hs _).mono ?_; rintro e w2 ⟨rfl, hb2⟩)
                all_goals
                  go_wp2
                  go_roundw
                  case rel => exact ⟨m + 1, by omega, by go_num, unhide Hf, hbe2.drew.trans (hb2.mono (by simp; omega)), hbe3.drew.trans (hb2.mono (by simp; omega))⟩
                  case measure => simp [intOf]; omega
            · have hst : namedB (l.take (k + 1)) y = false := by
                have := unhide Hno2
                rw [List.take_of_length_le (by omega)] at this
                rw [unhide Hst]; exact this
              have H2 := hide hst
              clear hst
              go_wp2
              go_roundw
              case rel => exact ⟨k + 1, by omega, by go_num, unhide H2, hbe2⟩
              case measure => simp [intOf]; omega
      · have hno := unhide Hno
        rw [List.take_of_length_le (by omega)] at hno
        have Hf := hide hno
        clear hno
        go_wp2
        go_ret
        exact ⟨ret_bool (unhide Hf).symm, hfin.trans (hbe.mono (by omega))⟩

end Go.Proofs.Ytdlhgbhaeedbdaa
