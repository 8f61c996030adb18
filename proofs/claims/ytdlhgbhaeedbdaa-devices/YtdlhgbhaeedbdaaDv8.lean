/- The document's device: Restore. -/
import Derived.Test.YtdlhgbhaeedbdaaDv7
import Derived.Deep.Onto
namespace Go.Proofs.Ytdlhgbhaeedbdaa
open Go.RowKit

def rest1 (keep : Int) (acc : List Lg × Nat) (x : Lg) : List Lg × Nat := if x.sure then (acc.1 ++ [x.mark], acc.2) else (if bitOf keep acc.2 then acc.1 ++ [x.mark] else acc.1, acc.2 + 1)
def restTo (keep : Int) (L : List Lg) (k : Nat) : List Lg × Nat := (L.take k).foldl (rest1 keep) ([], 0)

theorem restTo_succ (keep : Int) {L : List Lg} {k : Nat} (hk : k < L.length) : restTo keep L (k + 1) = rest1 keep (restTo keep L k) L[k] := by
  unfold restTo
  rw [List.take_succ_eq_append_getElem hk, List.foldl_append]
  rfl

theorem restTo_le (keep : Int) (L : List Lg) (k : Nat) (hk : k ≤ L.length) : (restTo keep L k).1.length ≤ k ∧ (restTo keep L k).2 ≤ k := by
  induction k with
  | zero => simp [restTo]
  | succ k ih =>
    have := ih (by omega)
    rw [restTo_succ keep (by omega)]
    unfold rest1
    split
    · simp; omega
    · split <;> simp <;> omega

set_option maxRecDepth 100000 in
set_option maxHeartbeats 1000000 in
theorem rrestore_any (b : Nat) (L : List Lg) (l keep : Int) (d : Bool) (w : World) (hn : L.length ≤ 4398046511000) (h : RefAt w b L l d) :
    Calls Try.prog 21 #[.pointer (some ⟨b, 0, none⟩), .int .i64 keep] w fun e w' => e = .returned (.tuple #[]) ∧
      RefAt w' b (restTo keep L L.length).1 (-1) false ∧ Below b w w' ∧ TK RT w w' := by
  have hnot : ∀ (x : Bool) (w : World), (Op.unary .not (.bool x)).run Try.prog w = .ok (.bool (!x)) w := fun _ _ => rfl
  obtain ⟨v, c0, hlog⟩ := h.c0
  obtain ⟨a, cap, rfl⟩ := slice_of_owns hlog
  have HC := hide h
  have Hlog := hide hlog
  have hblt := h.lt
  obtain ⟨i0, hinf, hz0, hz1, hz2⟩ := info_parts Try.infoLate
  clear h hlog
  go_enter Try.func21, Try.ntmps21
  go_wp2_with fail
  go_loopw [4, 5, 6] (fun lv nv kv wr => ∃ (k n : Nat) (M : List Lg), k ≤ L.length ∧ kv = .int .i64 k ∧ nv = .int .i64 n ∧ restTo keep L k = (M, n) ∧ wr.ownsRow w.heap.size 91 3 lv M.length (lgCells M) ∧ Below w.heap.size w wr) (fun _ _ kv _ => L.length - (intOf kv).toNat)
  case atStart => exact ⟨0, 0, [], Nat.zero_le _, rfl, rfl, rfl, World.ownsRow_nil _ _ _ _, Below.refl _ _⟩
  case round =>
    obtain ⟨k, n, M, hk, rfl, rfl, hrt, hlg, hbe⟩ := hrel
    obtain ⟨am, capm, rfl⟩ := slice_of_owns hlg
    have c0' := (hbe.cell (p := ⟨b, 0, none⟩) hblt).trans c0
    have hle := restTo_le keep L k hk
    rw [hrt] at hle
    obtain ⟨hle1, hle2⟩ := hle
    simp only at hle1 hle2
    have Hrt := hide hrt
    clear hrt
    have hsz := hbe.size
    by_cases hlt : k < L.length
    · have hlt' : (k : Int) < (L.length : Int) := by omega
      obtain ⟨g, rfl, _, hbg, hglt, hcap, hcs⟩ := (unhide Hlog).at hlt
      obtain ⟨q0, q1, q2⟩ := hcs k hlt
      have q0' := (hbe.cell (p := ⟨g, k * 3, none⟩) hglt).trans q0
      have q1' := (hbe.cell (p := ⟨g, k * 3 + 1, none⟩) hglt).trans q1
      have q2' := (hbe.cell (p := ⟨g, k * 3 + 2, none⟩) hglt).trans q2
      have HS := hide (restTo_succ keep hlt)
      generalize L[k] = x at *
      obtain ⟨sec, data, sure⟩ := x
      simp only at q0' q1' q2'
      clear hcs q0 q1 q2
      have Hbit := hide (rbit_any keep n (wr.alloc (.cells #[.int .i64 sec, .string data, .bool sure] 91)) (by omega))
      have Hown := hide (show ∀ o1 o2, ((wr.alloc o1).alloc o2).ownsRow w.heap.size 91 3 (.slice am M.length capm) M.length (lgCells M) from fun o1 o2 => (hlg.alloc o1).alloc o2)
      have Hrow := hide hlg
      clear hlg
      cases sure with
      | true =>
        have HN := hide (show restTo keep L (k + 1) = (M ++ [⟨sec, data, true⟩], n) by rw [unhide HS, unhide Hrt]; rfl)
        go_wp2_with (at_builtin; refine wpList_append_own _ rfl _ _ 41 rfl w.heap.size 91 i0 (.agg #[.int .i64 0, .string ⟨#[]⟩, .bool false]) 3 32 Try.underlying41 hinf hz0 hz1 hz2 rfl (by decide) (.slice am M.length capm) M.length (lgCells M) ?hs ?c0 ⟨wr.heap.size + 1, 0, none⟩ 1 1 (Lg.cells ⟨sec, data, true⟩) ?hx ?hl ?c1 ?c2 ?c3 ?c4 ?c5 ?_)
        case hl => rfl
        case c0 => exact unhide Hown _ _
        case c1 => first | exact fun j u hj => hj | exact fun j u hj => cells_new _ _ _ _ (by simp) j u (by simpa [Lg.cells] using hj)
        case c2 => intro u hu; simp [Lg.cells] at hu; rcases hu with rfl | rfl | rfl <;> rfl
        case c3 => unfold maxLen; omega
        case c4 => omega
        case c5 => first | omega | (simp; omega)
        intro v' w2 hown' hgrow _
        obtain ⟨a', cap', rfl⟩ := slice_of_owns hown'
        have hB2 : Below w.heap.size w w2 := ((hbe.alloc hsz _).alloc (by simp; omega) _).grown hgrow (by simp; omega) (fun k e => (World.ownsRow.lt (unhide Hrow) k e).1)
        have Hrow2 := hide (show w2.ownsRow w.heap.size 91 3 (.slice a' (M.length + 1) cap') (M ++ [(⟨sec, data, true⟩ : Lg)]).length (lgCells (M ++ [⟨sec, data, true⟩])) by
          rw [List.length_append, show lgCells (M ++ [⟨sec, data, true⟩]) = lgCells M ++ Lg.cells ⟨sec, data, true⟩ by simp [lgCells]]
          exact hown')
        clear hgrow hown'
        go_wp2_with fail
        go_roundw
        case rel => exact ⟨k + 1, n, M ++ [⟨sec, data, true⟩], by omega, by go_num, rfl, unhide HN, unhide Hrow2, hB2⟩
        case measure => simp [intOf]; omega
      | false =>
        cases hb : bitOf keep n with
        | true =>
          have HN := hide (show restTo keep L (k + 1) = (M ++ [⟨sec, data, true⟩], n + 1) by rw [unhide HS, unhide Hrt]; simp [rest1, hb, Lg.mark])
          rw [hb] at Hbit
          clear hb
          go_wp2_with (first | (go_at_call 48; refine (unhide Hbit).mono ?_; rintro e w1 ⟨rfl, rfl⟩) | (at_builtin; refine wpList_append_own _ rfl _ _ 41 rfl w.heap.size 91 i0 (.agg #[.int .i64 0, .string ⟨#[]⟩, .bool false]) 3 32 Try.underlying41 hinf hz0 hz1 hz2 rfl (by decide) (.slice am M.length capm) M.length (lgCells M) ?hs ?c0 ⟨wr.heap.size + 1, 0, none⟩ 1 1 (Lg.cells ⟨sec, data, true⟩) ?hx ?hl ?c1 ?c2 ?c3 ?c4 ?c5 ?_))
          case hl => rfl
          case c0 => exact unhide Hown _ _
          case c1 => first | exact fun j u hj => hj | exact fun j u hj => cells_new _ _ _ _ (by simp) j u (by simpa [Lg.cells] using hj)
          case c2 => intro u hu; simp [Lg.cells] at hu; rcases hu with rfl | rfl | rfl <;> rfl
          case c3 => unfold maxLen; omega
          case c4 => omega
          case c5 => first | omega | (simp; omega)
          intro v' w2 hown' hgrow _
          obtain ⟨a', cap', rfl⟩ := slice_of_owns hown'
          have hB2 : Below w.heap.size w w2 := ((hbe.alloc hsz _).alloc (by simp; omega) _).grown hgrow (by simp; omega) (fun k e => (World.ownsRow.lt (unhide Hrow) k e).1)
          have Hrow2 := hide (show w2.ownsRow w.heap.size 91 3 (.slice a' (M.length + 1) cap') (M ++ [(⟨sec, data, true⟩ : Lg)]).length (lgCells (M ++ [⟨sec, data, true⟩])) by
            rw [List.length_append, show lgCells (M ++ [⟨sec, data, true⟩]) = lgCells M ++ Lg.cells ⟨sec, data, true⟩ by simp [lgCells]]
            exact hown')
          clear hgrow hown'
          go_wp2_with fail
          go_roundw
          case rel => exact ⟨k + 1, n + 1, M ++ [⟨sec, data, true⟩], by omega, by go_num, by go_num, unhide HN, unhide Hrow2, hB2⟩
          case measure => simp [intOf]; omega
        | false =>
          have HN := hide (show restTo keep L (k + 1) = (M, n + 1) by rw [unhide HS, unhide Hrt]; simp [rest1, hb])
          rw [hb] at Hbit
          clear hb
          go_wp2_with (go_at_call 48; refine (unhide Hbit).mono ?_; rintro e w1 ⟨rfl, rfl⟩)
          go_roundw
          case rel => exact ⟨k + 1, n + 1, M, by omega, by go_num, by go_num, unhide HN, (unhide Hrow).alloc _, hbe.alloc hsz _⟩
          case measure => simp [intOf]; omega
    · have hlt' : ¬ (k : Int) < (L.length : Int) := by omega
      have hkL : k = L.length := by omega
      have HM := hide (show (restTo keep L L.length).1 = M by rw [← hkL, unhide Hrt])
      have hR := unhide HC
      have HC2 := hide (hR.put (hbe.mono (show b + 1 ≤ w.heap.size by omega)) (show LogW wr (b + 1) (.slice am M.length capm) M from World.ownsRow.mono hlg (by omega)))
      have d1 := (hbe.cell (p := ⟨b, 1, none⟩) hblt).trans hR.c1
      have d2 := (hbe.cell (p := ⟨b, 2, none⟩) hblt).trans hR.c2
      have fz : ∀ o, wr.frozen? ⟨b, o, none⟩ = false := fun o => (hbe.frozen (p := ⟨b, o, none⟩) hblt).trans (hR.fz o)
      have hty := hR.ty
      have HB := hide hbe
      clear hR hkL hlg
      go_wp2_with fail
      go_end0
      obtain ⟨ty, ⟨v, e0, hl0⟩, e1, e2, efz, elt⟩ := unhide HC2
      have hty1 : ∃ cs fr, wr.heap[b]? = some (Obj.cells cs 43 fr) := by
        obtain ⟨cs, fr, hty⟩ := hty
        exact ⟨cs, fr, (hbe.block b hblt).trans hty⟩
      have ty1 := ty_set (o := 1) ty (.int .i64 (-1))
      have ty2 := ty_set (o := 2) ty1 (.bool false)
      rw [unhide HM]
      refine ⟨rfl, ⟨ty2, ⟨v, by go_simp, ownsRow_setCell_below (ownsRow_setCell_below hl0 (by simp) _) (by simp) _⟩, by go_simp, by go_simp, fun o => by simp [fz o], by simpa [World.setCell] using elt⟩, ?_, ?_⟩
      · exact Below.setCell (B := b) (Below.setCell (B := b) (Below.setCell (B := b) (hbe.mono (Nat.le_of_lt hblt)) (p := ⟨b, 0, none⟩) (Nat.le_refl _) _) (p := ⟨b, 1, none⟩) (Nat.le_refl _) _) (p := ⟨b, 2, none⟩) (Nat.le_refl _) _
      · obtain ⟨cs0, fr0, t0⟩ := hty1
        obtain ⟨cs1, fr1, t1⟩ := ty
        obtain ⟨cs2, fr2, t2⟩ := ty1
        exact (((TK.of_below hbe).trans (TK.setCell t0 (.inl rfl) _)).trans (TK.setCell t1 (.inl rfl) _)).trans (TK.setCell t2 (.inl rfl) _)

end Go.Proofs.Ytdlhgbhaeedbdaa
