/- The document's device: Write. -/
import Derived.Test.YtdlhgbhaeedbdaaDv5
namespace Go.Proofs.Ytdlhgbhaeedbdaa
open Go.RowKit

theorem Try.infoLate : (Try.prog.info? 91).map (fun i => (i.zero, i.size, i.bytes)) = some (some (.agg #[.int .i64 0, .string ⟨#[]⟩, .bool false]), 3, 32) := by kernel_rfl

def RT (t : TypeId) : Prop := t = 43 ∨ t = 91

set_option maxRecDepth 100000 in
set_option maxHeartbeats 400000 in
theorem rwrite_arg (b : Nat) (i : Int) (s : ByteArray) (w : World) (hi : i < 0 ∨ 64 ≤ i ∨ s.size ≠ 32) :
    Calls Try.prog 45 #[.pointer (some ⟨b, 0, none⟩), .int .i64 i, .string s] w fun e w' => e = .returned (.int .i64 6) ∧ w' = w := by
  by_cases h : i < 0
  · clear hi
    go_enter Try.func45, Try.ntmps45
    go_wp2_with fail
    go_ret
    exact ⟨rfl, rfl⟩
  · by_cases h2 : 64 ≤ i
    · clear hi
      go_enter Try.func45, Try.ntmps45
      go_wp2_with fail
      go_ret
      exact ⟨rfl, rfl⟩
    · have h3 : ((s.size : Int) == 32) = false := by rw [beq_eq_false_iff_ne]; omega
      clear hi
      go_enter Try.func45, Try.ntmps45
      go_wp2_with fail
      go_ret
      exact ⟨rfl, rfl⟩

set_option maxRecDepth 100000 in
set_option maxHeartbeats 400000 in
theorem rwrite_gone (b : Nat) (i : Nat) (s : ByteArray) (w : World) (hi : i < 64) (hs : s.size = 32) (c2 : w.cell? ⟨b, 2, none⟩ = some (.bool true)) :
    Calls Try.prog 45 #[.pointer (some ⟨b, 0, none⟩), .int .i64 i, .string s] w fun e w' => e = .returned (.int .i64 7) ∧ w' = w := by
  have h1 : ¬ (i : Int) < 0 := by omega
  have h2 : ¬ 64 ≤ (i : Int) := by omega
  have h3 : ((s.size : Int) == 32) = true := by rw [beq_iff_eq]; omega
  clear hs
  go_enter Try.func45, Try.ntmps45
  go_wp2_with fail
  go_ret
  exact ⟨rfl, rfl⟩

set_option maxRecDepth 100000 in
set_option maxHeartbeats 400000 in
theorem rwrite_ok (b : Nat) (i : Nat) (s : ByteArray) (L : List Lg) (l : Int) (w : World) (hi : i < 64) (hs : s.size = 32) (hl : l ≤ 9223372036854775807) (hn : L.length ≤ 4398046511000) (h : RefAt w b L l false) :
    Calls Try.prog 45 #[.pointer (some ⟨b, 0, none⟩), .int .i64 i, .string s] w fun e w' => e = .returned (.int .i64 (if rcR l false then 0 else 7)) ∧
      RefAt w' b (L ++ [⟨i, s, false⟩]) (rcLeft l false) (rcGone l false) ∧ Below b w w' ∧ TK RT w w' := by
  have h1 : ¬ (i : Int) < 0 := by omega
  have h2 : ¬ 64 ≤ (i : Int) := by omega
  have h3 : ((s.size : Int) == 32) = true := by rw [beq_iff_eq]; omega
  obtain ⟨res, hres⟩ : ∃ r : Int, r = (if rcR l false then 0 else 7) := ⟨_, rfl⟩
  rw [← hres]
  have Hres := hide hres
  clear hres
  obtain ⟨v, c0, hlog⟩ := h.c0
  obtain ⟨a, cap, rfl⟩ := slice_of_owns hlog
  have c2 := h.c2
  have fz := h.fz
  have hblt := h.lt
  obtain ⟨i0, hinf, hz0, hz1, hz2⟩ := info_parts Try.infoLate
  have HR := hide h
  have Hlog := hide hlog
  clear hs h hlog
  go_enter Try.func45, Try.ntmps45
  go_wp2_with (at_builtin; refine wpList_append_own _ rfl _ _ 41 rfl (b + 1) 91 i0 (.agg #[.int .i64 0, .string ⟨#[]⟩, .bool false]) 3 32 Try.underlying41 hinf hz0 hz1 hz2 rfl (by decide) (.slice a L.length cap) L.length (lgCells L) ?hs ?c0 ⟨w.heap.size, 0, none⟩ 1 1 (Lg.cells ⟨i, s, false⟩) ?hx ?hl ?c1 ?c2 ?c3 ?c4 ?c5 ?_)
  case hl => rfl
  case c0 => exact (unhide Hlog).alloc _
  case c1 => exact fun j u hj => hj
  case c2 => intro u hu; simp [Lg.cells] at hu; rcases hu with rfl | rfl | rfl <;> rfl
  case c3 => unfold maxLen; omega
  case c4 => omega
  case c5 => first | omega | (simp; omega)
  intro v' w2 hown' hgrow _
  obtain ⟨a', cap', rfl⟩ := slice_of_owns hown'
  have hlog' : LogW w2 (b + 1) (.slice a' (L.length + 1) cap') (L ++ [⟨i, s, false⟩]) := by
    unfold LogW
    rw [List.length_append, show lgCells (L ++ [⟨i, s, false⟩]) = lgCells L ++ Lg.cells ⟨i, s, false⟩ by simp [lgCells]]
    exact hown'
  have hB : Below (b + 1) w w2 := ((Below.refl _ _).alloc (by omega) _).grown hgrow (by simp; omega) (fun k e => (World.ownsRow.lt (unhide Hlog) k e).1)
  have hT : TK RT w w2 := (TK.of_below ((Below.refl _ _).alloc (Nat.le_refl _) _)).trans (TK.grown ((unhide Hlog).alloc _) hgrow (.inr rfl))
  have c0' := (hB.cell (p := ⟨b, 0, none⟩) (by simp)).trans c0
  have fz' : ∀ o, w2.frozen? ⟨b, o, none⟩ = false := fun o => (hB.frozen (p := ⟨b, o, none⟩) (by simp)).trans (fz o)
  have hput := (unhide HR).put hB hlog'
  have HP := hide hput
  have hcall := hput.call
  have HC := hide hcall
  have HK := hide (rcall_any b l false _ hl hput.c1 hput.c2 hput.fz)
  obtain ⟨cs, fr, hty⟩ := (unhide HR).ty
  have hT2 : TK RT w (w2.setCell ⟨b, 0, none⟩ (.slice a' (L.length + 1) cap')) := hT.trans (TK.setCell ((hB.block b (by omega)).trans hty) (.inl rfl) _)
  have hB2 : Below b w (w2.setCell ⟨b, 0, none⟩ (.slice a' (L.length + 1) cap')) := Below.setCell (B := b) (hB.mono (Nat.le_succ b)) (p := ⟨b, 0, none⟩) (Nat.le_refl _) _
  clear hgrow hown' hlog' hput hcall hty c2
  cases hr : rcR l false with
  | true =>
    rw [hr] at HK
    go_wp2_with fail
    refine (unhide HK).mono ?_
    rintro e w3 ⟨rfl, hw3⟩
    go_wp2_with fail
    go_ret
    refine ⟨by rw [unhide Hres, hr]; rfl, ?_⟩
    exact ⟨(unhide HC).1, hB2.trans (unhide HC).2.1, hT2.trans (unhide HC).2.2⟩
  | false =>
    rw [hr] at HK
    go_wp2_with fail
    refine (unhide HK).mono ?_
    rintro e w3 ⟨rfl, hw3⟩
    go_wp2_with fail
    go_ret
    refine ⟨by rw [unhide Hres, hr]; rfl, ?_⟩
    exact ⟨(unhide HC).1, hB2.trans (unhide HC).2.1, hT2.trans (unhide HC).2.2⟩

end Go.Proofs.Ytdlhgbhaeedbdaa
