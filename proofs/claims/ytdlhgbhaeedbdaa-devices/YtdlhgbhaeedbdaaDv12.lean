/- The law's 'reads'. -/
import Derived.Test.YtdlhgbhaeedbdaaDv11
namespace Go.Proofs.Ytdlhgbhaeedbdaa
open Go.RowKit

set_option maxHeartbeats 400000 in
theorem dnum_any (x : Int) (w : World) : Calls Try.prog 17 #[.int .i64 x] w fun e w' => e = .returned (.int .i64 x) ∧ w' = w := by
  go_enter Try.func17, Try.ntmps17
  go_wp2
  go_ret
  exact ⟨rfl, rfl⟩

theorem conv_nil (w : World) : (convert 30 9 (.slice none 0 0)).run Try.prog w = .ok (.string ⟨#[]⟩) w :=
  run_convert_bytes_nil w 30 5 Try.underlying30 Try.underlying5 0 0 9 Try.underlying9

theorem eq_nil (w : World) : Sem.run Try.prog (binOp BinOp.eql 30 (.slice none 0 0) (.slice none 0 0)) w = .ok (.bool true) w := by kernel_rfl

set_option maxRecDepth 100000 in
set_option maxHeartbeats 400000 in
theorem reads_arg (b1 b2 : Nat) (i : Int) (w : World) (hi : i < 0 ∨ 64 ≤ i) :
    Calls Try.prog 13 #[.pointer (some ⟨b1, 0, none⟩), .pointer (some ⟨b2, 0, none⟩), .int .i64 i] w fun e w' => e = .returned (.tuple #[.slice none 0 0, .bool true]) ∧ w' = w := by
  have H1 := hide (aread_arg b1 i w hi)
  have H2 := hide (rread_arg b2 i w hi)
  have hcv := conv_nil
  have hnil := eq_nil
  clear hi
  go_enter Try.func13, Try.ntmps13
  go_wp2_with fail
  refine (unhide H1).mono ?_
  rintro e w1 ⟨rfl, hw1⟩
  subst hw1
  go_wp2_with fail
  refine (unhide H2).mono ?_
  rintro e w2 ⟨rfl, hw2⟩
  subst hw2
  go_wp2_with (go_at_call 17; refine (dnum_any _ _).mono ?_; rintro e w3 ⟨rfl, rfl⟩)
  go_ret2
  exact ⟨rfl, rfl⟩

set_option maxRecDepth 100000 in
set_option maxHeartbeats 400000 in
theorem reads_dead (b1 b2 i : Nat) (S U : List Lg) (l1 l2 : Int) (d : Bool) (w : World) (hi : i < 64) (h : Sim w b1 b2 S U l1 l2 d) (hp : spR l1 d = false) :
    Calls Try.prog 13 #[.pointer (some ⟨b1, 0, none⟩), .pointer (some ⟨b2, 0, none⟩), .int .i64 i] w fun e w' => e = .returned (.tuple #[.slice none 0 0, .bool true]) ∧
      Sim w' b1 b2 S U (spLeft l1) (rcLeft l2 d) (spDead l1 d) ∧ ∀ B, B ≤ b1 → B ≤ b2 → Below B w w' := by
  obtain ⟨p1, p2, p3, p4, p5⟩ := h.power
  have H1 := hide (aread_dead b1 i l1 d w hi h.top1 hp h.api.c3 h.api.c4 h.api.fz)
  obtain ⟨a1, a2, a3⟩ := h.api.spend
  have hr := h.ref.keep a3 (by unfold AT; decide) (by unfold AT; decide)
  have H2 := hide (rread_gone b2 i l2 d (spW w b1 l1) hi h.top2 (by rw [← p1]; exact hp) hr.c1 hr.c2 hr.fz)
  obtain ⟨r1, r2, r3⟩ := hr.call
  have ha := a1.keep r3 (by decide) (by decide)
  have HS := hide (show Sim (rcW (spW w b1 l1) b2 l2 d) b1 b2 S U (spLeft l1) (rcLeft l2 d) (spDead l1 d) from ⟨ha, by rw [p2]; exact r1, h.fine, h.sure, h.late, p3, p4, p5⟩)
  have hcv := conv_nil
  have hnil := eq_nil
  clear h hp hr ha r1 a1 p1 p2 p3 p4 p5 r3 a3
  go_enter Try.func13, Try.ntmps13
  go_wp2_with fail
  refine (unhide H1).mono ?_
  rintro e w1 ⟨rfl, hw1⟩
  subst hw1
  go_wp2_with fail
  refine (unhide H2).mono ?_
  rintro e w2 ⟨rfl, hw2⟩
  subst hw2
  go_wp2_with (go_at_call 17; refine (dnum_any _ _).mono ?_; rintro e w3 ⟨rfl, rfl⟩)
  go_ret2
  exact ⟨rfl, unhide HS, fun B h1 h2 => (a2.mono h1).trans (r2.mono h2)⟩

theorem conv_row {w : World} {g : Nat} {L : List Lg} {i : Nat} (hL : Fine L) (h : BytesW w g 32 fun k => byteIn L (i * 32 + k)) :
    (convert 30 9 (.slice (some ⟨g, 0, none⟩) 32 32)).run Try.prog w = .ok (.string (readOf L i)) w := by
  have hs : (readOf L i).data.toList.length = 32 := by rw [Array.length_toList]; exact readOf_size hL i
  have := run_convert_bytes_back (P := Try.prog) w 30 9 5 ⟨g, 0, none⟩ 32 (readOf L i).data.toList Try.underlying30 Try.underlying5 Try.underlying9 (fun j hj => by
    have := h.cell j (by omega)
    have e1 : (i * 32 + j) / 32 = i := by omega
    have e2 : (i * 32 + j) % 32 = j := by omega
    rw [addr_add, this]
    simp only [byteIn, e1, e2, List.getD, List.getElem?_eq_getElem hj, Option.getD_some])
  rw [hs, show (⟨(readOf L i).data.toList.toArray⟩ : ByteArray) = readOf L i from by cases readOf L i; simp] at this
  exact this

set_option maxRecDepth 100000 in
set_option maxHeartbeats 400000 in
theorem reads_ok (b1 b2 i : Nat) (S U : List Lg) (l1 l2 : Int) (d : Bool) (w : World) (hi : i < 64) (h : Sim w b1 b2 S U l1 l2 d) (hn : (S ++ U).length ≤ 4398046511000) (hp : spR l1 d = true) :
    Calls Try.prog 13 #[.pointer (some ⟨b1, 0, none⟩), .pointer (some ⟨b2, 0, none⟩), .int .i64 i] w fun e w' => ∃ g, e = .returned (.tuple #[.slice (some ⟨g, 0, none⟩) 32 32, .bool true]) ∧ w.heap.size ≤ g ∧ (∃ f, BytesW w' g 32 f) ∧
      Sim w' b1 b2 S U (spLeft l1) (rcLeft l2 d) (spDead l1 d) ∧ ∀ B, B ≤ b1 → B ≤ b2 → Below B w w' := by
  obtain ⟨p1, p2, p3, p4, p5⟩ := h.power
  obtain ⟨a1, a2, a3⟩ := h.api.spend
  have H1 := hide (aread_ok b1 i l1 d w (byteIn (S ++ U)) hi h.top1 hp h.api.c3 h.api.c4 h.api.fz a1.ce a1.lt)
  have hr0 := h.ref.keep a3 (by unfold AT; decide) (by unfold AT; decide)
  have HH := hide h
  have hsz := a3.size
  have hb2 := hr0.lt
  have hb1 := a1.lt
  have HR0 := hide hr0
  have HA1 := hide a1
  have hpr : rcR l2 d = true := by rw [← p1]; exact hp
  clear h a1 hr0 a3 hp p1
  go_enter Try.func13, Try.ntmps13
  go_wp2_with fail
  refine (unhide H1).mono ?_
  rintro e w1 ⟨rfl, hbw, hbe⟩
  have hr1 := (unhide HR0).keep (T := AT) (TK.of_below hbe) (by unfold AT; decide) (by unfold AT; decide)
  have ha1 := (unhide HA1).keep (T := RT) (TK.of_below hbe) (by unfold RT; decide) (by unfold RT; decide)
  obtain ⟨r1, r2, r3⟩ := hr1.call
  obtain ⟨v, c0, hlog⟩ := r1.c0
  have H2 := hide (rread_ok b2 i l2 d w1 (S ++ U) v hi (unhide HH).top2 hpr hn hr1.c1 hr1.c2 hr1.fz c0 hlog)
  go_wp2_with fail
  refine (unhide H2).mono ?_
  rintro e w2 ⟨rfl, hb3⟩
  have ht2 : TK RT w1 w2 := TK.trans r3 (TK.of_below hb3)
  obtain ⟨cs, fr, hty⟩ := hbw.ty
  have hblk := ht2.block _ cs _ fr hty (by unfold RT; decide)
  have hbw2 : BytesW w2 (spW w b1 l1).heap.size 32 (fun k => byteIn (S ++ U) (i * 32 + k)) :=
    ⟨fun k hk => (World.cell?_of_block hblk).trans (hbw.cell k hk), fun o => (World.frozen?_of_block hblk).trans (hbw.fz o), Nat.lt_of_lt_of_le hbw.lt ht2.size, ⟨cs, fr, hblk.trans hty⟩⟩
  have hcv := conv_row (unhide HH).fine hbw2
  have HS := hide (show Sim w2 b1 b2 S U (spLeft l1) (rcLeft l2 d) (spDead l1 d) from
    ⟨ha1.keep ht2 (by unfold RT; decide) (by unfold RT; decide), by rw [p2]; exact r1.keep (T := AT) (TK.of_below hb3) (by unfold AT; decide) (by unfold AT; decide), (unhide HH).fine, (unhide HH).sure, (unhide HH).late, p3, p4, p5⟩)
  have HB := hide (show ∀ B, B ≤ b1 → B ≤ b2 → Below B w w2 from fun B h1 h2 =>
    (a2.mono h1).trans ((hbe.mono (by omega)).trans ((r2.mono h2).trans (hb3.mono (by have := r1.lt; omega)))))
  have HW := hide hbw2
  clear hbw hbe hr1 ha1 r1 r2 r3 c0 hlog hb3 ht2 hty hblk hbw2 p2 p3
  go_wp2_with (go_at_call 17; refine (dnum_any _ _).mono ?_; rintro e w3 ⟨rfl, rfl⟩)
  go_ret2
  exact ⟨_, rfl, hsz, ⟨_, unhide HW⟩, unhide HS, unhide HB⟩

end Go.Proofs.Ytdlhgbhaeedbdaa
