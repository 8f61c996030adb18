/- The law's 'writes'. -/
import Derived.Test.YtdlhgbhaeedbdaaDv12
import Derived.Test.YtdlhgbhaeedbdaaDv17
namespace Go.Proofs.Ytdlhgbhaeedbdaa
open Go.RowKit

/-- A row of bytes that may be written over. -/
structure RowW (w : World) (g n : Nat) (f : Nat → UInt8) : Prop where
  cell : ∀ k, k < n → w.cell? ⟨g, k, none⟩ = some (.int .u8 (f k).toNat)
  fz : ∀ k, k < n → w.frozen? ⟨g, k, none⟩ = false
  lt : g < w.heap.size
  ty : ∃ cs fr, w.heap[g]? = some (Obj.cells cs 5 fr)

theorem RowW.set {w : World} {g n : Nat} {f : Nat → UInt8} (h : RowW w g n f) {j : Nat} (hj : j < n) (x : UInt8) : RowW (w.setCell ⟨g, j, none⟩ (.int .u8 x.toNat)) g n fun k => if k = j then x else f k := by
  refine ⟨fun k hk => ?_, fun k hk => by simp [h.fz k hk], by simpa [World.setCell] using h.lt, ty_set h.ty _⟩
  by_cases e : k = j
  · subst e
    rw [if_pos rfl]
    exact World.cell?_setCell_same _ _ _ (h.cell k hk)
  · rw [if_neg e]
    exact cell_set_ne (h.cell k hk) e

theorem RowW.keep {T : TypeId → Prop} {w w' : World} {g n : Nat} {f : Nat → UInt8} (h : RowW w g n f) (hk : TK T w w') (hT : ¬ T 5) : RowW w' g n f := by
  obtain ⟨cs, fr, hty⟩ := h.ty
  have hb := hk.block g cs _ fr hty hT
  exact ⟨fun k hn => (World.cell?_of_block hb).trans (h.cell k hn), fun k hn => (World.frozen?_of_block hb).trans (h.fz k hn), Nat.lt_of_lt_of_le h.lt hk.size, ⟨cs, fr, hb.trans hty⟩⟩

def convW (w : World) (s : ByteArray) : World :=
  w.drew.alloc (.cells (bytesRow s (grownCap w s.size 0 5)) 5 ((bytesRow s (grownCap w s.size 0 5)).size, (bytesRow s (grownCap w s.size 0 5)).size + 1))

theorem run_toBytes (w : World) (s : ByteArray) : (convert 9 30 (.string s)).run Try.prog w = .ok (.slice (some ⟨w.heap.size, 0, none⟩) s.size (grownCap w s.size 0 5)) (convW w s) :=
  run_bytes_of_string w 9 30 5 s Try.underlying9 Try.underlying30 Try.underlying5

theorem conv_rowW (w : World) (s : ByteArray) : RowW (convW w s) w.heap.size s.size (fun k => s.data.toList.getD k 0) := by
  have hsz : s.size ≤ (bytesRow s (grownCap w s.size 0 5)).size := by
    simp [bytesRow]
  refine ⟨fun k hk => ?_, fun k hk => ?_, ?_, ⟨_, _, heap_alloc_last w.drew _⟩⟩
  · have hk' : k < s.data.size := hk
    refine (World.cell?_alloc_mark w.drew _ _ _ k).trans ?_
    unfold bytesRow
    rw [Array.getElem?_append_left (by simpa using hk')]
    rw [List.getD, List.getElem?_eq_getElem (by simpa using hk')]
    simp
    exact ⟨_, Array.getElem?_eq_getElem hk', rfl⟩
  · refine (World.frozen?_alloc_mark w.drew _ _ _ _ k).trans ?_
    have : ¬ (bytesRow s (grownCap w s.size 0 5)).size ≤ k := by omega
    simp [this]
  · unfold convW; simp

theorem conv_below (w : World) (s : ByteArray) : Below w.heap.size w (convW w s) := (Below.refl _ _).drew.alloc (Nat.le_refl _) _

theorem run_back {w : World} {g n cap : Nat} {s : ByteArray} (hs : s.size = n) (h : RowW w g n (fun k => s.data.toList.getD k 0)) : (convert 30 9 (.slice (some ⟨g, 0, none⟩) n cap)).run Try.prog w = .ok (.string s) w := by
  have hl : s.data.toList.length = n := by rw [Array.length_toList]; exact hs
  have := run_convert_bytes_back (P := Try.prog) w 30 9 5 ⟨g, 0, none⟩ cap s.data.toList Try.underlying30 Try.underlying5 Try.underlying9 (fun j hj => by
    rw [addr_add, h.cell j (by omega)]
    simp only [List.getD, List.getElem?_eq_getElem hj, Option.getD_some])
  rw [hl, show (⟨s.data.toList.toArray⟩ : ByteArray) = s from by cases s; simp] at this
  exact this

/-- Both devices' types. -/
def WT (t : TypeId) : Prop := AT t ∨ RT t

theorem Sim.keep {T : TypeId → Prop} {w w' : World} {b1 b2 : Nat} {S U : List Lg} {l1 l2 : Int} {d : Bool} (h : Sim w b1 b2 S U l1 l2 d) (hk : TK T w w') (h1 : ∀ t, WT t → ¬ T t) : Sim w' b1 b2 S U l1 l2 d :=
  ⟨h.api.keep hk (h1 _ (.inl (.inl rfl))) (h1 _ (.inl (.inr rfl))), h.ref.keep hk (h1 _ (.inr (.inl rfl))) (h1 _ (.inr (.inr rfl))), h.fine, h.sure, h.late, h.left, h.top1, h.top2⟩

/-- What a step leaves: the devices side by side, at most one write more. -/
def Next (w : World) (b1 b2 n : Nat) (w' : World) : Prop :=
  ∃ S U l1 l2 d, Sim w' b1 b2 S U l1 l2 d ∧ (S ++ U).length ≤ n ∧ (∀ B, B ≤ b1 → B ≤ b2 → Below B w w') ∧ TK WT w w'

theorem Sim.next {w : World} {b1 b2 : Nat} {S U : List Lg} {l1 l2 : Int} {d : Bool} (h : Sim w b1 b2 S U l1 l2 d) {n : Nat} (hn : (S ++ U).length ≤ n) : Next w b1 b2 n w :=
  ⟨S, U, l1, l2, d, h, hn, fun _ _ _ => Below.refl _ _, TK.refl _ _⟩

theorem byteIn_upd (L : List Lg) (x : Lg) : byteIn (L ++ [x]) = upd (byteIn L) x.sec x.data.data.toList := by
  funext j
  rw [byteIn_snoc]
  rfl

/-- Both devices' Write, at one text. -/
theorem writes_two {w : World} {b1 b2 g cap : Nat} {S U : List Lg} {l1 l2 : Int} {d : Bool} (i : Int) (s : ByteArray) (h : Sim w b1 b2 S U l1 l2 d) (hn : (S ++ U).length ≤ 4398046511000) (hr : RowW w g s.size (fun k => s.data.toList.getD k 0)) :
    ∃ (r : Int) (P1 : World → Prop), (Calls Try.prog 44 #[.pointer (some ⟨b1, 0, none⟩), .int .i64 i, .slice (some ⟨g, 0, none⟩) s.size cap] w fun e w' => e = .returned (.int .i64 r) ∧ P1 w') ∧
      ∀ w1, P1 w1 → Calls Try.prog 45 #[.pointer (some ⟨b2, 0, none⟩), .int .i64 i, .string s] w1 fun e w' => e = .returned (.int .i64 r) ∧ Next w b1 b2 ((S ++ U).length + 1) w' := by
  by_cases ha : i < 0 ∨ 64 ≤ i ∨ s.size ≠ 32
  · refine ⟨6, fun w1 => w1 = w, awrite_arg b1 i _ _ _ w ha, fun w1 e => ?_⟩
    subst e
    exact (rwrite_arg b2 i s w1 ha).mono fun e w' ⟨he, hw⟩ => ⟨he, by rw [hw]; exact h.next (Nat.le_succ _)⟩
  · have hs : s.size = 32 := by omega
    obtain ⟨k, rfl⟩ : ∃ k : Nat, i = (k : Int) := ⟨i.toNat, by omega⟩
    have hk : k < 64 := by omega
    rw [hs]
    rw [hs] at hr
    cases d with
    | true =>
      refine ⟨7, fun w1 => w1 = w, awrite_dead b1 k _ _ w hk h.api.c4, fun w1 e => ?_⟩
      subst e
      exact (rwrite_gone b2 k s w1 hk hs h.ref.c2).mono fun e w' ⟨he, hw⟩ => ⟨he, by rw [hw]; exact h.next (Nat.le_succ _)⟩
    | false =>
      obtain ⟨p1, p2, p3, p4, p5⟩ := h.power
      have hU : ∀ x ∈ U, x.sec < 64 ∧ x.data.size = 32 := fun x hx => h.fine x (List.mem_append.2 (.inr hx))
      have hl : (S ++ U).length = S.length + U.length := List.length_append
      refine ⟨_, _, awrite_ok b1 k g cap s (byteIn S) (byteIn (S ++ U)) U l1 w hk hs h.top1 (by omega) hU hr.lt hr.cell h.api, ?_⟩
      rintro w1 ⟨a1, a2, a3⟩
      have hr1 := h.ref.keep a3 (by unfold AT; decide) (by unfold AT; decide)
      refine (rwrite_ok b2 k s (S ++ U) l2 w1 hk hs h.top2 (by omega) hr1).mono ?_
      rintro e w2 ⟨rfl, r1, r2, r3⟩
      refine ⟨by rw [p1], S, U ++ [⟨k, s, false⟩], _, _, _, ⟨?_, ?_, ?_, h.sure, ?_, p3, p4, p5⟩, ?_, fun B h1 h2 => (a2.mono h1).trans (r2.mono h2), (a3.mono fun t ht => .inl ht).trans (r3.mono fun t ht => .inr ht)⟩
      · have := a1.keep r3 (by unfold RT; decide) (by unfold RT; decide)
        rw [← List.append_assoc, byteIn_upd]
        exact this
      · rw [← List.append_assoc, p2]; exact r1
      · rw [← List.append_assoc]; exact fine_snoc h.fine hk hs
      · intro y hy
        rcases List.mem_append.1 hy with hy | hy
        · exact h.late y hy
        · rw [List.mem_singleton.1 hy]
      · simp; omega

theorem Next.trans {w w1 w2 : World} {b1 b2 n : Nat} (h0 : ∀ B, B ≤ b1 → B ≤ b2 → Below B w w1) (h1 : TK WT w w1) (h : Next w1 b1 b2 n w2) : Next w b1 b2 n w2 := by
  obtain ⟨S, U, l1, l2, d, a, b, c, e⟩ := h
  exact ⟨S, U, l1, l2, d, a, b, fun B x y => (h0 B x y).trans (c B x y), h1.trans e⟩

theorem TK.past {T : TypeId → Prop} {w w1 w2 : World} (h : TK T w w1) (k : Below w.heap.size w1 w2) : TK T w w2 :=
  ⟨k.os.trans h.os, k.tape.trans h.tape, k.output.trans h.output, Nat.le_trans h.size k.size, fun i cs t fr hi ht => by
    have hlt : i < w.heap.size := by
      by_cases e : i < w.heap.size
      · exact e
      · rw [Array.getElem?_eq_none (by omega)] at hi; cases hi
    exact (k.block i hlt).trans (h.block i cs t fr hi ht)⟩

theorem not_wt8 : ¬ WT 5 := by unfold WT AT RT; decide

set_option maxRecDepth 100000 in
set_option maxHeartbeats 400000 in
theorem writes_any (b1 b2 : Nat) (i : Int) (s : ByteArray) (S U : List Lg) (l1 l2 : Int) (d : Bool) (w : World) (hs : s.size ≤ 9223372036854775807) (hn : (S ++ U).length ≤ 4398046511000) (h : Sim w b1 b2 S U l1 l2 d) :
    Calls Try.prog 14 #[.pointer (some ⟨b1, 0, none⟩), .pointer (some ⟨b2, 0, none⟩), .int .i64 i, .string s] w fun e w' => e = .returned (.bool true) ∧ Next w b1 b2 ((S ++ U).length + 1) w' := by
  have hc1 := run_toBytes w s
  have hrow := conv_rowW w s
  have hbe := conv_below w s
  have hT0 : TK WT w (convW w s) := TK.of_below hbe
  have hb1 := h.api.lt
  have hb2 := h.ref.lt
  obtain ⟨r, P1, H1, H2⟩ := writes_two (cap := grownCap w s.size 0 5) i s (h.keep (T := fun _ => False) (TK.of_below hbe) (fun _ _ => id)) hn hrow
  have H1 := hide H1
  have H2 := hide H2
  generalize (S ++ U).length + 1 = n at *
  generalize grownCap w s.size 0 5 = cap at *
  generalize convW w s = w0 at *
  clear h hn
  go_enter Try.func14, Try.ntmps14
  go_wp2_with fail
  refine (unhide H1).mono ?_
  rintro e w1 ⟨rfl, hP⟩
  go_wp2_with fail
  refine (unhide H2 w1 hP).mono ?_
  rintro e w2 ⟨rfl, hN⟩
  have hTN := hN
  obtain ⟨_, _, _, _, _, _, _, _, hT⟩ := hTN
  have hrow2 := hrow.keep hT not_wt8
  have hcv := run_back (cap := cap) rfl hrow2
  have HN := hide hN
  clear hN hP
  go_wp2_with fail
  go_loopw [13] (fun kv wr => ∃ k : Nat, k ≤ s.size ∧ kv = .int .i64 k ∧ (∃ f, RowW wr w.heap.size s.size f) ∧ Below w.heap.size w2 wr ∧ TK (fun t => t = 5) w2 wr) (fun kv _ => s.size - (intOf kv).toNat)
  case atStart => exact ⟨0, Nat.zero_le _, rfl, ⟨_, hrow2⟩, Below.refl _ _, TK.refl _ _⟩
  case round =>
    obtain ⟨k, hk, rfl, ⟨f, hf⟩, hb, ht⟩ := hrel
    by_cases hlt : k < s.size
    · have hlt' : (k : Int) < (s.size : Int) := by omega
      have c1 := hf.cell k hlt
      have c2 := hf.fz k hlt
      have HS := hide (hf.set hlt 238)
      obtain ⟨cs, fr, hty⟩ := hf.ty
      have e : ((238 : UInt8).toNat : Int) = 238 := rfl
      rw [e] at HS
      go_wp2_with fail
      go_roundw
      case rel => exact ⟨k + 1, by omega, by go_num, ⟨_, unhide HS⟩, Below.setCell hb (p := ⟨w.heap.size, k, none⟩) (Nat.le_refl _) _, ht.trans (TK.setCell (T := fun t => t = 5) hty rfl _)⟩
      case measure => simp [intOf]; omega
    · have hlt' : ¬ (k : Int) < (s.size : Int) := by omega
      go_wp2_with (go_at_call 17; refine (dnum_any _ _).mono ?_; rintro e w3 ⟨rfl, rfl⟩)
      go_ret
      obtain ⟨S', U', m1, m2, d', q1, q2, q3, q4⟩ := unhide HN
      exact ⟨rfl, S', U', m1, m2, d', q1.keep ht (fun t ht e => not_wt8 (e ▸ ht)), q2, fun B x y => ((hbe.mono (by omega)).trans (q3 B x y)).trans (hb.mono (by omega)), TK.past (hT0.trans q4) hb⟩

end Go.Proofs.Ytdlhgbhaeedbdaa
