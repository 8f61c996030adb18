/- Each step of a script of the devices, the two side by side. -/
import Derived.Test.YtdlhgbhaeedbdaaDv18
namespace Go.Proofs.Ytdlhgbhaeedbdaa
open Go.RowKit

/-- The devices side by side, at most n writes. -/
def SimN (w : World) (b1 b2 n : Nat) : Prop := ∃ S U l1 l2 d, Sim w b1 b2 S U l1 l2 d ∧ (S ++ U).length ≤ n

/-- What the last Read gave. -/
def BV (B : Nat) (w : World) (v : Value) : Prop := v = .slice none 0 0 ∨ ∃ g f, v = .slice (some ⟨g, 0, none⟩) 32 32 ∧ B ≤ g ∧ RowW w g 32 f

theorem BV.keep {T : TypeId → Prop} {B : Nat} {w w' : World} {v : Value} (h : BV B w v) (hk : TK T w w') (hT : ¬ T 5) : BV B w' v := by
  rcases h with h | ⟨g, f, h1, h2, h3⟩
  · exact .inl h
  · exact .inr ⟨g, f, h1, h2, h3.keep hk hT⟩

theorem reads_any (b1 b2 : Nat) (i : Int) (w : World) (n : Nat) (hn : n ≤ 4398046511000) (h : SimN w b1 b2 n) :
    Calls Try.prog 13 #[.pointer (some ⟨b1, 0, none⟩), .pointer (some ⟨b2, 0, none⟩), .int .i64 i] w fun e w' => ∃ v, e = .returned (.tuple #[v, .bool true]) ∧ BV w.heap.size w' v ∧ SimN w' b1 b2 n ∧ ∀ B, B ≤ b1 → B ≤ b2 → Below B w w' := by
  obtain ⟨S, U, l1, l2, d, hS, hl⟩ := h
  by_cases hi : i < 0 ∨ 64 ≤ i
  · refine (reads_arg b1 b2 i w hi).mono ?_
    rintro e w' ⟨rfl, rfl⟩
    exact ⟨_, rfl, .inl rfl, ⟨S, U, l1, l2, d, hS, hl⟩, fun _ _ _ => Below.refl _ _⟩
  · obtain ⟨k, rfl⟩ : ∃ k : Nat, i = (k : Int) := ⟨i.toNat, by omega⟩
    have hk : k < 64 := by omega
    cases hp : spR l1 d with
    | false =>
      refine (reads_dead b1 b2 k S U l1 l2 d w hk hS hp).mono ?_
      rintro e w' ⟨rfl, h1, h2⟩
      exact ⟨_, rfl, .inl rfl, ⟨_, _, _, _, _, h1, hl⟩, h2⟩
    | true =>
      refine (reads_ok b1 b2 k S U l1 l2 d w hk hS (by omega) hp).mono ?_
      rintro e w' ⟨g, rfl, h0, ⟨f, hf⟩, h1, h2⟩
      exact ⟨_, rfl, .inr ⟨g, f, rfl, h0, hf.cell, fun k _ => hf.fz k, hf.lt, hf.ty⟩, ⟨_, _, _, _, _, h1, hl⟩, h2⟩

/-- The frame of a step that makes no list. -/
def Fr (w : World) (b1 b2 : Nat) (w' : World) : Prop := (∀ B, B ≤ b1 → B ≤ b2 → Below B w w') ∧ TK WT w w'

theorem writes_step (b1 b2 : Nat) (i : Int) (s : ByteArray) (w : World) (n : Nat) (hs : s.size ≤ 9223372036854775807) (hn : n ≤ 4398046511000) (h : SimN w b1 b2 n) :
    Calls Try.prog 14 #[.pointer (some ⟨b1, 0, none⟩), .pointer (some ⟨b2, 0, none⟩), .int .i64 i, .string s] w fun e w' => e = .returned (.bool true) ∧ SimN w' b1 b2 (n + 1) ∧ Fr w b1 b2 w' := by
  obtain ⟨S, U, l1, l2, d, hS, hl⟩ := h
  refine (writes_any b1 b2 i s S U l1 l2 d w hs (by omega) hS).mono ?_
  rintro e w' ⟨he, S', U', m1, m2, d', h1, h2, h3, h4⟩
  exact ⟨he, ⟨S', U', m1, m2, d', h1, by omega⟩, h3, h4⟩

theorem updTo_byte (S U : List Lg) (k : Nat) (hk : k ≤ U.length) : updTo (byteIn S) U k = byteIn (S ++ U.take k) := by
  induction k with
  | zero => simp [updTo]
  | succ k ih => rw [updTo_succ _ _ _ (by omega), ih (by omega), ← byteIn_upd, List.append_assoc, List.take_succ_eq_append_getElem]

theorem fine_mark {L : List Lg} (h : Fine L) : Fine (L.map Lg.mark) := by
  intro x hx
  obtain ⟨y, hy, rfl⟩ := List.mem_map.1 hx
  exact h y hy

theorem flush_two {w : World} {b1 b2 n : Nat} (hn : n ≤ 4398046511000) (h : SimN w b1 b2 n) :
    ∃ (r : Int) (P1 : World → Prop), (Calls Try.prog 15 #[.pointer (some ⟨b1, 0, none⟩)] w fun e w' => e = .returned (.int .i64 r) ∧ P1 w') ∧
      ∀ w1, P1 w1 → Calls Try.prog 16 #[.pointer (some ⟨b2, 0, none⟩)] w1 fun e w' => e = .returned (.int .i64 r) ∧ SimN w' b1 b2 n ∧ Fr w b1 b2 w' := by
  obtain ⟨S, U, l1, l2, d, h, hl⟩ := h
  obtain ⟨p1, p2, p3, p4, p5⟩ := h.power
  have hU : ∀ x ∈ U, x.sec < 64 ∧ x.data.size = 32 := fun x hx => h.fine x (List.mem_append.2 (.inr hx))
  have hll : (S ++ U).length = S.length + U.length := List.length_append
  cases hp : spR l1 d with
  | true =>
    refine ⟨0, _, aflush_ok b1 (byteIn S) (byteIn (S ++ U)) U l1 d w h.top1 (by omega) hU h.api hp, ?_⟩
    rintro w1 ⟨a1, a2, a3⟩
    refine (rflush_any b2 (S ++ U) l2 d w1 h.top2 (by omega) (h.ref.keep a3 (by unfold AT; decide) (by unfold AT; decide))).mono ?_
    rintro e w2 ⟨rfl, r1, r2, r3⟩
    rw [← p1, hp] at r1
    simp only [if_true] at r1
    refine ⟨by rw [← p1, hp]; rfl, ⟨(S ++ U).map Lg.mark, [], _, _, _, ⟨?_, ?_, ?_, ?_, ?_, p3, p4, p5⟩, by simpa using hl⟩, fun B x y => (a2.mono x).trans (r2.mono y), (a3.mono fun t ht => .inl ht).trans (r3.mono fun t ht => .inr ht)⟩
    · have := a1.keep r3 (by unfold RT; decide) (by unfold RT; decide)
      rw [updTo_byte S U _ (Nat.le_refl _), List.take_length] at this
      refine this.congrS (fun j _ => ?_) (fun j _ => ?_)
      · rw [byteIn_mark]
      · rw [List.append_nil, byteIn_mark]
    · rw [List.append_nil, p2]; exact r1
    · rw [List.append_nil]; exact fine_mark h.fine
    · intro x hx
      obtain ⟨y, _, rfl⟩ := List.mem_map.1 hx
      rfl
    · intro x hx; cases hx
  | false =>
    refine ⟨7, _, aflush_dead b1 (byteIn S) (byteIn (S ++ U)) U l1 d w h.top1 h.api hp, ?_⟩
    rintro w1 ⟨a1, a2, a3⟩
    refine (rflush_any b2 (S ++ U) l2 d w1 h.top2 (by omega) (h.ref.keep a3 (by unfold AT; decide) (by unfold AT; decide))).mono ?_
    rintro e w2 ⟨rfl, r1, r2, r3⟩
    rw [← p1, hp] at r1
    simp only [Bool.false_eq_true, if_false] at r1
    exact ⟨by rw [← p1, hp]; rfl, ⟨S, U, _, _, _, ⟨a1.keep r3 (by unfold RT; decide) (by unfold RT; decide), by rw [p2]; exact r1, h.fine, h.sure, h.late, p3, p4, p5⟩, hl⟩, fun B x y => (a2.mono x).trans (r2.mono y), (a3.mono fun t ht => .inl ht).trans (r3.mono fun t ht => .inr ht)⟩

theorem RefAt.arm {w : World} {b : Nat} {L : List Lg} {l : Int} {d : Bool} (h : RefAt w b L l d) (n : Int) :
    RefAt (w.setCell ⟨b, 1, none⟩ (.int .i64 n)) b L n d ∧ Below b w (w.setCell ⟨b, 1, none⟩ (.int .i64 n)) ∧ TK RT w (w.setCell ⟨b, 1, none⟩ (.int .i64 n)) := by
  obtain ⟨⟨cs, fr, hty⟩, ⟨v, c0, hlog⟩, c1, c2, fz, lt⟩ := h
  exact ⟨⟨ty_set ⟨cs, fr, hty⟩ _, ⟨v, cell_set_ne c0 (by omega), ownsRow_setCell_below hlog (by simp) _⟩, World.cell?_setCell_same _ _ _ c1, cell_set_ne c2 (by omega), fun o => by simp [fz o], by simpa [World.setCell] using lt⟩,
    (Below.refl _ _).setCell (p := ⟨b, 1, none⟩) (Nat.le_refl _) _, TK.setCell hty (.inl rfl) _⟩

theorem arm_two {w : World} {b1 b2 n : Nat} (i : Int) (hi : i ≤ 9223372036854775807) (h : SimN w b1 b2 n) :
    ∃ (P1 : World → Prop), (Calls Try.prog 18 #[.pointer (some ⟨b1, 0, none⟩), .int .i64 i] w fun e w' => e = .returned (.tuple #[]) ∧ P1 w' ∧ TK WT w w') ∧
      ∀ w1, P1 w1 → Calls Try.prog 19 #[.pointer (some ⟨b2, 0, none⟩), .int .i64 i] w1 fun e w' => e = .returned (.tuple #[]) ∧ SimN w' b1 b2 n ∧ Fr w b1 b2 w' := by
  obtain ⟨S, U, l1, l2, d, h, hl⟩ := h
  obtain ⟨a1, a2, a3⟩ := h.api.set3 (if i < 0 then -1 else i)
  have hr := h.ref.keep a3 (by unfold AT; decide) (by unfold AT; decide)
  obtain ⟨r1, r2, r3⟩ := hr.arm i
  refine ⟨fun w1 => w1 = w.setCell ⟨b1, 4097, none⟩ (.int .i64 (if i < 0 then -1 else i)), (aarm_any b1 i l1 w h.api.c3 h.api.fz).mono fun e w' ⟨x, y⟩ => ⟨x, y, by rw [y]; exact a3.mono fun t ht => .inl ht⟩, fun w1 e => ?_⟩
  rw [e]
  refine (rarm_any b2 i l2 _ hr.c1 hr.fz).mono ?_
  rintro e w' ⟨he, hw⟩
  rw [hw]
  refine ⟨he, ⟨S, U, _, _, d, ⟨a1.keep r3 (by unfold RT; decide) (by unfold RT; decide), r1, h.fine, h.sure, h.late, fun _ => ?_, ?_, hi⟩, hl⟩, fun B x y => (a2.mono x).trans (r2.mono y), (a3.mono fun t ht => .inl ht).trans (r3.mono fun t ht => .inr ht)⟩
  · by_cases h0 : i < 0
    · rw [if_pos h0]; right; omega
    · rw [if_neg h0]; left; rfl
  · split <;> omega

theorem updB_byte (keep : Int) (S U : List Lg) (k : Nat) (hk : k ≤ U.length) : updB keep (byteIn S) U k = byteIn (S ++ keptTo keep U k) := by
  induction k with
  | zero => simp [updB, keptTo]
  | succ k ih =>
    have hku : k < U.length := by omega
    rw [updB_succ _ _ _ _ hku, ih (by omega)]
    simp only [keptTo, List.getElem?_eq_getElem hku, Option.map_some, Option.toList_some]
    cases bitOf keep k with
    | true =>
      simp only [if_true]
      rw [← List.append_assoc, byteIn_upd]
      rfl
    | false => simp

theorem kept_mem (keep : Int) (U : List Lg) (k : Nat) : ∀ x ∈ keptTo keep U k, x.sure = true ∧ ∃ y ∈ U, x = y.mark := by
  induction k with
  | zero => intro x hx; simp [keptTo] at hx
  | succ k ih =>
    intro x hx
    simp only [keptTo] at hx
    rcases List.mem_append.1 hx with hx | hx
    · exact ih x hx
    · split at hx
      · cases hu : U[k]? with
        | none => rw [hu] at hx; simp at hx
        | some y =>
          rw [hu] at hx
          simp at hx
          subst hx
          exact ⟨rfl, y, List.mem_of_getElem? hu, rfl⟩
      · cases hx

theorem kept_len (keep : Int) (U : List Lg) (k : Nat) : (keptTo keep U k).length ≤ k := by
  induction k with
  | zero => simp [keptTo]
  | succ k ih =>
    simp only [keptTo, List.length_append]
    split
    · cases U[k]? <;> simp <;> omega
    · simp; omega

theorem restore_two {w : World} {b1 b2 n : Nat} (i : Int) (hn : n ≤ 4398046511000) (h : SimN w b1 b2 n) :
    ∃ (P1 : World → Prop), (Calls Try.prog 20 #[.pointer (some ⟨b1, 0, none⟩), .int .i64 i] w fun e w' => e = .returned (.tuple #[]) ∧ P1 w' ∧ TK WT w w') ∧
      ∀ w1, P1 w1 → Calls Try.prog 21 #[.pointer (some ⟨b2, 0, none⟩), .int .i64 i] w1 fun e w' => e = .returned (.tuple #[]) ∧ SimN w' b1 b2 n ∧ Fr w b1 b2 w' := by
  obtain ⟨S, U, l1, l2, d, h, hl⟩ := h
  have hU : ∀ x ∈ U, x.sec < 64 ∧ x.data.size = 32 := fun x hx => h.fine x (List.mem_append.2 (.inr hx))
  have hll : (S ++ U).length = S.length + U.length := List.length_append
  refine ⟨_, (arestore_any b1 (byteIn S) (byteIn (S ++ U)) U l1 i d w (by omega) hU h.api).mono fun e w' ⟨x, y⟩ => ⟨x, y, y.2.2.mono fun t ht => .inl ht⟩, ?_⟩
  rintro w1 ⟨a1, a2, a3⟩
  refine (rrestore_any b2 (S ++ U) l2 i d w1 (by omega) (h.ref.keep a3 (by unfold AT; decide) (by unfold AT; decide))).mono ?_
  rintro e w2 ⟨rfl, r1, r2, r3⟩
  rw [hll, restTo_late i h.sure h.late U.length (Nat.le_refl _)] at r1
  rw [updB_byte i S U _ (Nat.le_refl _)] at a1
  have hkl := kept_len i U U.length
  refine ⟨rfl, ⟨S ++ keptTo i U U.length, [], -1, -1, false, ⟨?_, ?_, ?_, ?_, ?_, fun _ => .inl rfl, by omega, by omega⟩, by simp; omega⟩, fun B x y => (a2.mono x).trans (r2.mono y), (a3.mono fun t ht => .inl ht).trans (r3.mono fun t ht => .inr ht)⟩
  · rw [List.append_nil]
    exact a1.keep r3 (by unfold RT; decide) (by unfold RT; decide)
  · rw [List.append_nil]; exact r1
  · rw [List.append_nil]
    intro x hx
    rcases List.mem_append.1 hx with hx | hx
    · exact h.fine x (List.mem_append.2 (.inl hx))
    · obtain ⟨_, y, hy, rfl⟩ := kept_mem i U _ x hx
      exact hU y hy
  · intro x hx
    rcases List.mem_append.1 hx with hx | hx
    · exact h.sure x hx
    · exact (kept_mem i U _ x hx).1
  · intro x hx; cases hx

end Go.Proofs.Ytdlhgbhaeedbdaa
