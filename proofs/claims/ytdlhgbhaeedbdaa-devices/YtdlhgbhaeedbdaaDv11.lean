/- The two devices do not touch each other. -/
import Derived.Test.YtdlhgbhaeedbdaaDv10
namespace Go.Proofs.Ytdlhgbhaeedbdaa
open Go.RowKit

theorem TK.row {T : TypeId → Prop} {w w' : World} (hk : TK T w w') {base : Nat} {e : TypeId} {size : Nat} {v : Value} {n : Nat} {xs : List Value} (he : ¬ T e) (h : w.ownsRow base e size v n xs) : w'.ownsRow base e size v n xs := by
  obtain ⟨hl, ⟨rfl, h0⟩ | ⟨g, cap, cur, rfl, hb, hg, hr⟩⟩ := h
  · exact ⟨hl, .inl ⟨rfl, h0⟩⟩
  · exact ⟨hl, .inr ⟨g, cap, cur, rfl, hb, (hk.block g cur e (0, 0) hg he).trans hg, hr⟩⟩

theorem ApiAt.keep {T : TypeId → Prop} {w w' : World} {b : Nat} {S E : Nat → UInt8} {U : List Lg} {l : Int} {d : Bool} (h : ApiAt w b S E U l d) (hk : TK T w w') (h1 : ¬ T 77) (h2 : ¬ T 89) : ApiAt w' b S E U l d := by
  obtain ⟨⟨cs, fr, hty⟩, hs, he, ⟨v, c2, hrow⟩, c3, c4, fz, lt⟩ := h
  have hb := hk.block b cs _ fr hty h1
  have hc : ∀ o, w'.cell? ⟨b, o, none⟩ = w.cell? ⟨b, o, none⟩ := fun o => World.cell?_of_block hb
  have hf : ∀ o, w'.frozen? ⟨b, o, none⟩ = w.frozen? ⟨b, o, none⟩ := fun o => World.frozen?_of_block hb
  exact ⟨⟨cs, fr, hb.trans hty⟩, fun j hj => (hc j).trans (hs j hj), fun j hj => (hc _).trans (he j hj), ⟨v, (hc _).trans c2, hk.row h2 hrow⟩, (hc _).trans c3, (hc _).trans c4, fun o => (hf o).trans (fz o), Nat.lt_of_lt_of_le lt hk.size⟩

theorem RefAt.keep {T : TypeId → Prop} {w w' : World} {b : Nat} {L : List Lg} {l : Int} {d : Bool} (h : RefAt w b L l d) (hk : TK T w w') (h1 : ¬ T 43) (h2 : ¬ T 91) : RefAt w' b L l d := by
  obtain ⟨⟨cs, fr, hty⟩, ⟨v, c0, hlog⟩, c1, c2, fz, lt⟩ := h
  have hb := hk.block b cs _ fr hty h1
  have hc : ∀ o, w'.cell? ⟨b, o, none⟩ = w.cell? ⟨b, o, none⟩ := fun o => World.cell?_of_block hb
  have hf : ∀ o, w'.frozen? ⟨b, o, none⟩ = w.frozen? ⟨b, o, none⟩ := fun o => World.frozen?_of_block hb
  exact ⟨⟨cs, fr, hb.trans hty⟩, ⟨v, (hc _).trans c0, hk.row h2 hlog⟩, (hc _).trans c1, (hc _).trans c2, fun o => (hf o).trans (fz o), Nat.lt_of_lt_of_le lt hk.size⟩

theorem TK.mono {T T' : TypeId → Prop} {w w' : World} (h : TK T w w') (hT : ∀ t, T t → T' t) : TK T' w w' :=
  ⟨h.os, h.tape, h.output, h.size, fun k cs t fr hk ht => h.block k cs t fr hk (fun e => ht (hT t e))⟩

/-- The two devices, side by side: S the flushed writes, U the late ones. -/
structure Sim (w : World) (b1 b2 : Nat) (S U : List Lg) (l1 l2 : Int) (d : Bool) : Prop where
  api : ApiAt w b1 (byteIn S) (byteIn (S ++ U)) U l1 d
  ref : RefAt w b2 (S ++ U) l2 d
  fine : Fine (S ++ U)
  sure : ∀ x ∈ S, x.sure = true
  late : ∀ x ∈ U, x.sure = false
  left : d = false → l1 = l2 ∨ (l1 < 0 ∧ l2 < 0)
  top1 : l1 ≤ 9223372036854775807
  top2 : l2 ≤ 9223372036854775807

theorem at_ref (t : TypeId) (h : RT t) : ¬ AT t := by
  unfold RT at h; unfold AT
  rcases h with rfl | rfl <;> decide
theorem ref_at (t : TypeId) (h : AT t) : ¬ RT t := fun h' => at_ref t h' h

/-- Both agree whether there is power for one call more, and on what it leaves. -/
theorem Sim.power {w : World} {b1 b2 : Nat} {S U : List Lg} {l1 l2 : Int} {d : Bool} (h : Sim w b1 b2 S U l1 l2 d) :
    spR l1 d = rcR l2 d ∧ spDead l1 d = rcGone l2 d ∧ (spDead l1 d = false → spLeft l1 = rcLeft l2 d ∨ (spLeft l1 < 0 ∧ rcLeft l2 d < 0)) ∧ spLeft l1 ≤ 9223372036854775807 ∧ rcLeft l2 d ≤ 9223372036854775807 := by
  have t1 := h.top1
  have t2 := h.top2
  unfold spR rcR spDead rcGone spLeft rcLeft
  cases d with
  | true => simp; omega
  | false =>
    rcases h.left rfl with e | ⟨e1, e2⟩
    · subst e
      by_cases h0 : l1 = 0
      · subst h0; simp
      · by_cases h1 : 0 < l1
        · simp [h0, h1]; omega
        · simp [h0, h1]; omega
    · have n1 : l1 ≠ 0 := by omega
      have n2 : l2 ≠ 0 := by omega
      have m1 : ¬ 0 < l1 := by omega
      have m2 : ¬ 0 < l2 := by omega
      simp [n1, n2, m1, m2, e1, e2]
      omega

end Go.Proofs.Ytdlhgbhaeedbdaa
