/- 'stepping', 'planned'. -/
import Derived.Test.YtdlhgbhaeedbdaaPureB
import Derived.Test.YtdlhgbhaeedbdaaAwake
namespace Go.Proofs.Ytdlhgbhaeedbdaa
open Go.RowKit

/-- A list of texts in new memory. -/
theorem tx_of_owns {w : World} {base : Nat} {v : Value} {ss : List ByteArray} (h : w.ownsRow base 9 1 v ss.length (ss.map Value.string)) :
    ∃ a cap, v = .slice a ss.length cap ∧ ss.length ≤ cap ∧ ((a = none ∧ ss = [] ∧ cap = 0) ∨ ∃ g, a = some ⟨g, 0, none⟩ ∧ base ≤ g ∧ g < w.heap.size ∧ ∀ i (h : i < ss.length), w.cell? ⟨g, i, none⟩ = some (.string ss[i])) := by
  have hh := h
  obtain ⟨_, ⟨rfl, h0⟩ | ⟨g, cap, cur, rfl, hb, hg, hc, _, _, _⟩⟩ := hh
  · have : ss = [] := List.length_eq_zero_iff.1 h0
    exact ⟨none, 0, by rw [h0], by omega, Or.inl ⟨rfl, this, rfl⟩⟩
  · refine ⟨some ⟨g, 0, none⟩, cap, rfl, hc, Or.inr ⟨g, rfl, hb, (h.lt g rfl).2, fun i hi => ?_⟩⟩
    have := h.cells (g := g) rfl i (.string ss[i]) (by simp [hi])
    rwa [addr_add] at this

theorem TxAt.of_new {w : World} {base : Nat} {a : Option Addr} {cap : Nat} {ss : List ByteArray} (h : (a = none ∧ ss = [] ∧ cap = 0) ∨ ∃ g, a = some ⟨g, 0, none⟩ ∧ base ≤ g ∧ g < w.heap.size ∧ ∀ i (h : i < ss.length), w.cell? ⟨g, i, none⟩ = some (.string ss[i])) : TxAt w a ss := by
  rcases h with ⟨_, h, _⟩ | ⟨g, h1, _, h2, h3⟩
  · exact Or.inl h
  · exact Or.inr ⟨g, 0, h1, h2, fun i hi => by rw [Nat.zero_add]; exact h3 i hi⟩

theorem data_inj {l m : List ByteArray} (h : l.map ByteArray.data = m.map ByteArray.data) : l = m := by
  induction l generalizing m with
  | nil => cases m with
           | nil => rfl
           | cons a m => simp at h
  | cons a l ih =>
    cases m with
    | nil => simp at h
    | cons b m =>
      simp only [List.map_cons, List.cons.injEq] at h
      rw [ih h.2, ByteArray.ext h.1]

def dA : ByteArray := ⟨#[100, 105, 115, 107, 32, 97, 32, 52, 59]⟩
def dB : ByteArray := ⟨#[100, 105, 115, 107, 32, 97, 32, 53, 59]⟩
def dS : List ByteArray := [⟨#[45, 100, 105, 115, 107, 32, 97, 32, 52, 59]⟩, ⟨#[43, 100, 105, 115, 107, 32, 97, 32, 53, 59]⟩]

set_option maxRecDepth 100000 in
theorem pl_d0 : (pl dA dB).map ByteArray.data = dS.map ByteArray.data ∧ plErr dA dB = 0 := by decide +kernel
set_option maxRecDepth 100000 in
theorem wk_d0 : (wkTxt dA dS).data = dB.data ∧ wkN dA dS = 2 ∧ wkErr dA dS = 0 := by decide +kernel
theorem pl_d : pl dA dB = dS := data_inj pl_d0.1
theorem wk_d : wkTxt dA dS = dB := ByteArray.ext wk_d0.1

set_option maxRecDepth 100000 in
set_option maxHeartbeats 400000 in
theorem stepping_any (w : World) : Calls Try.prog 36 #[] w fun e w' => e = .returned (.bool true) ∧ Below w.heap.size w w' := by
  have h1 : ∀ wx, Calls Try.prog 50 #[.string ⟨#[100, 105, 115, 107, 32, 97, 32, 52, 59]⟩, .string ⟨#[100, 105, 115, 107, 32, 97, 32, 53, 59]⟩] wx fun e w' => ∃ g cap, e = .returned (.tuple #[.slice (some ⟨g, 0, none⟩) 2 cap, .int .i64 0]) ∧ g < w'.heap.size ∧ TxAt w' (some ⟨g, 0, none⟩) dS ∧ w'.cell? ⟨g, 0, none⟩ = some (.string ⟨#[45, 100, 105, 115, 107, 32, 97, 32, 52, 59]⟩) ∧ Below wx.heap.size wx w' := by
    intro wx
    refine (plan_any dA dB wx (by decide) (by decide)).mono ?_
    rintro e w' ⟨v, rfl, ho, hb⟩
    rw [pl_d] at ho
    rw [pl_d0.2]
    obtain ⟨a, cap, rfl, _, h⟩ := tx_of_owns ho
    have ht := TxAt.of_new h
    rcases h with ⟨_, h, _⟩ | ⟨g, rfl, _, hg, hc⟩
    · simp [dS] at h
    · exact ⟨g, cap, rfl, hg, ht, hc 0 (by decide), hb⟩
  have h2 : ∀ wx a cap, TxAt wx a dS → Calls Try.prog 31 #[.string ⟨#[100, 105, 115, 107, 32, 97, 32, 52, 59]⟩, .slice a 2 cap] wx fun e w' => e = .returned (.tuple #[.string ⟨#[100, 105, 115, 107, 32, 97, 32, 53, 59]⟩, .int .i64 2, .int .i64 0]) ∧ Below wx.heap.size wx w' := by
    intro wx a cap ht
    have := walk_any dA a cap dS wx (by decide) (by decide) (by decide) ht
    rw [wk_d, wk_d0.2.1, wk_d0.2.2] at this
    exact this
  have H1 := hide h1
  have H2 := hide h2
  clear h1 h2
  go_enter Try.func36, Try.ntmps36
  go_wp2_with fail
  refine (awake_any _).mono ?_
  rintro e w1 ⟨rfl, hb1⟩
  have hl1 := hb1.size
  go_wp2_with fail
  refine (unhide H1 _).mono ?_
  rintro e w2 ⟨g, cap, rfl, hg, ht, hc, hb2⟩
  have hl2 := hb2.size
  go_wp2_with fail
  refine (unhide H2 _ _ _ ht).mono ?_
  rintro e w3 ⟨rfl, hb3⟩
  have hc3 := (hb3.cell (p := ⟨g, 0, none⟩) hg).trans hc
  clear hc
  go_wp2
  go_ret
  exact ⟨rfl, (hb1.trans (hb2.mono hl1)).trans (hb3.mono (by omega))⟩

/-- Are both texts arrangements? -/
def bothB (s t : ByteArray) : Bool := decide (plErr s t = 0)

theorem plErr_le (s t : ByteArray) : plErr s t ≤ 4 := by unfold plErr; split <;> exact chk_le _

set_option maxRecDepth 100000 in
set_option maxHeartbeats 400000 in
theorem planned_any (s t : ByteArray) (w : World) (hs : s.size ≤ maxLen) (ht : t.size ≤ maxLen) :
    Calls Try.prog 30 #[.string s, .string t] w fun e w' => ∃ v, e = .returned (.tuple #[v, .bool (bothB s t), .bool true]) ∧ w'.ownsRow w.heap.size 9 1 v (pl s t).length ((pl s t).map Value.string) ∧ Below w.heap.size w w' := by
  have hc1 := fun wx => check_any s wx hs
  have hc2 := fun wx => check_any t wx ht
  have hpl := fun wx => plan_any s t wx hs ht
  have hlen : plErr s t ≠ 0 → (pl s t).length = 0 := fun h => by simp [pl, h]
  have hdef : plErr s t = if (chk s).1 = 0 then (chk t).1 else (chk s).1 := rfl
  unfold bothB
  by_cases h0 : (chk s).1 = 0
  · rw [if_pos h0] at hdef
    have h0' : ((((chk s).1 : Nat) : Int) == 0) = true := by rw [beq_iff_eq]; omega
    rw [hdef] at hpl hlen ⊢
    by_cases h1 : (chk t).1 = 0
    · have h1' : ((((chk t).1 : Nat) : Int) == 0) = true := by rw [beq_iff_eq]; omega
      rw [show decide ((chk t).1 = 0) = true from decide_eq_true h1]
      generalize (chk s).1 = c1 at *
      generalize (chk t).1 = c2 at *
      have H1 := hide hc1
      have H2 := hide hc2
      have H3 := hide hpl
      clear hc1 hc2 hpl hdef hlen h0 h1
      go_enter Try.func30, Try.ntmps30
      go_wp2_with fail
      refine (stepping_any _).mono ?_
      rintro e w1 ⟨rfl, hb1⟩
      have hl1 := hb1.size
      go_wp2_with fail
      refine (unhide H1 _).mono ?_
      rintro e w2 ⟨rfl, hb2⟩
      have hl2 := hb2.size
      go_wp2_with fail
      refine (unhide H2 _).mono ?_
      rintro e w3 ⟨rfl, hb3⟩
      have hl3 := hb3.size
      go_wp2_with fail
      refine (unhide H3 _).mono ?_
      rintro e w4 ⟨v, rfl, hown, hb4⟩
      obtain ⟨a, cap, rfl⟩ := slice_of_owns hown
      go_wp2
      go_ret3
      exact ⟨_, rfl, owns_mono hown (by omega), ((hb1.trans (hb2.mono hl1)).trans (hb3.mono (by omega))).trans (hb4.mono (by omega))⟩
    · have h1' : ((((chk t).1 : Nat) : Int) == 0) = false := by rw [beq_eq_false_iff_ne]; omega
      rw [show decide ((chk t).1 = 0) = false from decide_eq_false h1]
      have hl0 := hlen h1
      simp only [hl0] at hpl
      rw [hl0]
      clear hl0
      generalize (chk s).1 = c1 at *
      generalize (chk t).1 = c2 at *
      have H1 := hide hc1
      have H2 := hide hc2
      have H3 := hide hpl
      clear hc1 hc2 hpl hdef hlen h0 h1
      go_enter Try.func30, Try.ntmps30
      go_wp2_with fail
      refine (stepping_any _).mono ?_
      rintro e w1 ⟨rfl, hb1⟩
      have hl1 := hb1.size
      go_wp2_with fail
      refine (unhide H1 _).mono ?_
      rintro e w2 ⟨rfl, hb2⟩
      have hl2 := hb2.size
      go_wp2_with fail
      refine (unhide H2 _).mono ?_
      rintro e w3 ⟨rfl, hb3⟩
      have hl3 := hb3.size
      go_wp2_with fail
      refine (unhide H3 _).mono ?_
      rintro e w4 ⟨v, rfl, hown, hb4⟩
      obtain ⟨a, cap, rfl⟩ := slice_of_owns hown
      go_wp2
      go_ret3
      exact ⟨_, rfl, owns_mono hown (by omega), ((hb1.trans (hb2.mono hl1)).trans (hb3.mono (by omega))).trans (hb4.mono (by omega))⟩
  · rw [if_neg h0] at hdef
    have h0' : ((((chk s).1 : Nat) : Int) == 0) = false := by rw [beq_eq_false_iff_ne]; omega
    rw [hdef] at hpl hlen ⊢
    rw [show decide ((chk s).1 = 0) = false from decide_eq_false h0]
    have hl0 := hlen h0
    simp only [hl0] at hpl
    rw [hl0]
    clear hl0
    generalize (chk s).1 = c1 at *
    generalize (chk t).1 = c2 at *
    have H1 := hide hc1
    have H2 := hide hc2
    have H3 := hide hpl
    clear hc1 hc2 hpl hdef hlen h0
    go_enter Try.func30, Try.ntmps30
    go_wp2_with fail
    refine (stepping_any _).mono ?_
    rintro e w1 ⟨rfl, hb1⟩
    have hl1 := hb1.size
    go_wp2_with fail
    refine (unhide H1 _).mono ?_
    rintro e w2 ⟨rfl, hb2⟩
    have hl2 := hb2.size
    go_wp2_with fail
    refine (unhide H2 _).mono ?_
    rintro e w3 ⟨rfl, hb3⟩
    have hl3 := hb3.size
    go_wp2_with fail
    refine (unhide H3 _).mono ?_
    rintro e w4 ⟨v, rfl, hown, hb4⟩
    obtain ⟨a, cap, rfl⟩ := slice_of_owns hown
    go_wp2
    go_ret3
    exact ⟨_, rfl, owns_mono hown (by omega), ((hb1.trans (hb2.mono hl1)).trans (hb3.mono (by omega))).trans (hb4.mono (by omega))⟩

end Go.Proofs.Ytdlhgbhaeedbdaa
