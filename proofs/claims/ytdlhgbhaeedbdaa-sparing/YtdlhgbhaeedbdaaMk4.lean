/- 'rack.Plan'. -/
import Derived.Test.YtdlhgbhaeedbdaaMk3
import Derived.Test.YtdlhgbhaeedbdaaWk2
namespace Go.Proofs.Ytdlhgbhaeedbdaa
open Go.RowKit

theorem mem_outs {g : List Item} {c : Nat} {p : Bool × Item} (h : p ∈ outs g c) : p.1 = false ∧ p.2 ∈ g ∧ (p.2.kind : Int) = 4 - (c : Int) := by
  unfold outs at h
  obtain ⟨x, hx, rfl⟩ := List.mem_map.1 h
  obtain ⟨h1, h2⟩ := List.mem_filter.1 hx
  exact ⟨rfl, h1, of_decide_eq_true h2⟩

theorem mem_dn {g : List Item} {c : Nat} {p : Bool × Item} (h : p ∈ dn g c) : p.1 = false ∧ p.2 ∈ g := by
  induction c with
  | zero => simp [dn] at h
  | succ c ih =>
    rcases List.mem_append.1 h with h | h
    · exact ih h
    · exact ⟨(mem_outs h).1, (mem_outs h).2.1⟩

theorem mem_ups {st m : List Item} {p : Bool × Item} (h : p ∈ ups st m) : p.1 = true ∧ p.2 ∈ m ∧ holdsB st p.2.text = false := by
  unfold ups at h
  obtain ⟨x, hx, rfl⟩ := List.mem_map.1 h
  obtain ⟨h1, h2⟩ := List.mem_filter.1 hx
  exact ⟨rfl, h1, by simpa using h2⟩

theorem mem_spl_foldl {t l : List Item} {p : List Item × List Item} {x : Item} (h : x ∈ (l.foldl (spl1 t) p).1 ∨ x ∈ (l.foldl (spl1 t) p).2) : x ∈ p.1 ∨ x ∈ p.2 ∨ x ∈ l := by
  induction l generalizing p with
  | nil => rcases h with h | h
           · exact Or.inl h
           · exact Or.inr (Or.inl h)
  | cons a l ih =>
    rcases ih h with h | h | h
    · unfold spl1 at h
      split at h
      · rcases List.mem_append.1 h with h | h
        · exact Or.inl h
        · exact Or.inr (Or.inr (by simp at h; simp [h]))
      · exact Or.inl h
    · unfold spl1 at h
      split at h
      · exact Or.inr (Or.inl h)
      · rcases List.mem_append.1 h with h | h
        · exact Or.inr (Or.inl h)
        · exact Or.inr (Or.inr (by simp at h; simp [h]))
    · exact Or.inr (Or.inr (by simp [h]))

theorem mem_spl {t l : List Item} {x : Item} (h : x ∈ (spl t l).1 ∨ x ∈ (spl t l).2) : x ∈ l := by
  rcases mem_spl_foldl h with h | h | h
  · simp at h
  · simp at h
  · exact h

theorem mem_mk {l t : List Item} {p : Bool × Item} (h : p ∈ mk l t) : p.2 ∈ l ∨ p.2 ∈ t := by
  rcases List.mem_append.1 h with h | h
  · exact Or.inl (mem_sortTo (mem_spl (Or.inr (mem_dn h).2)))
  · exact Or.inr (mem_sortTo (mem_ups h).2.1)

/-- What Plan answers. -/
def plErr (s t : ByteArray) : Nat := if (chk s).1 = 0 then (chk t).1 else (chk s).1
def pl (s t : ByteArray) : List ByteArray := if plErr s t = 0 then stTxts (mk (itemsOf s) (itemsOf t)) else []

set_option maxRecDepth 100000 in
set_option maxHeartbeats 400000 in
theorem plan_any (s t : ByteArray) (w : World) (hs : s.size ≤ maxLen) (ht : t.size ≤ maxLen) :
    Calls Try.prog 50 #[.string s, .string t] w fun e w' => ∃ v, e = .returned (.tuple #[v, .int .i64 (plErr s t)]) ∧ w'.ownsRow w.heap.size 9 1 v (pl s t).length ((pl s t).map Value.string) ∧ Below w.heap.size w w' := by
  have hp := parse_any s w hs
  by_cases h0 : (chk s).1 = 0
  · have he : plErr s t = (chk t).1 := by simp [plErr, h0]
    have hf1 := fits_of_chk h0
    rw [h0] at hp
    have hpt := fun wx => parse_any t wx ht
    by_cases h1 : (chk t).1 = 0
    · have hpl : pl s t = stTxts (mk (itemsOf s) (itemsOf t)) := by simp [pl, he, h1]
      have hf2 := fits_of_chk h1
      rw [hpl, he, h1]
      have hpt' : ∀ wx : World, Calls Try.prog 40 #[.string t] wx fun e w' => ∃ v, e = .returned (.tuple #[v, .int .i64 0, .int .i64 ((chk t).2 : Nat)]) ∧ w'.ownsRow (wx.heap.size + 1) 99 9 v (itemsOf t).length (allCells (itemsOf t)) ∧ Below wx.heap.size wx w' := by
        intro wx
        refine (hpt wx).mono ?_
        rintro e w' ⟨v, he, ho, hb⟩
        exact ⟨v, by rw [he, h1]; rfl, ho h1, hb⟩
      have htx : ∀ p ∈ mk (itemsOf s) (itemsOf t), p.2.text.size ≤ 1000000 := by
        intro p hp
        rcases mem_mk hp with h | h
        · have := hf1.text _ h; omega
        · have := hf2.text _ h; omega
      have hln := mk_len (itemsOf s) (itemsOf t) hf1.1 hf2.1
      have Hp := hide hp
      have Hpt := hide hpt'
      have Htx := hide htx
      clear hp hpt hpt' htx he hpl h0 h1
      go_enter Try.func50, Try.ntmps50
      go_wp2_with fail
      refine (unhide Hp).mono ?_
      rintro e w1 ⟨v1, rfl, hown1, hb1⟩
      replace hown1 := hown1 trivial
      have hl1 := hb1.size
      go_wp2_with fail
      refine (unhide Hpt _).mono ?_
      rintro e w2 ⟨v2, rfl, hown2, hb2⟩
      have hl2 := hb2.size
      have hb02 : Below w.heap.size w w2 := hb1.trans (hb2.mono hl1)
      have hat1 := items_of_owns (owns_later hown1 hb2)
      have hat2 := items_of_owns hown2
      clear hown1 hown2
      go_wp2_with fail
      refine (make_at v1 v2 _ _ w2 hf1.1 hf2.1 hat1 hat2).mono ?_
      rintro e w3 ⟨v3, rfl, hown3, hb3⟩
      have hl3 := hb3.size
      have hb03 : Below w.heap.size w w3 := hb02.trans (hb3.mono (by omega))
      have hat3 := steps_of_owns hown3
      clear hown3
      go_wp2_with fail
      refine (texts_at v3 _ w3 hln (unhide Htx) hat3).mono ?_
      rintro e w4 ⟨v4, rfl, hown4, hb4⟩
      go_wp2
      go_ret2
      exact ⟨_, rfl, owns_mono hown4 (by omega), hb03.trans (hb4.mono (by omega))⟩
    · have hpl : pl s t = [] := by simp [pl, he, h1]
      have h1' : ((((chk t).1 : Nat) : Int) != 0) = true := by rw [bne_iff_ne]; omega
      rw [hpl, he]
      generalize (chk t).1 = c at *
      have Hp := hide hp
      have Hpt := hide hpt
      clear hp hpt he hpl h1 h0
      go_enter Try.func50, Try.ntmps50
      go_wp2_with fail
      refine (unhide Hp).mono ?_
      rintro e w1 ⟨v1, rfl, hown1, hb1⟩
      have hl1 := hb1.size
      clear hown1
      go_wp2_with fail
      refine (unhide Hpt _).mono ?_
      rintro e w2 ⟨v2, rfl, hown2, hb2⟩
      clear hown2
      go_wp2
      go_ret2
      exact ⟨_, rfl, World.ownsRow_nil _ _ _ _, hb1.trans (hb2.mono hl1)⟩
  · have he : plErr s t = (chk s).1 := by simp [plErr, h0]
    have hpl : pl s t = [] := by simp [pl, he, h0]
    have h0' : ((((chk s).1 : Nat) : Int) != 0) = true := by rw [bne_iff_ne]; omega
    rw [hpl, he]
    generalize (chk s).1 = c at *
    have Hp := hide hp
    clear hp he hpl h0
    go_enter Try.func50, Try.ntmps50
    go_wp2_with fail
    refine (unhide Hp).mono ?_
    rintro e w1 ⟨v1, rfl, hown1, hb1⟩
    clear hown1
    go_wp2
    go_ret2
    exact ⟨_, rfl, World.ownsRow_nil _ _ _ _, hb1⟩

/-- What Walk answers. -/
def wkErr (s : ByteArray) (ss : List ByteArray) : Nat := if (chk s).1 = 0 then wErr s ss else (chk s).1
def wkTxt (s : ByteArray) (ss : List ByteArray) : ByteArray := if (chk s).1 = 0 then wOut s ss else ⟨#[]⟩
def wkN (s : ByteArray) (ss : List ByteArray) : Nat := if (chk s).1 = 0 then wlkN (itemsOf s) ss else 0

set_option maxRecDepth 100000 in
set_option maxHeartbeats 400000 in
theorem walk_any (s : ByteArray) (a : Option Addr) (cap : Nat) (ss : List ByteArray) (w : World) (hs : s.size ≤ maxLen) (hn : ss.length ≤ maxLen) (hz : ∀ t ∈ ss, t.size ≤ maxLen) (ht : TxAt w a ss) :
    Calls Try.prog 31 #[.string s, .slice a ss.length cap] w fun e w' => e = .returned (.tuple #[.string (wkTxt s ss), .int .i64 (wkN s ss), .int .i64 (wkErr s ss)]) ∧ Below w.heap.size w w' := by
  by_cases h0 : (chk s).1 = 0
  · have := walk_ok s a cap ss w hs hn hz ht h0
    simpa only [wkErr, wkTxt, wkN, h0, if_true] using this
  · have hp := parse_any s w hs
    have e1 : wkErr s ss = (chk s).1 := by simp [wkErr, h0]
    have e2 : wkTxt s ss = ⟨#[]⟩ := by simp [wkTxt, h0]
    have e3 : wkN s ss = 0 := by simp [wkN, h0]
    have h0' : ((((chk s).1 : Nat) : Int) != 0) = true := by rw [bne_iff_ne]; omega
    rw [e1, e2, e3]
    generalize (chk s).1 = c at *
    have Hp := hide hp
    clear hp e1 e2 e3 h0
    go_enter Try.func31, Try.ntmps31
    go_wp2_with fail
    refine (unhide Hp).mono ?_
    rintro e w1 ⟨v1, rfl, hown1, hb1⟩
    clear hown1
    go_wp2
    go_ret3
    exact ⟨rfl, hb1⟩

end Go.Proofs.Ytdlhgbhaeedbdaa
