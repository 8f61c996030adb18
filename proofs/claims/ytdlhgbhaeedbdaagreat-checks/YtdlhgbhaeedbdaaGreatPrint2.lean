/- 'rack.Print'. -/
import Derived.Test.YtdlhgbhaeedbdaaGreatPrint
namespace Go.Proofs.YtdlhgbhaeedbdaaGreat
open Go.RowKit

theorem rdAll_mem (s : ByteArray) (n p : Nat) (acc : List Item) (x : Item) (h : x ∈ (rdAll s n p acc).1) : x ∈ acc ∨ ∃ q, x = itemAt s q := by
  induction n generalizing p acc with
  | zero =>
    unfold rdAll at h
    split at h
    · simp at h
    · exact Or.inl h
  | succ n ih =>
    unfold rdAll at h
    split at h
    · split at h
      · simp at h
      · rcases ih _ _ h with h1 | h1
        · rcases List.mem_append.1 h1 with h2 | h2
          · exact Or.inl h2
          · exact Or.inr ⟨p, by simpa using h2⟩
        · exact Or.inr h1
    · exact Or.inl h

theorem itemsOf_text (s : ByteArray) (hs : s.size ≤ 400) : ∀ x ∈ itemsOf s, x.text.size ≤ 400 := by
  intro x hx
  rcases rdAll_mem s 24 0 [] x hx with h | ⟨q, rfl⟩
  · simp at h
  · simp [itemAt, itemT]; omega

theorem mem_ins {l : List Item} {x y : Item} (h : y ∈ ins l x) : y = x ∨ y ∈ l := by
  unfold ins at h
  rcases List.mem_append.1 h with h | h
  · exact Or.inr (List.mem_of_mem_take h)
  · rcases List.mem_cons.1 h with h | h
    · exact Or.inl h
    · exact Or.inr (List.mem_of_mem_drop h)

theorem mem_foldl_ins {l acc : List Item} {y : Item} (h : y ∈ l.foldl ins acc) : y ∈ acc ∨ y ∈ l := by
  induction l generalizing acc with
  | nil => exact Or.inl h
  | cons a l ih =>
    rcases ih h with h | h
    · rcases mem_ins h with rfl | h
      · exact Or.inr (by simp)
      · exact Or.inl h
    · exact Or.inr (by simp [h])

theorem mem_sortTo {l : List Item} {k : Nat} {y : Item} (h : y ∈ sortTo l k) : y ∈ l := by
  rcases mem_foldl_ins h with h | h
  · simp at h
  · exact List.mem_of_mem_take h

set_option maxRecDepth 100000 in
set_option maxHeartbeats 400000 in
theorem inOrder_nil (w : World) :
    Calls Tryz.prog 91 #[.slice none 0 0] w fun e w' => e = .returned (.slice (some ⟨w.heap.size, 0, none⟩) 0 0) ∧ Below w.heap.size w w' := by
  have hmk : ∀ w, (Instr.makeSlice 88 (.int .i64 0) (.int .i64 0)).run Tryz.prog w = .ok (.slice (some ⟨w.heap.size, 0, none⟩) 0 0) (w.alloc (.cells (madeItems 0) 101)) := fun w => run_makeItems 0 (by omega) w
  go_enter Tryz.func91, Tryz.ntmps91
  go_wp2
  refine wp_loop_rounds 1 ?_
  rw [rounds_succ]
  go_wp2
  go_ret
  exact ⟨rfl, (Below.refl _ _).alloc (Nat.le_refl _) _⟩

set_option maxRecDepth 100000 in
set_option maxHeartbeats 400000 in
theorem aprint_nil (w : World) :
    Calls Tryz.prog 55 #[.slice none 0 0] w fun e w' => e = .returned (.string ⟨#[]⟩) ∧ Below w.heap.size w w' := by
  go_enter Tryz.func55, Tryz.ntmps55
  go_wp2_with fail
  refine (inOrder_nil w).mono ?_
  rintro e w1 ⟨rfl, hb1⟩
  have hcv : ∀ wx : World, (convert 151 9 (.slice none 0 0)).run Tryz.prog wx = .ok (.string ⟨#[]⟩) wx := fun wx => conv_owned (base := 0) (l := []) (World.ownsRow_nil wx 0 _ 1)
  go_wp2
  refine wp_loop_rounds 1 ?_
  rw [rounds_succ]
  go_wp2
  go_ret
  exact ⟨rfl, hb1⟩

/-- What Print tells. -/
def prt (s : ByteArray) : ByteArray := if (chk s).1 = 0 then ⟨(catB (sortTo (itemsOf s) (itemsOf s).length)).toArray⟩ else ⟨#[]⟩

theorem chk_size {s : ByteArray} (h : (chk s).1 = 0) : s.size ≤ 400 := by
  by_cases h4 : 400 < s.size
  · simp [chk, h4] at h
  · omega

theorem chk_le (s : ByteArray) : (chk s).1 ≤ 4 := by
  unfold chk
  repeat' split
  all_goals simp

set_option maxHeartbeats 400000 in
theorem print_any (s : ByteArray) (w : World) (hs : s.size ≤ maxLen) :
    Calls Tryz.prog 25 #[.string s] w fun e w' => e = .returned (.tuple #[.string (prt s), .int .i64 ((chk s).1 : Nat)]) ∧ Below w.heap.size w w' := by
  have hp := parse_any s w hs
  by_cases h0 : (chk s).1 = 0
  · have hpr : prt s = ⟨(catB (sortTo (itemsOf s) (itemsOf s).length)).toArray⟩ := by simp [prt, h0]
    have hs4 := chk_size h0
    have hll : (itemsOf s).length ≤ 24 := by have := rdAll_len s 24 0 []; simp at this; exact this
    have htx : ∀ x ∈ sortTo (itemsOf s) (itemsOf s).length, x.text.size ≤ 400 := fun x hx => itemsOf_text s hs4 x (mem_sortTo hx)
    rw [h0] at hp
    rw [hpr, h0]
    clear hpr h0
    go_enter Tryz.func25, Tryz.ntmps25
    go_wp2_with fail
    refine hp.mono ?_
    rintro e w1 ⟨v, rfl, hown, hb1⟩
    replace hown := hown trivial
    have hat := items_of_owns hown
    rcases hat with ⟨rfl, hnil⟩ | ⟨g, cap, rfl, hcap, hit⟩
    · have hr : (catB (sortTo (itemsOf s) (itemsOf s).length)) = [] := by rw [hnil]; rfl
      have Hr := hide hr
      clear hr hnil
      go_wp2_with fail
      refine (aprint_nil _).mono ?_
      rintro e w2 ⟨rfl, hb2⟩
      go_wp2
      go_ret2
      exact ⟨by rw [unhide Hr]; rfl, hb1.trans (hb2.mono hb1.size)⟩
    · go_wp2_with fail
      refine (aprint_in g cap (itemsOf s) _ hll htx hit).mono ?_
      rintro e w2 ⟨rfl, hb2⟩
      go_wp2
      go_ret2
      exact ⟨rfl, hb1.trans (hb2.mono hb1.size)⟩
  · have hpr : prt s = ⟨#[]⟩ := by simp [prt, h0]
    have h0' : ((((chk s).1 : Nat) : Int) != 0) = true := by rw [bne_iff_ne]; omega
    rw [hpr]
    generalize (chk s).1 = c at *
    clear hpr h0
    go_enter Tryz.func25, Tryz.ntmps25
    go_wp2_with fail
    refine hp.mono ?_
    rintro e w1 ⟨v, rfl, hown, hb1⟩
    go_wp2
    go_ret2
    exact ⟨rfl, hb1⟩

end Go.Proofs.YtdlhgbhaeedbdaaGreat
