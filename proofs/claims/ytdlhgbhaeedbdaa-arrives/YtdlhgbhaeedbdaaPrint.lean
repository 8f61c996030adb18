/- 'arrange.Print', 'rack.Print'. -/
import Derived.Test.YtdlhgbhaeedbdaaOrder2
import Derived.Lib.AppendStr
namespace Go.Proofs.Ytdlhgbhaeedbdaa
open Go.RowKit

theorem Try.infoByte : (Try.prog.info? 5).map (fun i => (i.zero, i.size, i.bytes)) = some (some (.int .u8 0), 1, 1) := by kernel_rfl

/-- The items' texts, one behind the other. -/
def catB (l : List Item) : List UInt8 := l.flatMap fun x => x.text.data.toList
def byteCells (l : List UInt8) : List Value := l.map fun b => Value.int .u8 b.toNat

theorem catB_snoc (l : List Item) (x : Item) : catB (l ++ [x]) = catB l ++ x.text.data.toList := by simp [catB]
theorem catB_len (l : List Item) (h : ∀ x ∈ l, x.text.size ≤ 400) : (catB l).length ≤ 400 * l.length := by
  induction l with
  | nil => simp [catB]
  | cons a l ih =>
    have h1 := ih (fun x hx => h x (by simp [hx]))
    have h2 := h a (by simp)
    have h3 : a.text.data.toList.length = a.text.size := by simp
    simp only [catB, List.flatMap_cons, List.length_append, List.length_cons] at h1 ⊢
    omega

/-- string(b), b a row of the call's own. -/
theorem conv_owned {w : World} {base : Nat} {v : Value} {l : List UInt8} (h : w.ownsRow base 5 1 v l.length (byteCells l)) :
    (convert 30 9 v).run Try.prog w = .ok (.string ⟨l.toArray⟩) w := by
  have hh := h
  obtain ⟨_, ⟨rfl, h0⟩ | ⟨g, cap, cur, rfl, _⟩⟩ := hh
  · have : l = [] := List.length_eq_zero_iff.1 h0
    subst this
    exact run_convert_bytes_nil w 30 5 Try.underlying30 Try.underlying5 0 0 9 Try.underlying9
  · refine run_convert_bytes_back w 30 9 5 ⟨g, 0, none⟩ cap l Try.underlying30 Try.underlying5 Try.underlying9 fun j hj => ?_
    exact h.cells rfl j _ (by simp [byteCells, List.getElem?_eq_getElem hj])

set_option maxRecDepth 100000 in
set_option maxHeartbeats 400000 in
theorem aprint_in (g cap : Nat) (l : List Item) (w : World) (hl : l.length ≤ 24) (ht : ∀ x ∈ sortTo l l.length, x.text.size ≤ 400) (hit : ItemsIn w g l) :
    Calls Try.prog 41 #[.slice (some ⟨g, 0, none⟩) l.length cap] w fun e w' => e = .returned (.string ⟨(catB (sortTo l l.length)).toArray⟩) ∧ Below w.heap.size w w' := by
  obtain ⟨m, hm⟩ : ∃ m, m = sortTo l l.length := ⟨_, rfl⟩
  have hord := inOrder_in g cap l w hl hit
  have hml : m.length = l.length := by rw [hm]; exact sortTo_length l _ (Nat.le_refl _)
  rw [← hm] at hord ht ⊢
  rw [← hml] at hord
  have hlm : m.length ≤ 24 := by omega
  have Hord := hide hord
  clear hord
  rw [← hml]
  clear hm hml hit
  go_enter Try.func41, Try.ntmps41
  go_wp2_with fail
  refine (unhide Hord).mono ?_
  rintro e w1 ⟨rfl, hit, hb1⟩
  have hg1 := hit.1
  go_wp2
  go_loopw [4, 5] (fun tv i wr => ∃ k : Nat, k ≤ m.length ∧ i = .int .i64 k ∧ wr.ownsRow w1.heap.size 5 1 tv (catB (m.take k)).length (byteCells (catB (m.take k))) ∧ Below w1.heap.size w1 wr) (fun _ i _ => m.length - (intOf i).toNat)
  case atStart => exact ⟨0, Nat.zero_le _, rfl, World.ownsRow_nil _ _ _ _, Below.refl _ _⟩
  case round =>
    obtain ⟨k, hk, rfl, hown, hbe⟩ := hrel
    obtain ⟨a, tc, rfl⟩ := slice_of_owns hown
    by_cases hlt : k < m.length
    · obtain ⟨x, hx⟩ : ∃ x, x = m[k] := ⟨_, rfl⟩
      have hix := (hit.2 k hlt).below hbe hg1
      rw [← hx] at hix
      have hstep : catB (m.take (k + 1)) = catB (m.take k) ++ x.text.data.toList := by rw [List.take_succ_eq_append_getElem hlt, catB_snoc, ← hx]
      have Hstep := hide hstep
      have hxs : x.text.size ≤ 400 := ht x (by rw [hx]; exact List.getElem_mem hlt)
      have hcl : (catB (m.take k)).length ≤ 9600 := by
        have := catB_len (m.take k) (fun y hy => ht y (List.mem_of_mem_take hy))
        simp at this; omega
      obtain ⟨c0, c1, c2, c3, c4, c5, c6, c7, c8⟩ := hix
      have hlt' : (k : Int) < (m.length : Int) := by omega
      have hsz := hbe.size
      obtain ⟨i0, hi, hz0, hz1, hz2⟩ := info_parts Try.infoByte
      clear hstep hx
      go_wp2_with (at_builtin; refine Lib.wpList_append_own_string _ rfl _ _ 30 9 rfl w1.heap.size 5 i0 Try.underlying30 Try.underlying9 hi hz0 hz1 hz2 (.slice a (catB (m.take k)).length tc) (catB (m.take k)).length (byteCells (catB (m.take k))) ?hs hown x.text ?hx ?c3 ?c4 ?c5 ?_)
      case hs => rfl
      case hx => rfl
      case c3 => unfold maxLen; omega
      case c4 => omega
      case c5 => exact hsz
      intro v' w2 hown' hgrow _
      have hbe2 := hbe.grown hgrow hsz (fun k e => (hown.lt k e).1)
      clear hgrow c0 c1 c2 c3 c4 c5 c6 c7 c8
      go_wp2
      go_roundw
      case rel =>
        refine ⟨k + 1, by omega, by go_num, ?_, hbe2⟩
        rw [unhide Hstep, List.length_append, show x.text.data.toList.length = x.text.size from by simp]
        rw [show byteCells (catB (m.take k) ++ x.text.data.toList) = byteCells (catB (m.take k)) ++ Lib.strCells x.text from by simp [byteCells, Lib.strCells]]
        exact hown'
      case measure => simp [intOf]; omega
    · have hkm : k = m.length := by omega
      have hall : m.take k = m := List.take_of_length_le (by omega)
      rw [hall] at hown
      have hcv := conv_owned hown
      clear hall hkm
      rw [show m.take k = m from List.take_of_length_le (by omega)]
      go_wp2
      go_ret
      exact ⟨rfl, hb1.trans (hbe.mono hb1.size)⟩

end Go.Proofs.Ytdlhgbhaeedbdaa
