/- 'plan.Parse', 'Step.Text'. -/
import Derived.Test.YtdlhgbhaeedbdaaPl3
namespace Go.Proofs.Ytdlhgbhaeedbdaa
open Go.RowKit

/-- A step, by its cells. -/
def stCells (b : Bool) (x : Item) : Array Value := #[.bool b, .int .i64 x.kind, .string x.name, .string x.host, .int .i64 x.number, .int .i64 x.size, .string x.disk, .bool x.only, .int .i64 x.lun, .string x.text]

/-- Is the text a step? -/
def goodS (s : ByteArray) : Bool := decide (byteAt s 0 = 43 ∨ byteAt s 0 = 45) && goodI (s.extract 1 s.size)
def addsS (s : ByteArray) : Bool := goodS s && decide (byteAt s 0 = 43)
def itS (s : ByteArray) : Item := if goodS s then oneI (s.extract 1 s.size) else noItem

theorem below_set10 {B : Nat} {a w : World} (h : Below B a w) {g : Nat} (hg : B ≤ g) (u0 u1 u2 u3 u4 u5 u6 u7 u8 u9 : Value) :
    Below B a ((((((((((w.setCell ⟨g, 0, none⟩ u0).setCell ⟨g, 1, none⟩ u1).setCell ⟨g, 2, none⟩ u2).setCell ⟨g, 3, none⟩ u3).setCell ⟨g, 4, none⟩ u4).setCell ⟨g, 5, none⟩ u5).setCell ⟨g, 6, none⟩ u6).setCell ⟨g, 7, none⟩ u7).setCell ⟨g, 8, none⟩ u8).setCell ⟨g, 9, none⟩ u9) :=
  (below_set9 h hg 0 u0 u1 u2 u3 u4 u5 u6 u7 u8).setCell (p := ⟨g, 9, none⟩) hg u9

set_option maxRecDepth 100000 in
set_option maxHeartbeats 400000 in
theorem stParse_none (s : ByteArray) (w : World) (hs : s.size = 0) :
    Calls Try.prog 51 #[.string s] w fun e w' => e = .returned (.tuple #[.agg (stCells false noItem), .bool false]) ∧ Below w.heap.size w w' := by
  have hs' : ((s.size : Int) == 0) = true := by rw [beq_iff_eq]; omega
  clear hs
  go_enter Try.func51, Try.ntmps51
  go_wp2_with fail
  refine bodyPost_ret (v := .tuple #[.agg (stCells false noItem), .bool false]) (by simp [results, Try.results51, go_sem, stCells, noItem]) rfl ⟨rfl, ?_⟩
  exact (Below.refl _ _).alloc (Nat.le_refl _) _

set_option maxRecDepth 100000 in
set_option maxHeartbeats 400000 in
theorem stParse_sign (s : ByteArray) (w : World) (hs : 0 < s.size) (h1 : ¬ (s[0].toNat : Int) = 43) (h2 : ¬ (s[0].toNat : Int) = 45) :
    Calls Try.prog 51 #[.string s] w fun e w' => e = .returned (.tuple #[.agg (stCells false noItem), .bool false]) ∧ Below w.heap.size w w' := by
  have hs' : ((s.size : Int) == 0) = false := by rw [beq_eq_false_iff_ne]; omega
  have hs2 : (0 : Int) < (s.size : Int) := by omega
  have h1' : ((s[0].toNat : Int) != 43) = true := by rw [bne_iff_ne]; exact h1
  have h2' : ((s[0].toNat : Int) != 45) = true := by rw [bne_iff_ne]; exact h2
  clear h1 h2
  go_enter Try.func51, Try.ntmps51
  go_wp2_with fail
  refine bodyPost_ret (v := .tuple #[.agg (stCells false noItem), .bool false]) (by simp [results, Try.results51, go_sem, stCells, noItem]) rfl ⟨rfl, ?_⟩
  exact (Below.refl _ _).alloc (Nat.le_refl _) _

end Go.Proofs.Ytdlhgbhaeedbdaa
