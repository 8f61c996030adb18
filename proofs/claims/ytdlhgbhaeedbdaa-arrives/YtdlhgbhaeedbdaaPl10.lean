/- 'Step.Do'. -/
import Derived.Test.YtdlhgbhaeedbdaaPl9
namespace Go.Proofs.Ytdlhgbhaeedbdaa
open Go.RowKit

set_option maxRecDepth 100000 in
set_option maxHeartbeats 400000 in
theorem do_not (b : Bool) (v : Value) (l : List Item) (y : Item) (w : World) (hl : l.length ≤ 24) (hsz : sizeI l ≤ 1000000) (hy : y.text.size ≤ 1000000) (hv : ItemsAt w v l) (hf : doB b l y = false) :
    Calls Try.prog 52 #[.agg #[.bool b, .int .i64 y.kind, .string y.name, .string y.host, .int .i64 y.number, .int .i64 y.size, .string y.disk, .bool y.only, .int .i64 y.lun, .string y.text], v] w fun e w' => e = .returned (.tuple #[.slice none 0 0, .bool false]) ∧ Below w.heap.size w w' := by
  have hnot : ∀ (x : Bool) (w : World), (Op.unary .not (.bool x)).run Try.prog w = .ok (.bool (!x)) w := fun _ _ => rfl
  have hbn := below_new w (.cells #[.bool b, .int .i64 y.kind, .string y.name, .string y.host, .int .i64 y.number, .int .i64 y.size, .string y.disk, .bool y.only, .int .i64 y.lun, .string y.text] 101)
  have hv0 := hv.below hbn (Nat.le_refl _)
  have hle : w.heap.size ≤ (w.alloc (.cells #[.bool b, .int .i64 y.kind, .string y.name, .string y.host, .int .i64 y.number, .int .i64 y.size, .string y.disk, .bool y.only, .int .i64 y.lun, .string y.text] 101)).heap.size := by simp
  have hc := fits_at b v l y _ hl hsz hy hv0
  rw [hf] at hc
  have Hc := hide hc
  clear hc
  go_enter Try.func52, Try.ntmps52
  go_wp2_with fail
  refine (unhide Hc).mono ?_
  rintro e w1 ⟨rfl, hb1⟩
  go_wp2
  go_ret2
  exact ⟨rfl, hbn.trans (hb1.mono hle)⟩

set_option maxRecDepth 100000 in
set_option maxHeartbeats 400000 in
theorem do_ok (b : Bool) (v : Value) (l : List Item) (y : Item) (w : World) (hl : l.length ≤ 24) (hsz : sizeI l ≤ 1000000) (hy : y.text.size ≤ 1000000) (hv : ItemsAt w v l) (hf : doB b l y = true) :
    Calls Try.prog 52 #[.agg #[.bool b, .int .i64 y.kind, .string y.name, .string y.host, .int .i64 y.number, .int .i64 y.size, .string y.disk, .bool y.only, .int .i64 y.lun, .string y.text], v] w fun e w' => ∃ v', e = .returned (.tuple #[v', .bool true]) ∧ w'.ownsRow w.heap.size 99 9 v' (doI b l y).length (allCells (doI b l y)) ∧ Below w.heap.size w w' := by
  have hnot : ∀ (x : Bool) (w : World), (Op.unary .not (.bool x)).run Try.prog w = .ok (.bool (!x)) w := fun _ _ => rfl
  have hbn := below_new w (.cells #[.bool b, .int .i64 y.kind, .string y.name, .string y.host, .int .i64 y.number, .int .i64 y.size, .string y.disk, .bool y.only, .int .i64 y.lun, .string y.text] 101)
  have hn0 := StAt.new w b y
  have hv0 := hv.below hbn (Nat.le_refl _)
  have hle : w.heap.size < (w.alloc (.cells #[.bool b, .int .i64 y.kind, .string y.name, .string y.host, .int .i64 y.number, .int .i64 y.size, .string y.disk, .bool y.only, .int .i64 y.lun, .string y.text] 101)).heap.size := by simp
  have hc := fits_at b v l y _ hl hsz hy hv0
  rw [hf] at hc
  have Hc := hide hc
  clear hc
  go_enter Try.func52, Try.ntmps52
  go_wp2_with fail
  refine (unhide Hc).mono ?_
  rintro e w1 ⟨rfl, hb1⟩
  have hl1 := hb1.size
  have hv1 := hv0.below hb1 (Nat.le_refl _)
  obtain ⟨b0, b1, b2, b3, b4, b5, b6, b7, b8, b9⟩ := (hn0.below hb1 hle).zero
  have hb01 : Below w.heap.size w w1 := hbn.trans (hb1.mono (Nat.le_of_lt hle))
  clear hn0
  go_wp2_with fail
  refine (after_at b v l y w1 hl hv1).mono ?_
  rintro e w2 ⟨v', rfl, hown, hb2⟩
  clear b0 b1 b2 b3 b4 b5 b6 b7 b8 b9
  go_wp2
  go_ret2
  exact ⟨_, rfl, owns_mono hown (by omega), hb01.trans (hb2.mono (by omega))⟩

end Go.Proofs.Ytdlhgbhaeedbdaa
