/- 'Step.Do'. -/
import Derived.Test.YtigpohommoogeaaPl9
namespace Go.Proofs.Ytigpohommoogeaa
open Go.RowKit

/-- Can the step be done? -/
def doB (b : Bool) (l : List Item) (y : Item) : Bool := if b then roomB l y && freeB l y else goB l y
/-- What is there behind it. -/
def doI (b : Bool) (l : List Item) (y : Item) : List Item := if b then l ++ [y] else without l y

set_option maxRecDepth 100000 in
set_option maxHeartbeats 400000 in
theorem do_not (b : Bool) (v : Value) (l : List Item) (y : Item) (w : World) (hl : l.length ≤ 24) (hsz : sizeI l ≤ 1000000) (hy : y.text.size ≤ 1000000) (hv : ItemsAt w v l) (hf : doB b l y = false) :
    Calls Try.prog 48 #[.agg #[.bool b, .int .i64 y.kind, .string y.name, .string y.host, .int .i64 y.number, .string y.disk, .int .i64 y.lun, .string y.text], v] w fun e w' => e = .returned (.tuple #[.slice none 0 0, .bool false]) ∧ Below w.heap.size w w' := by
  have hbn := below_new w (.cells #[.bool b, .int .i64 y.kind, .string y.name, .string y.host, .int .i64 y.number, .string y.disk, .int .i64 y.lun, .string y.text] 92)
  have hv0 := hv.below hbn (Nat.le_refl _)
  have hle : w.heap.size ≤ (w.alloc (.cells #[.bool b, .int .i64 y.kind, .string y.name, .string y.host, .int .i64 y.number, .string y.disk, .int .i64 y.lun, .string y.text] 92)).heap.size := by simp
  cases b with
  | true =>
    have hc : Calls Try.prog 58 #[v, .agg #[.int .i64 y.kind, .string y.name, .string y.host, .int .i64 y.number, .string y.disk, .int .i64 y.lun, .string y.text]] (w.alloc (.cells #[.bool true, .int .i64 y.kind, .string y.name, .string y.host, .int .i64 y.number, .string y.disk, .int .i64 y.lun, .string y.text] 92)) fun e w' => e = .returned (.tuple #[.slice none 0 0, .bool false]) ∧ Below (w.alloc (.cells #[.bool true, .int .i64 y.kind, .string y.name, .string y.host, .int .i64 y.number, .string y.disk, .int .i64 y.lun, .string y.text] 92)).heap.size (w.alloc (.cells #[.bool true, .int .i64 y.kind, .string y.name, .string y.host, .int .i64 y.number, .string y.disk, .int .i64 y.lun, .string y.text] 92)) w' := by
      cases hr : roomB l y with
      | false => exact add_full v l y _ hl hsz hy hv0 hr
      | true => exact add_not v l y _ hv0 hr (by simpa [doB, hr] using hf)
    have Hc := hide hc
    clear hc
    go_enter Try.func48, Try.ntmps48
    go_wp2_with fail
    refine (unhide Hc).mono ?_
    rintro e w1 ⟨rfl, hb1⟩
    go_wp2
    go_ret2
    exact ⟨rfl, hbn.trans (hb1.mono hle)⟩
  | false =>
    have hc := remove_not v l y _ hl hv0 hf
    have Hc := hide hc
    clear hc
    go_enter Try.func48, Try.ntmps48
    go_wp2_with fail
    refine (unhide Hc).mono ?_
    rintro e w1 ⟨rfl, hb1⟩
    go_wp2
    go_ret2
    exact ⟨rfl, hbn.trans (hb1.mono hle)⟩

set_option maxRecDepth 100000 in
set_option maxHeartbeats 400000 in
theorem do_ok (b : Bool) (v : Value) (l : List Item) (y : Item) (w : World) (hl : l.length ≤ 24) (hv : ItemsAt w v l) (hf : doB b l y = true) :
    Calls Try.prog 48 #[.agg #[.bool b, .int .i64 y.kind, .string y.name, .string y.host, .int .i64 y.number, .string y.disk, .int .i64 y.lun, .string y.text], v] w fun e w' => ∃ v', e = .returned (.tuple #[v', .bool true]) ∧ w'.ownsRow w.heap.size 90 7 v' (doI b l y).length (allCells (doI b l y)) ∧ Below w.heap.size w w' := by
  have hbn := below_new w (.cells #[.bool b, .int .i64 y.kind, .string y.name, .string y.host, .int .i64 y.number, .string y.disk, .int .i64 y.lun, .string y.text] 92)
  have hv0 := hv.below hbn (Nat.le_refl _)
  have hle : w.heap.size ≤ (w.alloc (.cells #[.bool b, .int .i64 y.kind, .string y.name, .string y.host, .int .i64 y.number, .string y.disk, .int .i64 y.lun, .string y.text] 92)).heap.size := by simp
  cases b with
  | true =>
    have hrf : roomB l y = true ∧ freeB l y = true := by simpa [doB] using hf
    have hc := add_ok v l y _ hv0 hrf.1 hrf.2
    have Hc := hide hc
    clear hc hrf
    go_enter Try.func48, Try.ntmps48
    go_wp2_with fail
    refine (unhide Hc).mono ?_
    rintro e w1 ⟨v', rfl, hown, hb1⟩
    go_wp2
    go_ret2
    exact ⟨_, rfl, owns_mono hown hle, hbn.trans (hb1.mono hle)⟩
  | false =>
    have hc := remove_ok v l y _ hl hv0 hf
    have Hc := hide hc
    clear hc
    go_enter Try.func48, Try.ntmps48
    go_wp2_with fail
    refine (unhide Hc).mono ?_
    rintro e w1 ⟨v', rfl, hown, hb1⟩
    go_wp2
    go_ret2
    exact ⟨_, rfl, owns_mono hown hle, hbn.trans (hb1.mono hle)⟩

end Go.Proofs.Ytigpohommoogeaa
