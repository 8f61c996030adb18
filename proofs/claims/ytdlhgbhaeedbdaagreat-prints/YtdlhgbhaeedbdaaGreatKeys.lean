/- Keys: 'same', 'less'. -/
import Derived.Test.YtdlhgbhaeedbdaaGreatReadAll
namespace Go.Proofs.YtdlhgbhaeedbdaaGreat
open Go.RowKit

/-- The program's key. -/
structure Key where
  kind : Int
  name : ByteArray
  host : ByteArray
  number : Int

def Key.cells (k : Key) : Array Value := #[.int .i64 k.kind, .string k.name, .string k.host, .int .i64 k.number]

theorem tl_inj {a b : ByteArray} (h : a.toList = b.toList) : a = b := by
  rw [ByteArray.toList_eq, ByteArray.toList_eq] at h
  cases a; cases b; exact congrArg ByteArray.mk (Array.toList_inj.1 h)
theorem tl_ne {a b : ByteArray} (h : ¬ a.toList = b.toList) : ¬ a = b := fun e => h (by rw [e])

/-- Does a key stand ahead of another? -/
def lessK (k1 : Int) (n1 h1 : ByteArray) (m1 : Int) (k2 : Int) (n2 h2 : ByteArray) (m2 : Int) : Bool :=
  if k1 ≠ k2 then decide (k1 < k2) else if n1 ≠ n2 then Op.bytesLess n1.toList n2.toList else if h1 ≠ h2 then Op.bytesLess h1.toList h2.toList else decide (m1 < m2)

set_option maxHeartbeats 400000 in
theorem same_any (k1 : Int) (n1 h1 : ByteArray) (m1 : Int) (k2 : Int) (n2 h2 : ByteArray) (m2 : Int) (w : World) :
    Calls Tryz.prog 142 #[.agg #[.int .i64 k1, .string n1, .string h1, .int .i64 m1], .agg #[.int .i64 k2, .string n2, .string h2, .int .i64 m2]] w fun e w' => e = .returned (.bool (decide (k1 = k2 ∧ n1 = n2 ∧ h1 = h2 ∧ m1 = m2))) ∧ Below w.heap.size w w' := by
  have hB : ∀ o1 o2, Below w.heap.size w ((w.alloc o1).alloc o2) := fun o1 o2 => ((Below.refl _ _).alloc (Nat.le_refl _) o1).alloc (by simp) o2
  go_enter Tryz.func142, Tryz.ntmps142
  go_wp2
  · go_ret
    refine ⟨?_, hB _ _⟩
    rename_i e1 e2 e3
    simp [e1, tl_inj e2, tl_inj e3, Bool.beq_eq_decide_eq]
  · go_ret
    refine ⟨?_, hB _ _⟩
    rename_i e1 e2 e3
    simp [tl_ne e3]
  · go_ret
    refine ⟨?_, hB _ _⟩
    rename_i e1 e2
    simp [tl_ne e2]
  · go_ret
    refine ⟨?_, hB _ _⟩
    rename_i e1
    simp [e1]

theorem lk1 {k1 : Int} {n1 h1 : ByteArray} {m1 : Int} {k2 : Int} {n2 h2 : ByteArray} {m2 : Int} (a : (k1 != k2) = true) : decide (k1 < k2) = lessK k1 n1 h1 m1 k2 n2 h2 m2 := by
  simp at a; simp [lessK, a]
theorem lk2 {k1 : Int} {n1 h1 : ByteArray} {m1 : Int} {k2 : Int} {n2 h2 : ByteArray} {m2 : Int} (a : (k1 != k2) = false) (b : (!n1.toList == n2.toList) = true) : Op.bytesLess n1.toList n2.toList = lessK k1 n1 h1 m1 k2 n2 h2 m2 := by
  simp at a b; simp [lessK, a, tl_ne b]
theorem lk3 {k1 : Int} {n1 h1 : ByteArray} {m1 : Int} {k2 : Int} {n2 h2 : ByteArray} {m2 : Int} (a : (k1 != k2) = false) (b : (!n1.toList == n2.toList) = false) (c : (!h1.toList == h2.toList) = true) : Op.bytesLess h1.toList h2.toList = lessK k1 n1 h1 m1 k2 n2 h2 m2 := by
  simp at a b c; simp [lessK, a, tl_inj b, tl_ne c]
theorem lk4 {k1 : Int} {n1 h1 : ByteArray} {m1 : Int} {k2 : Int} {n2 h2 : ByteArray} {m2 : Int} (a : (k1 != k2) = false) (b : (!n1.toList == n2.toList) = false) (c : (!h1.toList == h2.toList) = false) : decide (m1 < m2) = lessK k1 n1 h1 m1 k2 n2 h2 m2 := by
  simp at a b c; simp [lessK, a, tl_inj b, tl_inj c]
theorem ret_bool {a b : Bool} (h : a = b) : Ending.returned (.bool a) = .returned (.bool b) := by rw [h]

set_option maxHeartbeats 400000 in
theorem less_any (k1 : Int) (n1 h1 : ByteArray) (m1 : Int) (k2 : Int) (n2 h2 : ByteArray) (m2 : Int) (w : World) :
    Calls Tryz.prog 131 #[.agg #[.int .i64 k1, .string n1, .string h1, .int .i64 m1], .agg #[.int .i64 k2, .string n2, .string h2, .int .i64 m2]] w fun e w' => e = .returned (.bool (lessK k1 n1 h1 m1 k2 n2 h2 m2)) ∧ Below w.heap.size w w' := by
  have hB : ∀ o1 o2, Below w.heap.size w ((w.alloc o1).alloc o2) := fun o1 o2 => ((Below.refl _ _).alloc (Nat.le_refl _) o1).alloc (by simp) o2
  go_enter Tryz.func131, Tryz.ntmps131
  go_wp2
  · go_ret
    exact ⟨ret_bool (lk1 ‹_›), hB _ _⟩
  · go_ret
    exact ⟨ret_bool (lk2 ‹_› ‹_›), hB _ _⟩
  · go_ret
    exact ⟨ret_bool (lk3 ‹_› ‹_› ‹_›), hB _ _⟩
  · go_ret
    exact ⟨ret_bool (lk4 ‹_› ‹_› ‹_›), hB _ _⟩

end Go.Proofs.YtdlhgbhaeedbdaaGreat
