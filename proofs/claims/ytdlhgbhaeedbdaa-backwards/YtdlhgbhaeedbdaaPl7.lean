/- 'plan.canAdd'. -/
import Derived.Test.YtdlhgbhaeedbdaaPl6
import Derived.Laws.AppendOwnNone
namespace Go.Proofs.Ytdlhgbhaeedbdaa
open Go.RowKit

/-- Is there room for one item more? -/
def roomB (l : List Item) (y : Item) : Bool := decide (l.length < 24) && decide (sizeI l + y.text.size ≤ 400)
/-- Is its key free, and is there what it names? -/
def freeB (l : List Item) (y : Item) : Bool := !(l.any (keyIs y.key)) && (namesOf y).all fun k => l.any (keyIs k)

def itCells (y : Item) : Array Value := #[.int .i64 y.kind, .string y.name, .string y.host, .int .i64 y.number, .int .i64 y.size, .string y.disk, .bool y.only, .int .i64 y.lun, .string y.text]

theorem ItAt.new (w : World) (y : Item) : ItAt (w.alloc (.cells (itCells y) 99)) w.heap.size 0 y := by
  unfold itCells
  constructor <;> go_simp

theorem below_new (w : World) (o : Obj) : Below w.heap.size w (w.alloc o) := (Below.refl _ _).alloc (Nat.le_refl _) o

set_option maxRecDepth 100000 in
set_option maxHeartbeats 400000 in
theorem canAdd_full (v : Value) (l : List Item) (y : Item) (w : World) (hl : l.length ≤ 24) (hsz : sizeI l ≤ 1000000) (hy : y.text.size ≤ 1000000) (hv : ItemsAt w v l) (hr : roomB l y = false) :
    Calls Try.prog 85 #[v, .agg #[.int .i64 y.kind, .string y.name, .string y.host, .int .i64 y.number, .int .i64 y.size, .string y.disk, .bool y.only, .int .i64 y.lun, .string y.text]] w fun e w' => e = .returned (.bool false) ∧ Below w.heap.size w w' := by
  have hv0 := hv.below (below_new w (.cells (itCells y) 99)) (Nat.le_refl _)
  have hS : ∀ n, Calls Try.prog 95 #[v] ((w.alloc (.cells (itCells y) 99)).drewN n) fun e w' => e = .returned (.int .i64 (sizeI l)) ∧ w' = (w.alloc (.cells (itCells y) 99)).drewN n := fun n =>
    size_at v l _ hl hsz (hv0.below (below_drewN (Below.refl _ _) n) (Nat.le_refl _))
  have hvs : ∃ a cap, v = .slice a l.length cap := by
    rcases hv with ⟨rfl, rfl⟩ | ⟨g, cap, rfl, _⟩
    · exact ⟨none, 0, rfl⟩
    · exact ⟨_, _, rfl⟩
  obtain ⟨a, cap, rfl⟩ := hvs
  unfold itCells at hS
  have HS := hide hS
  clear hS hv hv0
  unfold roomB at hr
  by_cases h24 : l.length < 24
  · have hbig : ¬ ((sizeI l : Nat) : Int) + (y.text.size : Int) ≤ 400 := by simp [h24] at hr; omega
    have h24' : ¬ (24 : Int) ≤ (l.length : Int) := by omega
    have hbig' : (400 : Int) < ((sizeI l : Nat) : Int) + (y.text.size : Int) := by omega
    clear hr
    go_enter Try.func85, Try.ntmps85
    go_wp2
    go_quiet (first | (go_at_call 95; exact (unhide HS _).mono (fun e w1 h => ⟨h.1, _, h.2⟩)))
    go_wp2
    go_ret
    exact ⟨rfl, below_drewN (below_new _ _) _⟩
  · have h24' : (24 : Int) ≤ (l.length : Int) := by omega
    clear hr
    go_enter Try.func85, Try.ntmps85
    go_wp2
    go_quiet (first | (go_at_call 95; exact (unhide HS _).mono (fun e w1 h => ⟨h.1, _, h.2⟩)))
    go_wp2
    go_ret
    exact ⟨rfl, below_drewN (below_new _ _) _⟩

end Go.Proofs.Ytdlhgbhaeedbdaa
