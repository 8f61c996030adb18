/- The devices at the start; Print of one disk. -/
import Derived.Test.YtdlhgbhaeedbdaaDv19
import Derived.Test.YtdlhgbhaeedbdaaDev0
import Derived.Test.YtdlhgbhaeedbdaaPrint2
namespace Go.Proofs.Ytdlhgbhaeedbdaa
open Go.RowKit

def refCells : Array Value := #[.slice none 0 0, .int .i64 (-1), .bool false]

set_option maxRecDepth 100000 in
set_option maxHeartbeats 400000 in
theorem rnewDevice_any (w : World) : Calls Try.prog 11 #[] w fun e w' => e = .returned (.pointer (some ⟨w.heap.size, 0, none⟩)) ∧ w' = w.alloc (.cells refCells 43) := by
  go_enter Try.func11, Try.ntmps11
  go_wp2
  go_ret
  exact ⟨rfl, rfl⟩

theorem dev_lt (j : Nat) (h : j < 4096) : devCells[j]? = some (.int .u8 0) := by
  unfold devCells
  rw [Array.getElem?_append_left (by simpa using h)]
  simp [h]

theorem dev_past (j : Nat) : devCells[4096 + j]? = #[Value.slice none 0 0, .int .i64 (-1), .bool false][j]? := by
  unfold devCells
  rw [Array.getElem?_append_right (by simp)]
  simp

theorem api_new (w : World) : ApiAt (w.alloc (.cells devCells 77)) w.heap.size (byteIn []) (byteIn ([] ++ [])) [] (-1) false := by
  have hc : ∀ j, (w.alloc (.cells devCells 77)).cell? ⟨w.heap.size, j, none⟩ = devCells[j]? := fun j => World.cell?_alloc_at _ _ _ _ rfl
  refine ⟨⟨_, _, heap_alloc_last w _⟩, fun j hj => ?_, fun j hj => ?_, ⟨.slice none 0 0, ?_, World.ownsRow_nil _ _ _ _⟩, ?_, ?_, fun o => World.frozen?_alloc_at _ _ _ _ rfl, by simp⟩
  · rw [hc, dev_lt j (by omega), byteIn_nil]; rfl
  · rw [hc, dev_lt _ (by omega), List.append_nil, byteIn_nil]; rfl
  · rw [hc, show 4096 = 4096 + 0 from rfl, dev_past]; rfl
  · rw [hc, show 4097 = 4096 + 1 from rfl, dev_past]; rfl
  · rw [hc, show 4098 = 4096 + 2 from rfl, dev_past]; rfl

theorem ref_new (w : World) : RefAt (w.alloc (.cells refCells 43)) w.heap.size ([] ++ []) (-1) false := by
  have hc : ∀ j, (w.alloc (.cells refCells 43)).cell? ⟨w.heap.size, j, none⟩ = refCells[j]? := fun j => World.cell?_alloc_at _ _ _ _ rfl
  exact ⟨⟨_, _, heap_alloc_last w _⟩, ⟨.slice none 0 0, by rw [hc]; rfl, World.ownsRow_nil _ _ _ _⟩, by rw [hc]; rfl, by rw [hc]; rfl, fun o => World.frozen?_alloc_at _ _ _ _ rfl, by simp⟩

theorem sim_new (w : World) : SimN ((w.alloc (.cells devCells 77)).alloc (.cells refCells 43)) w.heap.size (w.heap.size + 1) 0 := by
  have hr := ref_new (w.alloc (.cells devCells 77))
  have hs : (w.alloc (.cells devCells 77)).heap.size = w.heap.size + 1 := by simp
  rw [hs] at hr
  have ha := (api_new w).keep (T := fun _ => False) (w' := (w.alloc (.cells devCells 77)).alloc (.cells refCells 43)) (TK.of_below ((Below.refl _ _).alloc (Nat.le_refl _) _)) id id
  exact ⟨[], [], -1, -1, false, ⟨ha, hr, fun x hx => by simp at hx, fun x hx => by simp at hx, fun x hx => by simp at hx, fun _ => .inl rfl, by omega, by omega⟩, by simp⟩

def oneDisk : ByteArray := ⟨#[100, 105, 115, 107, 32, 97, 32, 52, 59]⟩

set_option maxRecDepth 100000 in
theorem disk_chk : (chk oneDisk).1 = 0 := by kernel_rfl
set_option maxRecDepth 100000 in
theorem disk_prt : prt oneDisk = oneDisk := by kernel_rfl

end Go.Proofs.Ytdlhgbhaeedbdaa
