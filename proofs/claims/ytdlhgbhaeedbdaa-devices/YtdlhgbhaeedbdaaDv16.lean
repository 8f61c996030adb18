/- The program's Write. -/
import Derived.Test.YtdlhgbhaeedbdaaDv15
import Derived.Deep.AppendLies
namespace Go.Proofs.Ytdlhgbhaeedbdaa
open Go.RowKit

set_option maxRecDepth 100000 in
set_option maxHeartbeats 400000 in
theorem awrite_arg (b : Nat) (i : Int) (v : Option Addr) (n cap : Nat) (w : World) (hi : i < 0 ∨ 64 ≤ i ∨ n ≠ 32) :
    Calls Try.prog 44 #[.pointer (some ⟨b, 0, none⟩), .int .i64 i, .slice v n cap] w fun e w' => e = .returned (.int .i64 6) ∧ w' = w := by
  by_cases h1 : i < 0
  · go_enter Try.func44, Try.ntmps44
    go_wp2
    go_ret
    exact ⟨rfl, rfl⟩
  · by_cases h2 : 64 ≤ i
    · go_enter Try.func44, Try.ntmps44
      go_wp2
      go_ret
      exact ⟨rfl, rfl⟩
    · have h3 : ((n : Int) != 32) = true := by rw [bne_iff_ne]; omega
      go_enter Try.func44, Try.ntmps44
      go_wp2
      go_ret
      exact ⟨rfl, rfl⟩

set_option maxRecDepth 100000 in
set_option maxHeartbeats 400000 in
theorem awrite_dead (b : Nat) (i : Nat) (v : Option Addr) (cap : Nat) (w : World) (hi : i < 64) (c4 : w.cell? ⟨b, 4098, none⟩ = some (.bool true)) :
    Calls Try.prog 44 #[.pointer (some ⟨b, 0, none⟩), .int .i64 i, .slice v 32 cap] w fun e w' => e = .returned (.int .i64 7) ∧ w' = w := by
  have h1 : ¬ (i : Int) < 0 := by omega
  have h2 : ¬ 64 ≤ (i : Int) := by omega
  go_enter Try.func44, Try.ntmps44
  go_wp2
  go_ret
  exact ⟨rfl, rfl⟩

/-- A late write under way. -/
structure LateW (w : World) (N : Nat) (i : Nat) (f : Nat → UInt8) : Prop where
  c0 : w.cell? ⟨N, 0, none⟩ = some (.int .i64 i)
  cd : ∀ j, j < 32 → w.cell? ⟨N, 1 + j, none⟩ = some (.int .u8 (f j).toNat)
  fz : ∀ o, w.frozen? ⟨N, o, none⟩ = false
  lt : N < w.heap.size

theorem LateW.set {w : World} {N i : Nat} {f : Nat → UInt8} (h : LateW w N i f) {j : Nat} (hj : j < 32) (x : UInt8) : LateW (w.setCell ⟨N, 1 + j, none⟩ (.int .u8 x.toNat)) N i fun k => if k = j then x else f k := by
  refine ⟨cell_set_ne h.c0 (by omega), fun k hk => ?_, fun o => by simp [h.fz o], by simpa [World.setCell] using h.lt⟩
  by_cases e : k = j
  · subst e
    rw [if_pos rfl]
    have := h.cd k hk
    exact World.cell?_setCell_same _ _ _ this
  · rw [if_neg e]
    exact cell_set_ne (h.cd k hk) (by omega)

/-- A new late write, by its cells. -/
def lzL (i : Nat) : List Value := .int .i64 i :: List.replicate 32 (.int .u8 0)

theorem lz_eq (i : Nat) : lateZ (i : Int) = (lzL i).toArray := by
  apply Array.toList_inj.1
  simp [lateZ, lzL]

theorem lz_len (i : Nat) : (lzL i).length = 33 := by simp [lzL]
theorem lz_one (i : Nat) : ∀ v ∈ lzL i, v.oneCell' = true := by
  intro v hv
  rcases List.mem_cons.1 hv with rfl | hv
  · rfl
  · rw [List.eq_of_mem_replicate hv]; rfl
theorem lz_at (i j : Nat) (h : j < 32) : (lzL i)[1 + j]'(by rw [lz_len]; omega) = .int .u8 0 := by
  have h1 : (lzL i)[1 + j]? = some (.int .u8 0) := by
    unfold lzL
    rw [Nat.add_comm, List.getElem?_cons_succ, List.getElem?_replicate, if_pos h]
  rw [List.getElem?_eq_getElem (by rw [lz_len]; omega)] at h1
  exact Option.some.inj h1

theorem there_new (w : World) (z : Array Value) (t : TypeId) : (w.alloc (.cells z t)).there w.heap.size 0 z.size := fun j hj => by
  refine ⟨?_, World.frozen?_alloc_at _ _ _ _ rfl⟩
  rw [World.cell?_alloc_at _ _ _ _ rfl, Nat.zero_add, Array.getElem?_eq_getElem hj]
  rfl

theorem lateZ_new (w : World) (z : Array Value) (hz : z.size = 33) (i : Nat) : LateW ((w.alloc (.cells z 89)).setCells w.heap.size 0 (lzL i)) w.heap.size i fun _ => 0 := by
  have hl := lz_len i
  have hth := there_new w z 89
  have hin := World.cell?_setCells_in w.heap.size (lzL i) 0 (w.alloc (.cells z 89)) (fun j hj => (hth j (by omega)).1)
  refine ⟨?_, fun j hj => ?_, fun o => ?_, by rw [size_setCells]; simp⟩
  · have := hin 0 (by omega)
    rw [Nat.zero_add] at this
    rw [this]; rfl
  · have := hin (1 + j) (by omega)
    rw [Nat.zero_add] at this
    rw [this, lz_at i j hj]
    rfl
  · rw [World.frozen?_setCells]; exact World.frozen?_alloc_at _ _ _ _ rfl

theorem Try.sz33 : (Try.prog.info? 89).map (·.size) = some 33 := by kernel_rfl

def zLate : Array Value := #[.int .i64 0, .int .u8 0, .int .u8 0, .int .u8 0, .int .u8 0, .int .u8 0, .int .u8 0, .int .u8 0, .int .u8 0, .int .u8 0, .int .u8 0, .int .u8 0, .int .u8 0, .int .u8 0, .int .u8 0, .int .u8 0, .int .u8 0, .int .u8 0, .int .u8 0, .int .u8 0, .int .u8 0, .int .u8 0, .int .u8 0, .int .u8 0, .int .u8 0, .int .u8 0, .int .u8 0, .int .u8 0, .int .u8 0, .int .u8 0, .int .u8 0, .int .u8 0, .int .u8 0]

set_option maxRecDepth 100000 in
theorem run_allocLate (w : World) : (Instr.alloc 89 true (.tuple #[])).run Try.prog w = .ok (.pointer (some ⟨w.heap.size, 0, none⟩)) (w.alloc (.cells zLate 89)) := by kernel_rfl

theorem wl_alloc {P : Program} {ops : Array Oper} {rest : List Oper} {o : Oper} {a : Act} {w w' : World} {Q : Exit → Act → World → Prop} (hg : o.guard = none) (t : TypeId) (ho : o.op = .alloc t) (v : Value)
    (hr : (Instr.alloc t true (.tuple #[])).run P w = .ok v w') (h : wpList P ops Q rest (a.put o.dst v) w') : wpList P ops Q (o :: rest) a w := by
  refine wpList_plain hg fun K hK => ?_
  unfold Oper.wp execOp
  simp only [ho, Sem.run_bind, hr, Result.andThen_ok, Sem.run_pure]
  exact hK _ _ h

theorem wl_build {P : Program} {ops : Array Oper} {rest : List Oper} {o : Oper} {a : Act} {w : World} {Q : Exit → Act → World → Prop} (hg : o.guard = none) (t : TypeId) (k : Nat) (x : Operand) (ho : o.op = .build t #[(k, x)]) (u : Value) (hu : a.eval x = u) (v : Value)
    (hr : (Instr.build t #[(k, u)]).run P w = .ok v w) (h : wpList P ops Q rest (a.put o.dst v) w) : wpList P ops Q (o :: rest) a w := by
  refine wpList_plain hg fun K hK => ?_
  unfold Oper.wp execOp
  simp only [ho, List.map_toArray, List.map_cons, List.map_nil, hu, Sem.run_bind, hr, Result.andThen_ok, Sem.run_pure]
  exact hK _ _ h

end Go.Proofs.Ytdlhgbhaeedbdaa
