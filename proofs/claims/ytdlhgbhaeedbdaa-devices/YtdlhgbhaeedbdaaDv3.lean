/- The two devices: Read of the document's device. -/
import Derived.Test.YtdlhgbhaeedbdaaDv2
import Derived.Test.YtdlhgbhaeedbdaaReadAll
import Derived.Test.YtdlhgbhaeedbdaaPrint2
import Derived.OpenShut
namespace Go.Proofs.Ytdlhgbhaeedbdaa
open Go.RowKit

/-- A write in the document's log. -/
structure Lg where
  sec : Nat
  data : ByteArray
  sure : Bool

def Lg.cells (x : Lg) : List Value := [.int .i64 x.sec, .string x.data, .bool x.sure]
def lgCells (l : List Lg) : List Value := l.flatMap Lg.cells

theorem lg_get (l : List Lg) (k : Nat) (hk : k < l.length) (c : Nat) (hc : c < 3) : (lgCells l)[k * 3 + c]? = l[k].cells[c]? := by
  induction l generalizing k with
  | nil => simp at hk
  | cons a l ih =>
    unfold lgCells
    rw [List.flatMap_cons]
    cases k with
    | zero => rw [List.getElem?_append_left (by simp [Lg.cells]; omega)]; simp
    | succ k =>
      rw [List.getElem?_append_right (by simp [Lg.cells]; omega)]
      have := ih k (by simpa using hk)
      rw [show (k + 1) * 3 + c - a.cells.length = k * 3 + c by simp [Lg.cells]; omega]
      exact this

def LogW (w : World) (base : Nat) (v : Value) (l : List Lg) : Prop := w.ownsRow base 91 3 v l.length (lgCells l)

theorem LogW.at {w : World} {base : Nat} {a : Option Addr} {n cap : Nat} {l : List Lg} (h : LogW w base (.slice a n cap) l) {k : Nat} (hk : k < l.length) :
    ∃ g, a = some ⟨g, 0, none⟩ ∧ n = l.length ∧ base ≤ g ∧ g < w.heap.size ∧ l.length ≤ cap ∧ ∀ k (hk : k < l.length), w.cell? ⟨g, k * 3, none⟩ = some (.int .i64 l[k].sec) ∧ w.cell? ⟨g, k * 3 + 1, none⟩ = some (.string l[k].data) ∧ w.cell? ⟨g, k * 3 + 2, none⟩ = some (.bool l[k].sure) := by
  have hh := h
  obtain ⟨_, ⟨_, h0⟩ | ⟨g, cap', cur, e, hb, hg, hc, _, _, _⟩⟩ := hh
  · omega
  · simp only [Value.slice.injEq] at e
    obtain ⟨rfl, rfl, rfl⟩ := e
    refine ⟨g, rfl, rfl, hb, (World.ownsRow.lt h g rfl).2, hc, fun k hk => ?_⟩
    have q : ∀ c, c < 3 → ∀ u, l[k].cells[c]? = some u → w.cell? ⟨g, k * 3 + c, none⟩ = some u := fun c hc u hu => by
      have := World.ownsRow.cells h (g := g) rfl (k * 3 + c) u (by rw [lg_get l k hk c hc]; exact hu)
      rw [addr_add] at this
      exact this
    exact ⟨q 0 (by omega) _ rfl, q 1 (by omega) _ rfl, q 2 (by omega) _ rfl⟩

/-- The last write of a sector. -/
def lastIn (l : List Lg) (i : Nat) : Option ByteArray := (l.reverse.find? fun x => x.sec == i).map (·.data)

theorem lastIn_snoc (l : List Lg) (x : Lg) (i : Nat) : lastIn (l ++ [x]) i = if x.sec = i then some x.data else lastIn l i := by
  unfold lastIn
  rw [List.reverse_append]
  simp only [List.reverse_singleton, List.singleton_append, List.find?_cons]
  by_cases h : x.sec = i
  · simp [h]
  · have : (x.sec == i) = false := by simp [h]
    simp [this, h]

def zero32 : ByteArray := ⟨(List.replicate 32 (0 : UInt8)).toArray⟩
def readOf (l : List Lg) (i : Nat) : ByteArray := (lastIn l i).getD zero32

theorem readOf_take {l : List Lg} {k i : Nat} (hk : k < l.length) : readOf (l.take (k + 1)) i = if l[k].sec = i then l[k].data else readOf (l.take k) i := by
  unfold readOf
  rw [List.take_succ_eq_append_getElem hk, lastIn_snoc]
  by_cases h : l[k].sec = i <;> simp [h]

theorem conv32 (w : World) : (convert 30 9 (.slice (some ⟨w.heap.size, 0, none⟩) 32 32)).run Try.prog (w.alloc (.cells (madeBytes 32) 5)) = .ok (.string zero32) (w.alloc (.cells (madeBytes 32) 5)) := by
  have := run_convert_bytes_back (P := Try.prog) (w.alloc (.cells (madeBytes 32) 5)) 30 9 5 ⟨w.heap.size, 0, none⟩ 32 (List.replicate 32 (0 : UInt8)) Try.underlying30 Try.underlying5 Try.underlying9 (fun j hj => by
    have := (bytes_made w 32).cell j (by simpa using hj)
    rw [addr_add, List.getElem_replicate]
    exact this)
  rw [List.length_replicate] at this
  exact this

set_option maxRecDepth 100000 in
set_option maxHeartbeats 400000 in
theorem rread_arg (b : Nat) (i : Int) (w : World) (hi : i < 0 ∨ 64 ≤ i) :
    Calls Try.prog 43 #[.pointer (some ⟨b, 0, none⟩), .int .i64 i] w fun e w' => e = .returned (.tuple #[.string ⟨#[]⟩, .int .i64 6]) ∧ w' = w := by
  by_cases h : i < 0
  · clear hi
    go_enter Try.func43, Try.ntmps43
    go_wp2_with fail
    go_ret2
    exact ⟨rfl, rfl⟩
  · have h2 : 64 ≤ i := by omega
    clear hi
    go_enter Try.func43, Try.ntmps43
    go_wp2_with fail
    go_ret2
    exact ⟨rfl, rfl⟩

set_option maxRecDepth 100000 in
set_option maxHeartbeats 400000 in
theorem rread_gone (b : Nat) (i : Nat) (l : Int) (d : Bool) (w : World) (hi : i < 64) (hl : l ≤ 9223372036854775807) (hsp : rcR l d = false)
    (c1 : w.cell? ⟨b, 1, none⟩ = some (.int .i64 l)) (c2 : w.cell? ⟨b, 2, none⟩ = some (.bool d)) (fz : ∀ o, w.frozen? ⟨b, o, none⟩ = false) :
    Calls Try.prog 43 #[.pointer (some ⟨b, 0, none⟩), .int .i64 i] w fun e w' => e = .returned (.tuple #[.string ⟨#[]⟩, .int .i64 7]) ∧ w' = rcW w b l d := by
  have HS := hide (rcall_any b l d w hl c1 c2 fz)
  rw [hsp] at HS
  have h1 : ¬ (i : Int) < 0 := by omega
  have h2 : ¬ 64 ≤ (i : Int) := by omega
  clear c1 c2 fz hsp hl
  go_enter Try.func43, Try.ntmps43
  go_wp2_with fail
  refine (unhide HS).mono ?_
  rintro e w1 ⟨rfl, hw1⟩
  go_wp2_with fail
  go_ret2
  exact ⟨rfl, rfl⟩

set_option maxRecDepth 100000 in
set_option maxHeartbeats 400000 in
theorem rread_ok (b : Nat) (i : Nat) (l : Int) (d : Bool) (w : World) (L : List Lg) (v : Value) (hi : i < 64) (hl : l ≤ 9223372036854775807) (hsp : rcR l d = true) (hn : L.length ≤ 4398046511000)
    (c1 : w.cell? ⟨b, 1, none⟩ = some (.int .i64 l)) (c2 : w.cell? ⟨b, 2, none⟩ = some (.bool d)) (fz : ∀ o, w.frozen? ⟨b, o, none⟩ = false)
    (c0 : (rcW w b l d).cell? ⟨b, 0, none⟩ = some v) (hlog : LogW (rcW w b l d) (b + 1) v L) :
    Calls Try.prog 43 #[.pointer (some ⟨b, 0, none⟩), .int .i64 i] w fun e w' => e = .returned (.tuple #[.string (readOf L i), .int .i64 0]) ∧ Below (rcW w b l d).heap.size (rcW w b l d) w' := by
  have HS := hide (rcall_any b l d w hl c1 c2 fz)
  rw [hsp] at HS
  have h1 : ¬ (i : Int) < 0 := by omega
  have h2 : ¬ 64 ≤ (i : Int) := by omega
  have hmk := run_make32
  have hcv := conv32
  obtain ⟨a, cap, rfl⟩ := slice_of_owns hlog
  generalize rcW w b l d = W at *
  have Hlog := hide hlog
  clear c1 c2 fz hsp hl hlog
  go_enter Try.func43, Try.ntmps43
  go_wp2_with fail
  refine (unhide HS).mono ?_
  rintro e w1 ⟨rfl, rfl⟩
  go_wp2_with fail
  go_loop [7] (fun kv => ∃ (j : Nat) (x : Int), j ≤ L.length ∧ x = (j : Int) - 1 ∧ kv = .int .i64 x ∧ readOf L i = readOf (L.take j) i) (fun kv => (intOf kv + 1).toNat)
  case atStart => exact ⟨L.length, (L.length : Int) - 1, Nat.le_refl _, rfl, by go_num, by rw [List.take_length]⟩
  case round =>
    obtain ⟨j, x, hj, hx, rfl, hrd⟩ := hrel
    have Hrd := hide hrd
    clear hrd
    match j, hj with
    | 0, hj =>
      have hx' : x = -1 := by omega
      subst hx'
      have HR := hide (show readOf L i = zero32 by rw [unhide Hrd]; rfl)
      clear hx
      go_wp2_with fail
      go_ret2
      exact ⟨by rw [unhide HR]; rfl, (Below.refl _ _).alloc (Nat.le_refl _) _⟩
    | j + 1, hj =>
      have hx' : x = (j : Int) := by omega
      subst hx'
      have hjl : j < L.length := by omega
      have hjl' : (j : Int) < (L.length : Int) := by omega
      obtain ⟨g, rfl, _, _, _, hcap, hcs⟩ := (unhide Hlog).at hjl
      obtain ⟨q0, q1, _⟩ := hcs j hjl
      have HT := hide (readOf_take (i := i) hjl)
      have hw1 : IntKind.i64.wrap ((j : Int) - 1) = (j : Int) - 1 := by rw [IntKind.wrap_i64]; omega
      generalize hxx : L[j] = y at *
      clear hx hxx hcs
      by_cases he : y.sec = i
      · have he' : ((y.sec : Int) == (i : Int)) = true := by simp [he]
        have HR := hide (show readOf L i = y.data by rw [unhide Hrd, unhide HT, if_pos he])
        clear he
        go_wp2_with fail
        go_ret2
        exact ⟨by rw [unhide HR]; rfl, Below.refl _ _⟩
      · have he' : ((y.sec : Int) == (i : Int)) = false := by rw [beq_eq_false_iff_ne]; omega
        have HR := hide (show readOf L i = readOf (L.take j) i by rw [unhide Hrd, unhide HT, if_neg he])
        clear he
        go_wp2_with fail
        go_round
        case rel => exact ⟨j, (j : Int) - 1, by omega, rfl, by go_num, unhide HR⟩
        case measure => simp [intOf]

end Go.Proofs.Ytdlhgbhaeedbdaa
