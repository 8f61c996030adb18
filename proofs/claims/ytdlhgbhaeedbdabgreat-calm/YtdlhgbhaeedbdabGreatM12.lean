/- Dv3, Dv4, Dv5, Dv6, Dv7, Dv8, Dv9, Dv10, Dv11, Dv13. -/
import Derived.Test.YtdlhgbhaeedbdabGreatM11
import Derived.Test.YtdlhgbhaeedbdabGreatM2
import Derived.Test.YtdlhgbhaeedbdabGreatM5
import Derived.OpenShut
import Derived.Deep.Onto
import Derived.Deep.MidRow

/- The two devices: Read of the document's device. -/
namespace Go.Proofs.YtdlhgbhaeedbdabGreat
open Go.RowKit

/-- A write in the document's log. -/
structure Lg where
  sec : Nat
  data : ByteArray
  sure : Bool

def Lg.cells (x : Lg) : List Value := [.int .i64 x.sec, .string x.data, .bool x.sure]
def lgCells (l : List Lg) : List Value := l.flatMap Lg.cells

theorem lg_get (l : List Lg) (k : Nat) (hk : k < l.length) (c : Nat) (hc : c < 3) : (lgCells l)[k * 3 + c]? = l[k].cells[c]? := by
  induction l generalizing k with
  | nil => simp at hk
  | cons a l ih =>
    unfold lgCells
    rw [List.flatMap_cons]
    cases k with
    | zero => rw [List.getElem?_append_left (by simp [Lg.cells]; omega)]; simp
    | succ k =>
      rw [List.getElem?_append_right (by simp [Lg.cells]; omega)]
      have := ih k (by simpa using hk)
      rw [show (k + 1) * 3 + c - a.cells.length = k * 3 + c by simp [Lg.cells]; omega]
      exact this

/-- The last write of a sector. -/
def lastIn (l : List Lg) (i : Nat) : Option ByteArray := (l.reverse.find? fun x => x.sec == i).map (·.data)

theorem lastIn_snoc (l : List Lg) (x : Lg) (i : Nat) : lastIn (l ++ [x]) i = if x.sec = i then some x.data else lastIn l i := by
  unfold lastIn
  rw [List.reverse_append]
  simp only [List.reverse_singleton, List.singleton_append, List.find?_cons]
  by_cases h : x.sec = i
  · simp [h]
  · have : (x.sec == i) = false := by simp [h]
    simp [this, h]

def zero32 : ByteArray := ⟨(List.replicate 32 (0 : UInt8)).toArray⟩
def readOf (l : List Lg) (i : Nat) : ByteArray := (lastIn l i).getD zero32

theorem readOf_take {l : List Lg} {k i : Nat} (hk : k < l.length) : readOf (l.take (k + 1)) i = if l[k].sec = i then l[k].data else readOf (l.take k) i := by
  unfold readOf
  rw [List.take_succ_eq_append_getElem hk, lastIn_snoc]
  by_cases h : l[k].sec = i <;> simp [h]

theorem conv32 (w : World) : (convert 115 9 (.slice (some ⟨w.heap.size, 0, none⟩) 32 32)).run Tryz.prog (w.alloc (.cells (madeBytes 32) 5)) = .ok (.string zero32) (w.alloc (.cells (madeBytes 32) 5)) := by
  have := run_convert_bytes_back (P := Tryz.prog) (w.alloc (.cells (madeBytes 32) 5)) 115 9 5 ⟨w.heap.size, 0, none⟩ 32 (List.replicate 32 (0 : UInt8)) Tryz.underlying115 Tryz.underlying5 Tryz.underlying9 (fun j hj => by
    have := (bytes_made w 32).cell j (by simpa using hj)
    rw [addr_add, List.getElem_replicate]
    exact this)
  rw [List.length_replicate] at this
  exact this

end Go.Proofs.YtdlhgbhaeedbdabGreat

/- The two devices: the document's 'bit'. -/
namespace Go.Proofs.YtdlhgbhaeedbdabGreat
open Go.RowKit

def bitOf (keep : Int) (n : Nat) : Bool := decide ((keep % 18446744073709551616).toNat / 2 ^ (n % 63) % 2 = 1)

theorem u64_wrap (x : Int) : IntKind.u64.wrap x = x % 18446744073709551616 := by rfl

end Go.Proofs.YtdlhgbhaeedbdabGreat

/- The two devices: what an operation leaves alone, by the types of the blocks; the document's device: its power, its Write. -/
namespace Go.Proofs.YtdlhgbhaeedbdabGreat
open Go.RowKit

/-- Only blocks of the types T have changed. -/
structure TK (T : TypeId → Prop) (w w' : World) : Prop where
  os : w'.os = w.os
  tape : w'.tape = w.tape
  output : w'.output = w.output
  size : w.heap.size ≤ w'.heap.size
  block : ∀ (k : Nat) (cs : Array Value) (t : TypeId) (fr : Nat × Nat), w.heap[k]? = some (Obj.cells cs t fr) → ¬ T t → w'.heap[k]? = w.heap[k]?

theorem TK.refl (T : TypeId → Prop) (w : World) : TK T w w := ⟨rfl, rfl, rfl, Nat.le_refl _, fun _ _ _ _ _ _ => rfl⟩
theorem TK.trans {T : TypeId → Prop} {a b c : World} (h : TK T a b) (k : TK T b c) : TK T a c :=
  ⟨k.os.trans h.os, k.tape.trans h.tape, k.output.trans h.output, Nat.le_trans h.size k.size, fun i cs t fr hi ht => by
    have := h.block i cs t fr hi ht
    exact (k.block i cs t fr (this.trans hi) ht).trans this⟩
theorem TK.of_below {T : TypeId → Prop} {w w' : World} (h : Below w.heap.size w w') : TK T w w' :=
  ⟨h.os, h.tape, h.output, h.size, fun k _ _ _ hk _ => h.block k (by
    by_cases e : k < w.heap.size
    · exact e
    · rw [Array.getElem?_eq_none (by omega)] at hk; cases hk)⟩
theorem TK.setCell {T : TypeId → Prop} {w : World} {b o : Nat} {cs : Array Value} {t : TypeId} {fr : Nat × Nat} (hb : w.heap[b]? = some (Obj.cells cs t fr)) (ht : T t) (u : Value) : TK T w (w.setCell ⟨b, o, none⟩ u) :=
  ⟨rfl, rfl, rfl, by simp [World.setCell], fun k cs' t' fr' hk hn => Below.heap_setCell w _ u k (fun e => by
    simp only at e
    subst e
    rw [hb] at hk
    simp only [Option.some.injEq, Obj.cells.injEq] at hk
    exact hn (hk.2.1 ▸ ht))⟩
theorem TK.grown {T : TypeId → Prop} {w w' : World} {base : Nat} {e : TypeId} {size : Nat} {v : Value} {n : Nat} {xs : List Value} (hown : w.ownsRow base e size v n xs) (hg : w.grownBy w' v.ownBlock) (ht : T e) : TK T w w' :=
  ⟨hg.os, hg.tape, hg.output, hg.size, fun k cs t fr hk hn => hg.block k (by
      by_cases e : k < w.heap.size
      · exact e
      · rw [Array.getElem?_eq_none (by omega)] at hk; cases hk) (fun e1 => by
      obtain ⟨_, ⟨rfl, _⟩ | ⟨g, cap, cur, rfl, _, hcur, _⟩⟩ := hown
      · cases e1
      · simp only [Value.ownBlock, Option.some.injEq] at e1
        subst e1
        rw [hcur] at hk
        simp only [Option.some.injEq, Obj.cells.injEq] at hk
        exact hn (hk.2.1 ▸ ht))⟩

def rcLeft (l : Int) (d : Bool) : Int := if d = true ∨ l = 0 then l else if 0 < l then l - 1 else l
def rcGone (l : Int) (d : Bool) : Bool := if d = true ∨ l = 0 then true else d

end Go.Proofs.YtdlhgbhaeedbdabGreat

/- The document's device: Write. -/
namespace Go.Proofs.YtdlhgbhaeedbdabGreat
open Go.RowKit

end Go.Proofs.YtdlhgbhaeedbdabGreat

/- The document's device: Flush. -/
namespace Go.Proofs.YtdlhgbhaeedbdabGreat
open Go.RowKit

def Lg.mark (x : Lg) : Lg := { x with sure := true }

theorem lg_set (l : List Lg) (k : Nat) (hk : k < l.length) : (lgCells l).set (k * 3 + 2) (.bool true) = lgCells (l.set k l[k].mark) := by
  induction l generalizing k with
  | nil => simp at hk
  | cons a l ih =>
    cases k with
    | zero => simp [lgCells, Lg.cells, Lg.mark]
    | succ k =>
      have := ih k (by simpa using hk)
      have e : (k + 1) * 3 + 2 = k * 3 + 2 + 1 + 1 + 1 := by omega
      rw [e]
      simp only [lgCells, List.flatMap_cons, Lg.cells, List.cons_append, List.nil_append, List.set_cons_succ, List.getElem_cons_succ] at this ⊢
      rw [this]

def flushed (L : List Lg) (k : Nat) : List Lg := (L.take k).map Lg.mark ++ L.drop k

theorem flushed_len (L : List Lg) (k : Nat) : (flushed L k).length = L.length := by simp [flushed]; omega
theorem flushed_at {L : List Lg} {k : Nat} (hk : k < L.length) : (flushed L k)[k]'(by rw [flushed_len]; exact hk) = L[k] := by
  unfold flushed
  rw [List.getElem_append_right (by simp; omega)]
  simp [Nat.min_eq_left (Nat.le_of_lt hk)]
theorem flushed_succ {L : List Lg} {k : Nat} (hk : k < L.length) : (flushed L k).set k L[k].mark = flushed L (k + 1) := by
  unfold flushed
  rw [List.set_append_right _ _ (by simp; omega)]
  simp only [List.length_map, List.length_take, Nat.min_eq_left (Nat.le_of_lt hk), Nat.sub_self]
  rw [List.drop_eq_getElem_cons hk, List.set_cons_zero, List.take_succ_eq_append_getElem hk, List.map_append, List.append_assoc]
  rfl

end Go.Proofs.YtdlhgbhaeedbdabGreat

/- The document's device: Restore. -/
namespace Go.Proofs.YtdlhgbhaeedbdabGreat
open Go.RowKit

def rest1 (keep : Int) (acc : List Lg × Nat) (x : Lg) : List Lg × Nat := if x.sure then (acc.1 ++ [x.mark], acc.2) else (if bitOf keep acc.2 then acc.1 ++ [x.mark] else acc.1, acc.2 + 1)
def restTo (keep : Int) (L : List Lg) (k : Nat) : List Lg × Nat := (L.take k).foldl (rest1 keep) ([], 0)

theorem restTo_succ (keep : Int) {L : List Lg} {k : Nat} (hk : k < L.length) : restTo keep L (k + 1) = rest1 keep (restTo keep L k) L[k] := by
  unfold restTo
  rw [List.take_succ_eq_append_getElem hk, List.foldl_append]
  rfl

theorem restTo_le (keep : Int) (L : List Lg) (k : Nat) (hk : k ≤ L.length) : (restTo keep L k).1.length ≤ k ∧ (restTo keep L k).2 ≤ k := by
  induction k with
  | zero => simp [restTo]
  | succ k ih =>
    have := ih (by omega)
    rw [restTo_succ keep (by omega)]
    unfold rest1
    split
    · simp; omega
    · split <;> simp <;> omega

end Go.Proofs.YtdlhgbhaeedbdabGreat

/- The document's log, its flushed and its late part. Plain mathematics. -/
namespace Go.Proofs.YtdlhgbhaeedbdabGreat
open Go.RowKit

theorem readOf_snoc (L : List Lg) (x : Lg) (i : Nat) : readOf (L ++ [x]) i = if x.sec = i then x.data else readOf L i := by
  unfold readOf
  rw [lastIn_snoc]
  by_cases h : x.sec = i <;> simp [h]

/-- The byte at a place of the 64 sectors of 32 bytes. -/
def byteIn (L : List Lg) (j : Nat) : UInt8 := (readOf L (j / 32)).data.toList.getD (j % 32) 0

theorem byteIn_snoc (L : List Lg) (x : Lg) (j : Nat) : byteIn (L ++ [x]) j = if x.sec = j / 32 then x.data.data.toList.getD (j % 32) 0 else byteIn L j := by
  unfold byteIn
  rw [readOf_snoc]
  split <;> rfl

theorem byteIn_nil (j : Nat) : byteIn [] j = 0 := by
  have h : j % 32 < 32 := by omega
  show ((List.replicate 32 (0 : UInt8))[j % 32]?).getD 0 = 0
  rw [List.getElem?_replicate, if_pos h]
  rfl

/-- Every text in the log has 32 bytes and a sector below 64. -/
def Fine (L : List Lg) : Prop := ∀ x ∈ L, x.sec < 64 ∧ x.data.size = 32

theorem readOf_size {L : List Lg} (h : Fine L) (i : Nat) : (readOf L i).size = 32 := by
  unfold readOf lastIn
  cases e : L.reverse.find? fun x => x.sec == i with
  | none => rfl
  | some x =>
    have := List.mem_of_find?_eq_some e
    exact (h x (by simpa using this)).2

theorem fine_snoc {L : List Lg} {x : Lg} (h : Fine L) (h1 : x.sec < 64) (h2 : x.data.size = 32) : Fine (L ++ [x]) := by
  intro y hy
  rcases List.mem_append.1 hy with hy | hy
  · exact h y hy
  · simp at hy; subst hy; exact ⟨h1, h2⟩

/-- A text of 32 bytes is told by its bytes. -/
theorem text_bytes {L : List Lg} (h : Fine L) (i : Nat) : (readOf L i).data.toList = (List.range 32).map fun k => byteIn L (i * 32 + k) := by
  have hs : (readOf L i).data.toList.length = 32 := by rw [Array.length_toList]; exact readOf_size h i
  apply List.ext_getElem?
  intro k
  by_cases hk : k < 32
  · have e1 : (i * 32 + k) / 32 = i := by omega
    have e2 : (i * 32 + k) % 32 = k := by omega
    have hk' : k < (readOf L i).data.toList.length := by rw [hs]; exact hk
    rw [List.getElem?_map, List.getElem?_range hk, List.getElem?_eq_getElem hk']
    simp only [byteIn, e1, e2, Option.map_some, List.getD, List.getElem?_eq_getElem hk', Option.getD_some]
  · rw [List.getElem?_eq_none (by omega), List.getElem?_eq_none (by rw [List.length_map, List.length_range]; omega)]

theorem byteIn_mark (L : List Lg) (j : Nat) : byteIn (L.map Lg.mark) j = byteIn L j := by
  have : ∀ i, readOf (L.map Lg.mark) i = readOf L i := fun i => by
    unfold readOf lastIn
    rw [← List.map_reverse, List.find?_map]
    have : ((fun x : Lg => x.sec == i) ∘ Lg.mark) = fun x => x.sec == i := rfl
    rw [this]
    cases L.reverse.find? fun x => x.sec == i <;> rfl
  unfold byteIn
  rw [this]

/-- The late writes that a Restore keeps. -/
def keptTo (keep : Int) (U : List Lg) : Nat → List Lg
  | 0 => []
  | k + 1 => keptTo keep U k ++ (if bitOf keep k then (U[k]?.map Lg.mark).toList else [])

theorem restTo_sure (keep : Int) {S : List Lg} (U : List Lg) (hS : ∀ x ∈ S, x.sure = true) (k : Nat) (hk : k ≤ S.length) : restTo keep (S ++ U) k = (S.take k, 0) := by
  induction k with
  | zero => rfl
  | succ k ih =>
    have hks : k < S.length := by omega
    rw [restTo_succ keep (show k < (S ++ U).length by simp; omega), ih (by omega), List.getElem_append_left hks]
    have h1 := hS S[k] (List.getElem_mem hks)
    have h2 : S[k].mark = S[k] := by
      generalize S[k] = x at h1
      cases x; simp only at h1; subst h1; rfl
    simp only [rest1, h1, if_true, h2, List.take_succ_eq_append_getElem hks]

theorem restTo_late (keep : Int) {S U : List Lg} (hS : ∀ x ∈ S, x.sure = true) (hU : ∀ x ∈ U, x.sure = false) (k : Nat) (hk : k ≤ U.length) : restTo keep (S ++ U) (S.length + k) = (S ++ keptTo keep U k, k) := by
  induction k with
  | zero => rw [Nat.add_zero, restTo_sure keep U hS _ (Nat.le_refl _), List.take_length]; simp [keptTo]
  | succ k ih =>
    have hku : k < U.length := by omega
    rw [← Nat.add_assoc, restTo_succ keep (show S.length + k < (S ++ U).length by simp; omega), ih (by omega), List.getElem_append_right (by omega)]
    have h1 := hU U[k] (List.getElem_mem hku)
    simp only [Nat.add_sub_cancel_left]
    simp only [rest1, h1, Bool.false_eq_true, if_false, keptTo, List.getElem?_eq_getElem hku, Option.map_some, Option.toList_some]
    split <;> simp

theorem mark_sure {S : List Lg} (hS : ∀ x ∈ S, x.sure = true) : S.map Lg.mark = S := by
  conv => rhs; rw [← List.map_id S]
  refine List.map_congr_left fun x hx => ?_
  have := hS x hx
  cases x; simp only at this; subst this; rfl

end Go.Proofs.YtdlhgbhaeedbdabGreat

/- The program's device, by what lies in its block. -/
namespace Go.Proofs.YtdlhgbhaeedbdabGreat
open Go.RowKit

def lateZ (i : Int) : Array Value := #[.int .i64 i] ++ Array.replicate 32 (.int .u8 0)

/-- A new late write: its sector, 32 bytes of 0. -/
theorem run_lateZ (i : Int) (w : World) : (Instr.build 147 #[(0, .int .i64 i)]).run Tryz.prog w = .ok (.agg (lateZ i)) w := by kernel_rfl

def AT (t : TypeId) : Prop := t = 120 ∨ t = 147

def ltCells (x : Lg) : List Value := .int .i64 x.sec :: byteCells x.data.data.toList
def latesC (U : List Lg) : List Value := U.flatMap ltCells

/-- The program's device in block b: what lasts, what is read, the late writes, the power. -/
structure ApiAt (w : World) (b : Nat) (S E : Nat → UInt8) (U : List Lg) (l : Int) (d : Bool) : Prop where
  ty : ∃ cs fr, w.heap[b]? = some (Obj.cells cs 120 fr)
  cs : ∀ j, j < 2048 → w.cell? ⟨b, j, none⟩ = some (.int .u8 (S j).toNat)
  ce : ∀ j, j < 2048 → w.cell? ⟨b, 2048 + j, none⟩ = some (.int .u8 (E j).toNat)
  cl : ∃ v, w.cell? ⟨b, 4096, none⟩ = some v ∧ w.ownsRow (b + 1) 147 33 v U.length (latesC U)
  c3 : w.cell? ⟨b, 4097, none⟩ = some (.int .i64 l)
  c4 : w.cell? ⟨b, 4098, none⟩ = some (.bool d)
  fz : ∀ o, w.frozen? ⟨b, o, none⟩ = false
  lt : b < w.heap.size

theorem cell_set_ne {w : World} {b o o' : Nat} {u v : Value} (h : w.cell? ⟨b, o, none⟩ = some v) (hne : o ≠ o') : (w.setCell ⟨b, o', none⟩ u).cell? ⟨b, o, none⟩ = some v := by
  have : (⟨b, o, none⟩ : Addr) ≠ ⟨b, o', none⟩ := by
    intro he
    simp only [Addr.mk.injEq] at he
    omega
  go_simp

def spLeft (l : Int) : Int := if 0 < l then l - 1 else l
def spDead (l : Int) (d : Bool) : Bool := if l = 0 then true else d

theorem ApiAt.set3 {w : World} {b : Nat} {S E : Nat → UInt8} {U : List Lg} {l : Int} {d : Bool} (h : ApiAt w b S E U l d) (n : Int) :
    ApiAt (w.setCell ⟨b, 4097, none⟩ (.int .i64 n)) b S E U n d ∧ Below b w (w.setCell ⟨b, 4097, none⟩ (.int .i64 n)) ∧ TK AT w (w.setCell ⟨b, 4097, none⟩ (.int .i64 n)) := by
  obtain ⟨⟨cs, fr, hty⟩, hs, he, ⟨v, c2, hrow⟩, c3, c4, fz, lt⟩ := h
  exact ⟨⟨ty_set ⟨cs, fr, hty⟩ _, fun j hj => cell_set_ne (hs j hj) (by omega), fun j hj => cell_set_ne (he j hj) (by omega), ⟨v, cell_set_ne c2 (by omega), ownsRow_setCell_below hrow (by simp) _⟩,
    by go_simp, cell_set_ne c4 (by omega), fun o => by simp [fz o], by simpa [World.setCell] using lt⟩, (Below.refl _ _).setCell (p := ⟨b, 4097, none⟩) (Nat.le_refl _) _, TK.setCell hty (.inl rfl) _⟩

theorem ApiAt.set4 {w : World} {b : Nat} {S E : Nat → UInt8} {U : List Lg} {l : Int} {d : Bool} (h : ApiAt w b S E U l d) (x : Bool) :
    ApiAt (w.setCell ⟨b, 4098, none⟩ (.bool x)) b S E U l x ∧ Below b w (w.setCell ⟨b, 4098, none⟩ (.bool x)) ∧ TK AT w (w.setCell ⟨b, 4098, none⟩ (.bool x)) := by
  obtain ⟨⟨cs, fr, hty⟩, hs, he, ⟨v, c2, hrow⟩, c3, c4, fz, lt⟩ := h
  exact ⟨⟨ty_set ⟨cs, fr, hty⟩ _, fun j hj => cell_set_ne (hs j hj) (by omega), fun j hj => cell_set_ne (he j hj) (by omega), ⟨v, cell_set_ne c2 (by omega), ownsRow_setCell_below hrow (by simp) _⟩,
    cell_set_ne c3 (by omega), by go_simp, fun o => by simp [fz o], by simpa [World.setCell] using lt⟩, (Below.refl _ _).setCell (p := ⟨b, 4098, none⟩) (Nat.le_refl _) _, TK.setCell hty (.inl rfl) _⟩

theorem ApiAt.spend {w : World} {b : Nat} {S E : Nat → UInt8} {U : List Lg} {l : Int} {d : Bool} (h : ApiAt w b S E U l d) :
    ApiAt (spW w b l) b S E U (spLeft l) (spDead l d) ∧ Below b w (spW w b l) ∧ TK AT w (spW w b l) := by
  unfold spW spLeft spDead
  by_cases h0 : l = 0
  · subst h0
    simp only [if_true, Int.lt_irrefl, if_false]
    exact h.set4 true
  · by_cases h1 : 0 < l
    · simp only [h0, h1, if_false, if_true]
      exact h.set3 (l - 1)
    · simp only [h0, h1, if_false]
      exact ⟨h, Below.refl _ _, TK.refl _ _⟩

end Go.Proofs.YtdlhgbhaeedbdabGreat

/- The two devices do not touch each other. -/
namespace Go.Proofs.YtdlhgbhaeedbdabGreat
open Go.RowKit

theorem TK.row {T : TypeId → Prop} {w w' : World} (hk : TK T w w') {base : Nat} {e : TypeId} {size : Nat} {v : Value} {n : Nat} {xs : List Value} (he : ¬ T e) (h : w.ownsRow base e size v n xs) : w'.ownsRow base e size v n xs := by
  obtain ⟨hl, ⟨rfl, h0⟩ | ⟨g, cap, cur, rfl, hb, hg, hr⟩⟩ := h
  · exact ⟨hl, .inl ⟨rfl, h0⟩⟩
  · exact ⟨hl, .inr ⟨g, cap, cur, rfl, hb, (hk.block g cur e (0, 0) hg he).trans hg, hr⟩⟩

theorem ApiAt.keep {T : TypeId → Prop} {w w' : World} {b : Nat} {S E : Nat → UInt8} {U : List Lg} {l : Int} {d : Bool} (h : ApiAt w b S E U l d) (hk : TK T w w') (h1 : ¬ T 120) (h2 : ¬ T 147) : ApiAt w' b S E U l d := by
  obtain ⟨⟨cs, fr, hty⟩, hs, he, ⟨v, c2, hrow⟩, c3, c4, fz, lt⟩ := h
  have hb := hk.block b cs _ fr hty h1
  have hc : ∀ o, w'.cell? ⟨b, o, none⟩ = w.cell? ⟨b, o, none⟩ := fun o => World.cell?_of_block hb
  have hf : ∀ o, w'.frozen? ⟨b, o, none⟩ = w.frozen? ⟨b, o, none⟩ := fun o => World.frozen?_of_block hb
  exact ⟨⟨cs, fr, hb.trans hty⟩, fun j hj => (hc j).trans (hs j hj), fun j hj => (hc _).trans (he j hj), ⟨v, (hc _).trans c2, hk.row h2 hrow⟩, (hc _).trans c3, (hc _).trans c4, fun o => (hf o).trans (fz o), Nat.lt_of_lt_of_le lt hk.size⟩

theorem TK.mono {T T' : TypeId → Prop} {w w' : World} (h : TK T w w') (hT : ∀ t, T t → T' t) : TK T' w w' :=
  ⟨h.os, h.tape, h.output, h.size, fun k cs t fr hk ht => h.block k cs t fr hk (fun e => ht (hT t e))⟩

end Go.Proofs.YtdlhgbhaeedbdabGreat

/- The program's device: 32 cells are stored in its middle. -/
namespace Go.Proofs.YtdlhgbhaeedbdabGreat
open Go.RowKit

theorem ty_setCells {b : Nat} {t : TypeId} : ∀ (vs : List Value) (o : Nat) (w : World), (∃ cs fr, w.heap[b]? = some (Obj.cells cs t fr)) → ∃ cs fr, (w.setCells b o vs).heap[b]? = some (Obj.cells cs t fr)
  | [], _, _, h => h
  | v :: r, o, w, h => by rw [World.setCells]; exact ty_setCells r (o + 1) _ (ty_set h v)

theorem tk_setCells {T : TypeId → Prop} {b : Nat} {t : TypeId} (ht : T t) : ∀ (vs : List Value) (o : Nat) (w : World), (∃ cs fr, w.heap[b]? = some (Obj.cells cs t fr)) → TK T w (w.setCells b o vs)
  | [], _, w, _ => TK.refl _ w
  | v :: r, o, w, h => by
    rw [World.setCells]
    obtain ⟨cs, fr, hb⟩ := h
    exact (TK.setCell hb ht v).trans (tk_setCells ht r (o + 1) _ (ty_set ⟨cs, fr, hb⟩ v))

theorem below_setCells {b : Nat} : ∀ (vs : List Value) (o : Nat) (w : World), Below b w (w.setCells b o vs)
  | [], _, w => Below.refl _ w
  | v :: r, o, w => by
    rw [World.setCells]
    exact ((Below.refl _ _).setCell (p := ⟨b, o, none⟩) (Nat.le_refl _) v).trans (below_setCells r (o + 1) _)

theorem owns_setCells {base : Nat} {e : TypeId} {size : Nat} {v : Value} {n : Nat} {xs : List Value} {b : Nat} (hb : b < base) : ∀ (vs : List Value) (o : Nat) (w : World), w.ownsRow base e size v n xs → (w.setCells b o vs).ownsRow base e size v n xs
  | [], _, _, h => h
  | u :: r, o, w, h => by rw [World.setCells]; exact owns_setCells hb r (o + 1) _ (ownsRow_setCell_below h (a := ⟨b, o, none⟩) hb u)

theorem size_setCells {b : Nat} : ∀ (vs : List Value) (o : Nat) (w : World), (w.setCells b o vs).heap.size = w.heap.size
  | [], _, _ => rfl
  | v :: r, o, w => by rw [World.setCells, size_setCells r (o + 1)]; simp [World.setCell]

/-- A sector is laid down. -/
def upd (S : Nat → UInt8) (i : Nat) (d : List UInt8) : Nat → UInt8 := fun j => if i = j / 32 then d.getD (j % 32) 0 else S j

theorem bc_get {d : List UInt8} {j : Nat} (h : j < d.length) : (byteCells d)[j]'(by simpa [byteCells] using h) = .int .u8 (d.getD j 0).toNat := by
  simp [byteCells, List.getD, h]
theorem bc_len (d : List UInt8) : (byteCells d).length = d.length := by simp [byteCells]

theorem ApiAt.thereS {w : World} {b : Nat} {S E : Nat → UInt8} {U : List Lg} {l : Int} {d : Bool} (h : ApiAt w b S E U l d) {i : Nat} (hi : i < 64) : w.there b (i * 32) 32 := fun j hj =>
  ⟨by rw [h.cs (i * 32 + j) (by omega)]; rfl, h.fz _⟩
theorem ApiAt.thereE {w : World} {b : Nat} {S E : Nat → UInt8} {U : List Lg} {l : Int} {d : Bool} (h : ApiAt w b S E U l d) {i : Nat} (hi : i < 64) : w.there b (2048 + i * 32) 32 := fun j hj =>
  ⟨by rw [show 2048 + i * 32 + j = 2048 + (i * 32 + j) from by omega, h.ce (i * 32 + j) (by omega)]; rfl, h.fz _⟩

theorem ApiAt.setS {w : World} {b : Nat} {S E : Nat → UInt8} {U : List Lg} {l : Int} {d : Bool} (h : ApiAt w b S E U l d) {i : Nat} (hi : i < 64) {x : List UInt8} (hx : x.length = 32) :
    ApiAt (w.setCells b (i * 32) (byteCells x)) b (upd S i x) E U l d ∧ Below b w (w.setCells b (i * 32) (byteCells x)) ∧ TK AT w (w.setCells b (i * 32) (byteCells x)) := by
  have hth := h.thereS hi
  have hl : (byteCells x).length = 32 := by rw [bc_len, hx]
  have hin : ∀ j, j < 32 → (w.setCells b (i * 32) (byteCells x)).cell? ⟨b, i * 32 + j, none⟩ = some (.int .u8 (x.getD j 0).toNat) := fun j hj => by
    rw [World.cell?_setCells_in b (byteCells x) (i * 32) w (fun k hk => (hth k (by omega)).1) j (by omega), bc_get (by omega)]
  have hout : ∀ o, (o < i * 32 ∨ i * 32 + 32 ≤ o) → (w.setCells b (i * 32) (byteCells x)).cell? ⟨b, o, none⟩ = w.cell? ⟨b, o, none⟩ := fun o ho =>
    World.cell?_setCells_out b (byteCells x) (i * 32) w ⟨b, o, none⟩ (fun _ _ => by rw [hl]; exact ho)
  refine ⟨⟨ty_setCells _ _ _ h.ty, fun j hj => ?_, fun j hj => ?_, ?_, ?_, ?_, fun o => by rw [World.frozen?_setCells]; exact h.fz o, by rw [size_setCells]; exact h.lt⟩, below_setCells _ _ _, tk_setCells (.inl rfl) _ _ _ h.ty⟩
  · unfold upd
    by_cases e : i = j / 32
    · rw [if_pos e]
      have := hin (j % 32) (by omega)
      rwa [show i * 32 + j % 32 = j from by omega] at this
    · rw [if_neg e, hout j (by omega)]; exact h.cs j hj
  · rw [hout _ (by omega)]; exact h.ce j hj
  · obtain ⟨v, c, hr⟩ := h.cl
    exact ⟨v, by rw [hout _ (by omega)]; exact c, owns_setCells (by omega) _ _ _ hr⟩
  · rw [hout _ (by omega)]; exact h.c3
  · rw [hout _ (by omega)]; exact h.c4

theorem ApiAt.setE {w : World} {b : Nat} {S E : Nat → UInt8} {U : List Lg} {l : Int} {d : Bool} (h : ApiAt w b S E U l d) {i : Nat} (hi : i < 64) {x : List UInt8} (hx : x.length = 32) :
    ApiAt (w.setCells b (2048 + i * 32) (byteCells x)) b S (upd E i x) U l d ∧ Below b w (w.setCells b (2048 + i * 32) (byteCells x)) ∧ TK AT w (w.setCells b (2048 + i * 32) (byteCells x)) := by
  have hth := h.thereE hi
  have hl : (byteCells x).length = 32 := by rw [bc_len, hx]
  have hin : ∀ j, j < 32 → (w.setCells b (2048 + i * 32) (byteCells x)).cell? ⟨b, 2048 + i * 32 + j, none⟩ = some (.int .u8 (x.getD j 0).toNat) := fun j hj => by
    rw [World.cell?_setCells_in b (byteCells x) (2048 + i * 32) w (fun k hk => (hth k (by omega)).1) j (by omega), bc_get (by omega)]
  have hout : ∀ o, (o < 2048 + i * 32 ∨ 2048 + i * 32 + 32 ≤ o) → (w.setCells b (2048 + i * 32) (byteCells x)).cell? ⟨b, o, none⟩ = w.cell? ⟨b, o, none⟩ := fun o ho =>
    World.cell?_setCells_out b (byteCells x) (2048 + i * 32) w ⟨b, o, none⟩ (fun _ _ => by rw [hl]; exact ho)
  refine ⟨⟨ty_setCells _ _ _ h.ty, fun j hj => ?_, fun j hj => ?_, ?_, ?_, ?_, fun o => by rw [World.frozen?_setCells]; exact h.fz o, by rw [size_setCells]; exact h.lt⟩, below_setCells _ _ _, tk_setCells (.inl rfl) _ _ _ h.ty⟩
  · rw [hout _ (by omega)]; exact h.cs j hj
  · unfold upd
    by_cases e : i = j / 32
    · rw [if_pos e]
      have := hin (j % 32) (by omega)
      rwa [show 2048 + i * 32 + j % 32 = 2048 + j from by omega] at this
    · rw [if_neg e, hout (2048 + j) (by omega)]; exact h.ce j hj
  · obtain ⟨v, c, hr⟩ := h.cl
    exact ⟨v, by rw [hout _ (by omega)]; exact c, owns_setCells (by omega) _ _ _ hr⟩
  · rw [hout _ (by omega)]; exact h.c3
  · rw [hout _ (by omega)]; exact h.c4

theorem ApiAt.congrS {w : World} {b : Nat} {S S' E E' : Nat → UInt8} {U : List Lg} {l : Int} {d : Bool} (h : ApiAt w b S E U l d) (e : ∀ j, j < 2048 → S j = S' j) (f : ∀ j, j < 2048 → E j = E' j) : ApiAt w b S' E' U l d :=
  ⟨h.ty, fun j hj => by rw [← e j hj]; exact h.cs j hj, fun j hj => by rw [← f j hj]; exact h.ce j hj, h.cl, h.c3, h.c4, h.fz, h.lt⟩

/-- The late writes are let go. -/
theorem ApiAt.drop {w : World} {b : Nat} {S E : Nat → UInt8} {U : List Lg} {l : Int} {d : Bool} (h : ApiAt w b S E U l d) :
    ApiAt (w.setCell ⟨b, 4096, none⟩ (.slice none 0 0)) b S E [] l d ∧ Below b w (w.setCell ⟨b, 4096, none⟩ (.slice none 0 0)) ∧ TK AT w (w.setCell ⟨b, 4096, none⟩ (.slice none 0 0)) := by
  obtain ⟨⟨cs, fr, hty⟩, hs, he, ⟨v, c2, hrow⟩, c3, c4, fz, lt⟩ := h
  exact ⟨⟨ty_set ⟨cs, fr, hty⟩ _, fun j hj => cell_set_ne (hs j hj) (by omega), fun j hj => cell_set_ne (he j hj) (by omega), ⟨_, by go_simp, World.ownsRow_nil _ _ _ _⟩,
    cell_set_ne c3 (by omega), cell_set_ne c4 (by omega), fun o => by simp [fz o], by simpa [World.setCell] using lt⟩, (Below.refl _ _).setCell (p := ⟨b, 4096, none⟩) (Nat.le_refl _) _, TK.setCell hty (.inl rfl) _⟩

theorem lt_len (x : Lg) (h : x.data.size = 32) : (ltCells x).length = 33 := by
  simp only [ltCells, List.length_cons, bc_len]
  rw [Array.length_toList]
  have : x.data.data.size = x.data.size := rfl
  omega

theorem lates_get {U : List Lg} (hU : ∀ x ∈ U, x.data.size = 32) (k : Nat) (hk : k < U.length) (c : Nat) (hc : c < 33) : (latesC U)[k * 33 + c]? = (ltCells U[k])[c]? := by
  induction U generalizing k with
  | nil => simp at hk
  | cons a U ih =>
    simp only [latesC, List.flatMap_cons]
    have h33 := lt_len a (hU a (by simp))
    match k with
    | 0 => rw [List.getElem?_append_left (by omega)]; simp
    | k + 1 =>
      rw [List.getElem?_append_right (by omega), h33, show (k + 1) * 33 + c - 33 = k * 33 + c from by omega]
      exact ih (fun x hx => hU x (by simp [hx])) k (by simpa using hk)

/-- A late write, where it lies. -/
theorem lates_at {w : World} {base : Nat} {a : Option Addr} {n cap : Nat} {U : List Lg} (h : w.ownsRow base 147 33 (.slice a n cap) U.length (latesC U)) (hU : ∀ x ∈ U, x.data.size = 32) {k : Nat} (hk : k < U.length) :
    ∃ g, a = some ⟨g, 0, none⟩ ∧ n = U.length ∧ base ≤ g ∧ g < w.heap.size ∧ w.cell? ⟨g, k * 33, none⟩ = some (.int .i64 U[k].sec) ∧ w.rangeAt g (k * 33 + 1) (byteCells U[k].data.data.toList) := by
  have hh := h
  obtain ⟨_, ⟨_, h0⟩ | ⟨g, cp, cur, e, hb, hg, hc, _, _, _⟩⟩ := hh
  · omega
  · have e1 : a = some ⟨g, 0, none⟩ := by injection e
    have e2 : n = U.length := by injection e
    subst e1
    have hcl := h.cells (g := g) rfl
    refine ⟨g, rfl, e2, hb, (h.lt g rfl).2, ?_, fun j v hv => ?_⟩
    · have := hcl (k * 33) (.int .i64 U[k].sec) (by rw [show k * 33 = k * 33 + 0 from rfl, lates_get hU k hk 0 (by omega)]; rfl)
      rwa [addr_add] at this
    · have hj : j < 32 := by
        have := (List.getElem?_eq_some_iff.1 hv).1
        rw [bc_len, Array.length_toList] at this
        have h2 : U[k].data.data.size = U[k].data.size := rfl
        have := hU U[k] (List.getElem_mem hk)
        omega
      have := hcl (k * 33 + (1 + j)) v (by rw [lates_get hU k hk (1 + j) (by omega)]; show (ltCells U[k])[1 + j]? = some v; rw [Nat.add_comm]; exact hv)
      rw [addr_add] at this
      rw [show k * 33 + 1 + j = k * 33 + (1 + j) from by omega]
      exact this

end Go.Proofs.YtdlhgbhaeedbdabGreat
