/- Print, Print2, Dv3, Dv4, Dv5. -/
import Derived.Test.YtgbkkolohloacaaM5
import Derived.Lib.AppendStr
import Derived.Test.YtgbkkolohloacaaM1
import Derived.Test.YtgbkkolohloacaaM3
import Derived.OpenShut

/- 'arrange.Print', 'rack.Print'. -/
namespace Go.Proofs.Ytgbkkolohloacaa
open Go.RowKit

theorem Try.infoByte : (Try.prog.info? 5).map (fun i => (i.zero, i.size, i.bytes)) = some (some (.int .u8 0), 1, 1) := by kernel_rfl

/-- The items' texts, one behind the other. -/
def catB (l : List Item) : List UInt8 := l.flatMap fun x => x.text.data.toList
def byteCells (l : List UInt8) : List Value := l.map fun b => Value.int .u8 b.toNat

theorem catB_snoc (l : List Item) (x : Item) : catB (l ++ [x]) = catB l ++ x.text.data.toList := by simp [catB]
theorem catB_len (l : List Item) (h : ∀ x ∈ l, x.text.size ≤ 400) : (catB l).length ≤ 400 * l.length := by
  induction l with
  | nil => simp [catB]
  | cons a l ih =>
    have h1 := ih (fun x hx => h x (by simp [hx]))
    have h2 := h a (by simp)
    have h3 : a.text.data.toList.length = a.text.size := by simp
    simp only [catB, List.flatMap_cons, List.length_append, List.length_cons] at h1 ⊢
    omega

/-- string(b), b a row of the call's own. -/
theorem conv_owned {w : World} {base : Nat} {v : Value} {l : List UInt8} (h : w.ownsRow base 5 1 v l.length (byteCells l)) :
    (convert 30 9 v).run Try.prog w = .ok (.string ⟨l.toArray⟩) w := by
  have hh := h
  obtain ⟨_, ⟨rfl, h0⟩ | ⟨g, cap, cur, rfl, _⟩⟩ := hh
  · have : l = [] := List.length_eq_zero_iff.1 h0
    subst this
    exact run_convert_bytes_nil w 30 5 Try.underlying30 Try.underlying5 0 0 9 Try.underlying9
  · refine run_convert_bytes_back w 30 9 5 ⟨g, 0, none⟩ cap l Try.underlying30 Try.underlying5 Try.underlying9 fun j hj => ?_
    exact h.cells rfl j _ (by simp [byteCells, List.getElem?_eq_getElem hj])

set_option maxRecDepth 100000 in
set_option maxHeartbeats 400000 in
theorem aprint_in (g cap : Nat) (l : List Item) (w : World) (hl : l.length ≤ 24) (ht : ∀ x ∈ sortTo l l.length, x.text.size ≤ 400) (hit : ItemsIn w g l) :
    Calls Try.prog 41 #[.slice (some ⟨g, 0, none⟩) l.length cap] w fun e w' => e = .returned (.string ⟨(catB (sortTo l l.length)).toArray⟩) ∧ Below w.heap.size w w' := by
  obtain ⟨m, hm⟩ : ∃ m, m = sortTo l l.length := ⟨_, rfl⟩
  have hord := inOrder_in g cap l w hl hit
  have hml : m.length = l.length := by rw [hm]; exact sortTo_length l _ (Nat.le_refl _)
  rw [← hm] at hord ht ⊢
  rw [← hml] at hord
  have hlm : m.length ≤ 24 := by omega
  have Hord := hide hord
  clear hord
  rw [← hml]
  clear hm hml hit
  go_enter Try.func41, Try.ntmps41
  go_wp2_with fail
  refine (unhide Hord).mono ?_
  rintro e w1 ⟨rfl, hit, hb1⟩
  have hg1 := hit.1
  go_wp2
  go_loopw [4, 5] (fun tv i wr => ∃ k : Nat, k ≤ m.length ∧ i = .int .i64 k ∧ wr.ownsRow w1.heap.size 5 1 tv (catB (m.take k)).length (byteCells (catB (m.take k))) ∧ Below w1.heap.size w1 wr) (fun _ i _ => m.length - (intOf i).toNat)
  case atStart => exact ⟨0, Nat.zero_le _, rfl, World.ownsRow_nil _ _ _ _, Below.refl _ _⟩
  case round =>
    obtain ⟨k, hk, rfl, hown, hbe⟩ := hrel
    obtain ⟨a, tc, rfl⟩ := slice_of_owns hown
    by_cases hlt : k < m.length
    · obtain ⟨x, hx⟩ : ∃ x, x = m[k] := ⟨_, rfl⟩
      have hix := (hit.2 k hlt).below hbe hg1
      rw [← hx] at hix
      have hstep : catB (m.take (k + 1)) = catB (m.take k) ++ x.text.data.toList := by rw [List.take_succ_eq_append_getElem hlt, catB_snoc, ← hx]
      have Hstep := hide hstep
      have hxs : x.text.size ≤ 400 := ht x (by rw [hx]; exact List.getElem_mem hlt)
      have hcl : (catB (m.take k)).length ≤ 9600 := by
        have := catB_len (m.take k) (fun y hy => ht y (List.mem_of_mem_take hy))
        simp at this; omega
      obtain ⟨c0, c1, c2, c3, c4, c5, c6⟩ := hix
      have hlt' : (k : Int) < (m.length : Int) := by omega
      have hsz := hbe.size
      obtain ⟨i0, hi, hz0, hz1, hz2⟩ := info_parts Try.infoByte
      clear hstep hx
      go_wp2_with (at_builtin; refine Lib.wpList_append_own_string _ rfl _ _ 30 9 rfl w1.heap.size 5 i0 Try.underlying30 Try.underlying9 hi hz0 hz1 hz2 (.slice a (catB (m.take k)).length tc) (catB (m.take k)).length (byteCells (catB (m.take k))) ?hs hown x.text ?hx ?c3 ?c4 ?c5 ?_)
      case hs => rfl
      case hx => rfl
      case c3 => unfold maxLen; omega
      case c4 => omega
      case c5 => exact hsz
      intro v' w2 hown' hgrow _
      have hbe2 := hbe.grown hgrow hsz (fun k e => (hown.lt k e).1)
      clear hgrow c0 c1 c2 c3 c4 c5 c6
      go_wp2
      go_roundw
      case rel =>
        refine ⟨k + 1, by omega, by go_num, ?_, hbe2⟩
        rw [unhide Hstep, List.length_append, show x.text.data.toList.length = x.text.size from by simp]
        rw [show byteCells (catB (m.take k) ++ x.text.data.toList) = byteCells (catB (m.take k)) ++ Lib.strCells x.text from by simp [byteCells, Lib.strCells]]
        exact hown'
      case measure => simp [intOf]; omega
    · have hkm : k = m.length := by omega
      have hall : m.take k = m := List.take_of_length_le (by omega)
      rw [hall] at hown
      have hcv := conv_owned hown
      clear hall hkm
      rw [show m.take k = m from List.take_of_length_le (by omega)]
      go_wp2
      go_ret
      exact ⟨rfl, hb1.trans (hbe.mono hb1.size)⟩

end Go.Proofs.Ytgbkkolohloacaa

/- 'rack.Print'. -/
namespace Go.Proofs.Ytgbkkolohloacaa
open Go.RowKit

theorem rdAll_mem (s : ByteArray) (n p : Nat) (acc : List Item) (x : Item) (h : x ∈ (rdAll s n p acc).1) : x ∈ acc ∨ ∃ q, x = itemAt s q := by
  induction n generalizing p acc with
  | zero =>
    unfold rdAll at h
    split at h
    · simp at h
    · exact Or.inl h
  | succ n ih =>
    unfold rdAll at h
    split at h
    · split at h
      · simp at h
      · rcases ih _ _ h with h1 | h1
        · rcases List.mem_append.1 h1 with h2 | h2
          · exact Or.inl h2
          · exact Or.inr ⟨p, by simpa using h2⟩
        · exact Or.inr h1
    · exact Or.inl h

theorem itemsOf_text (s : ByteArray) (hs : s.size ≤ 400) : ∀ x ∈ itemsOf s, x.text.size ≤ 400 := by
  intro x hx
  rcases rdAll_mem s 24 0 [] x hx with h | ⟨q, rfl⟩
  · simp at h
  · simp [itemAt, itemT]; omega

theorem mem_ins {l : List Item} {x y : Item} (h : y ∈ ins l x) : y = x ∨ y ∈ l := by
  unfold ins at h
  rcases List.mem_append.1 h with h | h
  · exact Or.inr (List.mem_of_mem_take h)
  · rcases List.mem_cons.1 h with h | h
    · exact Or.inl h
    · exact Or.inr (List.mem_of_mem_drop h)

theorem mem_foldl_ins {l acc : List Item} {y : Item} (h : y ∈ l.foldl ins acc) : y ∈ acc ∨ y ∈ l := by
  induction l generalizing acc with
  | nil => exact Or.inl h
  | cons a l ih =>
    rcases ih h with h | h
    · rcases mem_ins h with rfl | h
      · exact Or.inr (by simp)
      · exact Or.inl h
    · exact Or.inr (by simp [h])

theorem mem_sortTo {l : List Item} {k : Nat} {y : Item} (h : y ∈ sortTo l k) : y ∈ l := by
  rcases mem_foldl_ins h with h | h
  · simp at h
  · exact List.mem_of_mem_take h

set_option maxRecDepth 100000 in
set_option maxHeartbeats 400000 in
theorem inOrder_nil (w : World) :
    Calls Try.prog 63 #[.slice none 0 0] w fun e w' => e = .returned (.slice (some ⟨w.heap.size, 0, none⟩) 0 0) ∧ Below w.heap.size w w' := by
  have hmk : ∀ w, (Instr.makeSlice 78 (.int .i64 0) (.int .i64 0)).run Try.prog w = .ok (.slice (some ⟨w.heap.size, 0, none⟩) 0 0) (w.alloc (.cells (madeItems 0) 99)) := fun w => run_makeItems 0 (by omega) w
  go_enter Try.func63, Try.ntmps63
  go_wp2
  refine wp_loop_rounds 1 ?_
  rw [rounds_succ]
  go_wp2
  go_ret
  exact ⟨rfl, (Below.refl _ _).alloc (Nat.le_refl _) _⟩

set_option maxRecDepth 100000 in
set_option maxHeartbeats 400000 in
theorem aprint_nil (w : World) :
    Calls Try.prog 41 #[.slice none 0 0] w fun e w' => e = .returned (.string ⟨#[]⟩) ∧ Below w.heap.size w w' := by
  go_enter Try.func41, Try.ntmps41
  go_wp2_with fail
  refine (inOrder_nil w).mono ?_
  rintro e w1 ⟨rfl, hb1⟩
  have hcv : ∀ wx : World, (convert 30 9 (.slice none 0 0)).run Try.prog wx = .ok (.string ⟨#[]⟩) wx := fun wx => conv_owned (base := 0) (l := []) (World.ownsRow_nil wx 0 _ 1)
  go_wp2
  refine wp_loop_rounds 1 ?_
  rw [rounds_succ]
  go_wp2
  go_ret
  exact ⟨rfl, hb1⟩

/-- What Print tells. -/
def prt (s : ByteArray) : ByteArray := if (chk s).1 = 0 then ⟨(catB (sortTo (itemsOf s) (itemsOf s).length)).toArray⟩ else ⟨#[]⟩

theorem chk_size {s : ByteArray} (h : (chk s).1 = 0) : s.size ≤ 400 := by
  by_cases h4 : 400 < s.size
  · simp [chk, h4] at h
  · omega

theorem chk_le (s : ByteArray) : (chk s).1 ≤ 4 := by
  unfold chk
  repeat' split
  all_goals simp

set_option maxHeartbeats 400000 in
theorem print_any (s : ByteArray) (w : World) (hs : s.size ≤ maxLen) :
    Calls Try.prog 12 #[.string s] w fun e w' => e = .returned (.tuple #[.string (prt s), .int .i64 ((chk s).1 : Nat)]) ∧ Below w.heap.size w w' := by
  have hp := parse_any s w hs
  by_cases h0 : (chk s).1 = 0
  · have hpr : prt s = ⟨(catB (sortTo (itemsOf s) (itemsOf s).length)).toArray⟩ := by simp [prt, h0]
    have hs4 := chk_size h0
    have hll : (itemsOf s).length ≤ 24 := by have := rdAll_len s 24 0 []; simp at this; exact this
    have htx : ∀ x ∈ sortTo (itemsOf s) (itemsOf s).length, x.text.size ≤ 400 := fun x hx => itemsOf_text s hs4 x (mem_sortTo hx)
    rw [h0] at hp
    rw [hpr, h0]
    clear hpr h0
    go_enter Try.func12, Try.ntmps12
    go_wp2_with fail
    refine hp.mono ?_
    rintro e w1 ⟨v, rfl, hown, hb1⟩
    replace hown := hown trivial
    have hat := items_of_owns hown
    rcases hat with ⟨rfl, hnil⟩ | ⟨g, cap, rfl, hcap, hit⟩
    · have hr : (catB (sortTo (itemsOf s) (itemsOf s).length)) = [] := by rw [hnil]; rfl
      have Hr := hide hr
      clear hr hnil
      go_wp2_with fail
      refine (aprint_nil _).mono ?_
      rintro e w2 ⟨rfl, hb2⟩
      go_wp2
      go_ret2
      exact ⟨by rw [unhide Hr]; rfl, hb1.trans (hb2.mono hb1.size)⟩
    · go_wp2_with fail
      refine (aprint_in g cap (itemsOf s) _ hll htx hit).mono ?_
      rintro e w2 ⟨rfl, hb2⟩
      go_wp2
      go_ret2
      exact ⟨rfl, hb1.trans (hb2.mono hb1.size)⟩
  · have hpr : prt s = ⟨#[]⟩ := by simp [prt, h0]
    have h0' : ((((chk s).1 : Nat) : Int) != 0) = true := by rw [bne_iff_ne]; omega
    rw [hpr]
    generalize (chk s).1 = c at *
    clear hpr h0
    go_enter Try.func12, Try.ntmps12
    go_wp2_with fail
    refine hp.mono ?_
    rintro e w1 ⟨v, rfl, hown, hb1⟩
    go_wp2
    go_ret2
    exact ⟨rfl, hb1⟩

end Go.Proofs.Ytgbkkolohloacaa

/- The two devices: Read of the document's device. -/
namespace Go.Proofs.Ytgbkkolohloacaa
open Go.RowKit

/-- A write in the document's log. -/
structure Lg where
  sec : Nat
  data : ByteArray
  sure : Bool

def Lg.cells (x : Lg) : List Value := [.int .i64 x.sec, .string x.data, .bool x.sure]
def lgCells (l : List Lg) : List Value := l.flatMap Lg.cells

theorem lg_get (l : List Lg) (k : Nat) (hk : k < l.length) (c : Nat) (hc : c < 3) : (lgCells l)[k * 3 + c]? = l[k].cells[c]? := by
  induction l generalizing k with
  | nil => simp at hk
  | cons a l ih =>
    unfold lgCells
    rw [List.flatMap_cons]
    cases k with
    | zero => rw [List.getElem?_append_left (by simp [Lg.cells]; omega)]; simp
    | succ k =>
      rw [List.getElem?_append_right (by simp [Lg.cells]; omega)]
      have := ih k (by simpa using hk)
      rw [show (k + 1) * 3 + c - a.cells.length = k * 3 + c by simp [Lg.cells]; omega]
      exact this

def LogW (w : World) (base : Nat) (v : Value) (l : List Lg) : Prop := w.ownsRow base 91 3 v l.length (lgCells l)

theorem LogW.at {w : World} {base : Nat} {a : Option Addr} {n cap : Nat} {l : List Lg} (h : LogW w base (.slice a n cap) l) {k : Nat} (hk : k < l.length) :
    ∃ g, a = some ⟨g, 0, none⟩ ∧ n = l.length ∧ base ≤ g ∧ g < w.heap.size ∧ l.length ≤ cap ∧ ∀ k (hk : k < l.length), w.cell? ⟨g, k * 3, none⟩ = some (.int .i64 l[k].sec) ∧ w.cell? ⟨g, k * 3 + 1, none⟩ = some (.string l[k].data) ∧ w.cell? ⟨g, k * 3 + 2, none⟩ = some (.bool l[k].sure) := by
  have hh := h
  obtain ⟨_, ⟨_, h0⟩ | ⟨g, cap', cur, e, hb, hg, hc, _, _, _⟩⟩ := hh
  · omega
  · simp only [Value.slice.injEq] at e
    obtain ⟨rfl, rfl, rfl⟩ := e
    refine ⟨g, rfl, rfl, hb, (World.ownsRow.lt h g rfl).2, hc, fun k hk => ?_⟩
    have q : ∀ c, c < 3 → ∀ u, l[k].cells[c]? = some u → w.cell? ⟨g, k * 3 + c, none⟩ = some u := fun c hc u hu => by
      have := World.ownsRow.cells h (g := g) rfl (k * 3 + c) u (by rw [lg_get l k hk c hc]; exact hu)
      rw [addr_add] at this
      exact this
    exact ⟨q 0 (by omega) _ rfl, q 1 (by omega) _ rfl, q 2 (by omega) _ rfl⟩

/-- The last write of a sector. -/
def lastIn (l : List Lg) (i : Nat) : Option ByteArray := (l.reverse.find? fun x => x.sec == i).map (·.data)

theorem lastIn_snoc (l : List Lg) (x : Lg) (i : Nat) : lastIn (l ++ [x]) i = if x.sec = i then some x.data else lastIn l i := by
  unfold lastIn
  rw [List.reverse_append]
  simp only [List.reverse_singleton, List.singleton_append, List.find?_cons]
  by_cases h : x.sec = i
  · simp [h]
  · have : (x.sec == i) = false := by simp [h]
    simp [this, h]

def zero32 : ByteArray := ⟨(List.replicate 32 (0 : UInt8)).toArray⟩
def readOf (l : List Lg) (i : Nat) : ByteArray := (lastIn l i).getD zero32

theorem readOf_take {l : List Lg} {k i : Nat} (hk : k < l.length) : readOf (l.take (k + 1)) i = if l[k].sec = i then l[k].data else readOf (l.take k) i := by
  unfold readOf
  rw [List.take_succ_eq_append_getElem hk, lastIn_snoc]
  by_cases h : l[k].sec = i <;> simp [h]

theorem conv32 (w : World) : (convert 30 9 (.slice (some ⟨w.heap.size, 0, none⟩) 32 32)).run Try.prog (w.alloc (.cells (madeBytes 32) 5)) = .ok (.string zero32) (w.alloc (.cells (madeBytes 32) 5)) := by
  have := run_convert_bytes_back (P := Try.prog) (w.alloc (.cells (madeBytes 32) 5)) 30 9 5 ⟨w.heap.size, 0, none⟩ 32 (List.replicate 32 (0 : UInt8)) Try.underlying30 Try.underlying5 Try.underlying9 (fun j hj => by
    have := (bytes_made w 32).cell j (by simpa using hj)
    rw [addr_add, List.getElem_replicate]
    exact this)
  rw [List.length_replicate] at this
  exact this

set_option maxRecDepth 100000 in
set_option maxHeartbeats 400000 in
theorem rread_arg (b : Nat) (i : Int) (w : World) (hi : i < 0 ∨ 64 ≤ i) :
    Calls Try.prog 43 #[.pointer (some ⟨b, 0, none⟩), .int .i64 i] w fun e w' => e = .returned (.tuple #[.string ⟨#[]⟩, .int .i64 6]) ∧ w' = w := by
  by_cases h : i < 0
  · clear hi
    go_enter Try.func43, Try.ntmps43
    go_wp2_with fail
    go_ret2
    exact ⟨rfl, rfl⟩
  · have h2 : 64 ≤ i := by omega
    clear hi
    go_enter Try.func43, Try.ntmps43
    go_wp2_with fail
    go_ret2
    exact ⟨rfl, rfl⟩

set_option maxRecDepth 100000 in
set_option maxHeartbeats 400000 in
theorem rread_gone (b : Nat) (i : Nat) (l : Int) (d : Bool) (w : World) (hi : i < 64) (hl : l ≤ 9223372036854775807) (hsp : rcR l d = false)
    (c1 : w.cell? ⟨b, 1, none⟩ = some (.int .i64 l)) (c2 : w.cell? ⟨b, 2, none⟩ = some (.bool d)) (fz : ∀ o, w.frozen? ⟨b, o, none⟩ = false) :
    Calls Try.prog 43 #[.pointer (some ⟨b, 0, none⟩), .int .i64 i] w fun e w' => e = .returned (.tuple #[.string ⟨#[]⟩, .int .i64 7]) ∧ w' = rcW w b l d := by
  have HS := hide (rcall_any b l d w hl c1 c2 fz)
  rw [hsp] at HS
  have h1 : ¬ (i : Int) < 0 := by omega
  have h2 : ¬ 64 ≤ (i : Int) := by omega
  clear c1 c2 fz hsp hl
  go_enter Try.func43, Try.ntmps43
  go_wp2_with fail
  refine (unhide HS).mono ?_
  rintro e w1 ⟨rfl, hw1⟩
  go_wp2_with fail
  go_ret2
  exact ⟨rfl, rfl⟩

set_option maxRecDepth 100000 in
set_option maxHeartbeats 400000 in
theorem rread_ok (b : Nat) (i : Nat) (l : Int) (d : Bool) (w : World) (L : List Lg) (v : Value) (hi : i < 64) (hl : l ≤ 9223372036854775807) (hsp : rcR l d = true) (hn : L.length ≤ 4398046511000)
    (c1 : w.cell? ⟨b, 1, none⟩ = some (.int .i64 l)) (c2 : w.cell? ⟨b, 2, none⟩ = some (.bool d)) (fz : ∀ o, w.frozen? ⟨b, o, none⟩ = false)
    (c0 : (rcW w b l d).cell? ⟨b, 0, none⟩ = some v) (hlog : LogW (rcW w b l d) (b + 1) v L) :
    Calls Try.prog 43 #[.pointer (some ⟨b, 0, none⟩), .int .i64 i] w fun e w' => e = .returned (.tuple #[.string (readOf L i), .int .i64 0]) ∧ Below (rcW w b l d).heap.size (rcW w b l d) w' := by
  have HS := hide (rcall_any b l d w hl c1 c2 fz)
  rw [hsp] at HS
  have h1 : ¬ (i : Int) < 0 := by omega
  have h2 : ¬ 64 ≤ (i : Int) := by omega
  have hmk := run_make32
  have hcv := conv32
  obtain ⟨a, cap, rfl⟩ := slice_of_owns hlog
  generalize rcW w b l d = W at *
  have Hlog := hide hlog
  clear c1 c2 fz hsp hl hlog
  go_enter Try.func43, Try.ntmps43
  go_wp2_with fail
  refine (unhide HS).mono ?_
  rintro e w1 ⟨rfl, rfl⟩
  go_wp2_with fail
  go_loop [7] (fun kv => ∃ (j : Nat) (x : Int), j ≤ L.length ∧ x = (j : Int) - 1 ∧ kv = .int .i64 x ∧ readOf L i = readOf (L.take j) i) (fun kv => (intOf kv + 1).toNat)
  case atStart => exact ⟨L.length, (L.length : Int) - 1, Nat.le_refl _, rfl, by go_num, by rw [List.take_length]⟩
  case round =>
    obtain ⟨j, x, hj, hx, rfl, hrd⟩ := hrel
    have Hrd := hide hrd
    clear hrd
    match j, hj with
    | 0, hj =>
      have hx' : x = -1 := by omega
      subst hx'
      have HR := hide (show readOf L i = zero32 by rw [unhide Hrd]; rfl)
      clear hx
      go_wp2_with fail
      go_ret2
      exact ⟨by rw [unhide HR]; rfl, (Below.refl _ _).alloc (Nat.le_refl _) _⟩
    | j + 1, hj =>
      have hx' : x = (j : Int) := by omega
      subst hx'
      have hjl : j < L.length := by omega
      have hjl' : (j : Int) < (L.length : Int) := by omega
      obtain ⟨g, rfl, _, _, _, hcap, hcs⟩ := (unhide Hlog).at hjl
      obtain ⟨q0, q1, _⟩ := hcs j hjl
      have HT := hide (readOf_take (i := i) hjl)
      have hw1 : IntKind.i64.wrap ((j : Int) - 1) = (j : Int) - 1 := by rw [IntKind.wrap_i64]; omega
      generalize hxx : L[j] = y at *
      clear hx hxx hcs
      by_cases he : y.sec = i
      · have he' : ((y.sec : Int) == (i : Int)) = true := by simp [he]
        have HR := hide (show readOf L i = y.data by rw [unhide Hrd, unhide HT, if_pos he])
        clear he
        go_wp2_with fail
        go_ret2
        exact ⟨by rw [unhide HR]; rfl, Below.refl _ _⟩
      · have he' : ((y.sec : Int) == (i : Int)) = false := by rw [beq_eq_false_iff_ne]; omega
        have HR := hide (show readOf L i = readOf (L.take j) i by rw [unhide Hrd, unhide HT, if_neg he])
        clear he
        go_wp2_with fail
        go_round
        case rel => exact ⟨j, (j : Int) - 1, by omega, rfl, by go_num, unhide HR⟩
        case measure => simp [intOf]

end Go.Proofs.Ytgbkkolohloacaa

/- The two devices: the document's 'bit'. -/
namespace Go.Proofs.Ytgbkkolohloacaa
open Go.RowKit

def bitOf (keep : Int) (n : Nat) : Bool := decide ((keep % 18446744073709551616).toNat / 2 ^ (n % 63) % 2 = 1)

theorem u64_wrap (x : Int) : IntKind.u64.wrap x = x % 18446744073709551616 := by rfl

set_option maxRecDepth 100000 in
set_option maxHeartbeats 400000 in
theorem rbit_any (keep : Int) (n : Nat) (w : World) (hn : n ≤ 4398046511000) :
    Calls Try.prog 48 #[.int .i64 keep, .int .i64 n] w fun e w' => e = .returned (.bool (bitOf keep n)) ∧ w' = w := by
  have hm : (n : Int) % 63 = ((n % 63 : Nat) : Int) := by omega
  have hm2 : n % 63 < 63 := by omega
  obtain ⟨m, hmm⟩ : ∃ m, m = n % 63 := ⟨_, rfl⟩
  obtain ⟨u, hu⟩ : ∃ u : Nat, u = (keep % 18446744073709551616).toNat := ⟨_, rfl⟩
  have hu2 : IntKind.u64.wrap keep = (u : Int) := by rw [u64_wrap]; omega
  have hu3 : u < 18446744073709551616 := by omega
  have HB := hide (show bitOf keep n = decide (u / 2 ^ m % 2 = 1) by rw [hmm, hu]; rfl)
  generalize bitOf keep n = res at *
  rw [← hmm] at hm hm2
  clear hmm hu
  go_enter Try.func48, Try.ntmps48
  go_wp2
  go_loop [5, 6] (fun v k => ∃ j x : Nat, j ≤ m ∧ k = .int .i64 j ∧ v = .int .u64 x ∧ x = u / 2 ^ j) (fun _ k => m - (intOf k).toNat)
  case atStart => exact ⟨0, u, Nat.zero_le _, rfl, by simp, by simp⟩
  case round =>
    obtain ⟨j, x, hj, rfl, rfl, hx⟩ := hrel
    have Hx := hide hx
    clear hx
    by_cases hlt : j < m
    · have hlt' : (j : Int) < (m : Int) := by omega
      have hd : (x : Int).tdiv 2 = ((x / 2 : Nat) : Int) := by rw [Int.tdiv_eq_ediv_of_nonneg (by omega)]; rfl
      have HR := hide (show x / 2 = u / 2 ^ (j + 1) by rw [unhide Hx, Nat.pow_succ, Nat.div_div_eq_div_mul])
      have hxu : x ≤ u := by rw [unhide Hx]; exact Nat.div_le_self _ _
      have hwr : IntKind.u64.wrap ((x : Int) / 2) = (x : Int) / 2 := by rw [u64_wrap]; omega
      go_wp2
      go_round
      case rel => exact ⟨j + 1, x / 2, by omega, by go_num, by simp, unhide HR⟩
      case measure => simp [intOf]; omega
    · have hlt' : ¬ (j : Int) < (m : Int) := by omega
      have hjm : j = m := by omega
      have hd : (x : Int).tmod 2 = ((x % 2 : Nat) : Int) := by rw [Int.tmod_eq_emod_of_nonneg (by omega)]; rfl
      have HR := hide (show (((x % 2 : Nat) : Int) == 1) = res by
        rw [unhide HB, ← hjm, ← unhide Hx]
        by_cases e : x % 2 = 1
        · simp [e]
        · have : x % 2 = 0 := by omega
          simp [this])
      clear hjm
      go_wp2
      go_ret
      exact ⟨ret_bool (unhide HR), rfl⟩

end Go.Proofs.Ytgbkkolohloacaa

/- The two devices: what an operation leaves alone, by the types of the blocks; the document's device: its power, its Write. -/
namespace Go.Proofs.Ytgbkkolohloacaa
open Go.RowKit

/-- Only blocks of the types T have changed. -/
structure TK (T : TypeId → Prop) (w w' : World) : Prop where
  os : w'.os = w.os
  tape : w'.tape = w.tape
  output : w'.output = w.output
  size : w.heap.size ≤ w'.heap.size
  block : ∀ (k : Nat) (cs : Array Value) (t : TypeId) (fr : Nat × Nat), w.heap[k]? = some (Obj.cells cs t fr) → ¬ T t → w'.heap[k]? = w.heap[k]?

theorem TK.refl (T : TypeId → Prop) (w : World) : TK T w w := ⟨rfl, rfl, rfl, Nat.le_refl _, fun _ _ _ _ _ _ => rfl⟩
theorem TK.trans {T : TypeId → Prop} {a b c : World} (h : TK T a b) (k : TK T b c) : TK T a c :=
  ⟨k.os.trans h.os, k.tape.trans h.tape, k.output.trans h.output, Nat.le_trans h.size k.size, fun i cs t fr hi ht => by
    have := h.block i cs t fr hi ht
    exact (k.block i cs t fr (this.trans hi) ht).trans this⟩
theorem TK.of_below {T : TypeId → Prop} {w w' : World} (h : Below w.heap.size w w') : TK T w w' :=
  ⟨h.os, h.tape, h.output, h.size, fun k _ _ _ hk _ => h.block k (by
    by_cases e : k < w.heap.size
    · exact e
    · rw [Array.getElem?_eq_none (by omega)] at hk; cases hk)⟩
theorem TK.setCell {T : TypeId → Prop} {w : World} {b o : Nat} {cs : Array Value} {t : TypeId} {fr : Nat × Nat} (hb : w.heap[b]? = some (Obj.cells cs t fr)) (ht : T t) (u : Value) : TK T w (w.setCell ⟨b, o, none⟩ u) :=
  ⟨rfl, rfl, rfl, by simp [World.setCell], fun k cs' t' fr' hk hn => Below.heap_setCell w _ u k (fun e => by
    simp only at e
    subst e
    rw [hb] at hk
    simp only [Option.some.injEq, Obj.cells.injEq] at hk
    exact hn (hk.2.1 ▸ ht))⟩
theorem TK.grown {T : TypeId → Prop} {w w' : World} {base : Nat} {e : TypeId} {size : Nat} {v : Value} {n : Nat} {xs : List Value} (hown : w.ownsRow base e size v n xs) (hg : w.grownBy w' v.ownBlock) (ht : T e) : TK T w w' :=
  ⟨hg.os, hg.tape, hg.output, hg.size, fun k cs t fr hk hn => hg.block k (by
      by_cases e : k < w.heap.size
      · exact e
      · rw [Array.getElem?_eq_none (by omega)] at hk; cases hk) (fun e1 => by
      obtain ⟨_, ⟨rfl, _⟩ | ⟨g, cap, cur, rfl, _, hcur, _⟩⟩ := hown
      · cases e1
      · simp only [Value.ownBlock, Option.some.injEq] at e1
        subst e1
        rw [hcur] at hk
        simp only [Option.some.injEq, Obj.cells.injEq] at hk
        exact hn (hk.2.1 ▸ ht))⟩

/-- The document's device in block b. -/
structure RefAt (w : World) (b : Nat) (L : List Lg) (l : Int) (d : Bool) : Prop where
  ty : ∃ cs fr, w.heap[b]? = some (.cells cs 43 fr)
  c0 : ∃ v, w.cell? ⟨b, 0, none⟩ = some v ∧ LogW w (b + 1) v L
  c1 : w.cell? ⟨b, 1, none⟩ = some (.int .i64 l)
  c2 : w.cell? ⟨b, 2, none⟩ = some (.bool d)
  fz : ∀ o, w.frozen? ⟨b, o, none⟩ = false
  lt : b < w.heap.size

def rcLeft (l : Int) (d : Bool) : Int := if d = true ∨ l = 0 then l else if 0 < l then l - 1 else l
def rcGone (l : Int) (d : Bool) : Bool := if d = true ∨ l = 0 then true else d

theorem RefAt.call {w : World} {b : Nat} {L : List Lg} {l : Int} {d : Bool} (h : RefAt w b L l d) :
    RefAt (rcW w b l d) b L (rcLeft l d) (rcGone l d) ∧ Below b w (rcW w b l d) ∧ TK (fun t => t = 43 ∨ t = 91) w (rcW w b l d) := by
  obtain ⟨⟨cs, fr, hty⟩, ⟨v, c0, hlog⟩, c1, c2, fz, lt⟩ := h
  unfold rcW rcLeft rcGone
  by_cases h1 : d = true ∨ l = 0
  · simp only [h1, if_true]
    refine ⟨⟨ty_set ⟨cs, fr, hty⟩ _, ⟨v, by go_simp, ownsRow_setCell_below hlog (by simp) _⟩, by go_simp, by go_simp, fun o => by simp [fz o], by simpa [World.setCell] using lt⟩, (Below.refl _ _).setCell (p := ⟨b, 2, none⟩) (Nat.le_refl _) _, TK.setCell hty (.inl rfl) _⟩
  · simp only [h1, if_false]
    by_cases h2 : 0 < l
    · simp only [h2, if_true]
      refine ⟨⟨ty_set ⟨cs, fr, hty⟩ _, ⟨v, by go_simp, ownsRow_setCell_below hlog (by simp) _⟩, by go_simp, by go_simp, fun o => by simp [fz o], by simpa [World.setCell] using lt⟩, (Below.refl _ _).setCell (p := ⟨b, 1, none⟩) (Nat.le_refl _) _, TK.setCell hty (.inl rfl) _⟩
    · simp only [h2, if_false]
      exact ⟨⟨⟨cs, fr, hty⟩, ⟨v, c0, hlog⟩, c1, c2, fz, lt⟩, Below.refl _ _, TK.refl _ _⟩

theorem RefAt.put {w w2 : World} {b : Nat} {L L' : List Lg} {l : Int} {d : Bool} {v' : Value} (h : RefAt w b L l d) (hB : Below (b + 1) w w2) (hl : LogW w2 (b + 1) v' L') :
    RefAt (w2.setCell ⟨b, 0, none⟩ v') b L' l d := by
  obtain ⟨⟨cs, fr, hty⟩, ⟨v, c0, hlog⟩, c1, c2, fz, lt⟩ := h
  have hty2 := (hB.block b (by omega)).trans hty
  have c0' := (hB.cell (p := ⟨b, 0, none⟩) (by simp)).trans c0
  have c1' := (hB.cell (p := ⟨b, 1, none⟩) (by simp)).trans c1
  have c2' := (hB.cell (p := ⟨b, 2, none⟩) (by simp)).trans c2
  have hs := hB.size
  refine ⟨ty_set ⟨cs, fr, hty2⟩ _, ⟨v', by go_simp, ownsRow_setCell_below hl (by simp) _⟩, by go_simp, by go_simp, fun o => ?_, by simp [World.setCell]; omega⟩
  have := (hB.frozen (p := ⟨b, o, none⟩) (by simp)).trans (fz o)
  simp [this]

end Go.Proofs.Ytgbkkolohloacaa
