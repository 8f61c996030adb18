/- Keys, Has, Names, Find, First. -/
import Derived.Test.YtgbkkolohloacaaM3

/- Keys: 'same', 'less'. -/
namespace Go.Proofs.Ytgbkkolohloacaa
open Go.RowKit

/-- The program's key. -/
structure Key where
  kind : Int
  name : ByteArray
  host : ByteArray
  number : Int

def Key.cells (k : Key) : Array Value := #[.int .i64 k.kind, .string k.name, .string k.host, .int .i64 k.number]

theorem tl_inj {a b : ByteArray} (h : a.toList = b.toList) : a = b := by
  rw [ByteArray.toList_eq, ByteArray.toList_eq] at h
  cases a; cases b; exact congrArg ByteArray.mk (Array.toList_inj.1 h)
theorem tl_ne {a b : ByteArray} (h : ¬ a.toList = b.toList) : ¬ a = b := fun e => h (by rw [e])

/-- Does a key stand ahead of another? -/
def lessK (k1 : Int) (n1 h1 : ByteArray) (m1 : Int) (k2 : Int) (n2 h2 : ByteArray) (m2 : Int) : Bool :=
  if k1 ≠ k2 then decide (k1 < k2) else if n1 ≠ n2 then Op.bytesLess n1.toList n2.toList else if h1 ≠ h2 then Op.bytesLess h1.toList h2.toList else decide (m1 < m2)

set_option maxHeartbeats 400000 in
theorem same_any (k1 : Int) (n1 h1 : ByteArray) (m1 : Int) (k2 : Int) (n2 h2 : ByteArray) (m2 : Int) (w : World) :
    Calls Try.prog 93 #[.agg #[.int .i64 k1, .string n1, .string h1, .int .i64 m1], .agg #[.int .i64 k2, .string n2, .string h2, .int .i64 m2]] w fun e w' => e = .returned (.bool (decide (k1 = k2 ∧ n1 = n2 ∧ h1 = h2 ∧ m1 = m2))) ∧ Below w.heap.size w w' := by
  have hB : ∀ o1 o2, Below w.heap.size w ((w.alloc o1).alloc o2) := fun o1 o2 => ((Below.refl _ _).alloc (Nat.le_refl _) o1).alloc (by simp) o2
  go_enter Try.func93, Try.ntmps93
  go_wp2
  · go_ret
    refine ⟨?_, hB _ _⟩
    rename_i e1 e2 e3
    simp [e1, tl_inj e2, tl_inj e3, Bool.beq_eq_decide_eq]
  · go_ret
    refine ⟨?_, hB _ _⟩
    rename_i e1 e2 e3
    simp [tl_ne e3]
  · go_ret
    refine ⟨?_, hB _ _⟩
    rename_i e1 e2
    simp [tl_ne e2]
  · go_ret
    refine ⟨?_, hB _ _⟩
    rename_i e1
    simp [e1]

theorem lk1 {k1 : Int} {n1 h1 : ByteArray} {m1 : Int} {k2 : Int} {n2 h2 : ByteArray} {m2 : Int} (a : (k1 != k2) = true) : decide (k1 < k2) = lessK k1 n1 h1 m1 k2 n2 h2 m2 := by
  simp at a; simp [lessK, a]
theorem lk2 {k1 : Int} {n1 h1 : ByteArray} {m1 : Int} {k2 : Int} {n2 h2 : ByteArray} {m2 : Int} (a : (k1 != k2) = false) (b : (!n1.toList == n2.toList) = true) : Op.bytesLess n1.toList n2.toList = lessK k1 n1 h1 m1 k2 n2 h2 m2 := by
  simp at a b; simp [lessK, a, tl_ne b]
theorem lk3 {k1 : Int} {n1 h1 : ByteArray} {m1 : Int} {k2 : Int} {n2 h2 : ByteArray} {m2 : Int} (a : (k1 != k2) = false) (b : (!n1.toList == n2.toList) = false) (c : (!h1.toList == h2.toList) = true) : Op.bytesLess h1.toList h2.toList = lessK k1 n1 h1 m1 k2 n2 h2 m2 := by
  simp at a b c; simp [lessK, a, tl_inj b, tl_ne c]
theorem lk4 {k1 : Int} {n1 h1 : ByteArray} {m1 : Int} {k2 : Int} {n2 h2 : ByteArray} {m2 : Int} (a : (k1 != k2) = false) (b : (!n1.toList == n2.toList) = false) (c : (!h1.toList == h2.toList) = false) : decide (m1 < m2) = lessK k1 n1 h1 m1 k2 n2 h2 m2 := by
  simp at a b c; simp [lessK, a, tl_inj b, tl_inj c]
theorem ret_bool {a b : Bool} (h : a = b) : Ending.returned (.bool a) = .returned (.bool b) := by rw [h]

set_option maxHeartbeats 400000 in
theorem less_any (k1 : Int) (n1 h1 : ByteArray) (m1 : Int) (k2 : Int) (n2 h2 : ByteArray) (m2 : Int) (w : World) :
    Calls Try.prog 80 #[.agg #[.int .i64 k1, .string n1, .string h1, .int .i64 m1], .agg #[.int .i64 k2, .string n2, .string h2, .int .i64 m2]] w fun e w' => e = .returned (.bool (lessK k1 n1 h1 m1 k2 n2 h2 m2)) ∧ Below w.heap.size w w' := by
  have hB : ∀ o1 o2, Below w.heap.size w ((w.alloc o1).alloc o2) := fun o1 o2 => ((Below.refl _ _).alloc (Nat.le_refl _) o1).alloc (by simp) o2
  go_enter Try.func80, Try.ntmps80
  go_wp2
  · go_ret
    exact ⟨ret_bool (lk1 ‹_›), hB _ _⟩
  · go_ret
    exact ⟨ret_bool (lk2 ‹_› ‹_›), hB _ _⟩
  · go_ret
    exact ⟨ret_bool (lk3 ‹_› ‹_› ‹_›), hB _ _⟩
  · go_ret
    exact ⟨ret_bool (lk4 ‹_› ‹_› ‹_›), hB _ _⟩

end Go.Proofs.Ytgbkkolohloacaa

/- 'has', 'hasAll'. -/
namespace Go.Proofs.Ytgbkkolohloacaa
open Go.RowKit

/-- The item x lies in block g from offset o on. -/
structure ItAt (w : World) (g o : Nat) (x : Item) : Prop where
  c0 : w.cell? ⟨g, o, none⟩ = some (.int .i64 x.kind)
  c1 : w.cell? ⟨g, o + 1, none⟩ = some (.string x.name)
  c2 : w.cell? ⟨g, o + 2, none⟩ = some (.string x.host)
  c3 : w.cell? ⟨g, o + 3, none⟩ = some (.int .i64 x.number)
  c4 : w.cell? ⟨g, o + 4, none⟩ = some (.string x.disk)
  c5 : w.cell? ⟨g, o + 5, none⟩ = some (.int .i64 x.lun)
  c6 : w.cell? ⟨g, o + 6, none⟩ = some (.string x.text)

/-- The items l lie in block g, one behind the other. -/
def ItemsIn (w : World) (g : Nat) (l : List Item) : Prop := g < w.heap.size ∧ ∀ i (h : i < l.length), ItAt w g (i * 7) l[i]

theorem ItAt.below {B : Nat} {w w' : World} {g o : Nat} {x : Item} (h : ItAt w g o x) (hb : Below B w w') (hg : g < B) : ItAt w' g o x :=
  ⟨(hb.cell (p := ⟨g, o, none⟩) hg).trans h.c0, (hb.cell (p := ⟨g, o + 1, none⟩) hg).trans h.c1, (hb.cell (p := ⟨g, o + 2, none⟩) hg).trans h.c2, (hb.cell (p := ⟨g, o + 3, none⟩) hg).trans h.c3,
   (hb.cell (p := ⟨g, o + 4, none⟩) hg).trans h.c4, (hb.cell (p := ⟨g, o + 5, none⟩) hg).trans h.c5, (hb.cell (p := ⟨g, o + 6, none⟩) hg).trans h.c6⟩

theorem ItemsIn.below {B : Nat} {w w' : World} {g : Nat} {l : List Item} (h : ItemsIn w g l) (hb : Below B w w') (hg : g < B) : ItemsIn w' g l :=
  ⟨Nat.lt_of_lt_of_le h.1 hb.size, fun i hi => (h.2 i hi).below hb hg⟩

set_option maxRecDepth 100000 in
set_option maxHeartbeats 400000 in
theorem has_in (g n cap : Nat) (l : List Item) (k2 : Int) (n2 h2 : ByteArray) (m2 : Int) (w : World) (hl : l.length ≤ 24) (hn : n ≤ l.length) (hit : ItemsIn w g l) :
    Calls Try.prog 77 #[.slice (some ⟨g, 0, none⟩) n cap, .agg #[.int .i64 k2, .string n2, .string h2, .int .i64 m2]] w fun e w' =>
      e = .returned (.bool ((l.take n).any fun x => decide ((x.kind : Int) = k2 ∧ x.name = n2 ∧ x.host = h2 ∧ x.number = m2))) ∧ Below w.heap.size w w' := by
  have hg := hit.1
  have hb0 : Below (w.heap.size + 1) (w.alloc (.cells #[.int .i64 k2, .string n2, .string h2, .int .i64 m2] 97)) (w.alloc (.cells #[.int .i64 k2, .string n2, .string h2, .int .i64 m2] 97)) := Below.refl _ _
  go_enter Try.func77, Try.ntmps77
  go_wp2
  go_loopw [5] (fun i wr => ∃ k : Nat, k ≤ n ∧ i = .int .i64 k ∧ ((l.take k).any fun x => decide ((x.kind : Int) = k2 ∧ x.name = n2 ∧ x.host = h2 ∧ x.number = m2)) = false ∧
      Below (w.heap.size + 1) (w.alloc (.cells #[.int .i64 k2, .string n2, .string h2, .int .i64 m2] 97)) wr) (fun i _ => n - (intOf i).toNat)
  case atStart => exact ⟨0, Nat.zero_le _, rfl, by simp, hb0⟩
  case round =>
    obtain ⟨k, hk, rfl, hno, hbe⟩ := hrel
    have Hno : Hid _ := hno
    clear hno
    by_cases hlt : k < n
    · have hi := (hit.2 k (by omega)).below ((Below.refl w.heap.size w).alloc (Nat.le_refl _) (.cells #[.int .i64 k2, .string n2, .string h2, .int .i64 m2] 97)) hg
      have hi2 := hi.below hbe (by omega)
      obtain ⟨x, hx⟩ : ∃ x, x = l[k] := ⟨_, rfl⟩
      rw [← hx] at hi2
      obtain ⟨c0, c1, c2, c3, c4, c5, c6⟩ := hi2
      have b0 : wr.cell? ⟨w.heap.size, 0, none⟩ = some (.int .i64 k2) := (hbe.cell (by simp)).trans (by go_simp)
      have b1 : wr.cell? ⟨w.heap.size, 1, none⟩ = some (.string n2) := (hbe.cell (by simp)).trans (by go_simp)
      have b2 : wr.cell? ⟨w.heap.size, 2, none⟩ = some (.string h2) := (hbe.cell (by simp)).trans (by go_simp)
      have b3 : wr.cell? ⟨w.heap.size, 3, none⟩ = some (.int .i64 m2) := (hbe.cell (by simp)).trans (by go_simp)
      have hlt' : (k : Int) < (n : Int) := by omega
      have Hx : Hid (x = l[k]) := hx
      clear hx hi
      have hstep : ((l.take (k + 1)).any fun x => decide ((x.kind : Int) = k2 ∧ x.name = n2 ∧ x.host = h2 ∧ x.number = m2)) = (decide ((x.kind : Int) = k2 ∧ x.name = n2 ∧ x.host = h2 ∧ x.number = m2)) := by
        rw [List.take_succ_eq_append_getElem (by omega), List.any_append, Hno.out, ← Hx.out]; simp
      have hsz : w.heap.size + 1 ≤ wr.heap.size := by have := hbe.size; simpa using this
      cases hd : decide ((x.kind : Int) = k2 ∧ x.name = n2 ∧ x.host = h2 ∧ x.number = m2) with
      | true =>
        have hsame : ∀ wx, Calls Try.prog 93 #[.agg #[.int .i64 x.kind, .string x.name, .string x.host, .int .i64 x.number], .agg #[.int .i64 k2, .string n2, .string h2, .int .i64 m2]] wx fun e w' => e = .returned (.bool true) ∧ Below wx.heap.size wx w' := by
          intro wx; have := same_any x.kind x.name x.host x.number k2 n2 h2 m2 wx; rw [hd] at this; exact this
        have hfin : ((l.take n).any fun x => decide ((x.kind : Int) = k2 ∧ x.name = n2 ∧ x.host = h2 ∧ x.number = m2)) = true := by
          rw [hd] at hstep
          rw [List.any_eq_true] at hstep ⊢
          obtain ⟨y, hy, hp⟩ := hstep
          exact ⟨y, List.mem_of_mem_take (by rw [List.take_take, Nat.min_eq_left (by omega)]; exact hy : y ∈ (l.take n).take (k + 1)), hp⟩
        have Hf : Hid _ := hfin
        clear hfin hstep hd
        have Hs := hide hsame
        clear hsame
        go_wp2
        go_region_with (go_at_call 93; refine (unhide Hs _).mono ?_; rintro e w1 ⟨rfl, hb1⟩)
        all_goals
          go_wp2
          go_ret
          refine ⟨ret_bool Hf.out.symm, ?_⟩
          exact ((Below.refl w.heap.size w).alloc (Nat.le_refl _) _).trans ((hbe.drew.mono (by omega)).trans (hb1.mono (by simp; omega)))
      | false =>
        have hsame : ∀ wx, Calls Try.prog 93 #[.agg #[.int .i64 x.kind, .string x.name, .string x.host, .int .i64 x.number], .agg #[.int .i64 k2, .string n2, .string h2, .int .i64 m2]] wx fun e w' => e = .returned (.bool false) ∧ Below wx.heap.size wx w' := by
          intro wx; have := same_any x.kind x.name x.host x.number k2 n2 h2 m2 wx; rw [hd] at this; exact this
        rw [hd] at hstep
        have Hf : Hid _ := hstep
        clear hstep hd
        have Hs := hide hsame
        clear hsame
        go_wp2
        go_region_with (go_at_call 93; refine (unhide Hs _).mono ?_; rintro e w1 ⟨rfl, hb1⟩)
        all_goals
          go_wp2
          go_roundw
          case rel => exact ⟨k + 1, by omega, by go_num, Hf.out, hbe.drew.trans (hb1.mono (by simp; omega))⟩
          case measure => simp [intOf]; omega
    · have : k = n := by omega
      subst this
      have Hf : Hid _ := Hno.out
      go_wp2
      go_ret
      exact ⟨ret_bool Hf.out.symm, ((Below.refl w.heap.size w).alloc (Nat.le_refl _) _).trans (hbe.mono (by omega))⟩

end Go.Proofs.Ytgbkkolohloacaa

/- 'names': the keys of the items that an item names. -/
namespace Go.Proofs.Ytgbkkolohloacaa
open Go.RowKit

/-- The keys of what an item names. -/
def namesOf (x : Item) : List Key :=
  if x.kind = 2 then [⟨1, x.name, ⟨#[]⟩, 0⟩, ⟨0, x.disk, ⟨#[]⟩, 0⟩]
  else if x.kind = 3 then [⟨1, x.name, ⟨#[]⟩, 0⟩]
  else if x.kind = 4 then [⟨3, x.name, x.host, 0⟩, ⟨2, x.name, ⟨#[]⟩, x.lun⟩]
  else []

/-- The key y lies in block g from offset o on. -/
structure KeyAt (w : World) (g o : Nat) (y : Key) : Prop where
  c0 : w.cell? ⟨g, o, none⟩ = some (.int .i64 y.kind)
  c1 : w.cell? ⟨g, o + 1, none⟩ = some (.string y.name)
  c2 : w.cell? ⟨g, o + 2, none⟩ = some (.string y.host)
  c3 : w.cell? ⟨g, o + 3, none⟩ = some (.int .i64 y.number)

/-- v is a list of the keys l, in a block from B on. -/
def KeysAt (w : World) (B : Nat) (v : Value) (l : List Key) : Prop :=
  (v = .slice none 0 0 ∧ l = []) ∨ ∃ g cap, v = .slice (some ⟨g, 0, none⟩) l.length cap ∧ B ≤ g ∧ g < w.heap.size ∧ ∀ i (h : i < l.length), KeyAt w g (i * 4) l[i]

theorem keys_two (w : World) (o : Obj) (y z : Key) : KeysAt ((w.alloc o).alloc (.cells #[.int .i64 y.kind, .string y.name, .string y.host, .int .i64 y.number, .int .i64 z.kind, .string z.name, .string z.host, .int .i64 z.number] 97)) w.heap.size (.slice (some ⟨w.heap.size + 1, 0, none⟩) 2 2) [y, z] := by
  refine Or.inr ⟨_, _, rfl, by omega, by simp, ?_⟩
  intro i hi
  match i, hi with
  | 0, _ => constructor <;> go_simp
  | 1, _ => constructor <;> go_simp

theorem keys_one (w : World) (o : Obj) (y : Key) : KeysAt ((w.alloc o).alloc (.cells #[.int .i64 y.kind, .string y.name, .string y.host, .int .i64 y.number] 97)) w.heap.size (.slice (some ⟨w.heap.size + 1, 0, none⟩) 1 1) [y] := by
  refine Or.inr ⟨_, _, rfl, by omega, by simp, ?_⟩
  intro i hi
  match i, hi with
  | 0, _ => constructor <;> go_simp

set_option maxHeartbeats 400000 in
theorem names_any (x : Item) (w : World) :
    Calls Try.prog 78 #[.agg #[.int .i64 x.kind, .string x.name, .string x.host, .int .i64 x.number, .string x.disk, .int .i64 x.lun, .string x.text]] w fun e w' =>
      ∃ v, e = .returned v ∧ KeysAt w' w.heap.size v (namesOf x) ∧ Below w.heap.size w w' := by
  have hB : ∀ o1 o2, Below w.heap.size w ((w.alloc o1).alloc o2) := fun o1 o2 => ((Below.refl _ _).alloc (Nat.le_refl _) o1).alloc (by simp) o2
  by_cases h2 : x.kind = 2
  · have hn : namesOf x = [⟨1, x.name, ⟨#[]⟩, 0⟩, ⟨0, x.disk, ⟨#[]⟩, 0⟩] := by simp [namesOf, h2]
    have t2 : ((x.kind : Int) == 2) = true := by rw [beq_iff_eq]; omega
    rw [hn]
    go_enter Try.func78, Try.ntmps78
    go_wp2
    go_ret
    exact ⟨_, rfl, keys_two w _ ⟨1, x.name, ⟨#[]⟩, 0⟩ ⟨0, x.disk, ⟨#[]⟩, 0⟩, hB _ _⟩
  · have t2 : ((x.kind : Int) == 2) = false := by rw [beq_eq_false_iff_ne]; omega
    by_cases h3 : x.kind = 3
    · have hn : namesOf x = [⟨1, x.name, ⟨#[]⟩, 0⟩] := by simp [namesOf, h3]
      have t3 : ((x.kind : Int) == 3) = true := by rw [beq_iff_eq]; omega
      rw [hn]
      clear h3 h2
      go_enter Try.func78, Try.ntmps78
      go_wp2
      go_ret
      exact ⟨_, rfl, keys_one w _ ⟨1, x.name, ⟨#[]⟩, 0⟩, hB _ _⟩
    · have t3 : ((x.kind : Int) == 3) = false := by rw [beq_eq_false_iff_ne]; omega
      by_cases h4 : x.kind = 4
      · have hn : namesOf x = [⟨3, x.name, x.host, 0⟩, ⟨2, x.name, ⟨#[]⟩, x.lun⟩] := by simp [namesOf, h4]
        have t4 : ((x.kind : Int) == 4) = true := by rw [beq_iff_eq]; omega
        rw [hn]
        clear h4 h3 h2
        go_enter Try.func78, Try.ntmps78
        go_wp2
        go_ret
        exact ⟨_, rfl, keys_two w _ ⟨3, x.name, x.host, 0⟩ ⟨2, x.name, ⟨#[]⟩, x.lun⟩, hB _ _⟩
      · have t4 : ((x.kind : Int) == 4) = false := by rw [beq_eq_false_iff_ne]; omega
        have hn : namesOf x = [] := by simp [namesOf, h2, h3, h4]
        rw [hn]
        go_enter Try.func78, Try.ntmps78
        go_wp2
        go_ret
        exact ⟨_, rfl, Or.inl ⟨rfl, rfl⟩, (Below.refl _ _).alloc (Nat.le_refl _) _⟩

end Go.Proofs.Ytgbkkolohloacaa

/- 'hasAll', 'firstTwice', 'firstLost'. -/
namespace Go.Proofs.Ytgbkkolohloacaa
open Go.RowKit

def keyIs (k : Key) (x : Item) : Bool := decide ((x.kind : Int) = k.kind ∧ x.name = k.name ∧ x.host = k.host ∧ x.number = k.number)
def Item.key (x : Item) : Key := ⟨x.kind, x.name, x.host, x.number⟩

/-- The first place below n at which p holds, or n. -/
def firstIx (p : Nat → Bool) (n : Nat) : Nat := ((List.range n).find? p).getD n

theorem firstIx_hit {p : Nat → Bool} {n k : Nat} (hk : k < n) (h : p k = true) (hno : ∀ j, j < k → p j = false) : firstIx p n = k := by
  unfold firstIx
  rw [show (List.range n).find? p = some k from by
    rw [List.find?_range_eq_some]
    exact ⟨h, by simpa using hk, fun j hj => by simp [hno j hj]⟩]
  rfl

theorem firstIx_none {p : Nat → Bool} {n : Nat} (hno : ∀ j, j < n → p j = false) : firstIx p n = n := by
  unfold firstIx
  rw [show (List.range n).find? p = none from by
    rw [List.find?_eq_none]
    intro x hx
    simp [hno x (by simpa using hx)]]
  rfl

/-- Has an earlier item the key of item i? -/
def twiceAt (l : List Item) (i : Nat) : Bool := match l[i]? with | some y => (l.take i).any (keyIs y.key) | none => false
/-- Does item i name what is not there? -/
def lostAt (l : List Item) (i : Nat) : Bool := match l[i]? with | some y => !((namesOf y).all fun k => l.any (keyIs k)) | none => false

set_option maxRecDepth 100000 in
set_option maxHeartbeats 400000 in
theorem hasAll_in (g cap : Nat) (l : List Item) (v : Value) (ks : List Key) (w : World) (hl : l.length ≤ 24) (hit : ItemsIn w g l) (B : Nat) (hks : KeysAt w B v ks) (hkl : ks.length ≤ 2) :
    Calls Try.prog 79 #[.slice (some ⟨g, 0, none⟩) l.length cap, v] w fun e w' => e = .returned (.bool (ks.all fun k => l.any (keyIs k))) ∧ Below w.heap.size w w' := by
  have hnot : ∀ (x : Bool) (w : World), (Op.unary .not (.bool x)).run Try.prog w = .ok (.bool (!x)) w := fun _ _ => rfl
  rcases hks with ⟨rfl, rfl⟩ | ⟨kg, kc, rfl, _, hkg, hk⟩
  · go_enter Try.func79, Try.ntmps79
    go_wp2
    refine wp_loop_rounds 1 ?_
    rw [rounds_succ]
    go_wp2
    go_ret
    exact ⟨rfl, Below.refl _ _⟩
  · go_enter Try.func79, Try.ntmps79
    go_wp2
    go_loopw [5] (fun i wr => ∃ k : Nat, k ≤ ks.length ∧ i = .int .i64 k ∧ ((ks.take k).all fun k => l.any (keyIs k)) = true ∧ Below w.heap.size w wr) (fun i _ => ks.length - (intOf i).toNat)
    case atStart => exact ⟨0, Nat.zero_le _, rfl, by simp, Below.refl _ _⟩
    case round =>
      obtain ⟨k, hkk, rfl, hno, hbe⟩ := hrel
      have Hno : Hid _ := hno
      clear hno
      by_cases hlt : k < ks.length
      · obtain ⟨y, hy⟩ : ∃ y, y = ks[k] := ⟨_, rfl⟩
        have hky := hk k hlt
        rw [← hy] at hky
        have c0 := (hbe.cell (p := ⟨kg, k * 4, none⟩) hkg).trans hky.c0
        have c1 := (hbe.cell (p := ⟨kg, k * 4 + 1, none⟩) hkg).trans hky.c1
        have c2 := (hbe.cell (p := ⟨kg, k * 4 + 2, none⟩) hkg).trans hky.c2
        have c3 := (hbe.cell (p := ⟨kg, k * 4 + 3, none⟩) hkg).trans hky.c3
        have hlt' : (k : Int) < (ks.length : Int) := by omega
        have hstep : ((ks.take (k + 1)).all fun k => l.any (keyIs k)) = l.any (keyIs y) := by
          rw [List.take_succ_eq_append_getElem (by omega), List.all_append, Hno.out, ← hy]; simp
        have hhas := has_in g l.length cap l y.kind y.name y.host y.number wr hl (Nat.le_refl _) (hit.below hbe hit.1)
        rw [List.take_of_length_le (Nat.le_refl _), show (l.any fun x => decide ((x.kind : Int) = y.kind ∧ x.name = y.name ∧ x.host = y.host ∧ x.number = y.number)) = l.any (keyIs y) from rfl] at hhas
        have hsz := hbe.size
        clear hy hky
        cases hd : l.any (keyIs y) with
        | true =>
          rw [hd] at hhas hstep
          have Hf : Hid _ := hstep
          have Hh := hide hhas
          clear hstep hd hhas
          go_wp2_with (go_at_call 77; refine (unhide Hh).mono ?_; rintro e w1 ⟨rfl, hb1⟩)
          go_roundw
          case rel => exact ⟨k + 1, by omega, by go_num, Hf.out, hbe.trans (hb1.mono hsz)⟩
          case measure => simp [intOf]; omega
        | false =>
          rw [hd] at hhas hstep
          have hfin : (ks.all fun k => l.any (keyIs k)) = false := by
            rw [List.all_eq_false] at hstep ⊢
            obtain ⟨z, hz, hp⟩ := hstep
            exact ⟨z, List.mem_of_mem_take hz, hp⟩
          have Hf : Hid _ := hfin
          have Hh := hide hhas
          clear hstep hd hhas hfin
          go_wp2_with (go_at_call 77; refine (unhide Hh).mono ?_; rintro e w1 ⟨rfl, hb1⟩)
          go_ret
          exact ⟨ret_bool Hf.out.symm, hbe.trans (hb1.mono hsz)⟩
      · have hfin := Hno.out
        rw [List.take_of_length_le (by omega)] at hfin
        have Hf : Hid _ := hfin
        clear hfin
        go_wp2
        go_ret
        exact ⟨ret_bool Hf.out.symm, hbe⟩

end Go.Proofs.Ytgbkkolohloacaa

/- 'firstTwice', 'firstLost'. -/
namespace Go.Proofs.Ytgbkkolohloacaa
open Go.RowKit

/-- v is a list of the items l. -/
def ItemsAt (w : World) (v : Value) (l : List Item) : Prop :=
  (v = .slice none 0 0 ∧ l = []) ∨ ∃ g cap, v = .slice (some ⟨g, 0, none⟩) l.length cap ∧ l.length ≤ cap ∧ ItemsIn w g l

theorem not_t {b : Bool} (h : true = !b) : b = false := by cases b <;> simp at h ⊢
theorem not_f {b : Bool} (h : false = !b) : b = true := by cases b <;> simp at h ⊢
theorem namesOf_len (y : Item) : (namesOf y).length ≤ 2 := by
  unfold namesOf
  split
  · simp
  · split
    · simp
    · split <;> simp

theorem ret_num {a b : Nat} (h : a = b) : Ending.returned (.int .i64 (a : Int)) = .returned (.int .i64 (b : Int)) := by rw [h]

set_option maxRecDepth 100000 in
set_option maxHeartbeats 400000 in
theorem firstTwice_any (v : Value) (l : List Item) (w : World) (hl : l.length ≤ 24) (hv : ItemsAt w v l) :
    Calls Try.prog 61 #[v] w fun e w' => e = .returned (.int .i64 (firstIx (twiceAt l) l.length)) ∧ Below w.heap.size w w' := by
  rcases hv with ⟨rfl, rfl⟩ | ⟨g, cap, rfl, hcap, hit⟩
  · go_enter Try.func61, Try.ntmps61
    go_wp2
    refine wp_loop_rounds 1 ?_
    rw [rounds_succ]
    go_wp2
    go_ret
    exact ⟨rfl, Below.refl _ _⟩
  · have hcap' : (l.length : Int) ≤ (cap : Int) := by omega
    go_enter Try.func61, Try.ntmps61
    go_wp2
    go_loopw [3] (fun i wr => ∃ k : Nat, k ≤ l.length ∧ i = .int .i64 k ∧ (∀ j, j < k → twiceAt l j = false) ∧ Below w.heap.size w wr) (fun i _ => l.length - (intOf i).toNat)
    case atStart => exact ⟨0, Nat.zero_le _, rfl, by intro j hj; omega, Below.refl _ _⟩
    case round =>
      obtain ⟨k, hkk, rfl, hno, hbe⟩ := hrel
      have Hno : Hid _ := hno
      clear hno
      by_cases hlt : k < l.length
      · obtain ⟨y, hy⟩ : ∃ y, y = l[k] := ⟨_, rfl⟩
        have hiy := ((hit.2 k hlt).below hbe hit.1)
        rw [← hy] at hiy
        obtain ⟨c0, c1, c2, c3, c4, c5, c6⟩ := hiy
        have hlt' : (k : Int) < (l.length : Int) := by omega
        have hkc : (k : Int) ≤ (cap : Int) := by omega
        have hhas : ∀ nq, Calls Try.prog 77 #[.slice (some ⟨g, 0, none⟩) k cap, .agg #[.int .i64 (y.kind : Int), .string y.name, .string y.host, .int .i64 y.number]] (wr.drewN nq) fun e w' =>
            e = .returned (.bool (twiceAt l k)) ∧ Below (wr.drewN nq).heap.size (wr.drewN nq) w' := by
          intro nq
          have := has_in g k cap l y.kind y.name y.host y.number (wr.drewN nq) hl (by omega) (hit.below (below_drewN hbe nq) hit.1)
          rw [show twiceAt l k = (l.take k).any (fun x => decide ((x.kind : Int) = (y.kind : Int) ∧ x.name = y.name ∧ x.host = y.host ∧ x.number = y.number)) from by
            simp only [twiceAt, List.getElem?_eq_getElem hlt, ← hy]; rfl]
          exact this
        have hsz := hbe.size
        clear hy
        cases hd : twiceAt l k with
        | true =>
          have hfin := firstIx_hit hlt hd Hno.out
          have Hf : Hid _ := hfin
          rw [hd] at hhas
          have Hh := hide hhas
          clear hd hhas hfin
          go_wp2
          go_region_with (go_at_call 77; refine (unhide Hh 1).mono ?_; rintro e w1 ⟨rfl, hb1⟩)
          all_goals
            go_wp2
            go_ret
            exact ⟨ret_num Hf.out.symm, hbe.drew.trans (hb1.mono hsz)⟩
        | false =>
          have hno' : ∀ j, j < k + 1 → twiceAt l j = false := fun j hj => by
            by_cases e : j = k
            · rw [e]; exact hd
            · exact Hno.out j (by omega)
          have Hf : Hid _ := hno'
          rw [hd] at hhas
          have Hh := hide hhas
          clear hd hhas hno'
          go_wp2
          go_region_with (go_at_call 77; refine (unhide Hh 1).mono ?_; rintro e w1 ⟨rfl, hb1⟩)
          all_goals
            go_wp2
            go_roundw
            case rel => exact ⟨k + 1, by omega, by go_num, Hf.out, hbe.drew.trans (hb1.mono hsz)⟩
            case measure => simp [intOf]; omega
      · have hfin := firstIx_none (n := l.length) (fun j hj => Hno.out j (by omega))
        have Hf : Hid _ := hfin
        clear hfin
        go_wp2
        go_ret
        exact ⟨ret_num Hf.out.symm, hbe⟩

set_option maxRecDepth 100000 in
set_option maxHeartbeats 400000 in
theorem firstLost_any (v : Value) (l : List Item) (w : World) (hl : l.length ≤ 24) (hv : ItemsAt w v l) :
    Calls Try.prog 62 #[v] w fun e w' => e = .returned (.int .i64 (firstIx (lostAt l) l.length)) ∧ Below w.heap.size w w' := by
  have hnot : ∀ (x : Bool) (w : World), (Op.unary .not (.bool x)).run Try.prog w = .ok (.bool (!x)) w := fun _ _ => rfl
  rcases hv with ⟨rfl, rfl⟩ | ⟨g, cap, rfl, hcap, hit⟩
  · go_enter Try.func62, Try.ntmps62
    go_wp2
    refine wp_loop_rounds 1 ?_
    rw [rounds_succ]
    go_wp2
    go_ret
    exact ⟨rfl, Below.refl _ _⟩
  · go_enter Try.func62, Try.ntmps62
    go_wp2
    go_loopw [3] (fun i wr => ∃ k : Nat, k ≤ l.length ∧ i = .int .i64 k ∧ (∀ j, j < k → lostAt l j = false) ∧ Below w.heap.size w wr) (fun i _ => l.length - (intOf i).toNat)
    case atStart => exact ⟨0, Nat.zero_le _, rfl, by intro j hj; omega, Below.refl _ _⟩
    case round =>
      obtain ⟨k, hkk, rfl, hno, hbe⟩ := hrel
      have Hno : Hid _ := hno
      clear hno
      by_cases hlt : k < l.length
      · obtain ⟨y, hy⟩ : ∃ y, y = l[k] := ⟨_, rfl⟩
        have hiy := ((hit.2 k hlt).below hbe hit.1)
        rw [← hy] at hiy
        obtain ⟨c0, c1, c2, c3, c4, c5, c6⟩ := hiy
        have hlt' : (k : Int) < (l.length : Int) := by omega
        have hlo : lostAt l k = !((namesOf y).all fun k => l.any (keyIs k)) := by simp only [lostAt, List.getElem?_eq_getElem hlt, ← hy]
        have hkl : (namesOf y).length ≤ 2 := namesOf_len y
        have hsz := hbe.size
        clear hy
        cases hd : lostAt l k with
        | true =>
          have hfin := firstIx_hit hlt hd Hno.out
          have Hf : Hid _ := hfin
          have Ha : Hid (((namesOf y).all fun k => l.any (keyIs k)) = false) := by rw [hd] at hlo; exact not_t hlo
          clear hd hfin hlo
          go_wp2_with fail
          refine (names_any y _).mono ?_
          rintro e w1 ⟨kv, rfl, hkv, hb1⟩
          have hall := hasAll_in g cap l kv (namesOf y) w1 hl ((hit.below hbe hit.1).below hb1 (by have := hit.1; omega)) _ hkv hkl
          rw [Ha.out] at hall
          have Hh := hide hall
          clear hall
          go_wp2_with fail
          refine (unhide Hh).mono ?_
          rintro e w2 ⟨rfl, hb2⟩
          go_wp2
          go_ret
          exact ⟨ret_num Hf.out.symm, (hbe.trans (hb1.mono hsz)).trans (hb2.mono (by have := hb1.size; omega))⟩
        | false =>
          have hno' : ∀ j, j < k + 1 → lostAt l j = false := fun j hj => by
            by_cases e : j = k
            · rw [e]; exact hd
            · exact Hno.out j (by omega)
          have Hf : Hid _ := hno'
          have Ha : Hid (((namesOf y).all fun k => l.any (keyIs k)) = true) := by rw [hd] at hlo; exact not_f hlo
          clear hd hno' hlo
          go_wp2_with fail
          refine (names_any y _).mono ?_
          rintro e w1 ⟨kv, rfl, hkv, hb1⟩
          have hall := hasAll_in g cap l kv (namesOf y) w1 hl ((hit.below hbe hit.1).below hb1 (by have := hit.1; omega)) _ hkv hkl
          rw [Ha.out] at hall
          have Hh := hide hall
          clear hall
          go_wp2_with fail
          refine (unhide Hh).mono ?_
          rintro e w2 ⟨rfl, hb2⟩
          go_wp2
          go_roundw
          case rel => exact ⟨k + 1, by omega, by go_num, Hf.out, (hbe.trans (hb1.mono hsz)).trans (hb2.mono (by have := hb1.size; omega))⟩
          case measure => simp [intOf]; omega
      · have hfin := firstIx_none (n := l.length) (fun j hj => Hno.out j (by omega))
        have Hf : Hid _ := hfin
        clear hfin
        go_wp2
        go_ret
        exact ⟨ret_num Hf.out.symm, hbe⟩

end Go.Proofs.Ytgbkkolohloacaa
