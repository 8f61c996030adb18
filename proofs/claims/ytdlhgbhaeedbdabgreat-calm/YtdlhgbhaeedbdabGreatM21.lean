/- Rk8, Ho8. -/
import Derived.Test.YtdlhgbhaeedbdabGreatM20
import Derived.Test.YtdlhgbhaeedbdabGreatM17
import Derived.Deep.RegionHeld3
import Derived.Deep.CutRange

/- The rack's calls, with what is known of its hosts. -/
namespace Go.Proofs.YtdlhgbhaeedbdabGreat
open Go.RowKit

/-- A rack that runs, with hosts of whom M tells. -/
def RackAt (Mj : HJ) (w : World) (r b : Nat) (l : List Item) (did left : List (Bool × Item)) : Prop :=
  ∃ H, RackF w r b l did left H ∧ DOK l H.disks ∧ Mj.J H ∧ ∀ p ∈ did ++ left, QQ Mj p

theorem RackAt.keep {Mj : HJ} {T : TypeId → Prop} {w w' : World} {r b : Nat} {l : List Item} {did left : List (Bool × Item)} (h : RackAt Mj w r b l did left) (hk : TK T w w') (h1 : ¬ T 79) (h2 : ¬ T 83) (h3 : ¬ T 157) (h4 : NH T) : RackAt Mj w' r b l did left := by
  obtain ⟨H, hR, h⟩ := h
  exact ⟨H, hR.keep hk h1 h2 h3 h4, h⟩

theorem RackAt.later {Mj : HJ} {w w' : World} {r b : Nat} {l : List Item} {did left : List (Bool × Item)} (h : RackAt Mj w r b l did left) (hk : Below w.heap.size w w') : RackAt Mj w' r b l did left :=
  h.keep (T := fun _ => False) (TK.of_below hk) id id id nh_false

theorem RackAt.lt {Mj : HJ} {w : World} {r b : Nat} {l : List Item} {did left : List (Bool × Item)} (h : RackAt Mj w r b l did left) : r < w.heap.size := by
  obtain ⟨H, hR, _⟩ := h
  exact hR.lt

theorem RackAt.br {Mj : HJ} {w : World} {r b : Nat} {l : List Item} {did left : List (Bool × Item)} (h : RackAt Mj w r b l did left) : b < r := by
  obtain ⟨H, hR, _⟩ := h
  exact hR.br

theorem config_any {Mj : HJ} (r b : Nat) (l : List Item) (did left : List (Bool × Item)) (w : World) (hl : Fits l) (h : RackAt Mj w r b l did left) :
    Calls Tryz.prog 62 #[.pointer (some ⟨r, 0, none⟩)] w fun e w' => e = .returned (.tuple #[.string (prI l), .int .i64 0]) ∧ Below w.heap.size w w' := by
  obtain ⟨H, hR, _⟩ := h
  exact fconfig_any r b l did left H w hl hR

/-- What Open leaves: no rack, and the power has gone; or a rack. -/
def OpenEnd (b : Nat) (S E : Nat → UInt8) (U : List Lg) (l : Int) (d : Bool) (w : World) (e : Ending) (w' : World) : Prop :=
  ∃ l' d', ApiAt w' b S E U l' d' ∧ l' ≤ 9223372036854775807 ∧ Below b w w' ∧ TK KT w w' ∧ (l < 0 → l' = l ∧ d' = d) ∧
      ((d' = true ∧ e = .returned (.tuple #[.pointer none, .int .i64 7])) ∨ (d' = false ∧ d = false ∧ ∃ r, w.heap.size ≤ r ∧ e = .returned (.tuple #[.pointer (some ⟨r, 0, none⟩), .int .i64 0]) ∧ RackAt hj0 w' r b (itemsOf (held E)) [] []))

theorem open_any (b : Nat) (S E : Nat → UInt8) (U : List Lg) (l : Int) (d : Bool) (w : World) (hl : l ≤ 9223372036854775807) (hE : (chk (held E)).1 = 0) (h : ApiAt w b S E U l d) :
    Calls Tryz.prog 79 #[.pointer (some ⟨b, 0, none⟩)] w fun e w' => OpenEnd b S E U l d w e w' := by
  refine (fopen_any b S E U l d w hl hE h).mono ?_
  rintro e w' ⟨l', d', h1, h2, h3, h4, h5, h6⟩
  refine ⟨l', d', h1, h2, h3, h4, h5, ?_⟩
  rcases h6 with h6 | ⟨h6, h7, r, h8, h9, hR⟩
  · exact .inl h6
  · exact .inr ⟨h6, h7, r, h8, h9, _, hR, DOK.new _, hj0_new _, by simp⟩

theorem start_busy {Mj : HJ} (r b : Nat) (s : ByteArray) (l : List Item) (did left : List (Bool × Item)) (w : World) (hb : 0 < left.length) (h : RackAt Mj w r b l did left) :
    Calls Tryz.prog 31 #[.pointer (some ⟨r, 0, none⟩), .string s] w fun e w' => e = .returned (.int .i64 8) ∧ w' = w := by
  obtain ⟨H, hR, _⟩ := h
  exact fstart_busy r b s l did left H w hb hR

theorem start_bad {Mj : HJ} (r b : Nat) (s : ByteArray) (l : List Item) (w : World) (hs : s.size ≤ maxLen) (h0 : (chk s).1 ≠ 0) (h : RackAt Mj w r b l [] []) :
    Calls Tryz.prog 31 #[.pointer (some ⟨r, 0, none⟩), .string s] w fun e w' => e = .returned (.int .i64 ((chk s).1 : Nat)) ∧ Below w.heap.size w w' := by
  obtain ⟨H, hR, _⟩ := h
  exact fstart_bad r b s l H w hs h0 hR

/-- What Start leaves. -/
def StartEnd (Mj : HJ) (r b : Nat) (l : List Item) (P : List (Bool × Item)) (w : World) (e : Ending) (w' : World) : Prop :=
  e = .returned (.int .i64 0) ∧ RackAt Mj w' r b l [] P ∧ TK K1 w w' ∧ Below b w w'

theorem start_ok {Mj : HJ} (r b : Nat) (s : ByteArray) (l : List Item) (w : World) (hs : s.size ≤ maxLen) (hl : l.length ≤ 24) (h0 : (chk s).1 = 0) (hq : ∀ p ∈ mk l (itemsOf s), QQ Mj p) (h : RackAt Mj w r b l [] []) :
    Calls Tryz.prog 31 #[.pointer (some ⟨r, 0, none⟩), .string s] w fun e w' => StartEnd Mj r b l (mk l (itemsOf s)) w e w' := by
  obtain ⟨H, hR, hD, hJ, _⟩ := h
  refine (fstart_ok r b s l H w hs hl h0 hR).mono ?_
  rintro e w' ⟨h1, h2, h3, h4⟩
  exact ⟨h1, ⟨H, h2, hD, hJ, by simpa using hq⟩, h3, h4⟩

theorem step_idle {Mj : HJ} (r b : Nat) (f : Bool) (l : List Item) (did : List (Bool × Item)) (w : World) (h : RackAt Mj w r b l did []) :
    Calls Tryz.prog 56 #[.pointer (some ⟨r, 0, none⟩), .bool f] w fun e w' => e = .returned (.tuple #[.int .i64 0, .int .i64 9]) ∧ w' = w := by
  obtain ⟨H, hR, _⟩ := h
  exact fstep_idle r b f l did H w hR

theorem stop_idle {Mj : HJ} (r b : Nat) (l : List Item) (did : List (Bool × Item)) (w : World) (h : RackAt Mj w r b l did []) :
    Calls Tryz.prog 63 #[.pointer (some ⟨r, 0, none⟩)] w fun e w' => e = .returned (.int .i64 9) ∧ w' = w := by
  obtain ⟨H, hR, _⟩ := h
  exact fstop_idle r b l did H w hR

/-- What a plan that is undone leaves. -/
def BackEnd (Mj : HJ) (r b : Nat) (l : List Item) (did : List (Bool × Item)) (w : World) (w' : World) : Prop :=
  RackAt Mj w' r b (undoTo l did 0) [] [] ∧ TK K1 w w' ∧ Below b w w'

theorem mild_of {Mj : HJ} {l : List Item} {H : Hs} {p : Bool × Item} (hs : StepOK l p) (hD : DOK l H.disks) (hJ : Mj.J H) (hq : Mj.Q p) : Mild H p :=
  ⟨Mj.few H hJ, Nat.le_trans hD.len hs.arr.fits.1, good_size hs.good, Mj.quiet H p hJ hq⟩

/-- The hosts while a plan is undone. -/
theorem undo_hosts {Mj : HJ} {l : List Item} {did : List (Bool × Item)} {H : Hs} (hb : ∀ k (hk : k < did.length), StepOK (undoTo l did (k + 1)) (!did[k].1, did[k].2)) (hD : DOK l H.disks) (hJ : Mj.J H) (hq : ∀ p ∈ did, QQ Mj p) :
    ∀ n k, k + n = did.length → DOK (undoTo l did k) (undoH H did k).disks ∧ Mj.J (undoH H did k) := by
  intro n
  induction n with
  | zero =>
    intro k hk
    have : k = did.length := by omega
    subst this
    rw [undoTo_all, undoH_all]
    exact ⟨hD, hJ⟩
  | succ n ih =>
    intro k hk
    have hkl : k < did.length := by omega
    obtain ⟨h1, h2⟩ := ih (k + 1) (by omega)
    rw [undoTo_step l did k hkl, undoH_step H did k hkl]
    exact ⟨h1.step (hb k hkl), Mj.next _ _ h2 (hq _ (List.getElem_mem hkl)).2⟩

theorem undo_mild {Mj : HJ} {l : List Item} {did : List (Bool × Item)} {H : Hs} (hb : ∀ k (hk : k < did.length), StepOK (undoTo l did (k + 1)) (!did[k].1, did[k].2)) (hD : DOK l H.disks) (hJ : Mj.J H) (hq : ∀ p ∈ did, QQ Mj p) :
    ∀ k (hk : k < did.length), Mild (undoH H did (k + 1)) (!did[k].1, did[k].2) := by
  intro k hk
  obtain ⟨h1, h2⟩ := undo_hosts hb hD hJ hq (did.length - (k + 1)) (k + 1) (by omega)
  exact mild_of (hb k hk) h1 h2 (hq _ (List.getElem_mem hk)).2

theorem step_fail {Mj : HJ} (r b : Nat) (l : List Item) (did left : List (Bool × Item)) (w : World) (hn : 0 < left.length) (hd : did.length ≤ 48) (hl : ∀ k, (undoTo l did k).length ≤ 24) (hb : ∀ k (hk : k < did.length), StepOK (undoTo l did (k + 1)) (!did[k].1, did[k].2)) (h : RackAt Mj w r b l did left) :
    Calls Tryz.prog 56 #[.pointer (some ⟨r, 0, none⟩), .bool true] w fun e w' => e = .returned (.tuple #[.int .i64 0, .int .i64 5]) ∧ BackEnd Mj r b l did w w' := by
  obtain ⟨H, hR, hD, hJ, hq⟩ := h
  have hq' : ∀ p ∈ did, QQ Mj p := fun p hp => hq p (by simp [hp])
  refine (fstep_fail r b l did left H w hn hd hl (undo_mild hb hD hJ hq') hR).mono ?_
  rintro e w' ⟨h1, h2, h3, h4⟩
  obtain ⟨g1, g2⟩ := undo_hosts hb hD hJ hq' did.length 0 (by omega)
  exact ⟨h1, ⟨_, h2, g1, g2, by simp⟩, h3, h4⟩

theorem stop_busy {Mj : HJ} (r b : Nat) (l : List Item) (did left : List (Bool × Item)) (w : World) (hn : 0 < left.length) (hd : did.length ≤ 48) (hl : ∀ k, (undoTo l did k).length ≤ 24) (hb : ∀ k (hk : k < did.length), StepOK (undoTo l did (k + 1)) (!did[k].1, did[k].2)) (h : RackAt Mj w r b l did left) :
    Calls Tryz.prog 63 #[.pointer (some ⟨r, 0, none⟩)] w fun e w' => e = .returned (.int .i64 0) ∧ BackEnd Mj r b l did w w' := by
  obtain ⟨H, hR, hD, hJ, hq⟩ := h
  have hq' : ∀ p ∈ did, QQ Mj p := fun p hp => hq p (by simp [hp])
  refine (fstop_busy r b l did left H w hn hd hl (undo_mild hb hD hJ hq') hR).mono ?_
  rintro e w' ⟨h1, h2, h3, h4⟩
  obtain ⟨g1, g2⟩ := undo_hosts hb hD hJ hq' did.length 0 (by omega)
  exact ⟨h1, ⟨_, h2, g1, g2, by simp⟩, h3, h4⟩

/-- What finish leaves: the arrangement lasts, and no plan is under way; or the power has gone. -/
def FinEnd (Mj : HJ) (r b : Nat) (S : Nat → UInt8) (l : List Item) (lf : Int) (w : World) (w' : World) (c : Nat) : Prop :=
  ∃ S' E' U' l' d', ApiAt w' b S' E' U' l' d' ∧ l' ≤ 9223372036854775807 ∧ Below b w w' ∧ TK KT w w' ∧ (lf < 0 → l' = lf ∧ d' = false) ∧ U'.length ≤ 13 ∧ (∀ x ∈ U', x.sec < 64 ∧ x.data.size = 32) ∧
    ((d' = true ∧ c = 7 ∧ DeadAt w' r ∧ ∀ keep, held (updB keep S' U' U'.length) = held S ∨ held (updB keep S' U' U'.length) = prI l) ∨
     (d' = false ∧ c = 0 ∧ RackAt Mj w' r b l [] [] ∧ U' = [] ∧ E' = S' ∧ held S' = prI l))

/-- What Step leaves. -/
def StepEnd (Mj : HJ) (r b : Nat) (S : Nat → UInt8) (l : List Item) (did : List (Bool × Item)) (p : Bool × Item) (rest : List (Bool × Item)) (lf : Int) (w : World) (e : Ending) (w' : World) : Prop :=
  (0 < rest.length ∧ e = .returned (.tuple #[.int .i64 rest.length, .int .i64 0]) ∧ RackAt Mj w' r b (doI p.1 l p.2) (did ++ [p]) rest ∧ TK KT0 w w' ∧ Below b w w') ∨
  (rest = [] ∧ ∃ c : Nat, e = .returned (.tuple #[.int .i64 0, .int .i64 c]) ∧ FinEnd Mj r b S (doI p.1 l p.2) lf w w' c)

theorem step_ok {Mj : HJ} (r b : Nat) (S : Nat → UInt8) (l : List Item) (did : List (Bool × Item)) (p : Bool × Item) (rest : List (Bool × Item)) (lf : Int) (w : World) (hd : did.length + 1 + rest.length ≤ 48) (hl : l.length ≤ 24) (hl2 : Fits (doI p.1 l p.2)) (ht : (prI (doI p.1 l p.2)).size ≤ 400) (hz : ∀ c ∈ (prI (doI p.1 l p.2)).data.toList, c ≠ 0)
    (hlf : lf ≤ 9223372036854775807) (hs : StepOK l p) (h : RackAt Mj w r b l did (p :: rest)) (ha : ApiAt w b S S [] lf false) :
    Calls Tryz.prog 56 #[.pointer (some ⟨r, 0, none⟩), .bool false] w fun e w' => StepEnd Mj r b S l did p rest lf w e w' := by
  obtain ⟨H, hR, hD, hJ, hq⟩ := h
  have hqp := hq p (by simp)
  have hD2 := hD.step hs
  have hJ2 := Mj.next H p hJ hqp.1
  refine (fstep_ok r b S l did p rest H lf w hd hl hl2 ht hz hlf (mild_of hs hD hJ hqp.1) hR ha).mono ?_
  rintro e w' (⟨h1, h2, h3, h4, h5⟩ | ⟨h1, c, h2, S', E', U', l', d', a1, a2, a3, a4, a5, a6, a7, a8⟩)
  · exact .inl ⟨h1, h2, ⟨_, h3, hD2, hJ2, by simpa using hq⟩, h4, h5⟩
  · refine .inr ⟨h1, c, h2, S', E', U', l', d', a1, a2, a3, a4, a5, a6, a7, ?_⟩
    rcases a8 with a8 | ⟨b1, b2, b3, b4⟩
    · exact .inl a8
    · exact .inr ⟨b1, b2, ⟨_, b3, hD2, hJ2, by simp⟩, b4⟩

end Go.Proofs.YtdlhgbhaeedbdabGreat

/- 'Rack.meet', 'Rack.see'. -/
namespace Go.Proofs.YtdlhgbhaeedbdabGreat
open Go.RowKit

def noNews (H : Hs) : Prop := ∀ s ∈ H.ses, s.news = false

theorem meetV_cases (S : List Ses) (n : Int) : (S.find? (fun s => decide (s.number = n)) = none ∧ meetV S n = .tuple #[.agg #[.int .i64 0, .string ⟨#[]⟩, .string ⟨#[]⟩, .bool false], .int .i64 12]) ∨ ∃ s, S.find? (fun s => decide (s.number = n)) = some s ∧ meetV S n = .tuple #[.agg #[.int .i64 s.number, .string s.target, .string s.host, .bool s.news], .int .i64 0] := by
  unfold meetV
  cases h : S.find? (fun s => decide (s.number = n)) with
  | none => exact .inl ⟨rfl, rfl⟩
  | some s => exact .inr ⟨s, rfl, rfl⟩

set_option maxRecDepth 100000 in
set_option maxHeartbeats 400000 in
theorem rmeet_any (r b : Nat) (l : List Item) (did left : List (Bool × Item)) (H : Hs) (n : Int) (w : World) (h8 : H.ses.length ≤ 8) (hnew : noNews H) (h : RackF w r b l did left H) :
    Calls Tryz.prog 64 #[.pointer (some ⟨r, 0, none⟩), .int .i64 n] w fun e w' => e = .returned (meetV H.ses n) ∧ Below w.heap.size w w' := by
  have hbn := below_new w (.cells zSes 113)
  have hzb : (w.alloc (.cells zSes 113)).heap[w.heap.size]? = some (.cells zSes 113 (0, 0)) := heap_alloc_last w _
  have hR1 := h.later hbn
  have c7 := hR1.c4
  obtain ⟨v, c3, hS, _⟩ := hR1.hs.ses
  have hlt := hR1.lt
  have HM := hide (tmeet_any r (b + 1) n v H.ses _ (by omega) hlt c3 hS hnew)
  have hsz : w.heap.size < (w.alloc (.cells zSes 113)).heap.size := by simp
  clear h hR1 hS
  unfold zSes at *
  rcases meetV_cases H.ses n with ⟨_, hv⟩ | ⟨s, _, hv⟩
  all_goals
    rw [hv] at HM ⊢
    clear hv
    go_enter Tryz.func64, Tryz.ntmps64
    go_wp2_with fail
    generalize hW : w.alloc (.cells #[.int .i64 0, .string ⟨#[]⟩, .string ⟨#[]⟩, .bool false] 113) = w0 at *
    refine (unhide HM).mono ?_
    rintro e w1 ⟨rfl, hb1⟩
    obtain ⟨z0, z1, z2, z3, zf⟩ := zses_cells ((hb1.block w.heap.size hsz).trans hzb)
    have hb2 : Below w.heap.size w w1 := hbn.trans (hb1.mono (Nat.le_of_lt hsz))
    clear hb1 hbn hzb c7 c3 HM
    go_wp2_with fail
    refine bodyPost_ret (v := _) (by simp [results, Tryz.results64, go_sem, z0, z1, z2, z3]) rfl ⟨rfl, ?_⟩
    exact below_set4 hb2 (Nat.le_refl _) _ _ _ _

/-- What a session sees under a number: the error; which drive, and whether for reading alone. -/
def seeO (H : Hs) (l : List Item) (s n : Int) : Int × Option (Nat × Bool) :=
  match H.ses.find? (fun z => decide (z.number = s)) with
  | none => (12, none)
  | some z => match l.find? (keyIs ⟨4, z.target, z.host, n⟩) with
    | none => (14, none)
    | some m => match l.find? (keyIs ⟨2, z.target, ⟨#[]⟩, m.lun⟩) with
      | none => (14, none)
      | some u => match fixD H.disks u.disk with
        | none => (14, none)
        | some i => (0, some (i, u.only))

def seeV (B : List Bk) (o : Int × Option (Nat × Bool)) : Value := match o.2 with
  | none => .tuple #[.pointer none, .bool false, .int .i64 o.1]
  | some (i, u) => .tuple #[ptrV B (some i), .bool u, .int .i64 0]

/-- A block that was laid ahead of a call. -/
theorem zitem_after {Y w2 : World} (hb : Below (Y.drew.alloc (.cells #[.int .i64 0, .string ⟨#[]⟩, .string ⟨#[]⟩, .int .i64 0, .int .i64 0, .string ⟨#[]⟩, .bool false, .int .i64 0, .string ⟨#[]⟩] 83)).heap.size (Y.drew.alloc (.cells #[.int .i64 0, .string ⟨#[]⟩, .string ⟨#[]⟩, .int .i64 0, .int .i64 0, .string ⟨#[]⟩, .bool false, .int .i64 0, .string ⟨#[]⟩] 83)) w2) : Cells9 w2 Y.heap.size := by
  refine Cells9.of_block ((hb.block Y.heap.size (by simp)).trans ?_)
  exact heap_alloc_new Y.drew (.cells zItem 83)

theorem findV_none {l : List Item} {p : Item → Bool} (h : l.find? p = none) : findV l p = .tuple #[.agg zItem, .bool false] := by
  refine findV_miss ?_
  rw [List.any_eq_false]
  intro x hx
  have := (List.find?_eq_none.1 h) x hx
  simpa using this

theorem find_any_iff {l : List Item} {p : Item → Bool} : l.any p = (l.find? p).isSome := by
  cases h : l.find? p with
  | none =>
    rw [Option.isSome_none, List.any_eq_false]
    intro x hx
    simpa using (List.find?_eq_none.1 h) x hx
  | some x =>
    rw [Option.isSome_some, List.any_eq_true]
    exact ⟨x, List.mem_of_find?_eq_some h, List.find?_some h⟩

/-- What Find lays down. -/
theorem ItAt.laid {B : Nat} {w w2 : World} (h : Below B w w2) (hB : B ≤ w2.heap.size) (m : Item) : ItAt (w2.alloc (.cells #[.int .i64 m.kind, .string m.name, .string m.host, .int .i64 m.number, .int .i64 m.size, .string m.disk, .bool m.only, .int .i64 m.lun, .string m.text] 83)) w2.heap.size 0 m ∧ Below B w (w2.alloc (.cells #[.int .i64 m.kind, .string m.name, .string m.host, .int .i64 m.number, .int .i64 m.size, .string m.disk, .bool m.only, .int .i64 m.lun, .string m.text] 83)) :=
  ⟨ItAt.new w2 m, h.alloc hB _⟩

theorem ItAt.stored {B g : Nat} {w w2 : World} (h : Below B w w2) (hB : B ≤ g) (hg : Cells9 w2 g) (m : Item) : ItAt (((((((((w2.setCell ⟨g, 0, none⟩ (.int .i64 m.kind)).setCell ⟨g, 1, none⟩ (.string m.name)).setCell ⟨g, 2, none⟩ (.string m.host)).setCell ⟨g, 3, none⟩ (.int .i64 m.number)).setCell ⟨g, 4, none⟩ (.int .i64 m.size)).setCell ⟨g, 5, none⟩ (.string m.disk)).setCell ⟨g, 6, none⟩ (.bool m.only)).setCell ⟨g, 7, none⟩ (.int .i64 m.lun)).setCell ⟨g, 8, none⟩ (.string m.text)) g 0 m ∧
    Below B w (((((((((w2.setCell ⟨g, 0, none⟩ (.int .i64 m.kind)).setCell ⟨g, 1, none⟩ (.string m.name)).setCell ⟨g, 2, none⟩ (.string m.host)).setCell ⟨g, 3, none⟩ (.int .i64 m.number)).setCell ⟨g, 4, none⟩ (.int .i64 m.size)).setCell ⟨g, 5, none⟩ (.string m.disk)).setCell ⟨g, 6, none⟩ (.bool m.only)).setCell ⟨g, 7, none⟩ (.int .i64 m.lun)).setCell ⟨g, 8, none⟩ (.string m.text)) := by
  refine ⟨?_, below_set9 h hB 0 _ _ _ _ _ _ _ _ _⟩
  have := cell_set9_same (w := w2) (g := g) (o := 0) (x := m) (fun c hc => by
    obtain ⟨c0, c1, c2, c3, c4, c5, c6, c7, c8, _⟩ := hg
    rw [Nat.zero_add]
    match c, hc with
    | 0, _ => rw [c0]; rfl
    | 1, _ => rw [c1]; rfl
    | 2, _ => rw [c2]; rfl
    | 3, _ => rw [c3]; rfl
    | 4, _ => rw [c4]; rfl
    | 5, _ => rw [c5]; rfl
    | 6, _ => rw [c6]; rfl
    | 7, _ => rw [c7]; rfl
    | 8, _ => rw [c8]; rfl)
  exact this

theorem ItAt.zero' {w : World} {g : Nat} {x : Item} (h : ItAt w g 0 x) : w.cell? ⟨g, 0, none⟩ = some (.int .i64 x.kind) ∧ w.cell? ⟨g, 1, none⟩ = some (.string x.name) ∧ w.cell? ⟨g, 2, none⟩ = some (.string x.host) ∧ w.cell? ⟨g, 3, none⟩ = some (.int .i64 x.number) ∧
    w.cell? ⟨g, 4, none⟩ = some (.int .i64 x.size) ∧ w.cell? ⟨g, 5, none⟩ = some (.string x.disk) ∧ w.cell? ⟨g, 6, none⟩ = some (.bool x.only) ∧ w.cell? ⟨g, 7, none⟩ = some (.int .i64 x.lun) ∧ w.cell? ⟨g, 8, none⟩ = some (.string x.text) := h.zero

set_option maxRecDepth 100000 in
set_option maxHeartbeats 2000000 in
theorem see_any (r b : Nat) (l : List Item) (did left : List (Bool × Item)) (H : Hs) (s n : Int) (v : Value) (B : List Bk) (w : World) (hl : l.length ≤ 24) (h8 : H.ses.length ≤ 8) (hB8 : B.length ≤ 1000) (hnew : noNews H) (h : RackF w r b l did left H) (hc2 : w.cell? ⟨r, 2, none⟩ = some v) (hB : BankAt w (b + 1) v B) (hBD : B.map Bk.d = H.disks) :
    Calls Tryz.prog 66 #[.pointer (some ⟨r, 0, none⟩), .int .i64 s, .int .i64 n] w fun e w' => e = .returned (seeV B (seeO H l s n)) ∧ Below w.heap.size w w' := by
  have hnot : ∀ (x : Bool) (w : World), (Op.unary .not (.bool x)).run Tryz.prog w = .ok (.bool (!x)) w := fun _ _ => rfl
  have HM := hide (rmeet_any r b l did left H s w h8 hnew h)
  obtain ⟨vi, c1, hrow⟩ := h.c1
  have hlt := h.lt
  have HF := hide fun (wx : World) (k : Key) (hb : Below w.heap.size w wx) => find_at vi l k wx hl (items_of_owns (owns_later hrow hb))
  have HB := hide fun (wx : World) (nm : ByteArray) (hb : Below w.heap.size w wx) => bfind_any r (b + 1) nm v B wx hB8 ((hb.cell (p := ⟨r, 2, none⟩) hlt).trans hc2) (hB.keep (T := fun _ => False) (TK.of_below hb) id id id)
  obtain ⟨va, vcap, rfl⟩ := slice_of_owns hrow
  clear h hrow
  obtain ⟨R, hR⟩ : ∃ R, R = seeV B (seeO H l s n) := ⟨_, rfl⟩
  rw [← hR]
  have HR := hide hR
  clear hR
  rcases meetV_cases H.ses s with ⟨hf, hv⟩ | ⟨z, hf, hv⟩
  · have hRv : .tuple #[.pointer none, .bool false, .int .i64 12] = R := by rw [unhide HR]; unfold seeO; rw [hf]; rfl
    rw [hv] at HM
    clear hf hv
    go_enter Tryz.func66, Tryz.ntmps66
    go_wp2_with fail
    refine (unhide HM).mono ?_
    rintro e w1 ⟨rfl, hb1⟩
    have hs1 := hb1.size
    go_wp2_with fail
    refine bodyPost_ret (v := .tuple #[.pointer none, .bool false, .int .i64 12]) (by simp [results, Tryz.results66, go_sem]) rfl ⟨congrArg Ending.returned hRv, ?_⟩
    exact hb1.alloc hs1 _
  · have Hz := hide hf
    rw [hv] at HM
    clear hf hv
    have hd : ∀ i : Item, i.cells = #[.int .i64 i.kind, .string i.name, .string i.host, .int .i64 i.number, .int .i64 i.size, .string i.disk, .bool i.only, .int .i64 i.lun, .string i.text] := fun _ => rfl
    obtain ⟨m, hm⟩ : ∃ m, m = (l.find? (keyIs ⟨4, z.target, z.host, n⟩)).getD noItem := ⟨_, rfl⟩
    obtain ⟨f, hfb⟩ : ∃ f, f = l.any (keyIs ⟨4, z.target, z.host, n⟩) := ⟨_, rfl⟩
    have HF1 := hide fun wx hb => unhide HF wx ⟨4, z.target, z.host, n⟩ hb
    unfold findV at HF1
    rw [← hm, ← hfb, hd] at HF1
    have Hm := hide hm
    have Hfb := hide (hfb.trans find_any_iff)
    clear hm hfb
    go_enter Tryz.func66, Tryz.ntmps66
    go_wp2_with fail
    refine (unhide HM).mono ?_
    rintro e w1 ⟨rfl, hb1⟩
    have hs1 := hb1.size
    have c11 := (hb1.cell (p := ⟨r, 1, none⟩) hlt).trans c1
    have hlt1 : r < w1.heap.size := by omega
    have hbx := hb1.alloc hs1 (.cells #[.int .i64 z.number, .string z.target, .string z.host, .bool z.news] 113)
    have hsx := hbx.size
    clear HM hb1
    go_wp2_with fail
    have e1 : (w1.alloc (.cells #[.int .i64 z.number, .string z.target, .string z.host, .bool z.news] 113)).cell? ⟨r, 1, none⟩ = some (.slice va l.length vcap) := by go_simp
    have e2 : (w1.alloc (.cells #[.int .i64 z.number, .string z.target, .string z.host, .bool z.news] 113)).cell? ⟨w1.heap.size, 1, none⟩ = some (.string z.target) := by go_simp
    have e3 : (w1.alloc (.cells #[.int .i64 z.number, .string z.target, .string z.host, .bool z.news] 113)).cell? ⟨w1.heap.size, 2, none⟩ = some (.string z.host) := by go_simp
    have hszx : (w1.alloc (.cells #[.int .i64 z.number, .string z.target, .string z.host, .bool z.news] 113)).heap.size = w1.heap.size + 1 := by simp
    generalize hY : w1.alloc (.cells #[.int .i64 z.number, .string z.target, .string z.host, .bool z.news] 113) = Y at *
    generalize hS1 : w1.heap.size = S at *
    have hrY : r < Y.heap.size := by omega
    have hsY : S < Y.heap.size := by omega
    have HrY := hide hrY
    have HsY := hide hsY
    have hne1 : ¬ r = Y.heap.size := by omega
    have hne2 : ¬ S = Y.heap.size := by omega
    have hne3 : ¬ Y.heap.size = r := by omega
    have hne4 : ¬ Y.heap.size = S := by omega
    clear hY c11 hszx hrY hsY hS1 hs1 hlt1
    go_cut [11, 12] from 24 to 37 (fun p fv wx => ∃ N : Nat, p = .pointer (some ⟨N, 0, none⟩) ∧ fv = .bool f ∧ ItAt wx N 0 m ∧ Below Y.heap.size Y wx ∧ N < wx.heap.size)
    case first =>
      go_region_held3 (fun w' => w'.cell? ⟨r, 1, none⟩ = some (.slice va l.length vcap) ∧ w'.cell? ⟨S, 1, none⟩ = some (.string z.target) ∧ w'.cell? ⟨S, 2, none⟩ = some (.string z.host)) (go_keep)
        (first
          | (go_at_call 28; refine (unhide HF1 _ (hbx.drew.alloc hsx _)).mono ?_; rintro e w2 ⟨rfl, hb2⟩; have h9 := zitem_after hb2; obtain ⟨k0, k1, k2, k3, k4, k5, k6, k7, k8, j0, j1, j2, j3, j4, j5, j6, j7, j8⟩ := h9; have hbY : Below Y.heap.size Y w2 := ((Below.refl Y.heap.size Y).drew.alloc (Nat.le_refl _) _).trans (hb2.mono (by simp)); have q1 := (hbY.cell (p := ⟨r, 1, none⟩) (unhide HrY)).trans e1; have q2 := (hbY.cell (p := ⟨S, 1, none⟩) (unhide HsY)).trans e2; have q3 := (hbY.cell (p := ⟨S, 2, none⟩) (unhide HsY)).trans e3)
          | (go_at_call 28; refine (unhide HF1 _ hbx.drew).mono ?_; rintro e w2 ⟨rfl, hb2⟩; have hbY : Below Y.heap.size Y w2 := (Below.refl Y.heap.size Y).drew.trans hb2; have q1 := (hbY.cell (p := ⟨r, 1, none⟩) (unhide HrY)).trans e1; have q2 := (hbY.cell (p := ⟨S, 1, none⟩) (unhide HsY)).trans e2; have q3 := (hbY.cell (p := ⟨S, 2, none⟩) (unhide HsY)).trans e3))
      all_goals
        go_wp2_with fail
        go_meet
        have hsw := hbY.size
        have hsw2 := hb2.size
        first
          | exact ⟨_, rfl, rfl, (ItAt.stored hbY (Nat.le_refl _) ⟨k0, k1, k2, k3, k4, k5, k6, k7, k8, j0, j1, j2, j3, j4, j5, j6, j7, j8⟩ m).1, (ItAt.stored hbY (Nat.le_refl _) ⟨k0, k1, k2, k3, k4, k5, k6, k7, k8, j0, j1, j2, j3, j4, j5, j6, j7, j8⟩ m).2, by simp [World.setCell] at *; omega⟩
          | exact ⟨_, rfl, rfl, (ItAt.laid hbY hsw m).1, (ItAt.laid hbY hsw m).2, by simp⟩
    case rest =>
      obtain ⟨N, rfl, rfl, hI, hbY, hN⟩ := hcut
      obtain ⟨wa, hwa⟩ : ∃ wa, wa = wc := ⟨_, rfl⟩
      subst hwa
      have hsY2 := hbY.size
      have hbc : Below w.heap.size w wa := hbx.trans (hbY.mono hsx)
      have hsc := hbc.size
      have g1 := (hbY.cell (p := ⟨r, 1, none⟩) (unhide HrY)).trans e1
      have g2 := (hbY.cell (p := ⟨S, 1, none⟩) (unhide HsY)).trans e2
      have hrc : r < wa.heap.size := by have := unhide HrY; omega
      have hsS : S < wa.heap.size := by have := unhide HsY; omega
      obtain ⟨_, _, _, _, _, _, _, i7, _⟩ := hI.zero'
      clear e1 e2 e3 hne1 hne2 hne3 hne4 hbx hsx HF1 hbY hsY2 hI
      cases f with
      | false =>
        have hnone : l.find? (keyIs ⟨4, z.target, z.host, n⟩) = none := by
          have := unhide Hfb
          cases h : l.find? (keyIs ⟨4, z.target, z.host, n⟩) with
          | none => rfl
          | some x => rw [h] at this; cases this
        have hRv : .tuple #[.pointer none, .bool false, .int .i64 14] = R := by rw [unhide HR]; unfold seeO; rw [unhide Hz]; simp only; rw [hnone]; rfl
        clear hnone
        go_wp2_with fail
        refine bodyPost_ret (v := .tuple #[.pointer none, .bool false, .int .i64 14]) (by simp [results, Tryz.results66, go_sem]) rfl ⟨congrArg Ending.returned hRv, hbc⟩
      | true =>
        obtain ⟨m', hsome⟩ : ∃ x, l.find? (keyIs ⟨4, z.target, z.host, n⟩) = some x := by
          have := unhide Hfb
          cases h : l.find? (keyIs ⟨4, z.target, z.host, n⟩) with
          | none => rw [h] at this; cases this
          | some x => exact ⟨x, rfl⟩
        have hmm : m = m' := by rw [unhide Hm, hsome]; rfl
        subst hmm
        have Hs1 := hide hsome
        clear hsome Hm Hfb
        obtain ⟨u, hu⟩ : ∃ u, u = (l.find? (keyIs ⟨2, z.target, ⟨#[]⟩, m.lun⟩)).getD noItem := ⟨_, rfl⟩
        obtain ⟨f, hfb⟩ : ∃ f, f = l.any (keyIs ⟨2, z.target, ⟨#[]⟩, m.lun⟩) := ⟨_, rfl⟩
        have HF2 := hide fun wx hb => unhide HF wx ⟨2, z.target, ⟨#[]⟩, m.lun⟩ hb
        unfold findV at HF2
        rw [← hu, ← hfb, hd] at HF2
        have Hu := hide hu
        have Hfb := hide (hfb.trans find_any_iff)
        have hne1 : ¬ r = wa.heap.size := by omega
        have hne2 : ¬ S = wa.heap.size := by omega
        have hne3 : ¬ wa.heap.size = r := by omega
        have hne4 : ¬ wa.heap.size = S := by omega
        have hne5 : ¬ N = wa.heap.size := by omega
        have hne6 : ¬ wa.heap.size = N := by omega
        have HrY2 := hide hrc
        have HsY2 := hide hsS
        have HN := hide hN
        clear hu hfb HF hd hrc hsS hN
        go_wp2_with fail
        go_cut [13, 12] from 40 to 52 (fun p fv wx => ∃ N2 : Nat, p = .pointer (some ⟨N2, 0, none⟩) ∧ fv = .bool f ∧ ItAt wx N2 0 u ∧ Below wa.heap.size wa wx ∧ N2 < wx.heap.size)
        case first =>
          go_region_held3 (fun w' => w'.cell? ⟨r, 1, none⟩ = some (.slice va l.length vcap) ∧ w'.cell? ⟨S, 1, none⟩ = some (.string z.target) ∧ w'.cell? ⟨N, 7, none⟩ = some (.int .i64 m.lun)) (go_keep)
            (first
              | (go_at_call 28; refine (unhide HF2 _ (hbc.drew.alloc hsc _)).mono ?_; rintro e w2 ⟨rfl, hb2⟩; have h9 := zitem_after hb2; obtain ⟨k0, k1, k2, k3, k4, k5, k6, k7, k8, j0, j1, j2, j3, j4, j5, j6, j7, j8⟩ := h9; have hbY : Below wa.heap.size wa w2 := ((Below.refl wa.heap.size wa).drew.alloc (Nat.le_refl _) _).trans (hb2.mono (by simp)); have q1 := (hbY.cell (p := ⟨r, 1, none⟩) (unhide HrY2)).trans g1; have q2 := (hbY.cell (p := ⟨S, 1, none⟩) (unhide HsY2)).trans g2; have q3 := (hbY.cell (p := ⟨N, 7, none⟩) (unhide HN)).trans i7)
              | (go_at_call 28; refine (unhide HF2 _ hbc.drew).mono ?_; rintro e w2 ⟨rfl, hb2⟩; have hbY : Below wa.heap.size wa w2 := (Below.refl wa.heap.size wa).drew.trans hb2; have q1 := (hbY.cell (p := ⟨r, 1, none⟩) (unhide HrY2)).trans g1; have q2 := (hbY.cell (p := ⟨S, 1, none⟩) (unhide HsY2)).trans g2; have q3 := (hbY.cell (p := ⟨N, 7, none⟩) (unhide HN)).trans i7))
          all_goals
            go_wp2_with fail
            go_meet
            have hsw := hbY.size
            have hsw2 := hb2.size
            first
              | exact ⟨_, rfl, rfl, (ItAt.stored hbY (Nat.le_refl _) ⟨k0, k1, k2, k3, k4, k5, k6, k7, k8, j0, j1, j2, j3, j4, j5, j6, j7, j8⟩ u).1, (ItAt.stored hbY (Nat.le_refl _) ⟨k0, k1, k2, k3, k4, k5, k6, k7, k8, j0, j1, j2, j3, j4, j5, j6, j7, j8⟩ u).2, by simp [World.setCell] at *; omega⟩
              | exact ⟨_, rfl, rfl, (ItAt.laid hbY hsw u).1, (ItAt.laid hbY hsw u).2, by simp⟩
        case rest =>
          obtain ⟨N2, rfl, rfl, hI, hbY, hN2⟩ := hcut
          obtain ⟨wd, hwd⟩ : ∃ wd, wd = wc := ⟨_, rfl⟩
          subst hwd
          have hbd : Below w.heap.size w wd := hbc.trans (hbY.mono hsc)
          obtain ⟨_, _, _, _, _, i5, i6, _, _⟩ := hI.zero'
          clear hne1 hne2 hne3 hne4 hne5 hne6 HF2 hbY hI g1 g2 i7 hbc
          cases f with
          | false =>
            have hnone : l.find? (keyIs ⟨2, z.target, ⟨#[]⟩, m.lun⟩) = none := by
              have := unhide Hfb
              cases h : l.find? (keyIs ⟨2, z.target, ⟨#[]⟩, m.lun⟩) with
              | none => rfl
              | some x => rw [h] at this; cases this
            have hRv : .tuple #[.pointer none, .bool false, .int .i64 14] = R := by rw [unhide HR]; unfold seeO; rw [unhide Hz]; simp only; rw [unhide Hs1]; simp only; rw [hnone]; rfl
            clear hnone
            go_wp2_with fail
            refine bodyPost_ret (v := .tuple #[.pointer none, .bool false, .int .i64 14]) (by simp [results, Tryz.results66, go_sem]) rfl ⟨congrArg Ending.returned hRv, hbd⟩
          | true =>
            obtain ⟨u', hsome⟩ : ∃ x, l.find? (keyIs ⟨2, z.target, ⟨#[]⟩, m.lun⟩) = some x := by
              have := unhide Hfb
              cases h : l.find? (keyIs ⟨2, z.target, ⟨#[]⟩, m.lun⟩) with
              | none => rw [h] at this; cases this
              | some x => exact ⟨x, rfl⟩
            have huu : u = u' := by rw [unhide Hu, hsome]; rfl
            subst huu
            have Hs2 := hide hsome
            clear hsome Hu Hfb
            have HB2 := hide fun wx hb => unhide HB wx u.disk hb
            rw [← fixB_d, hBD] at HB2
            clear HB
            go_wp2_with fail
            go_cut [14] from 55 to 60 (fun p wx => p = ptrV B (fixD H.disks u.disk) ∧ Below wd.heap.size wd wx)
            case first =>
              go_region_with (go_at_call 106; refine (unhide HB2 _ hbd.drew).mono ?_; rintro e w2 ⟨rfl, rfl⟩)
              all_goals
                go_wp2_with fail
                go_meet
                exact ⟨rfl, (Below.refl _ _).drew⟩
            case rest =>
              obtain ⟨rfl, hbe⟩ := hcut
              obtain ⟨we, hwe⟩ : ∃ we, we = wc := ⟨_, rfl⟩
              subst hwe
              have hbz : Below w.heap.size w we := hbd.trans (hbe.mono hbd.size)
              have i6' := (hbe.cell (p := ⟨N2, 6, none⟩) hN2).trans i6
              clear HB2 hbe i5 i6
              cases hfx : fixD H.disks u.disk with
              | none =>
                simp only [ptrV]
                have hRv : .tuple #[.pointer none, .bool false, .int .i64 14] = R := by rw [unhide HR]; unfold seeO; rw [unhide Hz]; simp only; rw [unhide Hs1]; simp only; rw [unhide Hs2]; simp only; rw [hfx]; rfl
                go_wp2_with fail
                refine bodyPost_ret (v := .tuple #[.pointer none, .bool false, .int .i64 14]) (by simp [results, Tryz.results66, go_sem]) rfl ⟨congrArg Ending.returned hRv, hbz⟩
              | some i =>
                have hib : i < B.length := by
                  have := List.findIdx?_eq_some_iff_getElem.1 hfx
                  obtain ⟨hi, _⟩ := this
                  rw [← hBD, List.length_map] at hi
                  exact hi
                have hpv : ptrV B (some i) = .pointer (some ⟨B[i].p, 0, none⟩) := by simp [ptrV, hib, Bk.ptr]
                have hsv : seeV B (0, some (i, u.only)) = .tuple #[.pointer (some ⟨B[i].p, 0, none⟩), .bool u.only, .int .i64 0] := by simp only [seeV, hpv]
                have hRv : .tuple #[.pointer (some ⟨B[i].p, 0, none⟩), .bool u.only, .int .i64 0] = R := by rw [← hsv, unhide HR]; unfold seeO; rw [unhide Hz]; simp only; rw [unhide Hs1]; simp only; rw [unhide Hs2]; simp only; rw [hfx]
                rw [hpv]
                generalize B[i].p = p at *
                clear hfx hpv hsv
                go_wp2_with fail
                go_quiet (fail)
                go_wp2_with fail
                refine bodyPost_ret (v := .tuple #[.pointer (some ⟨p, 0, none⟩), .bool u.only, .int .i64 0]) (by simp [results, Tryz.results66, go_sem]) rfl ⟨congrArg Ending.returned hRv, below_drewN hbz _⟩

end Go.Proofs.YtdlhgbhaeedbdabGreat
