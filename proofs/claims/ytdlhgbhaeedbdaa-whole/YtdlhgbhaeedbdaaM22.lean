/- Rk8, PureD, Texts, Ws1. -/
import Derived.Test.YtdlhgbhaeedbdaaM21
import Derived.Test.YtdlhgbhaeedbdaaM17
import Derived.Test.YtdlhgbhaeedbdaaM19
import Derived.Test.YtdlhgbhaeedbdaaM18

/- The rack's calls, with what is known of its hosts. -/
namespace Go.Proofs.Ytdlhgbhaeedbdaa
open Go.RowKit

/-- A rack that runs, with hosts of whom M tells. -/
def RackAt (Mj : HJ) (w : World) (r b : Nat) (l : List Item) (did left : List (Bool × Item)) : Prop :=
  ∃ H, RackF w r b l did left H ∧ DOK l H.disks ∧ Mj.J H ∧ ∀ p ∈ did ++ left, QQ Mj p

theorem RackAt.keep {Mj : HJ} {T : TypeId → Prop} {w w' : World} {r b : Nat} {l : List Item} {did left : List (Bool × Item)} (h : RackAt Mj w r b l did left) (hk : TK T w w') (h1 : ¬ T 135) (h2 : ¬ T 99) (h3 : ¬ T 101) (h4 : NH T) : RackAt Mj w' r b l did left := by
  obtain ⟨H, hR, h⟩ := h
  exact ⟨H, hR.keep hk h1 h2 h3 h4, h⟩

theorem RackAt.later {Mj : HJ} {w w' : World} {r b : Nat} {l : List Item} {did left : List (Bool × Item)} (h : RackAt Mj w r b l did left) (hk : Below w.heap.size w w') : RackAt Mj w' r b l did left :=
  h.keep (T := fun _ => False) (TK.of_below hk) id id id nh_false

theorem RackAt.lt {Mj : HJ} {w : World} {r b : Nat} {l : List Item} {did left : List (Bool × Item)} (h : RackAt Mj w r b l did left) : r < w.heap.size := by
  obtain ⟨H, hR, _⟩ := h
  exact hR.lt

theorem RackAt.br {Mj : HJ} {w : World} {r b : Nat} {l : List Item} {did left : List (Bool × Item)} (h : RackAt Mj w r b l did left) : b < r := by
  obtain ⟨H, hR, _⟩ := h
  exact hR.br

theorem config_any {Mj : HJ} (r b : Nat) (l : List Item) (did left : List (Bool × Item)) (w : World) (hl : Fits l) (h : RackAt Mj w r b l did left) :
    Calls Try.prog 59 #[.pointer (some ⟨r, 0, none⟩)] w fun e w' => e = .returned (.tuple #[.string (prI l), .int .i64 0]) ∧ Below w.heap.size w w' := by
  obtain ⟨H, hR, _⟩ := h
  exact fconfig_any r b l did left H w hl hR

/-- What Open leaves: no rack, and the power has gone; or a rack. -/
def OpenEnd (b : Nat) (S E : Nat → UInt8) (U : List Lg) (l : Int) (d : Bool) (w : World) (e : Ending) (w' : World) : Prop :=
  ∃ l' d', ApiAt w' b S E U l' d' ∧ l' ≤ 9223372036854775807 ∧ Below b w w' ∧ TK KT w w' ∧ (l < 0 → l' = l ∧ d' = d) ∧
      ((d' = true ∧ e = .returned (.tuple #[.pointer none, .int .i64 7])) ∨ (d' = false ∧ d = false ∧ ∃ r, w.heap.size ≤ r ∧ e = .returned (.tuple #[.pointer (some ⟨r, 0, none⟩), .int .i64 0]) ∧ RackAt hj0 w' r b (itemsOf (held E)) [] []))

theorem open_any (b : Nat) (S E : Nat → UInt8) (U : List Lg) (l : Int) (d : Bool) (w : World) (hl : l ≤ 9223372036854775807) (hE : (chk (held E)).1 = 0) (h : ApiAt w b S E U l d) :
    Calls Try.prog 58 #[.pointer (some ⟨b, 0, none⟩)] w fun e w' => OpenEnd b S E U l d w e w' := by
  refine (fopen_any b S E U l d w hl hE h).mono ?_
  rintro e w' ⟨l', d', h1, h2, h3, h4, h5, h6⟩
  refine ⟨l', d', h1, h2, h3, h4, h5, ?_⟩
  rcases h6 with h6 | ⟨h6, h7, r, h8, h9, hR⟩
  · exact .inl h6
  · exact .inr ⟨h6, h7, r, h8, h9, _, hR, DOK.new _, hj0_new _, by simp⟩

theorem start_busy {Mj : HJ} (r b : Nat) (s : ByteArray) (l : List Item) (did left : List (Bool × Item)) (w : World) (hb : 0 < left.length) (h : RackAt Mj w r b l did left) :
    Calls Try.prog 71 #[.pointer (some ⟨r, 0, none⟩), .string s] w fun e w' => e = .returned (.int .i64 8) ∧ w' = w := by
  obtain ⟨H, hR, _⟩ := h
  exact fstart_busy r b s l did left H w hb hR

theorem start_bad {Mj : HJ} (r b : Nat) (s : ByteArray) (l : List Item) (w : World) (hs : s.size ≤ maxLen) (h0 : (chk s).1 ≠ 0) (h : RackAt Mj w r b l [] []) :
    Calls Try.prog 71 #[.pointer (some ⟨r, 0, none⟩), .string s] w fun e w' => e = .returned (.int .i64 ((chk s).1 : Nat)) ∧ Below w.heap.size w w' := by
  obtain ⟨H, hR, _⟩ := h
  exact fstart_bad r b s l H w hs h0 hR

/-- What Start leaves. -/
def StartEnd (Mj : HJ) (r b : Nat) (l : List Item) (P : List (Bool × Item)) (w : World) (e : Ending) (w' : World) : Prop :=
  e = .returned (.int .i64 0) ∧ RackAt Mj w' r b l [] P ∧ TK K1 w w' ∧ Below b w w'

theorem start_ok {Mj : HJ} (r b : Nat) (s : ByteArray) (l : List Item) (w : World) (hs : s.size ≤ maxLen) (hl : l.length ≤ 24) (h0 : (chk s).1 = 0) (hq : ∀ p ∈ mk l (itemsOf s), QQ Mj p) (h : RackAt Mj w r b l [] []) :
    Calls Try.prog 71 #[.pointer (some ⟨r, 0, none⟩), .string s] w fun e w' => StartEnd Mj r b l (mk l (itemsOf s)) w e w' := by
  obtain ⟨H, hR, hD, hJ, _⟩ := h
  refine (fstart_ok r b s l H w hs hl h0 hR).mono ?_
  rintro e w' ⟨h1, h2, h3, h4⟩
  exact ⟨h1, ⟨H, h2, hD, hJ, by simpa using hq⟩, h3, h4⟩

theorem step_idle {Mj : HJ} (r b : Nat) (f : Bool) (l : List Item) (did : List (Bool × Item)) (w : World) (h : RackAt Mj w r b l did []) :
    Calls Try.prog 73 #[.pointer (some ⟨r, 0, none⟩), .bool f] w fun e w' => e = .returned (.tuple #[.int .i64 0, .int .i64 9]) ∧ w' = w := by
  obtain ⟨H, hR, _⟩ := h
  exact fstep_idle r b f l did H w hR

theorem stop_idle {Mj : HJ} (r b : Nat) (l : List Item) (did : List (Bool × Item)) (w : World) (h : RackAt Mj w r b l did []) :
    Calls Try.prog 74 #[.pointer (some ⟨r, 0, none⟩)] w fun e w' => e = .returned (.int .i64 9) ∧ w' = w := by
  obtain ⟨H, hR, _⟩ := h
  exact fstop_idle r b l did H w hR

/-- What a plan that is undone leaves. -/
def BackEnd (Mj : HJ) (r b : Nat) (l : List Item) (did : List (Bool × Item)) (w : World) (w' : World) : Prop :=
  RackAt Mj w' r b (undoTo l did 0) [] [] ∧ TK K1 w w' ∧ Below b w w'

theorem mild_of {Mj : HJ} {l : List Item} {H : Hs} {p : Bool × Item} (hs : StepOK l p) (hD : DOK l H.disks) (hJ : Mj.J H) (hq : Mj.Q p) : Mild H p :=
  ⟨Mj.few H hJ, Nat.le_trans hD.len hs.arr.fits.1, good_size hs.good, Mj.quiet H p hJ hq⟩

/-- The hosts while a plan is undone. -/
theorem undo_hosts {Mj : HJ} {l : List Item} {did : List (Bool × Item)} {H : Hs} (hb : ∀ k (hk : k < did.length), StepOK (undoTo l did (k + 1)) (!did[k].1, did[k].2)) (hD : DOK l H.disks) (hJ : Mj.J H) (hq : ∀ p ∈ did, QQ Mj p) :
    ∀ n k, k + n = did.length → DOK (undoTo l did k) (undoH H did k).disks ∧ Mj.J (undoH H did k) := by
  intro n
  induction n with
  | zero =>
    intro k hk
    have : k = did.length := by omega
    subst this
    rw [undoTo_all, undoH_all]
    exact ⟨hD, hJ⟩
  | succ n ih =>
    intro k hk
    have hkl : k < did.length := by omega
    obtain ⟨h1, h2⟩ := ih (k + 1) (by omega)
    rw [undoTo_step l did k hkl, undoH_step H did k hkl]
    exact ⟨h1.step (hb k hkl), Mj.next _ _ h2 (hq _ (List.getElem_mem hkl)).2⟩

theorem undo_mild {Mj : HJ} {l : List Item} {did : List (Bool × Item)} {H : Hs} (hb : ∀ k (hk : k < did.length), StepOK (undoTo l did (k + 1)) (!did[k].1, did[k].2)) (hD : DOK l H.disks) (hJ : Mj.J H) (hq : ∀ p ∈ did, QQ Mj p) :
    ∀ k (hk : k < did.length), Mild (undoH H did (k + 1)) (!did[k].1, did[k].2) := by
  intro k hk
  obtain ⟨h1, h2⟩ := undo_hosts hb hD hJ hq (did.length - (k + 1)) (k + 1) (by omega)
  exact mild_of (hb k hk) h1 h2 (hq _ (List.getElem_mem hk)).2

theorem step_fail {Mj : HJ} (r b : Nat) (l : List Item) (did left : List (Bool × Item)) (w : World) (hn : 0 < left.length) (hd : did.length ≤ 48) (hl : ∀ k, (undoTo l did k).length ≤ 24) (hb : ∀ k (hk : k < did.length), StepOK (undoTo l did (k + 1)) (!did[k].1, did[k].2)) (h : RackAt Mj w r b l did left) :
    Calls Try.prog 73 #[.pointer (some ⟨r, 0, none⟩), .bool true] w fun e w' => e = .returned (.tuple #[.int .i64 0, .int .i64 5]) ∧ BackEnd Mj r b l did w w' := by
  obtain ⟨H, hR, hD, hJ, hq⟩ := h
  have hq' : ∀ p ∈ did, QQ Mj p := fun p hp => hq p (by simp [hp])
  refine (fstep_fail r b l did left H w hn hd hl (undo_mild hb hD hJ hq') hR).mono ?_
  rintro e w' ⟨h1, h2, h3, h4⟩
  obtain ⟨g1, g2⟩ := undo_hosts hb hD hJ hq' did.length 0 (by omega)
  exact ⟨h1, ⟨_, h2, g1, g2, by simp⟩, h3, h4⟩

theorem stop_busy {Mj : HJ} (r b : Nat) (l : List Item) (did left : List (Bool × Item)) (w : World) (hn : 0 < left.length) (hd : did.length ≤ 48) (hl : ∀ k, (undoTo l did k).length ≤ 24) (hb : ∀ k (hk : k < did.length), StepOK (undoTo l did (k + 1)) (!did[k].1, did[k].2)) (h : RackAt Mj w r b l did left) :
    Calls Try.prog 74 #[.pointer (some ⟨r, 0, none⟩)] w fun e w' => e = .returned (.int .i64 0) ∧ BackEnd Mj r b l did w w' := by
  obtain ⟨H, hR, hD, hJ, hq⟩ := h
  have hq' : ∀ p ∈ did, QQ Mj p := fun p hp => hq p (by simp [hp])
  refine (fstop_busy r b l did left H w hn hd hl (undo_mild hb hD hJ hq') hR).mono ?_
  rintro e w' ⟨h1, h2, h3, h4⟩
  obtain ⟨g1, g2⟩ := undo_hosts hb hD hJ hq' did.length 0 (by omega)
  exact ⟨h1, ⟨_, h2, g1, g2, by simp⟩, h3, h4⟩

/-- What finish leaves: the arrangement lasts, and no plan is under way; or the power has gone. -/
def FinEnd (Mj : HJ) (r b : Nat) (S : Nat → UInt8) (l : List Item) (lf : Int) (w : World) (w' : World) (c : Nat) : Prop :=
  ∃ S' E' U' l' d', ApiAt w' b S' E' U' l' d' ∧ l' ≤ 9223372036854775807 ∧ Below b w w' ∧ TK KT w w' ∧ (lf < 0 → l' = lf ∧ d' = false) ∧ U'.length ≤ 13 ∧ (∀ x ∈ U', x.sec < 64 ∧ x.data.size = 32) ∧
    ((d' = true ∧ c = 7 ∧ DeadAt w' r ∧ ∀ keep, held (updB keep S' U' U'.length) = held S ∨ held (updB keep S' U' U'.length) = prI l) ∨
     (d' = false ∧ c = 0 ∧ RackAt Mj w' r b l [] [] ∧ U' = [] ∧ E' = S' ∧ held S' = prI l))

/-- What Step leaves. -/
def StepEnd (Mj : HJ) (r b : Nat) (S : Nat → UInt8) (l : List Item) (did : List (Bool × Item)) (p : Bool × Item) (rest : List (Bool × Item)) (lf : Int) (w : World) (e : Ending) (w' : World) : Prop :=
  (0 < rest.length ∧ e = .returned (.tuple #[.int .i64 rest.length, .int .i64 0]) ∧ RackAt Mj w' r b (doI p.1 l p.2) (did ++ [p]) rest ∧ TK KT0 w w' ∧ Below b w w') ∨
  (rest = [] ∧ ∃ c : Nat, e = .returned (.tuple #[.int .i64 0, .int .i64 c]) ∧ FinEnd Mj r b S (doI p.1 l p.2) lf w w' c)

theorem step_ok {Mj : HJ} (r b : Nat) (S : Nat → UInt8) (l : List Item) (did : List (Bool × Item)) (p : Bool × Item) (rest : List (Bool × Item)) (lf : Int) (w : World) (hd : did.length + 1 + rest.length ≤ 48) (hl : l.length ≤ 24) (hl2 : Fits (doI p.1 l p.2)) (ht : (prI (doI p.1 l p.2)).size ≤ 400) (hz : ∀ c ∈ (prI (doI p.1 l p.2)).data.toList, c ≠ 0)
    (hlf : lf ≤ 9223372036854775807) (hs : StepOK l p) (h : RackAt Mj w r b l did (p :: rest)) (ha : ApiAt w b S S [] lf false) :
    Calls Try.prog 73 #[.pointer (some ⟨r, 0, none⟩), .bool false] w fun e w' => StepEnd Mj r b S l did p rest lf w e w' := by
  obtain ⟨H, hR, hD, hJ, hq⟩ := h
  have hqp := hq p (by simp)
  have hD2 := hD.step hs
  have hJ2 := Mj.next H p hJ hqp.1
  refine (fstep_ok r b S l did p rest H lf w hd hl hl2 ht hz hlf (mild_of hs hD hJ hqp.1) hR ha).mono ?_
  rintro e w' (⟨h1, h2, h3, h4, h5⟩ | ⟨h1, c, h2, S', E', U', l', d', a1, a2, a3, a4, a5, a6, a7, a8⟩)
  · exact .inl ⟨h1, h2, ⟨_, h3, hD2, hJ2, by simpa using hq⟩, h4, h5⟩
  · refine .inr ⟨h1, c, h2, S', E', U', l', d', a1, a2, a3, a4, a5, a6, a7, ?_⟩
    rcases a8 with a8 | ⟨b1, b2, b3, b4⟩
    · exact .inl a8
    · exact .inr ⟨b1, b2, ⟨_, b3, hD2, hJ2, by simp⟩, b4⟩

end Go.Proofs.Ytdlhgbhaeedbdaa

/- Texts that Print tells: plain mathematics. -/
namespace Go.Proofs.Ytdlhgbhaeedbdaa
open Go.RowKit

/-- A text that Print tells of itself. -/
def Canon (s : ByteArray) : Prop := (chk s).1 = 0 ∧ prI (itemsOf s) = s

theorem prI_perm {l m : List Item} (h : ArrI l) (hp : l.Perm m) : prI l = prI m := by
  unfold prI
  rw [sortTo_all, sortTo_all, sorted_of_perm hp h.dist]

theorem Canon.arr {s : ByteArray} (h : Canon s) : ArrI (itemsOf s) := arrI_of_chk h.1

theorem prt_prI {s : ByteArray} (h : (chk s).1 = 0) : prt s = prI (itemsOf s) := by
  unfold prt prI
  rw [if_pos h]

theorem letter_ne {c : UInt8} (h : letter c) : c ≠ 0 := by
  unfold letter at h
  rintro rfl
  revert h
  decide

theorem dg_ne {n : Nat} (h : n ≤ 9) : dg n ≠ 0 := by
  have : ∀ n, n ≤ 9 → dg n ≠ 0 := by decide
  exact this n h
theorem md_ne (m : Nat) : md m ≠ 0 := by unfold md; split <;> decide

theorem text_nz {x : It} (hx : x.ok) : ∀ c ∈ x.text, c ≠ 0 := by
  obtain ⟨ha, hk⟩ := hx
  have hA : ∀ c ∈ x.a, c ≠ 0 := fun c hc => letter_ne (ha.2.2 c hc)
  intro c hc
  unfold It.text at hc
  rcases List.mem_append.1 hc with hc | hc
  · unfold It.body at hc
    rcases hk with ⟨e, hb, h1, h2, h3⟩ | ⟨e, hb, h1, h2⟩ | ⟨e, hb, h1, h2⟩ | ⟨e, hb, h1, h2⟩ | ⟨e, hb, h1, h2⟩
    · simp only [e, if_true, List.mem_append, List.mem_cons, List.not_mem_nil, or_false] at hc
      have := dg_ne h2
      rcases hc with (rfl | rfl | rfl | rfl | rfl) | hc | rfl | rfl <;> first | decide | exact hA _ hc | assumption
    · simp [e] at hc
      rcases hc with rfl | rfl | rfl | rfl | rfl | rfl | rfl | hc <;> first | decide | exact hA _ hc
    · have hB : ∀ c ∈ x.b, c ≠ 0 := fun c hc => letter_ne (hb.2.2 c hc)
      have h4 := dg_ne (n := x.n) (by omega)
      have h5 := md_ne x.m
      simp [e] at hc
      rcases hc with rfl | rfl | rfl | rfl | hc | rfl | rfl | rfl | hc | rfl | rfl | rfl <;> first | decide | exact hA _ hc | exact hB _ hc | assumption
    · have hB : ∀ c ∈ x.b, c ≠ 0 := fun c hc => letter_ne (hb.2.2 c hc)
      simp [e] at hc
      rcases hc with rfl | rfl | rfl | rfl | rfl | hc | rfl | hc <;> first | decide | exact hA _ hc | exact hB _ hc
    · have hB : ∀ c ∈ x.b, c ≠ 0 := fun c hc => letter_ne (hb.2.2 c hc)
      have h4 := dg_ne (n := x.n) (by omega)
      have h5 := dg_ne (n := x.m) (by omega)
      simp [e] at hc
      rcases hc with rfl | rfl | rfl | rfl | hc | rfl | hc | rfl | rfl | rfl | rfl <;> first | decide | exact hA _ hc | exact hB _ hc | assumption
  · simp at hc
    subst hc
    decide

theorem prI_txt {L : List It} (h : Arr L) : prI (L.map It.item) = txt (sortI L) := by
  rw [← h.prt, prt_prI (by rw [h.chk.1]), h.chk.2]

theorem prI_canon {t : List Item} (h : ArrI t) : Canon (prI t) ∧ (itemsOf (prI t)).Perm t ∧ (prI t).size ≤ 400 ∧ ∀ c ∈ (prI t).data.toList, c ≠ 0 := by
  obtain ⟨L, hL, rfl⟩ := h.arr
  have hM := arr_sortI hL
  rw [prI_txt hL]
  obtain ⟨h1, h2⟩ := hM.chk
  refine ⟨⟨by rw [h1], ?_⟩, ?_, ?_, ?_⟩
  · rw [h2, prI_txt hM]
    exact sortI_of_perm hM (sortI_perm L)
  · rw [h2]
    exact (sortI_perm L).map _
  · rw [txt_size]; exact hM.short
  · intro c hc
    simp only [txt, List.toList_toArray] at hc
    obtain ⟨x, hx, hcx⟩ := List.mem_flatMap.1 hc
    exact text_nz (hM.ok x hx) c hcx

theorem canon_nil : Canon ⟨#[]⟩ := by
  have hA : ArrI ([] : List Item) := ⟨by simp, ⟨by simp, by simp [sizeI]⟩, by unfold Dist; exact List.Pairwise.nil, by unfold Refs; simp⟩
  have : prI [] = ⟨#[]⟩ := rfl
  rw [← this]
  exact (prI_canon hA).1

theorem pl_canon {s t : ByteArray} (hs : (chk s).1 = 0) (ht : (chk t).1 = 0) : pl s t = stTxts (mk (itemsOf s) (itemsOf t)) := by
  have : plErr s t = 0 := by unfold plErr; rw [if_pos hs]; exact ht
  unfold pl
  rw [if_pos this]

theorem stTxts_len (l : List (Bool × Item)) : (stTxts l).length = l.length := by simp [stTxts]

end Go.Proofs.Ytdlhgbhaeedbdaa

/- The small functions on texts and lists of texts: 'begins', 'rank', 'in', 'joined', 'pick', 'ordered'. -/
namespace Go.Proofs.Ytdlhgbhaeedbdaa
open Go.RowKit

/-- The texts l lie in block g from offset o on. -/
def StrsIn (w : World) (g o : Nat) (l : List ByteArray) : Prop := g < w.heap.size ∧ ∀ i (h : i < l.length), w.cell? ⟨g, o + i, none⟩ = some (.string l[i])

theorem StrsIn.below {B : Nat} {w w' : World} {g o : Nat} {l : List ByteArray} (h : StrsIn w g o l) (hb : Below B w w') (hg : g < B) : StrsIn w' g o l :=
  ⟨Nat.lt_of_lt_of_le h.1 hb.size, fun i hi => (hb.cell (p := ⟨g, o + i, none⟩) hg).trans (h.2 i hi)⟩

theorem StrsIn.later {w w' : World} {g o : Nat} {l : List ByteArray} (h : StrsIn w g o l) (hb : Below w.heap.size w w') : StrsIn w' g o l := h.below hb h.1

theorem StrsIn.drop {w : World} {g o : Nat} {l : List ByteArray} (h : StrsIn w g o l) (k : Nat) : StrsIn w g (o + k) (l.drop k) :=
  ⟨h.1, fun i hi => by
    have := h.2 (k + i) (by simp at hi; omega)
    rw [List.getElem_drop]
    rw [show o + k + i = o + (k + i) from by omega]
    exact this⟩

theorem StrsIn.take {w : World} {g o : Nat} {l : List ByteArray} (h : StrsIn w g o l) (k : Nat) : StrsIn w g o (l.take k) :=
  ⟨h.1, fun i hi => by
    have := h.2 i (by simp at hi; omega)
    rw [List.getElem_take]
    exact this⟩

/-- v is a list of the texts l. -/
def StrsAt (w : World) (v : Value) (l : List ByteArray) : Prop :=
  (v = .slice none 0 0 ∧ l = []) ∨ ∃ g cap, v = .slice (some ⟨g, 0, none⟩) l.length cap ∧ l.length ≤ cap ∧ StrsIn w g 0 l

theorem strs_of_owns {w : World} {base : Nat} {v : Value} {l : List ByteArray} (h : w.ownsRow base 9 1 v l.length (strVals l)) : StrsAt w v l := by
  have hh := h
  obtain ⟨_, ⟨rfl, h0⟩ | ⟨g, cap, cur, rfl, hb, hg, hc, _, _, _⟩⟩ := hh
  · exact Or.inl ⟨rfl, List.length_eq_zero_iff.1 h0⟩
  · refine Or.inr ⟨g, cap, rfl, hc, (h.lt g rfl).2, fun i hi => ?_⟩
    have := h.cells (g := g) rfl i (.string l[i]) (by simp [strVals, List.getElem?_eq_getElem hi])
    rw [addr_add] at this
    rw [Nat.zero_add]
    exact this

/-- Does s begin with t? -/
def begB (s t : ByteArray) : Bool := decide (t.size ≤ s.size) && ((s.extract 0 t.size).toList == t.toList)

set_option maxHeartbeats 400000 in
theorem begins_any (s t : ByteArray) (w : World) (_hs : s.size ≤ 1000000) (_ht : t.size ≤ 1000000) :
    Calls Try.prog 53 #[.string s, .string t] w fun e w' => e = .returned (.bool (begB s t)) ∧ w' = w := by
  by_cases h : t.size ≤ s.size
  · have h' : (t.size : Int) ≤ (s.size : Int) := by omega
    have hf : begB s t = ((s.extract 0 t.size).toList == t.toList) := by simp [begB, h]
    rw [hf]
    go_enter Try.func53, Try.ntmps53
    go_wp2
    go_ret
    exact ⟨rfl, rfl⟩
  · have h' : ¬ (t.size : Int) ≤ (s.size : Int) := by omega
    have hf : begB s t = false := by simp [begB, h]
    rw [hf]
    go_enter Try.func53, Try.ntmps53
    go_wp2
    go_ret
    exact ⟨rfl, rfl⟩

def rankB (p : ByteArray) : Nat :=
  if begB p ⟨#[100, 105, 115, 107, 32]⟩ then 0 else if begB p ⟨#[116, 97, 114, 103, 101, 116, 32]⟩ then 1 else if begB p ⟨#[108, 117, 110, 32]⟩ then 2 else if begB p ⟨#[104, 111, 115, 116, 32]⟩ then 3 else 4

set_option maxHeartbeats 400000 in
theorem rank_any (p : ByteArray) (w : World) (hp : p.size ≤ 1000000) :
    Calls Try.prog 49 #[.string p] w fun e w' => e = .returned (.int .i64 (rankB p : Nat)) ∧ w' = w := by
  have B : ∀ t : ByteArray, t.size ≤ 1000000 → Calls Try.prog 53 #[.string p, .string t] w fun e w' => e = .returned (.bool (begB p t)) ∧ w' = w := fun t ht => begins_any p t w hp ht
  have H0 := hide (B ⟨#[100, 105, 115, 107, 32]⟩ (by decide))
  have H1 := hide (B ⟨#[116, 97, 114, 103, 101, 116, 32]⟩ (by decide))
  have H2 := hide (B ⟨#[108, 117, 110, 32]⟩ (by decide))
  have H3 := hide (B ⟨#[104, 111, 115, 116, 32]⟩ (by decide))
  clear B
  unfold rankB
  generalize begB p ⟨#[100, 105, 115, 107, 32]⟩ = b0 at *
  generalize begB p ⟨#[116, 97, 114, 103, 101, 116, 32]⟩ = b1 at *
  generalize begB p ⟨#[108, 117, 110, 32]⟩ = b2 at *
  generalize begB p ⟨#[104, 111, 115, 116, 32]⟩ = b3 at *
  cases b0 with
  | true =>
    go_enter Try.func49, Try.ntmps49
    go_wp2_with fail
    refine (unhide H0).mono ?_
    rintro e w1 ⟨rfl, rfl⟩
    go_wp2_with fail
    go_ret
    exact ⟨rfl, rfl⟩
  | false =>
    cases b1 with
    | true =>
      go_enter Try.func49, Try.ntmps49
      go_wp2_with fail
      refine (unhide H0).mono ?_
      rintro e w1 ⟨rfl, rfl⟩
      go_wp2_with fail
      refine (unhide H1).mono ?_
      rintro e w1 ⟨rfl, rfl⟩
      go_wp2_with fail
      go_ret
      exact ⟨rfl, rfl⟩
    | false =>
      cases b2 with
      | true =>
        go_enter Try.func49, Try.ntmps49
        go_wp2_with fail
        refine (unhide H0).mono ?_
        rintro e w1 ⟨rfl, rfl⟩
        go_wp2_with fail
        refine (unhide H1).mono ?_
        rintro e w1 ⟨rfl, rfl⟩
        go_wp2_with fail
        refine (unhide H2).mono ?_
        rintro e w1 ⟨rfl, rfl⟩
        go_wp2_with fail
        go_ret
        exact ⟨rfl, rfl⟩
      | false =>
        cases b3 with
        | true =>
          go_enter Try.func49, Try.ntmps49
          go_wp2_with fail
          refine (unhide H0).mono ?_
          rintro e w1 ⟨rfl, rfl⟩
          go_wp2_with fail
          refine (unhide H1).mono ?_
          rintro e w1 ⟨rfl, rfl⟩
          go_wp2_with fail
          refine (unhide H2).mono ?_
          rintro e w1 ⟨rfl, rfl⟩
          go_wp2_with fail
          refine (unhide H3).mono ?_
          rintro e w1 ⟨rfl, rfl⟩
          go_wp2_with fail
          go_ret
          exact ⟨rfl, rfl⟩
        | false =>
          go_enter Try.func49, Try.ntmps49
          go_wp2_with fail
          refine (unhide H0).mono ?_
          rintro e w1 ⟨rfl, rfl⟩
          go_wp2_with fail
          refine (unhide H1).mono ?_
          rintro e w1 ⟨rfl, rfl⟩
          go_wp2_with fail
          refine (unhide H2).mono ?_
          rintro e w1 ⟨rfl, rfl⟩
          go_wp2_with fail
          refine (unhide H3).mono ?_
          rintro e w1 ⟨rfl, rfl⟩
          go_wp2_with fail
          go_ret
          exact ⟨rfl, rfl⟩

/-- Does the text stand in the list? -/
def inB (l : List ByteArray) (s : ByteArray) : Bool := l.any fun x => decide (x = s)
theorem inB_true {l : List ByteArray} {s : ByteArray} : inB l s = true ↔ s ∈ l := by
  simp [inB]
theorem inB_false {l : List ByteArray} {s : ByteArray} : inB l s = false ↔ s ∉ l := by
  rw [← inB_true]; simp

set_option maxHeartbeats 400000 in
theorem in_any (g cap : Nat) (l : List ByteArray) (s : ByteArray) (w : World) (hl : l.length ≤ 1000000) (hit : StrsIn w g 0 l) :
    Calls Try.prog 27 #[.slice (some ⟨g, 0, none⟩) l.length cap, .string s] w fun e w' => e = .returned (.bool (inB l s)) ∧ w' = w := by
  go_enter Try.func27, Try.ntmps27
  go_wp2
  go_loop [5] (fun i => ∃ k : Nat, k ≤ l.length ∧ i = .int .i64 k ∧ s ∉ l.take k) (fun i => l.length - (intOf i).toNat)
  case atStart => exact ⟨0, Nat.zero_le _, rfl, by simp⟩
  case round =>
    obtain ⟨k, hk, rfl, hno⟩ := hrel
    have Hno := hide hno
    clear hno
    by_cases hlt : k < l.length
    · have hc := hit.2 k hlt
      rw [Nat.zero_add] at hc
      obtain ⟨x, hx⟩ : ∃ x, x = l[k] := ⟨_, rfl⟩
      rw [← hx] at hc
      have Hx := hide hx
      clear hx
      have hlt' : (k : Int) < (l.length : Int) := by omega
      by_cases he : x = s
      · have hmem : s ∈ l := by rw [← he, unhide Hx]; exact List.getElem_mem hlt
        have hf : inB l s = true := inB_true.2 hmem
        have Hf := hide hf
        have he' : (x.toList == s.toList) = true := by rw [he]; simp
        clear hmem hf he
        go_wp2
        go_ret
        exact ⟨ret_bool (unhide Hf).symm, rfl⟩
      · have hno : s ∉ l.take (k + 1) := by
          rw [List.take_succ_eq_append_getElem hlt, List.mem_append]
          rintro (h | h)
          · exact unhide Hno h
          · simp at h; exact he (by rw [unhide Hx]; exact h.symm)
        have H2 := hide hno
        have he' : (x.toList == s.toList) = false := by
          rw [beq_eq_false_iff_ne]; exact fun h => he (tl_inj h)
        clear hno he
        go_wp2
        go_round
        case rel => exact ⟨k + 1, by omega, by go_num, unhide H2⟩
        case measure => simp [intOf]; omega
    · have hno := unhide Hno
      rw [List.take_of_length_le (by omega)] at hno
      have hf : inB l s = false := inB_false.2 hno
      have Hf := hide hf
      clear hno hf
      go_wp2
      go_ret
      exact ⟨ret_bool (unhide Hf).symm, rfl⟩

end Go.Proofs.Ytdlhgbhaeedbdaa

/- A site in memory (rackkeep.Site); what holds between its steps; 'config'. -/
namespace Go.Proofs.Ytdlhgbhaeedbdaa
open Go.RowKit

/-- A site in block x: its device in block b, its rack, the texts of which one lasts, the plan's, how many steps are left. -/
structure SiteAt (w : World) (x b : Nat) (rp : Option Addr) (A : List ByteArray) (G : ByteArray) (n : Nat) : Prop where
  ty : ∃ cs fr, w.heap[x]? = some (Obj.cells cs 71 fr)
  c0 : w.cell? ⟨x, 0, none⟩ = some (.pointer (some ⟨b, 0, none⟩))
  c1 : w.cell? ⟨x, 1, none⟩ = some (.pointer rp)
  c2 : ∃ v, w.cell? ⟨x, 2, none⟩ = some v ∧ w.ownsRow (b + 1) 9 1 v A.length (A.map Value.string)
  c3 : w.cell? ⟨x, 3, none⟩ = some (.string G)
  c4 : w.cell? ⟨x, 4, none⟩ = some (.int .i64 n)
  fz : ∀ o, w.frozen? ⟨x, o, none⟩ = false
  lt : x < w.heap.size
  bx : b < x

theorem SiteAt.keep {T : TypeId → Prop} {w w' : World} {x b : Nat} {rp : Option Addr} {A : List ByteArray} {G : ByteArray} {n : Nat} (h : SiteAt w x b rp A G n) (hk : TK T w w') (h1 : ¬ T 71) (h2 : ¬ T 9) : SiteAt w' x b rp A G n := by
  obtain ⟨⟨cs, fr, hty⟩, c0, c1, ⟨v, c2, hrow⟩, c3, c4, fz, lt, bx⟩ := h
  have hb := hk.block x cs _ fr hty h1
  have hc : ∀ o, w'.cell? ⟨x, o, none⟩ = w.cell? ⟨x, o, none⟩ := fun o => World.cell?_of_block hb
  have hf : ∀ o, w'.frozen? ⟨x, o, none⟩ = w.frozen? ⟨x, o, none⟩ := fun o => World.frozen?_of_block hb
  exact ⟨⟨cs, fr, hb.trans hty⟩, (hc _).trans c0, (hc _).trans c1, ⟨v, (hc _).trans c2, hk.row h2 hrow⟩, (hc _).trans c3, (hc _).trans c4, fun o => (hf o).trans (fz o), Nat.lt_of_lt_of_le lt hk.size, bx⟩

theorem SiteAt.later {w w' : World} {x b : Nat} {rp : Option Addr} {A : List ByteArray} {G : ByteArray} {n : Nat} (h : SiteAt w x b rp A G n) (hk : Below w.heap.size w w') : SiteAt w' x b rp A G n :=
  h.keep (T := fun _ => False) (TK.of_below hk) id id

/-- The site's own block. -/
def X1 (t : TypeId) : Prop := t = 71
theorem x1_str : ¬ X1 9 := by unfold X1; decide
theorem x1_dev : ¬ X1 77 := by unfold X1; decide
theorem x1_late : ¬ X1 89 := by unfold X1; decide
theorem x1_rack : ¬ X1 135 := by unfold X1; decide
theorem x1_item : ¬ X1 99 := by unfold X1; decide
theorem nh_x1 : NH X1 := ⟨by unfold X1; decide, by unfold X1; decide, by unfold X1; decide, by unfold X1; decide⟩
theorem x1_step : ¬ X1 101 := by unfold X1; decide
theorem kt_site : ¬ KT 71 := by unfold KT AT KB; decide
theorem kt_str : ¬ KT 9 := by unfold KT AT KB; decide
theorem k0_site : ¬ KT0 71 := by unfold KT0 KB; decide
theorem k0_str : ¬ KT0 9 := by unfold KT0 KB; decide
theorem k1_site : ¬ K1 71 := by unfold K1 KB; decide
theorem k1_str : ¬ K1 9 := by unfold K1 KB; decide
theorem k1_dev : ¬ K1 77 := by unfold K1 KB; decide
theorem k1_late : ¬ K1 89 := by unfold K1 KB; decide

theorem SiteAt.setTK {w : World} {x b : Nat} {rp : Option Addr} {A : List ByteArray} {G : ByteArray} {n : Nat} (h : SiteAt w x b rp A G n) (o : Nat) (u : Value) : TK X1 w (w.setCell ⟨x, o, none⟩ u) := by
  obtain ⟨cs, fr, hty⟩ := h.ty
  exact TK.setCell (T := X1) hty rfl u

theorem SiteAt.put1 {w : World} {x b : Nat} {rp : Option Addr} {A : List ByteArray} {G : ByteArray} {n : Nat} (h : SiteAt w x b rp A G n) (rp' : Option Addr) : SiteAt (w.setCell ⟨x, 1, none⟩ (.pointer rp')) x b rp' A G n := by
  have hk := h.setTK 1 (.pointer rp')
  obtain ⟨hty, c0, c1, ⟨v, c2, hrow⟩, c3, c4, fz, lt, bx⟩ := h
  exact ⟨ty_set hty _, cell_set_ne c0 (by omega), World.cell?_setCell_same _ _ _ c1, ⟨v, cell_set_ne c2 (by omega), hk.row x1_str hrow⟩, cell_set_ne c3 (by omega), cell_set_ne c4 (by omega), fun o => by simp [fz o], by simpa [World.setCell] using lt, bx⟩

theorem SiteAt.put2 {w : World} {x b : Nat} {rp : Option Addr} {A A' : List ByteArray} {G : ByteArray} {n : Nat} (h : SiteAt w x b rp A G n) {v : Value} (ho : w.ownsRow (b + 1) 9 1 v A'.length (A'.map Value.string)) : SiteAt (w.setCell ⟨x, 2, none⟩ v) x b rp A' G n := by
  have hk := h.setTK 2 v
  obtain ⟨hty, c0, c1, ⟨v', c2, hrow⟩, c3, c4, fz, lt, bx⟩ := h
  exact ⟨ty_set hty _, cell_set_ne c0 (by omega), cell_set_ne c1 (by omega), ⟨v, World.cell?_setCell_same _ _ _ c2, hk.row x1_str ho⟩, cell_set_ne c3 (by omega), cell_set_ne c4 (by omega), fun o => by simp [fz o], by simpa [World.setCell] using lt, bx⟩

theorem SiteAt.put3 {w : World} {x b : Nat} {rp : Option Addr} {A : List ByteArray} {G : ByteArray} {n : Nat} (h : SiteAt w x b rp A G n) (G' : ByteArray) : SiteAt (w.setCell ⟨x, 3, none⟩ (.string G')) x b rp A G' n := by
  have hk := h.setTK 3 (.string G')
  obtain ⟨hty, c0, c1, ⟨v, c2, hrow⟩, c3, c4, fz, lt, bx⟩ := h
  exact ⟨ty_set hty _, cell_set_ne c0 (by omega), cell_set_ne c1 (by omega), ⟨v, cell_set_ne c2 (by omega), hk.row x1_str hrow⟩, World.cell?_setCell_same _ _ _ c3, cell_set_ne c4 (by omega), fun o => by simp [fz o], by simpa [World.setCell] using lt, bx⟩

theorem SiteAt.put4 {w : World} {x b : Nat} {rp : Option Addr} {A : List ByteArray} {G : ByteArray} {n : Nat} (h : SiteAt w x b rp A G n) (n' : Nat) : SiteAt (w.setCell ⟨x, 4, none⟩ (.int .i64 n')) x b rp A G n' := by
  have hk := h.setTK 4 (.int .i64 n')
  obtain ⟨hty, c0, c1, ⟨v, c2, hrow⟩, c3, c4, fz, lt, bx⟩ := h
  exact ⟨ty_set hty _, cell_set_ne c0 (by omega), cell_set_ne c1 (by omega), ⟨v, cell_set_ne c2 (by omega), hk.row x1_str hrow⟩, cell_set_ne c3 (by omega), World.cell?_setCell_same _ _ _ c4, fun o => by simp [fz o], by simpa [World.setCell] using lt, bx⟩

theorem SiteAt.first {w : World} {x b : Nat} {rp : Option Addr} {A : List ByteArray} {G : ByteArray} {n : Nat} (h : SiteAt w x b rp A G n) (hA : A ≠ []) : ∃ g cap, w.cell? ⟨x, 2, none⟩ = some (.slice (some ⟨g, 0, none⟩) A.length cap) ∧ StrsIn w g 0 A := by
  obtain ⟨v, c2, hrow⟩ := h.c2
  obtain ⟨_, ⟨rfl, h0⟩ | ⟨g, cap, cur, rfl, hb, hg, hc, _⟩⟩ := id hrow
  · exact absurd (List.length_eq_zero_iff.1 h0) hA
  · refine ⟨g, cap, c2, (hrow.lt g rfl).2, fun i hi => ?_⟩
    have := hrow.cells (g := g) rfl i (.string A[i]) (by simp [hi])
    rw [addr_add] at this
    rw [Nat.zero_add]
    exact this

/-- The device: with power all is flushed, and one of the texts is held; without, whatever of the late writes lasts, one of them. -/
def DevAt (w : World) (b : Nat) (A : List ByteArray) (l : Int) (d : Bool) : Prop :=
  ∃ S E U, ApiAt w b S E U l d ∧ l ≤ 9223372036854775807 ∧ U.length ≤ 13 ∧ (∀ x ∈ U, x.sec < 64 ∧ x.data.size = 32) ∧ (d = false → U = [] ∧ E = S ∧ held S ∈ A) ∧ (d = true → ∀ keep, held (updB keep S U U.length) ∈ A)

theorem DevAt.keep {T : TypeId → Prop} {w w' : World} {b : Nat} {A : List ByteArray} {l : Int} {d : Bool} (h : DevAt w b A l d) (hk : TK T w w') (h1 : ¬ T 77) (h2 : ¬ T 89) : DevAt w' b A l d := by
  obtain ⟨S, E, U, ha, h⟩ := h
  exact ⟨S, E, U, ha.keep hk h1 h2, h⟩

theorem DevAt.c4 {w : World} {b : Nat} {A : List ByteArray} {l : Int} {d : Bool} (h : DevAt w b A l d) : w.cell? ⟨b, 4098, none⟩ = some (.bool d) := by
  obtain ⟨S, E, U, ha, _⟩ := h
  exact ha.c4

theorem DevAt.lt {w : World} {b : Nat} {A : List ByteArray} {l : Int} {d : Bool} (h : DevAt w b A l d) : b < w.heap.size := by
  obtain ⟨S, E, U, ha, _⟩ := h
  exact ha.lt

/-- A rack with power: T lasts; n steps are left of the plan to t. -/
def RackI (Mj : HJ) (w : World) (r b : Nat) (T : ByteArray) (t : List Item) (n : Nat) : Prop :=
  ∃ l did left, RackAt Mj w r b l did left ∧ n = left.length ∧ did.length + left.length ≤ 48 ∧
    ((left = [] ∧ did = [] ∧ l.Perm (itemsOf T)) ∨ (0 < left.length ∧ ∃ l0, l0.Perm (itemsOf T) ∧ Way l0 l t did left ∧ did ++ left = mk l0 t))

theorem RackI.keep {Mj : HJ} {T : TypeId → Prop} {w w' : World} {r b : Nat} {s : ByteArray} {t : List Item} {n : Nat} (h : RackI Mj w r b s t n) (hk : TK T w w') (h1 : ¬ T 135) (h2 : ¬ T 99) (h3 : ¬ T 101) (h4 : NH T) : RackI Mj w' r b s t n := by
  obtain ⟨l, did, left, hR, h⟩ := h
  exact ⟨l, did, left, hR.keep hk h1 h2 h3 h4, h⟩

/-- What holds of a site between its steps. -/
structure Inv (Mj : HJ) (w : World) (x b : Nat) (A : List ByteArray) (G : ByteArray) (n : Nat) (rp : Option Nat) (l : Int) (d : Bool) (t : List Item) : Prop where
  site : SiteAt w x b (rp.map fun r => ⟨r, 0, none⟩) A G n
  dev : DevAt w b A l d
  canon : ∀ s ∈ A, Canon s
  ne : A ≠ []
  rack : (rp = none ∧ n = 0) ∨ ∃ r, rp = some r ∧ ((d = true ∧ DeadAt w r) ∨ (d = false ∧ ∃ T, A = [T] ∧ RackI Mj w r b T t n))
  goal : d = false → 0 < n → G = prI t ∧ ArrI t

/-- What a step of the site may change. -/
def XT (t : TypeId) : Prop := KT t ∨ X1 t ∨ t = 9

set_option maxRecDepth 100000 in
set_option maxHeartbeats 400000 in
theorem sconfig_any {Mj : HJ} (x b r : Nat) (A : List ByteArray) (G s : ByteArray) (n : Nat) (l : List Item) (did left : List (Bool × Item)) (w : World) (hl : Fits l) (hx : SiteAt w x b (some ⟨r, 0, none⟩) A G n) (h : RackAt Mj w r b l did left) :
    Calls Try.prog 72 #[.pointer (some ⟨x, 0, none⟩), .string s] w fun e w' => e = .returned (.bool (decide (prI l = s))) ∧ Below w.heap.size w w' := by
  have c1 := hx.c1
  have HC := hide (config_any r b l did left w hl h)
  clear h hx
  by_cases hs : prI l = s
  · have hs' : ((prI l).toList == s.toList) = true := by rw [hs]; simp
    rw [decide_eq_true hs]
    clear hs
    generalize prI l = T at *
    go_enter Try.func72, Try.ntmps72
    go_wp2_with fail
    refine (unhide HC).mono ?_
    rintro e w1 ⟨rfl, hb1⟩
    go_wp2
    go_ret
    exact ⟨rfl, hb1⟩
  · have hs' : ((prI l).toList == s.toList) = false := by
      rw [beq_eq_false_iff_ne]; exact fun e => hs (tl_inj e)
    rw [decide_eq_false hs]
    clear hs
    generalize prI l = T at *
    go_enter Try.func72, Try.ntmps72
    go_wp2_with fail
    refine (unhide HC).mono ?_
    rintro e w1 ⟨rfl, hb1⟩
    go_wp2
    go_ret
    exact ⟨rfl, hb1⟩

end Go.Proofs.Ytdlhgbhaeedbdaa
