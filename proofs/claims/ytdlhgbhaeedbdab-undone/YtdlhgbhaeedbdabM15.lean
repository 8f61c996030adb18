/- PureC, Ho1, Ho2. -/
import Derived.Test.YtdlhgbhaeedbdabM14
import Derived.Test.YtdlhgbhaeedbdabM9

/- Steps done and undone on lists of items: plain mathematics. -/
namespace Go.Proofs.Ytdlhgbhaeedbdab
open Go.RowKit

/-- Steps, done one behind the other. -/
def doAll (l : List Item) (S : List (Bool × Item)) : List Item := S.foldl (fun l p => doI p.1 l p.2) l

theorem doAll_snoc (l : List Item) (S : List (Bool × Item)) (p : Bool × Item) : doAll l (S ++ [p]) = doI p.1 (doAll l S) p.2 := by simp [doAll]

theorem wlk_doAll {S : List (Bool × Item)} (hS : ∀ p ∈ S, Good p.2) {l m : List Item} (hw : wlk l (stTxts S) = some m) : doAll l S = m := by
  induction S generalizing l with
  | nil => simpa [wlk, stTxts, doAll] using hw
  | cons p S ih =>
    simp only [stTxts, List.map_cons, wlk] at hw
    rw [step1_txt (hS p (by simp))] at hw
    cases hd : doB p.1 l p.2 with
    | false => rw [hd] at hw; simp at hw
    | true =>
      rw [hd] at hw
      exact ih (fun q hq => hS q (by simp [hq])) hw

theorem wlk_cut {S R : List (Bool × Item)} {l m : List Item} (hw : wlk l (stTxts (S ++ R)) = some m) : ∃ c, wlk l (stTxts S) = some c ∧ wlk c (stTxts R) = some m := by
  rw [stTxts_append, wlk_append] at hw
  cases h : wlk l (stTxts S) with
  | none => rw [h] at hw; simp at hw
  | some c => rw [h] at hw; exact ⟨c, rfl, hw⟩

theorem wlk_join {S R : List (Bool × Item)} {l c m : List Item} (h1 : wlk l (stTxts S) = some c) (h2 : wlk c (stTxts R) = some m) : wlk l (stTxts (S ++ R)) = some m := by
  rw [stTxts_append, wlk_append, h1]
  exact h2

/-- What is there when all but the first k of the steps have been undone. -/
def undoTo (l : List Item) (did : List (Bool × Item)) (k : Nat) : List Item := doAll l (flips (did.drop k).reverse)

theorem undoTo_all (l : List Item) (did : List (Bool × Item)) : undoTo l did did.length = l := by simp [undoTo, doAll, flips]

theorem undoTo_step (l : List Item) (did : List (Bool × Item)) (k : Nat) (hk : k < did.length) : undoTo l did k = doI (!did[k].1) (undoTo l did (k + 1)) did[k].2 := by
  unfold undoTo
  rw [List.drop_eq_getElem_cons hk, List.reverse_cons]
  have : flips ((did.drop (k + 1)).reverse ++ [did[k]]) = flips (did.drop (k + 1)).reverse ++ [(!did[k].1, did[k].2)] := by simp [flips]
  rw [this, doAll_snoc]

theorem flips_good {S : List (Bool × Item)} (hS : ∀ p ∈ S, Good p.2) : ∀ p ∈ flips S.reverse, Good p.2 := by
  intro p hp
  obtain ⟨q, hq, rfl⟩ := List.mem_map.1 hp
  exact hS q (List.mem_reverse.1 hq)

/-- Undone: back to what was there. -/
theorem undo_perm {l0 l : List Item} {did : List (Bool × Item)} (hA : ArrI l0) (hG : ∀ p ∈ did, Good p.2) (hw : wlk l0 (stTxts did) = some l) (k : Nat) :
    ∃ m, wlk l0 (stTxts (did.take k)) = some m ∧ (undoTo l did k).Perm m ∧ ArrI (undoTo l did k) := by
  have hw2 := hw
  rw [← List.take_append_drop k did] at hw2
  obtain ⟨m, h1, h2⟩ := wlk_cut hw2
  have hG1 : ∀ p ∈ did.take k, Good p.2 := fun p hp => hG p (List.mem_of_mem_take hp)
  have hG2 : ∀ p ∈ did.drop k, Good p.2 := fun p hp => hG p (List.mem_of_mem_drop hp)
  have hAm := wlk_arr hG1 hA h1
  obtain ⟨c, hc, hp⟩ := wlk_back hG2 hAm h2
  have e : undoTo l did k = c := wlk_doAll (flips_good hG2) hc
  exact ⟨m, h1, e ▸ hp, e ▸ hAm.perm hp.symm⟩

/-- A plan hangs on the items alone, not on their order. -/
theorem mk_perm {l m t : List Item} (hl : ArrI l) (hp : l.Perm m) : mk l t = mk m t := by
  have h1 : sortTo l l.length = sortTo m m.length := by rw [sortTo_all, sortTo_all, sorted_of_perm hp hl.dist]
  unfold mk
  rw [h1]

/-- A rack's plan under way: from l0 by the steps done to l, and on by those that are left to t. -/
structure Way (l0 l t : List Item) (did left : List (Bool × Item)) : Prop where
  arr0 : ArrI l0
  arrT : ArrI t
  good : ∀ p ∈ did ++ left, Good p.2
  done : wlk l0 (stTxts did) = some l
  rest : ∃ m, wlk l (stTxts left) = some m ∧ m.Perm t

theorem way_start {l0 t : List Item} (h0 : ArrI l0) (ht : ArrI t) : Way l0 l0 t [] (mk l0 t) := by
  obtain ⟨hg, hm⟩ := plan_walk h0 ht
  exact ⟨h0, ht, by simpa using hg, rfl, hm⟩

theorem Way.gDid {l0 l t : List Item} {did left : List (Bool × Item)} (h : Way l0 l t did left) : ∀ p ∈ did, Good p.2 := fun p hp => h.good p (by simp [hp])
theorem Way.arr {l0 l t : List Item} {did left : List (Bool × Item)} (h : Way l0 l t did left) : ArrI l := wlk_arr h.gDid h.arr0 h.done

theorem Way.step {l0 l t : List Item} {did left : List (Bool × Item)} {p : Bool × Item} (h : Way l0 l t did (p :: left)) : Way l0 (doI p.1 l p.2) t (did ++ [p]) left := by
  obtain ⟨a0, aT, hg, hd, m, hm, hp⟩ := h
  have hgp : Good p.2 := hg p (by simp)
  have hm2 := hm
  simp only [stTxts, List.map_cons, wlk] at hm2
  rw [step1_txt hgp] at hm2
  cases hdo : doB p.1 l p.2 with
  | false => rw [hdo] at hm2; simp at hm2
  | true =>
    rw [hdo] at hm2
    refine ⟨a0, aT, by simpa using hg, ?_, m, hm2, hp⟩
    refine wlk_join hd ?_
    simp only [stTxts, List.map_cons, List.map_nil, wlk]
    rw [step1_txt hgp, hdo]
    rfl

theorem Way.finish {l0 l t : List Item} {did : List (Bool × Item)} (h : Way l0 l t did []) : l.Perm t := by
  obtain ⟨_, _, _, _, m, hm, hp⟩ := h
  simp only [stTxts, List.map_nil, wlk, Option.some.injEq] at hm
  exact hm ▸ hp

theorem Way.undo {l0 l t : List Item} {did left : List (Bool × Item)} (h : Way l0 l t did left) : (undoTo l did 0).Perm l0 ∧ ∀ k, ArrI (undoTo l did k) := by
  refine ⟨?_, fun k => (undo_perm h.arr0 h.gDid h.done k).choose_spec.2.2⟩
  obtain ⟨m, h1, h2, _⟩ := undo_perm h.arr0 h.gDid h.done 0
  simp only [List.take_zero, stTxts, List.map_nil, wlk, Option.some.injEq] at h1
  exact h1 ▸ h2

end Go.Proofs.Ytdlhgbhaeedbdab

/- Hosts: sessions, drives, and what steps do to them: plain mathematics. -/
namespace Go.Proofs.Ytdlhgbhaeedbdab
open Go.RowKit

/-- A drive: its name, what stands in its blocks, which session has reserved it (-1: none). -/
structure Drv where
  name : ByteArray
  blocks : List Int
  holder : Int

/-- A session. -/
structure Ses where
  number : Int
  target : ByteArray
  host : ByteArray
  news : Bool

/-- What a rack holds of its hosts: the drives, the sessions, the next session's number. -/
structure Hs where
  disks : List Drv
  ses : List Ses
  next : Int

def addD (D : List Drv) (n : ByteArray) (k : Nat) : List Drv := D ++ [⟨n, List.replicate k 0, -1⟩]
def remD (D : List Drv) (n : ByteArray) : List Drv := D.filter fun d => decide (¬ d.name = n)
def freeD1 (s : Int) (d : Drv) : Drv := if d.holder = s then { d with holder := -1 } else d
def freeD (D : List Drv) (s : Int) : List Drv := D.map (freeD1 s)
/-- Is it a session of this target and this host? -/
def ofB (t h : ByteArray) (s : Ses) : Bool := decide (s.target = t ∧ s.host = h)
def endS (S : List Ses) (n : Int) : List Ses := S.filter fun s => decide (¬ s.number = n)
/-- What a step does to the drives. -/
def doD (D : List Drv) (p : Bool × Item) : List Drv :=
  if p.2.kind = 0 then (if p.1 then addD D p.2.name p.2.size.toNat else remD D p.2.name) else D
/-- What a step does to a rack's hosts where it means no session. -/
def doH (H : Hs) (p : Bool × Item) : Hs := { H with disks := doD H.disks p }

def dkB (x : Item) : Bool := decide (x.kind = 0)
/-- The disks of an arrangement, with their sizes. -/
def dskOf (l : List Item) : List (ByteArray × Nat) := (l.filter dkB).map fun x => (x.name, x.size.toNat)
/-- A drive for each disk. -/
def DOK (l : List Item) (D : List Drv) : Prop := (D.map fun d => (d.name, d.blocks.length)).Perm (dskOf l)
/-- The drives of a rack that is opened. -/
def newD (l : List Item) : List Drv := (l.filter dkB).map fun x => ⟨x.name, List.replicate x.size.toNat 0, -1⟩

theorem DOK.new (l : List Item) : DOK l (newD l) := by
  unfold DOK newD dskOf
  rw [List.map_map]
  have : ((fun d : Drv => (d.name, d.blocks.length)) ∘ fun x : Item => (⟨x.name, List.replicate x.size.toNat 0, -1⟩ : Drv)) = fun x => (x.name, x.size.toNat) := by
    funext x; simp
  rw [this]

theorem dskOf_perm {l m : List Item} (h : l.Perm m) : (dskOf l).Perm (dskOf m) := (h.filter _).map _
theorem DOK.perm {l m : List Item} {D : List Drv} (h : DOK l D) (hp : l.Perm m) : DOK m D := h.trans (dskOf_perm hp)
theorem DOK.len {l : List Item} {D : List Drv} (h : DOK l D) : D.length ≤ l.length := by
  have := h.length_eq
  simp only [List.length_map, dskOf] at this
  rw [this]
  exact List.length_filter_le _ _

/-- A step that can be done. -/
structure StepOK (l : List Item) (p : Bool × Item) : Prop where
  arr : ArrI l
  good : Good p.2
  can : doB p.1 l p.2 = true

theorem good_size {x : Item} (h : Good x) : 0 ≤ x.size ∧ x.size ≤ 9 := by
  obtain ⟨i, hi, rfl⟩ := h
  obtain ⟨_, h⟩ := hi
  by_cases hk : i.kind = 0
  · rcases h with ⟨_, _, _, h9, _⟩ | ⟨e, _⟩ | ⟨e, _⟩ | ⟨e, _⟩ | ⟨e, _⟩
    · simp [It.item, hk]; omega
    all_goals omega
  · simp [It.item, hk]

theorem good_disk {x : Item} (h : Good x) (hk : x.kind = 0) : x.host = ⟨#[]⟩ ∧ x.number = 0 := by
  obtain ⟨i, hi, rfl⟩ := h
  have hk' : i.kind = 0 := hk
  simp [It.item, hk']

theorem dskOf_append (l m : List Item) : dskOf (l ++ m) = dskOf l ++ dskOf m := by simp [dskOf]
theorem dskOf_cons (y : Item) (l : List Item) : dskOf (y :: l) = (if y.kind = 0 then [(y.name, y.size.toNat)] else []) ++ dskOf l := by
  by_cases h : y.kind = 0 <;> simp [dskOf, dkB, h]

/-- The drives follow the disks. -/
theorem DOK.step {l : List Item} {D : List Drv} {p : Bool × Item} (h : DOK l D) (hs : StepOK l p) : DOK (doI p.1 l p.2) (doD D p) := by
  obtain ⟨b, y⟩ := p
  obtain ⟨ha, hg, hd⟩ := hs
  simp only at hg hd ⊢
  unfold doD
  simp only
  cases b with
  | true =>
    rw [doI_add ha.good hg hd]
    unfold DOK
    rw [dskOf_append, dskOf_cons]
    by_cases hk : y.kind = 0
    · rw [if_pos hk, if_pos hk, if_pos rfl]
      unfold addD
      rw [List.map_append]
      refine h.append ?_
      simp [dskOf]
    · rw [if_neg hk, if_neg hk]
      rw [show dskOf [] = [] from rfl, List.append_nil, List.append_nil]
      exact h
  | false =>
    have hgo : y ∈ l := by
      have : goB l y = true := by simpa [doB] using hd
      exact ((goB_iff ha.good hg).1 this).1
    have hp := without_perm ha.good ha.dist hgo
    have hw : doI false l y = without l y := by simp [doI]
    rw [hw]
    by_cases hk : y.kind = 0
    · rw [if_pos hk, if_neg (by simp)]
      have h1 : (D.map fun d => (d.name, d.blocks.length)).Perm (dskOf (y :: without l y)) := h.trans (dskOf_perm hp)
      have h2 := h1.filter fun q => decide (¬ q.1 = y.name)
      rw [dskOf_cons, if_pos hk, List.filter_append] at h2
      have e1 : (D.map fun d => (d.name, d.blocks.length)).filter (fun q => decide (¬ q.1 = y.name)) = (remD D y.name).map fun d => (d.name, d.blocks.length) := by
        unfold remD
        rw [List.filter_map]
        rfl
      have e2 : (dskOf (without l y)).filter (fun q => decide (¬ q.1 = y.name)) = dskOf (without l y) := by
        rw [List.filter_eq_self]
        intro q hq
        obtain ⟨x, hx, rfl⟩ := List.mem_map.1 hq
        obtain ⟨hx1, hx2⟩ := List.mem_filter.1 hx
        have hxk : x.kind = 0 := by simpa [dkB] using hx2
        obtain ⟨hxl, hxy⟩ := (mem_without ha.good hg).1 hx1
        simp only [decide_eq_true_eq]
        intro hn
        have g1 := good_disk (ha.good x hxl) hxk
        have g2 := good_disk hg hk
        exact hxy (dist_eq ha.dist hxl hgo ⟨by rw [hxk, hk], hn, by rw [g1.1, g2.1], by rw [g1.2, g2.2]⟩)
      rw [e1, e2] at h2
      unfold DOK
      simpa using h2
    · rw [if_neg hk]
      have h1 : (D.map fun d => (d.name, d.blocks.length)).Perm (dskOf (y :: without l y)) := h.trans (dskOf_perm hp)
      rw [dskOf_cons, if_neg hk] at h1
      unfold DOK
      simpa using h1

theorem Way.ok {l0 l t : List Item} {did left : List (Bool × Item)} {p : Bool × Item} (h : Way l0 l t did (p :: left)) : StepOK l p := by
  have ha := h.arr
  obtain ⟨a0, aT, hg, hd, m, hm, hp⟩ := h
  have hgp : Good p.2 := hg p (by simp)
  refine ⟨ha, hgp, ?_⟩
  simp only [stTxts, List.map_cons, wlk] at hm
  rw [step1_txt hgp] at hm
  cases hdo : doB p.1 l p.2 with
  | false => rw [hdo] at hm; simp at hm
  | true => rfl

/-- Each step back can be done. -/
theorem Way.back {l0 l t : List Item} {did left : List (Bool × Item)} (h : Way l0 l t did left) (k : Nat) (hk : k < did.length) : StepOK (undoTo l did (k + 1)) (!did[k].1, did[k].2) := by
  have hgk : Good did[k].2 := h.gDid _ (List.getElem_mem hk)
  obtain ⟨m, hm, hp, ha⟩ := undo_perm h.arr0 h.gDid h.done (k + 1)
  refine ⟨ha, hgk, ?_⟩
  rw [List.take_succ_eq_append_getElem hk] at hm
  obtain ⟨c, hc, hc2⟩ := wlk_cut hm
  have hac := wlk_arr (fun p hp => h.gDid p (List.mem_of_mem_take hp)) h.arr0 hc
  simp only [stTxts, List.map_cons, List.map_nil, wlk] at hc2
  rw [step1_txt hgk] at hc2
  cases hdo : doB did[k].1 c did[k].2 with
  | false => rw [hdo] at hc2; simp at hc2
  | true =>
    rw [hdo] at hc2
    simp only [if_true, Option.some.injEq] at hc2
    have hb := (do_back hac did[k].1 hgk hdo).1
    rw [hc2] at hb
    rw [doB_perm hp]
    exact hb

/-- What is known of the hosts while steps are done: J; and which steps are done: Q. -/
structure HJ where
  J : Hs → Prop
  Q : Bool × Item → Prop
  few : ∀ H, J H → H.ses.length ≤ 8
  quiet : ∀ H p, J H → Q p → p.2.kind = 3 ∨ p.2.kind = 4 → ∀ s ∈ H.ses, ofB p.2.name p.2.host s = false
  next : ∀ H p, J H → Q p → J (doH H p)

/-- Both ways. -/
def QQ (M : HJ) (p : Bool × Item) : Prop := M.Q p ∧ M.Q (!p.1, p.2)

/-- A drive as it is when it is new. -/
def zeroDrv (d : Drv) : Prop := d.holder = -1 ∧ d.blocks = List.replicate d.blocks.length 0

/-- No session, and no block was ever written. -/
def hj0 : HJ where
  J H := H.ses = [] ∧ H.next = 0 ∧ ∀ d ∈ H.disks, zeroDrv d
  Q _ := True
  few H h := by rw [h.1]; simp
  quiet H p h _ _ := by rw [h.1]; simp
  next H p h _ := by
    refine ⟨h.1, h.2.1, ?_⟩
    unfold doH doD
    intro d hd
    simp only at hd
    split at hd
    · split at hd
      · rcases List.mem_append.1 hd with h1 | h1
        · exact h.2.2 d h1
        · rw [List.mem_singleton.1 h1]; exact ⟨rfl, by simp⟩
      · exact h.2.2 d (List.mem_filter.1 hd).1
    · exact h.2.2 d hd

theorem hj0_new (l : List Item) : hj0.J ⟨newD l, [], 0⟩ := by
  refine ⟨rfl, rfl, fun d hd => ?_⟩
  obtain ⟨x, _, rfl⟩ := List.mem_map.1 hd
  exact ⟨rfl, by simp⟩

end Go.Proofs.Ytdlhgbhaeedbdab

/- Drives in memory; 'Bank.Add'. -/
namespace Go.Proofs.Ytdlhgbhaeedbdab
open Go.RowKit

/-- A drive, its block, and the row of its blocks. -/
structure Bk where
  d : Drv
  p : Nat
  v : Value

def Bk.ptr (q : Bk) : Value := .pointer (some ⟨q.p, 0, none⟩)

def drvCells (q : Bk) : Array Value := #[.string q.d.name, q.v, .int .i64 q.d.holder]

/-- The drive lies in its block. -/
structure DrvAt (w : World) (base : Nat) (q : Bk) : Prop where
  lo : base ≤ q.p
  blk : w.heap[q.p]? = some (.cells (drvCells q) 157 (0, 0))
  row : w.ownsRow base 3 1 q.v q.d.blocks.length (q.d.blocks.map (Value.int .i64))

/-- Two drives have nothing in common. -/
def DApart (q q' : Bk) : Prop := q.p ≠ q'.p ∧ (∀ k, q.v.ownBlock = some k → q'.v.ownBlock ≠ some k)

/-- All drives of a rack, in the row v. -/
structure BankAt (w : World) (base : Nat) (v : Value) (B : List Bk) : Prop where
  row : w.ownsRow base 130 1 v B.length (B.map Bk.ptr)
  drv : ∀ q ∈ B, DrvAt w base q
  apart : B.Pairwise DApart

theorem DrvAt.keep {T : TypeId → Prop} {w w' : World} {base : Nat} {q : Bk} (h : DrvAt w base q) (hk : TK T w w') (h1 : ¬ T 157) (h2 : ¬ T 3) : DrvAt w' base q :=
  ⟨h.lo, (hk.block _ _ _ _ h.blk h1).trans h.blk, hk.row h2 h.row⟩

theorem DrvAt.lt {w : World} {base : Nat} {q : Bk} (h : DrvAt w base q) : q.p < w.heap.size := (Array.getElem?_eq_some_iff.1 h.blk).1

theorem BankAt.keep {T : TypeId → Prop} {w w' : World} {base : Nat} {v : Value} {B : List Bk} (h : BankAt w base v B) (hk : TK T w w') (h0 : ¬ T 130) (h1 : ¬ T 157) (h2 : ¬ T 3) : BankAt w' base v B :=
  ⟨hk.row h0 h.row, fun q hq => (h.drv q hq).keep hk h1 h2, h.apart⟩

/-- The rack's block: what of it is as it was. -/
structure RCell (r : Nat) (P : Nat → Prop) (w w' : World) : Prop where
  cell : ∀ o, P o → w'.cell? ⟨r, o, none⟩ = w.cell? ⟨r, o, none⟩
  fz : ∀ o, w'.frozen? ⟨r, o, none⟩ = w.frozen? ⟨r, o, none⟩
  ty : (∃ cs fr, w.heap[r]? = some (Obj.cells cs 94 fr)) → ∃ cs fr, w'.heap[r]? = some (Obj.cells cs 94 fr)

theorem RCell.refl (r : Nat) (P : Nat → Prop) (w : World) : RCell r P w w := ⟨fun _ _ => rfl, fun _ => rfl, id⟩
theorem RCell.trans {r : Nat} {P : Nat → Prop} {a b c : World} (h : RCell r P a b) (k : RCell r P b c) : RCell r P a c :=
  ⟨fun o ho => (k.cell o ho).trans (h.cell o ho), fun o => (k.fz o).trans (h.fz o), fun e => k.ty (h.ty e)⟩
theorem RCell.mono {r : Nat} {P P' : Nat → Prop} {a b : World} (h : RCell r P a b) (hp : ∀ o, P' o → P o) : RCell r P' a b := ⟨fun o ho => h.cell o (hp o ho), h.fz, h.ty⟩
theorem RCell.of_block {r : Nat} {P : Nat → Prop} {w w' : World} (h : w'.heap[r]? = w.heap[r]?) : RCell r P w w' :=
  ⟨fun _ _ => World.cell?_of_block h, fun _ => World.frozen?_of_block h, fun ⟨cs, fr, e⟩ => ⟨cs, fr, h.trans e⟩⟩
theorem RCell.of_tk {T : TypeId → Prop} {r : Nat} {P : Nat → Prop} {w w' : World} (hk : TK T w w') (h1 : ¬ T 94) (ht : ∃ cs fr, w.heap[r]? = some (Obj.cells cs 94 fr)) : RCell r P w w' := by
  obtain ⟨cs, fr, e⟩ := ht
  exact RCell.of_block (hk.block r cs _ fr e h1)
theorem RCell.set {r o : Nat} {P : Nat → Prop} {w : World} (hP : ¬ P o) (u : Value) : RCell r P w (w.setCell ⟨r, o, none⟩ u) :=
  ⟨fun o' ho => by rw [World.cell?_setCell_other _ _ _ _ (by intro e; simp only [Addr.mk.injEq] at e; exact hP (by rw [e.2.1]; exact ho))], fun o' => by simp, fun e => ty_set e u⟩

/-- A row of zeroes. -/
theorem zeros_succ (k : Nat) : (List.replicate (k + 1) (0 : Int)).map (Value.int .i64) = (List.replicate k (0 : Int)).map (Value.int .i64) ++ [.int .i64 0] := by
  rw [List.replicate_succ', List.map_append]; rfl

theorem Try.infoInt : (Try.prog.info? 3).map (fun i => (i.zero, i.size, i.bytes)) = some (some (.int .i64 0), 1, 8) := by kernel_rfl
theorem Try.infoPtr : (Try.prog.info? 130).map (fun i => (i.zero, i.size, i.bytes)) = some (some (.pointer none), 1, 8) := by kernel_rfl

theorem one_int (x : Int) : ∀ u ∈ [Value.int .i64 x], u.oneCell' = true := by intro u hu; simp at hu; subst hu; rfl
theorem one_ptr (x : Option Addr) : ∀ u ∈ [Value.pointer x], u.oneCell' = true := by intro u hu; simp at hu; subst hu; rfl

/-- The types of what Bank changes. -/
def KB (t : TypeId) : Prop := t = 94 ∨ t = 130

theorem kb_drive : ¬ KB 157 := by unfold KB; decide
theorem kb_int : ¬ KB 3 := by unfold KB; decide

theorem heap_set_same {w : World} {g o : Nat} {cs : Array Value} {t : TypeId} {fr : Nat × Nat} (h : w.heap[g]? = some (.cells cs t fr)) (u : Value) : (w.setCell ⟨g, o, none⟩ u).heap[g]? = some (.cells (cs.setIfInBounds o u) t fr) := by
  simp [World.setCell, Array.getElem?_modify, h]

theorem block_set_ne {w : World} {g o k : Nat} (u : Value) (h : k ≠ g) : (w.setCell ⟨g, o, none⟩ u).heap[k]? = w.heap[k]? := Below.heap_setCell _ _ _ _ h

/-- A block of another type is not a row's. -/
theorem rack_ne {w : World} {r base : Nat} {t e : TypeId} {size n : Nat} {v : Value} {xs : List Value} (hty : ∃ cs fr, w.heap[r]? = some (Obj.cells cs t fr)) (ho : w.ownsRow base e size v n xs) (hne : t ≠ e) : some r ≠ v.ownBlock := by
  intro h
  obtain ⟨cs, fr, hty⟩ := hty
  obtain ⟨_, ⟨rfl, _⟩ | ⟨g, cap, cur, rfl, _, hcur, _⟩⟩ := ho
  · cases h
  · simp only [Value.ownBlock, Option.some.injEq] at h
    subst h
    rw [hty] at hcur
    simp only [Option.some.injEq, Obj.cells.injEq] at hcur
    exact hne hcur.2.1

/-- What Add leaves. -/
def AddEnd (r b : Nat) (B : List Bk) (d : Drv) (w : World) (e : Ending) (w' : World) : Prop :=
  e = .returned (.tuple #[]) ∧ (∃ v' q, q.d = d ∧ w'.cell? ⟨r, 2, none⟩ = some v' ∧ BankAt w' (b + 1) v' (B ++ [q])) ∧ TK KB w w' ∧ Below (b + 1) w w' ∧ RCell r (fun o => o ≠ 2) w w'

/-- A drive is laid into the row. -/
theorem BankAt.add {w w1 w2 : World} {r b : Nat} {v v' : Value} {B : List Bk} {q : Bk} {o1 : Obj} (hr : b < r) (hty : ∃ cs fr, w.heap[r]? = some (Obj.cells cs 94 fr)) (hc : w.cell? ⟨r, 2, none⟩ = some v) (h : BankAt w (b + 1) v B)
    (hb1 : Below w.heap.size w w1) (hq : DrvAt w1 w.heap.size q) (hp : q.p = w.heap.size)
    (hg : (w1.alloc o1).grownBy w2 v.ownBlock) (hn : w2.ownsRow (b + 1) 130 1 v' (B.length + 1) (B.map Bk.ptr ++ [q.ptr])) :
    AddEnd r b B q.d w (.returned (.tuple #[])) (w2.setCell ⟨r, 2, none⟩ v') := by
  obtain ⟨cs, fr, hty'⟩ := hty
  have hlt : r < w.heap.size := (Array.getElem?_eq_some_iff.1 hty').1
  have hba : Below w.heap.size w (w1.alloc o1) := hb1.alloc hb1.size _
  have hown1 : (w1.alloc o1).ownsRow (b + 1) 130 1 v B.length (B.map Bk.ptr) := owns_later h.row hba
  have htk1 : TK KB w (w1.alloc o1) := TK.of_below hba
  have htk2 : TK KB w w2 := htk1.trans (TK.grown hown1 hg (.inr rfl))
  have hBel : Below (b + 1) w w2 := (hba.mono (by omega)).grown hg (by have := hba.size; omega) (fun k e => (hown1.lt k e).1)
  have hbr : w2.heap[r]? = w.heap[r]? := (hg.block r (by have := hba.size; omega) (rack_ne ⟨cs, fr, hty'⟩ h.row (by decide))).trans (hba.block r hlt)
  have htk3 : TK KB w2 (w2.setCell ⟨r, 2, none⟩ v') := TK.setCell (hbr.trans hty') (.inl rfl) v'
  have htk := htk2.trans htk3
  have hts : TK (fun t => t = 94) w2 (w2.setCell ⟨r, 2, none⟩ v') := TK.setCell (T := fun t => t = 94) (hbr.trans hty') rfl v'
  have hkq : TK KB w1 (w2.setCell ⟨r, 2, none⟩ v') := ((TK.of_below ((Below.refl _ _).alloc (Nat.le_refl _) _)).trans (TK.grown hown1 hg (.inr rfl))).trans htk3
  have hq2 := hq.keep hkq kb_drive kb_int
  refine ⟨rfl, ⟨v', q, rfl, World.cell?_setCell_same _ _ _ ((World.cell?_of_block hbr).trans hc), ?_, ?_, ?_⟩, htk, hBel.setCell (p := ⟨r, 2, none⟩) (by simp; omega) _, (RCell.of_block hbr).trans (RCell.set (by simp) _)⟩
  · have := hts.row (by decide) hn
    simpa using this
  · intro x hx
    rcases List.mem_append.1 hx with h1 | h1
    · exact (h.drv x h1).keep htk kb_drive kb_int
    · rw [List.mem_singleton.1 h1]
      exact ⟨by rw [hp]; omega, hq2.blk, owns_mono hq2.row (by omega)⟩
  · rw [List.pairwise_append]
    refine ⟨h.apart, by simp, fun x hx y hy => ?_⟩
    rw [List.mem_singleton.1 hy]
    have hd := h.drv x hx
    refine ⟨by have := hd.lt; omega, fun k e e' => ?_⟩
    have h1 := (hd.row.lt k e).2
    have h2 := (hq.row.lt k e').1
    omega

set_option maxRecDepth 100000 in
set_option maxHeartbeats 400000 in
theorem add_any (r b k : Nat) (n : ByteArray) (v : Value) (B : List Bk) (w : World) (hk : k ≤ 9) (hB : B.length ≤ 1000) (hr : b < r) (hty : ∃ cs fr, w.heap[r]? = some (Obj.cells cs 94 fr)) (hc : w.cell? ⟨r, 2, none⟩ = some v) (hf : w.frozen? ⟨r, 2, none⟩ = false) (h : BankAt w (b + 1) v B) :
    Calls Try.prog 60 #[.pointer (some ⟨r, 2, none⟩), .string n, .int .i64 k] w fun e w' => AddEnd r b B ⟨n, List.replicate k 0, -1⟩ w e w' := by
  have hlt : r < w.heap.size := by obtain ⟨cs, fr, e⟩ := hty; exact (Array.getElem?_eq_some_iff.1 e).1
  obtain ⟨i0, hi, hz0, hz1, hz2⟩ := info_parts Try.infoInt
  obtain ⟨j0, hj, hy0, hy1, hy2⟩ := info_parts Try.infoPtr
  obtain ⟨a, cap, rfl⟩ := slice_of_owns h.row
  have HH := hide fun w1 w2 v' q o1 hb1 hq hp hg hn => BankAt.add (w1 := w1) (w2 := w2) (v' := v') (q := q) (o1 := o1) hr hty hc h hb1 hq hp hg hn
  have Hrow := hide h.row
  have Hne := hide (rack_ne hty h.row (by decide))
  clear hty h
  go_enter Try.func60, Try.ntmps60
  go_wp2
  go_loopw [7] (fun i wr => ∃ j : Nat, j ≤ k ∧ i = .int .i64 j ∧ ∃ u, wr.heap[w.heap.size]? = some (.cells #[.string n, u, .int .i64 (-1)] 157 (0, 0)) ∧ wr.ownsRow (w.heap.size + 1) 3 1 u j ((List.replicate j (0 : Int)).map (Value.int .i64)) ∧ Below w.heap.size w wr) (fun i _ => k - (intOf i).toNat)
  case atStart => exact ⟨0, Nat.zero_le _, rfl, .slice none 0 0, heap_alloc_new _ _, World.ownsRow_nil _ _ _ _, (Below.refl _ _).alloc (Nat.le_refl _) _⟩
  case round =>
    obtain ⟨j, hjk, rfl, u, hblk, hown, hbe⟩ := hrel
    obtain ⟨ua, uc, rfl⟩ := slice_of_owns hown
    have hs := hbe.size
    have hlb : w.heap.size < wr.heap.size := (Array.getElem?_eq_some_iff.1 hblk).1
    have d1 : wr.cell? ⟨w.heap.size, 1, none⟩ = some (.slice ua j uc) := by simp [World.cell?, hblk]
    have g1 : wr.frozen? ⟨w.heap.size, 1, none⟩ = false := by simp [World.frozen?, hblk]
    by_cases hlt2 : j < k
    · have hlt' : (j : Int) < (k : Int) := by omega
      have Hz := hide (zeros_succ j)
      generalize hZ : (List.replicate j (0 : Int)).map (Value.int .i64) = Z at *
      clear hZ
      go_wp2_with (at_builtin; refine wpList_append_own _ rfl _ _ 52 rfl (w.heap.size + 1) 3 i0 (.int .i64 0) 1 8 Try.underlying52 hi hz0 hz1 hz2 rfl (by decide) (.slice ua j uc) j Z ?hs ?c0 ⟨wr.heap.size, 0, none⟩ 1 1 [.int .i64 0] ?hx rfl ?c1 (one_int _) ?c3 ?c4 ?c5 ?_)
      case hs => rfl
      case c0 => exact hown.alloc _
      case hx => rfl
      case c1 => exact cell_one_new _ _ _
      case c3 => unfold maxLen; omega
      case c4 => omega
      case c5 => simp; omega
      intro v' w2 hown' hgrow _
      obtain ⟨va, vc, rfl⟩ := slice_of_owns hown'
      have hba := hbe.alloc hs (.cells #[.int .i64 0] 3)
      have hb2 : Below w.heap.size w w2 := hba.grown hgrow (by have := hba.size; simp; omega) (fun k e => by have := (hown.lt k e).1; omega)
      have hblk2 : w2.heap[w.heap.size]? = some (.cells #[.string n, .slice ua j uc, .int .i64 (-1)] 157 (0, 0)) := by
        rw [hgrow.block w.heap.size (by simp; omega) (fun e => by have := (hown.lt _ e.symm).1; omega), Below.heap_alloc _ _ _ hlb]
        exact hblk
      have e1 : w2.cell? ⟨w.heap.size, 1, none⟩ = some (.slice ua j uc) := by simp [World.cell?, hblk2]
      have e2 : w2.frozen? ⟨w.heap.size, 1, none⟩ = false := by simp [World.frozen?, hblk2]
      clear hgrow d1 g1
      go_wp2
      go_roundw
      case rel =>
        refine ⟨j + 1, by omega, by go_num, .slice va (j + 1) vc, ?_, ?_, hb2.setCell (p := ⟨w.heap.size, 1, none⟩) (Nat.le_refl _) _⟩
        · exact heap_set_same hblk2 _
        · rw [unhide Hz]; exact ownsRow_setCell_below hown' (by simp) _
      case measure => simp [intOf]; omega
    · have hjk2 : j = k := by omega
      subst hjk2
      have hc2 : wr.cell? ⟨r, 2, none⟩ = some (.slice a B.length cap) := (hbe.cell (p := ⟨r, 2, none⟩) hlt).trans hc
      have hf2 : wr.frozen? ⟨r, 2, none⟩ = false := (hbe.frozen (p := ⟨r, 2, none⟩) hlt).trans hf
      have Hq := hide (⟨Nat.le_refl _, hblk, owns_mono (by simpa using hown) (by omega)⟩ : DrvAt wr w.heap.size ⟨⟨n, List.replicate j 0, -1⟩, w.heap.size, .slice ua j uc⟩)
      have Hrow2 := hide (owns_later (unhide Hrow) hbe)
      clear hown
      go_wp2_with (at_builtin; refine wpList_append_own _ rfl _ _ 86 rfl (b + 1) 130 j0 (.pointer none) 1 8 Try.underlying86 hj hy0 hy1 hy2 rfl (by decide) (.slice a B.length cap) B.length (B.map Bk.ptr) ?hs ?c0 ⟨wr.heap.size, 0, none⟩ 1 1 [.pointer (some ⟨w.heap.size, 0, none⟩)] ?hx rfl ?c1 (one_ptr _) ?c3 ?c4 ?c5 ?_)
      case hs => rfl
      case c0 => exact (unhide Hrow2).alloc _
      case hx => rfl
      case c1 => exact cell_one_new _ _ _
      case c3 => unfold maxLen; omega
      case c4 => omega
      case c5 => simp; omega
      intro v' w2 hown' hgrow _
      obtain ⟨va, vc, rfl⟩ := slice_of_owns hown'
      have hE := unhide HH _ _ _ _ _ hbe (unhide Hq) rfl hgrow hown'
      have hbr : w2.cell? ⟨r, 2, none⟩ = some (.slice a B.length cap) ∧ w2.frozen? ⟨r, 2, none⟩ = false := by
        have hne := unhide Hne
        exact ⟨(World.cell?_of_block (hgrow.block r (by simp; omega) hne)).trans ((World.cell?_of_block (Below.heap_alloc _ _ r (by omega))).trans hc2), (World.frozen?_of_block (hgrow.block r (by simp; omega) hne)).trans ((World.frozen?_of_block (Below.heap_alloc _ _ r (by omega))).trans hf2)⟩
      obtain ⟨k2, k3⟩ := hbr
      have HE := hide hE
      clear hE hgrow hown' hc2 hf2 d1 g1 hblk
      go_wp2
      go_end0
      exact unhide HE

end Go.Proofs.Ytdlhgbhaeedbdab
