/- PureC, Ho1, Dv1, Dv2. -/
import Derived.Test.YtdlhgbhaeedbdabGreatM10
import Derived.Test.YtdlhgbhaeedbdabGreatProg
import Derived.Test.YtdlhgbhaeedbdabGreatM1
import Derived.Deep.WholeRow

/- Steps done and undone on lists of items: plain mathematics. -/
namespace Go.Proofs.YtdlhgbhaeedbdabGreat
open Go.RowKit

/-- Steps, done one behind the other. -/
def doAll (l : List Item) (S : List (Bool × Item)) : List Item := S.foldl (fun l p => doI p.1 l p.2) l

theorem doAll_snoc (l : List Item) (S : List (Bool × Item)) (p : Bool × Item) : doAll l (S ++ [p]) = doI p.1 (doAll l S) p.2 := by simp [doAll]

theorem wlk_doAll {S : List (Bool × Item)} (hS : ∀ p ∈ S, Good p.2) {l m : List Item} (hw : wlk l (stTxts S) = some m) : doAll l S = m := by
  induction S generalizing l with
  | nil => simpa [wlk, stTxts, doAll] using hw
  | cons p S ih =>
    simp only [stTxts, List.map_cons, wlk] at hw
    rw [step1_txt (hS p (by simp))] at hw
    cases hd : doB p.1 l p.2 with
    | false => rw [hd] at hw; simp at hw
    | true =>
      rw [hd] at hw
      exact ih (fun q hq => hS q (by simp [hq])) hw

theorem wlk_cut {S R : List (Bool × Item)} {l m : List Item} (hw : wlk l (stTxts (S ++ R)) = some m) : ∃ c, wlk l (stTxts S) = some c ∧ wlk c (stTxts R) = some m := by
  rw [stTxts_append, wlk_append] at hw
  cases h : wlk l (stTxts S) with
  | none => rw [h] at hw; simp at hw
  | some c => rw [h] at hw; exact ⟨c, rfl, hw⟩

theorem wlk_join {S R : List (Bool × Item)} {l c m : List Item} (h1 : wlk l (stTxts S) = some c) (h2 : wlk c (stTxts R) = some m) : wlk l (stTxts (S ++ R)) = some m := by
  rw [stTxts_append, wlk_append, h1]
  exact h2

/-- What is there when all but the first k of the steps have been undone. -/
def undoTo (l : List Item) (did : List (Bool × Item)) (k : Nat) : List Item := doAll l (flips (did.drop k).reverse)

theorem undoTo_all (l : List Item) (did : List (Bool × Item)) : undoTo l did did.length = l := by simp [undoTo, doAll, flips]

theorem undoTo_step (l : List Item) (did : List (Bool × Item)) (k : Nat) (hk : k < did.length) : undoTo l did k = doI (!did[k].1) (undoTo l did (k + 1)) did[k].2 := by
  unfold undoTo
  rw [List.drop_eq_getElem_cons hk, List.reverse_cons]
  have : flips ((did.drop (k + 1)).reverse ++ [did[k]]) = flips (did.drop (k + 1)).reverse ++ [(!did[k].1, did[k].2)] := by simp [flips]
  rw [this, doAll_snoc]

theorem flips_good {S : List (Bool × Item)} (hS : ∀ p ∈ S, Good p.2) : ∀ p ∈ flips S.reverse, Good p.2 := by
  intro p hp
  obtain ⟨q, hq, rfl⟩ := List.mem_map.1 hp
  exact hS q (List.mem_reverse.1 hq)

/-- Undone: back to what was there. -/
theorem undo_perm {l0 l : List Item} {did : List (Bool × Item)} (hA : ArrI l0) (hG : ∀ p ∈ did, Good p.2) (hw : wlk l0 (stTxts did) = some l) (k : Nat) :
    ∃ m, wlk l0 (stTxts (did.take k)) = some m ∧ (undoTo l did k).Perm m ∧ ArrI (undoTo l did k) := by
  have hw2 := hw
  rw [← List.take_append_drop k did] at hw2
  obtain ⟨m, h1, h2⟩ := wlk_cut hw2
  have hG1 : ∀ p ∈ did.take k, Good p.2 := fun p hp => hG p (List.mem_of_mem_take hp)
  have hG2 : ∀ p ∈ did.drop k, Good p.2 := fun p hp => hG p (List.mem_of_mem_drop hp)
  have hAm := wlk_arr hG1 hA h1
  obtain ⟨c, hc, hp⟩ := wlk_back hG2 hAm h2
  have e : undoTo l did k = c := wlk_doAll (flips_good hG2) hc
  exact ⟨m, h1, e ▸ hp, e ▸ hAm.perm hp.symm⟩

/-- A plan hangs on the items alone, not on their order. -/
theorem mk_perm {l m t : List Item} (hl : ArrI l) (hp : l.Perm m) : mk l t = mk m t := by
  have h1 : sortTo l l.length = sortTo m m.length := by rw [sortTo_all, sortTo_all, sorted_of_perm hp hl.dist]
  unfold mk
  rw [h1]

/-- A rack's plan under way: from l0 by the steps done to l, and on by those that are left to t. -/
structure Way (l0 l t : List Item) (did left : List (Bool × Item)) : Prop where
  arr0 : ArrI l0
  arrT : ArrI t
  good : ∀ p ∈ did ++ left, Good p.2
  done : wlk l0 (stTxts did) = some l
  rest : ∃ m, wlk l (stTxts left) = some m ∧ m.Perm t

theorem way_start {l0 t : List Item} (h0 : ArrI l0) (ht : ArrI t) : Way l0 l0 t [] (mk l0 t) := by
  obtain ⟨hg, hm⟩ := plan_walk h0 ht
  exact ⟨h0, ht, by simpa using hg, rfl, hm⟩

theorem Way.gDid {l0 l t : List Item} {did left : List (Bool × Item)} (h : Way l0 l t did left) : ∀ p ∈ did, Good p.2 := fun p hp => h.good p (by simp [hp])
theorem Way.arr {l0 l t : List Item} {did left : List (Bool × Item)} (h : Way l0 l t did left) : ArrI l := wlk_arr h.gDid h.arr0 h.done

theorem Way.step {l0 l t : List Item} {did left : List (Bool × Item)} {p : Bool × Item} (h : Way l0 l t did (p :: left)) : Way l0 (doI p.1 l p.2) t (did ++ [p]) left := by
  obtain ⟨a0, aT, hg, hd, m, hm, hp⟩ := h
  have hgp : Good p.2 := hg p (by simp)
  have hm2 := hm
  simp only [stTxts, List.map_cons, wlk] at hm2
  rw [step1_txt hgp] at hm2
  cases hdo : doB p.1 l p.2 with
  | false => rw [hdo] at hm2; simp at hm2
  | true =>
    rw [hdo] at hm2
    refine ⟨a0, aT, by simpa using hg, ?_, m, hm2, hp⟩
    refine wlk_join hd ?_
    simp only [stTxts, List.map_cons, List.map_nil, wlk]
    rw [step1_txt hgp, hdo]
    rfl

theorem Way.finish {l0 l t : List Item} {did : List (Bool × Item)} (h : Way l0 l t did []) : l.Perm t := by
  obtain ⟨_, _, _, _, m, hm, hp⟩ := h
  simp only [stTxts, List.map_nil, wlk, Option.some.injEq] at hm
  exact hm ▸ hp

theorem Way.undo {l0 l t : List Item} {did left : List (Bool × Item)} (h : Way l0 l t did left) : (undoTo l did 0).Perm l0 ∧ ∀ k, ArrI (undoTo l did k) := by
  refine ⟨?_, fun k => (undo_perm h.arr0 h.gDid h.done k).choose_spec.2.2⟩
  obtain ⟨m, h1, h2, _⟩ := undo_perm h.arr0 h.gDid h.done 0
  simp only [List.take_zero, stTxts, List.map_nil, wlk, Option.some.injEq] at h1
  exact h1 ▸ h2

end Go.Proofs.YtdlhgbhaeedbdabGreat

/- Hosts: sessions, drives, and what steps do to them: plain mathematics. -/
namespace Go.Proofs.YtdlhgbhaeedbdabGreat
open Go.RowKit

/-- A drive: its name, what stands in its blocks, which session has reserved it (-1: none). -/
structure Drv where
  name : ByteArray
  blocks : List Int
  holder : Int

/-- A session. -/
structure Ses where
  number : Int
  target : ByteArray
  host : ByteArray
  news : Bool

/-- What is not a rack's: blocks that it does not hold; and some that stay as they are. -/
structure Gh where
  out : Nat → Prop
  fro : Nat → Obj → Prop

def gh0 : Gh := ⟨fun _ => False, fun _ _ => False⟩

/-- What a rack holds of its hosts: the drives, the sessions, the next session's number; and what is not its own. -/
structure Hs where
  disks : List Drv
  ses : List Ses
  next : Int
  g : Gh

def addD (D : List Drv) (n : ByteArray) (k : Nat) : List Drv := D ++ [⟨n, List.replicate k 0, -1⟩]
def remD (D : List Drv) (n : ByteArray) : List Drv := D.filter fun d => decide (¬ d.name = n)
def freeD1 (s : Int) (d : Drv) : Drv := if d.holder = s then { d with holder := -1 } else d
def freeD (D : List Drv) (s : Int) : List Drv := D.map (freeD1 s)
/-- Is it a session of this target and this host? -/
def ofB (t h : ByteArray) (s : Ses) : Bool := decide (s.target = t ∧ s.host = h)
def endS (S : List Ses) (n : Int) : List Ses := S.filter fun s => decide (¬ s.number = n)
/-- What a step does to the drives. -/
def doD (D : List Drv) (p : Bool × Item) : List Drv :=
  if p.2.kind = 0 then (if p.1 then addD D p.2.name p.2.size.toNat else remD D p.2.name) else D
/-- What a step does to a rack's hosts where it means no session. -/
def doH (H : Hs) (p : Bool × Item) : Hs := { H with disks := doD H.disks p }

def dkB (x : Item) : Bool := decide (x.kind = 0)
/-- The disks of an arrangement, with their sizes. -/
def dskOf (l : List Item) : List (ByteArray × Nat) := (l.filter dkB).map fun x => (x.name, x.size.toNat)
/-- A drive for each disk. -/
def DOK (l : List Item) (D : List Drv) : Prop := (D.map fun d => (d.name, d.blocks.length)).Perm (dskOf l)
/-- The drives of a rack that is opened. -/
def newD (l : List Item) : List Drv := (l.filter dkB).map fun x => ⟨x.name, List.replicate x.size.toNat 0, -1⟩

theorem DOK.new (l : List Item) : DOK l (newD l) := by
  unfold DOK newD dskOf
  rw [List.map_map]
  have : ((fun d : Drv => (d.name, d.blocks.length)) ∘ fun x : Item => (⟨x.name, List.replicate x.size.toNat 0, -1⟩ : Drv)) = fun x => (x.name, x.size.toNat) := by
    funext x; simp
  rw [this]

theorem dskOf_perm {l m : List Item} (h : l.Perm m) : (dskOf l).Perm (dskOf m) := (h.filter _).map _
theorem DOK.perm {l m : List Item} {D : List Drv} (h : DOK l D) (hp : l.Perm m) : DOK m D := h.trans (dskOf_perm hp)
theorem DOK.len {l : List Item} {D : List Drv} (h : DOK l D) : D.length ≤ l.length := by
  have := h.length_eq
  simp only [List.length_map, dskOf] at this
  rw [this]
  exact List.length_filter_le _ _

/-- A step that can be done. -/
structure StepOK (l : List Item) (p : Bool × Item) : Prop where
  arr : ArrI l
  good : Good p.2
  can : doB p.1 l p.2 = true

theorem good_size {x : Item} (h : Good x) : 0 ≤ x.size ∧ x.size ≤ 9 := by
  obtain ⟨i, hi, rfl⟩ := h
  obtain ⟨_, h⟩ := hi
  by_cases hk : i.kind = 0
  · rcases h with ⟨_, _, _, h9, _⟩ | ⟨e, _⟩ | ⟨e, _⟩ | ⟨e, _⟩ | ⟨e, _⟩
    · simp [It.item, hk]; omega
    all_goals omega
  · simp [It.item, hk]

theorem good_disk {x : Item} (h : Good x) (hk : x.kind = 0) : x.host = ⟨#[]⟩ ∧ x.number = 0 := by
  obtain ⟨i, hi, rfl⟩ := h
  have hk' : i.kind = 0 := hk
  simp [It.item, hk']

theorem dskOf_append (l m : List Item) : dskOf (l ++ m) = dskOf l ++ dskOf m := by simp [dskOf]
theorem dskOf_cons (y : Item) (l : List Item) : dskOf (y :: l) = (if y.kind = 0 then [(y.name, y.size.toNat)] else []) ++ dskOf l := by
  by_cases h : y.kind = 0 <;> simp [dskOf, dkB, h]

/-- The drives follow the disks. -/
theorem DOK.step {l : List Item} {D : List Drv} {p : Bool × Item} (h : DOK l D) (hs : StepOK l p) : DOK (doI p.1 l p.2) (doD D p) := by
  obtain ⟨b, y⟩ := p
  obtain ⟨ha, hg, hd⟩ := hs
  simp only at hg hd ⊢
  unfold doD
  simp only
  cases b with
  | true =>
    rw [doI_add ha.good hg hd]
    unfold DOK
    rw [dskOf_append, dskOf_cons]
    by_cases hk : y.kind = 0
    · rw [if_pos hk, if_pos hk, if_pos rfl]
      unfold addD
      rw [List.map_append]
      refine h.append ?_
      simp [dskOf]
    · rw [if_neg hk, if_neg hk]
      rw [show dskOf [] = [] from rfl, List.append_nil, List.append_nil]
      exact h
  | false =>
    have hgo : y ∈ l := by
      have : goB l y = true := by simpa [doB] using hd
      exact ((goB_iff ha.good hg).1 this).1
    have hp := without_perm ha.good ha.dist hgo
    have hw : doI false l y = without l y := by simp [doI]
    rw [hw]
    by_cases hk : y.kind = 0
    · rw [if_pos hk, if_neg (by simp)]
      have h1 : (D.map fun d => (d.name, d.blocks.length)).Perm (dskOf (y :: without l y)) := h.trans (dskOf_perm hp)
      have h2 := h1.filter fun q => decide (¬ q.1 = y.name)
      rw [dskOf_cons, if_pos hk, List.filter_append] at h2
      have e1 : (D.map fun d => (d.name, d.blocks.length)).filter (fun q => decide (¬ q.1 = y.name)) = (remD D y.name).map fun d => (d.name, d.blocks.length) := by
        unfold remD
        rw [List.filter_map]
        rfl
      have e2 : (dskOf (without l y)).filter (fun q => decide (¬ q.1 = y.name)) = dskOf (without l y) := by
        rw [List.filter_eq_self]
        intro q hq
        obtain ⟨x, hx, rfl⟩ := List.mem_map.1 hq
        obtain ⟨hx1, hx2⟩ := List.mem_filter.1 hx
        have hxk : x.kind = 0 := by simpa [dkB] using hx2
        obtain ⟨hxl, hxy⟩ := (mem_without ha.good hg).1 hx1
        simp only [decide_eq_true_eq]
        intro hn
        have g1 := good_disk (ha.good x hxl) hxk
        have g2 := good_disk hg hk
        exact hxy (dist_eq ha.dist hxl hgo ⟨by rw [hxk, hk], hn, by rw [g1.1, g2.1], by rw [g1.2, g2.2]⟩)
      rw [e1, e2] at h2
      unfold DOK
      simpa using h2
    · rw [if_neg hk]
      have h1 : (D.map fun d => (d.name, d.blocks.length)).Perm (dskOf (y :: without l y)) := h.trans (dskOf_perm hp)
      rw [dskOf_cons, if_neg hk] at h1
      unfold DOK
      simpa using h1

theorem Way.ok {l0 l t : List Item} {did left : List (Bool × Item)} {p : Bool × Item} (h : Way l0 l t did (p :: left)) : StepOK l p := by
  have ha := h.arr
  obtain ⟨a0, aT, hg, hd, m, hm, hp⟩ := h
  have hgp : Good p.2 := hg p (by simp)
  refine ⟨ha, hgp, ?_⟩
  simp only [stTxts, List.map_cons, wlk] at hm
  rw [step1_txt hgp] at hm
  cases hdo : doB p.1 l p.2 with
  | false => rw [hdo] at hm; simp at hm
  | true => rfl

/-- Each step back can be done. -/
theorem Way.back {l0 l t : List Item} {did left : List (Bool × Item)} (h : Way l0 l t did left) (k : Nat) (hk : k < did.length) : StepOK (undoTo l did (k + 1)) (!did[k].1, did[k].2) := by
  have hgk : Good did[k].2 := h.gDid _ (List.getElem_mem hk)
  obtain ⟨m, hm, hp, ha⟩ := undo_perm h.arr0 h.gDid h.done (k + 1)
  refine ⟨ha, hgk, ?_⟩
  rw [List.take_succ_eq_append_getElem hk] at hm
  obtain ⟨c, hc, hc2⟩ := wlk_cut hm
  have hac := wlk_arr (fun p hp => h.gDid p (List.mem_of_mem_take hp)) h.arr0 hc
  simp only [stTxts, List.map_cons, List.map_nil, wlk] at hc2
  rw [step1_txt hgk] at hc2
  cases hdo : doB did[k].1 c did[k].2 with
  | false => rw [hdo] at hc2; simp at hc2
  | true =>
    rw [hdo] at hc2
    simp only [if_true, Option.some.injEq] at hc2
    have hb := (do_back hac did[k].1 hgk hdo).1
    rw [hc2] at hb
    rw [doB_perm hp]
    exact hb

/-- What is known of the hosts while steps are done: J; and which steps are done: Q. -/
structure HJ where
  sfro : Nat → Option Obj
  J : Hs → Prop
  Q : Bool × Item → Prop
  few : ∀ H, J H → H.ses.length ≤ 8
  quiet : ∀ H p, J H → Q p → p.2.kind = 3 ∨ p.2.kind = 4 → ∀ s ∈ H.ses, ofB p.2.name p.2.host s = false
  next : ∀ H p, J H → Q p → J (doH H p)

/-- Both ways. -/
def QQ (M : HJ) (p : Bool × Item) : Prop := M.Q p ∧ M.Q (!p.1, p.2)

/-- A drive as it is when it is new. -/
def zeroDrv (d : Drv) : Prop := d.holder = -1 ∧ d.blocks = List.replicate d.blocks.length 0

/-- No session, and no block was ever written. -/
def hj0 : HJ where
  sfro _ := none
  J H := H.ses = [] ∧ H.next = 0 ∧ (∀ d ∈ H.disks, zeroDrv d) ∧ H.g = gh0
  Q _ := True
  few H h := by rw [h.1]; simp
  quiet H p h _ _ := by rw [h.1]; simp
  next H p h _ := by
    refine ⟨h.1, h.2.1, ?_, h.2.2.2⟩
    unfold doH doD
    intro d hd
    simp only at hd
    split at hd
    · split at hd
      · rcases List.mem_append.1 hd with h1 | h1
        · exact h.2.2.1 d h1
        · rw [List.mem_singleton.1 h1]; exact ⟨rfl, by simp⟩
      · exact h.2.2.1 d (List.mem_filter.1 hd).1
    · exact h.2.2.1 d hd

theorem hj0_new (l : List Item) : hj0.J ⟨newD l, [], 0, gh0⟩ := by
  refine ⟨rfl, rfl, fun d hd => ?_, rfl⟩
  obtain ⟨x, _, rfl⟩ := List.mem_map.1 hd
  exact ⟨rfl, by simp⟩

end Go.Proofs.YtdlhgbhaeedbdabGreat

/- The two devices: power. -/
namespace Go.Proofs.YtdlhgbhaeedbdabGreat
open Go.RowKit

set_option maxHeartbeats 400000 in
theorem aspend_zero (b : Nat) (d : Bool) (w : World) (c3 : w.cell? ⟨b, 4097, none⟩ = some (.int .i64 0)) (c4 : w.cell? ⟨b, 4098, none⟩ = some (.bool d)) (fz : ∀ o, w.frozen? ⟨b, o, none⟩ = false) :
    Calls Tryz.prog 173 #[.pointer (some ⟨b, 0, none⟩)] w fun e w' => e = .returned (.bool false) ∧ w' = w.setCell ⟨b, 4098, none⟩ (.bool true) := by
  go_enter Tryz.func173, Tryz.ntmps173
  go_wp2
  go_ret
  exact ⟨rfl, rfl⟩

set_option maxHeartbeats 400000 in
theorem aspend_pos (b : Nat) (n : Nat) (d : Bool) (w : World) (hn : (n : Int) + 1 ≤ 9223372036854775807) (c3 : w.cell? ⟨b, 4097, none⟩ = some (.int .i64 ((n : Int) + 1))) (c4 : w.cell? ⟨b, 4098, none⟩ = some (.bool d)) (fz : ∀ o, w.frozen? ⟨b, o, none⟩ = false) :
    Calls Tryz.prog 173 #[.pointer (some ⟨b, 0, none⟩)] w fun e w' => e = .returned (.bool (!d)) ∧ w' = w.setCell ⟨b, 4097, none⟩ (.int .i64 n) := by
  have hnot : ∀ (x : Bool) (w : World), (Op.unary .not (.bool x)).run Tryz.prog w = .ok (.bool (!x)) w := fun _ _ => rfl
  have g0 : (((n : Int) + 1) == 0) = false := by rw [beq_eq_false_iff_ne]; omega
  have g1 : (0 : Int) < (n : Int) + 1 := by omega
  have hw1 : IntKind.i64.wrap (n : Int) = (n : Int) := by rw [IntKind.wrap_i64]; omega
  go_enter Tryz.func173, Tryz.ntmps173
  go_wp2
  go_ret
  exact ⟨rfl, rfl⟩

set_option maxHeartbeats 400000 in
theorem aspend_neg (b : Nat) (l : Int) (d : Bool) (w : World) (hl : l < 0) (c3 : w.cell? ⟨b, 4097, none⟩ = some (.int .i64 l)) (c4 : w.cell? ⟨b, 4098, none⟩ = some (.bool d)) :
    Calls Tryz.prog 173 #[.pointer (some ⟨b, 0, none⟩)] w fun e w' => e = .returned (.bool (!d)) ∧ w' = w := by
  have hnot : ∀ (x : Bool) (w : World), (Op.unary .not (.bool x)).run Tryz.prog w = .ok (.bool (!x)) w := fun _ _ => rfl
  have g0 : (l == 0) = false := by rw [beq_eq_false_iff_ne]; omega
  have g1 : ¬ (0 : Int) < l := by omega
  go_enter Tryz.func173, Tryz.ntmps173
  go_wp2
  go_ret
  exact ⟨rfl, rfl⟩

set_option maxHeartbeats 400000 in
theorem aarm_any (b : Nat) (n l : Int) (w : World) (c3 : w.cell? ⟨b, 4097, none⟩ = some (.int .i64 l)) (fz : ∀ o, w.frozen? ⟨b, o, none⟩ = false) :
    Calls Tryz.prog 43 #[.pointer (some ⟨b, 0, none⟩), .int .i64 n] w fun e w' => e = .returned (.tuple #[]) ∧ w' = w.setCell ⟨b, 4097, none⟩ (.int .i64 (if n < 0 then -1 else n)) := by
  by_cases h : n < 0
  · rw [if_pos h]
    go_enter Tryz.func43, Tryz.ntmps43
    go_wp2
    go_end0
    exact ⟨rfl, rfl⟩
  · rw [if_neg h]
    go_enter Tryz.func43, Tryz.ntmps43
    go_wp2
    go_end0
    exact ⟨rfl, rfl⟩

set_option maxHeartbeats 400000 in
theorem adead_any (b : Nat) (d : Bool) (w : World) (c4 : w.cell? ⟨b, 4098, none⟩ = some (.bool d)) :
    Calls Tryz.prog 32 #[.pointer (some ⟨b, 0, none⟩)] w fun e w' => e = .returned (.bool d) ∧ w' = w := by
  go_enter Tryz.func32, Tryz.ntmps32
  go_wp2
  go_ret
  exact ⟨rfl, rfl⟩

/-- What a call leaves of the power: the program's device. -/
def spW (w : World) (b : Nat) (l : Int) : World := if l = 0 then w.setCell ⟨b, 4098, none⟩ (.bool true) else if 0 < l then w.setCell ⟨b, 4097, none⟩ (.int .i64 (l - 1)) else w
def spR (l : Int) (d : Bool) : Bool := if l = 0 then false else !d

theorem aspend_any (b : Nat) (l : Int) (d : Bool) (w : World) (hl : l ≤ 9223372036854775807) (c3 : w.cell? ⟨b, 4097, none⟩ = some (.int .i64 l)) (c4 : w.cell? ⟨b, 4098, none⟩ = some (.bool d)) (fz : ∀ o, w.frozen? ⟨b, o, none⟩ = false) :
    Calls Tryz.prog 173 #[.pointer (some ⟨b, 0, none⟩)] w fun e w' => e = .returned (.bool (spR l d)) ∧ w' = spW w b l := by
  by_cases h0 : l = 0
  · subst h0; exact aspend_zero b d w c3 c4 fz
  · by_cases h1 : 0 < l
    · obtain ⟨n, rfl⟩ : ∃ n : Nat, l = (n : Int) + 1 := ⟨(l - 1).toNat, by omega⟩
      have := aspend_pos b n d w hl c3 c4 fz
      simp only [spR, spW, h0, h1, if_false, if_true, Int.add_sub_cancel]
      exact this
    · have := aspend_neg b l d w (by omega) c3 c4
      simp only [spR, spW, h0, h1, if_false]
      exact this

/-- The document's device. -/
def rcW (w : World) (b : Nat) (l : Int) (d : Bool) : World := if d = true ∨ l = 0 then w.setCell ⟨b, 2, none⟩ (.bool true) else if 0 < l then w.setCell ⟨b, 1, none⟩ (.int .i64 (l - 1)) else w
def rcR (l : Int) (d : Bool) : Bool := if d = true ∨ l = 0 then false else true

end Go.Proofs.YtdlhgbhaeedbdabGreat

/- The two devices: Read of the program's device. -/
namespace Go.Proofs.YtdlhgbhaeedbdabGreat
open Go.RowKit

def madeBytes (n : Nat) : Array Value := madeCells #[.int .u8 0] n

theorem Tryz.infoU8 : (Tryz.prog.info? 5).map (fun i => (i.zero, i.size, i.bytes)) = some (some (.int .u8 0), 1, 1) := by kernel_rfl

theorem run_make32 (w : World) : (Instr.makeSlice 115 (.int .i64 32) (.int .i64 32)).run Tryz.prog w = .ok (.slice (some ⟨w.heap.size, 0, none⟩) 32 32) (w.alloc (.cells (madeBytes 32) 5)) := by
  obtain ⟨i0, hi, hz0, hz1, hz2⟩ := info_parts Tryz.infoU8
  have := run_make (P := Tryz.prog) w 115 5 i0 (.int .u8 0) Tryz.underlying115 hi hz0 .i64 .i64 32 32 (by omega) (by omega) (by rw [hz2]; omega) (by omega)
  rw [hz1] at this
  simpa [Value.cells, madeBytes] using this

theorem ty_set {w : World} {b o : Nat} {t : TypeId} (h : ∃ cs fr, w.heap[b]? = some (Obj.cells cs t fr)) (u : Value) : ∃ cs fr, (w.setCell ⟨b, o, none⟩ u).heap[b]? = some (Obj.cells cs t fr) := by
  obtain ⟨cs, fr, h⟩ := h
  refine ⟨cs.setIfInBounds o u, fr, ?_⟩
  simp [World.setCell, Array.getElem?_modify, h]

/-- Bytes in a block of their own. -/
structure BytesW (w : World) (g : Nat) (n : Nat) (f : Nat → UInt8) : Prop where
  cell : ∀ k, k < n → w.cell? ⟨g, k, none⟩ = some (.int .u8 (f k).toNat)
  fz : ∀ o, w.frozen? ⟨g, o, none⟩ = false
  lt : g < w.heap.size
  ty : ∃ cs fr, w.heap[g]? = some (Obj.cells cs 5 fr)

theorem bytes_made (w : World) (n : Nat) : BytesW (w.alloc (.cells (madeBytes n) 5)) w.heap.size n fun _ => 0 := by
  refine ⟨fun k hk => ?_, fun o => World.frozen?_alloc_at _ _ _ _ rfl, by simp, ⟨madeBytes n, (0, 0), heap_alloc_last w _⟩⟩
  rw [World.cell?_alloc_at _ _ _ _ rfl]
  unfold madeBytes madeCells
  rw [Array.getElem?_map, Array.getElem?_range, if_pos (by omega)]
  simp
  rw [show k % 1 = 0 by omega]
  rfl

theorem BytesW.set {w : World} {g n : Nat} {f : Nat → UInt8} (h : BytesW w g n f) {j : Nat} (hj : j < n) (x : UInt8) : BytesW (w.setCell ⟨g, j, none⟩ (.int .u8 x.toNat)) g n fun k => if k = j then x else f k := by
  obtain ⟨hc, hf, hl, hty⟩ := h
  refine ⟨fun k hk => ?_, fun o => by simp [hf o], by simpa [World.setCell] using hl, ty_set hty _⟩
  have ck := hc k hk
  have cj := hc j hj
  by_cases e : k = j
  · subst e
    simp only [if_true]
    go_simp
  · simp only [e, if_false]
    have : (⟨g, k, none⟩ : Addr) ≠ ⟨g, j, none⟩ := by
      intro he
      simp only [Addr.mk.injEq] at he
      omega
    go_simp

theorem BytesW.congr {w : World} {g n : Nat} {f f' : Nat → UInt8} (h : BytesW w g n f) (e : ∀ k, k < n → f k = f' k) : BytesW w g n f' :=
  ⟨fun k hk => by rw [← e k hk]; exact h.cell k hk, h.fz, h.lt, h.ty⟩

set_option maxRecDepth 100000 in
set_option maxHeartbeats 400000 in
theorem aread_arg (b : Nat) (i : Int) (w : World) (hi : i < 0 ∨ 64 ≤ i) :
    Calls Tryz.prog 151 #[.pointer (some ⟨b, 0, none⟩), .int .i64 i] w fun e w' => e = .returned (.tuple #[.slice none 0 0, .int .i64 6]) ∧ w' = w := by
  by_cases h : i < 0
  · clear hi
    go_enter Tryz.func151, Tryz.ntmps151
    go_wp2_with fail
    go_ret2
    exact ⟨rfl, rfl⟩
  · have h2 : 64 ≤ i := by omega
    clear hi
    go_enter Tryz.func151, Tryz.ntmps151
    go_wp2_with fail
    go_ret2
    exact ⟨rfl, rfl⟩

set_option maxRecDepth 100000 in
set_option maxHeartbeats 400000 in
theorem aread_dead (b : Nat) (i : Nat) (l : Int) (d : Bool) (w : World) (hi : i < 64) (hl : l ≤ 9223372036854775807) (hsp : spR l d = false)
    (c3 : w.cell? ⟨b, 4097, none⟩ = some (.int .i64 l)) (c4 : w.cell? ⟨b, 4098, none⟩ = some (.bool d)) (fz : ∀ o, w.frozen? ⟨b, o, none⟩ = false) :
    Calls Tryz.prog 151 #[.pointer (some ⟨b, 0, none⟩), .int .i64 i] w fun e w' => e = .returned (.tuple #[.slice none 0 0, .int .i64 7]) ∧ w' = spW w b l := by
  have HS := hide (aspend_any b l d w hl c3 c4 fz)
  rw [hsp] at HS
  have h1 : ¬ (i : Int) < 0 := by omega
  have h2 : ¬ 64 ≤ (i : Int) := by omega
  clear c3 c4 fz hsp hl
  go_enter Tryz.func151, Tryz.ntmps151
  go_wp2_with fail
  refine (unhide HS).mono ?_
  rintro e w1 ⟨rfl, hw1⟩
  go_wp2_with fail
  go_ret2
  exact ⟨rfl, rfl⟩

set_option maxRecDepth 100000 in
set_option maxHeartbeats 400000 in
theorem aread_ok (b : Nat) (i : Nat) (l : Int) (d : Bool) (w : World) (f : Nat → UInt8) (hi : i < 64) (hl : l ≤ 9223372036854775807) (hsp : spR l d = true)
    (c3 : w.cell? ⟨b, 4097, none⟩ = some (.int .i64 l)) (c4 : w.cell? ⟨b, 4098, none⟩ = some (.bool d)) (fz : ∀ o, w.frozen? ⟨b, o, none⟩ = false)
    (hseen : ∀ j, j < 2048 → (spW w b l).cell? ⟨b, 2048 + j, none⟩ = some (.int .u8 (f j).toNat)) (hlt : b < (spW w b l).heap.size) :
    Calls Tryz.prog 151 #[.pointer (some ⟨b, 0, none⟩), .int .i64 i] w fun e w' => e = .returned (.tuple #[.slice (some ⟨(spW w b l).heap.size, 0, none⟩) 32 32, .int .i64 0]) ∧ BytesW w' (spW w b l).heap.size 32 (fun k => f (i * 32 + k)) ∧ Below (spW w b l).heap.size (spW w b l) w' := by
  have HS := hide (aspend_any b l d w hl c3 c4 fz)
  rw [hsp] at HS
  have h1 : ¬ (i : Int) < 0 := by omega
  have h2 : ¬ 64 ≤ (i : Int) := by omega
  have h3 : (i : Int) < 64 := by omega
  have hmk := run_make32
  have hm0 := bytes_made (spW w b l) 32
  generalize spW w b l = W at *
  have Hseen := hide hseen
  clear c3 c4 fz hsp hl hseen
  go_enter Tryz.func151, Tryz.ntmps151
  go_wp2_with fail
  refine (unhide HS).mono ?_
  rintro e w1 ⟨rfl, rfl⟩
  go_wp2_with fail
  go_loopw [8] (fun kv wr => ∃ k : Nat, k ≤ 32 ∧ kv = .int .i64 k ∧ BytesW wr w1.heap.size 32 (fun j => if j < k then f (i * 32 + j) else 0) ∧ Below w1.heap.size w1 wr) (fun kv _ => 32 - (intOf kv).toNat)
  case atStart => exact ⟨0, by omega, rfl, hm0.congr (fun k _ => by simp), (Below.refl _ _).alloc (Nat.le_refl _) _⟩
  case round =>
    obtain ⟨k, hk, rfl, hbw, hbe⟩ := hrel
    by_cases hk32 : k < 32
    · have hk' : (k : Int) < 32 := by omega
      have cs := (hbe.cell (p := ⟨b, 2048 + (i * 32 + k), none⟩) hlt).trans (unhide Hseen (i * 32 + k) (by omega))
      rw [← Nat.add_assoc] at cs
      have ck := hbw.cell k hk32
      have hfz := hbw.fz
      have Hrow := hide (show BytesW (wr.setCell ⟨w1.heap.size, k, none⟩ (.int .u8 (f (i * 32 + k)).toNat)) w1.heap.size 32 (fun j => if j < k + 1 then f (i * 32 + j) else 0) from
        (hbw.set hk32 (f (i * 32 + k))).congr (fun j _ => by
          by_cases e : j = k
          · subst e; simp
          · by_cases h : j < k
            · simp [e, h, show j < k + 1 by omega]
            · simp [e, h, show ¬ j < k + 1 by omega]))
      generalize f (i * 32 + k) = x at *
      go_wp2_with fail
      go_roundw
      case rel => exact ⟨k + 1, by omega, by go_num, unhide Hrow, hbe.setCell (p := ⟨w1.heap.size, k, none⟩) (Nat.le_refl _) _⟩
      case measure => simp [intOf]; omega
    · have hk' : ¬ (k : Int) < 32 := by omega
      go_wp2_with fail
      go_ret2
      exact ⟨rfl, hbw.congr (fun j hj => by simp [show j < k by omega]), hbe⟩

end Go.Proofs.YtdlhgbhaeedbdabGreat
