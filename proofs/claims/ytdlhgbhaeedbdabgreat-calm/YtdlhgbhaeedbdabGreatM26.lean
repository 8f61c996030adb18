/- CmB, PureD, Ws1. -/
import Derived.Test.YtdlhgbhaeedbdabGreatM23
import Derived.Test.YtdlhgbhaeedbdabGreatM25
import Derived.Test.YtdlhgbhaeedbdabGreatM11
import Derived.Test.YtdlhgbhaeedbdabGreatM18
import Derived.Test.YtdlhgbhaeedbdabGreatM21

/- What a host is told, on two racks: plain mathematics. -/
namespace Go.Proofs.YtdlhgbhaeedbdabGreat
open Go.RowKit

/-- The drive of a name. -/
def dkD (D : List Drv) (n : ByteArray) : Option Drv := D.find? fun d => decide (d.name = n)

theorem fix_cases (D : List Drv) (n : ByteArray) : (fixD D n = none ∧ dkD D n = none) ∨ ∃ i d, fixD D n = some i ∧ D[i]? = some d ∧ dkD D n = some d ∧ ∀ f : Drv → Drv, (∀ d, (f d).name = d.name) → ∀ n', dkD (D.modify i f) n' = if n' = n then some (f d) else dkD D n' := by
  induction D with
  | nil => exact .inl ⟨rfl, rfl⟩
  | cons a D ih =>
    by_cases ha : a.name = n
    · refine .inr ⟨0, a, by simp [fixD, List.findIdx?_cons, ha], rfl, by simp [dkD, ha], fun f hf n' => ?_⟩
      unfold dkD
      by_cases hn : n' = n
      · subst hn; simp [hf, ha]
      · have : ¬ a.name = n' := fun e => hn (e.symm.trans ha)
        simp [hn, hf, this]
    · rcases ih with ⟨h1, h2⟩ | ⟨i, d, h1, h2, h3, h4⟩
      · refine .inl ⟨?_, ?_⟩
        · unfold fixD at h1 ⊢
          rw [List.findIdx?_cons, h1]
          simp [ha]
        · unfold dkD at h2 ⊢
          rw [List.find?_cons_of_neg (by simpa using ha), h2]
      · refine .inr ⟨i + 1, d, ?_, by simpa using h2, ?_, fun f hf n' => ?_⟩
        · unfold fixD at h1 ⊢
          rw [List.findIdx?_cons, h1]
          simp [ha]
        · unfold dkD at h3 ⊢
          rw [List.find?_cons_of_neg (by simpa using ha), h3]
        · have h5 := h4 f hf n'
          unfold dkD at h5 ⊢
          rw [List.modify_succ_cons]
          by_cases hn : a.name = n'
          · have : ¬ n' = n := fun e => ha (hn.trans e)
            rw [List.find?_cons_of_pos (by simpa using hn), if_neg this, List.find?_cons_of_pos (by simpa using hn)]
          · rw [List.find?_cons_of_neg (by simpa using hn), h5, List.find?_cons_of_neg (by simpa using hn)]

theorem see_cases {H : Hs} {tn hn : ByteArray} (hs : H.ses = [⟨0, tn, hn, false⟩]) (l : List Item) (n : Int) :
    (seeO H l 0 n = (14, none) ∧ ∀ u, lunO l tn hn n = some u → dkD H.disks u.disk = none) ∨
    ∃ i d u, seeO H l 0 n = (0, some (i, u.only)) ∧ lunO l tn hn n = some u ∧ H.disks[i]? = some d ∧ dkD H.disks u.disk = some d ∧ ∀ f : Drv → Drv, (∀ d, (f d).name = d.name) → ∀ n', dkD (H.disks.modify i f) n' = if n' = u.disk then some (f d) else dkD H.disks n' := by
  have hz : H.ses.find? (fun z => decide (z.number = 0)) = some ⟨0, tn, hn, false⟩ := by rw [hs]; rfl
  unfold seeO lunO
  rw [hz]
  cases hm : l.find? (keyIs ⟨4, tn, hn, n⟩) with
  | none => exact .inl ⟨by simp only [hm], by simp⟩
  | some m =>
    cases hu : l.find? (keyIs ⟨2, tn, ⟨#[]⟩, m.lun⟩) with
    | none => exact .inl ⟨by simp only [hm, hu], by simp [hu]⟩
    | some u =>
      rcases fix_cases H.disks u.disk with ⟨h1, h2⟩ | ⟨i, d, h1, h2, h3, h4⟩
      · refine .inl ⟨by simp only [hm, hu, h1], ?_⟩
        intro u' e
        simp only [hu, Option.some.injEq] at e
        rw [← e, h2]
      · exact .inr ⟨i, d, u, by simp only [hm, hu, h1], hu, h2, h3, h4⟩

theorem wrN_name (s k x : Int) (d : Drv) : (wrN d s k x).name = d.name := by unfold wrN; split <;> rfl
theorem rsN_name (s : Int) (d : Drv) : (rsN d s).name = d.name := by unfold rsN; split <;> rfl
theorem rlN_name (s : Int) (d : Drv) : (rlN d s).name = d.name := by unfold rlN; split <;> rfl

theorem rdD_e (d : Drv) (s k : Int) : (rdD d s k).2 ≠ 12 ∧ (rdD d s k).2 ≠ 13 := by unfold rdD; split <;> (try split) <;> simp
theorem wrD_e (d : Drv) (s k x : Int) : wrD d s k x ≠ 12 ∧ wrD d s k x ≠ 13 := by unfold wrD; split <;> (try split) <;> (try split) <;> simp
theorem rsD_e (d : Drv) (s : Int) : rsD d s ≠ 12 ∧ rsD d s ≠ 13 := by unfold rsD; split <;> simp

/-- Two racks tell a host the same. -/
theorem td_same {Hx Hy : Hs} {lx ly : List Item} {tn hn : ByteArray} {N : ByteArray → Prop} (hsx : Hx.ses = [⟨0, tn, hn, false⟩]) (hsy : Hy.ses = [⟨0, tn, hn, false⟩]) (o : Iox)
    (hl : lunO lx tn hn o.N = lunO ly tn hn o.N) (hq : numsOf ⟨0, tn, hn, false⟩ (sortTo lx lx.length) = numsOf ⟨0, tn, hn, false⟩ (sortTo ly ly.length)) (hN : ∀ u, lunO ly tn hn o.N = some u → N u.disk) (hD : ∀ n, N n → dkD Hx.disks n = dkD Hy.disks n) :
    tdR Hx lx 0 o = tdR Hy ly 0 o ∧ (tdR Hx lx 0 o).e ≠ 12 ∧ (tdR Hx lx 0 o).e ≠ 13 ∧ ∀ n, N n → dkD (tdH Hx lx 0 o).disks n = dkD (tdH Hy ly 0 o).disks n := by
  have hls : ∀ (H : Hs) (l : List Item), H.ses = [⟨0, tn, hn, false⟩] → lsR H l 0 = (numsOf ⟨0, tn, hn, false⟩ (sortTo l l.length), 0) := by
    intro H l hs
    unfold lsR
    rw [hs]
    rfl
  have hx1 := hls Hx lx hsx
  have hy1 := hls Hy ly hsy
  rcases see_cases hsx lx o.N with ⟨ex, nx⟩ | ⟨i, d, u, ex, ux, dx, kx, mx⟩ <;> rcases see_cases hsy ly o.N with ⟨ey, ny⟩ | ⟨j, d', u', ey, uy, dy, ky, my⟩
  · unfold tdR tdH rdR wrR rsR wrH rsH rlH
    rw [hx1, hy1, ex, ey, hq]
    simp only [ite_self]
    refine ⟨trivial, ?_, ?_, hD⟩
    all_goals (repeat' split) <;> simp
  · exfalso
    have h1 := nx u' (hl.trans uy)
    rw [hD _ (hN u' uy), ky] at h1
    cases h1
  · exfalso
    have h1 := ny u (hl.symm.trans ux)
    rw [← hD _ (hN u (hl.symm.trans ux)), kx] at h1
    cases h1
  · rw [hl, uy] at ux
    simp only [Option.some.injEq] at ux
    subst ux
    rw [hD _ (hN u' uy), ky] at kx
    simp only [Option.some.injEq] at kx
    subst kx
    unfold tdR tdH rdR wrR rsR wrH rsH rlH
    rw [hx1, hy1, ex, ey]
    simp only [dx, dy, hq]
    have hmod : ∀ f : Drv → Drv, (∀ d, (f d).name = d.name) → ∀ n, N n → dkD (Hx.disks.modify i f) n = dkD (Hy.disks.modify j f) n := by
      intro f hf n hn'
      rw [mx f hf n, my f hf n, hD n hn']
    have r1 := rdD_e d' 0 o.B
    have r2 := wrD_e d' 0 o.B o.V
    have r3 := rsD_e d' 0
    refine ⟨trivial, ?_, ?_, ?_⟩
    · (repeat' split) <;> first | (simp; done) | exact r1.1 | exact r2.1 | exact r3.1
    · (repeat' split) <;> first | (simp; done) | exact r1.2 | exact r2.2 | exact r3.2
    · intro n hn'
      (repeat' split) <;> first | exact hD n hn' | exact hmod _ (wrN_name _ _ _) n hn' | exact hmod _ (rsN_name _) n hn' | exact hmod _ (rlN_name _) n hn'

theorem tdH_rest (H : Hs) (l : List Item) (s : Int) (o : Iox) : (tdH H l s o).ses = H.ses ∧ (tdH H l s o).next = H.next ∧ (tdH H l s o).g = H.g := by
  unfold tdH wrH rsH rlH
  (repeat' split) <;> exact ⟨rfl, rfl, rfl⟩

theorem modify_map {α β : Type} (l : List α) (i : Nat) (f : α → α) (g : α → β) (h : ∀ x, g (f x) = g x) : (l.modify i f).map g = l.map g := by
  induction l generalizing i with
  | nil => simp
  | cons a l ih =>
    cases i with
    | zero => simp [h]
    | succ i => rw [List.modify_succ_cons, List.map_cons, List.map_cons, ih]

theorem DOK.told {H : Hs} {l : List Item} (m : List Item) (s : Int) (o : Iox) (h : DOK m H.disks) : DOK m (tdH H l s o).disks := by
  have key : ∀ (i : Nat) (f : Drv → Drv), (∀ d, (f d).name = d.name ∧ (f d).blocks.length = d.blocks.length) → DOK m (H.disks.modify i f) := by
    intro i f hf
    unfold DOK
    rw [modify_map _ _ _ _ (fun d => by rw [(hf d).1, (hf d).2])]
    exact h
  have k1 : ∀ d, (wrN d s o.B o.V).name = d.name ∧ (wrN d s o.B o.V).blocks.length = d.blocks.length := fun d => ⟨wrN_name _ _ _ d, by unfold wrN; split <;> simp⟩
  have k2 : ∀ d, (rsN d s).name = d.name ∧ (rsN d s).blocks.length = d.blocks.length := fun d => ⟨rsN_name _ d, by unfold rsN; split <;> rfl⟩
  have k3 : ∀ d, (rlN d s).name = d.name ∧ (rlN d s).blocks.length = d.blocks.length := fun d => ⟨rlN_name _ d, by unfold rlN; split <;> rfl⟩
  unfold tdH wrH rsH rlH
  (repeat' split) <;> first | exact h | exact key _ _ k1 | exact key _ _ k2 | exact key _ _ k3

theorem dk_step {D : List Drv} {p : Bool × Item} {n : ByteArray} (h : p.2.kind = 0 → ¬ p.2.name = n) : dkD (doD D p) n = dkD D n := by
  unfold doD
  split
  · rename_i hk
    have hn := h hk
    split
    · unfold addD dkD
      rw [List.find?_append]
      have : List.find? (fun d : Drv => decide (d.name = n)) [⟨p.2.name, List.replicate p.2.size.toNat 0, -1⟩] = none := by
        rw [List.find?_eq_none]
        intro x hx
        rw [List.mem_singleton.1 hx]
        simpa using hn
      rw [this]
      cases List.find? (fun d : Drv => decide (d.name = n)) D <;> rfl
    · unfold remD dkD
      induction D with
      | nil => rfl
      | cons a D ih =>
        by_cases ha : a.name = p.2.name
        · have hna : ¬ a.name = n := fun e => hn (ha.symm.trans e)
          rw [List.filter_cons_of_neg (by simpa using ha), ih, List.find?_cons_of_neg (by simpa using hna)]
        · rw [List.filter_cons_of_pos (by simpa using ha)]
          by_cases hna : a.name = n
          · rw [List.find?_cons_of_pos (by simpa using hna), List.find?_cons_of_pos (by simpa using hna)]
          · rw [List.find?_cons_of_neg (by simpa using hna), List.find?_cons_of_neg (by simpa using hna), ih]
  · rfl

/-- One session, of a host that no step means; the drives that it sees are known. -/
def hjC (sf : Nat → Option Obj) (g : Gh) (tn hn : ByteArray) (N : ByteArray → Prop) (F : ByteArray → Option Drv) : HJ where
  sfro := sf
  J H := H.ses = [⟨0, tn, hn, false⟩] ∧ H.g = g ∧ ∀ n, N n → dkD H.disks n = F n
  Q := calmQ tn hn N
  few H h := by rw [h.1]; simp
  quiet H p h hq hk := by
    rw [h.1]
    intro s hs
    rw [List.mem_singleton.1 hs]
    have := hq.1 hk
    unfold ofB
    rw [decide_eq_false_iff_not]
    exact fun e => this ⟨e.1.symm, e.2.symm⟩
  next H p h hq := by
    refine ⟨h.1, h.2.1, fun n hn' => ?_⟩
    show dkD (doD H.disks p) n = F n
    rw [dk_step fun hk e => hq.2 hk (e ▸ hn')]
    exact h.2.2 n hn'

theorem qq_calm {sf : Nat → Option Obj} {g : Gh} {tn hn : ByteArray} {N : ByteArray → Prop} {F : ByteArray → Option Drv} {p : Bool × Item} (h : calmQ tn hn N p) : QQ (hjC sf g tn hn N F) p := ⟨h, h⟩

end Go.Proofs.YtdlhgbhaeedbdabGreat

/- Texts that Print tells: plain mathematics. -/
namespace Go.Proofs.YtdlhgbhaeedbdabGreat
open Go.RowKit

/-- A text that Print tells of itself. -/
def Canon (s : ByteArray) : Prop := (chk s).1 = 0 ∧ prI (itemsOf s) = s

theorem prI_perm {l m : List Item} (h : ArrI l) (hp : l.Perm m) : prI l = prI m := by
  unfold prI
  rw [sortTo_all, sortTo_all, sorted_of_perm hp h.dist]

theorem Canon.arr {s : ByteArray} (h : Canon s) : ArrI (itemsOf s) := arrI_of_chk h.1

theorem prt_prI {s : ByteArray} (h : (chk s).1 = 0) : prt s = prI (itemsOf s) := by
  unfold prt prI
  rw [if_pos h]

theorem letter_ne {c : UInt8} (h : letter c) : c ≠ 0 := by
  unfold letter at h
  rintro rfl
  revert h
  decide

theorem dg_ne {n : Nat} (h : n ≤ 9) : dg n ≠ 0 := by
  have : ∀ n, n ≤ 9 → dg n ≠ 0 := by decide
  exact this n h
theorem md_ne (m : Nat) : md m ≠ 0 := by unfold md; split <;> decide

theorem text_nz {x : It} (hx : x.ok) : ∀ c ∈ x.text, c ≠ 0 := by
  obtain ⟨ha, hk⟩ := hx
  have hA : ∀ c ∈ x.a, c ≠ 0 := fun c hc => letter_ne (ha.2.2 c hc)
  intro c hc
  unfold It.text at hc
  rcases List.mem_append.1 hc with hc | hc
  · unfold It.body at hc
    rcases hk with ⟨e, hb, h1, h2, h3⟩ | ⟨e, hb, h1, h2⟩ | ⟨e, hb, h1, h2⟩ | ⟨e, hb, h1, h2⟩ | ⟨e, hb, h1, h2⟩
    · simp only [e, if_true, List.mem_append, List.mem_cons, List.not_mem_nil, or_false] at hc
      have := dg_ne h2
      rcases hc with (rfl | rfl | rfl | rfl | rfl) | hc | rfl | rfl <;> first | decide | exact hA _ hc | assumption
    · simp [e] at hc
      rcases hc with rfl | rfl | rfl | rfl | rfl | rfl | rfl | hc <;> first | decide | exact hA _ hc
    · have hB : ∀ c ∈ x.b, c ≠ 0 := fun c hc => letter_ne (hb.2.2 c hc)
      have h4 := dg_ne (n := x.n) (by omega)
      have h5 := md_ne x.m
      simp [e] at hc
      rcases hc with rfl | rfl | rfl | rfl | hc | rfl | rfl | rfl | hc | rfl | rfl | rfl <;> first | decide | exact hA _ hc | exact hB _ hc | assumption
    · have hB : ∀ c ∈ x.b, c ≠ 0 := fun c hc => letter_ne (hb.2.2 c hc)
      simp [e] at hc
      rcases hc with rfl | rfl | rfl | rfl | rfl | hc | rfl | hc <;> first | decide | exact hA _ hc | exact hB _ hc
    · have hB : ∀ c ∈ x.b, c ≠ 0 := fun c hc => letter_ne (hb.2.2 c hc)
      have h4 := dg_ne (n := x.n) (by omega)
      have h5 := dg_ne (n := x.m) (by omega)
      simp [e] at hc
      rcases hc with rfl | rfl | rfl | rfl | hc | rfl | hc | rfl | rfl | rfl | rfl <;> first | decide | exact hA _ hc | exact hB _ hc | assumption
  · simp at hc
    subst hc
    decide

theorem prI_txt {L : List It} (h : Arr L) : prI (L.map It.item) = txt (sortI L) := by
  rw [← h.prt, prt_prI (by rw [h.chk.1]), h.chk.2]

theorem prI_canon {t : List Item} (h : ArrI t) : Canon (prI t) ∧ (itemsOf (prI t)).Perm t ∧ (prI t).size ≤ 400 ∧ ∀ c ∈ (prI t).data.toList, c ≠ 0 := by
  obtain ⟨L, hL, rfl⟩ := h.arr
  have hM := arr_sortI hL
  rw [prI_txt hL]
  obtain ⟨h1, h2⟩ := hM.chk
  refine ⟨⟨by rw [h1], ?_⟩, ?_, ?_, ?_⟩
  · rw [h2, prI_txt hM]
    exact sortI_of_perm hM (sortI_perm L)
  · rw [h2]
    exact (sortI_perm L).map _
  · rw [txt_size]; exact hM.short
  · intro c hc
    simp only [txt, List.toList_toArray] at hc
    obtain ⟨x, hx, hcx⟩ := List.mem_flatMap.1 hc
    exact text_nz (hM.ok x hx) c hcx

theorem canon_nil : Canon ⟨#[]⟩ := by
  have hA : ArrI ([] : List Item) := ⟨by simp, ⟨by simp, by simp [sizeI]⟩, by unfold Dist; exact List.Pairwise.nil, by unfold Refs; simp⟩
  have : prI [] = ⟨#[]⟩ := rfl
  rw [← this]
  exact (prI_canon hA).1

theorem pl_canon {s t : ByteArray} (hs : (chk s).1 = 0) (ht : (chk t).1 = 0) : pl s t = stTxts (mk (itemsOf s) (itemsOf t)) := by
  have : plErr s t = 0 := by unfold plErr; rw [if_pos hs]; exact ht
  unfold pl
  rw [if_pos this]

theorem stTxts_len (l : List (Bool × Item)) : (stTxts l).length = l.length := by simp [stTxts]

end Go.Proofs.YtdlhgbhaeedbdabGreat

/- A site in memory (rackkeep.Site); what holds between its steps; 'config'. -/
namespace Go.Proofs.YtdlhgbhaeedbdabGreat
open Go.RowKit

/-- Other sites, that stay as they are. -/
def SiteFro (F : Nat → Option Obj) (w : World) (x : Nat) : Prop := ∀ k o, F k = some o → k ≠ x ∧ w.heap[k]? = some o ∧ ∃ cs fr, o = .cells cs 38 fr

theorem SiteFro.keep {F : Nat → Option Obj} {T : TypeId → Prop} {w w' : World} {x : Nat} (h : SiteFro F w x) (hk : TK T w w') (h1 : ¬ T 38) : SiteFro F w' x := by
  intro k o e
  obtain ⟨a1, a2, cs, fr, rfl⟩ := h k o e
  exact ⟨a1, (hk.block k cs _ fr a2 h1).trans a2, cs, fr, rfl⟩

theorem SiteFro.set {F : Nat → Option Obj} {w : World} {x : Nat} (h : SiteFro F w x) (o : Nat) (u : Value) : SiteFro F (w.setCell ⟨x, o, none⟩ u) x := by
  intro k o' e
  obtain ⟨a1, a2, a3⟩ := h k o' e
  exact ⟨a1, (block_set_ne _ a1).trans a2, a3⟩

theorem SiteFro.none (w : World) (x : Nat) : SiteFro (fun _ => Option.none) w x := fun _ _ e => by cases e

/-- A site in block x: its device in block b, its rack, the texts of which one lasts, the plan's, how many steps are left. -/
structure SiteAt (F : Nat → Option Obj) (w : World) (x b : Nat) (rp : Option Addr) (A : List ByteArray) (G : ByteArray) (n : Nat) : Prop where
  ty : ∃ cs fr, w.heap[x]? = some (Obj.cells cs 38 fr)
  c0 : w.cell? ⟨x, 0, none⟩ = some (.pointer (some ⟨b, 0, none⟩))
  c1 : w.cell? ⟨x, 1, none⟩ = some (.pointer rp)
  c2 : ∃ v, w.cell? ⟨x, 2, none⟩ = some v ∧ w.ownsRow (b + 1) 9 1 v A.length (A.map Value.string)
  c3 : w.cell? ⟨x, 3, none⟩ = some (.string G)
  c4 : w.cell? ⟨x, 4, none⟩ = some (.int .i64 n)
  fz : ∀ o, w.frozen? ⟨x, o, none⟩ = false
  lt : x < w.heap.size
  bx : b < x
  fro : SiteFro F w x

theorem SiteAt.keep {F : Nat → Option Obj} {T : TypeId → Prop} {w w' : World} {x b : Nat} {rp : Option Addr} {A : List ByteArray} {G : ByteArray} {n : Nat} (h : SiteAt F w x b rp A G n) (hk : TK T w w') (h1 : ¬ T 38) (h2 : ¬ T 9) : SiteAt F w' x b rp A G n := by
  obtain ⟨⟨cs, fr, hty⟩, c0, c1, ⟨v, c2, hrow⟩, c3, c4, fz, lt, bx, hfro⟩ := h
  have hb := hk.block x cs _ fr hty h1
  have hc : ∀ o, w'.cell? ⟨x, o, none⟩ = w.cell? ⟨x, o, none⟩ := fun o => World.cell?_of_block hb
  have hf : ∀ o, w'.frozen? ⟨x, o, none⟩ = w.frozen? ⟨x, o, none⟩ := fun o => World.frozen?_of_block hb
  exact ⟨⟨cs, fr, hb.trans hty⟩, (hc _).trans c0, (hc _).trans c1, ⟨v, (hc _).trans c2, hk.row h2 hrow⟩, (hc _).trans c3, (hc _).trans c4, fun o => (hf o).trans (fz o), Nat.lt_of_lt_of_le lt hk.size, bx, hfro.keep hk h1⟩

theorem SiteAt.later {F : Nat → Option Obj} {w w' : World} {x b : Nat} {rp : Option Addr} {A : List ByteArray} {G : ByteArray} {n : Nat} (h : SiteAt F w x b rp A G n) (hk : Below w.heap.size w w') : SiteAt F w' x b rp A G n :=
  h.keep (T := fun _ => False) (TK.of_below hk) id id

/-- The site's own block. -/
def X1 (t : TypeId) : Prop := t = 38
theorem x1_str : ¬ X1 9 := by unfold X1; decide
theorem x1_dev : ¬ X1 120 := by unfold X1; decide
theorem x1_late : ¬ X1 147 := by unfold X1; decide
theorem x1_rack : ¬ X1 79 := by unfold X1; decide
theorem x1_item : ¬ X1 83 := by unfold X1; decide
theorem nh_x1 : NH X1 := ⟨by unfold X1; decide, by unfold X1; decide, by unfold X1; decide, by unfold X1; decide⟩
theorem x1_step : ¬ X1 157 := by unfold X1; decide
theorem kt_site : ¬ KT 38 := by unfold KT AT KB; decide
theorem kt_str : ¬ KT 9 := by unfold KT AT KB; decide
theorem k0_site : ¬ KT0 38 := by unfold KT0 KB; decide
theorem k0_str : ¬ KT0 9 := by unfold KT0 KB; decide
theorem k1_site : ¬ K1 38 := by unfold K1 KB; decide
theorem k1_str : ¬ K1 9 := by unfold K1 KB; decide
theorem k1_dev : ¬ K1 120 := by unfold K1 KB; decide
theorem k1_late : ¬ K1 147 := by unfold K1 KB; decide

theorem SiteAt.setTK {F : Nat → Option Obj} {w : World} {x b : Nat} {rp : Option Addr} {A : List ByteArray} {G : ByteArray} {n : Nat} (h : SiteAt F w x b rp A G n) (o : Nat) (u : Value) : TK X1 w (w.setCell ⟨x, o, none⟩ u) := by
  obtain ⟨cs, fr, hty⟩ := h.ty
  exact TK.setCell (T := X1) hty rfl u

theorem SiteAt.put1 {F : Nat → Option Obj} {w : World} {x b : Nat} {rp : Option Addr} {A : List ByteArray} {G : ByteArray} {n : Nat} (h : SiteAt F w x b rp A G n) (rp' : Option Addr) : SiteAt F (w.setCell ⟨x, 1, none⟩ (.pointer rp')) x b rp' A G n := by
  have hk := h.setTK 1 (.pointer rp')
  obtain ⟨hty, c0, c1, ⟨v, c2, hrow⟩, c3, c4, fz, lt, bx, hfro⟩ := h
  exact ⟨ty_set hty _, cell_set_ne c0 (by omega), World.cell?_setCell_same _ _ _ c1, ⟨v, cell_set_ne c2 (by omega), hk.row x1_str hrow⟩, cell_set_ne c3 (by omega), cell_set_ne c4 (by omega), fun o => by simp [fz o], by simpa [World.setCell] using lt, bx, hfro.set _ _⟩

theorem SiteAt.put2 {F : Nat → Option Obj} {w : World} {x b : Nat} {rp : Option Addr} {A A' : List ByteArray} {G : ByteArray} {n : Nat} (h : SiteAt F w x b rp A G n) {v : Value} (ho : w.ownsRow (b + 1) 9 1 v A'.length (A'.map Value.string)) : SiteAt F (w.setCell ⟨x, 2, none⟩ v) x b rp A' G n := by
  have hk := h.setTK 2 v
  obtain ⟨hty, c0, c1, ⟨v', c2, hrow⟩, c3, c4, fz, lt, bx, hfro⟩ := h
  exact ⟨ty_set hty _, cell_set_ne c0 (by omega), cell_set_ne c1 (by omega), ⟨v, World.cell?_setCell_same _ _ _ c2, hk.row x1_str ho⟩, cell_set_ne c3 (by omega), cell_set_ne c4 (by omega), fun o => by simp [fz o], by simpa [World.setCell] using lt, bx, hfro.set _ _⟩

theorem SiteAt.put3 {F : Nat → Option Obj} {w : World} {x b : Nat} {rp : Option Addr} {A : List ByteArray} {G : ByteArray} {n : Nat} (h : SiteAt F w x b rp A G n) (G' : ByteArray) : SiteAt F (w.setCell ⟨x, 3, none⟩ (.string G')) x b rp A G' n := by
  have hk := h.setTK 3 (.string G')
  obtain ⟨hty, c0, c1, ⟨v, c2, hrow⟩, c3, c4, fz, lt, bx, hfro⟩ := h
  exact ⟨ty_set hty _, cell_set_ne c0 (by omega), cell_set_ne c1 (by omega), ⟨v, cell_set_ne c2 (by omega), hk.row x1_str hrow⟩, World.cell?_setCell_same _ _ _ c3, cell_set_ne c4 (by omega), fun o => by simp [fz o], by simpa [World.setCell] using lt, bx, hfro.set _ _⟩

theorem SiteAt.put4 {F : Nat → Option Obj} {w : World} {x b : Nat} {rp : Option Addr} {A : List ByteArray} {G : ByteArray} {n : Nat} (h : SiteAt F w x b rp A G n) (n' : Nat) : SiteAt F (w.setCell ⟨x, 4, none⟩ (.int .i64 n')) x b rp A G n' := by
  have hk := h.setTK 4 (.int .i64 n')
  obtain ⟨hty, c0, c1, ⟨v, c2, hrow⟩, c3, c4, fz, lt, bx, hfro⟩ := h
  exact ⟨ty_set hty _, cell_set_ne c0 (by omega), cell_set_ne c1 (by omega), ⟨v, cell_set_ne c2 (by omega), hk.row x1_str hrow⟩, cell_set_ne c3 (by omega), World.cell?_setCell_same _ _ _ c4, fun o => by simp [fz o], by simpa [World.setCell] using lt, bx, hfro.set _ _⟩

theorem SiteAt.first {F : Nat → Option Obj} {w : World} {x b : Nat} {rp : Option Addr} {A : List ByteArray} {G : ByteArray} {n : Nat} (h : SiteAt F w x b rp A G n) (hA : A ≠ []) : ∃ g cap, w.cell? ⟨x, 2, none⟩ = some (.slice (some ⟨g, 0, none⟩) A.length cap) ∧ StrsIn w g 0 A := by
  obtain ⟨v, c2, hrow⟩ := h.c2
  obtain ⟨_, ⟨rfl, h0⟩ | ⟨g, cap, cur, rfl, hb, hg, hc, _⟩⟩ := id hrow
  · exact absurd (List.length_eq_zero_iff.1 h0) hA
  · refine ⟨g, cap, c2, (hrow.lt g rfl).2, fun i hi => ?_⟩
    have := hrow.cells (g := g) rfl i (.string A[i]) (by simp [hi])
    rw [addr_add] at this
    rw [Nat.zero_add]
    exact this

/-- The device: with power all is flushed, and one of the texts is held; without, whatever of the late writes lasts, one of them. -/
def DevAt (w : World) (b : Nat) (A : List ByteArray) (l : Int) (d : Bool) : Prop :=
  ∃ S E U, ApiAt w b S E U l d ∧ l ≤ 9223372036854775807 ∧ U.length ≤ 13 ∧ (∀ x ∈ U, x.sec < 64 ∧ x.data.size = 32) ∧ (d = false → U = [] ∧ E = S ∧ held S ∈ A) ∧ (d = true → ∀ keep, held (updB keep S U U.length) ∈ A)

theorem DevAt.keep {T : TypeId → Prop} {w w' : World} {b : Nat} {A : List ByteArray} {l : Int} {d : Bool} (h : DevAt w b A l d) (hk : TK T w w') (h1 : ¬ T 120) (h2 : ¬ T 147) : DevAt w' b A l d := by
  obtain ⟨S, E, U, ha, h⟩ := h
  exact ⟨S, E, U, ha.keep hk h1 h2, h⟩

theorem DevAt.c4 {w : World} {b : Nat} {A : List ByteArray} {l : Int} {d : Bool} (h : DevAt w b A l d) : w.cell? ⟨b, 4098, none⟩ = some (.bool d) := by
  obtain ⟨S, E, U, ha, _⟩ := h
  exact ha.c4

theorem DevAt.lt {w : World} {b : Nat} {A : List ByteArray} {l : Int} {d : Bool} (h : DevAt w b A l d) : b < w.heap.size := by
  obtain ⟨S, E, U, ha, _⟩ := h
  exact ha.lt

/-- A rack with power: T lasts; n steps are left of the plan to t. -/
def RackI (Mj : HJ) (w : World) (r b : Nat) (T : ByteArray) (t : List Item) (n : Nat) : Prop :=
  ∃ l did left, RackAt Mj w r b l did left ∧ n = left.length ∧ did.length + left.length ≤ 48 ∧
    ((left = [] ∧ did = [] ∧ l.Perm (itemsOf T)) ∨ (0 < left.length ∧ ∃ l0, l0.Perm (itemsOf T) ∧ Way l0 l t did left ∧ did ++ left = mk l0 t))

theorem RackI.keep {Mj : HJ} {T : TypeId → Prop} {w w' : World} {r b : Nat} {s : ByteArray} {t : List Item} {n : Nat} (h : RackI Mj w r b s t n) (hk : TK T w w') (h1 : ¬ T 79) (h2 : ¬ T 83) (h3 : ¬ T 157) (h4 : NH T) : RackI Mj w' r b s t n := by
  obtain ⟨l, did, left, hR, h⟩ := h
  exact ⟨l, did, left, hR.keep hk h1 h2 h3 h4, h⟩

/-- What holds of a site between its steps. -/
structure Inv (Mj : HJ) (w : World) (x b : Nat) (A : List ByteArray) (G : ByteArray) (n : Nat) (rp : Option Nat) (l : Int) (d : Bool) (t : List Item) : Prop where
  site : SiteAt Mj.sfro w x b (rp.map fun r => ⟨r, 0, none⟩) A G n
  dev : DevAt w b A l d
  canon : ∀ s ∈ A, Canon s
  ne : A ≠ []
  rack : (rp = none ∧ n = 0) ∨ ∃ r, rp = some r ∧ ((d = true ∧ DeadAt w r) ∨ (d = false ∧ ∃ T, A = [T] ∧ RackI Mj w r b T t n))
  goal : d = false → 0 < n → G = prI t ∧ ArrI t

/-- What a step of the site may change. -/
def XT (t : TypeId) : Prop := KT t ∨ X1 t ∨ t = 9

set_option maxRecDepth 100000 in
set_option maxHeartbeats 400000 in
theorem sconfig_any {Mj : HJ} {F : Nat → Option Obj} (x b r : Nat) (A : List ByteArray) (G s : ByteArray) (n : Nat) (l : List Item) (did left : List (Bool × Item)) (w : World) (hl : Fits l) (hx : SiteAt F w x b (some ⟨r, 0, none⟩) A G n) (h : RackAt Mj w r b l did left) :
    Calls Tryz.prog 33 #[.pointer (some ⟨x, 0, none⟩), .string s] w fun e w' => e = .returned (.bool (decide (prI l = s))) ∧ Below w.heap.size w w' := by
  have c1 := hx.c1
  have HC := hide (config_any r b l did left w hl h)
  clear h hx
  by_cases hs : prI l = s
  · have hs' : ((prI l).toList == s.toList) = true := by rw [hs]; simp
    rw [decide_eq_true hs]
    clear hs
    generalize prI l = T at *
    go_enter Tryz.func33, Tryz.ntmps33
    go_wp2_with fail
    refine (unhide HC).mono ?_
    rintro e w1 ⟨rfl, hb1⟩
    go_wp2
    go_ret
    exact ⟨rfl, hb1⟩
  · have hs' : ((prI l).toList == s.toList) = false := by
      rw [beq_eq_false_iff_ne]; exact fun e => hs (tl_inj e)
    rw [decide_eq_false hs]
    clear hs
    generalize prI l = T at *
    go_enter Tryz.func33, Tryz.ntmps33
    go_wp2_with fail
    refine (unhide HC).mono ?_
    rintro e w1 ⟨rfl, hb1⟩
    go_wp2
    go_ret
    exact ⟨rfl, hb1⟩

end Go.Proofs.YtdlhgbhaeedbdabGreat
