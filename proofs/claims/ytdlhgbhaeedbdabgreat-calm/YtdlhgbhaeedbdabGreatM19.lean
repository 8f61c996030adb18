/- Rk2, Rk3, Rk4. -/
import Derived.Test.YtdlhgbhaeedbdabGreatM18
import Derived.Test.YtdlhgbhaeedbdabGreatM11
import Derived.Deep.RegionWith
import Derived.Lib.ConvBytes

/- 'Rack.end', 'Rack.do'. -/
namespace Go.Proofs.YtdlhgbhaeedbdabGreat
open Go.RowKit

/-- A cell of the rack's block is written. -/
theorem RackF.setTK {w : World} {r b : Nat} {l : List Item} {did left : List (Bool × Item)} {H : Hs} (h : RackF w r b l did left H) (o : Nat) (u : Value) : TK (fun t => t = 79) w (w.setCell ⟨r, o, none⟩ u) := by
  obtain ⟨cs, fr, hty⟩ := h.ty
  exact TK.setCell (T := fun t => t = 79) hty rfl u

/-- What a call on a rack changes that does not call the device. -/
def KT0 (t : TypeId) : Prop := KB t ∨ t = 157
/-- The rack and its drives alone. -/
def K1 (t : TypeId) : Prop := KB t
theorem tk_kt {w w' : World} (h : TK (fun t => t = 79) w w') : TK K1 w w' := h.mono fun _ e => .inl e
theorem tk_10 {w w' : World} (h : TK K1 w w') : TK KT0 w w' := h.mono fun _ e => .inl e
theorem tk_up {w w' : World} (h : TK KT0 w w') : TK KT w w' := h.mono fun _ e => .inr e
theorem tk_at {w w' : World} (h : TK AT w w') : TK KT w w' := h.mono fun _ e => .inl e
theorem not_k0dev : ¬ KT0 120 := by unfold KT0 KB; decide
theorem not_k0late : ¬ KT0 147 := by unfold KT0 KB; decide
theorem not_k1step : ¬ K1 157 := by unfold K1 KB; decide

theorem ne_item : ¬ ((fun t => t = 79) 83) := by decide
theorem ne_step : ¬ ((fun t => t = 79) 157) := by decide

theorem LeftAt.keep {T : TypeId → Prop} {w w' : World} {g : Nat} {v : Value} {l : List (Bool × Item)} (h : LeftAt w g v l) (hk : TK T w w') (h3 : ¬ T 157) : LeftAt w' g v l :=
  h.block fun ⟨cs', fr', ht'⟩ => hk.block g cs' _ fr' ht' h3

theorem nh_rack : NH (fun t => t = 79) := ⟨by decide, by decide, by decide, by decide⟩

/-- A cell of the rack's block that is not the hosts'. -/
theorem HostsAt.set {w : World} {r b o : Nat} {H : Hs} (h : HostsAt w r b H) (hty : ∃ cs fr, w.heap[r]? = some (Obj.cells cs 79 fr)) (ho : o < 2 ∨ 4 < o) (u : Value) : HostsAt (w.setCell ⟨r, o, none⟩ u) r b H := by
  obtain ⟨cs, fr, hty⟩ := hty
  exact h.keep (TK.setCell (T := fun t => t = 79) hty rfl u) nh_rack (fun o' h1 h2 => World.cell?_setCell_other _ _ _ _ (by intro e; simp only [Addr.mk.injEq] at e; omega)) fun hG => hG.set o u

theorem RackF.put1 {w : World} {r b : Nat} {l l' : List Item} {did left : List (Bool × Item)} {H : Hs} (h : RackF w r b l did left H) {v : Value} (ho : w.ownsRow (b + 1) 83 9 v l'.length (allCells l')) : RackF (w.setCell ⟨r, 1, none⟩ v) r b l' did left H := by
  have hk := h.setTK 1 v
  obtain ⟨hty, c0, ⟨v1, c1, hrow⟩, ⟨g, v2, v3, hg, c2, c3, hdid, hleft, hn⟩, c4, fz, lt, br, hs⟩ := h
  exact ⟨ty_set hty _, cell_set_ne c0 (by omega), ⟨v, by go_simp, hk.row ne_item ho⟩, ⟨g, v2, v3, hg, cell_set_ne c2 (by omega), cell_set_ne c3 (by omega), hk.row ne_step hdid, hleft.keep hk ne_step, hn⟩, cell_set_ne c4 (by omega), fun o => by simp [fz o], by simpa [World.setCell] using lt, br, hs.set hty (by omega) _⟩

/-- No plan is under way. -/
theorem RackF.ended {w : World} {r b : Nat} {l : List Item} {did left : List (Bool × Item)} {H : Hs} (h : RackF w r b l did left H) : RackF ((w.setCell ⟨r, 5, none⟩ (.slice none 0 0)).setCell ⟨r, 6, none⟩ (.slice none 0 0)) r b l [] [] H ∧
    TK K1 w ((w.setCell ⟨r, 5, none⟩ (.slice none 0 0)).setCell ⟨r, 6, none⟩ (.slice none 0 0)) ∧ Below b w ((w.setCell ⟨r, 5, none⟩ (.slice none 0 0)).setCell ⟨r, 6, none⟩ (.slice none 0 0)) := by
  have hk := h.setTK 5 (.slice none 0 0)
  obtain ⟨hty, c0, ⟨v1, c1, hrow⟩, ⟨g, v2, v3, hg, c2, c3, hdid, hleft, hn⟩, c4, fz, lt, br, hs⟩ := h
  obtain ⟨cs, fr, hty'⟩ := ty_set (o := 5) hty (.slice none 0 0)
  have hk2 : TK (fun t => t = 79) _ ((w.setCell ⟨r, 5, none⟩ (.slice none 0 0)).setCell ⟨r, 6, none⟩ (.slice none 0 0)) := TK.setCell (T := fun t => t = 79) hty' rfl _
  refine ⟨⟨ty_set (ty_set hty _) _, cell_set_ne (cell_set_ne c0 (by omega)) (by omega), ⟨v1, cell_set_ne (cell_set_ne c1 (by omega)) (by omega), hk2.row ne_item (hk.row ne_item hrow)⟩,
    ⟨b, .slice none 0 0, .slice none 0 0, Nat.le_refl _, cell_set_ne (by go_simp) (by omega), by go_simp, World.ownsRow_nil _ _ _ _, .inl ⟨rfl, none, 0, rfl⟩, fun _ => rfl⟩, cell_set_ne (cell_set_ne c4 (by omega)) (by omega), fun o => by simp [fz o], by simpa [World.setCell] using lt, br, (hs.set hty (by omega) _).set (ty_set hty _) (by omega) _⟩, tk_kt (hk.trans hk2), ?_⟩
  exact ((Below.refl _ _).setCell (p := ⟨r, 5, none⟩) (Nat.le_of_lt br) _).setCell (p := ⟨r, 6, none⟩) (Nat.le_of_lt br) _

/-- What a call leaves that answers nothing. -/
def RackEnd (r b : Nat) (l : List Item) (did left : List (Bool × Item)) (H : Hs) (w : World) (e : Ending) (w' : World) : Prop :=
  e = .returned (.tuple #[]) ∧ RackF w' r b l did left H ∧ TK K1 w w' ∧ Below b w w'

set_option maxRecDepth 100000 in
set_option maxHeartbeats 400000 in
theorem end_any (r b : Nat) (l : List Item) (did left : List (Bool × Item)) (H : Hs) (w : World) (h : RackF w r b l did left H) :
    Calls Tryz.prog 137 #[.pointer (some ⟨r, 0, none⟩)] w fun e w' => RackEnd r b l [] [] H w e w' := by
  obtain ⟨h1, h2, h3⟩ := h.ended
  obtain ⟨hty, c0, ⟨v1, c1, hrow⟩, ⟨g, v2, v3, hg, c2, c3, hdid, hleft, hn⟩, c4, fz, lt, br, hs⟩ := h
  have H1 := hide h1
  clear h1 hrow hdid hleft hn c0 c1 c4 hs
  go_enter Tryz.func137, Tryz.ntmps137
  go_wp2_with fail
  go_end0
  exact ⟨rfl, unhide H1, h2, h3⟩

/-- May the step be done: it means no session, and a disk's size is small. -/
structure Mild (H : Hs) (p : Bool × Item) : Prop where
  few : H.ses.length ≤ 8
  disks : H.disks.length ≤ 24
  size : 0 ≤ p.2.size ∧ p.2.size ≤ 9
  quiet : p.2.kind = 3 ∨ p.2.kind = 4 → ∀ s ∈ H.ses, ofB p.2.name p.2.host s = false

theorem doH_other {H : Hs} {p : Bool × Item} (h : p.2.kind ≠ 0) : doH H p = H := by simp [doH, doD, h]

set_option maxRecDepth 100000 in
set_option maxHeartbeats 800000 in
theorem do_any (r b : Nat) (l : List Item) (did left : List (Bool × Item)) (p : Bool × Item) (H : Hs) (w : World) (hl : l.length ≤ 24) (hm : Mild H p) (h : RackF w r b l did left H) :
    Calls Tryz.prog 101 #[.pointer (some ⟨r, 0, none⟩), .agg (stCells p.1 p.2)] w fun e w' => RackEnd r b (doI p.1 l p.2) did left (doH H p) w e w' ∧ ∀ o, o ≠ 1 → o ≠ 2 → w'.cell? ⟨r, o, none⟩ = w.cell? ⟨r, o, none⟩ := by
  obtain ⟨pb, y⟩ := p
  simp only [stCells]
  have hbn := below_new w (.cells #[.bool pb, .int .i64 y.kind, .string y.name, .string y.host, .int .i64 y.number, .int .i64 y.size, .string y.disk, .bool y.only, .int .i64 y.lun, .string y.text] 157)
  have hn0 := StAt.new w pb y
  have hsz0 : (w.alloc (.cells #[.bool pb, .int .i64 y.kind, .string y.name, .string y.host, .int .i64 y.number, .int .i64 y.size, .string y.disk, .bool y.only, .int .i64 y.lun, .string y.text] 157)).heap.size = w.heap.size + 1 := by simp
  have hR0 := h.later hbn
  have hlt := h.lt
  have hbr := h.br
  have Hm := hide hm
  clear h hm
  go_enter Tryz.func101, Tryz.ntmps101
  go_wp2_with fail
  generalize hW : w.alloc (.cells #[.bool pb, .int .i64 y.kind, .string y.name, .string y.host, .int .i64 y.number, .int .i64 y.size, .string y.disk, .bool y.only, .int .i64 y.lun, .string y.text] 157) = w0 at *
  clear hW
  have Hn0 := hide hn0
  obtain ⟨b0, b1, b2, b3, b4, b5, b6, b7, b8, b9⟩ := hn0.zero
  obtain ⟨v, c1, hrow⟩ := hR0.c1
  have HA := hide fun (n : Nat) => after_at pb v l y (w0.drewN n) hl (items_of_owns (owns_later hrow (below_drewN (Below.refl _ _) n)))
  have HR := hide hR0
  have hfz := hR0.fz
  have hlt0 := hR0.lt
  clear hR0 hrow hn0
  go_region_with (go_at_call 131; refine (unhide HA 1).mono ?_; rintro e w1 ⟨v', rfl, hown, hb1⟩; obtain ⟨va, vc, rfl⟩ := slice_of_owns hown; have c1' := (hb1.cell (p := ⟨r, 1, none⟩) hlt0).trans c1; have hfz' : ∀ o, w1.frozen? ⟨r, o, none⟩ = false := fun o => (hb1.frozen (p := ⟨r, o, none⟩) hlt0).trans (hfz o))
  all_goals
    have hb01 : Below w0.heap.size w0 w1 := (below_drewN (Below.refl w0.heap.size w0) 1).trans hb1
    have hR1 := (unhide HR).later hb01
    have hs0 := hR1.lt
    have hown1 := owns_mono (base' := b + 1) hown (show b + 1 ≤ w0.heap.size by omega)
    have hR2 := hR1.put1 hown1
    have hb02 : Below w.heap.size w w1 := hbn.trans (hb01.mono (by omega))
    have ht2 : TK K1 w _ := (TK.of_below hb02).trans (tk_kt (hR1.setTK 1 (.slice va (doI pb l y).length vc)))
    have hbe2 : Below b w _ := (hb02.mono (by omega : b ≤ w.heap.size)).setCell (p := ⟨r, 1, none⟩) (by simp; omega) (.slice va (doI pb l y).length vc)
    have hoth : ∀ o, o ≠ 1 → (w1.setCell ⟨r, 1, none⟩ (.slice va (doI pb l y).length vc)).cell? ⟨r, o, none⟩ = w.cell? ⟨r, o, none⟩ := fun o ho => by
      rw [World.cell?_setCell_other _ _ _ _ (by intro e; simp only [Addr.mk.injEq] at e; omega)]
      exact hb02.cell (p := ⟨r, o, none⟩) hlt
    have hst2 : StAt (w1.setCell ⟨r, 1, none⟩ (.slice va (doI pb l y).length vc)) w.heap.size 0 (pb, y) := ((unhide Hn0).below hb01 (by omega)).of_cells fun o => World.cell?_setCell_other _ _ _ _ (by intro e; simp only [Addr.mk.injEq] at e; omega)
    have hsz2 : w.heap.size < (w1.setCell ⟨r, 1, none⟩ (.slice va (doI pb l y).length vc)).heap.size := by have := hb01.size; simp [World.setCell]; omega
    clear c1' hfz' hown hown1 b0 b1 b2 b3 b4 b5 b6 b7 b8 b9 HA HR hR1 hb01 hb02 hs0 hb1
    generalize hl' : doI pb l y = l' at *
    generalize hw2 : w1.setCell ⟨r, 1, none⟩ (.slice va l'.length vc) = w2 at *
    have HL' := hide hl'
    clear hl' hw2
    obtain ⟨b0, b1, b2, b3, b4, b5, b6, b7, b8, b9⟩ := hst2.zero
    simp only at b0 b1 b2 b3 b4 b5 b6 b7 b8 b9
    have hbk := below_new w2 (.cells #[.int .i64 y.kind, .string y.name, .string y.host, .int .i64 y.number] 81)
    have hlt2 := hR2.lt
    have HRk := hide (hR2.later hbk)
    have HT := hide (ht2.trans (TK.of_below hbk))
    have HB := hide (hbe2.trans (hbk.mono (show b ≤ w2.heap.size by omega)))
    have HO : Hid (∀ o, o ≠ 1 → (w2.alloc (.cells #[.int .i64 y.kind, .string y.name, .string y.host, .int .i64 y.number] 81)).cell? ⟨r, o, none⟩ = w.cell? ⟨r, o, none⟩) := hide (fun o ho => (hbk.cell (p := ⟨r, o, none⟩) hlt2).trans (hoth o ho))
    have hlk : b < (w2.alloc (.cells #[.int .i64 y.kind, .string y.name, .string y.host, .int .i64 y.number] 81)).heap.size := by simp; omega
    clear hR2 ht2 hbe2 hoth hbk hst2 c1 hfz
    by_cases k0 : y.kind = 0
    · have k0' : (((y.kind : Nat) : Int) == 0) = true := by rw [k0]; rfl
      obtain ⟨sz, hsz⟩ : ∃ n : Nat, y.size = n := ⟨y.size.toNat, by have := (unhide Hm).size.1; simp only at this; omega⟩
      rw [hsz] at b5
      cases pb with
      | true =>
        have HA := hide fun (n : Nat) => (show ∃ v B, B.map Bk.d = H.disks ∧ BOut H.g.out v B ∧ Calls Tryz.prog 118 #[.pointer (some ⟨r, 2, none⟩), .string y.name, .int .i64 sz] ((w2.alloc (.cells #[.int .i64 y.kind, .string y.name, .string y.host, .int .i64 y.number] 81)).drewN n) fun e w' => AddEnd r b v B ⟨y.name, List.replicate sz 0, -1⟩ ((w2.alloc (.cells #[.int .i64 y.kind, .string y.name, .string y.host, .int .i64 y.number] 81)).drewN n) e w' from by
          have hR1 := (unhide HRk).later (below_drewN (Below.refl _ _) n)
          obtain ⟨v, B, c2, hB, e, hO⟩ := hR1.hs.bank
          have hBl : B.length = H.disks.length := by rw [← List.length_map (f := Bk.d), e]
          have h24 := (unhide Hm).disks
          have h9 := (unhide Hm).size.2
          simp only at h9
          exact ⟨v, B, e, hO, add_any r b sz y.name v B _ (by omega) (by omega) hR1.br hR1.ty c2 (hR1.fz 2) hB⟩)
        have hD : doH H (true, y) = { H with disks := H.disks ++ [⟨y.name, List.replicate sz 0, -1⟩] } := by simp [doH, doD, addD, k0, hsz]
        have HD := hide hD
        clear hD hsz k0
        go_wp2_with fail
        go_region_with (go_at_call 118; obtain ⟨bv, B, eB, hO, hcall⟩ := unhide HA 1; refine hcall.mono ?_; rintro e w4 ⟨rfl, ⟨v', q, hq, c2', hB', hO4⟩, htk4, hbe4, hrc4, hft4⟩; have HO4 := hide hO4; have HF4 := hide hft4; clear hO4 hft4)
        all_goals
          have hb0 := below_drewN (Below.refl (w2.alloc (.cells #[.int .i64 y.kind, .string y.name, .string y.host, .int .i64 y.number] 81)).heap.size (w2.alloc (.cells #[.int .i64 y.kind, .string y.name, .string y.host, .int .i64 y.number] 81))) 1
          have hG4 := ((unhide HRk).later hb0).hs.gap
          have hR4 := ((unhide HRk).later hb0).banked htk4 hrc4 ⟨v', _, c2', hB', rfl, unhide HO4 _ hG4.lt hO⟩ (hG4.feet hO (unhide HF4))
          rw [List.map_append, eB, List.map_singleton, hq] at hR4
          have htk5 := ((unhide HT).trans (TK.of_below hb0)).trans htk4
          have hbe5 := ((unhide HB).trans (hb0.mono (Nat.le_of_lt hlk))).trans (hbe4.mono (Nat.le_succ b))
          have ho5 : ∀ o, o ≠ 1 → o ≠ 2 → w4.cell? ⟨r, o, none⟩ = w.cell? ⟨r, o, none⟩ := fun o h1 h2 => (hrc4.cell o h2).trans (unhide HO o h1)
          clear hB' c2' htk4 hbe4 hrc4 HA hb0 hG4 hO HO4 HF4
          go_wp2
          go_end0
          exact ⟨⟨rfl, by rw [unhide HL', unhide HD]; exact hR4, htk5, hbe5⟩, ho5⟩
      | false =>
        have HA := hide fun (n : Nat) => (show ∃ v B, B.map Bk.d = H.disks ∧ BOut H.g.out v B ∧ Calls Tryz.prog 138 #[.pointer (some ⟨r, 2, none⟩), .string y.name] ((w2.alloc (.cells #[.int .i64 y.kind, .string y.name, .string y.host, .int .i64 y.number] 81)).drewN n) fun e w' => RemEnd r b v B y.name ((w2.alloc (.cells #[.int .i64 y.kind, .string y.name, .string y.host, .int .i64 y.number] 81)).drewN n) e w' from by
          have hR1 := (unhide HRk).later (below_drewN (Below.refl _ _) n)
          obtain ⟨v, B, c2, hB, e, hO⟩ := hR1.hs.bank
          have hBl : B.length = H.disks.length := by rw [← List.length_map (f := Bk.d), e]
          have h24 := (unhide Hm).disks
          exact ⟨v, B, e, hO, remove_any r b y.name v B _ (by omega) hR1.br hR1.ty c2 (hR1.fz 2) hB⟩)
        have hD : doH H (false, y) = { H with disks := remD H.disks y.name } := by simp [doH, doD, k0]
        have HD := hide hD
        clear hD hsz k0
        go_wp2_with fail
        go_region_with (go_at_call 138; obtain ⟨bv, B, eB, hO, hcall⟩ := unhide HA 1; refine hcall.mono ?_; rintro e w4 ⟨rfl, ⟨v', c2', hB', hO4⟩, htk4, hbe4, hrc4, hft4⟩; have HO4 := hide hO4; have HF4 := hide (fun k h1 h2 (_ : bv.ownBlock ≠ some k) => hft4 k h1 h2); clear hO4 hft4)
        all_goals
          have hb0 := below_drewN (Below.refl (w2.alloc (.cells #[.int .i64 y.kind, .string y.name, .string y.host, .int .i64 y.number] 81)).heap.size (w2.alloc (.cells #[.int .i64 y.kind, .string y.name, .string y.host, .int .i64 y.number] 81))) 1
          have hG4 := ((unhide HRk).later hb0).hs.gap
          have hR4 := ((unhide HRk).later hb0).banked htk4 hrc4 ⟨v', _, c2', hB', rfl, unhide HO4 _ hG4.lt hO⟩ (hG4.feet hO (unhide HF4))
          rw [remB_d, eB] at hR4
          have htk5 := ((unhide HT).trans (TK.of_below hb0)).trans htk4
          have hbe5 := ((unhide HB).trans (hb0.mono (Nat.le_of_lt hlk))).trans (hbe4.mono (Nat.le_succ b))
          have ho5 : ∀ o, o ≠ 1 → o ≠ 2 → w4.cell? ⟨r, o, none⟩ = w.cell? ⟨r, o, none⟩ := fun o h1 h2 => (hrc4.cell o h2).trans (unhide HO o h1)
          clear hB' c2' htk4 hbe4 hrc4 HA hb0 hG4 hO HO4 HF4
          go_wp2
          go_end0
          exact ⟨⟨rfl, by rw [unhide HL', unhide HD]; exact hR4, htk5, hbe5⟩, ho5⟩
    · have k0' : (((y.kind : Nat) : Int) == 0) = false := by rw [beq_eq_false_iff_ne]; omega
      have HD := hide (doH_other (H := H) (p := (pb, y)) k0)
      by_cases k3 : y.kind = 3
      · have k3' : (((y.kind : Nat) : Int) == 3) = true := by rw [k3]; rfl
        cases pb with
        | true =>
          clear k0 k3
          go_wp2_with fail
          go_end0
          exact ⟨⟨rfl, by rw [unhide HL', unhide HD]; exact unhide HRk, unhide HT, unhide HB⟩, fun o h1 _ => unhide HO o h1⟩
        | false =>
          have HE := hide (show Calls Tryz.prog 139 #[.pointer (some ⟨r, 0, none⟩), .string y.name, .string y.host] (w2.alloc (.cells #[.int .i64 y.kind, .string y.name, .string y.host, .int .i64 y.number] 81)) fun e w' => e = .returned (.tuple #[]) ∧ w' = w2.alloc (.cells #[.int .i64 y.kind, .string y.name, .string y.host, .int .i64 y.number] 81) from by
            obtain ⟨v, c3, hS, _⟩ := (unhide HRk).hs.ses
            exact ends_none r (b + 1) y.name y.host v H.ses _ (by have := (unhide Hm).few; omega) c3 hS ((unhide Hm).quiet (.inl k3)))
          clear k0 k3
          go_wp2_with fail
          refine (unhide HE).mono ?_
          rintro e w4 ⟨rfl, rfl⟩
          go_wp2_with fail
          go_end0
          exact ⟨⟨rfl, by rw [unhide HL', unhide HD]; exact unhide HRk, unhide HT, unhide HB⟩, fun o h1 _ => unhide HO o h1⟩
      · have k3' : (((y.kind : Nat) : Int) == 3) = false := by rw [beq_eq_false_iff_ne]; omega
        by_cases k4 : y.kind = 4
        · have k4' : (((y.kind : Nat) : Int) == 4) = true := by rw [k4]; rfl
          have HE := hide fun (n : Nat) => (show Calls Tryz.prog 140 #[.pointer (some ⟨r, 3, none⟩), .string y.name, .string y.host] ((w2.alloc (.cells #[.int .i64 y.kind, .string y.name, .string y.host, .int .i64 y.number] 81)).drewN n) fun e w' => e = .returned (.tuple #[]) ∧ w' = (w2.alloc (.cells #[.int .i64 y.kind, .string y.name, .string y.host, .int .i64 y.number] 81)).drewN n from by
            have hR1 := (unhide HRk).later (below_drewN (Below.refl _ _) n)
            obtain ⟨v, c3, hS, _⟩ := hR1.hs.ses
            exact tell_none r (b + 1) y.name y.host v H.ses _ (by have := (unhide Hm).few; omega) c3 hS ((unhide Hm).quiet (.inr k4)))
          clear k0 k3 k4
          go_wp2_with fail
          go_region_with (go_at_call 140; refine (unhide HE 1).mono ?_; rintro e w4 ⟨rfl, rfl⟩)
          all_goals
            have hb0 := below_drewN (Below.refl (w2.alloc (.cells #[.int .i64 y.kind, .string y.name, .string y.host, .int .i64 y.number] 81)).heap.size (w2.alloc (.cells #[.int .i64 y.kind, .string y.name, .string y.host, .int .i64 y.number] 81))) 1
            have hR4 := (unhide HRk).later hb0
            have htk5 := (unhide HT).trans (TK.of_below hb0)
            have hbe5 := (unhide HB).trans (hb0.mono (Nat.le_of_lt hlk))
            go_wp2
            go_end0
            exact ⟨⟨rfl, by rw [unhide HL', unhide HD]; exact hR4, htk5, hbe5⟩, fun o h1 _ => unhide HO o h1⟩
        · have k4' : (((y.kind : Nat) : Int) == 4) = false := by rw [beq_eq_false_iff_ne]; omega
          clear k0 k3 k4
          go_wp2_with fail
          go_end0
          exact ⟨⟨rfl, by rw [unhide HL', unhide HD]; exact unhide HRk, unhide HT, unhide HB⟩, fun o h1 _ => unhide HO o h1⟩

end Go.Proofs.YtdlhgbhaeedbdabGreat

/- 'Step.Opposite', 'Rack.undo'. -/
namespace Go.Proofs.YtdlhgbhaeedbdabGreat
open Go.RowKit

set_option maxRecDepth 100000 in
set_option maxHeartbeats 400000 in
theorem opp_any (p : Bool × Item) (w : World) :
    Calls Tryz.prog 136 #[.agg (stCells p.1 p.2)] w fun e w' => e = .returned (.agg (stCells (!p.1) p.2)) ∧ Below w.heap.size w w' := by
  have hnot : ∀ (x : Bool) (w : World), (Op.unary .not (.bool x)).run Tryz.prog w = .ok (.bool (!x)) w := fun _ _ => rfl
  obtain ⟨pb, y⟩ := p
  simp only [stCells]
  go_enter Tryz.func136, Tryz.ntmps136
  go_wp2
  refine bodyPost_ret (v := .agg #[.bool (!pb), .int .i64 y.kind, .string y.name, .string y.host, .int .i64 y.number, .int .i64 y.size, .string y.disk, .bool y.only, .int .i64 y.lun, .string y.text]) (by simp [results, Tryz.results136, go_sem]) rfl ⟨rfl, ?_⟩
  exact ((Below.refl w.heap.size w).alloc (Nat.le_refl _) _).alloc (by simp) _

theorem StepsAt.later {w w' : World} {v : Value} {l : List (Bool × Item)} (h : StepsAt w v l) (hb : Below w.heap.size w w') : StepsAt w' v l := by
  rcases h with h | ⟨g, cap, rfl, hg, hs⟩
  · exact .inl h
  · exact .inr ⟨g, cap, rfl, Nat.lt_of_lt_of_le hg hb.size, fun i hi => (hs i hi).below hb hg⟩

/-- The hosts, when all but the first k of the steps have been undone. -/
def undoH (H : Hs) (did : List (Bool × Item)) (k : Nat) : Hs := (flips (did.drop k).reverse).foldl doH H

theorem undoH_all (H : Hs) (did : List (Bool × Item)) : undoH H did did.length = H := by simp [undoH, flips]

theorem undoH_step (H : Hs) (did : List (Bool × Item)) (k : Nat) (hk : k < did.length) : undoH H did k = doH (undoH H did (k + 1)) (!did[k].1, did[k].2) := by
  unfold undoH
  rw [List.drop_eq_getElem_cons hk, List.reverse_cons]
  have : flips ((did.drop (k + 1)).reverse ++ [did[k]]) = flips (did.drop (k + 1)).reverse ++ [(!did[k].1, did[k].2)] := by simp [flips]
  rw [this, List.foldl_append]
  rfl

set_option maxRecDepth 100000 in
set_option maxHeartbeats 400000 in
theorem undo_any (r b : Nat) (l : List Item) (did left : List (Bool × Item)) (H : Hs) (w : World) (hd : did.length ≤ 48) (hl : ∀ k, (undoTo l did k).length ≤ 24) (hm : ∀ k (hk : k < did.length), Mild (undoH H did (k + 1)) (!did[k].1, did[k].2)) (h : RackF w r b l did left H) :
    Calls Tryz.prog 100 #[.pointer (some ⟨r, 0, none⟩)] w fun e w' => RackEnd r b (undoTo l did 0) [] [] (undoH H did 0) w e w' := by
  obtain ⟨g0, v20, v30, _, c20, _, hdid0, _, _⟩ := h.c2
  obtain ⟨da0, dc0, rfl⟩ := slice_of_owns hdid0
  have hbr0 := h.br
  have Hl := hide hl
  have Hm := hide hm
  have Hh := hide h
  clear hl h hdid0 hm
  go_enter Tryz.func100, Tryz.ntmps100
  go_wp2_with fail
  go_loopw [2] (fun kv wr => ∃ k : Nat, k ≤ did.length ∧ kv = .int .i64 ((k : Int) - 1) ∧ RackF wr r b (undoTo l did k) did left (undoH H did k) ∧ TK K1 w wr ∧ Below b w wr) (fun kv _ => (intOf kv + 1).toNat)
  case atStart => exact ⟨did.length, Nat.le_refl _, rfl, by rw [undoTo_all, undoH_all]; exact unhide Hh, TK.refl _ _, Below.refl _ _⟩
  case round =>
    obtain ⟨k, hk, rfl, hR, htk, hbe⟩ := hrel
    cases k with
    | zero =>
      have HE := hide (end_any r b _ did left _ wr hR)
      clear hR c20
      have e0 : ((0 : Nat) : Int) - 1 = -1 := by omega
      rw [e0]
      go_wp2_with fail
      refine (unhide HE).mono ?_
      rintro e w1 ⟨rfl, hR1, htk1, hbe1⟩
      go_wp2_with fail
      go_end0
      exact ⟨rfl, hR1, htk.trans htk1, hbe.trans hbe1⟩
    | succ j =>
      have ej : ((j + 1 : Nat) : Int) - 1 = (j : Int) := by omega
      rw [ej]
      have hjl : j < did.length := by omega
      obtain ⟨p, hp⟩ : ∃ p, p = did[j] := ⟨_, rfl⟩
      have hst := undoTo_step l did j hjl
      have hst2 := undoH_step H did j hjl
      have hmj := unhide Hm j hjl
      rw [← hp] at hst hst2 hmj
      have Hst := hide hst
      have Hst2 := hide hst2
      have Hmj := hide hmj
      obtain ⟨g, v2, v3, hg, c2, c3, hdid, hleft, _⟩ := hR.c2
      rcases steps_of_owns hdid with ⟨_, h0⟩ | ⟨gd, cap, rfl, hgd, hs⟩
      · rw [h0] at hjl; simp at hjl
      have hsj := hs j hjl
      rw [← hp] at hsj
      obtain ⟨d0, d1, d2, d3, d4, d5, d6, d7, d8, d9⟩ := hsj
      have hjl' : (j : Int) < (did.length : Int) := by omega
      have HO := hide (opp_any p wr)
      have hlr := hR.lt
      have HR := hide hR
      have Hl2 := hide (unhide Hl (j + 1))
      clear hst hst2 hmj hs hdid hleft hR ej hp c20
      obtain ⟨pb, y⟩ := p
      simp only [stCells] at HO
      go_wp2_with fail
      refine (unhide HO).mono ?_
      rintro e w1 ⟨rfl, hb1⟩
      have hbn := below_new w1 (.cells #[.bool (!pb), .int .i64 y.kind, .string y.name, .string y.host, .int .i64 y.number, .int .i64 y.size, .string y.disk, .bool y.only, .int .i64 y.lun, .string y.text] 157)
      have hbb : Below wr.heap.size wr _ := hb1.trans (hbn.mono hb1.size)
      have hR2 := (unhide HR).later hbb
      have HD := hide (do_any r b _ did left (!pb, y) _ _ (unhide Hl2) (unhide Hmj) hR2)
      have htk2 : TK K1 w _ := htk.trans (TK.of_below hbb)
      have hbe2 : Below b w _ := hbe.trans (hbb.mono (show b ≤ wr.heap.size by omega))
      simp only [stCells] at HD
      clear HR hR2 hbb hbn d0 d1 d2 d3 d4 d5 d6 d7 d8 d9 c2 c3
      go_wp2_with fail
      refine (unhide HD).mono ?_
      rintro e w3 ⟨⟨rfl, hR3, htk3, hbe3⟩, _⟩
      go_wp2_with fail
      go_roundw
      case rel => exact ⟨j, by omega, rfl, by rw [unhide Hst, unhide Hst2]; exact hR3, htk2.trans htk3, hbe2.trans hbe3⟩
      case measure => simp [intOf]

end Go.Proofs.YtdlhgbhaeedbdabGreat

/- 'Rack.Start'. -/
namespace Go.Proofs.YtdlhgbhaeedbdabGreat
open Go.RowKit

theorem bytesWorld_below (w : World) (s : ByteArray) : Below w.heap.size w (Go.Lib.bytesWorld w 5 s) :=
  ⟨rfl, rfl, rfl, by rw [Go.Lib.bytesWorld_size]; omega, fun k hk => Go.Lib.bytesWorld_at_old w _ s k hk⟩

/-- A text, turned into bytes and back. -/
theorem conv_there (w : World) (s : ByteArray) : ∃ (cap : Nat) (wB : World), (convert 9 115 (.string s)).run Tryz.prog w = .ok (.slice (some ⟨w.heap.size, 0, none⟩) s.size cap) wB ∧
    (convert 115 9 (.slice (some ⟨w.heap.size, 0, none⟩) s.size cap)).run Tryz.prog wB = .ok (.string s) wB ∧ Below w.heap.size w wB := by
  refine ⟨_, _, Go.Lib.run_convert_string_bytes (P := Tryz.prog) w 9 115 5 s Tryz.underlying9 Tryz.underlying115 Tryz.underlying5, ?_, bytesWorld_below w s⟩
  have hl : s.data.toList.length = s.size := by rw [Array.length_toList]; rfl
  have := run_convert_bytes_back (P := Tryz.prog) (Go.Lib.bytesWorld w 5 s) 115 9 5 ⟨w.heap.size, 0, none⟩ (grownCap w s.size 0 5) s.data.toList Tryz.underlying115 Tryz.underlying5 Tryz.underlying9 (fun j hj => by
    rw [addr_add, Go.Lib.bytesWorld_cell w 5 s j (by omega), List.getD_eq_getElem?_getD, List.getElem?_eq_getElem hj, Option.getD_some])
  rw [hl] at this
  rw [this]

set_option maxRecDepth 100000 in
set_option maxHeartbeats 400000 in
theorem start_dead (r : Nat) (s : ByteArray) (w : World) (h : DeadAt w r) :
    Calls Tryz.prog 31 #[.pointer (some ⟨r, 0, none⟩), .string s] w fun e w' => e = .returned (.int .i64 7) ∧ w' = w := by
  have c4 := h.c4
  clear h
  go_enter Tryz.func31, Tryz.ntmps31
  go_wp2_with fail
  go_ret
  exact ⟨rfl, rfl⟩

set_option maxRecDepth 100000 in
set_option maxHeartbeats 400000 in
theorem fstart_busy (r b : Nat) (s : ByteArray) (l : List Item) (did left : List (Bool × Item)) (H : Hs) (w : World) (hb : 0 < left.length) (h : RackF w r b l did left H) :
    Calls Tryz.prog 31 #[.pointer (some ⟨r, 0, none⟩), .string s] w fun e w' => e = .returned (.int .i64 8) ∧ w' = w := by
  have c4 := h.c4
  obtain ⟨g, v2, v3, _, _, c3, _, hleft, _⟩ := h.c2
  rcases hleft with ⟨h0, _⟩ | ⟨_, o, cap, rfl, _, _, _⟩
  · rw [h0] at hb; simp at hb
  have hb' : (0 : Int) < (left.length : Int) := by omega
  clear h
  go_enter Tryz.func31, Tryz.ntmps31
  go_wp2_with fail
  go_ret
  exact ⟨rfl, rfl⟩

set_option maxRecDepth 100000 in
set_option maxHeartbeats 400000 in
theorem fstart_bad (r b : Nat) (s : ByteArray) (l : List Item) (H : Hs) (w : World) (hs : s.size ≤ maxLen) (h0 : (chk s).1 ≠ 0) (h : RackF w r b l [] [] H) :
    Calls Tryz.prog 31 #[.pointer (some ⟨r, 0, none⟩), .string s] w fun e w' => e = .returned (.int .i64 ((chk s).1 : Nat)) ∧ Below w.heap.size w w' := by
  have c4 := h.c4
  obtain ⟨g, v2, v3, _, _, c3, _, hleft, _⟩ := h.c2
  rcases hleft with ⟨_, a, cap, rfl⟩ | ⟨hb, _⟩
  · obtain ⟨cp, wB, hc1, hc2, hbB⟩ := conv_there w s
    have hp := parse_any s wB hs
    have h0' : ((((chk s).1 : Nat) : Int) != 0) = true := by rw [bne_iff_ne]; omega
    generalize (chk s).1 = c at *
    have HP := hide hp
    clear hp h0 h
    go_enter Tryz.func31, Tryz.ntmps31
    go_wp2_with fail
    refine (unhide HP).mono ?_
    rintro e w1 ⟨v, rfl, _, hb1⟩
    go_wp2_with fail
    go_ret
    exact ⟨rfl, hbB.trans (hb1.mono hbB.size)⟩
  · simp at hb

/-- A plan is begun. -/
theorem RackF.begun {w : World} {r b : Nat} {l : List Item} {H : Hs} (h : RackF w r b l [] [] H) {v : Value} {P : List (Bool × Item)} {base : Nat} (hb : b < base) (ho : w.ownsRow base 157 10 v P.length (stsCells P)) : RackF (w.setCell ⟨r, 6, none⟩ v) r b l [] P H := by
  have hk := h.setTK 6 v
  obtain ⟨hty, c0, ⟨v1, c1, hrow⟩, ⟨g, v2, v3, hg, c2, c3, hdid, hleft, hn⟩, c4, fz, lt, br, hs'⟩ := h
  have hv2 := hn rfl
  subst hv2
  have ho2 := hk.row ne_step ho
  have hst := steps_of_owns ho2
  obtain ⟨_, ⟨rfl, h0⟩ | ⟨gp, cap, cur, rfl, hbp, hgp, hcap, _⟩⟩ := id ho2
  · have hP : P = [] := List.length_eq_zero_iff.1 h0
    subst hP
    exact ⟨ty_set hty _, cell_set_ne c0 (by omega), ⟨v1, cell_set_ne c1 (by omega), hk.row ne_item hrow⟩, ⟨g, _, _, hg, cell_set_ne c2 (by omega), by go_simp, hk.row ne_step hdid, .inl ⟨rfl, none, 0, rfl⟩, fun _ => rfl⟩, cell_set_ne c4 (by omega), fun o => by simp [fz o], by simpa [World.setCell] using lt, br, hs'.set hty (by omega) _⟩
  · have hL : LeftAt (w.setCell ⟨r, 6, none⟩ (.slice (some ⟨gp, 0, none⟩) P.length cap)) gp (.slice (some ⟨gp, 0, none⟩) P.length cap) P := by
      by_cases hP : P.length = 0
      · exact .inl ⟨List.length_eq_zero_iff.1 hP, some ⟨gp, 0, none⟩, cap, by rw [hP]⟩
      · refine .inr ⟨by omega, 0, cap, rfl, hcap, ⟨cur, (0, 0), hgp⟩, fun i hi => ?_⟩
        rcases hst with ⟨h1, _⟩ | ⟨g', cap', h1, _, hs⟩
        · cases h1
        · simp only [Value.slice.injEq, Option.some.injEq, Addr.mk.injEq] at h1
          have e := h1.1.1
          subst e
          have := hs i hi
          rwa [Nat.zero_add]
    exact ⟨ty_set hty _, cell_set_ne c0 (by omega), ⟨v1, cell_set_ne c1 (by omega), hk.row ne_item hrow⟩, ⟨gp, _, _, by omega, cell_set_ne c2 (by omega), by go_simp, World.ownsRow_nil _ _ _ _, hL, fun _ => rfl⟩, cell_set_ne c4 (by omega), fun o => by simp [fz o], by simpa [World.setCell] using lt, br, hs'.set hty (by omega) _⟩

/-- What Start leaves. -/
def FStartEnd (r b : Nat) (l : List Item) (P : List (Bool × Item)) (H : Hs) (w : World) (e : Ending) (w' : World) : Prop :=
  e = .returned (.int .i64 0) ∧ RackF w' r b l [] P H ∧ TK K1 w w' ∧ Below b w w'

set_option maxRecDepth 100000 in
set_option maxHeartbeats 400000 in
theorem fstart_ok (r b : Nat) (s : ByteArray) (l : List Item) (H : Hs) (w : World) (hs : s.size ≤ maxLen) (hl : l.length ≤ 24) (h0 : (chk s).1 = 0) (h : RackF w r b l [] [] H) :
    Calls Tryz.prog 31 #[.pointer (some ⟨r, 0, none⟩), .string s] w fun e w' => FStartEnd r b l (mk l (itemsOf s)) H w e w' := by
  have c4 := h.c4
  have hbr := h.br
  have hlr := h.lt
  obtain ⟨v1, c1, hrow⟩ := h.c1
  obtain ⟨g, v2, v3, _, _, c3, _, hleft, _⟩ := h.c2
  rcases hleft with ⟨_, a, cap, rfl⟩ | ⟨hb, _⟩
  · obtain ⟨cp, wB, hc1, hc2, hbB⟩ := conv_there w s
    have hp := parse_any s wB hs
    rw [h0] at hp
    have hf := fits_of_chk h0
    have c1B := (hbB.cell (p := ⟨r, 1, none⟩) hlr).trans c1
    have HP := hide hp
    have HR := hide (h.later hbB)
    have Hrow := hide (owns_later hrow hbB)
    generalize itemsOf s = t at *
    have hrow0 := hrow
    clear hp h0 h hrow
    go_enter Tryz.func31, Tryz.ntmps31
    go_wp2_with fail
    refine (unhide HP).mono ?_
    rintro e w1 ⟨v, rfl, hown, hb1⟩
    replace hown := hown trivial
    have hs1 := hb1.size
    have hsB := hbB.size
    have c11 := (hb1.cell (p := ⟨r, 1, none⟩) (show r < wB.heap.size by omega)).trans c1B
    have c31 := ((hbB.trans (hb1.mono hsB)).cell (p := ⟨r, 6, none⟩) hlr).trans c3
    have hR1 := (unhide HR).later hb1
    have hfz1 := hR1.fz
    have HM := hide (make_at v1 v l t w1 hl hf.1 (items_of_owns (owns_later (unhide Hrow) hb1)) (items_of_owns hown))
    have HR1 := hide hR1
    clear hown hR1 HR Hrow HP
    obtain ⟨va, vc, rfl⟩ : ∃ a c, v1 = .slice a l.length c := slice_of_owns hrow0
    go_wp2_with fail
    refine (unhide HM).mono ?_
    rintro e w2 ⟨vm, rfl, hown2, hb2⟩
    have c32 := (hb2.cell (p := ⟨r, 6, none⟩) (show r < w1.heap.size by omega)).trans c31
    have hfz2 : ∀ o, w2.frozen? ⟨r, o, none⟩ = false := fun o => (hb2.frozen (p := ⟨r, o, none⟩) (show r < w1.heap.size by omega)).trans (hfz1 o)
    have hR2 := (unhide HR1).later hb2
    have hRn := hR2.begun (base := w1.heap.size) (by omega) hown2
    have hbw2 : Below w.heap.size w w2 := (hbB.trans (hb1.mono hsB)).trans (hb2.mono (by omega))
    have htk : TK K1 w _ := (TK.of_below hbw2).trans (tk_kt (hR2.setTK 6 vm))
    have hbe : Below b w _ := (hbw2.mono (show b ≤ w.heap.size by omega)).setCell (p := ⟨r, 6, none⟩) (by simp; omega) vm
    obtain ⟨ma, mc, rfl⟩ := slice_of_owns hown2
    have HRn := hide hRn
    clear hown2 HM HR1 hR2 hRn
    go_wp2_with fail
    go_ret
    exact ⟨rfl, unhide HRn, htk, hbe⟩
  · simp at hb

end Go.Proofs.YtdlhgbhaeedbdabGreat
