/- CmE, CmF, CmI, Sd2, CmJ. -/
import Derived.Test.YtdlhgbhaeedbdabGreatM29
import Derived.Test.YtdlhgbhaeedbdabGreatM23

/- Two sites that were made alike; the session begins on both. -/
namespace Go.Proofs.YtdlhgbhaeedbdabGreat
open Go.RowKit

theorem dk_mem {D : List Drv} {m : ByteArray} {d : Drv} (h : dkD D m = some d) : d ∈ D ∧ d.name = m :=
  ⟨List.mem_of_find?_eq_some h, by have := List.find?_some h; simpa using this⟩

theorem dk_has {l : List Item} {D : List Drv} (h : DOK l D) (hz : ∀ d ∈ D, zeroDrv d) {d : Drv} (hd : d ∈ D) : ∃ y ∈ l, y.kind = 0 ∧ d = ⟨y.name, List.replicate y.size.toNat 0, -1⟩ := by
  have h1 : (d.name, d.blocks.length) ∈ dskOf l := h.mem_iff.1 (List.mem_map.2 ⟨d, hd, rfl⟩)
  obtain ⟨y, hy, e⟩ := List.mem_map.1 h1
  obtain ⟨hy1, hy2⟩ := List.mem_filter.1 hy
  simp only [Prod.mk.injEq] at e
  obtain ⟨z1, z2⟩ := hz d hd
  refine ⟨y, hy1, by simpa [dkB] using hy2, ?_⟩
  obtain ⟨dn, db, dh⟩ := d
  simp only at e z1 z2 ⊢
  rw [e.1, e.2, ← z2, z1]

theorem dk_is {l : List Item} {D : List Drv} (hA : ArrI l) (h : DOK l D) (hz : ∀ d ∈ D, zeroDrv d) {y : Item} (hy : y ∈ l) (hk : y.kind = 0) : dkD D y.name = some ⟨y.name, List.replicate y.size.toNat 0, -1⟩ := by
  have h1 : (y.name, y.size.toNat) ∈ dskOf l := List.mem_map.2 ⟨y, List.mem_filter.2 ⟨hy, by simpa [dkB] using hk⟩, rfl⟩
  obtain ⟨d, hd, e⟩ := List.mem_map.1 (h.mem_iff.2 h1)
  simp only [Prod.mk.injEq] at e
  cases hf : dkD D y.name with
  | none =>
    have := (List.find?_eq_none.1 hf) d hd
    simp [e.1] at this
  | some d' =>
    obtain ⟨hd', hn'⟩ := dk_mem hf
    obtain ⟨y', hy', hk', e'⟩ := dk_has h hz hd'
    have hny : y'.name = y.name := by rw [← hn', e']
    have g1 := good_disk (hA.good y' hy') hk'
    have g2 := good_disk (hA.good y hy) hk
    have : y' = y := dist_eq hA.dist hy' hy ⟨by rw [hk', hk], hny, by rw [g1.1, g2.1], by rw [g1.2, g2.2]⟩
    rw [e', this]

/-- Drives that were made alike. -/
theorem dk_zero {l1 l2 : List Item} {D1 D2 : List Drv} (hA : ArrI l1) (hp : l1.Perm l2) (h1 : DOK l1 D1) (h2 : DOK l2 D2) (z1 : ∀ d ∈ D1, zeroDrv d) (z2 : ∀ d ∈ D2, zeroDrv d) (m : ByteArray) : dkD D1 m = dkD D2 m := by
  have hA2 := hA.perm hp
  cases e1 : dkD D1 m with
  | some d =>
    obtain ⟨hd, hn⟩ := dk_mem e1
    obtain ⟨y, hy, hk, e⟩ := dk_has h1 z1 hd
    have hm : m = y.name := by rw [← hn, e]
    rw [hm, dk_is hA2 h2 z2 (hp.mem_iff.1 hy) hk, e]
  | none =>
    cases e2 : dkD D2 m with
    | none => rfl
    | some d =>
      obtain ⟨hd, hn⟩ := dk_mem e2
      obtain ⟨y, hy, hk, e⟩ := dk_has h2 z2 hd
      have hm : m = y.name := by rw [← hn, e]
      rw [hm, dk_is hA h1 z1 (hp.mem_iff.2 hy) hk] at e1
      cases e1

/-- What two sites that were made alike have. -/
structure Pair (w : World) (x bx rx y bY ry : Nat) (T : ByteArray) : Prop where
  ok : ∃ (Y : Nat → Prop) (G : ByteArray) (t0 lx ly : List Item) (Hx Hy : Hs) (oY : Obj), Inv hj0 w x bx [T] G 0 (some rx) (-1) false t0 ∧ RackF w rx bx lx [] [] Hx ∧ Hx.g = snap w Y ∧ YRack w Y ry bY ly Hy ∧
    lx.Perm (itemsOf T) ∧ ly.Perm (itemsOf T) ∧ DOK lx Hx.disks ∧ DOK ly Hy.disks ∧ Hx.ses = [] ∧ Hx.next = 0 ∧ Hy.ses = [] ∧ Hy.next = 0 ∧ (∀ d ∈ Hx.disks, zeroDrv d) ∧ (∀ d ∈ Hy.disks, zeroDrv d) ∧
    w.heap[y]? = some oY ∧ (∃ cs fr, oY = .cells cs 38 fr) ∧ (∀ w' : World, w'.heap[y]? = some oY → w'.cell? ⟨y, 1, none⟩ = some (.pointer (some ⟨ry, 0, none⟩)))

theorem pair_of {w2 w3 w4 : World} {x bx rx y bY ry : Nat} {T G G' : ByteArray} {t0 : List Item} (hx : Inv hj0 w2 x bx [T] G 0 (some rx) (-1) false t0) (hb23 : Below w2.heap.size w2 w3) (hy : Inv hj0 w3 y bY [T] G' 0 (some ry) (-1) false t0) (hby : w2.heap.size ≤ bY) (hb34 : Below w3.heap.size w3 w4) : Pair w4 x bx rx y bY ry T := by
  obtain ⟨T1, lx, hT1, ⟨Hx, hRx, hDx, hJx, _⟩, hpx⟩ := hx.rest
  obtain ⟨T2, ly, hT2, ⟨Hy, hRy, hDy, hJy, _⟩, hpy⟩ := hy.rest
  simp only [List.cons.injEq, and_true] at hT1 hT2
  subst hT1
  subst hT2
  have hs23 := hb23.size
  have hs34 := hb34.size
  have hb24 : Below w2.heap.size w2 w4 := hb23.trans (hb34.mono hs23)
  obtain ⟨cs, fr, hty⟩ := hy.site.ty
  have hty4 : w4.heap[y]? = some (Obj.cells cs 38 fr) := (hb34.block y hy.site.lt).trans hty
  have c14 := (hy.later hb34).site.c1
  have hx4 : RackF w4 rx bx lx [] [] (Hx.seen w4 fun k => w2.heap.size ≤ k ∧ k < w3.heap.size) := by
    refine hRx.reseen _ hb24.size (fun k cs t fr _ hk _ => hb24.block k (Array.getElem?_eq_some_iff.1 hk).1) (fun v _ hrow => row_stay hrow fun k cs fr _ hk => hb24.block k (Array.getElem?_eq_some_iff.1 hk).1) (.inl ⟨rfl, rfl⟩) (fun k hk => by omega) (fun k _ hlt hk => by omega)
  have hy4 : RackF w4 ry bY ly [] [] (Hy.seen w4 fun k => k < w4.heap.size ∧ ¬ (w2.heap.size ≤ k ∧ k < w3.heap.size)) := by
    refine hRy.reseen _ hb34.size (fun k cs t fr _ hk _ => hb34.block k (Array.getElem?_eq_some_iff.1 hk).1) (fun v _ hrow => row_stay hrow fun k cs fr _ hk => hb34.block k (Array.getElem?_eq_some_iff.1 hk).1) (.inl ⟨rfl, rfl⟩) (fun k hk => hk.1) (fun k hb hlt hk => ?_)
    exact absurd ⟨by omega, hlt⟩ hk.2
  refine ⟨fun k => w2.heap.size ≤ k ∧ k < w3.heap.size, G, t0, lx, ly, _, _, _, hx.later hb24, hx4, rfl, ⟨hy4, rfl, ?_, fun k hk => by omega⟩, hpx, hpy, hDx, hDy, hJx.1, hJx.2.1, hJy.1, hJy.2.1, hJx.2.2.1, hJy.2.2.1, hty4, ⟨cs, fr, rfl⟩, ?_⟩
  · intro v hv k e
    obtain ⟨v1, c1, hrow⟩ := hRy.c1
    have hc : w4.cell? ⟨ry, 1, none⟩ = some v1 := (hb34.cell (p := ⟨ry, 1, none⟩) hRy.lt).trans c1
    rw [hv] at hc
    simp only [Option.some.injEq] at hc
    subst hc
    have := World.ownsRow.lt hrow k e
    omega
  · intro w' hw'
    rw [World.cell?_of_block (hw'.trans hty4.symm)]
    exact c14

theorem ks_item : ¬ KS 83 := by unfold KS; decide
theorem ks_step : ¬ KS 157 := by unfold KS; decide
theorem ks_site : ¬ KS 38 := by unfold KS; decide
theorem ks_str : ¬ KS 9 := by unfold KS; decide
theorem ks_dev : ¬ KS 120 := by unfold KS; decide
theorem ks_late : ¬ KS 147 := by unfold KS; decide

/-- Behind the first Login. -/
structure Pair1 (w : World) (x bx rx y bY ry : Nat) (T tn hn : ByteArray) : Prop where
  ok : ∃ (w0 : World) (Y : Nat → Prop) (G : ByteArray) (t0 lx ly : List Item) (Hx Hy : Hs) (oY : Obj), Inv hj0 w0 x bx [T] G 0 (some rx) (-1) false t0 ∧ TK KS w0 w ∧ RackF w rx bx lx [] [] Hx ∧ (∀ k, Hx.g.out k ↔ Y k) ∧ YRack w Y ry bY ly Hy ∧
    lx.Perm (itemsOf T) ∧ ly.Perm (itemsOf T) ∧ DOK lx Hx.disks ∧ DOK ly Hy.disks ∧ Hx.ses = [⟨0, tn, hn, false⟩] ∧ Hy.ses = [] ∧ Hy.next = 0 ∧ (∀ d ∈ Hx.disks, zeroDrv d) ∧ (∀ d ∈ Hy.disks, zeroDrv d) ∧
    w.heap[y]? = some oY ∧ (∃ cs fr, oY = .cells cs 38 fr) ∧ (∀ w' : World, w'.heap[y]? = some oY → w'.cell? ⟨y, 1, none⟩ = some (.pointer (some ⟨ry, 0, none⟩)))

theorem pair_login {w : World} {x bx rx y bY ry : Nat} {T tn hn : ByteArray} (h : Pair w x bx rx y bY ry T) (hh : ∀ l, l.Perm (itemsOf T) → l.length ≤ 24 ∧ hostB l tn hn = true) :
    Calls Tryz.prog 11 #[.pointer (some ⟨rx, 0, none⟩), .string tn, .string hn] w fun e w' => e = .returned (.tuple #[.int .i64 0, .int .i64 0]) ∧ Below bx w w' ∧ Pair1 w' x bx rx y bY ry T tn hn := by
  obtain ⟨Y, G, t0, lx, ly, Hx, Hy, oY, hI, hR, hg, hY, hpx, hpy, hDx, hDy, sx, nx, sy, ny, zx, zy, hoY, ⟨cs, fr, rfl⟩, hcy⟩ := h.ok
  obtain ⟨hl, hyes⟩ := hh lx hpx
  refine (rlogin_ok rx bx lx [] [] Hx tn hn w hl (by rw [sx]; simp) (by rw [nx]; omega) hyes hR).mono ?_
  rintro e w' ⟨rfl, hR', htk, hbe, _, _⟩
  have hgap : GapAt w' rx (snap w Y) := by
    have := hR'.hs.gap
    rw [show ({ Hx with ses := Hx.ses ++ [⟨Hx.next, tn, hn, false⟩], next := Hx.next + 1 } : Hs).g = Hx.g from rfl, hg] at this
    exact this
  refine ⟨by rw [nx], hbe, w, Y, G, t0, lx, ly, _, _, _, hI, htk, hR', fun k => by show Hx.g.out k ↔ Y k; rw [hg]; exact Iff.rfl, hY.moved htk.size hgap, hpx, hpy, hDx, hDy, by simp [sx, nx], sy, ny, zx, zy, (htk.block _ _ _ _ hoY ks_site).trans hoY, ⟨cs, fr, rfl⟩, hcy⟩

theorem YRack.later {w w' : World} {Y : Nat → Prop} {r b : Nat} {l : List Item} {H : Hs} (h : YRack w Y r b l H) (hb : Below w.heap.size w w') : YRack w' Y r b l (H.seen w' fun k => k < w'.heap.size ∧ ¬ Y k) := by
  refine ⟨?_, rfl, fun v hv => ?_, fun k hk => Nat.lt_of_lt_of_le (h.lt k hk) hb.size⟩
  · refine h.rack.reseen _ hb.size (fun k cs t fr _ hk _ => hb.block k (Array.getElem?_eq_some_iff.1 hk).1) (fun v _ hrow => row_stay hrow fun k cs fr _ hk => hb.block k (Array.getElem?_eq_some_iff.1 hk).1) (.inl ⟨rfl, rfl⟩) (fun k hk => hk.1) (fun k _ hlt hk => ?_)
    rw [h.out]
    exact ⟨hlt, hk.2⟩
  · rw [World.cell?_of_block (hb.block r h.rack.lt)] at hv
    exact h.item v hv

theorem Pair1.later {w w' : World} {x bx rx y bY ry : Nat} {T tn hn : ByteArray} (h : Pair1 w x bx rx y bY ry T tn hn) (hb : Below w.heap.size w w') : Pair1 w' x bx rx y bY ry T tn hn := by
  obtain ⟨w0, Y, G, t0, lx, ly, Hx, Hy, oY, hI, htk, hR, hg, hY, hpx, hpy, hDx, hDy, sx, sy, ny, zx, zy, hoY, hcs, hcy⟩ := h.ok
  exact ⟨w0, Y, G, t0, lx, ly, Hx, _, oY, hI, htk.trans (TK.of_below hb), hR.later hb, hg, hY.later hb, hpx, hpy, hDx, hDy, sx, sy, ny, zx, zy, (hb.block y (Array.getElem?_eq_some_iff.1 hoY).1).trans hoY, hcs, hcy⟩

/-- The pointer to the other site. -/
theorem Pair.cell {w : World} {x bx rx y bY ry : Nat} {T : ByteArray} (h : Pair w x bx rx y bY ry T) : w.cell? ⟨x, 1, none⟩ = some (.pointer (some ⟨rx, 0, none⟩)) := by
  obtain ⟨Y, G, t0, lx, ly, Hx, Hy, oY, hI, _⟩ := h.ok
  exact hI.site.c1

theorem Pair1.cell {w : World} {x bx rx y bY ry : Nat} {T tn hn : ByteArray} (h : Pair1 w x bx rx y bY ry T tn hn) : w.cell? ⟨y, 1, none⟩ = some (.pointer (some ⟨ry, 0, none⟩)) := by
  obtain ⟨w0, Y, G, t0, lx, ly, Hx, Hy, oY, _, _, _, _, _, _, _, _, _, _, _, _, _, _, h1, _, h2⟩ := h.ok
  exact h2 w h1

/-- Behind both. -/
def Both1 (c : Cx) (G : ByteArray) (t0 : List Item) (w : World) : Prop :=
  ∃ Y F H, Inv (hjC c.sf (snap w Y) c.tn c.hn c.N F) w c.x c.bx [c.T] G 0 (some c.rx) (-1) false t0 ∧ YRack w Y c.ry c.bY c.ly H ∧ H.ses = [c.z] ∧ DOK c.ly H.disks ∧ ∀ m, c.N m → dkD H.disks m = F m

/-- What is fixed, and both sites. -/
def Fixed (x bx rx y bY ry : Nat) (T E tn hn : ByteArray) (t : List Item) (w : World) : Prop :=
  ∃ c : Cx, c.tn = tn ∧ c.hn = hn ∧ c.x = x ∧ c.bx = bx ∧ c.rx = rx ∧ c.T = T ∧ c.E = E ∧ c.t = t ∧ c.ry = ry ∧ c.bY = bY ∧ c.ly.Perm (itemsOf T) ∧ (∃ G t0, Both1 c G t0 w) ∧ (∀ w2 : World, SiteFro c.sf w2 x → w2.cell? ⟨y, 1, none⟩ = some (.pointer (some ⟨ry, 0, none⟩)))

theorem pair1_login {w : World} {x bx rx y bY ry : Nat} {T E tn hn : ByteArray} {t : List Item} (hxy : x ≠ y) (h : Pair1 w x bx rx y bY ry T tn hn) (hA : ArrI (itemsOf T)) (hh : ∀ l, l.Perm (itemsOf T) → l.length ≤ 24 ∧ hostB l tn hn = true) :
    Calls Tryz.prog 11 #[.pointer (some ⟨ry, 0, none⟩), .string tn, .string hn] w fun e w' => e = .returned (.tuple #[.int .i64 0, .int .i64 0]) ∧ Below bY w w' ∧ Fixed x bx rx y bY ry T E tn hn t w' := by
  obtain ⟨w0, Y, G, t0, lx, ly, Hx, Hy, oY, hI, htk0, hR, hg, hY, hpx, hpy, hDx, hDy, sx, sy, ny, zx, zy, hoY, ⟨cs, fr, rfl⟩, hcy⟩ := h.ok
  obtain ⟨hl, hyes⟩ := hh ly hpy
  refine (rlogin_ok ry bY ly [] [] Hy tn hn w hl (by rw [sy]; simp) (by rw [ny]; omega) hyes hY.rack).mono ?_
  rintro e w' ⟨rfl, hR', htk, hbe, hrc, _⟩
  have hx' := hY.aside hR' rfl htk ks_item ks_step hR hg
  have hc1 := hrc.cell 1 (by omega)
  have hY' := hY.did htk.size hR' rfl hc1
  have hoY' := (htk.block _ _ _ _ hoY ks_site).trans hoY
  obtain ⟨sf, hsf⟩ : ∃ sf : Nat → Option Obj, sf = fun k => if k = y then some (Obj.cells cs 38 fr) else none := ⟨_, rfl⟩
  have hfro : SiteFro sf w' x := by
    intro k o e
    rw [hsf] at e
    simp only at e
    split at e
    · rename_i hk
      subst hk
      simp only [Option.some.injEq] at e
      exact ⟨fun e => hxy e.symm, by rw [hoY', e], cs, fr, e.symm⟩
    · cases e
  refine ⟨by rw [ny], hbe, ⟨sf, tn, hn, x, bx, rx, T, E, t, ry, bY, ly⟩, rfl, rfl, rfl, rfl, rfl, rfl, rfl, rfl, rfl, rfl, hpy, ⟨G, t0, grewY Y w w', fun m => dkD Hx.disks m, _, ?_, hY', by simp [Hs.seen, sy, ny, Cx.z], hDy, ?_⟩, ?_⟩
  · exact hI.close (htk0.trans htk) ks_site ks_str ks_dev ks_late hfro ⟨lx, [], [], ⟨_, hx', hDx, ⟨sx, rfl, fun _ _ => rfl⟩, by simp⟩, rfl, by simp, .inl ⟨rfl, rfl, hpx⟩⟩
  · intro m _
    exact dk_zero (hA.perm hpy.symm) (hpy.trans hpx.symm) hDy hDx zy zx m
  · intro w2 hf
    refine hcy w2 (hf y _ ?_).2.1
    rw [hsf]
    simp

end Go.Proofs.YtdlhgbhaeedbdabGreat

/- What is fixed while the calls go on. -/
namespace Go.Proofs.YtdlhgbhaeedbdabGreat
open Go.RowKit

theorem mid_at {s t : ByteArray} (hs : (chk s).1 = 0) (ht : (chk t).1 = 0) {S : List Item} {tn hn : ByteArray} (hq : Quiet (itemsOf s) (itemsOf t) S tn hn) {l : List Item} {did left : List (Bool × Item)} (h : AtWay (prt s) (prt t) (itemsOf t) l did left) : Mid (itemsOf s) (itemsOf t) S l := by
  have h1 := (prt_canon hs).2
  have h2 := (prt_canon ht).2
  rcases h with h | h | ⟨l0, hp, hw, hm⟩
  · exact Mid.first hq.stay (h.trans h1)
  · exact Mid.last hq.stay (h.trans h2)
  · exact Mid.way hq.stay (hp.trans h1) hw hm

theorem cx_ok (c : Cx) {s t : ByteArray} (hs : (chk s).1 = 0) (ht : (chk t).1 = 0) (hT : c.T = prt s) (hE : c.E = prt t) (htt : c.t = itemsOf t) (hly : c.ly.Perm (itemsOf c.T)) {S : List Item} (hq : Quiet (itemsOf s) (itemsOf t) S c.tn c.hn) : c.ok := by
  rw [hT] at hly
  have hm0 := mid_at hs ht hq (l := c.ly) (did := []) (left := []) (.inl hly)
  refine ⟨hm0.arr.fits.1, fun l did left h => ?_⟩
  rw [hT, hE, htt] at h
  have hm := mid_at hs ht hq h
  refine ⟨hm.arr.fits.1, fun n => hq.same hm hm0 n, ?_⟩
  unfold numsOf
  rw [hq.list hm hm0 (mapB c.z) fun x hx => of_decide_eq_true (p := x.kind = 4 ∧ x.name = c.tn ∧ x.host = c.hn) hx]

theorem cx_steps (c : Cx) {s t : ByteArray} (hs : (chk s).1 = 0) (ht : (chk t).1 = 0) (hT : c.T = prt s) (hly : c.ly.Perm (itemsOf c.T)) {S : List Item} (hq : Quiet (itemsOf s) (itemsOf t) S c.tn c.hn) (g : Gh) (F : ByteArray → Option Drv) : ∀ p ∈ mk (itemsOf c.T) (itemsOf t), QQ (hjC c.sf g c.tn c.hn c.N F) p := by
  intro p hp
  rw [hT] at hly hp
  have h1 := (prt_canon hs).2
  have hm0 := mid_at hs ht hq (l := c.ly) (did := []) (left := []) (.inl hly)
  have hm1 := Mid.first hq.stay (List.Perm.refl (itemsOf s))
  obtain ⟨a1, a2⟩ := hq.steps h1 p hp
  have : calmQ c.tn c.hn c.N p := ⟨a1, fun hk ⟨k, u, hu, e⟩ => a2 hk ⟨k, u, (hq.same hm1 hm0 k).trans hu, e⟩⟩
  exact qq_calm this

/-- The plan begins. -/
theorem duo_start (c : Cx) {s t G : ByteArray} {t0 : List Item} (hst : t.size ≤ maxLen) (hs : (chk s).1 = 0) (ht : (chk t).1 = 0) (hT : c.T = prt s) (hE : c.E = prt t) (htt : c.t = itemsOf t) (hly : c.ly.Perm (itemsOf c.T)) {S : List Item} (hq : Quiet (itemsOf s) (itemsOf t) S c.tn c.hn) (w : World) (h : Both1 c G t0 w) :
    Calls Tryz.prog 13 #[.pointer (some ⟨c.x, 0, none⟩), .string t] w fun e w' => e = .returned (.bool true) ∧ Duo c w' ∧ Below c.bx w w' := by
  obtain ⟨Y, F, H, hI, hY, hse, hD, hF⟩ := h
  refine (gox_start c.x c.bx c.rx c.T G t t0 w hst ht (cx_steps c hs ht hT hly hq _ F) hI).mono ?_
  rintro e w' ⟨rfl, hG, hb⟩
  rw [← hE, ← htt] at hG
  exact ⟨rfl, Duo.step _ Y F H hY hse hD hF hb.size hG, hb⟩

theorem Duo.left {c : Cx} {w : World} (h : Duo c w) : ∃ n : Nat, w.cell? ⟨c.x, 4, none⟩ = some (.int .i64 n) ∧ w.cell? ⟨c.x, 1, none⟩ = some (.pointer (some ⟨c.rx, 0, none⟩)) ∧ c.bx < w.heap.size := by
  obtain ⟨n, Y, F, H, hG, _⟩ := h
  exact ⟨n, hG.c4⟩

theorem Duo.lt {c : Cx} {w : World} (h : Duo c w) : c.x < w.heap.size := by
  obtain ⟨n, Y, F, H, ⟨A0, G, hI, _⟩, _⟩ := h
  exact hI.site.lt

theorem Duo.site {c : Cx} {w : World} (h : Duo c w) : SiteFro c.sf w c.x := by
  obtain ⟨n, Y, F, H, ⟨A0, G, hI, _⟩, _⟩ := h
  exact hI.site.fro

theorem DuoX.site {c : Cx} {o : Iox} {t : Td} {s : Nat} {w : World} (h : DuoX c o t s w) : SiteFro c.sf w c.x := by
  obtain ⟨n, Y, F, H, ⟨A0, G, hI, _⟩, _⟩ := h
  exact hI.site.fro

theorem duo_step (c : Cx) (n : Nat) (w : World) (hn : 0 < n) (hc : w.cell? ⟨c.x, 4, none⟩ = some (.int .i64 n)) (h : Duo c w) :
    Calls Tryz.prog 24 #[.pointer (some ⟨c.x, 0, none⟩)] w fun e w' => e = .returned (.bool true) ∧ Duo c w' ∧ Below c.bx w w' := by
  obtain ⟨n', Y, F, H, hG, hY, hse, hD, hF⟩ := h
  have hc' := hG.c4.1
  rw [hc] at hc'
  simp only [Option.some.injEq, Value.int.injEq, true_and] at hc'
  obtain ⟨m, rfl⟩ : ∃ m, n' = m + 1 := ⟨n' - 1, by omega⟩
  refine (gox_step c.x c.bx c.rx c.T c.E c.t m w hG).mono ?_
  rintro e w' ⟨rfl, hG', hb⟩
  exact ⟨rfl, Duo.step _ Y F H hY hse hD hF hb.size hG', hb⟩

theorem duo_undo (c : Cx) (f : Bool) (n : Nat) (w : World) (hn : 0 < n) (hc : w.cell? ⟨c.x, 4, none⟩ = some (.int .i64 n)) (h : Duo c w) :
    Calls Tryz.prog 34 #[.pointer (some ⟨c.x, 0, none⟩), .bool f] w fun e w' => e = .returned (.bool true) ∧ Duo c w' ∧ Below c.bx w w' := by
  obtain ⟨n', Y, F, H, hG, hY, hse, hD, hF⟩ := h
  have hc' := hG.c4.1
  rw [hc] at hc'
  simp only [Option.some.injEq, Value.int.injEq, true_and] at hc'
  refine (gox_undo c.x c.bx c.rx f c.T c.E c.t n' w (by omega) hG).mono ?_
  rintro e w' ⟨rfl, hG', hb⟩
  exact ⟨rfl, Duo.step _ Y F H hY hse hD hF hb.size hG', hb⟩

end Go.Proofs.YtdlhgbhaeedbdabGreat

/- 'Site.moved'. -/
namespace Go.Proofs.YtdlhgbhaeedbdabGreat
open Go.RowKit

set_option maxRecDepth 100000 in
set_option maxHeartbeats 1000000 in
theorem moved_any (c : Cx) (s : Int) (w : World) (h : Duo c w) :
    Calls Tryz.prog 14 #[.pointer (some ⟨c.x, 0, none⟩), .int .i64 s] w fun e w' => e = .returned (.bool true) ∧ Duo c w' ∧ Below c.bx w w' := by
  obtain ⟨n, c4, _, hbx⟩ := h.left
  by_cases hneg : s < 0 ∧ 0 < n
  · obtain ⟨hs, hn⟩ := hneg
    have hn' : (0 : Int) < (n : Int) := by omega
    have HU := hide (duo_undo c false n w hn c4 h)
    clear h
    go_enter Tryz.func14, Tryz.ntmps14
    go_wp2_with fail
    refine (unhide HU).mono ?_
    rintro e w1 ⟨rfl, hD, hb⟩
    go_wp2
    go_ret
    exact ⟨rfl, hD, hb⟩
  · have HD := hide h
    clear h
    go_enter Tryz.func14, Tryz.ntmps14
    have hfirst : ¬ s < 0 ∨ (s < 0 ∧ ¬ (0 : Int) < (n : Int)) := by omega
    rcases hfirst with hs | ⟨hs, hn⟩
    · go_wp2_with fail
      go_loopw [5, 6] (fun ok i wr => ok = .bool true ∧ ∃ k : Nat, k ≤ 8 ∧ i = .int .i64 k ∧ Duo c wr ∧ Below c.bx w wr) (fun _ i _ => 8 - (intOf i).toNat)
      case atStart => exact ⟨rfl, 0, by omega, rfl, unhide HD, Below.refl _ _⟩
      case round =>
        obtain ⟨rfl, k, hk, rfl, hD, hbe⟩ := hrel
        obtain ⟨m, d4, _, _⟩ := hD.left
        by_cases h1 : (k : Int) < s
        · by_cases h2 : (k : Int) < 8
          · by_cases h3 : (0 : Int) < (m : Int)
            · have HS := hide (duo_step c m wr (by omega) d4 hD)
              clear hD
              go_wp2_with fail
              refine (unhide HS).mono ?_
              rintro e w2 ⟨rfl, hD2, hb2⟩
              have hbe2 := hbe.trans hb2
              have HD2 := hide hD2
              clear HS hD2 d4
              go_wp2
              go_roundw
              case rel => exact ⟨by trivial, k + 1, by omega, by go_num, unhide HD2, hbe2⟩
              case measure => simp [intOf]; omega
            · go_wp2
              go_ret
              exact ⟨rfl, hD, hbe⟩
          · go_wp2
            go_ret
            exact ⟨rfl, hD, hbe⟩
        · go_wp2
          go_ret
          exact ⟨rfl, hD, hbe⟩
    · go_wp2_with fail
      go_loopw [5, 6] (fun ok i wr => ok = .bool true ∧ i = .int .i64 0 ∧ wr = w) (fun _ _ _ => 0)
      case atStart => exact ⟨rfl, rfl, rfl⟩
      case round =>
        obtain ⟨rfl, rfl, rfl⟩ := hrel
        have h1 : ¬ (0 : Int) < s := by omega
        go_wp2
        go_ret
        exact ⟨rfl, unhide HD, Below.refl _ _⟩

end Go.Proofs.YtdlhgbhaeedbdabGreat

/- The law Stored: 'sees', 'same', 'wants'. -/
namespace Go.Proofs.YtdlhgbhaeedbdabGreat
open Go.RowKit

/-- Which disk is seen under a number, and whether for reading alone. -/
def seesD (s n : Int) : Int × Bool := if s = 0 ∧ n = 0 then (0, false) else if s = 1 ∧ n = 5 then (0, true) else if s ≠ 0 ∧ n = 6 then (1, false) else (-1, false)

set_option maxRecDepth 100000 in
set_option maxHeartbeats 800000 in
theorem same_law (n e : Int) (u1 u2 : Value) (l : List Int) (b1 b2 : Nat) (w : World) (hl : l.length ≤ 1000) (h1 : NumsAt w b1 u1 l) (h2 : NumsAt w b2 u2 l) :
    Calls Tryz.prog 16 #[.agg #[.int .i64 n, u1, .int .i64 e], .agg #[.int .i64 n, u2, .int .i64 e]] w fun e w' => e = .returned (.bool true) ∧ Below w.heap.size w w' := by
  obtain ⟨a1, c1, e1, H1⟩ : ∃ a c, u1 = .slice a l.length c ∧ (0 < l.length → ∃ g, a = some ⟨g, 0, none⟩ ∧ g < w.heap.size ∧ l.length ≤ c ∧ ∀ i (h : i < l.length), w.cell? ⟨g, i, none⟩ = some (.int .i64 l[i])) := by
    rcases h1 with ⟨rfl, a, c, rfl⟩ | ⟨g, cap, rfl, _, hg, hc, hi⟩
    · exact ⟨a, c, rfl, fun h => by simp at h⟩
    · exact ⟨_, _, rfl, fun _ => ⟨g, rfl, hg, hc, hi⟩⟩
  obtain ⟨a2, c2, e2, H2⟩ : ∃ a c, u2 = .slice a l.length c ∧ (0 < l.length → ∃ g, a = some ⟨g, 0, none⟩ ∧ g < w.heap.size ∧ l.length ≤ c ∧ ∀ i (h : i < l.length), w.cell? ⟨g, i, none⟩ = some (.int .i64 l[i])) := by
    rcases h2 with ⟨rfl, a, c, rfl⟩ | ⟨g, cap, rfl, _, hg, hc, hi⟩
    · exact ⟨a, c, rfl, fun h => by simp at h⟩
    · exact ⟨_, _, rfl, fun _ => ⟨g, rfl, hg, hc, hi⟩⟩
  subst e1 e2
  have HH1 := hide H1
  have HH2 := hide H2
  clear h1 h2 H1 H2
  have hbn : Below w.heap.size w ((w.alloc (.cells #[.int .i64 n, .slice a1 l.length c1, .int .i64 e] 47)).alloc (.cells #[.int .i64 n, .slice a2 l.length c2, .int .i64 e] 47)) := ((Below.refl _ _).alloc (Nat.le_refl _) _).alloc (by simp) _
  have k1 : ((w.alloc (.cells #[.int .i64 n, .slice a1 l.length c1, .int .i64 e] 47)).alloc (.cells #[.int .i64 n, .slice a2 l.length c2, .int .i64 e] 47)).cell? ⟨w.heap.size, 1, none⟩ = some (.slice a1 l.length c1) := by go_simp
  have k2 : ((w.alloc (.cells #[.int .i64 n, .slice a1 l.length c1, .int .i64 e] 47)).alloc (.cells #[.int .i64 n, .slice a2 l.length c2, .int .i64 e] 47)).cell? ⟨w.heap.size + 1, 1, none⟩ = some (.slice a2 l.length c2) := by go_simp
  go_enter Tryz.func16, Tryz.ntmps16
  go_wp2
  generalize hW : (w.alloc (.cells #[.int .i64 n, .slice a1 l.length c1, .int .i64 e] 47)).alloc (.cells #[.int .i64 n, .slice a2 l.length c2, .int .i64 e] 47) = w0 at *
  clear hW
  go_loopw [5] (fun i wr => ∃ k : Nat, k ≤ l.length ∧ i = .int .i64 k ∧ ∃ m, wr = w0.drewN m) (fun i _ => l.length - (intOf i).toNat)
  case atStart => exact ⟨0, Nat.zero_le _, rfl, 0, rfl⟩
  case round =>
    obtain ⟨k, hk, rfl, m, rfl⟩ := hrel
    by_cases hlt : k < l.length
    · obtain ⟨g1, rfl, hg1, hc1, hi1⟩ := unhide HH1 (by omega)
      obtain ⟨g2, rfl, hg2, hc2, hi2⟩ := unhide HH2 (by omega)
      have d1 : w0.cell? ⟨g1, k, none⟩ = some (.int .i64 l[k]) := (hbn.cell (p := ⟨g1, k, none⟩) hg1).trans (hi1 k hlt)
      have d2 : w0.cell? ⟨g2, k, none⟩ = some (.int .i64 l[k]) := (hbn.cell (p := ⟨g2, k, none⟩) hg2).trans (hi2 k hlt)
      have hlt' : (k : Int) < (l.length : Int) := by omega
      generalize l[k] = y at *
      clear hi1 hi2
      go_wp2
      go_quiet (fail)
      go_wp2
      go_roundw
      case rel => exact ⟨k + 1, by omega, by go_num, _, rfl⟩
      case measure => simp [intOf]; omega
    · have hnl : ¬ (k : Int) < (l.length : Int) := by omega
      go_wp2
      go_ret
      exact ⟨rfl, below_drewN hbn _⟩

end Go.Proofs.YtdlhgbhaeedbdabGreat

/- 'Calm': what the law lays down of what the calls tell. -/
namespace Go.Proofs.YtdlhgbhaeedbdabGreat
open Go.RowKit

theorem nums_slice {w : World} {base : Nat} {u : Value} {l : List Int} (h : NumsAt w base u l) : ∃ a c, u = .slice a l.length c := by
  rcases h with ⟨rfl, a, c, rfl⟩ | ⟨g, cap, rfl, _⟩
  · exact ⟨a, c, rfl⟩
  · exact ⟨_, cap, rfl⟩

theorem NumsAt.blocks {w w' : World} {base base' : Nat} {u : Value} {l : List Int} (h : NumsAt w base u l) (hB : base' ≤ base) (hs : w.heap.size ≤ w'.heap.size) (hb : ∀ k, base ≤ k → k < w.heap.size → w'.heap[k]? = w.heap[k]?) : NumsAt w' base' u l := by
  rcases h with h | ⟨g, cap, rfl, h1, h2, h3, h4⟩
  · exact .inl h
  · exact .inr ⟨g, cap, rfl, by omega, by omega, h3, fun i hi => (World.cell?_of_block (hb g h1 h2)).trans (h4 i hi)⟩

def tdCells (T : Td) (a : Option Addr) (c : Nat) : Array Value := #[.int .i64 T.n, .slice a T.l.length c, .int .i64 T.e]

theorem tdc {wx : World} {N : Nat} {T : Td} {a : Option Addr} {c : Nat} {fr : Nat × Nat} (h : wx.heap[N]? = some (.cells (tdCells T a c) 47 fr)) : wx.cell? ⟨N, 0, none⟩ = some (.int .i64 T.n) ∧ wx.cell? ⟨N, 1, none⟩ = some (.slice a T.l.length c) ∧ wx.cell? ⟨N, 2, none⟩ = some (.int .i64 T.e) := by
  refine ⟨?_, ?_, ?_⟩ <;> simp [World.cell?, h, tdCells]

theorem set3_blk {w2 : World} {N : Nat} (hblk : w2.heap[N]? = some (.cells zTd 47 (0, 0))) (T : Td) (a : Option Addr) (c : Nat) :
    (((w2.setCell ⟨N, 0, none⟩ (.int .i64 T.n)).setCell ⟨N, 1, none⟩ (.slice a T.l.length c)).setCell ⟨N, 2, none⟩ (.int .i64 T.e)).heap[N]? = some (.cells (tdCells T a c) 47 (0, 0)) := by
  have h1 := heap_set_same (o := 0) hblk (.int .i64 T.n)
  have h2 := heap_set_same (o := 1) h1 (.slice a T.l.length c)
  have h3 := heap_set_same (o := 2) h2 (.int .i64 T.e)
  rw [h3]
  simp [zTd, tdCells]

theorem set3_ne {w2 : World} {N k : Nat} (hk : k ≠ N) (u0 u1 u2 : Value) : (((w2.setCell ⟨N, 0, none⟩ u0).setCell ⟨N, 1, none⟩ u1).setCell ⟨N, 2, none⟩ u2).heap[k]? = w2.heap[k]? := by
  rw [block_set_ne _ hk, block_set_ne _ hk, block_set_ne _ hk]

/-- Behind the one's call. -/
def ToldX (c : Cx) (o : Iox) (w wx : World) (N : Nat) : Prop :=
  ∃ (T : Td) (s : Nat) (a : Option Addr) (cc : Nat) (fr : Nat × Nat), wx.heap[N]? = some (.cells (tdCells T a cc) 47 fr) ∧ NumsAt wx s (.slice a T.l.length cc) T.l ∧ T.l.length ≤ 24 ∧ T.e ≠ 12 ∧ T.e ≠ 13 ∧ DuoX c o T s wx ∧ Below w.heap.size w wx

theorem toldx_alloc {c : Cx} {o : Iox} {w w2 : World} {T : Td} {s : Nat} {a : Option Addr} {cc : Nat} (hu : NumsAt w2 s (.slice a T.l.length cc) T.l) (hl : T.l.length ≤ 24) (h1 : T.e ≠ 12) (h2 : T.e ≠ 13) (hX : DuoX c o T s w2) (hb : Below w.heap.size w w2) :
    ToldX c o w (w2.alloc (.cells #[.int .i64 T.n, .slice a T.l.length cc, .int .i64 T.e] 47)) w2.heap.size := by
  have hbn := below_new w2 (.cells #[.int .i64 T.n, .slice a T.l.length cc, .int .i64 T.e] 47)
  exact ⟨T, s, a, cc, (0, 0), heap_alloc_last w2 _, hu.keep hbn (Nat.le_refl _), hl, h1, h2, hX.later hbn, hb.alloc hb.size _⟩

theorem toldx_set {c : Cx} {o : Iox} {w w2 : World} {T : Td} {s N : Nat} {a : Option Addr} {cc : Nat} (hu : NumsAt w2 s (.slice a T.l.length cc) T.l) (hl : T.l.length ≤ 24) (h1 : T.e ≠ 12) (h2 : T.e ≠ 13) (hX : DuoX c o T s w2) (hb : Below w.heap.size w w2) (hwN : w.heap.size ≤ N) (hNs : N < s) (hblk : w2.heap[N]? = some (.cells zTd 47 (0, 0))) :
    ToldX c o w (((w2.setCell ⟨N, 0, none⟩ (.int .i64 T.n)).setCell ⟨N, 1, none⟩ (.slice a T.l.length cc)).setCell ⟨N, 2, none⟩ (.int .i64 T.e)) N := by
  refine ⟨T, s, a, cc, (0, 0), set3_blk hblk T a cc, hu.blocks (Nat.le_refl _) (by simp [World.setCell]) fun k hk _ => set3_ne (by omega) _ _ _, hl, h1, h2, hX.keep (td_tk ⟨_, _, hblk⟩ _ _ _) na_td, below_set3 hb hwN _ _ _⟩

/-- Behind both. -/
def ToldY (c : Cx) (w wx : World) (T : Td) (a : Option Addr) (cc N N2 : Nat) : Prop :=
  ∃ (a2 : Option Addr) (c2 b1 b2 : Nat) (fr fr2 : Nat × Nat), wx.heap[N]? = some (.cells (tdCells T a cc) 47 fr) ∧ wx.heap[N2]? = some (.cells (tdCells T a2 c2) 47 fr2) ∧ NumsAt wx b1 (.slice a T.l.length cc) T.l ∧ NumsAt wx b2 (.slice a2 T.l.length c2) T.l ∧ Duo c wx ∧ Below w.heap.size w wx

theorem toldy_alloc {c : Cx} {w w3 w3a w4 : World} {T : Td} {s s2 N : Nat} {a a2 : Option Addr} {cc c2 : Nat} {fr : Nat × Nat} (hN : w3.heap[N]? = some (.cells (tdCells T a cc) 47 fr)) (hu1 : NumsAt w3 s (.slice a T.l.length cc) T.l) (hba : Below w3.heap.size w3 w3a) (htk : TK KD w3a w4) (hst : ∀ k, s ≤ k → k < w3a.heap.size → w4.heap[k]? = w3a.heap[k]?) (hu : NumsAt w4 s2 (.slice a2 T.l.length c2) T.l) (hD : Duo c w4) (hb : Below w.heap.size w w4) :
    ToldY c w (w4.alloc (.cells #[.int .i64 T.n, .slice a2 T.l.length c2, .int .i64 T.e] 47)) T a cc N w4.heap.size := by
  have hbn := below_new w4 (.cells #[.int .i64 T.n, .slice a2 T.l.length c2, .int .i64 T.e] 47)
  have hNl : N < w3.heap.size := (Array.getElem?_eq_some_iff.1 hN).1
  have hNa := (hba.block N hNl).trans hN
  have hN4 := (htk.block N _ _ _ hNa (by unfold KD; decide)).trans hNa
  have hsa := hba.size
  have hs4 := htk.size
  have hu4 : NumsAt w4 s (.slice a T.l.length cc) T.l := hu1.blocks (Nat.le_refl _) (by omega) fun k hk hlt => by rw [hst k hk (by omega), hba.block k hlt]
  exact ⟨a2, c2, s, s2, fr, (0, 0), (hbn.block N (by omega)).trans hN4, heap_alloc_last w4 _, hu4.keep hbn (Nat.le_refl _), hu.keep hbn (Nat.le_refl _), hD.later hbn, hb.alloc hb.size _⟩

theorem toldy_set {c : Cx} {w w3 w3a w4 : World} {T : Td} {s s2 N : Nat} {a a2 : Option Addr} {cc c2 : Nat} {fr : Nat × Nat} (hN : w3.heap[N]? = some (.cells (tdCells T a cc) 47 fr)) (hu1 : NumsAt w3 s (.slice a T.l.length cc) T.l) (hba : Below w3.heap.size w3 w3a) (htk : TK KD w3a w4) (hst : ∀ k, s ≤ k → k < w3a.heap.size → w4.heap[k]? = w3a.heap[k]?) (hu : NumsAt w4 s2 (.slice a2 T.l.length c2) T.l) (hD : Duo c w4) (hb : Below w.heap.size w w4) (hw3 : w.heap.size ≤ w3.heap.size) (hs2 : w3.heap.size < s2) (hblk : w4.heap[w3.heap.size]? = some (.cells zTd 47 (0, 0))) :
    ToldY c w (((w4.setCell ⟨w3.heap.size, 0, none⟩ (.int .i64 T.n)).setCell ⟨w3.heap.size, 1, none⟩ (.slice a2 T.l.length c2)).setCell ⟨w3.heap.size, 2, none⟩ (.int .i64 T.e)) T a cc N w3.heap.size := by
  have hNl : N < w3.heap.size := (Array.getElem?_eq_some_iff.1 hN).1
  have hNa := (hba.block N hNl).trans hN
  have hN4 := (htk.block N _ _ _ hNa (by unfold KD; decide)).trans hNa
  have hsa := hba.size
  have hs4 := htk.size
  refine ⟨a2, c2, s, s2, fr, (0, 0), (set3_ne (by omega) _ _ _).trans hN4, set3_blk hblk T a2 c2, ?_, hu.blocks (Nat.le_refl _) (by simp [World.setCell]) fun k hk _ => set3_ne (by omega) _ _ _, hD.keep (td_tk ⟨_, _, hblk⟩ _ _ _) na_td, below_set3 hb hw3 _ _ _⟩
  refine hu1.blocks (Nat.le_refl _) (by simp [World.setCell]; omega) fun k hk hlt => ?_
  rw [set3_ne (by omega), hst k hk (by omega), hba.block k hlt]

theorem cell_lt {w : World} {k o : Nat} {v : Value} (h : w.cell? ⟨k, o, none⟩ = some v) : k < w.heap.size := by
  rcases Nat.lt_or_ge k w.heap.size with h1 | h1
  · exact h1
  · simp [World.cell?, Array.getElem?_eq_none h1] at h

theorem Pair1.cellx {w : World} {x bx rx y bY ry : Nat} {T tn hn : ByteArray} (h : Pair1 w x bx rx y bY ry T tn hn) : w.cell? ⟨x, 1, none⟩ = some (.pointer (some ⟨rx, 0, none⟩)) := by
  obtain ⟨w0, Y, G, t0, lx, ly, Hx, Hy, oY, hI, htk, _⟩ := h.ok
  exact (hI.site.keep htk ks_site ks_str).c1

theorem Fixed.celly {x bx rx y bY ry : Nat} {T E tn hn : ByteArray} {t : List Item} {w : World} (h : Fixed x bx rx y bY ry T E tn hn t w) : w.cell? ⟨y, 1, none⟩ = some (.pointer (some ⟨ry, 0, none⟩)) := by
  obtain ⟨c, _, _, rfl, _, _, _, _, _, _, _, _, ⟨G, t0, Y, F, H, hI, _⟩, hcy⟩ := h
  exact hcy w hI.site.fro

theorem DuoX.cells {c : Cx} {o : Iox} {t : Td} {s : Nat} {w : World} (h : DuoX c o t s w) : w.cell? ⟨c.x, 1, none⟩ = some (.pointer (some ⟨c.rx, 0, none⟩)) := by
  obtain ⟨n, Y, F, H, hG, _⟩ := h
  exact hG.c4.2.1

end Go.Proofs.YtdlhgbhaeedbdabGreat
