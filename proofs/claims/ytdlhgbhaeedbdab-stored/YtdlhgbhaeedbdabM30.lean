/- The law Stored, walked: the whole. -/
import Derived.Test.YtdlhgbhaeedbdabM29
namespace Go.Proofs.Ytdlhgbhaeedbdab
open Go.RowKit

theorem made_lit (s : ByteArray) (hs : s = shopT) (w : World) : Calls Try.prog 6 #[.string s] w fun e w' => ∃ x b r l D ia ib, e = .returned (.pointer (some ⟨x, 0, none⟩)) ∧ w.heap.size ≤ b ∧ Below w.heap.size w w' ∧ SiteR w' x r ∧ RackF w' r b l [] [] ⟨D, [], 0⟩ ∧ l.Perm shopI ∧ ShRel D Z0 ia ib := by
  subst hs
  exact made_shop w

theorem pick3 (c : Int) (w : World) (hc : (Lit.int .i64 c).wf = true) :
    Calls Try.prog 8 #[.int .i64 c, .int .i64 3] w fun e w' => (∃ s : Int, (s = 0 ∨ s = 1 ∨ s = 2) ∧ e = .returned (.int .i64 s)) ∧ w' = w := by
  refine (pick_any c 3 w hc (by omega) (by omega)).mono ?_
  rintro e w' ⟨⟨j, hj, rfl⟩, rfl⟩
  exact ⟨⟨j, by omega, rfl⟩, rfl⟩

theorem NumsAt.set3 {base N : Nat} {w : World} {v : Value} {l : List Int} (h : NumsAt w base v l) (hN : N < base) (u0 u1 u2 : Value) : NumsAt (((w.setCell ⟨N, 0, none⟩ u0).setCell ⟨N, 1, none⟩ u1).setCell ⟨N, 2, none⟩ u2) base v l := by
  rcases h with h | ⟨g, cap, rfl, h1, h2, h3, h4⟩
  · exact .inl h
  · refine .inr ⟨g, cap, rfl, h1, by simpa [World.setCell] using h2, h3, fun i hi => ?_⟩
    rw [World.cell?_setCell_other _ _ _ _ (by intro e; simp only [Addr.mk.injEq] at e; omega), World.cell?_setCell_other _ _ _ _ (by intro e; simp only [Addr.mk.injEq] at e; omega), World.cell?_setCell_other _ _ _ _ (by intro e; simp only [Addr.mk.injEq] at e; omega)]
    exact h4 i hi

theorem NumsAt.lower {base base' : Nat} {w : World} {v : Value} {l : List Int} (h : NumsAt w base v l) (hb : base' ≤ base) : NumsAt w base' v l := by
  rcases h with h | ⟨g, cap, rfl, h1, h2⟩
  · exact .inl h
  · exact .inr ⟨g, cap, rfl, by omega, h2⟩

theorem NumsAt.gb {base z : Nat} {w w' : World} {v : Value} {l : List Int} (h : NumsAt w base v l) (hg : w.grownBy w' (some z)) (hz : z < base) : NumsAt w' base v l := by
  rcases h with h | ⟨g, cap, rfl, h1, h2, h3, h4⟩
  · exact .inl h
  · exact .inr ⟨g, cap, rfl, h1, Nat.lt_of_lt_of_le h2 hg.size, h3, fun i hi => (World.cell?_of_block (hg.block g h2 (by simp; omega))).trans (h4 i hi)⟩

/-- Behind a call: what it told lies in block N. -/
structure Told (w wx : World) (base x r b z N : Nat) (a : Option Addr) (c : Nat) (T : Td) (l : List Item) (D : List Drv) (Z Z' : Nat → Int) (ia ib : Nat) : Prop where
  c0 : wx.cell? ⟨N, 0, none⟩ = some (.int .i64 T.n)
  c1 : wx.cell? ⟨N, 1, none⟩ = some (.slice a T.l.length c)
  c2 : wx.cell? ⟨N, 2, none⟩ = some (.int .i64 T.e)
  lo : base ≤ N
  lt : N < wx.heap.size
  nums : NumsAt wx base (.slice a T.l.length c) T.l
  shop : Shop wx x r b z l D Z Z' ia ib
  bel : Below w.heap.size w wx

theorem told_alloc {w w2 : World} {base x r b z : Nat} {a : Option Addr} {c : Nat} {T : Td} {l : List Item} {D : List Drv} {Z Z' : Nat → Int} {ia ib : Nat} (hu : NumsAt w2 base (.slice a T.l.length c) T.l) (hS : Shop w2 x r b z l D Z Z' ia ib) (hb : Below w.heap.size w w2) (hlo : base ≤ w2.heap.size) :
    Told w (w2.alloc (.cells #[.int .i64 T.n, .slice a T.l.length c, .int .i64 T.e] 54)) base x r b z w2.heap.size a c T l D Z Z' ia ib := by
  have hbn := below_new w2 (.cells #[.int .i64 T.n, .slice a T.l.length c, .int .i64 T.e] 54)
  exact ⟨by go_simp, by go_simp, by go_simp, hlo, by simp, hu.keep hbn (Nat.le_refl _), hS.later hbn, hb.alloc hb.size _⟩

theorem told_set {w w2 : World} {base x r b z N : Nat} {a : Option Addr} {c : Nat} {T : Td} {l : List Item} {D : List Drv} {Z Z' : Nat → Int} {ia ib : Nat} (hu : NumsAt w2 (N + 1) (.slice a T.l.length c) T.l) (hS : Shop w2 x r b z l D Z Z' ia ib) (hb : Below w.heap.size w w2) (hlo : base ≤ N) (hwN : w.heap.size ≤ N)
    (hblk : w2.heap[N]? = some (.cells zTd 54 (0, 0))) :
    Told w (((w2.setCell ⟨N, 0, none⟩ (.int .i64 T.n)).setCell ⟨N, 1, none⟩ (.slice a T.l.length c)).setCell ⟨N, 2, none⟩ (.int .i64 T.e)) base x r b z N a c T l D Z Z' ia ib := by
  obtain ⟨q0, q1, q2, _⟩ := td_cells hblk
  have hlt : N < w2.heap.size := (Array.getElem?_eq_some_iff.1 hblk).1
  exact ⟨cell_set_ne (cell_set_ne (World.cell?_setCell_same _ _ _ q0) (by omega)) (by omega), cell_set_ne (World.cell?_setCell_same _ _ _ (cell_set_ne q1 (by omega))) (by omega), World.cell?_setCell_same _ _ _ (cell_set_ne (cell_set_ne q2 (by omega)) (by omega)), hlo, by simpa [World.setCell] using hlt, (hu.set3 (by omega) _ _ _).lower (by omega), hS.td (td_tk ⟨_, _, hblk⟩ _ _ _), below_set3 hb hwN _ _ _⟩

def lastC : Array Value := #[.int .i64 2, .int .i64 6, .int .i64 8, .int .i64 0, .int .i64 0, .int .i64 0]

theorem last_io {w : World} {g : Nat} (h : w.heap[g]? = some (.cells lastC 51 (0, 0))) : w.cell? ⟨g, 0, none⟩ = some (.int .i64 2) ∧ w.cell? ⟨g, 1, none⟩ = some (.int .i64 6) ∧ w.cell? ⟨g, 2, none⟩ = some (.int .i64 8) ∧ w.cell? ⟨g, 3, none⟩ = some (.int .i64 0) ∧ w.cell? ⟨g, 4, none⟩ = some (.int .i64 0) ∧ w.cell? ⟨g, 5, none⟩ = some (.int .i64 0) := by
  simp [World.cell?, h, lastC]

/-- Behind the last call. -/
structure Told2 (w wx : World) (base z i N : Nat) (a : Option Addr) (c : Nat) (T : Td) (Z : Nat → Int) : Prop where
  c0 : wx.cell? ⟨N, 0, none⟩ = some (.int .i64 T.n)
  c1 : wx.cell? ⟨N, 1, none⟩ = some (.slice a T.l.length c)
  c2 : wx.cell? ⟨N, 2, none⟩ = some (.int .i64 T.e)
  lo : base ≤ N
  lt : N < wx.heap.size
  nums : NumsAt wx base (.slice a T.l.length c) T.l
  shelf : ShelfAt wx z Z
  io : wx.heap[i]? = some (.cells lastC 51 (0, 0))
  bel : Below w.heap.size w wx

theorem told2_alloc {w w2 : World} {base z i : Nat} {a : Option Addr} {c : Nat} {T : Td} {Z : Nat → Int} (hu : NumsAt w2 base (.slice a T.l.length c) T.l) (hS : ShelfAt w2 z Z) (hb : Below w.heap.size w w2) (hi : w2.heap[i]? = some (.cells lastC 51 (0, 0))) (hlo : base ≤ w2.heap.size) :
    Told2 w (w2.alloc (.cells #[.int .i64 T.n, .slice a T.l.length c, .int .i64 T.e] 54)) base z i w2.heap.size a c T Z := by
  have hbn := below_new w2 (.cells #[.int .i64 T.n, .slice a T.l.length c, .int .i64 T.e] 54)
  exact ⟨by go_simp, by go_simp, by go_simp, hlo, by simp, hu.keep hbn (Nat.le_refl _), hS.keep (T := fun _ => False) (TK.of_below hbn) id, ((TK.of_below (T := fun _ => False) hbn).block i _ _ _ hi id).trans hi, hb.alloc hb.size _⟩

theorem told2_set {w w2 : World} {base z i N : Nat} {a : Option Addr} {c : Nat} {T : Td} {Z : Nat → Int} (hu : NumsAt w2 (N + 1) (.slice a T.l.length c) T.l) (hS : ShelfAt w2 z Z) (hb : Below w.heap.size w w2) (hi : w2.heap[i]? = some (.cells lastC 51 (0, 0))) (hlo : base ≤ N) (hwN : w.heap.size ≤ N)
    (hblk : w2.heap[N]? = some (.cells zTd 54 (0, 0))) :
    Told2 w (((w2.setCell ⟨N, 0, none⟩ (.int .i64 T.n)).setCell ⟨N, 1, none⟩ (.slice a T.l.length c)).setCell ⟨N, 2, none⟩ (.int .i64 T.e)) base z i N a c T Z := by
  obtain ⟨q0, q1, q2, _⟩ := td_cells hblk
  have hlt : N < w2.heap.size := (Array.getElem?_eq_some_iff.1 hblk).1
  have htk := td_tk ⟨_, _, hblk⟩ (.int .i64 T.n) (.slice a T.l.length c) (.int .i64 T.e)
  exact ⟨cell_set_ne (cell_set_ne (World.cell?_setCell_same _ _ _ q0) (by omega)) (by omega), cell_set_ne (World.cell?_setCell_same _ _ _ (cell_set_ne q1 (by omega))) (by omega), World.cell?_setCell_same _ _ _ (cell_set_ne (cell_set_ne q2 (by omega)) (by omega)), hlo, by simpa [World.setCell] using hlt, (hu.set3 (by omega) _ _ _).lower (by omega), hS.keep htk (by unfold KTd; decide), (htk.block i _ _ _ hi (by unfold KTd; decide)).trans hi, below_set3 hb hwN _ _ _⟩

set_option maxRecDepth 100000 in
set_option maxHeartbeats 4000000 in
theorem stored_any (a0 : Option Addr) (len cap : Nat) (f : Nat → Iox) (w : World) (hlen : len ≤ 4398046511000) (hf : ∀ i, i < len → (Lit.int .i64 (f i).W).wf = true) (ha : len = 0 ∨ ∃ g o, a0 = some ⟨g, o, none⟩ ∧ g < w.heap.size ∧ ∀ i, i < len → IoAt w g (o + i * 6) (f i)) :
    Calls Try.prog 4 #[.slice a0 len cap] w fun e w' => e = .returned (.bool true) ∧ Below w.heap.size w w' := by
  have hnot : ∀ (x : Bool) (w : World), (Op.unary .not (.bool x)).run Try.prog w = .ok (.bool (!x)) w := fun _ _ => rfl
  have Hf := hide hf
  have Ha := hide ha
  clear hf ha
  go_enter Try.func4, Try.ntmps4
  go_wp2_with fail
  refine (made_lit _ (by kernel_rfl) _).mono ?_
  rintro e w1 ⟨x, b, r, l, D, ia, ib, rfl, hwb, hb1, hS1, hR1, hp, hrel⟩
  have s1 := hS1.2
  have HL := hide (shop_login hS1 hR1 hp)
  clear hS1 hR1
  go_wp2_with fail
  refine (unhide HL).mono ?_
  rintro e w2 ⟨rfl, hS2, hb2, hC2⟩
  have s2 := hS2.2
  have HL2 := hide hC2
  clear HL hC2 s1
  go_wp2_with fail
  refine (unhide HL2).mono ?_
  rintro e w3 ⟨rfl, hS3, hb3, hC3⟩
  have s3 := hS3.2
  have HL3 := hide hC3
  clear HL2 hC3 s2
  go_wp2_with fail
  refine (unhide HL3).mono ?_
  rintro e w4 ⟨rfl, hS4, hb4, hC4⟩
  have s4 := hS4.2
  have HL4 := hide hC4
  clear HL3 hC4 s3
  go_wp2_with fail
  refine (unhide HL4).mono ?_
  rintro e w5 ⟨rfl, hS5, hb5, hR5⟩
  have hb05 : Below w.heap.size w w5 := (((hb1.trans (hb2.mono hwb)).trans (hb3.mono hwb)).trans (hb4.mono hwb)).trans (hb5.mono hwb)
  have hs05 := hb05.size
  have hbn := below_new w5 (.cells shelf0 49)
  have hShop : Shop (w5.alloc (.cells shelf0 49)) x r b w5.heap.size l D Z0 Z0 ia ib := ⟨hS5.keep (T := fun _ => False) (TK.of_below hbn) id, hR5.later hbn, hp, hrel, shelf_new w5⟩
  have hb06 : Below w.heap.size w (w5.alloc (.cells shelf0 49)) := hb05.alloc hs05 _
  have HShop := hide hShop
  clear HL4 s4 hS5 hR5 hb1 hb2 hb3 hb4 hb5 hS2 hS3 hS4 hShop hbn hrel
  unfold shelf0 at *
  go_wp2_with fail
  have hz5 : w.heap.size ≤ w5.heap.size := hs05
  generalize hz : w5.heap.size = z at *
  generalize hW6 : w5.alloc (.cells #[.int .i64 0, .int .i64 0, .int .i64 0, .int .i64 0, .int .i64 0, .int .i64 0, .int .i64 0, .int .i64 0, .int .i64 0, .int .i64 0, .int .i64 0, .int .i64 0, .int .i64 0, .int .i64 0, .int .i64 0, .int .i64 0, .int .i64 0, .int .i64 0, .int .i64 (-1), .int .i64 (-1)] 49) = w6 at *
  clear hW6 hb05 hs05 hz
  go_loopw [13] (fun i wr => ∃ k : Nat, k ≤ len ∧ i = .int .i64 k ∧ ∃ D Z, Shop wr x r b z l D Z Z ia ib ∧ Below w.heap.size w wr) (fun i _ => len - (intOf i).toNat)
  case atStart => exact ⟨0, Nat.zero_le _, rfl, D, Z0, unhide HShop, hb06⟩
  case round =>
    obtain ⟨k, hk, rfl, D1, Z, hSh, hbe⟩ := hrel
    clear HShop hb06
    have s1 := hSh.site.2
    by_cases hlt : k < len
    · have hlt' : (k : Int) < (len : Int) := by omega
      obtain ⟨g, o, rfl, hg, hio⟩ : ∃ g o, a0 = some ⟨g, o, none⟩ ∧ g < w.heap.size ∧ ∀ i, i < len → IoAt w g (o + i * 6) (f i) := by
        rcases unhide Ha with h | h
        · omega
        · exact h
      obtain ⟨y, hy⟩ : ∃ y, y = f k := ⟨_, rfl⟩
      have hix := (hio k hlt).below hbe hg
      rw [← hy] at hix
      have hwf := unhide Hf k hlt
      rw [← hy] at hwf
      obtain ⟨c0, c1, c2, c3, c4, c5⟩ := hix
      have HP := hide fun wx => pick3 y.W wx hwf
      have HIO := hide fun (wx : World) (hb : Below w.heap.size w wx) => hy ▸ (hio k hlt).below hb hg
      clear hio hwf hy Ha Hf
      go_wp2_with fail
      refine (unhide HP _).mono ?_
      rintro e w2 ⟨⟨s, hs, rfl⟩, rfl⟩
      clear HP
      have hzl := hSh.shelf.lt
      have hsw := hbe.size
      have hxl : x < w2.heap.size := by obtain ⟨⟨cs, fr, e⟩, _⟩ := hSh.site; exact (Array.getElem?_eq_some_iff.1 e).1
      have hne1 : ¬ x = w2.heap.size := by omega
      have hne2 : ¬ w2.heap.size = x := by omega
      have hne3 : ¬ g = w2.heap.size := by omega
      have hne4 : ¬ w2.heap.size = g := by omega
      obtain ⟨T, hT⟩ : ∃ T, T = wantT Z s y := ⟨_, rfl⟩
      have HC := hide fun (wx : World) hb => shop_call (wx := wx) hSh s hs y hb
      have HTl := hide (hT ▸ wantT_len Z s y : T.l.length ≤ 1000)
      have HWt := hide fun (wx : World) (D' : List Drv) (h : Shop wx x r b z l D' Z (wantZ Z s y) ia ib) => shop_want s y h
      rw [← hT] at HC HWt
      clear hT hSh
      go_wp2_with fail
      go_cut [15] from 88 to 121 (fun p wx => ∃ N a c D', p = .pointer (some ⟨N, 0, none⟩) ∧ Told w wx w2.heap.size x r b z N a c T l D' Z (wantZ Z s y) ia ib)
      case first =>
        go_region_held3 (fun w' => w'.cell? ⟨x, 1, none⟩ = some (.pointer (some ⟨r, 0, none⟩)) ∧ w'.cell? ⟨g, o + k * 6, none⟩ = some (.int .i64 y.K) ∧ w'.cell? ⟨g, o + k * 6 + 1, none⟩ = some (.int .i64 y.N) ∧ w'.cell? ⟨g, o + k * 6 + 2, none⟩ = some (.int .i64 y.B) ∧ w'.cell? ⟨g, o + k * 6 + 3, none⟩ = some (.int .i64 y.V) ∧ w'.cell? ⟨g, o + k * 6 + 4, none⟩ = some (.int .i64 y.S) ∧ w'.cell? ⟨g, o + k * 6 + 5, none⟩ = some (.int .i64 y.W)) (go_keep)
          (first
            | (go_at_call 16; refine (unhide HC _ ((Below.refl w2.heap.size w2).drew.alloc (Nat.le_refl _) _)).mono ?_; rintro e w3 ⟨a, c, D', rfl, hu, hS3, htk3, hbe3⟩; have hblk := (htk3.block w2.heap.size _ _ _ (heap_alloc_new w2.drew (.cells zTd 54)) (by unfold KD; decide)).trans (heap_alloc_new w2.drew (.cells zTd 54)); obtain ⟨t0, t1, t2, tf⟩ := td_cells hblk; have hbI : Below w.heap.size w2 w3 := (((Below.refl w2.heap.size w2).drew.alloc (Nat.le_refl _) _).mono hsw).trans (hbe3.mono hwb); have p1 := hS3.site.2; have q0 := (hbI.cell (p := ⟨g, o + k * 6, none⟩) hg).trans c0; have q1 := (hbI.cell (p := ⟨g, o + k * 6 + 1, none⟩) hg).trans c1; have q2 := (hbI.cell (p := ⟨g, o + k * 6 + 2, none⟩) hg).trans c2; have q3 := (hbI.cell (p := ⟨g, o + k * 6 + 3, none⟩) hg).trans c3; have q4 := (hbI.cell (p := ⟨g, o + k * 6 + 4, none⟩) hg).trans c4; have q5 := (hbI.cell (p := ⟨g, o + k * 6 + 5, none⟩) hg).trans c5)
            | (go_at_call 16; refine (unhide HC _ (Below.refl w2.heap.size w2).drew).mono ?_; rintro e w3 ⟨a, c, D', rfl, hu, hS3, htk3, hbe3⟩; have hbI : Below w.heap.size w2 w3 := ((Below.refl w2.heap.size w2).drew.mono hsw).trans (hbe3.mono hwb); have p1 := hS3.site.2; have q0 := (hbI.cell (p := ⟨g, o + k * 6, none⟩) hg).trans c0; have q1 := (hbI.cell (p := ⟨g, o + k * 6 + 1, none⟩) hg).trans c1; have q2 := (hbI.cell (p := ⟨g, o + k * 6 + 2, none⟩) hg).trans c2; have q3 := (hbI.cell (p := ⟨g, o + k * 6 + 3, none⟩) hg).trans c3; have q4 := (hbI.cell (p := ⟨g, o + k * 6 + 4, none⟩) hg).trans c4; have q5 := (hbI.cell (p := ⟨g, o + k * 6 + 5, none⟩) hg).trans c5))
        all_goals
          go_wp2_with fail
          go_meet
          have hs3 := htk3.size
          have hs2d : w2.heap.size ≤ w3.heap.size := hbI.size
          first
            | exact ⟨_, a, c, D', rfl, told_set (hu.lower (by simp)) hS3 (hbe.trans hbI) (Nat.le_refl _) hsw hblk⟩
            | exact ⟨_, a, c, D', rfl, told_alloc (hu.lower (by simp)) hS3 (hbe.trans hbI) hs2d⟩
      case rest =>
        obtain ⟨N, a, c, D', rfl, hTo⟩ := hcut
        obtain ⟨t0, t1, t2, hlo, hNl, hnums, hS3, hb3⟩ := hTo
        obtain ⟨w3, hw3⟩ : ∃ w3, w3 = wc := ⟨_, rfl⟩
        subst hw3
        have hix3 : IoAt w3 g (o + k * 6) y := unhide HIO w3 hb3
        obtain ⟨d0, d1, d2, d3, d4, d5⟩ := hix3
        have hk6 : k < len := hlt
        have HW := hide (unhide HWt w3 D' hS3)
        clear HC HWt c0 c1 c2 c3 c4 c5 hne1 hne2 hne3 hne4 hS3
        go_wp2_with fail
        refine (unhide HW).mono ?_
        rintro e w4 ⟨a', c', rfl, hu4, hS4, hgb⟩
        have hbN := hgb.block N hNl (by simp; omega)
        have v0 := (World.cell?_of_block (a := ⟨N, 0, none⟩) hbN).trans t0
        have v1 := (World.cell?_of_block (a := ⟨N, 1, none⟩) hbN).trans t1
        have v2 := (World.cell?_of_block (a := ⟨N, 2, none⟩) hbN).trans t2
        have hN4 : N < w4.heap.size := Nat.lt_of_lt_of_le hNl hgb.size
        have hb4 : Below w.heap.size w w4 := hb3.trans (gb_below hgb hb3.size hz5)
        have hbn := below_new w4 (.cells #[.int .i64 T.n, .slice a' T.l.length c', .int .i64 T.e] 54)
        have HSm := hide (same_law T.n T.e (.slice a T.l.length c) (.slice a' T.l.length c') T.l _ _ (w4.alloc (.cells #[.int .i64 T.n, .slice a' T.l.length c', .int .i64 T.e] 54)) (unhide HTl) ((hnums.gb hgb hzl).keep hbn (Nat.le_refl _)) (hu4.keep hbn (Nat.le_refl _)))
        have HS5 := hide (hS4.later hbn)
        have hb5 := hb4.alloc hb4.size (.cells #[.int .i64 T.n, .slice a' T.l.length c', .int .i64 T.e] 54)
        clear HW t0 t1 t2 d0 d1 d2 d3 d4 d5 hS4 hgb hbN hnums hu4 hbn s1
        go_wp2_with fail
        refine (unhide HSm).mono ?_
        rintro e w6 ⟨rfl, hb6⟩
        have hS6 := (unhide HS5).later hb6
        have hbf : Below w.heap.size w w6 := hb5.trans (hb6.mono hb5.size)
        clear HSm HS5 v0 v1 v2
        go_wp2_with fail
        go_roundw
        case rel => exact ⟨k + 1, by omega, by go_num, D', _, hS6, hbf⟩
        case measure => simp [intOf]; omega
    · have hnl : ¬ (k : Int) < (len : Int) := by omega
      have HL := hide (shop_logout hSh)
      have hrelf := hSh.rel.freed
      clear hSh Ha Hf
      go_wp2_with fail
      refine (unhide HL).mono ?_
      rintro e w2 ⟨rfl, hS2, hZ2, hR2, hb2, hC2⟩
      have s2 := hS2.2
      have HL2 := hide hC2
      clear HL hC2
      go_wp2_with fail
      refine (unhide HL2).mono ?_
      rintro e w3 ⟨rfl, rfl⟩
      have hb03 : Below w.heap.size w w3 := hbe.trans (hb2.mono hwb)
      clear HL2 hbe hb2 s1
      have hZ0 : ShelfAt w3 z (freeTo Z 0) := by rw [freeTo_zero]; exact hZ2
      rw [← freeTo_two] at hrelf
      have HRl := hide hrelf
      clear hZ2 hrelf s2
      go_wp2_with fail
      go_loopw [20] (fun i wr => ∃ j : Nat, j ≤ 2 ∧ i = .int .i64 j ∧ ShelfAt wr z (freeTo Z j) ∧ SiteR wr x r ∧ RackF wr r b l [] [] ⟨freeD D1 1, lastS, 3⟩ ∧ Below w.heap.size w wr) (fun i _ => 2 - (intOf i).toNat)
      case atStart => exact ⟨0, Nat.zero_le _, rfl, hZ0, hS2, hR2, hb03⟩
      case round =>
        obtain ⟨j, hj, rfl, hZj, hSj, hRj, hbj⟩ := hrel
        clear hZ0 hS2 hR2 hb03
        by_cases hj2 : j < 2
        · have hc := hZj.cell (18 + j) (by omega)
          rw [freeTo_at Z j] at hc
          have hfz := hZj.fz
          have hj' : (j : Int) < 2 := by omega
          by_cases h1 : Z (18 + j) = 1
          · have h1' : (Z (18 + j) == 1) = true := by simpa using h1
            have hZn := hZj.set (j := 18 + j) (by omega) (-1)
            rw [freeTo_hit Z j hj2 h1] at hZn
            have htk := hZj.setTK (18 + j) (.int .i64 (-1))
            have hSn := hSj.keep htk (by decide)
            have hRn := hRj.keep htk (by decide) (by decide) (by decide) nh_shelf
            have hbn := hbj.setCell (p := ⟨z, 18 + j, none⟩) (by simp; omega) (.int .i64 (-1))
            have HN := hide (⟨hZn, hSn, hRn, hbn⟩ : _ ∧ _ ∧ _ ∧ _)
            generalize Z (18 + j) = hv at *
            clear hZn htk hSn hRn hbn hZj hSj hRj hbj h1
            have hj3 : j = 0 ∨ j = 1 := by omega
            rcases hj3 with rfl | rfl
            all_goals
              go_wp2_with fail
              go_roundw
              case rel => exact ⟨_, by omega, by go_num, (unhide HN).1, (unhide HN).2.1, (unhide HN).2.2.1, (unhide HN).2.2.2⟩
              case measure => simp [intOf]
          · have h1' : (Z (18 + j) == 1) = false := by simpa using h1
            rw [freeTo_miss Z j hj2 h1] at hZj
            generalize Z (18 + j) = hv at *
            have HN := hide (⟨hZj, hSj, hRj, hbj⟩ : _ ∧ _ ∧ _ ∧ _)
            clear hZj hSj hRj hbj h1
            have hj3 : j = 0 ∨ j = 1 := by omega
            rcases hj3 with rfl | rfl
            all_goals
              go_wp2_with fail
              go_roundw
              case rel => exact ⟨_, by omega, by go_num, (unhide HN).1, (unhide HN).2.1, (unhide HN).2.2.1, (unhide HN).2.2.2⟩
              case measure => simp [intOf]
        · have hj2' : j = 2 := by omega
          subst hj2'
          have hbn := below_new wr (.cells #[.int .i64 2, .int .i64 6, .int .i64 8, .int .i64 0, .int .i64 0, .int .i64 0] 51)
          have HRk := hide hRj
          have HZj := hide hZj
          have HSj := hide hSj
          have hxl : x < wr.heap.size := by obtain ⟨⟨cs, fr, e⟩, _⟩ := hSj; exact (Array.getElem?_eq_some_iff.1 e).1
          have hzl := hZj.lt
          have hrs := hbj.size
          clear hRj hZj hSj
          go_wp2_with fail
          have hi7 : (wr.alloc (.cells #[.int .i64 2, .int .i64 6, .int .i64 8, .int .i64 0, .int .i64 0, .int .i64 0] 51)).heap[wr.heap.size]? = some (.cells lastC 51 (0, 0)) := heap_alloc_new wr _
          have hs7 : (wr.alloc (.cells #[.int .i64 2, .int .i64 6, .int .i64 8, .int .i64 0, .int .i64 0, .int .i64 0] 51)).heap.size = wr.heap.size + 1 := by simp
          generalize hw7 : wr.alloc (.cells #[.int .i64 2, .int .i64 6, .int .i64 8, .int .i64 0, .int .i64 0, .int .i64 0] 51) = w7 at *
          have hb7 : Below w.heap.size w w7 := hbj.trans (hbn.mono hrs)
          obtain ⟨ZZ, hZZ⟩ : ∃ ZZ, ZZ = freeTo Z 2 := ⟨_, rfl⟩
          rw [← hZZ] at HZj HRl
          have hZn : ShelfAt w7 z ZZ := (unhide HZj).keep (T := fun _ => False) (TK.of_below hbn) id
          have hSn : SiteR w7 x r := (unhide HSj).keep (T := fun _ => False) (TK.of_below hbn) id
          have HC := hide fun (wx : World) hb => shop_last (wx := wx) hSn hZn ((unhide HRk).later hbn) hp (unhide HRl) hb
          have hsx := hSn.2
          generalize hi : wr.heap.size = i at *
          have hil : i < w7.heap.size := by omega
          have hne1 : ¬ x = w7.heap.size := by omega
          have hne2 : ¬ w7.heap.size = x := by omega
          have hne3 : ¬ i = w7.heap.size := by omega
          have hne4 : ¬ w7.heap.size = i := by omega
          have hzl7 : z < w7.heap.size := by omega
          have hw7s : w.heap.size ≤ w7.heap.size := hb7.size
          obtain ⟨c0, c1, c2, c3, c4, c5⟩ := last_io hi7
          obtain ⟨T, hT⟩ : ∃ T, T = wantT ZZ 2 lastIo := ⟨_, rfl⟩
          have HTl := hide (hT ▸ wantT_len ZZ 2 lastIo : T.l.length ≤ 1000)
          have HWt := hide fun (wx : World) (h : ShelfAt wx z ZZ) => wants_any z ZZ 2 lastIo wx h
          rw [← hT] at HC HWt
          have HI7 := hide hi7
          clear hT hZZ HRk HZj HSj hZn hSn hbn hi hw7 hs7 hi7 hbj HRl hrs hxl hzl
          go_cut [22] from 155 to 160 (fun p wx => ∃ N a c, p = .pointer (some ⟨N, 0, none⟩) ∧ Told2 w wx w7.heap.size z i N a c T ZZ)
          case first =>
            go_region_held3 (fun w' => w'.cell? ⟨x, 1, none⟩ = some (.pointer (some ⟨r, 0, none⟩)) ∧ w'.cell? ⟨i, 0, none⟩ = some (.int .i64 2) ∧ w'.cell? ⟨i, 1, none⟩ = some (.int .i64 6) ∧ w'.cell? ⟨i, 2, none⟩ = some (.int .i64 8) ∧ w'.cell? ⟨i, 3, none⟩ = some (.int .i64 0) ∧ w'.cell? ⟨i, 4, none⟩ = some (.int .i64 0) ∧ w'.cell? ⟨i, 5, none⟩ = some (.int .i64 0)) (go_keep)
              (first
                | (go_at_call 16; refine (unhide HC _ ((Below.refl w7.heap.size w7).drew.alloc (Nat.le_refl _) _)).mono ?_; rintro e w3 ⟨a, c, rfl, hu, hS3, hZ3, htk3, hbe3⟩; have hblk := (htk3.block w7.heap.size _ _ _ (heap_alloc_new w7.drew (.cells zTd 54)) (by unfold KD; decide)).trans (heap_alloc_new w7.drew (.cells zTd 54)); obtain ⟨t0, t1, t2, tf⟩ := td_cells hblk; have hbI : Below w.heap.size w7 w3 := (((Below.refl w7.heap.size w7).drew.alloc (Nat.le_refl _) _).mono hw7s).trans (hbe3.mono hwb); have p1 := hS3.2; have hi3 : w3.heap[i]? = some (.cells lastC 51 (0, 0)) := (htk3.block i _ _ _ (((TK.of_below (T := fun _ => False) ((Below.refl w7.heap.size w7).drew.alloc (Nat.le_refl _) _)).block i _ _ _ (unhide HI7) id).trans (unhide HI7)) (by unfold KD; decide)).trans (((TK.of_below (T := fun _ => False) ((Below.refl w7.heap.size w7).drew.alloc (Nat.le_refl _) _)).block i _ _ _ (unhide HI7) id).trans (unhide HI7)); have HI3 := hide hi3; obtain ⟨q0, q1, q2, q3, q4, q5⟩ := last_io hi3; clear hi3)
                | (go_at_call 16; refine (unhide HC _ (Below.refl w7.heap.size w7).drew).mono ?_; rintro e w3 ⟨a, c, rfl, hu, hS3, hZ3, htk3, hbe3⟩; have hbI : Below w.heap.size w7 w3 := ((Below.refl w7.heap.size w7).drew.mono hw7s).trans (hbe3.mono hwb); have p1 := hS3.2; have hi3 : w3.heap[i]? = some (.cells lastC 51 (0, 0)) := (htk3.block i _ _ _ (unhide HI7) (by unfold KD; decide)).trans (unhide HI7); have HI3 := hide hi3; obtain ⟨q0, q1, q2, q3, q4, q5⟩ := last_io hi3; clear hi3))
            all_goals
              go_wp2_with fail
              go_meet
              have hs3 := htk3.size
              have hs2d : w7.heap.size ≤ w3.heap.size := hbI.size
              first
                | exact ⟨_, a, c, rfl, told2_set (hu.lower (by simp)) hZ3 (hb7.trans hbI) (unhide HI3) (Nat.le_refl _) hw7s hblk⟩
                | exact ⟨_, a, c, rfl, told2_alloc (hu.lower (by simp)) hZ3 (hb7.trans hbI) (unhide HI3) hs2d⟩
          case rest =>
            obtain ⟨N, a, c, rfl, hTo⟩ := hcut
            obtain ⟨t0, t1, t2, hlo, hNl, hnums, hS3, hi3, hb3⟩ := hTo
            obtain ⟨w3, hw3⟩ : ∃ w3, w3 = wc := ⟨_, rfl⟩
            subst hw3
            obtain ⟨d0, d1, d2, d3, d4, d5⟩ := last_io hi3
            have HW := hide (unhide HWt w3 hS3)
            clear HC HWt HI7 c0 c1 c2 c3 c4 c5 hne1 hne2 hne3 hne4 hS3 hsx hi3
            go_wp2_with fail
            refine (unhide HW).mono ?_
            rintro e w4 ⟨u, rfl, hu4, hS4, hgb⟩
            obtain ⟨a', c', rfl⟩ : ∃ a' c', u = .slice a' T.l.length c' := by
              rcases hu4 with ⟨e, a, c, rfl⟩ | ⟨g, cap, rfl, _⟩
              · exact ⟨a, c, by rw [e]; rfl⟩
              · exact ⟨_, _, rfl⟩
            have hbN := hgb.block N hNl (by simp; omega)
            have v0 := (World.cell?_of_block (a := ⟨N, 0, none⟩) hbN).trans t0
            have v1 := (World.cell?_of_block (a := ⟨N, 1, none⟩) hbN).trans t1
            have v2 := (World.cell?_of_block (a := ⟨N, 2, none⟩) hbN).trans t2
            have hN4 : N < w4.heap.size := Nat.lt_of_lt_of_le hNl hgb.size
            have hb4 : Below w.heap.size w w4 := hb3.trans (gb_below hgb hb3.size hz5)
            have hbn := below_new w4 (.cells #[.int .i64 T.n, .slice a' T.l.length c', .int .i64 T.e] 54)
            have HSm := hide (same_law T.n T.e (.slice a T.l.length c) (.slice a' T.l.length c') T.l _ _ (w4.alloc (.cells #[.int .i64 T.n, .slice a' T.l.length c', .int .i64 T.e] 54)) (unhide HTl) ((hnums.gb hgb hzl7).keep hbn (Nat.le_refl _)) (hu4.keep hbn (Nat.le_refl _)))
            have hb5 := hb4.alloc hb4.size (.cells #[.int .i64 T.n, .slice a' T.l.length c', .int .i64 T.e] 54)
            clear HW t0 t1 t2 d0 d1 d2 d3 d4 d5 hS4 hgb hbN hnums hu4 hbn
            go_wp2_with fail
            refine (unhide HSm).mono ?_
            rintro e w6 ⟨rfl, hb6⟩
            have hbf : Below w.heap.size w w6 := hb5.trans (hb6.mono hb5.size)
            clear HSm v0 v1 v2
            go_wp2_with fail
            go_ret
            exact ⟨rfl, hbf⟩

end Go.Proofs.Ytdlhgbhaeedbdab
