/- Ws2, Ws3, Ws4, Ws5. -/
import Derived.Test.YtdlhgbhaeedbdabGreatM26

/- 'Site.open'. -/
namespace Go.Proofs.YtdlhgbhaeedbdabGreat
open Go.RowKit

set_option maxRecDepth 100000 in
set_option maxHeartbeats 400000 in
theorem open_dead (b : Nat) (S E : Nat → UInt8) (U : List Lg) (l : Int) (w : World) (hl : l ≤ 9223372036854775807) (h : ApiAt w b S E U l true) :
    Calls Tryz.prog 79 #[.pointer (some ⟨b, 0, none⟩)] w fun e w' => OpenEnd b S E U l true w e w' := by
  have HL := hide (load_any b S E U l true w hl h)
  clear h
  go_enter Tryz.func79, Tryz.ntmps79
  go_wp2_with fail
  refine (unhide HL).mono ?_
  rintro e w1 ⟨l1, d1, ha1, hl1, hbe1, htk1, hlow1, hcase⟩
  have hkt1 : TK KT w w1 := tk_at htk1
  rcases hcase with ⟨rfl, rfl⟩ | ⟨_, h2, _⟩
  · clear HL
    go_wp2_with fail
    go_ret2
    exact ⟨_, _, ha1, hl1, hbe1, hkt1, fun h0 => ⟨(hlow1 h0).1, rfl⟩, .inl ⟨rfl, rfl⟩⟩
  · cases h2

theorem open_all (b : Nat) (S E : Nat → UInt8) (U : List Lg) (l : Int) (d : Bool) (w : World) (hl : l ≤ 9223372036854775807) (hE : d = false → (chk (held E)).1 = 0) (h : ApiAt w b S E U l d) :
    Calls Tryz.prog 79 #[.pointer (some ⟨b, 0, none⟩)] w fun e w' => OpenEnd b S E U l d w e w' := by
  cases d with
  | true => exact open_dead b S E U l w hl h
  | false => exact open_any b S E U l false w hl (hE rfl) h

/-- What 'open' leaves. -/
def SOpenEnd (x b : Nat) (A : List ByteArray) (G : ByteArray) (l : Int) (d : Bool) (w : World) (w' : World) : Prop :=
  ∃ l' d', (l < 0 → l' = l ∧ d' = d) ∧ Below b w w' ∧ ((d' = true ∧ ∀ t, Inv hj0 w' x b A G 0 none l' true t) ∨ (d' = false ∧ d = false ∧ ∃ r T, T ∈ A ∧ ∀ t, Inv hj0 w' x b [T] G 0 (some r) l' false t))

theorem str_new (w : World) (s : ByteArray) (b : Nat) (hb : b + 1 ≤ w.heap.size) : (w.alloc (.cells #[.string s] 9)).ownsRow (b + 1) 9 1 (.slice (some ⟨w.heap.size, 0, none⟩) 1 1) [s].length ([s].map Value.string) := by
  refine ⟨rfl, .inr ⟨w.heap.size, 1, #[.string s], rfl, hb, heap_alloc_last w _, Nat.le_refl _, by unfold maxLen; omega, rfl, rfl⟩⟩

set_option maxRecDepth 100000 in
set_option maxHeartbeats 800000 in
theorem sopen_any (x b : Nat) (rp : Option Addr) (A : List ByteArray) (G : ByteArray) (n : Nat) (l : Int) (d : Bool) (w : World) (hA : A.length ≤ 1000) (hne : A ≠ []) (hcan : ∀ s ∈ A, Canon s) (hx : SiteAt hj0.sfro w x b rp A G n) (hd : DevAt w b A l d) :
    Calls Tryz.prog 55 #[.pointer (some ⟨x, 0, none⟩)] w fun e w' => e = .returned (.bool true) ∧ SOpenEnd x b A G l d w w' := by
  have hnot : ∀ (x : Bool) (w : World), (Op.unary .not (.bool x)).run Tryz.prog w = .ok (.bool (!x)) w := fun _ _ => rfl
  have c1 := hx.c1
  have c4 := hx.c4
  have c0 := hx.c0
  have hfz := hx.fz
  have hbx := hx.bx
  have hlx := hx.lt
  have hx1 := hx.put1 none
  have hx2 := hx1.put4 0
  have ht2 : TK X1 w _ := (hx.setTK 1 (.pointer none)).trans (hx1.setTK 4 (.int .i64 (0 : Nat)))
  have hb2 : Below b w _ := ((Below.refl b w).setCell (p := ⟨x, 1, none⟩) (Nat.le_of_lt hbx) (.pointer none)).setCell (p := ⟨x, 4, none⟩) (Nat.le_of_lt hbx) (.int .i64 (0 : Nat))
  have hd2 := hd.keep ht2 x1_dev x1_late
  obtain ⟨S, E, U, ha, hl, hU1, hU2, hal, hde⟩ := hd2
  have HO := hide (open_all b S E U l d _ hl (fun h0 => by
    obtain ⟨_, e, hm⟩ := hal h0
    rw [e]
    exact (hcan _ hm).1) ha)
  have Hx2 := hide hx2
  have Hal := hide hal
  have Hde := hide hde
  have Hcan := hide hcan
  clear hx hd hx1 hx2 hal hde hcan ha
  go_enter Tryz.func55, Tryz.ntmps55
  go_wp2_with fail
  refine (unhide HO).mono ?_
  rintro e w3 ⟨l', d', ha3, hl3, hbe3, htk3, hlow3, hcase⟩
  have hx3 := (unhide Hx2).keep htk3 kt_site kt_str
  have hbe03 := hb2.trans hbe3
  have c03 := hx3.c0
  have HD := hide (adead_any b d' w3 ha3.c4)
  clear HO Hx2 ht2 hb2 hbe3 htk3 c0 c1 c4 hfz
  rcases hcase with ⟨rfl, rfl⟩ | ⟨rfl, rfl, r, hr, rfl, hR⟩
  · go_wp2_with fail
    refine (unhide HD).mono ?_
    rintro e w4 ⟨rfl, rfl⟩
    go_wp2_with fail
    go_ret
    refine ⟨rfl, l', true, hlow3, hbe03, .inl ⟨rfl, fun t => ⟨hx3, ⟨S, E, U, ha3, hl3, hU1, hU2, (fun h => by cases h), fun _ keep => ?_⟩, unhide Hcan, hne, .inl ⟨rfl, rfl⟩, (fun h => by cases h)⟩⟩⟩
    cases d with
    | true => exact unhide Hde rfl keep
    | false =>
      obtain ⟨rfl, rfl, hm⟩ := unhide Hal rfl
      exact hm
  · obtain ⟨rfl, rfl, hm⟩ := unhide Hal rfl
    have hcT := unhide Hcan _ hm
    have hR0 := hR
    generalize hT : held E = T at *
    have HT := hide hT
    have HC := hide (config_any r b _ [] [] w3 hcT.arr.fits hR)
    rw [hcT.2] at HC
    have HR := hide hR
    have HcT := hide hcT
    have Hx3 := hide hx3
    clear hT hR hR0 hcT
    go_wp2_with fail
    refine (unhide HD).mono ?_
    rintro e w4 ⟨rfl, rfl⟩
    go_wp2_with fail
    refine (unhide HC).mono ?_
    rintro e w5 ⟨rfl, hb5⟩
    have hx5 := (unhide Hx3).later hb5
    have c15 := hx5.c1
    have hfz5 := hx5.fz
    have hx6 := hx5.put1 (some ⟨r, 0, none⟩)
    have ht6 := hx5.setTK 1 (.pointer (some ⟨r, 0, none⟩))
    obtain ⟨g, cap, c26, hin⟩ := hx6.first hne
    have HI := hide (in_any g cap A T _ (by omega) hin)
    have hinb : inB A T = true := inB_true.2 hm
    rw [hinb] at HI
    clear hinb hin
    have hb6 : Below b w5 _ := (Below.refl b w5).setCell (p := ⟨x, 1, none⟩) (Nat.le_of_lt hbx) (.pointer (some ⟨r, 0, none⟩))
    have hs6 : (w5.setCell ⟨x, 1, none⟩ (.pointer (some ⟨r, 0, none⟩))).heap.size = w5.heap.size := by simp [World.setCell]
    have hs5 := hb5.size
    have hlx5 := hx5.lt
    generalize hW6 : w5.setCell ⟨x, 1, none⟩ (.pointer (some ⟨r, 0, none⟩)) = w6 at *
    have hbn := below_new w6 (.cells #[.string T] 9)
    have hx7 := hx6.later hbn
    have hx8 := hx7.put2 (str_new w6 T b (by omega))
    have ht8 := hx7.setTK 2 (.slice (some ⟨w6.heap.size, 0, none⟩) 1 1)
    have htx : TK X1 w4 w6 := (TK.of_below hb5).trans ht6
    have htx8 : TK X1 w4 _ := (htx.trans (TK.of_below hbn)).trans ht8
    have hbe8 : Below b w _ := ((hbe03.trans (hb5.mono (show b ≤ w4.heap.size by have := (unhide Hx3).lt; omega))).trans (hb6.trans (hbn.mono (by omega)))).setCell (p := ⟨x, 2, none⟩) (Nat.le_of_lt hbx) (.slice (some ⟨w6.heap.size, 0, none⟩) 1 1)
    have hR8 := (unhide HR).keep htx8 x1_rack x1_item x1_step nh_x1
    have ha8 := ha3.keep htx8 x1_dev x1_late
    have Hx8 := hide hx8
    have HR8 := hide hR8
    have Ha8 := hide ha8
    have Hbe8 := hide hbe8
    have hfz6 := hx6.fz
    have c26' : (w6.alloc (.cells #[.string T] 9)).cell? ⟨x, 2, none⟩ = some (.slice (some ⟨g, 0, none⟩) A.length cap) := by rw [World.cell?_alloc_some _ _ _ (by rw [c26]; rfl), c26]
    have hlt6 : x < w6.heap.size := by omega
    have e8 := World.setCell_alloc_past (w := w6) (.cells #[.string T] 9) x 2 (.slice (some ⟨w6.heap.size, 0, none⟩) 1 1) hlt6
    rw [e8, hs6] at Hx8 HR8 Ha8 Hbe8
    subst hW6
    clear e8 hx5 hx6 hx7 hx8 hR8 ha8 hbe8 htx8 htx ht8 ht6 Hx3 hx3 ha3 hbn hb6 HR HD HC
    go_wp2_with (go_at_call 59; refine (unhide HI).mono ?_; rintro e w7 ⟨rfl, rfl⟩)
    go_ret
    have hx9 := unhide Hx8
    have hR9 := unhide HR8
    have ha9 := unhide Ha8
    refine ⟨rfl, l', false, fun h0 => ⟨(hlow3 h0).1, rfl⟩, unhide Hbe8, .inr ⟨rfl, rfl, r, T, hm, fun t => ⟨hx9, ⟨E, E, [], ha9, hl3, by simp, by simp, fun _ => ⟨rfl, rfl, ?_⟩, (fun h => by cases h)⟩, ?_, by simp, ?_, fun _ h => absurd h (by omega)⟩⟩⟩
    · rw [unhide HT]; simp
    · intro s hs
      simp only [List.mem_singleton] at hs
      subst hs
      exact unhide HcT
    · exact .inr ⟨r, rfl, .inr ⟨rfl, T, rfl, _, [], [], hR9, rfl, by simp, .inl ⟨rfl, rfl, List.Perm.refl _⟩⟩⟩

end Go.Proofs.YtdlhgbhaeedbdabGreat

/- 'Site.start'. -/
namespace Go.Proofs.YtdlhgbhaeedbdabGreat
open Go.RowKit

theorem Inv.keep {Mj : HJ} {T : TypeId → Prop} {w w' : World} {x b : Nat} {A : List ByteArray} {G : ByteArray} {n : Nat} {rp : Option Nat} {l : Int} {d : Bool} {t : List Item} (h : Inv Mj w x b A G n rp l d t) (hk : TK T w w') (h1 : ¬ T 38) (h2 : ¬ T 9) (h3 : ¬ T 120) (h4 : ¬ T 147) (h5 : ¬ T 79) (h6 : ¬ T 83) (h7 : ¬ T 157) (h8 : NH T) : Inv Mj w' x b A G n rp l d t := by
  obtain ⟨a1, a2, a3, a4, a5, a6⟩ := h
  refine ⟨a1.keep hk h1 h2, a2.keep hk h3 h4, a3, a4, ?_, a6⟩
  rcases a5 with a5 | ⟨r, e, ⟨e2, hD⟩ | ⟨e2, T, e3, hR⟩⟩
  · exact .inl a5
  · exact .inr ⟨r, e, .inl ⟨e2, hD.keep hk h5⟩⟩
  · exact .inr ⟨r, e, .inr ⟨e2, T, e3, hR.keep hk h5 h6 h7 h8⟩⟩

theorem Inv.later {Mj : HJ} {w w' : World} {x b : Nat} {A : List ByteArray} {G : ByteArray} {n : Nat} {rp : Option Nat} {l : Int} {d : Bool} {t : List Item} (h : Inv Mj w x b A G n rp l d t) (hk : Below w.heap.size w w') : Inv Mj w' x b A G n rp l d t :=
  h.keep (T := fun _ => False) (TK.of_below hk) id id id id id id id nh_false

theorem Inv.dead {Mj : HJ} {w : World} {x b : Nat} {A : List ByteArray} {G : ByteArray} {n r : Nat} {l : Int} {t : List Item} (h : Inv Mj w x b A G n (some r) l true t) : DeadAt w r := by
  rcases h.rack with ⟨e, _⟩ | ⟨r', e, ⟨_, hD⟩ | ⟨e2, _⟩⟩
  · cases e
  · simp only [Option.some.injEq] at e; exact e ▸ hD
  · cases e2

theorem Inv.live {Mj : HJ} {w : World} {x b : Nat} {A : List ByteArray} {G : ByteArray} {n r : Nat} {l : Int} {t : List Item} (h : Inv Mj w x b A G n (some r) l false t) : ∃ T, A = [T] ∧ RackI Mj w r b T t n := by
  rcases h.rack with ⟨e, _⟩ | ⟨r', e, ⟨e2, hD⟩ | ⟨_, hR⟩⟩
  · cases e
  · cases e2
  · simp only [Option.some.injEq] at e; exact e ▸ hR

theorem Inv.front {Mj : HJ} {w : World} {x b : Nat} {A : List ByteArray} {G : ByteArray} {n : Nat} {rp : Option Nat} {l : Int} {d : Bool} {t : List Item} (h : Inv Mj w x b A G n rp l d t) :
    ∃ T g cap, A[0]? = some T ∧ w.cell? ⟨x, 2, none⟩ = some (.slice (some ⟨g, 0, none⟩) A.length cap) ∧ w.cell? ⟨g, 0, none⟩ = some (.string T) ∧ g < w.heap.size ∧ Canon T ∧ T.size ≤ maxLen ∧ (0 : Int) < (A.length : Int) := by
  obtain ⟨g, cap, c2, hg, hin⟩ := h.site.first h.ne
  have hA0 : 0 < A.length := List.length_pos_iff.2 h.ne
  have hc := hin 0 hA0
  have hcan := h.canon _ (List.getElem_mem hA0)
  exact ⟨A[0], g, cap, by simp [hA0], c2, hc, hg, hcan, by have := chk_size hcan.1; unfold maxLen; omega, by omega⟩

set_option maxRecDepth 100000 in
set_option maxHeartbeats 400000 in
theorem sstart_dead {Mj : HJ} (x b r : Nat) (A : List ByteArray) (G s : ByteArray) (n : Nat) (l : Int) (t : List Item) (w : World) (hs : s.size ≤ maxLen) (h : Inv Mj w x b A G n (some r) l true t) :
    Calls Tryz.prog 13 #[.pointer (some ⟨x, 0, none⟩), .string s] w fun e w' => e = .returned (.bool true) ∧ Below w.heap.size w w' := by
  obtain ⟨T, g, cap, _, c2, hc, hg, hcan, hsz, hA0'⟩ := h.front
  have hlx := h.site.lt
  have HPl := hide (plan_any T s w hsz hs)
  have HPr := hide fun wx => print_any s wx hs
  have hD := h.dead
  have hlr := hD.lt
  have c1 := h.site.c1
  have c0 := h.site.c0
  have hdc := h.dev.c4
  have hlb := h.dev.lt
  have HS := hide fun wx (hb : Below w.heap.size w wx) => start_dead r s wx (hD.keep (T := fun _ => False) (TK.of_below hb) id)
  generalize plErr T s = pe at *
  generalize pl T s = P at *
  generalize prt s = ps at *
  generalize (chk s).1 = cs at *
  simp only [Option.map_some] at c1
  clear h hD hcan
  generalize A.length = m at *
  go_enter Tryz.func13, Tryz.ntmps13
  go_wp2_with fail
  refine (unhide HPl).mono ?_
  rintro e w1 ⟨v, rfl, hown, hb1⟩
  have hs1 := hb1.size
  clear hown
  go_wp2_with fail
  refine (unhide HPr _).mono ?_
  rintro e w2 ⟨rfl, hb2⟩
  have hb02 : Below w.heap.size w w2 := hb1.trans (hb2.mono hs1)
  have c12 := (hb02.cell (p := ⟨x, 1, none⟩) hlx).trans c1
  have c02 := (hb02.cell (p := ⟨x, 0, none⟩) hlx).trans c0
  have hdc2 := (hb02.cell (p := ⟨b, 4098, none⟩) hlb).trans hdc
  clear c1 c0 hdc
  go_wp2_with fail
  refine (unhide HS _ hb02).mono ?_
  rintro e w3 ⟨rfl, rfl⟩
  go_wp2_with fail
  refine (adead_any b true _ hdc2).mono ?_
  rintro e w4 ⟨rfl, rfl⟩
  go_wp2_with fail
  go_ret
  exact ⟨rfl, hb02⟩

set_option maxRecDepth 100000 in
set_option maxHeartbeats 400000 in
theorem sstart_busy {Mj : HJ} (x b r : Nat) (A : List ByteArray) (G s : ByteArray) (n : Nat) (l : Int) (t : List Item) (w : World) (hs : s.size ≤ maxLen) (hn : 0 < n) (h : Inv Mj w x b A G n (some r) l false t) :
    Calls Tryz.prog 13 #[.pointer (some ⟨x, 0, none⟩), .string s] w fun e w' => e = .returned (.bool true) ∧ Below w.heap.size w w' := by
  obtain ⟨T, g, cap, _, c2, hc, hg, hcan, hsz, hA0'⟩ := h.front
  have hlx := h.site.lt
  have HPl := hide (plan_any T s w hsz hs)
  have HPr := hide fun wx => print_any s wx hs
  obtain ⟨T0, _, l0, did, left, hR, hnl, _, _⟩ := h.live
  have c1 := h.site.c1
  have c0 := h.site.c0
  have c4 := h.site.c4
  have hdc := h.dev.c4
  have hlb := h.dev.lt
  have hn' : (0 : Int) < (n : Int) := by omega
  have HS := hide fun wx (hb : Below w.heap.size w wx) => start_busy r b s l0 did left wx (by omega) (hR.later hb)
  generalize plErr T s = pe at *
  generalize pl T s = P at *
  generalize prt s = ps at *
  generalize (chk s).1 = cs at *
  simp only [Option.map_some] at c1
  clear h hR hcan hnl
  generalize A.length = m at *
  go_enter Tryz.func13, Tryz.ntmps13
  go_wp2_with fail
  refine (unhide HPl).mono ?_
  rintro e w1 ⟨v, rfl, hown, hb1⟩
  have hs1 := hb1.size
  clear hown
  go_wp2_with fail
  refine (unhide HPr _).mono ?_
  rintro e w2 ⟨rfl, hb2⟩
  have hb02 : Below w.heap.size w w2 := hb1.trans (hb2.mono hs1)
  have c12 := (hb02.cell (p := ⟨x, 1, none⟩) hlx).trans c1
  have c02 := (hb02.cell (p := ⟨x, 0, none⟩) hlx).trans c0
  have c42 := (hb02.cell (p := ⟨x, 4, none⟩) hlx).trans c4
  have hdc2 := (hb02.cell (p := ⟨b, 4098, none⟩) hlb).trans hdc
  clear c1 c0 c4 hdc
  go_wp2_with fail
  refine (unhide HS _ hb02).mono ?_
  rintro e w3 ⟨rfl, rfl⟩
  go_wp2_with fail
  refine (adead_any b false _ hdc2).mono ?_
  rintro e w4 ⟨rfl, rfl⟩
  go_wp2_with fail
  go_ret
  exact ⟨rfl, hb02⟩

set_option maxRecDepth 100000 in
set_option maxHeartbeats 400000 in
theorem sstart_bad {Mj : HJ} (x b r : Nat) (A : List ByteArray) (G s : ByteArray) (l : Int) (t : List Item) (w : World) (hs : s.size ≤ maxLen) (h0 : (chk s).1 ≠ 0) (h : Inv Mj w x b A G 0 (some r) l false t) :
    Calls Tryz.prog 13 #[.pointer (some ⟨x, 0, none⟩), .string s] w fun e w' => e = .returned (.bool true) ∧ Below w.heap.size w w' := by
  obtain ⟨T, g, cap, _, c2, hc, hg, hcan, hsz, hA0'⟩ := h.front
  have hlx := h.site.lt
  have hpe : plErr T s = (chk s).1 := by unfold plErr; rw [if_pos hcan.1]
  have HPl := hide (plan_any T s w hsz hs)
  rw [hpe] at HPl
  have HPr := hide fun wx => print_any s wx hs
  obtain ⟨T0, _, l0, did, left, hR, hnl, _, hk⟩ := h.live
  have hle : left = [] := List.length_eq_zero_iff.1 hnl.symm
  have hde : did = [] := by
    rcases hk with ⟨_, e, _⟩ | ⟨e, _⟩
    · exact e
    · omega
  subst hle hde
  have c1 := h.site.c1
  have c0 := h.site.c0
  have c4 := h.site.c4
  have hdc := h.dev.c4
  have hlb := h.dev.lt
  have HS := hide fun wx (hb : Below w.heap.size w wx) => start_bad r b s l0 wx hs h0 (hR.later hb)
  have h0' : ((((chk s).1 : Nat) : Int) != 0) = true := by rw [bne_iff_ne]; omega
  generalize pl T s = P at *
  generalize prt s = ps at *
  generalize (chk s).1 = cs at *
  simp only [Option.map_some] at c1
  clear h hR hcan hnl hk hpe h0
  generalize A.length = m at *
  go_enter Tryz.func13, Tryz.ntmps13
  go_wp2_with fail
  refine (unhide HPl).mono ?_
  rintro e w1 ⟨v, rfl, hown, hb1⟩
  have hs1 := hb1.size
  clear hown
  go_wp2_with fail
  refine (unhide HPr _).mono ?_
  rintro e w2 ⟨rfl, hb2⟩
  have hb02 : Below w.heap.size w w2 := hb1.trans (hb2.mono hs1)
  have hs02 := hb02.size
  have c12 := (hb02.cell (p := ⟨x, 1, none⟩) hlx).trans c1
  have c02 := (hb02.cell (p := ⟨x, 0, none⟩) hlx).trans c0
  have c42 := (hb02.cell (p := ⟨x, 4, none⟩) hlx).trans c4
  have hdc2 := (hb02.cell (p := ⟨b, 4098, none⟩) hlb).trans hdc
  clear c1 c0 c4 hdc
  go_wp2_with fail
  refine (unhide HS _ hb02).mono ?_
  rintro e w3 ⟨rfl, hb3⟩
  have c03 := (hb3.cell (p := ⟨x, 0, none⟩) (show x < w2.heap.size by omega)).trans c02
  have c43 := (hb3.cell (p := ⟨x, 4, none⟩) (show x < w2.heap.size by omega)).trans c42
  have hdc3 := (hb3.cell (p := ⟨b, 4098, none⟩) (show b < w2.heap.size by omega)).trans hdc2
  have hb03 : Below w.heap.size w w3 := hb02.trans (hb3.mono hs02)
  clear c02 c12 c42 hdc2
  go_wp2_with fail
  refine (adead_any b false _ hdc3).mono ?_
  rintro e w4 ⟨rfl, rfl⟩
  go_wp2_with fail
  go_ret
  exact ⟨rfl, hb03⟩

end Go.Proofs.YtdlhgbhaeedbdabGreat

/- 'Site.start', on: a plan is begun. -/
namespace Go.Proofs.YtdlhgbhaeedbdabGreat
open Go.RowKit

theorem SiteAt.apart {F : Nat → Option Obj} {w : World} {x b : Nat} {rp : Option Addr} {A : List ByteArray} {G : ByteArray} {n g cap : Nat} (h : SiteAt F w x b rp A G n) (c2 : w.cell? ⟨x, 2, none⟩ = some (.slice (some ⟨g, 0, none⟩) A.length cap)) : g ≠ x := by
  rintro rfl
  obtain ⟨cs, fr, hty⟩ := h.ty
  obtain ⟨v, c2', hrow⟩ := h.c2
  rw [c2] at c2'
  simp only [Option.some.injEq] at c2'
  subst c2'
  obtain ⟨_, ⟨h0, _⟩ | ⟨g', cap', cur, h1, _, hg, _⟩⟩ := hrow
  · cases h0
  · simp only [Value.slice.injEq, Option.some.injEq, Addr.mk.injEq] at h1
    obtain ⟨⟨rfl, _⟩, _⟩ := h1
    rw [hty] at hg
    simp only [Option.some.injEq, Obj.cells.injEq] at hg
    exact absurd hg.2.1 (by decide)

/-- What 'start' leaves where a plan is begun. -/
def SStartEnd (Mj : HJ) (x b r : Nat) (T s : ByteArray) (l : Int) (w w' : World) : Prop :=
  Inv Mj w' x b [T] (prt s) (pl T s).length (some r) l false (itemsOf s) ∧ Below b w w'

theorem begun_inv {Mj : HJ} {w : World} {r b : Nat} {l0 : List Item} {T s : ByteArray} (hT : Canon T) (hs : (chk s).1 = 0) (hp : l0.Perm (itemsOf T)) (hR : RackAt Mj w r b l0 [] (mk l0 (itemsOf s))) : RackI Mj w r b T (itemsOf s) (pl T s).length := by
  have hA0 : ArrI l0 := hT.arr.perm hp.symm
  have hAs := arrI_of_chk hs
  have hlen : (pl T s).length = (mk l0 (itemsOf s)).length := by rw [pl_canon hT.1 hs, stTxts_len, mk_perm hA0 hp]
  have hml := mk_len l0 (itemsOf s) hA0.fits.1 hAs.fits.1
  refine ⟨l0, [], _, hR, hlen, by simpa using hml, ?_⟩
  by_cases h0 : (mk l0 (itemsOf s)).length = 0
  · exact .inl ⟨List.length_eq_zero_iff.1 h0, rfl, hp⟩
  · exact .inr ⟨by omega, l0, hp, way_start hA0 hAs, rfl⟩

set_option maxRecDepth 100000 in
set_option maxHeartbeats 800000 in
theorem sstart_ok {Mj : HJ} (x b r : Nat) (T : ByteArray) (G s : ByteArray) (l : Int) (t : List Item) (w : World) (hs : s.size ≤ maxLen) (h0 : (chk s).1 = 0) (hq : ∀ p ∈ mk (itemsOf T) (itemsOf s), QQ Mj p) (h : Inv Mj w x b [T] G 0 (some r) l false t) :
    Calls Tryz.prog 13 #[.pointer (some ⟨x, 0, none⟩), .string s] w fun e w' => e = .returned (.bool true) ∧ SStartEnd Mj x b r T s l w w' := by
  obtain ⟨T', g, cap, hT', c2, hc, hg, hcan, hsz, hA0'⟩ := h.front
  simp only [List.getElem?_cons_zero, Option.some.injEq] at hT'
  subst hT'
  have hgx := h.site.apart c2
  have hlx := h.site.lt
  have hbx := h.site.bx
  have hpe : plErr T s = 0 := by unfold plErr; rw [if_pos hcan.1]; exact h0
  have HPl := hide (plan_any T s w hsz hs)
  rw [hpe] at HPl
  have HPr := hide fun wx => print_any s wx hs
  rw [h0] at HPr
  obtain ⟨T0, hT0, l0, did, left, hR, hnl, _, hk⟩ := h.live
  simp only [List.cons.injEq, and_true] at hT0
  subst hT0
  have hle : left = [] := List.length_eq_zero_iff.1 hnl.symm
  have hk2 : did = [] ∧ l0.Perm (itemsOf T) := by
    rcases hk with ⟨_, e, hp⟩ | ⟨e, _⟩
    · exact ⟨e, hp⟩
    · omega
  obtain ⟨hde, hperm⟩ := hk2
  subst hle hde
  have hA0 : ArrI l0 := hcan.arr.perm hperm.symm
  have hpr : prI l0 = T := (prI_perm hA0 hperm).trans hcan.2
  have c1 := h.site.c1
  have c0 := h.site.c0
  have hlb := h.dev.lt
  have HS := hide fun wx (hb : Below w.heap.size w wx) => start_ok r b s l0 wx hs hA0.fits.1 h0 (fun p hp => hq p (by rw [← mk_perm hA0 hperm]; exact hp)) (hR.later hb)
  have HI := hide fun wx (hx : RackAt Mj wx r b l0 [] (mk l0 (itemsOf s))) => begun_inv hcan h0 hperm hx
  have HC := hide fun wx n' G' (hx : SiteAt Mj.sfro wx x b (some ⟨r, 0, none⟩) [T] G' n') (hx2 : RackAt Mj wx r b l0 [] (mk l0 (itemsOf s))) => sconfig_any x b r [T] G' T n' l0 [] (mk l0 (itemsOf s)) wx hA0.fits hx hx2
  simp only [hpr, decide_true] at HC
  have hgoal : prt s = prI (itemsOf s) ∧ ArrI (itemsOf s) := ⟨prt_prI h0, arrI_of_chk h0⟩
  have HG := hide hgoal
  have Hcan := hide h.canon
  have Hsite := hide h.site
  have Hdev := hide h.dev
  unfold SStartEnd
  generalize hP : pl T s = P at *
  generalize prt s = ps at *
  generalize mk l0 (itemsOf s) = M at *
  generalize itemsOf s = ts at *
  simp only [Option.map_some] at c1
  have hPl : P.length ≤ 48 := by rw [← hP]; exact (pl_small T s).1
  clear h hR hcan hnl hk hpe h0 hP hpr hA0 hgoal
  simp only [List.length_cons, List.length_nil, Nat.zero_add] at c2
  go_enter Tryz.func13, Tryz.ntmps13
  go_wp2_with fail
  refine (unhide HPl).mono ?_
  rintro e w1 ⟨v, rfl, hown, hb1⟩
  have hs1 := hb1.size
  obtain ⟨va, vc, rfl⟩ := slice_of_owns hown
  clear hown
  go_wp2_with fail
  refine (unhide HPr _).mono ?_
  rintro e w2 ⟨rfl, hb2⟩
  have hb02 : Below w.heap.size w w2 := hb1.trans (hb2.mono hs1)
  have hs02 := hb02.size
  have c12 := (hb02.cell (p := ⟨x, 1, none⟩) hlx).trans c1
  have hx2 := (unhide Hsite).later hb02
  have hd2 := (unhide Hdev).keep (T := fun _ => False) (TK.of_below hb02) id id
  have hc2 := (hb02.cell (p := ⟨g, 0, none⟩) hg).trans hc
  obtain ⟨csg, frg, htg⟩ : ∃ cs fr, w.heap[g]? = some (Obj.cells cs 9 fr) := by
    obtain ⟨v, c2', hrow⟩ := (unhide Hsite).c2
    rw [c2] at c2'
    simp only [Option.some.injEq] at c2'
    subst c2'
    obtain ⟨_, ⟨h0, _⟩ | ⟨g', cap', cur, h1, _, hg, _⟩⟩ := hrow
    · cases h0
    · simp only [Value.slice.injEq, Option.some.injEq, Addr.mk.injEq] at h1
      obtain ⟨⟨rfl, _⟩, _⟩ := h1
      exact ⟨_, _, hg⟩
  have htg2 := (hb02.block g hg).trans htg
  clear c1 c0 Hsite Hdev hc
  go_wp2_with fail
  refine (unhide HS _ hb02).mono ?_
  rintro e w3 ⟨rfl, hR3, htk3, hbe3⟩
  have hx3 := hx2.keep htk3 k1_site k1_str
  have hd3 := hd2.keep htk3 k1_dev k1_late
  have hc3 := (World.cell?_of_block (a := ⟨g, 0, none⟩) (htk3.block g csg _ frg htg2 k1_str)).trans hc2
  have c03 := hx3.c0
  have c13 := hx3.c1
  have c43 := hx3.c4
  have c33 := hx3.c3
  have hfz3 := hx3.fz
  have c23 : w3.cell? ⟨x, 2, none⟩ = some (.slice (some ⟨g, 0, none⟩) 1 cap) := by
    obtain ⟨cs, fr, hty⟩ := hx2.ty
    rw [World.cell?_of_block (htk3.block x cs _ fr hty k1_site)]
    exact (hb02.cell (p := ⟨x, 2, none⟩) hlx).trans c2
  have hbe03 : Below b w w3 := (hb02.mono (by omega)).trans hbe3
  have hx4 := hx3.put4 P.length
  have ht4 := hx3.setTK 4 (.int .i64 P.length)
  have hx5 := hx4.put3 ps
  have ht5 := ht4.trans (hx4.setTK 3 (.string ps))
  have hR5 := hR3.keep ht5 x1_rack x1_item x1_step nh_x1
  have hd5 := hd3.keep ht5 x1_dev x1_late
  have hbe5 : Below b w _ := (hbe03.setCell (p := ⟨x, 4, none⟩) (Nat.le_of_lt hbx) (.int .i64 P.length)).setCell (p := ⟨x, 3, none⟩) (Nat.le_of_lt hbx) (.string ps)
  have HC5 := hide (unhide HC _ _ _ hx5 hR5)
  have HX := hide (⟨hx5, hd5, unhide HI _ hR5, hbe5⟩ : _ ∧ _ ∧ _ ∧ _)
  have hdc3 := hd3.c4
  have hn1 : (⟨g, 0, none⟩ : Addr) ≠ ⟨x, 4, none⟩ := by intro e; simp only [Addr.mk.injEq] at e; exact hgx e.1
  have hn2 : (⟨g, 0, none⟩ : Addr) ≠ ⟨x, 3, none⟩ := by intro e; simp only [Addr.mk.injEq] at e; exact hgx e.1
  clear c12 hx2 hd2 hc2 htg2 hx3 hd3 hx4 hx5 hR5 hd5 hbe5 ht4 ht5 HC HI HS HPl HPr
  simp only [Option.map_some] at c13
  go_wp2_with fail
  refine (adead_any b false _ hdc3).mono ?_
  rintro e w4 ⟨rfl, rfl⟩
  go_wp2_with fail
  refine (unhide HC5).mono ?_
  rintro e w6 ⟨rfl, hb6⟩
  obtain ⟨hx5, hd5, hI5, hbe5⟩ := unhide HX
  have hV5 : Inv Mj _ x b [T] ps P.length (some r) l false ts := ⟨hx5, hd5, unhide Hcan, by simp, .inr ⟨r, rfl, .inr ⟨rfl, T, rfl, hI5⟩⟩, fun _ _ => unhide HG⟩
  have hV6 := hV5.later hb6
  have hbe6 := hbe5.trans (hb6.mono (by have := hx5.lt; omega))
  clear hx5 hd5 hI5 hV5 hbe5 HX HC5
  go_wp2
  go_ret
  exact ⟨rfl, hV6, hbe6⟩

end Go.Proofs.YtdlhgbhaeedbdabGreat

/- 'Site.undo'. -/
namespace Go.Proofs.YtdlhgbhaeedbdabGreat
open Go.RowKit

set_option maxRecDepth 100000 in
set_option maxHeartbeats 400000 in
theorem sundo_dead {Mj : HJ} (x b r : Nat) (f : Bool) (A : List ByteArray) (G : ByteArray) (n : Nat) (l : Int) (t : List Item) (w : World) (h : Inv Mj w x b A G n (some r) l true t) :
    Calls Tryz.prog 34 #[.pointer (some ⟨x, 0, none⟩), .bool f] w fun e w' => e = .returned (.bool true) ∧ w' = w := by
  have hD := h.dead
  have c1 := h.site.c1
  have c0 := h.site.c0
  have hdc := h.dev.c4
  have HS := hide (step_dead r true w hD)
  have HT := hide (stop_dead r w hD)
  simp only [Option.map_some] at c1
  clear h hD
  cases f with
  | true =>
    go_enter Tryz.func34, Tryz.ntmps34
    go_wp2_with fail
    refine (unhide HS).mono ?_
    rintro e w1 ⟨rfl, rfl⟩
    go_wp2_with fail
    refine (adead_any b true _ hdc).mono ?_
    rintro e w2 ⟨rfl, rfl⟩
    go_wp2_with fail
    go_ret
    exact ⟨rfl, rfl⟩
  | false =>
    go_enter Tryz.func34, Tryz.ntmps34
    go_wp2_with fail
    refine (unhide HT).mono ?_
    rintro e w1 ⟨rfl, rfl⟩
    go_wp2_with fail
    refine (adead_any b true _ hdc).mono ?_
    rintro e w2 ⟨rfl, rfl⟩
    go_wp2_with fail
    go_ret
    exact ⟨rfl, rfl⟩

theorem Inv.rest {Mj : HJ} {w : World} {x b : Nat} {A : List ByteArray} {G : ByteArray} {r : Nat} {l : Int} {t : List Item} (h : Inv Mj w x b A G 0 (some r) l false t) : ∃ T l0, A = [T] ∧ RackAt Mj w r b l0 [] [] ∧ l0.Perm (itemsOf T) := by
  obtain ⟨T0, hA, l0, did, left, hR, hnl, _, hk⟩ := h.live
  have hle : left = [] := List.length_eq_zero_iff.1 hnl.symm
  subst hle
  rcases hk with ⟨_, e, hp⟩ | ⟨e, _⟩
  · subst e; exact ⟨T0, l0, hA, hR, hp⟩
  · simp at e

theorem inv_way {Mj : HJ} {w : World} {x b : Nat} {A : List ByteArray} {G : ByteArray} {n r : Nat} {l : Int} {t : List Item} (h : Inv Mj w x b A G n (some r) l false t) (hn : 0 < n) : ∃ T l1 did left l0, A = [T] ∧ RackAt Mj w r b l1 did left ∧ n = left.length ∧ did.length + left.length ≤ 48 ∧ l0.Perm (itemsOf T) ∧ Way l0 l1 t did left ∧ did ++ left = mk l0 t := by
  obtain ⟨T0, hA, l1, did, left, hR, hnl, h48, hk⟩ := h.live
  rcases hk with ⟨e, _⟩ | ⟨_, l0, hp, hw, he⟩
  · subst e; simp at hnl; omega
  · exact ⟨T0, l1, did, left, l0, hA, hR, hnl, h48, hp, hw, he⟩

set_option maxRecDepth 100000 in
set_option maxHeartbeats 400000 in
theorem sundo_idle {Mj : HJ} (x b r : Nat) (f : Bool) (A : List ByteArray) (G : ByteArray) (l : Int) (t : List Item) (w : World) (h : Inv Mj w x b A G 0 (some r) l false t) :
    Calls Tryz.prog 34 #[.pointer (some ⟨x, 0, none⟩), .bool f] w fun e w' => e = .returned (.bool true) ∧ w' = w := by
  obtain ⟨T, l0, _, hR, _⟩ := h.rest
  have c1 := h.site.c1
  have c0 := h.site.c0
  have c4 := h.site.c4
  have hdc := h.dev.c4
  have HS := hide (step_idle r b true l0 [] w hR)
  have HT := hide (stop_idle r b l0 [] w hR)
  simp only [Option.map_some] at c1
  clear h hR
  cases f with
  | true =>
    go_enter Tryz.func34, Tryz.ntmps34
    go_wp2_with fail
    refine (unhide HS).mono ?_
    rintro e w1 ⟨rfl, rfl⟩
    go_wp2_with fail
    refine (adead_any b false _ hdc).mono ?_
    rintro e w2 ⟨rfl, rfl⟩
    go_wp2_with fail
    go_ret
    exact ⟨rfl, rfl⟩
  | false =>
    go_enter Tryz.func34, Tryz.ntmps34
    go_wp2_with fail
    refine (unhide HT).mono ?_
    rintro e w1 ⟨rfl, rfl⟩
    go_wp2_with fail
    refine (adead_any b false _ hdc).mono ?_
    rintro e w2 ⟨rfl, rfl⟩
    go_wp2_with fail
    go_ret
    exact ⟨rfl, rfl⟩

/-- What 'undo' leaves where a plan was under way. -/
def SUndoEnd (Mj : HJ) (x b r : Nat) (T G : ByteArray) (l : Int) (w w' : World) : Prop :=
  (∀ t, Inv Mj w' x b [T] G 0 (some r) l false t) ∧ Below b w w'

set_option maxRecDepth 100000 in
set_option maxHeartbeats 800000 in
theorem sundo_busy {Mj : HJ} (x b r : Nat) (f : Bool) (T : ByteArray) (G : ByteArray) (n : Nat) (l : Int) (t : List Item) (w : World) (hn : 0 < n) (h : Inv Mj w x b [T] G n (some r) l false t) :
    Calls Tryz.prog 34 #[.pointer (some ⟨x, 0, none⟩), .bool f] w fun e w' => e = .returned (.bool true) ∧ SUndoEnd Mj x b r T G l w w' := by
  obtain ⟨T', g, cap, hT', c2, hc, hg, hcan, hsz, hA0'⟩ := h.front
  simp only [List.getElem?_cons_zero, Option.some.injEq] at hT'
  subst hT'
  have hgx := h.site.apart c2
  have hlx := h.site.lt
  have hbx := h.site.bx
  obtain ⟨T0, l1, did, left, l0, hT0, hR, hnl, h48, hp0, hway, _⟩ := inv_way h hn
  simp only [List.cons.injEq, and_true] at hT0
  subst hT0
  obtain ⟨hu1, hu2⟩ := hway.undo
  have hperm : (undoTo l1 did 0).Perm (itemsOf T) := hu1.trans hp0
  have hpr : prI (undoTo l1 did 0) = T := (prI_perm (hu2 0) hperm).trans hcan.2
  have c1 := h.site.c1
  have c0 := h.site.c0
  have c4 := h.site.c4
  have hlb := h.dev.lt
  have HS := hide (step_fail r b l1 did left w (by omega) (by omega) (fun k => (hu2 k).fits.1) hway.back hR)
  have HT := hide (stop_busy r b l1 did left w (by omega) (by omega) (fun k => (hu2 k).fits.1) hway.back hR)
  have HC := hide fun wx (hx : SiteAt Mj.sfro wx x b (some ⟨r, 0, none⟩) [T] G 0) (hx2 : RackAt Mj wx r b (undoTo l1 did 0) [] []) => sconfig_any x b r [T] G T 0 (undoTo l1 did 0) [] [] wx (hu2 0).fits hx hx2
  simp only [hpr, decide_true] at HC
  have hn' : ((n : Int) == 0) = false := by rw [beq_eq_false_iff_ne]; omega
  have Hcan := hide h.canon
  have Hsite := hide h.site
  have Hdev := hide h.dev
  obtain ⟨csg, frg, htg⟩ : ∃ cs fr, w.heap[g]? = some (Obj.cells cs 9 fr) := by
    obtain ⟨v, c2', hrow⟩ := h.site.c2
    rw [c2] at c2'
    simp only [Option.some.injEq] at c2'
    subst c2'
    obtain ⟨_, ⟨h0, _⟩ | ⟨g', cap', cur, h1, _, hg, _⟩⟩ := hrow
    · cases h0
    · simp only [Value.slice.injEq, Option.some.injEq, Addr.mk.injEq] at h1
      obtain ⟨⟨rfl, _⟩, _⟩ := h1
      exact ⟨_, _, hg⟩
  have Hafter := hide fun (w1 : World) (hE : BackEnd Mj r b l1 did w w1) => (show _ ∧ _ ∧ _ ∧ _ ∧ _ from by
    obtain ⟨hR1, htk1, hbe1⟩ := hE
    have hx1 := h.site.keep htk1 k1_site k1_str
    have hd1 := h.dev.keep htk1 k1_dev k1_late
    exact ⟨hx1, hd1, hR1, hbe1, (show w1.cell? ⟨g, 0, none⟩ = some (.string T) ∧ w1.cell? ⟨x, 2, none⟩ = some (.slice (some ⟨g, 0, none⟩) 1 cap) from ⟨(World.cell?_of_block (a := ⟨g, 0, none⟩) (htk1.block g csg _ frg htg k1_str)).trans hc, by
      obtain ⟨cs, fr, hty⟩ := h.site.ty
      exact (World.cell?_of_block (a := ⟨x, 2, none⟩) (htk1.block x cs _ fr hty k1_site)).trans c2⟩)⟩)
  have hn1 : (⟨g, 0, none⟩ : Addr) ≠ ⟨x, 4, none⟩ := by intro e; simp only [Addr.mk.injEq] at e; exact hgx e.1
  simp only [Option.map_some] at c1
  have hq : Hid ((undoTo l1 did 0).Perm (itemsOf T)) := hide hperm
  clear h hR hcan hnl hpr hp0 hway hu1 hu2 hperm hc htg c2
  generalize undoTo l1 did 0 = lu at *
  cases f with
  | true =>
    go_enter Tryz.func34, Tryz.ntmps34
    go_wp2_with fail
    refine (unhide HS).mono ?_
    rintro e w1 ⟨rfl, hE⟩
    obtain ⟨hx1, hd1, hR1, hbe1, hc1, c21⟩ := unhide Hafter w1 hE
    have c01 := hx1.c0
    have c11 := hx1.c1
    have c41 := hx1.c4
    have hfz1 := hx1.fz
    have hdc1 := hd1.c4
    have hx2 := hx1.put4 0
    have ht2 := hx1.setTK 4 (.int .i64 (0 : Nat))
    have hR2 := hR1.keep ht2 x1_rack x1_item x1_step nh_x1
    have hd2 := hd1.keep ht2 x1_dev x1_late
    have hbe2 : Below b w _ := hbe1.setCell (p := ⟨x, 4, none⟩) (Nat.le_of_lt hbx) (.int .i64 (0 : Nat))
    have HC2 := hide (unhide HC _ hx2 hR2)
    have HX := hide (⟨hx2, hd2, hR2, hbe2⟩ : _ ∧ _ ∧ _ ∧ _)
    simp only [Option.map_some] at c11
    clear hx1 hd1 hR1 hbe1 hE hx2 hd2 hR2 hbe2 ht2 HC Hafter HS HT c0 c1 c4
    go_wp2_with fail
    refine (adead_any b false _ hdc1).mono ?_
    rintro e w2 ⟨rfl, rfl⟩
    go_wp2_with fail
    refine (unhide HC2).mono ?_
    rintro e w3 ⟨rfl, hb3⟩
    obtain ⟨hx2, hd2, hR2, hbe2⟩ := unhide HX
    have hV2 : ∀ t, Inv Mj _ x b [T] G 0 (some r) l false t := fun t => ⟨hx2, hd2, unhide Hcan, by simp, .inr ⟨r, rfl, .inr ⟨rfl, T, rfl, lu, [], [], hR2, rfl, by simp, .inl ⟨rfl, rfl, unhide hq⟩⟩⟩, fun _ h => absurd h (by omega)⟩
    have hV3 := fun t => (hV2 t).later hb3
    have hbe3 := hbe2.trans (hb3.mono (by have := hx2.lt; omega))
    clear hx2 hd2 hR2 hV2 hbe2 HX HC2
    go_wp2
    go_ret
    exact ⟨rfl, hV3, hbe3⟩
  | false =>
    go_enter Tryz.func34, Tryz.ntmps34
    go_wp2_with fail
    refine (unhide HT).mono ?_
    rintro e w1 ⟨rfl, hE⟩
    obtain ⟨hx1, hd1, hR1, hbe1, hc1, c21⟩ := unhide Hafter w1 hE
    have c01 := hx1.c0
    have c11 := hx1.c1
    have c41 := hx1.c4
    have hfz1 := hx1.fz
    have hdc1 := hd1.c4
    have hx2 := hx1.put4 0
    have ht2 := hx1.setTK 4 (.int .i64 (0 : Nat))
    have hR2 := hR1.keep ht2 x1_rack x1_item x1_step nh_x1
    have hd2 := hd1.keep ht2 x1_dev x1_late
    have hbe2 : Below b w _ := hbe1.setCell (p := ⟨x, 4, none⟩) (Nat.le_of_lt hbx) (.int .i64 (0 : Nat))
    have HC2 := hide (unhide HC _ hx2 hR2)
    have HX := hide (⟨hx2, hd2, hR2, hbe2⟩ : _ ∧ _ ∧ _ ∧ _)
    simp only [Option.map_some] at c11
    clear hx1 hd1 hR1 hbe1 hE hx2 hd2 hR2 hbe2 ht2 HC Hafter HS HT c0 c1 c4
    go_wp2_with fail
    refine (adead_any b false _ hdc1).mono ?_
    rintro e w2 ⟨rfl, rfl⟩
    go_wp2_with fail
    refine (unhide HC2).mono ?_
    rintro e w3 ⟨rfl, hb3⟩
    obtain ⟨hx2, hd2, hR2, hbe2⟩ := unhide HX
    have hV2 : ∀ t, Inv Mj _ x b [T] G 0 (some r) l false t := fun t => ⟨hx2, hd2, unhide Hcan, by simp, .inr ⟨r, rfl, .inr ⟨rfl, T, rfl, lu, [], [], hR2, rfl, by simp, .inl ⟨rfl, rfl, unhide hq⟩⟩⟩, fun _ h => absurd h (by omega)⟩
    have hV3 := fun t => (hV2 t).later hb3
    have hbe3 := hbe2.trans (hb3.mono (by have := hx2.lt; omega))
    clear hx2 hd2 hR2 hV2 hbe2 HX HC2
    go_wp2
    go_ret
    exact ⟨rfl, hV3, hbe3⟩

end Go.Proofs.YtdlhgbhaeedbdabGreat
