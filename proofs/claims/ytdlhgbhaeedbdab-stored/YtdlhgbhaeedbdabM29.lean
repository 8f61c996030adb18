/- Sd5, Sd10, Sd11, Sd13. -/
import Derived.Test.YtdlhgbhaeedbdabM28
import Derived.Deep.RegionHeld3
import Derived.Deep.CutRange

/- The law Stored: 'wants', on. -/
namespace Go.Proofs.Ytdlhgbhaeedbdab
open Go.RowKit

set_option maxRecDepth 100000 in
set_option maxHeartbeats 1600000 in
theorem want_other (z : Nat) (Z : Nat → Int) (s : Int) (o : Iox) (w : World) (hK : o.K ≠ 1) (h : ShelfAt w z Z) :
    Calls Try.prog 17 #[.pointer (some ⟨z, 0, none⟩), .int .i64 s, .agg #[.int .i64 o.K, .int .i64 o.N, .int .i64 o.B, .int .i64 o.V, .int .i64 o.S, .int .i64 o.W]] w fun e w' => WantEnd z (wantZ Z s o) (wantT Z s o) w e w' := by
  obtain ⟨f1, f2, f3, f4⟩ := callW_facts w o
  obtain ⟨i0, i1, i2, i3⟩ := f4.zero
  have HS := hide fun wx => sees_law s o.N wx
  have h2 := h.keep (T := fun _ => False) (TK.of_below f1) id
  have hzc := h2.cell
  have hzf := h2.fz
  have hzl := h.lt
  have hne : ¬ z = w.heap.size + 1 := by omega
  have hne' : ¬ w.heap.size + 1 = z := by omega
  have hne2 : ¬ z = w.heap.size := by omega
  have HQ := hide fun n m => want_same (o := o) h n m
  have h0 := h
  have HW := hide fun j hj x => want_set (o := o) h (j := j) hj x
  obtain ⟨z0, z1, z2, zf⟩ := td_cells f3
  have k1' : (o.K == 1) = false := by simpa using hK
  unfold wantZ wantT
  rw [if_neg hK, if_neg hK]
  have hdc := seesD_cases s o.N
  generalize hsd : seesD s o.N = du at *
  obtain ⟨d, u⟩ := du
  simp only at HS hdc ⊢
  clear hsd hK h h2 f1 f2 f3 f4
  rcases hdc with rfl | hd
  · rw [if_pos (by omega), if_pos (by omega)]
    obtain ⟨_, hE⟩ := unhide HQ 0 14
    have HE0 := hide hE
    clear HQ HW hE hzc hzf
    unfold callW at *
    go_enter Try.func17, Try.ntmps17
    go_wp2_with fail
    generalize hW : (w.alloc (.cells #[.int .i64 o.K, .int .i64 o.N, .int .i64 o.B, .int .i64 o.V, .int .i64 o.S, .int .i64 o.W] 51)).alloc (.cells #[.int .i64 0, .slice none 0 0, .int .i64 0] 54) = W2 at *
    refine (unhide HS _).mono ?_
    rintro e w1 ⟨rfl, rfl⟩
    clear HS hW
    go_wp2_with fail
    refine bodyPost_ret (v := .agg #[.int .i64 0, .slice none 0 0, .int .i64 14]) (by simp [results, Try.results17, go_sem, z0, z1, z2]) rfl ?_
    exact unhide HE0
  · have hd0 : ¬ d < 0 := by omega
    rw [if_neg hd0, if_neg hd0]
    have hHl : hAt d < 20 := by unfold hAt; omega
    have hch : (callW w o).cell? ⟨z, hAt d, none⟩ = some (.int .i64 (Z (hAt d))) := hzc (hAt d) hHl
    by_cases ho : o.K = 3 ∧ u = true
    · rw [if_pos ho, if_pos ho]
      obtain ⟨k3, rfl⟩ := ho
      have k3' : (o.K == 3) = true := by simpa using k3
      obtain ⟨_, hE⟩ := unhide HQ 0 15
      have HE0 := hide hE
      clear HQ HW hE hzc hzf hch hHl k3
      rcases hd with rfl | rfl
      all_goals
        unfold callW at *
        go_enter Try.func17, Try.ntmps17
        go_wp2_with fail
        generalize hW : (w.alloc (.cells #[.int .i64 o.K, .int .i64 o.N, .int .i64 o.B, .int .i64 o.V, .int .i64 o.S, .int .i64 o.W] 51)).alloc (.cells #[.int .i64 0, .slice none 0 0, .int .i64 0] 54) = W2 at *
        refine (unhide HS _).mono ?_
        rintro e w1 ⟨rfl, rfl⟩
        clear HS hW
        go_wp2_with fail
        refine bodyPost_ret (v := .agg #[.int .i64 0, .slice none 0 0, .int .i64 15]) (by simp [results, Try.results17, go_sem, z0, z1, z2]) rfl ?_
        exact unhide HE0
    · rw [if_neg ho, if_neg ho]
      have ho' : (o.K == 3) = false ∨ ((o.K == 3) = true ∧ u = false) := by
        by_cases k3 : o.K = 3
        · right
          refine ⟨by simpa using k3, ?_⟩
          cases u with
          | true => exact absurd ⟨k3, rfl⟩ ho
          | false => rfl
        · left; simpa using k3
      by_cases hh : 0 ≤ Z (hAt d) ∧ Z (hAt d) ≠ s
      · rw [if_pos hh, if_pos hh]
        obtain ⟨hh1, hh2⟩ := hh
        have hh2' : (Z (hAt d) != s) = true := by simpa using hh2
        obtain ⟨_, hE⟩ := unhide HQ 0 16
        have HE0 := hide hE
        generalize Z (hAt d) = hv at *
        clear HQ HW hE hzc hzf hHl hh2 ho
        rcases ho' with k3' | ⟨k3', rfl⟩
        all_goals
          rcases hd with rfl | rfl
          all_goals
            first | (rw [show hAt 0 = 18 from rfl] at hch) | (rw [show hAt 1 = 19 from rfl] at hch)
            unfold callW at *
            go_enter Try.func17, Try.ntmps17
            go_wp2_with fail
            generalize hW : (w.alloc (.cells #[.int .i64 o.K, .int .i64 o.N, .int .i64 o.B, .int .i64 o.V, .int .i64 o.S, .int .i64 o.W] 51)).alloc (.cells #[.int .i64 0, .slice none 0 0, .int .i64 0] 54) = W2 at *
            refine (unhide HS _).mono ?_
            rintro e w1 ⟨rfl, rfl⟩
            clear HS hW
            go_wp2_with fail
            refine bodyPost_ret (v := .agg #[.int .i64 0, .slice none 0 0, .int .i64 16]) (by simp [results, Try.results17, go_sem, z0, z1, z2]) rfl ?_
            exact unhide HE0
      · rw [if_neg hh, if_neg hh]
        have hh' : decide (0 ≤ Z (hAt d)) = false ∨ (decide (0 ≤ Z (hAt d)) = true ∧ (Z (hAt d) != s) = false) := by
          by_cases h0 : 0 ≤ Z (hAt d)
          · right
            refine ⟨by simpa using h0, ?_⟩
            rw [bne_eq_false_iff_eq]
            by_cases h1 : Z (hAt d) = s
            · exact h1
            · exact absurd ⟨h0, h1⟩ hh
          · left; simpa using h0
        have hf18 := hzf (hAt d)
        by_cases k4 : o.K = 4
        · have k4' : (o.K == 4) = true := by simpa using k4
          have k3' : (o.K == 3) = false := by rw [k4]; rfl
          have e24 : o.K ≠ 2 ∧ o.K ≠ 3 := by omega
          rw [if_pos k4, if_pos e24]
          obtain ⟨⟨y0, y1, y2, yf⟩, hE⟩ := unhide HW (hAt d) hHl s
          have HE0 := hide hE
          generalize Z (hAt d) = hv at *
          clear HQ HW hE hzc hzf hHl hh ho ho' e24 k4 z0 z1 z2 zf
          rcases hh' with h1 | ⟨h1, h3⟩
          all_goals
            rcases hd with rfl | rfl
            all_goals
              first | (rw [show hAt 0 = 18 from rfl] at *) | (rw [show hAt 1 = 19 from rfl] at *)
              unfold callW at *
              go_enter Try.func17, Try.ntmps17
              go_wp2_with fail
              generalize hW : (w.alloc (.cells #[.int .i64 o.K, .int .i64 o.N, .int .i64 o.B, .int .i64 o.V, .int .i64 o.S, .int .i64 o.W] 51)).alloc (.cells #[.int .i64 0, .slice none 0 0, .int .i64 0] 54) = W2 at *
              refine (unhide HS _).mono ?_
              rintro e w1 ⟨rfl, rfl⟩
              clear HS hW
              go_wp2_with fail
              refine bodyPost_ret (v := .agg #[.int .i64 0, .slice none 0 0, .int .i64 0]) (by simp [results, Try.results17, go_sem, y0, y1, y2]) rfl ?_
              exact unhide HE0
        · have k4' : (o.K == 4) = false := by simpa using k4
          rw [if_neg k4]
          by_cases k23 : o.K ≠ 2 ∧ o.K ≠ 3
          · rw [if_pos k23, if_pos k23]
            have k3' : (o.K == 3) = false := by simpa using k23.2
            have n2' : (o.K != 2) = true := by simpa using k23.1
            have n3' : (o.K != 3) = true := by simpa using k23.2
            obtain ⟨⟨y0, y1, y2, yf⟩, hE⟩ := unhide HW (hAt d) hHl (-1)
            have HE0 := hide hE
            generalize Z (hAt d) = hv at *
            clear HQ HW hE hzc hzf hHl hh ho ho' k23 k4 z0 z1 z2 zf
            rcases hh' with h1 | ⟨h1, h3⟩
            all_goals
              rcases hd with rfl | rfl
              all_goals
                first | (rw [show hAt 0 = 18 from rfl] at *) | (rw [show hAt 1 = 19 from rfl] at *)
                unfold callW at *
                go_enter Try.func17, Try.ntmps17
                go_wp2_with fail
                generalize hW : (w.alloc (.cells #[.int .i64 o.K, .int .i64 o.N, .int .i64 o.B, .int .i64 o.V, .int .i64 o.S, .int .i64 o.W] 51)).alloc (.cells #[.int .i64 0, .slice none 0 0, .int .i64 0] 54) = W2 at *
                refine (unhide HS _).mono ?_
                rintro e w1 ⟨rfl, rfl⟩
                clear HS hW
                go_wp2_with fail
                refine bodyPost_ret (v := .agg #[.int .i64 0, .slice none 0 0, .int .i64 0]) (by simp [results, Try.results17, go_sem, y0, y1, y2]) rfl ?_
                exact unhide HE0
          · rw [if_neg k23, if_neg k23]
            have kk : ((o.K == 2) = true ∧ (o.K != 2) = false ∧ (o.K == 3) = false ∧ o.K = 2) ∨ ((o.K == 2) = false ∧ (o.K != 2) = true ∧ (o.K != 3) = false ∧ (o.K == 3) = true ∧ u = false ∧ ¬ o.K = 2) := by
              by_cases e2 : o.K = 2
              · left; exact ⟨by simpa using e2, by simpa using e2, by rw [e2]; rfl, e2⟩
              · have e3 : o.K = 3 := by omega
                right
                refine ⟨by simpa using e2, by simpa using e2, by simpa using e3, by simpa using e3, ?_, e2⟩
                rcases ho' with h | ⟨_, h⟩
                · rw [e3] at h; cases h
                · exact h
            have hs := unhide HS
            clear HS HQ HW
            by_cases hb : o.B < 0 ∨ szD d ≤ o.B
            · rw [if_pos hb, if_pos hb]
              have hb' : o.B < 0 ∨ (¬ o.B < 0 ∧ szD d ≤ o.B) := by omega
              rcases kk with ⟨a1, a2, a3, kq⟩ | ⟨a1, a2, a3, a4, rfl, kq⟩
              · exact want_17r z Z s o d u w hd a2 a3 hb' hh' k1' k4' hs h0
              · exact want_17w z Z s o d w hd a2 a3 a4 hb' hh' k1' k4' hs h0
            · rw [if_neg hb, if_neg hb]
              obtain ⟨n, hn⟩ : ∃ n : Nat, o.B = n := ⟨o.B.toNat, by omega⟩
              have hb2 : ¬ szD d ≤ (n : Int) := by omega
              have hbn : bAt d o.B = bAt d n := by rw [hn]
              rw [hbn]
              rcases kk with ⟨a1, a2, a3, kq⟩ | ⟨a1, a2, a3, a4, rfl, kq⟩
              · rw [if_pos kq, if_pos kq]
                exact want_rd z Z s o d u w hd a1 a2 a3 n hn hb2 hh' k1' k4' hs h0
              · rw [if_neg kq, if_neg kq]
                by_cases hV : o.V < 0 ∨ 255 < o.V
                · rw [if_pos hV, if_pos hV]
                  exact want_6 z Z s o d w hd a1 a2 a3 a4 n hn hb2 (by omega) hh' k1' k4' hs h0
                · rw [if_neg hV, if_neg hV]
                  exact want_wr z Z s o d w hd a1 a2 a3 a4 n hn hb2 (by omega) (by omega) hh' k1' k4' hs h0

theorem wants_any (z : Nat) (Z : Nat → Int) (s : Int) (o : Iox) (w : World) (h : ShelfAt w z Z) :
    Calls Try.prog 17 #[.pointer (some ⟨z, 0, none⟩), .int .i64 s, .agg #[.int .i64 o.K, .int .i64 o.N, .int .i64 o.B, .int .i64 o.V, .int .i64 o.S, .int .i64 o.W]] w fun e w' => WantEnd z (wantZ Z s o) (wantT Z s o) w e w' := by
  by_cases hK : o.K = 1
  · exact want_list z Z s o w hK h
  · exact want_other z Z s o w hK h

end Go.Proofs.Ytdlhgbhaeedbdab

/- The law Stored, walked. -/
namespace Go.Proofs.Ytdlhgbhaeedbdab
open Go.RowKit

/-- What holds between two calls: the drives beside the shelf Z', the shelf as it is, Z. -/
structure Shop (w : World) (x r b z : Nat) (l : List Item) (D : List Drv) (Z Z' : Nat → Int) (ia ib : Nat) : Prop where
  site : SiteR w x r
  rack : RackF w r b l [] [] ⟨D, shopS, 3⟩
  perm : l.Perm shopI
  rel : ShRel D Z' ia ib
  shelf : ShelfAt w z Z

theorem Shop.later {w w' : World} {x r b z : Nat} {l : List Item} {D : List Drv} {Z Z' : Nat → Int} {ia ib : Nat} (h : Shop w x r b z l D Z Z' ia ib) (hb : Below w.heap.size w w') : Shop w' x r b z l D Z Z' ia ib :=
  ⟨h.site.keep (T := fun _ => False) (TK.of_below hb) id, h.rack.later hb, h.perm, h.rel, h.shelf.keep (T := fun _ => False) (TK.of_below hb) id⟩

theorem Shop.td {w w' : World} {x r b z : Nat} {l : List Item} {D : List Drv} {Z Z' : Nat → Int} {ia ib : Nat} (h : Shop w x r b z l D Z Z' ia ib) (hk : TK KTd w w') : Shop w' x r b z l D Z Z' ia ib :=
  ⟨h.site.keep hk (by unfold KTd; decide), h.rack.keep hk (by unfold KTd; decide) (by unfold KTd; decide) (by unfold KTd; decide) nh_td, h.perm, h.rel, h.shelf.keep hk (by unfold KTd; decide)⟩

theorem shopS_new : noNews ⟨[], shopS, 3⟩ := by
  intro s hs
  simp only [shopS, List.mem_cons, List.not_mem_nil, or_false] at hs
  rcases hs with rfl | rfl | rfl <;> rfl

/-- A call on the rack. -/
theorem shop_call {w wx : World} {x r b z : Nat} {l : List Item} {D : List Drv} {Z : Nat → Int} {ia ib : Nat} (h : Shop w x r b z l D Z Z ia ib) (s : Int) (hs : s = 0 ∨ s = 1 ∨ s = 2) (o : Iox) (hb : Below w.heap.size w wx) :
    Calls Try.prog 16 #[.pointer (some ⟨r, 0, none⟩), .int .i64 s, .agg #[.int .i64 o.K, .int .i64 o.N, .int .i64 o.B, .int .i64 o.V, .int .i64 o.S, .int .i64 o.W]] wx fun e w' =>
      ∃ a c D', e = .returned (.agg #[.int .i64 (wantT Z s o).n, .slice a (wantT Z s o).l.length c, .int .i64 (wantT Z s o).e]) ∧ NumsAt w' wx.heap.size (.slice a (wantT Z s o).l.length c) (wantT Z s o).l ∧ Shop w' x r b z l D' Z (wantZ Z s o) ia ib ∧ TK KD wx w' ∧ Below b wx w' := by
  have h2 := h.later hb
  obtain ⟨v, B, c2, hB, eB⟩ := h2.rack.hs.bank
  obtain ⟨ht, D', hD', hrel⟩ := shop_step (nx := 3) h.perm h.rel s hs o
  have h24 : l.length ≤ 24 := (shop_arr.perm h.perm.symm).fits.1
  have hBl : B.length ≤ 1000 := by
    have e1 : B.length = D.length := by rw [← List.length_map (f := Bk.d), eB]
    have := h.rel.two
    omega
  refine (call_any r b l [] [] ⟨D, shopS, 3⟩ s o v B wx h24 (by show shopS.length ≤ 8; decide) hBl shopS_new h2.rack c2 hB eB).mono ?_
  rintro e w' ⟨u, rfl, hu, _, _, hR, htk, hbe, _⟩
  rw [ht] at hu ⊢
  rw [hD'] at hR
  obtain ⟨a, c, rfl⟩ : ∃ a c, u = .slice a (wantT Z s o).l.length c := by
    rcases hu with ⟨e, a, c, rfl⟩ | ⟨g, cap, rfl, _⟩
    · exact ⟨a, c, by rw [e]; rfl⟩
    · exact ⟨_, _, rfl⟩
  exact ⟨a, c, D', rfl, hu, ⟨h2.site.keep htk (by unfold KD; decide), hR, h.perm, hrel, h2.shelf.keep htk (by unfold KD; decide)⟩, htk, hbe⟩

theorem gb_tk {w w' : World} {z : Nat} (hz : ∃ cs fr, w.heap[z]? = some (Obj.cells cs 49 fr)) (h : w.grownBy w' (some z)) : TK (fun t => t = 49) w w' := by
  obtain ⟨cs0, fr0, hz⟩ := hz
  refine ⟨h.os, h.tape, h.output, h.size, fun k cs t fr hk ht => h.block k (Array.getElem?_eq_some_iff.1 hk).1 (fun e => ?_)⟩
  simp only [Option.some.injEq] at e
  subst e
  rw [hz] at hk
  simp only [Option.some.injEq, Obj.cells.injEq] at hk
  exact ht hk.2.1.symm

theorem nh_shelf : NH (fun t => t = 49) := ⟨by decide, by decide, by decide, by decide⟩

/-- The shelf follows. -/
theorem shop_want {w : World} {x r b z : Nat} {l : List Item} {D : List Drv} {Z : Nat → Int} {ia ib : Nat} (s : Int) (o : Iox) (h : Shop w x r b z l D Z (wantZ Z s o) ia ib) :
    Calls Try.prog 17 #[.pointer (some ⟨z, 0, none⟩), .int .i64 s, .agg #[.int .i64 o.K, .int .i64 o.N, .int .i64 o.B, .int .i64 o.V, .int .i64 o.S, .int .i64 o.W]] w fun e w' =>
      ∃ a c, e = .returned (.agg #[.int .i64 (wantT Z s o).n, .slice a (wantT Z s o).l.length c, .int .i64 (wantT Z s o).e]) ∧ NumsAt w' w.heap.size (.slice a (wantT Z s o).l.length c) (wantT Z s o).l ∧ Shop w' x r b z l D (wantZ Z s o) (wantZ Z s o) ia ib ∧ w.grownBy w' (some z) := by
  refine (wants_any z Z s o w h.shelf).mono ?_
  rintro e w' ⟨u, rfl, hu, hsh, hgb⟩
  have hk := gb_tk h.shelf.ty hgb
  obtain ⟨a, c, rfl⟩ : ∃ a c, u = .slice a (wantT Z s o).l.length c := by
    rcases hu with ⟨e, a, c, rfl⟩ | ⟨g, cap, rfl, _⟩
    · exact ⟨a, c, by rw [e]; rfl⟩
    · exact ⟨_, _, rfl⟩
  exact ⟨a, c, rfl, hu, ⟨h.site.keep hk (by decide), h.rack.keep hk (by decide) (by decide) (by decide) nh_shelf, h.perm, h.rel, hsh⟩, hgb⟩

theorem wantT_len (Z : Nat → Int) (s : Int) (o : Iox) : (wantT Z s o).l.length ≤ 1000 := by
  unfold wantT
  repeat' split
  all_goals simp

end Go.Proofs.Ytdlhgbhaeedbdab

/- The law Stored, walked: to its end. -/
namespace Go.Proofs.Ytdlhgbhaeedbdab
open Go.RowKit

def shelf0 : Array Value := #[.int .i64 0, .int .i64 0, .int .i64 0, .int .i64 0, .int .i64 0, .int .i64 0, .int .i64 0, .int .i64 0, .int .i64 0, .int .i64 0, .int .i64 0, .int .i64 0, .int .i64 0, .int .i64 0, .int .i64 0, .int .i64 0, .int .i64 0, .int .i64 0, .int .i64 (-1), .int .i64 (-1)]

theorem shelf0_get (j : Nat) (h : j < 20) : shelf0[j]? = some (.int .i64 (Z0 j)) := by
  match j, h with
  | 0, _ => rfl
  | 1, _ => rfl
  | 2, _ => rfl
  | 3, _ => rfl
  | 4, _ => rfl
  | 5, _ => rfl
  | 6, _ => rfl
  | 7, _ => rfl
  | 8, _ => rfl
  | 9, _ => rfl
  | 10, _ => rfl
  | 11, _ => rfl
  | 12, _ => rfl
  | 13, _ => rfl
  | 14, _ => rfl
  | 15, _ => rfl
  | 16, _ => rfl
  | 17, _ => rfl
  | 18, _ => rfl
  | 19, _ => rfl
  | k + 20, h => exact absurd h (by omega)

theorem shelf_new (w : World) : ShelfAt (w.alloc (.cells shelf0 49)) w.heap.size Z0 :=
  ⟨⟨_, (0, 0), heap_alloc_last w _⟩, fun j hj => by rw [World.cell?_alloc_at _ _ _ _ rfl]; exact shelf0_get j hj, fun j => World.frozen?_alloc_at _ _ _ _ rfl, by simp⟩

theorem shop_host : hostB shopI (bs [120]) (bs [104]) = true ∧ hostB shopI (bs [121]) (bs [104]) = true ∧ hostB shopI (bs [121]) (bs [107]) = true ∧ hostB shopI (bs [120]) (bs [107]) = false := ⟨rfl, rfl, rfl, rfl⟩

theorem ks_site : ¬ KS 37 := by unfold KS; decide

/-- The logins. -/
theorem shop_login {w : World} {x r b : Nat} {l : List Item} {D : List Drv} (hS : SiteR w x r) (hR : RackF w r b l [] [] ⟨D, [], 0⟩) (hp : l.Perm shopI) :
    Calls Try.prog 15 #[.pointer (some ⟨r, 0, none⟩), .string (bs [120]), .string (bs [104])] w fun e w1 => e = .returned (.tuple #[.int .i64 0, .int .i64 0]) ∧ SiteR w1 x r ∧ Below b w w1 ∧
    Calls Try.prog 15 #[.pointer (some ⟨r, 0, none⟩), .string (bs [121]), .string (bs [104])] w1 fun e w2 => e = .returned (.tuple #[.int .i64 1, .int .i64 0]) ∧ SiteR w2 x r ∧ Below b w1 w2 ∧
    Calls Try.prog 15 #[.pointer (some ⟨r, 0, none⟩), .string (bs [121]), .string (bs [107])] w2 fun e w3 => e = .returned (.tuple #[.int .i64 2, .int .i64 0]) ∧ SiteR w3 x r ∧ Below b w2 w3 ∧
    Calls Try.prog 15 #[.pointer (some ⟨r, 0, none⟩), .string (bs [120]), .string (bs [107])] w3 fun e w4 => e = .returned (.tuple #[.int .i64 0, .int .i64 10]) ∧ SiteR w4 x r ∧ Below b w3 w4 ∧ RackF w4 r b l [] [] ⟨D, shopS, 3⟩ := by
  have h24 : l.length ≤ 24 := (shop_arr.perm hp.symm).fits.1
  obtain ⟨g1, g2, g3, g4⟩ := shop_host
  refine (rlogin_ok r b l [] [] ⟨D, [], 0⟩ (bs [120]) (bs [104]) w h24 (by show (0 : Nat) < 8; omega) ⟨by show (-1000000 : Int) ≤ 0; omega, by show (0 : Int) ≤ 1000000; omega⟩ (by rw [host_shop hp]; exact g1) hR).mono ?_
  rintro e w1 ⟨rfl, hR1, htk1, hb1, _⟩
  have hS1 := hS.keep htk1 ks_site
  refine ⟨rfl, hS1, hb1, (rlogin_ok r b l [] [] _ (bs [121]) (bs [104]) w1 h24 (by show (1 : Nat) < 8; omega) ⟨by show (-1000000 : Int) ≤ 1; omega, by show (1 : Int) ≤ 1000000; omega⟩ (by rw [host_shop hp]; exact g2) hR1).mono ?_⟩
  rintro e w2 ⟨rfl, hR2, htk2, hb2, _⟩
  have hS2 := hS1.keep htk2 ks_site
  refine ⟨rfl, hS2, hb2, (rlogin_ok r b l [] [] _ (bs [121]) (bs [107]) w2 h24 (by show (2 : Nat) < 8; omega) ⟨by show (-1000000 : Int) ≤ 2; omega, by show (2 : Int) ≤ 1000000; omega⟩ (by rw [host_shop hp]; exact g3) hR2).mono ?_⟩
  rintro e w3 ⟨rfl, hR3, htk3, hb3, _⟩
  have hS3 := hS2.keep htk3 ks_site
  have hlb : b ≤ w3.heap.size := by have := hR3.lt; have := hR3.br; omega
  refine ⟨rfl, hS3, hb3, (rlogin_no r b l [] [] _ (bs [120]) (bs [107]) w3 h24 (by rw [host_shop hp]; exact g4) hR3).mono ?_⟩
  rintro e w4 ⟨rfl, hb4⟩
  exact ⟨rfl, hS3.keep (T := fun _ => False) (TK.of_below hb4) id, hb4.mono hlb, hR3.later hb4⟩

end Go.Proofs.Ytdlhgbhaeedbdab

/- The law Stored: the logouts and the last call. -/
namespace Go.Proofs.Ytdlhgbhaeedbdab
open Go.RowKit

/-- The shelf behind the logout of session 1. -/
def freeZ (Z : Nat → Int) : Nat → Int := fun j => if (j = 18 ∨ j = 19) ∧ Z j = 1 then -1 else Z j

theorem freeZ_low (Z : Nat → Int) (j : Nat) (h : j < 18) : freeZ Z j = Z j := by
  unfold freeZ
  rw [if_neg (by omega)]

theorem ShRel.freed {D : List Drv} {Z : Nat → Int} {ia ib : Nat} (h : ShRel D Z ia ib) : ShRel (freeD D 1) (freeZ Z) ia ib := by
  obtain ⟨ht, h2, ha, hb, h18, h19⟩ := h
  have eA : blkA (freeZ Z) = blkA Z := by
    unfold blkA
    apply List.map_congr_left
    intro j hj
    rw [List.mem_range] at hj
    exact freeZ_low Z j (by omega)
  have eB : blkB (freeZ Z) = blkB Z := by
    unfold blkB
    apply List.map_congr_left
    intro j hj
    rw [List.mem_range] at hj
    exact freeZ_low Z _ (by omega)
  refine ⟨ht, by simpa [freeD] using h2, ?_, ?_, ?_, ?_⟩
  · rw [eA]
    unfold freeD
    rw [List.getElem?_map, ha]
    by_cases e : Z 18 = 1
    · simp [freeD1, freeZ, e]
    · simp [freeD1, freeZ, e]
  · rw [eB]
    unfold freeD
    rw [List.getElem?_map, hb]
    by_cases e : Z 19 = 1
    · simp [freeD1, freeZ, e]
    · simp [freeD1, freeZ, e]
  · unfold freeZ; split <;> omega
  · unfold freeZ; split <;> omega

def lastIo : Iox := ⟨2, 6, 8, 0, 0, 0⟩
def lastS : List Ses := endS shopS 1

theorem last_step {l : List Item} {D : List Drv} {Z : Nat → Int} {ia ib : Nat} (hp : l.Perm shopI) (h : ShRel D Z ia ib) : tdR ⟨D, lastS, 3⟩ l 2 lastIo = wantT Z 2 lastIo ∧ tdH ⟨D, lastS, 3⟩ l 2 lastIo = ⟨D, lastS, 3⟩ := by
  have hd : Dist l := (shop_arr.perm hp.symm).dist
  obtain ⟨_, fb⟩ := h.fix
  refine ⟨?_, rfl⟩
  have hsee : seeO ⟨D, lastS, 3⟩ l 2 6 = (0, some (ib, false)) := by
    unfold seeO
    simp only [find_perm hp hd]
    have e : lastS.find? (fun z => decide (z.number = 2)) = some ⟨2, bs [121], bs [107], false⟩ := rfl
    simp only [e]
    rw [map_yk6]
    simp only [show (It.item ⟨4, [121], [107], 6, 3⟩).lun = 3 from rfl]
    rw [lun_y3]
    simp only [show (It.item ⟨2, [121], [98], 3, 1⟩).disk = bs [98] from rfl, fb]
    rfl
  have hb := h.b
  have h19 := h.hb
  unfold tdR wantT
  simp only [lastIo, show ¬ ((2 : Int) = 1) from by omega, if_true, if_false, rdR, hsee, hb, show seesD 2 6 = (1, false) from rfl, show hAt 1 = 19 from rfl, show bAt 1 8 = 17 from rfl, show szD 1 = 9 from rfl]
  unfold rdD
  rw [taken_iff (by exact h19)]
  simp only
  by_cases hh : 0 ≤ Z 19 ∧ Z 19 ≠ 2
  · simp [hh]
  · have hhas : hasB ⟨bs [98], blkB Z, Z 19⟩ 8 = true := by simp [hasB, blkB]
    have hg : (blkB Z).getD 8 0 = Z 17 := range_getD (fun j => Z (9 + j)) 9 8 (by omega)
    simp only [hh, hhas, hg, decide_false, Bool.false_eq_true, if_false, if_true, show (8 : Int).toNat = 8 from rfl, show ¬ ((2 : Int) ≠ 2 ∧ (2 : Int) ≠ 3) from by omega, show ¬ ((8 : Int) < 0 ∨ (9 : Int) ≤ 8) from by omega, show ¬ ((2 : Int) = 3 ∧ False) from by simp]
    rfl

theorem ksd_site : ¬ (fun t => KS t ∨ KD t) 37 := by unfold KS KD; decide
theorem ksd_shelf : ¬ (fun t => KS t ∨ KD t) 49 := by unfold KS KD; decide

/-- The two logouts. -/
theorem shop_logout {w : World} {x r b z : Nat} {l : List Item} {D : List Drv} {Z : Nat → Int} {ia ib : Nat} (h : Shop w x r b z l D Z Z ia ib) :
    Calls Try.prog 19 #[.pointer (some ⟨r, 0, none⟩), .int .i64 1] w fun e w1 => e = .returned (.int .i64 0) ∧ SiteR w1 x r ∧ ShelfAt w1 z Z ∧ RackF w1 r b l [] [] ⟨freeD D 1, lastS, 3⟩ ∧ Below b w w1 ∧
    Calls Try.prog 19 #[.pointer (some ⟨r, 0, none⟩), .int .i64 1] w1 fun e w2 => e = .returned (.int .i64 12) ∧ w2 = w1 := by
  refine (rlogout_ok r b l [] [] ⟨D, shopS, 3⟩ 1 w (by show shopS.length ≤ 8; decide) (by show D.length ≤ 1000; have := h.rel.two; omega) rfl h.rack).mono ?_
  rintro e w1 ⟨rfl, hR, htk, hbe⟩
  exact ⟨rfl, h.site.keep htk ksd_site, h.shelf.keep htk ksd_shelf, hR, hbe, rlogout_no r b l [] [] _ 1 w1 (by show lastS.length ≤ 8; decide) rfl hR⟩

/-- The last call. -/
theorem shop_last {w wx : World} {x r b z : Nat} {l : List Item} {D : List Drv} {Z : Nat → Int} {ia ib : Nat} (hS : SiteR w x r) (hZ : ShelfAt w z Z) (hR : RackF w r b l [] [] ⟨D, lastS, 3⟩) (hp : l.Perm shopI) (hrel : ShRel D Z ia ib) (hb : Below w.heap.size w wx) :
    Calls Try.prog 16 #[.pointer (some ⟨r, 0, none⟩), .int .i64 2, .agg #[.int .i64 2, .int .i64 6, .int .i64 8, .int .i64 0, .int .i64 0, .int .i64 0]] wx fun e w' =>
      ∃ a c, e = .returned (.agg #[.int .i64 (wantT Z 2 lastIo).n, .slice a (wantT Z 2 lastIo).l.length c, .int .i64 (wantT Z 2 lastIo).e]) ∧ NumsAt w' wx.heap.size (.slice a (wantT Z 2 lastIo).l.length c) (wantT Z 2 lastIo).l ∧ SiteR w' x r ∧ ShelfAt w' z Z ∧ TK KD wx w' ∧ Below b wx w' := by
  have hS2 := hS.keep (T := fun _ => False) (TK.of_below hb) id
  have hZ2 := hZ.keep (T := fun _ => False) (TK.of_below hb) id
  have hR2 := hR.later hb
  obtain ⟨v, B, c2, hB, eB⟩ := hR2.hs.bank
  obtain ⟨ht, hD'⟩ := last_step hp hrel
  have h24 : l.length ≤ 24 := (shop_arr.perm hp.symm).fits.1
  have hBl : B.length ≤ 1000 := by
    have e1 : B.length = D.length := by rw [← List.length_map (f := Bk.d), eB]
    have := hrel.two
    omega
  refine (call_any r b l [] [] ⟨D, lastS, 3⟩ 2 lastIo v B wx h24 (by show lastS.length ≤ 8; decide) hBl (by
    intro s hs
    have hs' : s ∈ shopS := (List.mem_filter.1 hs).1
    simp only [shopS, List.mem_cons, List.not_mem_nil, or_false] at hs'
    rcases hs' with rfl | rfl | rfl <;> rfl) hR2 c2 hB eB).mono ?_
  rintro e w' ⟨u, rfl, hu, _, _, _, htk, hbe, _⟩
  rw [ht] at hu ⊢
  obtain ⟨a, c, rfl⟩ : ∃ a c, u = .slice a (wantT Z 2 lastIo).l.length c := by
    rcases hu with ⟨e, a, c, rfl⟩ | ⟨g, cap, rfl, _⟩
    · exact ⟨a, c, by rw [e]; rfl⟩
    · exact ⟨_, _, rfl⟩
  exact ⟨a, c, rfl, hu, hS2.keep htk (by unfold KD; decide), hZ2.keep htk (by unfold KD; decide), htk, hbe⟩

/-- The first j holders are looked at. -/
def freeTo (Z : Nat → Int) (j : Nat) : Nat → Int := fun i => if ((i = 18 ∧ 1 ≤ j) ∨ (i = 19 ∧ 2 ≤ j)) ∧ Z i = 1 then -1 else Z i

theorem freeTo_zero (Z : Nat → Int) : freeTo Z 0 = Z := by
  funext i
  unfold freeTo
  rw [if_neg (by omega)]

theorem freeTo_two (Z : Nat → Int) : freeTo Z 2 = freeZ Z := by
  funext i
  unfold freeTo freeZ
  by_cases h : (i = 18 ∨ i = 19) ∧ Z i = 1
  · rw [if_pos h, if_pos (by omega)]
  · rw [if_neg h, if_neg (by omega)]

theorem freeTo_at (Z : Nat → Int) (j : Nat) : freeTo Z j (18 + j) = Z (18 + j) := by
  unfold freeTo
  rw [if_neg (by omega)]

theorem freeTo_hit (Z : Nat → Int) (j : Nat) (hj : j < 2) (h : Z (18 + j) = 1) : setZ (freeTo Z j) (18 + j) (-1) = freeTo Z (j + 1) := by
  funext i
  unfold setZ freeTo
  by_cases e : i = 18 + j
  · subst e
    rw [if_pos rfl, if_pos (by omega)]
  · rw [if_neg e]
    by_cases h1 : ((i = 18 ∧ 1 ≤ j) ∨ (i = 19 ∧ 2 ≤ j)) ∧ Z i = 1
    · rw [if_pos h1, if_pos (by omega)]
    · rw [if_neg h1, if_neg (by omega)]

theorem freeTo_miss (Z : Nat → Int) (j : Nat) (hj : j < 2) (h : ¬ Z (18 + j) = 1) : freeTo Z j = freeTo Z (j + 1) := by
  funext i
  unfold freeTo
  by_cases e : i = 18 + j
  · subst e
    rw [if_neg (by omega), if_neg (by omega)]
  · by_cases h1 : ((i = 18 ∧ 1 ≤ j) ∨ (i = 19 ∧ 2 ≤ j)) ∧ Z i = 1
    · rw [if_pos h1, if_pos (by omega)]
    · rw [if_neg h1, if_neg (by omega)]

theorem ShelfAt.setTK {w : World} {z : Nat} {Z : Nat → Int} (h : ShelfAt w z Z) (j : Nat) (u : Value) : TK (fun t => t = 49) w (w.setCell ⟨z, j, none⟩ u) := by
  obtain ⟨cs, fr, hty⟩ := h.ty
  exact TK.setCell (T := fun t => t = 49) hty rfl u

end Go.Proofs.Ytdlhgbhaeedbdab
