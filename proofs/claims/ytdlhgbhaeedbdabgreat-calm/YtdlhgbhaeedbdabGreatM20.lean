/- Rk5, Rk6, Rk7. -/
import Derived.Test.YtdlhgbhaeedbdabGreatM19

/- 'Rack.finish'. -/
namespace Go.Proofs.YtdlhgbhaeedbdabGreat
open Go.RowKit

theorem nh_at : NH AT := ⟨by unfold AT; decide, by unfold AT; decide, by unfold AT; decide, by unfold AT; decide⟩

/-- What finish leaves: the arrangement lasts, and no plan is under way; or the power has gone. -/
def FFinEnd (r b : Nat) (S : Nat → UInt8) (l : List Item) (H : Hs) (lf : Int) (w : World) (w' : World) (c : Nat) : Prop :=
  ∃ S' E' U' l' d', ApiAt w' b S' E' U' l' d' ∧ l' ≤ 9223372036854775807 ∧ Below b w w' ∧ TK KT w w' ∧ (lf < 0 → l' = lf ∧ d' = false) ∧ U'.length ≤ 13 ∧ (∀ x ∈ U', x.sec < 64 ∧ x.data.size = 32) ∧
    ((d' = true ∧ c = 7 ∧ DeadAt w' r ∧ ∀ keep, held (updB keep S' U' U'.length) = held S ∨ held (updB keep S' U' U'.length) = prI l) ∨
     (d' = false ∧ c = 0 ∧ RackF w' r b l [] [] H ∧ U' = [] ∧ E' = S' ∧ held S' = prI l))

/-- A rack that has met it. -/
theorem dead_new {w : World} {r : Nat} (hty : ∃ cs fr, w.heap[r]? = some (Obj.cells cs 79 fr)) (hlt : r < w.heap.size) (c4 : w.cell? ⟨r, 7, none⟩ = some (.bool false)) (u0 u1 u2 u3 u4 u5 u6 : Value) :
    DeadAt ((((((((w.setCell ⟨r, 0, none⟩ u0).setCell ⟨r, 1, none⟩ u1).setCell ⟨r, 2, none⟩ u2).setCell ⟨r, 3, none⟩ u3).setCell ⟨r, 4, none⟩ u4).setCell ⟨r, 5, none⟩ u5).setCell ⟨r, 6, none⟩ u6).setCell ⟨r, 7, none⟩ (.bool true)) r :=
  ⟨(ty_set (ty_set (ty_set (ty_set (ty_set (ty_set (ty_set (ty_set hty _) _) _) _) _) _) _) _), by
    have c4' := (cell_set_ne (u := u6) (o' := 6) (cell_set_ne (u := u5) (o' := 5) (cell_set_ne (u := u4) (o' := 4) (cell_set_ne (u := u3) (o' := 3) (cell_set_ne (u := u2) (o' := 2) (cell_set_ne (u := u1) (o' := 1) (cell_set_ne (u := u0) (o' := 0) c4 (by omega)) (by omega)) (by omega)) (by omega)) (by omega)) (by omega)) (by omega))
    go_simp, by simpa [World.setCell] using hlt⟩

theorem set8_tk {w : World} {r : Nat} (hty : ∃ cs fr, w.heap[r]? = some (Obj.cells cs 79 fr)) (u0 u1 u2 u3 u4 u5 u6 u7 : Value) :
    TK KT0 w ((((((((w.setCell ⟨r, 0, none⟩ u0).setCell ⟨r, 1, none⟩ u1).setCell ⟨r, 2, none⟩ u2).setCell ⟨r, 3, none⟩ u3).setCell ⟨r, 4, none⟩ u4).setCell ⟨r, 5, none⟩ u5).setCell ⟨r, 6, none⟩ u6).setCell ⟨r, 7, none⟩ u7) := by
  have key : ∀ (w : World) (o : Nat) (u : Value), (∃ cs fr, w.heap[r]? = some (Obj.cells cs 79 fr)) → TK KT0 w (w.setCell ⟨r, o, none⟩ u) := by
    rintro w o u ⟨cs, fr, h⟩
    exact TK.setCell (T := KT0) h (.inl (.inl rfl)) u
  have h1 := ty_set (o := 0) hty u0
  have h2 := ty_set (o := 1) h1 u1
  have h3 := ty_set (o := 2) h2 u2
  have h4 := ty_set (o := 3) h3 u3
  have h5 := ty_set (o := 4) h4 u4
  have h6 := ty_set (o := 5) h5 u5
  have h7 := ty_set (o := 6) h6 u6
  exact ((((((((key _ 0 u0 hty).trans (key _ 1 u1 h1)).trans (key _ 2 u2 h2)).trans (key _ 3 u3 h3)).trans (key _ 4 u4 h4)).trans (key _ 5 u5 h5)).trans (key _ 6 u6 h6)).trans (key _ 7 u7 h7))

theorem set8_below {w : World} {r b : Nat} (h : b ≤ r) (u0 u1 u2 u3 u4 u5 u6 u7 : Value) :
    Below b w ((((((((w.setCell ⟨r, 0, none⟩ u0).setCell ⟨r, 1, none⟩ u1).setCell ⟨r, 2, none⟩ u2).setCell ⟨r, 3, none⟩ u3).setCell ⟨r, 4, none⟩ u4).setCell ⟨r, 5, none⟩ u5).setCell ⟨r, 6, none⟩ u6).setCell ⟨r, 7, none⟩ u7) :=
  (((((((((Below.refl b w).setCell (p := ⟨r, 0, none⟩) h u0).setCell (p := ⟨r, 1, none⟩) h u1).setCell (p := ⟨r, 2, none⟩) h u2).setCell (p := ⟨r, 3, none⟩) h u3).setCell (p := ⟨r, 4, none⟩) h u4).setCell (p := ⟨r, 5, none⟩) h u5).setCell (p := ⟨r, 6, none⟩) h u6).setCell (p := ⟨r, 7, none⟩) h u7)

set_option maxRecDepth 100000 in
set_option maxHeartbeats 400000 in
theorem ffinish_any (r b : Nat) (S : Nat → UInt8) (l : List Item) (did left : List (Bool × Item)) (H : Hs) (lf : Int) (w : World) (hl : Fits l) (ht : (prI l).size ≤ 400) (hz : ∀ c ∈ (prI l).data.toList, c ≠ 0) (hlf : lf ≤ 9223372036854775807) (h : RackF w r b l did left H) (ha : ApiAt w b S S [] lf false) :
    Calls Tryz.prog 102 #[.pointer (some ⟨r, 0, none⟩)] w fun e w' => ∃ c : Nat, e = .returned (.int .i64 c) ∧ FFinEnd r b S l H lf w w' c := by
  have c0 := h.c0
  have hbr := h.br
  have hlr := h.lt
  obtain ⟨v1, c1, hrow⟩ := h.c1
  obtain ⟨g, v2, v3, _, c2, c3, _, _, _⟩ := h.c2
  have HP := hide (printAt v1 l w hl (items_of_owns hrow))
  have HS := hide fun (wx : World) (hx : ApiAt wx b S S [] lf false) => save_any b S (prI l) lf wx ht hz hlf hx
  have HR := hide h
  generalize hT : prI l = T at *
  have HT := hide hT
  clear h hrow hT
  go_enter Tryz.func102, Tryz.ntmps102
  go_wp2_with fail
  refine (unhide HP).mono ?_
  rintro e w1 ⟨rfl, hb1⟩
  have c01 := (hb1.cell (p := ⟨r, 0, none⟩) hlr).trans c0
  have hs1 := hb1.size
  have HR1 := hide ((unhide HR).later hb1)
  go_wp2_with fail
  refine (unhide HS w1 (ha.later hb1)).mono ?_
  rintro e w2 ⟨S', E', U', l', d', ha2, hl2, hbe2, htk2, hlow2, hU1, hU2, hcase⟩
  have hR2 := (unhide HR1).keep htk2 not_atRack not_atItem not_atStep nh_at
  have hbe02 : Below b w w2 := (hb1.mono (show b ≤ w.heap.size by omega)).trans hbe2
  have htk02 : TK KT w w2 := (TK.of_below hb1).trans (tk_at htk2)
  rcases hcase with ⟨rfl, rfl, hk⟩ | ⟨rfl, rfl, rfl, rfl, hh⟩
  · obtain ⟨c20', ⟨x1, c21'⟩, ⟨x2, c22'⟩, ⟨x3, c23'⟩, c24', ⟨x5, c25'⟩, ⟨x6, c26'⟩, c27'⟩ : w2.cell? ⟨r, 0, none⟩ = some (.pointer (some ⟨b, 0, none⟩)) ∧ (∃ v, w2.cell? ⟨r, 1, none⟩ = some v) ∧ (∃ v, w2.cell? ⟨r, 2, none⟩ = some v) ∧ (∃ v, w2.cell? ⟨r, 3, none⟩ = some v) ∧ w2.cell? ⟨r, 4, none⟩ = some (.int .i64 H.next) ∧ (∃ v, w2.cell? ⟨r, 5, none⟩ = some v) ∧ (∃ v, w2.cell? ⟨r, 6, none⟩ = some v) ∧ w2.cell? ⟨r, 7, none⟩ = some (.bool false) := by
      obtain ⟨v, h1, _⟩ := hR2.c1
      obtain ⟨_, v2, v3, _, h2, h3, _⟩ := hR2.c2
      obtain ⟨⟨v4, _, h4, _⟩, ⟨v5, h5, _⟩, h6, _⟩ := hR2.hs
      exact ⟨hR2.c0, ⟨v, h1⟩, ⟨v4, h4⟩, ⟨v5, h5⟩, h6, ⟨v2, h2⟩, ⟨v3, h3⟩, hR2.c4⟩
    have hfz2 := hR2.fz
    have hlt2 := hR2.lt
    have hD := dead_new hR2.ty hR2.lt hR2.c4 (.pointer none) (.slice none 0 0) (.slice none 0 0) (.slice none 0 0) (.int .i64 0) (.slice none 0 0) (.slice none 0 0)
    have ht5 := set8_tk hR2.ty (.pointer none) (.slice none 0 0) (.slice none 0 0) (.slice none 0 0) (.int .i64 0) (.slice none 0 0) (.slice none 0 0) (.bool true)
    have hb5 := set8_below (w := w2) (Nat.le_of_lt hbr) (.pointer none) (.slice none 0 0) (.slice none 0 0) (.slice none 0 0) (.int .i64 0) (.slice none 0 0) (.slice none 0 0) (.bool true)
    have ha5 := ha2.keep ht5 not_k0dev not_k0late
    have HD := hide hD
    clear HR HR1 hR2 hD
    go_wp2_with fail
    go_ret
    exact ⟨7, rfl, _, _, _, _, _, ha5, hl2, hbe02.trans hb5, htk02.trans (tk_up ht5), hlow2, hU1, hU2, .inl ⟨rfl, rfl, unhide HD, fun keep => by rw [unhide HT]; exact hk keep⟩⟩
  · have HE := hide (end_any r b l did left H w2 hR2)
    clear HR HR1 hR2
    go_wp2_with fail
    refine (unhide HE).mono ?_
    rintro e w3 ⟨rfl, hR3, htk3, hbe3⟩
    have ha3 := ha2.keep (tk_10 htk3) not_k0dev not_k0late
    have htk03 := htk02.trans (tk_up (tk_10 htk3))
    have hbe03 := hbe02.trans hbe3
    have hh' := hh.trans (unhide HT).symm
    go_wp2_with fail
    go_ret
    exact ⟨0, rfl, _, _, _, _, _, ha3, hl2, hbe03, htk03, fun h0 => ⟨(hlow2 h0).1, rfl⟩, by simp, by simp, .inr ⟨rfl, rfl, hR3, rfl, rfl, hh'⟩⟩

end Go.Proofs.YtdlhgbhaeedbdabGreat

/- 'Rack.Step', 'Rack.Stop'. -/
namespace Go.Proofs.YtdlhgbhaeedbdabGreat
open Go.RowKit

set_option maxRecDepth 100000 in
set_option maxHeartbeats 400000 in
theorem step_dead (r : Nat) (f : Bool) (w : World) (h : DeadAt w r) :
    Calls Tryz.prog 56 #[.pointer (some ⟨r, 0, none⟩), .bool f] w fun e w' => e = .returned (.tuple #[.int .i64 0, .int .i64 7]) ∧ w' = w := by
  have c4 := h.c4
  clear h
  go_enter Tryz.func56, Tryz.ntmps56
  go_wp2_with fail
  go_ret2
  exact ⟨rfl, rfl⟩

set_option maxRecDepth 100000 in
set_option maxHeartbeats 400000 in
theorem stop_dead (r : Nat) (w : World) (h : DeadAt w r) :
    Calls Tryz.prog 63 #[.pointer (some ⟨r, 0, none⟩)] w fun e w' => e = .returned (.int .i64 7) ∧ w' = w := by
  have c4 := h.c4
  clear h
  go_enter Tryz.func63, Tryz.ntmps63
  go_wp2_with fail
  go_ret
  exact ⟨rfl, rfl⟩

theorem RackF.idle {w : World} {r b : Nat} {l : List Item} {did : List (Bool × Item)} {H : Hs} (h : RackF w r b l did [] H) : ∃ a cap, w.cell? ⟨r, 6, none⟩ = some (.slice a 0 cap) := by
  obtain ⟨g, v2, v3, _, _, c3, _, hleft, _⟩ := h.c2
  rcases hleft with ⟨_, a, cap, rfl⟩ | ⟨hb, _⟩
  · exact ⟨a, cap, c3⟩
  · simp at hb

theorem RackF.busy {w : World} {r b : Nat} {l : List Item} {did left : List (Bool × Item)} {H : Hs} (h : RackF w r b l did left H) (hb : 0 < left.length) : ∃ g o cap, w.cell? ⟨r, 6, none⟩ = some (.slice (some ⟨g, o, none⟩) left.length cap) ∧ left.length ≤ cap ∧ ∀ i (h : i < left.length), StAt w g (o + i * 10) left[i] := by
  obtain ⟨g, v2, v3, _, _, c3, _, hleft, _⟩ := h.c2
  rcases hleft with ⟨h0, _⟩ | ⟨_, o, cap, rfl, h1, _, h2⟩
  · rw [h0] at hb; simp at hb
  · exact ⟨g, o, cap, c3, h1, h2⟩

set_option maxRecDepth 100000 in
set_option maxHeartbeats 400000 in
theorem fstep_idle (r b : Nat) (f : Bool) (l : List Item) (did : List (Bool × Item)) (H : Hs) (w : World) (h : RackF w r b l did [] H) :
    Calls Tryz.prog 56 #[.pointer (some ⟨r, 0, none⟩), .bool f] w fun e w' => e = .returned (.tuple #[.int .i64 0, .int .i64 9]) ∧ w' = w := by
  have c4 := h.c4
  obtain ⟨a, cap, c3⟩ := h.idle
  clear h
  go_enter Tryz.func56, Tryz.ntmps56
  go_wp2_with fail
  go_ret2
  exact ⟨rfl, rfl⟩

set_option maxRecDepth 100000 in
set_option maxHeartbeats 400000 in
theorem fstop_idle (r b : Nat) (l : List Item) (did : List (Bool × Item)) (H : Hs) (w : World) (h : RackF w r b l did [] H) :
    Calls Tryz.prog 63 #[.pointer (some ⟨r, 0, none⟩)] w fun e w' => e = .returned (.int .i64 9) ∧ w' = w := by
  have c4 := h.c4
  obtain ⟨a, cap, c3⟩ := h.idle
  clear h
  go_enter Tryz.func63, Tryz.ntmps63
  go_wp2_with fail
  go_ret
  exact ⟨rfl, rfl⟩

/-- What a plan that is undone leaves. -/
def FBackEnd (r b : Nat) (l : List Item) (did : List (Bool × Item)) (H : Hs) (w : World) (w' : World) : Prop :=
  RackF w' r b (undoTo l did 0) [] [] (undoH H did 0) ∧ TK K1 w w' ∧ Below b w w'

set_option maxRecDepth 100000 in
set_option maxHeartbeats 400000 in
theorem fstep_fail (r b : Nat) (l : List Item) (did left : List (Bool × Item)) (H : Hs) (w : World) (hn : 0 < left.length) (hd : did.length ≤ 48) (hl : ∀ k, (undoTo l did k).length ≤ 24) (hm : ∀ k (hk : k < did.length), Mild (undoH H did (k + 1)) (!did[k].1, did[k].2)) (h : RackF w r b l did left H) :
    Calls Tryz.prog 56 #[.pointer (some ⟨r, 0, none⟩), .bool true] w fun e w' => e = .returned (.tuple #[.int .i64 0, .int .i64 5]) ∧ FBackEnd r b l did H w w' := by
  have c4 := h.c4
  obtain ⟨g, o, cap, c3, _, _⟩ := h.busy hn
  have hn' : ((left.length : Int) == 0) = false := by rw [beq_eq_false_iff_ne]; omega
  have HU := hide (undo_any r b l did left H w hd hl hm h)
  clear h hl hm
  go_enter Tryz.func56, Tryz.ntmps56
  go_wp2_with fail
  refine (unhide HU).mono ?_
  rintro e w1 ⟨rfl, hR, htk, hbe⟩
  go_wp2_with fail
  go_ret2
  exact ⟨rfl, hR, htk, hbe⟩

set_option maxRecDepth 100000 in
set_option maxHeartbeats 400000 in
theorem fstop_busy (r b : Nat) (l : List Item) (did left : List (Bool × Item)) (H : Hs) (w : World) (hn : 0 < left.length) (hd : did.length ≤ 48) (hl : ∀ k, (undoTo l did k).length ≤ 24) (hm : ∀ k (hk : k < did.length), Mild (undoH H did (k + 1)) (!did[k].1, did[k].2)) (h : RackF w r b l did left H) :
    Calls Tryz.prog 63 #[.pointer (some ⟨r, 0, none⟩)] w fun e w' => e = .returned (.int .i64 0) ∧ FBackEnd r b l did H w w' := by
  have c4 := h.c4
  obtain ⟨g, o, cap, c3, _, _⟩ := h.busy hn
  have hn' : ((left.length : Int) == 0) = false := by rw [beq_eq_false_iff_ne]; omega
  have HU := hide (undo_any r b l did left H w hd hl hm h)
  clear h hl hm
  go_enter Tryz.func63, Tryz.ntmps63
  go_wp2_with fail
  refine (unhide HU).mono ?_
  rintro e w1 ⟨rfl, hR, htk, hbe⟩
  go_wp2_with fail
  go_ret
  exact ⟨rfl, hR, htk, hbe⟩

end Go.Proofs.YtdlhgbhaeedbdabGreat

/- 'Rack.Step', on: a step is done. -/
namespace Go.Proofs.YtdlhgbhaeedbdabGreat
open Go.RowKit

theorem run_stepSl (w : World) (cs : List Value) (h : cs.length = 10) : (Instr.buildSlice 77 1 #[(0, .agg cs.toArray)]).run Tryz.prog w = .ok (.slice (some ⟨w.heap.size, 0, none⟩) 1 1) (w.alloc (.cells cs.toArray 157)) := by
  obtain ⟨i0, hinf, hz, hsz, _⟩ := info_parts Tryz.infoStep
  refine run_buildSlice w 77 157 1 _ cs.toArray i0 (.agg zStep) Tryz.underlying77 hinf hz (by rw [hsz]; decide) (by rw [hsz]; decide) ?_
  rw [hsz]
  have := Great.fill_whole (s := 10) (by decide) [.agg cs.toArray] ((Array.range (1 * 10)).map ((Value.agg zStep).cells[· % (Value.agg zStep).cells.size]!)) (fun v hv => by
    rw [List.mem_singleton.1 hv]; simpa [Value.cells] using h) (by simp)
  simpa [Value.cells] using this

theorem fits112 {n old : Nat} (h : old ≤ n) (hn : n ≤ 1000) : Builtin.nextslicecap (n + 1) old * 112 ≤ 281474976710656 := by
  have h1 : Builtin.nextslicecap (n + 1) old ≤ n + n / 4 + 1024 := by
    unfold Builtin.nextslicecap
    split
    · omega
    · split
      · omega
      · rw [growBy_four]
        repeat' split
        all_goals omega
  omega

theorem ns_item : ¬ ((fun t => t = 157) 83) := by decide
theorem nh_step : NH (fun t => t = 157) := ⟨by decide, by decide, by decide, by decide⟩
theorem ns_rack : ¬ ((fun t => t = 157) 79) := by decide

/-- One step more stands among those that are done. -/
theorem RackF.pushed {w w2 : World} {r b : Nat} {l : List Item} {did left : List (Bool × Item)} {H : Hs} (h : RackF w r b l did left H) {p : Bool × Item} {g : Nat} {v2 v3 v' : Value} {cs : Array Value} (hg : b ≤ g) (c3 : w.cell? ⟨r, 6, none⟩ = some v3) (hleft : LeftAt w g v3 left)
    (ho : (w.drew.alloc (.cells cs 157)).ownsRow (g + 1) 157 10 v2 did.length (stsCells did)) (hgr : (w.drew.alloc (.cells cs 157)).grownBy w2 v2.ownBlock)
    (hn : w2.ownsRow (g + 1) 157 10 v' (did.length + 1) (stsCells did ++ (stCells p.1 p.2).toList)) :
    RackF (w2.setCell ⟨r, 5, none⟩ v') r b l (did ++ [p]) left H ∧ TK KT0 w (w2.setCell ⟨r, 5, none⟩ v') ∧ Below b w (w2.setCell ⟨r, 5, none⟩ v') ∧ (∀ o, w2.cell? ⟨r, o, none⟩ = w.cell? ⟨r, o, none⟩) ∧ (∀ o, w2.frozen? ⟨r, o, none⟩ = false) := by
  have hA : Below w.heap.size w (w.drew.alloc (.cells cs 157)) := (Below.refl w.heap.size w).drew.alloc (Nat.le_refl _) _
  have hT : TK (fun t => t = 157) w w2 := (TK.of_below hA).trans (TK.grown ho hgr rfl)
  have hgb : ∀ k, k < w.heap.size → k ≤ g → w2.heap[k]? = w.heap[k]? := fun k hk hkg => by
    refine (hgr.block k (by simp; omega) (fun e => ?_)).trans (hA.block k hk)
    have := (World.ownsRow.lt ho k e.symm).1
    omega
  obtain ⟨⟨cs', fr, hty⟩, c0, ⟨v1, c1, hrow⟩, ⟨_, v2', v3', _, c2, c3', _, _, _⟩, c4, fz, lt, br, hs⟩ := h
  have hbr : w2.heap[r]? = w.heap[r]? := hT.block r cs' _ fr hty ns_rack
  have hc : ∀ o, w2.cell? ⟨r, o, none⟩ = w.cell? ⟨r, o, none⟩ := fun o => World.cell?_of_block hbr
  have hf : ∀ o, w2.frozen? ⟨r, o, none⟩ = w.frozen? ⟨r, o, none⟩ := fun o => World.frozen?_of_block hbr
  have hk : TK (fun t => t = 79) w2 (w2.setCell ⟨r, 5, none⟩ v') := TK.setCell (T := fun t => t = 79) (hbr.trans hty) rfl v'
  have hL2 : LeftAt w2 g v3 left := hleft.block fun ⟨cs0, fr0, ht0⟩ => hgb g (by
    by_cases e : g < w.heap.size
    · exact e
    · rw [Array.getElem?_eq_none (by omega)] at ht0; cases ht0) (Nat.le_refl _)
  have hsz := hT.size
  refine ⟨⟨ty_set ⟨cs', fr, hbr.trans hty⟩ _, cell_set_ne ((hc _).trans c0) (by omega), ⟨v1, cell_set_ne ((hc _).trans c1) (by omega), hk.row ne_item (hT.row ns_item hrow)⟩,
    ⟨g, v', v3, hg, World.cell?_setCell_same _ _ _ ((hc _).trans c2), cell_set_ne ((hc _).trans c3) (by omega), ?_, hL2.keep hk ne_step, fun e => by simp at e⟩, cell_set_ne ((hc _).trans c4) (by omega), fun o => by simp [(hf o).trans (fz o)], by simp [World.setCell]; omega, br, (hs.keep hT nh_step (fun o _ _ => hc o) fun hG => hG.keep hT ns_rack ns_item nh_step).set ⟨cs', fr, hbr.trans hty⟩ (by omega) _⟩, ?_, ?_, hc, fun o => (hf o).trans (fz o)⟩
  · rw [stsCells_snoc, List.length_append]
    exact hk.row ne_step hn
  · exact (hT.mono fun _ e => .inr e).trans (tk_10 (tk_kt hk))
  · have hB : Below b w w2 := ⟨hT.os, hT.tape, hT.output, hT.size, fun k hk => hgb k (by omega) (by omega)⟩
    exact hB.setCell (p := ⟨r, 5, none⟩) (by simp; omega) _

/-- The first of the steps that are left is off. -/
theorem RackF.shift {w : World} {r b : Nat} {l : List Item} {did rest : List (Bool × Item)} {p : Bool × Item} {H : Hs} (h : RackF w r b l did (p :: rest) H) : ∃ g o cap, w.cell? ⟨r, 6, none⟩ = some (.slice (some ⟨g, o, none⟩) (rest.length + 1) cap) ∧ rest.length + 1 ≤ cap ∧
    ∀ v, (rest = [] ∧ (∃ a c, v = .slice a 0 c)) ∨ (0 < rest.length ∧ v = .slice (some ⟨g, o + 10, none⟩) rest.length (cap - 1)) → RackF (w.setCell ⟨r, 6, none⟩ v) r b l did rest H := by
  have hset := fun v => h.setTK 6 v
  obtain ⟨hty, c0, ⟨v1, c1, hrow⟩, ⟨g, v2, v3, hg, c2, c3, hdid, hleft, hn⟩, c4, fz, lt, br, hs'⟩ := h
  rcases hleft with ⟨h0, _⟩ | ⟨_, o, cap, rfl, hcap, ⟨cs, fr, htg⟩, hs⟩
  · cases h0
  · refine ⟨g, o, cap, c3, hcap, fun v hv => ?_⟩
    have hk := hset v
    refine ⟨ty_set hty _, cell_set_ne c0 (by omega), ⟨v1, cell_set_ne c1 (by omega), hk.row ne_item hrow⟩, ⟨g, v2, v, hg, cell_set_ne c2 (by omega), World.cell?_setCell_same _ _ _ c3, hk.row ne_step hdid, ?_, hn⟩, cell_set_ne c4 (by omega), fun o => by simp [fz o], by simpa [World.setCell] using lt, br, hs'.set hty (by omega) _⟩
    rcases hv with ⟨h0, a, c, rfl⟩ | ⟨h0, rfl⟩
    · exact .inl ⟨h0, a, c, rfl⟩
    · have hb := hk.block g cs _ fr htg ne_step
      refine .inr ⟨h0, o + 10, cap - 1, rfl, by simp at hcap; omega, ⟨cs, fr, hb.trans htg⟩, fun i hi => ?_⟩
      have := (hs (i + 1) (by simp; omega)).of_cells (w' := w.setCell ⟨r, 6, none⟩ (.slice (some ⟨g, o + 10, none⟩) rest.length (cap - 1))) fun o => World.cell?_of_block hb
      rw [List.getElem_cons_succ, show o + (i + 1) * 10 = o + 10 + i * 10 by omega] at this
      exact this

theorem FFinEnd.from {r b : Nat} {S : Nat → UInt8} {l : List Item} {H : Hs} {lf : Int} {w w4 w' : World} {c : Nat} (h : FFinEnd r b S l H lf w4 w' c) (h1 : TK KT w w4) (h2 : Below b w w4) : FFinEnd r b S l H lf w w' c := by
  obtain ⟨S', E', U', l', d', h3, h4, h5, h6, h7⟩ := h
  exact ⟨S', E', U', l', d', h3, h4, h2.trans h5, h1.trans h6, h7⟩

/-- What Step leaves. -/
def FStepEnd (r b : Nat) (S : Nat → UInt8) (l : List Item) (did : List (Bool × Item)) (p : Bool × Item) (rest : List (Bool × Item)) (H : Hs) (lf : Int) (w : World) (e : Ending) (w' : World) : Prop :=
  (0 < rest.length ∧ e = .returned (.tuple #[.int .i64 rest.length, .int .i64 0]) ∧ RackF w' r b (doI p.1 l p.2) (did ++ [p]) rest (doH H p) ∧ TK KT0 w w' ∧ Below b w w') ∨
  (rest = [] ∧ ∃ c : Nat, e = .returned (.tuple #[.int .i64 0, .int .i64 c]) ∧ FFinEnd r b S (doI p.1 l p.2) (doH H p) lf w w' c)

set_option maxRecDepth 100000 in
set_option maxHeartbeats 800000 in
theorem fstep_ok (r b : Nat) (S : Nat → UInt8) (l : List Item) (did : List (Bool × Item)) (p : Bool × Item) (rest : List (Bool × Item)) (H : Hs) (lf : Int) (w : World) (hd : did.length + 1 + rest.length ≤ 48) (hl : l.length ≤ 24) (hl2 : Fits (doI p.1 l p.2)) (ht : (prI (doI p.1 l p.2)).size ≤ 400) (hz : ∀ c ∈ (prI (doI p.1 l p.2)).data.toList, c ≠ 0)
    (hlf : lf ≤ 9223372036854775807) (hm : Mild H p) (h : RackF w r b l did (p :: rest) H) (ha : ApiAt w b S S [] lf false) :
    Calls Tryz.prog 56 #[.pointer (some ⟨r, 0, none⟩), .bool false] w fun e w' => FStepEnd r b S l did p rest H lf w e w' := by
  have c4 := h.c4
  have hlr := h.lt
  have hbr := h.br
  obtain ⟨g0, v20, v30, hx1, c20, hx2, hdid0, hx3, hx4⟩ := h.c2
  clear hx1 hx2 hx3 hx4
  obtain ⟨g, o, cap, c3, hcap, hs⟩ := h.busy (by simp)
  have hs0 := hs 0 (by simp)
  simp only [List.getElem_cons_zero, Nat.zero_mul, Nat.add_zero] at hs0
  simp only [List.length_cons] at c3 hcap
  have hn' : (((rest.length : Int) + 1) == 0) = false := by rw [beq_eq_false_iff_ne]; omega
  have hn2 : (0 : Int) < (rest.length : Int) + 1 := by omega
  obtain ⟨pb, y⟩ := p
  have hst0 := StAt.new w pb y
  have hbn := below_new w (.cells #[.bool pb, .int .i64 y.kind, .string y.name, .string y.host, .int .i64 y.number, .int .i64 y.size, .string y.disk, .bool y.only, .int .i64 y.lun, .string y.text] 157)
  have hR0 := h.later hbn
  have HD := hide (do_any r b l did ((pb, y) :: rest) (pb, y) H _ hl hm hR0)
  simp only [stCells] at HD
  obtain ⟨d0, d1, d2, d3, d4, d5, d6, d7, d8, d9⟩ := hs0
  simp only at d0 d1 d2 d3 d4 d5 d6 d7 d8 d9
  have HA := hide ha
  clear h hs hR0 ha
  go_enter Tryz.func56, Tryz.ntmps56
  go_wp2_with fail
  refine (unhide HD).mono ?_
  rintro e w1 ⟨⟨rfl, hR1, htk1, hbe1⟩, hoth⟩
  have hN0 : (w.alloc (.cells #[.bool pb, .int .i64 y.kind, .string y.name, .string y.host, .int .i64 y.number, .int .i64 y.size, .string y.disk, .bool y.only, .int .i64 y.lun, .string y.text] 157)).heap[w.heap.size]? = some (.cells #[.bool pb, .int .i64 y.kind, .string y.name, .string y.host, .int .i64 y.number, .int .i64 y.size, .string y.disk, .bool y.only, .int .i64 y.lun, .string y.text] 157) := heap_alloc_last w _
  have hN1 := (htk1.block w.heap.size _ _ _ hN0 not_k1step).trans hN0
  have hs1 := htk1.size
  have hN : w.heap.size < w1.heap.size := by simp at hs1; omega
  have hrg : w1.rangeAt w.heap.size 0 (stCells pb y).toList := fun j v hv => by
    rw [Nat.zero_add, World.cell?, hN1]
    simpa [stCells] using hv
  have htk01 : TK K1 w w1 := (TK.of_below hbn).trans htk1
  have hbe01 : Below b w w1 := (hbn.mono (show b ≤ w.heap.size by omega)).trans hbe1
  have ha1 := (unhide HA).keep htk01 (by unfold K1 KB; decide) (by unfold K1 KB; decide)
  generalize hl' : doI pb l y = l' at *
  have HL' := hide hl'
  clear hl'
  obtain ⟨g1, v2, v3, hg1, c2, c31, hdid, hleft, _⟩ := hR1.c2
  obtain ⟨a, cap2, rfl⟩ := slice_of_owns hdid
  have hlr1 := hR1.lt
  have hndid : (Value.slice a did.length cap2).ownBlock = some w.heap.size → False := fun e => by
    have hv2 := (hoth 5 (by omega) (by omega)).symm.trans c2
    rw [World.cell?_alloc_some _ _ _ (by rw [c20]; rfl), c20] at hv2
    simp only [Option.some.injEq] at hv2
    subst hv2
    have := (hdid0.lt _ e).2
    omega
  have hone : ∀ v ∈ (stCells pb y).toList, v.oneCell' = true := step_oneCell pb y
  have hcl : (stCells pb y).toList.length = 10 := rfl
  have hu := Tryz.underlying157
  have hsz : (Tryz.prog.info? 157).map (·.size) = some (stCells pb y).toList.length := by rw [hcl]; kernel_rfl
  have hfz := hR1.fz
  have hbs : ∀ w' : World, (Instr.buildSlice 77 1 #[(0, .agg (stCells pb y).toList.toArray)]).run Tryz.prog w' = .ok (.slice (some ⟨w'.heap.size, 0, none⟩) 1 1) (w'.alloc (.cells (stCells pb y).toList.toArray 157)) := fun w' => run_stepSl w' _ hcl
  obtain ⟨i0, hinf, hz0, hz1, hz2⟩ := info_parts Tryz.infoStep
  have Hinf := hide (⟨hinf, hz0, hz1, hz2⟩ : _ ∧ _ ∧ _ ∧ _)
  clear hinf hz0 hz1 hz2
  have HR := hide hR1
  have Hleft := hide hleft
  have Hdid := hide hdid
  have Hrow := hide (owns_later hdid ((Below.refl w1.heap.size w1).drew.alloc (Nat.le_refl _) (.cells (stCells pb y).toList.toArray 157)))
  have Hdl := hide (show did.length ≤ 1000 by omega)
  have Hnd : Hid ((Value.slice a did.length cap2).ownBlock = some w.heap.size → False) := hide hndid
  have Hc := hide (rfl : (stCells pb y).toList = (stCells pb y).toList)
  generalize hcs : (stCells pb y).toList = cs at *
  clear HD HA hR1 hleft hdid hdid0 hoth c20 hndid hst0 d0 d1 d2 d3 d4 d5 d6 d7 d8 d9 c4 c3 hN0 hN1 hs1 hbn htk1 hbe1
  have Hrg2 := hide (range_alloc hrg (.cells cs.toArray 157))
  have c2a : (w1.alloc (.cells cs.toArray 157)).cell? ⟨r, 5, none⟩ = some (.slice a did.length cap2) := by rw [World.cell?_alloc_some _ _ _ (by rw [c2]; rfl), c2]
  have Hnews := hide (news_alloc w1.drew cs 157)
  have hg1s : g1 < w1.heap.size := by
    rcases unhide Hleft with ⟨h0, _⟩ | ⟨_, o, cap, _, _, ⟨cs0, fr0, hty0⟩, _⟩
    · cases h0
    · by_cases e : g1 < w1.heap.size
      · exact e
      · rw [Array.getElem?_eq_none (by omega)] at hty0; cases hty0
  have Hle := hide (show g1 + 1 ≤ (w1.drew.alloc (.cells cs.toArray 157)).heap.size by simp; omega)
  go_wp2_with fail
  refine wp_region_noPanic ?_
  refine wp_region_held_drew (S := fun w' => w'.rangeAt w.heap.size 0 cs) (by kernel_rfl) ?hS0 (fun hHeld => ?_)
  case hS0 => exact hrg
  refine wpAnyH_take (i := 0) (v := .pointer (some ⟨r, 0, none⟩)) rfl (by kernel_rfl) (by kernel_rfl) (by kernel_rfl) (fun _ _ _ h => h) (Or.inl ⟨by rfl, ?hy0⟩) (by assumption) ?r0
  case hy0 => intro w hSw; (try dsimp only at hSw); go_simp
  simp only [Act.put, List.setIfInBounds_toArray, List.set_cons_zero, List.set_cons_succ, List.getElem_toArray, List.getElem_cons_zero]
  refine wpAnyH_take (i := 1) (v := .pointer (some ⟨r, 0, none⟩)) rfl (by kernel_rfl) (by kernel_rfl) (by kernel_rfl) (fun _ _ _ h => h) (Or.inl ⟨by rfl, ?hy1⟩) (by assumption) ?r1
  case hy1 => intro w hSw; (try dsimp only at hSw); go_simp
  simp only [Act.put, List.setIfInBounds_toArray, List.set_cons_zero, List.set_cons_succ, List.getElem_toArray, List.getElem_cons_zero, List.getElem_cons_succ]
  refine wpAnyH_take (i := 2) (v := .pointer (some ⟨r, 0, none⟩)) rfl (by kernel_rfl) (by kernel_rfl) (by kernel_rfl) (fun _ _ _ h => h) (Or.inl ⟨by rfl, ?hy2⟩) (by assumption) ?r2
  case hy2 => intro w hSw; (try dsimp only at hSw); go_simp
  simp only [Act.put, List.setIfInBounds_toArray, List.set_cons_zero, List.set_cons_succ, List.getElem_toArray, List.getElem_cons_zero, List.getElem_cons_succ]
  refine wpAnyH_take (i := 3) (v := .pointer (some ⟨r, 5, none⟩)) rfl (by kernel_rfl) (by kernel_rfl) (by kernel_rfl) (fun _ _ _ h => h) (Or.inl ⟨by rfl, ?hy3⟩) (by assumption) ?r3
  case hy3 => intro w hSw; (try dsimp only at hSw); go_simp
  simp only [Act.put, List.setIfInBounds_toArray, List.set_cons_zero, List.set_cons_succ, List.getElem_toArray, List.getElem_cons_zero, List.getElem_cons_succ]
  refine wpAnyH_take (i := 5) (v := .agg cs.toArray) rfl (by kernel_rfl) (by kernel_rfl) (by kernel_rfl) (fun _ _ _ h => h) (yieldsIf_load_mid (by rfl) _ _ rfl w.heap.size 0 rfl cs _ (fun _ h => h) hu rfl hsz) hHeld ?_
  simp only [Act.put, List.setIfInBounds_toArray, List.set_cons_zero, List.set_cons_succ, List.getElem_toArray, List.getElem_cons_zero, List.getElem_cons_succ]
  refine wpAnyH_ready (rs := [4, 6]) (by kernel_rfl) (by simp) (AllReadyH.cons rfl (fun K hK => ?o4) (AllReadyH.cons rfl (fun K hK => ?o6) AllReadyH.nil))
  case' o4 =>
    go_simp
    refine hK.out _ _ hHeld (fun _ => ?_)
    clear hK K
    refine wpAnyH_ready (rs := [6]) (by kernel_rfl) (by simp) (AllReadyH.cons rfl (fun K hK => ?_) AllReadyH.nil)
    refine step_bs 77 _ rfl (.agg cs.toArray) rfl _ rfl (hbs _) ?_
    refine hK.out _ _ (unhide Hrg2) (fun hHeld => ?_)
    clear hK K
    simp only [Act.put, List.setIfInBounds_toArray, List.set_cons_zero, List.set_cons_succ, List.getElem_toArray, List.getElem_cons_zero, List.getElem_cons_succ]
  case' o6 =>
    refine step_bs 77 _ rfl (.agg cs.toArray) rfl _ rfl (hbs _) ?_
    refine hK.out _ _ (unhide Hrg2) (fun hHeld => ?_)
    clear hK K
    simp only [Act.put, List.setIfInBounds_toArray, List.set_cons_zero, List.set_cons_succ, List.getElem_toArray, List.getElem_cons_zero, List.getElem_cons_succ]
    refine wpAnyH_ready (rs := [4]) (by kernel_rfl) (by simp) (AllReadyH.cons rfl (fun K hK => ?_) AllReadyH.nil)
    go_simp
    refine hK.out _ (w1.drew.alloc (.cells cs.toArray 157)) hHeld (fun _ => ?_)
    clear hK K
  all_goals (
  refine wpAnyH_ready (rs := [7]) (by kernel_rfl) (by simp) (AllReadyH.cons rfl (fun K hK => ?_) AllReadyH.nil)
  obtain ⟨g2, cap3, w2, hrun, hown, hgrow⟩ := append_one (P := Tryz.prog) (w1.drew.alloc (.cells cs.toArray 157)) 77 77 157 i0 (.agg zStep) Tryz.underlying77 (unhide Hinf).1 (unhide Hinf).2.1 (by rw [(unhide Hinf).2.2.1]; rfl) (n := did.length) (xs := stsCells did) (by rw [(unhide Hinf).2.2.1]; exact unhide Hrow) ⟨w1.heap.size, 0, none⟩ 1 cs (by rw [(unhide Hinf).2.2.1, hcl]) (unhide Hnews) hone (by have := unhide Hdl; unfold maxLen; omega) (fun old ho => by rw [(unhide Hinf).2.2.2]; exact fits112 ho (unhide Hdl)) (unhide Hle)
  rw [(unhide Hinf).2.2.1] at hown
  refine step_append_run _ _ 77 rfl (.slice a did.length cap2) _ rfl rfl _ rfl hrun ?_
  have hown' := hown
  rw [← hcs] at hown'
  obtain ⟨p1, p2, p3, p4, p5⟩ := (unhide HR).pushed (p := (pb, y)) hg1 c31 (unhide Hleft) (unhide Hrow) hgrow hown'
  have c2' := (p4 5).trans c2
  have fz' : ∀ o, w2.frozen? ⟨r, o, none⟩ = false := p5
  have hrg2 : w2.rangeAt w.heap.size 0 cs := fun j u hj => hgrow.cell (unhide Hrg2 j u hj) (fun e => by
    have := (unhide Hnd) e.symm
    exact this)
  have hrg3 : (w2.setCell ⟨r, 5, none⟩ (.slice (some ⟨g2, 0, none⟩) (did.length + 1) cap3)).rangeAt w.heap.size 0 cs := range_set hrg2 hlr trivial _
  have HP := hide (⟨p1, p2, p3⟩ : _ ∧ _ ∧ _)
  have Hrg4 := hide hrg3
  clear hown hown' hgrow hrun p1 p2 p3 p4 p5 hrg3
  refine hK.out _ _ hrg2 (fun hHeld => ?_)
  clear hK K
  simp only [Act.put, List.setIfInBounds_toArray, List.set_cons_zero, List.set_cons_succ, List.getElem_toArray, List.getElem_cons_zero, List.getElem_cons_succ]
  refine wpAnyH_take (i := 8) (v := .pointer (some ⟨r, 0, none⟩)) rfl (by kernel_rfl) (by kernel_rfl) (by kernel_rfl) (fun _ _ _ h => h) (Or.inl ⟨by rfl, by intro w hSw; (try dsimp only at hSw); go_simp⟩) (by assumption) ?_
  simp only [Act.put, List.setIfInBounds_toArray, List.set_cons_zero, List.set_cons_succ, List.getElem_toArray, List.getElem_cons_zero, List.getElem_cons_succ]
  refine wpAnyH_take (i := 9) (v := .pointer (some ⟨r, 5, none⟩)) rfl (by kernel_rfl) (by kernel_rfl) (by kernel_rfl) (fun _ _ _ h => h) (Or.inl ⟨by rfl, by intro w hSw; (try dsimp only at hSw); go_simp⟩) (by assumption) ?_
  simp only [Act.put, List.setIfInBounds_toArray, List.set_cons_zero, List.set_cons_succ, List.getElem_toArray, List.getElem_cons_zero, List.getElem_cons_succ]
  refine wpAnyH_ready (rs := [10]) (by kernel_rfl) (by simp) (AllReadyH.cons rfl (fun K hK => ?_) AllReadyH.nil)
  go_simp
  refine hK.out _ _ (unhide Hrg4) (fun _ => ?_)
  clear hK K
  refine wpAnyH_done (by kernel_rfl) (NoPanic.normal ?_) _
  generalize hw3 : w2.setCell ⟨r, 5, none⟩ (.slice (some ⟨g2, 0, none⟩) (did.length + 1) cap3) = w3 at *
  obtain ⟨a1, a2, a3⟩ := unhide HP
  obtain ⟨g4, o4, cap4, c34, hcap4, hsh⟩ := a1.shift
  have hfz3 := a1.fz
  have htk3 : TK KT0 w w3 := (tk_10 htk01).trans a2
  have hbe3 : Below b w w3 := hbe01.trans a3
  have hset := fun v => a1.setTK 6 v
  have ha3 := ha1.keep a2 not_k0dev not_k0late
  have Hsh := hide hsh
  have Hset := hide hset
  have hlr3 := a1.lt
  clear hone hcl hu hsz hbs Hrow Hrg2 Hnews Hle Hrg4 HP HR Hleft Hdid Hinf Hdl Hnd c2 c2a c2' c31 hrg hrg2 hHeld hcs hfz fz' hw3 a1 a2 a3 hsh hset ha1 htk01 hbe01
  by_cases h0 : rest.length = 0
  · have h1 : rest = [] := List.length_eq_zero_iff.1 h0
    subst h1
    simp only [List.length_nil, Nat.zero_add] at c34 hcap4
    have HF := hide fun (v : Value) => ffinish_any r b S l' (did ++ [(pb, y)]) [] (doH H (pb, y)) lf (w3.setCell ⟨r, 6, none⟩ v) hl2 ht hz hlf
    by_cases hc1 : cap4 = 1
    · subst hc1
      go_wp2_with fail
      have hR4 := unhide Hsh (.slice (some ⟨g4, o4, none⟩) 0 0) (.inl ⟨by trivial, _, _, rfl⟩)
      have ht4 := unhide Hset (.slice (some ⟨g4, o4, none⟩) 0 0)
      refine (unhide HF _ hR4 (ha3.keep ht4 (by decide) (by decide))).mono ?_
      rintro e w5 ⟨c, rfl, hF⟩
      have hF2 := hF.from (tk_up (htk3.trans (tk_10 (tk_kt ht4)))) (hbe3.setCell (p := ⟨r, 6, none⟩) (by simp; omega) _)
      clear hF
      go_wp2_with fail
      go_ret2
      exact .inr ⟨rfl, c, rfl, by rw [unhide HL']; exact hF2⟩
    · have hc2 : 1 < cap4 := by omega
      go_wp2_with fail
      have hR4 := unhide Hsh (.slice (some ⟨g4, o4 + 10, none⟩) 0 (cap4 - 1)) (.inl ⟨by trivial, _, _, rfl⟩)
      have ht4 := unhide Hset (.slice (some ⟨g4, o4 + 10, none⟩) 0 (cap4 - 1))
      refine (unhide HF _ hR4 (ha3.keep ht4 (by decide) (by decide))).mono ?_
      rintro e w5 ⟨c, rfl, hF⟩
      have hF2 := hF.from (tk_up (htk3.trans (tk_10 (tk_kt ht4)))) (hbe3.setCell (p := ⟨r, 6, none⟩) (by simp; omega) _)
      clear hF
      go_wp2_with fail
      go_ret2
      exact .inr ⟨rfl, c, rfl, by rw [unhide HL']; exact hF2⟩
  · have hc2 : 1 < cap4 := by omega
    have h0' : (0 : Int) < (rest.length : Int) := by omega
    go_wp2_with fail
    have hR4 := unhide Hsh (.slice (some ⟨g4, o4 + 10, none⟩) rest.length (cap4 - 1)) (.inr ⟨by omega, rfl⟩)
    have ht4 := unhide Hset (.slice (some ⟨g4, o4 + 10, none⟩) rest.length (cap4 - 1))
    have htk4 := htk3.trans (tk_10 (tk_kt ht4))
    have hbe4 := hbe3.setCell (p := ⟨r, 6, none⟩) (by simp; omega) (.slice (some ⟨g4, o4 + 10, none⟩) rest.length (cap4 - 1))
    go_ret2
    exact .inl ⟨by omega, rfl, by rw [unhide HL']; exact hR4, htk4, hbe4⟩)

end Go.Proofs.YtdlhgbhaeedbdabGreat
