/- Rk3, Rk4, Rk5, Rk6. -/
import Derived.Test.YtdlhgbhaeedbdabM17
import Derived.Lib.ConvBytes

/- 'Step.Opposite', 'Rack.undo'. -/
namespace Go.Proofs.Ytdlhgbhaeedbdab
open Go.RowKit

set_option maxRecDepth 100000 in
set_option maxHeartbeats 400000 in
theorem opp_any (p : Bool × Item) (w : World) :
    Calls Try.prog 73 #[.agg (stCells p.1 p.2)] w fun e w' => e = .returned (.agg (stCells (!p.1) p.2)) ∧ Below w.heap.size w w' := by
  have hnot : ∀ (x : Bool) (w : World), (Op.unary .not (.bool x)).run Try.prog w = .ok (.bool (!x)) w := fun _ _ => rfl
  obtain ⟨pb, y⟩ := p
  simp only [stCells]
  go_enter Try.func73, Try.ntmps73
  go_wp2
  refine bodyPost_ret (v := .agg #[.bool (!pb), .int .i64 y.kind, .string y.name, .string y.host, .int .i64 y.number, .int .i64 y.size, .string y.disk, .bool y.only, .int .i64 y.lun, .string y.text]) (by simp [results, Try.results73, go_sem]) rfl ⟨rfl, ?_⟩
  exact ((Below.refl w.heap.size w).alloc (Nat.le_refl _) _).alloc (by simp) _

theorem StepsAt.later {w w' : World} {v : Value} {l : List (Bool × Item)} (h : StepsAt w v l) (hb : Below w.heap.size w w') : StepsAt w' v l := by
  rcases h with h | ⟨g, cap, rfl, hg, hs⟩
  · exact .inl h
  · exact .inr ⟨g, cap, rfl, Nat.lt_of_lt_of_le hg hb.size, fun i hi => (hs i hi).below hb hg⟩

/-- The hosts, when all but the first k of the steps have been undone. -/
def undoH (H : Hs) (did : List (Bool × Item)) (k : Nat) : Hs := (flips (did.drop k).reverse).foldl doH H

theorem undoH_all (H : Hs) (did : List (Bool × Item)) : undoH H did did.length = H := by simp [undoH, flips]

theorem undoH_step (H : Hs) (did : List (Bool × Item)) (k : Nat) (hk : k < did.length) : undoH H did k = doH (undoH H did (k + 1)) (!did[k].1, did[k].2) := by
  unfold undoH
  rw [List.drop_eq_getElem_cons hk, List.reverse_cons]
  have : flips ((did.drop (k + 1)).reverse ++ [did[k]]) = flips (did.drop (k + 1)).reverse ++ [(!did[k].1, did[k].2)] := by simp [flips]
  rw [this, List.foldl_append]
  rfl

set_option maxRecDepth 100000 in
set_option maxHeartbeats 400000 in
theorem undo_any (r b : Nat) (l : List Item) (did left : List (Bool × Item)) (H : Hs) (w : World) (hd : did.length ≤ 48) (hl : ∀ k, (undoTo l did k).length ≤ 24) (hm : ∀ k (hk : k < did.length), Mild (undoH H did (k + 1)) (!did[k].1, did[k].2)) (h : RackF w r b l did left H) :
    Calls Try.prog 49 #[.pointer (some ⟨r, 0, none⟩)] w fun e w' => RackEnd r b (undoTo l did 0) [] [] (undoH H did 0) w e w' := by
  obtain ⟨g0, v20, v30, _, c20, _, hdid0, _, _⟩ := h.c2
  obtain ⟨da0, dc0, rfl⟩ := slice_of_owns hdid0
  have hbr0 := h.br
  have Hl := hide hl
  have Hm := hide hm
  have Hh := hide h
  clear hl h hdid0 hm
  go_enter Try.func49, Try.ntmps49
  go_wp2_with fail
  go_loopw [2] (fun kv wr => ∃ k : Nat, k ≤ did.length ∧ kv = .int .i64 ((k : Int) - 1) ∧ RackF wr r b (undoTo l did k) did left (undoH H did k) ∧ TK K1 w wr ∧ Below b w wr) (fun kv _ => (intOf kv + 1).toNat)
  case atStart => exact ⟨did.length, Nat.le_refl _, rfl, by rw [undoTo_all, undoH_all]; exact unhide Hh, TK.refl _ _, Below.refl _ _⟩
  case round =>
    obtain ⟨k, hk, rfl, hR, htk, hbe⟩ := hrel
    cases k with
    | zero =>
      have HE := hide (end_any r b _ did left _ wr hR)
      clear hR c20
      have e0 : ((0 : Nat) : Int) - 1 = -1 := by omega
      rw [e0]
      go_wp2_with fail
      refine (unhide HE).mono ?_
      rintro e w1 ⟨rfl, hR1, htk1, hbe1⟩
      go_wp2_with fail
      go_end0
      exact ⟨rfl, hR1, htk.trans htk1, hbe.trans hbe1⟩
    | succ j =>
      have ej : ((j + 1 : Nat) : Int) - 1 = (j : Int) := by omega
      rw [ej]
      have hjl : j < did.length := by omega
      obtain ⟨p, hp⟩ : ∃ p, p = did[j] := ⟨_, rfl⟩
      have hst := undoTo_step l did j hjl
      have hst2 := undoH_step H did j hjl
      have hmj := unhide Hm j hjl
      rw [← hp] at hst hst2 hmj
      have Hst := hide hst
      have Hst2 := hide hst2
      have Hmj := hide hmj
      obtain ⟨g, v2, v3, hg, c2, c3, hdid, hleft, _⟩ := hR.c2
      rcases steps_of_owns hdid with ⟨_, h0⟩ | ⟨gd, cap, rfl, hgd, hs⟩
      · rw [h0] at hjl; simp at hjl
      have hsj := hs j hjl
      rw [← hp] at hsj
      obtain ⟨d0, d1, d2, d3, d4, d5, d6, d7, d8, d9⟩ := hsj
      have hjl' : (j : Int) < (did.length : Int) := by omega
      have HO := hide (opp_any p wr)
      have hlr := hR.lt
      have HR := hide hR
      have Hl2 := hide (unhide Hl (j + 1))
      clear hst hst2 hmj hs hdid hleft hR ej hp c20
      obtain ⟨pb, y⟩ := p
      simp only [stCells] at HO
      go_wp2_with fail
      refine (unhide HO).mono ?_
      rintro e w1 ⟨rfl, hb1⟩
      have hbn := below_new w1 (.cells #[.bool (!pb), .int .i64 y.kind, .string y.name, .string y.host, .int .i64 y.number, .int .i64 y.size, .string y.disk, .bool y.only, .int .i64 y.lun, .string y.text] 75)
      have hbb : Below wr.heap.size wr _ := hb1.trans (hbn.mono hb1.size)
      have hR2 := (unhide HR).later hbb
      have HD := hide (do_any r b _ did left (!pb, y) _ _ (unhide Hl2) (unhide Hmj) hR2)
      have htk2 : TK K1 w _ := htk.trans (TK.of_below hbb)
      have hbe2 : Below b w _ := hbe.trans (hbb.mono (show b ≤ wr.heap.size by omega))
      simp only [stCells] at HD
      clear HR hR2 hbb hbn d0 d1 d2 d3 d4 d5 d6 d7 d8 d9 c2 c3
      go_wp2_with fail
      refine (unhide HD).mono ?_
      rintro e w3 ⟨⟨rfl, hR3, htk3, hbe3⟩, _⟩
      go_wp2_with fail
      go_roundw
      case rel => exact ⟨j, by omega, rfl, by rw [unhide Hst, unhide Hst2]; exact hR3, htk2.trans htk3, hbe2.trans hbe3⟩
      case measure => simp [intOf]

end Go.Proofs.Ytdlhgbhaeedbdab

/- 'Rack.Start'. -/
namespace Go.Proofs.Ytdlhgbhaeedbdab
open Go.RowKit

theorem bytesWorld_below (w : World) (s : ByteArray) : Below w.heap.size w (Go.Lib.bytesWorld w 5 s) :=
  ⟨rfl, rfl, rfl, by rw [Go.Lib.bytesWorld_size]; omega, fun k hk => Go.Lib.bytesWorld_at_old w _ s k hk⟩

/-- A text, turned into bytes and back. -/
theorem conv_there (w : World) (s : ByteArray) : ∃ (cap : Nat) (wB : World), (convert 9 109 (.string s)).run Try.prog w = .ok (.slice (some ⟨w.heap.size, 0, none⟩) s.size cap) wB ∧
    (convert 109 9 (.slice (some ⟨w.heap.size, 0, none⟩) s.size cap)).run Try.prog wB = .ok (.string s) wB ∧ Below w.heap.size w wB := by
  refine ⟨_, _, Go.Lib.run_convert_string_bytes (P := Try.prog) w 9 109 5 s Try.underlying9 Try.underlying109 Try.underlying5, ?_, bytesWorld_below w s⟩
  have hl : s.data.toList.length = s.size := by rw [Array.length_toList]; rfl
  have := run_convert_bytes_back (P := Try.prog) (Go.Lib.bytesWorld w 5 s) 109 9 5 ⟨w.heap.size, 0, none⟩ (grownCap w s.size 0 5) s.data.toList Try.underlying109 Try.underlying5 Try.underlying9 (fun j hj => by
    rw [addr_add, Go.Lib.bytesWorld_cell w 5 s j (by omega), List.getD_eq_getElem?_getD, List.getElem?_eq_getElem hj, Option.getD_some])
  rw [hl] at this
  rw [this]

set_option maxRecDepth 100000 in
set_option maxHeartbeats 400000 in
theorem start_dead (r : Nat) (s : ByteArray) (w : World) (h : DeadAt w r) :
    Calls Try.prog 24 #[.pointer (some ⟨r, 0, none⟩), .string s] w fun e w' => e = .returned (.int .i64 7) ∧ w' = w := by
  have c4 := h.c4
  clear h
  go_enter Try.func24, Try.ntmps24
  go_wp2_with fail
  go_ret
  exact ⟨rfl, rfl⟩

set_option maxRecDepth 100000 in
set_option maxHeartbeats 400000 in
theorem fstart_busy (r b : Nat) (s : ByteArray) (l : List Item) (did left : List (Bool × Item)) (H : Hs) (w : World) (hb : 0 < left.length) (h : RackF w r b l did left H) :
    Calls Try.prog 24 #[.pointer (some ⟨r, 0, none⟩), .string s] w fun e w' => e = .returned (.int .i64 8) ∧ w' = w := by
  have c4 := h.c4
  obtain ⟨g, v2, v3, _, _, c3, _, hleft, _⟩ := h.c2
  rcases hleft with ⟨h0, _⟩ | ⟨_, o, cap, rfl, _, _, _⟩
  · rw [h0] at hb; simp at hb
  have hb' : (0 : Int) < (left.length : Int) := by omega
  clear h
  go_enter Try.func24, Try.ntmps24
  go_wp2_with fail
  go_ret
  exact ⟨rfl, rfl⟩

set_option maxRecDepth 100000 in
set_option maxHeartbeats 400000 in
theorem fstart_bad (r b : Nat) (s : ByteArray) (l : List Item) (H : Hs) (w : World) (hs : s.size ≤ maxLen) (h0 : (chk s).1 ≠ 0) (h : RackF w r b l [] [] H) :
    Calls Try.prog 24 #[.pointer (some ⟨r, 0, none⟩), .string s] w fun e w' => e = .returned (.int .i64 ((chk s).1 : Nat)) ∧ Below w.heap.size w w' := by
  have c4 := h.c4
  obtain ⟨g, v2, v3, _, _, c3, _, hleft, _⟩ := h.c2
  rcases hleft with ⟨_, a, cap, rfl⟩ | ⟨hb, _⟩
  · obtain ⟨cp, wB, hc1, hc2, hbB⟩ := conv_there w s
    have hp := parse_any s wB hs
    have h0' : ((((chk s).1 : Nat) : Int) != 0) = true := by rw [bne_iff_ne]; omega
    generalize (chk s).1 = c at *
    have HP := hide hp
    clear hp h0 h
    go_enter Try.func24, Try.ntmps24
    go_wp2_with fail
    refine (unhide HP).mono ?_
    rintro e w1 ⟨v, rfl, _, hb1⟩
    go_wp2_with fail
    go_ret
    exact ⟨rfl, hbB.trans (hb1.mono hbB.size)⟩
  · simp at hb

/-- A plan is begun. -/
theorem RackF.begun {w : World} {r b : Nat} {l : List Item} {H : Hs} (h : RackF w r b l [] [] H) {v : Value} {P : List (Bool × Item)} {base : Nat} (hb : b < base) (ho : w.ownsRow base 75 10 v P.length (stsCells P)) : RackF (w.setCell ⟨r, 6, none⟩ v) r b l [] P H := by
  have hk := h.setTK 6 v
  obtain ⟨hty, c0, ⟨v1, c1, hrow⟩, ⟨g, v2, v3, hg, c2, c3, hdid, hleft, hn⟩, c4, fz, lt, br, hs'⟩ := h
  have hv2 := hn rfl
  subst hv2
  have ho2 := hk.row ne_step ho
  have hst := steps_of_owns ho2
  obtain ⟨_, ⟨rfl, h0⟩ | ⟨gp, cap, cur, rfl, hbp, hgp, hcap, _⟩⟩ := id ho2
  · have hP : P = [] := List.length_eq_zero_iff.1 h0
    subst hP
    exact ⟨ty_set hty _, cell_set_ne c0 (by omega), ⟨v1, cell_set_ne c1 (by omega), hk.row ne_item hrow⟩, ⟨g, _, _, hg, cell_set_ne c2 (by omega), by go_simp, hk.row ne_step hdid, .inl ⟨rfl, none, 0, rfl⟩, fun _ => rfl⟩, cell_set_ne c4 (by omega), fun o => by simp [fz o], by simpa [World.setCell] using lt, br, hs'.set hty (by omega) _⟩
  · have hL : LeftAt (w.setCell ⟨r, 6, none⟩ (.slice (some ⟨gp, 0, none⟩) P.length cap)) gp (.slice (some ⟨gp, 0, none⟩) P.length cap) P := by
      by_cases hP : P.length = 0
      · exact .inl ⟨List.length_eq_zero_iff.1 hP, some ⟨gp, 0, none⟩, cap, by rw [hP]⟩
      · refine .inr ⟨by omega, 0, cap, rfl, hcap, ⟨cur, (0, 0), hgp⟩, fun i hi => ?_⟩
        rcases hst with ⟨h1, _⟩ | ⟨g', cap', h1, _, hs⟩
        · cases h1
        · simp only [Value.slice.injEq, Option.some.injEq, Addr.mk.injEq] at h1
          have e := h1.1.1
          subst e
          have := hs i hi
          rwa [Nat.zero_add]
    exact ⟨ty_set hty _, cell_set_ne c0 (by omega), ⟨v1, cell_set_ne c1 (by omega), hk.row ne_item hrow⟩, ⟨gp, _, _, by omega, cell_set_ne c2 (by omega), by go_simp, World.ownsRow_nil _ _ _ _, hL, fun _ => rfl⟩, cell_set_ne c4 (by omega), fun o => by simp [fz o], by simpa [World.setCell] using lt, br, hs'.set hty (by omega) _⟩

/-- What Start leaves. -/
def FStartEnd (r b : Nat) (l : List Item) (P : List (Bool × Item)) (H : Hs) (w : World) (e : Ending) (w' : World) : Prop :=
  e = .returned (.int .i64 0) ∧ RackF w' r b l [] P H ∧ TK K1 w w' ∧ Below b w w'

set_option maxRecDepth 100000 in
set_option maxHeartbeats 400000 in
theorem fstart_ok (r b : Nat) (s : ByteArray) (l : List Item) (H : Hs) (w : World) (hs : s.size ≤ maxLen) (hl : l.length ≤ 24) (h0 : (chk s).1 = 0) (h : RackF w r b l [] [] H) :
    Calls Try.prog 24 #[.pointer (some ⟨r, 0, none⟩), .string s] w fun e w' => FStartEnd r b l (mk l (itemsOf s)) H w e w' := by
  have c4 := h.c4
  have hbr := h.br
  have hlr := h.lt
  obtain ⟨v1, c1, hrow⟩ := h.c1
  obtain ⟨g, v2, v3, _, _, c3, _, hleft, _⟩ := h.c2
  rcases hleft with ⟨_, a, cap, rfl⟩ | ⟨hb, _⟩
  · obtain ⟨cp, wB, hc1, hc2, hbB⟩ := conv_there w s
    have hp := parse_any s wB hs
    rw [h0] at hp
    have hf := fits_of_chk h0
    have c1B := (hbB.cell (p := ⟨r, 1, none⟩) hlr).trans c1
    have HP := hide hp
    have HR := hide (h.later hbB)
    have Hrow := hide (owns_later hrow hbB)
    generalize itemsOf s = t at *
    have hrow0 := hrow
    clear hp h0 h hrow
    go_enter Try.func24, Try.ntmps24
    go_wp2_with fail
    refine (unhide HP).mono ?_
    rintro e w1 ⟨v, rfl, hown, hb1⟩
    replace hown := hown trivial
    have hs1 := hb1.size
    have hsB := hbB.size
    have c11 := (hb1.cell (p := ⟨r, 1, none⟩) (show r < wB.heap.size by omega)).trans c1B
    have c31 := ((hbB.trans (hb1.mono hsB)).cell (p := ⟨r, 6, none⟩) hlr).trans c3
    have hR1 := (unhide HR).later hb1
    have hfz1 := hR1.fz
    have HM := hide (make_at v1 v l t w1 hl hf.1 (items_of_owns (owns_later (unhide Hrow) hb1)) (items_of_owns hown))
    have HR1 := hide hR1
    clear hown hR1 HR Hrow HP
    obtain ⟨va, vc, rfl⟩ : ∃ a c, v1 = .slice a l.length c := slice_of_owns hrow0
    go_wp2_with fail
    refine (unhide HM).mono ?_
    rintro e w2 ⟨vm, rfl, hown2, hb2⟩
    have c32 := (hb2.cell (p := ⟨r, 6, none⟩) (show r < w1.heap.size by omega)).trans c31
    have hfz2 : ∀ o, w2.frozen? ⟨r, o, none⟩ = false := fun o => (hb2.frozen (p := ⟨r, o, none⟩) (show r < w1.heap.size by omega)).trans (hfz1 o)
    have hR2 := (unhide HR1).later hb2
    have hRn := hR2.begun (base := w1.heap.size) (by omega) hown2
    have hbw2 : Below w.heap.size w w2 := (hbB.trans (hb1.mono hsB)).trans (hb2.mono (by omega))
    have htk : TK K1 w _ := (TK.of_below hbw2).trans (tk_kt (hR2.setTK 6 vm))
    have hbe : Below b w _ := (hbw2.mono (show b ≤ w.heap.size by omega)).setCell (p := ⟨r, 6, none⟩) (by simp; omega) vm
    obtain ⟨ma, mc, rfl⟩ := slice_of_owns hown2
    have HRn := hide hRn
    clear hown2 HM HR1 hR2 hRn
    go_wp2_with fail
    go_ret
    exact ⟨rfl, unhide HRn, htk, hbe⟩
  · simp at hb

end Go.Proofs.Ytdlhgbhaeedbdab

/- 'Rack.finish'. -/
namespace Go.Proofs.Ytdlhgbhaeedbdab
open Go.RowKit

theorem nh_at : NH AT := ⟨by unfold AT; decide, by unfold AT; decide, by unfold AT; decide, by unfold AT; decide⟩

/-- What finish leaves: the arrangement lasts, and no plan is under way; or the power has gone. -/
def FFinEnd (r b : Nat) (S : Nat → UInt8) (l : List Item) (H : Hs) (lf : Int) (w : World) (w' : World) (c : Nat) : Prop :=
  ∃ S' E' U' l' d', ApiAt w' b S' E' U' l' d' ∧ l' ≤ 9223372036854775807 ∧ Below b w w' ∧ TK KT w w' ∧ (lf < 0 → l' = lf ∧ d' = false) ∧ U'.length ≤ 13 ∧ (∀ x ∈ U', x.sec < 64 ∧ x.data.size = 32) ∧
    ((d' = true ∧ c = 7 ∧ DeadAt w' r ∧ ∀ keep, held (updB keep S' U' U'.length) = held S ∨ held (updB keep S' U' U'.length) = prI l) ∨
     (d' = false ∧ c = 0 ∧ RackF w' r b l [] [] H ∧ U' = [] ∧ E' = S' ∧ held S' = prI l))

/-- A rack that has met it. -/
theorem dead_new {w : World} {r : Nat} (hty : ∃ cs fr, w.heap[r]? = some (Obj.cells cs 94 fr)) (hlt : r < w.heap.size) (c4 : w.cell? ⟨r, 7, none⟩ = some (.bool false)) (u0 u1 u2 u3 u4 u5 u6 : Value) :
    DeadAt ((((((((w.setCell ⟨r, 0, none⟩ u0).setCell ⟨r, 1, none⟩ u1).setCell ⟨r, 2, none⟩ u2).setCell ⟨r, 3, none⟩ u3).setCell ⟨r, 4, none⟩ u4).setCell ⟨r, 5, none⟩ u5).setCell ⟨r, 6, none⟩ u6).setCell ⟨r, 7, none⟩ (.bool true)) r :=
  ⟨(ty_set (ty_set (ty_set (ty_set (ty_set (ty_set (ty_set (ty_set hty _) _) _) _) _) _) _) _), by
    have c4' := (cell_set_ne (u := u6) (o' := 6) (cell_set_ne (u := u5) (o' := 5) (cell_set_ne (u := u4) (o' := 4) (cell_set_ne (u := u3) (o' := 3) (cell_set_ne (u := u2) (o' := 2) (cell_set_ne (u := u1) (o' := 1) (cell_set_ne (u := u0) (o' := 0) c4 (by omega)) (by omega)) (by omega)) (by omega)) (by omega)) (by omega)) (by omega))
    go_simp, by simpa [World.setCell] using hlt⟩

theorem set8_tk {w : World} {r : Nat} (hty : ∃ cs fr, w.heap[r]? = some (Obj.cells cs 94 fr)) (u0 u1 u2 u3 u4 u5 u6 u7 : Value) :
    TK KT0 w ((((((((w.setCell ⟨r, 0, none⟩ u0).setCell ⟨r, 1, none⟩ u1).setCell ⟨r, 2, none⟩ u2).setCell ⟨r, 3, none⟩ u3).setCell ⟨r, 4, none⟩ u4).setCell ⟨r, 5, none⟩ u5).setCell ⟨r, 6, none⟩ u6).setCell ⟨r, 7, none⟩ u7) := by
  have key : ∀ (w : World) (o : Nat) (u : Value), (∃ cs fr, w.heap[r]? = some (Obj.cells cs 94 fr)) → TK KT0 w (w.setCell ⟨r, o, none⟩ u) := by
    rintro w o u ⟨cs, fr, h⟩
    exact TK.setCell (T := KT0) h (.inl (.inl rfl)) u
  have h1 := ty_set (o := 0) hty u0
  have h2 := ty_set (o := 1) h1 u1
  have h3 := ty_set (o := 2) h2 u2
  have h4 := ty_set (o := 3) h3 u3
  have h5 := ty_set (o := 4) h4 u4
  have h6 := ty_set (o := 5) h5 u5
  have h7 := ty_set (o := 6) h6 u6
  exact ((((((((key _ 0 u0 hty).trans (key _ 1 u1 h1)).trans (key _ 2 u2 h2)).trans (key _ 3 u3 h3)).trans (key _ 4 u4 h4)).trans (key _ 5 u5 h5)).trans (key _ 6 u6 h6)).trans (key _ 7 u7 h7))

theorem set8_below {w : World} {r b : Nat} (h : b ≤ r) (u0 u1 u2 u3 u4 u5 u6 u7 : Value) :
    Below b w ((((((((w.setCell ⟨r, 0, none⟩ u0).setCell ⟨r, 1, none⟩ u1).setCell ⟨r, 2, none⟩ u2).setCell ⟨r, 3, none⟩ u3).setCell ⟨r, 4, none⟩ u4).setCell ⟨r, 5, none⟩ u5).setCell ⟨r, 6, none⟩ u6).setCell ⟨r, 7, none⟩ u7) :=
  (((((((((Below.refl b w).setCell (p := ⟨r, 0, none⟩) h u0).setCell (p := ⟨r, 1, none⟩) h u1).setCell (p := ⟨r, 2, none⟩) h u2).setCell (p := ⟨r, 3, none⟩) h u3).setCell (p := ⟨r, 4, none⟩) h u4).setCell (p := ⟨r, 5, none⟩) h u5).setCell (p := ⟨r, 6, none⟩) h u6).setCell (p := ⟨r, 7, none⟩) h u7)

set_option maxRecDepth 100000 in
set_option maxHeartbeats 400000 in
theorem ffinish_any (r b : Nat) (S : Nat → UInt8) (l : List Item) (did left : List (Bool × Item)) (H : Hs) (lf : Int) (w : World) (hl : Fits l) (ht : (prI l).size ≤ 400) (hz : ∀ c ∈ (prI l).data.toList, c ≠ 0) (hlf : lf ≤ 9223372036854775807) (h : RackF w r b l did left H) (ha : ApiAt w b S S [] lf false) :
    Calls Try.prog 51 #[.pointer (some ⟨r, 0, none⟩)] w fun e w' => ∃ c : Nat, e = .returned (.int .i64 c) ∧ FFinEnd r b S l H lf w w' c := by
  have c0 := h.c0
  have hbr := h.br
  have hlr := h.lt
  obtain ⟨v1, c1, hrow⟩ := h.c1
  obtain ⟨g, v2, v3, _, c2, c3, _, _, _⟩ := h.c2
  have HP := hide (printAt v1 l w hl (items_of_owns hrow))
  have HS := hide fun (wx : World) (hx : ApiAt wx b S S [] lf false) => save_any b S (prI l) lf wx ht hz hlf hx
  have HR := hide h
  generalize hT : prI l = T at *
  have HT := hide hT
  clear h hrow hT
  go_enter Try.func51, Try.ntmps51
  go_wp2_with fail
  refine (unhide HP).mono ?_
  rintro e w1 ⟨rfl, hb1⟩
  have c01 := (hb1.cell (p := ⟨r, 0, none⟩) hlr).trans c0
  have hs1 := hb1.size
  have HR1 := hide ((unhide HR).later hb1)
  go_wp2_with fail
  refine (unhide HS w1 (ha.later hb1)).mono ?_
  rintro e w2 ⟨S', E', U', l', d', ha2, hl2, hbe2, htk2, hlow2, hU1, hU2, hcase⟩
  have hR2 := (unhide HR1).keep htk2 not_atRack not_atItem not_atStep nh_at
  have hbe02 : Below b w w2 := (hb1.mono (show b ≤ w.heap.size by omega)).trans hbe2
  have htk02 : TK KT w w2 := (TK.of_below hb1).trans (tk_at htk2)
  rcases hcase with ⟨rfl, rfl, hk⟩ | ⟨rfl, rfl, rfl, rfl, hh⟩
  · obtain ⟨c20', ⟨x1, c21'⟩, ⟨x2, c22'⟩, ⟨x3, c23'⟩, c24', ⟨x5, c25'⟩, ⟨x6, c26'⟩, c27'⟩ : w2.cell? ⟨r, 0, none⟩ = some (.pointer (some ⟨b, 0, none⟩)) ∧ (∃ v, w2.cell? ⟨r, 1, none⟩ = some v) ∧ (∃ v, w2.cell? ⟨r, 2, none⟩ = some v) ∧ (∃ v, w2.cell? ⟨r, 3, none⟩ = some v) ∧ w2.cell? ⟨r, 4, none⟩ = some (.int .i64 H.next) ∧ (∃ v, w2.cell? ⟨r, 5, none⟩ = some v) ∧ (∃ v, w2.cell? ⟨r, 6, none⟩ = some v) ∧ w2.cell? ⟨r, 7, none⟩ = some (.bool false) := by
      obtain ⟨v, h1, _⟩ := hR2.c1
      obtain ⟨_, v2, v3, _, h2, h3, _⟩ := hR2.c2
      obtain ⟨⟨v4, _, h4, _⟩, ⟨v5, h5, _⟩, h6⟩ := hR2.hs
      exact ⟨hR2.c0, ⟨v, h1⟩, ⟨v4, h4⟩, ⟨v5, h5⟩, h6, ⟨v2, h2⟩, ⟨v3, h3⟩, hR2.c4⟩
    have hfz2 := hR2.fz
    have hlt2 := hR2.lt
    have hD := dead_new hR2.ty hR2.lt hR2.c4 (.pointer none) (.slice none 0 0) (.slice none 0 0) (.slice none 0 0) (.int .i64 0) (.slice none 0 0) (.slice none 0 0)
    have ht5 := set8_tk hR2.ty (.pointer none) (.slice none 0 0) (.slice none 0 0) (.slice none 0 0) (.int .i64 0) (.slice none 0 0) (.slice none 0 0) (.bool true)
    have hb5 := set8_below (w := w2) (Nat.le_of_lt hbr) (.pointer none) (.slice none 0 0) (.slice none 0 0) (.slice none 0 0) (.int .i64 0) (.slice none 0 0) (.slice none 0 0) (.bool true)
    have ha5 := ha2.keep ht5 not_k0dev not_k0late
    have HD := hide hD
    clear HR HR1 hR2 hD
    go_wp2_with fail
    go_ret
    exact ⟨7, rfl, _, _, _, _, _, ha5, hl2, hbe02.trans hb5, htk02.trans (tk_up ht5), hlow2, hU1, hU2, .inl ⟨rfl, rfl, unhide HD, fun keep => by rw [unhide HT]; exact hk keep⟩⟩
  · have HE := hide (end_any r b l did left H w2 hR2)
    clear HR HR1 hR2
    go_wp2_with fail
    refine (unhide HE).mono ?_
    rintro e w3 ⟨rfl, hR3, htk3, hbe3⟩
    have ha3 := ha2.keep (tk_10 htk3) not_k0dev not_k0late
    have htk03 := htk02.trans (tk_up (tk_10 htk3))
    have hbe03 := hbe02.trans hbe3
    have hh' := hh.trans (unhide HT).symm
    go_wp2_with fail
    go_ret
    exact ⟨0, rfl, _, _, _, _, _, ha3, hl2, hbe03, htk03, fun h0 => ⟨(hlow2 h0).1, rfl⟩, by simp, by simp, .inr ⟨rfl, rfl, hR3, rfl, rfl, hh'⟩⟩

end Go.Proofs.Ytdlhgbhaeedbdab

/- 'Rack.Step', 'Rack.Stop'. -/
namespace Go.Proofs.Ytdlhgbhaeedbdab
open Go.RowKit

set_option maxRecDepth 100000 in
set_option maxHeartbeats 400000 in
theorem step_dead (r : Nat) (f : Bool) (w : World) (h : DeadAt w r) :
    Calls Try.prog 26 #[.pointer (some ⟨r, 0, none⟩), .bool f] w fun e w' => e = .returned (.tuple #[.int .i64 0, .int .i64 7]) ∧ w' = w := by
  have c4 := h.c4
  clear h
  go_enter Try.func26, Try.ntmps26
  go_wp2_with fail
  go_ret2
  exact ⟨rfl, rfl⟩

set_option maxRecDepth 100000 in
set_option maxHeartbeats 400000 in
theorem stop_dead (r : Nat) (w : World) (h : DeadAt w r) :
    Calls Try.prog 32 #[.pointer (some ⟨r, 0, none⟩)] w fun e w' => e = .returned (.int .i64 7) ∧ w' = w := by
  have c4 := h.c4
  clear h
  go_enter Try.func32, Try.ntmps32
  go_wp2_with fail
  go_ret
  exact ⟨rfl, rfl⟩

theorem RackF.idle {w : World} {r b : Nat} {l : List Item} {did : List (Bool × Item)} {H : Hs} (h : RackF w r b l did [] H) : ∃ a cap, w.cell? ⟨r, 6, none⟩ = some (.slice a 0 cap) := by
  obtain ⟨g, v2, v3, _, _, c3, _, hleft, _⟩ := h.c2
  rcases hleft with ⟨_, a, cap, rfl⟩ | ⟨hb, _⟩
  · exact ⟨a, cap, c3⟩
  · simp at hb

theorem RackF.busy {w : World} {r b : Nat} {l : List Item} {did left : List (Bool × Item)} {H : Hs} (h : RackF w r b l did left H) (hb : 0 < left.length) : ∃ g o cap, w.cell? ⟨r, 6, none⟩ = some (.slice (some ⟨g, o, none⟩) left.length cap) ∧ left.length ≤ cap ∧ ∀ i (h : i < left.length), StAt w g (o + i * 10) left[i] := by
  obtain ⟨g, v2, v3, _, _, c3, _, hleft, _⟩ := h.c2
  rcases hleft with ⟨h0, _⟩ | ⟨_, o, cap, rfl, h1, _, h2⟩
  · rw [h0] at hb; simp at hb
  · exact ⟨g, o, cap, c3, h1, h2⟩

set_option maxRecDepth 100000 in
set_option maxHeartbeats 400000 in
theorem fstep_idle (r b : Nat) (f : Bool) (l : List Item) (did : List (Bool × Item)) (H : Hs) (w : World) (h : RackF w r b l did [] H) :
    Calls Try.prog 26 #[.pointer (some ⟨r, 0, none⟩), .bool f] w fun e w' => e = .returned (.tuple #[.int .i64 0, .int .i64 9]) ∧ w' = w := by
  have c4 := h.c4
  obtain ⟨a, cap, c3⟩ := h.idle
  clear h
  go_enter Try.func26, Try.ntmps26
  go_wp2_with fail
  go_ret2
  exact ⟨rfl, rfl⟩

set_option maxRecDepth 100000 in
set_option maxHeartbeats 400000 in
theorem fstop_idle (r b : Nat) (l : List Item) (did : List (Bool × Item)) (H : Hs) (w : World) (h : RackF w r b l did [] H) :
    Calls Try.prog 32 #[.pointer (some ⟨r, 0, none⟩)] w fun e w' => e = .returned (.int .i64 9) ∧ w' = w := by
  have c4 := h.c4
  obtain ⟨a, cap, c3⟩ := h.idle
  clear h
  go_enter Try.func32, Try.ntmps32
  go_wp2_with fail
  go_ret
  exact ⟨rfl, rfl⟩

/-- What a plan that is undone leaves. -/
def FBackEnd (r b : Nat) (l : List Item) (did : List (Bool × Item)) (H : Hs) (w : World) (w' : World) : Prop :=
  RackF w' r b (undoTo l did 0) [] [] (undoH H did 0) ∧ TK K1 w w' ∧ Below b w w'

set_option maxRecDepth 100000 in
set_option maxHeartbeats 400000 in
theorem fstep_fail (r b : Nat) (l : List Item) (did left : List (Bool × Item)) (H : Hs) (w : World) (hn : 0 < left.length) (hd : did.length ≤ 48) (hl : ∀ k, (undoTo l did k).length ≤ 24) (hm : ∀ k (hk : k < did.length), Mild (undoH H did (k + 1)) (!did[k].1, did[k].2)) (h : RackF w r b l did left H) :
    Calls Try.prog 26 #[.pointer (some ⟨r, 0, none⟩), .bool true] w fun e w' => e = .returned (.tuple #[.int .i64 0, .int .i64 5]) ∧ FBackEnd r b l did H w w' := by
  have c4 := h.c4
  obtain ⟨g, o, cap, c3, _, _⟩ := h.busy hn
  have hn' : ((left.length : Int) == 0) = false := by rw [beq_eq_false_iff_ne]; omega
  have HU := hide (undo_any r b l did left H w hd hl hm h)
  clear h hl hm
  go_enter Try.func26, Try.ntmps26
  go_wp2_with fail
  refine (unhide HU).mono ?_
  rintro e w1 ⟨rfl, hR, htk, hbe⟩
  go_wp2_with fail
  go_ret2
  exact ⟨rfl, hR, htk, hbe⟩

set_option maxRecDepth 100000 in
set_option maxHeartbeats 400000 in
theorem fstop_busy (r b : Nat) (l : List Item) (did left : List (Bool × Item)) (H : Hs) (w : World) (hn : 0 < left.length) (hd : did.length ≤ 48) (hl : ∀ k, (undoTo l did k).length ≤ 24) (hm : ∀ k (hk : k < did.length), Mild (undoH H did (k + 1)) (!did[k].1, did[k].2)) (h : RackF w r b l did left H) :
    Calls Try.prog 32 #[.pointer (some ⟨r, 0, none⟩)] w fun e w' => e = .returned (.int .i64 0) ∧ FBackEnd r b l did H w w' := by
  have c4 := h.c4
  obtain ⟨g, o, cap, c3, _, _⟩ := h.busy hn
  have hn' : ((left.length : Int) == 0) = false := by rw [beq_eq_false_iff_ne]; omega
  have HU := hide (undo_any r b l did left H w hd hl hm h)
  clear h hl hm
  go_enter Try.func32, Try.ntmps32
  go_wp2_with fail
  refine (unhide HU).mono ?_
  rintro e w1 ⟨rfl, hR, htk, hbe⟩
  go_wp2_with fail
  go_ret
  exact ⟨rfl, hR, htk, hbe⟩

end Go.Proofs.Ytdlhgbhaeedbdab
