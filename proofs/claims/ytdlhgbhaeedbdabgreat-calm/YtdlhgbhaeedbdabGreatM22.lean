/- Ho9, Ho10. -/
import Derived.Test.YtdlhgbhaeedbdabGreatM21

/- 'Rack.Read', 'Rack.Write', 'Rack.Reserve', 'Rack.Release'. -/
namespace Go.Proofs.YtdlhgbhaeedbdabGreat
open Go.RowKit

/-- The types of what a host's call changes. -/
def KD (t : TypeId) : Prop := t = 172 ∨ t = 3

theorem kd_rack : ¬ KD 79 := by unfold KD; decide
theorem kd_item : ¬ KD 83 := by unfold KD; decide
theorem kd_step : ¬ KD 157 := by unfold KD; decide
theorem kd_ses : ¬ KD 113 := by unfold KD; decide

/-- The drives hold something else now. -/
theorem RackF.drove {w w' : World} {r b : Nat} {l : List Item} {did left : List (Bool × Item)} {H : Hs} (h : RackF w r b l did left H) (hk : TK KD w w') {v : Value} {B : List Bk} {D : List Drv} (hc : w.cell? ⟨r, 2, none⟩ = some v) (hB : BankAt w' (b + 1) v B) (hD : B.map Bk.d = D) (hO : BOut H.g.out v B) (hft : ∀ k, H.g.out k → w'.heap[k]? = w.heap[k]?) :
    RackF w' r b l did left { H with disks := D } := by
  obtain ⟨⟨cs, fr, hty⟩, c0, ⟨v1, c1, hrow⟩, ⟨g, v2, v3, hg, c2, c3, hdid, hleft, hn⟩, c4, fz, lt, br, hs⟩ := h
  obtain ⟨_, ⟨v3', c3', hS, hso⟩, c4', hG⟩ := hs
  have hb := hk.block r cs _ fr hty kd_rack
  have hcc : ∀ o, w'.cell? ⟨r, o, none⟩ = w.cell? ⟨r, o, none⟩ := fun o => World.cell?_of_block hb
  have hf : ∀ o, w'.frozen? ⟨r, o, none⟩ = w.frozen? ⟨r, o, none⟩ := fun o => World.frozen?_of_block hb
  exact ⟨⟨cs, fr, hb.trans hty⟩, (hcc _).trans c0, ⟨v1, (hcc _).trans c1, hk.row kd_item hrow⟩, ⟨g, v2, v3, hg, (hcc _).trans c2, (hcc _).trans c3, hk.row kd_step hdid, hleft.block (fun ⟨cs', fr', ht'⟩ => hk.block g cs' _ fr' ht' kd_step), hn⟩, (hcc _).trans c4, fun o => (hf o).trans (fz o), Nat.lt_of_lt_of_le lt hk.size, br,
    ⟨⟨v, B, (hcc _).trans hc, hB, hD, hO⟩, ⟨v3', (hcc _).trans c3', hk.row kd_ses hS, hso⟩, (hcc _).trans c4', hG.foot hk.size hft⟩⟩

/-- What a host's call leaves. -/
def CallEnd (r b : Nat) (l : List Item) (did left : List (Bool × Item)) (v : Value) (B : List Bk) (H' : Hs) (x : Value) (w : World) (e : Ending) (w' : World) : Prop :=
  e = .returned x ∧ (∃ B', B'.map Bk.pv = B.map Bk.pv ∧ BankAt w' (b + 1) v B' ∧ B'.map Bk.d = H'.disks) ∧ RackF w' r b l did left H' ∧ TK KD w w' ∧ Below b w w' ∧ ∀ k, k < w.heap.size → (∀ q ∈ B, k ≠ q.p ∧ q.v.ownBlock ≠ some k) → w'.heap[k]? = w.heap[k]?

theorem RackF.bout {w : World} {r b : Nat} {l : List Item} {did left : List (Bool × Item)} {H : Hs} (h : RackF w r b l did left H) {v : Value} {B : List Bk} (hc : w.cell? ⟨r, 2, none⟩ = some v) (hB : BankAt w (b + 1) v B) : BOut H.g.out v B := by
  obtain ⟨v0, B0, c0, hB0, _, hO⟩ := h.hs.bank
  rw [hc] at c0
  simp only [Option.some.injEq] at c0
  subst c0
  exact hO.pv (hB0.inj hB)

theorem CallEnd.quiet {r b : Nat} {l : List Item} {did left : List (Bool × Item)} {v : Value} {B : List Bk} {H : Hs} {x : Value} {w w' : World} (h : RackF w r b l did left H) (hB : BankAt w (b + 1) v B) (hD : B.map Bk.d = H.disks) (hb : Below w.heap.size w w') : CallEnd r b l did left v B H x w (.returned x) w' :=
  ⟨rfl, ⟨B, rfl, hB.keep (T := fun _ => False) (TK.of_below hb) id id id, hD⟩, h.later hb, TK.of_below hb, hb.mono (by have := h.lt; have := h.br; omega), fun k hk _ => hb.block k hk⟩

theorem modify_d {B : List Bk} {i : Nat} (hi : i < B.length) {q : Bk} {f : Drv → Drv} (hq : q.d = f B[i].d) : (B.set i q).map Bk.d = (B.map Bk.d).modify i f := by
  apply List.ext_getElem
  · simp
  · intro j h1 h2
    by_cases e : i = j
    · subst e; simp [hq]
    · simp [e]

theorem set_pv {B : List Bk} {i : Nat} (hi : i < B.length) {q : Bk} (h1 : q.p = B[i].p) (h2 : q.v = B[i].v) : (B.set i q).map Bk.pv = B.map Bk.pv := by
  apply List.ext_getElem
  · simp
  · intro j h3 h4
    by_cases e : i = j
    · subst e; simp [Bk.pv, h1, h2]
    · simp [e]

/-- A call of a drive, at the end of a rack's call. -/
theorem CallEnd.of_drv {r b : Nat} {l : List Item} {did left : List (Bool × Item)} {v : Value} {B : List Bk} {H : Hs} {n : Int} {w w1 w2 : World} {i : Nat} {f : Drv → Drv} (h : RackF w r b l did left H) (hc : w.cell? ⟨r, 2, none⟩ = some v) (hB : BankAt w (b + 1) v B) (hD : B.map Bk.d = H.disks) (hb : Below w.heap.size w w1) (hi : i < B.length)
    (hE : DrvEnd (b + 1) v B i (f B[i].d) n w1 (.returned (.int .i64 n)) w2) : CallEnd r b l did left v B { H with disks := H.disks.modify i f } (.int .i64 n) w (.returned (.int .i64 n)) w2 := by
  obtain ⟨_, ⟨q, hq, ⟨_, hp, hv, hfr⟩, hB2⟩, htk, hbe⟩ := hE
  have hlt := h.lt
  have hbr := h.br
  have hD2 : (B.set i q).map Bk.d = H.disks.modify i f := by rw [modify_d hi hq, hD]
  have hc1 : w1.cell? ⟨r, 2, none⟩ = some v := (hb.cell (p := ⟨r, 2, none⟩) hlt).trans hc
  refine ⟨rfl, ⟨_, set_pv hi hp hv, hB2, hD2⟩, (h.later hb).drove htk hc1 hB2 hD2 ((h.bout hc hB).pv (set_pv hi hp hv)) (fun k hk => hfr k (by have := h.hs.gap.lt k hk; have := hb.size; omega) (by rw [hp]; exact fun e => ((h.bout hc hB).2 _ (List.getElem_mem hi)).1 (e ▸ hk)) (by rw [hv]; exact fun e => ((h.bout hc hB).2 _ (List.getElem_mem hi)).2 k e hk)), (TK.of_below hb).trans htk, (hb.mono (by omega)).trans (hbe.mono (by omega)), fun k hk hno => ?_⟩
  obtain ⟨h1, h2⟩ := hno B[i] (List.getElem_mem hi)
  rw [hfr k (by have := hb.size; omega) (by rw [hp]; exact h1) (by rw [hv]; exact h2)]
  exact hb.block k hk

/-- What Read tells. -/
def rdR (H : Hs) (l : List Item) (s n k : Int) : Int × Int :=
  match (seeO H l s n).2 with
  | none => (0, (seeO H l s n).1)
  | some (i, _) => match H.disks[i]? with | some d => rdD d s k | none => (0, 14)

theorem seeO_some {H : Hs} {l : List Item} {s n : Int} {i : Nat} {u : Bool} (h : (seeO H l s n).2 = some (i, u)) : i < H.disks.length := by
  unfold seeO at h
  repeat' split at h
  all_goals first | (cases h; done) | skip
  rename_i hf
  simp only [Option.some.injEq, Prod.mk.injEq] at h
  obtain ⟨rfl, _⟩ := h
  exact (List.findIdx?_eq_some_iff_getElem.1 hf).1

theorem seeO_none {H : Hs} {l : List Item} {s n : Int} (h : (seeO H l s n).2 = none) : (seeO H l s n).1 = 12 ∨ (seeO H l s n).1 = 14 := by
  unfold seeO at h ⊢
  repeat' split at h
  all_goals first | (cases h; done) | simp_all

set_option maxRecDepth 100000 in
set_option maxHeartbeats 400000 in
theorem rread_rack (r b : Nat) (l : List Item) (did left : List (Bool × Item)) (H : Hs) (s n k : Int) (v : Value) (B : List Bk) (w : World) (hl : l.length ≤ 24) (h8 : H.ses.length ≤ 8) (hB8 : B.length ≤ 1000) (hnew : noNews H) (h : RackF w r b l did left H) (hc2 : w.cell? ⟨r, 2, none⟩ = some v) (hB : BankAt w (b + 1) v B) (hBD : B.map Bk.d = H.disks) :
    Calls Tryz.prog 36 #[.pointer (some ⟨r, 0, none⟩), .int .i64 s, .int .i64 n, .int .i64 k] w fun e w' => CallEnd r b l did left v B H (.tuple #[.int .i64 (rdR H l s n k).1, .int .i64 (rdR H l s n k).2]) w e w' := by
  have HS := hide (see_any r b l did left H s n v B w hl h8 hB8 hnew h hc2 hB hBD)
  have HQ := hide fun (x : Value) (wx : World) hb => CallEnd.quiet (x := x) (w' := wx) h hB hBD hb
  have HB := hide fun (wx : World) (hb : Below w.heap.size w wx) => hB.keep (T := fun _ => False) (TK.of_below hb) id id id
  clear h hc2 hB
  unfold rdR
  cases ho : (seeO H l s n).2 with
  | none =>
    have he : (seeO H l s n).1 = 12 ∨ (seeO H l s n).1 = 14 := seeO_none ho
    unfold seeV at HS
    rw [ho] at HS
    generalize (seeO H l s n).1 = e at *
    have he' : (e != 0) = true := by rw [bne_iff_ne]; omega
    simp only at HS ⊢
    clear ho he
    go_enter Tryz.func36, Tryz.ntmps36
    go_wp2_with fail
    refine (unhide HS).mono ?_
    rintro e w1 ⟨rfl, hb1⟩
    go_wp2_with fail
    go_ret2
    exact unhide HQ _ _ hb1
  | some iu =>
    obtain ⟨i, u⟩ := iu
    have hi := seeO_some ho
    have hiB : i < B.length := by rw [← hBD, List.length_map] at hi; exact hi
    have hdi : H.disks[i]? = some B[i].d := by rw [← hBD]; simp [hiB]
    unfold seeV at HS
    rw [ho] at HS
    simp only [ptrV, hiB, List.getElem?_eq_getElem, Bk.ptr, hdi] at HS ⊢
    have HD := hide fun (wx : World) hb => dread_any (b + 1) B[i] s k wx ((unhide HB wx hb).drv B[i] (List.getElem_mem hiB))
    generalize hq : B[i] = q at *
    clear ho hdi HB
    go_enter Tryz.func36, Tryz.ntmps36
    go_wp2_with fail
    refine (unhide HS).mono ?_
    rintro e w1 ⟨rfl, hb1⟩
    go_wp2_with fail
    refine (unhide HD w1 hb1).mono ?_
    rintro e w2 ⟨rfl, rfl⟩
    go_wp2_with fail
    go_ret2
    exact unhide HQ _ _ hb1

/-- What Write tells, and what it leaves. -/
def wrR (H : Hs) (l : List Item) (s n k x : Int) : Int :=
  match (seeO H l s n).2 with
  | none => (seeO H l s n).1
  | some (i, u) => if u then 15 else match H.disks[i]? with | some d => wrD d s k x | none => 14
def wrH (H : Hs) (l : List Item) (s n k x : Int) : Hs :=
  match (seeO H l s n).2 with
  | none => H
  | some (i, u) => if u then H else { H with disks := H.disks.modify i fun d => wrN d s k x }

set_option maxRecDepth 100000 in
set_option maxHeartbeats 400000 in
theorem rwrite_rack (r b : Nat) (l : List Item) (did left : List (Bool × Item)) (H : Hs) (s n k x : Int) (v : Value) (B : List Bk) (w : World) (hl : l.length ≤ 24) (h8 : H.ses.length ≤ 8) (hB8 : B.length ≤ 1000) (hnew : noNews H) (h : RackF w r b l did left H) (hc2 : w.cell? ⟨r, 2, none⟩ = some v) (hB : BankAt w (b + 1) v B) (hBD : B.map Bk.d = H.disks) :
    Calls Tryz.prog 37 #[.pointer (some ⟨r, 0, none⟩), .int .i64 s, .int .i64 n, .int .i64 k, .int .i64 x] w fun e w' => CallEnd r b l did left v B (wrH H l s n k x) (.int .i64 (wrR H l s n k x)) w e w' := by
  have HS := hide (see_any r b l did left H s n v B w hl h8 hB8 hnew h hc2 hB hBD)
  have HQ := hide fun (x : Value) (wx : World) hb => CallEnd.quiet (x := x) (w' := wx) h hB hBD hb
  have HB := hide fun (wx : World) (hb : Below w.heap.size w wx) => hB.keep (T := fun _ => False) (TK.of_below hb) id id id
  have HE := hide fun (i : Nat) (f : Drv → Drv) (m : Int) (w1 w2 : World) hb hi hE => CallEnd.of_drv (i := i) (f := f) (n := m) (w1 := w1) (w2 := w2) h hc2 hB hBD hb hi hE
  clear h hc2 hB
  unfold wrR wrH
  cases ho : (seeO H l s n).2 with
  | none =>
    have he : (seeO H l s n).1 = 12 ∨ (seeO H l s n).1 = 14 := seeO_none ho
    unfold seeV at HS
    rw [ho] at HS
    generalize (seeO H l s n).1 = e at *
    have he' : (e != 0) = true := by rw [bne_iff_ne]; omega
    simp only at HS ⊢
    clear ho he
    go_enter Tryz.func37, Tryz.ntmps37
    go_wp2_with fail
    refine (unhide HS).mono ?_
    rintro e w1 ⟨rfl, hb1⟩
    go_wp2_with fail
    go_ret
    exact unhide HQ _ _ hb1
  | some iu =>
    obtain ⟨i, u⟩ := iu
    have hi := seeO_some ho
    have hiB : i < B.length := by rw [← hBD, List.length_map] at hi; exact hi
    have hdi : H.disks[i]? = some B[i].d := by rw [← hBD]; simp [hiB]
    unfold seeV at HS
    rw [ho] at HS
    simp only [ptrV, hiB, List.getElem?_eq_getElem, Bk.ptr, hdi] at HS ⊢
    have HD := hide fun (wx : World) hb => dwrite_any (b + 1) v B i hiB s k x wx (unhide HB wx hb)
    have HE2 := hide (unhide HE i (fun d => wrN d s k x) (wrD B[i].d s k x))
    generalize hp : B[i].p = p at *
    generalize wrD B[i].d s k x = m at *
    clear ho hdi HB HE
    cases u with
    | true =>
      simp only [if_true] at *
      go_enter Tryz.func37, Tryz.ntmps37
      go_wp2_with fail
      refine (unhide HS).mono ?_
      rintro e w1 ⟨rfl, hb1⟩
      go_wp2_with fail
      go_ret
      exact unhide HQ _ _ hb1
    | false =>
      simp only [Bool.false_eq_true, if_false] at *
      go_enter Tryz.func37, Tryz.ntmps37
      go_wp2_with fail
      refine (unhide HS).mono ?_
      rintro e w1 ⟨rfl, hb1⟩
      go_wp2_with fail
      refine (unhide HD w1 hb1).mono ?_
      rintro e w2 ⟨rfl, hE⟩
      have HF := hide (unhide HE2 w1 w2 hb1 hiB ⟨rfl, hE⟩)
      clear hE
      go_wp2_with fail
      go_ret
      exact unhide HF

/-- What Reserve and Release tell, and what they leave. -/
def rsR (H : Hs) (l : List Item) (s n : Int) : Int :=
  match (seeO H l s n).2 with
  | none => (seeO H l s n).1
  | some (i, _) => match H.disks[i]? with | some d => rsD d s | none => 14
def rsH (H : Hs) (l : List Item) (s n : Int) : Hs :=
  match (seeO H l s n).2 with
  | none => H
  | some (i, _) => { H with disks := H.disks.modify i fun d => rsN d s }
def rlH (H : Hs) (l : List Item) (s n : Int) : Hs :=
  match (seeO H l s n).2 with
  | none => H
  | some (i, _) => { H with disks := H.disks.modify i fun d => rlN d s }

set_option maxRecDepth 100000 in
set_option maxHeartbeats 400000 in
theorem rreserve_rack (r b : Nat) (l : List Item) (did left : List (Bool × Item)) (H : Hs) (s n : Int) (v : Value) (B : List Bk) (w : World) (hl : l.length ≤ 24) (h8 : H.ses.length ≤ 8) (hB8 : B.length ≤ 1000) (hnew : noNews H) (h : RackF w r b l did left H) (hc2 : w.cell? ⟨r, 2, none⟩ = some v) (hB : BankAt w (b + 1) v B) (hBD : B.map Bk.d = H.disks) :
    Calls Tryz.prog 38 #[.pointer (some ⟨r, 0, none⟩), .int .i64 s, .int .i64 n] w fun e w' => CallEnd r b l did left v B (rsH H l s n) (.int .i64 (rsR H l s n)) w e w' := by
  have HS := hide (see_any r b l did left H s n v B w hl h8 hB8 hnew h hc2 hB hBD)
  have HQ := hide fun (x : Value) (wx : World) hb => CallEnd.quiet (x := x) (w' := wx) h hB hBD hb
  have HB := hide fun (wx : World) (hb : Below w.heap.size w wx) => hB.keep (T := fun _ => False) (TK.of_below hb) id id id
  have HE := hide fun (i : Nat) (f : Drv → Drv) (m : Int) (w1 w2 : World) hb hi hE => CallEnd.of_drv (i := i) (f := f) (n := m) (w1 := w1) (w2 := w2) h hc2 hB hBD hb hi hE
  clear h hc2 hB
  unfold rsR rsH
  cases ho : (seeO H l s n).2 with
  | none =>
    have he : (seeO H l s n).1 = 12 ∨ (seeO H l s n).1 = 14 := seeO_none ho
    unfold seeV at HS
    rw [ho] at HS
    generalize (seeO H l s n).1 = e at *
    have he' : (e != 0) = true := by rw [bne_iff_ne]; omega
    simp only at HS ⊢
    clear ho he
    go_enter Tryz.func38, Tryz.ntmps38
    go_wp2_with fail
    refine (unhide HS).mono ?_
    rintro e w1 ⟨rfl, hb1⟩
    go_wp2_with fail
    go_ret
    exact unhide HQ _ _ hb1
  | some iu =>
    obtain ⟨i, u⟩ := iu
    have hi := seeO_some ho
    have hiB : i < B.length := by rw [← hBD, List.length_map] at hi; exact hi
    have hdi : H.disks[i]? = some B[i].d := by rw [← hBD]; simp [hiB]
    unfold seeV at HS
    rw [ho] at HS
    simp only [ptrV, hiB, List.getElem?_eq_getElem, Bk.ptr, hdi] at HS ⊢
    have HD := hide fun (wx : World) hb => dreserve_any (b + 1) v B i hiB s wx (unhide HB wx hb)
    have HE2 := hide (unhide HE i (fun d => rsN d s) (rsD B[i].d s))
    generalize hp : B[i].p = p at *
    generalize rsD B[i].d s = m at *
    clear ho hdi HB HE
    go_enter Tryz.func38, Tryz.ntmps38
    go_wp2_with fail
    refine (unhide HS).mono ?_
    rintro e w1 ⟨rfl, hb1⟩
    go_wp2_with fail
    refine (unhide HD w1 hb1).mono ?_
    rintro e w2 ⟨rfl, hE⟩
    have HF := hide (unhide HE2 w1 w2 hb1 hiB ⟨rfl, hE⟩)
    clear hE
    go_wp2_with fail
    go_ret
    exact unhide HF

set_option maxRecDepth 100000 in
set_option maxHeartbeats 400000 in
theorem rrelease_rack (r b : Nat) (l : List Item) (did left : List (Bool × Item)) (H : Hs) (s n : Int) (v : Value) (B : List Bk) (w : World) (hl : l.length ≤ 24) (h8 : H.ses.length ≤ 8) (hB8 : B.length ≤ 1000) (hnew : noNews H) (h : RackF w r b l did left H) (hc2 : w.cell? ⟨r, 2, none⟩ = some v) (hB : BankAt w (b + 1) v B) (hBD : B.map Bk.d = H.disks) :
    Calls Tryz.prog 39 #[.pointer (some ⟨r, 0, none⟩), .int .i64 s, .int .i64 n] w fun e w' => CallEnd r b l did left v B (rlH H l s n) (.int .i64 (rsR H l s n)) w e w' := by
  have HS := hide (see_any r b l did left H s n v B w hl h8 hB8 hnew h hc2 hB hBD)
  have HQ := hide fun (x : Value) (wx : World) hb => CallEnd.quiet (x := x) (w' := wx) h hB hBD hb
  have HB := hide fun (wx : World) (hb : Below w.heap.size w wx) => hB.keep (T := fun _ => False) (TK.of_below hb) id id id
  have HE := hide fun (i : Nat) (f : Drv → Drv) (m : Int) (w1 w2 : World) hb hi hE => CallEnd.of_drv (i := i) (f := f) (n := m) (w1 := w1) (w2 := w2) h hc2 hB hBD hb hi hE
  clear h hc2 hB
  unfold rsR rlH
  cases ho : (seeO H l s n).2 with
  | none =>
    have he : (seeO H l s n).1 = 12 ∨ (seeO H l s n).1 = 14 := seeO_none ho
    unfold seeV at HS
    rw [ho] at HS
    generalize (seeO H l s n).1 = e at *
    have he' : (e != 0) = true := by rw [bne_iff_ne]; omega
    simp only at HS ⊢
    clear ho he
    go_enter Tryz.func39, Tryz.ntmps39
    go_wp2_with fail
    refine (unhide HS).mono ?_
    rintro e w1 ⟨rfl, hb1⟩
    go_wp2_with fail
    go_ret
    exact unhide HQ _ _ hb1
  | some iu =>
    obtain ⟨i, u⟩ := iu
    have hi := seeO_some ho
    have hiB : i < B.length := by rw [← hBD, List.length_map] at hi; exact hi
    have hdi : H.disks[i]? = some B[i].d := by rw [← hBD]; simp [hiB]
    unfold seeV at HS
    rw [ho] at HS
    simp only [ptrV, hiB, List.getElem?_eq_getElem, Bk.ptr, hdi] at HS ⊢
    have HD := hide fun (wx : World) hb => drelease_any (b + 1) v B i hiB s wx (unhide HB wx hb)
    have HE2 := hide (unhide HE i (fun d => rlN d s) (rsD B[i].d s))
    generalize hp : B[i].p = p at *
    generalize rsD B[i].d s = m at *
    clear ho hdi HB HE
    go_enter Tryz.func39, Tryz.ntmps39
    go_wp2_with fail
    refine (unhide HS).mono ?_
    rintro e w1 ⟨rfl, hb1⟩
    go_wp2_with fail
    refine (unhide HD w1 hb1).mono ?_
    rintro e w2 ⟨rfl, hE⟩
    have HF := hide (unhide HE2 w1 w2 hb1 hiB ⟨rfl, hE⟩)
    clear hE
    go_wp2_with fail
    go_ret
    exact unhide HF

end Go.Proofs.YtdlhgbhaeedbdabGreat

/- 'Rack.List', 'Rack.Login', 'Rack.Logout'. -/
namespace Go.Proofs.YtdlhgbhaeedbdabGreat
open Go.RowKit

/-- Is it a map of the session's target and host? -/
def mapB (z : Ses) (x : Item) : Bool := decide (x.kind = 4 ∧ x.name = z.target ∧ x.host = z.host)
def numsOf (z : Ses) (l : List Item) : List Int := (l.filter (mapB z)).map (·.number)

/-- What List tells. -/
def lsR (H : Hs) (l : List Item) (s : Int) : List Int × Int :=
  match H.ses.find? (fun z => decide (z.number = s)) with
  | none => ([], 12)
  | some z => (numsOf z (sortTo l l.length), 0)

/-- What List leaves. -/
def ListEnd (N : List Int) (n : Int) (w : World) (e : Ending) (w' : World) : Prop :=
  ∃ v, e = .returned (.tuple #[v, .int .i64 n]) ∧ w'.ownsRow w.heap.size 3 1 v N.length (N.map (Value.int .i64)) ∧ Below w.heap.size w w'

theorem mapB_cases {z : Ses} {x : Item} (h : mapB z x = false) : (((x.kind : Nat) : Int) == 4) = false ∨ ((((x.kind : Nat) : Int) == 4) = true ∧ (x.name.toList == z.target.toList) = false) ∨ ((((x.kind : Nat) : Int) == 4) = true ∧ (x.name.toList == z.target.toList) = true ∧ (x.host.toList == z.host.toList) = false) := by
  by_cases h1 : x.kind = 4
  · by_cases h2 : x.name = z.target
    · right; right
      refine ⟨by rw [h1]; rfl, by rw [h2]; simp, ?_⟩
      rw [beq_eq_false_iff_ne]
      intro e
      have := tl_inj e
      simp [mapB, h1, h2, this] at h
    · right; left
      refine ⟨by rw [h1]; rfl, ?_⟩
      rw [beq_eq_false_iff_ne]
      exact fun e => h2 (tl_inj e)
  · left
    rw [beq_eq_false_iff_ne]
    omega

theorem mapB_true {z : Ses} {x : Item} (h : mapB z x = true) : (((x.kind : Nat) : Int) == 4) = true ∧ (x.name.toList == z.target.toList) = true ∧ (x.host.toList == z.host.toList) = true := by
  obtain ⟨h1, h2, h3⟩ : x.kind = 4 ∧ x.name = z.target ∧ x.host = z.host := by simpa [mapB] using h
  exact ⟨by rw [h1]; rfl, by rw [h2]; simp, by rw [h3]; simp⟩

set_option maxRecDepth 100000 in
set_option maxHeartbeats 800000 in
theorem rlist_any (r b : Nat) (l : List Item) (did left : List (Bool × Item)) (H : Hs) (s : Int) (w : World) (hl : l.length ≤ 24) (h8 : H.ses.length ≤ 8) (hnew : noNews H) (h : RackF w r b l did left H) :
    Calls Tryz.prog 35 #[.pointer (some ⟨r, 0, none⟩), .int .i64 s] w fun e w' => ListEnd (lsR H l s).1 (lsR H l s).2 w e w' := by
  have HM := hide (rmeet_any r b l did left H s w h8 hnew h)
  obtain ⟨vi, c1, hrow⟩ := h.c1
  have hlt := h.lt
  have HO := hide fun (wx : World) (hb : Below w.heap.size w wx) => inOrder_at vi l wx hl (items_of_owns (owns_later hrow hb))
  obtain ⟨va, vcap, rfl⟩ := slice_of_owns hrow
  obtain ⟨i0, hi, hz0, hz1, hz2⟩ := info_parts Tryz.infoInt
  clear h hrow
  unfold lsR
  rcases meetV_cases H.ses s with ⟨hf, hv⟩ | ⟨z, hf, hv⟩
  · rw [hf]
    rw [hv] at HM
    clear hf hv
    go_enter Tryz.func35, Tryz.ntmps35
    go_wp2_with fail
    refine (unhide HM).mono ?_
    rintro e w1 ⟨rfl, hb1⟩
    have hs1 := hb1.size
    go_wp2_with fail
    go_ret2
    exact ⟨_, rfl, World.ownsRow_nil _ _ _ _, hb1.alloc hs1 _⟩
  · rw [hf]
    rw [hv] at HM
    clear hf hv
    simp only
    go_enter Tryz.func35, Tryz.ntmps35
    go_wp2_with fail
    refine (unhide HM).mono ?_
    rintro e w1 ⟨rfl, hb1⟩
    have hs1 := hb1.size
    have c11 := (hb1.cell (p := ⟨r, 1, none⟩) hlt).trans c1
    have hlt1 : r < w1.heap.size := by omega
    have hbx := hb1.alloc hs1 (.cells #[.int .i64 z.number, .string z.target, .string z.host, .bool z.news] 113)
    have z1 : (w1.alloc (.cells #[.int .i64 z.number, .string z.target, .string z.host, .bool z.news] 113)).cell? ⟨w1.heap.size, 1, none⟩ = some (.string z.target) := by go_simp
    have z2 : (w1.alloc (.cells #[.int .i64 z.number, .string z.target, .string z.host, .bool z.news] 113)).cell? ⟨w1.heap.size, 2, none⟩ = some (.string z.host) := by go_simp
    have hsY : w1.heap.size < (w1.alloc (.cells #[.int .i64 z.number, .string z.target, .string z.host, .bool z.news] 113)).heap.size := by simp
    have HO2 := hide (unhide HO _ hbx)
    clear HM hb1 HO
    go_wp2_with fail
    generalize hY : w1.alloc (.cells #[.int .i64 z.number, .string z.target, .string z.host, .bool z.news] 113) = Y at *
    generalize hS1 : w1.heap.size = S at *
    refine (unhide HO2).mono ?_
    rintro e w2 ⟨rfl, hit, hb2⟩
    have hs2 := hb2.size
    have z1' := (hb2.cell (p := ⟨S, 1, none⟩) hsY).trans z1
    have z2' := (hb2.cell (p := ⟨S, 2, none⟩) hsY).trans z2
    have hsx := hbx.size
    have hbw2 : Below w.heap.size w w2 := hbx.trans (hb2.mono hsx)
    have hg2 := hit.1
    have hLl : (sortTo l l.length).length = l.length := sortTo_length l l.length (Nat.le_refl _)
    generalize hL : sortTo l l.length = L at *
    have HL := hide hL
    have hS2 : S < w2.heap.size := by omega
    clear HO2 c11 z1 z2 hY hS1 hL hb2
    go_wp2_with fail
    go_loopw [8, 10] (fun tv i wr => ∃ k : Nat, k ≤ L.length ∧ i = .int .i64 k ∧ wr.ownsRow w2.heap.size 3 1 tv (numsOf z (L.take k)).length ((numsOf z (L.take k)).map (Value.int .i64)) ∧ Below w2.heap.size w2 wr) (fun _ i _ => L.length - (intOf i).toNat)
    case atStart => exact ⟨0, Nat.zero_le _, rfl, World.ownsRow_nil _ _ _ _, Below.refl _ _⟩
    case round =>
      obtain ⟨k, hk, rfl, hown, hbe⟩ := hrel
      obtain ⟨ta, tc, rfl⟩ := slice_of_owns hown
      have hs := hbe.size
      by_cases hlt2 : k < L.length
      · obtain ⟨x, hx⟩ : ∃ x, x = L[k] := ⟨_, rfl⟩
        have hix := (hit.2 k hlt2).below hbe hg2
        rw [← hx] at hix
        obtain ⟨c0, c1, c2, c3, c4, c5, c6, c7, c8⟩ := hix
        have y1 := (hbe.cell (p := ⟨S, 1, none⟩) hS2).trans z1'
        have y2 := (hbe.cell (p := ⟨S, 2, none⟩) hS2).trans z2'
        have hlt' : (k : Int) < (l.length : Int) := by omega
        have hSr : S < wr.heap.size := by omega
        have hstep : numsOf z (L.take (k + 1)) = numsOf z (L.take k) ++ (if mapB z x then [x.number] else []) := by
          unfold numsOf
          rw [List.take_succ_eq_append_getElem hlt2, ← hx, List.filter_append, List.map_append]
          congr 1
          cases e : mapB z x with
          | true => rw [List.filter_cons_of_pos (by simpa using e)]; rfl
          | false => rw [List.filter_cons_of_neg (by simp [e])]; rfl
        have hbk := hbe.alloc hs (.cells #[.int .i64 x.kind, .string x.name, .string x.host, .int .i64 x.number] 81)
        cases hmb : mapB z x with
        | false =>
          rw [hmb, if_neg (by simp), List.append_nil] at hstep
          have Hst := hide hstep
          clear hstep hx
          rcases mapB_cases hmb with h1 | ⟨h1, h2⟩ | ⟨h1, h2, h3⟩
          all_goals
            clear hmb
            go_wp2
            go_roundw
            case rel => exact ⟨k + 1, by omega, by go_num, by rw [unhide Hst]; exact hown.alloc _, hbk⟩
            case measure => simp [intOf]; omega
        | true =>
          rw [hmb, if_pos rfl] at hstep
          have Hst := hide hstep
          obtain ⟨h1, h2, h3⟩ := mapB_true hmb
          have hlr : (numsOf z (L.take k)).length ≤ 24 := by
            unfold numsOf
            rw [List.length_map]
            exact Nat.le_trans (List.length_filter_le _ _) (by rw [List.length_take]; omega)
          clear hstep hx hmb
          generalize hT : numsOf z (L.take k) = T at *
          clear hT
          go_wp2_with (at_builtin; refine wpList_append_own _ rfl _ _ 45 rfl w2.heap.size 3 i0 (.int .i64 0) 1 8 Tryz.underlying45 hi hz0 hz1 hz2 rfl (by decide) (.slice ta T.length tc) T.length (T.map (Value.int .i64)) ?hs ?c0 ⟨wr.heap.size + 1, 0, none⟩ 1 1 [.int .i64 x.number] ?hx rfl ?c1 (one_int _) ?c3 ?c4 ?c5 ?_)
          case hs => rfl
          case c0 => exact (hown.alloc _).alloc _
          case hx => first | rfl | simp
          case c1 =>
            have hsk : (wr.alloc (.cells #[.int .i64 x.kind, .string x.name, .string x.host, .int .i64 x.number] 81)).heap.size = wr.heap.size + 1 := by simp
            have := cell_one_new (wr.alloc (.cells #[.int .i64 x.kind, .string x.name, .string x.host, .int .i64 x.number] 81)) (.int .i64 x.number) 3
            rw [hsk] at this
            exact this
          case c3 => unfold maxLen; omega
          case c4 => omega
          case c5 => simp; omega
          intro v' w3 hown' hgrow _
          have hba := hbk.alloc hbk.size (.cells #[.int .i64 x.number] 3)
          have hb3 : Below w2.heap.size w2 w3 := hba.grown hgrow (by have := hba.size; simp; omega) (fun k e => (hown.lt k e).1)
          clear hgrow
          go_wp2
          go_roundw
          case rel => exact ⟨k + 1, by omega, by go_num, by rw [unhide Hst, List.length_append, List.map_append]; exact hown', hb3⟩
          case measure => simp [intOf]; omega
      · have hkl : k = L.length := by omega
        have hall : L.take k = L := List.take_of_length_le (by omega)
        rw [hall] at hown ⊢
        have hnl : ¬ (k : Int) < (l.length : Int) := by omega
        have hbf : Below w.heap.size w wr := hbw2.trans (hbe.mono hbw2.size)
        have hof := owns_mono (base' := w.heap.size) hown hbw2.size
        clear hall hkl hown
        go_wp2
        go_ret2
        exact ⟨.slice ta (numsOf z L).length tc, rfl, by rw [unhide HL]; exact hof, hbf⟩

/-- The sessions are others now. -/
theorem RackF.sessed {w w' : World} {r b : Nat} {l : List Item} {did left : List (Bool × Item)} {H : Hs} (h : RackF w r b l did left H) (hk : TK KS w w') (hc : RCell r (fun o => o ≠ 3 ∧ o ≠ 4) w w') {S : List Ses} {n : Int} (hS : ∃ v, w'.cell? ⟨r, 3, none⟩ = some v ∧ SesRow w' (b + 1) v S ∧ ∀ k, v.ownBlock = some k → ¬ H.g.out k) (h4 : w'.cell? ⟨r, 4, none⟩ = some (.int .i64 n)) (hft : ∀ k, H.g.out k → w'.heap[k]? = w.heap[k]?) :
    RackF w' r b l did left { H with ses := S, next := n } := by
  obtain ⟨hty, c0, ⟨v1, c1, hrow⟩, ⟨g, v2, v3, hg, c2, c3, hdid, hleft, hn⟩, c4, fz, lt, br, hs⟩ := h
  obtain ⟨⟨vb, B, cb, hB, eB, hO⟩, _, _, hG⟩ := hs
  exact ⟨hc.ty hty, (hc.cell _ (by omega)).trans c0, ⟨v1, (hc.cell _ (by omega)).trans c1, hk.row (by unfold KS; decide) hrow⟩, ⟨g, v2, v3, hg, (hc.cell _ (by omega)).trans c2, (hc.cell _ (by omega)).trans c3, hk.row (by unfold KS; decide) hdid, hleft.block (fun ⟨cs', fr', ht'⟩ => hk.block g cs' _ fr' ht' (by unfold KS; decide)), hn⟩,
    (hc.cell _ (by omega)).trans c4, fun o => (hc.fz o).trans (fz o), Nat.lt_of_lt_of_le lt hk.size, br, ⟨⟨vb, B, (hc.cell _ (by omega)).trans cb, hB.keep hk (by unfold KS; decide) (by unfold KS; decide) (by unfold KS; decide), eB, hO⟩, hS, h4, hG.foot hk.size hft⟩⟩

/-- Is there such a host? -/
def hostB (l : List Item) (t h : ByteArray) : Bool := l.any (keyIs ⟨3, t, h, 0⟩)

/-- What Login leaves. -/
def LoginEnd (r b : Nat) (l : List Item) (did left : List (Bool × Item)) (H : Hs) (t h : ByteArray) (w : World) (e : Ending) (w' : World) : Prop :=
  e = .returned (.tuple #[.int .i64 H.next, .int .i64 0]) ∧ RackF w' r b l did left { H with ses := H.ses ++ [⟨H.next, t, h, false⟩], next := H.next + 1 } ∧ TK KS w w' ∧ Below b w w' ∧ RCell r (fun o => o ≠ 3 ∧ o ≠ 4) w w' ∧
    ∀ v, w.cell? ⟨r, 3, none⟩ = some v → ∀ k, k < w.heap.size → k ≠ r → v.ownBlock ≠ some k → w'.heap[k]? = w.heap[k]?

set_option maxRecDepth 100000 in
set_option maxHeartbeats 800000 in
theorem rlogin_no (r b : Nat) (l : List Item) (did left : List (Bool × Item)) (H : Hs) (t hh : ByteArray) (w : World) (hl : l.length ≤ 24) (hno : hostB l t hh = false) (h : RackF w r b l did left H) :
    Calls Tryz.prog 11 #[.pointer (some ⟨r, 0, none⟩), .string t, .string hh] w fun e w' => e = .returned (.tuple #[.int .i64 0, .int .i64 10]) ∧ Below w.heap.size w w' := by
  have hnot : ∀ (x : Bool) (w : World), (Op.unary .not (.bool x)).run Tryz.prog w = .ok (.bool (!x)) w := fun _ _ => rfl
  obtain ⟨vi, c1, hrow⟩ := h.c1
  have c7 := h.c4
  have HF := hide (find_at vi l ⟨3, t, hh, 0⟩ w hl (items_of_owns hrow))
  rw [findV_miss hno] at HF
  unfold zItem at HF
  obtain ⟨va, vcap, rfl⟩ := slice_of_owns hrow
  clear h hrow hno
  go_enter Tryz.func11, Tryz.ntmps11
  go_wp2_with fail
  refine (unhide HF).mono ?_
  rintro e w1 ⟨rfl, hb1⟩
  have hs1 := hb1.size
  go_wp2_with fail
  go_ret2
  exact ⟨rfl, hb1.alloc hs1 _⟩

set_option maxRecDepth 100000 in
set_option maxHeartbeats 800000 in
theorem rlogin_ok (r b : Nat) (l : List Item) (did left : List (Bool × Item)) (H : Hs) (t hh : ByteArray) (w : World) (hl : l.length ≤ 24) (h8 : H.ses.length < 8) (hn : -1000000 ≤ H.next ∧ H.next ≤ 1000000) (hyes : hostB l t hh = true) (h : RackF w r b l did left H) :
    Calls Tryz.prog 11 #[.pointer (some ⟨r, 0, none⟩), .string t, .string hh] w fun e w' => LoginEnd r b l did left H t hh w e w' := by
  have hnot : ∀ (x : Bool) (w : World), (Op.unary .not (.bool x)).run Tryz.prog w = .ok (.bool (!x)) w := fun _ _ => rfl
  obtain ⟨vi, c1, hrow⟩ := h.c1
  have c7 := h.c4
  have hlt := h.lt
  have hbr := h.br
  have HF := hide (find_at vi l ⟨3, t, hh, 0⟩ w hl (items_of_owns hrow))
  obtain ⟨m, hm⟩ : ∃ m, l.find? (keyIs ⟨3, t, hh, 0⟩) = some m := by
    have h1 : l.any (keyIs ⟨3, t, hh, 0⟩) = true := hyes
    rw [find_any_iff] at h1
    exact Option.isSome_iff_exists.1 h1
  have hk := List.find?_some hm
  have hk2 : m.name = t ∧ m.host = hh := by
    have : (m.kind : Int) = 3 ∧ m.name = t ∧ m.host = hh ∧ m.number = 0 := by simpa [keyIs] using hk
    exact ⟨this.2.1, this.2.2.1⟩
  rw [findV_hit hm] at HF
  have hd : m.cells = #[.int .i64 m.kind, .string m.name, .string m.host, .int .i64 m.number, .int .i64 m.size, .string m.disk, .bool m.only, .int .i64 m.lun, .string m.text] := rfl
  rw [hd, hk2.1, hk2.2] at HF
  have HB := hide fun (wx : World) (hb : Below w.heap.size w wx) => (show Calls Tryz.prog 29 #[.pointer (some ⟨r, 3, none⟩), .string t, .string hh] wx fun e w' => LoginEnd r b l did left H t hh w e w' from by
    have hR := h.later hb
    obtain ⟨v, c3, hS, hso⟩ := hR.hs.ses
    have c30 : w.cell? ⟨r, 3, none⟩ = some v := (hb.cell (p := ⟨r, 3, none⟩) hlt).symm.trans c3
    have hG := hR.hs.gap
    refine (begin_any r b t hh v H.ses H.next wx h8 hn hR.br hR.ty c3 hR.hs.next hR.fz hS).mono ?_
    rintro e w' ⟨rfl, ⟨v', c3', hS', hlie⟩, h4', htk, hbe, hrc, hft⟩
    refine ⟨rfl, hR.sessed htk hrc ⟨v', c3', hS', fun k e hk => ?_⟩ h4' (fun k hk => hft k (hG.lt k hk) (fun e => hG.own (e ▸ hk)) (fun e => hso k e hk)), (TK.of_below hb).trans htk, (hb.mono (by omega)).trans (hbe.mono (by omega)), (RCell.of_block (hb.block r hlt)).trans hrc, fun v0 e0 k hk hkr hkv => ?_⟩
    · rcases hlie k e with h1 | h1
      · exact hso k h1 hk
      · have := hG.lt k hk
        omega
    · rw [c30] at e0
      simp only [Option.some.injEq] at e0
      subst e0
      exact (hft k (Nat.lt_of_lt_of_le hk hb.size) hkr hkv).trans (hb.block k hk))
  obtain ⟨va, vcap, rfl⟩ := slice_of_owns hrow
  clear h hrow hyes hm hk hk2 hd
  go_enter Tryz.func11, Tryz.ntmps11
  go_wp2_with fail
  refine (unhide HF).mono ?_
  rintro e w1 ⟨rfl, hb1⟩
  have hs1 := hb1.size
  have hba := hb1.alloc hs1 (.cells #[.int .i64 m.kind, .string t, .string hh, .int .i64 m.number, .int .i64 m.size, .string m.disk, .bool m.only, .int .i64 m.lun, .string m.text] 83)
  clear HF hb1
  go_wp2_with fail
  go_region_with (go_at_call 29; refine (unhide HB _ hba.drew).mono ?_; rintro e w2 ⟨rfl, hE⟩)
  all_goals
    have HE : Hid (LoginEnd r b l did left H t hh w (.returned (.tuple #[.int .i64 H.next, .int .i64 0])) w2) := ⟨rfl, hE⟩
    clear hE
    go_wp2
    go_ret2
    exact unhide HE

/-- What Logout leaves. -/
def LogoutEnd (r b : Nat) (l : List Item) (did left : List (Bool × Item)) (H : Hs) (s : Int) (w w' : World) : Prop :=
  RackF w' r b l did left { H with disks := freeD H.disks s, ses := endS H.ses s } ∧ TK (fun t => KS t ∨ KD t) w w' ∧ Below b w w'

set_option maxRecDepth 100000 in
set_option maxHeartbeats 400000 in
theorem rend_any (r b : Nat) (l : List Item) (did left : List (Bool × Item)) (H : Hs) (s : Int) (w : World) (hg : H.g = gh0) (h8 : H.ses.length ≤ 8) (hD : H.disks.length ≤ 1000) (h : RackF w r b l did left H) :
    Calls Tryz.prog 158 #[.pointer (some ⟨r, 0, none⟩), .int .i64 s] w fun e w' => e = .returned (.tuple #[]) ∧ LogoutEnd r b l did left H s w w' := by
  obtain ⟨v, B, c2, hB, eB, _⟩ := h.hs.bank
  have hBl : B.length = H.disks.length := by rw [← eB, List.length_map]
  have hbr := h.br
  have HF := hide (free_any r (b + 1) s v B w (by omega) c2 h.ty hB)
  have HR := hide fun (w1 : World) (B' : List Bk) (hk : TK KD w w1) (hB' : BankAt w1 (b + 1) v B') (hd : B'.map Bk.d = freeD H.disks s) => h.drove hk c2 hB' hd (by rw [hg]; exact BOut.nil v B') (fun k hk => by rw [hg] at hk; exact hk.elim)
  rw [eB] at HF
  clear h hB c2 eB hBl
  go_enter Tryz.func158, Tryz.ntmps158
  go_wp2_with fail
  refine (unhide HF).mono ?_
  rintro e w1 ⟨rfl, ⟨B', hB', hd'⟩, htk1, hbe1⟩
  have hR1 := unhide HR w1 B' htk1 hB' hd'
  have hR1' := hR1
  obtain ⟨v3, c3, hS, _⟩ := hR1.hs.ses
  have HE := hide (tend_any r b s v3 H.ses w1 (by omega) hbr hR1.ty c3 (hR1.fz 3) hS)
  have HR1 := hide hR1
  clear HF HR hR1 hB' hS c3 hR1'
  go_wp2_with fail
  refine (unhide HE).mono ?_
  rintro e w2 ⟨rfl, hS', htk2, hbe2, hrc2⟩
  have h4 : w2.cell? ⟨r, 4, none⟩ = some (.int .i64 H.next) := (hrc2.cell 4 (by omega)).trans (unhide HR1).hs.next
  have hR2 := (unhide HR1).sessed htk2 (hrc2.mono (fun _ h => h.1)) (by obtain ⟨v', a1, a2⟩ := hS'; exact ⟨v', a1, a2, fun _ _ hk => by simp only [hg] at hk; exact hk⟩) h4 (fun k hk => by simp only [hg] at hk; exact hk.elim)
  have HF2 := hide (⟨hR2, (htk1.mono fun _ e => .inr e).trans (htk2.mono fun _ e => .inl e), (hbe1.mono (by omega)).trans (hbe2.mono (by omega))⟩ : LogoutEnd r b l did left H s w w2)
  clear hR2 HR1 hS' h4
  go_wp2_with fail
  go_end0
  exact ⟨rfl, unhide HF2⟩

set_option maxRecDepth 100000 in
set_option maxHeartbeats 400000 in
theorem rlogout_no (r b : Nat) (l : List Item) (did left : List (Bool × Item)) (H : Hs) (s : Int) (w : World) (h8 : H.ses.length ≤ 8) (hno : hasS H.ses s = false) (h : RackF w r b l did left H) :
    Calls Tryz.prog 121 #[.pointer (some ⟨r, 0, none⟩), .int .i64 s] w fun e w' => e = .returned (.int .i64 12) ∧ w' = w := by
  have hnot : ∀ (x : Bool) (w : World), (Op.unary .not (.bool x)).run Tryz.prog w = .ok (.bool (!x)) w := fun _ _ => rfl
  have c7 := h.c4
  obtain ⟨v3, c3, hS, _⟩ := h.hs.ses
  have HH := hide (thas_any r (b + 1) s v3 H.ses w (by omega) c3 hS)
  rw [hno] at HH
  clear h c3 hS hno
  go_enter Tryz.func121, Tryz.ntmps121
  go_wp2_with fail
  refine (unhide HH).mono ?_
  rintro e w1 ⟨rfl, rfl⟩
  go_wp2_with fail
  go_ret
  exact ⟨rfl, rfl⟩

set_option maxRecDepth 100000 in
set_option maxHeartbeats 400000 in
theorem rlogout_ok (r b : Nat) (l : List Item) (did left : List (Bool × Item)) (H : Hs) (s : Int) (w : World) (hg : H.g = gh0) (h8 : H.ses.length ≤ 8) (hD : H.disks.length ≤ 1000) (hyes : hasS H.ses s = true) (h : RackF w r b l did left H) :
    Calls Tryz.prog 121 #[.pointer (some ⟨r, 0, none⟩), .int .i64 s] w fun e w' => e = .returned (.int .i64 0) ∧ LogoutEnd r b l did left H s w w' := by
  have hnot : ∀ (x : Bool) (w : World), (Op.unary .not (.bool x)).run Tryz.prog w = .ok (.bool (!x)) w := fun _ _ => rfl
  have c7 := h.c4
  obtain ⟨v3, c3, hS, _⟩ := h.hs.ses
  have HH := hide (thas_any r (b + 1) s v3 H.ses w (by omega) c3 hS)
  rw [hyes] at HH
  have HE := hide (rend_any r b l did left H s w hg h8 hD h)
  clear h c3 hS hyes
  go_enter Tryz.func121, Tryz.ntmps121
  go_wp2_with fail
  refine (unhide HH).mono ?_
  rintro e w1 ⟨rfl, rfl⟩
  go_wp2_with fail
  refine (unhide HE).mono ?_
  rintro e w2 ⟨rfl, hE⟩
  go_wp2_with fail
  go_ret
  exact ⟨rfl, hE⟩

end Go.Proofs.YtdlhgbhaeedbdabGreat
