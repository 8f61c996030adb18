/- Dv4, Dv5, Dv6, Dv7, Dv8. -/
import Derived.Test.YtdlhgbhaeedbdaaM6
import Derived.Deep.Onto

/- The two devices: the document's 'bit'. -/
namespace Go.Proofs.Ytdlhgbhaeedbdaa
open Go.RowKit

def bitOf (keep : Int) (n : Nat) : Bool := decide ((keep % 18446744073709551616).toNat / 2 ^ (n % 63) % 2 = 1)

theorem u64_wrap (x : Int) : IntKind.u64.wrap x = x % 18446744073709551616 := by rfl

set_option maxRecDepth 100000 in
set_option maxHeartbeats 400000 in
theorem rbit_any (keep : Int) (n : Nat) (w : World) (hn : n ≤ 4398046511000) :
    Calls Try.prog 48 #[.int .i64 keep, .int .i64 n] w fun e w' => e = .returned (.bool (bitOf keep n)) ∧ w' = w := by
  have hm : (n : Int) % 63 = ((n % 63 : Nat) : Int) := by omega
  have hm2 : n % 63 < 63 := by omega
  obtain ⟨m, hmm⟩ : ∃ m, m = n % 63 := ⟨_, rfl⟩
  obtain ⟨u, hu⟩ : ∃ u : Nat, u = (keep % 18446744073709551616).toNat := ⟨_, rfl⟩
  have hu2 : IntKind.u64.wrap keep = (u : Int) := by rw [u64_wrap]; omega
  have hu3 : u < 18446744073709551616 := by omega
  have HB := hide (show bitOf keep n = decide (u / 2 ^ m % 2 = 1) by rw [hmm, hu]; rfl)
  generalize bitOf keep n = res at *
  rw [← hmm] at hm hm2
  clear hmm hu
  go_enter Try.func48, Try.ntmps48
  go_wp2
  go_loop [5, 6] (fun v k => ∃ j x : Nat, j ≤ m ∧ k = .int .i64 j ∧ v = .int .u64 x ∧ x = u / 2 ^ j) (fun _ k => m - (intOf k).toNat)
  case atStart => exact ⟨0, u, Nat.zero_le _, rfl, by simp, by simp⟩
  case round =>
    obtain ⟨j, x, hj, rfl, rfl, hx⟩ := hrel
    have Hx := hide hx
    clear hx
    by_cases hlt : j < m
    · have hlt' : (j : Int) < (m : Int) := by omega
      have hd : (x : Int).tdiv 2 = ((x / 2 : Nat) : Int) := by rw [Int.tdiv_eq_ediv_of_nonneg (by omega)]; rfl
      have HR := hide (show x / 2 = u / 2 ^ (j + 1) by rw [unhide Hx, Nat.pow_succ, Nat.div_div_eq_div_mul])
      have hxu : x ≤ u := by rw [unhide Hx]; exact Nat.div_le_self _ _
      have hwr : IntKind.u64.wrap ((x : Int) / 2) = (x : Int) / 2 := by rw [u64_wrap]; omega
      go_wp2
      go_round
      case rel => exact ⟨j + 1, x / 2, by omega, by go_num, by simp, unhide HR⟩
      case measure => simp [intOf]; omega
    · have hlt' : ¬ (j : Int) < (m : Int) := by omega
      have hjm : j = m := by omega
      have hd : (x : Int).tmod 2 = ((x % 2 : Nat) : Int) := by rw [Int.tmod_eq_emod_of_nonneg (by omega)]; rfl
      have HR := hide (show (((x % 2 : Nat) : Int) == 1) = res by
        rw [unhide HB, ← hjm, ← unhide Hx]
        by_cases e : x % 2 = 1
        · simp [e]
        · have : x % 2 = 0 := by omega
          simp [this])
      clear hjm
      go_wp2
      go_ret
      exact ⟨ret_bool (unhide HR), rfl⟩

end Go.Proofs.Ytdlhgbhaeedbdaa

/- The two devices: what an operation leaves alone, by the types of the blocks; the document's device: its power, its Write. -/
namespace Go.Proofs.Ytdlhgbhaeedbdaa
open Go.RowKit

/-- Only blocks of the types T have changed. -/
structure TK (T : TypeId → Prop) (w w' : World) : Prop where
  os : w'.os = w.os
  tape : w'.tape = w.tape
  output : w'.output = w.output
  size : w.heap.size ≤ w'.heap.size
  block : ∀ (k : Nat) (cs : Array Value) (t : TypeId) (fr : Nat × Nat), w.heap[k]? = some (Obj.cells cs t fr) → ¬ T t → w'.heap[k]? = w.heap[k]?

theorem TK.refl (T : TypeId → Prop) (w : World) : TK T w w := ⟨rfl, rfl, rfl, Nat.le_refl _, fun _ _ _ _ _ _ => rfl⟩
theorem TK.trans {T : TypeId → Prop} {a b c : World} (h : TK T a b) (k : TK T b c) : TK T a c :=
  ⟨k.os.trans h.os, k.tape.trans h.tape, k.output.trans h.output, Nat.le_trans h.size k.size, fun i cs t fr hi ht => by
    have := h.block i cs t fr hi ht
    exact (k.block i cs t fr (this.trans hi) ht).trans this⟩
theorem TK.of_below {T : TypeId → Prop} {w w' : World} (h : Below w.heap.size w w') : TK T w w' :=
  ⟨h.os, h.tape, h.output, h.size, fun k _ _ _ hk _ => h.block k (by
    by_cases e : k < w.heap.size
    · exact e
    · rw [Array.getElem?_eq_none (by omega)] at hk; cases hk)⟩
theorem TK.setCell {T : TypeId → Prop} {w : World} {b o : Nat} {cs : Array Value} {t : TypeId} {fr : Nat × Nat} (hb : w.heap[b]? = some (Obj.cells cs t fr)) (ht : T t) (u : Value) : TK T w (w.setCell ⟨b, o, none⟩ u) :=
  ⟨rfl, rfl, rfl, by simp [World.setCell], fun k cs' t' fr' hk hn => Below.heap_setCell w _ u k (fun e => by
    simp only at e
    subst e
    rw [hb] at hk
    simp only [Option.some.injEq, Obj.cells.injEq] at hk
    exact hn (hk.2.1 ▸ ht))⟩
theorem TK.grown {T : TypeId → Prop} {w w' : World} {base : Nat} {e : TypeId} {size : Nat} {v : Value} {n : Nat} {xs : List Value} (hown : w.ownsRow base e size v n xs) (hg : w.grownBy w' v.ownBlock) (ht : T e) : TK T w w' :=
  ⟨hg.os, hg.tape, hg.output, hg.size, fun k cs t fr hk hn => hg.block k (by
      by_cases e : k < w.heap.size
      · exact e
      · rw [Array.getElem?_eq_none (by omega)] at hk; cases hk) (fun e1 => by
      obtain ⟨_, ⟨rfl, _⟩ | ⟨g, cap, cur, rfl, _, hcur, _⟩⟩ := hown
      · cases e1
      · simp only [Value.ownBlock, Option.some.injEq] at e1
        subst e1
        rw [hcur] at hk
        simp only [Option.some.injEq, Obj.cells.injEq] at hk
        exact hn (hk.2.1 ▸ ht))⟩

/-- The document's device in block b. -/
structure RefAt (w : World) (b : Nat) (L : List Lg) (l : Int) (d : Bool) : Prop where
  ty : ∃ cs fr, w.heap[b]? = some (.cells cs 43 fr)
  c0 : ∃ v, w.cell? ⟨b, 0, none⟩ = some v ∧ LogW w (b + 1) v L
  c1 : w.cell? ⟨b, 1, none⟩ = some (.int .i64 l)
  c2 : w.cell? ⟨b, 2, none⟩ = some (.bool d)
  fz : ∀ o, w.frozen? ⟨b, o, none⟩ = false
  lt : b < w.heap.size

def rcLeft (l : Int) (d : Bool) : Int := if d = true ∨ l = 0 then l else if 0 < l then l - 1 else l
def rcGone (l : Int) (d : Bool) : Bool := if d = true ∨ l = 0 then true else d

theorem RefAt.call {w : World} {b : Nat} {L : List Lg} {l : Int} {d : Bool} (h : RefAt w b L l d) :
    RefAt (rcW w b l d) b L (rcLeft l d) (rcGone l d) ∧ Below b w (rcW w b l d) ∧ TK (fun t => t = 43 ∨ t = 91) w (rcW w b l d) := by
  obtain ⟨⟨cs, fr, hty⟩, ⟨v, c0, hlog⟩, c1, c2, fz, lt⟩ := h
  unfold rcW rcLeft rcGone
  by_cases h1 : d = true ∨ l = 0
  · simp only [h1, if_true]
    refine ⟨⟨ty_set ⟨cs, fr, hty⟩ _, ⟨v, by go_simp, ownsRow_setCell_below hlog (by simp) _⟩, by go_simp, by go_simp, fun o => by simp [fz o], by simpa [World.setCell] using lt⟩, (Below.refl _ _).setCell (p := ⟨b, 2, none⟩) (Nat.le_refl _) _, TK.setCell hty (.inl rfl) _⟩
  · simp only [h1, if_false]
    by_cases h2 : 0 < l
    · simp only [h2, if_true]
      refine ⟨⟨ty_set ⟨cs, fr, hty⟩ _, ⟨v, by go_simp, ownsRow_setCell_below hlog (by simp) _⟩, by go_simp, by go_simp, fun o => by simp [fz o], by simpa [World.setCell] using lt⟩, (Below.refl _ _).setCell (p := ⟨b, 1, none⟩) (Nat.le_refl _) _, TK.setCell hty (.inl rfl) _⟩
    · simp only [h2, if_false]
      exact ⟨⟨⟨cs, fr, hty⟩, ⟨v, c0, hlog⟩, c1, c2, fz, lt⟩, Below.refl _ _, TK.refl _ _⟩

theorem RefAt.put {w w2 : World} {b : Nat} {L L' : List Lg} {l : Int} {d : Bool} {v' : Value} (h : RefAt w b L l d) (hB : Below (b + 1) w w2) (hl : LogW w2 (b + 1) v' L') :
    RefAt (w2.setCell ⟨b, 0, none⟩ v') b L' l d := by
  obtain ⟨⟨cs, fr, hty⟩, ⟨v, c0, hlog⟩, c1, c2, fz, lt⟩ := h
  have hty2 := (hB.block b (by omega)).trans hty
  have c0' := (hB.cell (p := ⟨b, 0, none⟩) (by simp)).trans c0
  have c1' := (hB.cell (p := ⟨b, 1, none⟩) (by simp)).trans c1
  have c2' := (hB.cell (p := ⟨b, 2, none⟩) (by simp)).trans c2
  have hs := hB.size
  refine ⟨ty_set ⟨cs, fr, hty2⟩ _, ⟨v', by go_simp, ownsRow_setCell_below hl (by simp) _⟩, by go_simp, by go_simp, fun o => ?_, by simp [World.setCell]; omega⟩
  have := (hB.frozen (p := ⟨b, o, none⟩) (by simp)).trans (fz o)
  simp [this]

end Go.Proofs.Ytdlhgbhaeedbdaa

/- The document's device: Write. -/
namespace Go.Proofs.Ytdlhgbhaeedbdaa
open Go.RowKit

theorem Try.infoLate : (Try.prog.info? 91).map (fun i => (i.zero, i.size, i.bytes)) = some (some (.agg #[.int .i64 0, .string ⟨#[]⟩, .bool false]), 3, 32) := by kernel_rfl

def RT (t : TypeId) : Prop := t = 43 ∨ t = 91

set_option maxRecDepth 100000 in
set_option maxHeartbeats 400000 in
theorem rwrite_arg (b : Nat) (i : Int) (s : ByteArray) (w : World) (hi : i < 0 ∨ 64 ≤ i ∨ s.size ≠ 32) :
    Calls Try.prog 45 #[.pointer (some ⟨b, 0, none⟩), .int .i64 i, .string s] w fun e w' => e = .returned (.int .i64 6) ∧ w' = w := by
  by_cases h : i < 0
  · clear hi
    go_enter Try.func45, Try.ntmps45
    go_wp2_with fail
    go_ret
    exact ⟨rfl, rfl⟩
  · by_cases h2 : 64 ≤ i
    · clear hi
      go_enter Try.func45, Try.ntmps45
      go_wp2_with fail
      go_ret
      exact ⟨rfl, rfl⟩
    · have h3 : ((s.size : Int) == 32) = false := by rw [beq_eq_false_iff_ne]; omega
      clear hi
      go_enter Try.func45, Try.ntmps45
      go_wp2_with fail
      go_ret
      exact ⟨rfl, rfl⟩

set_option maxRecDepth 100000 in
set_option maxHeartbeats 400000 in
theorem rwrite_gone (b : Nat) (i : Nat) (s : ByteArray) (w : World) (hi : i < 64) (hs : s.size = 32) (c2 : w.cell? ⟨b, 2, none⟩ = some (.bool true)) :
    Calls Try.prog 45 #[.pointer (some ⟨b, 0, none⟩), .int .i64 i, .string s] w fun e w' => e = .returned (.int .i64 7) ∧ w' = w := by
  have h1 : ¬ (i : Int) < 0 := by omega
  have h2 : ¬ 64 ≤ (i : Int) := by omega
  have h3 : ((s.size : Int) == 32) = true := by rw [beq_iff_eq]; omega
  clear hs
  go_enter Try.func45, Try.ntmps45
  go_wp2_with fail
  go_ret
  exact ⟨rfl, rfl⟩

set_option maxRecDepth 100000 in
set_option maxHeartbeats 400000 in
theorem rwrite_ok (b : Nat) (i : Nat) (s : ByteArray) (L : List Lg) (l : Int) (w : World) (hi : i < 64) (hs : s.size = 32) (hl : l ≤ 9223372036854775807) (hn : L.length ≤ 4398046511000) (h : RefAt w b L l false) :
    Calls Try.prog 45 #[.pointer (some ⟨b, 0, none⟩), .int .i64 i, .string s] w fun e w' => e = .returned (.int .i64 (if rcR l false then 0 else 7)) ∧
      RefAt w' b (L ++ [⟨i, s, false⟩]) (rcLeft l false) (rcGone l false) ∧ Below b w w' ∧ TK RT w w' := by
  have h1 : ¬ (i : Int) < 0 := by omega
  have h2 : ¬ 64 ≤ (i : Int) := by omega
  have h3 : ((s.size : Int) == 32) = true := by rw [beq_iff_eq]; omega
  obtain ⟨res, hres⟩ : ∃ r : Int, r = (if rcR l false then 0 else 7) := ⟨_, rfl⟩
  rw [← hres]
  have Hres := hide hres
  clear hres
  obtain ⟨v, c0, hlog⟩ := h.c0
  obtain ⟨a, cap, rfl⟩ := slice_of_owns hlog
  have c2 := h.c2
  have fz := h.fz
  have hblt := h.lt
  obtain ⟨i0, hinf, hz0, hz1, hz2⟩ := info_parts Try.infoLate
  have HR := hide h
  have Hlog := hide hlog
  clear hs h hlog
  go_enter Try.func45, Try.ntmps45
  go_wp2_with (at_builtin; refine wpList_append_own _ rfl _ _ 41 rfl (b + 1) 91 i0 (.agg #[.int .i64 0, .string ⟨#[]⟩, .bool false]) 3 32 Try.underlying41 hinf hz0 hz1 hz2 rfl (by decide) (.slice a L.length cap) L.length (lgCells L) ?hs ?c0 ⟨w.heap.size, 0, none⟩ 1 1 (Lg.cells ⟨i, s, false⟩) ?hx ?hl ?c1 ?c2 ?c3 ?c4 ?c5 ?_)
  case hl => rfl
  case c0 => exact (unhide Hlog).alloc _
  case c1 => exact fun j u hj => hj
  case c2 => intro u hu; simp [Lg.cells] at hu; rcases hu with rfl | rfl | rfl <;> rfl
  case c3 => unfold maxLen; omega
  case c4 => omega
  case c5 => first | omega | (simp; omega)
  intro v' w2 hown' hgrow _
  obtain ⟨a', cap', rfl⟩ := slice_of_owns hown'
  have hlog' : LogW w2 (b + 1) (.slice a' (L.length + 1) cap') (L ++ [⟨i, s, false⟩]) := by
    unfold LogW
    rw [List.length_append, show lgCells (L ++ [⟨i, s, false⟩]) = lgCells L ++ Lg.cells ⟨i, s, false⟩ by simp [lgCells]]
    exact hown'
  have hB : Below (b + 1) w w2 := ((Below.refl _ _).alloc (by omega) _).grown hgrow (by simp; omega) (fun k e => (World.ownsRow.lt (unhide Hlog) k e).1)
  have hT : TK RT w w2 := (TK.of_below ((Below.refl _ _).alloc (Nat.le_refl _) _)).trans (TK.grown ((unhide Hlog).alloc _) hgrow (.inr rfl))
  have c0' := (hB.cell (p := ⟨b, 0, none⟩) (by simp)).trans c0
  have fz' : ∀ o, w2.frozen? ⟨b, o, none⟩ = false := fun o => (hB.frozen (p := ⟨b, o, none⟩) (by simp)).trans (fz o)
  have hput := (unhide HR).put hB hlog'
  have HP := hide hput
  have hcall := hput.call
  have HC := hide hcall
  have HK := hide (rcall_any b l false _ hl hput.c1 hput.c2 hput.fz)
  obtain ⟨cs, fr, hty⟩ := (unhide HR).ty
  have hT2 : TK RT w (w2.setCell ⟨b, 0, none⟩ (.slice a' (L.length + 1) cap')) := hT.trans (TK.setCell ((hB.block b (by omega)).trans hty) (.inl rfl) _)
  have hB2 : Below b w (w2.setCell ⟨b, 0, none⟩ (.slice a' (L.length + 1) cap')) := Below.setCell (B := b) (hB.mono (Nat.le_succ b)) (p := ⟨b, 0, none⟩) (Nat.le_refl _) _
  clear hgrow hown' hlog' hput hcall hty c2
  cases hr : rcR l false with
  | true =>
    rw [hr] at HK
    go_wp2_with fail
    refine (unhide HK).mono ?_
    rintro e w3 ⟨rfl, hw3⟩
    go_wp2_with fail
    go_ret
    refine ⟨by rw [unhide Hres, hr]; rfl, ?_⟩
    exact ⟨(unhide HC).1, hB2.trans (unhide HC).2.1, hT2.trans (unhide HC).2.2⟩
  | false =>
    rw [hr] at HK
    go_wp2_with fail
    refine (unhide HK).mono ?_
    rintro e w3 ⟨rfl, hw3⟩
    go_wp2_with fail
    go_ret
    refine ⟨by rw [unhide Hres, hr]; rfl, ?_⟩
    exact ⟨(unhide HC).1, hB2.trans (unhide HC).2.1, hT2.trans (unhide HC).2.2⟩

end Go.Proofs.Ytdlhgbhaeedbdaa

/- The document's device: Flush. -/
namespace Go.Proofs.Ytdlhgbhaeedbdaa
open Go.RowKit

def Lg.mark (x : Lg) : Lg := { x with sure := true }

theorem lg_set (l : List Lg) (k : Nat) (hk : k < l.length) : (lgCells l).set (k * 3 + 2) (.bool true) = lgCells (l.set k l[k].mark) := by
  induction l generalizing k with
  | nil => simp at hk
  | cons a l ih =>
    cases k with
    | zero => simp [lgCells, Lg.cells, Lg.mark]
    | succ k =>
      have := ih k (by simpa using hk)
      have e : (k + 1) * 3 + 2 = k * 3 + 2 + 1 + 1 + 1 := by omega
      rw [e]
      simp only [lgCells, List.flatMap_cons, Lg.cells, List.cons_append, List.nil_append, List.set_cons_succ, List.getElem_cons_succ] at this ⊢
      rw [this]

def flushed (L : List Lg) (k : Nat) : List Lg := (L.take k).map Lg.mark ++ L.drop k

theorem flushed_len (L : List Lg) (k : Nat) : (flushed L k).length = L.length := by simp [flushed]; omega
theorem flushed_at {L : List Lg} {k : Nat} (hk : k < L.length) : (flushed L k)[k]'(by rw [flushed_len]; exact hk) = L[k] := by
  unfold flushed
  rw [List.getElem_append_right (by simp; omega)]
  simp [Nat.min_eq_left (Nat.le_of_lt hk)]
theorem flushed_succ {L : List Lg} {k : Nat} (hk : k < L.length) : (flushed L k).set k L[k].mark = flushed L (k + 1) := by
  unfold flushed
  rw [List.set_append_right _ _ (by simp; omega)]
  simp only [List.length_map, List.length_take, Nat.min_eq_left (Nat.le_of_lt hk), Nat.sub_self]
  rw [List.drop_eq_getElem_cons hk, List.set_cons_zero, List.take_succ_eq_append_getElem hk, List.map_append, List.append_assoc]
  rfl

set_option maxRecDepth 100000 in
set_option maxHeartbeats 400000 in
theorem rflush_any (b : Nat) (L : List Lg) (l : Int) (d : Bool) (w : World) (hl : l ≤ 9223372036854775807) (hn : L.length ≤ 4398046511000) (h : RefAt w b L l d) :
    Calls Try.prog 16 #[.pointer (some ⟨b, 0, none⟩)] w fun e w' => e = .returned (.int .i64 (if rcR l d then 0 else 7)) ∧
      RefAt w' b (if rcR l d then L.map Lg.mark else L) (rcLeft l d) (rcGone l d) ∧ Below b w w' ∧ TK RT w w' := by
  have HK := hide (rcall_any b l d w hl h.c1 h.c2 h.fz)
  obtain ⟨hr1, hr2, hr3⟩ := h.call
  have hr3' : TK RT w (rcW w b l d) := hr3
  cases hr : rcR l d with
  | false =>
    simp only [if_false, Bool.false_eq_true]
    rw [hr] at HK
    have HC := hide hr1
    clear h hr1 hr3
    go_enter Try.func16, Try.ntmps16
    go_wp2_with fail
    refine (unhide HK).mono ?_
    rintro e w1 ⟨rfl, hw1⟩
    go_wp2_with fail
    go_ret
    exact ⟨rfl, unhide HC, hr2, hr3'⟩
  | true =>
    simp only [if_true]
    rw [hr] at HK
    generalize rcW w b l d = W at *
    generalize rcLeft l d = l' at *
    generalize rcGone l d = d' at *
    obtain ⟨v, c0, hlog⟩ := hr1.c0
    obtain ⟨a, cap, rfl⟩ := slice_of_owns hlog
    have HC := hide hr1
    have Hlog := hide hlog
    have hblt := hr1.lt
    clear h hr1 hr3 hlog
    go_enter Try.func16, Try.ntmps16
    go_wp2_with fail
    refine (unhide HK).mono ?_
    rintro e w1 ⟨rfl, rfl⟩
    go_wp2_with fail
    go_loopw [4] (fun kv wr => ∃ k : Nat, k ≤ L.length ∧ kv = .int .i64 k ∧ LogW wr (b + 1) (.slice a L.length cap) (flushed L k) ∧ Below (b + 1) w1 wr ∧ TK RT w1 wr) (fun kv _ => L.length - (intOf kv).toNat)
    case atStart => exact ⟨0, Nat.zero_le _, rfl, by simpa [flushed] using unhide Hlog, Below.refl _ _, TK.refl _ _⟩
    case round =>
      obtain ⟨k, hk, rfl, hlg, hbe, htk⟩ := hrel
      have c0' := (hbe.cell (p := ⟨b, 0, none⟩) (by simp)).trans c0
      by_cases hlt : k < L.length
      · have hlt' : (k : Int) < (L.length : Int) := by omega
        have hkf : k < (flushed L k).length := by rw [flushed_len]; exact hlt
        obtain ⟨g, rfl, _, hbg, hglt, hcap, hcs⟩ := hlg.at hkf
        obtain ⟨_, _, q2⟩ := hcs k hkf
        have hst : (wr.setCell ⟨g, k * 3 + 2, none⟩ (.bool true)).ownsRow (b + 1) 91 3 (.slice (some ⟨g, 0, none⟩) L.length cap) L.length ((lgCells (flushed L k)).set (k * 3 + 2) (.bool true)) ∧ wr.grownBy (wr.setCell ⟨g, k * 3 + 2, none⟩ (.bool true)) (some g) :=
          World.ownsRow.stored (by have := hlg; unfold LogW at this; rw [flushed_len] at this; exact this) (k * 3 + 2) (.bool true)
        have hfz : wr.frozen? ⟨g, k * 3 + 2, none⟩ = false := World.ownsRow.frozenAt (by have := hlg; unfold LogW at this; rw [flushed_len] at this; exact this) (k * 3 + 2)
        have HL := hide (show LogW (wr.setCell ⟨g, k * 3 + 2, none⟩ (.bool true)) (b + 1) (.slice (some ⟨g, 0, none⟩) L.length cap) (flushed L (k + 1)) by
          unfold LogW
          rw [flushed_len, ← flushed_succ hlt, ← flushed_at hlt, ← lg_set _ k hkf]
          exact hst.1)
        have HT := hide (show TK RT wr (wr.setCell ⟨g, k * 3 + 2, none⟩ (.bool true)) from TK.grown hlg hst.2 (.inr rfl))
        clear hst hcs
        go_wp2_with fail
        go_roundw
        case rel => exact ⟨k + 1, by omega, by go_num, unhide HL, Below.setCell (B := b + 1) hbe (p := ⟨g, k * 3 + 2, none⟩) hbg _, htk.trans (unhide HT)⟩
        case measure => simp [intOf]; omega
      · have hlt' : ¬ (k : Int) < (L.length : Int) := by omega
        have hfin : flushed L k = L.map Lg.mark := by unfold flushed; rw [List.take_of_length_le (by omega), List.drop_of_length_le (by omega), List.append_nil]
        have HL := hide (show LogW wr (b + 1) (.slice a L.length cap) (L.map Lg.mark) by rw [← hfin]; exact hlg)
        clear hfin hlg
        go_wp2_with fail
        go_ret
        have hR := unhide HC
        obtain ⟨cs, fr, hty⟩ := hR.ty
        refine ⟨rfl, ⟨⟨cs, fr, (hbe.block b (by omega)).trans hty⟩, ⟨_, c0', unhide HL⟩, (hbe.cell (p := ⟨b, 1, none⟩) (by simp)).trans hR.c1, (hbe.cell (p := ⟨b, 2, none⟩) (by simp)).trans hR.c2, fun o => (hbe.frozen (p := ⟨b, o, none⟩) (by simp)).trans (hR.fz o), Nat.lt_of_lt_of_le hblt hbe.size⟩, hr2.trans (hbe.mono (Nat.le_succ b)), hr3'.trans htk⟩

end Go.Proofs.Ytdlhgbhaeedbdaa

/- The document's device: Restore. -/
namespace Go.Proofs.Ytdlhgbhaeedbdaa
open Go.RowKit

def rest1 (keep : Int) (acc : List Lg × Nat) (x : Lg) : List Lg × Nat := if x.sure then (acc.1 ++ [x.mark], acc.2) else (if bitOf keep acc.2 then acc.1 ++ [x.mark] else acc.1, acc.2 + 1)
def restTo (keep : Int) (L : List Lg) (k : Nat) : List Lg × Nat := (L.take k).foldl (rest1 keep) ([], 0)

theorem restTo_succ (keep : Int) {L : List Lg} {k : Nat} (hk : k < L.length) : restTo keep L (k + 1) = rest1 keep (restTo keep L k) L[k] := by
  unfold restTo
  rw [List.take_succ_eq_append_getElem hk, List.foldl_append]
  rfl

theorem restTo_le (keep : Int) (L : List Lg) (k : Nat) (hk : k ≤ L.length) : (restTo keep L k).1.length ≤ k ∧ (restTo keep L k).2 ≤ k := by
  induction k with
  | zero => simp [restTo]
  | succ k ih =>
    have := ih (by omega)
    rw [restTo_succ keep (by omega)]
    unfold rest1
    split
    · simp; omega
    · split <;> simp <;> omega

set_option maxRecDepth 100000 in
set_option maxHeartbeats 1000000 in
theorem rrestore_any (b : Nat) (L : List Lg) (l keep : Int) (d : Bool) (w : World) (hn : L.length ≤ 4398046511000) (h : RefAt w b L l d) :
    Calls Try.prog 21 #[.pointer (some ⟨b, 0, none⟩), .int .i64 keep] w fun e w' => e = .returned (.tuple #[]) ∧
      RefAt w' b (restTo keep L L.length).1 (-1) false ∧ Below b w w' ∧ TK RT w w' := by
  have hnot : ∀ (x : Bool) (w : World), (Op.unary .not (.bool x)).run Try.prog w = .ok (.bool (!x)) w := fun _ _ => rfl
  obtain ⟨v, c0, hlog⟩ := h.c0
  obtain ⟨a, cap, rfl⟩ := slice_of_owns hlog
  have HC := hide h
  have Hlog := hide hlog
  have hblt := h.lt
  obtain ⟨i0, hinf, hz0, hz1, hz2⟩ := info_parts Try.infoLate
  clear h hlog
  go_enter Try.func21, Try.ntmps21
  go_wp2_with fail
  go_loopw [4, 5, 6] (fun lv nv kv wr => ∃ (k n : Nat) (M : List Lg), k ≤ L.length ∧ kv = .int .i64 k ∧ nv = .int .i64 n ∧ restTo keep L k = (M, n) ∧ wr.ownsRow w.heap.size 91 3 lv M.length (lgCells M) ∧ Below w.heap.size w wr) (fun _ _ kv _ => L.length - (intOf kv).toNat)
  case atStart => exact ⟨0, 0, [], Nat.zero_le _, rfl, rfl, rfl, World.ownsRow_nil _ _ _ _, Below.refl _ _⟩
  case round =>
    obtain ⟨k, n, M, hk, rfl, rfl, hrt, hlg, hbe⟩ := hrel
    obtain ⟨am, capm, rfl⟩ := slice_of_owns hlg
    have c0' := (hbe.cell (p := ⟨b, 0, none⟩) hblt).trans c0
    have hle := restTo_le keep L k hk
    rw [hrt] at hle
    obtain ⟨hle1, hle2⟩ := hle
    simp only at hle1 hle2
    have Hrt := hide hrt
    clear hrt
    have hsz := hbe.size
    by_cases hlt : k < L.length
    · have hlt' : (k : Int) < (L.length : Int) := by omega
      obtain ⟨g, rfl, _, hbg, hglt, hcap, hcs⟩ := (unhide Hlog).at hlt
      obtain ⟨q0, q1, q2⟩ := hcs k hlt
      have q0' := (hbe.cell (p := ⟨g, k * 3, none⟩) hglt).trans q0
      have q1' := (hbe.cell (p := ⟨g, k * 3 + 1, none⟩) hglt).trans q1
      have q2' := (hbe.cell (p := ⟨g, k * 3 + 2, none⟩) hglt).trans q2
      have HS := hide (restTo_succ keep hlt)
      generalize L[k] = x at *
      obtain ⟨sec, data, sure⟩ := x
      simp only at q0' q1' q2'
      clear hcs q0 q1 q2
      have Hbit := hide (rbit_any keep n (wr.alloc (.cells #[.int .i64 sec, .string data, .bool sure] 91)) (by omega))
      have Hown := hide (show ∀ o1 o2, ((wr.alloc o1).alloc o2).ownsRow w.heap.size 91 3 (.slice am M.length capm) M.length (lgCells M) from fun o1 o2 => (hlg.alloc o1).alloc o2)
      have Hrow := hide hlg
      clear hlg
      cases sure with
      | true =>
        have HN := hide (show restTo keep L (k + 1) = (M ++ [⟨sec, data, true⟩], n) by rw [unhide HS, unhide Hrt]; rfl)
        go_wp2_with (at_builtin; refine wpList_append_own _ rfl _ _ 41 rfl w.heap.size 91 i0 (.agg #[.int .i64 0, .string ⟨#[]⟩, .bool false]) 3 32 Try.underlying41 hinf hz0 hz1 hz2 rfl (by decide) (.slice am M.length capm) M.length (lgCells M) ?hs ?c0 ⟨wr.heap.size + 1, 0, none⟩ 1 1 (Lg.cells ⟨sec, data, true⟩) ?hx ?hl ?c1 ?c2 ?c3 ?c4 ?c5 ?_)
        case hl => rfl
        case c0 => exact unhide Hown _ _
        case c1 => first | exact fun j u hj => hj | exact fun j u hj => cells_new _ _ _ _ (by simp) j u (by simpa [Lg.cells] using hj)
        case c2 => intro u hu; simp [Lg.cells] at hu; rcases hu with rfl | rfl | rfl <;> rfl
        case c3 => unfold maxLen; omega
        case c4 => omega
        case c5 => first | omega | (simp; omega)
        intro v' w2 hown' hgrow _
        obtain ⟨a', cap', rfl⟩ := slice_of_owns hown'
        have hB2 : Below w.heap.size w w2 := ((hbe.alloc hsz _).alloc (by simp; omega) _).grown hgrow (by simp; omega) (fun k e => (World.ownsRow.lt (unhide Hrow) k e).1)
        have Hrow2 := hide (show w2.ownsRow w.heap.size 91 3 (.slice a' (M.length + 1) cap') (M ++ [(⟨sec, data, true⟩ : Lg)]).length (lgCells (M ++ [⟨sec, data, true⟩])) by
          rw [List.length_append, show lgCells (M ++ [⟨sec, data, true⟩]) = lgCells M ++ Lg.cells ⟨sec, data, true⟩ by simp [lgCells]]
          exact hown')
        clear hgrow hown'
        go_wp2_with fail
        go_roundw
        case rel => exact ⟨k + 1, n, M ++ [⟨sec, data, true⟩], by omega, by go_num, rfl, unhide HN, unhide Hrow2, hB2⟩
        case measure => simp [intOf]; omega
      | false =>
        cases hb : bitOf keep n with
        | true =>
          have HN := hide (show restTo keep L (k + 1) = (M ++ [⟨sec, data, true⟩], n + 1) by rw [unhide HS, unhide Hrt]; simp [rest1, hb, Lg.mark])
          rw [hb] at Hbit
          clear hb
          go_wp2_with (first | (go_at_call 48; refine (unhide Hbit).mono ?_; rintro e w1 ⟨rfl, rfl⟩) | (at_builtin; refine wpList_append_own _ rfl _ _ 41 rfl w.heap.size 91 i0 (.agg #[.int .i64 0, .string ⟨#[]⟩, .bool false]) 3 32 Try.underlying41 hinf hz0 hz1 hz2 rfl (by decide) (.slice am M.length capm) M.length (lgCells M) ?hs ?c0 ⟨wr.heap.size + 1, 0, none⟩ 1 1 (Lg.cells ⟨sec, data, true⟩) ?hx ?hl ?c1 ?c2 ?c3 ?c4 ?c5 ?_))
          case hl => rfl
          case c0 => exact unhide Hown _ _
          case c1 => first | exact fun j u hj => hj | exact fun j u hj => cells_new _ _ _ _ (by simp) j u (by simpa [Lg.cells] using hj)
          case c2 => intro u hu; simp [Lg.cells] at hu; rcases hu with rfl | rfl | rfl <;> rfl
          case c3 => unfold maxLen; omega
          case c4 => omega
          case c5 => first | omega | (simp; omega)
          intro v' w2 hown' hgrow _
          obtain ⟨a', cap', rfl⟩ := slice_of_owns hown'
          have hB2 : Below w.heap.size w w2 := ((hbe.alloc hsz _).alloc (by simp; omega) _).grown hgrow (by simp; omega) (fun k e => (World.ownsRow.lt (unhide Hrow) k e).1)
          have Hrow2 := hide (show w2.ownsRow w.heap.size 91 3 (.slice a' (M.length + 1) cap') (M ++ [(⟨sec, data, true⟩ : Lg)]).length (lgCells (M ++ [⟨sec, data, true⟩])) by
            rw [List.length_append, show lgCells (M ++ [⟨sec, data, true⟩]) = lgCells M ++ Lg.cells ⟨sec, data, true⟩ by simp [lgCells]]
            exact hown')
          clear hgrow hown'
          go_wp2_with fail
          go_roundw
          case rel => exact ⟨k + 1, n + 1, M ++ [⟨sec, data, true⟩], by omega, by go_num, by go_num, unhide HN, unhide Hrow2, hB2⟩
          case measure => simp [intOf]; omega
        | false =>
          have HN := hide (show restTo keep L (k + 1) = (M, n + 1) by rw [unhide HS, unhide Hrt]; simp [rest1, hb])
          rw [hb] at Hbit
          clear hb
          go_wp2_with (go_at_call 48; refine (unhide Hbit).mono ?_; rintro e w1 ⟨rfl, rfl⟩)
          go_roundw
          case rel => exact ⟨k + 1, n + 1, M, by omega, by go_num, by go_num, unhide HN, (unhide Hrow).alloc _, hbe.alloc hsz _⟩
          case measure => simp [intOf]; omega
    · have hlt' : ¬ (k : Int) < (L.length : Int) := by omega
      have hkL : k = L.length := by omega
      have HM := hide (show (restTo keep L L.length).1 = M by rw [← hkL, unhide Hrt])
      have hR := unhide HC
      have HC2 := hide (hR.put (hbe.mono (show b + 1 ≤ w.heap.size by omega)) (show LogW wr (b + 1) (.slice am M.length capm) M from World.ownsRow.mono hlg (by omega)))
      have d1 := (hbe.cell (p := ⟨b, 1, none⟩) hblt).trans hR.c1
      have d2 := (hbe.cell (p := ⟨b, 2, none⟩) hblt).trans hR.c2
      have fz : ∀ o, wr.frozen? ⟨b, o, none⟩ = false := fun o => (hbe.frozen (p := ⟨b, o, none⟩) hblt).trans (hR.fz o)
      have hty := hR.ty
      have HB := hide hbe
      clear hR hkL hlg
      go_wp2_with fail
      go_end0
      obtain ⟨ty, ⟨v, e0, hl0⟩, e1, e2, efz, elt⟩ := unhide HC2
      have hty1 : ∃ cs fr, wr.heap[b]? = some (Obj.cells cs 43 fr) := by
        obtain ⟨cs, fr, hty⟩ := hty
        exact ⟨cs, fr, (hbe.block b hblt).trans hty⟩
      have ty1 := ty_set (o := 1) ty (.int .i64 (-1))
      have ty2 := ty_set (o := 2) ty1 (.bool false)
      rw [unhide HM]
      refine ⟨rfl, ⟨ty2, ⟨v, by go_simp, ownsRow_setCell_below (ownsRow_setCell_below hl0 (by simp) _) (by simp) _⟩, by go_simp, by go_simp, fun o => by simp [fz o], by simpa [World.setCell] using elt⟩, ?_, ?_⟩
      · exact Below.setCell (B := b) (Below.setCell (B := b) (Below.setCell (B := b) (hbe.mono (Nat.le_of_lt hblt)) (p := ⟨b, 0, none⟩) (Nat.le_refl _) _) (p := ⟨b, 1, none⟩) (Nat.le_refl _) _) (p := ⟨b, 2, none⟩) (Nat.le_refl _) _
      · obtain ⟨cs0, fr0, t0⟩ := hty1
        obtain ⟨cs1, fr1, t1⟩ := ty
        obtain ⟨cs2, fr2, t2⟩ := ty1
        exact (((TK.of_below hbe).trans (TK.setCell t0 (.inl rfl) _)).trans (TK.setCell t1 (.inl rfl) _)).trans (TK.setCell t2 (.inl rfl) _)

end Go.Proofs.Ytdlhgbhaeedbdaa
