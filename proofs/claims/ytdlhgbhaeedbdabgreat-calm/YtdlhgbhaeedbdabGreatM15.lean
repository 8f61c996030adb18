/- St4, St5, Ho2. -/
import Derived.Test.YtdlhgbhaeedbdabGreatM14
import Derived.Test.YtdlhgbhaeedbdabGreatM11
import Derived.Deep.AppendLies

/- What a device holds: plain mathematics. -/
namespace Go.Proofs.YtdlhgbhaeedbdabGreat
open Go.RowKit

theorem upd_out {S : Nat → UInt8} {i j : Nat} {d : List UInt8} (h : i ≠ j / 32) : upd S i d j = S j := by simp [upd, h]

theorem updB_out (keep : Int) (S : Nat → UInt8) (U : List Lg) (j : Nat) (h : ∀ x ∈ U, x.sec ≠ j / 32) (k : Nat) : updB keep S U k j = S j := by
  induction k with
  | zero => rfl
  | succ k ih =>
    by_cases hk : k < U.length
    · rw [updB_succ keep S U k hk]
      split
      · rw [upd_out (h _ (List.getElem_mem hk)), ih]
      · exact ih
    · have hn : U[k]? = none := List.getElem?_eq_none (Nat.le_of_not_lt hk)
      have : updB keep S U (k + 1) = updB keep S U k := by simp only [updB, hn]
      rw [this]; exact ih

theorem upds_out (S : Nat → UInt8) (U : List Lg) (j : Nat) (h : ∀ x ∈ U, x.sec ≠ j / 32) : upds S U j = S j := by
  induction U generalizing S with
  | nil => rfl
  | cons x U ih =>
    show upds (upd S x.sec x.data.data.toList) U j = S j
    rw [ih _ (fun y hy => h y (by simp [hy])), upd_out (h x (by simp))]

theorem roomPart_congr {E E' : Nat → UInt8} {r k : Nat} (h : ∀ j, j < k * 32 → E ((1 + r * 13) * 32 + j) = E' ((1 + r * 13) * 32 + j)) : roomPart E r k = roomPart E' r k := by
  unfold roomPart
  apply List.map_congr_left
  intro j hj
  exact h j (List.mem_range.1 hj)

theorem held_congr {E E' : Nat → UInt8} (h0 : E' 0 = E 0) (h : ∀ j, j < 416 → E' ((1 + roomOf E * 13) * 32 + j) = E ((1 + roomOf E * 13) * 32 + j)) : held E' = held E := by
  have hr : roomOf E' = roomOf E := by unfold roomOf; rw [h0]
  unfold held
  rw [hr, roomPart_congr h]

/-- Writes into the other room change nothing that is held. -/
theorem held_other {S E : Nat → UInt8} {r : Nat} (hr : r ≠ roomOf S) (hr1 : r ≤ 1) (h : ∀ j, (j / 32 < 1 + r * 13 ∨ 14 + r * 13 ≤ j / 32) → E j = S j) : held E = held S := by
  have h1 := roomOf_le S
  refine held_congr (h 0 (by omega)) fun j hj => h _ ?_
  omega

theorem held_fillB (keep : Int) {S : Nat → UInt8} {r : Nat} (hr : r ≠ roomOf S) (hr1 : r ≤ 1) (t : ByteArray) {n : Nat} (hn : n ≤ 13) (k : Nat) : held (updB keep S (fillU r t n) k) = held S :=
  held_other hr hr1 fun j hj => updB_out _ _ _ _ (fun x hx => by have := (fillU_in hn x hx).1; omega) _

theorem held_fill {S : Nat → UInt8} {r : Nat} (hr : r ≠ roomOf S) (hr1 : r ≤ 1) (t : ByteArray) {n : Nat} (hn : n ≤ 13) : held (upds S (fillU r t n)) = held S :=
  held_other hr hr1 fun j hj => upds_out _ _ _ (fun x hx => by have := (fillU_in hn x hx).1; omega)

/-- What the writes lay into the room. -/
theorem upds_fill (S : Nat → UInt8) (r : Nat) (t : ByteArray) (n j : Nat) (hj : j < n * 32) : upds S (fillU r t n) ((1 + r * 13) * 32 + j) = t.data.toList.getD j 0 := by
  induction n with
  | zero => omega
  | succ n ih =>
    rw [fillU_succ, upds_snoc]
    by_cases h : j < n * 32
    · rw [upd_out (by simp; omega)]
      exact ih h
    · unfold upd
      have e1 : ((1 + r * 13) * 32 + j) / 32 = 1 + r * 13 + n := by omega
      have e2 : ((1 + r * 13) * 32 + j) % 32 = j - n * 32 := by omega
      simp only [e1, if_true, e2]
      rw [partB_data, partL_get t n _ (by omega)]
      congr 1
      omega

/-- The head: the room's number. -/
def markL (r : Nat) : List UInt8 := UInt8.ofNat r :: List.replicate 31 0
def markB (r : Nat) : ByteArray := ⟨(markL r).toArray⟩
theorem markB_size (r : Nat) : (markB r).size = 32 := by simp [markB, markL, ByteArray.size]
theorem markB_data (r : Nat) : (markB r).data.toList = markL r := by simp [markB]

theorem untilZ_pad (t : ByteArray) (ht : t.size ≤ 400) (hz : ∀ c ∈ t.data.toList, c ≠ 0) : untilZ ((List.range 416).map fun j => t.data.toList.getD j 0) = t := by
  have hsz : t.data.toList.length = t.size := by rw [Array.length_toList]; rfl
  have h1 : (List.range 416).map (fun j => t.data.toList.getD j 0) = t.data.toList ++ List.replicate (416 - t.size) 0 := by
    apply List.ext_getElem
    · simp; have : t.data.size = t.size := rfl; omega
    · intro i h1 h2
      rw [List.getElem_map, List.getElem_range]
      by_cases hi : i < t.data.toList.length
      · rw [List.getElem_append_left hi, List.getD_eq_getElem?_getD, List.getElem?_eq_getElem hi, Option.getD_some]
      · rw [List.getElem_append_right (by omega), List.getElem_replicate, List.getD_eq_getElem?_getD, List.getElem?_eq_none (by omega), Option.getD_none]
  unfold untilZ
  rw [h1, List.takeWhile_append_of_pos (by intro a ha; simpa using hz a ha)]
  have h2 : 416 - t.size = (415 - t.size) + 1 := by omega
  rw [h2, List.replicate_succ, List.takeWhile_cons_of_neg (by simp), List.append_nil]

/-- Behind the head the text is held. -/
theorem held_new (S : Nat → UInt8) (r : Nat) (hr : r ≤ 1) (t : ByteArray) (ht : t.size ≤ 400) (hz : ∀ c ∈ t.data.toList, c ≠ 0) : held (upd (upds S (fillU r t 13)) 0 (markB r).data.toList) = t := by
  have hro : roomOf (upd (upds S (fillU r t 13)) 0 (markB r).data.toList) = r := by
    have h0 : upd (upds S (fillU r t 13)) 0 (markB r).data.toList 0 = UInt8.ofNat r := by rw [markB_data]; simp [upd, markL]
    unfold roomOf
    rw [h0]
    rcases Nat.lt_or_ge r 1 with h | h
    · have : r = 0 := by omega
      subst this; simp
    · have : r = 1 := by omega
      subst this; simp
  unfold held
  rw [hro]
  have : roomPart (upd (upds S (fillU r t 13)) 0 (markB r).data.toList) r 13 = (List.range 416).map fun j => t.data.toList.getD j 0 := by
    unfold roomPart
    apply List.map_congr_left
    intro j hj
    rw [List.mem_range] at hj
    rw [upd_out (by omega), upds_fill _ _ _ _ _ hj]
  rw [this]
  exact untilZ_pad t ht hz

theorem updB_one (keep : Int) (S : Nat → UInt8) (x : Lg) : updB keep S [x] 1 = S ∨ updB keep S [x] 1 = upd S x.sec x.data.data.toList := by
  rw [updB_succ keep S [x] 0 (by simp)]
  split
  · exact .inr rfl
  · exact .inl rfl

end Go.Proofs.YtdlhgbhaeedbdabGreat

/- 'store.Save'. -/
namespace Go.Proofs.YtdlhgbhaeedbdabGreat
open Go.RowKit

/-- What Save leaves: the new text; or the power has gone, and whatever of the late writes lasts, the old text is held or the new one. -/
def SaveEnd (b : Nat) (S : Nat → UInt8) (t : ByteArray) (l : Int) (w : World) (e : Ending) (w' : World) : Prop :=
  ∃ S' E' U' l' d', ApiAt w' b S' E' U' l' d' ∧ l' ≤ 9223372036854775807 ∧ Below b w w' ∧ TK AT w w' ∧ (l < 0 → l' = l ∧ d' = false) ∧ U'.length ≤ 13 ∧ (∀ x ∈ U', x.sec < 64 ∧ x.data.size = 32) ∧
    ((d' = true ∧ e = .returned (.int .i64 7) ∧ ∀ keep, held (updB keep S' U' U'.length) = held S ∨ held (updB keep S' U' U'.length) = t) ∨ (d' = false ∧ e = .returned (.int .i64 0) ∧ U' = [] ∧ E' = S' ∧ held S' = t))

theorem mark_nat {r : Nat} (h : r ≤ 1) : (UInt8.ofNat r).toNat = r := by
  rw [UInt8.toNat_ofNat']; omega
theorem mark_get {r : Nat} (j : Nat) (hj : j < 32) : (if j = 0 then UInt8.ofNat r else 0) = (markL r).getD j 0 := by
  unfold markL
  cases j with
  | zero => rfl
  | succ j => rw [if_neg (by omega), List.getD_eq_getElem?_getD, List.getElem?_cons_succ, List.getElem?_replicate, if_pos (by omega)]; rfl

theorem set_new (w : World) (cs : Array Value) (t : TypeId) (o : Nat) (v : Value) : (w.alloc (.cells cs t)).setCell ⟨w.heap.size, o, none⟩ v = w.alloc (.cells (cs.setIfInBounds o v) t) := by go_simp

theorem room_other {S : Nat → UInt8} : 1 - roomOf S ≠ roomOf S ∧ 1 - roomOf S ≤ 1 := by have := roomOf_le S; omega

set_option maxRecDepth 100000 in
set_option maxHeartbeats 800000 in
theorem save_any (b : Nat) (S : Nat → UInt8) (t : ByteArray) (l : Int) (w : World) (ht : t.size ≤ 400) (hz : ∀ c ∈ t.data.toList, c ≠ 0) (hl : l ≤ 9223372036854775807) (h : ApiAt w b S S [] l false) :
    Calls Tryz.prog 141 #[.pointer (some ⟨b, 0, none⟩), .string t] w fun e w' => SaveEnd b S t l w e w' := by
  have hlt := h.lt
  cases hp : spR l false with
  | false =>
    have HR := hide (holding_dead b S S [] l false w hl hp h)
    have hlow := fun h0 => sp_low (l := l) h0 false
    have hd := spR_false hp
    have Hl := hide (spLeft_le hl)
    have Hlow := hide hlow
    clear h hp hlow
    go_enter Tryz.func141, Tryz.ntmps141
    go_wp2_with fail
    refine (unhide HR).mono ?_
    rintro e w1 ⟨rfl, ha, hbe, htk⟩
    go_wp2_with fail
    go_ret
    exact ⟨_, _, _, _, _, ha, unhide Hl, hbe, htk, fun h0 => ⟨(unhide Hlow h0).1, (unhide Hlow h0).2.1⟩, by simp, by simp, .inl ⟨hd, rfl, fun keep => .inl rfl⟩⟩
  | true =>
    have hd := (spR_true hp).2.2
    have HR := hide (holding_ok b S S [] l false w hl hp h)
    rw [hd] at HR
    have hl1 := spLeft_le hl
    have hlowl : l < 0 → spLeft l = l := fun h0 => (sp_low (l := l) h0 false).1
    obtain ⟨hne, hr1⟩ := room_other (S := S)
    have hro := roomOf_le S
    have hri : (1 : Int) - (roomOf S : Int) = ((1 - roomOf S : Nat) : Int) := by omega
    have Hfb := hide fun (keep : Int) (n k : Nat) (hn : n ≤ 13) => held_fillB keep hne hr1 t hn k
    have Hf1 := hide (held_fill hne hr1 t (Nat.le_refl 13))
    have HF := hide fun (wx : World) (hx : ApiAt wx b S S [] (spLeft l) false) => fill_any b (1 - roomOf S) S t (spLeft l) wx hr1 ht hl1 hx
    have Hlowl := hide hlowl
    generalize hR : 1 - roomOf S = r at *
    generalize spLeft l = l1 at *
    generalize roomOf S = q at *
    clear h hp hne hlowl
    go_enter Tryz.func141, Tryz.ntmps141
    go_wp2_with fail
    refine (unhide HR).mono ?_
    rintro e w1 ⟨rfl, ha, hbe1, htk1⟩
    have hsz1 := hbe1.size
    clear HR
    go_wp2_with fail
    refine (unhide HF w1 ha).mono ?_
    rintro e w2 ⟨n, l2, d2, ha2, hn, hl2, hbe2, htk2, hlow2, hcase⟩
    have hbe02 := hbe1.trans hbe2
    have htk02 := htk1.trans htk2
    have hlow02 : l < 0 → l2 = l ∧ d2 = false := fun h0 => by
      have h1 := unhide Hlowl h0
      have := hlow2 (by omega)
      exact ⟨this.1.trans h1, this.2⟩
    have Hlow02 := hide hlow02
    clear HF Hlowl hlow2 hlow02 hbe1 hbe2 htk1 htk2 ha
    rcases hcase with ⟨rfl, rfl⟩ | ⟨rfl, rfl, rfl⟩
    · go_wp2_with fail
      go_ret
      exact ⟨_, _, _, _, _, ha2, hl2, hbe02, htk02, unhide Hlow02, by rw [fillU_len]; omega, fillU_fine hr1 hn, .inl ⟨rfl, rfl, fun keep => .inl (unhide Hfb keep _ _ hn)⟩⟩
    · cases hp2 : spR l2 false with
      | false =>
        have hd2 := spR_false hp2
        have HW := hide (aflush_dead b S _ _ l2 false w2 hl2 ha2 hp2)
        rw [hd2] at HW
        have Hl3 := hide (spLeft_le hl2)
        have Hdl : Hid (l < 0 → False) := hide fun h0 => by
          have h1 := (unhide Hlow02 h0).1
          have := (sp_low (l := l2) (by omega) false).2.1
          rw [hd2] at this; cases this
        clear hp2 ha2 Hlow02
        go_wp2_with fail
        refine (unhide HW).mono ?_
        rintro e w3 ⟨rfl, ha3, hbe3, htk3⟩
        go_wp2_with fail
        go_ret
        exact ⟨_, _, _, _, _, ha3, unhide Hl3, hbe02.trans hbe3, htk02.trans htk3, fun h0 => (unhide Hdl h0).elim, by rw [fillU_len]; omega, fillU_fine hr1 hn, .inl ⟨rfl, rfl, fun keep => .inl (unhide Hfb keep _ _ hn)⟩⟩
      | true =>
        have hd2 := (spR_true hp2).2.2
        have HW := hide (aflush_ok b S _ _ l2 false w2 hl2 (by rw [fillU_len]; omega) (fillU_fine hr1 hn) ha2 hp2)
        rw [hd2, updTo_all] at HW
        have hl3 := spLeft_le hl2
        have hlow3 : l < 0 → spLeft l2 = l := fun h0 => by
          have h1 := (unhide Hlow02 h0).1
          rw [(sp_low (l := l2) (by omega) false).1]; exact h1
        have Hlow3 := hide hlow3
        have hh2 := held_new S r hr1 t ht hz
        have Hh2 := hide hh2
        generalize spLeft l2 = l3 at *
        generalize upds S (fillU r t 13) = S1 at *
        clear hp2 ha2 Hlow02 hlow3 hh2
        have hmk := run_make32
        go_wp2_with fail
        refine (unhide HW).mono ?_
        rintro e w3 ⟨rfl, ha3, hbe3, htk3⟩
        have hbe03 := hbe02.trans hbe3
        have htk03 := htk02.trans htk3
        clear HW hbe02 htk02 hbe3 htk3
        have hm0 := bytes_made w3 32
        have hbm := mkBytes_below w3
        have hst := (hm0.set (j := 0) (by omega) (UInt8.ofNat r))
        rw [mark_nat hr1] at hst
        have hbs : Below w3.heap.size w3 ((w3.alloc (.cells (madeBytes 32) 5)).setCell ⟨w3.heap.size, 0, none⟩ (.int .u8 r)) := hbm.setCell (p := ⟨w3.heap.size, 0, none⟩) (Nat.le_refl _) _
        have ha4 := ha3.keep (T := fun _ => False) (TK.of_below hbs) id id
        have hby : ∀ j (_ : j < 32), ((w3.alloc (.cells (madeBytes 32) 5)).setCell ⟨w3.heap.size, 0, none⟩ (.int .u8 r)).cell? ⟨w3.heap.size, j, none⟩ = some (.int .u8 ((markB r).data.toList.getD j 0).toNat) := fun j hj => by
          rw [hst.cell j hj, markB_data, mark_get j hj]
        have HW := hide (awrite_ok b 0 w3.heap.size 32 (markB r) S1 S1 [] l3 _ (by omega) (markB_size r) hl3 (by simp) (by simp) hst.lt hby ha4)
        rw [set_new] at HW
        have htk04 := htk03.trans (TK.of_below (T := AT) hbs)
        have hlt3 := ha3.lt
        have hbe04 := hbe03.trans (hbs.mono (Nat.le_of_lt hlt3))
        have hc0 : (madeBytes 32)[0]? = some (.int .u8 0) := by kernel_rfl
        rw [set_new] at hbe04 htk04
        have Hbe := hide hbe04
        have Htk := hide htk04
        clear hm0 hbm hst hbs ha4 hby hbe04 htk04 ha3 hbe03 htk03
        go_wp2_with fail
        have HK : Hid (∀ keep : Int, held (updB keep S1 [⟨0, markB r, false⟩] [(⟨0, markB r, false⟩ : Lg)].length) = held S ∨ held (updB keep S1 [⟨0, markB r, false⟩] [(⟨0, markB r, false⟩ : Lg)].length) = t) := hide fun keep => by
          rcases updB_one keep S1 ⟨0, markB r, false⟩ with h | h
          · exact .inl ((congrArg held h).trans (unhide Hf1))
          · exact .inr ((congrArg held h).trans (unhide Hh2))
        have HU : Hid (∀ x ∈ [(⟨0, markB r, false⟩ : Lg)], x.sec < 64 ∧ x.data.size = 32) := hide fun x hx => by
          simp only [List.mem_singleton] at hx
          subst hx
          exact ⟨Nat.zero_lt_succ _, markB_size r⟩
        refine (unhide HW).mono ?_
        rintro e w4 ⟨rfl, ha4, hbe4, htk4⟩
        have Hl4 := hide (spLeft_le hl3)
        cases hp4 : spR l3 false with
        | false =>
          have hd4 := spR_false hp4
          rw [hd4] at ha4
          simp only [Bool.false_eq_true, if_false]
          have Hdl : Hid (l < 0 → False) := hide fun h0 => by
            have h1 := unhide Hlow3 h0
            have := (sp_low (l := l3) (by omega) false).2.1
            rw [hd4] at this; cases this
          clear hp4 HW
          go_wp2_with fail
          go_ret
          exact ⟨_, _, _, _, _, ha4, unhide Hl4, (unhide Hbe).trans hbe4, (unhide Htk).trans htk4, fun h0 => (unhide Hdl h0).elim, by simp, unhide HU, .inl ⟨rfl, rfl, unhide HK⟩⟩
        | true =>
          have hd4 := (spR_true hp4).2.2
          rw [hd4] at ha4
          simp only [if_true]
          have hl4 := unhide Hl4
          have hlow4 : l < 0 → spLeft l3 = l := fun h0 => by
            have h1 := unhide Hlow3 h0
            rw [(sp_low (l := l3) (by omega) false).1]; exact h1
          have Hlow4 := hide hlow4
          have hbe04 := (unhide Hbe).trans hbe4
          have htk04 := (unhide Htk).trans htk4
          generalize spLeft l3 = l4 at *
          clear hp4 HW hlow4 Hbe Htk hbe4 htk4
          cases hp5 : spR l4 false with
          | false =>
            have hd5 := spR_false hp5
            have HX := hide (aflush_dead b S1 _ _ l4 false w4 hl4 ha4 hp5)
            rw [hd5] at HX
            have Hl5 := hide (spLeft_le hl4)
            have Hdl : Hid (l < 0 → False) := hide fun h0 => by
              have h1 := unhide Hlow4 h0
              have := (sp_low (l := l4) (by omega) false).2.1
              rw [hd5] at this; cases this
            clear hp5 ha4
            go_wp2_with fail
            refine (unhide HX).mono ?_
            rintro e w5 ⟨rfl, ha5, hbe5, htk5⟩
            go_wp2_with fail
            go_ret
            exact ⟨_, _, _, _, _, ha5, unhide Hl5, hbe04.trans hbe5, htk04.trans htk5, fun h0 => (unhide Hdl h0).elim, by simp, unhide HU, .inl ⟨rfl, rfl, unhide HK⟩⟩
          | true =>
            have hd5 := (spR_true hp5).2.2
            have HX := hide (aflush_ok b S1 _ _ l4 false w4 hl4 (by simp) (unhide HU) ha4 hp5)
            rw [hd5] at HX
            have Hl5 := hide (spLeft_le hl4)
            have hlow5 : l < 0 → spLeft l4 = l := fun h0 => by
              have h1 := unhide Hlow4 h0
              rw [(sp_low (l := l4) (by omega) false).1]; exact h1
            have Hlow5 := hide hlow5
            clear hp5 ha4 hlow5
            go_wp2_with fail
            refine (unhide HX).mono ?_
            rintro e w5 ⟨rfl, ha5, hbe5, htk5⟩
            go_wp2_with fail
            go_ret
            exact ⟨_, _, _, _, _, ha5, unhide Hl5, hbe04.trans hbe5, htk04.trans htk5, fun h0 => ⟨unhide Hlow5 h0, rfl⟩, by simp, by simp, .inr ⟨rfl, rfl, rfl, rfl, unhide Hh2⟩⟩

end Go.Proofs.YtdlhgbhaeedbdabGreat

/- Drives in memory; 'Bank.Add'. -/
namespace Go.Proofs.YtdlhgbhaeedbdabGreat
open Go.RowKit

/-- A drive, its block, and the row of its blocks. -/
structure Bk where
  d : Drv
  p : Nat
  v : Value

def Bk.pv (q : Bk) : Nat × Value := (q.p, q.v)

def Bk.ptr (q : Bk) : Value := .pointer (some ⟨q.p, 0, none⟩)

def drvCells (q : Bk) : Array Value := #[.string q.d.name, q.v, .int .i64 q.d.holder]

/-- The drive lies in its block. -/
structure DrvAt (w : World) (base : Nat) (q : Bk) : Prop where
  lo : base ≤ q.p
  blk : w.heap[q.p]? = some (.cells (drvCells q) 172 (0, 0))
  row : w.ownsRow base 3 1 q.v q.d.blocks.length (q.d.blocks.map (Value.int .i64))

/-- Two drives have nothing in common. -/
def DApart (q q' : Bk) : Prop := q.p ≠ q'.p ∧ (∀ k, q.v.ownBlock = some k → q'.v.ownBlock ≠ some k)

/-- All drives of a rack, in the row v. -/
structure BankAt (w : World) (base : Nat) (v : Value) (B : List Bk) : Prop where
  row : w.ownsRow base 126 1 v B.length (B.map Bk.ptr)
  drv : ∀ q ∈ B, DrvAt w base q
  apart : B.Pairwise DApart

theorem DrvAt.keep {T : TypeId → Prop} {w w' : World} {base : Nat} {q : Bk} (h : DrvAt w base q) (hk : TK T w w') (h1 : ¬ T 172) (h2 : ¬ T 3) : DrvAt w' base q :=
  ⟨h.lo, (hk.block _ _ _ _ h.blk h1).trans h.blk, hk.row h2 h.row⟩

theorem DrvAt.lt {w : World} {base : Nat} {q : Bk} (h : DrvAt w base q) : q.p < w.heap.size := (Array.getElem?_eq_some_iff.1 h.blk).1

theorem BankAt.keep {T : TypeId → Prop} {w w' : World} {base : Nat} {v : Value} {B : List Bk} (h : BankAt w base v B) (hk : TK T w w') (h0 : ¬ T 126) (h1 : ¬ T 172) (h2 : ¬ T 3) : BankAt w' base v B :=
  ⟨hk.row h0 h.row, fun q hq => (h.drv q hq).keep hk h1 h2, h.apart⟩

/-- The rack's block: what of it is as it was. -/
structure RCell (r : Nat) (P : Nat → Prop) (w w' : World) : Prop where
  cell : ∀ o, P o → w'.cell? ⟨r, o, none⟩ = w.cell? ⟨r, o, none⟩
  fz : ∀ o, w'.frozen? ⟨r, o, none⟩ = w.frozen? ⟨r, o, none⟩
  ty : (∃ cs fr, w.heap[r]? = some (Obj.cells cs 79 fr)) → ∃ cs fr, w'.heap[r]? = some (Obj.cells cs 79 fr)

theorem RCell.refl (r : Nat) (P : Nat → Prop) (w : World) : RCell r P w w := ⟨fun _ _ => rfl, fun _ => rfl, id⟩
theorem RCell.trans {r : Nat} {P : Nat → Prop} {a b c : World} (h : RCell r P a b) (k : RCell r P b c) : RCell r P a c :=
  ⟨fun o ho => (k.cell o ho).trans (h.cell o ho), fun o => (k.fz o).trans (h.fz o), fun e => k.ty (h.ty e)⟩
theorem RCell.mono {r : Nat} {P P' : Nat → Prop} {a b : World} (h : RCell r P a b) (hp : ∀ o, P' o → P o) : RCell r P' a b := ⟨fun o ho => h.cell o (hp o ho), h.fz, h.ty⟩
theorem RCell.of_block {r : Nat} {P : Nat → Prop} {w w' : World} (h : w'.heap[r]? = w.heap[r]?) : RCell r P w w' :=
  ⟨fun _ _ => World.cell?_of_block h, fun _ => World.frozen?_of_block h, fun ⟨cs, fr, e⟩ => ⟨cs, fr, h.trans e⟩⟩
theorem RCell.of_tk {T : TypeId → Prop} {r : Nat} {P : Nat → Prop} {w w' : World} (hk : TK T w w') (h1 : ¬ T 79) (ht : ∃ cs fr, w.heap[r]? = some (Obj.cells cs 79 fr)) : RCell r P w w' := by
  obtain ⟨cs, fr, e⟩ := ht
  exact RCell.of_block (hk.block r cs _ fr e h1)
theorem RCell.set {r o : Nat} {P : Nat → Prop} {w : World} (hP : ¬ P o) (u : Value) : RCell r P w (w.setCell ⟨r, o, none⟩ u) :=
  ⟨fun o' ho => by rw [World.cell?_setCell_other _ _ _ _ (by intro e; simp only [Addr.mk.injEq] at e; exact hP (by rw [e.2.1]; exact ho))], fun o' => by simp, fun e => ty_set e u⟩

/-- A row of zeroes. -/
theorem zeros_succ (k : Nat) : (List.replicate (k + 1) (0 : Int)).map (Value.int .i64) = (List.replicate k (0 : Int)).map (Value.int .i64) ++ [.int .i64 0] := by
  rw [List.replicate_succ', List.map_append]; rfl

theorem Tryz.infoInt : (Tryz.prog.info? 3).map (fun i => (i.zero, i.size, i.bytes)) = some (some (.int .i64 0), 1, 8) := by kernel_rfl
theorem Tryz.infoPtr : (Tryz.prog.info? 126).map (fun i => (i.zero, i.size, i.bytes)) = some (some (.pointer none), 1, 8) := by kernel_rfl

theorem one_int (x : Int) : ∀ u ∈ [Value.int .i64 x], u.oneCell' = true := by intro u hu; simp at hu; subst hu; rfl
theorem one_ptr (x : Option Addr) : ∀ u ∈ [Value.pointer x], u.oneCell' = true := by intro u hu; simp at hu; subst hu; rfl

/-- The types of what Bank changes. -/
def KB (t : TypeId) : Prop := t = 79 ∨ t = 126

theorem kb_drive : ¬ KB 172 := by unfold KB; decide
theorem kb_int : ¬ KB 3 := by unfold KB; decide

theorem heap_set_same {w : World} {g o : Nat} {cs : Array Value} {t : TypeId} {fr : Nat × Nat} (h : w.heap[g]? = some (.cells cs t fr)) (u : Value) : (w.setCell ⟨g, o, none⟩ u).heap[g]? = some (.cells (cs.setIfInBounds o u) t fr) := by
  simp [World.setCell, Array.getElem?_modify, h]

theorem block_set_ne {w : World} {g o k : Nat} (u : Value) (h : k ≠ g) : (w.setCell ⟨g, o, none⟩ u).heap[k]? = w.heap[k]? := Below.heap_setCell _ _ _ _ h

/-- A block of another type is not a row's. -/
theorem rack_ne {w : World} {r base : Nat} {t e : TypeId} {size n : Nat} {v : Value} {xs : List Value} (hty : ∃ cs fr, w.heap[r]? = some (Obj.cells cs t fr)) (ho : w.ownsRow base e size v n xs) (hne : t ≠ e) : some r ≠ v.ownBlock := by
  intro h
  obtain ⟨cs, fr, hty⟩ := hty
  obtain ⟨_, ⟨rfl, _⟩ | ⟨g, cap, cur, rfl, _, hcur, _⟩⟩ := ho
  · cases h
  · simp only [Value.ownBlock, Option.some.injEq] at h
    subst h
    rw [hty] at hcur
    simp only [Option.some.injEq, Obj.cells.injEq] at hcur
    exact hne hcur.2.1

/-- The drives and their row are in none of these blocks. -/
def BOut (out : Nat → Prop) (v : Value) (B : List Bk) : Prop :=
  (∀ k, v.ownBlock = some k → ¬ out k) ∧ ∀ q ∈ B, ¬ out q.p ∧ ∀ k, q.v.ownBlock = some k → ¬ out k

theorem BOut.nil (v : Value) (B : List Bk) : BOut gh0.out v B := ⟨fun _ _ => id, fun _ _ => ⟨id, fun _ _ => id⟩⟩

theorem BOut.pv {out : Nat → Prop} {v : Value} {B B' : List Bk} (h : BOut out v B) (e : B'.map Bk.pv = B.map Bk.pv) : BOut out v B' := by
  refine ⟨h.1, fun q hq => ?_⟩
  have h1 : q.pv ∈ B.map Bk.pv := by rw [← e]; exact List.mem_map.2 ⟨q, hq, rfl⟩
  obtain ⟨q0, h2, h3⟩ := List.mem_map.1 h1
  simp only [Bk.pv, Prod.mk.injEq] at h3
  rw [← h3.1, ← h3.2]
  exact h.2 q0 h2

/-- What Add leaves. -/
def AddEnd (r b : Nat) (v : Value) (B : List Bk) (d : Drv) (w : World) (e : Ending) (w' : World) : Prop :=
  e = .returned (.tuple #[]) ∧ (∃ v' q, q.d = d ∧ w'.cell? ⟨r, 2, none⟩ = some v' ∧ BankAt w' (b + 1) v' (B ++ [q]) ∧ ∀ out : Nat → Prop, (∀ k, out k → k < w.heap.size) → BOut out v B → BOut out v' (B ++ [q])) ∧ TK KB w w' ∧ Below (b + 1) w w' ∧ RCell r (fun o => o ≠ 2) w w' ∧
    ∀ k, k < w.heap.size → k ≠ r → v.ownBlock ≠ some k → w'.heap[k]? = w.heap[k]?

/-- A drive is laid into the row. -/
theorem BankAt.add {w w1 w2 : World} {r b : Nat} {v v' : Value} {B : List Bk} {q : Bk} {o1 : Obj} (hr : b < r) (hty : ∃ cs fr, w.heap[r]? = some (Obj.cells cs 79 fr)) (hc : w.cell? ⟨r, 2, none⟩ = some v) (h : BankAt w (b + 1) v B)
    (hb1 : Below w.heap.size w w1) (hq : DrvAt w1 w.heap.size q) (hp : q.p = w.heap.size)
    (hg : (w1.alloc o1).grownBy w2 v.ownBlock) (hn : w2.ownsRow (b + 1) 126 1 v' (B.length + 1) (B.map Bk.ptr ++ [q.ptr]))
    (hlie : ∀ k, v'.ownBlock = some k → v.ownBlock = some k ∨ w.heap.size ≤ k) :
    AddEnd r b v B q.d w (.returned (.tuple #[])) (w2.setCell ⟨r, 2, none⟩ v') := by
  obtain ⟨cs, fr, hty'⟩ := hty
  have hlt : r < w.heap.size := (Array.getElem?_eq_some_iff.1 hty').1
  have hba : Below w.heap.size w (w1.alloc o1) := hb1.alloc hb1.size _
  have hown1 : (w1.alloc o1).ownsRow (b + 1) 126 1 v B.length (B.map Bk.ptr) := owns_later h.row hba
  have htk1 : TK KB w (w1.alloc o1) := TK.of_below hba
  have htk2 : TK KB w w2 := htk1.trans (TK.grown hown1 hg (.inr rfl))
  have hBel : Below (b + 1) w w2 := (hba.mono (by omega)).grown hg (by have := hba.size; omega) (fun k e => (hown1.lt k e).1)
  have hbr : w2.heap[r]? = w.heap[r]? := (hg.block r (by have := hba.size; omega) (rack_ne ⟨cs, fr, hty'⟩ h.row (by decide))).trans (hba.block r hlt)
  have htk3 : TK KB w2 (w2.setCell ⟨r, 2, none⟩ v') := TK.setCell (hbr.trans hty') (.inl rfl) v'
  have htk := htk2.trans htk3
  have hts : TK (fun t => t = 79) w2 (w2.setCell ⟨r, 2, none⟩ v') := TK.setCell (T := fun t => t = 79) (hbr.trans hty') rfl v'
  have hkq : TK KB w1 (w2.setCell ⟨r, 2, none⟩ v') := ((TK.of_below ((Below.refl _ _).alloc (Nat.le_refl _) _)).trans (TK.grown hown1 hg (.inr rfl))).trans htk3
  have hq2 := hq.keep hkq kb_drive kb_int
  refine ⟨rfl, ⟨v', q, rfl, World.cell?_setCell_same _ _ _ ((World.cell?_of_block hbr).trans hc), ⟨?_, ?_, ?_⟩, ?_⟩, htk, hBel.setCell (p := ⟨r, 2, none⟩) (by simp; omega) _, (RCell.of_block hbr).trans (RCell.set (by simp) _), ?_⟩
  · have := hts.row (by decide) hn
    simpa using this
  · intro x hx
    rcases List.mem_append.1 hx with h1 | h1
    · exact (h.drv x h1).keep htk kb_drive kb_int
    · rw [List.mem_singleton.1 h1]
      exact ⟨by rw [hp]; omega, hq2.blk, owns_mono hq2.row (by omega)⟩
  · rw [List.pairwise_append]
    refine ⟨h.apart, by simp, fun x hx y hy => ?_⟩
    rw [List.mem_singleton.1 hy]
    have hd := h.drv x hx
    refine ⟨by have := hd.lt; omega, fun k e e' => ?_⟩
    have h1 := (hd.row.lt k e).2
    have h2 := (hq.row.lt k e').1
    omega
  · intro out ho hB
    refine ⟨fun k e hk => ?_, fun x hx => ?_⟩
    · rcases hlie k e with h1 | h1
      · exact hB.1 k h1 hk
      · have := ho k hk
        omega
    · rcases List.mem_append.1 hx with h1 | h1
      · exact hB.2 x h1
      · rw [List.mem_singleton.1 h1]
        refine ⟨fun hk => ?_, fun k e hk => ?_⟩
        · have := ho _ hk
          omega
        · have h2 := (hq.row.lt k e).1
          have := ho k hk
          omega
  · intro k hk hkr hkv
    rw [block_set_ne _ hkr]
    exact (hg.block k (by have := hba.size; omega) (fun e => hkv e.symm)).trans (hba.block k hk)

set_option maxRecDepth 100000 in
set_option maxHeartbeats 400000 in
theorem add_any (r b k : Nat) (n : ByteArray) (v : Value) (B : List Bk) (w : World) (hk : k ≤ 9) (hB : B.length ≤ 1000) (hr : b < r) (hty : ∃ cs fr, w.heap[r]? = some (Obj.cells cs 79 fr)) (hc : w.cell? ⟨r, 2, none⟩ = some v) (hf : w.frozen? ⟨r, 2, none⟩ = false) (h : BankAt w (b + 1) v B) :
    Calls Tryz.prog 118 #[.pointer (some ⟨r, 2, none⟩), .string n, .int .i64 k] w fun e w' => AddEnd r b v B ⟨n, List.replicate k 0, -1⟩ w e w' := by
  have hlt : r < w.heap.size := by obtain ⟨cs, fr, e⟩ := hty; exact (Array.getElem?_eq_some_iff.1 e).1
  obtain ⟨i0, hi, hz0, hz1, hz2⟩ := info_parts Tryz.infoInt
  obtain ⟨j0, hj, hy0, hy1, hy2⟩ := info_parts Tryz.infoPtr
  obtain ⟨a, cap, rfl⟩ := slice_of_owns h.row
  have HH := hide fun w1 w2 v' q o1 hb1 hq hp hg hn hlie => BankAt.add (w1 := w1) (w2 := w2) (v' := v') (q := q) (o1 := o1) hr hty hc h hb1 hq hp hg hn hlie
  have Hrow := hide h.row
  have Hne := hide (rack_ne hty h.row (by decide))
  clear hty h
  go_enter Tryz.func118, Tryz.ntmps118
  go_wp2
  go_loopw [7] (fun i wr => ∃ j : Nat, j ≤ k ∧ i = .int .i64 j ∧ ∃ u, wr.heap[w.heap.size]? = some (.cells #[.string n, u, .int .i64 (-1)] 172 (0, 0)) ∧ wr.ownsRow (w.heap.size + 1) 3 1 u j ((List.replicate j (0 : Int)).map (Value.int .i64)) ∧ Below w.heap.size w wr) (fun i _ => k - (intOf i).toNat)
  case atStart => exact ⟨0, Nat.zero_le _, rfl, .slice none 0 0, heap_alloc_new _ _, World.ownsRow_nil _ _ _ _, (Below.refl _ _).alloc (Nat.le_refl _) _⟩
  case round =>
    obtain ⟨j, hjk, rfl, u, hblk, hown, hbe⟩ := hrel
    obtain ⟨ua, uc, rfl⟩ := slice_of_owns hown
    have hs := hbe.size
    have hlb : w.heap.size < wr.heap.size := (Array.getElem?_eq_some_iff.1 hblk).1
    have d1 : wr.cell? ⟨w.heap.size, 1, none⟩ = some (.slice ua j uc) := by simp [World.cell?, hblk]
    have g1 : wr.frozen? ⟨w.heap.size, 1, none⟩ = false := by simp [World.frozen?, hblk]
    by_cases hlt2 : j < k
    · have hlt' : (j : Int) < (k : Int) := by omega
      have Hz := hide (zeros_succ j)
      generalize hZ : (List.replicate j (0 : Int)).map (Value.int .i64) = Z at *
      clear hZ
      go_wp2_with (at_builtin; refine wpList_append_own _ rfl _ _ 45 rfl (w.heap.size + 1) 3 i0 (.int .i64 0) 1 8 Tryz.underlying45 hi hz0 hz1 hz2 rfl (by decide) (.slice ua j uc) j Z ?hs ?c0 ⟨wr.heap.size, 0, none⟩ 1 1 [.int .i64 0] ?hx rfl ?c1 (one_int _) ?c3 ?c4 ?c5 ?_)
      case hs => rfl
      case c0 => exact hown.alloc _
      case hx => rfl
      case c1 => exact cell_one_new _ _ _
      case c3 => unfold maxLen; omega
      case c4 => omega
      case c5 => simp; omega
      intro v' w2 hown' hgrow _
      obtain ⟨va, vc, rfl⟩ := slice_of_owns hown'
      have hba := hbe.alloc hs (.cells #[.int .i64 0] 3)
      have hb2 : Below w.heap.size w w2 := hba.grown hgrow (by have := hba.size; simp; omega) (fun k e => by have := (hown.lt k e).1; omega)
      have hblk2 : w2.heap[w.heap.size]? = some (.cells #[.string n, .slice ua j uc, .int .i64 (-1)] 172 (0, 0)) := by
        rw [hgrow.block w.heap.size (by simp; omega) (fun e => by have := (hown.lt _ e.symm).1; omega), Below.heap_alloc _ _ _ hlb]
        exact hblk
      have e1 : w2.cell? ⟨w.heap.size, 1, none⟩ = some (.slice ua j uc) := by simp [World.cell?, hblk2]
      have e2 : w2.frozen? ⟨w.heap.size, 1, none⟩ = false := by simp [World.frozen?, hblk2]
      clear hgrow d1 g1
      go_wp2
      go_roundw
      case rel =>
        refine ⟨j + 1, by omega, by go_num, .slice va (j + 1) vc, ?_, ?_, hb2.setCell (p := ⟨w.heap.size, 1, none⟩) (Nat.le_refl _) _⟩
        · exact heap_set_same hblk2 _
        · rw [unhide Hz]; exact ownsRow_setCell_below hown' (by simp) _
      case measure => simp [intOf]; omega
    · have hjk2 : j = k := by omega
      subst hjk2
      have hc2 : wr.cell? ⟨r, 2, none⟩ = some (.slice a B.length cap) := (hbe.cell (p := ⟨r, 2, none⟩) hlt).trans hc
      have hf2 : wr.frozen? ⟨r, 2, none⟩ = false := (hbe.frozen (p := ⟨r, 2, none⟩) hlt).trans hf
      have Hq := hide (⟨Nat.le_refl _, hblk, owns_mono (by simpa using hown) (by omega)⟩ : DrvAt wr w.heap.size ⟨⟨n, List.replicate j 0, -1⟩, w.heap.size, .slice ua j uc⟩)
      have Hrow2 := hide (owns_later (unhide Hrow) hbe)
      clear hown
      go_wp2_with (at_builtin; refine wpList_append_lies _ rfl _ _ 71 rfl (b + 1) 126 j0 (.pointer none) 1 8 Tryz.underlying71 hj hy0 hy1 hy2 rfl (by decide) (.slice a B.length cap) B.length (B.map Bk.ptr) ?hs ?c0 ⟨wr.heap.size, 0, none⟩ 1 1 [.pointer (some ⟨w.heap.size, 0, none⟩)] ?hx rfl ?c1 (one_ptr _) (by decide) ?c3 ?c4 ?c5 _ rfl ?_)
      case hs => rfl
      case c0 => exact (unhide Hrow2).alloc _
      case hx => rfl
      case c1 => exact cell_one_new _ _ _
      case c3 => unfold maxLen; omega
      case c4 => omega
      case c5 => simp; omega
      intro g vc w2 hown' hgrow hat hglt
      have hE := unhide HH _ _ _ _ _ hbe (unhide Hq) rfl hgrow hown' (fun k e => by
        have e' : g = k := by simpa [Value.ownBlock] using e
        rcases hat with h1 | h1
        · exact .inl (by rw [h1, e'])
        · right; first | omega | (simp at h1; omega))
      have hbr : w2.cell? ⟨r, 2, none⟩ = some (.slice a B.length cap) ∧ w2.frozen? ⟨r, 2, none⟩ = false := by
        have hne := unhide Hne
        exact ⟨(World.cell?_of_block (hgrow.block r (by simp; omega) hne)).trans ((World.cell?_of_block (Below.heap_alloc _ _ r (by omega))).trans hc2), (World.frozen?_of_block (hgrow.block r (by simp; omega) hne)).trans ((World.frozen?_of_block (Below.heap_alloc _ _ r (by omega))).trans hf2)⟩
      obtain ⟨k2, k3⟩ := hbr
      have HE := hide hE
      clear hE hgrow hown' hc2 hf2 d1 g1 hblk
      go_wp2
      go_end0
      exact unhide HE

end Go.Proofs.YtdlhgbhaeedbdabGreat
