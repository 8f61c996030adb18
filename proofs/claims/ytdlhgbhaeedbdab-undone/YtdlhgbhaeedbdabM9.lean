/- St4, St5, Pl1. -/
import Derived.Test.YtdlhgbhaeedbdabM8
import Derived.Test.YtdlhgbhaeedbdabM5

/- What a device holds: plain mathematics. -/
namespace Go.Proofs.Ytdlhgbhaeedbdab
open Go.RowKit

theorem upd_out {S : Nat → UInt8} {i j : Nat} {d : List UInt8} (h : i ≠ j / 32) : upd S i d j = S j := by simp [upd, h]

theorem updB_out (keep : Int) (S : Nat → UInt8) (U : List Lg) (j : Nat) (h : ∀ x ∈ U, x.sec ≠ j / 32) (k : Nat) : updB keep S U k j = S j := by
  induction k with
  | zero => rfl
  | succ k ih =>
    by_cases hk : k < U.length
    · rw [updB_succ keep S U k hk]
      split
      · rw [upd_out (h _ (List.getElem_mem hk)), ih]
      · exact ih
    · have hn : U[k]? = none := List.getElem?_eq_none (Nat.le_of_not_lt hk)
      have : updB keep S U (k + 1) = updB keep S U k := by simp only [updB, hn]
      rw [this]; exact ih

theorem upds_out (S : Nat → UInt8) (U : List Lg) (j : Nat) (h : ∀ x ∈ U, x.sec ≠ j / 32) : upds S U j = S j := by
  induction U generalizing S with
  | nil => rfl
  | cons x U ih =>
    show upds (upd S x.sec x.data.data.toList) U j = S j
    rw [ih _ (fun y hy => h y (by simp [hy])), upd_out (h x (by simp))]

theorem roomPart_congr {E E' : Nat → UInt8} {r k : Nat} (h : ∀ j, j < k * 32 → E ((1 + r * 13) * 32 + j) = E' ((1 + r * 13) * 32 + j)) : roomPart E r k = roomPart E' r k := by
  unfold roomPart
  apply List.map_congr_left
  intro j hj
  exact h j (List.mem_range.1 hj)

theorem held_congr {E E' : Nat → UInt8} (h0 : E' 0 = E 0) (h : ∀ j, j < 416 → E' ((1 + roomOf E * 13) * 32 + j) = E ((1 + roomOf E * 13) * 32 + j)) : held E' = held E := by
  have hr : roomOf E' = roomOf E := by unfold roomOf; rw [h0]
  unfold held
  rw [hr, roomPart_congr h]

/-- Writes into the other room change nothing that is held. -/
theorem held_other {S E : Nat → UInt8} {r : Nat} (hr : r ≠ roomOf S) (hr1 : r ≤ 1) (h : ∀ j, (j / 32 < 1 + r * 13 ∨ 14 + r * 13 ≤ j / 32) → E j = S j) : held E = held S := by
  have h1 := roomOf_le S
  refine held_congr (h 0 (by omega)) fun j hj => h _ ?_
  omega

theorem held_fillB (keep : Int) {S : Nat → UInt8} {r : Nat} (hr : r ≠ roomOf S) (hr1 : r ≤ 1) (t : ByteArray) {n : Nat} (hn : n ≤ 13) (k : Nat) : held (updB keep S (fillU r t n) k) = held S :=
  held_other hr hr1 fun j hj => updB_out _ _ _ _ (fun x hx => by have := (fillU_in hn x hx).1; omega) _

theorem held_fill {S : Nat → UInt8} {r : Nat} (hr : r ≠ roomOf S) (hr1 : r ≤ 1) (t : ByteArray) {n : Nat} (hn : n ≤ 13) : held (upds S (fillU r t n)) = held S :=
  held_other hr hr1 fun j hj => upds_out _ _ _ (fun x hx => by have := (fillU_in hn x hx).1; omega)

/-- What the writes lay into the room. -/
theorem upds_fill (S : Nat → UInt8) (r : Nat) (t : ByteArray) (n j : Nat) (hj : j < n * 32) : upds S (fillU r t n) ((1 + r * 13) * 32 + j) = t.data.toList.getD j 0 := by
  induction n with
  | zero => omega
  | succ n ih =>
    rw [fillU_succ, upds_snoc]
    by_cases h : j < n * 32
    · rw [upd_out (by simp; omega)]
      exact ih h
    · unfold upd
      have e1 : ((1 + r * 13) * 32 + j) / 32 = 1 + r * 13 + n := by omega
      have e2 : ((1 + r * 13) * 32 + j) % 32 = j - n * 32 := by omega
      simp only [e1, if_true, e2]
      rw [partB_data, partL_get t n _ (by omega)]
      congr 1
      omega

/-- The head: the room's number. -/
def markL (r : Nat) : List UInt8 := UInt8.ofNat r :: List.replicate 31 0
def markB (r : Nat) : ByteArray := ⟨(markL r).toArray⟩
theorem markB_size (r : Nat) : (markB r).size = 32 := by simp [markB, markL, ByteArray.size]
theorem markB_data (r : Nat) : (markB r).data.toList = markL r := by simp [markB]

theorem untilZ_pad (t : ByteArray) (ht : t.size ≤ 400) (hz : ∀ c ∈ t.data.toList, c ≠ 0) : untilZ ((List.range 416).map fun j => t.data.toList.getD j 0) = t := by
  have hsz : t.data.toList.length = t.size := by rw [Array.length_toList]; rfl
  have h1 : (List.range 416).map (fun j => t.data.toList.getD j 0) = t.data.toList ++ List.replicate (416 - t.size) 0 := by
    apply List.ext_getElem
    · simp; have : t.data.size = t.size := rfl; omega
    · intro i h1 h2
      rw [List.getElem_map, List.getElem_range]
      by_cases hi : i < t.data.toList.length
      · rw [List.getElem_append_left hi, List.getD_eq_getElem?_getD, List.getElem?_eq_getElem hi, Option.getD_some]
      · rw [List.getElem_append_right (by omega), List.getElem_replicate, List.getD_eq_getElem?_getD, List.getElem?_eq_none (by omega), Option.getD_none]
  unfold untilZ
  rw [h1, List.takeWhile_append_of_pos (by intro a ha; simpa using hz a ha)]
  have h2 : 416 - t.size = (415 - t.size) + 1 := by omega
  rw [h2, List.replicate_succ, List.takeWhile_cons_of_neg (by simp), List.append_nil]

/-- Behind the head the text is held. -/
theorem held_new (S : Nat → UInt8) (r : Nat) (hr : r ≤ 1) (t : ByteArray) (ht : t.size ≤ 400) (hz : ∀ c ∈ t.data.toList, c ≠ 0) : held (upd (upds S (fillU r t 13)) 0 (markB r).data.toList) = t := by
  have hro : roomOf (upd (upds S (fillU r t 13)) 0 (markB r).data.toList) = r := by
    have h0 : upd (upds S (fillU r t 13)) 0 (markB r).data.toList 0 = UInt8.ofNat r := by rw [markB_data]; simp [upd, markL]
    unfold roomOf
    rw [h0]
    rcases Nat.lt_or_ge r 1 with h | h
    · have : r = 0 := by omega
      subst this; simp
    · have : r = 1 := by omega
      subst this; simp
  unfold held
  rw [hro]
  have : roomPart (upd (upds S (fillU r t 13)) 0 (markB r).data.toList) r 13 = (List.range 416).map fun j => t.data.toList.getD j 0 := by
    unfold roomPart
    apply List.map_congr_left
    intro j hj
    rw [List.mem_range] at hj
    rw [upd_out (by omega), upds_fill _ _ _ _ _ hj]
  rw [this]
  exact untilZ_pad t ht hz

theorem updB_one (keep : Int) (S : Nat → UInt8) (x : Lg) : updB keep S [x] 1 = S ∨ updB keep S [x] 1 = upd S x.sec x.data.data.toList := by
  rw [updB_succ keep S [x] 0 (by simp)]
  split
  · exact .inr rfl
  · exact .inl rfl

end Go.Proofs.Ytdlhgbhaeedbdab

/- 'store.Save'. -/
namespace Go.Proofs.Ytdlhgbhaeedbdab
open Go.RowKit

/-- What Save leaves: the new text; or the power has gone, and whatever of the late writes lasts, the old text is held or the new one. -/
def SaveEnd (b : Nat) (S : Nat → UInt8) (t : ByteArray) (l : Int) (w : World) (e : Ending) (w' : World) : Prop :=
  ∃ S' E' U' l' d', ApiAt w' b S' E' U' l' d' ∧ l' ≤ 9223372036854775807 ∧ Below b w w' ∧ TK AT w w' ∧ (l < 0 → l' = l ∧ d' = false) ∧ U'.length ≤ 13 ∧ (∀ x ∈ U', x.sec < 64 ∧ x.data.size = 32) ∧
    ((d' = true ∧ e = .returned (.int .i64 7) ∧ ∀ keep, held (updB keep S' U' U'.length) = held S ∨ held (updB keep S' U' U'.length) = t) ∨ (d' = false ∧ e = .returned (.int .i64 0) ∧ U' = [] ∧ E' = S' ∧ held S' = t))

theorem mark_nat {r : Nat} (h : r ≤ 1) : (UInt8.ofNat r).toNat = r := by
  rw [UInt8.toNat_ofNat']; omega
theorem mark_get {r : Nat} (j : Nat) (hj : j < 32) : (if j = 0 then UInt8.ofNat r else 0) = (markL r).getD j 0 := by
  unfold markL
  cases j with
  | zero => rfl
  | succ j => rw [if_neg (by omega), List.getD_eq_getElem?_getD, List.getElem?_cons_succ, List.getElem?_replicate, if_pos (by omega)]; rfl

theorem set_new (w : World) (cs : Array Value) (t : TypeId) (o : Nat) (v : Value) : (w.alloc (.cells cs t)).setCell ⟨w.heap.size, o, none⟩ v = w.alloc (.cells (cs.setIfInBounds o v) t) := by go_simp

theorem room_other {S : Nat → UInt8} : 1 - roomOf S ≠ roomOf S ∧ 1 - roomOf S ≤ 1 := by have := roomOf_le S; omega

set_option maxRecDepth 100000 in
set_option maxHeartbeats 800000 in
theorem save_any (b : Nat) (S : Nat → UInt8) (t : ByteArray) (l : Int) (w : World) (ht : t.size ≤ 400) (hz : ∀ c ∈ t.data.toList, c ≠ 0) (hl : l ≤ 9223372036854775807) (h : ApiAt w b S S [] l false) :
    Calls Try.prog 78 #[.pointer (some ⟨b, 0, none⟩), .string t] w fun e w' => SaveEnd b S t l w e w' := by
  have hlt := h.lt
  cases hp : spR l false with
  | false =>
    have HR := hide (holding_dead b S S [] l false w hl hp h)
    have hlow := fun h0 => sp_low (l := l) h0 false
    have hd := spR_false hp
    have Hl := hide (spLeft_le hl)
    have Hlow := hide hlow
    clear h hp hlow
    go_enter Try.func78, Try.ntmps78
    go_wp2_with fail
    refine (unhide HR).mono ?_
    rintro e w1 ⟨rfl, ha, hbe, htk⟩
    go_wp2_with fail
    go_ret
    exact ⟨_, _, _, _, _, ha, unhide Hl, hbe, htk, fun h0 => ⟨(unhide Hlow h0).1, (unhide Hlow h0).2.1⟩, by simp, by simp, .inl ⟨hd, rfl, fun keep => .inl rfl⟩⟩
  | true =>
    have hd := (spR_true hp).2.2
    have HR := hide (holding_ok b S S [] l false w hl hp h)
    rw [hd] at HR
    have hl1 := spLeft_le hl
    have hlowl : l < 0 → spLeft l = l := fun h0 => (sp_low (l := l) h0 false).1
    obtain ⟨hne, hr1⟩ := room_other (S := S)
    have hro := roomOf_le S
    have hri : (1 : Int) - (roomOf S : Int) = ((1 - roomOf S : Nat) : Int) := by omega
    have Hfb := hide fun (keep : Int) (n k : Nat) (hn : n ≤ 13) => held_fillB keep hne hr1 t hn k
    have Hf1 := hide (held_fill hne hr1 t (Nat.le_refl 13))
    have HF := hide fun (wx : World) (hx : ApiAt wx b S S [] (spLeft l) false) => fill_any b (1 - roomOf S) S t (spLeft l) wx hr1 ht hl1 hx
    have Hlowl := hide hlowl
    generalize hR : 1 - roomOf S = r at *
    generalize spLeft l = l1 at *
    generalize roomOf S = q at *
    clear h hp hne hlowl
    go_enter Try.func78, Try.ntmps78
    go_wp2_with fail
    refine (unhide HR).mono ?_
    rintro e w1 ⟨rfl, ha, hbe1, htk1⟩
    have hsz1 := hbe1.size
    clear HR
    go_wp2_with fail
    refine (unhide HF w1 ha).mono ?_
    rintro e w2 ⟨n, l2, d2, ha2, hn, hl2, hbe2, htk2, hlow2, hcase⟩
    have hbe02 := hbe1.trans hbe2
    have htk02 := htk1.trans htk2
    have hlow02 : l < 0 → l2 = l ∧ d2 = false := fun h0 => by
      have h1 := unhide Hlowl h0
      have := hlow2 (by omega)
      exact ⟨this.1.trans h1, this.2⟩
    have Hlow02 := hide hlow02
    clear HF Hlowl hlow2 hlow02 hbe1 hbe2 htk1 htk2 ha
    rcases hcase with ⟨rfl, rfl⟩ | ⟨rfl, rfl, rfl⟩
    · go_wp2_with fail
      go_ret
      exact ⟨_, _, _, _, _, ha2, hl2, hbe02, htk02, unhide Hlow02, by rw [fillU_len]; omega, fillU_fine hr1 hn, .inl ⟨rfl, rfl, fun keep => .inl (unhide Hfb keep _ _ hn)⟩⟩
    · cases hp2 : spR l2 false with
      | false =>
        have hd2 := spR_false hp2
        have HW := hide (aflush_dead b S _ _ l2 false w2 hl2 ha2 hp2)
        rw [hd2] at HW
        have Hl3 := hide (spLeft_le hl2)
        have Hdl : Hid (l < 0 → False) := hide fun h0 => by
          have h1 := (unhide Hlow02 h0).1
          have := (sp_low (l := l2) (by omega) false).2.1
          rw [hd2] at this; cases this
        clear hp2 ha2 Hlow02
        go_wp2_with fail
        refine (unhide HW).mono ?_
        rintro e w3 ⟨rfl, ha3, hbe3, htk3⟩
        go_wp2_with fail
        go_ret
        exact ⟨_, _, _, _, _, ha3, unhide Hl3, hbe02.trans hbe3, htk02.trans htk3, fun h0 => (unhide Hdl h0).elim, by rw [fillU_len]; omega, fillU_fine hr1 hn, .inl ⟨rfl, rfl, fun keep => .inl (unhide Hfb keep _ _ hn)⟩⟩
      | true =>
        have hd2 := (spR_true hp2).2.2
        have HW := hide (aflush_ok b S _ _ l2 false w2 hl2 (by rw [fillU_len]; omega) (fillU_fine hr1 hn) ha2 hp2)
        rw [hd2, updTo_all] at HW
        have hl3 := spLeft_le hl2
        have hlow3 : l < 0 → spLeft l2 = l := fun h0 => by
          have h1 := (unhide Hlow02 h0).1
          rw [(sp_low (l := l2) (by omega) false).1]; exact h1
        have Hlow3 := hide hlow3
        have hh2 := held_new S r hr1 t ht hz
        have Hh2 := hide hh2
        generalize spLeft l2 = l3 at *
        generalize upds S (fillU r t 13) = S1 at *
        clear hp2 ha2 Hlow02 hlow3 hh2
        have hmk := run_make32
        go_wp2_with fail
        refine (unhide HW).mono ?_
        rintro e w3 ⟨rfl, ha3, hbe3, htk3⟩
        have hbe03 := hbe02.trans hbe3
        have htk03 := htk02.trans htk3
        clear HW hbe02 htk02 hbe3 htk3
        have hm0 := bytes_made w3 32
        have hbm := mkBytes_below w3
        have hst := (hm0.set (j := 0) (by omega) (UInt8.ofNat r))
        rw [mark_nat hr1] at hst
        have hbs : Below w3.heap.size w3 ((w3.alloc (.cells (madeBytes 32) 5)).setCell ⟨w3.heap.size, 0, none⟩ (.int .u8 r)) := hbm.setCell (p := ⟨w3.heap.size, 0, none⟩) (Nat.le_refl _) _
        have ha4 := ha3.keep (T := fun _ => False) (TK.of_below hbs) id id
        have hby : ∀ j (_ : j < 32), ((w3.alloc (.cells (madeBytes 32) 5)).setCell ⟨w3.heap.size, 0, none⟩ (.int .u8 r)).cell? ⟨w3.heap.size, j, none⟩ = some (.int .u8 ((markB r).data.toList.getD j 0).toNat) := fun j hj => by
          rw [hst.cell j hj, markB_data, mark_get j hj]
        have HW := hide (awrite_ok b 0 w3.heap.size 32 (markB r) S1 S1 [] l3 _ (by omega) (markB_size r) hl3 (by simp) (by simp) hst.lt hby ha4)
        rw [set_new] at HW
        have htk04 := htk03.trans (TK.of_below (T := AT) hbs)
        have hlt3 := ha3.lt
        have hbe04 := hbe03.trans (hbs.mono (Nat.le_of_lt hlt3))
        have hc0 : (madeBytes 32)[0]? = some (.int .u8 0) := by kernel_rfl
        rw [set_new] at hbe04 htk04
        have Hbe := hide hbe04
        have Htk := hide htk04
        clear hm0 hbm hst hbs ha4 hby hbe04 htk04 ha3 hbe03 htk03
        go_wp2_with fail
        have HK : Hid (∀ keep : Int, held (updB keep S1 [⟨0, markB r, false⟩] [(⟨0, markB r, false⟩ : Lg)].length) = held S ∨ held (updB keep S1 [⟨0, markB r, false⟩] [(⟨0, markB r, false⟩ : Lg)].length) = t) := hide fun keep => by
          rcases updB_one keep S1 ⟨0, markB r, false⟩ with h | h
          · exact .inl ((congrArg held h).trans (unhide Hf1))
          · exact .inr ((congrArg held h).trans (unhide Hh2))
        have HU : Hid (∀ x ∈ [(⟨0, markB r, false⟩ : Lg)], x.sec < 64 ∧ x.data.size = 32) := hide fun x hx => by
          simp only [List.mem_singleton] at hx
          subst hx
          exact ⟨Nat.zero_lt_succ _, markB_size r⟩
        refine (unhide HW).mono ?_
        rintro e w4 ⟨rfl, ha4, hbe4, htk4⟩
        have Hl4 := hide (spLeft_le hl3)
        cases hp4 : spR l3 false with
        | false =>
          have hd4 := spR_false hp4
          rw [hd4] at ha4
          simp only [Bool.false_eq_true, if_false]
          have Hdl : Hid (l < 0 → False) := hide fun h0 => by
            have h1 := unhide Hlow3 h0
            have := (sp_low (l := l3) (by omega) false).2.1
            rw [hd4] at this; cases this
          clear hp4 HW
          go_wp2_with fail
          go_ret
          exact ⟨_, _, _, _, _, ha4, unhide Hl4, (unhide Hbe).trans hbe4, (unhide Htk).trans htk4, fun h0 => (unhide Hdl h0).elim, by simp, unhide HU, .inl ⟨rfl, rfl, unhide HK⟩⟩
        | true =>
          have hd4 := (spR_true hp4).2.2
          rw [hd4] at ha4
          simp only [if_true]
          have hl4 := unhide Hl4
          have hlow4 : l < 0 → spLeft l3 = l := fun h0 => by
            have h1 := unhide Hlow3 h0
            rw [(sp_low (l := l3) (by omega) false).1]; exact h1
          have Hlow4 := hide hlow4
          have hbe04 := (unhide Hbe).trans hbe4
          have htk04 := (unhide Htk).trans htk4
          generalize spLeft l3 = l4 at *
          clear hp4 HW hlow4 Hbe Htk hbe4 htk4
          cases hp5 : spR l4 false with
          | false =>
            have hd5 := spR_false hp5
            have HX := hide (aflush_dead b S1 _ _ l4 false w4 hl4 ha4 hp5)
            rw [hd5] at HX
            have Hl5 := hide (spLeft_le hl4)
            have Hdl : Hid (l < 0 → False) := hide fun h0 => by
              have h1 := unhide Hlow4 h0
              have := (sp_low (l := l4) (by omega) false).2.1
              rw [hd5] at this; cases this
            clear hp5 ha4
            go_wp2_with fail
            refine (unhide HX).mono ?_
            rintro e w5 ⟨rfl, ha5, hbe5, htk5⟩
            go_wp2_with fail
            go_ret
            exact ⟨_, _, _, _, _, ha5, unhide Hl5, hbe04.trans hbe5, htk04.trans htk5, fun h0 => (unhide Hdl h0).elim, by simp, unhide HU, .inl ⟨rfl, rfl, unhide HK⟩⟩
          | true =>
            have hd5 := (spR_true hp5).2.2
            have HX := hide (aflush_ok b S1 _ _ l4 false w4 hl4 (by simp) (unhide HU) ha4 hp5)
            rw [hd5] at HX
            have Hl5 := hide (spLeft_le hl4)
            have hlow5 : l < 0 → spLeft l4 = l := fun h0 => by
              have h1 := unhide Hlow4 h0
              rw [(sp_low (l := l4) (by omega) false).1]; exact h1
            have Hlow5 := hide hlow5
            clear hp5 ha4 hlow5
            go_wp2_with fail
            refine (unhide HX).mono ?_
            rintro e w5 ⟨rfl, ha5, hbe5, htk5⟩
            go_wp2_with fail
            go_ret
            exact ⟨_, _, _, _, _, ha5, unhide Hl5, hbe04.trans hbe5, htk04.trans htk5, fun h0 => ⟨unhide Hlow5 h0, rfl⟩, by simp, by simp, .inr ⟨rfl, rfl, rfl, rfl, unhide Hh2⟩⟩

end Go.Proofs.Ytdlhgbhaeedbdab

/- 'Has', 'HasAll', 'Holds', 'Named', 'Size', at whatever list of items. -/
namespace Go.Proofs.Ytdlhgbhaeedbdab
open Go.RowKit

theorem ItemsAt.below {B : Nat} {w w' : World} {v : Value} {l : List Item} (h : ItemsAt w v l) (hb : Below B w w') (hB : w.heap.size ≤ B) : ItemsAt w' v l := by
  rcases h with h | ⟨g, cap, e, hc, hi⟩
  · exact Or.inl h
  · exact Or.inr ⟨g, cap, e, hc, hi.below hb (Nat.lt_of_lt_of_le hi.1 hB)⟩

/-- A list of items in blocks below B stays while nothing below B turns. -/
def ItemsBel (w : World) (B : Nat) (v : Value) (l : List Item) : Prop :=
  (v = .slice none 0 0 ∧ l = []) ∨ ∃ g cap, v = .slice (some ⟨g, 0, none⟩) l.length cap ∧ l.length ≤ cap ∧ g < B ∧ ItemsIn w g l

theorem has_nil (k : Key) (w : World) :
    Calls Try.prog 80 #[.slice none 0 0, .agg #[.int .i64 k.kind, .string k.name, .string k.host, .int .i64 k.number]] w fun e w' => e = .returned (.bool false) ∧ Below w.heap.size w w' := has_of _ k.kind k.name k.host k.number noItem false w fun wx _ => find_nil k.kind k.name k.host k.number wx

theorem find_at (v : Value) (l : List Item) (k : Key) (w : World) (hl : l.length ≤ 24) (hv : ItemsAt w v l) :
    Calls Try.prog 35 #[v, .agg #[.int .i64 k.kind, .string k.name, .string k.host, .int .i64 k.number]] w fun e w' => e = .returned (findV l (keyIs k)) ∧ Below w.heap.size w w' := by
  rcases hv with ⟨rfl, rfl⟩ | ⟨g, cap, rfl, hcap, hit⟩
  · exact find_nil k.kind k.name k.host k.number w
  · have h := find_in g l.length cap l k.kind k.name k.host k.number w hl (Nat.le_refl _) hit
    rw [List.take_of_length_le (Nat.le_refl _)] at h
    exact h

theorem has_at (v : Value) (l : List Item) (k : Key) (w : World) (hl : l.length ≤ 24) (hv : ItemsAt w v l) :
    Calls Try.prog 80 #[v, .agg #[.int .i64 k.kind, .string k.name, .string k.host, .int .i64 k.number]] w fun e w' => e = .returned (.bool (l.any (keyIs k))) ∧ Below w.heap.size w w' := by
  rcases hv with ⟨rfl, rfl⟩ | ⟨g, cap, rfl, hcap, hit⟩
  · exact has_nil k w
  · have h := has_in g l.length cap l k.kind k.name k.host k.number w hl (Nat.le_refl _) hit
    rw [List.take_of_length_le (Nat.le_refl _)] at h
    exact h

set_option maxRecDepth 100000 in
set_option maxHeartbeats 400000 in
theorem hasAll_at (v : Value) (l : List Item) (kv : Value) (ks : List Key) (w : World) (hl : l.length ≤ 24) (hv : ItemsAt w v l) (B : Nat) (hks : KeysAt w B kv ks) (hkl : ks.length ≤ 2) :
    Calls Try.prog 82 #[v, kv] w fun e w' => e = .returned (.bool (ks.all fun k => l.any (keyIs k))) ∧ Below w.heap.size w w' := by
  rcases hv with ⟨rfl, rfl⟩ | ⟨g, cap, rfl, hcap, hit⟩
  · have hnot : ∀ (x : Bool) (w : World), (Op.unary .not (.bool x)).run Try.prog w = .ok (.bool (!x)) w := fun _ _ => rfl
    rcases hks with ⟨rfl, rfl⟩ | ⟨kg, kc, rfl, _, hkg, hk⟩
    · go_enter Try.func82, Try.ntmps82
      go_wp2
      refine wp_loop_rounds 1 ?_
      rw [rounds_succ]
      go_wp2
      go_ret
      exact ⟨rfl, Below.refl _ _⟩
    · cases ks with
      | nil =>
        go_enter Try.func82, Try.ntmps82
        go_wp2
        refine wp_loop_rounds 1 ?_
        rw [rounds_succ]
        go_wp2
        go_ret
        exact ⟨rfl, Below.refl _ _⟩
      | cons y ks =>
        obtain ⟨c0, c1, c2, c3⟩ := hk 0 (by simp)
        simp only [Nat.zero_mul, Nat.zero_add, List.getElem_cons_zero] at c0 c1 c2 c3
        obtain ⟨n, hn⟩ : ∃ n, n = (y :: ks).length := ⟨_, rfl⟩
        have hn' : (0 : Int) < (n : Int) := by rw [hn]; simp
        have hfin : ((y :: ks).all fun k => ([] : List Item).any (keyIs k)) = false := by simp
        rw [hfin, ← hn]
        clear hn hfin hk
        go_enter Try.func82, Try.ntmps82
        go_wp2
        refine wp_loop_rounds 1 ?_
        rw [rounds_succ]
        go_wp2_with (go_at_call 80; refine (has_nil y _).mono ?_; rintro e w1 ⟨rfl, hb1⟩)
        go_ret
        exact ⟨rfl, hb1⟩
  · exact hasAll_in g cap l kv ks w hl hit B hks hkl

/-- Is an item with this text one of the items? -/
def holdsB (l : List Item) (t : ByteArray) : Bool := l.any fun x => decide (x.text = t)

set_option maxRecDepth 100000 in
set_option maxHeartbeats 400000 in
theorem holds_at (v : Value) (l : List Item) (y : Item) (w : World) (hl : l.length ≤ 24) (hv : ItemsAt w v l) :
    Calls Try.prog 71 #[v, .agg #[.int .i64 y.kind, .string y.name, .string y.host, .int .i64 y.number, .int .i64 y.size, .string y.disk, .bool y.only, .int .i64 y.lun, .string y.text]] w fun e w' => e = .returned (.bool (holdsB l y.text)) ∧ Below w.heap.size w w' := by
  rcases hv with ⟨rfl, rfl⟩ | ⟨g, cap, rfl, hcap, hit⟩
  · go_enter Try.func71, Try.ntmps71
    go_wp2
    refine wp_loop_rounds 1 ?_
    rw [rounds_succ]
    go_wp2
    go_ret
    exact ⟨rfl, (Below.refl _ _).alloc (Nat.le_refl _) _⟩
  · have hg := hit.1
    have b6 : (w.alloc (.cells #[.int .i64 y.kind, .string y.name, .string y.host, .int .i64 y.number, .int .i64 y.size, .string y.disk, .bool y.only, .int .i64 y.lun, .string y.text] 73)).cell? ⟨w.heap.size, 8, none⟩ = some (.string y.text) := by go_simp
    have hb0 : Below (w.heap.size + 1) (w.alloc (.cells #[.int .i64 y.kind, .string y.name, .string y.host, .int .i64 y.number, .int .i64 y.size, .string y.disk, .bool y.only, .int .i64 y.lun, .string y.text] 73)) (w.alloc (.cells #[.int .i64 y.kind, .string y.name, .string y.host, .int .i64 y.number, .int .i64 y.size, .string y.disk, .bool y.only, .int .i64 y.lun, .string y.text] 73)) := Below.refl _ _
    have hit0 := hit.below ((Below.refl w.heap.size w).alloc (Nat.le_refl _) (.cells #[.int .i64 y.kind, .string y.name, .string y.host, .int .i64 y.number, .int .i64 y.size, .string y.disk, .bool y.only, .int .i64 y.lun, .string y.text] 73)) hg
    go_enter Try.func71, Try.ntmps71
    go_wp2
    generalize hW : w.alloc (.cells #[.int .i64 y.kind, .string y.name, .string y.host, .int .i64 y.number, .int .i64 y.size, .string y.disk, .bool y.only, .int .i64 y.lun, .string y.text] 73) = w0 at *
    have hfin : Below w.heap.size w w0 := by rw [← hW]; exact (Below.refl _ _).alloc (Nat.le_refl _) _
    clear hW hit
    go_loopw [5] (fun i wr => ∃ k : Nat, k ≤ l.length ∧ i = .int .i64 k ∧ (∀ x ∈ l.take k, ¬ x.text = y.text) ∧ Below (w.heap.size + 1) w0 wr) (fun i _ => l.length - (intOf i).toNat)
    case atStart => exact ⟨0, Nat.zero_le _, rfl, by simp, hb0⟩
    case round =>
      obtain ⟨k, hk, rfl, hno, hbe⟩ := hrel
      have Hno := hide hno
      clear hno
      by_cases hlt : k < l.length
      · obtain ⟨x, hx⟩ : ∃ x, x = l[k] := ⟨_, rfl⟩
        have hi := (hit0.2 k hlt).below hbe (by omega)
        rw [← hx] at hi
        have c8 := hi.c8
        have d6 := (hbe.cell (p := ⟨w.heap.size, 8, none⟩) (by simp)).trans b6
        have Hx := hide hx
        have hlt' : (k : Int) < (l.length : Int) := by omega
        clear hx hi
        by_cases he : x.text = y.text
        · have hf : holdsB l y.text = true := by unfold holdsB; rw [List.any_eq_true]; exact ⟨x, by rw [unhide Hx]; exact List.getElem_mem hlt, by simpa using he⟩
          have Hf := hide hf
          have he' : (x.text.toList == y.text.toList) = true := by rw [he]; simp
          clear hf he
          go_wp2
          go_quiet (fail)
          go_wp2
          go_ret
          exact ⟨ret_bool (unhide Hf).symm, hfin.trans ((below_drewN hbe _).mono (by omega))⟩
        · have hno : ∀ x ∈ l.take (k + 1), ¬ x.text = y.text := by
            intro z hz
            rw [List.take_succ_eq_append_getElem hlt, List.mem_append] at hz
            rcases hz with h | h
            · exact unhide Hno z h
            · simp at h; rw [h, ← unhide Hx]; exact he
          have H2 := hide hno
          have he' : (x.text.toList == y.text.toList) = false := by
            rw [beq_eq_false_iff_ne]; exact fun h => he (tl_inj h)
          clear hno he
          go_wp2
          go_quiet (fail)
          go_wp2
          go_roundw
          case rel => exact ⟨k + 1, by omega, by go_num, unhide H2, below_drewN hbe _⟩
          case measure => simp [intOf]; omega
      · have hno := unhide Hno
        rw [List.take_of_length_le (by omega)] at hno
        have hf : holdsB l y.text = false := by unfold holdsB; rw [List.any_eq_false]; intro x hx; simpa using hno x hx
        have Hf := hide hf
        clear hno hf
        go_wp2
        go_ret
        exact ⟨ret_bool (unhide Hf).symm, hfin.trans (hbe.mono (by omega))⟩

/-- How many bytes the items have. -/
def sizeI (l : List Item) : Nat := (l.map fun x => x.text.size).sum

theorem sizeI_take (l : List Item) (k : Nat) (h : k < l.length) : sizeI (l.take (k + 1)) = sizeI (l.take k) + l[k].text.size := by
  unfold sizeI
  rw [List.take_succ_eq_append_getElem h, List.map_append, List.sum_append]
  simp

theorem sizeI_le (l : List Item) (k : Nat) : sizeI (l.take k) ≤ sizeI l := by
  unfold sizeI
  conv => rhs; rw [← List.take_append_drop k l]
  rw [List.map_append, List.sum_append]
  omega

set_option maxRecDepth 100000 in
set_option maxHeartbeats 400000 in
theorem size_at (v : Value) (l : List Item) (w : World) (hl : l.length ≤ 24) (hsz : sizeI l ≤ 1000000) (hv : ItemsAt w v l) :
    Calls Try.prog 99 #[v] w fun e w' => e = .returned (.int .i64 (sizeI l)) ∧ w' = w := by
  rcases hv with ⟨rfl, rfl⟩ | ⟨g, cap, rfl, hcap, hit⟩
  · go_enter Try.func99, Try.ntmps99
    go_wp2
    refine wp_loop_rounds 1 ?_
    rw [rounds_succ]
    go_wp2
    go_ret
    exact ⟨rfl, rfl⟩
  · go_enter Try.func99, Try.ntmps99
    go_wp2
    go_loop [3, 4] (fun t i => ∃ k : Nat, k ≤ l.length ∧ i = .int .i64 k ∧ t = .int .i64 (sizeI (l.take k))) (fun _ i => l.length - (intOf i).toNat)
    case atStart => exact ⟨0, Nat.zero_le _, rfl, rfl⟩
    case round =>
      obtain ⟨k, hk, rfl, rfl⟩ := hrel
      by_cases hlt : k < l.length
      · have hc := (hit.2 k hlt).c8
        have hs1 := sizeI_take l k hlt
        have hs2 := sizeI_le l (k + 1)
        obtain ⟨x, hx⟩ : ∃ x, x = l[k] := ⟨_, rfl⟩
        rw [← hx] at hc hs1
        have hlt' : (k : Int) < (l.length : Int) := by omega
        have hs3 : ((sizeI (l.take k) : Nat) : Int) + (x.text.size : Int) ≤ 1000000 := by omega
        have H1 := hide hs1
        clear hx hs1 hs2
        go_wp2
        go_round
        case rel => exact ⟨k + 1, by omega, by go_num, by rw [unhide H1]; go_num⟩
        case measure => simp [intOf]; omega
      · have hkl : k = l.length := by omega
        have ht : l.take k = l := List.take_of_length_le (by omega)
        rw [ht]
        go_wp2
        go_ret
        exact ⟨rfl, rfl⟩

end Go.Proofs.Ytdlhgbhaeedbdab
