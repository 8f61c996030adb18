/- St1, St2, St3. -/
import Derived.Test.YtdlhgbhaeedbdabGreatM13

/- What the store reads from the device: 'holding', 'sector'. -/
namespace Go.Proofs.YtdlhgbhaeedbdabGreat
open Go.RowKit

theorem spR_true {l : Int} {d : Bool} (h : spR l d = true) : d = false ∧ l ≠ 0 ∧ spDead l d = false := by
  unfold spR at h
  unfold spDead
  split at h
  · cases h
  · rename_i h0
    refine ⟨by simpa using h, h0, ?_⟩
    rw [if_neg h0]; simpa using h
theorem spR_false {l : Int} {d : Bool} (h : spR l d = false) : spDead l d = true := by
  unfold spR at h
  unfold spDead
  split at h
  · rename_i h0; rw [if_pos h0]
  · rename_i h0; rw [if_neg h0]; simpa using h
theorem spLeft_le {l m : Int} (h : l ≤ m) : spLeft l ≤ m := by unfold spLeft; split <;> omega
theorem sp_low {l : Int} (h : l < 0) (d : Bool) : spLeft l = l ∧ spDead l d = d ∧ spR l d = !d := by
  unfold spLeft spDead spR
  exact ⟨if_neg (by omega), if_neg (by omega), if_neg (by omega)⟩

/-- Read, with power. -/
theorem dread_ok (b i : Nat) (S E : Nat → UInt8) (U : List Lg) (l : Int) (d : Bool) (w : World) (hi : i < 64) (hl : l ≤ 9223372036854775807) (hp : spR l d = true) (h : ApiAt w b S E U l d) :
    Calls Tryz.prog 151 #[.pointer (some ⟨b, 0, none⟩), .int .i64 i] w fun e w' => ∃ g, e = .returned (.tuple #[.slice (some ⟨g, 0, none⟩) 32 32, .int .i64 0]) ∧ w.heap.size ≤ g ∧ BytesW w' g 32 (fun k => E (i * 32 + k)) ∧ ApiAt w' b S E U (spLeft l) (spDead l d) ∧ Below b w w' ∧ TK AT w w' := by
  obtain ⟨a1, a2, a3⟩ := h.spend
  refine (aread_ok b i l d w E hi hl hp h.c3 h.c4 h.fz a1.ce a1.lt).mono ?_
  rintro e w' ⟨rfl, hb, hbe⟩
  have hT : TK AT (spW w b l) w' := TK.of_below hbe
  exact ⟨_, rfl, a2.size, hb, a1.keep (T := fun _ => False) (TK.of_below hbe) id id, a2.trans (hbe.mono (Nat.le_of_lt a1.lt)), a3.trans hT⟩

/-- Read, without. -/
theorem dread_dead (b i : Nat) (S E : Nat → UInt8) (U : List Lg) (l : Int) (d : Bool) (w : World) (hi : i < 64) (hl : l ≤ 9223372036854775807) (hp : spR l d = false) (h : ApiAt w b S E U l d) :
    Calls Tryz.prog 151 #[.pointer (some ⟨b, 0, none⟩), .int .i64 i] w fun e w' => e = .returned (.tuple #[.slice none 0 0, .int .i64 7]) ∧ ApiAt w' b S E U (spLeft l) (spDead l d) ∧ Below b w w' ∧ TK AT w w' := by
  obtain ⟨a1, a2, a3⟩ := h.spend
  refine (aread_dead b i l d w hi hl hp h.c3 h.c4 h.fz).mono ?_
  rintro e w' ⟨rfl, rfl⟩
  exact ⟨rfl, a1, a2, a3⟩

/-- The room that the head tells of. -/
def roomOf (E : Nat → UInt8) : Nat := if E 0 = 1 then 1 else 0
theorem roomOf_le (E : Nat → UInt8) : roomOf E ≤ 1 := by unfold roomOf; split <;> omega

theorem u8_one {x : UInt8} : (((x.toNat : Int) == 1) = true) ↔ x = 1 := by
  rw [beq_iff_eq]
  constructor
  · intro h
    have h2 : x.toNat = 1 := by omega
    exact UInt8.toNat_inj.1 (by rw [h2]; rfl)
  · rintro rfl; rfl
theorem u8_zero {x : UInt8} : (((x.toNat : Int) == 0) = true) ↔ x = 0 := by
  rw [beq_iff_eq]
  constructor
  · intro h
    have h2 : x.toNat = 0 := by omega
    exact UInt8.toNat_inj.1 (by rw [h2]; rfl)
  · rintro rfl; rfl

set_option maxRecDepth 100000 in
set_option maxHeartbeats 400000 in
theorem holding_ok (b : Nat) (S E : Nat → UInt8) (U : List Lg) (l : Int) (d : Bool) (w : World) (hl : l ≤ 9223372036854775807) (hp : spR l d = true) (h : ApiAt w b S E U l d) :
    Calls Tryz.prog 150 #[.pointer (some ⟨b, 0, none⟩)] w fun e w' => e = .returned (.tuple #[.int .i64 (roomOf E), .int .i64 0]) ∧ ApiAt w' b S E U (spLeft l) (spDead l d) ∧ Below b w w' ∧ TK AT w w' := by
  have HR := hide (dread_ok b 0 S E U l d w (by omega) hl hp h)
  clear h hp hl
  by_cases h1 : E 0 = 1
  · have hr : roomOf E = 1 := by simp [roomOf, h1]
    have h1' : ((((E 0).toNat : Int)) == 1) = true := u8_one.2 h1
    rw [hr]
    go_enter Tryz.func150, Tryz.ntmps150
    go_wp2_with fail
    refine (unhide HR).mono ?_
    rintro e w1 ⟨g, rfl, hg, hb, ha, hbe, htk⟩
    have c0 := hb.cell 0 (by omega)
    simp only [Nat.zero_mul, Nat.zero_add] at c0
    clear hb
    go_wp2_with fail
    go_ret2
    exact ⟨rfl, ha, hbe, htk⟩
  · have hr : roomOf E = 0 := by simp [roomOf, h1]
    have h1' : ((((E 0).toNat : Int)) == 1) = false := by rw [← Bool.not_eq_true]; exact fun k => h1 (u8_one.1 k)
    rw [hr]
    go_enter Tryz.func150, Tryz.ntmps150
    go_wp2_with fail
    refine (unhide HR).mono ?_
    rintro e w1 ⟨g, rfl, hg, hb, ha, hbe, htk⟩
    have c0 := hb.cell 0 (by omega)
    simp only [Nat.zero_mul, Nat.zero_add] at c0
    clear hb
    go_wp2_with fail
    go_ret2
    exact ⟨rfl, ha, hbe, htk⟩

set_option maxRecDepth 100000 in
set_option maxHeartbeats 400000 in
theorem holding_dead (b : Nat) (S E : Nat → UInt8) (U : List Lg) (l : Int) (d : Bool) (w : World) (hl : l ≤ 9223372036854775807) (hp : spR l d = false) (h : ApiAt w b S E U l d) :
    Calls Tryz.prog 150 #[.pointer (some ⟨b, 0, none⟩)] w fun e w' => e = .returned (.tuple #[.int .i64 0, .int .i64 7]) ∧ ApiAt w' b S E U (spLeft l) (spDead l d) ∧ Below b w w' ∧ TK AT w w' := by
  have HR := hide (dread_dead b 0 S E U l d w (by omega) hl hp h)
  clear h hp hl
  go_enter Tryz.func150, Tryz.ntmps150
  go_wp2_with fail
  refine (unhide HR).mono ?_
  rintro e w1 ⟨rfl, ha, hbe, htk⟩
  go_wp2_with fail
  go_ret2
  exact ⟨rfl, ha, hbe, htk⟩

set_option maxHeartbeats 400000 in
theorem sector_any (r i : Nat) (w : World) (hr : r ≤ 1) (hi : i < 13) :
    Calls Tryz.prog 152 #[.int .i64 r, .int .i64 i] w fun e w' => e = .returned (.int .i64 ((1 + r * 13 + i : Nat) : Int)) ∧ w' = w := by
  have e1 : ((1 + r * 13 + i : Nat) : Int) = 1 + (r : Int) * 13 + (i : Int) := by omega
  rw [e1]
  go_enter Tryz.func152, Tryz.ntmps152
  go_wp2
  go_ret
  exact ⟨rfl, rfl⟩

theorem takeWhile_at {B : List UInt8} {k : Nat} (h : ∀ j (hj : j < B.length), j < k → B[j] ≠ 0) : B.takeWhile (fun x => x != 0) = B.take k ++ (B.drop k).takeWhile (fun x => x != 0) := by
  induction B generalizing k with
  | nil => simp
  | cons a B ih =>
    cases k with
    | zero => simp
    | succ k =>
      have ha : a ≠ 0 := h 0 (by simp) (by omega)
      rw [List.takeWhile_cons_of_pos (by simpa using ha), ih (k := k) (fun j hj hjk => by have := h (j + 1) (by simpa using hj) (by omega); simpa using this)]
      simp

/-- The bytes ahead of the first 0. -/
def untilZ (B : List UInt8) : ByteArray := ⟨(B.takeWhile (fun x => x != 0)).toArray⟩

set_option maxRecDepth 100000 in
set_option maxHeartbeats 400000 in
theorem untilZero_at (g cap : Nat) (B : List UInt8) (w : World) (hB : B.length ≤ cap) (hc : cap ≤ 9223372036854775807) (h : ∀ j (hj : j < B.length), w.cell? ⟨g, j, none⟩ = some (.int .u8 (B[j].toNat))) :
    Calls Tryz.prog 153 #[.slice (some ⟨g, 0, none⟩) B.length cap] w fun e w' => e = .returned (.string (untilZ B)) ∧ w' = w := by
  have hcv : ∀ k, k ≤ B.length → ∀ cap, (convert 115 9 (.slice (some ⟨g, 0, none⟩) k cap)).run Tryz.prog w = .ok (.string ⟨(B.take k).toArray⟩) w := fun k hk cap => by
    have := run_convert_bytes_back (P := Tryz.prog) w 115 9 5 ⟨g, 0, none⟩ cap (B.take k) Tryz.underlying115 Tryz.underlying5 Tryz.underlying9 (fun j hj => by
      rw [addr_add, h j (by simp at hj; omega)]
      simp)
    rw [List.length_take, Nat.min_eq_left hk] at this
    exact this
  have H := hide h
  have Hcv := hide hcv
  clear h hcv
  go_enter Tryz.func153, Tryz.ntmps153
  go_wp2
  go_loopw [3] (fun kv wr => ∃ k : Nat, k ≤ B.length ∧ kv = .int .i64 k ∧ (∀ j (hj : j < B.length), j < k → B[j] ≠ 0) ∧ wr = w) (fun kv _ => B.length - (intOf kv).toNat)
  case atStart => exact ⟨0, Nat.zero_le _, rfl, fun j _ hj => by omega, rfl⟩
  case round =>
    obtain ⟨k, hk, rfl, hz, rfl⟩ := hrel
    by_cases hlt : k < B.length
    · have hlt' : (k : Int) < (B.length : Int) := by omega
      have ck := unhide H k hlt
      by_cases h0 : B[k] = 0
      · have h0' : (((B[k].toNat : Int)) == 0) = true := u8_zero.2 h0
        have hc1 := unhide Hcv k hk cap
        have hres : untilZ B = ⟨(B.take k).toArray⟩ := by
          unfold untilZ
          rw [takeWhile_at hz, List.drop_eq_getElem_cons hlt, List.takeWhile_cons_of_neg (by simpa using h0), List.append_nil]
        have hkc : (k : Int) ≤ (cap : Int) := by omega
        have Hres := hide hres
        clear hres
        generalize B[k] = x at *
        generalize (⟨(B.take k).toArray⟩ : ByteArray) = rs at *
        go_wp2
        go_ret
        exact ⟨by rw [unhide Hres]; rfl, rfl⟩
      · have h0' : (((B[k].toNat : Int)) == 0) = false := by rw [← Bool.not_eq_true]; exact fun k => h0 (u8_zero.1 k)
        generalize hx : B[k] = x at *
        go_wp2
        go_roundw
        case rel => exact ⟨k + 1, by omega, by go_num, fun j hj hjk => by
                      by_cases e : j = k
                      · subst e; rw [hx]; exact h0
                      · exact hz j hj (by omega), trivial⟩
        case measure => simp [intOf]; omega
    · have hlt' : ¬ (k : Int) < (B.length : Int) := by omega
      have hc1 := unhide Hcv B.length (Nat.le_refl _) cap
      have hres : untilZ B = ⟨(B.take B.length).toArray⟩ := by
        unfold untilZ
        rw [takeWhile_at (k := k) hz, List.drop_eq_nil_of_le (by omega), List.takeWhile_nil, List.append_nil, List.take_of_length_le (by omega), List.take_of_length_le (by omega)]
      have Hres := hide hres
      clear hres
      generalize (⟨(B.take B.length).toArray⟩ : ByteArray) = rs at *
      go_wp2
      go_ret
      exact ⟨by rw [unhide Hres]; rfl, rfl⟩

end Go.Proofs.YtdlhgbhaeedbdabGreat

/- 'store.Load'. -/
namespace Go.Proofs.YtdlhgbhaeedbdabGreat
open Go.RowKit

/-- The first k sectors of a room. -/
def roomPart (E : Nat → UInt8) (r k : Nat) : List UInt8 := (List.range (k * 32)).map fun j => E ((1 + r * 13) * 32 + j)

theorem roomPart_len (E : Nat → UInt8) (r k : Nat) : (roomPart E r k).length = k * 32 := by simp [roomPart]
theorem roomPart_get (E : Nat → UInt8) (r k j : Nat) (h : j < (roomPart E r k).length) : (roomPart E r k)[j] = E ((1 + r * 13) * 32 + j) := by simp [roomPart]

theorem range_more (a b : Nat) : List.range (a + b) = List.range a ++ (List.range b).map (a + ·) := by
  induction b with
  | zero => simp
  | succ b ih => rw [← Nat.add_assoc, List.range_succ, ih, List.range_succ, List.map_append, List.append_assoc]; rfl

theorem roomPart_succ (E : Nat → UInt8) (r k : Nat) : roomPart E r (k + 1) = roomPart E r k ++ (List.range 32).map fun j => E ((1 + r * 13 + k) * 32 + j) := by
  unfold roomPart
  rw [show (k + 1) * 32 = k * 32 + 32 by omega, range_more, List.map_append, List.map_map]
  congr 1
  apply List.map_congr_left
  intro j _
  simp only [Function.comp]
  rw [show (1 + r * 13) * 32 + (k * 32 + j) = (1 + r * 13 + k) * 32 + j by omega]

/-- The text that the device holds. -/
def held (E : Nat → UInt8) : ByteArray := untilZ (roomPart E (roomOf E) 13)

theorem not_at8 : ¬ AT 5 := by unfold AT; decide

def M64 : Int := 9223372036854775807

set_option maxRecDepth 100000 in
set_option maxHeartbeats 400000 in
theorem load_any (b : Nat) (S E : Nat → UInt8) (U : List Lg) (l : Int) (d : Bool) (w : World) (hl : l ≤ 9223372036854775807) (h : ApiAt w b S E U l d) :
    Calls Tryz.prog 117 #[.pointer (some ⟨b, 0, none⟩)] w fun e w' => ∃ l' d', ApiAt w' b S E U l' d' ∧ l' ≤ 9223372036854775807 ∧ Below b w w' ∧ TK (fun t => AT t) w w' ∧ (l < 0 → l' = l ∧ d' = d) ∧
      ((d' = true ∧ e = .returned (.tuple #[.string ⟨#[]⟩, .int .i64 7])) ∨ (d' = false ∧ d = false ∧ e = .returned (.tuple #[.string (held E), .int .i64 0]))) := by
  have hlt := h.lt
  cases hp : spR l d with
  | false =>
    have HR := hide (holding_dead b S E U l d w hl hp h)
    have hlow := fun h0 => sp_low (l := l) h0 d
    have hd := spR_false hp
    have Hl := hide (spLeft_le hl)
    have Hlow := hide hlow
    clear h hp hlow
    go_enter Tryz.func117, Tryz.ntmps117
    go_wp2_with fail
    refine (unhide HR).mono ?_
    rintro e w1 ⟨rfl, ha, hbe, htk⟩
    go_wp2_with fail
    go_ret2
    exact ⟨_, _, ha, unhide Hl, hbe, htk, fun h0 => ⟨(unhide Hlow h0).1, (unhide Hlow h0).2.1⟩, .inl ⟨hd, rfl⟩⟩
  | true =>
    obtain ⟨hd0, hl0, hd⟩ := spR_true hp
    have HR := hide (holding_ok b S E U l d w hl hp h)
    have Hlow := hide (fun h0 => sp_low (l := l) h0 d)
    have hl1 := spLeft_le hl
    rw [hd] at HR
    subst hd0
    have hr1 := roomOf_le E
    have hheld : held E = untilZ (roomPart E (roomOf E) 13) := rfl
    rw [hheld]
    generalize roomOf E = r at *
    have hlowl : l < 0 → spLeft l = l := fun h0 => (unhide Hlow h0).1
    have Hlowl := hide hlowl
    generalize spLeft l = l1 at *
    clear h hp hl hl0 hd hheld Hlow hlowl
    obtain ⟨i0, hi, hz0, hz1, hz2⟩ := info_parts Tryz.infoU8
    go_enter Tryz.func117, Tryz.ntmps117
    go_wp2_with fail
    refine (unhide HR).mono ?_
    rintro e w1 ⟨rfl, ha, hbe1, htk1⟩
    have hsz1 := hbe1.size
    clear HR
    go_wp2_with fail
    go_loopw [6, 7] (fun tv kv wr => ∃ k lk, k ≤ 13 ∧ kv = .int .i64 (k : Nat) ∧ wr.ownsRow w.heap.size 5 1 tv (k * 32) (byteCells (roomPart E r k)) ∧ ApiAt wr b S E U lk false ∧ lk ≤ 9223372036854775807 ∧ (l < 0 → lk = l) ∧ Below b w wr ∧ TK AT w wr) (fun _ kv _ => 13 - (intOf kv).toNat)
    case atStart => exact ⟨0, l1, by omega, rfl, World.ownsRow_nil _ _ _ _, ha, hl1, unhide Hlowl, hbe1, htk1⟩
    case round =>
      obtain ⟨k, lk, hk, rfl, hown, hap, hlk, hlow, hbe, htk⟩ := hrel
      obtain ⟨ta, tc, rfl⟩ := slice_of_owns hown
      have hsz := hbe.size
      by_cases hk13 : k < 13
      · have hk' : (k : Int) < 13 := by omega
        have Hsec := hide (sector_any r k)
        cases hp : spR lk false with
        | false =>
          have HR := hide (dread_dead b (1 + r * 13 + k) S E U lk false wr (by omega) hlk hp hap)
          have hd := spR_false hp
          have hl2 := spLeft_le hlk
          have hlow2 : l < 0 → spLeft lk = l ∧ spDead lk false = false := fun h0 => by
            have := sp_low (l := lk) (by have := hlow h0; omega) false
            exact ⟨this.1.trans (hlow h0), this.2.1⟩
          have Hlow2 := hide hlow2
          generalize hs : 1 + r * 13 + k = s at *
          clear hap hlow2 hp
          go_wp2_with (go_at_call 152; refine (unhide Hsec _ hr1 hk13).mono ?_; rintro e w2 ⟨rfl, rfl⟩)
          refine (unhide HR).mono ?_
          rintro e w2 ⟨rfl, ha2, hbe2, htk2⟩
          go_wp2_with fail
          go_ret2
          exact ⟨_, _, ha2, hl2, hbe.trans hbe2, htk.trans htk2, fun h0 => ⟨(unhide Hlow2 h0).1, (unhide Hlow2 h0).2⟩, .inl ⟨hd, rfl⟩⟩
        | true =>
          have HR := hide (dread_ok b (1 + r * 13 + k) S E U lk false wr (by omega) hlk hp hap)
          have hd := (spR_true hp).2.2
          have hl2 := spLeft_le hlk
          have hlow2 : l < 0 → spLeft lk = l := fun h0 => by
            have := sp_low (l := lk) (by have := hlow h0; omega) false
            exact this.1.trans (hlow h0)
          rw [hd] at HR
          have Hlow2 := hide hlow2
          have hsucc := roomPart_succ E r k
          have Hsucc := hide hsucc
          clear hap hlow2 hp hsucc
          generalize hs : 1 + r * 13 + k = s at *
          generalize spLeft lk = l2 at *
          go_wp2_with (go_at_call 152; refine (unhide Hsec _ hr1 hk13).mono ?_; rintro e w2 ⟨rfl, rfl⟩)
          refine (unhide HR).mono ?_
          rintro e w2 ⟨g, rfl, hg, hby, ha2, hbe2, htk2⟩
          have hown2 := htk2.row not_at8 hown
          have hsz2 := hbe2.size
          have hbe02 := hbe.trans hbe2
          have hby' : ∀ (j : Nat) (u : Value), (byteCells ((List.range 32).map fun j => E (s * 32 + j)))[j]? = some u → w2.cell? ((⟨g, 0, none⟩ : Addr).add j) = some u := by
            intro j u hu
            have hj : j < 32 := by have := (List.getElem?_eq_some_iff.1 hu).1; simpa [byteCells] using this
            rw [addr_add, hby.cell j hj, ← hu]
            simp [byteCells, hj]
          have Hby := hide hby'
          clear hby hby' HR hg
          go_wp2_with (at_builtin; refine wpList_append_own _ rfl _ _ 115 rfl w.heap.size 5 i0 (.int .u8 0) 1 1 Tryz.underlying115 hi hz0 hz1 hz2 rfl (by decide) (.slice ta (k * 32) tc) (k * 32) (byteCells (roomPart E r k)) ?hs hown2 ⟨g, 0, none⟩ 32 32 (byteCells ((List.range 32).map fun j => E (s * 32 + j))) ?hx ?hl (unhide Hby) (bc_one _) ?c3 ?c4 ?c5 ?_)
          case hs => rfl
          case hx => rfl
          case hl => simp [byteCells]
          case c3 => unfold maxLen; omega
          case c4 => omega
          case c5 => omega
          intro v' w3 hown3 hgrow _
          have htk3 : TK (fun t => t = 5) w2 w3 := TK.grown hown2 hgrow rfl
          have hbe3 : Below b w w3 := hbe02.grown hgrow (by omega) (fun k e => by have := (hown2.lt k e).1; omega)
          have hb3 : Below w.heap.size w2 w3 := (Below.refl _ _).grown hgrow (by omega) (fun k e => (hown2.lt k e).1)
          have ha3 := ha2.keep htk3 (by decide) (by decide)
          have htk03 : TK AT w w3 := ⟨hbe3.os, hbe3.tape, hbe3.output, hbe3.size, fun i cs t fr hi ht => by
            have h1 := (htk.trans htk2).block i cs t fr hi ht
            have hlt2 : i < w.heap.size := by
              by_cases e : i < w.heap.size
              · exact e
              · rw [Array.getElem?_eq_none (by omega)] at hi; cases hi
            exact (hb3.block i hlt2).trans h1⟩
          clear hgrow hown2 Hby
          go_wp2_with fail
          go_roundw
          case rel => exact ⟨k + 1, l2, by omega, by go_num, by rw [unhide Hsucc, show (k + 1) * 32 = k * 32 + 32 by omega, byteCells, List.map_append]; exact hown3, ha3, hl2, unhide Hlow2, hbe3, htk03⟩
          case measure => simp [intOf]; omega
      · have hk' : ¬ (k : Int) < 13 := by omega
        have hk13' : k = 13 := by omega
        subst hk13'
        obtain ⟨_, ⟨e0, h0⟩ | ⟨g, cap, cur, e1, e2, e3, e4, e5, _⟩⟩ := id hown
        · omega
        · cases e1
          have hcells := hown.cells (g := g) rfl
          have hU := fun hc => untilZero_at g tc (roomPart E r 13) wr (by rw [roomPart_len]; exact e4) hc (fun j hj => by
            have := hcells j (.int .u8 ((roomPart E r 13)[j]).toNat) (by simp [byteCells, hj])
            rwa [addr_add] at this)
          rw [roomPart_len] at hU
          have hcap : tc ≤ 9223372036854775807 := by unfold maxLen at e5; omega
          have HU := hide (hU hcap)
          clear hU hcells
          go_wp2_with fail
          refine (unhide HU).mono ?_
          rintro e w2 ⟨rfl, rfl⟩
          go_wp2_with fail
          go_ret2
          exact ⟨_, _, hap, hlk, hbe, htk, fun h0 => ⟨hlow h0, rfl⟩, .inr ⟨rfl, by trivial, rfl⟩⟩

end Go.Proofs.YtdlhgbhaeedbdabGreat

/- 'store.fill'. -/
namespace Go.Proofs.YtdlhgbhaeedbdabGreat
open Go.RowKit

/-- Part i of a text: 32 bytes, 0 behind its end. -/
def partL (t : ByteArray) (i : Nat) : List UInt8 := (List.range 32).map fun k => t.data.toList.getD (i * 32 + k) 0
def partB (t : ByteArray) (i : Nat) : ByteArray := ⟨(partL t i).toArray⟩
theorem partL_len (t : ByteArray) (i : Nat) : (partL t i).length = 32 := by simp [partL]
theorem partB_size (t : ByteArray) (i : Nat) : (partB t i).size = 32 := by simp [partB, ByteArray.size, partL_len]
theorem partL_get (t : ByteArray) (i k : Nat) (h : k < 32) : (partL t i).getD k 0 = t.data.toList.getD (i * 32 + k) 0 := by
  simp [partL, List.getD, h]

/-- The writes of a text into a room. -/
def fillU (r : Nat) (t : ByteArray) (n : Nat) : List Lg := (List.range n).map fun i => ⟨1 + r * 13 + i, partB t i, false⟩
theorem fillU_len (r : Nat) (t : ByteArray) (n : Nat) : (fillU r t n).length = n := by simp [fillU]
theorem fillU_succ (r : Nat) (t : ByteArray) (n : Nat) : fillU r t (n + 1) = fillU r t n ++ [⟨1 + r * 13 + n, partB t n, false⟩] := by simp [fillU, List.range_succ]
theorem fillU_in {r n : Nat} {t : ByteArray} (hn : n ≤ 13) : ∀ x ∈ fillU r t n, (1 + r * 13 ≤ x.sec ∧ x.sec < 14 + r * 13) ∧ x.data.size = 32 := by
  intro x hx
  obtain ⟨i, hi, rfl⟩ := List.mem_map.1 hx
  rw [List.mem_range] at hi
  exact ⟨⟨by simp, by simp; omega⟩, partB_size t i⟩
theorem fillU_fine {r n : Nat} {t : ByteArray} (hr : r ≤ 1) (hn : n ≤ 13) : ∀ x ∈ fillU r t n, x.sec < 64 ∧ x.data.size = 32 := fun x hx => by
  have := fillU_in hn x hx
  exact ⟨by omega, this.2⟩

/-- All writes done. -/
def upds (S : Nat → UInt8) (U : List Lg) : Nat → UInt8 := U.foldl (fun S x => upd S x.sec x.data.data.toList) S
theorem upds_snoc (S : Nat → UInt8) (U : List Lg) (x : Lg) : upds S (U ++ [x]) = upd (upds S U) x.sec x.data.data.toList := by simp [upds]
theorem updTo_all (S : Nat → UInt8) (U : List Lg) : updTo S U U.length = upds S U := by simp [updTo, upds]

theorem partB_data (t : ByteArray) (i : Nat) : (partB t i).data.toList = partL t i := by simp [partB]

theorem toList_get {t : ByteArray} {j : Nat} (h : j < t.size) : t.data.toList.getD j 0 = t[j] := by
  have h' : j < t.data.size := h
  rw [List.getD_eq_getElem?_getD, List.getElem?_eq_getElem (by simpa using h'), Option.getD_some, Array.getElem_toList]
  rfl

theorem toList_past {t : ByteArray} {j : Nat} (h : t.size ≤ j) : t.data.toList.getD j 0 = 0 := by
  have h' : t.data.size ≤ j := h
  rw [List.getD_eq_getElem?_getD, List.getElem?_eq_none (by simpa using h')]
  rfl

theorem mkBytes_below (w : World) : Below w.heap.size w (w.alloc (.cells (madeBytes 32) 5)) := (Below.refl _ _).alloc (Nat.le_refl _) _

/-- What fill leaves: some of the writes; all of them, or the power has gone. -/
def FillEnd (b r : Nat) (S : Nat → UInt8) (t : ByteArray) (l : Int) (w : World) (e : Ending) (w' : World) : Prop :=
  ∃ n l' d', ApiAt w' b S (upds S (fillU r t n)) (fillU r t n) l' d' ∧ n ≤ 13 ∧ l' ≤ 9223372036854775807 ∧ Below b w w' ∧ TK AT w w' ∧ (l < 0 → l' = l ∧ d' = false) ∧
      ((d' = true ∧ e = .returned (.int .i64 7)) ∨ (d' = false ∧ n = 13 ∧ e = .returned (.int .i64 0)))

set_option maxRecDepth 100000 in
set_option maxHeartbeats 800000 in
theorem fill_any (b r : Nat) (S : Nat → UInt8) (t : ByteArray) (l : Int) (w : World) (hr : r ≤ 1) (ht : t.size ≤ 400) (hl : l ≤ 9223372036854775807) (h : ApiAt w b S S [] l false) :
    Calls Tryz.prog 168 #[.pointer (some ⟨b, 0, none⟩), .int .i64 r, .string t] w fun e w' => FillEnd b r S t l w e w' := by
  have hlt := h.lt
  have hmk := run_make32
  go_enter Tryz.func168, Tryz.ntmps168
  go_wp2_with fail
  go_loopw [7] (fun kv wr => ∃ n ln, n ≤ 13 ∧ kv = .int .i64 (n : Nat) ∧ ApiAt wr b S (upds S (fillU r t n)) (fillU r t n) ln false ∧ ln ≤ 9223372036854775807 ∧ (l < 0 → ln = l) ∧ Below b w wr ∧ TK AT w wr) (fun kv _ => 13 - (intOf kv).toNat)
  case atStart => exact ⟨0, l, by omega, rfl, h, hl, fun _ => rfl, Below.refl _ _, TK.refl _ _⟩
  case round =>
    obtain ⟨n, ln, hn, rfl, hap, hln, hlow, hbe, htk⟩ := hrel
    have hsz := hbe.size
    by_cases hn13 : n < 13
    · have hn' : (n : Int) < 13 := by omega
      have hm0 := bytes_made wr 32
      have hbm := mkBytes_below wr
      go_wp2_with fail
      generalize hW : wr.alloc (.cells (madeBytes 32) 5) = w0 at *
      clear hW
      have hkeep : ∀ w2, Below wr.heap.size w0 w2 → ApiAt w2 b S (upds S (fillU r t n)) (fillU r t n) ln false := fun w2 h2 => hap.keep (T := fun _ => False) (TK.of_below (hbm.trans h2)) id id
      have htkk : ∀ w2, Below wr.heap.size w0 w2 → TK AT w w2 := fun w2 h2 => htk.trans (TK.of_below (hbm.trans h2))
      have hbek : ∀ w2, Below wr.heap.size w0 w2 → Below b w w2 := fun w2 h2 => hbe.trans ((hbm.trans h2).mono (by omega))
      generalize hN : wr.heap.size = N at *
      have Hkeep := hide hkeep
      clear hkeep hap
      go_loopw [9] (fun kv wk => ∃ k : Nat, k ≤ 32 ∧ kv = .int .i64 k ∧ (∀ j, j < k → n * 32 + j < t.size) ∧ BytesW wk N 32 (fun j => if j < k then t.data.toList.getD (n * 32 + j) 0 else 0) ∧ Below N w0 wk) (fun kv _ => 32 - (intOf kv).toNat)
      case atStart => exact ⟨0, by omega, rfl, fun j hj => by omega, hm0.congr (fun k _ => by simp), Below.refl _ _⟩
      case round =>
        obtain ⟨k, hk, rfl, hin, hbw, hbk⟩ := hrel
        by_cases hgo : k < 32 ∧ n * 32 + k < t.size
        · have hk' : (k : Int) < 32 := by omega
          have hin' : (n : Int) * 32 + (k : Int) < (t.size : Int) := by omega
          have hin2 : n * 32 + k < t.size := hgo.2
          have ck := hbw.cell k hgo.1
          have hfz := hbw.fz
          have Hrow := hide (show BytesW (wr.setCell ⟨N, k, none⟩ (.int .u8 (t[n * 32 + k]'hgo.2).toNat)) N 32 (fun j => if j < k + 1 then t.data.toList.getD (n * 32 + j) 0 else 0) from
            (hbw.set hgo.1 (t[n * 32 + k]'hgo.2)).congr (fun j _ => by
              by_cases e : j = k
              · subst e; simp only [if_true, show j < j + 1 by omega]; rw [toList_get hgo.2]
              · by_cases h : j < k
                · simp [e, h, show j < k + 1 by omega]
                · simp [e, h, show ¬ j < k + 1 by omega]))
          have hidx : ((n : Int) * 32 + (k : Int)).toNat = n * 32 + k := by omega
          go_wp2_with fail
          go_roundw
          case rel => exact ⟨k + 1, by omega, by go_num, fun j hj => by
                        by_cases e : j = k
                        · subst e; exact hgo.2
                        · exact hin j (by omega), unhide Hrow, hbk.setCell (p := ⟨N, k, none⟩) (Nat.le_refl _) _⟩
          case measure => simp [intOf]; omega
        · have hby : ∀ j (_ : j < 32), wr.cell? ⟨N, j, none⟩ = some (.int .u8 ((partB t n).data.toList.getD j 0).toNat) := fun j hj => by
            rw [hbw.cell j hj, partB_data, partL_get t n j hj]
            by_cases e : j < k
            · simp only [e, if_true]
            · simp only [e, if_false]
              rw [toList_past (by omega)]
          have hapk := unhide Hkeep wr hbk
          have htk01 := htkk wr hbk
          have hbe01 := hbek wr hbk
          have Hsec := hide (sector_any r n)
          have hl2 := spLeft_le hln
          have Hlow2 : Hid (l < 0 → spLeft ln = l ∧ spDead ln false = false) := hide fun h0 => by
            have := sp_low (l := ln) (by have := hlow h0; omega) false
            exact ⟨this.1.trans (hlow h0), this.2.1⟩
          have HW := hide (awrite_ok b (1 + r * 13 + n) N 32 (partB t n) S (upds S (fillU r t n)) (fillU r t n) ln wr (by omega) (partB_size t n) hln (by rw [fillU_len]; omega) (fillU_fine hr hn) hbw.lt hby hapk)
          have HS : Hid (∀ {w2 : World} {l2 : Int} {d2 : Bool}, ApiAt w2 b S (upd (upds S (fillU r t n)) (1 + r * 13 + n) (partB t n).data.toList) (fillU r t n ++ [⟨1 + r * 13 + n, partB t n, false⟩]) l2 d2 → ApiAt w2 b S (upds S (fillU r t (n + 1))) (fillU r t (n + 1)) l2 d2) := hide fun h => by
            rw [fillU_succ, upds_snoc]; exact h
          clear hby hbw hapk Hkeep htkk hbek
          by_cases h32 : k < 32
          · have hk' : (k : Int) < 32 := by omega
            have hin' : ¬ (n : Int) * 32 + (k : Int) < (t.size : Int) := by omega
            go_wp2_with (go_at_call 152; refine (unhide Hsec _ hr hn13).mono ?_; rintro e w2 ⟨rfl, rfl⟩)
            refine (unhide HW).mono ?_
            rintro e w2 ⟨rfl, ha2, hbe2, htk2⟩
            cases hp : spR ln false with
            | false =>
              have hd := spR_false hp
              rw [hd] at ha2
              simp only [Bool.false_eq_true, if_false]
              go_wp2_with fail
              go_ret
              exact ⟨n + 1, _, true, unhide HS ha2, by omega, hl2, hbe01.trans hbe2, htk01.trans htk2, fun h0 => absurd (unhide Hlow2 h0).2 (by rw [hd]; simp), .inl ⟨rfl, rfl⟩⟩
            | true =>
              have hd := (spR_true hp).2.2
              rw [hd] at ha2
              simp only [if_true]
              go_wp2_with fail
              go_roundw
              case rel => exact ⟨n + 1, _, by omega, by go_num, unhide HS ha2, hl2, fun h0 => (unhide Hlow2 h0).1, hbe01.trans hbe2, htk01.trans htk2⟩
              case measure => simp [intOf]; omega
          · have hk' : ¬ (k : Int) < 32 := by omega
            go_wp2_with (go_at_call 152; refine (unhide Hsec _ hr hn13).mono ?_; rintro e w2 ⟨rfl, rfl⟩)
            refine (unhide HW).mono ?_
            rintro e w2 ⟨rfl, ha2, hbe2, htk2⟩
            cases hp : spR ln false with
            | false =>
              have hd := spR_false hp
              rw [hd] at ha2
              simp only [Bool.false_eq_true, if_false]
              go_wp2_with fail
              go_ret
              exact ⟨n + 1, _, true, unhide HS ha2, by omega, hl2, hbe01.trans hbe2, htk01.trans htk2, fun h0 => absurd (unhide Hlow2 h0).2 (by rw [hd]; simp), .inl ⟨rfl, rfl⟩⟩
            | true =>
              have hd := (spR_true hp).2.2
              rw [hd] at ha2
              simp only [if_true]
              go_wp2_with fail
              go_roundw
              case rel => exact ⟨n + 1, _, by omega, by go_num, unhide HS ha2, hl2, fun h0 => (unhide Hlow2 h0).1, hbe01.trans hbe2, htk01.trans htk2⟩
              case measure => simp [intOf]; omega
    · have hn' : ¬ (n : Int) < 13 := by omega
      have hn13' : n = 13 := by omega
      subst hn13'
      go_wp2_with fail
      go_ret
      exact ⟨13, ln, false, hap, by omega, hln, hbe, htk, fun h0 => ⟨hlow h0, rfl⟩, .inr ⟨rfl, rfl, rfl⟩⟩

end Go.Proofs.YtdlhgbhaeedbdabGreat
