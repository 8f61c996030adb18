/- The program's Restore. -/
import Derived.Test.YtdlhgbhaeedbdaaDv14
import Derived.Laws.Entries
namespace Go.Proofs.Ytdlhgbhaeedbdaa
open Go.RowKit

theorem i64_and1 (n : Int) : bits .and .i64 n 1 = n % 2 := by
  have h : (BitVec.ofInt 64 n &&& BitVec.ofInt 64 1).toNat = (n % 2).toNat := by
    rw [BitVec.toNat_and, show (BitVec.ofInt 64 1).toNat = 1 from by decide, Nat.and_one_is_mod, BitVec.toNat_ofInt]
    omega
  have hb : bits .and .i64 n 1 = IntKind.i64.wrap ((BitVec.ofInt 64 n &&& BitVec.ofInt 64 1).toNat : Int) := rfl
  rw [hb, h]
  have : ((n % 2).toNat : Int) = n % 2 := by omega
  rw [this]
  show _ = _
  have h2 : n % 2 = 0 ∨ n % 2 = 1 := by omega
  rcases h2 with h2 | h2 <;> rw [h2] <;> rfl

theorem bit_test (keep : Int) (k : Nat) : (bits .and .i64 (keep / 2 ^ (k % 63)) 1 == 1) = bitOf keep k := by
  rw [i64_and1]
  unfold bitOf
  obtain ⟨m, hm⟩ : ∃ m, m = k % 63 := ⟨_, rfl⟩
  have hm2 : m < 63 := by omega
  rw [← hm]
  obtain ⟨u, hu⟩ : ∃ u : Nat, u = (keep % 18446744073709551616).toNat := ⟨_, rfl⟩
  rw [← hu]
  have hk : keep = (u : Int) + 18446744073709551616 * (keep / 18446744073709551616) := by omega
  have hp : (18446744073709551616 : Int) = 2 ^ m * (2 * 2 ^ (63 - m)) := by
    have : (2 : Int) ^ m * (2 * 2 ^ (63 - m)) = 2 ^ (m + 1 + (63 - m)) := by
      rw [Int.pow_add, Int.pow_succ]; simp [Int.mul_assoc, Int.mul_comm, Int.mul_left_comm]
    rw [this, show m + 1 + (63 - m) = 64 from by omega]
    decide
  have hpos : (0 : Int) < 2 ^ m := Int.pow_pos (by decide)
  have hd : keep / 2 ^ m = (u : Int) / 2 ^ m + 2 * (2 ^ (63 - m) * (keep / 18446744073709551616)) := by
    conv => lhs; rw [hk, hp]
    rw [show (2 : Int) ^ m * (2 * 2 ^ (63 - m)) * (keep / (2 ^ m * (2 * 2 ^ (63 - m)))) = 2 ^ m * (2 * (2 ^ (63 - m) * (keep / (2 ^ m * (2 * 2 ^ (63 - m)))))) from by simp [Int.mul_assoc, Int.mul_left_comm]]
    rw [Int.add_mul_ediv_left _ _ (by omega), ← hp]
  rw [hd]
  have e1 : ((u : Int) / 2 ^ m + 2 * (2 ^ (63 - m) * (keep / 18446744073709551616))) % 2 = ((u / 2 ^ m % 2 : Nat) : Int) := by
    rw [Int.add_mul_emod_self_left]
    simp
  rw [e1]
  have : u / 2 ^ m % 2 = 0 ∨ u / 2 ^ m % 2 = 1 := by omega
  rcases this with h | h <;> simp [h]

/-- What lasts, of the first k late writes. -/
def updB (keep : Int) (S : Nat → UInt8) (U : List Lg) : Nat → Nat → UInt8
  | 0 => S
  | k + 1 => match U[k]? with | some x => if bitOf keep k then upd (updB keep S U k) x.sec x.data.data.toList else updB keep S U k | none => updB keep S U k

theorem updB_succ (keep : Int) (S : Nat → UInt8) (U : List Lg) (k : Nat) (h : k < U.length) : updB keep S U (k + 1) = if bitOf keep k then upd (updB keep S U k) U[k].sec U[k].data.data.toList else updB keep S U k := by
  simp only [updB, List.getElem?_eq_getElem h]

def secCells (S : Nat → UInt8) : List Value := (List.range 2048).map fun j => Value.int .u8 (S j).toNat

theorem sec_len (S : Nat → UInt8) : (secCells S).length = 2048 := by simp [secCells]
theorem sec_get (S : Nat → UInt8) (j : Nat) (h : j < 2048) : (secCells S)[j]'(by rw [sec_len]; exact h) = .int .u8 (S j).toNat := by simp [secCells]
theorem sec_one (S : Nat → UInt8) : ∀ v ∈ secCells S, v.oneCell' = true := by
  intro v hv
  obtain ⟨c, _, rfl⟩ := List.mem_map.1 hv
  rfl

theorem Try.sz2048 : (Try.prog.info? 74).map (·.size) = some 2048 := by kernel_rfl

/-- All that lasts is what is read. -/
theorem ApiAt.copy {w : World} {b : Nat} {S E : Nat → UInt8} {U : List Lg} {l : Int} {d : Bool} (h : ApiAt w b S E U l d) :
    ApiAt (w.setCells b 2048 (secCells S)) b S S U l d ∧ Below b w (w.setCells b 2048 (secCells S)) ∧ TK AT w (w.setCells b 2048 (secCells S)) := by
  have hl := sec_len S
  have hin : ∀ j, j < 2048 → (w.setCells b 2048 (secCells S)).cell? ⟨b, 2048 + j, none⟩ = some (.int .u8 (S j).toNat) := fun j hj => by
    rw [World.cell?_setCells_in b (secCells S) 2048 w (fun k hk => by rw [h.ce k (by omega)]; rfl) j (by omega), sec_get S j hj]
  have hout : ∀ o, (o < 2048 ∨ 4096 ≤ o) → (w.setCells b 2048 (secCells S)).cell? ⟨b, o, none⟩ = w.cell? ⟨b, o, none⟩ := fun o ho =>
    World.cell?_setCells_out b (secCells S) 2048 w ⟨b, o, none⟩ (fun _ _ => by rw [hl]; exact ho)
  refine ⟨⟨ty_setCells _ _ _ h.ty, fun j hj => ?_, fun j hj => hin j hj, ?_, ?_, ?_, fun o => by rw [World.frozen?_setCells]; exact h.fz o, by rw [size_setCells]; exact h.lt⟩, below_setCells _ _ _, tk_setCells (.inl rfl) _ _ _ h.ty⟩
  · rw [hout _ (by omega)]; exact h.cs j hj
  · obtain ⟨v, c, hr⟩ := h.cl
    exact ⟨v, by rw [hout _ (by omega)]; exact c, owns_setCells (by omega) _ _ _ hr⟩
  · rw [hout _ (by omega)]; exact h.c3
  · rw [hout _ (by omega)]; exact h.c4

theorem ApiAt.load {w : World} {b : Nat} {S E : Nat → UInt8} {U : List Lg} {l : Int} {d : Bool} (h : ApiAt w b S E U l d) : (Instr.loadAt 74 (.pointer (some ⟨b, 0, none⟩))).run Try.prog w = .ok (.agg (secCells S).toArray) w :=
  run_loadAt_mid w b 0 74 (secCells S) _ (fun j v hv => by
    have hj := (List.getElem?_eq_some_iff.1 hv).1
    rw [sec_len] at hj
    rw [Nat.zero_add, h.cs j hj, ← hv, List.getElem?_eq_getElem (by rw [sec_len]; exact hj), sec_get S j hj]) Try.underlying74 rfl (by rw [Try.sz2048, sec_len])

theorem ApiAt.store {w : World} {b : Nat} {S E : Nat → UInt8} {U : List Lg} {l : Int} {d : Bool} (h : ApiAt w b S E U l d) : (Instr.storeAt 74 (.pointer (some ⟨b, 2048, none⟩)) (.agg (secCells S).toArray)).run Try.prog w = .ok () (w.setCells b 2048 (secCells S)) := by
  have hsz : (secCells S).toArray.size = 2048 := by rw [List.size_toArray, sec_len]
  have hth : w.there b 2048 (secCells S).toArray.size := by
    rw [hsz]
    exact fun j hj => ⟨by rw [h.ce j hj]; rfl, h.fz _⟩
  have hr := run_storeAt_mid (P := Try.prog) w b 2048 74 (secCells S).toArray hth (by rw [Try.sz2048, hsz]) (all_oneCell_toArray (sec_one S))
  rw [List.toList_toArray] at hr
  exact hr

set_option maxRecDepth 100000 in
set_option maxHeartbeats 2000000 in
theorem arestore_any (b : Nat) (S E : Nat → UInt8) (U : List Lg) (l keep : Int) (d : Bool) (w : World) (hn : U.length ≤ 4398046511000) (hU : ∀ x ∈ U, x.sec < 64 ∧ x.data.size = 32) (h : ApiAt w b S E U l d) :
    Calls Try.prog 20 #[.pointer (some ⟨b, 0, none⟩), .int .i64 keep] w fun e w' => e = .returned (.tuple #[]) ∧ ApiAt w' b (updB keep S U U.length) (updB keep S U U.length) [] (-1) false ∧ Below b w w' ∧ TK AT w w' := by
  go_enter Try.func20, Try.ntmps20
  go_wp2
  go_loopw [4] (fun i wr => ∃ k : Nat, k ≤ U.length ∧ i = .int .i64 k ∧ ApiAt wr b (updB keep S U k) E U l d ∧ Below b w wr ∧ TK AT w wr) (fun i _ => U.length - (intOf i).toNat)
  case atStart => exact ⟨0, Nat.zero_le _, rfl, h, Below.refl _ _, TK.refl _ _⟩
  case round =>
    obtain ⟨k, hk, rfl, hA, hbe, htk⟩ := hrel
    obtain ⟨v, c2, hrow⟩ := hA.cl
    obtain ⟨a, cap, rfl⟩ := slice_of_owns hrow
    by_cases hlt : k < U.length
    · obtain ⟨g, hae, _, hbg, hglt, q0, hrg⟩ := lates_at hrow (fun x hx => (hU x hx).2) hlt
      subst hae
      have hlt' : (k : Int) < (U.length : Int) := by omega
      have hx := hU U[k] (List.getElem_mem hlt)
      have hst := updB_succ keep S U k hlt
      have hbt := bit_test keep k
      obtain ⟨x, hxe⟩ : ∃ x, x = U[k] := ⟨_, rfl⟩
      rw [← hxe] at q0 hrg hx hst
      cases hbit : bitOf keep k with
      | true =>
        rw [hbit] at hbt hst
        rw [if_pos rfl] at hst
        have hxl : x.data.data.toList.length = 32 := by rw [Array.length_toList]; exact hx.2
        obtain ⟨r1, r2, r3⟩ := hA.drew.setS (i := x.sec) hx.1 hxl
        rw [← hst] at r1
        have hcl : (byteCells x.data.data.toList).length = 32 := by rw [bc_len]; exact hxl
        have hone := bc_one x.data.data.toList
        have hu := Try.underlying73
        have hi : (Try.prog.info? 73).map (·.size) = some (byteCells x.data.data.toList).length := by rw [hcl]; exact Try.sz32
        have hth := hA.thereS hx.1
        have hsec : (x.sec : Int) < 64 := by omega
        have hK1 : ∀ w' : World, (w'.setCells b (x.sec * 32) (byteCells x.data.data.toList)).cell? ⟨b, 4096, none⟩ = w'.cell? ⟨b, 4096, none⟩ := fun w' => World.cell?_setCells_out b _ _ w' _ (fun _ _ => by rw [hcl]; right; show x.sec * 32 + 32 ≤ 4096; omega)
        have hK2 : ∀ w' : World, (w'.setCells b (x.sec * 32) (byteCells x.data.data.toList)).cell? ⟨g, k * 33, none⟩ = w'.cell? ⟨g, k * 33, none⟩ := fun w' => World.cell?_setCells_out b _ _ w' _ (fun e _ => by simp at e; omega)
        have hK3 : ∀ w' : World, w'.rangeAt g (k * 33 + 1) (byteCells x.data.data.toList) → (w'.setCells b (x.sec * 32) (byteCells x.data.data.toList)).rangeAt g (k * 33 + 1) (byteCells x.data.data.toList) := fun w' hw => World.rangeAt_setCells_apart hw _ _ _ (by left; omega)
        have hK4 : ∀ w' : World, w'.there b (x.sec * 32) 32 → (w'.setCells b (x.sec * 32) (byteCells x.data.data.toList)).there b (x.sec * 32) 32 := fun w' hw => World.there_setCells hw _ _ _
        have HR := hide (⟨r1, r2, r3⟩ : _ ∧ _ ∧ _)
        generalize byteCells x.data.data.toList = cs at *
        generalize x.sec = sec at *
        clear hxe hx hst hxl r1 r2 r3 hrow hA hbit
        go_wp2
        go_region_held3 (fun w' => w'.cell? ⟨b, 4096, none⟩ = some (.slice (some ⟨g, 0, none⟩) U.length cap) ∧ w'.cell? ⟨g, k * 33, none⟩ = some (.int .i64 sec) ∧ w'.rangeAt g (k * 33 + 1) cs ∧ w'.there b (sec * 32) 32) (go_keep) (fail)
        go_wp2
        go_roundw
        case rel => exact ⟨k + 1, by omega, by go_num, (unhide HR).1, hbe.drew.trans (unhide HR).2.1, (htk.trans (tk_drew wr)).trans (unhide HR).2.2⟩
        case measure => simp [intOf]; omega
      | false =>
        rw [hbit] at hbt hst
        rw [if_neg (by simp)] at hst
        have HA := hide (show ApiAt wr b (updB keep S U (k + 1)) E U l d by rw [hst]; exact hA)
        clear hxe hx hst hrow hA hbit q0 hrg
        go_wp2
        go_roundw
        case rel => exact ⟨k + 1, by omega, by go_num, unhide HA, hbe, htk⟩
        case measure => simp [intOf]; omega
    · have hlt' : ¬ (k : Int) < (U.length : Int) := by omega
      have hke : k = U.length := by omega
      rw [hke] at hA
      have hrg : wr.rangeAt b 0 (secCells (updB keep S U U.length)) := fun j v hv => by
        have hj := (List.getElem?_eq_some_iff.1 hv).1
        rw [sec_len] at hj
        rw [Nat.zero_add, hA.cs j hj, ← hv, List.getElem?_eq_getElem (by rw [sec_len]; exact hj), sec_get _ j hj]
      have hsz : (secCells (updB keep S U U.length)).toArray.size = 2048 := by rw [List.size_toArray, sec_len]
      have hth : wr.there b 2048 (secCells (updB keep S U U.length)).toArray.size := by
        rw [hsz]
        exact fun j hj => ⟨by rw [hA.ce j hj]; rfl, hA.fz _⟩
      have hi1 : (Try.prog.info? 74).map (·.size) = some (secCells (updB keep S U U.length)).length := by rw [Try.sz2048, sec_len]
      have hi2 : (Try.prog.info? 74).map (·.size) = some (secCells (updB keep S U U.length)).toArray.size := by rw [Try.sz2048, hsz]
      have hone := all_oneCell_toArray (sec_one (updB keep S U U.length))
      have Hs := hide (⟨hrg, hth, hi1, hi2, hone⟩ : _ ∧ _ ∧ _ ∧ _ ∧ _)
      obtain ⟨c1, c2', c3⟩ := hA.copy
      obtain ⟨d1, d2, d3⟩ := c1.drop
      obtain ⟨e1, e2, e3⟩ := d1.set3 (-1)
      obtain ⟨f1, f2, f3⟩ := e1.set4 false
      have z1 := c1.fz
      have y1 := c1.c3
      have y2 := c1.c4
      have y0 := c1.cl
      obtain ⟨v0, y0, _⟩ := y0
      have HF := hide (⟨f1, (((hbe.trans c2').trans d2).trans e2).trans f2, (((htk.trans c3).trans d3).trans e3).trans f3⟩ : _ ∧ _ ∧ _)
      generalize secCells (updB keep S U U.length) = cs at *
      clear hrow hA hke c1 c2' c3 d1 d2 d3 e1 e2 e3 f1 f2 f3 hrg hsz hth hi1 hi2 hone
      go_wp2_with (first | (refine wpList_load_mid rfl 74 _ rfl b 0 rfl cs _ (unhide Hs).1 Try.underlying74 rfl (unhide Hs).2.2.1 ?_) | (refine wpList_store_mid rfl 74 _ _ rfl b 2048 cs.toArray rfl rfl (unhide Hs).2.1 (unhide Hs).2.2.2.1 (unhide Hs).2.2.2.2 ?_; rw [List.toList_toArray]))
      go_end0
      exact ⟨rfl, (unhide HF).1, (unhide HF).2.1, (unhide HF).2.2⟩

end Go.Proofs.Ytdlhgbhaeedbdaa
