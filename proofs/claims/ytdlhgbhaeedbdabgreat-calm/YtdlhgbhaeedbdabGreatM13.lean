/- Dv14, Dv15, Dv16, Dv17. -/
import Derived.Test.YtdlhgbhaeedbdabGreatM12
import Derived.Deep.RegionHeld3
import Derived.Laws.Entries
import Derived.Deep.AppendLies
import Derived.Great.BuildSlice

/- The program's Flush. -/
namespace Go.Proofs.YtdlhgbhaeedbdabGreat
open Go.RowKit

def updTo (S : Nat → UInt8) (U : List Lg) (k : Nat) : Nat → UInt8 := (U.take k).foldl (fun S x => upd S x.sec x.data.data.toList) S

theorem updTo_succ (S : Nat → UInt8) (U : List Lg) (k : Nat) (h : k < U.length) : updTo S U (k + 1) = upd (updTo S U k) U[k].sec U[k].data.data.toList := by
  unfold updTo
  rw [List.take_succ_eq_append_getElem h, List.foldl_append]
  rfl

theorem Tryz.sz32 : (Tryz.prog.info? 116).map (·.size) = some 32 := by kernel_rfl

theorem load32 (g o : Nat) (cs : List Value) (hl : cs.length = 32) (w : World) (h : w.rangeAt g o cs) : (Instr.loadAt 116 (.pointer (some ⟨g, o, none⟩))).run Tryz.prog w = .ok (.agg cs.toArray) w :=
  run_loadAt_mid w g o 116 cs _ h Tryz.underlying116 rfl (by rw [Tryz.sz32, hl])

theorem store32 (b o : Nat) (cs : List Value) (hl : cs.length = 32) (h1 : ∀ v ∈ cs, v.oneCell' = true) (w : World) (h : w.there b o 32) : (Instr.storeAt 116 (.pointer (some ⟨b, o, none⟩)) (.agg cs.toArray)).run Tryz.prog w = .ok () (w.setCells b o cs) :=
  run_storeAt_mid w b o 116 cs.toArray (by simpa [hl] using h) (by rw [Tryz.sz32]; simp [hl]) (all_oneCell_toArray h1)

theorem bc_one (d : List UInt8) : ∀ v ∈ byteCells d, v.oneCell' = true := by
  intro v hv
  obtain ⟨c, _, rfl⟩ := List.mem_map.1 hv
  rfl

theorem tk_drew {T : TypeId → Prop} (w : World) : TK T w w.drew := TK.of_below (Below.refl _ _).drew
theorem ApiAt.drew {w : World} {b : Nat} {S E : Nat → UInt8} {U : List Lg} {l : Int} {d : Bool} (h : ApiAt w b S E U l d) : ApiAt w.drew b S E U l d := h.keep (T := fun _ => False) (tk_drew w) id id

set_option maxRecDepth 100000 in
set_option maxHeartbeats 2000000 in
theorem aflush_ok (b : Nat) (S E : Nat → UInt8) (U : List Lg) (l : Int) (d : Bool) (w : World) (hl : l ≤ 9223372036854775807) (hn : U.length ≤ 4398046511000) (hU : ∀ x ∈ U, x.sec < 64 ∧ x.data.size = 32) (h : ApiAt w b S E U l d) (hp : spR l d = true) :
    Calls Tryz.prog 169 #[.pointer (some ⟨b, 0, none⟩)] w fun e w' => e = .returned (.int .i64 0) ∧ ApiAt w' b (updTo S U U.length) E [] (spLeft l) (spDead l d) ∧ Below b w w' ∧ TK AT w w' := by
  have hsp := aspend_any b l d w hl h.c3 h.c4 h.fz
  obtain ⟨hs1, hs2, hs3⟩ := h.spend
  have hnot : ∀ (x : Bool) (w : World), (Op.unary .not (.bool x)).run Tryz.prog w = .ok (.bool (!x)) w := fun _ _ => rfl
  rw [hp] at hsp
  have Hsp := hide hsp
  generalize spLeft l = l' at *
  generalize spDead l d = d' at *
  generalize spW w b l = w1 at *
  clear h hsp hp
  go_enter Tryz.func169, Tryz.ntmps169
  go_wp2_with fail
  refine (unhide Hsp).mono ?_
  rintro e w2 ⟨rfl, he⟩
  replace he := he.symm
  subst he
  go_wp2
  go_loopw [4] (fun i wr => ∃ k : Nat, k ≤ U.length ∧ i = .int .i64 k ∧ ApiAt wr b (updTo S U k) E U l' d' ∧ Below b w1 wr ∧ TK AT w1 wr) (fun i _ => U.length - (intOf i).toNat)
  case atStart => exact ⟨0, Nat.zero_le _, rfl, hs1, Below.refl _ _, TK.refl _ _⟩
  case round =>
    obtain ⟨k, hk, rfl, hA, hbe, htk⟩ := hrel
    obtain ⟨v, c2, hrow⟩ := hA.cl
    obtain ⟨a, cap, rfl⟩ := slice_of_owns hrow
    by_cases hlt : k < U.length
    · obtain ⟨g, hae, _, hbg, hglt, q0, hrg⟩ := lates_at hrow (fun x hx => (hU x hx).2) hlt
      subst hae
      have hlt' : (k : Int) < (U.length : Int) := by omega
      have hx := hU U[k] (List.getElem_mem hlt)
      have hst := updTo_succ S U k hlt
      obtain ⟨x, hxe⟩ : ∃ x, x = U[k] := ⟨_, rfl⟩
      rw [← hxe] at q0 hrg hx hst
      have hxl : x.data.data.toList.length = 32 := by rw [Array.length_toList]; exact hx.2
      obtain ⟨r1, r2, r3⟩ := hA.drew.setS (i := x.sec) hx.1 hxl
      rw [← hst] at r1
      have hcl : (byteCells x.data.data.toList).length = 32 := by rw [bc_len]; exact hxl
      have hone := bc_one x.data.data.toList
      have hu := Tryz.underlying116
      have hi : (Tryz.prog.info? 116).map (·.size) = some (byteCells x.data.data.toList).length := by rw [hcl]; exact Tryz.sz32
      have hth := hA.thereS hx.1
      have hsec : (x.sec : Int) < 64 := by omega
      have hK1 : ∀ w' : World, (w'.setCells b (x.sec * 32) (byteCells x.data.data.toList)).cell? ⟨b, 4096, none⟩ = w'.cell? ⟨b, 4096, none⟩ := fun w' => World.cell?_setCells_out b _ _ w' _ (fun _ _ => by rw [hcl]; right; show x.sec * 32 + 32 ≤ 4096; omega)
      have hK2 : ∀ w' : World, (w'.setCells b (x.sec * 32) (byteCells x.data.data.toList)).cell? ⟨g, k * 33, none⟩ = w'.cell? ⟨g, k * 33, none⟩ := fun w' => World.cell?_setCells_out b _ _ w' _ (fun e _ => by simp at e; omega)
      have hK3 : ∀ w' : World, w'.rangeAt g (k * 33 + 1) (byteCells x.data.data.toList) → (w'.setCells b (x.sec * 32) (byteCells x.data.data.toList)).rangeAt g (k * 33 + 1) (byteCells x.data.data.toList) := fun w' hw => World.rangeAt_setCells_apart hw _ _ _ (by left; omega)
      have hK4 : ∀ w' : World, w'.there b (x.sec * 32) 32 → (w'.setCells b (x.sec * 32) (byteCells x.data.data.toList)).there b (x.sec * 32) 32 := fun w' hw => World.there_setCells hw _ _ _
      have HR := hide (⟨r1, r2, r3⟩ : _ ∧ _ ∧ _)
      generalize byteCells x.data.data.toList = cs at *
      generalize x.sec = sec at *
      clear hxe hx hst hxl r1 r2 r3 hrow hA
      go_wp2
      go_region_held3 (fun w' => w'.cell? ⟨b, 4096, none⟩ = some (.slice (some ⟨g, 0, none⟩) U.length cap) ∧ w'.cell? ⟨g, k * 33, none⟩ = some (.int .i64 sec) ∧ w'.rangeAt g (k * 33 + 1) cs ∧ w'.there b (sec * 32) 32) (go_keep) (fail)
      go_wp2
      go_roundw
      case rel => exact ⟨k + 1, by omega, by go_num, (unhide HR).1, hbe.drew.trans (unhide HR).2.1, (htk.trans (tk_drew wr)).trans (unhide HR).2.2⟩
      case measure => simp [intOf]; omega
    · have hlt' : ¬ (k : Int) < (U.length : Int) := by omega
      have hke : k = U.length := by omega
      have hd := hA.drop
      have hfz := hA.fz
      rw [hke] at hd
      have Hd := hide hd
      clear hd hrow hke
      go_wp2
      go_ret
      exact ⟨rfl, (unhide Hd).1, (hs2.trans hbe).trans (unhide Hd).2.1, (hs3.trans htk).trans (unhide Hd).2.2⟩

set_option maxRecDepth 100000 in
set_option maxHeartbeats 400000 in
theorem aflush_dead (b : Nat) (S E : Nat → UInt8) (U : List Lg) (l : Int) (d : Bool) (w : World) (hl : l ≤ 9223372036854775807) (h : ApiAt w b S E U l d) (hp : spR l d = false) :
    Calls Tryz.prog 169 #[.pointer (some ⟨b, 0, none⟩)] w fun e w' => e = .returned (.int .i64 7) ∧ ApiAt w' b S E U (spLeft l) (spDead l d) ∧ Below b w w' ∧ TK AT w w' := by
  have hsp := aspend_any b l d w hl h.c3 h.c4 h.fz
  obtain ⟨hs1, hs2, hs3⟩ := h.spend
  have hnot : ∀ (x : Bool) (w : World), (Op.unary .not (.bool x)).run Tryz.prog w = .ok (.bool (!x)) w := fun _ _ => rfl
  rw [hp] at hsp
  have Hsp := hide hsp
  generalize spLeft l = l' at *
  generalize spDead l d = d' at *
  generalize spW w b l = w1 at *
  clear h hsp hp
  go_enter Tryz.func169, Tryz.ntmps169
  go_wp2_with fail
  refine (unhide Hsp).mono ?_
  rintro e w2 ⟨rfl, he⟩
  replace he := he.symm
  subst he
  go_wp2
  go_ret
  exact ⟨rfl, hs1, hs2, hs3⟩

end Go.Proofs.YtdlhgbhaeedbdabGreat

/- The program's Restore. -/
namespace Go.Proofs.YtdlhgbhaeedbdabGreat
open Go.RowKit

theorem i64_and1 (n : Int) : bits .and .i64 n 1 = n % 2 := by
  have h : (BitVec.ofInt 64 n &&& BitVec.ofInt 64 1).toNat = (n % 2).toNat := by
    rw [BitVec.toNat_and, show (BitVec.ofInt 64 1).toNat = 1 from by decide, Nat.and_one_is_mod, BitVec.toNat_ofInt]
    omega
  have hb : bits .and .i64 n 1 = IntKind.i64.wrap ((BitVec.ofInt 64 n &&& BitVec.ofInt 64 1).toNat : Int) := rfl
  rw [hb, h]
  have : ((n % 2).toNat : Int) = n % 2 := by omega
  rw [this]
  show _ = _
  have h2 : n % 2 = 0 ∨ n % 2 = 1 := by omega
  rcases h2 with h2 | h2 <;> rw [h2] <;> rfl

theorem bit_test (keep : Int) (k : Nat) : (bits .and .i64 (keep / 2 ^ (k % 63)) 1 == 1) = bitOf keep k := by
  rw [i64_and1]
  unfold bitOf
  obtain ⟨m, hm⟩ : ∃ m, m = k % 63 := ⟨_, rfl⟩
  have hm2 : m < 63 := by omega
  rw [← hm]
  obtain ⟨u, hu⟩ : ∃ u : Nat, u = (keep % 18446744073709551616).toNat := ⟨_, rfl⟩
  rw [← hu]
  have hk : keep = (u : Int) + 18446744073709551616 * (keep / 18446744073709551616) := by omega
  have hp : (18446744073709551616 : Int) = 2 ^ m * (2 * 2 ^ (63 - m)) := by
    have : (2 : Int) ^ m * (2 * 2 ^ (63 - m)) = 2 ^ (m + 1 + (63 - m)) := by
      rw [Int.pow_add, Int.pow_succ]; simp [Int.mul_assoc, Int.mul_comm, Int.mul_left_comm]
    rw [this, show m + 1 + (63 - m) = 64 from by omega]
    decide
  have hpos : (0 : Int) < 2 ^ m := Int.pow_pos (by decide)
  have hd : keep / 2 ^ m = (u : Int) / 2 ^ m + 2 * (2 ^ (63 - m) * (keep / 18446744073709551616)) := by
    conv => lhs; rw [hk, hp]
    rw [show (2 : Int) ^ m * (2 * 2 ^ (63 - m)) * (keep / (2 ^ m * (2 * 2 ^ (63 - m)))) = 2 ^ m * (2 * (2 ^ (63 - m) * (keep / (2 ^ m * (2 * 2 ^ (63 - m)))))) from by simp [Int.mul_assoc, Int.mul_left_comm]]
    rw [Int.add_mul_ediv_left _ _ (by omega), ← hp]
  rw [hd]
  have e1 : ((u : Int) / 2 ^ m + 2 * (2 ^ (63 - m) * (keep / 18446744073709551616))) % 2 = ((u / 2 ^ m % 2 : Nat) : Int) := by
    rw [Int.add_mul_emod_self_left]
    simp
  rw [e1]
  have : u / 2 ^ m % 2 = 0 ∨ u / 2 ^ m % 2 = 1 := by omega
  rcases this with h | h <;> simp [h]

/-- What lasts, of the first k late writes. -/
def updB (keep : Int) (S : Nat → UInt8) (U : List Lg) : Nat → Nat → UInt8
  | 0 => S
  | k + 1 => match U[k]? with | some x => if bitOf keep k then upd (updB keep S U k) x.sec x.data.data.toList else updB keep S U k | none => updB keep S U k

theorem updB_succ (keep : Int) (S : Nat → UInt8) (U : List Lg) (k : Nat) (h : k < U.length) : updB keep S U (k + 1) = if bitOf keep k then upd (updB keep S U k) U[k].sec U[k].data.data.toList else updB keep S U k := by
  simp only [updB, List.getElem?_eq_getElem h]

def secCells (S : Nat → UInt8) : List Value := (List.range 2048).map fun j => Value.int .u8 (S j).toNat

theorem sec_len (S : Nat → UInt8) : (secCells S).length = 2048 := by simp [secCells]
theorem sec_get (S : Nat → UInt8) (j : Nat) (h : j < 2048) : (secCells S)[j]'(by rw [sec_len]; exact h) = .int .u8 (S j).toNat := by simp [secCells]
theorem sec_one (S : Nat → UInt8) : ∀ v ∈ secCells S, v.oneCell' = true := by
  intro v hv
  obtain ⟨c, _, rfl⟩ := List.mem_map.1 hv
  rfl

theorem Tryz.sz2048 : (Tryz.prog.info? 117).map (·.size) = some 2048 := by kernel_rfl

/-- All that lasts is what is read. -/
theorem ApiAt.copy {w : World} {b : Nat} {S E : Nat → UInt8} {U : List Lg} {l : Int} {d : Bool} (h : ApiAt w b S E U l d) :
    ApiAt (w.setCells b 2048 (secCells S)) b S S U l d ∧ Below b w (w.setCells b 2048 (secCells S)) ∧ TK AT w (w.setCells b 2048 (secCells S)) := by
  have hl := sec_len S
  have hin : ∀ j, j < 2048 → (w.setCells b 2048 (secCells S)).cell? ⟨b, 2048 + j, none⟩ = some (.int .u8 (S j).toNat) := fun j hj => by
    rw [World.cell?_setCells_in b (secCells S) 2048 w (fun k hk => by rw [h.ce k (by omega)]; rfl) j (by omega), sec_get S j hj]
  have hout : ∀ o, (o < 2048 ∨ 4096 ≤ o) → (w.setCells b 2048 (secCells S)).cell? ⟨b, o, none⟩ = w.cell? ⟨b, o, none⟩ := fun o ho =>
    World.cell?_setCells_out b (secCells S) 2048 w ⟨b, o, none⟩ (fun _ _ => by rw [hl]; exact ho)
  refine ⟨⟨ty_setCells _ _ _ h.ty, fun j hj => ?_, fun j hj => hin j hj, ?_, ?_, ?_, fun o => by rw [World.frozen?_setCells]; exact h.fz o, by rw [size_setCells]; exact h.lt⟩, below_setCells _ _ _, tk_setCells (.inl rfl) _ _ _ h.ty⟩
  · rw [hout _ (by omega)]; exact h.cs j hj
  · obtain ⟨v, c, hr⟩ := h.cl
    exact ⟨v, by rw [hout _ (by omega)]; exact c, owns_setCells (by omega) _ _ _ hr⟩
  · rw [hout _ (by omega)]; exact h.c3
  · rw [hout _ (by omega)]; exact h.c4

theorem ApiAt.load {w : World} {b : Nat} {S E : Nat → UInt8} {U : List Lg} {l : Int} {d : Bool} (h : ApiAt w b S E U l d) : (Instr.loadAt 117 (.pointer (some ⟨b, 0, none⟩))).run Tryz.prog w = .ok (.agg (secCells S).toArray) w :=
  run_loadAt_mid w b 0 117 (secCells S) _ (fun j v hv => by
    have hj := (List.getElem?_eq_some_iff.1 hv).1
    rw [sec_len] at hj
    rw [Nat.zero_add, h.cs j hj, ← hv, List.getElem?_eq_getElem (by rw [sec_len]; exact hj), sec_get S j hj]) Tryz.underlying117 rfl (by rw [Tryz.sz2048, sec_len])

theorem ApiAt.store {w : World} {b : Nat} {S E : Nat → UInt8} {U : List Lg} {l : Int} {d : Bool} (h : ApiAt w b S E U l d) : (Instr.storeAt 117 (.pointer (some ⟨b, 2048, none⟩)) (.agg (secCells S).toArray)).run Tryz.prog w = .ok () (w.setCells b 2048 (secCells S)) := by
  have hsz : (secCells S).toArray.size = 2048 := by rw [List.size_toArray, sec_len]
  have hth : w.there b 2048 (secCells S).toArray.size := by
    rw [hsz]
    exact fun j hj => ⟨by rw [h.ce j hj]; rfl, h.fz _⟩
  have hr := run_storeAt_mid (P := Tryz.prog) w b 2048 117 (secCells S).toArray hth (by rw [Tryz.sz2048, hsz]) (all_oneCell_toArray (sec_one S))
  rw [List.toList_toArray] at hr
  exact hr

set_option maxRecDepth 100000 in
set_option maxHeartbeats 2000000 in
theorem arestore_any (b : Nat) (S E : Nat → UInt8) (U : List Lg) (l keep : Int) (d : Bool) (w : World) (hn : U.length ≤ 4398046511000) (hU : ∀ x ∈ U, x.sec < 64 ∧ x.data.size = 32) (h : ApiAt w b S E U l d) :
    Calls Tryz.prog 44 #[.pointer (some ⟨b, 0, none⟩), .int .i64 keep] w fun e w' => e = .returned (.tuple #[]) ∧ ApiAt w' b (updB keep S U U.length) (updB keep S U U.length) [] (-1) false ∧ Below b w w' ∧ TK AT w w' := by
  go_enter Tryz.func44, Tryz.ntmps44
  go_wp2
  go_loopw [4] (fun i wr => ∃ k : Nat, k ≤ U.length ∧ i = .int .i64 k ∧ ApiAt wr b (updB keep S U k) E U l d ∧ Below b w wr ∧ TK AT w wr) (fun i _ => U.length - (intOf i).toNat)
  case atStart => exact ⟨0, Nat.zero_le _, rfl, h, Below.refl _ _, TK.refl _ _⟩
  case round =>
    obtain ⟨k, hk, rfl, hA, hbe, htk⟩ := hrel
    obtain ⟨v, c2, hrow⟩ := hA.cl
    obtain ⟨a, cap, rfl⟩ := slice_of_owns hrow
    by_cases hlt : k < U.length
    · obtain ⟨g, hae, _, hbg, hglt, q0, hrg⟩ := lates_at hrow (fun x hx => (hU x hx).2) hlt
      subst hae
      have hlt' : (k : Int) < (U.length : Int) := by omega
      have hx := hU U[k] (List.getElem_mem hlt)
      have hst := updB_succ keep S U k hlt
      have hbt := bit_test keep k
      obtain ⟨x, hxe⟩ : ∃ x, x = U[k] := ⟨_, rfl⟩
      rw [← hxe] at q0 hrg hx hst
      cases hbit : bitOf keep k with
      | true =>
        rw [hbit] at hbt hst
        rw [if_pos rfl] at hst
        have hxl : x.data.data.toList.length = 32 := by rw [Array.length_toList]; exact hx.2
        obtain ⟨r1, r2, r3⟩ := hA.drew.setS (i := x.sec) hx.1 hxl
        rw [← hst] at r1
        have hcl : (byteCells x.data.data.toList).length = 32 := by rw [bc_len]; exact hxl
        have hone := bc_one x.data.data.toList
        have hu := Tryz.underlying116
        have hi : (Tryz.prog.info? 116).map (·.size) = some (byteCells x.data.data.toList).length := by rw [hcl]; exact Tryz.sz32
        have hth := hA.thereS hx.1
        have hsec : (x.sec : Int) < 64 := by omega
        have hK1 : ∀ w' : World, (w'.setCells b (x.sec * 32) (byteCells x.data.data.toList)).cell? ⟨b, 4096, none⟩ = w'.cell? ⟨b, 4096, none⟩ := fun w' => World.cell?_setCells_out b _ _ w' _ (fun _ _ => by rw [hcl]; right; show x.sec * 32 + 32 ≤ 4096; omega)
        have hK2 : ∀ w' : World, (w'.setCells b (x.sec * 32) (byteCells x.data.data.toList)).cell? ⟨g, k * 33, none⟩ = w'.cell? ⟨g, k * 33, none⟩ := fun w' => World.cell?_setCells_out b _ _ w' _ (fun e _ => by simp at e; omega)
        have hK3 : ∀ w' : World, w'.rangeAt g (k * 33 + 1) (byteCells x.data.data.toList) → (w'.setCells b (x.sec * 32) (byteCells x.data.data.toList)).rangeAt g (k * 33 + 1) (byteCells x.data.data.toList) := fun w' hw => World.rangeAt_setCells_apart hw _ _ _ (by left; omega)
        have hK4 : ∀ w' : World, w'.there b (x.sec * 32) 32 → (w'.setCells b (x.sec * 32) (byteCells x.data.data.toList)).there b (x.sec * 32) 32 := fun w' hw => World.there_setCells hw _ _ _
        have HR := hide (⟨r1, r2, r3⟩ : _ ∧ _ ∧ _)
        generalize byteCells x.data.data.toList = cs at *
        generalize x.sec = sec at *
        clear hxe hx hst hxl r1 r2 r3 hrow hA hbit
        go_wp2
        go_region_held3 (fun w' => w'.cell? ⟨b, 4096, none⟩ = some (.slice (some ⟨g, 0, none⟩) U.length cap) ∧ w'.cell? ⟨g, k * 33, none⟩ = some (.int .i64 sec) ∧ w'.rangeAt g (k * 33 + 1) cs ∧ w'.there b (sec * 32) 32) (go_keep) (fail)
        go_wp2
        go_roundw
        case rel => exact ⟨k + 1, by omega, by go_num, (unhide HR).1, hbe.drew.trans (unhide HR).2.1, (htk.trans (tk_drew wr)).trans (unhide HR).2.2⟩
        case measure => simp [intOf]; omega
      | false =>
        rw [hbit] at hbt hst
        rw [if_neg (by simp)] at hst
        have HA := hide (show ApiAt wr b (updB keep S U (k + 1)) E U l d by rw [hst]; exact hA)
        clear hxe hx hst hrow hA hbit q0 hrg
        go_wp2
        go_roundw
        case rel => exact ⟨k + 1, by omega, by go_num, unhide HA, hbe, htk⟩
        case measure => simp [intOf]; omega
    · have hlt' : ¬ (k : Int) < (U.length : Int) := by omega
      have hke : k = U.length := by omega
      rw [hke] at hA
      have hrg : wr.rangeAt b 0 (secCells (updB keep S U U.length)) := fun j v hv => by
        have hj := (List.getElem?_eq_some_iff.1 hv).1
        rw [sec_len] at hj
        rw [Nat.zero_add, hA.cs j hj, ← hv, List.getElem?_eq_getElem (by rw [sec_len]; exact hj), sec_get _ j hj]
      have hsz : (secCells (updB keep S U U.length)).toArray.size = 2048 := by rw [List.size_toArray, sec_len]
      have hth : wr.there b 2048 (secCells (updB keep S U U.length)).toArray.size := by
        rw [hsz]
        exact fun j hj => ⟨by rw [hA.ce j hj]; rfl, hA.fz _⟩
      have hi1 : (Tryz.prog.info? 117).map (·.size) = some (secCells (updB keep S U U.length)).length := by rw [Tryz.sz2048, sec_len]
      have hi2 : (Tryz.prog.info? 117).map (·.size) = some (secCells (updB keep S U U.length)).toArray.size := by rw [Tryz.sz2048, hsz]
      have hone := all_oneCell_toArray (sec_one (updB keep S U U.length))
      have Hs := hide (⟨hrg, hth, hi1, hi2, hone⟩ : _ ∧ _ ∧ _ ∧ _ ∧ _)
      obtain ⟨c1, c2', c3⟩ := hA.copy
      obtain ⟨d1, d2, d3⟩ := c1.drop
      obtain ⟨e1, e2, e3⟩ := d1.set3 (-1)
      obtain ⟨f1, f2, f3⟩ := e1.set4 false
      have z1 := c1.fz
      have y1 := c1.c3
      have y2 := c1.c4
      have y0 := c1.cl
      obtain ⟨v0, y0, _⟩ := y0
      have HF := hide (⟨f1, (((hbe.trans c2').trans d2).trans e2).trans f2, (((htk.trans c3).trans d3).trans e3).trans f3⟩ : _ ∧ _ ∧ _)
      generalize secCells (updB keep S U U.length) = cs at *
      clear hrow hA hke c1 c2' c3 d1 d2 d3 e1 e2 e3 f1 f2 f3 hrg hsz hth hi1 hi2 hone
      go_wp2_with (first | (refine wpList_load_mid rfl 117 _ rfl b 0 rfl cs _ (unhide Hs).1 Tryz.underlying117 rfl (unhide Hs).2.2.1 ?_) | (refine wpList_store_mid rfl 117 _ _ rfl b 2048 cs.toArray rfl rfl (unhide Hs).2.1 (unhide Hs).2.2.2.1 (unhide Hs).2.2.2.2 ?_; rw [List.toList_toArray]))
      go_end0
      exact ⟨rfl, (unhide HF).1, (unhide HF).2.1, (unhide HF).2.2⟩

end Go.Proofs.YtdlhgbhaeedbdabGreat

/- The program's Write. -/
namespace Go.Proofs.YtdlhgbhaeedbdabGreat
open Go.RowKit

set_option maxRecDepth 100000 in
set_option maxHeartbeats 400000 in
theorem awrite_arg (b : Nat) (i : Int) (v : Option Addr) (n cap : Nat) (w : World) (hi : i < 0 ∨ 64 ≤ i ∨ n ≠ 32) :
    Calls Tryz.prog 170 #[.pointer (some ⟨b, 0, none⟩), .int .i64 i, .slice v n cap] w fun e w' => e = .returned (.int .i64 6) ∧ w' = w := by
  by_cases h1 : i < 0
  · go_enter Tryz.func170, Tryz.ntmps170
    go_wp2
    go_ret
    exact ⟨rfl, rfl⟩
  · by_cases h2 : 64 ≤ i
    · go_enter Tryz.func170, Tryz.ntmps170
      go_wp2
      go_ret
      exact ⟨rfl, rfl⟩
    · have h3 : ((n : Int) != 32) = true := by rw [bne_iff_ne]; omega
      go_enter Tryz.func170, Tryz.ntmps170
      go_wp2
      go_ret
      exact ⟨rfl, rfl⟩

set_option maxRecDepth 100000 in
set_option maxHeartbeats 400000 in
theorem awrite_dead (b : Nat) (i : Nat) (v : Option Addr) (cap : Nat) (w : World) (hi : i < 64) (c4 : w.cell? ⟨b, 4098, none⟩ = some (.bool true)) :
    Calls Tryz.prog 170 #[.pointer (some ⟨b, 0, none⟩), .int .i64 i, .slice v 32 cap] w fun e w' => e = .returned (.int .i64 7) ∧ w' = w := by
  have h1 : ¬ (i : Int) < 0 := by omega
  have h2 : ¬ 64 ≤ (i : Int) := by omega
  go_enter Tryz.func170, Tryz.ntmps170
  go_wp2
  go_ret
  exact ⟨rfl, rfl⟩

/-- A late write under way. -/
structure LateW (w : World) (N : Nat) (i : Nat) (f : Nat → UInt8) : Prop where
  c0 : w.cell? ⟨N, 0, none⟩ = some (.int .i64 i)
  cd : ∀ j, j < 32 → w.cell? ⟨N, 1 + j, none⟩ = some (.int .u8 (f j).toNat)
  fz : ∀ o, w.frozen? ⟨N, o, none⟩ = false
  lt : N < w.heap.size

theorem LateW.set {w : World} {N i : Nat} {f : Nat → UInt8} (h : LateW w N i f) {j : Nat} (hj : j < 32) (x : UInt8) : LateW (w.setCell ⟨N, 1 + j, none⟩ (.int .u8 x.toNat)) N i fun k => if k = j then x else f k := by
  refine ⟨cell_set_ne h.c0 (by omega), fun k hk => ?_, fun o => by simp [h.fz o], by simpa [World.setCell] using h.lt⟩
  by_cases e : k = j
  · subst e
    rw [if_pos rfl]
    have := h.cd k hk
    exact World.cell?_setCell_same _ _ _ this
  · rw [if_neg e]
    exact cell_set_ne (h.cd k hk) (by omega)

/-- A new late write, by its cells. -/
def lzL (i : Nat) : List Value := .int .i64 i :: List.replicate 32 (.int .u8 0)

theorem lz_eq (i : Nat) : lateZ (i : Int) = (lzL i).toArray := by
  apply Array.toList_inj.1
  simp [lateZ, lzL]

theorem lz_len (i : Nat) : (lzL i).length = 33 := by simp [lzL]
theorem lz_one (i : Nat) : ∀ v ∈ lzL i, v.oneCell' = true := by
  intro v hv
  rcases List.mem_cons.1 hv with rfl | hv
  · rfl
  · rw [List.eq_of_mem_replicate hv]; rfl
theorem lz_at (i j : Nat) (h : j < 32) : (lzL i)[1 + j]'(by rw [lz_len]; omega) = .int .u8 0 := by
  have h1 : (lzL i)[1 + j]? = some (.int .u8 0) := by
    unfold lzL
    rw [Nat.add_comm, List.getElem?_cons_succ, List.getElem?_replicate, if_pos h]
  rw [List.getElem?_eq_getElem (by rw [lz_len]; omega)] at h1
  exact Option.some.inj h1

theorem there_new (w : World) (z : Array Value) (t : TypeId) : (w.alloc (.cells z t)).there w.heap.size 0 z.size := fun j hj => by
  refine ⟨?_, World.frozen?_alloc_at _ _ _ _ rfl⟩
  rw [World.cell?_alloc_at _ _ _ _ rfl, Nat.zero_add, Array.getElem?_eq_getElem hj]
  rfl

theorem lateZ_new (w : World) (z : Array Value) (hz : z.size = 33) (i : Nat) : LateW ((w.alloc (.cells z 147)).setCells w.heap.size 0 (lzL i)) w.heap.size i fun _ => 0 := by
  have hl := lz_len i
  have hth := there_new w z 147
  have hin := World.cell?_setCells_in w.heap.size (lzL i) 0 (w.alloc (.cells z 147)) (fun j hj => (hth j (by omega)).1)
  refine ⟨?_, fun j hj => ?_, fun o => ?_, by rw [size_setCells]; simp⟩
  · have := hin 0 (by omega)
    rw [Nat.zero_add] at this
    rw [this]; rfl
  · have := hin (1 + j) (by omega)
    rw [Nat.zero_add] at this
    rw [this, lz_at i j hj]
    rfl
  · rw [World.frozen?_setCells]; exact World.frozen?_alloc_at _ _ _ _ rfl

theorem Tryz.sz33 : (Tryz.prog.info? 147).map (·.size) = some 33 := by kernel_rfl

def zLate : Array Value := #[.int .i64 0, .int .u8 0, .int .u8 0, .int .u8 0, .int .u8 0, .int .u8 0, .int .u8 0, .int .u8 0, .int .u8 0, .int .u8 0, .int .u8 0, .int .u8 0, .int .u8 0, .int .u8 0, .int .u8 0, .int .u8 0, .int .u8 0, .int .u8 0, .int .u8 0, .int .u8 0, .int .u8 0, .int .u8 0, .int .u8 0, .int .u8 0, .int .u8 0, .int .u8 0, .int .u8 0, .int .u8 0, .int .u8 0, .int .u8 0, .int .u8 0, .int .u8 0, .int .u8 0]

set_option maxRecDepth 100000 in
theorem run_allocLate (w : World) : (Instr.alloc 147 true (.tuple #[])).run Tryz.prog w = .ok (.pointer (some ⟨w.heap.size, 0, none⟩)) (w.alloc (.cells zLate 147)) := by kernel_rfl

theorem wl_alloc {P : Program} {ops : Array Oper} {rest : List Oper} {o : Oper} {a : Act} {w w' : World} {Q : Exit → Act → World → Prop} (hg : o.guard = none) (t : TypeId) (ho : o.op = .alloc t) (v : Value)
    (hr : (Instr.alloc t true (.tuple #[])).run P w = .ok v w') (h : wpList P ops Q rest (a.put o.dst v) w') : wpList P ops Q (o :: rest) a w := by
  refine wpList_plain hg fun K hK => ?_
  unfold Oper.wp execOp
  simp only [ho, Sem.run_bind, hr, Result.andThen_ok, Sem.run_pure]
  exact hK _ _ h

theorem wl_build {P : Program} {ops : Array Oper} {rest : List Oper} {o : Oper} {a : Act} {w : World} {Q : Exit → Act → World → Prop} (hg : o.guard = none) (t : TypeId) (k : Nat) (x : Operand) (ho : o.op = .build t #[(k, x)]) (u : Value) (hu : a.eval x = u) (v : Value)
    (hr : (Instr.build t #[(k, u)]).run P w = .ok v w) (h : wpList P ops Q rest (a.put o.dst v) w) : wpList P ops Q (o :: rest) a w := by
  refine wpList_plain hg fun K hK => ?_
  unfold Oper.wp execOp
  simp only [ho, List.map_toArray, List.map_cons, List.map_nil, hu, Sem.run_bind, hr, Result.andThen_ok, Sem.run_pure]
  exact hK _ _ h

end Go.Proofs.YtdlhgbhaeedbdabGreat

/- The program's Write, walked. -/
namespace Go.Proofs.YtdlhgbhaeedbdabGreat
open Go.RowKit

/-- What a new late write's bytes are, k of them laid. -/
def lateTo (d : List UInt8) (k : Nat) : Nat → UInt8 := fun j => if j < k then d.getD j 0 else 0

theorem lateTo_succ (d : List UInt8) (k : Nat) : (fun j => if j = k then d.getD k 0 else lateTo d k j) = lateTo d (k + 1) := by
  funext j
  unfold lateTo
  by_cases h : j = k
  · subst h; simp
  · rw [if_neg h]
    by_cases h2 : j < k
    · rw [if_pos h2, if_pos (by omega)]
    · rw [if_neg h2, if_neg (by omega)]

theorem lt_one (x : Lg) : ∀ v ∈ ltCells x, v.oneCell' = true := by
  intro v hv
  rcases List.mem_cons.1 hv with rfl | hv
  · rfl
  · exact bc_one _ v hv

/-- A late write, all its bytes laid. -/
theorem LateW.range {w : World} {N i : Nat} {x : ByteArray} (h : LateW w N i (lateTo x.data.toList 32)) (hx : x.data.toList.length = 32) : w.rangeAt N 0 (ltCells ⟨i, x, false⟩) := fun j v hv => by
  rw [Nat.zero_add]
  cases j with
  | zero =>
    simp only [ltCells, List.getElem?_cons_zero, Option.some.injEq] at hv
    rw [h.c0, hv]
  | succ j =>
    simp only [ltCells, List.getElem?_cons_succ] at hv
    have hj := (List.getElem?_eq_some_iff.1 hv).1
    have hj' : j < x.data.toList.length := by rw [← bc_len]; exact hj
    rw [Nat.add_comm, h.cd j (by omega), ← hv, List.getElem?_eq_getElem hj, bc_get hj']
    unfold lateTo
    rw [if_pos (by omega)]

theorem Tryz.infoALate : (Tryz.prog.info? 147).map (fun i => (i.zero, i.size, i.bytes)) = some (some (.agg zLate), 33, 40) := by kernel_rfl

theorem run_lateSl (w : World) (cs : List Value) (h : cs.length = 33) : (Instr.buildSlice 118 1 #[(0, .agg cs.toArray)]).run Tryz.prog w = .ok (.slice (some ⟨w.heap.size, 0, none⟩) 1 1) (w.alloc (.cells cs.toArray 147)) := by
  obtain ⟨i0, hinf, hz, hsz, _⟩ := info_parts Tryz.infoALate
  refine run_buildSlice w 118 147 1 _ cs.toArray i0 (.agg zLate) Tryz.underlying118 hinf hz (by rw [hsz]; decide) (by rw [hsz]; decide) ?_
  rw [hsz]
  have := Great.fill_whole (s := 33) (by decide) [.agg cs.toArray] ((Array.range (1 * 33)).map ((Value.agg zLate).cells[· % (Value.agg zLate).cells.size]!)) (fun v hv => by
    rw [List.mem_singleton.1 hv]; simpa [Value.cells] using h) (by simp)
  simpa [Value.cells] using this

theorem step_bs {P : Program} {ops : Array Oper} {o : Oper} {a : Act} {w w' : World} {K : Act → World → Prop} {Q : Exit → Act → World → Prop} {E : Prop} (t : TypeId) (x : Operand) (ho : o.op = .buildSlice t 1 #[(0, x)]) (u : Value) (hu : a.eval x = u) (v : Value)
    (hw : Region.wanted o (yielded ops a.tmps) = true) (hr : (Instr.buildSlice t 1 #[(0, u)]).run P w = .ok v w') (h : K (a.put o.dst v) w') : if Region.wanted o (yielded ops a.tmps) = true then Oper.wp P o a w K Q else E := by
  rw [if_pos hw]
  unfold Oper.wp execOp
  simp only [ho, List.map_toArray, List.map_cons, List.map_nil, hu, Sem.run_bind, hr, Result.andThen_ok, Sem.run_pure]
  exact h

theorem ApiAt.put {w w2 : World} {b : Nat} {S E : Nat → UInt8} {U : List Lg} {l : Int} {d : Bool} {v' : Value} {x : Lg} (h : ApiAt w b S E U l d) (hB : Below (b + 1) w w2) (hT : TK AT w w2) (ho : w2.ownsRow (b + 1) 147 33 v' (U.length + 1) (latesC U ++ ltCells x)) :
    ApiAt (w2.setCell ⟨b, 4096, none⟩ v') b S E (U ++ [x]) l d ∧ Below b w (w2.setCell ⟨b, 4096, none⟩ v') ∧ TK AT w (w2.setCell ⟨b, 4096, none⟩ v') := by
  obtain ⟨⟨cs, fr, hty⟩, hs, he, ⟨v, c2, hrow⟩, c3, c4, fz, lt⟩ := h
  have hty2 := (hB.block b (by omega)).trans hty
  have hc : ∀ o, w2.cell? ⟨b, o, none⟩ = w.cell? ⟨b, o, none⟩ := fun o => hB.cell (p := ⟨b, o, none⟩) (by simp)
  have hsz := hB.size
  have e1 : (U ++ [x]).length = U.length + 1 := by simp
  have e2 : latesC (U ++ [x]) = latesC U ++ ltCells x := by simp [latesC]
  refine ⟨⟨ty_set ⟨cs, fr, hty2⟩ _, fun j hj => cell_set_ne ((hc _).trans (hs j hj)) (by omega), fun j hj => cell_set_ne ((hc _).trans (he j hj)) (by omega), ⟨v', World.cell?_setCell_same _ _ _ ((hc _).trans c2), ?_⟩,
    cell_set_ne ((hc _).trans c3) (by omega), cell_set_ne ((hc _).trans c4) (by omega), fun o => ?_, by simp [World.setCell]; omega⟩, Below.setCell (B := b) (hB.mono (Nat.le_succ b)) (p := ⟨b, 4096, none⟩) (Nat.le_refl _) _, hT.trans (TK.setCell hty2 (.inl rfl) _)⟩
  · rw [e1, e2]
    exact ownsRow_setCell_below ho (by simp) _
  · have := (hB.frozen (p := ⟨b, o, none⟩) (by simp)).trans (fz o)
    simp [this]

/-- How far a list of late writes may have grown: 40 bytes each, below 2^48. -/
theorem fits40 {n old : Nat} (h : old ≤ n) (hn : n ≤ 4398046511000) : Builtin.nextslicecap (n + 1) old * 40 ≤ 281474976710656 := by
  have h1 : Builtin.nextslicecap (n + 1) old ≤ n + n / 4 + 1024 := by
    unfold Builtin.nextslicecap
    split
    · omega
    · split
      · omega
      · rw [growBy_four]
        repeat' split
        all_goals omega
  omega

/-- One element more onto a row of the caller's own, whatever its length; where the new row lies. -/
theorem append_one {P : Program} (w : World) (t ty e : TypeId) (i : TypeInfo) (z : Value) (ht : P.underlying t = some (.slice e)) (hi : P.info? e = some i) (hz : i.zero = some z) (hzs : z.cells.size = i.size)
    {base : Nat} {v : Value} {n : Nat} {xs : List Value} (hown : w.ownsRow base e i.size v n xs) (ad : Addr) (c : Nat) (news : List Value) (hl : news.length = i.size) (hnews : ∀ j u, news[j]? = some u → w.cell? (ad.add j) = some u)
    (h1 : ∀ u ∈ news, u.oneCell' = true) (h63 : n + 1 ≤ maxLen) (hfit : ∀ old, old ≤ n → Builtin.nextslicecap (n + 1) old * i.bytes ≤ 281474976710656) (hbase : base ≤ w.heap.size) :
    ∃ g cap w', (Builtin.append_ #[t, t] ty #[v, .slice (some ad) 1 c]).run P w = .ok (.slice (some ⟨g, 0, none⟩) (n + 1) cap) w' ∧ w'.ownsRow base e i.size (.slice (some ⟨g, 0, none⟩) (n + 1) cap) (n + 1) (xs ++ news) ∧ w.grownBy w' v.ownBlock := by
  have h64 : n + 1 ≤ 9223372036854775807 := by unfold maxLen at h63; omega
  have hxl := hown.1
  have hl1 : news.length = 1 * i.size := by omega
  have hlen : (xs ++ news).length = (n + 1) * i.size := by rw [List.length_append, hxl, hl, Nat.add_mul, Nat.one_mul]
  have hnew : ∀ old, (w.drew.alloc (.cells (xs.toArray ++ news.toArray ++ Builtin.zeroCells z.cells (grownCap w (n + 1) old e - (n + 1))) e)).ownsRow base e i.size (.slice (some ⟨w.heap.size, 0, none⟩) (n + 1) (grownCap w (n + 1) old e)) (n + 1) (xs ++ news) := fun old => by
    have hge := grownCap_ge w (n + 1) old e
    refine ⟨hlen, .inr ⟨w.heap.size, _, _, rfl, hbase, heap_alloc_last w.drew _, hge, grownCap_le_maxLen w (n + 1) old e h63, ?_, ?_⟩⟩
    · rw [Array.size_append, Array.size_append, List.size_toArray, List.size_toArray, size_zeroCells, hzs, hxl, hl1, ← Nat.add_mul, ← Nat.add_mul]
      congr 1
      omega
    · rw [Array.toList_append, Array.toList_append, List.toList_toArray, List.toList_toArray, ← hlen]
      exact List.take_left
  rcases hown.2 with ⟨rfl, rfl⟩ | ⟨g, cap, cur, rfl, hbg, hg, hnc, hcm, hcs, htake⟩
  · obtain rfl : xs = [] := List.eq_nil_of_length_eq_zero (by simpa using hxl)
    have hb := hfit 0 (Nat.le_refl _)
    rw [nextslicecap_zero (by omega)] at hb
    have hr := run_append_nil (P := P) w t ty e i z ht hi hz ad 1 c news hl1 hnews (by omega) (by omega) (by omega)
    have h2 := hnew 0
    simp only [Nat.zero_add, List.nil_append, Array.empty_append] at h2 ⊢
    exact ⟨_, _, _, hr, h2, rfl, rfl, rfl, by simp, fun k hk _ => heap_alloc_old w.drew _ hk⟩
  · by_cases hroom : n + 1 ≤ cap
    · have hf : n * i.size + news.length ≤ cur.size := by
        rw [hl1, hcs, ← Nat.add_mul]
        exact Nat.mul_le_mul_right _ hroom
      have hr := run_append_room (P := P) w t ty e i ht hi g n cap cur hg ad 1 c news hl1 hnews h1 hroom hf
      refine ⟨_, _, _, hr, ⟨hlen, .inr ⟨g, cap, _, rfl, hbg, setRow_heap w g cur _ e _ hg, hroom, hcm, ?_, ?_⟩⟩, rfl, rfl, rfl, by simp, fun k _ hk => setRow_other w g k _ (fun e => hk (by simp [Value.ownBlock, e]))⟩
      · rw [List.size_toArray, List.length_append, List.length_append, List.length_take, List.length_drop, Array.length_toList]
        omega
      · rw [List.toList_toArray, htake, ← hlen]
        exact List.take_left
    · have holds : ∀ j u, xs[j]? = some u → w.cell? ((⟨g, 0, none⟩ : Addr).add j) = some u := hown.cells (g := g) rfl
      have hr := run_append_grow (P := P) w t ty e i z ht hi hz ⟨g, 0, none⟩ n cap xs hxl holds ad 1 c news hl1 hnews (by omega) (by omega) (hfit cap (by omega))
      exact ⟨_, _, _, hr, hnew cap, rfl, rfl, rfl, by simp, fun k hk _ => heap_alloc_old w.drew _ hk⟩

theorem step_append_run {P : Program} {ops : Array Oper} {o : Oper} {a : Act} {w w' : World} {K : Act → World → Prop} {Q : Exit → Act → World → Prop} {E : Prop} (s x : Operand) (t : TypeId) (ho : o.op = .call { callee := .builtin .append, args := #[s, x], argTypes := #[t, t] })
    (v u : Value) (hs : a.eval s = v) (hx : a.eval x = u) (v' : Value) (hw : Region.wanted o (yielded ops a.tmps) = true) (hr : (Builtin.append_ #[t, t] o.type #[v, u]).run P w = .ok v' w') (h : K (a.put o.dst v') w') :
    if Region.wanted o (yielded ops a.tmps) = true then Oper.wp P o a w K Q else E := by
  rw [if_pos hw]
  unfold Oper.wp execOp
  simp only [ho, resolve, invoke, builtin, Sem.run_bind, Sem.run_pure, Result.andThen_ok, List.map_toArray, List.map_cons, List.map_nil, hs, hx, hr]
  exact h

theorem range_alloc {w : World} {N o : Nat} {cs : List Value} (h : w.rangeAt N o cs) (x : Obj) : (w.drew.alloc x).rangeAt N o cs := fun j v hv => by
  have h1 : w.drew.cell? ⟨N, o + j, none⟩ = some v := h j v hv
  rw [World.cell?_alloc_some _ _ _ (by rw [h1]; rfl), h1]

theorem news_alloc (w : World) (cs : List Value) (t : TypeId) : ∀ j u, cs[j]? = some u → (w.alloc (.cells cs.toArray t)).cell? ((⟨w.heap.size, 0, none⟩ : Addr).add j) = some u := fun j u hj => by
  rw [Addr.add_mid, World.cell?_alloc_at _ _ _ _ rfl]
  simpa using hj

/-- A row that another row's growing leaves alone. -/
theorem range_grown {w w0 w2 : World} {N base n : Nat} {e : TypeId} {size : Nat} {v : Value} {cs xs : List Value} (h : w.rangeAt N 0 cs) (ho : w0.ownsRow base e size v n xs) (hN : w0.heap.size ≤ N) (hg : w.grownBy w2 v.ownBlock) : w2.rangeAt N 0 cs := fun j u hj => by
  refine hg.cell (h j u hj) (fun e => ?_)
  have := (ho.lt N e.symm).2
  omega

theorem range_set {w : World} {N b o p : Nat} {cs : List Value} (h : w.rangeAt N o cs) (hne : b < N) (_ : True) (v : Value) : (w.setCell ⟨b, p, none⟩ v).rangeAt N o cs := fun j u hj => by
  have hn : (⟨b, p, none⟩ : Addr) ≠ ⟨N, o + j, none⟩ := by
    intro e
    simp only [Addr.mk.injEq] at e
    omega
  rw [World.cell?_setCell_other _ _ _ _ hn]
  exact h j u hj

theorem range_tail {w : World} {N i : Nat} {x : ByteArray} {cs : List Value} (hc : ltCells ⟨i, x, false⟩ = cs) (h : w.rangeAt N 0 cs) : w.rangeAt N 1 (byteCells x.data.toList) := fun j u hj => by
  have := h (j + 1) u (by rw [← hc]; exact hj)
  rwa [Nat.zero_add, Nat.add_comm] at this

theorem late_put {w w2 : World} {b : Nat} {S E : Nat → UInt8} {U : List Lg} {l : Int} {d : Bool} {i g cap cap2 : Nat} {x : ByteArray} {a : Option Addr} {cs : List Value} (h : ApiAt w b S E U l d) (hc : ltCells ⟨i, x, false⟩ = cs)
    (ho : (w.drew.alloc (.cells cs.toArray 147)).ownsRow (b + 1) 147 33 (.slice a U.length cap2) U.length (latesC U)) (hg : (w.drew.alloc (.cells cs.toArray 147)).grownBy w2 (Value.slice a U.length cap2).ownBlock)
    (hn : w2.ownsRow (b + 1) 147 33 (.slice (some ⟨g, 0, none⟩) (U.length + 1) cap) (U.length + 1) (latesC U ++ cs)) :
    Below (b + 1) w w2 ∧ TK AT w w2 ∧ (ApiAt (w2.setCell ⟨b, 4096, none⟩ (.slice (some ⟨g, 0, none⟩) (U.length + 1) cap)) b S E (U ++ [⟨i, x, false⟩]) l d ∧ Below b w (w2.setCell ⟨b, 4096, none⟩ (.slice (some ⟨g, 0, none⟩) (U.length + 1) cap)) ∧ TK AT w (w2.setCell ⟨b, 4096, none⟩ (.slice (some ⟨g, 0, none⟩) (U.length + 1) cap))) := by
  have hlt := h.lt
  have hB : Below (b + 1) w w2 := ((Below.refl (b + 1) w).drew.alloc (show b + 1 ≤ w.heap.size from hlt) _).grown hg (by simp; omega) (fun k e => (World.ownsRow.lt ho k e).1)
  have hT : TK AT w w2 := (TK.of_below ((Below.refl w.heap.size w).drew.alloc (Nat.le_refl _) _)).trans (TK.grown ho hg (.inr rfl))
  subst hc
  exact ⟨hB, hT, h.put hB hT hn⟩

set_option maxRecDepth 100000 in
set_option maxHeartbeats 400000 in
theorem awrite_ok (b i gb cap : Nat) (x : ByteArray) (S E : Nat → UInt8) (U : List Lg) (l : Int) (w : World) (hi : i < 64) (hx : x.size = 32) (hl : l ≤ 9223372036854775807) (hn : U.length ≤ 4398046511000) (hU : ∀ x ∈ U, x.sec < 64 ∧ x.data.size = 32)
    (hgb : gb < w.heap.size) (hbytes : ∀ j (_ : j < 32), w.cell? ⟨gb, j, none⟩ = some (.int .u8 (x.data.toList.getD j 0).toNat)) (h : ApiAt w b S E U l false) :
    Calls Tryz.prog 170 #[.pointer (some ⟨b, 0, none⟩), .int .i64 i, .slice (some ⟨gb, 0, none⟩) 32 cap] w fun e w' =>
      e = .returned (.int .i64 (if spR l false then 0 else 7)) ∧ ApiAt w' b S (upd E i x.data.toList) (U ++ [⟨i, x, false⟩]) (spLeft l) (spDead l false) ∧ Below b w w' ∧ TK AT w w' := by
  have h1 : ¬ (i : Int) < 0 := by omega
  have h2 : ¬ 64 ≤ (i : Int) := by omega
  obtain ⟨res, hres⟩ : ∃ r : Int, r = (if spR l false then 0 else 7) := ⟨_, rfl⟩
  rw [← hres]
  have Hres := hide hres
  clear hres
  have c4 := h.c4
  have hbl := run_lateZ (i : Int)
  rw [lz_eq] at hbl
  have hone := all_oneCell_toArray (lz_one i)
  have hszL : (lzL i).toArray.size = 33 := by rw [List.size_toArray, lz_len]
  have hnew := lateZ_new w zLate rfl i
  have hthn := there_new w zLate 147
  have hal := run_allocLate
  have hzz : zLate.size = 33 := rfl
  rw [hzz] at hthn
  have hthn : (w.alloc (.cells zLate 147)).there w.heap.size 0 (lzL i).length := by rw [lz_len]; exact hthn
  have hszi : (Tryz.prog.info? 147).map (·.size) = some (lzL i).length := by rw [lz_len]; exact Tryz.sz33
  have hbw : Below w.heap.size w ((w.alloc (.cells zLate 147)).setCells w.heap.size 0 (lzL i)) := (Below.alloc (Below.refl _ _) (Nat.le_refl _) _).trans (below_setCells _ _ _)
  have Hs := hide (⟨hone, hszi, hnew, hthn, hbw⟩ : _ ∧ _ ∧ _ ∧ _ ∧ _)
  generalize lzL i = Z at *
  generalize zLate = ZZ at *
  have Hbl := hide hbl
  have Hal := hide hal
  have Hb := hide hbytes
  obtain ⟨v, c2w, hroww⟩ := h.cl
  obtain ⟨a, cap2, rfl⟩ := slice_of_owns hroww
  have hblt := h.lt
  obtain ⟨i0, hinf, hz0, hz1, hz2⟩ := info_parts Tryz.infoALate
  have Hh := hide h
  have Hrw := hide hroww
  have Hinf := hide (⟨hinf, hz0, hz1, hz2⟩ : _ ∧ _ ∧ _ ∧ _)
  clear hinf hz0 hz1 hz2 hroww
  have HU := hide hU
  clear hone hszL hszi hnew hthn hbytes h hU hzz hbl hal hbw
  go_enter Tryz.func170, Tryz.ntmps170
  go_wp2_with (first | (refine wl_build rfl 147 0 _ rfl (.int .i64 (i : Int)) rfl (.agg Z.toArray) (unhide Hbl _) ?_) | (refine wl_alloc rfl 147 rfl _ (unhide Hal _) ?_) | (refine wpList_store_mid rfl 147 _ _ rfl w.heap.size 0 Z.toArray rfl rfl ?th ?sz (unhide Hs).1 ?_))
  case th => exact (unhide Hs).2.2.2.1
  case sz => have := (unhide Hs).2.1; simpa using this
  generalize (w.alloc (.cells ZZ 147)).setCells w.heap.size 0 Z = w1 at *
  obtain ⟨_, _, hnew, _, hbw⟩ := unhide Hs
  clear Hs Hbl Hal
  go_loopw [8] (fun kv wr => ∃ k : Nat, k ≤ 32 ∧ kv = .int .i64 k ∧ LateW wr w.heap.size i (lateTo x.data.toList k) ∧ Below w.heap.size w wr) (fun kv _ => 32 - (intOf kv).toNat)
  case atStart => exact ⟨0, Nat.zero_le _, rfl, hnew, hbw⟩
  case round =>
    obtain ⟨k, hk, rfl, hL, hbe⟩ := hrel
    by_cases hlt : k < 32
    · have hlt' : (k : Int) < 32 := by omega
      have q1 := (hbe.cell (p := ⟨gb, k, none⟩) hgb).trans (unhide Hb k hlt)
      have q2 := hL.cd k hlt
      have q3 := hL.fz
      have hs := hL.set hlt (x.data.toList.getD k 0)
      rw [lateTo_succ] at hs
      have HS := hide hs
      generalize x.data.toList.getD k 0 = u at *
      clear hs hL
      go_wp2
      go_roundw
      case rel => exact ⟨k + 1, by omega, by go_num, unhide HS, Below.setCell hbe (p := ⟨w.heap.size, 1 + k, none⟩) (Nat.le_refl _) _⟩
      case measure => simp [intOf]; omega
    · have hlt' : ¬ (k : Int) < 32 := by omega
      have hke : k = 32 := by omega
      subst hke
      have hA := (unhide Hh).keep (T := fun _ => False) (TK.of_below hbe) id id
      have c2 := (hbe.cell (p := ⟨b, 4096, none⟩) hblt).trans c2w
      have hrow := owns_later (unhide Hrw) hbe
      have hxl : x.data.toList.length = 32 := by rw [Array.length_toList]; exact hx
      have hrg := hL.range hxl
      have hone : ∀ v ∈ ltCells ⟨i, x, false⟩, v.oneCell' = true := lt_one _
      have hcl : (ltCells ⟨i, x, false⟩).length = 33 := lt_len _ hx
      have hu := Tryz.underlying147
      have hsz : (Tryz.prog.info? 147).map (·.size) = some (ltCells ⟨i, x, false⟩).length := by rw [hcl]; exact Tryz.sz33
      have hfz := hA.fz
      have hbs : ∀ w' : World, (Instr.buildSlice 118 1 #[(0, .agg (ltCells ⟨i, x, false⟩).toArray)]).run Tryz.prog w' = .ok (.slice (some ⟨w'.heap.size, 0, none⟩) 1 1) (w'.alloc (.cells (ltCells ⟨i, x, false⟩).toArray 147)) := fun w' => run_lateSl w' _ hcl
      have HA := hide hA
      have HL := hide hL
      have Hrow := hide (owns_later hrow ((Below.refl wr.heap.size wr).drew.alloc (Nat.le_refl _) (.cells (ltCells ⟨i, x, false⟩).toArray 147)))
      have Hc := hide (rfl : ltCells ⟨i, x, false⟩ = ltCells ⟨i, x, false⟩)
      generalize hcs : ltCells ⟨i, x, false⟩ = cs at *
      clear hA hL hrow hnew hbw
      have Hrg2 := hide (range_alloc hrg (.cells cs.toArray 147))
      have c2a : (wr.alloc (.cells cs.toArray 147)).cell? ⟨b, 4096, none⟩ = some (.slice a U.length cap2) := by rw [World.cell?_alloc_some _ _ _ (by rw [c2]; rfl), c2]
      have Hnews := hide (news_alloc wr.drew cs 147)
      have Hrg3 := hide (fun w2 => range_grown (w2 := w2) (unhide Hrg2) (unhide Hrw) (Nat.le_refl _))
      have Hle := hide (show b + 1 ≤ (wr.drew.alloc (.cells cs.toArray 147)).heap.size by have := hbe.size; simp; omega)
      go_wp2
      refine wp_region_noPanic ?_
      refine wp_region_held_drew (S := fun w' => w'.rangeAt w.heap.size 0 cs) (by kernel_rfl) ?hS0 (fun hHeld => ?_)
      case hS0 => exact hrg
      refine wpAnyH_take (i := 0) (v := .pointer (some ⟨b, 0, none⟩)) rfl (by kernel_rfl) (by kernel_rfl) (by kernel_rfl) (fun _ _ _ h => h) (Or.inl ⟨by rfl, ?hy0⟩) (by assumption) ?r0
      case hy0 => intro w hSw; (try dsimp only at hSw); go_simp
      simp only [Act.put, List.setIfInBounds_toArray, List.set_cons_zero, List.set_cons_succ, List.getElem_toArray, List.getElem_cons_zero]
      refine wpAnyH_take (i := 1) (v := .pointer (some ⟨b, 0, none⟩)) rfl (by kernel_rfl) (by kernel_rfl) (by kernel_rfl) (fun _ _ _ h => h) (Or.inl ⟨by rfl, ?hy1⟩) (by assumption) ?r1
      case hy1 => intro w hSw; (try dsimp only at hSw); go_simp
      simp only [Act.put, List.setIfInBounds_toArray, List.set_cons_zero, List.set_cons_succ, List.getElem_toArray, List.getElem_cons_zero, List.getElem_cons_succ]
      refine wpAnyH_take (i := 2) (v := .pointer (some ⟨b, 0, none⟩)) rfl (by kernel_rfl) (by kernel_rfl) (by kernel_rfl) (fun _ _ _ h => h) (Or.inl ⟨by rfl, ?hy2⟩) (by assumption) ?r2
      case hy2 => intro w hSw; (try dsimp only at hSw); go_simp
      simp only [Act.put, List.setIfInBounds_toArray, List.set_cons_zero, List.set_cons_succ, List.getElem_toArray, List.getElem_cons_zero, List.getElem_cons_succ]
      refine wpAnyH_take (i := 3) (v := .pointer (some ⟨b, 4096, none⟩)) rfl (by kernel_rfl) (by kernel_rfl) (by kernel_rfl) (fun _ _ _ h => h) (Or.inl ⟨by rfl, ?hy3⟩) (by assumption) ?r3
      case hy3 => intro w hSw; (try dsimp only at hSw); go_simp
      simp only [Act.put, List.setIfInBounds_toArray, List.set_cons_zero, List.set_cons_succ, List.getElem_toArray, List.getElem_cons_zero, List.getElem_cons_succ]
      refine wpAnyH_take (i := 5) (v := .agg cs.toArray) rfl (by kernel_rfl) (by kernel_rfl) (by kernel_rfl) (fun _ _ _ h => h) (yieldsIf_load_mid (by rfl) _ _ rfl w.heap.size 0 rfl cs _ (fun _ h => h) hu rfl hsz) hHeld ?_
      simp only [Act.put, List.setIfInBounds_toArray, List.set_cons_zero, List.set_cons_succ, List.getElem_toArray, List.getElem_cons_zero, List.getElem_cons_succ]
      refine wpAnyH_ready (rs := [4, 6]) (by kernel_rfl) (by simp) (AllReadyH.cons rfl (fun K hK => ?o4) (AllReadyH.cons rfl (fun K hK => ?o6) AllReadyH.nil))
      case' o4 =>
        go_simp
        refine hK.out _ _ hHeld (fun _ => ?_)
        clear hK K
        refine wpAnyH_ready (rs := [6]) (by kernel_rfl) (by simp) (AllReadyH.cons rfl (fun K hK => ?_) AllReadyH.nil)
        refine step_bs 118 _ rfl (.agg cs.toArray) rfl _ rfl (hbs _) ?_
        refine hK.out _ _ (unhide Hrg2) (fun hHeld => ?_)
        clear hK K
        simp only [Act.put, List.setIfInBounds_toArray, List.set_cons_zero, List.set_cons_succ, List.getElem_toArray, List.getElem_cons_zero, List.getElem_cons_succ]
      case' o6 =>
        refine step_bs 118 _ rfl (.agg cs.toArray) rfl _ rfl (hbs _) ?_
        refine hK.out _ _ (unhide Hrg2) (fun hHeld => ?_)
        clear hK K
        simp only [Act.put, List.setIfInBounds_toArray, List.set_cons_zero, List.set_cons_succ, List.getElem_toArray, List.getElem_cons_zero, List.getElem_cons_succ]
        refine wpAnyH_ready (rs := [4]) (by kernel_rfl) (by simp) (AllReadyH.cons rfl (fun K hK => ?_) AllReadyH.nil)
        go_simp
        refine hK.out _ (wr.drew.alloc (.cells cs.toArray 147)) hHeld (fun _ => ?_)
        clear hK K
      all_goals (
      refine wpAnyH_ready (rs := [7]) (by kernel_rfl) (by simp) (AllReadyH.cons rfl (fun K hK => ?_) AllReadyH.nil)
      obtain ⟨g, cap3, w2, hrun, hown, hgrow⟩ := append_one (P := Tryz.prog) (wr.drew.alloc (.cells cs.toArray 147)) 118 118 147 i0 (.agg zLate) Tryz.underlying118 (unhide Hinf).1 (unhide Hinf).2.1 (by rw [(unhide Hinf).2.2.1]; rfl) (n := U.length) (xs := latesC U) (by rw [(unhide Hinf).2.2.1]; exact unhide Hrow) ⟨wr.heap.size, 0, none⟩ 1 cs (by rw [(unhide Hinf).2.2.1, hcl]) (unhide Hnews) hone (by unfold maxLen; omega) (fun old ho => by rw [(unhide Hinf).2.2.2]; exact fits40 ho hn) (unhide Hle)
      rw [(unhide Hinf).2.2.1] at hown
      refine step_append_run _ _ 118 rfl (.slice a U.length cap2) _ rfl rfl _ rfl hrun ?_
      obtain ⟨p1, _, p3⟩ := late_put (unhide HA) hcs (unhide Hrow) hgrow hown
      have c2' := (p1.cell (p := ⟨b, 4096, none⟩) (by simp)).trans c2
      have fz' : ∀ o, w2.frozen? ⟨b, o, none⟩ = false := fun o => (p1.frozen (p := ⟨b, o, none⟩) (by simp)).trans (hfz o)
      have hrg2 := unhide Hrg3 w2 hgrow
      have hrg3 : (w2.setCell ⟨b, 4096, none⟩ (.slice (some ⟨g, 0, none⟩) (U.length + 1) cap3)).rangeAt w.heap.size 0 cs := range_set hrg2 hblt trivial _
      have HP := hide p3
      have Hrg4 := hide hrg3
      clear hown hgrow hrun p1 p3 hrg3
      refine hK.out _ _ hrg2 (fun hHeld => ?_)
      clear hK K
      simp only [Act.put, List.setIfInBounds_toArray, List.set_cons_zero, List.set_cons_succ, List.getElem_toArray, List.getElem_cons_zero, List.getElem_cons_succ]
      refine wpAnyH_take (i := 8) (v := .pointer (some ⟨b, 0, none⟩)) rfl (by kernel_rfl) (by kernel_rfl) (by kernel_rfl) (fun _ _ _ h => h) (Or.inl ⟨by rfl, by intro w hSw; (try dsimp only at hSw); go_simp⟩) (by assumption) ?_
      simp only [Act.put, List.setIfInBounds_toArray, List.set_cons_zero, List.set_cons_succ, List.getElem_toArray, List.getElem_cons_zero, List.getElem_cons_succ]
      refine wpAnyH_take (i := 9) (v := .pointer (some ⟨b, 4096, none⟩)) rfl (by kernel_rfl) (by kernel_rfl) (by kernel_rfl) (fun _ _ _ h => h) (Or.inl ⟨by rfl, by intro w hSw; (try dsimp only at hSw); go_simp⟩) (by assumption) ?_
      simp only [Act.put, List.setIfInBounds_toArray, List.set_cons_zero, List.set_cons_succ, List.getElem_toArray, List.getElem_cons_zero, List.getElem_cons_succ]
      refine wpAnyH_ready (rs := [10]) (by kernel_rfl) (by simp) (AllReadyH.cons rfl (fun K hK => ?_) AllReadyH.nil)
      go_simp
      refine hK.out _ _ (unhide Hrg4) (fun _ => ?_)
      clear hK K
      refine wpAnyH_done (by kernel_rfl) (NoPanic.normal ?_) _
      generalize hw3 : w2.setCell ⟨b, 4096, none⟩ (.slice (some ⟨g, 0, none⟩) (U.length + 1) cap3) = w3 at *
      obtain ⟨a1, a2, a3⟩ := unhide HP
      have hrg5 : w3.rangeAt w.heap.size 1 (byteCells x.data.toList) := range_tail hcs (unhide Hrg4)
      have hth := a1.thereE hi
      obtain ⟨b1, b2, b3⟩ := a1.drew.setE (i := i) hi hxl
      have HB := hide b1
      have q1 := b1.c3
      have q2 := b1.c4
      have q3 := b1.fz
      have hsp := aspend_any b l false _ hl b1.c3 b1.c4 b1.fz
      have hspd := b1.spend
      have HT := hide (⟨((hbe.mono (Nat.le_of_lt hblt)).trans a2).drew.trans b2, ((TK.of_below (T := AT) hbe).trans a3).trans ((tk_drew w3).trans b3)⟩ : _ ∧ _)
      have Hspd := hide hspd
      have hone2 := bc_one x.data.toList
      have hcl2 : (byteCells x.data.toList).length = 32 := by rw [bc_len]; exact hxl
      have hu2 := Tryz.underlying116
      have hi2 : (Tryz.prog.info? 116).map (·.size) = some (byteCells x.data.toList).length := by rw [hcl2]; exact Tryz.sz32
      have hK3 : ∀ w' : World, w'.rangeAt w.heap.size 1 (byteCells x.data.toList) → (w'.setCells b (2048 + i * 32) (byteCells x.data.toList)).rangeAt w.heap.size 1 (byteCells x.data.toList) := fun w' hw => World.rangeAt_setCells_apart hw _ _ _ (by left; omega)
      have hK4 : ∀ w' : World, w'.there b (2048 + i * 32) 32 → (w'.setCells b (2048 + i * 32) (byteCells x.data.toList)).there b (2048 + i * 32) 32 := fun w' hw => World.there_setCells hw _ _ _
      have Hsp := hide hsp
      clear hone hcl hu hsz hbs Hrow Hrg2 Hnews Hrg3 Hle Hrg4 HA HL Hrw Hh Hb hsp hspd b1 b2 b3 a1 a2 a3 HP c2' c2 c2a hrg hrg2 hHeld hcs
      generalize byteCells x.data.toList = cs2 at *
      go_wp2
      go_region_held3 (fun w' => w'.rangeAt w.heap.size 1 cs2 ∧ w'.there b (2048 + i * 32) 32) (go_keep) (fail)
      go_wp2_with fail
      refine (unhide Hsp).mono ?_
      rintro e w4 ⟨rfl, he⟩
      replace he := he.symm
      have hfin : ApiAt w4 b S (upd E i x.data.toList) (U ++ [⟨i, x, false⟩]) (spLeft l) (spDead l false) ∧ Below b w w4 ∧ TK AT w w4 := by
        rw [← he]
        exact ⟨(unhide Hspd).1, (unhide HT).1.trans (unhide Hspd).2.1, (unhide HT).2.trans (unhide Hspd).2.2⟩
      have Hfin := hide hfin
      clear hfin he
      cases hr : spR l false with
      | true =>
        go_wp2
        go_ret
        exact ⟨by rw [unhide Hres, hr]; rfl, unhide Hfin⟩
      | false =>
        go_wp2
        go_ret
        exact ⟨by rw [unhide Hres, hr]; rfl, unhide Hfin⟩)

end Go.Proofs.YtdlhgbhaeedbdabGreat
