/- The program's Flush. -/
import Derived.Test.YtdlhgbhaeedbdaaDv13
import Derived.Deep.RegionHeld3
namespace Go.Proofs.Ytdlhgbhaeedbdaa
open Go.RowKit

def updTo (S : Nat → UInt8) (U : List Lg) (k : Nat) : Nat → UInt8 := (U.take k).foldl (fun S x => upd S x.sec x.data.data.toList) S

theorem updTo_succ (S : Nat → UInt8) (U : List Lg) (k : Nat) (h : k < U.length) : updTo S U (k + 1) = upd (updTo S U k) U[k].sec U[k].data.data.toList := by
  unfold updTo
  rw [List.take_succ_eq_append_getElem h, List.foldl_append]
  rfl

theorem Try.sz32 : (Try.prog.info? 73).map (·.size) = some 32 := by kernel_rfl

theorem load32 (g o : Nat) (cs : List Value) (hl : cs.length = 32) (w : World) (h : w.rangeAt g o cs) : (Instr.loadAt 73 (.pointer (some ⟨g, o, none⟩))).run Try.prog w = .ok (.agg cs.toArray) w :=
  run_loadAt_mid w g o 73 cs _ h Try.underlying73 rfl (by rw [Try.sz32, hl])

theorem store32 (b o : Nat) (cs : List Value) (hl : cs.length = 32) (h1 : ∀ v ∈ cs, v.oneCell' = true) (w : World) (h : w.there b o 32) : (Instr.storeAt 73 (.pointer (some ⟨b, o, none⟩)) (.agg cs.toArray)).run Try.prog w = .ok () (w.setCells b o cs) :=
  run_storeAt_mid w b o 73 cs.toArray (by simpa [hl] using h) (by rw [Try.sz32]; simp [hl]) (all_oneCell_toArray h1)

theorem bc_one (d : List UInt8) : ∀ v ∈ byteCells d, v.oneCell' = true := by
  intro v hv
  obtain ⟨c, _, rfl⟩ := List.mem_map.1 hv
  rfl

theorem tk_drew {T : TypeId → Prop} (w : World) : TK T w w.drew := TK.of_below (Below.refl _ _).drew
theorem ApiAt.drew {w : World} {b : Nat} {S E : Nat → UInt8} {U : List Lg} {l : Int} {d : Bool} (h : ApiAt w b S E U l d) : ApiAt w.drew b S E U l d := h.keep (T := fun _ => False) (tk_drew w) id id

set_option maxRecDepth 100000 in
set_option maxHeartbeats 2000000 in
theorem aflush_ok (b : Nat) (S E : Nat → UInt8) (U : List Lg) (l : Int) (d : Bool) (w : World) (hl : l ≤ 9223372036854775807) (hn : U.length ≤ 4398046511000) (hU : ∀ x ∈ U, x.sec < 64 ∧ x.data.size = 32) (h : ApiAt w b S E U l d) (hp : spR l d = true) :
    Calls Try.prog 15 #[.pointer (some ⟨b, 0, none⟩)] w fun e w' => e = .returned (.int .i64 0) ∧ ApiAt w' b (updTo S U U.length) E [] (spLeft l) (spDead l d) ∧ Below b w w' ∧ TK AT w w' := by
  have hsp := aspend_any b l d w hl h.c3 h.c4 h.fz
  obtain ⟨hs1, hs2, hs3⟩ := h.spend
  have hnot : ∀ (x : Bool) (w : World), (Op.unary .not (.bool x)).run Try.prog w = .ok (.bool (!x)) w := fun _ _ => rfl
  rw [hp] at hsp
  have Hsp := hide hsp
  generalize spLeft l = l' at *
  generalize spDead l d = d' at *
  generalize spW w b l = w1 at *
  clear h hsp hp
  go_enter Try.func15, Try.ntmps15
  go_wp2_with fail
  refine (unhide Hsp).mono ?_
  rintro e w2 ⟨rfl, he⟩
  replace he := he.symm
  subst he
  go_wp2
  go_loopw [4] (fun i wr => ∃ k : Nat, k ≤ U.length ∧ i = .int .i64 k ∧ ApiAt wr b (updTo S U k) E U l' d' ∧ Below b w1 wr ∧ TK AT w1 wr) (fun i _ => U.length - (intOf i).toNat)
  case atStart => exact ⟨0, Nat.zero_le _, rfl, hs1, Below.refl _ _, TK.refl _ _⟩
  case round =>
    obtain ⟨k, hk, rfl, hA, hbe, htk⟩ := hrel
    obtain ⟨v, c2, hrow⟩ := hA.cl
    obtain ⟨a, cap, rfl⟩ := slice_of_owns hrow
    by_cases hlt : k < U.length
    · obtain ⟨g, hae, _, hbg, hglt, q0, hrg⟩ := lates_at hrow (fun x hx => (hU x hx).2) hlt
      subst hae
      have hlt' : (k : Int) < (U.length : Int) := by omega
      have hx := hU U[k] (List.getElem_mem hlt)
      have hst := updTo_succ S U k hlt
      obtain ⟨x, hxe⟩ : ∃ x, x = U[k] := ⟨_, rfl⟩
      rw [← hxe] at q0 hrg hx hst
      have hxl : x.data.data.toList.length = 32 := by rw [Array.length_toList]; exact hx.2
      obtain ⟨r1, r2, r3⟩ := hA.drew.setS (i := x.sec) hx.1 hxl
      rw [← hst] at r1
      have hcl : (byteCells x.data.data.toList).length = 32 := by rw [bc_len]; exact hxl
      have hone := bc_one x.data.data.toList
      have hu := Try.underlying73
      have hi : (Try.prog.info? 73).map (·.size) = some (byteCells x.data.data.toList).length := by rw [hcl]; exact Try.sz32
      have hth := hA.thereS hx.1
      have hsec : (x.sec : Int) < 64 := by omega
      have hK1 : ∀ w' : World, (w'.setCells b (x.sec * 32) (byteCells x.data.data.toList)).cell? ⟨b, 4096, none⟩ = w'.cell? ⟨b, 4096, none⟩ := fun w' => World.cell?_setCells_out b _ _ w' _ (fun _ _ => by rw [hcl]; right; show x.sec * 32 + 32 ≤ 4096; omega)
      have hK2 : ∀ w' : World, (w'.setCells b (x.sec * 32) (byteCells x.data.data.toList)).cell? ⟨g, k * 33, none⟩ = w'.cell? ⟨g, k * 33, none⟩ := fun w' => World.cell?_setCells_out b _ _ w' _ (fun e _ => by simp at e; omega)
      have hK3 : ∀ w' : World, w'.rangeAt g (k * 33 + 1) (byteCells x.data.data.toList) → (w'.setCells b (x.sec * 32) (byteCells x.data.data.toList)).rangeAt g (k * 33 + 1) (byteCells x.data.data.toList) := fun w' hw => World.rangeAt_setCells_apart hw _ _ _ (by left; omega)
      have hK4 : ∀ w' : World, w'.there b (x.sec * 32) 32 → (w'.setCells b (x.sec * 32) (byteCells x.data.data.toList)).there b (x.sec * 32) 32 := fun w' hw => World.there_setCells hw _ _ _
      have HR := hide (⟨r1, r2, r3⟩ : _ ∧ _ ∧ _)
      generalize byteCells x.data.data.toList = cs at *
      generalize x.sec = sec at *
      clear hxe hx hst hxl r1 r2 r3 hrow hA
      go_wp2
      go_region_held3 (fun w' => w'.cell? ⟨b, 4096, none⟩ = some (.slice (some ⟨g, 0, none⟩) U.length cap) ∧ w'.cell? ⟨g, k * 33, none⟩ = some (.int .i64 sec) ∧ w'.rangeAt g (k * 33 + 1) cs ∧ w'.there b (sec * 32) 32) (go_keep) (fail)
      go_wp2
      go_roundw
      case rel => exact ⟨k + 1, by omega, by go_num, (unhide HR).1, hbe.drew.trans (unhide HR).2.1, (htk.trans (tk_drew wr)).trans (unhide HR).2.2⟩
      case measure => simp [intOf]; omega
    · have hlt' : ¬ (k : Int) < (U.length : Int) := by omega
      have hke : k = U.length := by omega
      have hd := hA.drop
      have hfz := hA.fz
      rw [hke] at hd
      have Hd := hide hd
      clear hd hrow hke
      go_wp2
      go_ret
      exact ⟨rfl, (unhide Hd).1, (hs2.trans hbe).trans (unhide Hd).2.1, (hs3.trans htk).trans (unhide Hd).2.2⟩

set_option maxRecDepth 100000 in
set_option maxHeartbeats 400000 in
theorem aflush_dead (b : Nat) (S E : Nat → UInt8) (U : List Lg) (l : Int) (d : Bool) (w : World) (hl : l ≤ 9223372036854775807) (h : ApiAt w b S E U l d) (hp : spR l d = false) :
    Calls Try.prog 15 #[.pointer (some ⟨b, 0, none⟩)] w fun e w' => e = .returned (.int .i64 7) ∧ ApiAt w' b S E U (spLeft l) (spDead l d) ∧ Below b w w' ∧ TK AT w w' := by
  have hsp := aspend_any b l d w hl h.c3 h.c4 h.fz
  obtain ⟨hs1, hs2, hs3⟩ := h.spend
  have hnot : ∀ (x : Bool) (w : World), (Op.unary .not (.bool x)).run Try.prog w = .ok (.bool (!x)) w := fun _ _ => rfl
  rw [hp] at hsp
  have Hsp := hide hsp
  generalize spLeft l = l' at *
  generalize spDead l d = d' at *
  generalize spW w b l = w1 at *
  clear h hsp hp
  go_enter Try.func15, Try.ntmps15
  go_wp2_with fail
  refine (unhide Hsp).mono ?_
  rintro e w2 ⟨rfl, he⟩
  replace he := he.symm
  subst he
  go_wp2
  go_ret
  exact ⟨rfl, hs1, hs2, hs3⟩

end Go.Proofs.Ytdlhgbhaeedbdaa
