/- Ws6, Ws7, Ws8. -/
import Derived.Test.YtdlhgbhaeedbdabGreatM27

/- 'Site.step'. -/
namespace Go.Proofs.YtdlhgbhaeedbdabGreat
open Go.RowKit

set_option maxRecDepth 100000 in
set_option maxHeartbeats 400000 in
theorem sstep_dead {Mj : HJ} (x b r : Nat) (A : List ByteArray) (G : ByteArray) (n : Nat) (l : Int) (t : List Item) (w : World) (h : Inv Mj w x b A G n (some r) l true t) :
    Calls Tryz.prog 24 #[.pointer (some ⟨x, 0, none⟩)] w fun e w' => e = .returned (.bool true) ∧ w' = w := by
  have hnot : ∀ (x : Bool) (w : World), (Op.unary .not (.bool x)).run Tryz.prog w = .ok (.bool (!x)) w := fun _ _ => rfl
  have hD := h.dead
  have c1 := h.site.c1
  have c0 := h.site.c0
  have hdc := h.dev.c4
  have HS := hide (step_dead r false w hD)
  simp only [Option.map_some] at c1
  clear h hD
  go_enter Tryz.func24, Tryz.ntmps24
  go_wp2_with fail
  refine (adead_any b true _ hdc).mono ?_
  rintro e w1 ⟨rfl, rfl⟩
  go_wp2_with fail
  refine (unhide HS).mono ?_
  rintro e w2 ⟨rfl, rfl⟩
  go_wp2_with fail
  refine (adead_any b true _ hdc).mono ?_
  rintro e w3 ⟨rfl, rfl⟩
  go_wp2_with fail
  go_ret
  exact ⟨rfl, rfl⟩

set_option maxRecDepth 100000 in
set_option maxHeartbeats 400000 in
theorem sstep_idle {Mj : HJ} (x b r : Nat) (A : List ByteArray) (G : ByteArray) (l : Int) (t : List Item) (w : World) (h : Inv Mj w x b A G 0 (some r) l false t) :
    Calls Tryz.prog 24 #[.pointer (some ⟨x, 0, none⟩)] w fun e w' => e = .returned (.bool true) ∧ w' = w := by
  obtain ⟨T, l0, _, hR, _⟩ := h.rest
  have c1 := h.site.c1
  have c0 := h.site.c0
  have c4 := h.site.c4
  have hdc := h.dev.c4
  have HS := hide (step_idle r b false l0 [] w hR)
  simp only [Option.map_some] at c1
  clear h hR
  go_enter Tryz.func24, Tryz.ntmps24
  go_wp2_with fail
  refine (adead_any b false _ hdc).mono ?_
  rintro e w1 ⟨rfl, rfl⟩
  go_wp2_with fail
  refine (unhide HS).mono ?_
  rintro e w2 ⟨rfl, rfl⟩
  go_wp2_with fail
  refine (adead_any b false _ hdc).mono ?_
  rintro e w3 ⟨rfl, rfl⟩
  go_wp2_with fail
  go_ret
  exact ⟨rfl, rfl⟩

/-- Step on the site's rack, with a plan under way: its first step p, the rest. -/
theorem inv_step {Mj : HJ} {w : World} {x b : Nat} {T G : ByteArray} {n r : Nat} {l : Int} {t : List Item} (h : Inv Mj w x b [T] G (n + 1) (some r) l false t) :
    ∃ l1 did p rest l0 S, RackAt Mj w r b l1 did (p :: rest) ∧ n = rest.length ∧ did.length + 1 + rest.length ≤ 48 ∧ l0.Perm (itemsOf T) ∧ Way l0 (doI p.1 l1 p.2) t (did ++ [p]) rest ∧ (did ++ [p]) ++ rest = mk l0 t ∧ l ≤ 9223372036854775807 ∧ ApiAt w b S S [] l false ∧ held S = T ∧
      Calls Tryz.prog 56 #[.pointer (some ⟨r, 0, none⟩), .bool false] w fun e w' => StepEnd Mj r b S l1 did p rest l w e w' := by
  obtain ⟨T0, l1, did, left, l0, hT0, hR, hnl, h48, hp0, hway, hmk⟩ := inv_way h (by omega)
  simp only [List.cons.injEq, and_true] at hT0
  subst hT0
  obtain ⟨S, E, U, ha, hl, _, _, hal, _⟩ := h.dev
  obtain ⟨rfl, rfl, hm⟩ := hal rfl
  simp only [List.mem_singleton] at hm
  cases left with
  | nil => simp at hnl
  | cons p rest =>
    simp only [List.length_cons, Nat.add_right_cancel_iff] at hnl
    simp only [List.length_cons] at h48
    have hw2 := hway.step
    obtain ⟨_, _, hc3, hc4⟩ := prI_canon hw2.arr
    exact ⟨l1, did, p, rest, l0, _, hR, hnl, by omega, hp0, hw2, by rw [← hmk]; simp, hl, ha, hm, step_ok r b _ l1 did p rest l w (by omega) hway.arr.fits.1 hw2.arr.fits hc3 hc4 hl hway.ok hR ha⟩

/-- What 'step' leaves where steps are left. -/
def SStepEnd (Mj : HJ) (x b r : Nat) (T G : ByteArray) (n : Nat) (l : Int) (t : List Item) (w w' : World) : Prop :=
  Inv Mj w' x b [T] G n (some r) l false t ∧ Below b w w'

set_option maxRecDepth 100000 in
set_option maxHeartbeats 400000 in
theorem sstep_more {Mj : HJ} (x b r : Nat) (T G : ByteArray) (n : Nat) (l : Int) (t : List Item) (w : World) (hn : 0 < n) (h : Inv Mj w x b [T] G (n + 1) (some r) l false t) :
    Calls Tryz.prog 24 #[.pointer (some ⟨x, 0, none⟩)] w fun e w' => e = .returned (.bool true) ∧ SStepEnd Mj x b r T G n l t w w' := by
  obtain ⟨l1, did, p, rest, l0, S, hR, hnl, h48, hp0, hway, hmk, hl, ha, hhS, hcall⟩ := inv_step h
  have c1 := h.site.c1
  have c0 := h.site.c0
  have hbx := h.site.bx
  have hdc := h.dev.c4
  have HS := hide hcall
  have hn' : (0 : Int) < (n : Int) := by omega
  have hne : ((n : Int) + 1 == 0) = false := by rw [beq_eq_false_iff_ne]; omega
  have hbig : (n : Int) ≤ 100 := by omega
  simp only [Option.map_some] at c1
  have Hh := hide h
  have HW := hide (⟨hway, hmk, hp0, h48⟩ : _ ∧ _ ∧ _ ∧ _)
  have hrl : rest.length = n := hnl.symm
  clear h hR hway hmk hp0 ha hcall
  go_enter Tryz.func24, Tryz.ntmps24
  go_wp2_with fail
  refine (adead_any b false _ hdc).mono ?_
  rintro e w1 ⟨rfl, rfl⟩
  go_wp2_with fail
  refine (unhide HS).mono ?_
  rintro e w2 (⟨_, rfl, hR2, htk2, hbe2⟩ | ⟨hr0, _⟩)
  · have hx2 := (unhide Hh).site.keep htk2 k0_site k0_str
    have hd2 := (unhide Hh).dev.keep htk2 not_k0dev not_k0late
    have c02 := hx2.c0
    have c42 := hx2.c4
    have hfz2 := hx2.fz
    have hdc2 := hd2.c4
    have hx3 := hx2.put4 n
    have ht3 := hx2.setTK 4 (.int .i64 n)
    have hR3 := hR2.keep ht3 x1_rack x1_item x1_step nh_x1
    have hd3 := hd2.keep ht3 x1_dev x1_late
    have hbe3 : Below b _ _ := hbe2.setCell (p := ⟨x, 4, none⟩) (Nat.le_of_lt hbx) (.int .i64 n)
    obtain ⟨hway, hmk, hp0, h48⟩ := unhide HW
    have hV3 : Inv Mj _ x b [T] G n (some r) l false t := ⟨hx3, hd3, (unhide Hh).canon, by simp, .inr ⟨r, rfl, .inr ⟨rfl, T, rfl, _, _, rest, hR3, hrl.symm, by simp; omega, .inr ⟨by omega, l0, hp0, hway, hmk⟩⟩⟩, fun _ _ => (unhide Hh).goal rfl (by omega)⟩
    have HV := hide (⟨hV3, hbe3⟩ : _ ∧ _)
    rw [hrl]
    clear hx2 hd2 hR2 htk2 hbe2 hx3 ht3 hR3 hd3 hbe3 hway hmk hp0 hV3 HS Hh HW hrl hnl c0 c1
    go_wp2_with fail
    refine (adead_any b false _ hdc2).mono ?_
    rintro e w3 ⟨rfl, rfl⟩
    go_wp2_with fail
    go_ret
    exact ⟨rfl, unhide HV⟩
  · rw [hr0] at hrl; simp at hrl; omega

end Go.Proofs.YtdlhgbhaeedbdabGreat

/- 'Site.step', on: the last one. -/
namespace Go.Proofs.YtdlhgbhaeedbdabGreat
open Go.RowKit

theorem run_strSl (w : World) (s : ByteArray) : (Instr.buildSlice 26 1 #[(0, .string s)]).run Tryz.prog w = .ok (.slice (some ⟨w.heap.size, 0, none⟩) 1 1) (w.alloc (.cells #[.string s] 9)) := by
  go_simp

theorem fits16 {n old : Nat} (h : old ≤ n) (hn : n ≤ 1000) : Builtin.nextslicecap (n + 1) old * 16 ≤ 281474976710656 := by
  have := fits112 h hn
  omega

/-- One text more among those that may last. -/
theorem SiteAt.pushed {F : Nat → Option Obj} {w w2 : World} {x b : Nat} {rp : Option Addr} {A : List ByteArray} {G : ByteArray} {n : Nat} (h : SiteAt F w x b rp A G n) {s : ByteArray} {v2 v' : Value} {cs : Array Value}
    (ho : (w.drew.alloc (.cells cs 9)).ownsRow (b + 1) 9 1 v2 A.length (A.map Value.string)) (hgr : (w.drew.alloc (.cells cs 9)).grownBy w2 v2.ownBlock)
    (hn : w2.ownsRow (b + 1) 9 1 v' (A.length + 1) (A.map Value.string ++ [.string s])) :
    SiteAt F (w2.setCell ⟨x, 2, none⟩ v') x b rp (A ++ [s]) G n ∧ TK (fun t => X1 t ∨ t = 9) w (w2.setCell ⟨x, 2, none⟩ v') ∧ Below b w (w2.setCell ⟨x, 2, none⟩ v') ∧ (∀ o, w2.cell? ⟨x, o, none⟩ = w.cell? ⟨x, o, none⟩) ∧ (∀ o, w2.frozen? ⟨x, o, none⟩ = false) := by
  have hA : Below w.heap.size w (w.drew.alloc (.cells cs 9)) := (Below.refl w.heap.size w).drew.alloc (Nat.le_refl _) _
  have hT : TK (fun t => t = 9) w w2 := (TK.of_below hA).trans (TK.grown ho hgr rfl)
  obtain ⟨⟨cs', fr, hty⟩, c0, c1, ⟨v, c2, hrow⟩, c3, c4, fz, lt, bx, hfro⟩ := h
  have hbr : w2.heap[x]? = w.heap[x]? := hT.block x cs' _ fr hty (by decide)
  have hc : ∀ o, w2.cell? ⟨x, o, none⟩ = w.cell? ⟨x, o, none⟩ := fun o => World.cell?_of_block hbr
  have hf : ∀ o, w2.frozen? ⟨x, o, none⟩ = w.frozen? ⟨x, o, none⟩ := fun o => World.frozen?_of_block hbr
  have hk : TK X1 w2 (w2.setCell ⟨x, 2, none⟩ v') := TK.setCell (T := X1) (hbr.trans hty) rfl v'
  have hsz := hT.size
  refine ⟨⟨ty_set ⟨cs', fr, hbr.trans hty⟩ _, cell_set_ne ((hc _).trans c0) (by omega), cell_set_ne ((hc _).trans c1) (by omega), ⟨v', World.cell?_setCell_same _ _ _ ((hc _).trans c2), ?_⟩, cell_set_ne ((hc _).trans c3) (by omega), cell_set_ne ((hc _).trans c4) (by omega), fun o => by simp [(hf o).trans (fz o)], by simp [World.setCell]; omega, bx, (hfro.keep hT (by decide)).set _ _⟩, ?_, ?_, hc, fun o => (hf o).trans (fz o)⟩
  · rw [List.length_append, List.map_append]
    exact hk.row x1_str hn
  · exact (hT.mono fun _ e => .inr e).trans (hk.mono fun _ e => .inl e)
  · have hB : Below b w w2 := ⟨hT.os, hT.tape, hT.output, hT.size, fun k hk => by
      refine (hgr.block k (by simp; omega) (fun e => ?_)).trans (hA.block k (by omega))
      have := (World.ownsRow.lt ho k e.symm).1
      omega⟩
    exact hB.setCell (p := ⟨x, 2, none⟩) (Nat.le_of_lt bx) _

/-- What 'step' leaves behind a plan's last step. -/
def SLastEnd (Mj : HJ) (x b r : Nat) (T G : ByteArray) (l : Int) (t : List Item) (w w' : World) : Prop :=
  Below b w w' ∧ ∃ l' d', (l < 0 → l' = l ∧ d' = false) ∧ ((d' = true ∧ Inv Mj w' x b [T, G] G 1 (some r) l' true t) ∨ (d' = false ∧ ∀ t', Inv Mj w' x b [G] G 0 (some r) l' false t'))

set_option maxRecDepth 100000 in
set_option maxHeartbeats 800000 in
theorem sstep_last {Mj : HJ} (x b r : Nat) (T G : ByteArray) (l : Int) (t : List Item) (w : World) (h : Inv Mj w x b [T] G 1 (some r) l false t) :
    Calls Tryz.prog 24 #[.pointer (some ⟨x, 0, none⟩)] w fun e w' => e = .returned (.bool true) ∧ SLastEnd Mj x b r T G l t w w' := by
  have hnot : ∀ (x : Bool) (w : World), (Op.unary .not (.bool x)).run Tryz.prog w = .ok (.bool (!x)) w := fun _ _ => rfl
  obtain ⟨l1, did, p, rest, l0, S, hR, hnl, h48, hp0, hway, hmk, hl, ha, hhS, hcall⟩ := inv_step (n := 0) h
  have hr0 : rest = [] := List.length_eq_zero_iff.1 hnl.symm
  subst hr0
  obtain ⟨hG, hAt⟩ := h.goal rfl (by omega)
  have hperm := hway.finish
  have hAl := hway.arr
  have hpl : prI (doI p.1 l1 p.2) = G := (prI_perm hAl hperm).trans hG.symm
  obtain ⟨hcG, hpG, _, _⟩ := prI_canon hAt
  rw [← hG] at hcG hpG
  have hpq : (doI p.1 l1 p.2).Perm (itemsOf G) := hperm.trans hpG.symm
  have c1 := h.site.c1
  have c0 := h.site.c0
  have hbx := h.site.bx
  have hdc := h.dev.c4
  have hcT := h.canon T (by simp)
  have HS := hide hcall
  simp only [Option.map_some] at c1
  have Hh := hide h
  have HQ := hide (⟨hcG, hpq, hpl, hAl, hhS, hcT⟩ : _ ∧ _ ∧ _ ∧ _ ∧ _ ∧ _)
  clear h hnl hR hway hmk hp0 ha hcall hG hAt hperm hAl hpl hcG hpG hpq hhS hcT
  go_enter Tryz.func24, Tryz.ntmps24
  go_wp2_with fail
  refine (adead_any b false _ hdc).mono ?_
  rintro e w1 ⟨rfl, rfl⟩
  go_wp2_with fail
  refine (unhide HS).mono ?_
  rintro e w2 (⟨hr0, _⟩ | ⟨_, c, rfl, S', E', U', l', d', ha2, hl2, hbe2, htk2, hlow2, hU1, hU2, hcase⟩)
  · simp at hr0
  · have Hlow2 := hide hlow2
    clear hlow2
    have hx2 := (unhide Hh).site.keep htk2 kt_site kt_str
    have c02 := hx2.c0
    have c12 := hx2.c1
    have c42 := hx2.c4
    have c32 := hx2.c3
    have hfz2 := hx2.fz
    have hdc2 := ha2.c4
    have hlx2 := hx2.lt
    obtain ⟨v2, c22, hrow2⟩ := hx2.c2
    obtain ⟨a, cap2, rfl⟩ := slice_of_owns hrow2
    simp only [Option.map_some] at c12
    rcases hcase with ⟨rfl, rfl, hD, hk⟩ | ⟨rfl, rfl, hR2, rfl, rfl, hh⟩
    · clear HS c0 c1
      go_wp2_with fail
      refine (adead_any b true _ hdc2).mono ?_
      rintro e w3 ⟨rfl, rfl⟩
      have Hrow := hide (owns_later hrow2 ((Below.refl w3.heap.size w3).drew.alloc (Nat.le_refl _) (.cells #[.string G] 9)))
      have Hnews := hide (news_alloc w3.drew [.string G] 9)
      have Hle := hide (show b + 1 ≤ (w3.drew.alloc (.cells #[.string G] 9)).heap.size by simp; omega)
      have hbs := fun w' => run_strSl w' G
      have c2a : (w3.alloc (.cells #[.string G] 9)).cell? ⟨x, 2, none⟩ = some (.slice a 1 cap2) := by rw [World.cell?_alloc_some _ _ _ (by rw [c22]; rfl), c22]; rfl
      have Hc3a : Hid ((w3.drew.alloc (.cells #[.string G] 9)).cell? ⟨x, 3, none⟩ = some (.string G)) := hide (by rw [World.cell?_alloc_some _ _ _ (by rw [show w3.drew.cell? ⟨x, 3, none⟩ = _ from c32]; rfl)]; exact c32)
      obtain ⟨i0, hinf, hz0, hz1, hz2⟩ := info_parts Tryz.infoTx
      have Hinf := hide (⟨hinf, hz0, hz1, hz2⟩ : _ ∧ _ ∧ _ ∧ _)
      have Hx2 := hide hx2
      simp only [List.length_cons, List.length_nil, Nat.zero_add] at c22
      clear hinf hz0 hz1 hz2 hrow2 hx2 c02 c12 hdc2
      go_wp2_with fail
      clear c42
      refine wp_region_noPanic ?_
      refine wp_region_held_drew (S := fun w' => w'.cell? ⟨x, 3, none⟩ = some (.string G)) (by kernel_rfl) ?hS0 (fun hHeld => ?_)
      case hS0 => exact c32
      refine wpAnyH_take (i := 0) (v := .pointer (some ⟨x, 0, none⟩)) rfl (by kernel_rfl) (by kernel_rfl) (by kernel_rfl) (fun _ _ _ h => h) (Or.inl ⟨by rfl, by intro w hSw; (try dsimp only at hSw); go_simp⟩) (by assumption) ?_
      simp only [Act.put, List.setIfInBounds_toArray, List.set_cons_zero, List.set_cons_succ, List.getElem_toArray, List.getElem_cons_zero]
      refine wpAnyH_take (i := 1) (v := .pointer (some ⟨x, 0, none⟩)) rfl (by kernel_rfl) (by kernel_rfl) (by kernel_rfl) (fun _ _ _ h => h) (Or.inl ⟨by rfl, by intro w hSw; (try dsimp only at hSw); go_simp⟩) (by assumption) ?_
      simp only [Act.put, List.setIfInBounds_toArray, List.set_cons_zero, List.set_cons_succ, List.getElem_toArray, List.getElem_cons_zero, List.getElem_cons_succ]
      refine wpAnyH_take (i := 2) (v := .pointer (some ⟨x, 0, none⟩)) rfl (by kernel_rfl) (by kernel_rfl) (by kernel_rfl) (fun _ _ _ h => h) (Or.inl ⟨by rfl, by intro w hSw; (try dsimp only at hSw); go_simp⟩) (by assumption) ?_
      simp only [Act.put, List.setIfInBounds_toArray, List.set_cons_zero, List.set_cons_succ, List.getElem_toArray, List.getElem_cons_zero, List.getElem_cons_succ]
      refine wpAnyH_take (i := 3) (v := .pointer (some ⟨x, 2, none⟩)) rfl (by kernel_rfl) (by kernel_rfl) (by kernel_rfl) (fun _ _ _ h => h) (Or.inl ⟨by rfl, by intro w hSw; (try dsimp only at hSw); go_simp⟩) (by assumption) ?_
      simp only [Act.put, List.setIfInBounds_toArray, List.set_cons_zero, List.set_cons_succ, List.getElem_toArray, List.getElem_cons_zero, List.getElem_cons_succ]
      refine wpAnyH_take (i := 5) (v := .pointer (some ⟨x, 0, none⟩)) rfl (by kernel_rfl) (by kernel_rfl) (by kernel_rfl) (fun _ _ _ h => h) (Or.inl ⟨by rfl, by intro w hSw; (try dsimp only at hSw); go_simp⟩) (by assumption) ?_
      simp only [Act.put, List.setIfInBounds_toArray, List.set_cons_zero, List.set_cons_succ, List.getElem_toArray, List.getElem_cons_zero, List.getElem_cons_succ]
      refine wpAnyH_take (i := 6) (v := .pointer (some ⟨x, 0, none⟩)) rfl (by kernel_rfl) (by kernel_rfl) (by kernel_rfl) (fun _ _ _ h => h) (Or.inl ⟨by rfl, by intro w hSw; (try dsimp only at hSw); go_simp⟩) (by assumption) ?_
      simp only [Act.put, List.setIfInBounds_toArray, List.set_cons_zero, List.set_cons_succ, List.getElem_toArray, List.getElem_cons_zero, List.getElem_cons_succ]
      refine wpAnyH_take (i := 7) (v := .pointer (some ⟨x, 3, none⟩)) rfl (by kernel_rfl) (by kernel_rfl) (by kernel_rfl) (fun _ _ _ h => h) (Or.inl ⟨by rfl, by intro w hSw; (try dsimp only at hSw); go_simp⟩) (by assumption) ?_
      simp only [Act.put, List.setIfInBounds_toArray, List.set_cons_zero, List.set_cons_succ, List.getElem_toArray, List.getElem_cons_zero, List.getElem_cons_succ]
      refine wpAnyH_take (i := 8) (v := .string G) rfl (by kernel_rfl) (by kernel_rfl) (by kernel_rfl) (fun _ _ _ h => h) (Or.inl ⟨by rfl, by intro w hSw; (try dsimp only at hSw); go_simp⟩) (by assumption) ?_
      simp only [Act.put, List.setIfInBounds_toArray, List.set_cons_zero, List.set_cons_succ, List.getElem_toArray, List.getElem_cons_zero, List.getElem_cons_succ]
      refine wpAnyH_ready (rs := [4, 9]) (by kernel_rfl) (by simp) (AllReadyH.cons rfl (fun K hK => ?o4) (AllReadyH.cons rfl (fun K hK => ?o9) AllReadyH.nil))
      case' o4 =>
        go_simp
        refine hK.out _ _ hHeld (fun _ => ?_)
        clear hK K
        refine wpAnyH_ready (rs := [9]) (by kernel_rfl) (by simp) (AllReadyH.cons rfl (fun K hK => ?_) AllReadyH.nil)
        refine step_bs 26 _ rfl (.string G) rfl _ rfl (hbs _) ?_
        refine hK.out _ _ (unhide Hc3a) (fun hHeld => ?_)
        clear hK K
        simp only [Act.put, List.setIfInBounds_toArray, List.set_cons_zero, List.set_cons_succ, List.getElem_toArray, List.getElem_cons_zero, List.getElem_cons_succ]
      case' o9 =>
        refine step_bs 26 _ rfl (.string G) rfl _ rfl (hbs _) ?_
        refine hK.out _ _ (unhide Hc3a) (fun hHeld => ?_)
        clear hK K
        simp only [Act.put, List.setIfInBounds_toArray, List.set_cons_zero, List.set_cons_succ, List.getElem_toArray, List.getElem_cons_zero, List.getElem_cons_succ]
        refine wpAnyH_ready (rs := [4]) (by kernel_rfl) (by simp) (AllReadyH.cons rfl (fun K hK => ?_) AllReadyH.nil)
        go_simp
        refine hK.out _ (w3.drew.alloc (.cells #[.string G] 9)) hHeld (fun _ => ?_)
        clear hK K
      all_goals (
      refine wpAnyH_ready (rs := [10]) (by kernel_rfl) (by simp) (AllReadyH.cons rfl (fun K hK => ?_) AllReadyH.nil)
      obtain ⟨g2, cap3, w4, hrun, hown, hgrow⟩ := append_one (P := Tryz.prog) (w3.drew.alloc (.cells #[.string G] 9)) 26 26 9 i0 (.string ⟨#[]⟩) Tryz.underlying26 (unhide Hinf).1 (unhide Hinf).2.1 (by rw [(unhide Hinf).2.2.1]; rfl) (n := 1) (xs := [.string T]) (by rw [(unhide Hinf).2.2.1]; exact unhide Hrow) ⟨w3.heap.size, 0, none⟩ 1 [.string G] (by rw [(unhide Hinf).2.2.1]; rfl) (unhide Hnews) (one_tx G) (by unfold maxLen; omega) (fun old ho => by rw [(unhide Hinf).2.2.2]; exact fits16 ho (by omega)) (unhide Hle)
      rw [(unhide Hinf).2.2.1] at hown
      refine step_append_run _ _ 26 rfl (.slice a 1 cap2) _ rfl rfl _ rfl hrun ?_
      obtain ⟨p1, p2, p3, p4, p5⟩ := (unhide Hx2).pushed (s := G) (unhide Hrow) hgrow hown
      have c2' := (p4 2).trans c22
      have fz' : ∀ o, w4.frozen? ⟨x, o, none⟩ = false := p5
      have c3' : w4.cell? ⟨x, 3, none⟩ = some (.string G) := (p4 3).trans c32
      have c3'' : (w4.setCell ⟨x, 2, none⟩ (.slice (some ⟨g2, 0, none⟩) (1 + 1) cap3)).cell? ⟨x, 3, none⟩ = some (.string G) := cell_set_ne c3' (by omega)
      have HP := hide (⟨p1, p2, p3⟩ : _ ∧ _ ∧ _)
      have Hc4 := hide c3''
      clear hown hgrow hrun p1 p2 p3 p4 p5 c3''
      refine hK.out _ _ c3' (fun hHeld => ?_)
      clear hK K
      simp only [Act.put, List.setIfInBounds_toArray, List.set_cons_zero, List.set_cons_succ, List.getElem_toArray, List.getElem_cons_zero, List.getElem_cons_succ]
      refine wpAnyH_take (i := 11) (v := .pointer (some ⟨x, 0, none⟩)) rfl (by kernel_rfl) (by kernel_rfl) (by kernel_rfl) (fun _ _ _ h => h) (Or.inl ⟨by rfl, by intro w hSw; (try dsimp only at hSw); go_simp⟩) (by assumption) ?_
      simp only [Act.put, List.setIfInBounds_toArray, List.set_cons_zero, List.set_cons_succ, List.getElem_toArray, List.getElem_cons_zero, List.getElem_cons_succ]
      refine wpAnyH_take (i := 12) (v := .pointer (some ⟨x, 2, none⟩)) rfl (by kernel_rfl) (by kernel_rfl) (by kernel_rfl) (fun _ _ _ h => h) (Or.inl ⟨by rfl, by intro w hSw; (try dsimp only at hSw); go_simp⟩) (by assumption) ?_
      simp only [Act.put, List.setIfInBounds_toArray, List.set_cons_zero, List.set_cons_succ, List.getElem_toArray, List.getElem_cons_zero, List.getElem_cons_succ]
      refine wpAnyH_ready (rs := [13]) (by kernel_rfl) (by simp) (AllReadyH.cons rfl (fun K hK => ?_) AllReadyH.nil)
      go_simp
      refine hK.out _ _ (unhide Hc4) (fun _ => ?_)
      clear hK K
      refine wpAnyH_done (by kernel_rfl) (NoPanic.normal ?_) _
      generalize hw5 : w4.setCell ⟨x, 2, none⟩ (.slice (some ⟨g2, 0, none⟩) (1 + 1) cap3) = w5 at *
      obtain ⟨a1, a2, a3⟩ := unhide HP
      have hD5 := hD.keep a2 (by unfold X1; decide)
      have ha5 := ha2.keep a2 (by unfold X1; decide) (by unfold X1; decide)
      obtain ⟨hcG, hpq, hpl, hAl, hhS, hcT⟩ := unhide HQ
      have hV5 : Inv Mj w5 x b [T, G] G 1 (some r) l' true t := ⟨a1, ⟨S', E', U', ha5, hl2, hU1, hU2, (fun h => by cases h), fun _ keep => by
          rcases hk keep with e | e
          · rw [e, hhS]; simp
          · rw [e, hpl]; simp⟩, fun s hs => by
          simp only [List.mem_cons, List.not_mem_nil, or_false] at hs
          rcases hs with rfl | rfl
          · exact hcT
          · exact hcG, by simp, .inr ⟨r, rfl, .inl ⟨rfl, hD5⟩⟩, (fun h => by cases h)⟩
      have hbe5 := hbe2.trans a3
      clear a1 a2 a3 hD5 ha5 HP Hc4 hHeld c3' c2' fz' Hinf Hx2 Hrow Hnews Hle Hc3a c2a hbs hw5 hfz2 c32 c22 HQ hD ha2
      go_wp2_with fail
      go_ret
      exact ⟨rfl, hbe5, l', true, unhide Hlow2, .inl ⟨rfl, hV5⟩⟩)
    · have hx3 := hx2.put4 0
      have ht3 := hx2.setTK 4 (.int .i64 (0 : Nat))
      have hs3 : (w2.setCell ⟨x, 4, none⟩ (.int .i64 (0 : Nat))).heap.size = w2.heap.size := by simp [World.setCell]
      have hb3 : Below b w2 _ := (Below.refl b w2).setCell (p := ⟨x, 4, none⟩) (Nat.le_of_lt hbx) (.int .i64 (0 : Nat))
      generalize hW3 : w2.setCell ⟨x, 4, none⟩ (.int .i64 (0 : Nat)) = w3 at *
      have hbn := below_new w3 (.cells #[.string G] 9)
      have hx4 := hx3.later hbn
      have hx5 := hx4.put2 (str_new w3 G b (by omega))
      have ht5 := hx4.setTK 2 (.slice (some ⟨w3.heap.size, 0, none⟩) 1 1)
      have htx5 : TK X1 w2 _ := (ht3.trans (TK.of_below hbn)).trans ht5
      have hR5 := hR2.keep htx5 x1_rack x1_item x1_step nh_x1
      have ha5 := ha2.keep htx5 x1_dev x1_late
      have hbe5 : Below b w1 _ := ((hbe2.trans hb3).trans (hbn.mono (by omega))).setCell (p := ⟨x, 2, none⟩) (Nat.le_of_lt hbx) (.slice (some ⟨w3.heap.size, 0, none⟩) 1 1)
      have e5 := World.setCell_alloc_past (w := w3) (.cells #[.string G] 9) x 2 (.slice (some ⟨w3.heap.size, 0, none⟩) 1 1) (by omega)
      rw [e5, hs3] at hx5 hR5 ha5 hbe5
      obtain ⟨hcG, hpq, hpl, hAl, hhS, hcT⟩ := unhide HQ
      have HC := hide (sconfig_any x b r [G] G G 0 _ [] [] _ hAl.fits hx5 hR5)
      rw [hpl, show decide (G = G) = true from decide_eq_true rfl] at HC
      have hV5 : ∀ t', Inv Mj _ x b [G] G 0 (some r) l' false t' := fun t' => ⟨hx5, ⟨E', E', [], ha5, hl2, by simp, by simp, fun _ => ⟨rfl, rfl, by rw [hh, hpl]; simp⟩, (fun h => by cases h)⟩, fun s hs => by
          simp only [List.mem_singleton] at hs
          exact hs ▸ hcG, by simp, .inr ⟨r, rfl, .inr ⟨rfl, G, rfl, _, [], [], hR5, rfl, by simp, .inl ⟨rfl, rfl, hpq⟩⟩⟩, fun _ h => absurd h (by omega)⟩
      have HV := hide hV5
      have Hbe := hide hbe5
      have hlx5 := hx5.lt
      subst hW3
      clear hx2 hx3 hx4 hx5 ht3 ht5 htx5 hR5 ha5 hbe5 hbn hb3 e5 hV5 hcG hpq hpl hAl hhS hcT HQ HS Hh hR2 ha2 hh hrow2 c0 c1
      go_wp2_with fail
      refine (adead_any b false _ hdc2).mono ?_
      rintro e w3 ⟨rfl, rfl⟩
      go_wp2_with fail
      refine (unhide HC).mono ?_
      rintro e w6 ⟨rfl, hb6⟩
      have hV6 := fun t' => (unhide HV t').later hb6
      have hbe6 := (unhide Hbe).trans (hb6.mono (by omega))
      clear HC HV Hbe
      go_wp2
      go_ret
      exact ⟨rfl, hbe6, l', false, fun h0 => ⟨(unhide Hlow2 h0).1, rfl⟩, .inr ⟨rfl, hV6⟩⟩

end Go.Proofs.YtdlhgbhaeedbdabGreat

/- 'Site.act'. -/
namespace Go.Proofs.YtdlhgbhaeedbdabGreat
open Go.RowKit

/-- A site as it stands between its steps. -/
def Ok (w : World) (x b : Nat) : Prop := ∃ A G n rp l d t, Inv hj0 w x b A G n rp l d t ∧ A.length ≤ 2

/-- What a step of the script leaves. -/
def OkEnd (x b : Nat) (w w' : World) : Prop := Ok w' x b ∧ Below b w w'

theorem OkEnd.from {x b : Nat} {w w1 w' : World} (h : OkEnd x b w1 w') (hb : Below b w w1) : OkEnd x b w w' := ⟨h.1, hb.trans h.2⟩

theorem ok_later {w w' : World} {x b : Nat} (h : Ok w x b) (hb : Below w.heap.size w w') : Ok w' x b := by
  obtain ⟨A, G, n, rp, l, d, t, hI, hA⟩ := h
  exact ⟨A, G, n, rp, l, d, t, hI.later hb, hA⟩

theorem ok_open (x b : Nat) (A : List ByteArray) (G : ByteArray) (n : Nat) (rp : Option Nat) (l : Int) (d : Bool) (t : List Item) (w : World) (h : Inv hj0 w x b A G n rp l d t) (hA : A.length ≤ 2) :
    Calls Tryz.prog 55 #[.pointer (some ⟨x, 0, none⟩)] w fun e w' => e = .returned (.bool true) ∧ OkEnd x b w w' := by
  refine (sopen_any x b _ A G n l d w (by omega) h.ne h.canon h.site h.dev).mono ?_
  rintro e w' ⟨rfl, l', d', _, hbe, ⟨_, hI⟩ | ⟨_, _, r, T, _, hI⟩⟩
  · exact ⟨rfl, ⟨A, G, 0, none, l', true, t, hI t, hA⟩, hbe⟩
  · exact ⟨rfl, ⟨[T], G, 0, some r, l', false, t, hI t, by simp⟩, hbe⟩

theorem ok_start (x b r : Nat) (A : List ByteArray) (G s : ByteArray) (n : Nat) (l : Int) (d : Bool) (t : List Item) (w : World) (hs : s.size ≤ maxLen) (h : Inv hj0 w x b A G n (some r) l d t) (hA : A.length ≤ 2) :
    Calls Tryz.prog 13 #[.pointer (some ⟨x, 0, none⟩), .string s] w fun e w' => e = .returned (.bool true) ∧ OkEnd x b w w' := by
  have hlb := h.dev.lt
  have hsame : ∀ w', Below w.heap.size w w' → OkEnd x b w w' := fun w' hb => ⟨⟨A, G, n, some r, l, d, t, h.later hb, hA⟩, hb.mono (by omega)⟩
  cases d with
  | true => exact (sstart_dead x b r A G s n l t w hs h).mono fun e w' ⟨he, hb⟩ => ⟨he, hsame w' hb⟩
  | false =>
    by_cases hn : 0 < n
    · exact (sstart_busy x b r A G s n l t w hs hn h).mono fun e w' ⟨he, hb⟩ => ⟨he, hsame w' hb⟩
    · have hn0 : n = 0 := by omega
      subst hn0
      by_cases h0 : (chk s).1 = 0
      · obtain ⟨T, hT, _⟩ := h.live
        subst hT
        exact (sstart_ok x b r T G s l t w hs h0 (fun _ _ => ⟨trivial, trivial⟩) h).mono fun e w' ⟨he, hI, hb⟩ => ⟨he, ⟨_, _, _, _, _, _, _, hI, by simp⟩, hb⟩
      · exact (sstart_bad x b r A G s l t w hs h0 h).mono fun e w' ⟨he, hb⟩ => ⟨he, hsame w' hb⟩

theorem ok_step (x b r : Nat) (A : List ByteArray) (G : ByteArray) (n : Nat) (l : Int) (d : Bool) (t : List Item) (w : World) (h : Inv hj0 w x b A G n (some r) l d t) (hA : A.length ≤ 2) :
    Calls Tryz.prog 24 #[.pointer (some ⟨x, 0, none⟩)] w fun e w' => e = .returned (.bool true) ∧ OkEnd x b w w' := by
  have hsame : ∀ w', w' = w → OkEnd x b w w' := fun w' hb => by subst hb; exact ⟨⟨A, G, n, some r, l, d, t, h, hA⟩, Below.refl _ _⟩
  cases d with
  | true => exact (sstep_dead x b r A G n l t w h).mono fun e w' ⟨he, hb⟩ => ⟨he, hsame w' hb⟩
  | false =>
    obtain ⟨T, hT, _⟩ := h.live
    subst hT
    match n with
    | 0 => exact (sstep_idle x b r [T] G l t w h).mono fun e w' ⟨he, hb⟩ => ⟨he, hsame w' hb⟩
    | 1 =>
      refine (sstep_last x b r T G l t w h).mono ?_
      rintro e w' ⟨rfl, hb, l', d', _, ⟨_, hI⟩ | ⟨_, hI⟩⟩
      · exact ⟨rfl, ⟨_, _, _, _, _, _, _, hI, by simp⟩, hb⟩
      · exact ⟨rfl, ⟨_, _, _, _, _, _, _, hI t, by simp⟩, hb⟩
    | m + 2 => exact (sstep_more x b r T G (m + 1) l t w (by omega) h).mono fun e w' ⟨he, hI, hb⟩ => ⟨he, ⟨_, _, _, _, _, _, _, hI, by simp⟩, hb⟩

theorem ok_undo (x b r : Nat) (f : Bool) (A : List ByteArray) (G : ByteArray) (n : Nat) (l : Int) (d : Bool) (t : List Item) (w : World) (h : Inv hj0 w x b A G n (some r) l d t) (hA : A.length ≤ 2) :
    Calls Tryz.prog 34 #[.pointer (some ⟨x, 0, none⟩), .bool f] w fun e w' => e = .returned (.bool true) ∧ OkEnd x b w w' := by
  have hsame : ∀ w', w' = w → OkEnd x b w w' := fun w' hb => by subst hb; exact ⟨⟨A, G, n, some r, l, d, t, h, hA⟩, Below.refl _ _⟩
  cases d with
  | true => exact (sundo_dead x b r f A G n l t w h).mono fun e w' ⟨he, hb⟩ => ⟨he, hsame w' hb⟩
  | false =>
    by_cases hn : 0 < n
    · obtain ⟨T, hT, _⟩ := h.live
      subst hT
      exact (sundo_busy x b r f T G n l t w hn h).mono fun e w' ⟨he, hI, hb⟩ => ⟨he, ⟨_, _, _, _, _, _, _, hI t, by simp⟩, hb⟩
    · have hn0 : n = 0 := by omega
      subst hn0
      exact (sundo_idle x b r f A G l t w h).mono fun e w' ⟨he, hb⟩ => ⟨he, hsame w' hb⟩

/-- Behind Arm. -/
theorem inv_arm {w : World} {x b : Nat} {A : List ByteArray} {G : ByteArray} {n : Nat} {rp : Option Nat} {l : Int} {d : Bool} {t : List Item} (h : Inv hj0 w x b A G n rp l d t) {m : Int} (hm : m ≤ 9223372036854775807) :
    Inv hj0 (w.setCell ⟨b, 4097, none⟩ (.int .i64 m)) x b A G n rp m d t ∧ Below b w (w.setCell ⟨b, 4097, none⟩ (.int .i64 m)) := by
  obtain ⟨a1, ⟨S, E, U, ha, hl, hU1, hU2, hal, hde⟩, a3, a4, a5, a6⟩ := h
  obtain ⟨b1, b2, b3⟩ := ha.set3 m
  refine ⟨⟨a1.keep b3 (by unfold AT; decide) (by unfold AT; decide), ⟨S, E, U, b1, hm, hU1, hU2, hal, hde⟩, a3, a4, ?_, a6⟩, b2⟩
  rcases a5 with a5 | ⟨r, e, ⟨e2, hD⟩ | ⟨e2, T, e3, hR⟩⟩
  · exact .inl a5
  · exact .inr ⟨r, e, .inl ⟨e2, hD.keep b3 not_atRack⟩⟩
  · exact .inr ⟨r, e, .inr ⟨e2, T, e3, hR.keep b3 not_atRack not_atItem not_atStep nh_at⟩⟩

/-- Restore, on the site's device. -/
theorem dev_restore (x b : Nat) (A : List ByteArray) (G : ByteArray) (n : Nat) (rp : Option Nat) (l keep : Int) (d : Bool) (t : List Item) (w : World) (h : Inv hj0 w x b A G n rp l d t) :
    Calls Tryz.prog 44 #[.pointer (some ⟨b, 0, none⟩), .int .i64 keep] w fun e w' => e = .returned (.tuple #[]) ∧ SiteAt hj0.sfro w' x b (rp.map fun r => ⟨r, 0, none⟩) A G n ∧ DevAt w' b A (-1) false ∧ Below b w w' := by
  obtain ⟨a1, ⟨S, E, U, ha, hl, hU1, hU2, hal, hde⟩, a3, a4, a5, a6⟩ := h
  refine (arestore_any b S E U l keep d w (by omega) hU2 ha).mono ?_
  rintro e w' ⟨rfl, ha', hbe, htk⟩
  refine ⟨rfl, a1.keep htk (by unfold AT; decide) (by unfold AT; decide), ⟨_, _, [], ha', by decide, by simp, by simp, fun _ => ⟨rfl, rfl, ?_⟩, (fun h => by cases h)⟩, hbe⟩
  cases d with
  | true => exact hde rfl keep
  | false =>
    obtain ⟨rfl, rfl, hm⟩ := hal rfl
    exact hm

end Go.Proofs.YtdlhgbhaeedbdabGreat
