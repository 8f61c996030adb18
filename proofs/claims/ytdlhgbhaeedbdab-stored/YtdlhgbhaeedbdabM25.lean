/- Sd8, Texts, Ws1, Ws2. -/
import Derived.Test.YtdlhgbhaeedbdabM24
import Derived.Test.YtdlhgbhaeedbdabM18
import Derived.Test.YtdlhgbhaeedbdabM21

/- The law Stored: a call, on the rack and on the shelf: plain mathematics. -/
namespace Go.Proofs.Ytdlhgbhaeedbdab
open Go.RowKit

theorem taken_iff {d : Drv} {s : Int} (h : -1 ≤ d.holder) : takenB d s = decide (0 ≤ d.holder ∧ d.holder ≠ s) := by
  unfold takenB
  rw [Bool.eq_iff_iff]
  simp only [Bool.and_eq_true, decide_eq_true_eq]
  omega

/-- A call tells the same of both, and both go on together. -/
theorem shop_step {l : List Item} {D : List Drv} {Z : Nat → Int} {ia ib : Nat} {nx : Int} (hp : l.Perm shopI) (h : ShRel D Z ia ib) (s : Int) (hs : s = 0 ∨ s = 1 ∨ s = 2) (o : Iox) :
    tdR ⟨D, shopS, nx⟩ l s o = wantT Z s o ∧ ∃ D', tdH ⟨D, shopS, nx⟩ l s o = ⟨D', shopS, nx⟩ ∧ ShRel D' (wantZ Z s o) ia ib := by
  have hsee := fun n => see_shop (nx := nx) hp h s n hs
  have hls := list_shop (D := D) (nx := nx) hp s hs
  unfold tdR tdH wantT wantZ
  by_cases k1 : o.K = 1
  · simp only [k1, if_true]
    rw [hls]
    refine ⟨?_, D, rfl, h⟩
    rcases hs with rfl | rfl | rfl <;> rfl
  simp only [k1, if_false]
  by_cases hd : (seesD s o.N).1 < 0
  · have he : seeO ⟨D, shopS, nx⟩ l s o.N = (14, none) := by rw [hsee, if_pos hd]
    simp only [hd, if_true, rdR, wrR, rsR, wrH, rsH, rlH, he]
    refine ⟨?_, D, ?_, h⟩
    · repeat' split
      all_goals rfl
    · repeat' split
      all_goals rfl
  have hd01 : (seesD s o.N).1 = 0 ∨ (seesD s o.N).1 = 1 := by rcases seesD_cases s o.N with e | e | e <;> omega
  have he : seeO ⟨D, shopS, nx⟩ l s o.N = (0, some (if (seesD s o.N).1 = 0 then ia else ib, (seesD s o.N).2)) := by rw [hsee, if_neg hd]
  simp only [hd, if_false]
  generalize hdd : seesD s o.N = du at *
  obtain ⟨d, u⟩ := du
  simp only at hd hd01 he ⊢
  obtain ⟨x, hx, hxh, hxl, hxb, hx1, hxs, hxw⟩ := h.at hd01
  generalize hi : (if d = 0 then ia else ib) = i at *
  have htk := taken_iff (d := x) (s := s) (by rw [hxh]; exact hx1)
  rw [hxh] at htk
  have hDm : ∀ f g : Drv → Drv, f x = g x → D.modify i f = D.modify i g := by
    intro f g hfg
    apply List.ext_getElem?
    intro j
    by_cases e : i = j
    · subst e; rw [modify_at hx, modify_at hx, hfg]
    · rw [modify_off e, modify_off e]
  have hDid : ∀ f : Drv → Drv, f x = x → D.modify i f = D := by
    intro f hf
    apply List.ext_getElem?
    intro j
    by_cases e : i = j
    · subst e; rw [modify_at hx, hf, hx]
    · rw [modify_off e]
  simp only [rdR, wrR, rsR, wrH, rsH, rlH, he, hx]
  by_cases ho : o.K = 3 ∧ u = true
  · obtain ⟨k3, rfl⟩ := ho
    have k2 : ¬ o.K = 2 := by omega
    simp only [k3, show ¬ ((3 : Int) = 2) from by omega, if_true, if_false, and_self]
    exact ⟨trivial, D, rfl, h⟩
  simp only [ho, if_false]
  by_cases hh : 0 ≤ Z (hAt d) ∧ Z (hAt d) ≠ s
  · have ht : takenB x s = true := by rw [htk]; simpa using hh
    simp only [hh, ne_eq, not_false_eq_true, and_self, if_true]
    by_cases k2 : o.K = 2
    · simp only [k2, if_true, rdD, ht]
      exact ⟨trivial, D, rfl, h⟩
    · simp only [k2, if_false]
      by_cases k3 : o.K = 3
      · have hu : u = false := by cases u with | true => exact absurd ⟨k3, rfl⟩ ho | false => rfl
        subst hu
        simp only [k3, if_true, Bool.false_eq_true, if_false, wrD, ht]
        refine ⟨trivial, D, ?_, h⟩
        rw [hDid _ (by simp [wrN, wrD, ht])]
      · simp only [k3, if_false, rsD, ht, if_true]
        refine ⟨trivial, D, ?_, h⟩
        by_cases k4 : o.K = 4
        · simp only [k4, if_true]
          rw [hDid _ (by simp [rsN, ht])]
        · simp only [k4, if_false]
          rw [hDid _ (by simp [rlN, ht])]
  have ht : takenB x s = false := by rw [htk]; simpa using hh
  simp only [hh, if_false]
  by_cases k4 : o.K = 4
  · simp only [k4, show ¬ ((4 : Int) = 2) from by omega, show ¬ ((4 : Int) = 3) from by omega, if_true, if_false, rsD, ht, Bool.false_eq_true, ne_eq, not_false_eq_true, and_self]
    refine ⟨trivial, _, rfl, ?_⟩
    rw [hDm (fun y => rsN y s) (fun y => { y with holder := s }) (by simp [rsN, ht])]
    exact hxs s (by rcases hs with rfl | rfl | rfl <;> omega)
  simp only [k4, if_false]
  by_cases k23 : o.K ≠ 2 ∧ o.K ≠ 3
  · obtain ⟨k2, k3⟩ := k23
    simp only [k2, k3, ne_eq, not_false_eq_true, and_self, if_true, if_false, rsD, ht, Bool.false_eq_true]
    refine ⟨trivial, _, rfl, ?_⟩
    rw [hDm (fun y => rlN y s) (fun y => { y with holder := -1 }) (by simp [rlN, ht])]
    exact hxs (-1) (by omega)
  have hhas : hasB x o.B = decide (¬ (o.B < 0 ∨ szD d ≤ o.B)) := by
    unfold hasB
    rw [Bool.eq_iff_iff, hxl]
    simp only [Bool.and_eq_true, decide_eq_true_eq]
    omega
  simp only [k23, if_false]
  by_cases hb : o.B < 0 ∨ szD d ≤ o.B
  · have hhb : hasB x o.B = false := by rw [hhas, decide_eq_false_iff_not]; exact fun h => h hb
    simp only [hb, if_true]
    by_cases k2 : o.K = 2
    · simp only [k2, if_true, rdD, ht, hhb, Bool.false_eq_true, if_false]
      exact ⟨trivial, D, rfl, h⟩
    · have k3 : o.K = 3 := by omega
      have hu : u = false := by cases u with | true => exact absurd ⟨k3, rfl⟩ ho | false => rfl
      subst hu
      simp only [k3, show ¬ ((3 : Int) = 2) from by omega, if_true, if_false, Bool.false_eq_true, wrD, ht, hhb]
      refine ⟨trivial, D, ?_, h⟩
      rw [hDid _ (by simp [wrN, wrD, ht, hhb])]
  have hhb : hasB x o.B = true := by rw [hhas]; simpa using hb
  obtain ⟨m, hm⟩ : ∃ m : Nat, o.B = m := ⟨o.B.toNat, by omega⟩
  have hmz : (m : Int) < szD d := by omega
  have hhm : hasB x m = true := by rw [← hm]; exact hhb
  simp only [hb, if_false]
  by_cases k2 : o.K = 2
  · simp only [k2, if_true, rdD, ht, hhm, Bool.false_eq_true, if_false, hm, Int.toNat_natCast, hxb m hmz]
    exact ⟨trivial, D, rfl, h⟩
  have k3 : o.K = 3 := by omega
  have hu : u = false := by cases u with | true => exact absurd ⟨k3, rfl⟩ ho | false => rfl
  subst hu
  have hbad : badB o.V = decide (o.V < 0 ∨ 255 < o.V) := by unfold badB; rw [Bool.eq_iff_iff]; simp
  simp only [k3, show ¬ ((3 : Int) = 2) from by omega, if_true, if_false, Bool.false_eq_true, wrD, ht, hhb, hbad]
  by_cases hV : o.V < 0 ∨ 255 < o.V
  · simp only [hV, decide_true, if_true]
    refine ⟨trivial, D, ?_, h⟩
    rw [hDid _ (by simp [wrN, wrD, ht, hhb, hbad, hV])]
  · simp only [hV, decide_false, Bool.false_eq_true, if_false]
    refine ⟨trivial, _, rfl, ?_⟩
    rw [hDm (fun y => wrN y s o.B o.V) (fun y => { y with blocks := y.blocks.set m o.V }) (by simp [wrN, wrD, ht, hhm, hbad, hV, hm]), hm]
    exact hxw m o.V hmz

end Go.Proofs.Ytdlhgbhaeedbdab

/- The small functions on texts and lists of texts: 'begins', 'rank', 'in', 'joined', 'pick', 'ordered'. -/
namespace Go.Proofs.Ytdlhgbhaeedbdab
open Go.RowKit

/-- The texts l lie in block g from offset o on. -/
def StrsIn (w : World) (g o : Nat) (l : List ByteArray) : Prop := g < w.heap.size ∧ ∀ i (h : i < l.length), w.cell? ⟨g, o + i, none⟩ = some (.string l[i])

theorem StrsIn.below {B : Nat} {w w' : World} {g o : Nat} {l : List ByteArray} (h : StrsIn w g o l) (hb : Below B w w') (hg : g < B) : StrsIn w' g o l :=
  ⟨Nat.lt_of_lt_of_le h.1 hb.size, fun i hi => (hb.cell (p := ⟨g, o + i, none⟩) hg).trans (h.2 i hi)⟩

theorem StrsIn.later {w w' : World} {g o : Nat} {l : List ByteArray} (h : StrsIn w g o l) (hb : Below w.heap.size w w') : StrsIn w' g o l := h.below hb h.1

theorem StrsIn.drop {w : World} {g o : Nat} {l : List ByteArray} (h : StrsIn w g o l) (k : Nat) : StrsIn w g (o + k) (l.drop k) :=
  ⟨h.1, fun i hi => by
    have := h.2 (k + i) (by simp at hi; omega)
    rw [List.getElem_drop]
    rw [show o + k + i = o + (k + i) from by omega]
    exact this⟩

theorem StrsIn.take {w : World} {g o : Nat} {l : List ByteArray} (h : StrsIn w g o l) (k : Nat) : StrsIn w g o (l.take k) :=
  ⟨h.1, fun i hi => by
    have := h.2 i (by simp at hi; omega)
    rw [List.getElem_take]
    exact this⟩

/-- v is a list of the texts l. -/
def StrsAt (w : World) (v : Value) (l : List ByteArray) : Prop :=
  (v = .slice none 0 0 ∧ l = []) ∨ ∃ g cap, v = .slice (some ⟨g, 0, none⟩) l.length cap ∧ l.length ≤ cap ∧ StrsIn w g 0 l

theorem strs_of_owns {w : World} {base : Nat} {v : Value} {l : List ByteArray} (h : w.ownsRow base 9 1 v l.length (strVals l)) : StrsAt w v l := by
  have hh := h
  obtain ⟨_, ⟨rfl, h0⟩ | ⟨g, cap, cur, rfl, hb, hg, hc, _, _, _⟩⟩ := hh
  · exact Or.inl ⟨rfl, List.length_eq_zero_iff.1 h0⟩
  · refine Or.inr ⟨g, cap, rfl, hc, (h.lt g rfl).2, fun i hi => ?_⟩
    have := h.cells (g := g) rfl i (.string l[i]) (by simp [strVals, List.getElem?_eq_getElem hi])
    rw [addr_add] at this
    rw [Nat.zero_add]
    exact this

/-- Does s begin with t? -/
def begB (s t : ByteArray) : Bool := decide (t.size ≤ s.size) && ((s.extract 0 t.size).toList == t.toList)

def rankB (p : ByteArray) : Nat :=
  if begB p ⟨#[100, 105, 115, 107, 32]⟩ then 0 else if begB p ⟨#[116, 97, 114, 103, 101, 116, 32]⟩ then 1 else if begB p ⟨#[108, 117, 110, 32]⟩ then 2 else if begB p ⟨#[104, 111, 115, 116, 32]⟩ then 3 else 4

/-- Does the text stand in the list? -/
def inB (l : List ByteArray) (s : ByteArray) : Bool := l.any fun x => decide (x = s)
theorem inB_true {l : List ByteArray} {s : ByteArray} : inB l s = true ↔ s ∈ l := by
  simp [inB]
theorem inB_false {l : List ByteArray} {s : ByteArray} : inB l s = false ↔ s ∉ l := by
  rw [← inB_true]; simp

set_option maxHeartbeats 400000 in
theorem in_any (g cap : Nat) (l : List ByteArray) (s : ByteArray) (w : World) (hl : l.length ≤ 1000000) (hit : StrsIn w g 0 l) :
    Calls Try.prog 34 #[.slice (some ⟨g, 0, none⟩) l.length cap, .string s] w fun e w' => e = .returned (.bool (inB l s)) ∧ w' = w := by
  go_enter Try.func34, Try.ntmps34
  go_wp2
  go_loop [5] (fun i => ∃ k : Nat, k ≤ l.length ∧ i = .int .i64 k ∧ s ∉ l.take k) (fun i => l.length - (intOf i).toNat)
  case atStart => exact ⟨0, Nat.zero_le _, rfl, by simp⟩
  case round =>
    obtain ⟨k, hk, rfl, hno⟩ := hrel
    have Hno := hide hno
    clear hno
    by_cases hlt : k < l.length
    · have hc := hit.2 k hlt
      rw [Nat.zero_add] at hc
      obtain ⟨x, hx⟩ : ∃ x, x = l[k] := ⟨_, rfl⟩
      rw [← hx] at hc
      have Hx := hide hx
      clear hx
      have hlt' : (k : Int) < (l.length : Int) := by omega
      by_cases he : x = s
      · have hmem : s ∈ l := by rw [← he, unhide Hx]; exact List.getElem_mem hlt
        have hf : inB l s = true := inB_true.2 hmem
        have Hf := hide hf
        have he' : (x.toList == s.toList) = true := by rw [he]; simp
        clear hmem hf he
        go_wp2
        go_ret
        exact ⟨ret_bool (unhide Hf).symm, rfl⟩
      · have hno : s ∉ l.take (k + 1) := by
          rw [List.take_succ_eq_append_getElem hlt, List.mem_append]
          rintro (h | h)
          · exact unhide Hno h
          · simp at h; exact he (by rw [unhide Hx]; exact h.symm)
        have H2 := hide hno
        have he' : (x.toList == s.toList) = false := by
          rw [beq_eq_false_iff_ne]; exact fun h => he (tl_inj h)
        clear hno he
        go_wp2
        go_round
        case rel => exact ⟨k + 1, by omega, by go_num, unhide H2⟩
        case measure => simp [intOf]; omega
    · have hno := unhide Hno
      rw [List.take_of_length_le (by omega)] at hno
      have hf : inB l s = false := inB_false.2 hno
      have Hf := hide hf
      clear hno hf
      go_wp2
      go_ret
      exact ⟨ret_bool (unhide Hf).symm, rfl⟩

end Go.Proofs.Ytdlhgbhaeedbdab

/- A site in memory (rackkeep.Site); what holds between its steps; 'config'. -/
namespace Go.Proofs.Ytdlhgbhaeedbdab
open Go.RowKit

/-- A site in block x: its device in block b, its rack, the texts of which one lasts, the plan's, how many steps are left. -/
structure SiteAt (w : World) (x b : Nat) (rp : Option Addr) (A : List ByteArray) (G : ByteArray) (n : Nat) : Prop where
  ty : ∃ cs fr, w.heap[x]? = some (Obj.cells cs 37 fr)
  c0 : w.cell? ⟨x, 0, none⟩ = some (.pointer (some ⟨b, 0, none⟩))
  c1 : w.cell? ⟨x, 1, none⟩ = some (.pointer rp)
  c2 : ∃ v, w.cell? ⟨x, 2, none⟩ = some v ∧ w.ownsRow (b + 1) 9 1 v A.length (A.map Value.string)
  c3 : w.cell? ⟨x, 3, none⟩ = some (.string G)
  c4 : w.cell? ⟨x, 4, none⟩ = some (.int .i64 n)
  fz : ∀ o, w.frozen? ⟨x, o, none⟩ = false
  lt : x < w.heap.size
  bx : b < x

theorem SiteAt.keep {T : TypeId → Prop} {w w' : World} {x b : Nat} {rp : Option Addr} {A : List ByteArray} {G : ByteArray} {n : Nat} (h : SiteAt w x b rp A G n) (hk : TK T w w') (h1 : ¬ T 37) (h2 : ¬ T 9) : SiteAt w' x b rp A G n := by
  obtain ⟨⟨cs, fr, hty⟩, c0, c1, ⟨v, c2, hrow⟩, c3, c4, fz, lt, bx⟩ := h
  have hb := hk.block x cs _ fr hty h1
  have hc : ∀ o, w'.cell? ⟨x, o, none⟩ = w.cell? ⟨x, o, none⟩ := fun o => World.cell?_of_block hb
  have hf : ∀ o, w'.frozen? ⟨x, o, none⟩ = w.frozen? ⟨x, o, none⟩ := fun o => World.frozen?_of_block hb
  exact ⟨⟨cs, fr, hb.trans hty⟩, (hc _).trans c0, (hc _).trans c1, ⟨v, (hc _).trans c2, hk.row h2 hrow⟩, (hc _).trans c3, (hc _).trans c4, fun o => (hf o).trans (fz o), Nat.lt_of_lt_of_le lt hk.size, bx⟩

theorem SiteAt.later {w w' : World} {x b : Nat} {rp : Option Addr} {A : List ByteArray} {G : ByteArray} {n : Nat} (h : SiteAt w x b rp A G n) (hk : Below w.heap.size w w') : SiteAt w' x b rp A G n :=
  h.keep (T := fun _ => False) (TK.of_below hk) id id

/-- The site's own block. -/
def X1 (t : TypeId) : Prop := t = 37
theorem x1_str : ¬ X1 9 := by unfold X1; decide
theorem x1_dev : ¬ X1 114 := by unfold X1; decide
theorem x1_late : ¬ X1 163 := by unfold X1; decide
theorem x1_rack : ¬ X1 94 := by unfold X1; decide
theorem x1_item : ¬ X1 73 := by unfold X1; decide
theorem nh_x1 : NH X1 := ⟨by unfold X1; decide, by unfold X1; decide, by unfold X1; decide, by unfold X1; decide⟩
theorem x1_step : ¬ X1 75 := by unfold X1; decide
theorem kt_site : ¬ KT 37 := by unfold KT AT KB; decide
theorem kt_str : ¬ KT 9 := by unfold KT AT KB; decide
theorem k0_site : ¬ KT0 37 := by unfold KT0 KB; decide
theorem k0_str : ¬ KT0 9 := by unfold KT0 KB; decide
theorem k1_site : ¬ K1 37 := by unfold K1 KB; decide
theorem k1_str : ¬ K1 9 := by unfold K1 KB; decide
theorem k1_dev : ¬ K1 114 := by unfold K1 KB; decide
theorem k1_late : ¬ K1 163 := by unfold K1 KB; decide

theorem SiteAt.setTK {w : World} {x b : Nat} {rp : Option Addr} {A : List ByteArray} {G : ByteArray} {n : Nat} (h : SiteAt w x b rp A G n) (o : Nat) (u : Value) : TK X1 w (w.setCell ⟨x, o, none⟩ u) := by
  obtain ⟨cs, fr, hty⟩ := h.ty
  exact TK.setCell (T := X1) hty rfl u

theorem SiteAt.put1 {w : World} {x b : Nat} {rp : Option Addr} {A : List ByteArray} {G : ByteArray} {n : Nat} (h : SiteAt w x b rp A G n) (rp' : Option Addr) : SiteAt (w.setCell ⟨x, 1, none⟩ (.pointer rp')) x b rp' A G n := by
  have hk := h.setTK 1 (.pointer rp')
  obtain ⟨hty, c0, c1, ⟨v, c2, hrow⟩, c3, c4, fz, lt, bx⟩ := h
  exact ⟨ty_set hty _, cell_set_ne c0 (by omega), World.cell?_setCell_same _ _ _ c1, ⟨v, cell_set_ne c2 (by omega), hk.row x1_str hrow⟩, cell_set_ne c3 (by omega), cell_set_ne c4 (by omega), fun o => by simp [fz o], by simpa [World.setCell] using lt, bx⟩

theorem SiteAt.put2 {w : World} {x b : Nat} {rp : Option Addr} {A A' : List ByteArray} {G : ByteArray} {n : Nat} (h : SiteAt w x b rp A G n) {v : Value} (ho : w.ownsRow (b + 1) 9 1 v A'.length (A'.map Value.string)) : SiteAt (w.setCell ⟨x, 2, none⟩ v) x b rp A' G n := by
  have hk := h.setTK 2 v
  obtain ⟨hty, c0, c1, ⟨v', c2, hrow⟩, c3, c4, fz, lt, bx⟩ := h
  exact ⟨ty_set hty _, cell_set_ne c0 (by omega), cell_set_ne c1 (by omega), ⟨v, World.cell?_setCell_same _ _ _ c2, hk.row x1_str ho⟩, cell_set_ne c3 (by omega), cell_set_ne c4 (by omega), fun o => by simp [fz o], by simpa [World.setCell] using lt, bx⟩

theorem SiteAt.put3 {w : World} {x b : Nat} {rp : Option Addr} {A : List ByteArray} {G : ByteArray} {n : Nat} (h : SiteAt w x b rp A G n) (G' : ByteArray) : SiteAt (w.setCell ⟨x, 3, none⟩ (.string G')) x b rp A G' n := by
  have hk := h.setTK 3 (.string G')
  obtain ⟨hty, c0, c1, ⟨v, c2, hrow⟩, c3, c4, fz, lt, bx⟩ := h
  exact ⟨ty_set hty _, cell_set_ne c0 (by omega), cell_set_ne c1 (by omega), ⟨v, cell_set_ne c2 (by omega), hk.row x1_str hrow⟩, World.cell?_setCell_same _ _ _ c3, cell_set_ne c4 (by omega), fun o => by simp [fz o], by simpa [World.setCell] using lt, bx⟩

theorem SiteAt.put4 {w : World} {x b : Nat} {rp : Option Addr} {A : List ByteArray} {G : ByteArray} {n : Nat} (h : SiteAt w x b rp A G n) (n' : Nat) : SiteAt (w.setCell ⟨x, 4, none⟩ (.int .i64 n')) x b rp A G n' := by
  have hk := h.setTK 4 (.int .i64 n')
  obtain ⟨hty, c0, c1, ⟨v, c2, hrow⟩, c3, c4, fz, lt, bx⟩ := h
  exact ⟨ty_set hty _, cell_set_ne c0 (by omega), cell_set_ne c1 (by omega), ⟨v, cell_set_ne c2 (by omega), hk.row x1_str hrow⟩, cell_set_ne c3 (by omega), World.cell?_setCell_same _ _ _ c4, fun o => by simp [fz o], by simpa [World.setCell] using lt, bx⟩

theorem SiteAt.first {w : World} {x b : Nat} {rp : Option Addr} {A : List ByteArray} {G : ByteArray} {n : Nat} (h : SiteAt w x b rp A G n) (hA : A ≠ []) : ∃ g cap, w.cell? ⟨x, 2, none⟩ = some (.slice (some ⟨g, 0, none⟩) A.length cap) ∧ StrsIn w g 0 A := by
  obtain ⟨v, c2, hrow⟩ := h.c2
  obtain ⟨_, ⟨rfl, h0⟩ | ⟨g, cap, cur, rfl, hb, hg, hc, _⟩⟩ := id hrow
  · exact absurd (List.length_eq_zero_iff.1 h0) hA
  · refine ⟨g, cap, c2, (hrow.lt g rfl).2, fun i hi => ?_⟩
    have := hrow.cells (g := g) rfl i (.string A[i]) (by simp [hi])
    rw [addr_add] at this
    rw [Nat.zero_add]
    exact this

/-- The device: with power all is flushed, and one of the texts is held; without, whatever of the late writes lasts, one of them. -/
def DevAt (w : World) (b : Nat) (A : List ByteArray) (l : Int) (d : Bool) : Prop :=
  ∃ S E U, ApiAt w b S E U l d ∧ l ≤ 9223372036854775807 ∧ U.length ≤ 13 ∧ (∀ x ∈ U, x.sec < 64 ∧ x.data.size = 32) ∧ (d = false → U = [] ∧ E = S ∧ held S ∈ A) ∧ (d = true → ∀ keep, held (updB keep S U U.length) ∈ A)

theorem DevAt.keep {T : TypeId → Prop} {w w' : World} {b : Nat} {A : List ByteArray} {l : Int} {d : Bool} (h : DevAt w b A l d) (hk : TK T w w') (h1 : ¬ T 114) (h2 : ¬ T 163) : DevAt w' b A l d := by
  obtain ⟨S, E, U, ha, h⟩ := h
  exact ⟨S, E, U, ha.keep hk h1 h2, h⟩

theorem DevAt.c4 {w : World} {b : Nat} {A : List ByteArray} {l : Int} {d : Bool} (h : DevAt w b A l d) : w.cell? ⟨b, 4098, none⟩ = some (.bool d) := by
  obtain ⟨S, E, U, ha, _⟩ := h
  exact ha.c4

theorem DevAt.lt {w : World} {b : Nat} {A : List ByteArray} {l : Int} {d : Bool} (h : DevAt w b A l d) : b < w.heap.size := by
  obtain ⟨S, E, U, ha, _⟩ := h
  exact ha.lt

/-- A rack with power: T lasts; n steps are left of the plan to t. -/
def RackI (Mj : HJ) (w : World) (r b : Nat) (T : ByteArray) (t : List Item) (n : Nat) : Prop :=
  ∃ l did left, RackAt Mj w r b l did left ∧ n = left.length ∧ did.length + left.length ≤ 48 ∧
    ((left = [] ∧ did = [] ∧ l.Perm (itemsOf T)) ∨ (0 < left.length ∧ ∃ l0, l0.Perm (itemsOf T) ∧ Way l0 l t did left ∧ did ++ left = mk l0 t))

theorem RackI.keep {Mj : HJ} {T : TypeId → Prop} {w w' : World} {r b : Nat} {s : ByteArray} {t : List Item} {n : Nat} (h : RackI Mj w r b s t n) (hk : TK T w w') (h1 : ¬ T 94) (h2 : ¬ T 73) (h3 : ¬ T 75) (h4 : NH T) : RackI Mj w' r b s t n := by
  obtain ⟨l, did, left, hR, h⟩ := h
  exact ⟨l, did, left, hR.keep hk h1 h2 h3 h4, h⟩

/-- What holds of a site between its steps. -/
structure Inv (Mj : HJ) (w : World) (x b : Nat) (A : List ByteArray) (G : ByteArray) (n : Nat) (rp : Option Nat) (l : Int) (d : Bool) (t : List Item) : Prop where
  site : SiteAt w x b (rp.map fun r => ⟨r, 0, none⟩) A G n
  dev : DevAt w b A l d
  canon : ∀ s ∈ A, Canon s
  ne : A ≠ []
  rack : (rp = none ∧ n = 0) ∨ ∃ r, rp = some r ∧ ((d = true ∧ DeadAt w r) ∨ (d = false ∧ ∃ T, A = [T] ∧ RackI Mj w r b T t n))
  goal : d = false → 0 < n → G = prI t ∧ ArrI t

/-- What a step of the site may change. -/
def XT (t : TypeId) : Prop := KT t ∨ X1 t ∨ t = 9

set_option maxRecDepth 100000 in
set_option maxHeartbeats 400000 in
theorem sconfig_any {Mj : HJ} (x b r : Nat) (A : List ByteArray) (G s : ByteArray) (n : Nat) (l : List Item) (did left : List (Bool × Item)) (w : World) (hl : Fits l) (hx : SiteAt w x b (some ⟨r, 0, none⟩) A G n) (h : RackAt Mj w r b l did left) :
    Calls Try.prog 11 #[.pointer (some ⟨x, 0, none⟩), .string s] w fun e w' => e = .returned (.bool (decide (prI l = s))) ∧ Below w.heap.size w w' := by
  have c1 := hx.c1
  have HC := hide (config_any r b l did left w hl h)
  clear h hx
  by_cases hs : prI l = s
  · have hs' : ((prI l).toList == s.toList) = true := by rw [hs]; simp
    rw [decide_eq_true hs]
    clear hs
    generalize prI l = T at *
    go_enter Try.func11, Try.ntmps11
    go_wp2_with fail
    refine (unhide HC).mono ?_
    rintro e w1 ⟨rfl, hb1⟩
    go_wp2
    go_ret
    exact ⟨rfl, hb1⟩
  · have hs' : ((prI l).toList == s.toList) = false := by
      rw [beq_eq_false_iff_ne]; exact fun e => hs (tl_inj e)
    rw [decide_eq_false hs]
    clear hs
    generalize prI l = T at *
    go_enter Try.func11, Try.ntmps11
    go_wp2_with fail
    refine (unhide HC).mono ?_
    rintro e w1 ⟨rfl, hb1⟩
    go_wp2
    go_ret
    exact ⟨rfl, hb1⟩

end Go.Proofs.Ytdlhgbhaeedbdab

/- 'Site.open'. -/
namespace Go.Proofs.Ytdlhgbhaeedbdab
open Go.RowKit

set_option maxRecDepth 100000 in
set_option maxHeartbeats 400000 in
theorem open_dead (b : Nat) (S E : Nat → UInt8) (U : List Lg) (l : Int) (w : World) (hl : l ≤ 9223372036854775807) (h : ApiAt w b S E U l true) :
    Calls Try.prog 33 #[.pointer (some ⟨b, 0, none⟩)] w fun e w' => OpenEnd b S E U l true w e w' := by
  have HL := hide (load_any b S E U l true w hl h)
  clear h
  go_enter Try.func33, Try.ntmps33
  go_wp2_with fail
  refine (unhide HL).mono ?_
  rintro e w1 ⟨l1, d1, ha1, hl1, hbe1, htk1, hlow1, hcase⟩
  have hkt1 : TK KT w w1 := tk_at htk1
  rcases hcase with ⟨rfl, rfl⟩ | ⟨_, h2, _⟩
  · clear HL
    go_wp2_with fail
    go_ret2
    exact ⟨_, _, ha1, hl1, hbe1, hkt1, fun h0 => ⟨(hlow1 h0).1, rfl⟩, .inl ⟨rfl, rfl⟩⟩
  · cases h2

theorem open_all (b : Nat) (S E : Nat → UInt8) (U : List Lg) (l : Int) (d : Bool) (w : World) (hl : l ≤ 9223372036854775807) (hE : d = false → (chk (held E)).1 = 0) (h : ApiAt w b S E U l d) :
    Calls Try.prog 33 #[.pointer (some ⟨b, 0, none⟩)] w fun e w' => OpenEnd b S E U l d w e w' := by
  cases d with
  | true => exact open_dead b S E U l w hl h
  | false => exact open_any b S E U l false w hl (hE rfl) h

/-- What 'open' leaves. -/
def SOpenEnd (x b : Nat) (A : List ByteArray) (G : ByteArray) (l : Int) (d : Bool) (w : World) (w' : World) : Prop :=
  ∃ l' d', (l < 0 → l' = l ∧ d' = d) ∧ Below b w w' ∧ ((d' = true ∧ ∀ t, Inv hj0 w' x b A G 0 none l' true t) ∨ (d' = false ∧ d = false ∧ ∃ r T, T ∈ A ∧ ∀ t, Inv hj0 w' x b [T] G 0 (some r) l' false t))

theorem str_new (w : World) (s : ByteArray) (b : Nat) (hb : b + 1 ≤ w.heap.size) : (w.alloc (.cells #[.string s] 9)).ownsRow (b + 1) 9 1 (.slice (some ⟨w.heap.size, 0, none⟩) 1 1) [s].length ([s].map Value.string) := by
  refine ⟨rfl, .inr ⟨w.heap.size, 1, #[.string s], rfl, hb, heap_alloc_last w _, Nat.le_refl _, by unfold maxLen; omega, rfl, rfl⟩⟩

set_option maxRecDepth 100000 in
set_option maxHeartbeats 800000 in
theorem sopen_any (x b : Nat) (rp : Option Addr) (A : List ByteArray) (G : ByteArray) (n : Nat) (l : Int) (d : Bool) (w : World) (hA : A.length ≤ 1000) (hne : A ≠ []) (hcan : ∀ s ∈ A, Canon s) (hx : SiteAt w x b rp A G n) (hd : DevAt w b A l d) :
    Calls Try.prog 14 #[.pointer (some ⟨x, 0, none⟩)] w fun e w' => e = .returned (.bool true) ∧ SOpenEnd x b A G l d w w' := by
  have hnot : ∀ (x : Bool) (w : World), (Op.unary .not (.bool x)).run Try.prog w = .ok (.bool (!x)) w := fun _ _ => rfl
  have c1 := hx.c1
  have c4 := hx.c4
  have c0 := hx.c0
  have hfz := hx.fz
  have hbx := hx.bx
  have hlx := hx.lt
  have hx1 := hx.put1 none
  have hx2 := hx1.put4 0
  have ht2 : TK X1 w _ := (hx.setTK 1 (.pointer none)).trans (hx1.setTK 4 (.int .i64 (0 : Nat)))
  have hb2 : Below b w _ := ((Below.refl b w).setCell (p := ⟨x, 1, none⟩) (Nat.le_of_lt hbx) (.pointer none)).setCell (p := ⟨x, 4, none⟩) (Nat.le_of_lt hbx) (.int .i64 (0 : Nat))
  have hd2 := hd.keep ht2 x1_dev x1_late
  obtain ⟨S, E, U, ha, hl, hU1, hU2, hal, hde⟩ := hd2
  have HO := hide (open_all b S E U l d _ hl (fun h0 => by
    obtain ⟨_, e, hm⟩ := hal h0
    rw [e]
    exact (hcan _ hm).1) ha)
  have Hx2 := hide hx2
  have Hal := hide hal
  have Hde := hide hde
  have Hcan := hide hcan
  clear hx hd hx1 hx2 hal hde hcan ha
  go_enter Try.func14, Try.ntmps14
  go_wp2_with fail
  refine (unhide HO).mono ?_
  rintro e w3 ⟨l', d', ha3, hl3, hbe3, htk3, hlow3, hcase⟩
  have hx3 := (unhide Hx2).keep htk3 kt_site kt_str
  have hbe03 := hb2.trans hbe3
  have c03 := hx3.c0
  have HD := hide (adead_any b d' w3 ha3.c4)
  clear HO Hx2 ht2 hb2 hbe3 htk3 c0 c1 c4 hfz
  rcases hcase with ⟨rfl, rfl⟩ | ⟨rfl, rfl, r, hr, rfl, hR⟩
  · go_wp2_with fail
    refine (unhide HD).mono ?_
    rintro e w4 ⟨rfl, rfl⟩
    go_wp2_with fail
    go_ret
    refine ⟨rfl, l', true, hlow3, hbe03, .inl ⟨rfl, fun t => ⟨hx3, ⟨S, E, U, ha3, hl3, hU1, hU2, (fun h => by cases h), fun _ keep => ?_⟩, unhide Hcan, hne, .inl ⟨rfl, rfl⟩, (fun h => by cases h)⟩⟩⟩
    cases d with
    | true => exact unhide Hde rfl keep
    | false =>
      obtain ⟨rfl, rfl, hm⟩ := unhide Hal rfl
      exact hm
  · obtain ⟨rfl, rfl, hm⟩ := unhide Hal rfl
    have hcT := unhide Hcan _ hm
    have hR0 := hR
    generalize hT : held E = T at *
    have HT := hide hT
    have HC := hide (config_any r b _ [] [] w3 hcT.arr.fits hR)
    rw [hcT.2] at HC
    have HR := hide hR
    have HcT := hide hcT
    have Hx3 := hide hx3
    clear hT hR hR0 hcT
    go_wp2_with fail
    refine (unhide HD).mono ?_
    rintro e w4 ⟨rfl, rfl⟩
    go_wp2_with fail
    refine (unhide HC).mono ?_
    rintro e w5 ⟨rfl, hb5⟩
    have hx5 := (unhide Hx3).later hb5
    have c15 := hx5.c1
    have hfz5 := hx5.fz
    have hx6 := hx5.put1 (some ⟨r, 0, none⟩)
    have ht6 := hx5.setTK 1 (.pointer (some ⟨r, 0, none⟩))
    obtain ⟨g, cap, c26, hin⟩ := hx6.first hne
    have HI := hide (in_any g cap A T _ (by omega) hin)
    have hinb : inB A T = true := inB_true.2 hm
    rw [hinb] at HI
    clear hinb hin
    have hb6 : Below b w5 _ := (Below.refl b w5).setCell (p := ⟨x, 1, none⟩) (Nat.le_of_lt hbx) (.pointer (some ⟨r, 0, none⟩))
    have hs6 : (w5.setCell ⟨x, 1, none⟩ (.pointer (some ⟨r, 0, none⟩))).heap.size = w5.heap.size := by simp [World.setCell]
    have hs5 := hb5.size
    have hlx5 := hx5.lt
    generalize hW6 : w5.setCell ⟨x, 1, none⟩ (.pointer (some ⟨r, 0, none⟩)) = w6 at *
    have hbn := below_new w6 (.cells #[.string T] 9)
    have hx7 := hx6.later hbn
    have hx8 := hx7.put2 (str_new w6 T b (by omega))
    have ht8 := hx7.setTK 2 (.slice (some ⟨w6.heap.size, 0, none⟩) 1 1)
    have htx : TK X1 w4 w6 := (TK.of_below hb5).trans ht6
    have htx8 : TK X1 w4 _ := (htx.trans (TK.of_below hbn)).trans ht8
    have hbe8 : Below b w _ := ((hbe03.trans (hb5.mono (show b ≤ w4.heap.size by have := (unhide Hx3).lt; omega))).trans (hb6.trans (hbn.mono (by omega)))).setCell (p := ⟨x, 2, none⟩) (Nat.le_of_lt hbx) (.slice (some ⟨w6.heap.size, 0, none⟩) 1 1)
    have hR8 := (unhide HR).keep htx8 x1_rack x1_item x1_step nh_x1
    have ha8 := ha3.keep htx8 x1_dev x1_late
    have Hx8 := hide hx8
    have HR8 := hide hR8
    have Ha8 := hide ha8
    have Hbe8 := hide hbe8
    have hfz6 := hx6.fz
    have c26' : (w6.alloc (.cells #[.string T] 9)).cell? ⟨x, 2, none⟩ = some (.slice (some ⟨g, 0, none⟩) A.length cap) := by rw [World.cell?_alloc_some _ _ _ (by rw [c26]; rfl), c26]
    have hlt6 : x < w6.heap.size := by omega
    have e8 := World.setCell_alloc_past (w := w6) (.cells #[.string T] 9) x 2 (.slice (some ⟨w6.heap.size, 0, none⟩) 1 1) hlt6
    rw [e8, hs6] at Hx8 HR8 Ha8 Hbe8
    subst hW6
    clear e8 hx5 hx6 hx7 hx8 hR8 ha8 hbe8 htx8 htx ht8 ht6 Hx3 hx3 ha3 hbn hb6 HR HD HC
    go_wp2_with (go_at_call 34; refine (unhide HI).mono ?_; rintro e w7 ⟨rfl, rfl⟩)
    go_ret
    have hx9 := unhide Hx8
    have hR9 := unhide HR8
    have ha9 := unhide Ha8
    refine ⟨rfl, l', false, fun h0 => ⟨(hlow3 h0).1, rfl⟩, unhide Hbe8, .inr ⟨rfl, rfl, r, T, hm, fun t => ⟨hx9, ⟨E, E, [], ha9, hl3, by simp, by simp, fun _ => ⟨rfl, rfl, ?_⟩, (fun h => by cases h)⟩, ?_, by simp, ?_, fun _ h => absurd h (by omega)⟩⟩⟩
    · rw [unhide HT]; simp
    · intro s hs
      simp only [List.mem_singleton] at hs
      subst hs
      exact unhide HcT
    · exact .inr ⟨r, rfl, .inr ⟨rfl, T, rfl, _, [], [], hR9, rfl, by simp, .inl ⟨rfl, rfl, List.Perm.refl _⟩⟩⟩

end Go.Proofs.Ytdlhgbhaeedbdab
