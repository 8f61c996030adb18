/- The document's answer: 'named'. -/
import Derived.Test.YtdlhgbhaeedbdaaGreatRef8
import Derived.Deep.RegionHeld3
namespace Go.Proofs.YtdlhgbhaeedbdaaGreat
open Go.RowKit

/-- v is a list of the texts l. -/
def RAt (w : World) (v : Value) (l : List ByteArray) : Prop :=
  (v = .slice none 0 0 ∧ l = []) ∨ ∃ g cap, v = .slice (some ⟨g, 0, none⟩) l.length cap ∧ l.length ≤ cap ∧ RStrs w g 0 l

theorem RAt.later {w w' : World} {v : Value} {l : List ByteArray} (h : RAt w v l) (hb : Below w.heap.size w w') : RAt w' v l := by
  rcases h with h | ⟨g, cap, h1, h2, h3⟩
  · exact Or.inl h
  · exact Or.inr ⟨g, cap, h1, h2, h3.later hb⟩

/-- The keys of what an item names, as texts. -/
def namedT (x : It) : List (List UInt8) :=
  if x.kind = 2 then [[116, 97, 114, 103, 101, 116, 32] ++ x.a ++ [32], [100, 105, 115, 107, 32] ++ x.b ++ [32]]
  else if x.kind = 3 then [[116, 97, 114, 103, 101, 116, 32] ++ x.a ++ [32]]
  else if x.kind = 4 then [[104, 111, 115, 116, 32] ++ x.a ++ [32] ++ x.b ++ [32], [108, 117, 110, 32] ++ x.a ++ [32] ++ [dg x.m] ++ [32]]
  else []

theorem rat_two (w : World) (x y : ByteArray) : RAt (w.alloc (.cells #[.string x, .string y] 9)) (.slice (some ⟨w.heap.size, 0, none⟩) 2 2) [x, y] := by
  refine Or.inr ⟨_, _, rfl, by simp, by simp, ?_⟩
  intro i hi
  match i, hi with
  | 0, _ => go_simp
  | 1, _ => go_simp
theorem rat_one (w : World) (x : ByteArray) : RAt (w.alloc (.cells #[.string x] 9)) (.slice (some ⟨w.heap.size, 0, none⟩) 1 1) [x] := by
  refine Or.inr ⟨_, _, rfl, by simp, by simp, ?_⟩
  intro i hi
  match i, hi with
  | 0, _ => go_simp
theorem RAt.drew {w : World} {v : Value} {l : List ByteArray} (h : RAt w v l) : RAt w.drew v l := h

set_option maxRecDepth 100000 in
set_option maxHeartbeats 400000 in
theorem rnamed_any (x : It) (hx : x.ok) (hs : (bodyOf x).size ≤ 100000) (w : World) :
    Calls Tryz.prog 90 #[.string (bodyOf x)] w fun e w' => ∃ v, e = .returned v ∧ RAt w' v ((namedT x).map mkS) ∧ Below w.heap.size w w' := by
  have hc := rcut_any (bodyOf x) 32 w (by omega)
  have hk : (x.kind = 0 ∨ x.kind = 1) ∨ x.kind = 2 ∨ x.kind = 3 ∨ x.kind = 4 := by have := kind_le hx; omega
  have hal : x.a.length ≤ 4 := hx.1.2.1
  rcases hk with hk | hk | hk | hk
  · have hn : (namedT x).map mkS = [] := by rcases hk with hk | hk <;> simp [namedT, hk]
    have hkd : ∀ wx, Calls Tryz.prog 97 #[.string (bodyOf x)] wx fun e w' => e = .returned (.int .i64 (x.kind : Nat)) ∧ Below wx.heap.size wx w' := fun wx => rkind_any x hx (by omega) wx
    rw [hn]
    have n2 : ((x.kind : Int) == 2) = false := bf (by omega)
    have n3 : ((x.kind : Int) == 3) = false := bf (by omega)
    have n4 : ((x.kind : Int) == 4) = false := bf (by omega)
    have Hkd := hide hkd
    clear hkd hn
    generalize x.kind = kk at *
    go_enter Tryz.func90, Tryz.ntmps90
    go_wp2_with fail
    refine hc.mono ?_
    rintro e w1 ⟨v, rfl, hown, hb1⟩
    go_wp2_with fail
    refine (unhide Hkd _).mono ?_
    rintro e w2 ⟨rfl, hb2⟩
    go_wp2
    go_ret
    exact ⟨_, rfl, Or.inl ⟨rfl, rfl⟩, hb1.trans (hb2.mono hb1.size)⟩
  · have hkd : ∀ wx, Calls Tryz.prog 97 #[.string (bodyOf x)] wx fun e w' => e = .returned (.int .i64 2) ∧ Below wx.heap.size wx w' := fun wx => by
      have := rkind_any x hx (by omega) wx; rw [hk] at this; exact this
    have hbl : x.b.length ≤ 4 := by rcases hx with ⟨_, ⟨e, _⟩ | ⟨e, _⟩ | ⟨_, q, _⟩ | ⟨e, _⟩ | ⟨e, _⟩⟩ <;> first | omega | exact q.2.1
    have hn : (namedT x).map mkS = [⟨#[116, 97, 114, 103, 101, 116, 32]⟩ ++ mkS x.a ++ ⟨#[32]⟩, ⟨#[100, 105, 115, 107, 32]⟩ ++ mkS x.b ++ ⟨#[32]⟩] := by
      simp only [namedT, hk, if_true, List.map_cons, List.map_nil]
      rw [show (⟨#[116, 97, 114, 103, 101, 116, 32]⟩ : ByteArray) = mkS [116, 97, 114, 103, 101, 116, 32] from rfl, show (⟨#[100, 105, 115, 107, 32]⟩ : ByteArray) = mkS [100, 105, 115, 107, 32] from rfl, sp_mk, mkS_app, mkS_app, mkS_app, mkS_app]
    have Hn := hide hn
    have Hkd := hide hkd
    have hw1 : words x = [[108, 117, 110], x.a, [dg x.n], x.b, [114, md x.m]] := by simp [words, winit, wlast, hk]
    clear hkd hn
    have sa : (mkS x.a).size ≤ 4 := by rw [mkS_size]; exact hal
    have sb : (mkS x.b).size ≤ 4 := by rw [mkS_size]; exact hbl
    go_enter Tryz.func90, Tryz.ntmps90
    go_wp2_with fail
    refine hc.mono ?_
    rintro e w1 ⟨v, rfl, hown, hb1⟩
    obtain ⟨g, cap, rfl, hg, hg1, hcell⟩ := words_cells hx hown
    have q1 := hcell 1 (by rw [hw1]; simp)
    have q3 := hcell 3 (by rw [hw1]; simp)
    simp only [hw1, List.getElem_cons_succ, List.getElem_cons_zero] at q1 q3
    rw [show (words x).length = 5 from by rw [hw1]; rfl]
    clear hown hcell hw1
    generalize mkS x.a = A at *
    generalize mkS x.b = B at *
    go_wp2_with fail
    refine (unhide Hkd _).mono ?_
    rintro e w2 ⟨rfl, hb2⟩
    have d1 := (hb2.cell (p := ⟨g, 1, none⟩) hg1).trans q1
    have d3 := (hb2.cell (p := ⟨g, 3, none⟩) hg1).trans q3
    clear q1 q3
    have y0 : ¬ (9223372036854775807 < 7 + A.size) := by omega
    have y1 : ¬ (9223372036854775807 < 7 + A.size + 1) := by omega
    have y2 : ¬ (9223372036854775807 < 5 + B.size) := by omega
    have y3 : ¬ (9223372036854775807 < 5 + B.size + 1) := by omega
    clear sa sb
    go_wp2_with fail
    go_region_held3 (fun w' => w'.cell? ⟨g, 1, none⟩ = some (.string A) ∧ w'.cell? ⟨g, 3, none⟩ = some (.string B)) (go_keep) (fail)
    all_goals
      go_wp2
      go_ret
      have hB := (hb1.trans (hb2.mono hb1.size))
      refine ⟨_, rfl, ?_, (hB.drew).alloc hB.size _⟩
      rw [unhide Hn]
      exact rat_two _ _ _
  · have hkd : ∀ wx, Calls Tryz.prog 97 #[.string (bodyOf x)] wx fun e w' => e = .returned (.int .i64 3) ∧ Below wx.heap.size wx w' := fun wx => by
      have := rkind_any x hx (by omega) wx; rw [hk] at this; exact this
    have hn : (namedT x).map mkS = [⟨#[116, 97, 114, 103, 101, 116, 32]⟩ ++ mkS x.a ++ ⟨#[32]⟩] := by
      rw [show (⟨#[116, 97, 114, 103, 101, 116, 32]⟩ : ByteArray) = mkS [116, 97, 114, 103, 101, 116, 32] from rfl, sp_mk, mkS_app, mkS_app]
      simp [namedT, hk]
    have Hn := hide hn
    have Hkd := hide hkd
    have hw1 : words x = [[104, 111, 115, 116], x.a, x.b] := by simp [words, winit, wlast, hk]
    clear hkd hn
    have sa : (mkS x.a).size ≤ 4 := by rw [mkS_size]; exact hal
    go_enter Tryz.func90, Tryz.ntmps90
    go_wp2_with fail
    refine hc.mono ?_
    rintro e w1 ⟨v, rfl, hown, hb1⟩
    obtain ⟨g, cap, rfl, hg, hg1, hcell⟩ := words_cells hx hown
    have q1 := hcell 1 (by rw [hw1]; simp)
    simp only [hw1, List.getElem_cons_succ, List.getElem_cons_zero] at q1
    rw [show (words x).length = 3 from by rw [hw1]; rfl]
    clear hown hcell hw1
    generalize mkS x.a = A at *
    go_wp2_with fail
    refine (unhide Hkd _).mono ?_
    rintro e w2 ⟨rfl, hb2⟩
    have d1 := (hb2.cell (p := ⟨g, 1, none⟩) hg1).trans q1
    clear q1
    have z1 : (A.size : Int) ≤ 4 := by omega
    go_wp2
    go_ret
    have hB := (hb1.trans (hb2.mono hb1.size))
    refine ⟨_, rfl, ?_, hB.alloc hB.size _⟩
    rw [unhide Hn]
    exact rat_one _ _
  · have hkd : ∀ wx, Calls Tryz.prog 97 #[.string (bodyOf x)] wx fun e w' => e = .returned (.int .i64 4) ∧ Below wx.heap.size wx w' := fun wx => by
      have := rkind_any x hx (by omega) wx; rw [hk] at this; exact this
    have hbl : x.b.length ≤ 4 := by rcases hx with ⟨_, ⟨e, _⟩ | ⟨e, _⟩ | ⟨e, _⟩ | ⟨e, _⟩ | ⟨_, q, _⟩⟩ <;> first | omega | exact q.2.1
    have hn : (namedT x).map mkS = [⟨#[104, 111, 115, 116, 32]⟩ ++ mkS x.a ++ ⟨#[32]⟩ ++ mkS x.b ++ ⟨#[32]⟩, ⟨#[108, 117, 110, 32]⟩ ++ mkS x.a ++ ⟨#[32]⟩ ++ mkS [dg x.m] ++ ⟨#[32]⟩] := by
      rw [show (⟨#[104, 111, 115, 116, 32]⟩ : ByteArray) = mkS [104, 111, 115, 116, 32] from rfl, show (⟨#[108, 117, 110, 32]⟩ : ByteArray) = mkS [108, 117, 110, 32] from rfl, sp_mk]
      simp only [mkS_app]
      simp [namedT, hk]
    have Hn := hide hn
    have Hkd := hide hkd
    have hw1 : words x = [[109, 97, 112], x.a, x.b, [dg x.n], [dg x.m]] := by simp [words, winit, wlast, hk]
    clear hkd hn
    have sa : (mkS x.a).size ≤ 4 := by rw [mkS_size]; exact hal
    have sb : (mkS x.b).size ≤ 4 := by rw [mkS_size]; exact hbl
    have sc : (mkS [dg x.m]).size ≤ 4 := by rw [mkS_size]; simp
    go_enter Tryz.func90, Tryz.ntmps90
    go_wp2_with fail
    refine hc.mono ?_
    rintro e w1 ⟨v, rfl, hown, hb1⟩
    obtain ⟨g, cap, rfl, hg, hg1, hcell⟩ := words_cells hx hown
    have q1 := hcell 1 (by rw [hw1]; simp)
    have q2 := hcell 2 (by rw [hw1]; simp)
    have q4 := hcell 4 (by rw [hw1]; simp)
    simp only [hw1, List.getElem_cons_succ, List.getElem_cons_zero] at q1 q2 q4
    rw [show (words x).length = 5 from by rw [hw1]; rfl]
    clear hown hcell hw1
    generalize mkS x.a = A at *
    generalize mkS x.b = B at *
    generalize mkS [dg x.m] = C at *
    go_wp2_with fail
    refine (unhide Hkd _).mono ?_
    rintro e w2 ⟨rfl, hb2⟩
    have d1 := (hb2.cell (p := ⟨g, 1, none⟩) hg1).trans q1
    have d2 := (hb2.cell (p := ⟨g, 2, none⟩) hg1).trans q2
    have d4 := (hb2.cell (p := ⟨g, 4, none⟩) hg1).trans q4
    clear q1 q2 q4
    have y0 : ¬ (9223372036854775807 < 5 + A.size) := by omega
    have y1 : ¬ (9223372036854775807 < 5 + A.size + 1) := by omega
    have y2 : ¬ (9223372036854775807 < 5 + A.size + 1 + B.size) := by omega
    have y3 : ¬ (9223372036854775807 < 5 + A.size + 1 + B.size + 1) := by omega
    have y4 : ¬ (9223372036854775807 < 4 + A.size) := by omega
    have y5 : ¬ (9223372036854775807 < 4 + A.size + 1) := by omega
    have y6 : ¬ (9223372036854775807 < 4 + A.size + 1 + C.size) := by omega
    have y7 : ¬ (9223372036854775807 < 4 + A.size + 1 + C.size + 1) := by omega
    clear sa sb sc
    go_wp2_with fail
    go_region_held3 (fun w' => w'.cell? ⟨g, 1, none⟩ = some (.string A) ∧ w'.cell? ⟨g, 2, none⟩ = some (.string B) ∧ w'.cell? ⟨g, 4, none⟩ = some (.string C)) (go_keep) (fail)
    all_goals
      go_wp2
      go_ret
      have hB := (hb1.trans (hb2.mono hb1.size))
      refine ⟨_, rfl, ?_, (hB.drew).alloc hB.size _⟩
      rw [unhide Hn]
      exact rat_two _ _ _

end Go.Proofs.YtdlhgbhaeedbdaaGreat
