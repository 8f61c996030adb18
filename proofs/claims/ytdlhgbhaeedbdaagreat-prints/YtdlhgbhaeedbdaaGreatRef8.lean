/- The document's answer: 'key'. (Laid by mkref8.py.) -/
import Derived.Test.YtdlhgbhaeedbdaaGreatRef7
namespace Go.Proofs.YtdlhgbhaeedbdaaGreat
open Go.RowKit

/-- How many words make the key. -/
def kn (x : It) : Nat := if x.kind = 0 then 2 else if x.kind = 1 then 2 else if x.kind = 2 then 3 else if x.kind = 3 then 3 else 4
/-- An item's key, as a text. -/
def keyT (x : It) : List UInt8 := segs 32 ((words x).take (kn x))

theorem mkS_app (a b : List UInt8) : mkS a ++ mkS b = mkS (a ++ b) := by
  apply ByteArray.ext
  apply Array.toList_inj.1
  simp [mkS]
theorem mkS_size (a : List UInt8) : (mkS a).size = a.length := by simp [mkS, ByteArray.size]
theorem sp_mk : (⟨#[32]⟩ : ByteArray) = mkS [32] := rfl

theorem segs_le (c : UInt8) (l : List (List UInt8)) (k : Nat) : (segs c (l.take k)).length ≤ (segs c l).length := by
  have : segs c l = segs c (l.take k) ++ segs c (l.drop k) := by rw [segs, segs, segs, ← List.flatMap_append, List.take_append_drop]
  rw [this]; simp
theorem segs_snoc (c : UInt8) (l : List (List UInt8)) (x : List UInt8) : segs c (l ++ [x]) = segs c l ++ (x ++ [c]) := by simp [segs]

theorem words_cells {x : It} (hx : x.ok) {w w1 : World} {v : Value} (hown : w1.ownsRow w.heap.size 9 1 v (cutS (bodyOf x) 32).length (strsV (cutS (bodyOf x) 32))) :
    ∃ g cap, v = .slice (some ⟨g, 0, none⟩) (words x).length cap ∧ w.heap.size ≤ g ∧ g < w1.heap.size ∧ ∀ i (h : i < (words x).length), w1.cell? ⟨g, i, none⟩ = some (.string (mkS ((words x)[i]))) := by
  rw [cut_body hx] at hown
  obtain ⟨g, cap, hv, hcap, hg, hst⟩ := rstrs_of_owns hown (by unfold words; simp)
  rw [List.length_map] at hv
  refine ⟨g, cap, hv, hg, hst.1, fun i h => ?_⟩
  have := hst.2 i (by simpa using h)
  rw [Nat.zero_add, List.getElem_map] at this
  exact this

theorem body_total {x : It} (hx : x.ok) : (segs 32 (words x)).length = x.body.length + 1 := by
  rw [body_words hx, words, segs_snoc]
  simp
  omega

set_option maxRecDepth 100000 in
set_option maxHeartbeats 400000 in
theorem rkey_0 (x : It) (hx : x.ok) (hk : x.kind = 0) (hs : (bodyOf x).size ≤ 100000) (w : World) :
    Calls Tryz.prog 89 #[.string (bodyOf x)] w fun e w' => e = .returned (.string (mkS (keyT x))) ∧ Below w.heap.size w w' := by
  have hc := rcut_any (bodyOf x) 32 w (by omega)
  have hkd : ∀ wx, Calls Tryz.prog 97 #[.string (bodyOf x)] wx fun e w' => e = .returned (.int .i64 0) ∧ Below wx.heap.size wx w' := fun wx => by
    have := rkind_any x hx (by omega) wx; rw [hk] at this; exact this
  have hkt : keyT x = segs 32 ((words x).take 2) := by simp [keyT, kn, hk]
  have hwl : (words x).length = 3 := by simp [words, winit, hk]
  have htot : (segs 32 (words x)).length ≤ 100001 := by
    rw [body_total hx]
    have : (bodyOf x).size = x.body.length := mkS_size _
    omega
  have Hkd := hide hkd
  have Hkt := hide hkt
  clear hkd hkt
  go_enter Tryz.func89, Tryz.ntmps89
  go_wp2_with fail
  refine hc.mono ?_
  rintro e w1 ⟨v, rfl, hown, hb1⟩
  obtain ⟨g, cap, rfl, hg, hg1, hcell⟩ := words_cells hx hown
  have Hwl := hide hwl
  have Hcell := hide hcell
  rw [hwl]
  clear hown hwl hcell hc
  go_wp2_with fail
  refine (unhide Hkd _).mono ?_
  rintro e w2 ⟨rfl, hb2⟩
  have hB : Below w.heap.size w w2 := hb1.trans (hb2.mono hb1.size)
  go_wp2_with fail
  go_loop [6, 7] (fun t i => ∃ j : Nat, j ≤ 2 ∧ i = .int .i64 (j : Nat) ∧ t = .string (mkS (segs 32 ((words x).take j)))) (fun _ i => 2 - (intOf i).toNat)
  case atStart => exact ⟨0, by omega, rfl, rfl⟩
  case round =>
    obtain ⟨j, hj, rfl, rfl⟩ := hrel
    by_cases hlt : j < 2
    · have hjw : j < (words x).length := by rw [unhide Hwl]; omega
      have hcj := (hb2.cell (p := ⟨g, j, none⟩) hg1).trans (unhide Hcell j hjw)
      have hlt1 : (j : Int) < 2 := by omega
      have hlt2 : (j : Int) < 3 := by omega
      have hst : segs 32 ((words x).take (j + 1)) = segs 32 ((words x).take j) ++ ((words x)[j] ++ [32]) := by rw [List.take_succ_eq_append_getElem hjw, segs_snoc]
      have hz := segs_le 32 (words x) (j + 1)
      rw [hst] at hz
      simp only [List.length_append, List.length_singleton] at hz
      have Hst : Hid (mkS (segs 32 ((words x).take (j + 1))) = mkS (segs 32 ((words x).take j)) ++ mkS (words x)[j] ++ ⟨#[32]⟩) := hide <| by
        rw [hst, sp_mk, mkS_app, mkS_app, List.append_assoc]
      have hz1 : (mkS (segs 32 ((words x).take j))).size + (mkS (words x)[j]).size + 1 ≤ 100001 := by rw [mkS_size, mkS_size]; omega
      clear hst hz htot
      generalize mkS (segs 32 ((words x).take j)) = A at *
      generalize mkS (words x)[j] = B at *
      have hz2 : (A.size : Int) + (B.size : Int) + 1 ≤ 100001 := by omega
      have hz3 : (A.size : Int) + (B.size : Int) ≤ 100001 := by omega
      go_wp2
      go_round
      case rel => exact ⟨j + 1, by omega, by go_num, by rw [unhide Hst]⟩
      case measure => simp [intOf]; omega
    · have hjn : j = 2 := by omega
      have hlt1 : ¬ (j : Int) < 2 := by omega
      rw [hjn, ← unhide Hkt]
      subst hjn
      go_wp2
      go_ret
      exact ⟨rfl, hB⟩

set_option maxRecDepth 100000 in
set_option maxHeartbeats 400000 in
theorem rkey_1 (x : It) (hx : x.ok) (hk : x.kind = 1) (hs : (bodyOf x).size ≤ 100000) (w : World) :
    Calls Tryz.prog 89 #[.string (bodyOf x)] w fun e w' => e = .returned (.string (mkS (keyT x))) ∧ Below w.heap.size w w' := by
  have hc := rcut_any (bodyOf x) 32 w (by omega)
  have hkd : ∀ wx, Calls Tryz.prog 97 #[.string (bodyOf x)] wx fun e w' => e = .returned (.int .i64 1) ∧ Below wx.heap.size wx w' := fun wx => by
    have := rkind_any x hx (by omega) wx; rw [hk] at this; exact this
  have hkt : keyT x = segs 32 ((words x).take 2) := by simp [keyT, kn, hk]
  have hwl : (words x).length = 2 := by simp [words, winit, hk]
  have htot : (segs 32 (words x)).length ≤ 100001 := by
    rw [body_total hx]
    have : (bodyOf x).size = x.body.length := mkS_size _
    omega
  have Hkd := hide hkd
  have Hkt := hide hkt
  clear hkd hkt
  go_enter Tryz.func89, Tryz.ntmps89
  go_wp2_with fail
  refine hc.mono ?_
  rintro e w1 ⟨v, rfl, hown, hb1⟩
  obtain ⟨g, cap, rfl, hg, hg1, hcell⟩ := words_cells hx hown
  have Hwl := hide hwl
  have Hcell := hide hcell
  rw [hwl]
  clear hown hwl hcell hc
  go_wp2_with fail
  refine (unhide Hkd _).mono ?_
  rintro e w2 ⟨rfl, hb2⟩
  have hB : Below w.heap.size w w2 := hb1.trans (hb2.mono hb1.size)
  go_wp2_with fail
  go_loop [6, 7] (fun t i => ∃ j : Nat, j ≤ 2 ∧ i = .int .i64 (j : Nat) ∧ t = .string (mkS (segs 32 ((words x).take j)))) (fun _ i => 2 - (intOf i).toNat)
  case atStart => exact ⟨0, by omega, rfl, rfl⟩
  case round =>
    obtain ⟨j, hj, rfl, rfl⟩ := hrel
    by_cases hlt : j < 2
    · have hjw : j < (words x).length := by rw [unhide Hwl]; omega
      have hcj := (hb2.cell (p := ⟨g, j, none⟩) hg1).trans (unhide Hcell j hjw)
      have hlt1 : (j : Int) < 2 := by omega
      have hlt2 : (j : Int) < 2 := by omega
      have hst : segs 32 ((words x).take (j + 1)) = segs 32 ((words x).take j) ++ ((words x)[j] ++ [32]) := by rw [List.take_succ_eq_append_getElem hjw, segs_snoc]
      have hz := segs_le 32 (words x) (j + 1)
      rw [hst] at hz
      simp only [List.length_append, List.length_singleton] at hz
      have Hst : Hid (mkS (segs 32 ((words x).take (j + 1))) = mkS (segs 32 ((words x).take j)) ++ mkS (words x)[j] ++ ⟨#[32]⟩) := hide <| by
        rw [hst, sp_mk, mkS_app, mkS_app, List.append_assoc]
      have hz1 : (mkS (segs 32 ((words x).take j))).size + (mkS (words x)[j]).size + 1 ≤ 100001 := by rw [mkS_size, mkS_size]; omega
      clear hst hz htot
      generalize mkS (segs 32 ((words x).take j)) = A at *
      generalize mkS (words x)[j] = B at *
      have hz2 : (A.size : Int) + (B.size : Int) + 1 ≤ 100001 := by omega
      have hz3 : (A.size : Int) + (B.size : Int) ≤ 100001 := by omega
      go_wp2
      go_round
      case rel => exact ⟨j + 1, by omega, by go_num, by rw [unhide Hst]⟩
      case measure => simp [intOf]; omega
    · have hjn : j = 2 := by omega
      have hlt1 : ¬ (j : Int) < 2 := by omega
      rw [hjn, ← unhide Hkt]
      subst hjn
      go_wp2
      go_ret
      exact ⟨rfl, hB⟩

set_option maxRecDepth 100000 in
set_option maxHeartbeats 400000 in
theorem rkey_2 (x : It) (hx : x.ok) (hk : x.kind = 2) (hs : (bodyOf x).size ≤ 100000) (w : World) :
    Calls Tryz.prog 89 #[.string (bodyOf x)] w fun e w' => e = .returned (.string (mkS (keyT x))) ∧ Below w.heap.size w w' := by
  have hc := rcut_any (bodyOf x) 32 w (by omega)
  have hkd : ∀ wx, Calls Tryz.prog 97 #[.string (bodyOf x)] wx fun e w' => e = .returned (.int .i64 2) ∧ Below wx.heap.size wx w' := fun wx => by
    have := rkind_any x hx (by omega) wx; rw [hk] at this; exact this
  have hkt : keyT x = segs 32 ((words x).take 3) := by simp [keyT, kn, hk]
  have hwl : (words x).length = 5 := by simp [words, winit, hk]
  have htot : (segs 32 (words x)).length ≤ 100001 := by
    rw [body_total hx]
    have : (bodyOf x).size = x.body.length := mkS_size _
    omega
  have Hkd := hide hkd
  have Hkt := hide hkt
  clear hkd hkt
  go_enter Tryz.func89, Tryz.ntmps89
  go_wp2_with fail
  refine hc.mono ?_
  rintro e w1 ⟨v, rfl, hown, hb1⟩
  obtain ⟨g, cap, rfl, hg, hg1, hcell⟩ := words_cells hx hown
  have Hwl := hide hwl
  have Hcell := hide hcell
  rw [hwl]
  clear hown hwl hcell hc
  go_wp2_with fail
  refine (unhide Hkd _).mono ?_
  rintro e w2 ⟨rfl, hb2⟩
  have hB : Below w.heap.size w w2 := hb1.trans (hb2.mono hb1.size)
  go_wp2_with fail
  go_loop [6, 7] (fun t i => ∃ j : Nat, j ≤ 3 ∧ i = .int .i64 (j : Nat) ∧ t = .string (mkS (segs 32 ((words x).take j)))) (fun _ i => 3 - (intOf i).toNat)
  case atStart => exact ⟨0, by omega, rfl, rfl⟩
  case round =>
    obtain ⟨j, hj, rfl, rfl⟩ := hrel
    by_cases hlt : j < 3
    · have hjw : j < (words x).length := by rw [unhide Hwl]; omega
      have hcj := (hb2.cell (p := ⟨g, j, none⟩) hg1).trans (unhide Hcell j hjw)
      have hlt1 : (j : Int) < 3 := by omega
      have hlt2 : (j : Int) < 5 := by omega
      have hst : segs 32 ((words x).take (j + 1)) = segs 32 ((words x).take j) ++ ((words x)[j] ++ [32]) := by rw [List.take_succ_eq_append_getElem hjw, segs_snoc]
      have hz := segs_le 32 (words x) (j + 1)
      rw [hst] at hz
      simp only [List.length_append, List.length_singleton] at hz
      have Hst : Hid (mkS (segs 32 ((words x).take (j + 1))) = mkS (segs 32 ((words x).take j)) ++ mkS (words x)[j] ++ ⟨#[32]⟩) := hide <| by
        rw [hst, sp_mk, mkS_app, mkS_app, List.append_assoc]
      have hz1 : (mkS (segs 32 ((words x).take j))).size + (mkS (words x)[j]).size + 1 ≤ 100001 := by rw [mkS_size, mkS_size]; omega
      clear hst hz htot
      generalize mkS (segs 32 ((words x).take j)) = A at *
      generalize mkS (words x)[j] = B at *
      have hz2 : (A.size : Int) + (B.size : Int) + 1 ≤ 100001 := by omega
      have hz3 : (A.size : Int) + (B.size : Int) ≤ 100001 := by omega
      go_wp2
      go_round
      case rel => exact ⟨j + 1, by omega, by go_num, by rw [unhide Hst]⟩
      case measure => simp [intOf]; omega
    · have hjn : j = 3 := by omega
      have hlt1 : ¬ (j : Int) < 3 := by omega
      rw [hjn, ← unhide Hkt]
      subst hjn
      go_wp2
      go_ret
      exact ⟨rfl, hB⟩

set_option maxRecDepth 100000 in
set_option maxHeartbeats 400000 in
theorem rkey_3 (x : It) (hx : x.ok) (hk : x.kind = 3) (hs : (bodyOf x).size ≤ 100000) (w : World) :
    Calls Tryz.prog 89 #[.string (bodyOf x)] w fun e w' => e = .returned (.string (mkS (keyT x))) ∧ Below w.heap.size w w' := by
  have hc := rcut_any (bodyOf x) 32 w (by omega)
  have hkd : ∀ wx, Calls Tryz.prog 97 #[.string (bodyOf x)] wx fun e w' => e = .returned (.int .i64 3) ∧ Below wx.heap.size wx w' := fun wx => by
    have := rkind_any x hx (by omega) wx; rw [hk] at this; exact this
  have hkt : keyT x = segs 32 ((words x).take 3) := by simp [keyT, kn, hk]
  have hwl : (words x).length = 3 := by simp [words, winit, hk]
  have htot : (segs 32 (words x)).length ≤ 100001 := by
    rw [body_total hx]
    have : (bodyOf x).size = x.body.length := mkS_size _
    omega
  have Hkd := hide hkd
  have Hkt := hide hkt
  clear hkd hkt
  go_enter Tryz.func89, Tryz.ntmps89
  go_wp2_with fail
  refine hc.mono ?_
  rintro e w1 ⟨v, rfl, hown, hb1⟩
  obtain ⟨g, cap, rfl, hg, hg1, hcell⟩ := words_cells hx hown
  have Hwl := hide hwl
  have Hcell := hide hcell
  rw [hwl]
  clear hown hwl hcell hc
  go_wp2_with fail
  refine (unhide Hkd _).mono ?_
  rintro e w2 ⟨rfl, hb2⟩
  have hB : Below w.heap.size w w2 := hb1.trans (hb2.mono hb1.size)
  go_wp2_with fail
  go_loop [6, 7] (fun t i => ∃ j : Nat, j ≤ 3 ∧ i = .int .i64 (j : Nat) ∧ t = .string (mkS (segs 32 ((words x).take j)))) (fun _ i => 3 - (intOf i).toNat)
  case atStart => exact ⟨0, by omega, rfl, rfl⟩
  case round =>
    obtain ⟨j, hj, rfl, rfl⟩ := hrel
    by_cases hlt : j < 3
    · have hjw : j < (words x).length := by rw [unhide Hwl]; omega
      have hcj := (hb2.cell (p := ⟨g, j, none⟩) hg1).trans (unhide Hcell j hjw)
      have hlt1 : (j : Int) < 3 := by omega
      have hlt2 : (j : Int) < 3 := by omega
      have hst : segs 32 ((words x).take (j + 1)) = segs 32 ((words x).take j) ++ ((words x)[j] ++ [32]) := by rw [List.take_succ_eq_append_getElem hjw, segs_snoc]
      have hz := segs_le 32 (words x) (j + 1)
      rw [hst] at hz
      simp only [List.length_append, List.length_singleton] at hz
      have Hst : Hid (mkS (segs 32 ((words x).take (j + 1))) = mkS (segs 32 ((words x).take j)) ++ mkS (words x)[j] ++ ⟨#[32]⟩) := hide <| by
        rw [hst, sp_mk, mkS_app, mkS_app, List.append_assoc]
      have hz1 : (mkS (segs 32 ((words x).take j))).size + (mkS (words x)[j]).size + 1 ≤ 100001 := by rw [mkS_size, mkS_size]; omega
      clear hst hz htot
      generalize mkS (segs 32 ((words x).take j)) = A at *
      generalize mkS (words x)[j] = B at *
      have hz2 : (A.size : Int) + (B.size : Int) + 1 ≤ 100001 := by omega
      have hz3 : (A.size : Int) + (B.size : Int) ≤ 100001 := by omega
      go_wp2
      go_round
      case rel => exact ⟨j + 1, by omega, by go_num, by rw [unhide Hst]⟩
      case measure => simp [intOf]; omega
    · have hjn : j = 3 := by omega
      have hlt1 : ¬ (j : Int) < 3 := by omega
      rw [hjn, ← unhide Hkt]
      subst hjn
      go_wp2
      go_ret
      exact ⟨rfl, hB⟩

set_option maxRecDepth 100000 in
set_option maxHeartbeats 400000 in
theorem rkey_4 (x : It) (hx : x.ok) (hk : x.kind = 4) (hs : (bodyOf x).size ≤ 100000) (w : World) :
    Calls Tryz.prog 89 #[.string (bodyOf x)] w fun e w' => e = .returned (.string (mkS (keyT x))) ∧ Below w.heap.size w w' := by
  have hc := rcut_any (bodyOf x) 32 w (by omega)
  have hkd : ∀ wx, Calls Tryz.prog 97 #[.string (bodyOf x)] wx fun e w' => e = .returned (.int .i64 4) ∧ Below wx.heap.size wx w' := fun wx => by
    have := rkind_any x hx (by omega) wx; rw [hk] at this; exact this
  have hkt : keyT x = segs 32 ((words x).take 4) := by simp [keyT, kn, hk]
  have hwl : (words x).length = 5 := by simp [words, winit, hk]
  have htot : (segs 32 (words x)).length ≤ 100001 := by
    rw [body_total hx]
    have : (bodyOf x).size = x.body.length := mkS_size _
    omega
  have Hkd := hide hkd
  have Hkt := hide hkt
  clear hkd hkt
  go_enter Tryz.func89, Tryz.ntmps89
  go_wp2_with fail
  refine hc.mono ?_
  rintro e w1 ⟨v, rfl, hown, hb1⟩
  obtain ⟨g, cap, rfl, hg, hg1, hcell⟩ := words_cells hx hown
  have Hwl := hide hwl
  have Hcell := hide hcell
  rw [hwl]
  clear hown hwl hcell hc
  go_wp2_with fail
  refine (unhide Hkd _).mono ?_
  rintro e w2 ⟨rfl, hb2⟩
  have hB : Below w.heap.size w w2 := hb1.trans (hb2.mono hb1.size)
  go_wp2_with fail
  go_loop [6, 7] (fun t i => ∃ j : Nat, j ≤ 4 ∧ i = .int .i64 (j : Nat) ∧ t = .string (mkS (segs 32 ((words x).take j)))) (fun _ i => 4 - (intOf i).toNat)
  case atStart => exact ⟨0, by omega, rfl, rfl⟩
  case round =>
    obtain ⟨j, hj, rfl, rfl⟩ := hrel
    by_cases hlt : j < 4
    · have hjw : j < (words x).length := by rw [unhide Hwl]; omega
      have hcj := (hb2.cell (p := ⟨g, j, none⟩) hg1).trans (unhide Hcell j hjw)
      have hlt1 : (j : Int) < 4 := by omega
      have hlt2 : (j : Int) < 5 := by omega
      have hst : segs 32 ((words x).take (j + 1)) = segs 32 ((words x).take j) ++ ((words x)[j] ++ [32]) := by rw [List.take_succ_eq_append_getElem hjw, segs_snoc]
      have hz := segs_le 32 (words x) (j + 1)
      rw [hst] at hz
      simp only [List.length_append, List.length_singleton] at hz
      have Hst : Hid (mkS (segs 32 ((words x).take (j + 1))) = mkS (segs 32 ((words x).take j)) ++ mkS (words x)[j] ++ ⟨#[32]⟩) := hide <| by
        rw [hst, sp_mk, mkS_app, mkS_app, List.append_assoc]
      have hz1 : (mkS (segs 32 ((words x).take j))).size + (mkS (words x)[j]).size + 1 ≤ 100001 := by rw [mkS_size, mkS_size]; omega
      clear hst hz htot
      generalize mkS (segs 32 ((words x).take j)) = A at *
      generalize mkS (words x)[j] = B at *
      have hz2 : (A.size : Int) + (B.size : Int) + 1 ≤ 100001 := by omega
      have hz3 : (A.size : Int) + (B.size : Int) ≤ 100001 := by omega
      go_wp2
      go_round
      case rel => exact ⟨j + 1, by omega, by go_num, by rw [unhide Hst]⟩
      case measure => simp [intOf]; omega
    · have hjn : j = 4 := by omega
      have hlt1 : ¬ (j : Int) < 4 := by omega
      rw [hjn, ← unhide Hkt]
      subst hjn
      go_wp2
      go_ret
      exact ⟨rfl, hB⟩

theorem rkey_any (x : It) (hx : x.ok) (hs : (bodyOf x).size ≤ 100000) (w : World) :
    Calls Tryz.prog 89 #[.string (bodyOf x)] w fun e w' => e = .returned (.string (mkS (keyT x))) ∧ Below w.heap.size w w' := by
  have hk : x.kind = 0 ∨ x.kind = 1 ∨ x.kind = 2 ∨ x.kind = 3 ∨ x.kind = 4 := by have := kind_le hx; omega
  rcases hk with hk | hk | hk | hk | hk
  · exact rkey_0 x hx hk hs w
  · exact rkey_1 x hx hk hs w
  · exact rkey_2 x hx hk hs w
  · exact rkey_3 x hx hk hs w
  · exact rkey_4 x hx hk hs w

end Go.Proofs.YtdlhgbhaeedbdaaGreat
