/- The document's answer, walked: 'reach', 'first', 'place'. -/
import Derived.Test.YtdlhgbhaeedbdaaGreatRef3
namespace Go.Proofs.YtdlhgbhaeedbdaaGreat
open Go.RowKit

theorem mk_get (l : List UInt8) (i : Nat) (h : i < (⟨l.toArray⟩ : ByteArray).size) : (⟨l.toArray⟩ : ByteArray)[i] = l[i]'(by simpa [ByteArray.size] using h) := by
  simp [ByteArray.getElem_eq_getElem_data]
theorem mk_size (l : List UInt8) : (⟨l.toArray⟩ : ByteArray).size = l.length := by simp [ByteArray.size]
theorem formL_len (k : Nat) : (formL k).length ≤ 12 := by
  unfold formL
  split
  · simp
  · split
    · simp
    · split
      · simp
      · split <;> simp
theorem ret2_int {a b : Int} {x y : Bool} (h : a = b) (h2 : x = y) : Ending.returned (.tuple #[.int .i64 a, .bool x]) = .returned (.tuple #[.int .i64 b, .bool y]) := by rw [h, h2]

set_option maxRecDepth 100000 in
set_option maxHeartbeats 400000 in
theorem rreach_any (s : ByteArray) (p k : Nat) (hk : k ≤ 4) (w : World) (hs : s.size ≤ 140737488355328) (hp : p ≤ s.size) :
    Calls Tryz.prog 130 #[.string s, .int .i64 (p : Nat), .int .i64 (k : Nat)] w fun e w' => e = .returned (.tuple #[.int .i64 ((reachS s k p).1 : Nat), .bool !(reachS s k p).2]) ∧ w' = w := by
  have hnot : ∀ (x : Bool) (w : World), (Op.unary .not (.bool x)).run Tryz.prog w = .ok (.bool (!x)) w := fun _ _ => rfl
  have hF := rform_any k hk w
  have hfl := formL_len k
  unfold reachS
  generalize formL k = f at *
  have HF := hide hF
  clear hF
  obtain ⟨F, hFe⟩ : ∃ F : ByteArray, F = ⟨f.toArray⟩ := ⟨_, rfl⟩
  rw [← hFe] at HF
  have hFs : F.size = f.length := by rw [hFe]; exact mk_size f
  have hFg : ∀ i (h : i < F.size) (h' : i < f.length), F[i] = f[i] := by subst hFe; exact fun i h _ => mk_get f i h
  have HFs := hide hFs
  have HFg := hide hFg
  have hF12 : F.size ≤ 12 := by omega
  clear hFe hFs hFg
  go_enter Tryz.func130, Tryz.ntmps130
  go_wp2_with fail
  refine (unhide HF).mono ?_
  rintro e w1 ⟨rfl, rfl⟩
  go_wp2_with fail
  go_loop [1, 9] (fun a i => ∃ j : Nat, j ≤ F.size ∧ i = .int .i64 j ∧ a = .int .i64 ((f.take j).foldl (stepB s) (p, false)).1 ∧ ((f.take j).foldl (stepB s) (p, false)).2 = false) (fun _ i => F.size - (intOf i).toNat)
  case atStart => exact ⟨0, Nat.zero_le _, rfl, rfl, rfl⟩
  case round =>
    obtain ⟨j, hj, rfl, rfl, hb⟩ := hrel
    have hle := foldl_le s (f.take j) (p, false) hp
    by_cases hlt : j < F.size
    · have hlt' : (j : Int) < (F.size : Int) := by omega
      have hlf : j < f.length := by have := unhide HFs; omega
      have hst : (f.take (j + 1)).foldl (stepB s) (p, false) = stepB s ((f.take j).foldl (stepB s) (p, false)) f[j] := by
        rw [List.take_succ_eq_append_getElem hlf, List.foldl_append]; rfl
      have hle2 := foldl_le s (f.take (j + 1)) (p, false) hp
      obtain ⟨st, hste⟩ : ∃ st, st = (f.take j).foldl (stepB s) (p, false) := ⟨_, rfl⟩
      rw [← hste] at hb hst hle ⊢
      have hst0 : st = (st.1, false) := Prod.ext rfl hb
      rw [hst0] at hst
      have hpart := rpart_any s st.1 f[j] w1 hs hle
      rw [← unhide HFg j hlt hlf] at hpart hst
      have Hst := hide hst
      have Hp := hide hpart
      have Hle := hide hle2
      have hfoldb : (stepB s (st.1, false) (F[j])).2 = true → (f.foldl (stepB s) (p, false)) = ((stepB s (st.1, false) F[j]).1, true) := by
        intro hbad
        have : f = f.take (j + 1) ++ f.drop (j + 1) := (List.take_append_drop _ _).symm
        rw [this, List.foldl_append, hst, show stepB s (st.1, false) F[j] = ((stepB s (st.1, false) F[j]).1, true) from Prod.ext rfl hbad]
        exact bad_foldl _ _ _
      have Hbad := hide hfoldb
      clear hpart hst hle2 hfoldb hste hst0 hb
      cases hr : (stepB s (st.1, false) F[j]).2 with
      | false =>
        rw [hr] at Hp
        go_wp2_with (go_at_call 152; refine (unhide Hp).mono ?_; rintro e w2 ⟨⟨n, rfl, hn⟩, rfl⟩; have Hn := hide hn; clear hn; have hbd : st.1 + n ≤ s.size := by (have h1 := unhide Hle; rw [unhide Hst, unhide Hn] at h1; exact h1))
        go_round
        case rel => exact ⟨j + 1, by omega, by go_num, by rw [unhide Hst, unhide Hn]; go_num, by rw [unhide Hst]; exact hr⟩
        case measure => simp [intOf]; omega
      | true =>
        have hfin := unhide Hbad hr
        rw [hr] at Hp
        have Hfin := hide hfin
        clear hfin
        go_wp2_with (go_at_call 152; refine (unhide Hp).mono ?_; rintro e w2 ⟨⟨n, rfl, hn⟩, rfl⟩; have Hn := hide hn; clear hn; have hbd : st.1 + n ≤ s.size := by (have h1 := unhide Hle; rw [unhide Hst, unhide Hn] at h1; exact h1))
        go_ret2
        exact ⟨ret2_int (by rw [unhide Hfin, unhide Hn]; go_num) (by rw [unhide Hfin]; rfl), rfl⟩
    · have hall : f.take j = f := List.take_of_length_le (by have := unhide HFs; omega)
      rw [hall] at hb hle ⊢
      have Hb := hide hb
      clear hall hb
      go_wp2_with fail
      go_ret2
      exact ⟨ret2_int rfl (by rw [unhide Hb]; rfl), rfl⟩

end Go.Proofs.YtdlhgbhaeedbdaaGreat
