/- Items: each kind, as it is read and as it is given. (Laid by mkit3.py.) -/
import Derived.Test.YtigpohommoogeaaIt2
namespace Go.Proofs.Ytigpohommoogeaa
open Go.RowKit

theorem ext_item {x y : Item} (h1 : x.kind = y.kind) (h2 : x.name = y.name) (h3 : x.host = y.host) (h4 : x.number = y.number) (h5 : x.disk = y.disk) (h6 : x.lun = y.lun) (h7 : x.text = y.text) : x = y := by
  cases x; cases y; simp_all

theorem disk_read {s : ByteArray} {p : Nat} (h : (diskS5 s (p, false)).2 = false) :
    ∃ x : It, x.ok ∧ x.kind = 0 ∧ diskS5 s (p, false) = (p + x.text.length, false) ∧ rest s p = x.text ++ rest s (p + x.text.length) ∧ diskI s (p, false) = { x.item with text := ⟨#[]⟩ } := by
  have a5 : (diskS5 s (p, false)).2 = false := h
  obtain ⟨a4, b5, c5⟩ := wd_read (s := s) [59] (st := diskS4 s (p, false)) a5
  obtain ⟨c, g1, g2, a3, b4, c4⟩ := tk_read (s := s) (lo := 49) (hi := 57) (st := diskS3 s (p, false)) (by omega) a4
  obtain ⟨n, hn, e0, e1⟩ := dg_of (c := c) (k := 9) (by omega) (by omega) (by omega)
  have hn1 : 1 ≤ n := by omega
  rw [e0] at c4
  obtain ⟨a2, b3, c3⟩ := wd_read (s := s) [32] (st := diskS2 s (p, false)) a3
  obtain ⟨a, ha, a1, b2, c2, v2⟩ := nm_read (s := s) (st := diskS1 s (p, false)) a2
  obtain ⟨a0, b1, c1⟩ := wd_read (s := s) [100, 105, 115, 107, 32] (st := (p, false)) a1
  have f0 : ((p, false) : Nat × Bool) = (p, false) := rfl
  have f1 : diskS1 s (p, false) = (p + 5, false) := b1
  replace c1 : rest s (p) = [100, 105, 115, 107, 32] ++ rest s (p + 5) := c1
  rw [f1] at c2
  have f2 : diskS2 s (p, false) = (p + 5 + a.length, false) := by show nmS s (diskS1 s (p, false)) = _; rw [b2, f1]
  replace c2 : rest s (p + 5) = a ++ rest s (p + 5 + a.length) := c2
  rw [f2] at c3
  have f3 : diskS3 s (p, false) = (p + 5 + a.length + 1, false) := by show wd s [32] (diskS2 s (p, false)) = _; rw [b3, f2]; rfl
  replace c3 : rest s (p + 5 + a.length) = [32] ++ rest s (p + 5 + a.length + 1) := c3
  rw [f3] at c4
  have f4 : diskS4 s (p, false) = (p + 5 + a.length + 1 + 1, false) := by show tk s 49 57 (diskS3 s (p, false)) = _; rw [b4, f3]
  replace c4 : rest s (p + 5 + a.length + 1) = [dg n] ++ rest s (p + 5 + a.length + 1 + 1) := c4
  rw [f4] at c5
  have f5 : diskS5 s (p, false) = (p + 5 + a.length + 1 + 1 + 1, false) := by show wd s [59] (diskS4 s (p, false)) = _; rw [b5, f4]; rfl
  replace c5 : rest s (p + 5 + a.length + 1 + 1) = [59] ++ rest s (p + 5 + a.length + 1 + 1 + 1) := c5
  have hlen : (It.text ⟨0, a, [], n, 0⟩).length + p = p + 5 + a.length + 1 + 1 + 1 := by simp [It.text, It.body]; omega
  refine ⟨⟨0, a, [], n, 0⟩, ⟨ha, Or.inl ⟨rfl, rfl, hn1, hn, rfl⟩⟩, rfl, ?_, ?_, ?_⟩
  · rw [f5, ← hlen]; simp; omega
  · rw [show p + (It.text ⟨0, a, [], n, 0⟩).length = p + 5 + a.length + 1 + 1 + 1 from by omega]
    rw [c1, c2, c3, c4, c5]
    simp [It.text, It.body]
  · rw [show diskI s (p, false) = ⟨0, nmV s (diskS1 s (p, false)), ⟨#[]⟩, 0, ⟨#[]⟩, 0, ⟨#[]⟩⟩ from rfl, v2]
    simp [It.item]

theorem disk_gives {s : ByteArray} {p : Nat} {x : It} (hk : x.kind = 0) (hx : x.ok) {r : List UInt8} (h : rest s p = x.text ++ r) : diskS5 s (p, false) = (p + x.text.length, false) ∧ diskI s (p, false) = { x.item with text := ⟨#[]⟩ } := by
  rcases hx with ⟨ha, ⟨_, _, hn1, hn, _⟩ | ⟨e, _⟩ | ⟨e, _⟩ | ⟨e, _⟩ | ⟨e, _⟩⟩
  all_goals first | (exfalso; omega) | skip
  have d0 : rest s p = [100, 105, 115, 107, 32] ++ (x.a ++ ([32] ++ ([dg x.n] ++ ([59] ++ (r))))) := by rw [h]; simp [It.text, It.body, hk]
  have e1 : wd s [100, 105, 115, 107, 32] (p, false) = (p + 5, false) := wd_gives [100, 105, 115, 107, 32] d0
  have d1 : rest s (p + 5) = x.a ++ ([32] ++ ([dg x.n] ++ ([59] ++ (r)))) := rest_of (a := [100, 105, 115, 107, 32]) d0
  have e2 : nmS s (p + 5, false) = (p + 5 + x.a.length, false) := nm_gives ha sp_no (by rw [d1]; rfl)
  have d2 : rest s (p + 5 + x.a.length) = [32] ++ ([dg x.n] ++ ([59] ++ (r))) := rest_of (a := x.a) d1
  have e3 : wd s [32] (p + 5 + x.a.length, false) = (p + 5 + x.a.length + 1, false) := wd_gives [32] d2
  have d3 : rest s (p + 5 + x.a.length + 1) = [dg x.n] ++ ([59] ++ (r)) := rest_of (a := [32]) d2
  have e4 : tk s 49 57 (p + 5 + x.a.length + 1, false) = (p + 5 + x.a.length + 1 + 1, false) := tk_gives (c := dg x.n) (by rw [d3]; rfl) (by rw [dg_nat (by omega)]; omega) (by rw [dg_nat (by omega)]; omega)
  have d4 : rest s (p + 5 + x.a.length + 1 + 1) = [59] ++ (r) := rest_of (a := [dg x.n]) d3
  have e5 : wd s [59] (p + 5 + x.a.length + 1 + 1, false) = (p + 5 + x.a.length + 1 + 1 + 1, false) := wd_gives [59] d4
  have d5 : rest s (p + 5 + x.a.length + 1 + 1 + 1) = r := rest_of (a := [59]) d4
  have f1 : diskS1 s (p, false) = (p + 5, false) := e1
  have f2 : diskS2 s (p, false) = (p + 5 + x.a.length, false) := by show nmS s (diskS1 s (p, false)) = _; rw [f1]; exact e2
  have f3 : diskS3 s (p, false) = (p + 5 + x.a.length + 1, false) := by show wd s [32] (diskS2 s (p, false)) = _; rw [f2]; exact e3
  have f4 : diskS4 s (p, false) = (p + 5 + x.a.length + 1 + 1, false) := by show tk s 49 57 (diskS3 s (p, false)) = _; rw [f3]; exact e4
  have f5 : diskS5 s (p, false) = (p + 5 + x.a.length + 1 + 1 + 1, false) := by show wd s [59] (diskS4 s (p, false)) = _; rw [f4]; exact e5
  have v2 : nmV s (diskS1 s (p, false)) = ⟨x.a.toArray⟩ := by rw [f1]; unfold nmV; rw [e2]; exact extract_rest d1
  refine ⟨?_, ?_⟩
  · rw [f5]
    simp [It.text, It.body, hk]
    omega
  · rw [show diskI s (p, false) = ⟨0, nmV s (diskS1 s (p, false)), ⟨#[]⟩, 0, ⟨#[]⟩, 0, ⟨#[]⟩⟩ from rfl, v2]
    simp [It.item, hk]

theorem target_read {s : ByteArray} {p : Nat} (h : (targetS3 s (p, false)).2 = false) :
    ∃ x : It, x.ok ∧ x.kind = 1 ∧ targetS3 s (p, false) = (p + x.text.length, false) ∧ rest s p = x.text ++ rest s (p + x.text.length) ∧ targetI s (p, false) = { x.item with text := ⟨#[]⟩ } := by
  have a3 : (targetS3 s (p, false)).2 = false := h
  obtain ⟨a2, b3, c3⟩ := wd_read (s := s) [59] (st := targetS2 s (p, false)) a3
  obtain ⟨a, ha, a1, b2, c2, v2⟩ := nm_read (s := s) (st := targetS1 s (p, false)) a2
  obtain ⟨a0, b1, c1⟩ := wd_read (s := s) [116, 97, 114, 103, 101, 116, 32] (st := (p, false)) a1
  have f0 : ((p, false) : Nat × Bool) = (p, false) := rfl
  have f1 : targetS1 s (p, false) = (p + 7, false) := b1
  replace c1 : rest s (p) = [116, 97, 114, 103, 101, 116, 32] ++ rest s (p + 7) := c1
  rw [f1] at c2
  have f2 : targetS2 s (p, false) = (p + 7 + a.length, false) := by show nmS s (targetS1 s (p, false)) = _; rw [b2, f1]
  replace c2 : rest s (p + 7) = a ++ rest s (p + 7 + a.length) := c2
  rw [f2] at c3
  have f3 : targetS3 s (p, false) = (p + 7 + a.length + 1, false) := by show wd s [59] (targetS2 s (p, false)) = _; rw [b3, f2]; rfl
  replace c3 : rest s (p + 7 + a.length) = [59] ++ rest s (p + 7 + a.length + 1) := c3
  have hlen : (It.text ⟨1, a, [], 0, 0⟩).length + p = p + 7 + a.length + 1 := by simp [It.text, It.body]; omega
  refine ⟨⟨1, a, [], 0, 0⟩, ⟨ha, Or.inr (Or.inl ⟨rfl, rfl, rfl, rfl⟩)⟩, rfl, ?_, ?_, ?_⟩
  · rw [f3, ← hlen]; simp; omega
  · rw [show p + (It.text ⟨1, a, [], 0, 0⟩).length = p + 7 + a.length + 1 from by omega]
    rw [c1, c2, c3]
    simp [It.text, It.body]
  · rw [show targetI s (p, false) = ⟨1, nmV s (targetS1 s (p, false)), ⟨#[]⟩, 0, ⟨#[]⟩, 0, ⟨#[]⟩⟩ from rfl, v2]
    simp [It.item]

theorem target_gives {s : ByteArray} {p : Nat} {x : It} (hk : x.kind = 1) (hx : x.ok) {r : List UInt8} (h : rest s p = x.text ++ r) : targetS3 s (p, false) = (p + x.text.length, false) ∧ targetI s (p, false) = { x.item with text := ⟨#[]⟩ } := by
  rcases hx with ⟨ha, ⟨e, _⟩ | ⟨_, _⟩ | ⟨e, _⟩ | ⟨e, _⟩ | ⟨e, _⟩⟩
  all_goals first | (exfalso; omega) | skip
  have d0 : rest s p = [116, 97, 114, 103, 101, 116, 32] ++ (x.a ++ ([59] ++ (r))) := by rw [h]; simp [It.text, It.body, hk]
  have e1 : wd s [116, 97, 114, 103, 101, 116, 32] (p, false) = (p + 7, false) := wd_gives [116, 97, 114, 103, 101, 116, 32] d0
  have d1 : rest s (p + 7) = x.a ++ ([59] ++ (r)) := rest_of (a := [116, 97, 114, 103, 101, 116, 32]) d0
  have e2 : nmS s (p + 7, false) = (p + 7 + x.a.length, false) := nm_gives ha sc_no (by rw [d1]; rfl)
  have d2 : rest s (p + 7 + x.a.length) = [59] ++ (r) := rest_of (a := x.a) d1
  have e3 : wd s [59] (p + 7 + x.a.length, false) = (p + 7 + x.a.length + 1, false) := wd_gives [59] d2
  have d3 : rest s (p + 7 + x.a.length + 1) = r := rest_of (a := [59]) d2
  have f1 : targetS1 s (p, false) = (p + 7, false) := e1
  have f2 : targetS2 s (p, false) = (p + 7 + x.a.length, false) := by show nmS s (targetS1 s (p, false)) = _; rw [f1]; exact e2
  have f3 : targetS3 s (p, false) = (p + 7 + x.a.length + 1, false) := by show wd s [59] (targetS2 s (p, false)) = _; rw [f2]; exact e3
  have v2 : nmV s (targetS1 s (p, false)) = ⟨x.a.toArray⟩ := by rw [f1]; unfold nmV; rw [e2]; exact extract_rest d1
  refine ⟨?_, ?_⟩
  · rw [f3]
    simp [It.text, It.body, hk]
    omega
  · rw [show targetI s (p, false) = ⟨1, nmV s (targetS1 s (p, false)), ⟨#[]⟩, 0, ⟨#[]⟩, 0, ⟨#[]⟩⟩ from rfl, v2]
    simp [It.item, hk]

theorem lun_read {s : ByteArray} {p : Nat} (h : (lunS9 s (p, false)).2 = false) :
    ∃ x : It, x.ok ∧ x.kind = 2 ∧ lunS9 s (p, false) = (p + x.text.length, false) ∧ rest s p = x.text ++ rest s (p + x.text.length) ∧ lunI s (p, false) = { x.item with text := ⟨#[]⟩ } := by
  have a9 : (lunS9 s (p, false)).2 = false := h
  obtain ⟨a8, b9, c9⟩ := wd_read (s := s) [59] (st := lunS8 s (p, false)) a9
  obtain ⟨m, hm, a7, b8, c8⟩ := md_read (s := s) (st := lunS7 s (p, false)) a8
  obtain ⟨a6, b7, c7⟩ := wd_read (s := s) [32] (st := lunS6 s (p, false)) a7
  obtain ⟨b, hb, a5, b6, c6, v6⟩ := nm_read (s := s) (st := lunS5 s (p, false)) a6
  obtain ⟨a4, b5, c5⟩ := wd_read (s := s) [32] (st := lunS4 s (p, false)) a5
  obtain ⟨n, hn, a3, b4, c4, v4⟩ := nb_read (s := s) (st := lunS3 s (p, false)) a4
  obtain ⟨a2, b3, c3⟩ := wd_read (s := s) [32] (st := lunS2 s (p, false)) a3
  obtain ⟨a, ha, a1, b2, c2, v2⟩ := nm_read (s := s) (st := lunS1 s (p, false)) a2
  obtain ⟨a0, b1, c1⟩ := wd_read (s := s) [108, 117, 110, 32] (st := (p, false)) a1
  have f0 : ((p, false) : Nat × Bool) = (p, false) := rfl
  have f1 : lunS1 s (p, false) = (p + 4, false) := b1
  replace c1 : rest s (p) = [108, 117, 110, 32] ++ rest s (p + 4) := c1
  rw [f1] at c2
  have f2 : lunS2 s (p, false) = (p + 4 + a.length, false) := by show nmS s (lunS1 s (p, false)) = _; rw [b2, f1]
  replace c2 : rest s (p + 4) = a ++ rest s (p + 4 + a.length) := c2
  rw [f2] at c3
  have f3 : lunS3 s (p, false) = (p + 4 + a.length + 1, false) := by show wd s [32] (lunS2 s (p, false)) = _; rw [b3, f2]; rfl
  replace c3 : rest s (p + 4 + a.length) = [32] ++ rest s (p + 4 + a.length + 1) := c3
  rw [f3] at c4
  have f4 : lunS4 s (p, false) = (p + 4 + a.length + 1 + 1, false) := by show nbS s (lunS3 s (p, false)) = _; rw [b4, f3]
  replace c4 : rest s (p + 4 + a.length + 1) = [dg n] ++ rest s (p + 4 + a.length + 1 + 1) := c4
  rw [f4] at c5
  have f5 : lunS5 s (p, false) = (p + 4 + a.length + 1 + 1 + 1, false) := by show wd s [32] (lunS4 s (p, false)) = _; rw [b5, f4]; rfl
  replace c5 : rest s (p + 4 + a.length + 1 + 1) = [32] ++ rest s (p + 4 + a.length + 1 + 1 + 1) := c5
  rw [f5] at c6
  have f6 : lunS6 s (p, false) = (p + 4 + a.length + 1 + 1 + 1 + b.length, false) := by show nmS s (lunS5 s (p, false)) = _; rw [b6, f5]
  replace c6 : rest s (p + 4 + a.length + 1 + 1 + 1) = b ++ rest s (p + 4 + a.length + 1 + 1 + 1 + b.length) := c6
  rw [f6] at c7
  have f7 : lunS7 s (p, false) = (p + 4 + a.length + 1 + 1 + 1 + b.length + 1, false) := by show wd s [32] (lunS6 s (p, false)) = _; rw [b7, f6]; rfl
  replace c7 : rest s (p + 4 + a.length + 1 + 1 + 1 + b.length) = [32] ++ rest s (p + 4 + a.length + 1 + 1 + 1 + b.length + 1) := c7
  rw [f7] at c8
  have f8 : lunS8 s (p, false) = (p + 4 + a.length + 1 + 1 + 1 + b.length + 1 + 2, false) := by show mdS s (lunS7 s (p, false)) = _; rw [b8, f7]
  replace c8 : rest s (p + 4 + a.length + 1 + 1 + 1 + b.length + 1) = [114, md m] ++ rest s (p + 4 + a.length + 1 + 1 + 1 + b.length + 1 + 2) := c8
  rw [f8] at c9
  have f9 : lunS9 s (p, false) = (p + 4 + a.length + 1 + 1 + 1 + b.length + 1 + 2 + 1, false) := by show wd s [59] (lunS8 s (p, false)) = _; rw [b9, f8]; rfl
  replace c9 : rest s (p + 4 + a.length + 1 + 1 + 1 + b.length + 1 + 2) = [59] ++ rest s (p + 4 + a.length + 1 + 1 + 1 + b.length + 1 + 2 + 1) := c9
  have hlen : (It.text ⟨2, a, b, n, m⟩).length + p = p + 4 + a.length + 1 + 1 + 1 + b.length + 1 + 2 + 1 := by simp [It.text, It.body]; omega
  refine ⟨⟨2, a, b, n, m⟩, ⟨ha, Or.inr (Or.inr (Or.inl ⟨rfl, hb, hn, hm⟩))⟩, rfl, ?_, ?_, ?_⟩
  · rw [f9, ← hlen]; simp; omega
  · rw [show p + (It.text ⟨2, a, b, n, m⟩).length = p + 4 + a.length + 1 + 1 + 1 + b.length + 1 + 2 + 1 from by omega]
    rw [c1, c2, c3, c4, c5, c6, c7, c8, c9]
    simp [It.text, It.body]
  · rw [show lunI s (p, false) = ⟨2, nmV s (lunS1 s (p, false)), ⟨#[]⟩, nbV s (lunS3 s (p, false)), nmV s (lunS5 s (p, false)), 0, ⟨#[]⟩⟩ from rfl, v2, v6, v4]
    simp [It.item]

theorem lun_gives {s : ByteArray} {p : Nat} {x : It} (hk : x.kind = 2) (hx : x.ok) {r : List UInt8} (h : rest s p = x.text ++ r) : lunS9 s (p, false) = (p + x.text.length, false) ∧ lunI s (p, false) = { x.item with text := ⟨#[]⟩ } := by
  rcases hx with ⟨ha, ⟨e, _⟩ | ⟨e, _⟩ | ⟨_, hb, hn, hm⟩ | ⟨e, _⟩ | ⟨e, _⟩⟩
  all_goals first | (exfalso; omega) | skip
  have d0 : rest s p = [108, 117, 110, 32] ++ (x.a ++ ([32] ++ ([dg x.n] ++ ([32] ++ (x.b ++ ([32] ++ ([114, md x.m] ++ ([59] ++ (r))))))))) := by rw [h]; simp [It.text, It.body, hk]
  have e1 : wd s [108, 117, 110, 32] (p, false) = (p + 4, false) := wd_gives [108, 117, 110, 32] d0
  have d1 : rest s (p + 4) = x.a ++ ([32] ++ ([dg x.n] ++ ([32] ++ (x.b ++ ([32] ++ ([114, md x.m] ++ ([59] ++ (r)))))))) := rest_of (a := [108, 117, 110, 32]) d0
  have e2 : nmS s (p + 4, false) = (p + 4 + x.a.length, false) := nm_gives ha sp_no (by rw [d1]; rfl)
  have d2 : rest s (p + 4 + x.a.length) = [32] ++ ([dg x.n] ++ ([32] ++ (x.b ++ ([32] ++ ([114, md x.m] ++ ([59] ++ (r))))))) := rest_of (a := x.a) d1
  have e3 : wd s [32] (p + 4 + x.a.length, false) = (p + 4 + x.a.length + 1, false) := wd_gives [32] d2
  have d3 : rest s (p + 4 + x.a.length + 1) = [dg x.n] ++ ([32] ++ (x.b ++ ([32] ++ ([114, md x.m] ++ ([59] ++ (r)))))) := rest_of (a := [32]) d2
  have e4 : nbS s (p + 4 + x.a.length + 1, false) = (p + 4 + x.a.length + 1 + 1, false) := nb_gives (n := x.n) hn d3
  have d4 : rest s (p + 4 + x.a.length + 1 + 1) = [32] ++ (x.b ++ ([32] ++ ([114, md x.m] ++ ([59] ++ (r))))) := rest_of (a := [dg x.n]) d3
  have e5 : wd s [32] (p + 4 + x.a.length + 1 + 1, false) = (p + 4 + x.a.length + 1 + 1 + 1, false) := wd_gives [32] d4
  have d5 : rest s (p + 4 + x.a.length + 1 + 1 + 1) = x.b ++ ([32] ++ ([114, md x.m] ++ ([59] ++ (r)))) := rest_of (a := [32]) d4
  have e6 : nmS s (p + 4 + x.a.length + 1 + 1 + 1, false) = (p + 4 + x.a.length + 1 + 1 + 1 + x.b.length, false) := nm_gives hb sp_no (by rw [d5]; rfl)
  have d6 : rest s (p + 4 + x.a.length + 1 + 1 + 1 + x.b.length) = [32] ++ ([114, md x.m] ++ ([59] ++ (r))) := rest_of (a := x.b) d5
  have e7 : wd s [32] (p + 4 + x.a.length + 1 + 1 + 1 + x.b.length, false) = (p + 4 + x.a.length + 1 + 1 + 1 + x.b.length + 1, false) := wd_gives [32] d6
  have d7 : rest s (p + 4 + x.a.length + 1 + 1 + 1 + x.b.length + 1) = [114, md x.m] ++ ([59] ++ (r)) := rest_of (a := [32]) d6
  have e8 : mdS s (p + 4 + x.a.length + 1 + 1 + 1 + x.b.length + 1, false) = (p + 4 + x.a.length + 1 + 1 + 1 + x.b.length + 1 + 2, false) := md_gives d7
  have d8 : rest s (p + 4 + x.a.length + 1 + 1 + 1 + x.b.length + 1 + 2) = [59] ++ (r) := rest_of (a := [114, md x.m]) d7
  have e9 : wd s [59] (p + 4 + x.a.length + 1 + 1 + 1 + x.b.length + 1 + 2, false) = (p + 4 + x.a.length + 1 + 1 + 1 + x.b.length + 1 + 2 + 1, false) := wd_gives [59] d8
  have d9 : rest s (p + 4 + x.a.length + 1 + 1 + 1 + x.b.length + 1 + 2 + 1) = r := rest_of (a := [59]) d8
  have f1 : lunS1 s (p, false) = (p + 4, false) := e1
  have f2 : lunS2 s (p, false) = (p + 4 + x.a.length, false) := by show nmS s (lunS1 s (p, false)) = _; rw [f1]; exact e2
  have f3 : lunS3 s (p, false) = (p + 4 + x.a.length + 1, false) := by show wd s [32] (lunS2 s (p, false)) = _; rw [f2]; exact e3
  have f4 : lunS4 s (p, false) = (p + 4 + x.a.length + 1 + 1, false) := by show nbS s (lunS3 s (p, false)) = _; rw [f3]; exact e4
  have f5 : lunS5 s (p, false) = (p + 4 + x.a.length + 1 + 1 + 1, false) := by show wd s [32] (lunS4 s (p, false)) = _; rw [f4]; exact e5
  have f6 : lunS6 s (p, false) = (p + 4 + x.a.length + 1 + 1 + 1 + x.b.length, false) := by show nmS s (lunS5 s (p, false)) = _; rw [f5]; exact e6
  have f7 : lunS7 s (p, false) = (p + 4 + x.a.length + 1 + 1 + 1 + x.b.length + 1, false) := by show wd s [32] (lunS6 s (p, false)) = _; rw [f6]; exact e7
  have f8 : lunS8 s (p, false) = (p + 4 + x.a.length + 1 + 1 + 1 + x.b.length + 1 + 2, false) := by show mdS s (lunS7 s (p, false)) = _; rw [f7]; exact e8
  have f9 : lunS9 s (p, false) = (p + 4 + x.a.length + 1 + 1 + 1 + x.b.length + 1 + 2 + 1, false) := by show wd s [59] (lunS8 s (p, false)) = _; rw [f8]; exact e9
  have v2 : nmV s (lunS1 s (p, false)) = ⟨x.a.toArray⟩ := by rw [f1]; unfold nmV; rw [e2]; exact extract_rest d1
  have v4 : nbV s (lunS3 s (p, false)) = x.n := by rw [f3]; unfold nbV; rw [e4, byteAt_cons (c := dg x.n) (by rw [d3]; rfl), dg_nat (by omega)]; simp; omega
  have v6 : nmV s (lunS5 s (p, false)) = ⟨x.b.toArray⟩ := by rw [f5]; unfold nmV; rw [e6]; exact extract_rest d5
  refine ⟨?_, ?_⟩
  · rw [f9]
    simp [It.text, It.body, hk]
    omega
  · rw [show lunI s (p, false) = ⟨2, nmV s (lunS1 s (p, false)), ⟨#[]⟩, nbV s (lunS3 s (p, false)), nmV s (lunS5 s (p, false)), 0, ⟨#[]⟩⟩ from rfl, v2, v6, v4]
    simp [It.item, hk]

theorem host_read {s : ByteArray} {p : Nat} (h : (hostS5 s (p, false)).2 = false) :
    ∃ x : It, x.ok ∧ x.kind = 3 ∧ hostS5 s (p, false) = (p + x.text.length, false) ∧ rest s p = x.text ++ rest s (p + x.text.length) ∧ hostI s (p, false) = { x.item with text := ⟨#[]⟩ } := by
  have a5 : (hostS5 s (p, false)).2 = false := h
  obtain ⟨a4, b5, c5⟩ := wd_read (s := s) [59] (st := hostS4 s (p, false)) a5
  obtain ⟨b, hb, a3, b4, c4, v4⟩ := nm_read (s := s) (st := hostS3 s (p, false)) a4
  obtain ⟨a2, b3, c3⟩ := wd_read (s := s) [32] (st := hostS2 s (p, false)) a3
  obtain ⟨a, ha, a1, b2, c2, v2⟩ := nm_read (s := s) (st := hostS1 s (p, false)) a2
  obtain ⟨a0, b1, c1⟩ := wd_read (s := s) [104, 111, 115, 116, 32] (st := (p, false)) a1
  have f0 : ((p, false) : Nat × Bool) = (p, false) := rfl
  have f1 : hostS1 s (p, false) = (p + 5, false) := b1
  replace c1 : rest s (p) = [104, 111, 115, 116, 32] ++ rest s (p + 5) := c1
  rw [f1] at c2
  have f2 : hostS2 s (p, false) = (p + 5 + a.length, false) := by show nmS s (hostS1 s (p, false)) = _; rw [b2, f1]
  replace c2 : rest s (p + 5) = a ++ rest s (p + 5 + a.length) := c2
  rw [f2] at c3
  have f3 : hostS3 s (p, false) = (p + 5 + a.length + 1, false) := by show wd s [32] (hostS2 s (p, false)) = _; rw [b3, f2]; rfl
  replace c3 : rest s (p + 5 + a.length) = [32] ++ rest s (p + 5 + a.length + 1) := c3
  rw [f3] at c4
  have f4 : hostS4 s (p, false) = (p + 5 + a.length + 1 + b.length, false) := by show nmS s (hostS3 s (p, false)) = _; rw [b4, f3]
  replace c4 : rest s (p + 5 + a.length + 1) = b ++ rest s (p + 5 + a.length + 1 + b.length) := c4
  rw [f4] at c5
  have f5 : hostS5 s (p, false) = (p + 5 + a.length + 1 + b.length + 1, false) := by show wd s [59] (hostS4 s (p, false)) = _; rw [b5, f4]; rfl
  replace c5 : rest s (p + 5 + a.length + 1 + b.length) = [59] ++ rest s (p + 5 + a.length + 1 + b.length + 1) := c5
  have hlen : (It.text ⟨3, a, b, 0, 0⟩).length + p = p + 5 + a.length + 1 + b.length + 1 := by simp [It.text, It.body]; omega
  refine ⟨⟨3, a, b, 0, 0⟩, ⟨ha, Or.inr (Or.inr (Or.inr (Or.inl ⟨rfl, hb, rfl, rfl⟩)))⟩, rfl, ?_, ?_, ?_⟩
  · rw [f5, ← hlen]; simp; omega
  · rw [show p + (It.text ⟨3, a, b, 0, 0⟩).length = p + 5 + a.length + 1 + b.length + 1 from by omega]
    rw [c1, c2, c3, c4, c5]
    simp [It.text, It.body]
  · rw [show hostI s (p, false) = ⟨3, nmV s (hostS1 s (p, false)), nmV s (hostS3 s (p, false)), 0, ⟨#[]⟩, 0, ⟨#[]⟩⟩ from rfl, v2, v4]
    simp [It.item]

theorem host_gives {s : ByteArray} {p : Nat} {x : It} (hk : x.kind = 3) (hx : x.ok) {r : List UInt8} (h : rest s p = x.text ++ r) : hostS5 s (p, false) = (p + x.text.length, false) ∧ hostI s (p, false) = { x.item with text := ⟨#[]⟩ } := by
  rcases hx with ⟨ha, ⟨e, _⟩ | ⟨e, _⟩ | ⟨e, _⟩ | ⟨_, hb, _⟩ | ⟨e, _⟩⟩
  all_goals first | (exfalso; omega) | skip
  have d0 : rest s p = [104, 111, 115, 116, 32] ++ (x.a ++ ([32] ++ (x.b ++ ([59] ++ (r))))) := by rw [h]; simp [It.text, It.body, hk]
  have e1 : wd s [104, 111, 115, 116, 32] (p, false) = (p + 5, false) := wd_gives [104, 111, 115, 116, 32] d0
  have d1 : rest s (p + 5) = x.a ++ ([32] ++ (x.b ++ ([59] ++ (r)))) := rest_of (a := [104, 111, 115, 116, 32]) d0
  have e2 : nmS s (p + 5, false) = (p + 5 + x.a.length, false) := nm_gives ha sp_no (by rw [d1]; rfl)
  have d2 : rest s (p + 5 + x.a.length) = [32] ++ (x.b ++ ([59] ++ (r))) := rest_of (a := x.a) d1
  have e3 : wd s [32] (p + 5 + x.a.length, false) = (p + 5 + x.a.length + 1, false) := wd_gives [32] d2
  have d3 : rest s (p + 5 + x.a.length + 1) = x.b ++ ([59] ++ (r)) := rest_of (a := [32]) d2
  have e4 : nmS s (p + 5 + x.a.length + 1, false) = (p + 5 + x.a.length + 1 + x.b.length, false) := nm_gives hb sc_no (by rw [d3]; rfl)
  have d4 : rest s (p + 5 + x.a.length + 1 + x.b.length) = [59] ++ (r) := rest_of (a := x.b) d3
  have e5 : wd s [59] (p + 5 + x.a.length + 1 + x.b.length, false) = (p + 5 + x.a.length + 1 + x.b.length + 1, false) := wd_gives [59] d4
  have d5 : rest s (p + 5 + x.a.length + 1 + x.b.length + 1) = r := rest_of (a := [59]) d4
  have f1 : hostS1 s (p, false) = (p + 5, false) := e1
  have f2 : hostS2 s (p, false) = (p + 5 + x.a.length, false) := by show nmS s (hostS1 s (p, false)) = _; rw [f1]; exact e2
  have f3 : hostS3 s (p, false) = (p + 5 + x.a.length + 1, false) := by show wd s [32] (hostS2 s (p, false)) = _; rw [f2]; exact e3
  have f4 : hostS4 s (p, false) = (p + 5 + x.a.length + 1 + x.b.length, false) := by show nmS s (hostS3 s (p, false)) = _; rw [f3]; exact e4
  have f5 : hostS5 s (p, false) = (p + 5 + x.a.length + 1 + x.b.length + 1, false) := by show wd s [59] (hostS4 s (p, false)) = _; rw [f4]; exact e5
  have v2 : nmV s (hostS1 s (p, false)) = ⟨x.a.toArray⟩ := by rw [f1]; unfold nmV; rw [e2]; exact extract_rest d1
  have v4 : nmV s (hostS3 s (p, false)) = ⟨x.b.toArray⟩ := by rw [f3]; unfold nmV; rw [e4]; exact extract_rest d3
  refine ⟨?_, ?_⟩
  · rw [f5]
    simp [It.text, It.body, hk]
    omega
  · rw [show hostI s (p, false) = ⟨3, nmV s (hostS1 s (p, false)), nmV s (hostS3 s (p, false)), 0, ⟨#[]⟩, 0, ⟨#[]⟩⟩ from rfl, v2, v4]
    simp [It.item, hk]

theorem maps_read {s : ByteArray} {p : Nat} (h : (mapsS9 s (p, false)).2 = false) :
    ∃ x : It, x.ok ∧ x.kind = 4 ∧ mapsS9 s (p, false) = (p + x.text.length, false) ∧ rest s p = x.text ++ rest s (p + x.text.length) ∧ mapsI s (p, false) = { x.item with text := ⟨#[]⟩ } := by
  have a9 : (mapsS9 s (p, false)).2 = false := h
  obtain ⟨a8, b9, c9⟩ := wd_read (s := s) [59] (st := mapsS8 s (p, false)) a9
  obtain ⟨m, hm, a7, b8, c8, v8⟩ := nb_read (s := s) (st := mapsS7 s (p, false)) a8
  obtain ⟨a6, b7, c7⟩ := wd_read (s := s) [32] (st := mapsS6 s (p, false)) a7
  obtain ⟨n, hn, a5, b6, c6, v6⟩ := nb_read (s := s) (st := mapsS5 s (p, false)) a6
  obtain ⟨a4, b5, c5⟩ := wd_read (s := s) [32] (st := mapsS4 s (p, false)) a5
  obtain ⟨b, hb, a3, b4, c4, v4⟩ := nm_read (s := s) (st := mapsS3 s (p, false)) a4
  obtain ⟨a2, b3, c3⟩ := wd_read (s := s) [32] (st := mapsS2 s (p, false)) a3
  obtain ⟨a, ha, a1, b2, c2, v2⟩ := nm_read (s := s) (st := mapsS1 s (p, false)) a2
  obtain ⟨a0, b1, c1⟩ := wd_read (s := s) [109, 97, 112, 32] (st := (p, false)) a1
  have f0 : ((p, false) : Nat × Bool) = (p, false) := rfl
  have f1 : mapsS1 s (p, false) = (p + 4, false) := b1
  replace c1 : rest s (p) = [109, 97, 112, 32] ++ rest s (p + 4) := c1
  rw [f1] at c2
  have f2 : mapsS2 s (p, false) = (p + 4 + a.length, false) := by show nmS s (mapsS1 s (p, false)) = _; rw [b2, f1]
  replace c2 : rest s (p + 4) = a ++ rest s (p + 4 + a.length) := c2
  rw [f2] at c3
  have f3 : mapsS3 s (p, false) = (p + 4 + a.length + 1, false) := by show wd s [32] (mapsS2 s (p, false)) = _; rw [b3, f2]; rfl
  replace c3 : rest s (p + 4 + a.length) = [32] ++ rest s (p + 4 + a.length + 1) := c3
  rw [f3] at c4
  have f4 : mapsS4 s (p, false) = (p + 4 + a.length + 1 + b.length, false) := by show nmS s (mapsS3 s (p, false)) = _; rw [b4, f3]
  replace c4 : rest s (p + 4 + a.length + 1) = b ++ rest s (p + 4 + a.length + 1 + b.length) := c4
  rw [f4] at c5
  have f5 : mapsS5 s (p, false) = (p + 4 + a.length + 1 + b.length + 1, false) := by show wd s [32] (mapsS4 s (p, false)) = _; rw [b5, f4]; rfl
  replace c5 : rest s (p + 4 + a.length + 1 + b.length) = [32] ++ rest s (p + 4 + a.length + 1 + b.length + 1) := c5
  rw [f5] at c6
  have f6 : mapsS6 s (p, false) = (p + 4 + a.length + 1 + b.length + 1 + 1, false) := by show nbS s (mapsS5 s (p, false)) = _; rw [b6, f5]
  replace c6 : rest s (p + 4 + a.length + 1 + b.length + 1) = [dg n] ++ rest s (p + 4 + a.length + 1 + b.length + 1 + 1) := c6
  rw [f6] at c7
  have f7 : mapsS7 s (p, false) = (p + 4 + a.length + 1 + b.length + 1 + 1 + 1, false) := by show wd s [32] (mapsS6 s (p, false)) = _; rw [b7, f6]; rfl
  replace c7 : rest s (p + 4 + a.length + 1 + b.length + 1 + 1) = [32] ++ rest s (p + 4 + a.length + 1 + b.length + 1 + 1 + 1) := c7
  rw [f7] at c8
  have f8 : mapsS8 s (p, false) = (p + 4 + a.length + 1 + b.length + 1 + 1 + 1 + 1, false) := by show nbS s (mapsS7 s (p, false)) = _; rw [b8, f7]
  replace c8 : rest s (p + 4 + a.length + 1 + b.length + 1 + 1 + 1) = [dg m] ++ rest s (p + 4 + a.length + 1 + b.length + 1 + 1 + 1 + 1) := c8
  rw [f8] at c9
  have f9 : mapsS9 s (p, false) = (p + 4 + a.length + 1 + b.length + 1 + 1 + 1 + 1 + 1, false) := by show wd s [59] (mapsS8 s (p, false)) = _; rw [b9, f8]; rfl
  replace c9 : rest s (p + 4 + a.length + 1 + b.length + 1 + 1 + 1 + 1) = [59] ++ rest s (p + 4 + a.length + 1 + b.length + 1 + 1 + 1 + 1 + 1) := c9
  have hlen : (It.text ⟨4, a, b, n, m⟩).length + p = p + 4 + a.length + 1 + b.length + 1 + 1 + 1 + 1 + 1 := by simp [It.text, It.body]; omega
  refine ⟨⟨4, a, b, n, m⟩, ⟨ha, Or.inr (Or.inr (Or.inr (Or.inr ⟨rfl, hb, hn, hm⟩)))⟩, rfl, ?_, ?_, ?_⟩
  · rw [f9, ← hlen]; simp; omega
  · rw [show p + (It.text ⟨4, a, b, n, m⟩).length = p + 4 + a.length + 1 + b.length + 1 + 1 + 1 + 1 + 1 from by omega]
    rw [c1, c2, c3, c4, c5, c6, c7, c8, c9]
    simp [It.text, It.body]
  · rw [show mapsI s (p, false) = ⟨4, nmV s (mapsS1 s (p, false)), nmV s (mapsS3 s (p, false)), nbV s (mapsS5 s (p, false)), ⟨#[]⟩, nbV s (mapsS7 s (p, false)), ⟨#[]⟩⟩ from rfl, v2, v4, v6, v8]
    simp [It.item]

theorem maps_gives {s : ByteArray} {p : Nat} {x : It} (hk : x.kind = 4) (hx : x.ok) {r : List UInt8} (h : rest s p = x.text ++ r) : mapsS9 s (p, false) = (p + x.text.length, false) ∧ mapsI s (p, false) = { x.item with text := ⟨#[]⟩ } := by
  rcases hx with ⟨ha, ⟨e, _⟩ | ⟨e, _⟩ | ⟨e, _⟩ | ⟨e, _⟩ | ⟨_, hb, hn, hm⟩⟩
  all_goals first | (exfalso; omega) | skip
  have d0 : rest s p = [109, 97, 112, 32] ++ (x.a ++ ([32] ++ (x.b ++ ([32] ++ ([dg x.n] ++ ([32] ++ ([dg x.m] ++ ([59] ++ (r))))))))) := by rw [h]; simp [It.text, It.body, hk]
  have e1 : wd s [109, 97, 112, 32] (p, false) = (p + 4, false) := wd_gives [109, 97, 112, 32] d0
  have d1 : rest s (p + 4) = x.a ++ ([32] ++ (x.b ++ ([32] ++ ([dg x.n] ++ ([32] ++ ([dg x.m] ++ ([59] ++ (r)))))))) := rest_of (a := [109, 97, 112, 32]) d0
  have e2 : nmS s (p + 4, false) = (p + 4 + x.a.length, false) := nm_gives ha sp_no (by rw [d1]; rfl)
  have d2 : rest s (p + 4 + x.a.length) = [32] ++ (x.b ++ ([32] ++ ([dg x.n] ++ ([32] ++ ([dg x.m] ++ ([59] ++ (r))))))) := rest_of (a := x.a) d1
  have e3 : wd s [32] (p + 4 + x.a.length, false) = (p + 4 + x.a.length + 1, false) := wd_gives [32] d2
  have d3 : rest s (p + 4 + x.a.length + 1) = x.b ++ ([32] ++ ([dg x.n] ++ ([32] ++ ([dg x.m] ++ ([59] ++ (r)))))) := rest_of (a := [32]) d2
  have e4 : nmS s (p + 4 + x.a.length + 1, false) = (p + 4 + x.a.length + 1 + x.b.length, false) := nm_gives hb sp_no (by rw [d3]; rfl)
  have d4 : rest s (p + 4 + x.a.length + 1 + x.b.length) = [32] ++ ([dg x.n] ++ ([32] ++ ([dg x.m] ++ ([59] ++ (r))))) := rest_of (a := x.b) d3
  have e5 : wd s [32] (p + 4 + x.a.length + 1 + x.b.length, false) = (p + 4 + x.a.length + 1 + x.b.length + 1, false) := wd_gives [32] d4
  have d5 : rest s (p + 4 + x.a.length + 1 + x.b.length + 1) = [dg x.n] ++ ([32] ++ ([dg x.m] ++ ([59] ++ (r)))) := rest_of (a := [32]) d4
  have e6 : nbS s (p + 4 + x.a.length + 1 + x.b.length + 1, false) = (p + 4 + x.a.length + 1 + x.b.length + 1 + 1, false) := nb_gives (n := x.n) hn d5
  have d6 : rest s (p + 4 + x.a.length + 1 + x.b.length + 1 + 1) = [32] ++ ([dg x.m] ++ ([59] ++ (r))) := rest_of (a := [dg x.n]) d5
  have e7 : wd s [32] (p + 4 + x.a.length + 1 + x.b.length + 1 + 1, false) = (p + 4 + x.a.length + 1 + x.b.length + 1 + 1 + 1, false) := wd_gives [32] d6
  have d7 : rest s (p + 4 + x.a.length + 1 + x.b.length + 1 + 1 + 1) = [dg x.m] ++ ([59] ++ (r)) := rest_of (a := [32]) d6
  have e8 : nbS s (p + 4 + x.a.length + 1 + x.b.length + 1 + 1 + 1, false) = (p + 4 + x.a.length + 1 + x.b.length + 1 + 1 + 1 + 1, false) := nb_gives (n := x.m) hm d7
  have d8 : rest s (p + 4 + x.a.length + 1 + x.b.length + 1 + 1 + 1 + 1) = [59] ++ (r) := rest_of (a := [dg x.m]) d7
  have e9 : wd s [59] (p + 4 + x.a.length + 1 + x.b.length + 1 + 1 + 1 + 1, false) = (p + 4 + x.a.length + 1 + x.b.length + 1 + 1 + 1 + 1 + 1, false) := wd_gives [59] d8
  have d9 : rest s (p + 4 + x.a.length + 1 + x.b.length + 1 + 1 + 1 + 1 + 1) = r := rest_of (a := [59]) d8
  have f1 : mapsS1 s (p, false) = (p + 4, false) := e1
  have f2 : mapsS2 s (p, false) = (p + 4 + x.a.length, false) := by show nmS s (mapsS1 s (p, false)) = _; rw [f1]; exact e2
  have f3 : mapsS3 s (p, false) = (p + 4 + x.a.length + 1, false) := by show wd s [32] (mapsS2 s (p, false)) = _; rw [f2]; exact e3
  have f4 : mapsS4 s (p, false) = (p + 4 + x.a.length + 1 + x.b.length, false) := by show nmS s (mapsS3 s (p, false)) = _; rw [f3]; exact e4
  have f5 : mapsS5 s (p, false) = (p + 4 + x.a.length + 1 + x.b.length + 1, false) := by show wd s [32] (mapsS4 s (p, false)) = _; rw [f4]; exact e5
  have f6 : mapsS6 s (p, false) = (p + 4 + x.a.length + 1 + x.b.length + 1 + 1, false) := by show nbS s (mapsS5 s (p, false)) = _; rw [f5]; exact e6
  have f7 : mapsS7 s (p, false) = (p + 4 + x.a.length + 1 + x.b.length + 1 + 1 + 1, false) := by show wd s [32] (mapsS6 s (p, false)) = _; rw [f6]; exact e7
  have f8 : mapsS8 s (p, false) = (p + 4 + x.a.length + 1 + x.b.length + 1 + 1 + 1 + 1, false) := by show nbS s (mapsS7 s (p, false)) = _; rw [f7]; exact e8
  have f9 : mapsS9 s (p, false) = (p + 4 + x.a.length + 1 + x.b.length + 1 + 1 + 1 + 1 + 1, false) := by show wd s [59] (mapsS8 s (p, false)) = _; rw [f8]; exact e9
  have v2 : nmV s (mapsS1 s (p, false)) = ⟨x.a.toArray⟩ := by rw [f1]; unfold nmV; rw [e2]; exact extract_rest d1
  have v4 : nmV s (mapsS3 s (p, false)) = ⟨x.b.toArray⟩ := by rw [f3]; unfold nmV; rw [e4]; exact extract_rest d3
  have v6 : nbV s (mapsS5 s (p, false)) = x.n := by rw [f5]; unfold nbV; rw [e6, byteAt_cons (c := dg x.n) (by rw [d5]; rfl), dg_nat (by omega)]; simp; omega
  have v8 : nbV s (mapsS7 s (p, false)) = x.m := by rw [f7]; unfold nbV; rw [e8, byteAt_cons (c := dg x.m) (by rw [d7]; rfl), dg_nat (by omega)]; simp; omega
  refine ⟨?_, ?_⟩
  · rw [f9]
    simp [It.text, It.body, hk]
    omega
  · rw [show mapsI s (p, false) = ⟨4, nmV s (mapsS1 s (p, false)), nmV s (mapsS3 s (p, false)), nbV s (mapsS5 s (p, false)), ⟨#[]⟩, nbV s (mapsS7 s (p, false)), ⟨#[]⟩⟩ from rfl, v2, v4, v6, v8]
    simp [It.item, hk]

end Go.Proofs.Ytigpohommoogeaa
