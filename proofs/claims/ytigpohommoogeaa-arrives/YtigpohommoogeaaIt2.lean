/- Items: what the reader makes of their texts. -/
import Derived.Test.YtigpohommoogeaaIt
namespace Go.Proofs.Ytigpohommoogeaa
open Go.RowKit

/-- The digit of a number up to 9. -/
def dg (n : Nat) : UInt8 := UInt8.ofNat (48 + n)
def md (m : Nat) : UInt8 := if m = 0 then 111 else 119

/-- An item: its kind; its first name; its second one (a lun's disk, a host's or a map's host); its number (a disk's size); a lun's mode (0: ro) or a map's lun. -/
structure It where
  kind : Nat
  a : List UInt8
  b : List UInt8
  n : Nat
  m : Nat

def It.body (x : It) : List UInt8 :=
  if x.kind = 0 then [100, 105, 115, 107, 32] ++ (x.a ++ [32, dg x.n])
  else if x.kind = 1 then [116, 97, 114, 103, 101, 116, 32] ++ x.a
  else if x.kind = 2 then [108, 117, 110, 32] ++ (x.a ++ ([32, dg x.n, 32] ++ (x.b ++ [32, 114, md x.m])))
  else if x.kind = 3 then [104, 111, 115, 116, 32] ++ (x.a ++ ([32] ++ x.b))
  else [109, 97, 112, 32] ++ (x.a ++ ([32] ++ (x.b ++ [32, dg x.n, 32, dg x.m])))
def It.text (x : It) : List UInt8 := x.body ++ [59]

def It.ok (x : It) : Prop :=
  isName x.a ∧ ((x.kind = 0 ∧ x.b = [] ∧ 1 ≤ x.n ∧ x.n ≤ 9 ∧ x.m = 0) ∨ (x.kind = 1 ∧ x.b = [] ∧ x.n = 0 ∧ x.m = 0) ∨ (x.kind = 2 ∧ isName x.b ∧ x.n ≤ 7 ∧ x.m ≤ 1) ∨
    (x.kind = 3 ∧ isName x.b ∧ x.n = 0 ∧ x.m = 0) ∨ (x.kind = 4 ∧ isName x.b ∧ x.n ≤ 7 ∧ x.m ≤ 7))

/-- The program's item. -/
def It.item (x : It) : Item where
  kind := x.kind
  name := ⟨x.a.toArray⟩
  host := if x.kind = 3 ∨ x.kind = 4 then ⟨x.b.toArray⟩ else ⟨#[]⟩
  number := if x.kind = 2 ∨ x.kind = 4 then x.n else 0
  disk := if x.kind = 2 then ⟨x.b.toArray⟩ else ⟨#[]⟩
  lun := if x.kind = 4 then x.m else 0
  text := ⟨x.text.toArray⟩

theorem dg_nat {n : Nat} (h : n ≤ 9) : (dg n).toNat = 48 + n := by
  unfold dg
  rw [UInt8.toNat_ofNat']
  omega

theorem dg_of {c : UInt8} {k : Nat} (h1 : (48 : Int) ≤ (c.toNat : Int)) (h2 : (c.toNat : Int) ≤ 48 + k) (hk : k ≤ 9) : ∃ n, n ≤ k ∧ c = dg n ∧ (c.toNat : Int) = 48 + n := by
  refine ⟨c.toNat - 48, by omega, ?_, by omega⟩
  apply UInt8.toNat_inj.1
  rw [dg_nat (by omega)]
  omega

theorem md_read {s : ByteArray} {st : Nat × Bool} (h : (mdS s st).2 = false) : ∃ m, m ≤ 1 ∧ st.2 = false ∧ mdS s st = (st.1 + 2, false) ∧ rest s st.1 = [114, md m] ++ rest s (st.1 + 2) := by
  unfold mdS at h ⊢
  by_cases hs : seesB s (wd s [114] st).1 111 111 = true
  · rw [if_pos hs] at h ⊢
    obtain ⟨a1, a2, a3⟩ := wd_read [111] h
    obtain ⟨b1, b2, b3⟩ := wd_read [114] a1
    rw [b2] at a2 a3
    refine ⟨0, by omega, b1, by rw [b2]; exact a2, ?_⟩
    rw [b3]
    simp only [List.length_singleton] at a3 ⊢
    rw [a3]; rfl
  · rw [if_neg hs] at h ⊢
    obtain ⟨a1, a2, a3⟩ := wd_read [119] h
    obtain ⟨b1, b2, b3⟩ := wd_read [114] a1
    rw [b2] at a2 a3
    refine ⟨1, by omega, b1, by rw [b2]; exact a2, ?_⟩
    rw [b3]
    simp only [List.length_singleton] at a3 ⊢
    rw [a3]; rfl

theorem md_gives {s : ByteArray} {p m : Nat} {r : List UInt8} (h : rest s p = [114, md m] ++ r) : mdS s (p, false) = (p + 2, false) := by
  have h1 := wd_gives [114] (p := p) (r := md m :: r) (by rw [h]; rfl)
  have r1 : rest s (p + 1) = md m :: r := rest_of (a := [114]) (by rw [h]; rfl)
  unfold mdS
  rw [h1]
  simp only [List.length_singleton]
  by_cases hm : m = 0
  · have e : md m = 111 := by simp [md, hm]
    rw [e] at r1
    have hs : seesB s (p + 1) 111 111 = true := by rw [seesB, byteAt_cons r1]; decide
    rw [if_pos hs, wd_gives [111] (p := p + 1) (r := r) r1]
    rfl
  · have e : md m = 119 := by simp [md, hm]
    rw [e] at r1
    have hs : ¬ seesB s (p + 1) 111 111 = true := by rw [seesB, byteAt_cons r1]; decide
    rw [if_neg hs, wd_gives [119] (p := p + 1) (r := r) r1]
    rfl

theorem nb_read {s : ByteArray} {st : Nat × Bool} (h : (nbS s st).2 = false) : ∃ n, n ≤ 7 ∧ st.2 = false ∧ nbS s st = (st.1 + 1, false) ∧ rest s st.1 = [dg n] ++ rest s (st.1 + 1) ∧ nbV s st = n := by
  obtain ⟨c, c1, c2, c3, c4, c5⟩ := tk_read (s := s) (lo := 48) (hi := 55) (st := st) (by omega) h
  obtain ⟨n, n1, n2, n3⟩ := dg_of (k := 7) c1 (by omega) (by omega)
  refine ⟨n, n1, c3, c4, by rw [c5, n2]; rfl, ?_⟩
  unfold nbV
  rw [if_neg (by rw [h]; simp), byteAt_cons c5]
  omega

theorem nb_gives {s : ByteArray} {p n : Nat} {r : List UInt8} (hn : n ≤ 7) (h : rest s p = [dg n] ++ r) : nbS s (p, false) = (p + 1, false) :=
  tk_gives (c := dg n) (r := r) (by rw [h]; rfl) (by rw [dg_nat (by omega)]; omega) (by rw [dg_nat (by omega)]; omega)

/-- What lies between two places. -/
theorem extract_rest {s : ByteArray} {p : Nat} {a r : List UInt8} (h : rest s p = a ++ r) : s.extract p (p + a.length) = ⟨a.toArray⟩ := by
  apply ByteArray.ext
  simp only
  rw [ByteArray.data_extract]
  apply Array.toList_inj.1
  rw [Array.toList_extract]
  simp only [List.extract_eq_take_drop]
  rw [show List.drop p s.data.toList = rest s p from rfl, h, show p + a.length - p = a.length from by omega, List.take_left]

theorem sp_no : ¬ letter 32 := by unfold letter; decide
theorem sc_no : ¬ letter 59 := by unfold letter; decide

theorem first_byte {s : ByteArray} {p : Nat} {c : UInt8} {l r : List UInt8} (h : rest s p = (c :: l) ++ r) : byteAt s p = (c.toNat : Int) := byteAt_cons (by rw [h]; rfl)

end Go.Proofs.Ytigpohommoogeaa
