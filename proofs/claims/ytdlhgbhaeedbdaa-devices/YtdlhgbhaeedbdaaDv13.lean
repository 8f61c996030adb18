/- The program's device: 32 cells are stored in its middle. -/
import Derived.Test.YtdlhgbhaeedbdaaDv11
import Derived.Deep.MidRow
namespace Go.Proofs.Ytdlhgbhaeedbdaa
open Go.RowKit

theorem ty_setCells {b : Nat} {t : TypeId} : ∀ (vs : List Value) (o : Nat) (w : World), (∃ cs fr, w.heap[b]? = some (Obj.cells cs t fr)) → ∃ cs fr, (w.setCells b o vs).heap[b]? = some (Obj.cells cs t fr)
  | [], _, _, h => h
  | v :: r, o, w, h => by rw [World.setCells]; exact ty_setCells r (o + 1) _ (ty_set h v)

theorem tk_setCells {T : TypeId → Prop} {b : Nat} {t : TypeId} (ht : T t) : ∀ (vs : List Value) (o : Nat) (w : World), (∃ cs fr, w.heap[b]? = some (Obj.cells cs t fr)) → TK T w (w.setCells b o vs)
  | [], _, w, _ => TK.refl _ w
  | v :: r, o, w, h => by
    rw [World.setCells]
    obtain ⟨cs, fr, hb⟩ := h
    exact (TK.setCell hb ht v).trans (tk_setCells ht r (o + 1) _ (ty_set ⟨cs, fr, hb⟩ v))

theorem below_setCells {b : Nat} : ∀ (vs : List Value) (o : Nat) (w : World), Below b w (w.setCells b o vs)
  | [], _, w => Below.refl _ w
  | v :: r, o, w => by
    rw [World.setCells]
    exact ((Below.refl _ _).setCell (p := ⟨b, o, none⟩) (Nat.le_refl _) v).trans (below_setCells r (o + 1) _)

theorem owns_setCells {base : Nat} {e : TypeId} {size : Nat} {v : Value} {n : Nat} {xs : List Value} {b : Nat} (hb : b < base) : ∀ (vs : List Value) (o : Nat) (w : World), w.ownsRow base e size v n xs → (w.setCells b o vs).ownsRow base e size v n xs
  | [], _, _, h => h
  | u :: r, o, w, h => by rw [World.setCells]; exact owns_setCells hb r (o + 1) _ (ownsRow_setCell_below h (a := ⟨b, o, none⟩) hb u)

theorem size_setCells {b : Nat} : ∀ (vs : List Value) (o : Nat) (w : World), (w.setCells b o vs).heap.size = w.heap.size
  | [], _, _ => rfl
  | v :: r, o, w => by rw [World.setCells, size_setCells r (o + 1)]; simp [World.setCell]

/-- A sector is laid down. -/
def upd (S : Nat → UInt8) (i : Nat) (d : List UInt8) : Nat → UInt8 := fun j => if i = j / 32 then d.getD (j % 32) 0 else S j

theorem bc_get {d : List UInt8} {j : Nat} (h : j < d.length) : (byteCells d)[j]'(by simpa [byteCells] using h) = .int .u8 (d.getD j 0).toNat := by
  simp [byteCells, List.getD, h]
theorem bc_len (d : List UInt8) : (byteCells d).length = d.length := by simp [byteCells]

theorem ApiAt.thereS {w : World} {b : Nat} {S E : Nat → UInt8} {U : List Lg} {l : Int} {d : Bool} (h : ApiAt w b S E U l d) {i : Nat} (hi : i < 64) : w.there b (i * 32) 32 := fun j hj =>
  ⟨by rw [h.cs (i * 32 + j) (by omega)]; rfl, h.fz _⟩
theorem ApiAt.thereE {w : World} {b : Nat} {S E : Nat → UInt8} {U : List Lg} {l : Int} {d : Bool} (h : ApiAt w b S E U l d) {i : Nat} (hi : i < 64) : w.there b (2048 + i * 32) 32 := fun j hj =>
  ⟨by rw [show 2048 + i * 32 + j = 2048 + (i * 32 + j) from by omega, h.ce (i * 32 + j) (by omega)]; rfl, h.fz _⟩

theorem ApiAt.setS {w : World} {b : Nat} {S E : Nat → UInt8} {U : List Lg} {l : Int} {d : Bool} (h : ApiAt w b S E U l d) {i : Nat} (hi : i < 64) {x : List UInt8} (hx : x.length = 32) :
    ApiAt (w.setCells b (i * 32) (byteCells x)) b (upd S i x) E U l d ∧ Below b w (w.setCells b (i * 32) (byteCells x)) ∧ TK AT w (w.setCells b (i * 32) (byteCells x)) := by
  have hth := h.thereS hi
  have hl : (byteCells x).length = 32 := by rw [bc_len, hx]
  have hin : ∀ j, j < 32 → (w.setCells b (i * 32) (byteCells x)).cell? ⟨b, i * 32 + j, none⟩ = some (.int .u8 (x.getD j 0).toNat) := fun j hj => by
    rw [World.cell?_setCells_in b (byteCells x) (i * 32) w (fun k hk => (hth k (by omega)).1) j (by omega), bc_get (by omega)]
  have hout : ∀ o, (o < i * 32 ∨ i * 32 + 32 ≤ o) → (w.setCells b (i * 32) (byteCells x)).cell? ⟨b, o, none⟩ = w.cell? ⟨b, o, none⟩ := fun o ho =>
    World.cell?_setCells_out b (byteCells x) (i * 32) w ⟨b, o, none⟩ (fun _ _ => by rw [hl]; exact ho)
  refine ⟨⟨ty_setCells _ _ _ h.ty, fun j hj => ?_, fun j hj => ?_, ?_, ?_, ?_, fun o => by rw [World.frozen?_setCells]; exact h.fz o, by rw [size_setCells]; exact h.lt⟩, below_setCells _ _ _, tk_setCells (.inl rfl) _ _ _ h.ty⟩
  · unfold upd
    by_cases e : i = j / 32
    · rw [if_pos e]
      have := hin (j % 32) (by omega)
      rwa [show i * 32 + j % 32 = j from by omega] at this
    · rw [if_neg e, hout j (by omega)]; exact h.cs j hj
  · rw [hout _ (by omega)]; exact h.ce j hj
  · obtain ⟨v, c, hr⟩ := h.cl
    exact ⟨v, by rw [hout _ (by omega)]; exact c, owns_setCells (by omega) _ _ _ hr⟩
  · rw [hout _ (by omega)]; exact h.c3
  · rw [hout _ (by omega)]; exact h.c4

theorem ApiAt.setE {w : World} {b : Nat} {S E : Nat → UInt8} {U : List Lg} {l : Int} {d : Bool} (h : ApiAt w b S E U l d) {i : Nat} (hi : i < 64) {x : List UInt8} (hx : x.length = 32) :
    ApiAt (w.setCells b (2048 + i * 32) (byteCells x)) b S (upd E i x) U l d ∧ Below b w (w.setCells b (2048 + i * 32) (byteCells x)) ∧ TK AT w (w.setCells b (2048 + i * 32) (byteCells x)) := by
  have hth := h.thereE hi
  have hl : (byteCells x).length = 32 := by rw [bc_len, hx]
  have hin : ∀ j, j < 32 → (w.setCells b (2048 + i * 32) (byteCells x)).cell? ⟨b, 2048 + i * 32 + j, none⟩ = some (.int .u8 (x.getD j 0).toNat) := fun j hj => by
    rw [World.cell?_setCells_in b (byteCells x) (2048 + i * 32) w (fun k hk => (hth k (by omega)).1) j (by omega), bc_get (by omega)]
  have hout : ∀ o, (o < 2048 + i * 32 ∨ 2048 + i * 32 + 32 ≤ o) → (w.setCells b (2048 + i * 32) (byteCells x)).cell? ⟨b, o, none⟩ = w.cell? ⟨b, o, none⟩ := fun o ho =>
    World.cell?_setCells_out b (byteCells x) (2048 + i * 32) w ⟨b, o, none⟩ (fun _ _ => by rw [hl]; exact ho)
  refine ⟨⟨ty_setCells _ _ _ h.ty, fun j hj => ?_, fun j hj => ?_, ?_, ?_, ?_, fun o => by rw [World.frozen?_setCells]; exact h.fz o, by rw [size_setCells]; exact h.lt⟩, below_setCells _ _ _, tk_setCells (.inl rfl) _ _ _ h.ty⟩
  · rw [hout _ (by omega)]; exact h.cs j hj
  · unfold upd
    by_cases e : i = j / 32
    · rw [if_pos e]
      have := hin (j % 32) (by omega)
      rwa [show 2048 + i * 32 + j % 32 = 2048 + j from by omega] at this
    · rw [if_neg e, hout (2048 + j) (by omega)]; exact h.ce j hj
  · obtain ⟨v, c, hr⟩ := h.cl
    exact ⟨v, by rw [hout _ (by omega)]; exact c, owns_setCells (by omega) _ _ _ hr⟩
  · rw [hout _ (by omega)]; exact h.c3
  · rw [hout _ (by omega)]; exact h.c4

theorem ApiAt.congrS {w : World} {b : Nat} {S S' E E' : Nat → UInt8} {U : List Lg} {l : Int} {d : Bool} (h : ApiAt w b S E U l d) (e : ∀ j, j < 2048 → S j = S' j) (f : ∀ j, j < 2048 → E j = E' j) : ApiAt w b S' E' U l d :=
  ⟨h.ty, fun j hj => by rw [← e j hj]; exact h.cs j hj, fun j hj => by rw [← f j hj]; exact h.ce j hj, h.cl, h.c3, h.c4, h.fz, h.lt⟩

/-- The late writes are let go. -/
theorem ApiAt.drop {w : World} {b : Nat} {S E : Nat → UInt8} {U : List Lg} {l : Int} {d : Bool} (h : ApiAt w b S E U l d) :
    ApiAt (w.setCell ⟨b, 4096, none⟩ (.slice none 0 0)) b S E [] l d ∧ Below b w (w.setCell ⟨b, 4096, none⟩ (.slice none 0 0)) ∧ TK AT w (w.setCell ⟨b, 4096, none⟩ (.slice none 0 0)) := by
  obtain ⟨⟨cs, fr, hty⟩, hs, he, ⟨v, c2, hrow⟩, c3, c4, fz, lt⟩ := h
  exact ⟨⟨ty_set ⟨cs, fr, hty⟩ _, fun j hj => cell_set_ne (hs j hj) (by omega), fun j hj => cell_set_ne (he j hj) (by omega), ⟨_, by go_simp, World.ownsRow_nil _ _ _ _⟩,
    cell_set_ne c3 (by omega), cell_set_ne c4 (by omega), fun o => by simp [fz o], by simpa [World.setCell] using lt⟩, (Below.refl _ _).setCell (p := ⟨b, 4096, none⟩) (Nat.le_refl _) _, TK.setCell hty (.inl rfl) _⟩

theorem lt_len (x : Lg) (h : x.data.size = 32) : (ltCells x).length = 33 := by
  simp only [ltCells, List.length_cons, bc_len]
  rw [Array.length_toList]
  have : x.data.data.size = x.data.size := rfl
  omega

theorem lates_get {U : List Lg} (hU : ∀ x ∈ U, x.data.size = 32) (k : Nat) (hk : k < U.length) (c : Nat) (hc : c < 33) : (latesC U)[k * 33 + c]? = (ltCells U[k])[c]? := by
  induction U generalizing k with
  | nil => simp at hk
  | cons a U ih =>
    simp only [latesC, List.flatMap_cons]
    have h33 := lt_len a (hU a (by simp))
    match k with
    | 0 => rw [List.getElem?_append_left (by omega)]; simp
    | k + 1 =>
      rw [List.getElem?_append_right (by omega), h33, show (k + 1) * 33 + c - 33 = k * 33 + c from by omega]
      exact ih (fun x hx => hU x (by simp [hx])) k (by simpa using hk)

/-- A late write, where it lies. -/
theorem lates_at {w : World} {base : Nat} {a : Option Addr} {n cap : Nat} {U : List Lg} (h : w.ownsRow base 89 33 (.slice a n cap) U.length (latesC U)) (hU : ∀ x ∈ U, x.data.size = 32) {k : Nat} (hk : k < U.length) :
    ∃ g, a = some ⟨g, 0, none⟩ ∧ n = U.length ∧ base ≤ g ∧ g < w.heap.size ∧ w.cell? ⟨g, k * 33, none⟩ = some (.int .i64 U[k].sec) ∧ w.rangeAt g (k * 33 + 1) (byteCells U[k].data.data.toList) := by
  have hh := h
  obtain ⟨_, ⟨_, h0⟩ | ⟨g, cp, cur, e, hb, hg, hc, _, _, _⟩⟩ := hh
  · omega
  · have e1 : a = some ⟨g, 0, none⟩ := by injection e
    have e2 : n = U.length := by injection e
    subst e1
    have hcl := h.cells (g := g) rfl
    refine ⟨g, rfl, e2, hb, (h.lt g rfl).2, ?_, fun j v hv => ?_⟩
    · have := hcl (k * 33) (.int .i64 U[k].sec) (by rw [show k * 33 = k * 33 + 0 from rfl, lates_get hU k hk 0 (by omega)]; rfl)
      rwa [addr_add] at this
    · have hj : j < 32 := by
        have := (List.getElem?_eq_some_iff.1 hv).1
        rw [bc_len, Array.length_toList] at this
        have h2 : U[k].data.data.size = U[k].data.size := rfl
        have := hU U[k] (List.getElem_mem hk)
        omega
      have := hcl (k * 33 + (1 + j)) v (by rw [lates_get hU k hk (1 + j) (by omega)]; show (ltCells U[k])[1 + j]? = some v; rw [Nat.add_comm]; exact hv)
      rw [addr_add] at this
      rw [show k * 33 + 1 + j = k * 33 + (1 + j) from by omega]
      exact this

end Go.Proofs.Ytdlhgbhaeedbdaa
