/- Sd1, Sd14, Texts. -/
import Derived.Test.YtdlhgbhaeedbdabGreatM22
import Derived.Test.YtdlhgbhaeedbdabGreatRows
import Derived.ProofKit
import Derived.OpenShut
import Derived.Deep.Slices
import Derived.Test.YtdlhgbhaeedbdabGreatM18

/- The law Stored: 'call', 'same', 'sees', 'wants'. -/
namespace Go.Proofs.YtdlhgbhaeedbdabGreat
open Go.RowKit

/-- What a call tells. -/
structure Td where
  n : Int
  l : List Int
  e : Int

/-- A call of a session. -/
structure Iox where
  K : Int
  N : Int
  B : Int
  V : Int
  S : Int
  W : Int

def ioCells (o : Iox) : Array Value := #[.int .i64 o.K, .int .i64 o.N, .int .i64 o.B, .int .i64 o.V, .int .i64 o.S, .int .i64 o.W]

structure IoAt (w : World) (g o : Nat) (x : Iox) : Prop where
  c0 : w.cell? ⟨g, o, none⟩ = some (.int .i64 x.K)
  c1 : w.cell? ⟨g, o + 1, none⟩ = some (.int .i64 x.N)
  c2 : w.cell? ⟨g, o + 2, none⟩ = some (.int .i64 x.B)
  c3 : w.cell? ⟨g, o + 3, none⟩ = some (.int .i64 x.V)
  c4 : w.cell? ⟨g, o + 4, none⟩ = some (.int .i64 x.S)
  c5 : w.cell? ⟨g, o + 5, none⟩ = some (.int .i64 x.W)

theorem IoAt.below {B : Nat} {w w' : World} {g o : Nat} {x : Iox} (h : IoAt w g o x) (hb : Below B w w') (hg : g < B) : IoAt w' g o x :=
  ⟨(hb.cell (p := ⟨g, o, none⟩) hg).trans h.c0, (hb.cell (p := ⟨g, o + 1, none⟩) hg).trans h.c1, (hb.cell (p := ⟨g, o + 2, none⟩) hg).trans h.c2, (hb.cell (p := ⟨g, o + 3, none⟩) hg).trans h.c3, (hb.cell (p := ⟨g, o + 4, none⟩) hg).trans h.c4, (hb.cell (p := ⟨g, o + 5, none⟩) hg).trans h.c5⟩

/-- A list of numbers in memory, in blocks from base on. -/
def NumsAt (w : World) (base : Nat) (v : Value) (l : List Int) : Prop :=
  (l = [] ∧ ∃ a c, v = .slice a 0 c) ∨ ∃ g cap, v = .slice (some ⟨g, 0, none⟩) l.length cap ∧ base ≤ g ∧ g < w.heap.size ∧ l.length ≤ cap ∧ ∀ i (h : i < l.length), w.cell? ⟨g, i, none⟩ = some (.int .i64 l[i])

theorem NumsAt.of_owns {w : World} {base : Nat} {v : Value} {l : List Int} (h : w.ownsRow base 3 1 v l.length (l.map (Value.int .i64))) : NumsAt w base v l := by
  obtain ⟨_, ⟨rfl, h0⟩ | ⟨g, cap, cur, rfl, hb, hg, hc, _, _, _⟩⟩ := id h
  · exact .inl ⟨List.length_eq_zero_iff.1 h0, none, 0, rfl⟩
  · refine .inr ⟨g, cap, rfl, hb, (Array.getElem?_eq_some_iff.1 hg).1, hc, fun i hi => ?_⟩
    have := h.cells (g := g) rfl i (.int .i64 l[i]) (by simp [hi])
    rwa [addr_add] at this

theorem NumsAt.nil (w : World) (base : Nat) : NumsAt w base (.slice none 0 0) [] := .inl ⟨rfl, none, 0, rfl⟩

theorem NumsAt.keep {B base : Nat} {w w' : World} {v : Value} {l : List Int} (h : NumsAt w base v l) (hb : Below B w w') (hB : w.heap.size ≤ B) : NumsAt w' base v l := by
  rcases h with h | ⟨g, cap, rfl, h1, h2, h3, h4⟩
  · exact .inl h
  · exact .inr ⟨g, cap, rfl, h1, Nat.lt_of_lt_of_le h2 hb.size, h3, fun i hi => (hb.cell (p := ⟨g, i, none⟩) (Nat.lt_of_lt_of_le h2 hB)).trans (h4 i hi)⟩

/-- What a rack's call tells, and what it leaves. -/
def tdR (H : Hs) (l : List Item) (s : Int) (o : Iox) : Td :=
  if o.K = 1 then ⟨0, (lsR H l s).1, (lsR H l s).2⟩
  else if o.K = 2 then ⟨(rdR H l s o.N o.B).1, [], (rdR H l s o.N o.B).2⟩
  else if o.K = 3 then ⟨0, [], wrR H l s o.N o.B o.V⟩
  else ⟨0, [], rsR H l s o.N⟩
def tdH (H : Hs) (l : List Item) (s : Int) (o : Iox) : Hs :=
  if o.K = 1 then H else if o.K = 2 then H else if o.K = 3 then wrH H l s o.N o.B o.V else if o.K = 4 then rsH H l s o.N else rlH H l s o.N

/-- What 'call' leaves: what is told, and the rack's call behind it. -/
def TellEnd (r b : Nat) (l : List Item) (did left : List (Bool × Item)) (v : Value) (B : List Bk) (H' : Hs) (t : Td) (w : World) (e : Ending) (w' : World) : Prop :=
  ∃ u, e = .returned (.agg #[.int .i64 t.n, u, .int .i64 t.e]) ∧ NumsAt w' w.heap.size u t.l ∧ CallEnd r b l did left v B H' (.tuple #[]) w (.returned (.tuple #[])) w'

theorem below_set3 {B : Nat} {a w : World} (h : Below B a w) {g : Nat} (hg : B ≤ g) (u0 u1 u2 : Value) : Below B a (((w.setCell ⟨g, 0, none⟩ u0).setCell ⟨g, 1, none⟩ u1).setCell ⟨g, 2, none⟩ u2) :=
  ((h.setCell (p := ⟨g, 0, none⟩) hg u0).setCell (p := ⟨g, 1, none⟩) hg u1).setCell (p := ⟨g, 2, none⟩) hg u2

def zTd : Array Value := #[.int .i64 0, .slice none 0 0, .int .i64 0]

theorem td_cells {w : World} {b : Nat} (hb : w.heap[b]? = some (.cells zTd 47 (0, 0))) : w.cell? ⟨b, 0, none⟩ = some (.int .i64 0) ∧ w.cell? ⟨b, 1, none⟩ = some (.slice none 0 0) ∧ w.cell? ⟨b, 2, none⟩ = some (.int .i64 0) ∧ ∀ o, w.frozen? ⟨b, o, none⟩ = false := by
  refine ⟨?_, ?_, ?_, fun o => ?_⟩ <;> simp [World.cell?, World.frozen?, hb, zTd]

/-- The types of what the law writes. -/
def KTd (t : TypeId) : Prop := t = 47
theorem nh_td : NH KTd := ⟨by unfold KTd; decide, by unfold KTd; decide, by unfold KTd; decide, by unfold KTd; decide⟩

theorem td_tk {w : World} {b : Nat} (hb : ∃ cs fr, w.heap[b]? = some (.cells cs 47 fr)) (u0 u1 u2 : Value) : TK KTd w (((w.setCell ⟨b, 0, none⟩ u0).setCell ⟨b, 1, none⟩ u1).setCell ⟨b, 2, none⟩ u2) := by
  have key : ∀ (w : World) (o : Nat) (u : Value), (∃ cs fr, w.heap[b]? = some (Obj.cells cs 47 fr)) → TK KTd w (w.setCell ⟨b, o, none⟩ u) := by
    rintro w o u ⟨cs, fr, h⟩
    exact TK.setCell (T := KTd) h rfl u
  have h1 := ty_set (o := 0) hb u0
  have h2 := ty_set (o := 1) h1 u1
  exact ((key _ 0 u0 hb).trans (key _ 1 u1 h1)).trans (key _ 2 u2 h2)

/-- A rack's call inside a call of the law's. -/
theorem CallEnd.wrap {r b : Nat} {l : List Item} {did left : List (Bool × Item)} {v : Value} {B : List Bk} {H' : Hs} {x : Value} {w W2 w3 w4 : World} {e : Ending} (hbw : b ≤ w.heap.size) (h1 : Below w.heap.size w W2) (hc : CallEnd r b l did left v B H' x W2 e w3) (hk : TK KTd w3 w4) (hb : Below w.heap.size w3 w4) :
    CallEnd r b l did left v B H' (.tuple #[]) w (.returned (.tuple #[])) w4 := by
  obtain ⟨_, ⟨B', h3, h4, h5⟩, hR, htk, hbe, hfr⟩ := hc
  have hs1 := h1.size
  have hs3 := htk.size
  refine ⟨rfl, ⟨B', h3, h4.keep hk (by unfold KTd; decide) (by unfold KTd; decide) (by unfold KTd; decide), h5⟩, hR.keep hk (by unfold KTd; decide) (by unfold KTd; decide) (by unfold KTd; decide) nh_td, ?_, ?_, ?_⟩
  · refine ⟨hk.os.trans (htk.os.trans h1.os), hk.tape.trans (htk.tape.trans h1.tape), hk.output.trans (htk.output.trans h1.output), by have := hk.size; omega, fun k cs t fr hkk ht => ?_⟩
    have hklt : k < w.heap.size := (Array.getElem?_eq_some_iff.1 hkk).1
    have e1 := h1.block k hklt
    have e2 := htk.block k cs t fr (e1.trans hkk) ht
    exact (hb.block k hklt).trans (e2.trans e1)
  · exact ((h1.mono hbw).trans hbe).trans (hb.mono hbw)
  · intro k hkl hno
    exact (hb.block k hkl).trans ((hfr k (by omega) hno).trans (h1.block k hkl))

/-- What the law lays ahead of a rack's call. -/
def callW (w : World) (o : Iox) : World := (w.alloc (.cells #[.int .i64 o.K, .int .i64 o.N, .int .i64 o.B, .int .i64 o.V, .int .i64 o.S, .int .i64 o.W] 44)).alloc (.cells #[.int .i64 0, .slice none 0 0, .int .i64 0] 47)

theorem callW_facts (w : World) (o : Iox) : Below w.heap.size w (callW w o) ∧ (callW w o).heap.size = w.heap.size + 2 ∧ (callW w o).heap[w.heap.size + 1]? = some (.cells zTd 47 (0, 0)) ∧ IoAt (callW w o) w.heap.size 0 o := by
  refine ⟨((Below.refl _ _).alloc (Nat.le_refl _) _).alloc (by simp) _, by simp [callW], ?_, ?_⟩
  · have := heap_alloc_new (w.alloc (.cells #[.int .i64 o.K, .int .i64 o.N, .int .i64 o.B, .int .i64 o.V, .int .i64 o.S, .int .i64 o.W] 44)) (.cells zTd 47)
    rw [show (w.alloc (.cells #[.int .i64 o.K, .int .i64 o.N, .int .i64 o.B, .int .i64 o.V, .int .i64 o.S, .int .i64 o.W] 44)).heap.size = w.heap.size + 1 from by simp] at this
    exact this
  · constructor <;> (unfold callW; go_simp)

theorem IoAt.zero {w : World} {g : Nat} {o : Iox} (h : IoAt w g 0 o) : w.cell? ⟨g, 0, none⟩ = some (.int .i64 o.K) ∧ w.cell? ⟨g, 1, none⟩ = some (.int .i64 o.N) ∧ w.cell? ⟨g, 2, none⟩ = some (.int .i64 o.B) ∧ w.cell? ⟨g, 3, none⟩ = some (.int .i64 o.V) := by
  obtain ⟨c0, c1, c2, c3, _, _⟩ := h
  simp only [Nat.zero_add] at c1 c2 c3
  exact ⟨c0, c1, c2, c3⟩

/-- How 'call' ends, behind a rack's call. -/
theorem tell_end {r b : Nat} {l : List Item} {did left : List (Bool × Item)} {v : Value} {B : List Bk} {H' : Hs} {x : Value} {w w3 : World} {o : Iox} {e : Ending} (hbw : b ≤ w.heap.size) (hc : CallEnd r b l did left v B H' x (callW w o) e w3) {n m : Int} {u : Value} {L : List Int} (hu : NumsAt w3 (w.heap.size + 2) u L) :
    (w3.cell? ⟨w.heap.size + 1, 0, none⟩ = some (.int .i64 0) ∧ w3.cell? ⟨w.heap.size + 1, 1, none⟩ = some (.slice none 0 0) ∧ w3.cell? ⟨w.heap.size + 1, 2, none⟩ = some (.int .i64 0) ∧ ∀ o, w3.frozen? ⟨w.heap.size + 1, o, none⟩ = false) ∧
    TellEnd r b l did left v B H' ⟨n, L, m⟩ w (.returned (.agg #[.int .i64 n, u, .int .i64 m])) (((w3.setCell ⟨w.heap.size + 1, 0, none⟩ (.int .i64 n)).setCell ⟨w.heap.size + 1, 1, none⟩ u).setCell ⟨w.heap.size + 1, 2, none⟩ (.int .i64 m)) := by
  obtain ⟨f1, f2, f3, f4⟩ := callW_facts w o
  have htk := hc.2.2.2.1
  have hblk := (htk.block _ _ _ _ f3 (by unfold KD; decide)).trans f3
  refine ⟨td_cells hblk, u, rfl, ?_, hc.wrap hbw f1 (td_tk ⟨_, _, hblk⟩ _ _ _) (below_set3 (Below.refl _ _) (by omega) _ _ _)⟩
  rcases hu with h | ⟨g, cap, rfl, h1, h2, h3, h4⟩
  · exact .inl h
  · refine .inr ⟨g, cap, rfl, by omega, by simp [World.setCell]; omega, h3, fun i hi => ?_⟩
    have hcell := h4 i hi
    rw [World.cell?_setCell_other _ _ _ _ (by intro e; simp only [Addr.mk.injEq] at e; omega), World.cell?_setCell_other _ _ _ _ (by intro e; simp only [Addr.mk.injEq] at e; omega), World.cell?_setCell_other _ _ _ _ (by intro e; simp only [Addr.mk.injEq] at e; omega)]
    exact hcell

set_option maxRecDepth 100000 in
set_option maxHeartbeats 800000 in
theorem call_any (r b : Nat) (l : List Item) (did left : List (Bool × Item)) (H : Hs) (s : Int) (o : Iox) (v : Value) (B : List Bk) (w : World) (hl : l.length ≤ 24) (h8 : H.ses.length ≤ 8) (hB8 : B.length ≤ 1000) (hnew : noNews H) (h : RackF w r b l did left H) (hc2 : w.cell? ⟨r, 2, none⟩ = some v) (hB : BankAt w (b + 1) v B) (hBD : B.map Bk.d = H.disks) :
    Calls Tryz.prog 15 #[.pointer (some ⟨r, 0, none⟩), .int .i64 s, .agg #[.int .i64 o.K, .int .i64 o.N, .int .i64 o.B, .int .i64 o.V, .int .i64 o.S, .int .i64 o.W]] w fun e w' => TellEnd r b l did left v B (tdH H l s o) (tdR H l s o) w e w' := by
  obtain ⟨f1, f2, f3, f4⟩ := callW_facts w o
  have hbw : b ≤ w.heap.size := by have := h.lt; have := h.br; omega
  have hR := h.later f1
  have hc2' := (f1.cell (p := ⟨r, 2, none⟩) h.lt).trans hc2
  have hB' := hB.keep (T := fun _ => False) (TK.of_below f1) id id id
  obtain ⟨i0, i1, i2, i3⟩ := f4.zero
  have HE := hide fun (w3 : World) (H' : Hs) (x : Value) (e : Ending) (n m : Int) (u : Value) (L : List Int) hc hu => tell_end (r := r) (b := b) (l := l) (did := did) (left := left) (v := v) (B := B) (H' := H') (x := x) (w := w) (w3 := w3) (o := o) (e := e) hbw hc (n := n) (m := m) (u := u) (L := L) hu
  unfold tdR tdH
  by_cases k1 : o.K = 1
  · rw [if_pos k1, if_pos k1]
    have k1' : (o.K == 1) = true := by simpa using k1
    have HL := hide (rlist_any r b l did left H s (callW w o) hl h8 hnew hR)
    have HQ := hide fun wx hb => CallEnd.quiet (x := .tuple #[]) (w' := wx) hR hB' hBD hb
    clear h hR hc2 hc2' hB hB' f3 f4 i1 i2 i3 k1
    unfold callW at *
    go_enter Tryz.func15, Tryz.ntmps15
    go_wp2_with fail
    generalize hW : (w.alloc (.cells #[.int .i64 o.K, .int .i64 o.N, .int .i64 o.B, .int .i64 o.V, .int .i64 o.S, .int .i64 o.W] 44)).alloc (.cells #[.int .i64 0, .slice none 0 0, .int .i64 0] 47) = W2 at *
    refine (unhide HL).mono ?_
    rintro e w3 ⟨u, rfl, hown, hb3⟩
    rw [f2] at hown
    obtain ⟨⟨z0, z1, z2, zf⟩, hT⟩ := unhide HE w3 H _ _ 0 (lsR H l s).2 u (lsR H l s).1 (unhide HQ w3 hb3) (NumsAt.of_owns hown)
    obtain ⟨ua, uc, rfl⟩ := slice_of_owns hown
    have HT := hide hT
    clear hT HL HQ HE hown hb3 f1 f2 i0 hW
    go_wp2_with fail
    refine bodyPost_ret (v := .agg #[.int .i64 0, .slice ua (lsR H l s).1.length uc, .int .i64 (lsR H l s).2]) (by simp [results, Tryz.results15, go_sem, z0, z1, z2]) rfl ?_
    exact unhide HT
  · rw [if_neg k1, if_neg k1]
    have k1' : (o.K == 1) = false := by simpa using k1
    by_cases k2 : o.K = 2
    · rw [if_pos k2, if_pos k2]
      have k2' : (o.K == 2) = true := by simpa using k2
      have HL := hide (rread_rack r b l did left H s o.N o.B v B (callW w o) hl h8 hB8 hnew hR hc2' hB' hBD)
      clear h hR hc2 hc2' hB hB' f3 f4 i3 k1 k2
      unfold callW at *
      go_enter Tryz.func15, Tryz.ntmps15
      go_wp2_with fail
      generalize hW : (w.alloc (.cells #[.int .i64 o.K, .int .i64 o.N, .int .i64 o.B, .int .i64 o.V, .int .i64 o.S, .int .i64 o.W] 44)).alloc (.cells #[.int .i64 0, .slice none 0 0, .int .i64 0] 47) = W2 at *
      refine (unhide HL).mono ?_
      rintro e w3 ⟨rfl, hE⟩
      obtain ⟨⟨z0, z1, z2, zf⟩, hT⟩ := unhide HE w3 _ (.tuple #[]) (.returned (.tuple #[])) (rdR H l s o.N o.B).1 (rdR H l s o.N o.B).2 (.slice none 0 0) [] ⟨rfl, hE⟩ (NumsAt.nil _ _)
      have HT := hide hT
      clear hT HL HE hE f1 f2 i0 i1 i2 hW
      go_wp2_with fail
      refine bodyPost_ret (v := .agg #[.int .i64 (rdR H l s o.N o.B).1, .slice none 0 0, .int .i64 (rdR H l s o.N o.B).2]) (by simp [results, Tryz.results15, go_sem, z0, z1, z2]) rfl ?_
      exact unhide HT
    · rw [if_neg k2, if_neg k2]
      have k2' : (o.K == 2) = false := by simpa using k2
      by_cases k3 : o.K = 3
      · rw [if_pos k3, if_pos k3]
        have k3' : (o.K == 3) = true := by simpa using k3
        have HL := hide (rwrite_rack r b l did left H s o.N o.B o.V v B (callW w o) hl h8 hB8 hnew hR hc2' hB' hBD)
        clear h hR hc2 hc2' hB hB' f3 f4 k1 k2 k3
        unfold callW at *
        go_enter Tryz.func15, Tryz.ntmps15
        go_wp2_with fail
        generalize hW : (w.alloc (.cells #[.int .i64 o.K, .int .i64 o.N, .int .i64 o.B, .int .i64 o.V, .int .i64 o.S, .int .i64 o.W] 44)).alloc (.cells #[.int .i64 0, .slice none 0 0, .int .i64 0] 47) = W2 at *
        refine (unhide HL).mono ?_
        rintro e w3 ⟨rfl, hE⟩
        obtain ⟨⟨z0, z1, z2, zf⟩, hT⟩ := unhide HE w3 _ (.tuple #[]) (.returned (.tuple #[])) 0 (wrR H l s o.N o.B o.V) (.slice none 0 0) [] ⟨rfl, hE⟩ (NumsAt.nil _ _)
        have HT := hide hT
        clear hT HL HE hE f1 f2 i0 i1 i2 i3 hW
        go_wp2_with fail
        refine bodyPost_ret (v := .agg #[.int .i64 0, .slice none 0 0, .int .i64 (wrR H l s o.N o.B o.V)]) (by simp [results, Tryz.results15, go_sem, z0, z1, z2]) rfl ?_
        exact unhide HT
      · rw [if_neg k3, if_neg k3]
        have k3' : (o.K == 3) = false := by simpa using k3
        by_cases k4 : o.K = 4
        · rw [if_pos k4]
          have k4' : (o.K == 4) = true := by simpa using k4
          have HL := hide (rreserve_rack r b l did left H s o.N v B (callW w o) hl h8 hB8 hnew hR hc2' hB' hBD)
          clear h hR hc2 hc2' hB hB' f3 f4 k1 k2 k3 k4
          unfold callW at *
          go_enter Tryz.func15, Tryz.ntmps15
          go_wp2_with fail
          generalize hW : (w.alloc (.cells #[.int .i64 o.K, .int .i64 o.N, .int .i64 o.B, .int .i64 o.V, .int .i64 o.S, .int .i64 o.W] 44)).alloc (.cells #[.int .i64 0, .slice none 0 0, .int .i64 0] 47) = W2 at *
          refine (unhide HL).mono ?_
          rintro e w3 ⟨rfl, hE⟩
          obtain ⟨⟨z0, z1, z2, zf⟩, hT⟩ := unhide HE w3 _ (.tuple #[]) (.returned (.tuple #[])) 0 (rsR H l s o.N) (.slice none 0 0) [] ⟨rfl, hE⟩ (NumsAt.nil _ _)
          have HT := hide hT
          clear hT HL HE hE f1 f2 i0 i1 i2 i3 hW
          go_wp2_with fail
          refine bodyPost_ret (v := .agg #[.int .i64 0, .slice none 0 0, .int .i64 (rsR H l s o.N)]) (by simp [results, Tryz.results15, go_sem, z0, z1, z2]) rfl ?_
          exact unhide HT
        · rw [if_neg k4]
          have k4' : (o.K == 4) = false := by simpa using k4
          have HL := hide (rrelease_rack r b l did left H s o.N v B (callW w o) hl h8 hB8 hnew hR hc2' hB' hBD)
          clear h hR hc2 hc2' hB hB' f3 f4 k1 k2 k3 k4
          unfold callW at *
          go_enter Tryz.func15, Tryz.ntmps15
          go_wp2_with fail
          generalize hW : (w.alloc (.cells #[.int .i64 o.K, .int .i64 o.N, .int .i64 o.B, .int .i64 o.V, .int .i64 o.S, .int .i64 o.W] 44)).alloc (.cells #[.int .i64 0, .slice none 0 0, .int .i64 0] 47) = W2 at *
          refine (unhide HL).mono ?_
          rintro e w3 ⟨rfl, hE⟩
          obtain ⟨⟨z0, z1, z2, zf⟩, hT⟩ := unhide HE w3 _ (.tuple #[]) (.returned (.tuple #[])) 0 (rsR H l s o.N) (.slice none 0 0) [] ⟨rfl, hE⟩ (NumsAt.nil _ _)
          have HT := hide hT
          clear hT HL HE hE f1 f2 i0 i1 i2 i3 hW
          go_wp2_with fail
          refine bodyPost_ret (v := .agg #[.int .i64 0, .slice none 0 0, .int .i64 (rsR H l s o.N)]) (by simp [results, Tryz.results15, go_sem, z0, z1, z2]) rfl ?_
          exact unhide HT

end Go.Proofs.YtdlhgbhaeedbdabGreat

/- A script of Stored (and of Calm) opened: its calls by their cells. -/
namespace Go.Proofs.YtdlhgbhaeedbdabGreat
open Go.ChangeShapes Go.WideShapes Go.ChangeAt Go.RowKit

theorem cellsIo : Tryz.prog.cellsOf 44 = 6 := by kernel_rfl
theorem cellsInt3 : Tryz.prog.cellsOf 3 = 1 := by kernel_rfl

set_option maxRecDepth 100000 in
theorem io_cells {H : Type} {enc : TypeId × Value → H} {w : World} {base : Nat} {spare : Nat → Bool} {held : Bool} {fuel : Nat} {cs : List Value} {x : DataW H × List MemPlace}
    (h : DataW.trod enc Tryz.prog w base spare held fuel 44 cs = some x) :
    ∃ o : Iox, cs = [.int .i64 o.K, .int .i64 o.N, .int .i64 o.B, .int .i64 o.V, .int .i64 o.S, .int .i64 o.W] ∧ (Lit.int .i64 o.S).wf = true ∧ (Lit.int .i64 o.W).wf = true := by
  obtain ⟨xs, n, _, rfl, hl, hlen, hf⟩ := DataW.trod_struct Tryz.underlying44 h
  rw [cellsIo] at hl
  match cs, hl with
  | [v0, v1, v2, v3, v4, v5], _ =>
    match xs, hlen with
    | [y0, y1, y2, y3, y4, y5], _ =>
      have h0 : DataW.trod enc Tryz.prog w base spare held n 3 (([v0, v1, v2, v3, v4, v5].drop 0).take (Tryz.prog.cellsOf 3)) = some y0 := hf 0 _ rfl
      rw [cellsInt3] at h0
      have h1 : DataW.trod enc Tryz.prog w base spare held n 3 (([v0, v1, v2, v3, v4, v5].drop 1).take (Tryz.prog.cellsOf 3)) = some y1 := hf 1 _ rfl
      rw [cellsInt3] at h1
      have h2 : DataW.trod enc Tryz.prog w base spare held n 3 (([v0, v1, v2, v3, v4, v5].drop 2).take (Tryz.prog.cellsOf 3)) = some y2 := hf 2 _ rfl
      rw [cellsInt3] at h2
      have h3 : DataW.trod enc Tryz.prog w base spare held n 3 (([v0, v1, v2, v3, v4, v5].drop 3).take (Tryz.prog.cellsOf 3)) = some y3 := hf 3 _ rfl
      rw [cellsInt3] at h3
      have h4 : DataW.trod enc Tryz.prog w base spare held n 3 (([v0, v1, v2, v3, v4, v5].drop 4).take (Tryz.prog.cellsOf 3)) = some y4 := hf 4 _ rfl
      rw [cellsInt3] at h4
      have h5 : DataW.trod enc Tryz.prog w base spare held n 3 (([v0, v1, v2, v3, v4, v5].drop 5).take (Tryz.prog.cellsOf 3)) = some y5 := hf 5 _ rfl
      rw [cellsInt3] at h5
      obtain ⟨K, e0, _, g0⟩ := DataW.trod_int Tryz.underlying3 h0
      obtain ⟨N, e1, _, g1⟩ := DataW.trod_int Tryz.underlying3 h1
      obtain ⟨B, e2, _, g2⟩ := DataW.trod_int Tryz.underlying3 h2
      obtain ⟨V, e3, _, g3⟩ := DataW.trod_int Tryz.underlying3 h3
      obtain ⟨S, e4, _, g4⟩ := DataW.trod_int Tryz.underlying3 h4
      obtain ⟨W, e5, _, g5⟩ := DataW.trod_int Tryz.underlying3 h5
      simp at e0 e1 e2 e3 e4 e5
      exact ⟨⟨K, N, B, V, S, W⟩, by simp [e0, e1, e2, e3, e4, e5], g4, g5⟩

set_option maxRecDepth 100000 in
theorem ios_open {H : Type} {enc : TypeId × Value → H} {W : World} {a0 : Option Addr} {len cap : Nat} {d0 : DataW H} {p : List MemPlace}
    (h0 : DataW.Trod enc Tryz.prog W 0 (fun _ => true) true 25 (.slice a0 len cap) d0 p) (hlt : ∀ x ∈ p, x.block < W.heap.size) :
    ∃ f : Nat → Iox, (∀ i, i < len → (Lit.int .i64 (f i).S).wf = true ∧ (Lit.int .i64 (f i).W).wf = true) ∧ (len = 0 ∨ ∃ g o, a0 = some ⟨g, o, none⟩ ∧ g < W.heap.size ∧ ∀ i, i < len → IoAt W g (o + i * 6) (f i)) := by
  obtain ⟨fuel, hf⟩ := h0
  rcases Go.Deep.open_slice Tryz.underlying25 hf with ⟨hcs, hx⟩ | ⟨a, len', cap', m, n, D, Pl, hcs, _, hl, hm, hmm, hx, hel⟩
  · simp [Value.cells] at hcs
    exact ⟨fun _ => ⟨0, 0, 0, 0, 0, 0⟩, fun i hi => by omega, .inl hcs.2.1⟩
  · simp [Value.cells] at hcs
    obtain ⟨rfl, rfl, rfl⟩ := hcs
    simp only [if_true] at hmm
    subst hmm
    by_cases hz : len = 0
    · exact ⟨fun _ => ⟨0, 0, 0, 0, 0, 0⟩, fun i hi => by omega, .inl hz⟩
    simp only [Prod.mk.injEq] at hx
    obtain ⟨_, rfl⟩ := hx
    rw [cellsIo] at hel hlt
    haveI : Inhabited Iox := ⟨⟨0, 0, 0, 0, 0, 0⟩⟩
    obtain ⟨f, hF⟩ := Go.Deep.choose_lt (α := Iox) (n := len) (p := fun i x => (∀ c, c < 6 → W.cell? ((a.add (i * 6)).add c) = [Value.int .i64 x.K, .int .i64 x.N, .int .i64 x.B, .int .i64 x.V, .int .i64 x.S, .int .i64 x.W][c]?) ∧ (Lit.int .i64 x.S).wf = true ∧ (Lit.int .i64 x.W).wf = true) (fun i hi => by
      obtain ⟨cs', h1, h2⟩ := hel i (by omega)
      obtain ⟨x, rfl, hxs⟩ := io_cells h2
      exact ⟨x, (World.cells?_some h1).2.2, hxs⟩)
    obtain ⟨g, o, spot⟩ := a
    have hspot : spot = none := by
      have := (hF 0 (by omega)).1 0 (by omega)
      simpa [Addr.add] using World.cell?_spot this
    subst hspot
    refine ⟨f, fun i hi => (hF i hi).2, .inr ⟨g, o, rfl, hlt (.cell g o) (List.mem_append.2 (.inl (MemPlace.mem_row.2 ⟨0, by omega, by simp⟩))), fun i hi => ?_⟩⟩
    have hc := (hF i hi).1
    simp only [add_plain] at hc
    exact ⟨hc 0 (by omega), hc 1 (by omega), hc 2 (by omega), hc 3 (by omega), hc 4 (by omega), hc 5 (by omega)⟩

theorem bytesIo : Tryz.prog.bytesOf 44 = 48 := by kernel_rfl

end Go.Proofs.YtdlhgbhaeedbdabGreat

/- The small functions on texts and lists of texts: 'begins', 'rank', 'in', 'joined', 'pick', 'ordered'. -/
namespace Go.Proofs.YtdlhgbhaeedbdabGreat
open Go.RowKit

/-- The texts l lie in block g from offset o on. -/
def StrsIn (w : World) (g o : Nat) (l : List ByteArray) : Prop := g < w.heap.size ∧ ∀ i (h : i < l.length), w.cell? ⟨g, o + i, none⟩ = some (.string l[i])

theorem StrsIn.below {B : Nat} {w w' : World} {g o : Nat} {l : List ByteArray} (h : StrsIn w g o l) (hb : Below B w w') (hg : g < B) : StrsIn w' g o l :=
  ⟨Nat.lt_of_lt_of_le h.1 hb.size, fun i hi => (hb.cell (p := ⟨g, o + i, none⟩) hg).trans (h.2 i hi)⟩

theorem StrsIn.later {w w' : World} {g o : Nat} {l : List ByteArray} (h : StrsIn w g o l) (hb : Below w.heap.size w w') : StrsIn w' g o l := h.below hb h.1

theorem StrsIn.drop {w : World} {g o : Nat} {l : List ByteArray} (h : StrsIn w g o l) (k : Nat) : StrsIn w g (o + k) (l.drop k) :=
  ⟨h.1, fun i hi => by
    have := h.2 (k + i) (by simp at hi; omega)
    rw [List.getElem_drop]
    rw [show o + k + i = o + (k + i) from by omega]
    exact this⟩

theorem StrsIn.take {w : World} {g o : Nat} {l : List ByteArray} (h : StrsIn w g o l) (k : Nat) : StrsIn w g o (l.take k) :=
  ⟨h.1, fun i hi => by
    have := h.2 i (by simp at hi; omega)
    rw [List.getElem_take]
    exact this⟩

/-- v is a list of the texts l. -/
def StrsAt (w : World) (v : Value) (l : List ByteArray) : Prop :=
  (v = .slice none 0 0 ∧ l = []) ∨ ∃ g cap, v = .slice (some ⟨g, 0, none⟩) l.length cap ∧ l.length ≤ cap ∧ StrsIn w g 0 l

theorem strs_of_owns {w : World} {base : Nat} {v : Value} {l : List ByteArray} (h : w.ownsRow base 9 1 v l.length (strVals l)) : StrsAt w v l := by
  have hh := h
  obtain ⟨_, ⟨rfl, h0⟩ | ⟨g, cap, cur, rfl, hb, hg, hc, _, _, _⟩⟩ := hh
  · exact Or.inl ⟨rfl, List.length_eq_zero_iff.1 h0⟩
  · refine Or.inr ⟨g, cap, rfl, hc, (h.lt g rfl).2, fun i hi => ?_⟩
    have := h.cells (g := g) rfl i (.string l[i]) (by simp [strVals, List.getElem?_eq_getElem hi])
    rw [addr_add] at this
    rw [Nat.zero_add]
    exact this

/-- Does s begin with t? -/
def begB (s t : ByteArray) : Bool := decide (t.size ≤ s.size) && ((s.extract 0 t.size).toList == t.toList)

set_option maxHeartbeats 400000 in
theorem begins_any (s t : ByteArray) (w : World) (_hs : s.size ≤ 1000000) (_ht : t.size ≤ 1000000) :
    Calls Tryz.prog 57 #[.string s, .string t] w fun e w' => e = .returned (.bool (begB s t)) ∧ w' = w := by
  by_cases h : t.size ≤ s.size
  · have h' : (t.size : Int) ≤ (s.size : Int) := by omega
    have hf : begB s t = ((s.extract 0 t.size).toList == t.toList) := by simp [begB, h]
    rw [hf]
    go_enter Tryz.func57, Tryz.ntmps57
    go_wp2
    go_ret
    exact ⟨rfl, rfl⟩
  · have h' : ¬ (t.size : Int) ≤ (s.size : Int) := by omega
    have hf : begB s t = false := by simp [begB, h]
    rw [hf]
    go_enter Tryz.func57, Tryz.ntmps57
    go_wp2
    go_ret
    exact ⟨rfl, rfl⟩

def rankB (p : ByteArray) : Nat :=
  if begB p ⟨#[100, 105, 115, 107, 32]⟩ then 0 else if begB p ⟨#[116, 97, 114, 103, 101, 116, 32]⟩ then 1 else if begB p ⟨#[108, 117, 110, 32]⟩ then 2 else if begB p ⟨#[104, 111, 115, 116, 32]⟩ then 3 else 4

set_option maxHeartbeats 400000 in
theorem rank_any (p : ByteArray) (w : World) (hp : p.size ≤ 1000000) :
    Calls Tryz.prog 25 #[.string p] w fun e w' => e = .returned (.int .i64 (rankB p : Nat)) ∧ w' = w := by
  have B : ∀ t : ByteArray, t.size ≤ 1000000 → Calls Tryz.prog 57 #[.string p, .string t] w fun e w' => e = .returned (.bool (begB p t)) ∧ w' = w := fun t ht => begins_any p t w hp ht
  have H0 := hide (B ⟨#[100, 105, 115, 107, 32]⟩ (by decide))
  have H1 := hide (B ⟨#[116, 97, 114, 103, 101, 116, 32]⟩ (by decide))
  have H2 := hide (B ⟨#[108, 117, 110, 32]⟩ (by decide))
  have H3 := hide (B ⟨#[104, 111, 115, 116, 32]⟩ (by decide))
  clear B
  unfold rankB
  generalize begB p ⟨#[100, 105, 115, 107, 32]⟩ = b0 at *
  generalize begB p ⟨#[116, 97, 114, 103, 101, 116, 32]⟩ = b1 at *
  generalize begB p ⟨#[108, 117, 110, 32]⟩ = b2 at *
  generalize begB p ⟨#[104, 111, 115, 116, 32]⟩ = b3 at *
  cases b0 with
  | true =>
    go_enter Tryz.func25, Tryz.ntmps25
    go_wp2_with fail
    refine (unhide H0).mono ?_
    rintro e w1 ⟨rfl, rfl⟩
    go_wp2_with fail
    go_ret
    exact ⟨rfl, rfl⟩
  | false =>
    cases b1 with
    | true =>
      go_enter Tryz.func25, Tryz.ntmps25
      go_wp2_with fail
      refine (unhide H0).mono ?_
      rintro e w1 ⟨rfl, rfl⟩
      go_wp2_with fail
      refine (unhide H1).mono ?_
      rintro e w1 ⟨rfl, rfl⟩
      go_wp2_with fail
      go_ret
      exact ⟨rfl, rfl⟩
    | false =>
      cases b2 with
      | true =>
        go_enter Tryz.func25, Tryz.ntmps25
        go_wp2_with fail
        refine (unhide H0).mono ?_
        rintro e w1 ⟨rfl, rfl⟩
        go_wp2_with fail
        refine (unhide H1).mono ?_
        rintro e w1 ⟨rfl, rfl⟩
        go_wp2_with fail
        refine (unhide H2).mono ?_
        rintro e w1 ⟨rfl, rfl⟩
        go_wp2_with fail
        go_ret
        exact ⟨rfl, rfl⟩
      | false =>
        cases b3 with
        | true =>
          go_enter Tryz.func25, Tryz.ntmps25
          go_wp2_with fail
          refine (unhide H0).mono ?_
          rintro e w1 ⟨rfl, rfl⟩
          go_wp2_with fail
          refine (unhide H1).mono ?_
          rintro e w1 ⟨rfl, rfl⟩
          go_wp2_with fail
          refine (unhide H2).mono ?_
          rintro e w1 ⟨rfl, rfl⟩
          go_wp2_with fail
          refine (unhide H3).mono ?_
          rintro e w1 ⟨rfl, rfl⟩
          go_wp2_with fail
          go_ret
          exact ⟨rfl, rfl⟩
        | false =>
          go_enter Tryz.func25, Tryz.ntmps25
          go_wp2_with fail
          refine (unhide H0).mono ?_
          rintro e w1 ⟨rfl, rfl⟩
          go_wp2_with fail
          refine (unhide H1).mono ?_
          rintro e w1 ⟨rfl, rfl⟩
          go_wp2_with fail
          refine (unhide H2).mono ?_
          rintro e w1 ⟨rfl, rfl⟩
          go_wp2_with fail
          refine (unhide H3).mono ?_
          rintro e w1 ⟨rfl, rfl⟩
          go_wp2_with fail
          go_ret
          exact ⟨rfl, rfl⟩

/-- Does the text stand in the list? -/
def inB (l : List ByteArray) (s : ByteArray) : Bool := l.any fun x => decide (x = s)
theorem inB_true {l : List ByteArray} {s : ByteArray} : inB l s = true ↔ s ∈ l := by
  simp [inB]
theorem inB_false {l : List ByteArray} {s : ByteArray} : inB l s = false ↔ s ∉ l := by
  rw [← inB_true]; simp

set_option maxHeartbeats 400000 in
theorem in_any (g cap : Nat) (l : List ByteArray) (s : ByteArray) (w : World) (hl : l.length ≤ 1000000) (hit : StrsIn w g 0 l) :
    Calls Tryz.prog 59 #[.slice (some ⟨g, 0, none⟩) l.length cap, .string s] w fun e w' => e = .returned (.bool (inB l s)) ∧ w' = w := by
  go_enter Tryz.func59, Tryz.ntmps59
  go_wp2
  go_loop [5] (fun i => ∃ k : Nat, k ≤ l.length ∧ i = .int .i64 k ∧ s ∉ l.take k) (fun i => l.length - (intOf i).toNat)
  case atStart => exact ⟨0, Nat.zero_le _, rfl, by simp⟩
  case round =>
    obtain ⟨k, hk, rfl, hno⟩ := hrel
    have Hno := hide hno
    clear hno
    by_cases hlt : k < l.length
    · have hc := hit.2 k hlt
      rw [Nat.zero_add] at hc
      obtain ⟨x, hx⟩ : ∃ x, x = l[k] := ⟨_, rfl⟩
      rw [← hx] at hc
      have Hx := hide hx
      clear hx
      have hlt' : (k : Int) < (l.length : Int) := by omega
      by_cases he : x = s
      · have hmem : s ∈ l := by rw [← he, unhide Hx]; exact List.getElem_mem hlt
        have hf : inB l s = true := inB_true.2 hmem
        have Hf := hide hf
        have he' : (x.toList == s.toList) = true := by rw [he]; simp
        clear hmem hf he
        go_wp2
        go_ret
        exact ⟨ret_bool (unhide Hf).symm, rfl⟩
      · have hno : s ∉ l.take (k + 1) := by
          rw [List.take_succ_eq_append_getElem hlt, List.mem_append]
          rintro (h | h)
          · exact unhide Hno h
          · simp at h; exact he (by rw [unhide Hx]; exact h.symm)
        have H2 := hide hno
        have he' : (x.toList == s.toList) = false := by
          rw [beq_eq_false_iff_ne]; exact fun h => he (tl_inj h)
        clear hno he
        go_wp2
        go_round
        case rel => exact ⟨k + 1, by omega, by go_num, unhide H2⟩
        case measure => simp [intOf]; omega
    · have hno := unhide Hno
      rw [List.take_of_length_le (by omega)] at hno
      have hf : inB l s = false := inB_false.2 hno
      have Hf := hide hf
      clear hno hf
      go_wp2
      go_ret
      exact ⟨ret_bool (unhide Hf).symm, rfl⟩

end Go.Proofs.YtdlhgbhaeedbdabGreat
