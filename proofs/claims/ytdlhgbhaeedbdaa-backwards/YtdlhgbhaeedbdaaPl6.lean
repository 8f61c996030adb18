/- 'plan.Parse', 'Step.Text', 'Texts'. -/
import Derived.Test.YtdlhgbhaeedbdaaPl5
namespace Go.Proofs.Ytdlhgbhaeedbdaa
open Go.RowKit

theorem byteAt_zero {s : ByteArray} (h : 0 < s.size) : byteAt s 0 = (s[0].toNat : Int) := byteAt_in h

theorem stParse_any (s : ByteArray) (w : World) (hm : s.size ≤ 9223372036854775807) :
    Calls Try.prog 51 #[.string s] w fun e w' => e = .returned (.tuple #[.agg (stCells (addsS s) (itS s)), .bool (goodS s)]) ∧ Below w.heap.size w w' := by
  have hbad : goodS s = false → addsS s = false ∧ itS s = noItem := fun h => by simp [addsS, itS, h]
  by_cases h0 : s.size = 0
  · have hg : goodS s = false := by simp [goodS, byteAt, h0]
    rw [(hbad hg).1, (hbad hg).2, hg]
    exact stParse_none s w h0
  · have hs : 0 < s.size := by omega
    have hz := byteAt_zero hs
    by_cases h1 : (s[0].toNat : Int) = 43 ∨ (s[0].toNat : Int) = 45
    · cases hgi : goodI (s.extract 1 s.size) with
      | false =>
        have hg : goodS s = false := by simp [goodS, hgi]
        rw [(hbad hg).1, (hbad hg).2, hg]
        exact stParse_bad s w hm hs h1 hgi
      | true =>
        have hg : goodS s = true := by simp only [goodS, hgi, hz, Bool.and_true, decide_eq_true_eq]; exact h1
        have hi : itS s = oneI (s.extract 1 s.size) := by simp [itS, hg]
        rw [hi, hg]
        refine stParse_ok s w hm hs (addsS s) ?_ hgi
        rcases h1 with h | h
        · exact Or.inl ⟨by simp [addsS, hg, hz, h], h⟩
        · exact Or.inr ⟨by simp [addsS, hg, hz, h], h⟩
    · have hg : goodS s = false := by
        have : decide (byteAt s 0 = 43 ∨ byteAt s 0 = 45) = false := by rw [hz]; simpa using h1
        simp only [goodS, this, Bool.false_and]
      rw [(hbad hg).1, (hbad hg).2, hg]
      exact stParse_sign s w hs (fun h => h1 (Or.inl h)) (fun h => h1 (Or.inr h))

/-- The text of a step. -/
def stTxt (b : Bool) (t : ByteArray) : ByteArray := (if b then ⟨#[43]⟩ else ⟨#[45]⟩) ++ t

set_option maxRecDepth 100000 in
set_option maxHeartbeats 400000 in
theorem stText_any (b : Bool) (x : Item) (w : World) (hx : x.text.size ≤ 1000000) :
    Calls Try.prog 84 #[.agg #[.bool b, .int .i64 x.kind, .string x.name, .string x.host, .int .i64 x.number, .int .i64 x.size, .string x.disk, .bool x.only, .int .i64 x.lun, .string x.text]] w fun e w' => e = .returned (.string (stTxt b x.text)) ∧ Below w.heap.size w w' := by
  have ha1 : ∀ wx : World, (Op.stringOp .add ⟨#[43]⟩ x.text).run Try.prog wx = .ok (.string (stTxt true x.text)) wx := fun wx => by
    have := run_string_add_sum (P := Try.prog) wx ⟨#[43]⟩ x.text (by have : (⟨#[43]⟩ : ByteArray).size = 1 := rfl; omega); exact this
  have ha2 : ∀ wx : World, (Op.stringOp .add ⟨#[45]⟩ x.text).run Try.prog wx = .ok (.string (stTxt false x.text)) wx := fun wx => by
    have := run_string_add_sum (P := Try.prog) wx ⟨#[45]⟩ x.text (by have : (⟨#[45]⟩ : ByteArray).size = 1 := rfl; omega); exact this
  cases b with
  | true =>
    go_enter Try.func84, Try.ntmps84
    go_wp2
    go_ret
    exact ⟨rfl, (Below.refl _ _).alloc (Nat.le_refl _) _⟩
  | false =>
    go_enter Try.func84, Try.ntmps84
    go_wp2
    go_ret
    exact ⟨rfl, (Below.refl _ _).alloc (Nat.le_refl _) _⟩

/-- A step lies in block g from offset o on. -/
structure StAt (w : World) (g o : Nat) (p : Bool × Item) : Prop where
  c0 : w.cell? ⟨g, o, none⟩ = some (.bool p.1)
  c1 : w.cell? ⟨g, o + 1, none⟩ = some (.int .i64 p.2.kind)
  c2 : w.cell? ⟨g, o + 2, none⟩ = some (.string p.2.name)
  c3 : w.cell? ⟨g, o + 3, none⟩ = some (.string p.2.host)
  c4 : w.cell? ⟨g, o + 4, none⟩ = some (.int .i64 p.2.number)
  c5 : w.cell? ⟨g, o + 5, none⟩ = some (.int .i64 p.2.size)
  c6 : w.cell? ⟨g, o + 6, none⟩ = some (.string p.2.disk)
  c7 : w.cell? ⟨g, o + 7, none⟩ = some (.bool p.2.only)
  c8 : w.cell? ⟨g, o + 8, none⟩ = some (.int .i64 p.2.lun)
  c9 : w.cell? ⟨g, o + 9, none⟩ = some (.string p.2.text)

theorem StAt.below {B : Nat} {w w' : World} {g o : Nat} {p : Bool × Item} (h : StAt w g o p) (hb : Below B w w') (hg : g < B) : StAt w' g o p :=
  ⟨(hb.cell (p := ⟨g, o, none⟩) hg).trans h.c0, (hb.cell (p := ⟨g, o + 1, none⟩) hg).trans h.c1, (hb.cell (p := ⟨g, o + 2, none⟩) hg).trans h.c2, (hb.cell (p := ⟨g, o + 3, none⟩) hg).trans h.c3,
   (hb.cell (p := ⟨g, o + 4, none⟩) hg).trans h.c4, (hb.cell (p := ⟨g, o + 5, none⟩) hg).trans h.c5, (hb.cell (p := ⟨g, o + 6, none⟩) hg).trans h.c6, (hb.cell (p := ⟨g, o + 7, none⟩) hg).trans h.c7, (hb.cell (p := ⟨g, o + 8, none⟩) hg).trans h.c8, (hb.cell (p := ⟨g, o + 9, none⟩) hg).trans h.c9⟩

/-- All cells of a list of steps. -/
def stsCells (l : List (Bool × Item)) : List Value := l.flatMap fun p => (stCells p.1 p.2).toList

theorem stsCells_snoc (l : List (Bool × Item)) (p : Bool × Item) : stsCells (l ++ [p]) = stsCells l ++ (stCells p.1 p.2).toList := by simp [stsCells]

theorem stsCells_get (l : List (Bool × Item)) (i : Nat) (h : i < l.length) (c : Nat) (hc : c < 10) : (stsCells l)[i * 10 + c]? = (stCells l[i].1 l[i].2)[c]? := by
  induction l generalizing i with
  | nil => simp at h
  | cons a l ih =>
    simp only [stsCells, List.flatMap_cons]
    have h8 : (stCells a.1 a.2).toList.length = 10 := by simp [stCells]
    match i with
    | 0 => rw [List.getElem?_append_left (by omega)]; simp
    | i + 1 =>
      rw [List.getElem?_append_right (by omega), h8, show (i + 1) * 10 + c - 10 = i * 10 + c from by omega]
      exact ih i (by simpa using h)

/-- v is a list of the steps l. -/
def StepsAt (w : World) (v : Value) (l : List (Bool × Item)) : Prop :=
  (v = .slice none 0 0 ∧ l = []) ∨ ∃ g cap, v = .slice (some ⟨g, 0, none⟩) l.length cap ∧ g < w.heap.size ∧ ∀ i (h : i < l.length), StAt w g (i * 10) l[i]

theorem steps_of_owns {w : World} {base : Nat} {v : Value} {l : List (Bool × Item)} (h : w.ownsRow base 101 10 v l.length (stsCells l)) : StepsAt w v l := by
  have hh := h
  obtain ⟨_, ⟨rfl, h0⟩ | ⟨g, cap, cur, rfl, hb, hg, hc, _, _, _⟩⟩ := hh
  · exact Or.inl ⟨rfl, List.length_eq_zero_iff.1 h0⟩
  · refine Or.inr ⟨g, cap, rfl, (h.lt g rfl).2, fun i hi => ?_⟩
    have hcl := h.cells (g := g) rfl
    have key : ∀ c, c < 10 → ∀ u, (stCells l[i].1 l[i].2)[c]? = some u → w.cell? ⟨g, i * 10 + c, none⟩ = some u := by
      intro c hc u hu
      have := hcl (i * 10 + c) u (by rw [stsCells_get l i hi c hc]; exact hu)
      rwa [addr_add] at this
    exact ⟨key 0 (by omega) _ rfl, key 1 (by omega) _ rfl, key 2 (by omega) _ rfl, key 3 (by omega) _ rfl, key 4 (by omega) _ rfl, key 5 (by omega) _ rfl, key 6 (by omega) _ rfl, key 7 (by omega) _ rfl, key 8 (by omega) _ rfl, key 9 (by omega) _ rfl⟩

theorem Try.infoTx : (Try.prog.info? 9).map (fun i => (i.zero, i.size, i.bytes)) = some (some (.string ⟨#[]⟩), 1, 16) := by kernel_rfl

theorem one_tx (x : ByteArray) : ∀ u ∈ [Value.string x], u.oneCell' = true := by intro u hu; simp at hu; subst hu; rfl

/-- The texts of steps. -/
def stTxts (l : List (Bool × Item)) : List ByteArray := l.map fun p => stTxt p.1 p.2.text

set_option maxRecDepth 100000 in
set_option maxHeartbeats 400000 in
theorem texts_at (v : Value) (l : List (Bool × Item)) (w : World) (hl : l.length ≤ 48) (ht : ∀ p ∈ l, p.2.text.size ≤ 1000000) (hv : StepsAt w v l) :
    Calls Try.prog 65 #[v] w fun e w' => ∃ v', e = .returned v' ∧ w'.ownsRow w.heap.size 9 1 v' (stTxts l).length ((stTxts l).map Value.string) ∧ Below w.heap.size w w' := by
  rcases hv with ⟨rfl, rfl⟩ | ⟨g, cap, rfl, hg, hit⟩
  · go_enter Try.func65, Try.ntmps65
    go_wp2
    refine wp_loop_rounds 1 ?_
    rw [rounds_succ]
    go_wp2
    go_ret
    exact ⟨_, rfl, World.ownsRow_nil _ _ _ _, Below.refl _ _⟩
  · obtain ⟨i0, hi, hz0, hz1, hz2⟩ := info_parts Try.infoTx
    go_enter Try.func65, Try.ntmps65
    go_wp2
    go_loopw [3, 4] (fun tv i wr => ∃ k : Nat, k ≤ l.length ∧ i = .int .i64 k ∧ wr.ownsRow w.heap.size 9 1 tv k ((stTxts (l.take k)).map Value.string) ∧ Below w.heap.size w wr) (fun _ i _ => l.length - (intOf i).toNat)
    case atStart => exact ⟨0, Nat.zero_le _, rfl, World.ownsRow_nil _ _ _ _, Below.refl _ _⟩
    case round =>
      obtain ⟨k, hk, rfl, hown, hbe⟩ := hrel
      obtain ⟨a, tc, rfl⟩ := slice_of_owns hown
      by_cases hlt : k < l.length
      · obtain ⟨p, hp⟩ : ∃ p, p = l[k] := ⟨_, rfl⟩
        have hix := (hit k hlt).below hbe hg
        rw [← hp] at hix
        have hstep : (stTxts (l.take (k + 1))).map Value.string = (stTxts (l.take k)).map Value.string ++ [.string (stTxt p.1 p.2.text)] := by
          rw [List.take_succ_eq_append_getElem hlt, ← hp]; simp [stTxts]
        have Hst := hide hstep
        have hps : p.2.text.size ≤ 1000000 := ht p (by rw [hp]; exact List.getElem_mem hlt)
        obtain ⟨c0, c1, c2, c3, c4, c5, c6, c7, c8, c9⟩ := hix
        have hlt' : (k : Int) < (l.length : Int) := by omega
        have hsz := hbe.size
        obtain ⟨pb, px⟩ := p
        clear hstep hp
        simp only at c0 c1 c2 c3 c4 c5 c6 c7 c8 c9 hps Hst
        generalize hT : (stTxts (l.take k)).map Value.string = T at *
        clear hT
        go_wp2_with (first
          | (go_at_call 84; refine (stText_any pb px _ hps).mono ?_; rintro e w1 ⟨rfl, hb1⟩)
          | (at_builtin; refine wpList_append_own _ rfl _ _ 47 rfl w.heap.size 9 i0 (.string ⟨#[]⟩) 1 16 Try.underlying47 hi hz0 hz1 hz2 rfl (by decide) (.slice a k tc) k T ?hs ?c0 ⟨w1.heap.size, 0, none⟩ 1 1 [.string (stTxt pb px.text)] ?hx rfl ?c1 (one_tx _) ?c3 ?c4 ?c5 ?_))
        case hs => rfl
        case c0 => exact (owns_later hown hb1).alloc _
        case hx => rfl
        case c1 => exact cell_one_new _ _ _
        case c3 => unfold maxLen; omega
        case c4 => omega
        case c5 => have := hb1.size; simp; omega
        intro v' w2 hown' hgrow _
        have hsz1 := hb1.size
        have hbe2 := ((hbe.trans (hb1.mono hsz)).alloc (by omega) _).grown hgrow (by simp; omega) (fun k e => (hown.lt k e).1)
        clear hgrow c0 c1 c2 c3 c4 c5 c6 c7 c8 c9
        go_wp2
        go_roundw
        case rel => exact ⟨k + 1, by omega, by go_num, by rw [unhide Hst]; exact hown', hbe2⟩
        case measure => simp [intOf]; omega
      · have hkl : k = l.length := by omega
        have hall : l.take k = l := List.take_of_length_le (by omega)
        rw [hall] at hown
        have hlen : (stTxts l).length = k := by simp [stTxts, hkl]
        have Hl := hide hlen
        clear hall hkl hlen
        go_wp2
        go_ret
        exact ⟨_, rfl, by rw [unhide Hl]; exact hown, hbe⟩

end Go.Proofs.Ytdlhgbhaeedbdaa
