/- Ho6, Ho7. -/
import Derived.Test.YtdlhgbhaeedbdabGreatM16

/- 'Bank.Find', 'Bank.Free', 'Table.Begin', 'Table.Has', 'Table.Meet', 'Table.End'. -/
namespace Go.Proofs.YtdlhgbhaeedbdabGreat
open Go.RowKit

/-- Which drive has the name. -/
def fixB (B : List Bk) (n : ByteArray) : Option Nat := B.findIdx? fun q => decide (q.d.name = n)
def fixD (D : List Drv) (n : ByteArray) : Option Nat := D.findIdx? fun d => decide (d.name = n)

theorem fixB_d (B : List Bk) (n : ByteArray) : fixD (B.map Bk.d) n = fixB B n := by
  unfold fixB fixD
  rw [List.findIdx?_map]
  rfl

def ptrV (B : List Bk) (o : Option Nat) : Value := match o with | some i => (match B[i]? with | some q => q.ptr | none => .pointer none) | none => .pointer none

theorem fixB_hit {B : List Bk} {n : ByteArray} {k : Nat} (hk : k < B.length) (he : B[k].d.name = n) (hno : ∀ j (hj : j < k), ¬ (B[j]'(by omega)).d.name = n) : fixB B n = some k := by
  unfold fixB
  rw [List.findIdx?_eq_some_iff_getElem]
  exact ⟨hk, by simpa using he, fun j hj => by simpa using hno j hj⟩

theorem fixB_none {B : List Bk} {n : ByteArray} (hno : ∀ j (hj : j < B.length), ¬ B[j].d.name = n) : fixB B n = none := by
  unfold fixB
  rw [List.findIdx?_eq_none_iff]
  intro q hq
  obtain ⟨j, hj, rfl⟩ := List.getElem_of_mem hq
  simpa using hno j hj

set_option maxRecDepth 100000 in
set_option maxHeartbeats 400000 in
theorem bfind_any (r base : Nat) (n : ByteArray) (v : Value) (B : List Bk) (w : World) (hB : B.length ≤ 1000) (hc : w.cell? ⟨r, 2, none⟩ = some v) (h : BankAt w base v B) :
    Calls Tryz.prog 106 #[.pointer (some ⟨r, 2, none⟩), .string n] w fun e w' => e = .returned (ptrV B (fixB B n)) ∧ w' = w := by
  obtain ⟨a, cap, rfl⟩ := slice_of_owns h.row
  have Hh := hide h
  clear h
  go_enter Tryz.func106, Tryz.ntmps106
  go_wp2
  go_loopw [5] (fun i wr => ∃ k : Nat, k ≤ B.length ∧ i = .int .i64 k ∧ wr = w ∧ ∀ j (hj : j < k) (hj2 : j < B.length), ¬ B[j].d.name = n) (fun i _ => B.length - (intOf i).toNat)
  case atStart => exact ⟨0, Nat.zero_le _, rfl, rfl, fun j hj => by omega⟩
  case round =>
    obtain ⟨k, hk, rfl, rfl, hno⟩ := hrel
    have Hno := hide hno
    clear hno
    by_cases hlt : k < B.length
    · obtain ⟨g, rfl, _, hcap, hg, _, hcell⟩ := (unhide Hh).cell (by omega)
      obtain ⟨q, hq⟩ : ∃ q, q = B[k] := ⟨_, rfl⟩
      have hd := (unhide Hh).drv q (by rw [hq]; exact List.getElem_mem hlt)
      have d0 : wr.cell? ⟨g, k, none⟩ = some (.pointer (some ⟨q.p, 0, none⟩)) := by rw [hq]; exact hcell k hlt
      have d1 := hd.cells.1
      have hlt' : (k : Int) < (B.length : Int) := by omega
      by_cases he : q.d.name = n
      · have hf : ptrV B (fixB B n) = .pointer (some ⟨q.p, 0, none⟩) := by
          rw [fixB_hit hlt (by rw [← hq]; exact he) (fun j hj => unhide Hno j hj (by omega))]
          simp [ptrV, hlt, hq, Bk.ptr]
        have Hf := hide hf
        have he' : (q.d.name.toList == n.toList) = true := by rw [he]; simp
        clear hf he hq hd hcell
        go_wp2
        go_ret
        exact ⟨congrArg Ending.returned (unhide Hf).symm, rfl⟩
      · have hno2 : ∀ j (hj : j < k + 1) (hj2 : j < B.length), ¬ B[j].d.name = n := fun j hj hj2 => by
          by_cases e : j = k
          · subst e; rw [← hq]; exact he
          · exact unhide Hno j (by omega) hj2
        have Hn2 := hide hno2
        have he' : (q.d.name.toList == n.toList) = false := by rw [beq_eq_false_iff_ne]; exact fun e => he (tl_inj e)
        clear hno2 he hq hd hcell
        go_wp2
        go_roundw
        case rel => exact ⟨k + 1, by omega, by go_num, by first | rfl | trivial, unhide Hn2⟩
        case measure => simp [intOf]; omega
    · have hnl : ¬ (k : Int) < (B.length : Int) := by omega
      have hf : ptrV B (fixB B n) = .pointer none := by
        rw [fixB_none (fun j hj => unhide Hno j (by omega) hj)]
        rfl
      have Hf := hide hf
      clear hf
      go_wp2
      go_ret
      exact ⟨congrArg Ending.returned (unhide Hf).symm, rfl⟩

set_option maxRecDepth 100000 in
set_option maxHeartbeats 400000 in
theorem free_any (r base : Nat) (s : Int) (v : Value) (B : List Bk) (w : World) (hB : B.length ≤ 1000) (hc : w.cell? ⟨r, 2, none⟩ = some v) (hty : ∃ cs fr, w.heap[r]? = some (Obj.cells cs 79 fr)) (h : BankAt w base v B) :
    Calls Tryz.prog 174 #[.pointer (some ⟨r, 2, none⟩), .int .i64 s] w fun e w' => e = .returned (.tuple #[]) ∧ (∃ B', BankAt w' base v B' ∧ B'.map Bk.d = freeD (B.map Bk.d) s) ∧ TK (fun t => t = 172 ∨ t = 3) w w' ∧ Below base w w' := by
  obtain ⟨a, cap, rfl⟩ := slice_of_owns h.row
  have Hh := hide h
  have hl0 : (B.map Bk.d).length = B.length := List.length_map _
  generalize hD : B.map Bk.d = D at *
  have HD := hide hD
  clear h hD
  obtain ⟨cs0, fr0, hty⟩ := hty
  go_enter Tryz.func174, Tryz.ntmps174
  go_wp2
  go_loopw [4] (fun i wr => ∃ k : Nat, k ≤ D.length ∧ i = .int .i64 k ∧ (∃ B', BankAt wr base (.slice a B.length cap) B' ∧ B'.map Bk.d = (D.take k).map (freeD1 s) ++ D.drop k) ∧ TK (fun t => t = 172 ∨ t = 3) w wr ∧ Below base w wr) (fun i _ => D.length - (intOf i).toNat)
  case atStart => exact ⟨0, Nat.zero_le _, rfl, ⟨B, unhide Hh, by simpa using unhide HD⟩, TK.refl _ _, Below.refl _ _⟩
  case round =>
    obtain ⟨k, hk, rfl, ⟨B', hB', hD'⟩, htk, hbe⟩ := hrel
    have hbr := htk.block r cs0 _ fr0 hty (by decide)
    have hc2 : wr.cell? ⟨r, 2, none⟩ = some (.slice a B.length cap) := (World.cell?_of_block hbr).trans hc
    have hlB : B'.length = B.length := by
      have := congrArg List.length hD'
      simp at this
      omega
    by_cases hlt : k < D.length
    · have hltB : k < B'.length := by omega
      obtain ⟨g, rfl, _, hcap, hg, _, hcell⟩ := hB'.cell (by omega)
      obtain ⟨q, hq⟩ : ∃ q, q = B'[k] := ⟨_, rfl⟩
      have hd := hB'.drv q (by rw [hq]; exact List.getElem_mem hltB)
      have d0 : wr.cell? ⟨g, k, none⟩ = some (.pointer (some ⟨q.p, 0, none⟩)) := by rw [hq]; exact hcell k hltB
      obtain ⟨_, _, d2, fz⟩ := hd.cells
      have hdk : q.d = D[k] := by
        rw [hq]
        have e1 : (B'.map Bk.d)[k]? = some B'[k].d := by simp [hltB]
        rw [hD', List.getElem?_append_right (by simp; omega), List.length_map, List.length_take, Nat.min_eq_left (by omega), Nat.sub_self, List.getElem?_drop] at e1
        simp [hlt] at e1
        exact e1.symm
      have hlt' : (k : Int) < (B.length : Int) := by omega
      have hst : (D.take (k + 1)).map (freeD1 s) ++ D.drop (k + 1) = ((D.take k).map (freeD1 s) ++ D.drop k).set k (freeD1 s D[k]) := by
        rw [List.set_append_right _ _ (by simp; omega), List.length_map, List.length_take, Nat.min_eq_left (by omega), Nat.sub_self, List.drop_eq_getElem_cons hlt, List.set_cons_zero, List.take_succ_eq_append_getElem hlt, List.map_append, List.append_assoc]
        rfl
      have Hst := hide hst
      by_cases he : q.d.holder = s
      · have he' : (q.d.holder == s) = true := by simpa using he
        have hE := hB'.held hltB (-1) 0
        rw [← hq] at hE
        have HE := hide hE
        have hfr : freeD1 s D[k] = { q.d with holder := -1 } := by rw [← hdk]; simp [freeD1, he]
        have Hfr := hide hfr
        have HD' := hide hD'
        clear hst he hfr hd hB' hcell hdk hD' hE hq hbr hlB
        go_wp2
        go_roundw
        case rel =>
          obtain ⟨_, ⟨q', hq', _, hbk⟩, ht, hb⟩ := unhide HE
          exact ⟨k + 1, by omega, by go_num, ⟨_, hbk, by rw [List.map_set, unhide HD', hq', unhide Hst, unhide Hfr]⟩, htk.trans ht, hbe.trans hb⟩
        case measure => simp [intOf]; omega
      · have he' : (q.d.holder == s) = false := by simpa using he
        have hfr : freeD1 s D[k] = D[k] := by rw [← hdk]; simp [freeD1, he]
        have hD2 : B'.map Bk.d = (D.take (k + 1)).map (freeD1 s) ++ D.drop (k + 1) := by
          rw [hst, hfr, hD', List.set_append_right _ _ (by simp; omega), List.length_map, List.length_take, Nat.min_eq_left (by omega), Nat.sub_self, List.drop_eq_getElem_cons hlt, List.set_cons_zero]
        have HB := hide (⟨hB', hD2⟩ : _ ∧ _)
        clear hst he hfr hd hB' hcell hdk hD' hD2 hq hbr hlB
        go_wp2
        go_roundw
        case rel => exact ⟨k + 1, by omega, by go_num, ⟨_, (unhide HB).1, (unhide HB).2⟩, htk, hbe⟩
        case measure => simp [intOf]; omega
    · have hnl : ¬ (k : Int) < (B.length : Int) := by omega
      have hkl : k = D.length := by omega
      have hD2 : B'.map Bk.d = freeD D s := by
        rw [hD', hkl, List.take_length, List.drop_length, List.append_nil]
        rfl
      have HB := hide (⟨hB', hD2⟩ : _ ∧ _)
      clear hD' hD2 hB' hbr hlB hkl
      go_wp2
      go_end0
      exact ⟨rfl, ⟨_, (unhide HB).1, (unhide HB).2⟩, htk, hbe⟩

end Go.Proofs.YtdlhgbhaeedbdabGreat

/- 'Table.Begin', 'Table.Has', 'Table.Meet', 'Table.End'. -/
namespace Go.Proofs.YtdlhgbhaeedbdabGreat
open Go.RowKit

theorem sesCells_snoc (S : List Ses) (s : Ses) : sesCells (S ++ [s]) = sesCells S ++ sesCells1 s := by simp [sesCells]

def zSes : Array Value := #[.int .i64 0, .string ⟨#[]⟩, .string ⟨#[]⟩, .bool false]
theorem Tryz.infoSes : (Tryz.prog.info? 113).map (fun i => (i.zero, i.size, i.bytes)) = some (some (.agg zSes), 4, 48) := by kernel_rfl

theorem ses_one (s : Ses) : ∀ u ∈ sesCells1 s, u.oneCell' = true := by
  intro u hu
  simp [sesCells1] at hu
  rcases hu with rfl | rfl | rfl | rfl <;> rfl

/-- The types of what Table changes. -/
def KS (t : TypeId) : Prop := t = 79 ∨ t = 113

theorem SesAt.below {B : Nat} {w w' : World} {g o : Nat} {s : Ses} (h : SesAt w g o s) (hb : Below B w w') (hg : g < B) : SesAt w' g o s :=
  ⟨(hb.cell (p := ⟨g, o, none⟩) hg).trans h.c0, (hb.cell (p := ⟨g, o + 1, none⟩) hg).trans h.c1, (hb.cell (p := ⟨g, o + 2, none⟩) hg).trans h.c2, (hb.cell (p := ⟨g, o + 3, none⟩) hg).trans h.c3⟩

/-- What Begin leaves. -/
def BeginEnd (r b : Nat) (v : Value) (S : List Ses) (n : Int) (t h : ByteArray) (w : World) (e : Ending) (w' : World) : Prop :=
  e = .returned (.tuple #[.int .i64 n, .int .i64 0]) ∧ (∃ v', w'.cell? ⟨r, 3, none⟩ = some v' ∧ SesRow w' (b + 1) v' (S ++ [⟨n, t, h, false⟩]) ∧ ∀ k, v'.ownBlock = some k → v.ownBlock = some k ∨ w.heap.size ≤ k) ∧ w'.cell? ⟨r, 4, none⟩ = some (.int .i64 (n + 1)) ∧ TK KS w w' ∧ Below (b + 1) w w' ∧ RCell r (fun o => o ≠ 3 ∧ o ≠ 4) w w' ∧
    ∀ k, k < w.heap.size → k ≠ r → v.ownBlock ≠ some k → w'.heap[k]? = w.heap[k]?

theorem SesRow.begun {w w2 : World} {r b : Nat} {v v' : Value} {S : List Ses} {n : Int} {t h : ByteArray} {o1 : Obj} (hr : b < r) (hty : ∃ cs fr, w.heap[r]? = some (Obj.cells cs 79 fr)) (hc : w.cell? ⟨r, 3, none⟩ = some v) (hc4 : w.cell? ⟨r, 4, none⟩ = some (.int .i64 n)) (hS : SesRow w (b + 1) v S)
    (hg : (w.alloc o1).grownBy w2 v.ownBlock) (hn : w2.ownsRow (b + 1) 113 4 v' (S.length + 1) (sesCells S ++ sesCells1 ⟨n, t, h, false⟩)) (hlie : ∀ k, v'.ownBlock = some k → v.ownBlock = some k ∨ w.heap.size ≤ k) :
    BeginEnd r b v S n t h w (.returned (.tuple #[.int .i64 n, .int .i64 0])) ((w2.setCell ⟨r, 3, none⟩ v').setCell ⟨r, 4, none⟩ (.int .i64 (n + 1))) ∧ w2.heap[r]? = w.heap[r]? := by
  obtain ⟨cs, fr, hty'⟩ := hty
  have hlt : r < w.heap.size := (Array.getElem?_eq_some_iff.1 hty').1
  have hba : Below w.heap.size w (w.alloc o1) := (Below.refl _ _).alloc (Nat.le_refl _) _
  have hown1 : (w.alloc o1).ownsRow (b + 1) 113 4 v S.length (sesCells S) := owns_later hS hba
  have htk2 : TK KS w w2 := (TK.of_below hba).trans (TK.grown hown1 hg (.inr rfl))
  have hBel : Below (b + 1) w w2 := (hba.mono (by omega)).grown hg (by have := hba.size; omega) (fun k e => (hown1.lt k e).1)
  have hbr : w2.heap[r]? = w.heap[r]? := (hg.block r (by have := hba.size; omega) (rack_ne ⟨cs, fr, hty'⟩ hS (by decide))).trans (hba.block r hlt)
  have hts : TK (fun t => t = 79) w2 (w2.setCell ⟨r, 3, none⟩ v') := TK.setCell (T := fun t => t = 79) (hbr.trans hty') rfl v'
  obtain ⟨cs2, fr2, hty2⟩ := ty_set (o := 3) ⟨cs, fr, hbr.trans hty'⟩ v'
  have hts2 : TK (fun t => t = 79) _ ((w2.setCell ⟨r, 3, none⟩ v').setCell ⟨r, 4, none⟩ (.int .i64 (n + 1))) := TK.setCell (T := fun t => t = 79) hty2 rfl _
  have c3 : w2.cell? ⟨r, 3, none⟩ = some v := (World.cell?_of_block hbr).trans hc
  have c4 : w2.cell? ⟨r, 4, none⟩ = some (.int .i64 n) := (World.cell?_of_block hbr).trans hc4
  refine ⟨⟨rfl, ⟨v', cell_set_ne (World.cell?_setCell_same _ _ _ c3) (by omega), ?_, hlie⟩, World.cell?_setCell_same _ _ _ (cell_set_ne c4 (by omega)), htk2.trans ((hts.trans hts2).mono fun _ e => .inl e), (hBel.setCell (p := ⟨r, 3, none⟩) (by simp; omega) _).setCell (p := ⟨r, 4, none⟩) (by simp; omega) _, ((RCell.of_block hbr).trans (RCell.set (by simp) _)).trans (RCell.set (by simp) _), fun k hk hkr hkv => ((block_set_ne _ hkr).trans (block_set_ne _ hkr)).trans ((hg.block k (by have := hba.size; omega) (fun e => hkv e.symm)).trans (hba.block k hk))⟩, hbr⟩
  unfold SesRow
  rw [sesCells_snoc, List.length_append]
  exact (hts.trans hts2).row (by decide) hn

set_option maxRecDepth 100000 in
set_option maxHeartbeats 400000 in
theorem begin_any (r b : Nat) (t h : ByteArray) (v : Value) (S : List Ses) (n : Int) (w : World) (hS8 : S.length < 8) (hn : -1000000 ≤ n ∧ n ≤ 1000000) (hr : b < r) (hty : ∃ cs fr, w.heap[r]? = some (Obj.cells cs 79 fr)) (hc : w.cell? ⟨r, 3, none⟩ = some v) (hc4 : w.cell? ⟨r, 4, none⟩ = some (.int .i64 n)) (hf : ∀ o, w.frozen? ⟨r, o, none⟩ = false) (hS : SesRow w (b + 1) v S) :
    Calls Tryz.prog 29 #[.pointer (some ⟨r, 3, none⟩), .string t, .string h] w fun e w' => BeginEnd r b v S n t h w e w' := by
  have hlt : r < w.heap.size := by obtain ⟨cs, fr, e⟩ := hty; exact (Array.getElem?_eq_some_iff.1 e).1
  obtain ⟨i0, hi, hz0, hz1, hz2⟩ := info_parts Tryz.infoSes
  obtain ⟨a, cap, rfl⟩ := slice_of_owns hS
  have HH := hide fun w2 v' o1 hg hn hlie => SesRow.begun (w2 := w2) (v' := v') (n := n) (t := t) (h := h) (o1 := o1) hr hty hc hc4 hS hg hn hlie
  have Hrow := hide hS
  have h8 : ¬ (8 : Int) ≤ (S.length : Int) := by omega
  obtain ⟨hn1, hn2⟩ := hn
  clear hty hS
  go_enter Tryz.func29, Tryz.ntmps29
  go_wp2_with (at_builtin; refine wpList_append_lies _ rfl _ _ 74 rfl (b + 1) 113 i0 (.agg zSes) 4 48 Tryz.underlying74 hi hz0 hz1 hz2 rfl (by decide) (.slice a S.length cap) S.length (sesCells S) ?hs ?c0 ⟨w.heap.size, 0, none⟩ 1 1 (sesCells1 ⟨n, t, h, false⟩) ?hx ?hlen ?c1 (ses_one _) (by decide) ?c3 ?c4 ?c5 _ rfl ?_)
  case c0 => exact World.ownsRow.alloc (unhide Hrow) _
  case hlen => rfl
  case c1 => exact fun j u hj => hj
  case c3 => unfold maxLen; omega
  case c4 => omega
  case c5 => first | omega | (simp; omega)
  intro g vc w2 hown' hgrow hat hglt
  obtain ⟨hE, hbr⟩ := unhide HH _ _ _ hgrow hown' (fun k e => by
    have e' : g = k := by simpa [Value.ownBlock] using e
    rcases hat with h1 | h1
    · exact .inl (by rw [h1, e'])
    · right; first | omega | (simp at h1; omega))
  have k3 : w2.cell? ⟨r, 3, none⟩ = some (.slice a S.length cap) := (World.cell?_of_block hbr).trans hc
  have k4 : w2.cell? ⟨r, 4, none⟩ = some (.int .i64 n) := (World.cell?_of_block hbr).trans hc4
  have kf : ∀ o, w2.frozen? ⟨r, o, none⟩ = false := fun o => (World.frozen?_of_block hbr).trans (hf o)
  have HE := hide hE
  clear hE hgrow hown' hc hc4 hf hbr HH
  go_wp2
  go_ret2
  exact unhide HE

def hasS (S : List Ses) (n : Int) : Bool := S.any fun s => decide (s.number = n)

set_option maxRecDepth 100000 in
set_option maxHeartbeats 400000 in
theorem thas_any (r base : Nat) (n : Int) (v : Value) (S : List Ses) (w : World) (hS : S.length ≤ 1000) (hc : w.cell? ⟨r, 3, none⟩ = some v) (hrow : SesRow w base v S) :
    Calls Tryz.prog 157 #[.pointer (some ⟨r, 3, none⟩), .int .i64 n] w fun e w' => e = .returned (.bool (hasS S n)) ∧ w' = w := by
  rcases hrow.cells with ⟨rfl, rfl⟩ | ⟨g, cap, rfl, hcap, _, hg, _, hit⟩
  · clear hrow
    go_enter Tryz.func157, Tryz.ntmps157
    go_wp2
    refine wp_loop_rounds 1 ?_
    rw [rounds_succ]
    go_wp2
    go_ret
    exact ⟨rfl, rfl⟩
  · clear hrow
    go_enter Tryz.func157, Tryz.ntmps157
    go_wp2
    go_loopw [5] (fun i wr => ∃ k : Nat, k ≤ S.length ∧ i = .int .i64 k ∧ wr = w ∧ ∀ s ∈ S.take k, ¬ s.number = n) (fun i _ => S.length - (intOf i).toNat)
    case atStart => exact ⟨0, Nat.zero_le _, rfl, rfl, by simp⟩
    case round =>
      obtain ⟨k, hk, rfl, rfl, hno⟩ := hrel
      have Hno := hide hno
      clear hno
      by_cases hlt : k < S.length
      · obtain ⟨s, hs⟩ : ∃ s, s = S[k] := ⟨_, rfl⟩
        have hi := hit k hlt
        rw [← hs] at hi
        obtain ⟨c0, c1, c2, c3⟩ := hi
        have hlt' : (k : Int) < (S.length : Int) := by omega
        by_cases he : s.number = n
        · have hf : hasS S n = true := by unfold hasS; rw [List.any_eq_true]; exact ⟨s, by rw [hs]; exact List.getElem_mem hlt, by simpa using he⟩
          have Hf := hide hf
          have he' : (s.number == n) = true := by simpa using he
          clear hs hf he
          go_wp2
          go_ret
          exact ⟨ret_bool (unhide Hf).symm, rfl⟩
        · have he' : (s.number == n) = false := by simpa using he
          have hn2 : ∀ s ∈ S.take (k + 1), ¬ s.number = n := by
            intro z hz
            rw [List.take_succ_eq_append_getElem hlt, List.mem_append] at hz
            rcases hz with h | h
            · exact unhide Hno z h
            · simp at h; rw [h, ← hs]; exact he
          have Hn2 := hide hn2
          clear hs hn2 he
          go_wp2
          go_roundw
          case rel => exact ⟨k + 1, by omega, by go_num, by first | rfl | trivial, unhide Hn2⟩
          case measure => simp [intOf]; omega
      · have hnl : ¬ (k : Int) < (S.length : Int) := by omega
        have hf : hasS S n = false := by
          unfold hasS
          rw [List.any_eq_false]
          intro s hs
          simpa using unhide Hno s (by rw [List.take_of_length_le (by omega)]; exact hs)
        have Hf := hide hf
        clear hf
        go_wp2
        go_ret
        exact ⟨ret_bool (unhide Hf).symm, rfl⟩

/-- What Meet tells where no session has news. -/
def meetV (S : List Ses) (n : Int) : Value := match S.find? (fun s => decide (s.number = n)) with | some s => .tuple #[.agg (sesCells1 s).toArray, .int .i64 0] | none => .tuple #[.agg zSes, .int .i64 12]

theorem find_first {S : List Ses} {n : Int} {k : Nat} (hk : k < S.length) (he : S[k].number = n) (hno : ∀ s ∈ S.take k, ¬ s.number = n) : S.find? (fun s => decide (s.number = n)) = some S[k] := by
  have e : S = S.take k ++ S[k] :: S.drop (k + 1) := by rw [← List.drop_eq_getElem_cons hk, List.take_append_drop]
  have h0 : (S.take k).find? (fun s => decide (s.number = n)) = none := by
    rw [List.find?_eq_none]
    intro x hx
    simpa using hno x hx
  have e2 : S.find? (fun s => decide (s.number = n)) = (S.take k ++ S[k] :: S.drop (k + 1)).find? (fun s => decide (s.number = n)) := by rw [← e]
  rw [e2, List.find?_append, h0, List.find?_cons, show decide (S[k].number = n) = true from by simpa using he]
  rfl

/-- A session's cells, as they were laid. -/
theorem zses_cells {w : World} {b : Nat} (hb : w.heap[b]? = some (.cells zSes 113 (0, 0))) : w.cell? ⟨b, 0, none⟩ = some (.int .i64 0) ∧ w.cell? ⟨b, 1, none⟩ = some (.string ⟨#[]⟩) ∧ w.cell? ⟨b, 2, none⟩ = some (.string ⟨#[]⟩) ∧ w.cell? ⟨b, 3, none⟩ = some (.bool false) ∧ ∀ o, w.frozen? ⟨b, o, none⟩ = false := by
  refine ⟨?_, ?_, ?_, ?_, fun o => ?_⟩ <;> simp [World.cell?, World.frozen?, hb, zSes]

theorem below_set4 {B : Nat} {a w : World} (h : Below B a w) {g : Nat} (hg : B ≤ g) (u0 u1 u2 u3 : Value) : Below B a ((((w.setCell ⟨g, 0, none⟩ u0).setCell ⟨g, 1, none⟩ u1).setCell ⟨g, 2, none⟩ u2).setCell ⟨g, 3, none⟩ u3) :=
  (((h.setCell (p := ⟨g, 0, none⟩) hg u0).setCell (p := ⟨g, 1, none⟩) hg u1).setCell (p := ⟨g, 2, none⟩) hg u2).setCell (p := ⟨g, 3, none⟩) hg u3

set_option maxRecDepth 100000 in
set_option maxHeartbeats 400000 in
theorem tmeet_any (r base : Nat) (n : Int) (v : Value) (S : List Ses) (w : World) (hS : S.length ≤ 1000) (hlt0 : r < w.heap.size) (hc : w.cell? ⟨r, 3, none⟩ = some v) (hrow : SesRow w base v S) (hnews : ∀ s ∈ S, s.news = false) :
    Calls Tryz.prog 104 #[.pointer (some ⟨r, 3, none⟩), .int .i64 n] w fun e w' => e = .returned (meetV S n) ∧ Below w.heap.size w w' := by
  have hbn := below_new w (.cells zSes 113)
  have hzb : (w.alloc (.cells zSes 113)).heap[w.heap.size]? = some (.cells zSes 113 (0, 0)) := heap_alloc_last w _
  obtain ⟨z0, z1, z2, z3, zf⟩ := zses_cells hzb
  have hc1 : (w.alloc (.cells zSes 113)).cell? ⟨r, 3, none⟩ = some v := (hbn.cell (p := ⟨r, 3, none⟩) hlt0).trans hc
  rcases hrow.cells with ⟨rfl, rfl⟩ | ⟨g, cap, rfl, hcap, _, hg, _, hit⟩
  · clear hrow
    unfold zSes at *
    go_enter Tryz.func104, Tryz.ntmps104
    go_wp2
    generalize hW : w.alloc (.cells #[.int .i64 0, .string ⟨#[]⟩, .string ⟨#[]⟩, .bool false] 113) = w0 at *
    refine wp_loop_rounds 1 ?_
    rw [rounds_succ]
    go_wp2
    refine bodyPost_ret (v := .tuple #[.agg zSes, .int .i64 12]) (by simp [results, Tryz.results104, go_sem, z0, z1, z2, z3, zSes]) rfl ⟨rfl, ?_⟩
    exact below_set4 hbn (Nat.le_refl _) _ _ _ _
  · have hit0 : ∀ i (hi : i < S.length), SesAt (w.alloc (.cells zSes 113)) g (i * 4) S[i] := fun i hi => (hit i hi).below hbn hg
    have Hnews := hide hnews
    have hgn : g ≠ w.heap.size := by omega
    clear hrow hit hnews hc
    unfold zSes at *
    go_enter Tryz.func104, Tryz.ntmps104
    go_wp2
    generalize hW : w.alloc (.cells #[.int .i64 0, .string ⟨#[]⟩, .string ⟨#[]⟩, .bool false] 113) = w0 at *
    clear hW
    go_loopw [6] (fun i wr => ∃ k : Nat, k ≤ S.length ∧ i = .int .i64 k ∧ wr = w0 ∧ ∀ s ∈ S.take k, ¬ s.number = n) (fun i _ => S.length - (intOf i).toNat)
    case atStart => exact ⟨0, Nat.zero_le _, rfl, rfl, by simp⟩
    case round =>
      obtain ⟨k, hk, rfl, rfl, hno⟩ := hrel
      have Hno := hide hno
      clear hno
      by_cases hlt : k < S.length
      · obtain ⟨s, hs⟩ : ∃ s, s = S[k] := ⟨_, rfl⟩
        have hi := hit0 k hlt
        rw [← hs] at hi
        obtain ⟨c0, c1, c2, c3⟩ := hi
        have hlt' : (k : Int) < (S.length : Int) := by omega
        have hnw : s.news = false := unhide Hnews s (by rw [hs]; exact List.getElem_mem hlt)
        rw [hnw] at c3
        by_cases he : s.number = n
        · have hf : meetV S n = .tuple #[.agg #[.int .i64 s.number, .string s.target, .string s.host, .bool false], .int .i64 0] := by
            unfold meetV
            rw [find_first hlt (by rw [← hs]; exact he) (unhide Hno), ← hs]
            simp [sesCells1, hnw]
          have Hf := hide hf
          have he' : (s.number != n) = false := by simpa using he
          clear hs hf he hnw
          go_wp2
          rw [unhide Hf]
          refine bodyPost_ret (v := .tuple #[.agg #[.int .i64 s.number, .string s.target, .string s.host, .bool false], .int .i64 0]) (by simp [results, Tryz.results104, go_sem, z0, z1, z2, z3]) rfl ⟨rfl, ?_⟩
          exact below_set4 hbn (Nat.le_refl _) _ _ _ _
        · have he' : (s.number != n) = true := by simpa using he
          have hn2 : ∀ s ∈ S.take (k + 1), ¬ s.number = n := by
            intro z hz
            rw [List.take_succ_eq_append_getElem hlt, List.mem_append] at hz
            rcases hz with h | h
            · exact unhide Hno z h
            · simp at h; rw [h, ← hs]; exact he
          have Hn2 := hide hn2
          clear hs hn2 he hnw
          go_wp2
          go_roundw
          case rel => exact ⟨k + 1, by omega, by go_num, by first | rfl | trivial, unhide Hn2⟩
          case measure => simp [intOf]; omega
      · have hnl : ¬ (k : Int) < (S.length : Int) := by omega
        have hf : meetV S n = .tuple #[.agg zSes, .int .i64 12] := by
          unfold meetV
          rw [show S.find? (fun s => decide (s.number = n)) = none from by
            rw [List.find?_eq_none]
            intro s hs
            simpa using unhide Hno s (by rw [List.take_of_length_le (by omega)]; exact hs)]
        have Hf := hide hf
        clear hf
        go_wp2
        rw [unhide Hf]
        refine bodyPost_ret (v := .tuple #[.agg zSes, .int .i64 12]) (by simp [results, Tryz.results104, go_sem, z0, z1, z2, z3, zSes]) rfl ⟨rfl, ?_⟩
        exact below_set4 hbn (Nat.le_refl _) _ _ _ _

/-- What End leaves. -/
def EndEnd (r b : Nat) (S : List Ses) (w : World) (e : Ending) (w' : World) : Prop :=
  e = .returned (.tuple #[]) ∧ (∃ v', w'.cell? ⟨r, 3, none⟩ = some v' ∧ SesRow w' (b + 1) v' S) ∧ TK KS w w' ∧ Below (b + 1) w w' ∧ RCell r (fun o => o ≠ 3) w w'

theorem SesRow.ended {w w1 : World} {r b : Nat} {v v' : Value} {S : List Ses} (hr : b < r) (hty : ∃ cs fr, w.heap[r]? = some (Obj.cells cs 79 fr)) (hc : w.cell? ⟨r, 3, none⟩ = some v)
    (hb1 : Below w.heap.size w w1) (hn : w1.ownsRow w.heap.size 113 4 v' S.length (sesCells S)) :
    EndEnd r b S w (.returned (.tuple #[])) (w1.setCell ⟨r, 3, none⟩ v') := by
  obtain ⟨cs, fr, hty'⟩ := hty
  have hlt : r < w.heap.size := (Array.getElem?_eq_some_iff.1 hty').1
  have hbr : w1.heap[r]? = w.heap[r]? := hb1.block r hlt
  have hts : TK (fun t => t = 79) w1 (w1.setCell ⟨r, 3, none⟩ v') := TK.setCell (T := fun t => t = 79) (hbr.trans hty') rfl v'
  have htk : TK (fun t => t = 79) w (w1.setCell ⟨r, 3, none⟩ v') := (TK.of_below hb1).trans hts
  exact ⟨rfl, ⟨v', World.cell?_setCell_same _ _ _ ((World.cell?_of_block hbr).trans hc), owns_mono (hts.row (by decide) hn) (by omega)⟩, htk.mono fun _ e => .inl e, (hb1.mono (by omega)).setCell (p := ⟨r, 3, none⟩) (by simp; omega) _, (RCell.of_block hbr).trans (RCell.set (by simp) _)⟩

set_option maxRecDepth 100000 in
set_option maxHeartbeats 400000 in
theorem tend_any (r b : Nat) (n : Int) (v : Value) (S : List Ses) (w : World) (hS : S.length ≤ 1000) (hr : b < r) (hty : ∃ cs fr, w.heap[r]? = some (Obj.cells cs 79 fr)) (hc : w.cell? ⟨r, 3, none⟩ = some v) (hf : w.frozen? ⟨r, 3, none⟩ = false) (h : SesRow w (b + 1) v S) :
    Calls Tryz.prog 175 #[.pointer (some ⟨r, 3, none⟩), .int .i64 n] w fun e w' => EndEnd r b (endS S n) w e w' := by
  have hlt : r < w.heap.size := by obtain ⟨cs, fr, e⟩ := hty; exact (Array.getElem?_eq_some_iff.1 e).1
  obtain ⟨j0, hj, hy0, hy1, hy2⟩ := info_parts Tryz.infoSes
  obtain ⟨a, cap, rfl⟩ := slice_of_owns h
  have HH := hide fun w1 v' S' hb1 hn => SesRow.ended (S := S') (w1 := w1) (v' := v') hr hty hc hb1 hn
  have Hh := hide h
  clear hty h
  go_enter Tryz.func175, Tryz.ntmps175
  go_wp2
  go_loopw [4, 5] (fun tv i wr => ∃ k : Nat, k ≤ S.length ∧ i = .int .i64 k ∧ wr.ownsRow w.heap.size 113 4 tv (endS (S.take k) n).length (sesCells (endS (S.take k) n)) ∧ Below w.heap.size w wr) (fun _ i _ => S.length - (intOf i).toNat)
  case atStart => exact ⟨0, Nat.zero_le _, rfl, World.ownsRow_nil _ _ _ _, Below.refl _ _⟩
  case round =>
    obtain ⟨k, hk, rfl, hown, hbe⟩ := hrel
    obtain ⟨ta, tc, rfl⟩ := slice_of_owns hown
    have hc2 : wr.cell? ⟨r, 3, none⟩ = some (.slice a S.length cap) := (hbe.cell (p := ⟨r, 3, none⟩) hlt).trans hc
    have hf2 : wr.frozen? ⟨r, 3, none⟩ = false := (hbe.frozen (p := ⟨r, 3, none⟩) hlt).trans hf
    have hs := hbe.size
    by_cases hlt2 : k < S.length
    · rcases (unhide Hh).cells with ⟨_, e0⟩ | ⟨g, cap', e1, hcap, _, hg, _, hit⟩
      · rw [e0] at hlt2; simp at hlt2
      simp only [Value.slice.injEq] at e1
      obtain ⟨rfl, _, rfl⟩ := e1
      obtain ⟨s, hse⟩ : ∃ s, s = S[k] := ⟨_, rfl⟩
      have hi := (hit k hlt2).below hbe hg
      rw [← hse] at hi
      obtain ⟨c0, c1, c2, c3⟩ := hi
      have hlt' : (k : Int) < (S.length : Int) := by omega
      have hstep : endS (S.take (k + 1)) n = endS (S.take k) n ++ (if s.number = n then [] else [s]) := by
        rw [List.take_succ_eq_append_getElem hlt2, ← hse]
        unfold endS
        rw [List.filter_append]
        congr 1
        by_cases e : s.number = n <;> simp [e]
      by_cases he : s.number = n
      · rw [if_pos he, List.append_nil] at hstep
        have Hst := hide hstep
        have he' : (s.number != n) = false := by simpa using he
        clear hstep he hse hit
        go_wp2
        go_roundw
        case rel => exact ⟨k + 1, by omega, by go_num, by rw [unhide Hst]; exact hown, hbe⟩
        case measure => simp [intOf]; omega
      · rw [if_neg he] at hstep
        have Hst := hide hstep
        have he' : (s.number != n) = true := by simpa using he
        have hlr : (endS (S.take k) n).length ≤ 1000 := Nat.le_trans (List.length_filter_le _ _) (by rw [List.length_take]; omega)
        clear hstep he hse hit
        generalize hT : endS (S.take k) n = T at *
        clear hT
        go_wp2_with (at_builtin; refine wpList_append_own _ rfl _ _ 74 rfl w.heap.size 113 j0 (.agg zSes) 4 48 Tryz.underlying74 hj hy0 hy1 hy2 rfl (by decide) (.slice ta T.length tc) T.length (sesCells T) ?hs ?c0 ⟨wr.heap.size, 0, none⟩ 1 1 (sesCells1 s) ?hx ?hlen ?c1 (ses_one _) ?c3 ?c4 ?c5 ?_)
        case hs => rfl
        case c0 => exact hown.alloc _
        case hx => rfl
        case hlen => rfl
        case c1 => first | exact (fun j u hj => hj) | exact news_alloc wr (sesCells1 s) 113
        case c3 => unfold maxLen; omega
        case c4 => omega
        case c5 => first | omega | (simp; omega)
        intro v' w2 hown' hgrow _
        have hba := hbe.alloc hs (.cells #[.int .i64 s.number, .string s.target, .string s.host, .bool s.news] 113)
        have hb2 : Below w.heap.size w w2 := hba.grown hgrow (by have := hba.size; simp; omega) (fun k e => (hown.lt k e).1)
        clear hgrow c0 c1 c2 c3
        go_wp2
        go_roundw
        case rel => exact ⟨k + 1, by omega, by go_num, by rw [unhide Hst, List.length_append, sesCells_snoc]; exact hown', hb2⟩
        case measure => simp [intOf]; omega
    · have hall : S.take k = S := List.take_of_length_le (by omega)
      rw [hall] at hown ⊢
      have HE := hide (unhide HH _ _ _ hbe hown)
      have hnl : ¬ (k : Int) < (S.length : Int) := by omega
      clear hall hown HH
      go_wp2
      go_end0
      exact unhide HE

end Go.Proofs.YtdlhgbhaeedbdabGreat
