/- Wk1, Wk2, Mk4, PureB. -/
import Derived.Test.YtdlhgbhaeedbdabGreatM8
import Derived.Test.YtdlhgbhaeedbdabGreatM9

/- Steps on lists of items: plain mathematics. -/
namespace Go.Proofs.YtdlhgbhaeedbdabGreat
open Go.RowKit

def itText (x : It) : ByteArray := ⟨x.text.toArray⟩

theorem itText_size (x : It) : (itText x).size = x.text.length := by simp [itText, ByteArray.size]

theorem text_len {x : It} (hx : x.ok) : x.text.length ≤ 25 := by
  rcases hx with ⟨ha, ⟨e, _⟩ | ⟨e, _⟩ | ⟨e, hb, _⟩ | ⟨e, hb, _⟩ | ⟨e, hb, _⟩⟩
  all_goals simp [It.text, It.body, e]
  all_goals (have := ha.2.1; try have := hb.2.1); omega

/-- A text that is one item. -/
theorem good_read {s : ByteArray} (h : goodI s = true) : ∃ x : It, x.ok ∧ s = itText x ∧ oneI s = x.item := by
  have h2 : (itemS s (0, false)).2 = false ∧ (itemS s (0, false)).1 = s.size := by simpa [goodI] using h
  obtain ⟨x, hx, e1, e2, e3⟩ := item_read h2.1
  refine ⟨x, hx, ?_, by rw [oneI, if_pos h]; exact e3⟩
  have hl : x.text.length = s.size := by have := h2.2; rw [e1] at this; simpa using this
  rw [Nat.zero_add, rest_zero, show rest s x.text.length = [] from rest_nil.2 (by omega), List.append_nil] at e2
  unfold itText
  rw [← e2, bytes_mk]

theorem good_gives {x : It} (hx : x.ok) : goodI (itText x) = true ∧ oneI (itText x) = x.item := by
  obtain ⟨e1, e2⟩ := item_gives (s := itText x) (p := 0) hx (r := []) (by rw [rest_zero]; simp [itText])
  have hg : goodI (itText x) = true := by simp [goodI, e1, itText_size]
  exact ⟨hg, by rw [oneI, if_pos hg]; exact e2⟩

theorem oneI_size (s : ByteArray) : (oneI s).text.size ≤ 400 := by
  cases h : goodI s with
  | true => obtain ⟨x, hx, _, e⟩ := good_read h
            rw [e, show x.item.text = itText x from rfl, itText_size]
            have := text_len hx; omega
  | false => simp only [oneI, h, Bool.false_eq_true, if_false]; exact Nat.zero_le _

theorem itS_size (s : ByteArray) : (itS s).text.size ≤ 400 := by
  unfold itS
  split
  · exact oneI_size _
  · exact Nat.zero_le _

/-- One step, of any text. -/
def step1 (l : List Item) (s : ByteArray) : Option (List Item) := if goodS s && doB (addsS s) l (itS s) then some (doI (addsS s) l (itS s)) else none

/-- Steps, of any texts. -/
def wlk (l : List Item) : List ByteArray → Option (List Item)
  | [] => some l
  | s :: r => match step1 l s with | none => none | some m => wlk m r
/-- How many of them can be done. -/
def wlkN (l : List Item) : List ByteArray → Nat
  | [] => 0
  | s :: r => match step1 l s with | none => 0 | some m => wlkN m r + 1

theorem wlk_append (l : List Item) (a b : List ByteArray) : wlk l (a ++ b) = match wlk l a with | none => none | some m => wlk m b := by
  induction a generalizing l with
  | nil => rfl
  | cons s a ih =>
    simp only [List.cons_append, wlk]
    cases step1 l s with
    | none => rfl
    | some m => exact ih m

theorem wlk_snoc {l m : List Item} {a : List ByteArray} {s : ByteArray} (h : wlk l a = some m) : wlk l (a ++ [s]) = step1 m s := by
  rw [wlk_append, h]
  simp only [wlk]
  cases step1 m s <;> rfl

theorem wlkN_some {l m : List Item} {a : List ByteArray} (h : wlk l a = some m) : wlkN l a = a.length := by
  induction a generalizing l with
  | nil => rfl
  | cons s a ih =>
    simp only [wlk] at h
    simp only [wlkN]
    cases e : step1 l s with
    | none => rw [e] at h; simp at h
    | some m' => rw [e] at h; simp only [List.length_cons]; rw [ih h]

theorem wlkN_stop {l m : List Item} {a b : List ByteArray} {s : ByteArray} (h : wlk l a = some m) (hs : step1 m s = none) : wlkN l (a ++ s :: b) = a.length ∧ wlk l (a ++ s :: b) = none := by
  induction a generalizing l with
  | nil =>
    simp only [wlk, Option.some.injEq] at h
    subst h
    simp [wlkN, wlk, hs]
  | cons t a ih =>
    simp only [wlk] at h
    simp only [List.cons_append, wlkN, wlk]
    cases e : step1 l t with
    | none => rw [e] at h; simp at h
    | some m' => rw [e] at h; simp only [List.length_cons]; rw [(ih h).1, (ih h).2]; exact ⟨rfl, rfl⟩

/-- The bounds of an arrangement. -/
def Fits (l : List Item) : Prop := l.length ≤ 24 ∧ sizeI l ≤ 400

theorem sizeI_mem {l : List Item} {x : Item} (h : x ∈ l) : x.text.size ≤ sizeI l := by
  induction l with
  | nil => simp at h
  | cons a l ih =>
    simp only [sizeI, List.map_cons, List.sum_cons] at ih ⊢
    rcases List.mem_cons.1 h with rfl | h
    · omega
    · have := ih h; omega

theorem Fits.text {l : List Item} (h : Fits l) : ∀ x ∈ l, x.text.size ≤ 400 := fun _ hx => Nat.le_trans (sizeI_mem hx) h.2

theorem sizeI_append (a b : List Item) : sizeI (a ++ b) = sizeI a + sizeI b := by simp [sizeI]

theorem sizeI_without (l : List Item) (y : Item) : sizeI (without l y) ≤ sizeI l := by
  unfold without sizeI
  induction l with
  | nil => simp
  | cons a l ih =>
    rw [List.filter_cons]
    split <;> simp only [List.map_cons, List.sum_cons] <;> omega

theorem fits_step {l m : List Item} {s : ByteArray} (h : Fits l) (hs : step1 l s = some m) : Fits m := by
  unfold step1 at hs
  split at hs
  · rename_i hc
    have hc2 : goodS s = true ∧ doB (addsS s) l (itS s) = true := by simpa using hc
    simp only [Option.some.injEq] at hs
    subst hs
    unfold doI
    cases hb : addsS s with
    | true =>
      have hd := hc2.2
      rw [hb] at hd
      have hr : roomB l (itS s) = true := by
        have : roomB l (itS s) = true ∧ freeB l (itS s) = true := by simpa [doB] using hd
        exact this.1
      obtain ⟨r1, r2⟩ := roomB_iff hr
      have hwl := without_len l (itS s)
      have hws := sizeI_without l (itS s)
      refine ⟨by simp; omega, ?_⟩
      simp only [if_true]
      rw [sizeI_append]
      refine Nat.le_trans ?_ r2
      refine Nat.add_le_add hws ?_
      simp [sizeI]
    | false =>
      simp only [Bool.false_eq_true, if_false]
      exact ⟨Nat.le_trans (without_len _ _) h.1, Nat.le_trans (sizeI_without _ _) h.2⟩
  · simp at hs

theorem sizeI_map (L : List It) : sizeI (L.map It.item) = (catT L).length := by
  induction L with
  | nil => rfl
  | cons a L ih =>
    simp only [sizeI, catT, List.map_cons, List.sum_cons, List.flatMap_cons, List.length_append] at ih ⊢
    rw [ih, show a.item.text = itText a from rfl, itText_size]

theorem chkZero {s : ByteArray} (h : (chk s).1 = 0) : chk s = (0, 0) := by
  rcases chk_cases s with ⟨_, h1⟩ | ⟨_, ⟨h1, _⟩ | ⟨_, ⟨k, _, h1⟩ | ⟨k, _, h1⟩ | h1⟩⟩
  · rw [h1] at h; simp at h
  · rw [h1] at h; simp at h
  · rw [h1] at h; simp at h
  · rw [h1] at h; simp at h
  · exact h1

theorem Arr.fits {L : List It} (h : Arr L) : Fits (L.map It.item) := ⟨by simp; exact h.few, by rw [sizeI_map]; exact h.short⟩

theorem fits_of_chk {s : ByteArray} (h : (chk s).1 = 0) : Fits (itemsOf s) := by
  obtain ⟨L, hL, _, e⟩ := arr_of_chk (chkZero h)
  rw [e]; exact hL.fits

/-- What Walk tells of an arrangement. -/
def wOut (s : ByteArray) (ss : List ByteArray) : ByteArray := match wlk (itemsOf s) ss with | some m => ⟨(catB (sortTo m m.length)).toArray⟩ | none => ⟨#[]⟩
def wErr (s : ByteArray) (ss : List ByteArray) : Nat := match wlk (itemsOf s) ss with | some _ => 0 | none => 5

end Go.Proofs.YtdlhgbhaeedbdabGreat

/- 'rack.Walk'. -/
namespace Go.Proofs.YtdlhgbhaeedbdabGreat
open Go.RowKit

/-- A list of texts that came in: at its place, or none. -/
def TxAt (w : World) (a : Option Addr) (ss : List ByteArray) : Prop :=
  (ss = []) ∨ ∃ g o, a = some ⟨g, o, none⟩ ∧ g < w.heap.size ∧ ∀ i (h : i < ss.length), w.cell? ⟨g, o + i, none⟩ = some (.string ss[i])

theorem aprint_at (v : Value) (l : List Item) (w : World) (h : Fits l) (hv : ItemsAt w v l) :
    Calls Tryz.prog 61 #[v] w fun e w' => e = .returned (.string ⟨(catB (sortTo l l.length)).toArray⟩) ∧ Below w.heap.size w w' := by
  rcases hv with ⟨rfl, rfl⟩ | ⟨g, cap, rfl, hcap, hit⟩
  · exact aprint_nil w
  · exact aprint_in g cap l w h.1 (fun x hx => h.text x (mem_sortTo hx)) hit

set_option maxRecDepth 100000 in
set_option maxHeartbeats 1000000 in
theorem walk_ok (s : ByteArray) (a : Option Addr) (cap : Nat) (ss : List ByteArray) (w : World) (hs : s.size ≤ maxLen) (hn : ss.length ≤ maxLen) (hz : ∀ t ∈ ss, t.size ≤ maxLen) (ht : TxAt w a ss) (h0 : (chk s).1 = 0) :
    Calls Tryz.prog 51 #[.string s, .slice a ss.length cap] w fun e w' => e = .returned (.tuple #[.string (wOut s ss), .int .i64 (wlkN (itemsOf s) ss), .int .i64 (wErr s ss)]) ∧ Below w.heap.size w w' := by
  have hp := parse_any s w hs
  have hnot : ∀ (x : Bool) (w : World), (Op.unary .not (.bool x)).run Tryz.prog w = .ok (.bool (!x)) w := fun _ _ => rfl
  unfold maxLen at hn hz
  have hfit := fits_of_chk h0
  rw [h0] at hp
  have Hp := hide hp
  have Hfit := hide hfit
  clear hp hfit h0 hs
  go_enter Tryz.func51, Tryz.ntmps51
  go_wp2_with fail
  refine (unhide Hp).mono ?_
  rintro e w1 ⟨v, rfl, hown, hb1⟩
  replace hown := hown trivial
  have hat := items_of_owns hown
  obtain ⟨va, vc, rfl⟩ := slice_of_items hat
  clear hown Hp
  go_wp2
  go_loopw [7, 10] (fun tv i wr => ∃ (k : Nat) (m : List Item), k ≤ ss.length ∧ i = .int .i64 k ∧ wlk (itemsOf s) (ss.take k) = some m ∧ Fits m ∧ ItemsAt wr tv m ∧ Below w.heap.size w wr) (fun _ i _ => ss.length - (intOf i).toNat)
  case atStart => exact ⟨0, itemsOf s, Nat.zero_le _, rfl, rfl, unhide Hfit, hat, hb1⟩
  case round =>
    obtain ⟨k, m, hk, rfl, hwl, hfm, hvm, hbe⟩ := hrel
    have Hwl := hide hwl
    obtain ⟨a1, c1, rfl⟩ := slice_of_items hvm
    have hsz := hbe.size
    clear hwl
    by_cases hlt : k < ss.length
    · rcases ht with h | ⟨g, o, rfl, hg, hc⟩
      · rw [h] at hlt; simp at hlt
      obtain ⟨t, htt⟩ : ∃ t, t = ss[k] := ⟨_, rfl⟩
      have hcell := (hbe.cell (p := ⟨g, o + k, none⟩) hg).trans (hc k hlt)
      rw [← htt] at hcell
      have hts : t.size ≤ 9223372036854775807 := hz t (by rw [htt]; exact List.getElem_mem hlt)
      have hlt' : (k : Int) < (ss.length : Int) := by omega
      have hsplit : ss = ss.take k ++ t :: ss.drop (k + 1) := by rw [htt, List.getElem_cons_drop, List.take_append_drop]
      have hsn : ss.take (k + 1) = ss.take k ++ [t] := by rw [List.take_succ_eq_append_getElem hlt, ← htt]
      have Hsp := hide hsplit
      have Hsn := hide hsn
      have Hc := hide hc
      have hparse := fun wx => stParse_any t wx hts
      have hys := itS_size t
      clear hsplit hsn htt hc
      cases hgd : goodS t with
      | false =>
        have hst : step1 m t = none := by simp [step1, hgd]
        have hf : wlkN (itemsOf s) ss = k ∧ wlk (itemsOf s) ss = none := by
          have := wlkN_stop (b := ss.drop (k + 1)) (unhide Hwl) hst
          rw [← unhide Hsp] at this
          refine ⟨this.1.trans ?_, this.2⟩
          simp; omega
        have hf2 : wOut s ss = ⟨#[]⟩ ∧ wErr s ss = 5 := by simp [wOut, wErr, hf.2]
        have Hf := hide (⟨hf.1, hf2⟩ : _ ∧ _)
        rw [hgd] at hparse
        have Hpa := hide hparse
        clear hparse hst hf hf2 hgd
        go_wp2_with fail
        refine (unhide Hpa _).mono ?_
        rintro e w2 ⟨rfl, hb2⟩
        have hb02 : Below w.heap.size w w2 := hbe.trans (hb2.mono hsz)
        have hsd : ∀ b y, stCells b y = #[.bool b, .int .i64 y.kind, .string y.name, .string y.host, .int .i64 y.number, .int .i64 y.size, .string y.disk, .bool y.only, .int .i64 y.lun, .string y.text] := fun _ _ => rfl
        go_wp2
        go_ret3
        exact ⟨by rw [(unhide Hf).1, (unhide Hf).2.1, (unhide Hf).2.2]; rfl, hb02.alloc (by have := hb2.size; omega) _⟩
      | true =>
        rw [hgd] at hparse
        have Hpa := hide hparse
        clear hparse
        have hsd : ∀ b y, stCells b y = #[.bool b, .int .i64 y.kind, .string y.name, .string y.host, .int .i64 y.number, .int .i64 y.size, .string y.disk, .bool y.only, .int .i64 y.lun, .string y.text] := fun _ _ => rfl
        cases hdo : doB (addsS t) m (itS t) with
        | false =>
          have hst : step1 m t = none := by simp [step1, hdo]
          have hf : wlkN (itemsOf s) ss = k ∧ wlk (itemsOf s) ss = none := by
            have := wlkN_stop (b := ss.drop (k + 1)) (unhide Hwl) hst
            rw [← unhide Hsp] at this
            refine ⟨this.1.trans ?_, this.2⟩
            simp; omega
          have hf2 : wOut s ss = ⟨#[]⟩ ∧ wErr s ss = 5 := by simp [wOut, wErr, hf.2]
          have Hf := hide (⟨hf.1, hf2⟩ : _ ∧ _)
          have Hdo := hide hdo
          clear hst hf hf2 hgd hdo
          generalize addsS t = sb at *
          generalize itS t = sy at *
          go_wp2_with fail
          refine (unhide Hpa _).mono ?_
          rintro e w2 ⟨rfl, hb2⟩
          have hb02 : Below w.heap.size w w2 := hbe.trans (hb2.mono hsz)
          have hv2 := hvm.below hb2 (Nat.le_refl _)
          have hl2 := hb2.size
          go_wp2_with fail
          refine (do_not sb _ m sy _ hfm.1 (by have := hfm.2; omega) (by omega) (hv2.below (below_new _ _) (Nat.le_refl _)) (unhide Hdo)).mono ?_
          rintro e w3 ⟨rfl, hb3⟩
          go_wp2
          go_ret3
          exact ⟨by rw [(unhide Hf).1, (unhide Hf).2.1, (unhide Hf).2.2]; rfl, (hb02.alloc (by omega) _).trans (hb3.mono (by simp; omega))⟩
        | true =>
          have hst : step1 m t = some (doI (addsS t) m (itS t)) := by simp [step1, hgd, hdo]
          have hfm2 := fits_step hfm hst
          have hw2 := (wlk_snoc (s := t) (unhide Hwl)).trans hst
          rw [← unhide Hsn] at hw2
          have Hw2 := hide hw2
          have Hdo := hide hdo
          clear hst hgd hdo hw2
          generalize addsS t = sb at *
          generalize itS t = sy at *
          go_wp2_with fail
          refine (unhide Hpa _).mono ?_
          rintro e w2 ⟨rfl, hb2⟩
          have hb02 : Below w.heap.size w w2 := hbe.trans (hb2.mono hsz)
          have hv2 := hvm.below hb2 (Nat.le_refl _)
          have hl2 := hb2.size
          go_wp2_with fail
          refine (do_ok sb _ m sy _ hfm.1 (by have := hfm.2; omega) (by omega) (hv2.below (below_new _ _) (Nat.le_refl _)) (unhide Hdo)).mono ?_
          rintro e w3 ⟨v3, rfl, hown3, hb3⟩
          have hb03 : Below w.heap.size w w3 := (hb02.alloc (by omega) _).trans (hb3.mono (by simp; omega))
          have hat3 := items_of_owns hown3
          clear hown3 hb3
          go_wp2
          go_roundw
          case rel => exact ⟨k + 1, _, by omega, by go_num, unhide Hw2, hfm2, hat3, hb03⟩
          case measure => simp [intOf]; omega
    · have hall : ss.take k = ss := List.take_of_length_le (by omega)
      have hwl := unhide Hwl
      rw [hall] at hwl
      have hf : wOut s ss = ⟨(catB (sortTo m m.length)).toArray⟩ ∧ wErr s ss = 0 ∧ wlkN (itemsOf s) ss = ss.length := ⟨by simp [wOut, hwl], by simp [wErr, hwl], wlkN_some hwl⟩
      have Hf := hide hf
      clear hf hwl hall
      go_wp2_with fail
      refine (aprint_at _ m _ hfm hvm).mono ?_
      rintro e w2 ⟨rfl, hb2⟩
      go_wp2
      go_ret3
      exact ⟨by rw [(unhide Hf).1, (unhide Hf).2.1, (unhide Hf).2.2]; rfl, hbe.trans (hb2.mono hsz)⟩

end Go.Proofs.YtdlhgbhaeedbdabGreat

/- 'rack.Plan'. -/
namespace Go.Proofs.YtdlhgbhaeedbdabGreat
open Go.RowKit

theorem mem_outs {g : List Item} {c : Nat} {p : Bool × Item} (h : p ∈ outs g c) : p.1 = false ∧ p.2 ∈ g ∧ (p.2.kind : Int) = 4 - (c : Int) := by
  unfold outs at h
  obtain ⟨x, hx, rfl⟩ := List.mem_map.1 h
  obtain ⟨h1, h2⟩ := List.mem_filter.1 hx
  exact ⟨rfl, h1, of_decide_eq_true h2⟩

theorem mem_dn {g : List Item} {c : Nat} {p : Bool × Item} (h : p ∈ dn g c) : p.1 = false ∧ p.2 ∈ g := by
  induction c with
  | zero => simp [dn] at h
  | succ c ih =>
    rcases List.mem_append.1 h with h | h
    · exact ih h
    · exact ⟨(mem_outs h).1, (mem_outs h).2.1⟩

theorem mem_ups {st m : List Item} {p : Bool × Item} (h : p ∈ ups st m) : p.1 = true ∧ p.2 ∈ m ∧ holdsB st p.2.text = false := by
  unfold ups at h
  obtain ⟨x, hx, rfl⟩ := List.mem_map.1 h
  obtain ⟨h1, h2⟩ := List.mem_filter.1 hx
  exact ⟨rfl, h1, by simpa using h2⟩

theorem mem_spl_foldl {t l : List Item} {p : List Item × List Item} {x : Item} (h : x ∈ (l.foldl (spl1 t) p).1 ∨ x ∈ (l.foldl (spl1 t) p).2) : x ∈ p.1 ∨ x ∈ p.2 ∨ x ∈ l := by
  induction l generalizing p with
  | nil => rcases h with h | h
           · exact Or.inl h
           · exact Or.inr (Or.inl h)
  | cons a l ih =>
    rcases ih h with h | h | h
    · unfold spl1 at h
      split at h
      · rcases List.mem_append.1 h with h | h
        · exact Or.inl h
        · exact Or.inr (Or.inr (by simp at h; simp [h]))
      · exact Or.inl h
    · unfold spl1 at h
      split at h
      · exact Or.inr (Or.inl h)
      · rcases List.mem_append.1 h with h | h
        · exact Or.inr (Or.inl h)
        · exact Or.inr (Or.inr (by simp at h; simp [h]))
    · exact Or.inr (Or.inr (by simp [h]))

theorem mem_spl {t l : List Item} {x : Item} (h : x ∈ (spl t l).1 ∨ x ∈ (spl t l).2) : x ∈ l := by
  rcases mem_spl_foldl h with h | h | h
  · simp at h
  · simp at h
  · exact h

theorem mem_mk {l t : List Item} {p : Bool × Item} (h : p ∈ mk l t) : p.2 ∈ l ∨ p.2 ∈ t := by
  rcases List.mem_append.1 h with h | h
  · exact Or.inl (mem_sortTo (mem_spl (Or.inr (mem_dn h).2)))
  · exact Or.inr (mem_sortTo (mem_ups h).2.1)

/-- What Plan answers. -/
def plErr (s t : ByteArray) : Nat := if (chk s).1 = 0 then (chk t).1 else (chk s).1
def pl (s t : ByteArray) : List ByteArray := if plErr s t = 0 then stTxts (mk (itemsOf s) (itemsOf t)) else []

set_option maxRecDepth 100000 in
set_option maxHeartbeats 400000 in
theorem plan_any (s t : ByteArray) (w : World) (hs : s.size ≤ maxLen) (ht : t.size ≤ maxLen) :
    Calls Tryz.prog 22 #[.string s, .string t] w fun e w' => ∃ v, e = .returned (.tuple #[v, .int .i64 (plErr s t)]) ∧ w'.ownsRow w.heap.size 9 1 v (pl s t).length ((pl s t).map Value.string) ∧ Below w.heap.size w w' := by
  have hp := parse_any s w hs
  by_cases h0 : (chk s).1 = 0
  · have he : plErr s t = (chk t).1 := by simp [plErr, h0]
    have hf1 := fits_of_chk h0
    rw [h0] at hp
    have hpt := fun wx => parse_any t wx ht
    by_cases h1 : (chk t).1 = 0
    · have hpl : pl s t = stTxts (mk (itemsOf s) (itemsOf t)) := by simp [pl, he, h1]
      have hf2 := fits_of_chk h1
      rw [hpl, he, h1]
      have hpt' : ∀ wx : World, Calls Tryz.prog 52 #[.string t] wx fun e w' => ∃ v, e = .returned (.tuple #[v, .int .i64 0, .int .i64 ((chk t).2 : Nat)]) ∧ w'.ownsRow (wx.heap.size + 1) 83 9 v (itemsOf t).length (allCells (itemsOf t)) ∧ Below wx.heap.size wx w' := by
        intro wx
        refine (hpt wx).mono ?_
        rintro e w' ⟨v, he, ho, hb⟩
        exact ⟨v, by rw [he, h1]; rfl, ho h1, hb⟩
      have htx : ∀ p ∈ mk (itemsOf s) (itemsOf t), p.2.text.size ≤ 1000000 := by
        intro p hp
        rcases mem_mk hp with h | h
        · have := hf1.text _ h; omega
        · have := hf2.text _ h; omega
      have hln := mk_len (itemsOf s) (itemsOf t) hf1.1 hf2.1
      have Hp := hide hp
      have Hpt := hide hpt'
      have Htx := hide htx
      clear hp hpt hpt' htx he hpl h0 h1
      go_enter Tryz.func22, Tryz.ntmps22
      go_wp2_with fail
      refine (unhide Hp).mono ?_
      rintro e w1 ⟨v1, rfl, hown1, hb1⟩
      replace hown1 := hown1 trivial
      have hl1 := hb1.size
      go_wp2_with fail
      refine (unhide Hpt _).mono ?_
      rintro e w2 ⟨v2, rfl, hown2, hb2⟩
      have hl2 := hb2.size
      have hb02 : Below w.heap.size w w2 := hb1.trans (hb2.mono hl1)
      have hat1 := items_of_owns (owns_later hown1 hb2)
      have hat2 := items_of_owns hown2
      clear hown1 hown2
      go_wp2_with fail
      refine (make_at v1 v2 _ _ w2 hf1.1 hf2.1 hat1 hat2).mono ?_
      rintro e w3 ⟨v3, rfl, hown3, hb3⟩
      have hl3 := hb3.size
      have hb03 : Below w.heap.size w w3 := hb02.trans (hb3.mono (by omega))
      have hat3 := steps_of_owns hown3
      clear hown3
      go_wp2_with fail
      refine (texts_at v3 _ w3 hln (unhide Htx) hat3).mono ?_
      rintro e w4 ⟨v4, rfl, hown4, hb4⟩
      go_wp2
      go_ret2
      exact ⟨_, rfl, owns_mono hown4 (by omega), hb03.trans (hb4.mono (by omega))⟩
    · have hpl : pl s t = [] := by simp [pl, he, h1]
      have h1' : ((((chk t).1 : Nat) : Int) != 0) = true := by rw [bne_iff_ne]; omega
      rw [hpl, he]
      generalize (chk t).1 = c at *
      have Hp := hide hp
      have Hpt := hide hpt
      clear hp hpt he hpl h1 h0
      go_enter Tryz.func22, Tryz.ntmps22
      go_wp2_with fail
      refine (unhide Hp).mono ?_
      rintro e w1 ⟨v1, rfl, hown1, hb1⟩
      have hl1 := hb1.size
      clear hown1
      go_wp2_with fail
      refine (unhide Hpt _).mono ?_
      rintro e w2 ⟨v2, rfl, hown2, hb2⟩
      clear hown2
      go_wp2
      go_ret2
      exact ⟨_, rfl, World.ownsRow_nil _ _ _ _, hb1.trans (hb2.mono hl1)⟩
  · have he : plErr s t = (chk s).1 := by simp [plErr, h0]
    have hpl : pl s t = [] := by simp [pl, he, h0]
    have h0' : ((((chk s).1 : Nat) : Int) != 0) = true := by rw [bne_iff_ne]; omega
    rw [hpl, he]
    generalize (chk s).1 = c at *
    have Hp := hide hp
    clear hp he hpl h0
    go_enter Tryz.func22, Tryz.ntmps22
    go_wp2_with fail
    refine (unhide Hp).mono ?_
    rintro e w1 ⟨v1, rfl, hown1, hb1⟩
    clear hown1
    go_wp2
    go_ret2
    exact ⟨_, rfl, World.ownsRow_nil _ _ _ _, hb1⟩

/-- What Walk answers. -/
def wkErr (s : ByteArray) (ss : List ByteArray) : Nat := if (chk s).1 = 0 then wErr s ss else (chk s).1
def wkTxt (s : ByteArray) (ss : List ByteArray) : ByteArray := if (chk s).1 = 0 then wOut s ss else ⟨#[]⟩
def wkN (s : ByteArray) (ss : List ByteArray) : Nat := if (chk s).1 = 0 then wlkN (itemsOf s) ss else 0

set_option maxRecDepth 100000 in
set_option maxHeartbeats 400000 in
theorem walk_any (s : ByteArray) (a : Option Addr) (cap : Nat) (ss : List ByteArray) (w : World) (hs : s.size ≤ maxLen) (hn : ss.length ≤ maxLen) (hz : ∀ t ∈ ss, t.size ≤ maxLen) (ht : TxAt w a ss) :
    Calls Tryz.prog 51 #[.string s, .slice a ss.length cap] w fun e w' => e = .returned (.tuple #[.string (wkTxt s ss), .int .i64 (wkN s ss), .int .i64 (wkErr s ss)]) ∧ Below w.heap.size w w' := by
  by_cases h0 : (chk s).1 = 0
  · have := walk_ok s a cap ss w hs hn hz ht h0
    simpa only [wkErr, wkTxt, wkN, h0, if_true] using this
  · have hp := parse_any s w hs
    have e1 : wkErr s ss = (chk s).1 := by simp [wkErr, h0]
    have e2 : wkTxt s ss = ⟨#[]⟩ := by simp [wkTxt, h0]
    have e3 : wkN s ss = 0 := by simp [wkN, h0]
    have h0' : ((((chk s).1 : Nat) : Int) != 0) = true := by rw [bne_iff_ne]; omega
    rw [e1, e2, e3]
    generalize (chk s).1 = c at *
    have Hp := hide hp
    clear hp e1 e2 e3 h0
    go_enter Tryz.func51, Tryz.ntmps51
    go_wp2_with fail
    refine (unhide Hp).mono ?_
    rintro e w1 ⟨v1, rfl, hown1, hb1⟩
    clear hown1
    go_wp2
    go_ret3
    exact ⟨rfl, hb1⟩

end Go.Proofs.YtdlhgbhaeedbdabGreat

/- Pu1, Pu2, Pu3. -/
/- Steps and arrangements: plain mathematics. -/
namespace Go.Proofs.YtdlhgbhaeedbdabGreat
open Go.RowKit

/-- An item as the reader makes it. -/
def Good (x : Item) : Prop := ∃ i : It, i.ok ∧ x = i.item

theorem Good.inj {x y : Item} (hx : Good x) (hy : Good y) (h : x.text = y.text) : x = y := by
  obtain ⟨i, hi, rfl⟩ := hx
  obtain ⟨j, hj, rfl⟩ := hy
  rw [← (good_gives hi).2, ← (good_gives hj).2]
  exact congrArg oneI h

theorem Good.kind {x : Item} (hx : Good x) : x.kind ≤ 4 := by
  obtain ⟨i, hi, rfl⟩ := hx
  exact kind_le hi

/-- A list of items that is an arrangement. -/
structure ArrI (l : List Item) : Prop where
  good : ∀ x ∈ l, Good x
  fits : Fits l
  dist : Dist l
  refs : Refs l

theorem Arr.arrI {L : List It} (h : Arr L) : ArrI (L.map It.item) :=
  ⟨fun x hx => by obtain ⟨i, hi, rfl⟩ := List.mem_map.1 hx; exact ⟨i, h.ok i hi, rfl⟩, h.fits, h.dist, h.refs⟩

theorem good_list {l : List Item} (h : ∀ x ∈ l, Good x) : ∃ L : List It, (∀ i ∈ L, i.ok) ∧ l = L.map It.item := by
  induction l with
  | nil => exact ⟨[], by simp, rfl⟩
  | cons a l ih =>
    obtain ⟨L, h1, h2⟩ := ih (fun x hx => h x (by simp [hx]))
    obtain ⟨i, hi, e⟩ := h a (by simp)
    exact ⟨i :: L, by simpa [hi] using h1, by simp [e, h2]⟩

theorem ArrI.arr {l : List Item} (h : ArrI l) : ∃ L : List It, Arr L ∧ l = L.map It.item := by
  obtain ⟨L, h1, rfl⟩ := good_list h.good
  refine ⟨L, ⟨h1, by have := h.fits.1; simpa using this, ?_, h.dist, h.refs⟩, rfl⟩
  rw [← sizeI_map]; exact h.fits.2

theorem sizeI_perm {l m : List Item} (h : l.Perm m) : sizeI l = sizeI m := (h.map _).sum_nat

theorem ArrI.perm {l m : List Item} (h : ArrI l) (hp : l.Perm m) : ArrI m :=
  ⟨fun x hx => h.good x (hp.mem_iff.2 hx), ⟨by rw [← hp.length_eq]; exact h.fits.1, by rw [← sizeI_perm hp]; exact h.fits.2⟩,
   h.dist.perm hp (fun h k => h k.symm), refs_perm hp h.refs⟩

theorem any_perm {l m : List Item} (h : l.Perm m) (p : Item → Bool) : l.any p = m.any p := by
  rw [Bool.eq_iff_iff, List.any_eq_true, List.any_eq_true]
  constructor
  · rintro ⟨x, hx, hp⟩; exact ⟨x, h.mem_iff.1 hx, hp⟩
  · rintro ⟨x, hx, hp⟩; exact ⟨x, h.mem_iff.2 hx, hp⟩

theorem doB_perm {l m : List Item} (h : l.Perm m) (b : Bool) (y : Item) : doB b l y = doB b m y := by
  unfold doB roomB freeB goB holdsB namedB
  rw [any_perm h, any_perm h, any_perm h, h.length_eq, sizeI_perm h]
  have : (fun k => l.any (keyIs k)) = fun k => m.any (keyIs k) := funext fun k => any_perm h _
  rw [this]

theorem doI_perm {l m : List Item} (h : l.Perm m) (b : Bool) (y : Item) : (doI b l y).Perm (doI b m y) := by
  unfold doI without
  cases b
  · exact h.filter _
  · exact (h.filter _).append_right _

theorem step1_perm {l l' m : List Item} {s : ByteArray} (h : l.Perm l') (hs : step1 l s = some m) : ∃ m', step1 l' s = some m' ∧ m.Perm m' := by
  unfold step1 at hs ⊢
  rw [← doB_perm h]
  split at hs
  · rename_i hc
    rw [if_pos hc]
    simp only [Option.some.injEq] at hs
    subst hs
    exact ⟨_, rfl, doI_perm h _ _⟩
  · simp at hs

theorem wlk_perm {l l' m : List Item} {ss : List ByteArray} (h : l.Perm l') (hs : wlk l ss = some m) : ∃ m', wlk l' ss = some m' ∧ m.Perm m' := by
  induction ss generalizing l l' with
  | nil => simp only [wlk, Option.some.injEq] at hs; subst hs; exact ⟨l', rfl, h⟩
  | cons s ss ih =>
    simp only [wlk] at hs ⊢
    cases e : step1 l s with
    | none => rw [e] at hs; simp at hs
    | some k =>
      rw [e] at hs
      obtain ⟨k', e', hp⟩ := step1_perm h e
      rw [e']
      exact ih hp hs

/-- The text of a step is read as the step. -/
theorem stTxt_good {b : Bool} {x : Item} (hx : Good x) : goodS (stTxt b x.text) = true ∧ addsS (stTxt b x.text) = b ∧ itS (stTxt b x.text) = x := by
  obtain ⟨i, hi, rfl⟩ := hx
  have hsz : (stTxt b i.item.text).size = 1 + i.text.length := by
    unfold stTxt
    rw [ByteArray.size_append, show i.item.text = itText i from rfl, itText_size]
    cases b <;> rfl
  have he : (stTxt b i.item.text).extract 1 (stTxt b i.item.text).size = itText i := by
    apply ByteArray.ext
    rw [ByteArray.data_extract, hsz]
    unfold stTxt
    rw [ByteArray.data_append]
    apply Array.toList_inj.1
    rw [Array.toList_extract]
    cases b <;> simp [List.extract_eq_take_drop, itText, It.item]
  have h0 : byteAt (stTxt b i.item.text) 0 = if b then 43 else 45 := by
    rw [byteAt_rest, rest_zero]
    unfold stTxt
    cases b <;> simp [ByteArray.data_append]
  have hg : goodS (stTxt b i.item.text) = true := by
    unfold goodS
    rw [he, (good_gives hi).1, h0]
    cases b <;> simp
  refine ⟨hg, ?_, ?_⟩
  · unfold addsS
    rw [hg, h0]
    cases b <;> simp
  · unfold itS
    rw [if_pos hg, he]
    exact (good_gives hi).2

theorem step1_txt {b : Bool} {x : Item} (hx : Good x) (l : List Item) : step1 l (stTxt b x.text) = if doB b l x then some (doI b l x) else none := by
  obtain ⟨h1, h2, h3⟩ := stTxt_good (b := b) hx
  unfold step1
  rw [h1, h2, h3, Bool.true_and]

/-- A text that is a step. -/
theorem goodS_read {s : ByteArray} (h : goodS s = true) : ∃ (b : Bool) (x : Item), Good x ∧ s = stTxt b x.text := by
  have h2 : (byteAt s 0 = 43 ∨ byteAt s 0 = 45) ∧ goodI (s.extract 1 s.size) = true := by simpa [goodS] using h
  obtain ⟨i, hi, e, _⟩ := good_read h2.2
  have hs : 0 < s.size := by
    rcases Nat.eq_zero_or_pos s.size with h | h
    · have := h2.1; rw [byteAt_out (by omega)] at this; omega
    · exact h
  have hr : ∃ c, rest s 0 = c :: rest s 1 ∧ (c.toNat : Int) = byteAt s 0 := by
    obtain ⟨c, hc, hr⟩ := cons_of_byte (s := s) (p := 0) rfl (by rcases h2.1 with h | h <;> omega)
    exact ⟨c, hr, hc⟩
  obtain ⟨c, hr, hc⟩ := hr
  have ht : rest s 1 = i.text := by
    have e2 := congrArg (fun b : ByteArray => b.data.toList) e
    simp only [ByteArray.data_extract, Array.toList_extract, List.extract_eq_take_drop, itText] at e2
    rw [← e2]
    unfold rest
    rw [List.take_of_length_le (by simp)]
  have hd : s.data.toList = c :: i.text := by rw [← rest_zero, hr, ht]
  have hs2 : s = ⟨(c :: i.text).toArray⟩ := by rw [← hd, bytes_mk]
  rcases h2.1 with h | h
  · refine ⟨true, i.item, ⟨i, hi, rfl⟩, ?_⟩
    have : c = 43 := UInt8.toNat_inj.1 (by have : ((43 : UInt8).toNat : Int) = 43 := rfl; omega)
    rw [hs2, this]
    apply ByteArray.ext
    simp [stTxt, ByteArray.data_append, It.item]
  · refine ⟨false, i.item, ⟨i, hi, rfl⟩, ?_⟩
    have : c = 45 := UInt8.toNat_inj.1 (by have : ((45 : UInt8).toNat : Int) = 45 := rfl; omega)
    rw [hs2, this]
    apply ByteArray.ext
    simp [stTxt, ByteArray.data_append, It.item]

end Go.Proofs.YtdlhgbhaeedbdabGreat

/- Steps keep arrangements, and go back. Plain mathematics. -/
namespace Go.Proofs.YtdlhgbhaeedbdabGreat
open Go.RowKit

theorem names_kind {x : Item} {k : Key} (h : k ∈ namesOf x) : k.kind < (x.kind : Int) := by
  unfold namesOf at h
  split at h
  · rename_i e; simp at h; rcases h with rfl | rfl <;> simp [e]
  · split at h
    · rename_i e; simp at h; subst h; simp [e]
    · split at h
      · rename_i e; simp at h; rcases h with rfl | rfl <;> simp [e]
      · simp at h

theorem keyIs_iff' {k : Key} {x : Item} : keyIs k x = true ↔ ((x.kind : Int) = k.kind ∧ x.name = k.name ∧ x.host = k.host ∧ x.number = k.number) := by simp [keyIs]

theorem keyIs_same {k : Key} {x y : Item} (hx : keyIs k x = true) (hy : keyIs k y = true) : sameK x y := by
  rw [keyIs_iff'] at hx hy
  exact ⟨Int.ofNat_inj.1 (hx.1.trans hy.1.symm), hx.2.1.trans hy.2.1.symm, hx.2.2.1.trans hy.2.2.1.symm, hx.2.2.2.trans hy.2.2.2.symm⟩

theorem sameKey_iff {q : Key} {y : Item} : sameKey q y.key = true ↔ keyIs q y = true := by
  rw [keyIs_iff']
  unfold sameKey Item.key
  rw [decide_eq_true_iff]
  constructor
  · rintro ⟨a, b, c, d⟩; exact ⟨a.symm, b.symm, c.symm, d.symm⟩
  · rintro ⟨a, b, c, d⟩; exact ⟨a.symm, b.symm, c.symm, d.symm⟩

theorem named_iff {l : List Item} {y : Item} : namedB l y.key = true ↔ ∃ x ∈ l, ∃ q ∈ namesOf x, keyIs q y = true := by
  unfold namedB
  rw [List.any_eq_true]
  constructor
  · rintro ⟨x, hx, h⟩
    rw [List.any_eq_true] at h
    obtain ⟨q, hq, h⟩ := h
    exact ⟨x, hx, q, hq, sameKey_iff.1 h⟩
  · rintro ⟨x, hx, q, hq, h⟩
    exact ⟨x, hx, by rw [List.any_eq_true]; exact ⟨q, hq, sameKey_iff.2 h⟩⟩

theorem sameK_refl (x : Item) : sameK x x := ⟨rfl, rfl, rfl, rfl⟩

theorem dist_eq {l : List Item} (h : Dist l) {x y : Item} (hx : x ∈ l) (hy : y ∈ l) (hs : sameK x y) : x = y := by
  induction l with
  | nil => simp at hx
  | cons a l ih =>
    unfold Dist at h ih
    rw [List.pairwise_cons] at h
    rcases List.mem_cons.1 hx with ex | hx'
    · rcases List.mem_cons.1 hy with ey | hy'
      · rw [ex, ey]
      · rw [ex] at hs; exact absurd hs (h.1 _ hy')
    · rcases List.mem_cons.1 hy with ey | hy'
      · rw [ey] at hs; exact absurd hs.symm (h.1 _ hx')
      · exact ih h.2 hx' hy'

theorem holds_mem {l : List Item} (hl : ∀ x ∈ l, Good x) {y : Item} (hy : Good y) : holdsB l y.text = true ↔ y ∈ l := by
  unfold holdsB
  rw [List.any_eq_true]
  constructor
  · rintro ⟨x, hx, h⟩
    have : x = y := (hl x hx).inj hy (of_decide_eq_true h)
    exact this ▸ hx
  · intro h; exact ⟨y, h, by simp⟩

theorem mem_without {l : List Item} (hl : ∀ x ∈ l, Good x) {y z : Item} (hy : Good y) : z ∈ without l y ↔ z ∈ l ∧ z ≠ y := by
  unfold without
  rw [List.mem_filter]
  constructor
  · rintro ⟨h1, h2⟩; exact ⟨h1, fun e => by subst e; simp at h2⟩
  · rintro ⟨h1, h2⟩; exact ⟨h1, decide_eq_true fun e => h2 ((hl z h1).inj hy e)⟩

theorem without_none {l : List Item} (hl : ∀ x ∈ l, Good x) {y : Item} (hy : Good y) (h : y ∉ l) : without l y = l := by
  unfold without
  rw [List.filter_eq_self]
  intro x hx
  exact decide_eq_true fun e => h ((hl x hx).inj hy e ▸ hx)

theorem without_perm {l : List Item} (hl : ∀ x ∈ l, Good x) (hd : Dist l) {y : Item} (hy : y ∈ l) : l.Perm (y :: without l y) := by
  have hg := hl y hy
  induction l with
  | nil => simp at hy
  | cons a l ih =>
    unfold Dist at hd ih
    rw [List.pairwise_cons] at hd
    by_cases e : a = y
    · subst e
      have hn : a ∉ l := fun h => hd.1 a h (sameK_refl a)
      have : without (a :: l) a = without l a := by simp [without]
      rw [this, without_none (fun x hx => hl x (by simp [hx])) hg hn]
    · have hy' : y ∈ l := by simpa [Ne.symm e] using hy
      have ht : ¬ a.text = y.text := fun h => e ((hl a (by simp)).inj hg h)
      have : without (a :: l) y = a :: without l y := by simp [without, ht]
      rw [this]
      exact ((ih (fun x hx => hl x (by simp [hx])) hd.2 hy').cons a).trans (List.Perm.swap _ _ _)

theorem freeB_iff {l : List Item} {y : Item} : freeB l y = true ↔ (∀ x ∈ l, ¬ sameK x y) ∧ ∀ k ∈ namesOf y, ∃ x ∈ l, keyIs k x = true := by
  unfold freeB
  rw [Bool.and_eq_true, Bool.not_eq_true', List.any_eq_false, List.all_eq_true]
  constructor
  · rintro ⟨h1, h2⟩
    exact ⟨fun x hx hs => h1 x hx ((keyIs_iff _ _).2 hs), fun k hk => List.any_eq_true.1 (h2 k hk)⟩
  · rintro ⟨h1, h2⟩
    exact ⟨fun x hx hk => h1 x hx ((keyIs_iff _ _).1 hk), fun k hk => List.any_eq_true.2 (h2 k hk)⟩

theorem goB_iff {l : List Item} (hl : ∀ x ∈ l, Good x) {y : Item} (hy : Good y) : goB l y = true ↔ y ∈ l ∧ ∀ x ∈ l, ∀ q ∈ namesOf x, ¬ keyIs q y = true := by
  unfold goB
  rw [Bool.and_eq_true, Bool.not_eq_true', holds_mem hl hy, ← Bool.not_eq_true, named_iff]
  constructor
  · rintro ⟨h1, h2⟩; exact ⟨h1, fun x hx q hq hk => h2 ⟨x, hx, q, hq, hk⟩⟩
  · rintro ⟨h1, h2⟩; exact ⟨h1, fun ⟨x, hx, q, hq, hk⟩ => h2 x hx q hq hk⟩

theorem sizeI_one (y : Item) : sizeI [y] = y.text.size := by simp [sizeI]
theorem sizeI_cons (y : Item) (l : List Item) : sizeI (y :: l) = y.text.size + sizeI l := by simp [sizeI]

theorem add_arr {l : List Item} (h : ArrI l) {y : Item} (hy : Good y) (hd : doB true l y = true) : ArrI (l ++ [y]) := by
  have hrf : roomB l y = true ∧ freeB l y = true := by simpa [doB] using hd
  obtain ⟨r1, r2⟩ := roomB_iff hrf.1
  obtain ⟨f1, f2⟩ := freeB_iff.1 hrf.2
  refine ⟨?_, ⟨by simp; omega, by rw [sizeI_append, sizeI_one]; exact r2⟩, ?_, ?_⟩
  · intro x hx
    rcases List.mem_append.1 hx with hx | hx
    · exact h.good x hx
    · simp at hx; subst hx; exact hy
  · unfold Dist
    rw [List.pairwise_append]
    exact ⟨h.dist, by simp, fun x hx z hz => by simp at hz; subst hz; exact f1 x hx⟩
  · intro z hz k hk
    rcases List.mem_append.1 hz with hz | hz
    · obtain ⟨x, hx, e⟩ := h.refs z hz k hk; exact ⟨x, by simp [hx], e⟩
    · simp at hz; subst hz
      obtain ⟨x, hx, e⟩ := f2 k hk; exact ⟨x, by simp [hx], e⟩

theorem remove_arr {l : List Item} (h : ArrI l) {y : Item} (hy : Good y) (hd : doB false l y = true) : ArrI (without l y) := by
  obtain ⟨g1, g2⟩ := (goB_iff h.good hy).1 (by simpa [doB] using hd)
  refine ⟨fun x hx => h.good x ((mem_without h.good hy).1 hx).1, ⟨Nat.le_trans (without_len _ _) h.fits.1, Nat.le_trans (sizeI_without _ _) h.fits.2⟩, h.dist.filter _, ?_⟩
  intro z hz k hk
  have hz' := ((mem_without h.good hy).1 hz).1
  obtain ⟨x, hx, e⟩ := h.refs z hz' k hk
  exact ⟨x, (mem_without h.good hy).2 ⟨hx, fun e2 => by subst e2; exact g2 z hz' k hk e⟩, e⟩

/-- Where the item is not there yet, all else stays. -/
theorem free_notMem {l : List Item} {y : Item} (hd : doB true l y = true) : y ∉ l := by
  have hrf : roomB l y = true ∧ freeB l y = true := by simpa [doB] using hd
  obtain ⟨f1, _⟩ := freeB_iff.1 hrf.2
  exact fun hm => f1 y hm (sameK_refl y)

theorem doI_add {l : List Item} (hl : ∀ x ∈ l, Good x) {y : Item} (hy : Good y) (hd : doB true l y = true) : doI true l y = l ++ [y] := by
  unfold doI
  rw [if_pos rfl, without_none hl hy (free_notMem hd)]

theorem do_arr {l : List Item} (h : ArrI l) (b : Bool) {y : Item} (hy : Good y) (hd : doB b l y = true) : ArrI (doI b l y) := by
  cases b with
  | true => rw [doI_add h.good hy hd]; exact add_arr h hy hd
  | false => exact remove_arr h hy hd

theorem do_back {l : List Item} (h : ArrI l) (b : Bool) {y : Item} (hy : Good y) (hd : doB b l y = true) : doB (!b) (doI b l y) y = true ∧ (doI (!b) (doI b l y) y).Perm l := by
  cases b with
  | true =>
    have ha := add_arr h hy hd
    have hrf : roomB l y = true ∧ freeB l y = true := by simpa [doB] using hd
    obtain ⟨f1, f2⟩ := freeB_iff.1 hrf.2
    have hn : y ∉ l := fun hm => f1 y hm (sameK_refl y)
    rw [doI_add h.good hy hd]
    refine ⟨?_, ?_⟩
    · show goB (l ++ [y]) y = true
      rw [goB_iff ha.good hy]
      refine ⟨by simp, fun x hx q hq hk => ?_⟩
      rcases List.mem_append.1 hx with hx | hx
      · obtain ⟨z, hz, e⟩ := h.refs x hx q hq
        exact f1 z hz (keyIs_same e hk)
      · simp at hx; subst hx
        have h1 := names_kind hq
        have h2 := (keyIs_iff'.1 hk).1
        omega
    · show (without (l ++ [y]) y).Perm l
      have : without (l ++ [y]) y = without l y := by simp [without]
      rw [this, without_none h.good hy hn]
  | false =>
    obtain ⟨g1, g2⟩ := (goB_iff h.good hy).1 (by simpa [doB] using hd)
    have hp := without_perm h.good h.dist g1
    have hlen := hp.length_eq
    have hsz := sizeI_perm hp
    rw [sizeI_cons] at hsz
    simp only [List.length_cons] at hlen
    have hf := h.fits
    unfold Fits at hf
    refine ⟨?_, ?_⟩
    · show (roomB (without l y) y && freeB (without l y) y) = true
      have hr : roomB (without l y) y = true := by simp only [roomB, Bool.and_eq_true, decide_eq_true_eq]; omega
      rw [hr, Bool.true_and, freeB_iff]
      refine ⟨fun x hx hs => ?_, fun k hk => ?_⟩
      · have := (mem_without h.good hy).1 hx
        exact this.2 (dist_eq h.dist this.1 g1 hs)
      · obtain ⟨x, hx, e⟩ := h.refs y g1 k hk
        refine ⟨x, (mem_without h.good hy).2 ⟨hx, fun e2 => ?_⟩, e⟩
        subst e2
        have h1 := names_kind hk
        have h2 := (keyIs_iff'.1 e).1
        omega
    · show (without (without l y) y ++ [y]).Perm l
      rw [show without (without l y) y = without l y by simp [without]]
      exact List.perm_append_comm.trans hp.symm

/-- The opposites of steps. -/
def flips (S : List (Bool × Item)) : List (Bool × Item) := S.map fun p => (!p.1, p.2)

theorem wlk_arr {S : List (Bool × Item)} (hS : ∀ p ∈ S, Good p.2) {l m : List Item} (h : ArrI l) (hw : wlk l (stTxts S) = some m) : ArrI m := by
  induction S generalizing l with
  | nil => simp only [stTxts, List.map_nil, wlk, Option.some.injEq] at hw; subst hw; exact h
  | cons p S ih =>
    simp only [stTxts, List.map_cons, wlk] at hw
    rw [step1_txt (hS p (by simp))] at hw
    cases hd : doB p.1 l p.2 with
    | false => rw [hd] at hw; simp at hw
    | true =>
      rw [hd] at hw
      exact ih (fun q hq => hS q (by simp [hq])) (do_arr h p.1 (hS p (by simp)) hd) hw

theorem wlk_back {S : List (Bool × Item)} (hS : ∀ p ∈ S, Good p.2) {l m : List Item} (h : ArrI l) (hw : wlk l (stTxts S) = some m) : ∃ c, wlk m (stTxts (flips S.reverse)) = some c ∧ c.Perm l := by
  induction S generalizing l with
  | nil => simp only [stTxts, List.map_nil, wlk, Option.some.injEq] at hw; subst hw; exact ⟨l, rfl, List.Perm.refl _⟩
  | cons p S ih =>
    simp only [stTxts, List.map_cons, wlk] at hw
    have hg := hS p (by simp)
    rw [step1_txt hg] at hw
    cases hd : doB p.1 l p.2 with
    | false => rw [hd] at hw; simp at hw
    | true =>
      rw [hd] at hw
      simp only [if_true] at hw
      obtain ⟨c, hc, hp⟩ := ih (fun q hq => hS q (by simp [hq])) (do_arr h p.1 hg hd) hw
      obtain ⟨b1, b2⟩ := do_back h p.1 hg hd
      rw [doB_perm hp.symm] at b1
      refine ⟨doI (!p.1) c p.2, ?_, (doI_perm hp (!p.1) p.2).trans b2⟩
      have e : stTxts (flips (p :: S).reverse) = stTxts (flips S.reverse) ++ [stTxt (!p.1) p.2.text] := by simp [stTxts, flips]
      rw [e, wlk_snoc hc, step1_txt hg, b1]
      rfl

end Go.Proofs.YtdlhgbhaeedbdabGreat

/- The plan leads there. Plain mathematics. -/
namespace Go.Proofs.YtdlhgbhaeedbdabGreat
open Go.RowKit

theorem perm_of_mem {α : Type} {l m : List α} (hl : l.Nodup) (hm : m.Nodup) (h : ∀ z, z ∈ l ↔ z ∈ m) : l.Perm m := by
  induction l generalizing m with
  | nil =>
    cases m with
    | nil => exact List.Perm.refl _
    | cons a m => exact absurd ((h a).2 (by simp)) (by simp)
  | cons a l ih =>
    obtain ⟨s, t, rfl⟩ := List.append_of_mem ((h a).1 (by simp))
    have hm2 : (a :: (s ++ t)).Nodup := List.perm_middle.nodup_iff.1 hm
    rw [List.nodup_cons] at hl hm2
    refine (List.Perm.cons a (ih hl.2 hm2.2 fun z => ?_)).trans List.perm_middle.symm
    constructor
    · intro hz
      have := (h z).1 (by simp [hz])
      simp only [List.mem_append, List.mem_cons] at this ⊢
      rcases this with h1 | h1 | h1
      · exact Or.inl h1
      · exact absurd hz (h1 ▸ hl.1)
      · exact Or.inr h1
    · intro hz
      have := (h z).2 (by simp only [List.mem_append, List.mem_cons] at hz ⊢; rcases hz with h1 | h1 <;> simp [h1])
      rcases List.mem_cons.1 this with h1 | h1
      · exact absurd hz (h1 ▸ hm2.1)
      · exact h1

theorem dist_nodup {l : List Item} (h : Dist l) : l.Nodup := by
  unfold List.Nodup
  refine List.Pairwise.imp ?_ h
  intro a b hs e
  subst e
  exact hs (sameK_refl _)

def downs (D : List Item) : List (Bool × Item) := D.map fun x => (false, x)
def adds (D : List Item) : List (Bool × Item) := D.map fun x => (true, x)

theorem down_walk {D c : List Item} (hc : ∀ x ∈ c, Good x) (hD : ∀ x ∈ D, x ∈ c) (hn : D.Nodup) (hs : ∀ p x r, D = p ++ x :: r → ∀ y ∈ c, ∀ q ∈ namesOf y, keyIs q x = true → y ∈ p) :
    ∃ m, wlk c (stTxts (downs D)) = some m ∧ m.Sublist c ∧ ∀ z, z ∈ m ↔ z ∈ c ∧ z ∉ D := by
  induction D generalizing c with
  | nil => exact ⟨c, rfl, List.Sublist.refl _, fun z => by simp⟩
  | cons x D ih =>
    have hx := hD x (by simp)
    have hg := hc x hx
    rw [List.nodup_cons] at hn
    have hdo : doB false c x = true := by
      show goB c x = true
      rw [goB_iff hc hg]
      exact ⟨hx, fun y hy q hq hk => by have := hs [] x D rfl y hy q hq hk; simp at this⟩
    have hmw := fun z => mem_without (z := z) hc hg
    obtain ⟨m, h1, h2, h3⟩ := ih (c := without c x) (fun z hz => hc z ((hmw z).1 hz).1) (fun z hz => (hmw z).2 ⟨hD z (by simp [hz]), fun e => hn.1 (e ▸ hz)⟩) hn.2
      (fun p x' r e y hy q hq hk => by
        have hy' := (hmw y).1 hy
        have := hs (x :: p) x' r (by rw [e]; rfl) y hy'.1 q hq hk
        rcases List.mem_cons.1 this with h | h
        · exact absurd h hy'.2
        · exact h)
    refine ⟨m, ?_, h2.trans List.filter_sublist, fun z => ?_⟩
    · simp only [stTxts, downs, List.map_cons, wlk]
      rw [step1_txt hg, hdo]
      exact h1
    · rw [h3 z, hmw z, List.mem_cons]
      constructor
      · rintro ⟨⟨a, b⟩, d⟩; exact ⟨a, fun h => h.elim b d⟩
      · rintro ⟨a, b⟩; exact ⟨⟨a, fun h => b (Or.inl h)⟩, fun h => b (Or.inr h)⟩

theorem up_walk {U c : List Item} (hc : ∀ x ∈ c, Good x) (hU : ∀ x ∈ U, Good x) (hf : Fits (c ++ U)) (hd : Dist (c ++ U)) (hs : ∀ p x r, U = p ++ x :: r → ∀ k ∈ namesOf x, ∃ z ∈ c ++ p, keyIs k z = true) :
    wlk c (stTxts (adds U)) = some (c ++ U) := by
  induction U generalizing c with
  | nil => simp [stTxts, adds, wlk]
  | cons x U ih =>
    have hg := hU x (by simp)
    obtain ⟨f1, f2⟩ := hf
    have e : c ++ x :: U = (c ++ [x]) ++ U := by simp
    rw [sizeI_append, sizeI_cons] at f2
    have hdo : doB true c x = true := by
      show (roomB c x && freeB c x) = true
      have hr : roomB c x = true := by simp only [roomB, Bool.and_eq_true, decide_eq_true_eq]; simp at f1; omega
      rw [hr, Bool.true_and, freeB_iff]
      refine ⟨fun z hz hk => ?_, fun k hk => by simpa using hs [] x U rfl k hk⟩
      unfold Dist at hd
      rw [List.pairwise_append] at hd
      exact hd.2.2 z hz x (by simp) hk
    simp only [stTxts, adds, List.map_cons, wlk]
    rw [step1_txt hg, hdo, e]
    simp only [if_true]
    rw [doI_add hc hg hdo]
    exact ih (c := c ++ [x]) (fun z hz => by
        rcases List.mem_append.1 hz with h | h
        · exact hc z h
        · simp only [List.mem_singleton] at h; exact h ▸ hg) (fun z hz => hU z (by simp [hz])) ⟨by rw [← e]; exact f1, by rw [← e, sizeI_append, sizeI_cons]; exact f2⟩ (by rw [← e]; exact hd)
      (fun p x' r e' k hk => by
        obtain ⟨z, hz, hk'⟩ := hs (x :: p) x' r (by rw [e']; rfl) k hk
        exact ⟨z, by simpa using hz, hk'⟩)

/-- Where an item stands among the steps that take out. -/
theorem mem_dn_of {g : List Item} {y : Item} (hy : y ∈ g) (h4 : y.kind ≤ 4) {c : Nat} (h : 4 - (c : Int) < (y.kind : Int)) : (false, y) ∈ dn g c := by
  induction c with
  | zero => omega
  | succ c ih =>
    simp only [dn, List.mem_append]
    by_cases e : 4 - (c : Int) < (y.kind : Int)
    · exact Or.inl (ih e)
    · refine Or.inr (List.mem_map.2 ⟨y, List.mem_filter.2 ⟨hy, decide_eq_true ?_⟩, rfl⟩)
      omega

theorem dn_kind {g : List Item} {c : Nat} {p : Bool × Item} (h : p ∈ dn g c) : 4 - (c : Int) < (p.2.kind : Int) := by
  induction c with
  | zero => simp [dn] at h
  | succ c ih =>
    rcases List.mem_append.1 h with h | h
    · have := ih h; omega
    · have := (mem_outs h).2.2; omega

theorem dn_order {g : List Item} (hk : ∀ x ∈ g, x.kind ≤ 4) {c : Nat} {P R : List (Bool × Item)} {p : Bool × Item} (e : dn g c = P ++ p :: R) {y : Item} (hy : y ∈ g) (hlt : p.2.kind < y.kind) : (false, y) ∈ P := by
  induction c generalizing P R with
  | zero => simp [dn] at e
  | succ c ih =>
    simp only [dn] at e
    rcases List.append_eq_append_iff.1 e with ⟨a, h1, h2⟩ | ⟨a, h1, h2⟩
    · have hp : p ∈ outs g c := by rw [h2]; simp
      have hpk := (mem_outs hp).2.2
      rw [h1]
      exact List.mem_append.2 (Or.inl (mem_dn_of hy (hk y hy) (by omega)))
    · cases a with
      | nil =>
        have hp : p ∈ outs g c := by rw [List.nil_append] at h2; rw [← h2]; simp
        have hpk := (mem_outs hp).2.2
        rw [List.append_nil] at h1
        rw [← h1]
        exact mem_dn_of hy (hk y hy) (by omega)
      | cons b a =>
        simp only [List.cons_append, List.cons.injEq] at h2
        rw [← h2.1] at h1
        exact ih h1

theorem outs_nodup {g : List Item} (h : g.Nodup) (c : Nat) : (outs g c).Nodup := by
  unfold outs
  unfold List.Nodup
  rw [List.pairwise_map]
  exact (h.filter _).imp fun hne e => hne (by simpa using e)

theorem dn_nodup {g : List Item} (h : g.Nodup) (c : Nat) : (dn g c).Nodup := by
  induction c with
  | zero => simp [dn]
  | succ c ih =>
    simp only [dn]
    rw [List.nodup_append]
    refine ⟨ih, outs_nodup h c, fun p hp q hq e => ?_⟩
    subst e
    have h1 := dn_kind hp
    have h2 := (mem_outs hq).2.2
    omega

theorem dn_downs (g : List Item) (c : Nat) : dn g c = downs ((dn g c).map Prod.snd) := by
  unfold downs
  rw [List.map_map]
  conv => lhs; rw [← List.map_id (dn g c)]
  refine List.map_congr_left fun p hp => ?_
  obtain ⟨b, x⟩ := p
  have := (mem_dn hp).1
  simp only at this
  simp [this]

theorem ups_adds (st m : List Item) : ups st m = adds (m.filter fun x => !(holdsB st x.text)) := rfl

theorem stTxts_append (a b : List (Bool × Item)) : stTxts (a ++ b) = stTxts a ++ stTxts b := by simp [stTxts]

/-- The split: nothing is lost, and what stays is wanted, with all that it names. -/
theorem spl_foldl (t l : List Item) (p : List Item × List Item) (h : ∀ x ∈ p.1, holdsB t x.text = true ∧ ∀ k ∈ namesOf x, ∃ z ∈ p.1, keyIs k z = true) :
    ((l.foldl (spl1 t) p).1 ++ (l.foldl (spl1 t) p).2).Perm (p.1 ++ p.2 ++ l) ∧ ∀ x ∈ (l.foldl (spl1 t) p).1, holdsB t x.text = true ∧ ∀ k ∈ namesOf x, ∃ z ∈ (l.foldl (spl1 t) p).1, keyIs k z = true := by
  induction l generalizing p with
  | nil => exact ⟨by simp, h⟩
  | cons a l ih =>
    have hnew : ∀ x ∈ (spl1 t p a).1, holdsB t x.text = true ∧ ∀ k ∈ namesOf x, ∃ z ∈ (spl1 t p a).1, keyIs k z = true := by
      unfold spl1
      split
      · rename_i hc
        rw [Bool.and_eq_true, List.all_eq_true] at hc
        intro x hx
        rcases List.mem_append.1 hx with hx | hx
        · obtain ⟨h1, h2⟩ := h x hx
          exact ⟨h1, fun k hk => by obtain ⟨z, hz, e⟩ := h2 k hk; exact ⟨z, by simp [hz], e⟩⟩
        · simp at hx
          subst hx
          exact ⟨hc.1, fun k hk => by obtain ⟨z, hz, e⟩ := List.any_eq_true.1 (hc.2 k hk); exact ⟨z, by simp [hz], e⟩⟩
      · exact h
    obtain ⟨h1, h2⟩ := ih (spl1 t p a) hnew
    refine ⟨h1.trans ?_, h2⟩
    unfold spl1
    split
    · show (p.1 ++ [a] ++ p.2 ++ l).Perm (p.1 ++ p.2 ++ a :: l)
      have : (p.1 ++ [a] ++ p.2 ++ l).Perm (p.1 ++ (p.2 ++ [a]) ++ l) := by
        refine List.Perm.append_right l ?_
        rw [List.append_assoc]
        exact List.Perm.append_left _ List.perm_append_comm
      refine this.trans ?_
      simp
    · simp

theorem spl_perm (t l : List Item) : ((spl t l).1 ++ (spl t l).2).Perm l := by
  have h := (spl_foldl t l ([], []) (by simp)).1
  simp only [List.nil_append] at h
  exact h
theorem spl_stay (t l : List Item) : ∀ x ∈ (spl t l).1, holdsB t x.text = true ∧ ∀ k ∈ namesOf x, ∃ z ∈ (spl t l).1, keyIs k z = true := (spl_foldl t l ([], []) (by simp)).2

theorem sublist_good {l m : List Item} (h : ∀ x ∈ l, Good x) (hs : ∀ x ∈ m, x ∈ l) : ∀ x ∈ m, Good x := fun x hx => h x (hs x hx)

set_option maxHeartbeats 400000 in
/-- The plan leads from the one arrangement to the other. -/
theorem plan_walk {l t : List Item} (hl : ArrI l) (ht : ArrI t) : (∀ p ∈ mk l t, Good p.2) ∧ ∃ m, wlk l (stTxts (mk l t)) = some m ∧ m.Perm t := by
  have hls : (sortTo l l.length).Perm l := by rw [sortTo_all]; exact sorted_perm l
  have hts : (sortTo t t.length).Perm t := by rw [sortTo_all]; exact sorted_perm t
  have htso : (sortTo t t.length).Pairwise LtK := by rw [sortTo_all]; exact sorted_sorted t ht.dist
  have hal := hl.perm hls.symm
  have hat := ht.perm hts.symm
  refine ⟨fun p hp => (mem_mk hp).elim (hl.good _) (ht.good _), ?_⟩
  unfold mk
  generalize sortTo l l.length = ls at *
  generalize sortTo t t.length = ts at *
  have hsp := spl_perm t ls
  have hst := spl_stay t ls
  generalize spl t ls = P at *
  obtain ⟨st, gn⟩ := P
  simp only at hsp hst ⊢
  have hdsg : Dist (st ++ gn) := hal.dist.perm hsp.symm (fun h k => h k.symm)
  have hmem : ∀ x, x ∈ l ↔ x ∈ st ∨ x ∈ gn := fun x => by rw [← hls.mem_iff, ← hsp.mem_iff, List.mem_append]
  have hgst : ∀ x ∈ st, Good x := fun x hx => hl.good x ((hmem x).2 (Or.inl hx))
  have hggn : ∀ x ∈ gn, Good x := fun x hx => hl.good x ((hmem x).2 (Or.inr hx))
  have hstt : ∀ x ∈ st, x ∈ t := fun x hx => (holds_mem ht.good (hgst x hx)).1 (hst x hx).1
  have hdis : ∀ x ∈ st, x ∉ gn := by
    intro x hx hx2
    unfold Dist at hdsg
    rw [List.pairwise_append] at hdsg
    exact hdsg.2.2 x hx x hx2 (sameK_refl x)
  have hnd := dist_nodup hdsg
  rw [List.nodup_append] at hnd
  -- what names what goes goes too
  have hup : ∀ x ∈ gn, ∀ y ∈ l, ∀ q ∈ namesOf y, keyIs q x = true → y ∈ gn := by
    intro x hx y hy q hq hk
    rcases (hmem y).1 hy with h | h
    · obtain ⟨z, hz, hkz⟩ := (hst y h).2 q hq
      have : z = x := dist_eq hdsg (by simp [hz]) (by simp [hx]) (keyIs_same hkz hk)
      exact absurd hx (this ▸ hdis z hz)
    · exact h
  have hk4 : ∀ x ∈ gn, x.kind ≤ 4 := fun x hx => (hggn x hx).kind
  have hD : ∀ x, x ∈ (dn gn 5).map Prod.snd ↔ x ∈ gn := by
    intro x
    constructor
    · intro h
      obtain ⟨p, hp, rfl⟩ := List.mem_map.1 h
      exact (mem_dn hp).2
    · intro h
      exact List.mem_map.2 ⟨(false, x), mem_dn_of h (hk4 x h) (by omega), rfl⟩
  have hDn : ((dn gn 5).map Prod.snd).Nodup := by
    unfold List.Nodup
    rw [List.pairwise_map]
    refine ((dn_nodup hnd.2.1 5).imp_of_mem ?_)
    intro p q hp hq hne e
    exact hne (Prod.ext ((mem_dn hp).1.trans (mem_dn hq).1.symm) e)
  obtain ⟨m, hm1, hm2, hm3⟩ := down_walk (D := (dn gn 5).map Prod.snd) (c := l) hl.good (fun x hx => (hmem x).2 (Or.inr ((hD x).1 hx))) hDn (by
    intro p x r e y hy q hq hk
    have hxg : x ∈ gn := (hD x).1 (by rw [e]; simp)
    have hyg := hup x hxg y hy q hq hk
    have hlt : x.kind < y.kind := by
      have h1 := names_kind hq
      have h2 := (keyIs_iff'.1 hk).1
      omega
    obtain ⟨P, R, he, hp, hr⟩ := List.map_eq_append_iff.1 e
    cases R with
    | nil => simp at hr
    | cons b R =>
      simp only [List.map_cons, List.cons.injEq] at hr
      have := dn_order hk4 he hyg (by rw [hr.1]; exact hlt)
      rw [← hp]
      exact List.mem_map.2 ⟨_, this, rfl⟩)
  rw [← dn_downs] at hm1
  have hmst : m.Perm st := by
    refine perm_of_mem ((dist_nodup hl.dist).sublist hm2) hnd.1 fun z => ?_
    rw [hm3 z, hD z, hmem z]
    constructor
    · rintro ⟨h1 | h1, h2⟩
      · exact h1
      · exact absurd h1 h2
    · intro h; exact ⟨Or.inl h, hdis z h⟩
  obtain ⟨U, hU⟩ : ∃ U, U = ts.filter fun x => !(holdsB st x.text) := ⟨_, rfl⟩
  have hUm : ∀ x, x ∈ U ↔ x ∈ t ∧ x ∉ st := by
    intro x
    rw [hU, List.mem_filter, hts.mem_iff]
    constructor
    · rintro ⟨h1, h2⟩
      exact ⟨h1, fun h => by rw [(holds_mem hgst (ht.good x h1)).2 h] at h2; simp at h2⟩
    · rintro ⟨h1, h2⟩
      refine ⟨h1, ?_⟩
      cases e : holdsB st x.text with
      | false => rfl
      | true => exact absurd ((holds_mem hgst (ht.good x h1)).1 e) h2
  have hUp : U.Pairwise LtK := by rw [hU]; exact htso.filter _
  have hUn : U.Nodup := by rw [hU]; exact (dist_nodup hat.dist).filter _
  have hfin : (m ++ U).Perm t := by
    refine (hmst.append_right U).trans ?_
    refine perm_of_mem ?_ (dist_nodup ht.dist) fun z => ?_
    · rw [List.nodup_append]
      exact ⟨hnd.1, hUn, fun x hx y hy e => ((hUm y).1 hy).2 (e ▸ hx)⟩
    · rw [List.mem_append, hUm z]
      constructor
      · rintro (h | h)
        · exact hstt z h
        · exact h.1
      · intro h
        by_cases h2 : z ∈ st
        · exact Or.inl h2
        · exact Or.inr ⟨h, h2⟩
  have haf := ht.perm hfin.symm
  refine ⟨m ++ U, ?_, hfin⟩
  rw [stTxts_append, wlk_append, hm1, ups_adds, ← hU]
  refine up_walk (fun x hx => hgst x (hmst.mem_iff.1 hx)) (fun x hx => ht.good x ((hUm x).1 hx).1) haf.fits haf.dist ?_
  intro p x r e k hk
  have hxU : x ∈ U := by rw [e]; simp
  obtain ⟨z, hz, hkz⟩ := ht.refs x ((hUm x).1 hxU).1 k hk
  refine ⟨z, ?_, hkz⟩
  rw [List.mem_append]
  by_cases hzs : z ∈ st
  · exact Or.inl (hmst.mem_iff.2 hzs)
  · right
    have hzU := (hUm z).2 ⟨hz, hzs⟩
    have hlt : z.kind < x.kind := by
      have h1 := names_kind hk
      have h2 := (keyIs_iff'.1 hkz).1
      omega
    rw [e] at hzU hUp
    rcases List.mem_append.1 hzU with h | h
    · exact h
    · rcases List.mem_cons.1 h with h | h
      · subst h; omega
      · rw [List.pairwise_append, List.pairwise_cons] at hUp
        exact absurd (hUp.2.1.1 z h) (fun h3 => LtK.asymm h3 (Or.inl hlt))

end Go.Proofs.YtdlhgbhaeedbdabGreat
