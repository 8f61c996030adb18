/- Sp5, Sp6. -/
import Derived.Test.YtdlhgbhaeedbdaaSpA
import Derived.Test.YtdlhgbhaeedbdaaPureB
import Derived.Test.YtdlhgbhaeedbdaaOrd3

/- What a plan is made of. Plain mathematics. -/
namespace Go.Proofs.Ytdlhgbhaeedbdaa
open Go.RowKit

/-- What is gone could not stay. -/
theorem spl_gone {t ls : List Item} (hs : ls.Pairwise LtK) : ∀ x ∈ (spl t ls).2, ¬ (holdsB t x.text = true ∧ ∀ k ∈ namesOf x, ∃ z ∈ (spl t ls).1, keyIs k z = true) := by
  have key : ∀ n, n ≤ ls.length → ∀ x ∈ (spl t (ls.take n)).2, ¬ (holdsB t x.text = true ∧ ∀ k ∈ namesOf x, ∃ z ∈ (spl t (ls.take n)).1, keyIs k z = true) := by
    intro n
    induction n with
    | zero => intro _ x hx; simp [spl] at hx
    | succ n ih =>
      intro hn x hx hc
      have hlt : n < ls.length := by omega
      have hst := spl_take t ls n hlt
      have hperm := spl_perm t (ls.take n)
      rw [hst] at hx hc
      generalize hP : spl t (ls.take n) = P at *
      have hih := ih (by omega)
      have hlate : ∀ y ∈ ls.take n, LtK y ls[n] := by
        intro y hy
        obtain ⟨i, hi, e⟩ := List.mem_take_iff_getElem.1 hy
        subst e
        exact List.pairwise_iff_getElem.1 hs i n (by omega) hlt (by omega)
      unfold spl1 at hx hc
      split at hx
      · rename_i hcond
        rw [if_pos hcond] at hc
        simp only at hx hc
        -- the new one stays: what was gone before is still gone
        refine hih x hx ⟨hc.1, fun k hk => ?_⟩
        obtain ⟨z, hz, hkz⟩ := hc.2 k hk
        rcases List.mem_append.1 hz with hz | hz
        · exact ⟨z, hz, hkz⟩
        · simp at hz
          subst hz
          have hxn : x ∈ ls.take n := hperm.mem_iff.1 (by simp [hx])
          have h1 := hlate x hxn
          have h2 := names_kind hk
          have h3 := (keyIs_iff'.1 hkz).1
          unfold LtK at h1
          omega
      · rename_i hcond
        rw [if_neg hcond] at hc
        simp only at hx hc
        rcases List.mem_append.1 hx with hx | hx
        · exact hih x hx hc
        · simp at hx
          subst hx
          apply hcond
          rw [Bool.and_eq_true, List.all_eq_true]
          exact ⟨hc.1, fun k hk => List.any_eq_true.2 (hc.2 k hk)⟩
  have := key ls.length (Nat.le_refl _)
  rwa [List.take_of_length_le (Nat.le_refl _)] at this

theorem stTxt_inj {b b' : Bool} {t t' : ByteArray} (h : stTxt b t = stTxt b' t') : b = b' ∧ t = t' := by
  have h1 := congrArg ByteArray.toList h
  have e : ∀ (b : Bool) (t : ByteArray), (stTxt b t).toList = (if b then 43 else 45) :: t.toList := by
    intro b t
    rw [ByteArray.toList_eq, ByteArray.toList_eq]
    unfold stTxt
    rw [ByteArray.data_append]
    cases b <;> simp
  rw [e, e] at h1
  simp only [List.cons.injEq] at h1
  refine ⟨?_, tl_inj h1.2⟩
  revert h1
  cases b <;> cases b' <;> simp

theorem cnt_none {l : List ByteArray} {s : ByteArray} (h : s ∉ l) : cnt l s = 0 := by
  unfold cnt
  rw [List.countP_eq_zero]
  intro x hx
  simp only [decide_eq_true_eq]
  intro e
  exact h (e ▸ hx)

theorem cnt_one {l : List ByteArray} (hn : l.Nodup) {s : ByteArray} (h : s ∈ l) : cnt l s = 1 := by
  obtain ⟨u, v, rfl⟩ := List.append_of_mem h
  rw [List.nodup_append, List.nodup_cons] at hn
  have h1 : cnt u s = 0 := cnt_none fun hu => hn.2.2 s hu s (by simp) rfl
  have h2 : cnt v s = 0 := cnt_none hn.2.1.1
  unfold cnt at h1 h2 ⊢
  rw [List.countP_append, List.countP_cons, h1, h2]
  simp

theorem dn_perm {g : List Item} (hk : ∀ x ∈ g, x.kind ≤ 4) (hn : g.Nodup) : ((dn g 5).map Prod.snd).Perm g := by
  refine perm_of_mem ?_ hn fun x => ?_
  · unfold List.Nodup
    rw [List.pairwise_map]
    refine ((dn_nodup hn 5).imp_of_mem ?_)
    intro p q hp hq hne e
    exact hne (Prod.ext ((mem_dn hp).1.trans (mem_dn hq).1.symm) e)
  · constructor
    · intro h
      obtain ⟨p, hp, rfl⟩ := List.mem_map.1 h
      exact (mem_dn hp).2
    · intro h
      exact List.mem_map.2 ⟨(false, x), mem_dn_of h (hk x h) (by omega), rfl⟩

/-- May a step stand right ahead of another? -/
def turnR (p q : Bool × Item) : Prop :=
  (p.1 = false ∧ q.1 = true) ∨ (p.1 = false ∧ q.1 = false ∧ (q.2.kind < p.2.kind ∨ (q.2.kind = p.2.kind ∧ LtK p.2 q.2))) ∨ (p.1 = true ∧ q.1 = true ∧ LtK p.2 q.2)

theorem outs_turn {g : List Item} (h : g.Pairwise LtK) (c : Nat) : (outs g c).Pairwise turnR := by
  unfold outs
  rw [List.pairwise_map]
  refine (h.filter _).imp_of_mem ?_
  intro x y hx hy hl
  have hx' := of_decide_eq_true (List.mem_filter.1 hx).2
  have hy' := of_decide_eq_true (List.mem_filter.1 hy).2
  exact Or.inr (Or.inl ⟨rfl, rfl, Or.inr ⟨by simp only; omega, hl⟩⟩)

theorem dn_turn {g : List Item} (h : g.Pairwise LtK) (c : Nat) : (dn g c).Pairwise turnR := by
  induction c with
  | zero => simp [dn]
  | succ c ih =>
    simp only [dn]
    rw [List.pairwise_append]
    refine ⟨ih, outs_turn h c, fun p hp q hq => ?_⟩
    have h1 := dn_kind hp
    have h2 := (mem_outs hq).2.2
    exact Or.inr (Or.inl ⟨(mem_dn hp).1, (mem_outs hq).1, Or.inl (by omega)⟩)

theorem ups_turn {st m : List Item} (h : m.Pairwise LtK) : (ups st m).Pairwise turnR := by
  unfold ups
  rw [List.pairwise_map]
  exact (h.filter _).imp fun hl => Or.inr (Or.inr ⟨rfl, rfl, hl⟩)

theorem foldl_spl_sub (t l : List Item) (p : List Item × List Item) : ∃ u, (l.foldl (spl1 t) p).2 = p.2 ++ u ∧ u.Sublist l := by
  induction l generalizing p with
  | nil => exact ⟨[], by simp, List.Sublist.refl _⟩
  | cons a l ih =>
    obtain ⟨u, e, hu⟩ := ih (spl1 t p a)
    simp only [List.foldl_cons, e]
    unfold spl1
    split
    · exact ⟨u, rfl, hu.cons a⟩
    · exact ⟨a :: u, by simp, hu.cons_cons a⟩

theorem spl_sub (t l : List Item) : (spl t l).2.Sublist l := by
  obtain ⟨u, e, hu⟩ := foldl_spl_sub t l ([], [])
  unfold spl
  rw [e]
  simpa using hu

/-- What stays of l where t is wanted. -/
def stayI (l t : List Item) : List Item := (spl t (sortTo l l.length)).1

structure PlanIs (l t : List Item) : Prop where
  nodup : (stTxts (mk l t)).Nodup
  turn : (mk l t).Pairwise turnR
  out : ∀ x ∈ l, (stTxt false x.text ∈ stTxts (mk l t)) ↔ holdsB (stayI l t) x.text = false
  inn : ∀ y ∈ t, (stTxt true y.text ∈ stTxts (mk l t)) ↔ holdsB (stayI l t) y.text = false
  len : (mk l t).length = l.countP (fun x => !holdsB (stayI l t) x.text) + t.countP (fun y => !holdsB (stayI l t) y.text)
  stay : ∀ x ∈ l, holdsB (stayI l t) x.text = true ↔ holdsB t x.text = true ∧ ∀ k ∈ namesOf x, ∀ y ∈ l, keyIs k y = true → holdsB (stayI l t) y.text = true
  sub : ∀ y, Good y → holdsB (stayI l t) y.text = true → y ∈ l

set_option maxHeartbeats 400000 in
theorem planIs {l t : List Item} (hl : ArrI l) (ht : ArrI t) : PlanIs l t := by
  have hls : (sortTo l l.length).Perm l := by rw [sortTo_all]; exact sorted_perm l
  have hts : (sortTo t t.length).Perm t := by rw [sortTo_all]; exact sorted_perm t
  have hlso : (sortTo l l.length).Pairwise LtK := by rw [sortTo_all]; exact sorted_sorted l hl.dist
  have htso : (sortTo t t.length).Pairwise LtK := by rw [sortTo_all]; exact sorted_sorted t ht.dist
  have hal := hl.perm hls.symm
  have hat := ht.perm hts.symm
  have hsp := spl_perm t (sortTo l l.length)
  have hst := spl_stay t (sortTo l l.length)
  have hgo := spl_gone (t := t) hlso
  have hsub := spl_sub t (sortTo l l.length)
  have hdef : stayI l t = (spl t (sortTo l l.length)).1 := rfl
  have hmk : mk l t = dn (spl t (sortTo l l.length)).2 5 ++ ups (spl t (sortTo l l.length)).1 (sortTo t t.length) := rfl
  have hgm : ∀ p ∈ mk l t, Good p.2 := fun p hp => (mem_mk hp).elim (hl.good _) (ht.good _)
  generalize sortTo l l.length = ls at *
  generalize sortTo t t.length = ts at *
  generalize spl t ls = P at *
  obtain ⟨st, gn⟩ := P
  simp only at hsp hst hgo hsub hdef hmk
  obtain ⟨S, hS⟩ : ∃ S, stayI l t = S := ⟨_, rfl⟩
  rw [hS] at hdef
  subst hdef
  have hdsg : Dist (S ++ gn) := hal.dist.perm hsp.symm (fun h k => h k.symm)
  have hmem : ∀ x, x ∈ l ↔ x ∈ S ∨ x ∈ gn := fun x => by rw [← hls.mem_iff, ← hsp.mem_iff, List.mem_append]
  have hgst : ∀ x ∈ S, Good x := fun x hx => hl.good x ((hmem x).2 (Or.inl hx))
  have hggn : ∀ x ∈ gn, Good x := fun x hx => hl.good x ((hmem x).2 (Or.inr hx))
  have hdis : ∀ x ∈ S, x ∉ gn := by
    intro x hx hx2
    unfold Dist at hdsg
    rw [List.pairwise_append] at hdsg
    exact hdsg.2.2 x hx x hx2 (sameK_refl x)
  have hnd := dist_nodup hdsg
  rw [List.nodup_append] at hnd
  have hk4 : ∀ x ∈ gn, x.kind ≤ 4 := fun x hx => (hggn x hx).kind
  have hno : ∀ x, Good x → (holdsB S x.text = false ↔ x ∉ S) := fun x hx => by
    rw [← Bool.not_eq_true, holds_mem hgst hx]
  have hmn : (mk l t).Nodup := by
    rw [hmk, List.nodup_append]
    refine ⟨dn_nodup hnd.2.1 5, ?_, fun p hp q hq e => ?_⟩
    · unfold ups List.Nodup
      rw [List.pairwise_map]
      exact ((dist_nodup hat.dist).filter _).imp fun hne e => hne (by simpa using e)
    · subst e
      have h1 := (mem_dn hp).1
      have h2 := (mem_ups hq).1
      rw [h1] at h2
      simp at h2
  have htx : ∀ (b : Bool) (x : Item), Good x → (stTxt b x.text ∈ stTxts (mk l t) ↔ (b, x) ∈ mk l t) := by
    intro b x hx
    constructor
    · intro h
      obtain ⟨p, hp, e⟩ := List.mem_map.1 h
      obtain ⟨e1, e2⟩ := stTxt_inj e
      have : p.2 = x := (hgm p hp).inj hx e2
      obtain ⟨pb, px⟩ := p
      simp only at e1 this
      rw [← e1, ← this]; exact hp
    · intro h; exact List.mem_map.2 ⟨_, h, rfl⟩
  refine ⟨?_, ?_, ?_, ?_, ?_, ?_, ?_⟩
  · unfold stTxts List.Nodup
    rw [List.pairwise_map]
    refine hmn.imp_of_mem ?_
    intro p q hp hq hne e
    obtain ⟨e1, e2⟩ := stTxt_inj e
    exact hne (Prod.ext e1 ((hgm p hp).inj (hgm q hq) e2))
  · rw [hmk, List.pairwise_append]
    refine ⟨dn_turn (hlso.sublist hsub) 5, ups_turn htso, fun p hp q hq => Or.inl ⟨(mem_dn hp).1, (mem_ups hq).1⟩⟩
  · intro x hx
    have hg := hl.good x hx
    rw [hS, htx false x hg, hno x hg, hmk, List.mem_append]
    constructor
    · rintro (h | h)
      · exact fun h2 => hdis x h2 (mem_dn h).2
      · have := (mem_ups h).1; simp at this
    · intro h
      rcases (hmem x).1 hx with h2 | h2
      · exact absurd h2 h
      · exact Or.inl (mem_dn_of h2 (hk4 x h2) (by omega))
  · intro y hy
    have hg := ht.good y hy
    rw [hS, htx true y hg, hmk, List.mem_append]
    constructor
    · rintro (h | h)
      · have := (mem_dn h).1; simp at this
      · exact (mem_ups h).2.2
    · intro h
      refine Or.inr (List.mem_map.2 ⟨y, List.mem_filter.2 ⟨hts.mem_iff.2 hy, by rw [h]; rfl⟩, rfl⟩)
  · rw [hS, hmk, List.length_append]
    congr 1
    · have h1 : (dn gn 5).length = gn.length := by have := (dn_perm hk4 hnd.2.1).length_eq; simpa using this
      have h2 : l.countP (fun x => !holdsB S x.text) = (S ++ gn).countP (fun x => !holdsB S x.text) := (hls.symm.trans hsp.symm).countP_eq _
      rw [h1, h2, List.countP_append]
      have h3 : S.countP (fun x => !holdsB S x.text) = 0 := by
        rw [List.countP_eq_zero]
        intro x hx
        rw [(holds_mem hgst (hgst x hx)).2 hx]; simp
      have h4 : gn.countP (fun x => !holdsB S x.text) = gn.length := by
        rw [List.countP_eq_length]
        intro x hx
        rw [(hno x (hggn x hx)).2 (fun h => hdis x h hx)]; rfl
      omega
    · unfold ups
      rw [List.length_map, ← List.countP_eq_length_filter]
      exact hts.countP_eq _
  · intro x hx
    have hg := hl.good x hx
    rw [hS]
    constructor
    · intro h
      have hxs := (holds_mem hgst hg).1 h
      obtain ⟨h1, h2⟩ := hst x hxs
      refine ⟨h1, fun k hk y hy hky => ?_⟩
      obtain ⟨z, hz, hkz⟩ := h2 k hk
      have : z = y := dist_eq hl.dist ((hmem z).2 (Or.inl hz)) hy (keyIs_same hkz hky)
      exact (holds_mem hgst (hl.good y hy)).2 (this ▸ hz)
    · rintro ⟨h1, h2⟩
      rw [holds_mem hgst hg]
      rcases (hmem x).1 hx with h | h
      · exact h
      · exfalso
        refine hgo x h ⟨h1, fun k hk => ?_⟩
        obtain ⟨y, hy, hky⟩ := hl.refs x hx k hk
        exact ⟨y, (holds_mem hgst (hl.good y hy)).1 (h2 k hk y hy hky), hky⟩
  · intro y hg h
    rw [hS] at h
    exact (hmem y).2 (Or.inl ((holds_mem hgst hg).1 h))

end Go.Proofs.Ytdlhgbhaeedbdaa

/- 'stays' is what stays; 'turns'. -/
namespace Go.Proofs.Ytdlhgbhaeedbdaa
open Go.RowKit

def dep (k : Nat) : Nat := if k ≤ 1 then 0 else if k ≤ 3 then 1 else 2

theorem dep_names {x : Item} {k : Key} (h : k ∈ namesOf x) {y : Item} (hy : keyIs k y = true) : dep y.kind + 1 ≤ dep x.kind := by
  have hk := (keyIs_iff'.1 hy).1
  unfold namesOf at h
  split at h
  · rename_i e
    simp only [List.mem_cons, List.not_mem_nil, or_false] at h
    rcases h with rfl | rfl <;> simp only at hk <;> have : y.kind ≤ 1 := by omega
    all_goals simp [dep, this, e]
  · split at h
    · rename_i e
      simp only [List.mem_cons, List.not_mem_nil, or_false] at h
      subst h
      simp only at hk
      have : y.kind ≤ 1 := by omega
      simp [dep, this, e]
    · split at h
      · rename_i e
        simp only [List.mem_cons, List.not_mem_nil, or_false] at h
        rcases h with rfl | rfl <;> simp only at hk
        · have : y.kind = 3 := by omega
          simp [dep, this, e]
        · have : y.kind = 2 := by omega
          simp [dep, this, e]
      · simp at h

theorem names_flat {x : Item} (h : dep x.kind = 0) : namesOf x = [] := by
  cases e : namesOf x with
  | nil => rfl
  | cons k r =>
    exfalso
    have hk : k ∈ namesOf x := by rw [e]; simp
    have h1 : x.kind = 2 ∨ x.kind = 3 ∨ x.kind = 4 := by
      unfold namesOf at e
      split at e
      · rename_i e2; exact Or.inl e2
      · split at e
        · rename_i e2; exact Or.inr (Or.inl e2)
        · split at e
          · rename_i e2; exact Or.inr (Or.inr e2)
          · simp at e
    rcases h1 with h1 | h1 | h1 <;> rw [h1] at h <;> simp [dep] at h

theorem in_holds (M : List It) (x : It) : inB (M.map textOf) (textOf x) = holdsB (M.map It.item) x.item.text := by
  unfold inB holdsB
  rw [List.any_map, List.any_map]
  rfl

theorem stB_stay {L M : List It} (hL : Arr L) (hM : Arr M) (d : Nat) : ∀ x ∈ L, dep x.kind ≤ d → stB L M d x = holdsB (stayI (L.map It.item) (M.map It.item)) x.item.text := by
  have hP := planIs hL.arrI hM.arrI
  have hmem : ∀ y ∈ L, y.item ∈ L.map It.item := fun y hy => List.mem_map.2 ⟨y, hy, rfl⟩
  induction d with
  | zero =>
    intro x hx h0
    have hf := names_flat (x := x.item) (show dep x.item.kind = 0 from Nat.le_zero.1 h0)
    rw [Bool.eq_iff_iff, hP.stay x.item (hmem x hx)]
    show inB (M.map textOf) (textOf x) = true ↔ _
    rw [in_holds, hf]
    simp
  | succ d ih =>
    intro x hx hd
    rw [Bool.eq_iff_iff, hP.stay x.item (hmem x hx)]
    show (inB (M.map textOf) (textOf x) && (namesOf x.item).all fun k => match L.find? (fun y => keyIs k y.item) with | some y => stB L M d y | none => false) = true ↔ _
    rw [Bool.and_eq_true, in_holds, List.all_eq_true]
    refine and_congr_right fun _ => ?_
    constructor
    · intro h k hk y' hy' hky
      obtain ⟨y, hy, rfl⟩ := List.mem_map.1 hy'
      have hk1 := h k hk
      cases hf : L.find? (fun y => keyIs k y.item) with
      | none => rw [List.find?_eq_none] at hf; exact absurd hky (hf y hy)
      | some q =>
        rw [hf] at hk1
        have hq := List.mem_of_find?_eq_some hf
        have hkq : keyIs k q.item = true := by have := List.find?_some hf; exact this
        have e : q.item = y.item := dist_eq hL.dist (hmem q hq) (hmem y hy) (keyIs_same hkq hky)
        have hdq : dep q.kind ≤ d := by have := dep_names hk hkq; have h2 : dep x.item.kind = dep x.kind := rfl; have h3 : dep q.item.kind = dep q.kind := rfl; omega
        simp only at hk1
        rw [ih q hq hdq, e] at hk1
        exact hk1
    · intro h k hk
      obtain ⟨z, hz, hkz⟩ := hL.refs x.item (hmem x hx) k hk
      obtain ⟨y, hy, rfl⟩ := List.mem_map.1 hz
      cases hf : L.find? (fun y => keyIs k y.item) with
      | none => rw [List.find?_eq_none] at hf; exact absurd hkz (hf y hy)
      | some q =>
        have hq := List.mem_of_find?_eq_some hf
        have hkq : keyIs k q.item = true := by have := List.find?_some hf; exact this
        have hdq : dep q.kind ≤ d := by have := dep_names hk hkq; have h2 : dep x.item.kind = dep x.kind := rfl; have h3 : dep q.item.kind = dep q.kind := rfl; omega
        simp only
        rw [ih q hq hdq]
        exact h k hk q.item (hmem q hq) hkq

theorem dep_le (k : Nat) : dep k ≤ 3 := by unfold dep; split <;> (try split) <;> omega

theorem stTxt_tl' (b : Bool) (t : ByteArray) : (stTxt b t).toList = (if b then 43 else 45) :: t.toList := by
  rw [ByteArray.toList_eq, ByteArray.toList_eq]
  unfold stTxt
  rw [ByteArray.data_append]
  cases b <;> simp

theorem stTxt_first (b : Bool) (t : ByteArray) (h : 0 < (stTxt b t).size) : ((stTxt b t)[0].toNat : Int) = if b then 43 else 45 := by
  have h1 := byteAt_in h
  rw [← h1, byteAt_rest, rest_zero, ← ByteArray.toList_eq, stTxt_tl']
  cases b <;> rfl

theorem stTxt_rest' (b : Bool) (t : ByteArray) : (stTxt b t).extract 1 (stTxt b t).size = t := by
  have hsz : (stTxt b t).size = 1 + t.size := by
    unfold stTxt
    rw [ByteArray.size_append]
    cases b <;> rfl
  apply tl_inj
  rw [ByteArray.toList_eq, ByteArray.data_extract, Array.toList_extract, List.extract_eq_take_drop, ← ByteArray.toList_eq, stTxt_tl', hsz]
  rw [show 1 + t.size - 1 = t.size from by omega, List.drop_one, List.tail_cons, ByteArray.toList_eq]
  rw [List.take_of_length_le (by simp)]

set_option maxRecDepth 100000 in
set_option maxHeartbeats 2000000 in
theorem turns_in (g cap : Nat) (S : List (Bool × Item)) (hS : ∀ p ∈ S, Good p.2) (ht : S.Pairwise turnR) (hl : S.length ≤ 48) (w : World) (hit : StrsIn w g 0 (stTxts S)) :
    Calls Try.prog 35 #[.slice (some ⟨g, 0, none⟩) S.length cap] w fun e w' => e = .returned (.bool true) ∧ ∃ n, w' = w.drewN n := by
  have hlen0 : (stTxts S).length = S.length := by simp [stTxts]
  have HL := hide hlen0
  clear hlen0
  go_enter Try.func35, Try.ntmps35
  go_wp2
  go_loopw [3] (fun i wr => ∃ k n : Nat, k ≤ S.length ∧ i = .int .i64 k ∧ wr = w.drewN n) (fun i _ => S.length - (intOf i).toNat)
  case atStart => exact ⟨0, 0, Nat.zero_le _, rfl, rfl⟩
  case round =>
    obtain ⟨k, n, hk, rfl, rfl⟩ := hrel
    by_cases hlt : k + 1 < S.length
    · have hk1 : k < S.length := by omega
      have hR := List.pairwise_iff_getElem.1 ht k (k + 1) hk1 hlt (by omega)
      have hlen := unhide HL
      have hc1 := hit.2 k (by omega)
      have hc2 := hit.2 (k + 1) (by omega)
      rw [Nat.zero_add] at hc1 hc2
      have e1 : (stTxts S)[k]'(by omega) = stTxt S[k].1 S[k].2.text := by simp [stTxts]
      have e2 : (stTxts S)[k + 1]'(by omega) = stTxt S[k + 1].1 S[k + 1].2.text := by simp [stTxts]
      rw [e1] at hc1
      rw [e2] at hc2
      have hg1 := hS S[k] (List.getElem_mem hk1)
      have hg2 := hS S[k + 1] (List.getElem_mem hlt)
      generalize S[k] = p at *
      generalize S[k + 1] = q at *
      obtain ⟨pb, px⟩ := p
      obtain ⟨qb, qx⟩ := q
      simp only at hc1 hc2 hg1 hg2
      obtain ⟨i, hi, rfl⟩ := hg1
      obtain ⟨j, hj, rfl⟩ := hg2
      have hlt' : (k : Int) + 1 < (S.length : Int) := by omega
      have hX0 : 0 < (stTxt pb i.item.text).size := by unfold stTxt; rw [ByteArray.size_append]; cases pb <;> (have : (⟨#[43]⟩ : ByteArray).size = 1 := rfl; have : (⟨#[45]⟩ : ByteArray).size = 1 := rfl; simp; omega)
      have hY0 : 0 < (stTxt qb j.item.text).size := by unfold stTxt; rw [ByteArray.size_append]; cases qb <;> (have : (⟨#[43]⟩ : ByteArray).size = 1 := rfl; have : (⟨#[45]⟩ : ByteArray).size = 1 := rfl; simp; omega)
      have hfX := stTxt_first pb i.item.text hX0
      have hfY := stTxt_first qb j.item.text hY0
      have hrX := stTxt_rest' pb i.item.text
      have hrY := stTxt_rest' qb j.item.text
      have hXe : (stTxt pb i.item.text).toList.isEmpty = false := by rw [stTxt_tl']; rfl
      have hYe : (stTxt qb j.item.text).toList.isEmpty = false := by rw [stTxt_tl']; rfl
      have hXn : ¬ (stTxt pb i.item.text).toList = [] := by rw [stTxt_tl']; simp
      have hYn : ¬ (stTxt qb j.item.text).toList = [] := by rw [stTxt_tl']; simp
      have hk1' : ∀ wx, Calls Try.prog 49 #[.string i.item.text] wx fun e w' => e = .returned (.int .i64 (i.kind : Nat)) ∧ w' = wx := by
        intro wx
        have := rank_any (textOf i) wx (by have := textOf_size hi; omega)
        rw [rank_text hi] at this
        exact this
      have hk2' : ∀ wx, Calls Try.prog 49 #[.string j.item.text] wx fun e w' => e = .returned (.int .i64 (j.kind : Nat)) ∧ w' = wx := by
        intro wx
        have := rank_any (textOf j) wx (by have := textOf_size hj; omega)
        rw [rank_text hj] at this
        exact this
      have hless : i.kind = j.kind → LtK i.item j.item → pb = qb → Op.bytesLess (stTxt pb i.item.text).toList (stTxt qb j.item.text).toList = true := by
        intro h1 h2 h3
        rw [stTxt_tl', stTxt_tl', h3]
        have := text_less hi hj h1 h2
        have e : ∀ x : It, x.item.text.toList = x.text := fun x => by rw [show x.item.text = ⟨x.text.toArray⟩ from rfl, mk_tl]
        rw [e, e]
        simp [Op.bytesLess, this]
      have hki : i.item.kind = i.kind := rfl
      have hkj : j.item.kind = j.kind := rfl
      have hX0' : (0 : Int) < ((stTxt pb i.item.text).size : Int) := by omega
      have hY0' : (0 : Int) < ((stTxt qb j.item.text).size : Int) := by omega
      have hX1' : (1 : Int) ≤ ((stTxt pb i.item.text).size : Int) := by omega
      have hY1' : (1 : Int) ≤ ((stTxt qb j.item.text).size : Int) := by omega
      unfold turnR at hR
      simp only [hki, hkj] at hR
      have K1 := hide hk1'
      have K2 := hide hk2'
      clear hk1' hk2' e1 e2 hki hkj hlen
      generalize hX : stTxt pb i.item.text = X at *
      generalize hY : stTxt qb j.item.text = Y at *
      generalize i.item.text = TI at *
      generalize j.item.text = TJ at *
      clear hX hY
      rcases hR with ⟨rfl, rfl⟩ | ⟨rfl, rfl, hkk⟩ | ⟨rfl, rfl, hlk⟩
      · have x43 : ((X[0].toNat : Int) == 43) = false := by rw [hfX]; rfl
        have x45 : ((X[0].toNat : Int) == 45) = true := by rw [hfX]; rfl
        have y43 : ((Y[0].toNat : Int) == 43) = true := by rw [hfY]; rfl
        have y45 : ((Y[0].toNat : Int) == 45) = false := by rw [hfY]; rfl
        clear hless hfX hfY
        go_wp2
        go_quiet (fail)
        go_wp2_with fail
        refine (unhide K1 _).mono ?_
        rintro e w1 ⟨rfl, he⟩
        replace he := he.symm
        subst he
        go_wp2_with fail
        refine (unhide K2 _).mono ?_
        rintro e w1 ⟨rfl, he⟩
        replace he := he.symm
        subst he
        go_wp2
        go_roundw
        case rel => exact ⟨k + 1, _, by omega, by go_num, rfl⟩
        case measure => simp [intOf]; omega
      · have x43 : ((X[0].toNat : Int) == 43) = false := by rw [hfX]; rfl
        have x45 : ((X[0].toNat : Int) == 45) = true := by rw [hfX]; rfl
        have y43 : ((Y[0].toNat : Int) == 43) = false := by rw [hfY]; rfl
        have y45 : ((Y[0].toNat : Int) == 45) = true := by rw [hfY]; rfl
        rcases hkk with hkk | ⟨hkk, hlk⟩
        · have hne : ((i.kind : Int) == (j.kind : Int)) = false := by rw [beq_eq_false_iff_ne]; omega
          have hnl : ¬ (i.kind : Int) < (j.kind : Int) := by omega
          clear hless hfX hfY
          go_wp2
          go_quiet (fail)
          go_wp2_with fail
          refine (unhide K1 _).mono ?_
          rintro e w1 ⟨rfl, he⟩
          replace he := he.symm
          subst he
          go_wp2_with fail
          refine (unhide K2 _).mono ?_
          rintro e w1 ⟨rfl, he⟩
          replace he := he.symm
          subst he
          go_wp2
          go_roundw
          case rel => exact ⟨k + 1, _, by omega, by go_num, rfl⟩
          case measure => simp [intOf]; omega
        · have hls := hless hkk.symm hlk rfl
          have hne : ((i.kind : Int) == (j.kind : Int)) = true := by rw [beq_iff_eq]; omega
          have hnl : ¬ (i.kind : Int) < (j.kind : Int) := by omega
          clear hless hfX hfY hkk
          go_wp2
          go_quiet (fail)
          go_wp2_with fail
          refine (unhide K1 _).mono ?_
          rintro e w1 ⟨rfl, he⟩
          replace he := he.symm
          subst he
          go_wp2_with fail
          refine (unhide K2 _).mono ?_
          rintro e w1 ⟨rfl, he⟩
          replace he := he.symm
          subst he
          go_wp2
          go_roundw
          case rel => exact ⟨k + 1, _, by omega, by go_num, rfl⟩
          case measure => simp [intOf]; omega
      · have x43 : ((X[0].toNat : Int) == 43) = true := by rw [hfX]; rfl
        have x45 : ((X[0].toNat : Int) == 45) = false := by rw [hfX]; rfl
        have y43 : ((Y[0].toNat : Int) == 43) = true := by rw [hfY]; rfl
        have y45 : ((Y[0].toNat : Int) == 45) = false := by rw [hfY]; rfl
        by_cases hkk : i.kind = j.kind
        · have hls := hless hkk hlk rfl
          have hne : ((i.kind : Int) == (j.kind : Int)) = true := by rw [beq_iff_eq]; omega
          have hnl : ¬ (j.kind : Int) < (i.kind : Int) := by omega
          clear hless hfX hfY hkk
          go_wp2
          go_quiet (fail)
          go_wp2_with fail
          refine (unhide K1 _).mono ?_
          rintro e w1 ⟨rfl, he⟩
          replace he := he.symm
          subst he
          go_wp2_with fail
          refine (unhide K2 _).mono ?_
          rintro e w1 ⟨rfl, he⟩
          replace he := he.symm
          subst he
          go_wp2
          go_roundw
          case rel => exact ⟨k + 1, _, by omega, by go_num, rfl⟩
          case measure => simp [intOf]; omega
        · have hlt2 : i.kind < j.kind := by
            rcases hlk with h | h
            · exact h
            · exact absurd h.1 hkk
          have hne : ((i.kind : Int) == (j.kind : Int)) = false := by rw [beq_eq_false_iff_ne]; omega
          have hnl : ¬ (j.kind : Int) < (i.kind : Int) := by omega
          clear hless hfX hfY hkk
          go_wp2
          go_quiet (fail)
          go_wp2_with fail
          refine (unhide K1 _).mono ?_
          rintro e w1 ⟨rfl, he⟩
          replace he := he.symm
          subst he
          go_wp2_with fail
          refine (unhide K2 _).mono ?_
          rintro e w1 ⟨rfl, he⟩
          replace he := he.symm
          subst he
          go_wp2
          go_roundw
          case rel => exact ⟨k + 1, _, by omega, by go_num, rfl⟩
          case measure => simp [intOf]; omega
    · have hlt' : ¬ (k : Int) + 1 < (S.length : Int) := by omega
      go_wp2
      go_ret
      exact ⟨rfl, _, rfl⟩

end Go.Proofs.Ytdlhgbhaeedbdaa
