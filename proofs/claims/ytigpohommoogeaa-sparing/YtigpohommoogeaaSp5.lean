/- What a plan is made of. Plain mathematics. -/
import Derived.Test.YtigpohommoogeaaSp4
import Derived.Test.YtigpohommoogeaaPureB
import Derived.Test.YtigpohommoogeaaOrd3
namespace Go.Proofs.Ytigpohommoogeaa
open Go.RowKit

/-- What is gone could not stay. -/
theorem spl_gone {t ls : List Item} (hs : ls.Pairwise LtK) : ∀ x ∈ (spl t ls).2, ¬ (holdsB t x.text = true ∧ ∀ k ∈ namesOf x, ∃ z ∈ (spl t ls).1, keyIs k z = true) := by
  have key : ∀ n, n ≤ ls.length → ∀ x ∈ (spl t (ls.take n)).2, ¬ (holdsB t x.text = true ∧ ∀ k ∈ namesOf x, ∃ z ∈ (spl t (ls.take n)).1, keyIs k z = true) := by
    intro n
    induction n with
    | zero => intro _ x hx; simp [spl] at hx
    | succ n ih =>
      intro hn x hx hc
      have hlt : n < ls.length := by omega
      have hst := spl_take t ls n hlt
      have hperm := spl_perm t (ls.take n)
      rw [hst] at hx hc
      generalize hP : spl t (ls.take n) = P at *
      have hih := ih (by omega)
      have hlate : ∀ y ∈ ls.take n, LtK y ls[n] := by
        intro y hy
        obtain ⟨i, hi, e⟩ := List.mem_take_iff_getElem.1 hy
        subst e
        exact List.pairwise_iff_getElem.1 hs i n (by omega) hlt (by omega)
      unfold spl1 at hx hc
      split at hx
      · rename_i hcond
        rw [if_pos hcond] at hc
        simp only at hx hc
        -- the new one stays: what was gone before is still gone
        refine hih x hx ⟨hc.1, fun k hk => ?_⟩
        obtain ⟨z, hz, hkz⟩ := hc.2 k hk
        rcases List.mem_append.1 hz with hz | hz
        · exact ⟨z, hz, hkz⟩
        · simp at hz
          subst hz
          have hxn : x ∈ ls.take n := hperm.mem_iff.1 (by simp [hx])
          have h1 := hlate x hxn
          have h2 := names_kind hk
          have h3 := (keyIs_iff'.1 hkz).1
          unfold LtK at h1
          omega
      · rename_i hcond
        rw [if_neg hcond] at hc
        simp only at hx hc
        rcases List.mem_append.1 hx with hx | hx
        · exact hih x hx hc
        · simp at hx
          subst hx
          apply hcond
          rw [Bool.and_eq_true, List.all_eq_true]
          exact ⟨hc.1, fun k hk => List.any_eq_true.2 (hc.2 k hk)⟩
  have := key ls.length (Nat.le_refl _)
  rwa [List.take_of_length_le (Nat.le_refl _)] at this

theorem stTxt_inj {b b' : Bool} {t t' : ByteArray} (h : stTxt b t = stTxt b' t') : b = b' ∧ t = t' := by
  have h1 := congrArg ByteArray.toList h
  have e : ∀ (b : Bool) (t : ByteArray), (stTxt b t).toList = (if b then 43 else 45) :: t.toList := by
    intro b t
    rw [ByteArray.toList_eq, ByteArray.toList_eq]
    unfold stTxt
    rw [ByteArray.data_append]
    cases b <;> simp
  rw [e, e] at h1
  simp only [List.cons.injEq] at h1
  refine ⟨?_, tl_inj h1.2⟩
  revert h1
  cases b <;> cases b' <;> simp

theorem cnt_none {l : List ByteArray} {s : ByteArray} (h : s ∉ l) : cnt l s = 0 := by
  unfold cnt
  rw [List.countP_eq_zero]
  intro x hx
  simp only [decide_eq_true_eq]
  intro e
  exact h (e ▸ hx)

theorem cnt_one {l : List ByteArray} (hn : l.Nodup) {s : ByteArray} (h : s ∈ l) : cnt l s = 1 := by
  obtain ⟨u, v, rfl⟩ := List.append_of_mem h
  rw [List.nodup_append, List.nodup_cons] at hn
  have h1 : cnt u s = 0 := cnt_none fun hu => hn.2.2 s hu s (by simp) rfl
  have h2 : cnt v s = 0 := cnt_none hn.2.1.1
  unfold cnt at h1 h2 ⊢
  rw [List.countP_append, List.countP_cons, h1, h2]
  simp

theorem dn_perm {g : List Item} (hk : ∀ x ∈ g, x.kind ≤ 4) (hn : g.Nodup) : ((dn g 5).map Prod.snd).Perm g := by
  refine perm_of_mem ?_ hn fun x => ?_
  · unfold List.Nodup
    rw [List.pairwise_map]
    refine ((dn_nodup hn 5).imp_of_mem ?_)
    intro p q hp hq hne e
    exact hne (Prod.ext ((mem_dn hp).1.trans (mem_dn hq).1.symm) e)
  · constructor
    · intro h
      obtain ⟨p, hp, rfl⟩ := List.mem_map.1 h
      exact (mem_dn hp).2
    · intro h
      exact List.mem_map.2 ⟨(false, x), mem_dn_of h (hk x h) (by omega), rfl⟩

/-- May a step stand right ahead of another? -/
def turnR (p q : Bool × Item) : Prop :=
  (p.1 = false ∧ q.1 = true) ∨ (p.1 = false ∧ q.1 = false ∧ (q.2.kind < p.2.kind ∨ (q.2.kind = p.2.kind ∧ LtK p.2 q.2))) ∨ (p.1 = true ∧ q.1 = true ∧ LtK p.2 q.2)

theorem outs_turn {g : List Item} (h : g.Pairwise LtK) (c : Nat) : (outs g c).Pairwise turnR := by
  unfold outs
  rw [List.pairwise_map]
  refine (h.filter _).imp_of_mem ?_
  intro x y hx hy hl
  have hx' := of_decide_eq_true (List.mem_filter.1 hx).2
  have hy' := of_decide_eq_true (List.mem_filter.1 hy).2
  exact Or.inr (Or.inl ⟨rfl, rfl, Or.inr ⟨by simp only; omega, hl⟩⟩)

theorem dn_turn {g : List Item} (h : g.Pairwise LtK) (c : Nat) : (dn g c).Pairwise turnR := by
  induction c with
  | zero => simp [dn]
  | succ c ih =>
    simp only [dn]
    rw [List.pairwise_append]
    refine ⟨ih, outs_turn h c, fun p hp q hq => ?_⟩
    have h1 := dn_kind hp
    have h2 := (mem_outs hq).2.2
    exact Or.inr (Or.inl ⟨(mem_dn hp).1, (mem_outs hq).1, Or.inl (by omega)⟩)

theorem ups_turn {st m : List Item} (h : m.Pairwise LtK) : (ups st m).Pairwise turnR := by
  unfold ups
  rw [List.pairwise_map]
  exact (h.filter _).imp fun hl => Or.inr (Or.inr ⟨rfl, rfl, hl⟩)

theorem foldl_spl_sub (t l : List Item) (p : List Item × List Item) : ∃ u, (l.foldl (spl1 t) p).2 = p.2 ++ u ∧ u.Sublist l := by
  induction l generalizing p with
  | nil => exact ⟨[], by simp, List.Sublist.refl _⟩
  | cons a l ih =>
    obtain ⟨u, e, hu⟩ := ih (spl1 t p a)
    simp only [List.foldl_cons, e]
    unfold spl1
    split
    · exact ⟨u, rfl, hu.cons a⟩
    · exact ⟨a :: u, by simp, hu.cons_cons a⟩

theorem spl_sub (t l : List Item) : (spl t l).2.Sublist l := by
  obtain ⟨u, e, hu⟩ := foldl_spl_sub t l ([], [])
  unfold spl
  rw [e]
  simpa using hu

/-- What stays of l where t is wanted. -/
def stayI (l t : List Item) : List Item := (spl t (sortTo l l.length)).1

structure PlanIs (l t : List Item) : Prop where
  nodup : (stTxts (mk l t)).Nodup
  turn : (mk l t).Pairwise turnR
  out : ∀ x ∈ l, (stTxt false x.text ∈ stTxts (mk l t)) ↔ holdsB (stayI l t) x.text = false
  inn : ∀ y ∈ t, (stTxt true y.text ∈ stTxts (mk l t)) ↔ holdsB (stayI l t) y.text = false
  len : (mk l t).length = l.countP (fun x => !holdsB (stayI l t) x.text) + t.countP (fun y => !holdsB (stayI l t) y.text)
  stay : ∀ x ∈ l, holdsB (stayI l t) x.text = true ↔ holdsB t x.text = true ∧ ∀ k ∈ namesOf x, ∀ y ∈ l, keyIs k y = true → holdsB (stayI l t) y.text = true
  sub : ∀ y, Good y → holdsB (stayI l t) y.text = true → y ∈ l

set_option maxHeartbeats 400000 in
theorem planIs {l t : List Item} (hl : ArrI l) (ht : ArrI t) : PlanIs l t := by
  have hls : (sortTo l l.length).Perm l := by rw [sortTo_all]; exact sorted_perm l
  have hts : (sortTo t t.length).Perm t := by rw [sortTo_all]; exact sorted_perm t
  have hlso : (sortTo l l.length).Pairwise LtK := by rw [sortTo_all]; exact sorted_sorted l hl.dist
  have htso : (sortTo t t.length).Pairwise LtK := by rw [sortTo_all]; exact sorted_sorted t ht.dist
  have hal := hl.perm hls.symm
  have hat := ht.perm hts.symm
  have hsp := spl_perm t (sortTo l l.length)
  have hst := spl_stay t (sortTo l l.length)
  have hgo := spl_gone (t := t) hlso
  have hsub := spl_sub t (sortTo l l.length)
  have hdef : stayI l t = (spl t (sortTo l l.length)).1 := rfl
  have hmk : mk l t = dn (spl t (sortTo l l.length)).2 5 ++ ups (spl t (sortTo l l.length)).1 (sortTo t t.length) := rfl
  have hgm : ∀ p ∈ mk l t, Good p.2 := fun p hp => (mem_mk hp).elim (hl.good _) (ht.good _)
  generalize sortTo l l.length = ls at *
  generalize sortTo t t.length = ts at *
  generalize spl t ls = P at *
  obtain ⟨st, gn⟩ := P
  simp only at hsp hst hgo hsub hdef hmk
  obtain ⟨S, hS⟩ : ∃ S, stayI l t = S := ⟨_, rfl⟩
  rw [hS] at hdef
  subst hdef
  have hdsg : Dist (S ++ gn) := hal.dist.perm hsp.symm (fun h k => h k.symm)
  have hmem : ∀ x, x ∈ l ↔ x ∈ S ∨ x ∈ gn := fun x => by rw [← hls.mem_iff, ← hsp.mem_iff, List.mem_append]
  have hgst : ∀ x ∈ S, Good x := fun x hx => hl.good x ((hmem x).2 (Or.inl hx))
  have hggn : ∀ x ∈ gn, Good x := fun x hx => hl.good x ((hmem x).2 (Or.inr hx))
  have hdis : ∀ x ∈ S, x ∉ gn := by
    intro x hx hx2
    unfold Dist at hdsg
    rw [List.pairwise_append] at hdsg
    exact hdsg.2.2 x hx x hx2 (sameK_refl x)
  have hnd := dist_nodup hdsg
  rw [List.nodup_append] at hnd
  have hk4 : ∀ x ∈ gn, x.kind ≤ 4 := fun x hx => (hggn x hx).kind
  have hno : ∀ x, Good x → (holdsB S x.text = false ↔ x ∉ S) := fun x hx => by
    rw [← Bool.not_eq_true, holds_mem hgst hx]
  have hmn : (mk l t).Nodup := by
    rw [hmk, List.nodup_append]
    refine ⟨dn_nodup hnd.2.1 5, ?_, fun p hp q hq e => ?_⟩
    · unfold ups List.Nodup
      rw [List.pairwise_map]
      exact ((dist_nodup hat.dist).filter _).imp fun hne e => hne (by simpa using e)
    · subst e
      have h1 := (mem_dn hp).1
      have h2 := (mem_ups hq).1
      rw [h1] at h2
      simp at h2
  have htx : ∀ (b : Bool) (x : Item), Good x → (stTxt b x.text ∈ stTxts (mk l t) ↔ (b, x) ∈ mk l t) := by
    intro b x hx
    constructor
    · intro h
      obtain ⟨p, hp, e⟩ := List.mem_map.1 h
      obtain ⟨e1, e2⟩ := stTxt_inj e
      have : p.2 = x := (hgm p hp).inj hx e2
      obtain ⟨pb, px⟩ := p
      simp only at e1 this
      rw [← e1, ← this]; exact hp
    · intro h; exact List.mem_map.2 ⟨_, h, rfl⟩
  refine ⟨?_, ?_, ?_, ?_, ?_, ?_, ?_⟩
  · unfold stTxts List.Nodup
    rw [List.pairwise_map]
    refine hmn.imp_of_mem ?_
    intro p q hp hq hne e
    obtain ⟨e1, e2⟩ := stTxt_inj e
    exact hne (Prod.ext e1 ((hgm p hp).inj (hgm q hq) e2))
  · rw [hmk, List.pairwise_append]
    refine ⟨dn_turn (hlso.sublist hsub) 5, ups_turn htso, fun p hp q hq => Or.inl ⟨(mem_dn hp).1, (mem_ups hq).1⟩⟩
  · intro x hx
    have hg := hl.good x hx
    rw [hS, htx false x hg, hno x hg, hmk, List.mem_append]
    constructor
    · rintro (h | h)
      · exact fun h2 => hdis x h2 (mem_dn h).2
      · have := (mem_ups h).1; simp at this
    · intro h
      rcases (hmem x).1 hx with h2 | h2
      · exact absurd h2 h
      · exact Or.inl (mem_dn_of h2 (hk4 x h2) (by omega))
  · intro y hy
    have hg := ht.good y hy
    rw [hS, htx true y hg, hmk, List.mem_append]
    constructor
    · rintro (h | h)
      · have := (mem_dn h).1; simp at this
      · exact (mem_ups h).2.2
    · intro h
      refine Or.inr (List.mem_map.2 ⟨y, List.mem_filter.2 ⟨hts.mem_iff.2 hy, by rw [h]; rfl⟩, rfl⟩)
  · rw [hS, hmk, List.length_append]
    congr 1
    · have h1 : (dn gn 5).length = gn.length := by have := (dn_perm hk4 hnd.2.1).length_eq; simpa using this
      have h2 : l.countP (fun x => !holdsB S x.text) = (S ++ gn).countP (fun x => !holdsB S x.text) := (hls.symm.trans hsp.symm).countP_eq _
      rw [h1, h2, List.countP_append]
      have h3 : S.countP (fun x => !holdsB S x.text) = 0 := by
        rw [List.countP_eq_zero]
        intro x hx
        rw [(holds_mem hgst (hgst x hx)).2 hx]; simp
      have h4 : gn.countP (fun x => !holdsB S x.text) = gn.length := by
        rw [List.countP_eq_length]
        intro x hx
        rw [(hno x (hggn x hx)).2 (fun h => hdis x h hx)]; rfl
      omega
    · unfold ups
      rw [List.length_map, ← List.countP_eq_length_filter]
      exact hts.countP_eq _
  · intro x hx
    have hg := hl.good x hx
    rw [hS]
    constructor
    · intro h
      have hxs := (holds_mem hgst hg).1 h
      obtain ⟨h1, h2⟩ := hst x hxs
      refine ⟨h1, fun k hk y hy hky => ?_⟩
      obtain ⟨z, hz, hkz⟩ := h2 k hk
      have : z = y := dist_eq hl.dist ((hmem z).2 (Or.inl hz)) hy (keyIs_same hkz hky)
      exact (holds_mem hgst (hl.good y hy)).2 (this ▸ hz)
    · rintro ⟨h1, h2⟩
      rw [holds_mem hgst hg]
      rcases (hmem x).1 hx with h | h
      · exact h
      · exfalso
        refine hgo x h ⟨h1, fun k hk => ?_⟩
        obtain ⟨y, hy, hky⟩ := hl.refs x hx k hk
        exact ⟨y, (holds_mem hgst (hl.good y hy)).1 (h2 k hk y hy hky), hky⟩
  · intro y hg h
    rw [hS] at h
    exact (hmem y).2 (Or.inl ((holds_mem hgst hg).1 h))

end Go.Proofs.Ytigpohommoogeaa
