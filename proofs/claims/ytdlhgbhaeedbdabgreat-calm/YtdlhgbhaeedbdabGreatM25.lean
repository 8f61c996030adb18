/- Ord3, SpB, CmA. -/
import Derived.Test.YtdlhgbhaeedbdabGreatM24
import Derived.Test.YtdlhgbhaeedbdabGreatM10
import Derived.Test.YtdlhgbhaeedbdabGreatM11

/- The order of keys is the order of texts. -/
namespace Go.Proofs.YtdlhgbhaeedbdabGreat
open Go.RowKit

theorem lt32 : ((32 : UInt8).toNat : Int) < 97 := by decide
theorem lt59 : ((59 : UInt8).toNat : Int) < 97 := by decide

theorem text_less {x y : It} (hx : x.ok) (hy : y.ok) (hk : x.kind = y.kind) (h : LtK x.item y.item) : Op.bytesLess x.text y.text = true := by
  have h' : Op.bytesLess x.a y.a = true ∨ (x.a = y.a ∧ (Op.bytesLess x.item.host.toList y.item.host.toList = true ∨ (x.item.host = y.item.host ∧ x.item.number < y.item.number))) := by
    rcases h with h | ⟨_, h⟩
    · exact absurd h (by simp [It.item, hk])
    · rcases h with h | ⟨h1, h⟩
      · left
        rw [show x.item.name = ⟨x.a.toArray⟩ from rfl, show y.item.name = ⟨y.a.toArray⟩ from rfl, mk_tl, mk_tl] at h
        exact h
      · exact Or.inr ⟨mk_inj h1, h⟩
  have yb := hy.1.2.2
  rcases hx with ⟨_, ⟨e, _, _, _, _⟩ | ⟨e, _⟩ | ⟨e, hb, hn, _⟩ | ⟨e, hb, _⟩ | ⟨e, hb, hn, _⟩⟩
  · have e' : y.kind = 0 := by omega
    simp only [It.text, It.body, e, e', if_true, List.append_assoc]
    rw [bl_app]
    rcases h' with h' | ⟨h1, h' | ⟨_, h'⟩⟩
    · exact bl_name yb h' _ _ lt32 _ _
    · simp [It.item, e, e', Op.bytesLess] at h'
    · simp [It.item, e, e'] at h'
  · have e' : y.kind = 1 := by omega
    have tx : ∀ z : It, z.kind = 1 → z.text = [116, 97, 114, 103, 101, 116, 32] ++ (z.a ++ 59 :: []) := fun z hz => by simp [It.text, It.body, hz]
    rw [tx x e, tx y e', bl_app]
    rcases h' with h' | ⟨h1, h' | ⟨_, h'⟩⟩
    · exact bl_name yb h' _ _ lt59 _ _
    · simp [It.item, e, e', Op.bytesLess] at h'
    · simp [It.item, e, e'] at h'
  · have e' : y.kind = 2 := by omega
    have hn' : y.n ≤ 7 := by rcases hy with ⟨_, ⟨q, _⟩ | ⟨q, _⟩ | ⟨_, _, q, _⟩ | ⟨q, _⟩ | ⟨q, _⟩⟩ <;> omega
    have tx : ∀ z : It, z.kind = 2 → z.text = [108, 117, 110, 32] ++ (z.a ++ (32 :: dg z.n :: ([32] ++ (z.b ++ [32, 114, md z.m, 59])))) := fun z hz => by simp [It.text, It.body, hz]
    rw [tx x e, tx y e', bl_app]
    rcases h' with h' | ⟨h1, h' | ⟨_, h'⟩⟩
    · exact bl_name yb h' _ _ lt32 _ _
    · simp [It.item, e, e', Op.bytesLess] at h'
    · simp [It.item, e, e'] at h'
      rw [h1, bl_app, show ∀ u v : List UInt8, Op.bytesLess (32 :: u) (32 :: v) = Op.bytesLess u v from fun u v => bl_app [32] u v]
      exact bl_digit (by omega) (by omega) h' _ _
  · have e' : y.kind = 3 := by omega
    have hb' : isName y.b := by rcases hy with ⟨_, ⟨q, _⟩ | ⟨q, _⟩ | ⟨q, _⟩ | ⟨_, q, _⟩ | ⟨q, _⟩⟩ <;> first | omega | exact q
    have tx : ∀ z : It, z.kind = 3 → z.text = [104, 111, 115, 116, 32] ++ (z.a ++ (32 :: (z.b ++ 59 :: []))) := fun z hz => by simp [It.text, It.body, hz]
    rw [tx x e, tx y e', bl_app]
    rcases h' with h' | ⟨h1, h' | ⟨_, h'⟩⟩
    · exact bl_name yb h' _ _ lt32 _ _
    · simp [It.item, e, e'] at h'
      rw [h1, bl_app, show ∀ u v : List UInt8, Op.bytesLess (32 :: u) (32 :: v) = Op.bytesLess u v from fun u v => bl_app [32] u v]
      exact bl_name hb'.2.2 h' _ _ lt59 _ _
    · simp [It.item, e, e'] at h'
  · have e' : y.kind = 4 := by omega
    have hb' : isName y.b ∧ y.n ≤ 7 := by rcases hy with ⟨_, ⟨q, _⟩ | ⟨q, _⟩ | ⟨q, _⟩ | ⟨q, _⟩ | ⟨_, q, r, _⟩⟩ <;> first | omega | exact ⟨q, r⟩
    have tx : ∀ z : It, z.kind = 4 → z.text = [109, 97, 112, 32] ++ (z.a ++ (32 :: (z.b ++ 32 :: dg z.n :: [32, dg z.m, 59]))) := fun z hz => by simp [It.text, It.body, hz]
    rw [tx x e, tx y e', bl_app]
    rcases h' with h' | ⟨h1, h' | ⟨h2, h'⟩⟩
    · exact bl_name yb h' _ _ lt32 _ _
    · simp [It.item, e, e'] at h'
      rw [h1, bl_app, show ∀ u v : List UInt8, Op.bytesLess (32 :: u) (32 :: v) = Op.bytesLess u v from fun u v => bl_app [32] u v]
      exact bl_name hb'.1.2.2 h' _ _ lt32 _ _
    · simp [It.item, e, e'] at h'
      have h3 : x.b = y.b := by
        have : x.item.host = ⟨x.b.toArray⟩ := by simp [It.item, e]
        have h4 : y.item.host = ⟨y.b.toArray⟩ := by simp [It.item, e']
        rw [this, h4] at h2
        exact mk_inj h2
      rw [h1, bl_app, show ∀ u v : List UInt8, Op.bytesLess (32 :: u) (32 :: v) = Op.bytesLess u v from fun u v => bl_app [32] u v, h3, bl_app, show ∀ u v : List UInt8, Op.bytesLess (32 :: u) (32 :: v) = Op.bytesLess u v from fun u v => bl_app [32] u v]
      exact bl_digit (by omega) (by omega) h' _ _

theorem ord_sorted {L : List It} (h : Arr L) : ∀ i, i + 1 < ((sortI L).map textOf).length → ordB ((sortI L).map textOf) i = true := by
  intro i hi
  have ha := arr_sortI h
  have hs := sorted_sorted _ h.dist
  rw [← sortI_map] at hs
  have hi' : i + 1 < (sortI L).length := by simpa using hi
  rw [List.pairwise_iff_getElem] at hs
  have hl := hs i (i + 1) (by simp; omega) (by simpa using hi') (by omega)
  simp only [List.getElem_map] at hl
  have hx := ha.ok (sortI L)[i] (List.getElem_mem _)
  have hy := ha.ok (sortI L)[i + 1] (List.getElem_mem _)
  simp only [ordB, List.getElem?_map, List.getElem?_eq_getElem (show i < (sortI L).length by omega), List.getElem?_eq_getElem hi', Option.map_some]
  rw [rank_text hx, rank_text hy]
  generalize (sortI L)[i] = x at *
  generalize (sortI L)[i + 1] = y at *
  by_cases hk : x.kind = y.kind
  · have := text_less hx hy hk hl
    simp only [textOf, mk_tl, this]
    simp [hk]
  · have hlt : x.kind < y.kind := by
      rcases hl with hl | ⟨hl, _⟩
      · exact hl
      · exact absurd hl hk
    simp [hk]; omega

theorem catS_map (L : List It) : catS (L.map textOf) = txt L := by
  have : ∀ (L : List It) (acc : ByteArray), (L.map textOf).foldl (· ++ ·) acc = acc ++ txt L := by
    intro L
    induction L with
    | nil => intro acc; simp [txt, catT]; apply ByteArray.ext; simp
    | cons x L ih =>
      intro acc
      simp only [List.map_cons, List.foldl_cons]
      rw [ih]
      apply ByteArray.ext
      apply Array.toList_inj.1
      simp [textOf, txt, catT]
  rw [catS, this]
  apply ByteArray.ext
  simp

end Go.Proofs.YtdlhgbhaeedbdabGreat

/- Sp5, Sp6. -/
/- What a plan is made of. Plain mathematics. -/
namespace Go.Proofs.YtdlhgbhaeedbdabGreat
open Go.RowKit

/-- What is gone could not stay. -/
theorem spl_gone {t ls : List Item} (hs : ls.Pairwise LtK) : ∀ x ∈ (spl t ls).2, ¬ (holdsB t x.text = true ∧ ∀ k ∈ namesOf x, ∃ z ∈ (spl t ls).1, keyIs k z = true) := by
  have key : ∀ n, n ≤ ls.length → ∀ x ∈ (spl t (ls.take n)).2, ¬ (holdsB t x.text = true ∧ ∀ k ∈ namesOf x, ∃ z ∈ (spl t (ls.take n)).1, keyIs k z = true) := by
    intro n
    induction n with
    | zero => intro _ x hx; simp [spl] at hx
    | succ n ih =>
      intro hn x hx hc
      have hlt : n < ls.length := by omega
      have hst := spl_take t ls n hlt
      have hperm := spl_perm t (ls.take n)
      rw [hst] at hx hc
      generalize hP : spl t (ls.take n) = P at *
      have hih := ih (by omega)
      have hlate : ∀ y ∈ ls.take n, LtK y ls[n] := by
        intro y hy
        obtain ⟨i, hi, e⟩ := List.mem_take_iff_getElem.1 hy
        subst e
        exact List.pairwise_iff_getElem.1 hs i n (by omega) hlt (by omega)
      unfold spl1 at hx hc
      split at hx
      · rename_i hcond
        rw [if_pos hcond] at hc
        simp only at hx hc
        -- the new one stays: what was gone before is still gone
        refine hih x hx ⟨hc.1, fun k hk => ?_⟩
        obtain ⟨z, hz, hkz⟩ := hc.2 k hk
        rcases List.mem_append.1 hz with hz | hz
        · exact ⟨z, hz, hkz⟩
        · simp at hz
          subst hz
          have hxn : x ∈ ls.take n := hperm.mem_iff.1 (by simp [hx])
          have h1 := hlate x hxn
          have h2 := names_kind hk
          have h3 := (keyIs_iff'.1 hkz).1
          unfold LtK at h1
          omega
      · rename_i hcond
        rw [if_neg hcond] at hc
        simp only at hx hc
        rcases List.mem_append.1 hx with hx | hx
        · exact hih x hx hc
        · simp at hx
          subst hx
          apply hcond
          rw [Bool.and_eq_true, List.all_eq_true]
          exact ⟨hc.1, fun k hk => List.any_eq_true.2 (hc.2 k hk)⟩
  have := key ls.length (Nat.le_refl _)
  rwa [List.take_of_length_le (Nat.le_refl _)] at this

theorem stTxt_inj {b b' : Bool} {t t' : ByteArray} (h : stTxt b t = stTxt b' t') : b = b' ∧ t = t' := by
  have h1 := congrArg ByteArray.toList h
  have e : ∀ (b : Bool) (t : ByteArray), (stTxt b t).toList = (if b then 43 else 45) :: t.toList := by
    intro b t
    rw [ByteArray.toList_eq, ByteArray.toList_eq]
    unfold stTxt
    rw [ByteArray.data_append]
    cases b <;> simp
  rw [e, e] at h1
  simp only [List.cons.injEq] at h1
  refine ⟨?_, tl_inj h1.2⟩
  revert h1
  cases b <;> cases b' <;> simp

theorem cnt_none {l : List ByteArray} {s : ByteArray} (h : s ∉ l) : cnt l s = 0 := by
  unfold cnt
  rw [List.countP_eq_zero]
  intro x hx
  simp only [decide_eq_true_eq]
  intro e
  exact h (e ▸ hx)

theorem cnt_one {l : List ByteArray} (hn : l.Nodup) {s : ByteArray} (h : s ∈ l) : cnt l s = 1 := by
  obtain ⟨u, v, rfl⟩ := List.append_of_mem h
  rw [List.nodup_append, List.nodup_cons] at hn
  have h1 : cnt u s = 0 := cnt_none fun hu => hn.2.2 s hu s (by simp) rfl
  have h2 : cnt v s = 0 := cnt_none hn.2.1.1
  unfold cnt at h1 h2 ⊢
  rw [List.countP_append, List.countP_cons, h1, h2]
  simp

theorem dn_perm {g : List Item} (hk : ∀ x ∈ g, x.kind ≤ 4) (hn : g.Nodup) : ((dn g 5).map Prod.snd).Perm g := by
  refine perm_of_mem ?_ hn fun x => ?_
  · unfold List.Nodup
    rw [List.pairwise_map]
    refine ((dn_nodup hn 5).imp_of_mem ?_)
    intro p q hp hq hne e
    exact hne (Prod.ext ((mem_dn hp).1.trans (mem_dn hq).1.symm) e)
  · constructor
    · intro h
      obtain ⟨p, hp, rfl⟩ := List.mem_map.1 h
      exact (mem_dn hp).2
    · intro h
      exact List.mem_map.2 ⟨(false, x), mem_dn_of h (hk x h) (by omega), rfl⟩

/-- May a step stand right ahead of another? -/
def turnR (p q : Bool × Item) : Prop :=
  (p.1 = false ∧ q.1 = true) ∨ (p.1 = false ∧ q.1 = false ∧ (q.2.kind < p.2.kind ∨ (q.2.kind = p.2.kind ∧ LtK p.2 q.2))) ∨ (p.1 = true ∧ q.1 = true ∧ LtK p.2 q.2)

theorem outs_turn {g : List Item} (h : g.Pairwise LtK) (c : Nat) : (outs g c).Pairwise turnR := by
  unfold outs
  rw [List.pairwise_map]
  refine (h.filter _).imp_of_mem ?_
  intro x y hx hy hl
  have hx' := of_decide_eq_true (List.mem_filter.1 hx).2
  have hy' := of_decide_eq_true (List.mem_filter.1 hy).2
  exact Or.inr (Or.inl ⟨rfl, rfl, Or.inr ⟨by simp only; omega, hl⟩⟩)

theorem dn_turn {g : List Item} (h : g.Pairwise LtK) (c : Nat) : (dn g c).Pairwise turnR := by
  induction c with
  | zero => simp [dn]
  | succ c ih =>
    simp only [dn]
    rw [List.pairwise_append]
    refine ⟨ih, outs_turn h c, fun p hp q hq => ?_⟩
    have h1 := dn_kind hp
    have h2 := (mem_outs hq).2.2
    exact Or.inr (Or.inl ⟨(mem_dn hp).1, (mem_outs hq).1, Or.inl (by omega)⟩)

theorem ups_turn {st m : List Item} (h : m.Pairwise LtK) : (ups st m).Pairwise turnR := by
  unfold ups
  rw [List.pairwise_map]
  exact (h.filter _).imp fun hl => Or.inr (Or.inr ⟨rfl, rfl, hl⟩)

theorem foldl_spl_sub (t l : List Item) (p : List Item × List Item) : ∃ u, (l.foldl (spl1 t) p).2 = p.2 ++ u ∧ u.Sublist l := by
  induction l generalizing p with
  | nil => exact ⟨[], by simp, List.Sublist.refl _⟩
  | cons a l ih =>
    obtain ⟨u, e, hu⟩ := ih (spl1 t p a)
    simp only [List.foldl_cons, e]
    unfold spl1
    split
    · exact ⟨u, rfl, hu.cons a⟩
    · exact ⟨a :: u, by simp, hu.cons_cons a⟩

theorem spl_sub (t l : List Item) : (spl t l).2.Sublist l := by
  obtain ⟨u, e, hu⟩ := foldl_spl_sub t l ([], [])
  unfold spl
  rw [e]
  simpa using hu

/-- What stays of l where t is wanted. -/
def stayI (l t : List Item) : List Item := (spl t (sortTo l l.length)).1

structure PlanIs (l t : List Item) : Prop where
  nodup : (stTxts (mk l t)).Nodup
  turn : (mk l t).Pairwise turnR
  out : ∀ x ∈ l, (stTxt false x.text ∈ stTxts (mk l t)) ↔ holdsB (stayI l t) x.text = false
  inn : ∀ y ∈ t, (stTxt true y.text ∈ stTxts (mk l t)) ↔ holdsB (stayI l t) y.text = false
  len : (mk l t).length = l.countP (fun x => !holdsB (stayI l t) x.text) + t.countP (fun y => !holdsB (stayI l t) y.text)
  stay : ∀ x ∈ l, holdsB (stayI l t) x.text = true ↔ holdsB t x.text = true ∧ ∀ k ∈ namesOf x, ∀ y ∈ l, keyIs k y = true → holdsB (stayI l t) y.text = true
  sub : ∀ y, Good y → holdsB (stayI l t) y.text = true → y ∈ l

set_option maxHeartbeats 400000 in
theorem planIs {l t : List Item} (hl : ArrI l) (ht : ArrI t) : PlanIs l t := by
  have hls : (sortTo l l.length).Perm l := by rw [sortTo_all]; exact sorted_perm l
  have hts : (sortTo t t.length).Perm t := by rw [sortTo_all]; exact sorted_perm t
  have hlso : (sortTo l l.length).Pairwise LtK := by rw [sortTo_all]; exact sorted_sorted l hl.dist
  have htso : (sortTo t t.length).Pairwise LtK := by rw [sortTo_all]; exact sorted_sorted t ht.dist
  have hal := hl.perm hls.symm
  have hat := ht.perm hts.symm
  have hsp := spl_perm t (sortTo l l.length)
  have hst := spl_stay t (sortTo l l.length)
  have hgo := spl_gone (t := t) hlso
  have hsub := spl_sub t (sortTo l l.length)
  have hdef : stayI l t = (spl t (sortTo l l.length)).1 := rfl
  have hmk : mk l t = dn (spl t (sortTo l l.length)).2 5 ++ ups (spl t (sortTo l l.length)).1 (sortTo t t.length) := rfl
  have hgm : ∀ p ∈ mk l t, Good p.2 := fun p hp => (mem_mk hp).elim (hl.good _) (ht.good _)
  generalize sortTo l l.length = ls at *
  generalize sortTo t t.length = ts at *
  generalize spl t ls = P at *
  obtain ⟨st, gn⟩ := P
  simp only at hsp hst hgo hsub hdef hmk
  obtain ⟨S, hS⟩ : ∃ S, stayI l t = S := ⟨_, rfl⟩
  rw [hS] at hdef
  subst hdef
  have hdsg : Dist (S ++ gn) := hal.dist.perm hsp.symm (fun h k => h k.symm)
  have hmem : ∀ x, x ∈ l ↔ x ∈ S ∨ x ∈ gn := fun x => by rw [← hls.mem_iff, ← hsp.mem_iff, List.mem_append]
  have hgst : ∀ x ∈ S, Good x := fun x hx => hl.good x ((hmem x).2 (Or.inl hx))
  have hggn : ∀ x ∈ gn, Good x := fun x hx => hl.good x ((hmem x).2 (Or.inr hx))
  have hdis : ∀ x ∈ S, x ∉ gn := by
    intro x hx hx2
    unfold Dist at hdsg
    rw [List.pairwise_append] at hdsg
    exact hdsg.2.2 x hx x hx2 (sameK_refl x)
  have hnd := dist_nodup hdsg
  rw [List.nodup_append] at hnd
  have hk4 : ∀ x ∈ gn, x.kind ≤ 4 := fun x hx => (hggn x hx).kind
  have hno : ∀ x, Good x → (holdsB S x.text = false ↔ x ∉ S) := fun x hx => by
    rw [← Bool.not_eq_true, holds_mem hgst hx]
  have hmn : (mk l t).Nodup := by
    rw [hmk, List.nodup_append]
    refine ⟨dn_nodup hnd.2.1 5, ?_, fun p hp q hq e => ?_⟩
    · unfold ups List.Nodup
      rw [List.pairwise_map]
      exact ((dist_nodup hat.dist).filter _).imp fun hne e => hne (by simpa using e)
    · subst e
      have h1 := (mem_dn hp).1
      have h2 := (mem_ups hq).1
      rw [h1] at h2
      simp at h2
  have htx : ∀ (b : Bool) (x : Item), Good x → (stTxt b x.text ∈ stTxts (mk l t) ↔ (b, x) ∈ mk l t) := by
    intro b x hx
    constructor
    · intro h
      obtain ⟨p, hp, e⟩ := List.mem_map.1 h
      obtain ⟨e1, e2⟩ := stTxt_inj e
      have : p.2 = x := (hgm p hp).inj hx e2
      obtain ⟨pb, px⟩ := p
      simp only at e1 this
      rw [← e1, ← this]; exact hp
    · intro h; exact List.mem_map.2 ⟨_, h, rfl⟩
  refine ⟨?_, ?_, ?_, ?_, ?_, ?_, ?_⟩
  · unfold stTxts List.Nodup
    rw [List.pairwise_map]
    refine hmn.imp_of_mem ?_
    intro p q hp hq hne e
    obtain ⟨e1, e2⟩ := stTxt_inj e
    exact hne (Prod.ext e1 ((hgm p hp).inj (hgm q hq) e2))
  · rw [hmk, List.pairwise_append]
    refine ⟨dn_turn (hlso.sublist hsub) 5, ups_turn htso, fun p hp q hq => Or.inl ⟨(mem_dn hp).1, (mem_ups hq).1⟩⟩
  · intro x hx
    have hg := hl.good x hx
    rw [hS, htx false x hg, hno x hg, hmk, List.mem_append]
    constructor
    · rintro (h | h)
      · exact fun h2 => hdis x h2 (mem_dn h).2
      · have := (mem_ups h).1; simp at this
    · intro h
      rcases (hmem x).1 hx with h2 | h2
      · exact absurd h2 h
      · exact Or.inl (mem_dn_of h2 (hk4 x h2) (by omega))
  · intro y hy
    have hg := ht.good y hy
    rw [hS, htx true y hg, hmk, List.mem_append]
    constructor
    · rintro (h | h)
      · have := (mem_dn h).1; simp at this
      · exact (mem_ups h).2.2
    · intro h
      refine Or.inr (List.mem_map.2 ⟨y, List.mem_filter.2 ⟨hts.mem_iff.2 hy, by rw [h]; rfl⟩, rfl⟩)
  · rw [hS, hmk, List.length_append]
    congr 1
    · have h1 : (dn gn 5).length = gn.length := by have := (dn_perm hk4 hnd.2.1).length_eq; simpa using this
      have h2 : l.countP (fun x => !holdsB S x.text) = (S ++ gn).countP (fun x => !holdsB S x.text) := (hls.symm.trans hsp.symm).countP_eq _
      rw [h1, h2, List.countP_append]
      have h3 : S.countP (fun x => !holdsB S x.text) = 0 := by
        rw [List.countP_eq_zero]
        intro x hx
        rw [(holds_mem hgst (hgst x hx)).2 hx]; simp
      have h4 : gn.countP (fun x => !holdsB S x.text) = gn.length := by
        rw [List.countP_eq_length]
        intro x hx
        rw [(hno x (hggn x hx)).2 (fun h => hdis x h hx)]; rfl
      omega
    · unfold ups
      rw [List.length_map, ← List.countP_eq_length_filter]
      exact hts.countP_eq _
  · intro x hx
    have hg := hl.good x hx
    rw [hS]
    constructor
    · intro h
      have hxs := (holds_mem hgst hg).1 h
      obtain ⟨h1, h2⟩ := hst x hxs
      refine ⟨h1, fun k hk y hy hky => ?_⟩
      obtain ⟨z, hz, hkz⟩ := h2 k hk
      have : z = y := dist_eq hl.dist ((hmem z).2 (Or.inl hz)) hy (keyIs_same hkz hky)
      exact (holds_mem hgst (hl.good y hy)).2 (this ▸ hz)
    · rintro ⟨h1, h2⟩
      rw [holds_mem hgst hg]
      rcases (hmem x).1 hx with h | h
      · exact h
      · exfalso
        refine hgo x h ⟨h1, fun k hk => ?_⟩
        obtain ⟨y, hy, hky⟩ := hl.refs x hx k hk
        exact ⟨y, (holds_mem hgst (hl.good y hy)).1 (h2 k hk y hy hky), hky⟩
  · intro y hg h
    rw [hS] at h
    exact (hmem y).2 (Or.inl ((holds_mem hgst hg).1 h))

end Go.Proofs.YtdlhgbhaeedbdabGreat

/- 'stays' is what stays; 'turns'. -/
namespace Go.Proofs.YtdlhgbhaeedbdabGreat
open Go.RowKit

def dep (k : Nat) : Nat := if k ≤ 1 then 0 else if k ≤ 3 then 1 else 2

theorem dep_names {x : Item} {k : Key} (h : k ∈ namesOf x) {y : Item} (hy : keyIs k y = true) : dep y.kind + 1 ≤ dep x.kind := by
  have hk := (keyIs_iff'.1 hy).1
  unfold namesOf at h
  split at h
  · rename_i e
    simp only [List.mem_cons, List.not_mem_nil, or_false] at h
    rcases h with rfl | rfl <;> simp only at hk <;> have : y.kind ≤ 1 := by omega
    all_goals simp [dep, this, e]
  · split at h
    · rename_i e
      simp only [List.mem_cons, List.not_mem_nil, or_false] at h
      subst h
      simp only at hk
      have : y.kind ≤ 1 := by omega
      simp [dep, this, e]
    · split at h
      · rename_i e
        simp only [List.mem_cons, List.not_mem_nil, or_false] at h
        rcases h with rfl | rfl <;> simp only at hk
        · have : y.kind = 3 := by omega
          simp [dep, this, e]
        · have : y.kind = 2 := by omega
          simp [dep, this, e]
      · simp at h

theorem names_flat {x : Item} (h : dep x.kind = 0) : namesOf x = [] := by
  cases e : namesOf x with
  | nil => rfl
  | cons k r =>
    exfalso
    have hk : k ∈ namesOf x := by rw [e]; simp
    have h1 : x.kind = 2 ∨ x.kind = 3 ∨ x.kind = 4 := by
      unfold namesOf at e
      split at e
      · rename_i e2; exact Or.inl e2
      · split at e
        · rename_i e2; exact Or.inr (Or.inl e2)
        · split at e
          · rename_i e2; exact Or.inr (Or.inr e2)
          · simp at e
    rcases h1 with h1 | h1 | h1 <;> rw [h1] at h <;> simp [dep] at h

theorem in_holds (M : List It) (x : It) : inB (M.map textOf) (textOf x) = holdsB (M.map It.item) x.item.text := by
  unfold inB holdsB
  rw [List.any_map, List.any_map]
  rfl

theorem stB_stay {L M : List It} (hL : Arr L) (hM : Arr M) (d : Nat) : ∀ x ∈ L, dep x.kind ≤ d → stB L M d x = holdsB (stayI (L.map It.item) (M.map It.item)) x.item.text := by
  have hP := planIs hL.arrI hM.arrI
  have hmem : ∀ y ∈ L, y.item ∈ L.map It.item := fun y hy => List.mem_map.2 ⟨y, hy, rfl⟩
  induction d with
  | zero =>
    intro x hx h0
    have hf := names_flat (x := x.item) (show dep x.item.kind = 0 from Nat.le_zero.1 h0)
    rw [Bool.eq_iff_iff, hP.stay x.item (hmem x hx)]
    show inB (M.map textOf) (textOf x) = true ↔ _
    rw [in_holds, hf]
    simp
  | succ d ih =>
    intro x hx hd
    rw [Bool.eq_iff_iff, hP.stay x.item (hmem x hx)]
    show (inB (M.map textOf) (textOf x) && (namesOf x.item).all fun k => match L.find? (fun y => keyIs k y.item) with | some y => stB L M d y | none => false) = true ↔ _
    rw [Bool.and_eq_true, in_holds, List.all_eq_true]
    refine and_congr_right fun _ => ?_
    constructor
    · intro h k hk y' hy' hky
      obtain ⟨y, hy, rfl⟩ := List.mem_map.1 hy'
      have hk1 := h k hk
      cases hf : L.find? (fun y => keyIs k y.item) with
      | none => rw [List.find?_eq_none] at hf; exact absurd hky (hf y hy)
      | some q =>
        rw [hf] at hk1
        have hq := List.mem_of_find?_eq_some hf
        have hkq : keyIs k q.item = true := by have := List.find?_some hf; exact this
        have e : q.item = y.item := dist_eq hL.dist (hmem q hq) (hmem y hy) (keyIs_same hkq hky)
        have hdq : dep q.kind ≤ d := by have := dep_names hk hkq; have h2 : dep x.item.kind = dep x.kind := rfl; have h3 : dep q.item.kind = dep q.kind := rfl; omega
        simp only at hk1
        rw [ih q hq hdq, e] at hk1
        exact hk1
    · intro h k hk
      obtain ⟨z, hz, hkz⟩ := hL.refs x.item (hmem x hx) k hk
      obtain ⟨y, hy, rfl⟩ := List.mem_map.1 hz
      cases hf : L.find? (fun y => keyIs k y.item) with
      | none => rw [List.find?_eq_none] at hf; exact absurd hkz (hf y hy)
      | some q =>
        have hq := List.mem_of_find?_eq_some hf
        have hkq : keyIs k q.item = true := by have := List.find?_some hf; exact this
        have hdq : dep q.kind ≤ d := by have := dep_names hk hkq; have h2 : dep x.item.kind = dep x.kind := rfl; have h3 : dep q.item.kind = dep q.kind := rfl; omega
        simp only
        rw [ih q hq hdq]
        exact h k hk q.item (hmem q hq) hkq

theorem dep_le (k : Nat) : dep k ≤ 3 := by unfold dep; split <;> (try split) <;> omega

theorem stTxt_tl' (b : Bool) (t : ByteArray) : (stTxt b t).toList = (if b then 43 else 45) :: t.toList := by
  rw [ByteArray.toList_eq, ByteArray.toList_eq]
  unfold stTxt
  rw [ByteArray.data_append]
  cases b <;> simp

theorem stTxt_first (b : Bool) (t : ByteArray) (h : 0 < (stTxt b t).size) : ((stTxt b t)[0].toNat : Int) = if b then 43 else 45 := by
  have h1 := byteAt_in h
  rw [← h1, byteAt_rest, rest_zero, ← ByteArray.toList_eq, stTxt_tl']
  cases b <;> rfl

theorem stTxt_rest' (b : Bool) (t : ByteArray) : (stTxt b t).extract 1 (stTxt b t).size = t := by
  have hsz : (stTxt b t).size = 1 + t.size := by
    unfold stTxt
    rw [ByteArray.size_append]
    cases b <;> rfl
  apply tl_inj
  rw [ByteArray.toList_eq, ByteArray.data_extract, Array.toList_extract, List.extract_eq_take_drop, ← ByteArray.toList_eq, stTxt_tl', hsz]
  rw [show 1 + t.size - 1 = t.size from by omega, List.drop_one, List.tail_cons, ByteArray.toList_eq]
  rw [List.take_of_length_le (by simp)]

end Go.Proofs.YtdlhgbhaeedbdabGreat

/- What a plan does not touch, and what a host sees of it: plain mathematics. -/
namespace Go.Proofs.YtdlhgbhaeedbdabGreat
open Go.RowKit

/-- What stays while l becomes t. -/
structure Stay (l t S : List Item) : Prop where
  arrL : ArrI l
  arrT : ArrI t
  subl : ∀ y ∈ S, y ∈ l
  subt : ∀ y ∈ S, y ∈ t
  clo : ∀ y ∈ S, ∀ k ∈ namesOf y, ∃ z ∈ S, keyIs k z = true
  out : ∀ p ∈ mk l t, p.2 ∉ S ∧ (p.2 ∈ l ∨ p.2 ∈ t)

theorem stay_of {l t : List Item} (hl : ArrI l) (ht : ArrI t) : Stay l t (stayI l t) := by
  have hls : (sortTo l l.length).Perm l := by rw [sortTo_all]; exact sorted_perm l
  have hts : (sortTo t t.length).Perm t := by rw [sortTo_all]; exact sorted_perm t
  have hsp := spl_perm t (sortTo l l.length)
  have hst := spl_stay t (sortTo l l.length)
  have hdef : stayI l t = (spl t (sortTo l l.length)).1 := rfl
  have hmk : mk l t = dn (spl t (sortTo l l.length)).2 5 ++ ups (spl t (sortTo l l.length)).1 (sortTo t t.length) := rfl
  generalize sortTo l l.length = ls at *
  generalize sortTo t t.length = ts at *
  generalize spl t ls = P at *
  obtain ⟨st, gn⟩ := P
  simp only at hsp hst hdef hmk
  obtain ⟨S, hS⟩ : ∃ S, stayI l t = S := ⟨_, rfl⟩
  rw [hS] at hdef ⊢
  subst hdef
  have hal := hl.perm hls.symm
  have hdsg : Dist (S ++ gn) := hal.dist.perm hsp.symm (fun h k => h k.symm)
  have hmem : ∀ x, x ∈ l ↔ x ∈ S ∨ x ∈ gn := fun x => by rw [← hls.mem_iff, ← hsp.mem_iff, List.mem_append]
  have hgst : ∀ x ∈ S, Good x := fun x hx => hl.good x ((hmem x).2 (Or.inl hx))
  have hdis : ∀ x ∈ S, x ∉ gn := by
    intro x hx hx2
    unfold Dist at hdsg
    rw [List.pairwise_append] at hdsg
    exact hdsg.2.2 x hx x hx2 (sameK_refl x)
  refine ⟨hl, ht, fun y hy => (hmem y).2 (.inl hy), fun y hy => ?_, fun y hy k hk => (hst y hy).2 k hk, fun p hp => ?_⟩
  · exact (holds_mem ht.good (hgst y hy)).1 (hst y hy).1
  · rw [hmk] at hp
    rcases List.mem_append.1 hp with h | h
    · have hg := (mem_dn h).2
      exact ⟨fun hS' => hdis _ hS' hg, .inl ((hmem _).2 (.inr hg))⟩
    · obtain ⟨_, h2, h3⟩ := mem_ups h
      have h2' := hts.mem_iff.1 h2
      refine ⟨fun hS' => ?_, .inr h2'⟩
      rw [(holds_mem hgst (ht.good _ h2')).2 hS'] at h3
      cases h3

/-- On the way from l to t. -/
structure Mid (l t S c : List Item) : Prop where
  arr : ArrI c
  has : ∀ y ∈ S, y ∈ c
  from_ : ∀ y ∈ c, y ∈ l ∨ y ∈ t

theorem Mid.first {l t S l0 : List Item} (h : Stay l t S) (hp : l0.Perm l) : Mid l t S l0 :=
  ⟨h.arrL.perm hp.symm, fun y hy => hp.mem_iff.2 (h.subl y hy), fun _ hy => .inl (hp.mem_iff.1 hy)⟩

theorem Mid.last {l t S l0 : List Item} (h : Stay l t S) (hp : l0.Perm t) : Mid l t S l0 :=
  ⟨h.arrT.perm hp.symm, fun y hy => hp.mem_iff.2 (h.subt y hy), fun _ hy => .inr (hp.mem_iff.1 hy)⟩

theorem Mid.walk {l t S : List Item} (h : Stay l t S) {D : List (Bool × Item)} (hD : ∀ p ∈ D, p ∈ Go.Proofs.YtdlhgbhaeedbdabGreat.mk l t ∧ Good p.2) {c m : List Item} (hc : Mid l t S c) (hw : wlk c (stTxts D) = some m) : Mid l t S m := by
  induction D generalizing c with
  | nil =>
    simp only [stTxts, List.map_nil, wlk, Option.some.injEq] at hw
    exact hw ▸ hc
  | cons p D ih =>
    obtain ⟨hp, hg⟩ := hD p (by simp)
    simp only [stTxts, List.map_cons, wlk] at hw
    rw [step1_txt hg] at hw
    cases hd : doB p.1 c p.2 with
    | false => rw [hd] at hw; simp at hw
    | true =>
      rw [hd] at hw
      simp only [if_true] at hw
      refine ih (fun q hq => hD q (by simp [hq])) ?_ hw
      obtain ⟨hnS, hlt⟩ := h.out p hp
      refine ⟨do_arr hc.arr p.1 hg hd, ?_, ?_⟩
      · intro y hy
        obtain ⟨b, z⟩ := p
        cases b with
        | true => rw [doI_add hc.arr.good hg hd]; exact List.mem_append.2 (.inl (hc.has y hy))
        | false =>
          have hw' : doI false c z = without c z := by simp [doI]
          rw [hw', mem_without hc.arr.good hg]
          exact ⟨hc.has y hy, fun e => hnS (e ▸ hy)⟩
      · intro y hy
        obtain ⟨b, z⟩ := p
        cases b with
        | true =>
          rw [doI_add hc.arr.good hg hd] at hy
          rcases List.mem_append.1 hy with h1 | h1
          · exact hc.from_ y h1
          · rw [List.mem_singleton.1 h1]; exact hlt
        | false =>
          have hw' : doI false c z = without c z := by simp [doI]
          rw [hw', mem_without hc.arr.good hg] at hy
          exact hc.from_ y hy.1

/-- A plan under way. -/
theorem Mid.way {l t S l0 c : List Item} {did left : List (Bool × Item)} (h : Stay l t S) (hp : l0.Perm l) (hw : Way l0 c t did left) (hm : did ++ left = Go.Proofs.YtdlhgbhaeedbdabGreat.mk l0 t) : Mid l t S c := by
  have e : Go.Proofs.YtdlhgbhaeedbdabGreat.mk l0 t = Go.Proofs.YtdlhgbhaeedbdabGreat.mk l t := mk_perm hw.arr0 hp
  refine Mid.walk h (D := did) (fun p hpd => ⟨?_, hw.gDid p hpd⟩) (Mid.first h hp) hw.done
  rw [← e, ← hm]
  exact List.mem_append.2 (.inl hpd)

/-- Is it a map of the target's host? -/
def ofMap (tn hn : ByteArray) (x : Item) : Prop := x.kind = 4 ∧ x.name = tn ∧ x.host = hn

/-- A host that a plan does not touch. -/
structure Quiet (l t S : List Item) (tn hn : ByteArray) : Prop where
  stay : Stay l t S
  host : ∃ x ∈ S, x.kind = 3 ∧ x.name = tn ∧ x.host = hn ∧ x.number = 0
  mapL : ∀ y ∈ l, ofMap tn hn y → y ∈ S
  mapT : ∀ y ∈ t, ofMap tn hn y → y ∈ S

theorem find_dist {c : List Item} (hd : Dist c) {k : Key} {y : Item} (hy : y ∈ c) (hk : keyIs k y = true) : c.find? (keyIs k) = some y := by
  cases h : c.find? (keyIs k) with
  | none => exact absurd hk ((List.find?_eq_none.1 h) y hy)
  | some z =>
    have h1 := List.mem_of_find?_eq_some h
    have h2 := List.find?_some h
    rw [dist_eq hd h1 hy (keyIs_same h2 hk)]

/-- The lun that is seen under a number. -/
def lunO (l : List Item) (tn hn : ByteArray) (n : Int) : Option Item :=
  match l.find? (keyIs ⟨4, tn, hn, n⟩) with
  | none => none
  | some m => l.find? (keyIs ⟨2, tn, ⟨#[]⟩, m.lun⟩)

theorem Quiet.map {l t S c : List Item} {tn hn : ByteArray} (h : Quiet l t S tn hn) (hc : Mid l t S c) {y : Item} (hy : ofMap tn hn y) : y ∈ c ↔ y ∈ S := by
  refine ⟨fun h1 => ?_, hc.has y⟩
  rcases hc.from_ y h1 with h2 | h2
  · exact h.mapL y h2 hy
  · exact h.mapT y h2 hy

theorem ofMap_key {tn hn : ByteArray} {n : Int} {y : Item} (h : keyIs ⟨4, tn, hn, n⟩ y = true) : ofMap tn hn y := by
  obtain ⟨h1, h2, h3, _⟩ := keyIs_iff'.1 h
  exact ⟨by have h : (y.kind : Int) = 4 := h1; omega, h2, h3⟩

theorem map_names {tn hn : ByteArray} {y : Item} (h : ofMap tn hn y) : (⟨2, tn, ⟨#[]⟩, y.lun⟩ : Key) ∈ namesOf y := by
  obtain ⟨h1, h2, h3⟩ := h
  simp [namesOf, h1, h2]

/-- What is seen: where there is a map, it and its lun stay. -/
theorem Quiet.see {l t S c : List Item} {tn hn : ByteArray} (h : Quiet l t S tn hn) (hc : Mid l t S c) (n : Int) :
    ((∀ y ∈ S, ¬ keyIs ⟨4, tn, hn, n⟩ y = true) ∧ lunO c tn hn n = none) ∨ ∃ m u, m ∈ S ∧ keyIs ⟨4, tn, hn, n⟩ m = true ∧ u ∈ S ∧ keyIs ⟨2, tn, ⟨#[]⟩, m.lun⟩ u = true ∧ lunO c tn hn n = some u := by
  cases hf : c.find? (keyIs ⟨4, tn, hn, n⟩) with
  | none =>
    refine .inl ⟨fun y hy hk => (List.find?_eq_none.1 hf) y (hc.has y hy) hk, by simp [lunO, hf]⟩
  | some m =>
    have h1 := List.mem_of_find?_eq_some hf
    have h2 := List.find?_some hf
    have hmS := (h.map hc (ofMap_key h2)).1 h1
    obtain ⟨u, hu, hk⟩ := h.stay.clo m hmS _ (map_names (ofMap_key h2))
    refine .inr ⟨m, u, hmS, h2, hu, hk, ?_⟩
    simp only [lunO, hf]
    exact find_dist hc.arr.dist (hc.has u hu) hk

theorem Quiet.same {l t S c d : List Item} {tn hn : ByteArray} (h : Quiet l t S tn hn) (hc : Mid l t S c) (hd : Mid l t S d) (n : Int) : lunO c tn hn n = lunO d tn hn n := by
  have hl : Dist S → True := fun _ => trivial
  rcases h.see hc n with ⟨h1, h2⟩ | ⟨m, u, h1, h2, h3, h4, h5⟩ <;> rcases h.see hd n with ⟨g1, g2⟩ | ⟨m', u', g1, g2, g3, g4, g5⟩
  · rw [h2, g2]
  · exact absurd g2 (h1 m' g1)
  · exact absurd h2 (g1 m h1)
  · have e : m = m' := dist_eq hc.arr.dist (hc.has m h1) (hc.has m' g1) (keyIs_same h2 g2)
    subst e
    have e2 : u = u' := dist_eq hc.arr.dist (hc.has u h3) (hc.has u' g3) (keyIs_same h4 g4)
    rw [h5, g5, e2]

theorem good_lun {u : Item} {tn : ByteArray} {n : Int} (h : keyIs ⟨2, tn, ⟨#[]⟩, n⟩ u = true) : (⟨0, u.disk, ⟨#[]⟩, 0⟩ : Key) ∈ namesOf u := by
  obtain ⟨h1, _⟩ := keyIs_iff'.1 h
  have : u.kind = 2 := by have h : (u.kind : Int) = 2 := h1; omega
  simp [namesOf, this]

/-- The disks that the host sees. -/
def seenN (l : List Item) (tn hn n : ByteArray) : Prop := ∃ k u, lunO l tn hn k = some u ∧ n = u.disk

/-- What may not be done. -/
def calmQ (tn hn : ByteArray) (N : ByteArray → Prop) (p : Bool × Item) : Prop := (p.2.kind = 3 ∨ p.2.kind = 4 → ¬ (p.2.name = tn ∧ p.2.host = hn)) ∧ (p.2.kind = 0 → ¬ N p.2.name)

theorem Quiet.steps {l t S l0 : List Item} {tn hn : ByteArray} (h : Quiet l t S tn hn) (hp : l0.Perm l) : ∀ p ∈ Go.Proofs.YtdlhgbhaeedbdabGreat.mk l0 t, calmQ tn hn (seenN l tn hn) p := by
  intro p hpm
  rw [mk_perm (h.stay.arrL.perm hp.symm) hp] at hpm
  obtain ⟨hnS, hlt⟩ := h.stay.out p hpm
  have hg : Good p.2 := hlt.elim (h.stay.arrL.good _) (h.stay.arrT.good _)
  have hun : ∀ y ∈ S, ¬ sameK p.2 y := by
    intro y hy hs
    rcases hlt with h1 | h1
    · exact hnS (dist_eq h.stay.arrL.dist h1 (h.stay.subl y hy) hs ▸ hy)
    · exact hnS (dist_eq h.stay.arrT.dist h1 (h.stay.subt y hy) hs ▸ hy)
  refine ⟨fun hk ⟨hn1, hn2⟩ => ?_, fun hk ⟨k, u, hu, e⟩ => ?_⟩
  · rcases hk with hk | hk
    · obtain ⟨x, hx, x1, x2, x3, x4⟩ := h.host
      refine hun x hx ⟨hk.trans x1.symm, hn1.trans x2.symm, hn2.trans x3.symm, ?_⟩
      rw [x4]
      obtain ⟨i, hi, e⟩ := hg
      rw [e] at hk ⊢
      have hk' : i.kind = 3 := hk
      simp [It.item, hk']
    · rcases hlt with h1 | h1
      · exact hnS (h.mapL _ h1 ⟨hk, hn1, hn2⟩)
      · exact hnS (h.mapT _ h1 ⟨hk, hn1, hn2⟩)
  · rcases h.see (Mid.first h.stay (List.Perm.refl l)) k with ⟨_, h2⟩ | ⟨m, u', h1, h2, h3, h4, h5⟩
    · rw [h2] at hu; cases hu
    · rw [h5] at hu
      simp only [Option.some.injEq] at hu
      subst hu
      obtain ⟨d, hd, hkd⟩ := h.stay.clo u' h3 _ (good_lun h4)
      obtain ⟨d1, d2, d3, d4⟩ := keyIs_iff'.1 hkd
      refine hun d hd ⟨?_, e.trans d2.symm, ?_, ?_⟩
      · have : d.kind = 0 := by have h : (d.kind : Int) = 0 := d1; omega
        rw [hk, this]
      · rw [d3]
        obtain ⟨i, hi, e⟩ := hg
        rw [e] at hk ⊢
        have hk' : i.kind = 0 := hk
        simp [It.item, hk']
      · rw [d4]
        obtain ⟨i, hi, e⟩ := hg
        rw [e] at hk ⊢
        have hk' : i.kind = 0 := hk
        simp [It.item, hk']

/-- The maps, in order. -/
theorem Quiet.list {l t S c d : List Item} {tn hn : ByteArray} (h : Quiet l t S tn hn) (hc : Mid l t S c) (hd : Mid l t S d) (p : Item → Bool) (hp : ∀ x, p x = true → ofMap tn hn x) :
    (sortTo c c.length).filter p = (sortTo d d.length).filter p := by
  have key : ∀ c, Mid l t S c → ((sortTo c c.length).filter p).Pairwise LtK ∧ ((sortTo c c.length).filter p).Nodup ∧ ∀ y, y ∈ (sortTo c c.length).filter p ↔ y ∈ S ∧ p y = true := by
    intro c hc
    have hso : (sortTo c c.length).Pairwise LtK := by rw [sortTo_all]; exact sorted_sorted c hc.arr.dist
    have hpe : (sortTo c c.length).Perm c := by rw [sortTo_all]; exact sorted_perm c
    refine ⟨hso.filter _, ((hpe.nodup_iff).2 (dist_nodup hc.arr.dist)).filter _, fun y => ?_⟩
    rw [List.mem_filter, hpe.mem_iff]
    refine and_congr_left fun hy => ?_
    exact h.map hc (hp y hy)
  obtain ⟨a1, a2, a3⟩ := key c hc
  obtain ⟨b1, b2, b3⟩ := key d hd
  exact List.Perm.eq_of_pairwise (le := LtK) (fun a b _ _ h1 h2 => (LtK.asymm h1 h2).elim) a1 b1 (perm_of_mem a2 b2 fun z => by rw [a3, b3])

/-- Each host with a plan. -/
theorem Quiet.hostIn {l t S c : List Item} {tn hn : ByteArray} (h : Quiet l t S tn hn) (hc : Mid l t S c) : c.any (keyIs ⟨3, tn, hn, 0⟩) = true := by
  obtain ⟨x, hx, x1, x2, x3, x4⟩ := h.host
  rw [List.any_eq_true]
  exact ⟨x, hc.has x hx, keyIs_iff'.2 ⟨by simp [x1], x2, x3, x4⟩⟩

theorem pre_map {y : It} (hy : y.ok) {a b : List UInt8} (ha : isName a) (hb : isName b) : ([109, 97, 112, 32] ++ (a ++ 32 :: (b ++ [32]))) <+: y.text ↔ y.kind = 4 ∧ y.a = a ∧ y.b = b := by
  obtain ⟨hya, h⟩ := hy
  rcases h with ⟨e, _⟩ | ⟨e, _⟩ | ⟨e, _⟩ | ⟨e, _⟩ | ⟨e, hyb, _⟩
  · simp [It.text, It.body, e, List.cons_prefix_cons]
  · simp [It.text, It.body, e, List.cons_prefix_cons]
  · simp [It.text, It.body, e, List.cons_prefix_cons]
  · simp [It.text, It.body, e, List.cons_prefix_cons]
  · have ht : y.text = [109, 97, 112, 32] ++ (y.a ++ 32 :: (y.b ++ 32 :: [dg y.n, 32, dg y.m, 59])) := by simp [It.text, It.body, e]
    rw [ht, List.prefix_append_right_inj, name_pre ha.2.2 hya.2.2 no32 no32, name_pre hb.2.2 hyb.2.2 no32 no32]
    simp [e, eq_comm]

/-- Behind which a map of the host begins. -/
def mapPre (x : It) : List UInt8 := [109, 97, 112, 32] ++ (x.a ++ 32 :: (x.b ++ [32]))
def mapTxt (x : It) : ByteArray := ⟨(mapPre x).toArray⟩

/-- What 'untouched' tells. -/
def untB (L M : List It) (x : It) : Bool :=
  stB L M 3 x && (L.all fun y => !(begB (textOf y) (mapTxt x)) || stB L M 3 y) && (M.all fun y => !(begB (textOf y) (mapTxt x)) || inB (L.map textOf) (textOf y))

theorem text_same {x y : It} (hx : x.ok) (hy : y.ok) (h : textOf x = textOf y) : x.item = y.item :=
  Good.inj ⟨x, hx, rfl⟩ ⟨y, hy, rfl⟩ h

theorem quiet_of {L M : List It} (hL : Arr L) (hM : Arr M) (hokL : ∀ y ∈ L, y.ok) (hokM : ∀ y ∈ M, y.ok) {x : It} (hx : x ∈ L) (hk : x.kind = 3) (h : untB L M x = true) :
    Quiet (L.map It.item) (M.map It.item) (stayI (L.map It.item) (M.map It.item)) ⟨x.a.toArray⟩ ⟨x.b.toArray⟩ := by
  have hS := stay_of hL.arrI hM.arrI
  have hxok := hokL x hx
  have hname : isName x.a ∧ isName x.b := by
    obtain ⟨ha, h⟩ := hxok
    rcases h with ⟨e, _⟩ | ⟨e, _⟩ | ⟨e, _⟩ | ⟨e, hb, _⟩ | ⟨e, _⟩
    · omega
    · omega
    · omega
    · exact ⟨ha, hb⟩
    · omega
  have hgS : ∀ y ∈ stayI (L.map It.item) (M.map It.item), Good y := fun y hy => hL.arrI.good y (hS.subl y hy)
  have hst : ∀ y ∈ L, stB L M 3 y = true → y.item ∈ stayI (L.map It.item) (M.map It.item) := by
    intro y hy h3
    rw [stB_stay hL hM 3 y hy (dep_le _)] at h3
    exact (holds_mem hgS ⟨y, hokL y hy, rfl⟩).1 h3
  unfold untB at h
  rw [Bool.and_eq_true, Bool.and_eq_true, List.all_eq_true, List.all_eq_true] at h
  obtain ⟨⟨h1, h2⟩, h3⟩ := h
  have hmapL : ∀ y ∈ L, y.kind = 4 → y.a = x.a → y.b = x.b → y.item ∈ stayI (L.map It.item) (M.map It.item) := by
    intro y hy e1 e2 e3
    have := h2 y hy
    rw [show begB (textOf y) (mapTxt x) = true from (beg_pre y (mapPre x)).2 ((pre_map (hokL y hy) hname.1 hname.2).2 ⟨e1, e2, e3⟩)] at this
    exact hst y hy (by simpa using this)
  refine ⟨hS, ⟨x.item, hst x hx h1, hk, rfl, by simp [It.item, hk], by simp [It.item, hk]⟩, ?_, ?_⟩
  · intro y' hy' ⟨e1, e2, e3⟩
    obtain ⟨y, hy, rfl⟩ := List.mem_map.1 hy'
    have hk4 : y.kind = 4 := e1
    have ea : y.a = x.a := mk_inj e2
    have eb : y.b = x.b := by
      have : y.item.host = ⟨y.b.toArray⟩ := by simp [It.item, hk4]
      rw [this] at e3
      exact mk_inj e3
    exact hmapL y hy hk4 ea eb
  · intro y' hy' ⟨e1, e2, e3⟩
    obtain ⟨y, hy, rfl⟩ := List.mem_map.1 hy'
    have hk4 : y.kind = 4 := e1
    have ea : y.a = x.a := mk_inj e2
    have eb : y.b = x.b := by
      have : y.item.host = ⟨y.b.toArray⟩ := by simp [It.item, hk4]
      rw [this] at e3
      exact mk_inj e3
    have := h3 y hy
    rw [show begB (textOf y) (mapTxt x) = true from (beg_pre y (mapPre x)).2 ((pre_map (hokM y hy) hname.1 hname.2).2 ⟨hk4, ea, eb⟩)] at this
    have hin : inB (L.map textOf) (textOf y) = true := by simpa using this
    rw [in_holds] at hin
    have hyl := (holds_mem hL.arrI.good ⟨y, hokM y hy, rfl⟩).1 hin
    obtain ⟨z, hz, e⟩ := List.mem_map.1 hyl
    rw [← e]
    have hz4 : z.kind = 4 := by have : z.item.kind = y.item.kind := by rw [e]
                                exact this.trans hk4
    have hza : z.a = x.a := by
      have : z.item.name = y.item.name := by rw [e]
      exact (mk_inj this).trans ea
    have hzb : z.b = x.b := by
      have : z.item.host = y.item.host := by rw [e]
      simp only [It.item, hz4, hk4, or_true, if_true] at this
      exact (mk_inj this).trans eb
    exact hmapL z hz hz4 hza hzb

end Go.Proofs.YtdlhgbhaeedbdabGreat
