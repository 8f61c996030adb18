/- The plan leads there. Plain mathematics. -/
import Derived.Test.YtigpohommoogeaaPu2
namespace Go.Proofs.Ytigpohommoogeaa
open Go.RowKit

theorem perm_of_mem {α : Type} {l m : List α} (hl : l.Nodup) (hm : m.Nodup) (h : ∀ z, z ∈ l ↔ z ∈ m) : l.Perm m := by
  induction l generalizing m with
  | nil =>
    cases m with
    | nil => exact List.Perm.refl _
    | cons a m => exact absurd ((h a).2 (by simp)) (by simp)
  | cons a l ih =>
    obtain ⟨s, t, rfl⟩ := List.append_of_mem ((h a).1 (by simp))
    have hm2 : (a :: (s ++ t)).Nodup := List.perm_middle.nodup_iff.1 hm
    rw [List.nodup_cons] at hl hm2
    refine (List.Perm.cons a (ih hl.2 hm2.2 fun z => ?_)).trans List.perm_middle.symm
    constructor
    · intro hz
      have := (h z).1 (by simp [hz])
      simp only [List.mem_append, List.mem_cons] at this ⊢
      rcases this with h1 | h1 | h1
      · exact Or.inl h1
      · exact absurd hz (h1 ▸ hl.1)
      · exact Or.inr h1
    · intro hz
      have := (h z).2 (by simp only [List.mem_append, List.mem_cons] at hz ⊢; rcases hz with h1 | h1 <;> simp [h1])
      rcases List.mem_cons.1 this with h1 | h1
      · exact absurd hz (h1 ▸ hm2.1)
      · exact h1

theorem dist_nodup {l : List Item} (h : Dist l) : l.Nodup := by
  unfold List.Nodup
  refine List.Pairwise.imp ?_ h
  intro a b hs e
  subst e
  exact hs (sameK_refl _)

def downs (D : List Item) : List (Bool × Item) := D.map fun x => (false, x)
def adds (D : List Item) : List (Bool × Item) := D.map fun x => (true, x)

theorem down_walk {D c : List Item} (hc : ∀ x ∈ c, Good x) (hD : ∀ x ∈ D, x ∈ c) (hn : D.Nodup) (hs : ∀ p x r, D = p ++ x :: r → ∀ y ∈ c, ∀ q ∈ namesOf y, keyIs q x = true → y ∈ p) :
    ∃ m, wlk c (stTxts (downs D)) = some m ∧ m.Sublist c ∧ ∀ z, z ∈ m ↔ z ∈ c ∧ z ∉ D := by
  induction D generalizing c with
  | nil => exact ⟨c, rfl, List.Sublist.refl _, fun z => by simp⟩
  | cons x D ih =>
    have hx := hD x (by simp)
    have hg := hc x hx
    rw [List.nodup_cons] at hn
    have hdo : doB false c x = true := by
      show goB c x = true
      rw [goB_iff hc hg]
      exact ⟨hx, fun y hy q hq hk => by have := hs [] x D rfl y hy q hq hk; simp at this⟩
    have hmw := fun z => mem_without (z := z) hc hg
    obtain ⟨m, h1, h2, h3⟩ := ih (c := without c x) (fun z hz => hc z ((hmw z).1 hz).1) (fun z hz => (hmw z).2 ⟨hD z (by simp [hz]), fun e => hn.1 (e ▸ hz)⟩) hn.2
      (fun p x' r e y hy q hq hk => by
        have hy' := (hmw y).1 hy
        have := hs (x :: p) x' r (by rw [e]; rfl) y hy'.1 q hq hk
        rcases List.mem_cons.1 this with h | h
        · exact absurd h hy'.2
        · exact h)
    refine ⟨m, ?_, h2.trans List.filter_sublist, fun z => ?_⟩
    · simp only [stTxts, downs, List.map_cons, wlk]
      rw [step1_txt hg, hdo]
      exact h1
    · rw [h3 z, hmw z, List.mem_cons]
      constructor
      · rintro ⟨⟨a, b⟩, d⟩; exact ⟨a, fun h => h.elim b d⟩
      · rintro ⟨a, b⟩; exact ⟨⟨a, fun h => b (Or.inl h)⟩, fun h => b (Or.inr h)⟩

theorem up_walk {U c : List Item} (hU : ∀ x ∈ U, Good x) (hf : Fits (c ++ U)) (hd : Dist (c ++ U)) (hs : ∀ p x r, U = p ++ x :: r → ∀ k ∈ namesOf x, ∃ z ∈ c ++ p, keyIs k z = true) :
    wlk c (stTxts (adds U)) = some (c ++ U) := by
  induction U generalizing c with
  | nil => simp [stTxts, adds, wlk]
  | cons x U ih =>
    have hg := hU x (by simp)
    obtain ⟨f1, f2⟩ := hf
    have e : c ++ x :: U = (c ++ [x]) ++ U := by simp
    rw [sizeI_append, sizeI_cons] at f2
    have hdo : doB true c x = true := by
      show (roomB c x && freeB c x) = true
      have hr : roomB c x = true := by simp only [roomB, Bool.and_eq_true, decide_eq_true_eq]; simp at f1; omega
      rw [hr, Bool.true_and, freeB_iff]
      refine ⟨fun z hz hk => ?_, fun k hk => by simpa using hs [] x U rfl k hk⟩
      unfold Dist at hd
      rw [List.pairwise_append] at hd
      exact hd.2.2 z hz x (by simp) hk
    simp only [stTxts, adds, List.map_cons, wlk]
    rw [step1_txt hg, hdo, e]
    exact ih (c := c ++ [x]) (fun z hz => hU z (by simp [hz])) ⟨by rw [← e]; exact f1, by rw [← e, sizeI_append, sizeI_cons]; exact f2⟩ (by rw [← e]; exact hd)
      (fun p x' r e' k hk => by
        obtain ⟨z, hz, hk'⟩ := hs (x :: p) x' r (by rw [e']; rfl) k hk
        exact ⟨z, by simpa using hz, hk'⟩)

/-- Where an item stands among the steps that take out. -/
theorem mem_dn_of {g : List Item} {y : Item} (hy : y ∈ g) (h4 : y.kind ≤ 4) {c : Nat} (h : 4 - (c : Int) < (y.kind : Int)) : (false, y) ∈ dn g c := by
  induction c with
  | zero => omega
  | succ c ih =>
    simp only [dn, List.mem_append]
    by_cases e : 4 - (c : Int) < (y.kind : Int)
    · exact Or.inl (ih e)
    · refine Or.inr (List.mem_map.2 ⟨y, List.mem_filter.2 ⟨hy, decide_eq_true ?_⟩, rfl⟩)
      omega

theorem dn_kind {g : List Item} {c : Nat} {p : Bool × Item} (h : p ∈ dn g c) : 4 - (c : Int) < (p.2.kind : Int) := by
  induction c with
  | zero => simp [dn] at h
  | succ c ih =>
    rcases List.mem_append.1 h with h | h
    · have := ih h; omega
    · have := (mem_outs h).2.2; omega

theorem dn_order {g : List Item} (hk : ∀ x ∈ g, x.kind ≤ 4) {c : Nat} {P R : List (Bool × Item)} {p : Bool × Item} (e : dn g c = P ++ p :: R) {y : Item} (hy : y ∈ g) (hlt : p.2.kind < y.kind) : (false, y) ∈ P := by
  induction c generalizing P R with
  | zero => simp [dn] at e
  | succ c ih =>
    simp only [dn] at e
    rcases List.append_eq_append_iff.1 e with ⟨a, h1, h2⟩ | ⟨a, h1, h2⟩
    · have hp : p ∈ outs g c := by rw [h2]; simp
      have hpk := (mem_outs hp).2.2
      rw [h1]
      exact List.mem_append.2 (Or.inl (mem_dn_of hy (hk y hy) (by omega)))
    · cases a with
      | nil =>
        have hp : p ∈ outs g c := by rw [List.nil_append] at h2; rw [← h2]; simp
        have hpk := (mem_outs hp).2.2
        rw [List.append_nil] at h1
        rw [← h1]
        exact mem_dn_of hy (hk y hy) (by omega)
      | cons b a =>
        simp only [List.cons_append, List.cons.injEq] at h2
        rw [← h2.1] at h1
        exact ih h1

theorem outs_nodup {g : List Item} (h : g.Nodup) (c : Nat) : (outs g c).Nodup := by
  unfold outs
  unfold List.Nodup
  rw [List.pairwise_map]
  exact (h.filter _).imp fun hne e => hne (by simpa using e)

theorem dn_nodup {g : List Item} (h : g.Nodup) (c : Nat) : (dn g c).Nodup := by
  induction c with
  | zero => simp [dn]
  | succ c ih =>
    simp only [dn]
    rw [List.nodup_append]
    refine ⟨ih, outs_nodup h c, fun p hp q hq e => ?_⟩
    subst e
    have h1 := dn_kind hp
    have h2 := (mem_outs hq).2.2
    omega

theorem dn_downs (g : List Item) (c : Nat) : dn g c = downs ((dn g c).map Prod.snd) := by
  unfold downs
  rw [List.map_map]
  conv => lhs; rw [← List.map_id (dn g c)]
  refine List.map_congr_left fun p hp => ?_
  obtain ⟨b, x⟩ := p
  have := (mem_dn hp).1
  simp only at this
  simp [this]

theorem ups_adds (st m : List Item) : ups st m = adds (m.filter fun x => !(holdsB st x.text)) := rfl

theorem stTxts_append (a b : List (Bool × Item)) : stTxts (a ++ b) = stTxts a ++ stTxts b := by simp [stTxts]

/-- The split: nothing is lost, and what stays is wanted, with all that it names. -/
theorem spl_foldl (t l : List Item) (p : List Item × List Item) (h : ∀ x ∈ p.1, holdsB t x.text = true ∧ ∀ k ∈ namesOf x, ∃ z ∈ p.1, keyIs k z = true) :
    ((l.foldl (spl1 t) p).1 ++ (l.foldl (spl1 t) p).2).Perm (p.1 ++ p.2 ++ l) ∧ ∀ x ∈ (l.foldl (spl1 t) p).1, holdsB t x.text = true ∧ ∀ k ∈ namesOf x, ∃ z ∈ (l.foldl (spl1 t) p).1, keyIs k z = true := by
  induction l generalizing p with
  | nil => exact ⟨by simp, h⟩
  | cons a l ih =>
    have hnew : ∀ x ∈ (spl1 t p a).1, holdsB t x.text = true ∧ ∀ k ∈ namesOf x, ∃ z ∈ (spl1 t p a).1, keyIs k z = true := by
      unfold spl1
      split
      · rename_i hc
        rw [Bool.and_eq_true, List.all_eq_true] at hc
        intro x hx
        rcases List.mem_append.1 hx with hx | hx
        · obtain ⟨h1, h2⟩ := h x hx
          exact ⟨h1, fun k hk => by obtain ⟨z, hz, e⟩ := h2 k hk; exact ⟨z, by simp [hz], e⟩⟩
        · simp at hx
          subst hx
          exact ⟨hc.1, fun k hk => by obtain ⟨z, hz, e⟩ := List.any_eq_true.1 (hc.2 k hk); exact ⟨z, by simp [hz], e⟩⟩
      · exact h
    obtain ⟨h1, h2⟩ := ih (spl1 t p a) hnew
    refine ⟨h1.trans ?_, h2⟩
    unfold spl1
    split
    · show (p.1 ++ [a] ++ p.2 ++ l).Perm (p.1 ++ p.2 ++ a :: l)
      have : (p.1 ++ [a] ++ p.2 ++ l).Perm (p.1 ++ (p.2 ++ [a]) ++ l) := by
        refine List.Perm.append_right l ?_
        rw [List.append_assoc]
        exact List.Perm.append_left _ List.perm_append_comm
      refine this.trans ?_
      simp
    · simp

theorem spl_perm (t l : List Item) : ((spl t l).1 ++ (spl t l).2).Perm l := by
  have h := (spl_foldl t l ([], []) (by simp)).1
  simp only [List.nil_append] at h
  exact h
theorem spl_stay (t l : List Item) : ∀ x ∈ (spl t l).1, holdsB t x.text = true ∧ ∀ k ∈ namesOf x, ∃ z ∈ (spl t l).1, keyIs k z = true := (spl_foldl t l ([], []) (by simp)).2

theorem sublist_good {l m : List Item} (h : ∀ x ∈ l, Good x) (hs : ∀ x ∈ m, x ∈ l) : ∀ x ∈ m, Good x := fun x hx => h x (hs x hx)

set_option maxHeartbeats 400000 in
/-- The plan leads from the one arrangement to the other. -/
theorem plan_walk {l t : List Item} (hl : ArrI l) (ht : ArrI t) : (∀ p ∈ mk l t, Good p.2) ∧ ∃ m, wlk l (stTxts (mk l t)) = some m ∧ m.Perm t := by
  have hls : (sortTo l l.length).Perm l := by rw [sortTo_all]; exact sorted_perm l
  have hts : (sortTo t t.length).Perm t := by rw [sortTo_all]; exact sorted_perm t
  have htso : (sortTo t t.length).Pairwise LtK := by rw [sortTo_all]; exact sorted_sorted t ht.dist
  have hal := hl.perm hls.symm
  have hat := ht.perm hts.symm
  refine ⟨fun p hp => (mem_mk hp).elim (hl.good _) (ht.good _), ?_⟩
  unfold mk
  generalize sortTo l l.length = ls at *
  generalize sortTo t t.length = ts at *
  have hsp := spl_perm t ls
  have hst := spl_stay t ls
  generalize spl t ls = P at *
  obtain ⟨st, gn⟩ := P
  simp only at hsp hst ⊢
  have hdsg : Dist (st ++ gn) := hal.dist.perm hsp.symm (fun h k => h k.symm)
  have hmem : ∀ x, x ∈ l ↔ x ∈ st ∨ x ∈ gn := fun x => by rw [← hls.mem_iff, ← hsp.mem_iff, List.mem_append]
  have hgst : ∀ x ∈ st, Good x := fun x hx => hl.good x ((hmem x).2 (Or.inl hx))
  have hggn : ∀ x ∈ gn, Good x := fun x hx => hl.good x ((hmem x).2 (Or.inr hx))
  have hstt : ∀ x ∈ st, x ∈ t := fun x hx => (holds_mem ht.good (hgst x hx)).1 (hst x hx).1
  have hdis : ∀ x ∈ st, x ∉ gn := by
    intro x hx hx2
    unfold Dist at hdsg
    rw [List.pairwise_append] at hdsg
    exact hdsg.2.2 x hx x hx2 (sameK_refl x)
  have hnd := dist_nodup hdsg
  rw [List.nodup_append] at hnd
  -- what names what goes goes too
  have hup : ∀ x ∈ gn, ∀ y ∈ l, ∀ q ∈ namesOf y, keyIs q x = true → y ∈ gn := by
    intro x hx y hy q hq hk
    rcases (hmem y).1 hy with h | h
    · obtain ⟨z, hz, hkz⟩ := (hst y h).2 q hq
      have : z = x := dist_eq hdsg (by simp [hz]) (by simp [hx]) (keyIs_same hkz hk)
      exact absurd hx (this ▸ hdis z hz)
    · exact h
  have hk4 : ∀ x ∈ gn, x.kind ≤ 4 := fun x hx => (hggn x hx).kind
  have hD : ∀ x, x ∈ (dn gn 5).map Prod.snd ↔ x ∈ gn := by
    intro x
    constructor
    · intro h
      obtain ⟨p, hp, rfl⟩ := List.mem_map.1 h
      exact (mem_dn hp).2
    · intro h
      exact List.mem_map.2 ⟨(false, x), mem_dn_of h (hk4 x h) (by omega), rfl⟩
  have hDn : ((dn gn 5).map Prod.snd).Nodup := by
    unfold List.Nodup
    rw [List.pairwise_map]
    refine ((dn_nodup hnd.2.1 5).imp_of_mem ?_)
    intro p q hp hq hne e
    exact hne (Prod.ext ((mem_dn hp).1.trans (mem_dn hq).1.symm) e)
  obtain ⟨m, hm1, hm2, hm3⟩ := down_walk (D := (dn gn 5).map Prod.snd) (c := l) hl.good (fun x hx => (hmem x).2 (Or.inr ((hD x).1 hx))) hDn (by
    intro p x r e y hy q hq hk
    have hxg : x ∈ gn := (hD x).1 (by rw [e]; simp)
    have hyg := hup x hxg y hy q hq hk
    have hlt : x.kind < y.kind := by
      have h1 := names_kind hq
      have h2 := (keyIs_iff'.1 hk).1
      omega
    obtain ⟨P, R, he, hp, hr⟩ := List.map_eq_append_iff.1 e
    cases R with
    | nil => simp at hr
    | cons b R =>
      simp only [List.map_cons, List.cons.injEq] at hr
      have := dn_order hk4 he hyg (by rw [hr.1]; exact hlt)
      rw [← hp]
      exact List.mem_map.2 ⟨_, this, rfl⟩)
  rw [← dn_downs] at hm1
  have hmst : m.Perm st := by
    refine perm_of_mem ((dist_nodup hl.dist).sublist hm2) hnd.1 fun z => ?_
    rw [hm3 z, hD z, hmem z]
    constructor
    · rintro ⟨h1 | h1, h2⟩
      · exact h1
      · exact absurd h1 h2
    · intro h; exact ⟨Or.inl h, hdis z h⟩
  obtain ⟨U, hU⟩ : ∃ U, U = ts.filter fun x => !(holdsB st x.text) := ⟨_, rfl⟩
  have hUm : ∀ x, x ∈ U ↔ x ∈ t ∧ x ∉ st := by
    intro x
    rw [hU, List.mem_filter, hts.mem_iff]
    constructor
    · rintro ⟨h1, h2⟩
      exact ⟨h1, fun h => by rw [(holds_mem hgst (ht.good x h1)).2 h] at h2; simp at h2⟩
    · rintro ⟨h1, h2⟩
      refine ⟨h1, ?_⟩
      cases e : holdsB st x.text with
      | false => rfl
      | true => exact absurd ((holds_mem hgst (ht.good x h1)).1 e) h2
  have hUp : U.Pairwise LtK := by rw [hU]; exact htso.filter _
  have hUn : U.Nodup := by rw [hU]; exact (dist_nodup hat.dist).filter _
  have hfin : (m ++ U).Perm t := by
    refine (hmst.append_right U).trans ?_
    refine perm_of_mem ?_ (dist_nodup ht.dist) fun z => ?_
    · rw [List.nodup_append]
      exact ⟨hnd.1, hUn, fun x hx y hy e => ((hUm y).1 hy).2 (e ▸ hx)⟩
    · rw [List.mem_append, hUm z]
      constructor
      · rintro (h | h)
        · exact hstt z h
        · exact h.1
      · intro h
        by_cases h2 : z ∈ st
        · exact Or.inl h2
        · exact Or.inr ⟨h, h2⟩
  have haf := ht.perm hfin.symm
  refine ⟨m ++ U, ?_, hfin⟩
  rw [stTxts_append, wlk_append, hm1, ups_adds, ← hU]
  refine up_walk (fun x hx => ht.good x ((hUm x).1 hx).1) haf.fits haf.dist ?_
  intro p x r e k hk
  have hxU : x ∈ U := by rw [e]; simp
  obtain ⟨z, hz, hkz⟩ := ht.refs x ((hUm x).1 hxU).1 k hk
  refine ⟨z, ?_, hkz⟩
  rw [List.mem_append]
  by_cases hzs : z ∈ st
  · exact Or.inl (hmst.mem_iff.2 hzs)
  · right
    have hzU := (hUm z).2 ⟨hz, hzs⟩
    have hlt : z.kind < x.kind := by
      have h1 := names_kind hk
      have h2 := (keyIs_iff'.1 hkz).1
      omega
    rw [e] at hzU hUp
    rcases List.mem_append.1 hzU with h | h
    · exact h
    · rcases List.mem_cons.1 h with h | h
      · subst h; omega
      · rw [List.pairwise_append, List.pairwise_cons] at hUp
        exact absurd (hUp.2.1.1 z h) (fun h3 => LtK.asymm h3 (Or.inl hlt))

end Go.Proofs.Ytigpohommoogeaa
