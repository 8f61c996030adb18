/- Steps keep arrangements, and go back. Plain mathematics. -/
import Derived.Test.YtigpohommoogeaaPu1
namespace Go.Proofs.Ytigpohommoogeaa
open Go.RowKit

theorem names_kind {x : Item} {k : Key} (h : k ∈ namesOf x) : k.kind < (x.kind : Int) := by
  unfold namesOf at h
  split at h
  · rename_i e; simp at h; rcases h with rfl | rfl <;> simp [e]
  · split at h
    · rename_i e; simp at h; subst h; simp [e]
    · split at h
      · rename_i e; simp at h; rcases h with rfl | rfl <;> simp [e]
      · simp at h

theorem keyIs_iff' {k : Key} {x : Item} : keyIs k x = true ↔ ((x.kind : Int) = k.kind ∧ x.name = k.name ∧ x.host = k.host ∧ x.number = k.number) := by simp [keyIs]

theorem keyIs_same {k : Key} {x y : Item} (hx : keyIs k x = true) (hy : keyIs k y = true) : sameK x y := by
  rw [keyIs_iff'] at hx hy
  exact ⟨Int.ofNat_inj.1 (hx.1.trans hy.1.symm), hx.2.1.trans hy.2.1.symm, hx.2.2.1.trans hy.2.2.1.symm, hx.2.2.2.trans hy.2.2.2.symm⟩

theorem sameKey_iff {q : Key} {y : Item} : sameKey q y.key = true ↔ keyIs q y = true := by
  rw [keyIs_iff']
  unfold sameKey Item.key
  rw [decide_eq_true_iff]
  constructor
  · rintro ⟨a, b, c, d⟩; exact ⟨a.symm, b.symm, c.symm, d.symm⟩
  · rintro ⟨a, b, c, d⟩; exact ⟨a.symm, b.symm, c.symm, d.symm⟩

theorem named_iff {l : List Item} {y : Item} : namedB l y.key = true ↔ ∃ x ∈ l, ∃ q ∈ namesOf x, keyIs q y = true := by
  unfold namedB
  rw [List.any_eq_true]
  constructor
  · rintro ⟨x, hx, h⟩
    rw [List.any_eq_true] at h
    obtain ⟨q, hq, h⟩ := h
    exact ⟨x, hx, q, hq, sameKey_iff.1 h⟩
  · rintro ⟨x, hx, q, hq, h⟩
    exact ⟨x, hx, by rw [List.any_eq_true]; exact ⟨q, hq, sameKey_iff.2 h⟩⟩

theorem sameK_refl (x : Item) : sameK x x := ⟨rfl, rfl, rfl, rfl⟩

theorem dist_eq {l : List Item} (h : Dist l) {x y : Item} (hx : x ∈ l) (hy : y ∈ l) (hs : sameK x y) : x = y := by
  induction l with
  | nil => simp at hx
  | cons a l ih =>
    unfold Dist at h ih
    rw [List.pairwise_cons] at h
    rcases List.mem_cons.1 hx with ex | hx'
    · rcases List.mem_cons.1 hy with ey | hy'
      · rw [ex, ey]
      · rw [ex] at hs; exact absurd hs (h.1 _ hy')
    · rcases List.mem_cons.1 hy with ey | hy'
      · rw [ey] at hs; exact absurd hs.symm (h.1 _ hx')
      · exact ih h.2 hx' hy'

theorem holds_mem {l : List Item} (hl : ∀ x ∈ l, Good x) {y : Item} (hy : Good y) : holdsB l y.text = true ↔ y ∈ l := by
  unfold holdsB
  rw [List.any_eq_true]
  constructor
  · rintro ⟨x, hx, h⟩
    have : x = y := (hl x hx).inj hy (of_decide_eq_true h)
    exact this ▸ hx
  · intro h; exact ⟨y, h, by simp⟩

theorem mem_without {l : List Item} (hl : ∀ x ∈ l, Good x) {y z : Item} (hy : Good y) : z ∈ without l y ↔ z ∈ l ∧ z ≠ y := by
  unfold without
  rw [List.mem_filter]
  constructor
  · rintro ⟨h1, h2⟩; exact ⟨h1, fun e => by subst e; simp at h2⟩
  · rintro ⟨h1, h2⟩; exact ⟨h1, decide_eq_true fun e => h2 ((hl z h1).inj hy e)⟩

theorem without_none {l : List Item} (hl : ∀ x ∈ l, Good x) {y : Item} (hy : Good y) (h : y ∉ l) : without l y = l := by
  unfold without
  rw [List.filter_eq_self]
  intro x hx
  exact decide_eq_true fun e => h ((hl x hx).inj hy e ▸ hx)

theorem without_perm {l : List Item} (hl : ∀ x ∈ l, Good x) (hd : Dist l) {y : Item} (hy : y ∈ l) : l.Perm (y :: without l y) := by
  have hg := hl y hy
  induction l with
  | nil => simp at hy
  | cons a l ih =>
    unfold Dist at hd ih
    rw [List.pairwise_cons] at hd
    by_cases e : a = y
    · subst e
      have hn : a ∉ l := fun h => hd.1 a h (sameK_refl a)
      have : without (a :: l) a = without l a := by simp [without]
      rw [this, without_none (fun x hx => hl x (by simp [hx])) hg hn]
    · have hy' : y ∈ l := by simpa [Ne.symm e] using hy
      have ht : ¬ a.text = y.text := fun h => e ((hl a (by simp)).inj hg h)
      have : without (a :: l) y = a :: without l y := by simp [without, ht]
      rw [this]
      exact ((ih (fun x hx => hl x (by simp [hx])) hd.2 hy').cons a).trans (List.Perm.swap _ _ _)

theorem freeB_iff {l : List Item} {y : Item} : freeB l y = true ↔ (∀ x ∈ l, ¬ sameK x y) ∧ ∀ k ∈ namesOf y, ∃ x ∈ l, keyIs k x = true := by
  unfold freeB
  rw [Bool.and_eq_true, Bool.not_eq_true', List.any_eq_false, List.all_eq_true]
  constructor
  · rintro ⟨h1, h2⟩
    exact ⟨fun x hx hs => h1 x hx ((keyIs_iff _ _).2 hs), fun k hk => List.any_eq_true.1 (h2 k hk)⟩
  · rintro ⟨h1, h2⟩
    exact ⟨fun x hx hk => h1 x hx ((keyIs_iff _ _).1 hk), fun k hk => List.any_eq_true.2 (h2 k hk)⟩

theorem goB_iff {l : List Item} (hl : ∀ x ∈ l, Good x) {y : Item} (hy : Good y) : goB l y = true ↔ y ∈ l ∧ ∀ x ∈ l, ∀ q ∈ namesOf x, ¬ keyIs q y = true := by
  unfold goB
  rw [Bool.and_eq_true, Bool.not_eq_true', holds_mem hl hy, ← Bool.not_eq_true, named_iff]
  constructor
  · rintro ⟨h1, h2⟩; exact ⟨h1, fun x hx q hq hk => h2 ⟨x, hx, q, hq, hk⟩⟩
  · rintro ⟨h1, h2⟩; exact ⟨h1, fun ⟨x, hx, q, hq, hk⟩ => h2 x hx q hq hk⟩

theorem sizeI_one (y : Item) : sizeI [y] = y.text.size := by simp [sizeI]
theorem sizeI_cons (y : Item) (l : List Item) : sizeI (y :: l) = y.text.size + sizeI l := by simp [sizeI]

theorem add_arr {l : List Item} (h : ArrI l) {y : Item} (hy : Good y) (hd : doB true l y = true) : ArrI (l ++ [y]) := by
  have hrf : roomB l y = true ∧ freeB l y = true := by simpa [doB] using hd
  obtain ⟨r1, r2⟩ := roomB_iff hrf.1
  obtain ⟨f1, f2⟩ := freeB_iff.1 hrf.2
  refine ⟨?_, ⟨by simp; omega, by rw [sizeI_append, sizeI_one]; exact r2⟩, ?_, ?_⟩
  · intro x hx
    rcases List.mem_append.1 hx with hx | hx
    · exact h.good x hx
    · simp at hx; subst hx; exact hy
  · unfold Dist
    rw [List.pairwise_append]
    exact ⟨h.dist, by simp, fun x hx z hz => by simp at hz; subst hz; exact f1 x hx⟩
  · intro z hz k hk
    rcases List.mem_append.1 hz with hz | hz
    · obtain ⟨x, hx, e⟩ := h.refs z hz k hk; exact ⟨x, by simp [hx], e⟩
    · simp at hz; subst hz
      obtain ⟨x, hx, e⟩ := f2 k hk; exact ⟨x, by simp [hx], e⟩

theorem remove_arr {l : List Item} (h : ArrI l) {y : Item} (hy : Good y) (hd : doB false l y = true) : ArrI (without l y) := by
  obtain ⟨g1, g2⟩ := (goB_iff h.good hy).1 (by simpa [doB] using hd)
  refine ⟨fun x hx => h.good x ((mem_without h.good hy).1 hx).1, ⟨Nat.le_trans (without_len _ _) h.fits.1, Nat.le_trans (sizeI_without _ _) h.fits.2⟩, h.dist.filter _, ?_⟩
  intro z hz k hk
  have hz' := ((mem_without h.good hy).1 hz).1
  obtain ⟨x, hx, e⟩ := h.refs z hz' k hk
  exact ⟨x, (mem_without h.good hy).2 ⟨hx, fun e2 => by subst e2; exact g2 z hz' k hk e⟩, e⟩

theorem do_arr {l : List Item} (h : ArrI l) (b : Bool) {y : Item} (hy : Good y) (hd : doB b l y = true) : ArrI (doI b l y) := by
  cases b with
  | true => exact add_arr h hy hd
  | false => exact remove_arr h hy hd

theorem do_back {l : List Item} (h : ArrI l) (b : Bool) {y : Item} (hy : Good y) (hd : doB b l y = true) : doB (!b) (doI b l y) y = true ∧ (doI (!b) (doI b l y) y).Perm l := by
  cases b with
  | true =>
    have ha := add_arr h hy hd
    have hrf : roomB l y = true ∧ freeB l y = true := by simpa [doB] using hd
    obtain ⟨f1, f2⟩ := freeB_iff.1 hrf.2
    have hn : y ∉ l := fun hm => f1 y hm (sameK_refl y)
    refine ⟨?_, ?_⟩
    · show goB (l ++ [y]) y = true
      rw [goB_iff ha.good hy]
      refine ⟨by simp, fun x hx q hq hk => ?_⟩
      rcases List.mem_append.1 hx with hx | hx
      · obtain ⟨z, hz, e⟩ := h.refs x hx q hq
        exact f1 z hz (keyIs_same e hk)
      · simp at hx; subst hx
        have h1 := names_kind hq
        have h2 := (keyIs_iff'.1 hk).1
        omega
    · show (without (l ++ [y]) y).Perm l
      have : without (l ++ [y]) y = without l y := by simp [without]
      rw [this, without_none h.good hy hn]
  | false =>
    obtain ⟨g1, g2⟩ := (goB_iff h.good hy).1 (by simpa [doB] using hd)
    have hp := without_perm h.good h.dist g1
    have hlen := hp.length_eq
    have hsz := sizeI_perm hp
    rw [sizeI_cons] at hsz
    simp only [List.length_cons] at hlen
    have hf := h.fits
    unfold Fits at hf
    refine ⟨?_, ?_⟩
    · show (roomB (without l y) y && freeB (without l y) y) = true
      have hr : roomB (without l y) y = true := by simp only [roomB, Bool.and_eq_true, decide_eq_true_eq]; omega
      rw [hr, Bool.true_and, freeB_iff]
      refine ⟨fun x hx hs => ?_, fun k hk => ?_⟩
      · have := (mem_without h.good hy).1 hx
        exact this.2 (dist_eq h.dist this.1 g1 hs)
      · obtain ⟨x, hx, e⟩ := h.refs y g1 k hk
        refine ⟨x, (mem_without h.good hy).2 ⟨hx, fun e2 => ?_⟩, e⟩
        subst e2
        have h1 := names_kind hk
        have h2 := (keyIs_iff'.1 e).1
        omega
    · show (without l y ++ [y]).Perm l
      exact List.perm_append_comm.trans hp.symm

/-- The opposites of steps. -/
def flips (S : List (Bool × Item)) : List (Bool × Item) := S.map fun p => (!p.1, p.2)

theorem wlk_arr {S : List (Bool × Item)} (hS : ∀ p ∈ S, Good p.2) {l m : List Item} (h : ArrI l) (hw : wlk l (stTxts S) = some m) : ArrI m := by
  induction S generalizing l with
  | nil => simp only [stTxts, List.map_nil, wlk, Option.some.injEq] at hw; subst hw; exact h
  | cons p S ih =>
    simp only [stTxts, List.map_cons, wlk] at hw
    rw [step1_txt (hS p (by simp))] at hw
    cases hd : doB p.1 l p.2 with
    | false => rw [hd] at hw; simp at hw
    | true =>
      rw [hd] at hw
      exact ih (fun q hq => hS q (by simp [hq])) (do_arr h p.1 (hS p (by simp)) hd) hw

theorem wlk_back {S : List (Bool × Item)} (hS : ∀ p ∈ S, Good p.2) {l m : List Item} (h : ArrI l) (hw : wlk l (stTxts S) = some m) : ∃ c, wlk m (stTxts (flips S.reverse)) = some c ∧ c.Perm l := by
  induction S generalizing l with
  | nil => simp only [stTxts, List.map_nil, wlk, Option.some.injEq] at hw; subst hw; exact ⟨l, rfl, List.Perm.refl _⟩
  | cons p S ih =>
    simp only [stTxts, List.map_cons, wlk] at hw
    have hg := hS p (by simp)
    rw [step1_txt hg] at hw
    cases hd : doB p.1 l p.2 with
    | false => rw [hd] at hw; simp at hw
    | true =>
      rw [hd] at hw
      simp only [if_true] at hw
      obtain ⟨c, hc, hp⟩ := ih (fun q hq => hS q (by simp [hq])) (do_arr h p.1 hg hd) hw
      obtain ⟨b1, b2⟩ := do_back h p.1 hg hd
      rw [doB_perm hp.symm] at b1
      refine ⟨doI (!p.1) c p.2, ?_, (doI_perm hp (!p.1) p.2).trans b2⟩
      have e : stTxts (flips (p :: S).reverse) = stTxts (flips S.reverse) ++ [stTxt (!p.1) p.2.text] := by simp [stTxts, flips]
      rw [e, wlk_snoc hc, step1_txt hg, b1]
      rfl

end Go.Proofs.Ytigpohommoogeaa
