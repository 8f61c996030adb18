/- Rk1, PureC, Rk2, Rk3. -/
import Derived.Test.YtgbkkolohloacabM9
import Derived.Test.YtgbkkolohloacabM14
import Derived.Deep.RegionWith

/- A rack in memory; 'Open', 'Config'. -/
namespace Go.Proofs.Ytgbkkolohloacab
open Go.RowKit

/-- What a call on a rack may change. -/
def KT (t : TypeId) : Prop := AT t ∨ t = 94 ∨ t = 71

/-- The steps that are left, in block g. -/
def LeftAt (w : World) (g : Nat) (v : Value) (l : List (Bool × Item)) : Prop :=
  (l = [] ∧ ∃ a cap, v = .slice a 0 cap) ∨ (0 < l.length ∧ ∃ o cap, v = .slice (some ⟨g, o, none⟩) l.length cap ∧ l.length ≤ cap ∧ (∃ cs fr, w.heap[g]? = some (Obj.cells cs 71 fr)) ∧ ∀ i (h : i < l.length), StAt w g (o + i * 8) l[i])

/-- A rack that runs, in block r, on the device in block b: what is there, what the plan has done, what is left. -/
structure RackAt (w : World) (r b : Nat) (l : List Item) (did left : List (Bool × Item)) : Prop where
  ty : ∃ cs fr, w.heap[r]? = some (Obj.cells cs 94 fr)
  c0 : w.cell? ⟨r, 0, none⟩ = some (.pointer (some ⟨b, 0, none⟩))
  c1 : ∃ v, w.cell? ⟨r, 1, none⟩ = some v ∧ w.ownsRow (b + 1) 69 7 v l.length (allCells l)
  c2 : ∃ g v2 v3, b ≤ g ∧ w.cell? ⟨r, 2, none⟩ = some v2 ∧ w.cell? ⟨r, 3, none⟩ = some v3 ∧ w.ownsRow (g + 1) 71 8 v2 did.length (stsCells did) ∧ LeftAt w g v3 left ∧ (did = [] → v2 = .slice none 0 0)
  c4 : w.cell? ⟨r, 4, none⟩ = some (.bool false)
  fz : ∀ o, w.frozen? ⟨r, o, none⟩ = false
  lt : r < w.heap.size
  br : b < r

/-- A rack that has met that the power has gone. -/
structure DeadAt (w : World) (r : Nat) : Prop where
  ty : ∃ cs fr, w.heap[r]? = some (Obj.cells cs 94 fr)
  c4 : w.cell? ⟨r, 4, none⟩ = some (.bool true)
  lt : r < w.heap.size

theorem StAt.of_cells {w w' : World} {g o : Nat} {p : Bool × Item} (h : StAt w g o p) (hc : ∀ o, w'.cell? ⟨g, o, none⟩ = w.cell? ⟨g, o, none⟩) : StAt w' g o p :=
  ⟨(hc _).trans h.c0, (hc _).trans h.c1, (hc _).trans h.c2, (hc _).trans h.c3, (hc _).trans h.c4, (hc _).trans h.c5, (hc _).trans h.c6, (hc _).trans h.c7⟩

theorem LeftAt.block {w w' : World} {g : Nat} {v : Value} {l : List (Bool × Item)} (h : LeftAt w g v l) (hb : (∃ cs fr, w.heap[g]? = some (Obj.cells cs 71 fr)) → w'.heap[g]? = w.heap[g]?) : LeftAt w' g v l := by
  rcases h with h | ⟨h0, o, cap, rfl, hc, hty, hs⟩
  · exact .inl h
  · have he := hb hty
    exact .inr ⟨h0, o, cap, rfl, hc, by rw [he]; exact hty, fun i hi => (hs i hi).of_cells fun o => World.cell?_of_block he⟩

theorem RackAt.keep {T : TypeId → Prop} {w w' : World} {r b : Nat} {l : List Item} {did left : List (Bool × Item)} (h : RackAt w r b l did left) (hk : TK T w w') (h1 : ¬ T 94) (h2 : ¬ T 69) (h3 : ¬ T 71) : RackAt w' r b l did left := by
  obtain ⟨⟨cs, fr, hty⟩, c0, ⟨v, c1, hrow⟩, ⟨g, v2, v3, hg, c2, c3, hdid, hleft, hn⟩, c4, fz, lt, br⟩ := h
  have hb := hk.block r cs _ fr hty h1
  have hc : ∀ o, w'.cell? ⟨r, o, none⟩ = w.cell? ⟨r, o, none⟩ := fun o => World.cell?_of_block hb
  have hf : ∀ o, w'.frozen? ⟨r, o, none⟩ = w.frozen? ⟨r, o, none⟩ := fun o => World.frozen?_of_block hb
  exact ⟨⟨cs, fr, hb.trans hty⟩, (hc _).trans c0, ⟨v, (hc _).trans c1, hk.row h2 hrow⟩, ⟨g, v2, v3, hg, (hc _).trans c2, (hc _).trans c3, hk.row h3 hdid, hleft.block (fun ⟨cs', fr', ht'⟩ => hk.block g cs' _ fr' ht' h3), hn⟩, (hc _).trans c4, fun o => (hf o).trans (fz o), Nat.lt_of_lt_of_le lt hk.size, br⟩

theorem RackAt.later {w w' : World} {r b : Nat} {l : List Item} {did left : List (Bool × Item)} (h : RackAt w r b l did left) (hk : Below w.heap.size w w') : RackAt w' r b l did left :=
  h.keep (T := fun _ => False) (TK.of_below hk) id id id

theorem DeadAt.keep {T : TypeId → Prop} {w w' : World} {r : Nat} (h : DeadAt w r) (hk : TK T w w') (h1 : ¬ T 94) : DeadAt w' r := by
  obtain ⟨⟨cs, fr, hty⟩, c4, lt⟩ := h
  have hb := hk.block r cs _ fr hty h1
  exact ⟨⟨cs, fr, hb.trans hty⟩, (World.cell?_of_block hb).trans c4, Nat.lt_of_lt_of_le lt hk.size⟩

theorem ApiAt.later {w w' : World} {b : Nat} {S E : Nat → UInt8} {U : List Lg} {l : Int} {d : Bool} (h : ApiAt w b S E U l d) (hk : Below w.heap.size w w') : ApiAt w' b S E U l d :=
  h.keep (T := fun _ => False) (TK.of_below hk) id id

/-- What Config tells. -/
def prI (l : List Item) : ByteArray := ⟨(catB (sortTo l l.length)).toArray⟩

set_option maxHeartbeats 400000 in
theorem printAt (v : Value) (l : List Item) (w : World) (hl : Fits l) (hv : ItemsAt w v l) :
    Calls Try.prog 32 #[v] w fun e w' => e = .returned (.string (prI l)) ∧ Below w.heap.size w w' := by
  rcases hv with ⟨rfl, rfl⟩ | ⟨g, cap, rfl, _, hit⟩
  · exact aprint_nil w
  · exact aprint_in g cap l w hl.1 (fun x hx => hl.text x (mem_sortTo hx)) hit

set_option maxRecDepth 100000 in
set_option maxHeartbeats 400000 in
theorem config_any (r b : Nat) (l : List Item) (did left : List (Bool × Item)) (w : World) (hl : Fits l) (h : RackAt w r b l did left) :
    Calls Try.prog 33 #[.pointer (some ⟨r, 0, none⟩)] w fun e w' => e = .returned (.tuple #[.string (prI l), .int .i64 0]) ∧ Below w.heap.size w w' := by
  obtain ⟨v, c1, hrow⟩ := h.c1
  have c4 := h.c4
  have HP := hide (printAt v l w hl (items_of_owns hrow))
  clear hrow h
  go_enter Try.func33, Try.ntmps33
  go_wp2_with fail
  refine (unhide HP).mono ?_
  rintro e w1 ⟨rfl, hb1⟩
  go_wp2_with fail
  go_ret2
  exact ⟨rfl, hb1⟩

set_option maxRecDepth 100000 in
set_option maxHeartbeats 400000 in
theorem config_dead (r : Nat) (w : World) (h : DeadAt w r) :
    Calls Try.prog 33 #[.pointer (some ⟨r, 0, none⟩)] w fun e w' => e = .returned (.tuple #[.string ⟨#[]⟩, .int .i64 7]) ∧ w' = w := by
  have c4 := h.c4
  clear h
  go_enter Try.func33, Try.ntmps33
  go_wp2_with fail
  go_ret2
  exact ⟨rfl, rfl⟩

def rackCells (b : Nat) (v : Value) : Array Value := #[.pointer (some ⟨b, 0, none⟩), v, .slice none 0 0, .slice none 0 0, .bool false]

theorem not_kt8 : ¬ KT 5 := by unfold KT AT; decide
theorem not_ktItem : ¬ KT 69 := by unfold KT AT; decide
theorem not_ktString : ¬ KT 9 := by unfold KT AT; decide
theorem not_atRack : ¬ AT 94 := by unfold AT; decide
theorem not_atItem : ¬ AT 69 := by unfold AT; decide
theorem not_atStep : ¬ AT 71 := by unfold AT; decide

theorem rack_new {w : World} {b : Nat} {v : Value} {l : List Item} (hb : b < w.heap.size) (h : w.ownsRow (b + 1) 69 7 v l.length (allCells l)) :
    RackAt (w.alloc (.cells (rackCells b v) 94)) w.heap.size b l [] [] := by
  unfold rackCells
  refine ⟨⟨_, (0, 0), heap_alloc_last w _⟩, by go_simp, ⟨v, by go_simp, h.alloc _⟩, ⟨b, .slice none 0 0, .slice none 0 0, Nat.le_refl _, by go_simp, by go_simp, World.ownsRow_nil _ _ _ _, .inl ⟨rfl, none, 0, rfl⟩, fun _ => rfl⟩, by go_simp, fun o => World.frozen?_alloc_at _ _ _ _ rfl, by simp, hb⟩

/-- What Open leaves: no rack, and the power has gone; or a rack. -/
def OpenEnd (b : Nat) (S E : Nat → UInt8) (U : List Lg) (l : Int) (d : Bool) (w : World) (e : Ending) (w' : World) : Prop :=
  ∃ l' d', ApiAt w' b S E U l' d' ∧ l' ≤ 9223372036854775807 ∧ Below b w w' ∧ TK KT w w' ∧ (l < 0 → l' = l ∧ d' = d) ∧
      ((d' = true ∧ e = .returned (.tuple #[.pointer none, .int .i64 7])) ∨ (d' = false ∧ d = false ∧ ∃ r, w.heap.size ≤ r ∧ e = .returned (.tuple #[.pointer (some ⟨r, 0, none⟩), .int .i64 0]) ∧ RackAt w' r b (itemsOf (held E)) [] []))

set_option maxRecDepth 100000 in
set_option maxHeartbeats 400000 in
theorem open_any (b : Nat) (S E : Nat → UInt8) (U : List Lg) (l : Int) (d : Bool) (w : World) (hl : l ≤ 9223372036854775807) (hE : (chk (held E)).1 = 0) (h : ApiAt w b S E U l d) :
    Calls Try.prog 35 #[.pointer (some ⟨b, 0, none⟩)] w fun e w' => OpenEnd b S E U l d w e w' := by
  have HL := hide (load_any b S E U l d w hl h)
  have hlt := h.lt
  have hsz : (held E).size ≤ maxLen := by have := chk_size hE; unfold maxLen; omega
  have HP := hide fun wx => parse_any (held E) wx hsz
  rw [hE] at HP
  clear h hE hsz
  go_enter Try.func35, Try.ntmps35
  go_wp2_with fail
  refine (unhide HL).mono ?_
  rintro e w1 ⟨l1, d1, ha1, hl1, hbe1, htk1, hlow1, hcase⟩
  have hs1 := hbe1.size
  have hkt1 : TK KT w w1 := htk1.mono fun t ht => .inl ht
  have hlt1 := ha1.lt
  rcases hcase with ⟨rfl, rfl⟩ | ⟨rfl, rfl, rfl⟩
  · clear HL HP
    go_wp2_with fail
    go_ret2
    exact ⟨_, _, ha1, hl1, hbe1, hkt1, hlow1, .inl ⟨rfl, rfl⟩⟩
  · generalize hT : held E = T at *
    have HT := hide hT
    clear hT
    go_wp2_with fail
    refine (unhide HP w1).mono ?_
    rintro e w2 ⟨v, rfl, hown, hb2⟩
    replace hown := hown trivial
    have hs2 := hb2.size
    have hown2 := owns_mono (base' := b + 1) hown (by omega)
    have ha2 := ha1.later hb2
    have hbe2 : Below b w w2 := hbe1.trans (hb2.mono (by omega))
    have hkt2 : TK KT w w2 := hkt1.trans (TK.of_below hb2)
    obtain ⟨va, vc, rfl⟩ := slice_of_owns hown2
    have Hr := hide (rack_new (b := b) (w := w2) (by omega) hown2)
    have hbn := below_new w2 (.cells (rackCells b (.slice va (itemsOf T).length vc)) 94)
    have ha3 := ha2.later hbn
    have hbe3 := hbe2.trans (hbn.mono (by omega : b ≤ _))
    have hkt3 : TK KT w _ := hkt2.trans (TK.of_below hbn)
    clear hown hown2 HL HP hbn ha2 hbe2 hkt2 hkt1 hbe1 htk1
    unfold rackCells at *
    go_wp2_with fail
    go_ret2
    exact ⟨_, _, ha3, hl1, hbe3, hkt3, fun h0 => ⟨(hlow1 h0).1, rfl⟩, .inr ⟨rfl, rfl, _, by omega, rfl, by rw [unhide HT]; exact unhide Hr⟩⟩

end Go.Proofs.Ytgbkkolohloacab

/- Steps done and undone on lists of items: plain mathematics. -/
namespace Go.Proofs.Ytgbkkolohloacab
open Go.RowKit

/-- Steps, done one behind the other. -/
def doAll (l : List Item) (S : List (Bool × Item)) : List Item := S.foldl (fun l p => doI p.1 l p.2) l

theorem doAll_snoc (l : List Item) (S : List (Bool × Item)) (p : Bool × Item) : doAll l (S ++ [p]) = doI p.1 (doAll l S) p.2 := by simp [doAll]

theorem wlk_doAll {S : List (Bool × Item)} (hS : ∀ p ∈ S, Good p.2) {l m : List Item} (hw : wlk l (stTxts S) = some m) : doAll l S = m := by
  induction S generalizing l with
  | nil => simpa [wlk, stTxts, doAll] using hw
  | cons p S ih =>
    simp only [stTxts, List.map_cons, wlk] at hw
    rw [step1_txt (hS p (by simp))] at hw
    cases hd : doB p.1 l p.2 with
    | false => rw [hd] at hw; simp at hw
    | true =>
      rw [hd] at hw
      exact ih (fun q hq => hS q (by simp [hq])) hw

theorem wlk_cut {S R : List (Bool × Item)} {l m : List Item} (hw : wlk l (stTxts (S ++ R)) = some m) : ∃ c, wlk l (stTxts S) = some c ∧ wlk c (stTxts R) = some m := by
  rw [stTxts_append, wlk_append] at hw
  cases h : wlk l (stTxts S) with
  | none => rw [h] at hw; simp at hw
  | some c => rw [h] at hw; exact ⟨c, rfl, hw⟩

theorem wlk_join {S R : List (Bool × Item)} {l c m : List Item} (h1 : wlk l (stTxts S) = some c) (h2 : wlk c (stTxts R) = some m) : wlk l (stTxts (S ++ R)) = some m := by
  rw [stTxts_append, wlk_append, h1]
  exact h2

/-- What is there when all but the first k of the steps have been undone. -/
def undoTo (l : List Item) (did : List (Bool × Item)) (k : Nat) : List Item := doAll l (flips (did.drop k).reverse)

theorem undoTo_all (l : List Item) (did : List (Bool × Item)) : undoTo l did did.length = l := by simp [undoTo, doAll, flips]

theorem undoTo_step (l : List Item) (did : List (Bool × Item)) (k : Nat) (hk : k < did.length) : undoTo l did k = doI (!did[k].1) (undoTo l did (k + 1)) did[k].2 := by
  unfold undoTo
  rw [List.drop_eq_getElem_cons hk, List.reverse_cons]
  have : flips ((did.drop (k + 1)).reverse ++ [did[k]]) = flips (did.drop (k + 1)).reverse ++ [(!did[k].1, did[k].2)] := by simp [flips]
  rw [this, doAll_snoc]

theorem flips_good {S : List (Bool × Item)} (hS : ∀ p ∈ S, Good p.2) : ∀ p ∈ flips S.reverse, Good p.2 := by
  intro p hp
  obtain ⟨q, hq, rfl⟩ := List.mem_map.1 hp
  exact hS q (List.mem_reverse.1 hq)

/-- Undone: back to what was there. -/
theorem undo_perm {l0 l : List Item} {did : List (Bool × Item)} (hA : ArrI l0) (hG : ∀ p ∈ did, Good p.2) (hw : wlk l0 (stTxts did) = some l) (k : Nat) :
    ∃ m, wlk l0 (stTxts (did.take k)) = some m ∧ (undoTo l did k).Perm m ∧ ArrI (undoTo l did k) := by
  have hw2 := hw
  rw [← List.take_append_drop k did] at hw2
  obtain ⟨m, h1, h2⟩ := wlk_cut hw2
  have hG1 : ∀ p ∈ did.take k, Good p.2 := fun p hp => hG p (List.mem_of_mem_take hp)
  have hG2 : ∀ p ∈ did.drop k, Good p.2 := fun p hp => hG p (List.mem_of_mem_drop hp)
  have hAm := wlk_arr hG1 hA h1
  obtain ⟨c, hc, hp⟩ := wlk_back hG2 hAm h2
  have e : undoTo l did k = c := wlk_doAll (flips_good hG2) hc
  exact ⟨m, h1, e ▸ hp, e ▸ hAm.perm hp.symm⟩

/-- A plan hangs on the items alone, not on their order. -/
theorem mk_perm {l m t : List Item} (hl : ArrI l) (hp : l.Perm m) : mk l t = mk m t := by
  have h1 : sortTo l l.length = sortTo m m.length := by rw [sortTo_all, sortTo_all, sorted_of_perm hp hl.dist]
  unfold mk
  rw [h1]

/-- A rack's plan under way: from l0 by the steps done to l, and on by those that are left to t. -/
structure Way (l0 l t : List Item) (did left : List (Bool × Item)) : Prop where
  arr0 : ArrI l0
  arrT : ArrI t
  good : ∀ p ∈ did ++ left, Good p.2
  done : wlk l0 (stTxts did) = some l
  rest : ∃ m, wlk l (stTxts left) = some m ∧ m.Perm t

theorem way_start {l0 t : List Item} (h0 : ArrI l0) (ht : ArrI t) : Way l0 l0 t [] (mk l0 t) := by
  obtain ⟨hg, hm⟩ := plan_walk h0 ht
  exact ⟨h0, ht, by simpa using hg, rfl, hm⟩

theorem Way.gDid {l0 l t : List Item} {did left : List (Bool × Item)} (h : Way l0 l t did left) : ∀ p ∈ did, Good p.2 := fun p hp => h.good p (by simp [hp])
theorem Way.arr {l0 l t : List Item} {did left : List (Bool × Item)} (h : Way l0 l t did left) : ArrI l := wlk_arr h.gDid h.arr0 h.done

theorem Way.step {l0 l t : List Item} {did left : List (Bool × Item)} {p : Bool × Item} (h : Way l0 l t did (p :: left)) : Way l0 (doI p.1 l p.2) t (did ++ [p]) left := by
  obtain ⟨a0, aT, hg, hd, m, hm, hp⟩ := h
  have hgp : Good p.2 := hg p (by simp)
  have hm2 := hm
  simp only [stTxts, List.map_cons, wlk] at hm2
  rw [step1_txt hgp] at hm2
  cases hdo : doB p.1 l p.2 with
  | false => rw [hdo] at hm2; simp at hm2
  | true =>
    rw [hdo] at hm2
    refine ⟨a0, aT, by simpa using hg, ?_, m, hm2, hp⟩
    refine wlk_join hd ?_
    simp only [stTxts, List.map_cons, List.map_nil, wlk]
    rw [step1_txt hgp, hdo]
    rfl

theorem Way.finish {l0 l t : List Item} {did : List (Bool × Item)} (h : Way l0 l t did []) : l.Perm t := by
  obtain ⟨_, _, _, _, m, hm, hp⟩ := h
  simp only [stTxts, List.map_nil, wlk, Option.some.injEq] at hm
  exact hm ▸ hp

theorem Way.undo {l0 l t : List Item} {did left : List (Bool × Item)} (h : Way l0 l t did left) : (undoTo l did 0).Perm l0 ∧ ∀ k, ArrI (undoTo l did k) := by
  refine ⟨?_, fun k => (undo_perm h.arr0 h.gDid h.done k).choose_spec.2.2⟩
  obtain ⟨m, h1, h2, _⟩ := undo_perm h.arr0 h.gDid h.done 0
  simp only [List.take_zero, stTxts, List.map_nil, wlk, Option.some.injEq] at h1
  exact h1 ▸ h2

end Go.Proofs.Ytgbkkolohloacab

/- 'Rack.end', 'Rack.do'. -/
namespace Go.Proofs.Ytgbkkolohloacab
open Go.RowKit

/-- A cell of the rack's block is written. -/
theorem RackAt.setTK {w : World} {r b : Nat} {l : List Item} {did left : List (Bool × Item)} (h : RackAt w r b l did left) (o : Nat) (u : Value) : TK (fun t => t = 94) w (w.setCell ⟨r, o, none⟩ u) := by
  obtain ⟨cs, fr, hty⟩ := h.ty
  exact TK.setCell (T := fun t => t = 94) hty rfl u

/-- What a call on a rack changes that does not call the device. -/
def KT0 (t : TypeId) : Prop := t = 94 ∨ t = 71
/-- The rack alone. -/
def K1 (t : TypeId) : Prop := t = 94
theorem tk_kt {w w' : World} (h : TK (fun t => t = 94) w w') : TK K1 w w' := h
theorem tk_10 {w w' : World} (h : TK K1 w w') : TK KT0 w w' := h.mono fun _ e => .inl e
theorem tk_up {w w' : World} (h : TK KT0 w w') : TK KT w w' := h.mono fun _ e => .inr e
theorem tk_at {w w' : World} (h : TK AT w w') : TK KT w w' := h.mono fun _ e => .inl e
theorem not_k0dev : ¬ KT0 100 := by unfold KT0; decide
theorem not_k0late : ¬ KT0 136 := by unfold KT0; decide
theorem not_k1step : ¬ K1 71 := by unfold K1; decide

theorem ne_item : ¬ ((fun t => t = 94) 69) := by decide
theorem ne_step : ¬ ((fun t => t = 94) 71) := by decide

theorem LeftAt.keep {T : TypeId → Prop} {w w' : World} {g : Nat} {v : Value} {l : List (Bool × Item)} (h : LeftAt w g v l) (hk : TK T w w') (h3 : ¬ T 71) : LeftAt w' g v l :=
  h.block fun ⟨cs', fr', ht'⟩ => hk.block g cs' _ fr' ht' h3

theorem RackAt.put1 {w : World} {r b : Nat} {l l' : List Item} {did left : List (Bool × Item)} (h : RackAt w r b l did left) {v : Value} (ho : w.ownsRow (b + 1) 69 7 v l'.length (allCells l')) : RackAt (w.setCell ⟨r, 1, none⟩ v) r b l' did left := by
  have hk := h.setTK 1 v
  obtain ⟨hty, c0, ⟨v1, c1, hrow⟩, ⟨g, v2, v3, hg, c2, c3, hdid, hleft, hn⟩, c4, fz, lt, br⟩ := h
  exact ⟨ty_set hty _, cell_set_ne c0 (by omega), ⟨v, by go_simp, hk.row ne_item ho⟩, ⟨g, v2, v3, hg, cell_set_ne c2 (by omega), cell_set_ne c3 (by omega), hk.row ne_step hdid, hleft.keep hk ne_step, hn⟩, cell_set_ne c4 (by omega), fun o => by simp [fz o], by simpa [World.setCell] using lt, br⟩

/-- No plan is under way. -/
theorem RackAt.ended {w : World} {r b : Nat} {l : List Item} {did left : List (Bool × Item)} (h : RackAt w r b l did left) : RackAt ((w.setCell ⟨r, 2, none⟩ (.slice none 0 0)).setCell ⟨r, 3, none⟩ (.slice none 0 0)) r b l [] [] ∧
    TK K1 w ((w.setCell ⟨r, 2, none⟩ (.slice none 0 0)).setCell ⟨r, 3, none⟩ (.slice none 0 0)) ∧ Below b w ((w.setCell ⟨r, 2, none⟩ (.slice none 0 0)).setCell ⟨r, 3, none⟩ (.slice none 0 0)) := by
  have hk := h.setTK 2 (.slice none 0 0)
  obtain ⟨hty, c0, ⟨v1, c1, hrow⟩, ⟨g, v2, v3, hg, c2, c3, hdid, hleft, hn⟩, c4, fz, lt, br⟩ := h
  obtain ⟨cs, fr, hty'⟩ := ty_set (o := 2) hty (.slice none 0 0)
  have hk2 : TK (fun t => t = 94) _ ((w.setCell ⟨r, 2, none⟩ (.slice none 0 0)).setCell ⟨r, 3, none⟩ (.slice none 0 0)) := TK.setCell (T := fun t => t = 94) hty' rfl _
  refine ⟨⟨ty_set (ty_set hty _) _, cell_set_ne (cell_set_ne c0 (by omega)) (by omega), ⟨v1, cell_set_ne (cell_set_ne c1 (by omega)) (by omega), hk2.row ne_item (hk.row ne_item hrow)⟩,
    ⟨b, .slice none 0 0, .slice none 0 0, Nat.le_refl _, cell_set_ne (by go_simp) (by omega), by go_simp, World.ownsRow_nil _ _ _ _, .inl ⟨rfl, none, 0, rfl⟩, fun _ => rfl⟩, cell_set_ne (cell_set_ne c4 (by omega)) (by omega), fun o => by simp [fz o], by simpa [World.setCell] using lt, br⟩, tk_kt (hk.trans hk2), ?_⟩
  exact ((Below.refl _ _).setCell (p := ⟨r, 2, none⟩) (Nat.le_of_lt br) _).setCell (p := ⟨r, 3, none⟩) (Nat.le_of_lt br) _

/-- What a call leaves that answers nothing. -/
def RackEnd (r b : Nat) (l : List Item) (did left : List (Bool × Item)) (w : World) (e : Ending) (w' : World) : Prop :=
  e = .returned (.tuple #[]) ∧ RackAt w' r b l did left ∧ TK K1 w w' ∧ Below b w w'

set_option maxRecDepth 100000 in
set_option maxHeartbeats 400000 in
theorem end_any (r b : Nat) (l : List Item) (did left : List (Bool × Item)) (w : World) (h : RackAt w r b l did left) :
    Calls Try.prog 66 #[.pointer (some ⟨r, 0, none⟩)] w fun e w' => RackEnd r b l [] [] w e w' := by
  obtain ⟨h1, h2, h3⟩ := h.ended
  obtain ⟨hty, c0, ⟨v1, c1, hrow⟩, ⟨g, v2, v3, hg, c2, c3, hdid, hleft, hn⟩, c4, fz, lt, br⟩ := h
  have H1 := hide h1
  clear h1 hrow hdid hleft hn c0 c1 c4
  go_enter Try.func66, Try.ntmps66
  go_wp2_with fail
  go_end0
  exact ⟨rfl, unhide H1, h2, h3⟩

set_option maxRecDepth 100000 in
set_option maxHeartbeats 400000 in
theorem do_any (r b : Nat) (l : List Item) (did left : List (Bool × Item)) (p : Bool × Item) (w : World) (hl : l.length ≤ 24) (h : RackAt w r b l did left) :
    Calls Try.prog 50 #[.pointer (some ⟨r, 0, none⟩), .agg (stCells p.1 p.2)] w fun e w' => RackEnd r b (doI p.1 l p.2) did left w e w' ∧ ∀ o, o ≠ 1 → w'.cell? ⟨r, o, none⟩ = w.cell? ⟨r, o, none⟩ := by
  obtain ⟨pb, y⟩ := p
  simp only [stCells]
  have hbn := below_new w (.cells #[.bool pb, .int .i64 y.kind, .string y.name, .string y.host, .int .i64 y.number, .string y.disk, .int .i64 y.lun, .string y.text] 71)
  have hn0 := StAt.new w pb y
  have hsz0 : (w.alloc (.cells #[.bool pb, .int .i64 y.kind, .string y.name, .string y.host, .int .i64 y.number, .string y.disk, .int .i64 y.lun, .string y.text] 71)).heap.size = w.heap.size + 1 := by simp
  have hR0 := h.later hbn
  have hlt := h.lt
  have hbr := h.br
  clear h
  go_enter Try.func50, Try.ntmps50
  go_wp2_with fail
  generalize hW : w.alloc (.cells #[.bool pb, .int .i64 y.kind, .string y.name, .string y.host, .int .i64 y.number, .string y.disk, .int .i64 y.lun, .string y.text] 71) = w0 at *
  clear hW
  obtain ⟨b0, b1, b2, b3, b4, b5, b6, b7⟩ := hn0.zero
  obtain ⟨v, c1, hrow⟩ := hR0.c1
  have HA := hide fun (n : Nat) => after_at pb v l y (w0.drewN n) hl (items_of_owns (owns_later hrow (below_drewN (Below.refl _ _) n)))
  have HR := hide hR0
  have hfz := hR0.fz
  have hlt0 := hR0.lt
  clear hR0 hrow hn0
  go_region_with (go_at_call 57; refine (unhide HA 1).mono ?_; rintro e w1 ⟨v', rfl, hown, hb1⟩; obtain ⟨va, vc, rfl⟩ := slice_of_owns hown; have c1' := (hb1.cell (p := ⟨r, 1, none⟩) hlt0).trans c1; have hfz' : ∀ o, w1.frozen? ⟨r, o, none⟩ = false := fun o => (hb1.frozen (p := ⟨r, o, none⟩) hlt0).trans (hfz o))
  all_goals
    have hb01 : Below w0.heap.size w0 w1 := (below_drewN (Below.refl w0.heap.size w0) 1).trans hb1
    have hR1 := (unhide HR).later hb01
    have hs0 := hR1.lt
    have hown1 := owns_mono (base' := b + 1) hown (show b + 1 ≤ w0.heap.size by omega)
    have hR2 := hR1.put1 hown1
    have hb02 : Below w.heap.size w w1 := hbn.trans (hb01.mono (by omega))
    have ht2 : TK K1 w _ := (TK.of_below hb02).trans (tk_kt (hR1.setTK 1 (.slice va (doI pb l y).length vc)))
    have hbe2 : Below b w _ := (hb02.mono (by omega : b ≤ w.heap.size)).setCell (p := ⟨r, 1, none⟩) (by simp; omega) (.slice va (doI pb l y).length vc)
    have hoth : ∀ o, o ≠ 1 → (w1.setCell ⟨r, 1, none⟩ (.slice va (doI pb l y).length vc)).cell? ⟨r, o, none⟩ = w.cell? ⟨r, o, none⟩ := fun o ho => by
      rw [World.cell?_setCell_other _ _ _ _ (by intro e; simp only [Addr.mk.injEq] at e; omega)]
      exact hb02.cell (p := ⟨r, o, none⟩) hlt
    clear c1' hfz' hown hown1 b0 b1 b2 b3 b4 b5 b6 b7 HA HR hR1
    go_end0
    exact ⟨⟨rfl, hR2, ht2, hbe2⟩, hoth⟩

end Go.Proofs.Ytgbkkolohloacab

/- 'Step.Opposite', 'Rack.undo'. -/
namespace Go.Proofs.Ytgbkkolohloacab
open Go.RowKit

set_option maxRecDepth 100000 in
set_option maxHeartbeats 400000 in
theorem opp_any (p : Bool × Item) (w : World) :
    Calls Try.prog 65 #[.agg (stCells p.1 p.2)] w fun e w' => e = .returned (.agg (stCells (!p.1) p.2)) ∧ Below w.heap.size w w' := by
  have hnot : ∀ (x : Bool) (w : World), (Op.unary .not (.bool x)).run Try.prog w = .ok (.bool (!x)) w := fun _ _ => rfl
  obtain ⟨pb, y⟩ := p
  simp only [stCells]
  go_enter Try.func65, Try.ntmps65
  go_wp2
  refine bodyPost_ret (v := .agg #[.bool (!pb), .int .i64 y.kind, .string y.name, .string y.host, .int .i64 y.number, .string y.disk, .int .i64 y.lun, .string y.text]) (by simp [results, Try.results65, go_sem]) rfl ⟨rfl, ?_⟩
  exact ((Below.refl w.heap.size w).alloc (Nat.le_refl _) _).alloc (by simp) _

theorem StepsAt.later {w w' : World} {v : Value} {l : List (Bool × Item)} (h : StepsAt w v l) (hb : Below w.heap.size w w') : StepsAt w' v l := by
  rcases h with h | ⟨g, cap, rfl, hg, hs⟩
  · exact .inl h
  · exact .inr ⟨g, cap, rfl, Nat.lt_of_lt_of_le hg hb.size, fun i hi => (hs i hi).below hb hg⟩

set_option maxRecDepth 100000 in
set_option maxHeartbeats 400000 in
theorem undo_any (r b : Nat) (l : List Item) (did left : List (Bool × Item)) (w : World) (hd : did.length ≤ 48) (hl : ∀ k, (undoTo l did k).length ≤ 24) (h : RackAt w r b l did left) :
    Calls Try.prog 49 #[.pointer (some ⟨r, 0, none⟩)] w fun e w' => RackEnd r b (undoTo l did 0) [] [] w e w' := by
  obtain ⟨g0, v20, v30, _, c20, _, hdid0, _, _⟩ := h.c2
  obtain ⟨da0, dc0, rfl⟩ := slice_of_owns hdid0
  have hbr0 := h.br
  have Hl := hide hl
  have Hh := hide h
  clear hl h hdid0
  go_enter Try.func49, Try.ntmps49
  go_wp2_with fail
  go_loopw [2] (fun kv wr => ∃ k : Nat, k ≤ did.length ∧ kv = .int .i64 ((k : Int) - 1) ∧ RackAt wr r b (undoTo l did k) did left ∧ TK K1 w wr ∧ Below b w wr) (fun kv _ => (intOf kv + 1).toNat)
  case atStart => exact ⟨did.length, Nat.le_refl _, rfl, by rw [undoTo_all]; exact unhide Hh, TK.refl _ _, Below.refl _ _⟩
  case round =>
    obtain ⟨k, hk, rfl, hR, htk, hbe⟩ := hrel
    cases k with
    | zero =>
      have HE := hide (end_any r b _ did left wr hR)
      clear hR c20
      have e0 : ((0 : Nat) : Int) - 1 = -1 := by omega
      rw [e0]
      go_wp2_with fail
      refine (unhide HE).mono ?_
      rintro e w1 ⟨rfl, hR1, htk1, hbe1⟩
      go_wp2_with fail
      go_end0
      exact ⟨rfl, hR1, htk.trans htk1, hbe.trans hbe1⟩
    | succ j =>
      have ej : ((j + 1 : Nat) : Int) - 1 = (j : Int) := by omega
      rw [ej]
      have hjl : j < did.length := by omega
      obtain ⟨p, hp⟩ : ∃ p, p = did[j] := ⟨_, rfl⟩
      have hst := undoTo_step l did j hjl
      rw [← hp] at hst
      have Hst := hide hst
      obtain ⟨g, v2, v3, hg, c2, c3, hdid, hleft, _⟩ := hR.c2
      rcases steps_of_owns hdid with ⟨_, h0⟩ | ⟨gd, cap, rfl, hgd, hs⟩
      · rw [h0] at hjl; simp at hjl
      have hsj := hs j hjl
      rw [← hp] at hsj
      obtain ⟨d0, d1, d2, d3, d4, d5, d6, d7⟩ := hsj
      have hjl' : (j : Int) < (did.length : Int) := by omega
      have HO := hide (opp_any p wr)
      have hlr := hR.lt
      have HR := hide hR
      have Hl2 := hide (unhide Hl (j + 1))
      clear hst hs hdid hleft hR ej hp c20
      obtain ⟨pb, y⟩ := p
      simp only [stCells] at HO
      go_wp2_with fail
      refine (unhide HO).mono ?_
      rintro e w1 ⟨rfl, hb1⟩
      have hbn := below_new w1 (.cells #[.bool (!pb), .int .i64 y.kind, .string y.name, .string y.host, .int .i64 y.number, .string y.disk, .int .i64 y.lun, .string y.text] 71)
      have hbb : Below wr.heap.size wr _ := hb1.trans (hbn.mono hb1.size)
      have hR2 := (unhide HR).later hbb
      have HD := hide (do_any r b _ did left (!pb, y) _ (unhide Hl2) hR2)
      have htk2 : TK K1 w _ := htk.trans (TK.of_below hbb)
      have hbe2 : Below b w _ := hbe.trans (hbb.mono (show b ≤ wr.heap.size by omega))
      simp only [stCells] at HD
      clear HR hR2 hbb hbn d0 d1 d2 d3 d4 d5 d6 d7 c2 c3
      go_wp2_with fail
      refine (unhide HD).mono ?_
      rintro e w3 ⟨⟨rfl, hR3, htk3, hbe3⟩, _⟩
      go_wp2_with fail
      go_roundw
      case rel => exact ⟨j, by omega, rfl, by rw [unhide Hst]; exact hR3, htk2.trans htk3, hbe2.trans hbe3⟩
      case measure => simp [intOf]

end Go.Proofs.Ytgbkkolohloacab
