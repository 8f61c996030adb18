/- Kp2, Rk1, Rk2. -/
import Derived.Test.YtdlhgbhaeedbdabM16
import Derived.Test.YtdlhgbhaeedbdabM9
import Derived.Test.YtdlhgbhaeedbdabM15
import Derived.Deep.RegionWith

/- 'Arrives'. -/
namespace Go.Proofs.Ytdlhgbhaeedbdab
open Go.RowKit

theorem arrI_of_chk {s : ByteArray} (h : (chk s).1 = 0) : ArrI (itemsOf s) := by
  obtain ⟨L, hL, _, e⟩ := arr_of_chk (chkZero h)
  rw [e]; exact hL.arrI

theorem plErr_zero {s t : ByteArray} (h : plErr s t = 0) : (chk s).1 = 0 ∧ (chk t).1 = 0 := by
  unfold plErr at h
  split at h
  · rename_i h0; exact ⟨h0, h⟩
  · rename_i h0; exact absurd h h0

theorem stTxt_size (b : Bool) (t : ByteArray) : (stTxt b t).size = 1 + t.size := by
  unfold stTxt
  rw [ByteArray.size_append]
  cases b <;> rfl

theorem pl_small (s t : ByteArray) : (pl s t).length ≤ 48 ∧ ∀ x ∈ pl s t, x.size ≤ 401 := by
  unfold pl
  split
  · rename_i h
    obtain ⟨h1, h2⟩ := plErr_zero h
    have f1 := fits_of_chk h1
    have f2 := fits_of_chk h2
    refine ⟨by simp [stTxts]; exact mk_len _ _ f1.1 f2.1, fun x hx => ?_⟩
    obtain ⟨p, hp, rfl⟩ := List.mem_map.1 hx
    rw [stTxt_size]
    rcases mem_mk hp with h | h
    · have := f1.text _ h; omega
    · have := f2.text _ h; omega
  · simp

theorem prt_of_perm {t : ByteArray} (ht : (chk t).1 = 0) {m : List Item} (hm : m.Perm (itemsOf t)) : (⟨(catB (sortTo m m.length)).toArray⟩ : ByteArray) = prt t := by
  unfold prt
  rw [if_pos ht, sortTo_all, sortTo_all, sorted_of_perm hm ((arrI_of_chk ht).perm hm.symm).dist]

/-- The plan leads there: what Walk tells of it. -/
theorem plan_end {s t : ByteArray} (h : plErr s t = 0) : wkErr s (pl s t) = 0 ∧ wkN s (pl s t) = (pl s t).length ∧ wkTxt s (pl s t) = prt t := by
  obtain ⟨h1, h2⟩ := plErr_zero h
  obtain ⟨_, m, hm, hp⟩ := plan_walk (arrI_of_chk h1) (arrI_of_chk h2)
  have hpl : pl s t = stTxts (mk (itemsOf s) (itemsOf t)) := by simp [pl, h]
  rw [← hpl] at hm
  refine ⟨by simp [wkErr, h1, wErr, hm], by rw [wkN, if_pos h1, wlkN_some hm], ?_⟩
  rw [wkTxt, if_pos h1, wOut, hm]
  exact prt_of_perm h2 hp

end Go.Proofs.Ytdlhgbhaeedbdab

/- A rack in memory; 'Open', 'Config'. -/
namespace Go.Proofs.Ytdlhgbhaeedbdab
open Go.RowKit

/-- What a call on a rack may change. -/
def KT (t : TypeId) : Prop := AT t ∨ KB t ∨ t = 75

/-- The steps that are left, in block g. -/
def LeftAt (w : World) (g : Nat) (v : Value) (l : List (Bool × Item)) : Prop :=
  (l = [] ∧ ∃ a cap, v = .slice a 0 cap) ∨ (0 < l.length ∧ ∃ o cap, v = .slice (some ⟨g, o, none⟩) l.length cap ∧ l.length ≤ cap ∧ (∃ cs fr, w.heap[g]? = some (Obj.cells cs 75 fr)) ∧ ∀ i (h : i < l.length), StAt w g (o + i * 10) l[i])

/-- A rack's hosts: its drives, its sessions, the next session's number. -/
structure HostsAt (w : World) (r b : Nat) (H : Hs) : Prop where
  bank : ∃ v B, w.cell? ⟨r, 2, none⟩ = some v ∧ BankAt w (b + 1) v B ∧ B.map Bk.d = H.disks
  ses : ∃ v, w.cell? ⟨r, 3, none⟩ = some v ∧ SesRow w (b + 1) v H.ses
  next : w.cell? ⟨r, 4, none⟩ = some (.int .i64 H.next)

/-- The types of what hosts' calls hold. -/
structure NH (T : TypeId → Prop) : Prop where
  h1 : ¬ T 130
  h2 : ¬ T 157
  h3 : ¬ T 3
  h4 : ¬ T 127

theorem nh_false : NH (fun _ => False) := ⟨id, id, id, id⟩

theorem HostsAt.keep {T : TypeId → Prop} {w w' : World} {r b : Nat} {H : Hs} (h : HostsAt w r b H) (hk : TK T w w') (hT : NH T) (hc : ∀ o, 2 ≤ o → o ≤ 4 → w'.cell? ⟨r, o, none⟩ = w.cell? ⟨r, o, none⟩) : HostsAt w' r b H := by
  obtain ⟨⟨v, B, c2, hB, e⟩, ⟨v3, c3, hS⟩, c4⟩ := h
  exact ⟨⟨v, B, (hc 2 (by omega) (by omega)).trans c2, hB.keep hk hT.h1 hT.h2 hT.h3, e⟩, ⟨v3, (hc 3 (by omega) (by omega)).trans c3, hk.row hT.h4 hS⟩, (hc 4 (by omega) (by omega)).trans c4⟩

/-- A rack that runs, in block r, on the device in block b: what is there, what the plan has done, what is left, the hosts. -/
structure RackF (w : World) (r b : Nat) (l : List Item) (did left : List (Bool × Item)) (H : Hs) : Prop where
  ty : ∃ cs fr, w.heap[r]? = some (Obj.cells cs 94 fr)
  c0 : w.cell? ⟨r, 0, none⟩ = some (.pointer (some ⟨b, 0, none⟩))
  c1 : ∃ v, w.cell? ⟨r, 1, none⟩ = some v ∧ w.ownsRow (b + 1) 73 9 v l.length (allCells l)
  c2 : ∃ g v2 v3, b ≤ g ∧ w.cell? ⟨r, 5, none⟩ = some v2 ∧ w.cell? ⟨r, 6, none⟩ = some v3 ∧ w.ownsRow (g + 1) 75 10 v2 did.length (stsCells did) ∧ LeftAt w g v3 left ∧ (did = [] → v2 = .slice none 0 0)
  c4 : w.cell? ⟨r, 7, none⟩ = some (.bool false)
  fz : ∀ o, w.frozen? ⟨r, o, none⟩ = false
  lt : r < w.heap.size
  br : b < r
  hs : HostsAt w r b H

/-- A rack that has met that the power has gone. -/
structure DeadAt (w : World) (r : Nat) : Prop where
  ty : ∃ cs fr, w.heap[r]? = some (Obj.cells cs 94 fr)
  c4 : w.cell? ⟨r, 7, none⟩ = some (.bool true)
  lt : r < w.heap.size

theorem StAt.of_cells {w w' : World} {g o : Nat} {p : Bool × Item} (h : StAt w g o p) (hc : ∀ o, w'.cell? ⟨g, o, none⟩ = w.cell? ⟨g, o, none⟩) : StAt w' g o p :=
  ⟨(hc _).trans h.c0, (hc _).trans h.c1, (hc _).trans h.c2, (hc _).trans h.c3, (hc _).trans h.c4, (hc _).trans h.c5, (hc _).trans h.c6, (hc _).trans h.c7, (hc _).trans h.c8, (hc _).trans h.c9⟩

theorem LeftAt.block {w w' : World} {g : Nat} {v : Value} {l : List (Bool × Item)} (h : LeftAt w g v l) (hb : (∃ cs fr, w.heap[g]? = some (Obj.cells cs 75 fr)) → w'.heap[g]? = w.heap[g]?) : LeftAt w' g v l := by
  rcases h with h | ⟨h0, o, cap, rfl, hc, hty, hs⟩
  · exact .inl h
  · have he := hb hty
    exact .inr ⟨h0, o, cap, rfl, hc, by rw [he]; exact hty, fun i hi => (hs i hi).of_cells fun o => World.cell?_of_block he⟩

theorem RackF.keep {T : TypeId → Prop} {w w' : World} {r b : Nat} {l : List Item} {did left : List (Bool × Item)} {H : Hs} (h : RackF w r b l did left H) (hk : TK T w w') (h1 : ¬ T 94) (h2 : ¬ T 73) (h3 : ¬ T 75) (h4 : NH T) : RackF w' r b l did left H := by
  obtain ⟨⟨cs, fr, hty⟩, c0, ⟨v, c1, hrow⟩, ⟨g, v2, v3, hg, c2, c3, hdid, hleft, hn⟩, c4, fz, lt, br, hs⟩ := h
  have hb := hk.block r cs _ fr hty h1
  have hc : ∀ o, w'.cell? ⟨r, o, none⟩ = w.cell? ⟨r, o, none⟩ := fun o => World.cell?_of_block hb
  have hf : ∀ o, w'.frozen? ⟨r, o, none⟩ = w.frozen? ⟨r, o, none⟩ := fun o => World.frozen?_of_block hb
  exact ⟨⟨cs, fr, hb.trans hty⟩, (hc _).trans c0, ⟨v, (hc _).trans c1, hk.row h2 hrow⟩, ⟨g, v2, v3, hg, (hc _).trans c2, (hc _).trans c3, hk.row h3 hdid, hleft.block (fun ⟨cs', fr', ht'⟩ => hk.block g cs' _ fr' ht' h3), hn⟩, (hc _).trans c4, fun o => (hf o).trans (fz o), Nat.lt_of_lt_of_le lt hk.size, br, hs.keep hk h4 fun o _ _ => hc o⟩

theorem RackF.later {w w' : World} {r b : Nat} {l : List Item} {did left : List (Bool × Item)} {H : Hs} (h : RackF w r b l did left H) (hk : Below w.heap.size w w') : RackF w' r b l did left H :=
  h.keep (T := fun _ => False) (TK.of_below hk) id id id nh_false

theorem DeadAt.keep {T : TypeId → Prop} {w w' : World} {r : Nat} (h : DeadAt w r) (hk : TK T w w') (h1 : ¬ T 94) : DeadAt w' r := by
  obtain ⟨⟨cs, fr, hty⟩, c4, lt⟩ := h
  have hb := hk.block r cs _ fr hty h1
  exact ⟨⟨cs, fr, hb.trans hty⟩, (World.cell?_of_block hb).trans c4, Nat.lt_of_lt_of_le lt hk.size⟩

theorem ApiAt.later {w w' : World} {b : Nat} {S E : Nat → UInt8} {U : List Lg} {l : Int} {d : Bool} (h : ApiAt w b S E U l d) (hk : Below w.heap.size w w') : ApiAt w' b S E U l d :=
  h.keep (T := fun _ => False) (TK.of_below hk) id id

/-- What Config tells. -/
def prI (l : List Item) : ByteArray := ⟨(catB (sortTo l l.length)).toArray⟩

set_option maxHeartbeats 400000 in
theorem printAt (v : Value) (l : List Item) (w : World) (hl : Fits l) (hv : ItemsAt w v l) :
    Calls Try.prog 30 #[v] w fun e w' => e = .returned (.string (prI l)) ∧ Below w.heap.size w w' := by
  rcases hv with ⟨rfl, rfl⟩ | ⟨g, cap, rfl, _, hit⟩
  · exact aprint_nil w
  · exact aprint_in g cap l w hl.1 (fun x hx => hl.text x (mem_sortTo hx)) hit

set_option maxRecDepth 100000 in
set_option maxHeartbeats 400000 in
theorem fconfig_any (r b : Nat) (l : List Item) (did left : List (Bool × Item)) (H : Hs) (w : World) (hl : Fits l) (h : RackF w r b l did left H) :
    Calls Try.prog 31 #[.pointer (some ⟨r, 0, none⟩)] w fun e w' => e = .returned (.tuple #[.string (prI l), .int .i64 0]) ∧ Below w.heap.size w w' := by
  obtain ⟨v, c1, hrow⟩ := h.c1
  have c4 := h.c4
  have HP := hide (printAt v l w hl (items_of_owns hrow))
  clear hrow h
  go_enter Try.func31, Try.ntmps31
  go_wp2_with fail
  refine (unhide HP).mono ?_
  rintro e w1 ⟨rfl, hb1⟩
  go_wp2_with fail
  go_ret2
  exact ⟨rfl, hb1⟩

set_option maxRecDepth 100000 in
set_option maxHeartbeats 400000 in
theorem config_dead (r : Nat) (w : World) (h : DeadAt w r) :
    Calls Try.prog 31 #[.pointer (some ⟨r, 0, none⟩)] w fun e w' => e = .returned (.tuple #[.string ⟨#[]⟩, .int .i64 7]) ∧ w' = w := by
  have c4 := h.c4
  clear h
  go_enter Try.func31, Try.ntmps31
  go_wp2_with fail
  go_ret2
  exact ⟨rfl, rfl⟩

def rackCells (b : Nat) (v : Value) : Array Value := #[.pointer (some ⟨b, 0, none⟩), v, .slice none 0 0, .slice none 0 0, .int .i64 0, .slice none 0 0, .slice none 0 0, .bool false]

theorem not_kt8 : ¬ KT 5 := by unfold KT AT KB; decide
theorem not_ktItem : ¬ KT 73 := by unfold KT AT KB; decide
theorem not_ktString : ¬ KT 9 := by unfold KT AT KB; decide
theorem not_atRack : ¬ AT 94 := by unfold AT; decide
theorem not_atItem : ¬ AT 73 := by unfold AT; decide
theorem not_atStep : ¬ AT 75 := by unfold AT; decide

theorem rack_new {w : World} {b : Nat} {v : Value} {l : List Item} (hb : b < w.heap.size) (h : w.ownsRow (b + 1) 73 9 v l.length (allCells l)) :
    RackF (w.alloc (.cells (rackCells b v) 94)) w.heap.size b l [] [] ⟨[], [], 0⟩ := by
  unfold rackCells
  refine ⟨⟨_, (0, 0), heap_alloc_last w _⟩, by go_simp, ⟨v, by go_simp, h.alloc _⟩, ⟨b, .slice none 0 0, .slice none 0 0, Nat.le_refl _, by go_simp, by go_simp, World.ownsRow_nil _ _ _ _, .inl ⟨rfl, none, 0, rfl⟩, fun _ => rfl⟩, by go_simp, fun o => World.frozen?_alloc_at _ _ _ _ rfl, by simp, hb, ⟨⟨.slice none 0 0, [], by go_simp, ⟨World.ownsRow_nil _ _ _ _, by simp, List.Pairwise.nil⟩, rfl⟩, ⟨.slice none 0 0, by go_simp, World.ownsRow_nil _ _ _ _⟩, by go_simp⟩⟩

/-- What Open leaves: no rack, and the power has gone; or a rack. -/
def FOpenEnd (b : Nat) (S E : Nat → UInt8) (U : List Lg) (l : Int) (d : Bool) (w : World) (e : Ending) (w' : World) : Prop :=
  ∃ l' d', ApiAt w' b S E U l' d' ∧ l' ≤ 9223372036854775807 ∧ Below b w w' ∧ TK KT w w' ∧ (l < 0 → l' = l ∧ d' = d) ∧
      ((d' = true ∧ e = .returned (.tuple #[.pointer none, .int .i64 7])) ∨ (d' = false ∧ d = false ∧ ∃ r, w.heap.size ≤ r ∧ e = .returned (.tuple #[.pointer (some ⟨r, 0, none⟩), .int .i64 0]) ∧ RackF w' r b (itemsOf (held E)) [] [] ⟨newD (itemsOf (held E)), [], 0⟩))

theorem newD_take (l : List Item) (k : Nat) (hk : k < l.length) : newD (l.take (k + 1)) = newD (l.take k) ++ (if l[k].kind = 0 then [⟨l[k].name, List.replicate l[k].size.toNat 0, -1⟩] else []) := by
  unfold newD
  rw [List.take_succ_eq_append_getElem hk, List.filter_append, List.map_append]
  congr 1
  by_cases h : l[k].kind = 0
  · rw [if_pos h, List.filter_cons_of_pos (by simpa [dkB] using h)]; rfl
  · rw [if_neg h, List.filter_cons_of_neg (by simpa [dkB] using h)]; rfl

theorem newD_len (l : List Item) : (newD l).length ≤ l.length := by
  unfold newD
  rw [List.length_map]
  exact List.length_filter_le _ _

/-- The drives of a rack are others now. -/
theorem RackF.banked {w w' : World} {r b : Nat} {l : List Item} {did left : List (Bool × Item)} {H : Hs} (h : RackF w r b l did left H) (hk : TK KB w w') (hc : RCell r (fun o => o ≠ 2) w w') {D : List Drv} (hb : ∃ v B, w'.cell? ⟨r, 2, none⟩ = some v ∧ BankAt w' (b + 1) v B ∧ B.map Bk.d = D) :
    RackF w' r b l did left { H with disks := D } := by
  obtain ⟨hty, c0, ⟨v1, c1, hrow⟩, ⟨g, v2, v3, hg, c2, c3, hdid, hleft, hn⟩, c4, fz, lt, br, hs⟩ := h
  obtain ⟨_, ⟨v3', c3', hS⟩, c4'⟩ := hs
  exact ⟨hc.ty hty, (hc.cell _ (by omega)).trans c0, ⟨v1, (hc.cell _ (by omega)).trans c1, hk.row (by unfold KB; decide) hrow⟩, ⟨g, v2, v3, hg, (hc.cell _ (by omega)).trans c2, (hc.cell _ (by omega)).trans c3, hk.row (by unfold KB; decide) hdid, hleft.block (fun ⟨cs', fr', ht'⟩ => hk.block g cs' _ fr' ht' (by unfold KB; decide)), hn⟩,
    (hc.cell _ (by omega)).trans c4, fun o => (hc.fz o).trans (fz o), Nat.lt_of_lt_of_le lt hk.size, br, ⟨hb, ⟨v3', (hc.cell _ (by omega)).trans c3', hk.row (by unfold KB; decide) hS⟩, (hc.cell _ (by omega)).trans c4'⟩⟩

set_option maxRecDepth 100000 in
set_option maxHeartbeats 400000 in
theorem fopen_any (b : Nat) (S E : Nat → UInt8) (U : List Lg) (l : Int) (d : Bool) (w : World) (hl : l ≤ 9223372036854775807) (hE : (chk (held E)).1 = 0) (h : ApiAt w b S E U l d) :
    Calls Try.prog 33 #[.pointer (some ⟨b, 0, none⟩)] w fun e w' => FOpenEnd b S E U l d w e w' := by
  have HL := hide (load_any b S E U l d w hl h)
  have hlt := h.lt
  have hsz : (held E).size ≤ maxLen := by have := chk_size hE; unfold maxLen; omega
  have HP := hide fun wx => parse_any (held E) wx hsz
  rw [hE] at HP
  have hfit := fits_of_chk hE
  have HG := hide (arrI_of_chk hE).good
  clear h hE hsz
  go_enter Try.func33, Try.ntmps33
  go_wp2_with fail
  refine (unhide HL).mono ?_
  rintro e w1 ⟨l1, d1, ha1, hl1, hbe1, htk1, hlow1, hcase⟩
  have hs1 := hbe1.size
  have hkt1 : TK KT w w1 := htk1.mono fun t ht => .inl ht
  have hlt1 := ha1.lt
  rcases hcase with ⟨rfl, rfl⟩ | ⟨rfl, rfl, rfl⟩
  · clear HL HP HG
    go_wp2_with fail
    go_ret2
    exact ⟨_, _, ha1, hl1, hbe1, hkt1, hlow1, .inl ⟨rfl, rfl⟩⟩
  · generalize hT : held E = T at *
    have HT := hide hT
    clear hT
    go_wp2_with fail
    refine (unhide HP w1).mono ?_
    rintro e w2 ⟨v, rfl, hown, hb2⟩
    replace hown := hown trivial
    have hs2 := hb2.size
    have hown2 := owns_mono (base' := b + 1) hown (by omega)
    have ha2 := ha1.later hb2
    have hbe2 : Below b w w2 := hbe1.trans (hb2.mono (by omega))
    have hkt2 : TK KT w w2 := hkt1.trans (TK.of_below hb2)
    obtain ⟨va, vc, rfl⟩ := slice_of_owns hown2
    have Hr := hide (rack_new (b := b) (w := w2) (by omega) hown2)
    have hbn := below_new w2 (.cells (rackCells b (.slice va (itemsOf T).length vc)) 94)
    have ha3 := ha2.later hbn
    have hbe3 := hbe2.trans (hbn.mono (by omega : b ≤ _))
    have hkt3 : TK KT w _ := hkt2.trans (TK.of_below hbn)
    have Hown3 := hide (owns_later hown2 hbn)
    have hwr : w.heap.size ≤ w2.heap.size := by omega
    generalize hI : itemsOf T = I at *
    have HI := hide hI
    clear hI
    clear hown hown2 HL HP ha2 hbe2 hkt2 hkt1 hbe1 htk1
    unfold rackCells at *
    go_wp2_with fail
    generalize hW : w2.alloc (.cells #[.pointer (some ⟨b, 0, none⟩), .slice va I.length vc, .slice none 0 0, .slice none 0 0, .int .i64 0, .slice none 0 0, .slice none 0 0, .bool false] 94) = w3 at *
    have hR0 := unhide Hr
    generalize hr : w2.heap.size = r at *
    clear hW hbn
    have Hfin := hide (⟨ha3, hbe3, hkt3⟩ : _ ∧ _ ∧ _)
    clear ha3 hbe3 hkt3 Hr
    go_loopw [10] (fun i wr => ∃ k : Nat, k ≤ I.length ∧ i = .int .i64 k ∧ RackF wr r b I [] [] ⟨newD (I.take k), [], 0⟩ ∧ TK KB w3 wr ∧ Below (b + 1) w3 wr) (fun i _ => I.length - (intOf i).toNat)
    case atStart => exact ⟨0, Nat.zero_le _, rfl, hR0, TK.refl _ _, Below.refl _ _⟩
    case round =>
      obtain ⟨k, hk, rfl, hR, htk, hbe⟩ := hrel
      have h24 := hfit.1
      clear hR0
      by_cases hlt2 : k < I.length
      · rcases items_of_owns (htk.row (by unfold KB; decide) (unhide Hown3)) with ⟨_, e0⟩ | ⟨g, cap, e1, hcap, hii⟩
        · rw [e0] at hlt2; simp at hlt2
        simp only [Value.slice.injEq] at e1
        obtain ⟨rfl, _, rfl⟩ := e1
        obtain ⟨x, hx⟩ : ∃ x, x = I[k] := ⟨_, rfl⟩
        have hix := hii.2 k hlt2
        have hst := newD_take I k hlt2
        rw [← hx] at hix hst
        obtain ⟨hz1, hz2⟩ := good_size (unhide HG x (by rw [hx]; exact List.getElem_mem hlt2))
        obtain ⟨sz, hsz⟩ : ∃ n : Nat, x.size = n := ⟨x.size.toNat, by omega⟩
        obtain ⟨c0, c1, c2, c3, c4, c5, c6, c7, c8⟩ := hix
        rw [hsz] at c4
        have hlt' : (k : Int) < (I.length : Int) := by omega
        have hlen := newD_len (I.take k)
        rw [List.length_take] at hlen
        by_cases hk0 : x.kind = 0
        · rw [if_pos hk0, hsz, Int.toNat_natCast] at hst
          have Hst := hide hst
          have hk0' : (((x.kind : Nat) : Int) == 0) = true := by rw [hk0]; rfl
          have HA := hide fun (n : Nat) => (show ∃ v B, B.map Bk.d = newD (I.take k) ∧ Calls Try.prog 60 #[.pointer (some ⟨r, 2, none⟩), .string x.name, .int .i64 sz] (wr.drewN n) fun e w' => AddEnd r b B ⟨x.name, List.replicate sz 0, -1⟩ (wr.drewN n) e w' from by
            have hR1 := hR.later (below_drewN (Below.refl _ _) n)
            obtain ⟨v, B, c2, hB, e⟩ := hR1.hs.bank
            have hBl : B.length = (newD (I.take k)).length := by rw [← List.length_map (f := Bk.d), e]
            exact ⟨v, B, e, add_any r b sz x.name v B _ (by omega) (by omega) hR1.br hR1.ty c2 (hR1.fz 2) hB⟩)
          have HR := hide hR
          clear hst hk0 hsz hR hlen hz1 hz2 hii hx
          go_wp2
          go_region_with (go_at_call 60; obtain ⟨bv, B, eB, hcall⟩ := unhide HA 1; refine hcall.mono ?_; rintro e w4 ⟨rfl, ⟨v', q, hq, c2', hB'⟩, htk4, hbe4, hrc4⟩)
          all_goals
            have hb0 := below_drewN (Below.refl wr.heap.size wr) 1
            have hR4 := ((unhide HR).later hb0).banked htk4 hrc4 ⟨v', _, c2', hB', rfl⟩
            have hD4 : (B ++ [q]).map Bk.d = newD (I.take (k + 1)) := by rw [List.map_append, eB, unhide Hst, List.map_singleton, hq]
            rw [hD4] at hR4
            have htk5 := (htk.trans (TK.of_below hb0)).trans htk4
            have hbe5 := (hbe.trans (hb0.mono (by have := (unhide HR).lt; have := (unhide HR).br; omega))).trans hbe4
            clear hB' c2' htk4 hbe4 hrc4 hD4 HA
            go_wp2
            go_roundw
            case rel => exact ⟨k + 1, by omega, by go_num, hR4, htk5, hbe5⟩
            case measure => simp [intOf]; omega
        · rw [if_neg hk0, List.append_nil] at hst
          rw [← hst] at hR
          have hk0' : (((x.kind : Nat) : Int) == 0) = false := by rw [beq_eq_false_iff_ne]; omega
          have HR := hide hR
          clear hst hk0 hR hii hx hsz
          go_wp2
          go_roundw
          case rel => exact ⟨k + 1, by omega, by go_num, unhide HR, htk, hbe⟩
          case measure => simp [intOf]; omega
      · have hkl : k = I.length := by omega
        have hall : I.take k = I := List.take_of_length_le (by omega)
        rw [hall] at hR
        have hnl : ¬ (k : Int) < (I.length : Int) := by omega
        obtain ⟨ha3, hbe3, hkt3⟩ := unhide Hfin
        have haf := ha3.keep htk (by unfold KB; decide) (by unfold KB; decide)
        have hbf := hbe3.trans (hbe.mono (by omega))
        have hkf : TK KT w wr := hkt3.trans (htk.mono fun _ e => .inr (.inl e))
        have HR := hide hR
        clear hall hkl ha3 hbe3 hkt3 hR
        go_wp2
        go_ret2
        exact ⟨_, _, haf, hl1, hbf, hkf, fun h0 => ⟨(hlow1 h0).1, rfl⟩, .inr ⟨rfl, rfl, r, by omega, rfl, by rw [unhide HT, unhide HI]; exact unhide HR⟩⟩

end Go.Proofs.Ytdlhgbhaeedbdab

/- 'Rack.end', 'Rack.do'. -/
namespace Go.Proofs.Ytdlhgbhaeedbdab
open Go.RowKit

/-- A cell of the rack's block is written. -/
theorem RackF.setTK {w : World} {r b : Nat} {l : List Item} {did left : List (Bool × Item)} {H : Hs} (h : RackF w r b l did left H) (o : Nat) (u : Value) : TK (fun t => t = 94) w (w.setCell ⟨r, o, none⟩ u) := by
  obtain ⟨cs, fr, hty⟩ := h.ty
  exact TK.setCell (T := fun t => t = 94) hty rfl u

/-- What a call on a rack changes that does not call the device. -/
def KT0 (t : TypeId) : Prop := KB t ∨ t = 75
/-- The rack and its drives alone. -/
def K1 (t : TypeId) : Prop := KB t
theorem tk_kt {w w' : World} (h : TK (fun t => t = 94) w w') : TK K1 w w' := h.mono fun _ e => .inl e
theorem tk_10 {w w' : World} (h : TK K1 w w') : TK KT0 w w' := h.mono fun _ e => .inl e
theorem tk_up {w w' : World} (h : TK KT0 w w') : TK KT w w' := h.mono fun _ e => .inr e
theorem tk_at {w w' : World} (h : TK AT w w') : TK KT w w' := h.mono fun _ e => .inl e
theorem not_k0dev : ¬ KT0 114 := by unfold KT0 KB; decide
theorem not_k0late : ¬ KT0 163 := by unfold KT0 KB; decide
theorem not_k1step : ¬ K1 75 := by unfold K1 KB; decide

theorem ne_item : ¬ ((fun t => t = 94) 73) := by decide
theorem ne_step : ¬ ((fun t => t = 94) 75) := by decide

theorem LeftAt.keep {T : TypeId → Prop} {w w' : World} {g : Nat} {v : Value} {l : List (Bool × Item)} (h : LeftAt w g v l) (hk : TK T w w') (h3 : ¬ T 75) : LeftAt w' g v l :=
  h.block fun ⟨cs', fr', ht'⟩ => hk.block g cs' _ fr' ht' h3

theorem nh_rack : NH (fun t => t = 94) := ⟨by decide, by decide, by decide, by decide⟩

/-- A cell of the rack's block that is not the hosts'. -/
theorem HostsAt.set {w : World} {r b o : Nat} {H : Hs} (h : HostsAt w r b H) (hty : ∃ cs fr, w.heap[r]? = some (Obj.cells cs 94 fr)) (ho : o < 2 ∨ 4 < o) (u : Value) : HostsAt (w.setCell ⟨r, o, none⟩ u) r b H := by
  obtain ⟨cs, fr, hty⟩ := hty
  exact h.keep (TK.setCell (T := fun t => t = 94) hty rfl u) nh_rack fun o' h1 h2 => World.cell?_setCell_other _ _ _ _ (by intro e; simp only [Addr.mk.injEq] at e; omega)

theorem RackF.put1 {w : World} {r b : Nat} {l l' : List Item} {did left : List (Bool × Item)} {H : Hs} (h : RackF w r b l did left H) {v : Value} (ho : w.ownsRow (b + 1) 73 9 v l'.length (allCells l')) : RackF (w.setCell ⟨r, 1, none⟩ v) r b l' did left H := by
  have hk := h.setTK 1 v
  obtain ⟨hty, c0, ⟨v1, c1, hrow⟩, ⟨g, v2, v3, hg, c2, c3, hdid, hleft, hn⟩, c4, fz, lt, br, hs⟩ := h
  exact ⟨ty_set hty _, cell_set_ne c0 (by omega), ⟨v, by go_simp, hk.row ne_item ho⟩, ⟨g, v2, v3, hg, cell_set_ne c2 (by omega), cell_set_ne c3 (by omega), hk.row ne_step hdid, hleft.keep hk ne_step, hn⟩, cell_set_ne c4 (by omega), fun o => by simp [fz o], by simpa [World.setCell] using lt, br, hs.set hty (by omega) _⟩

/-- No plan is under way. -/
theorem RackF.ended {w : World} {r b : Nat} {l : List Item} {did left : List (Bool × Item)} {H : Hs} (h : RackF w r b l did left H) : RackF ((w.setCell ⟨r, 5, none⟩ (.slice none 0 0)).setCell ⟨r, 6, none⟩ (.slice none 0 0)) r b l [] [] H ∧
    TK K1 w ((w.setCell ⟨r, 5, none⟩ (.slice none 0 0)).setCell ⟨r, 6, none⟩ (.slice none 0 0)) ∧ Below b w ((w.setCell ⟨r, 5, none⟩ (.slice none 0 0)).setCell ⟨r, 6, none⟩ (.slice none 0 0)) := by
  have hk := h.setTK 5 (.slice none 0 0)
  obtain ⟨hty, c0, ⟨v1, c1, hrow⟩, ⟨g, v2, v3, hg, c2, c3, hdid, hleft, hn⟩, c4, fz, lt, br, hs⟩ := h
  obtain ⟨cs, fr, hty'⟩ := ty_set (o := 5) hty (.slice none 0 0)
  have hk2 : TK (fun t => t = 94) _ ((w.setCell ⟨r, 5, none⟩ (.slice none 0 0)).setCell ⟨r, 6, none⟩ (.slice none 0 0)) := TK.setCell (T := fun t => t = 94) hty' rfl _
  refine ⟨⟨ty_set (ty_set hty _) _, cell_set_ne (cell_set_ne c0 (by omega)) (by omega), ⟨v1, cell_set_ne (cell_set_ne c1 (by omega)) (by omega), hk2.row ne_item (hk.row ne_item hrow)⟩,
    ⟨b, .slice none 0 0, .slice none 0 0, Nat.le_refl _, cell_set_ne (by go_simp) (by omega), by go_simp, World.ownsRow_nil _ _ _ _, .inl ⟨rfl, none, 0, rfl⟩, fun _ => rfl⟩, cell_set_ne (cell_set_ne c4 (by omega)) (by omega), fun o => by simp [fz o], by simpa [World.setCell] using lt, br, (hs.set hty (by omega) _).set (ty_set hty _) (by omega) _⟩, tk_kt (hk.trans hk2), ?_⟩
  exact ((Below.refl _ _).setCell (p := ⟨r, 5, none⟩) (Nat.le_of_lt br) _).setCell (p := ⟨r, 6, none⟩) (Nat.le_of_lt br) _

/-- What a call leaves that answers nothing. -/
def RackEnd (r b : Nat) (l : List Item) (did left : List (Bool × Item)) (H : Hs) (w : World) (e : Ending) (w' : World) : Prop :=
  e = .returned (.tuple #[]) ∧ RackF w' r b l did left H ∧ TK K1 w w' ∧ Below b w w'

set_option maxRecDepth 100000 in
set_option maxHeartbeats 400000 in
theorem end_any (r b : Nat) (l : List Item) (did left : List (Bool × Item)) (H : Hs) (w : World) (h : RackF w r b l did left H) :
    Calls Try.prog 74 #[.pointer (some ⟨r, 0, none⟩)] w fun e w' => RackEnd r b l [] [] H w e w' := by
  obtain ⟨h1, h2, h3⟩ := h.ended
  obtain ⟨hty, c0, ⟨v1, c1, hrow⟩, ⟨g, v2, v3, hg, c2, c3, hdid, hleft, hn⟩, c4, fz, lt, br, hs⟩ := h
  have H1 := hide h1
  clear h1 hrow hdid hleft hn c0 c1 c4 hs
  go_enter Try.func74, Try.ntmps74
  go_wp2_with fail
  go_end0
  exact ⟨rfl, unhide H1, h2, h3⟩

/-- May the step be done: it means no session, and a disk's size is small. -/
structure Mild (H : Hs) (p : Bool × Item) : Prop where
  few : H.ses.length ≤ 8
  disks : H.disks.length ≤ 24
  size : 0 ≤ p.2.size ∧ p.2.size ≤ 9
  quiet : p.2.kind = 3 ∨ p.2.kind = 4 → ∀ s ∈ H.ses, ofB p.2.name p.2.host s = false

theorem doH_other {H : Hs} {p : Bool × Item} (h : p.2.kind ≠ 0) : doH H p = H := by simp [doH, doD, h]

set_option maxRecDepth 100000 in
set_option maxHeartbeats 800000 in
theorem do_any (r b : Nat) (l : List Item) (did left : List (Bool × Item)) (p : Bool × Item) (H : Hs) (w : World) (hl : l.length ≤ 24) (hm : Mild H p) (h : RackF w r b l did left H) :
    Calls Try.prog 50 #[.pointer (some ⟨r, 0, none⟩), .agg (stCells p.1 p.2)] w fun e w' => RackEnd r b (doI p.1 l p.2) did left (doH H p) w e w' ∧ ∀ o, o ≠ 1 → o ≠ 2 → w'.cell? ⟨r, o, none⟩ = w.cell? ⟨r, o, none⟩ := by
  obtain ⟨pb, y⟩ := p
  simp only [stCells]
  have hbn := below_new w (.cells #[.bool pb, .int .i64 y.kind, .string y.name, .string y.host, .int .i64 y.number, .int .i64 y.size, .string y.disk, .bool y.only, .int .i64 y.lun, .string y.text] 75)
  have hn0 := StAt.new w pb y
  have hsz0 : (w.alloc (.cells #[.bool pb, .int .i64 y.kind, .string y.name, .string y.host, .int .i64 y.number, .int .i64 y.size, .string y.disk, .bool y.only, .int .i64 y.lun, .string y.text] 75)).heap.size = w.heap.size + 1 := by simp
  have hR0 := h.later hbn
  have hlt := h.lt
  have hbr := h.br
  have Hm := hide hm
  clear h hm
  go_enter Try.func50, Try.ntmps50
  go_wp2_with fail
  generalize hW : w.alloc (.cells #[.bool pb, .int .i64 y.kind, .string y.name, .string y.host, .int .i64 y.number, .int .i64 y.size, .string y.disk, .bool y.only, .int .i64 y.lun, .string y.text] 75) = w0 at *
  clear hW
  have Hn0 := hide hn0
  obtain ⟨b0, b1, b2, b3, b4, b5, b6, b7, b8, b9⟩ := hn0.zero
  obtain ⟨v, c1, hrow⟩ := hR0.c1
  have HA := hide fun (n : Nat) => after_at pb v l y (w0.drewN n) hl (items_of_owns (owns_later hrow (below_drewN (Below.refl _ _) n)))
  have HR := hide hR0
  have hfz := hR0.fz
  have hlt0 := hR0.lt
  clear hR0 hrow hn0
  go_region_with (go_at_call 57; refine (unhide HA 1).mono ?_; rintro e w1 ⟨v', rfl, hown, hb1⟩; obtain ⟨va, vc, rfl⟩ := slice_of_owns hown; have c1' := (hb1.cell (p := ⟨r, 1, none⟩) hlt0).trans c1; have hfz' : ∀ o, w1.frozen? ⟨r, o, none⟩ = false := fun o => (hb1.frozen (p := ⟨r, o, none⟩) hlt0).trans (hfz o))
  all_goals
    have hb01 : Below w0.heap.size w0 w1 := (below_drewN (Below.refl w0.heap.size w0) 1).trans hb1
    have hR1 := (unhide HR).later hb01
    have hs0 := hR1.lt
    have hown1 := owns_mono (base' := b + 1) hown (show b + 1 ≤ w0.heap.size by omega)
    have hR2 := hR1.put1 hown1
    have hb02 : Below w.heap.size w w1 := hbn.trans (hb01.mono (by omega))
    have ht2 : TK K1 w _ := (TK.of_below hb02).trans (tk_kt (hR1.setTK 1 (.slice va (doI pb l y).length vc)))
    have hbe2 : Below b w _ := (hb02.mono (by omega : b ≤ w.heap.size)).setCell (p := ⟨r, 1, none⟩) (by simp; omega) (.slice va (doI pb l y).length vc)
    have hoth : ∀ o, o ≠ 1 → (w1.setCell ⟨r, 1, none⟩ (.slice va (doI pb l y).length vc)).cell? ⟨r, o, none⟩ = w.cell? ⟨r, o, none⟩ := fun o ho => by
      rw [World.cell?_setCell_other _ _ _ _ (by intro e; simp only [Addr.mk.injEq] at e; omega)]
      exact hb02.cell (p := ⟨r, o, none⟩) hlt
    have hst2 : StAt (w1.setCell ⟨r, 1, none⟩ (.slice va (doI pb l y).length vc)) w.heap.size 0 (pb, y) := ((unhide Hn0).below hb01 (by omega)).of_cells fun o => World.cell?_setCell_other _ _ _ _ (by intro e; simp only [Addr.mk.injEq] at e; omega)
    have hsz2 : w.heap.size < (w1.setCell ⟨r, 1, none⟩ (.slice va (doI pb l y).length vc)).heap.size := by have := hb01.size; simp [World.setCell]; omega
    clear c1' hfz' hown hown1 b0 b1 b2 b3 b4 b5 b6 b7 b8 b9 HA HR hR1 hb01 hb02 hs0 hb1
    generalize hl' : doI pb l y = l' at *
    generalize hw2 : w1.setCell ⟨r, 1, none⟩ (.slice va l'.length vc) = w2 at *
    have HL' := hide hl'
    clear hl' hw2
    obtain ⟨b0, b1, b2, b3, b4, b5, b6, b7, b8, b9⟩ := hst2.zero
    simp only at b0 b1 b2 b3 b4 b5 b6 b7 b8 b9
    have hbk := below_new w2 (.cells #[.int .i64 y.kind, .string y.name, .string y.host, .int .i64 y.number] 71)
    have hlt2 := hR2.lt
    have HRk := hide (hR2.later hbk)
    have HT := hide (ht2.trans (TK.of_below hbk))
    have HB := hide (hbe2.trans (hbk.mono (show b ≤ w2.heap.size by omega)))
    have HO : Hid (∀ o, o ≠ 1 → (w2.alloc (.cells #[.int .i64 y.kind, .string y.name, .string y.host, .int .i64 y.number] 71)).cell? ⟨r, o, none⟩ = w.cell? ⟨r, o, none⟩) := hide (fun o ho => (hbk.cell (p := ⟨r, o, none⟩) hlt2).trans (hoth o ho))
    have hlk : b < (w2.alloc (.cells #[.int .i64 y.kind, .string y.name, .string y.host, .int .i64 y.number] 71)).heap.size := by simp; omega
    clear hR2 ht2 hbe2 hoth hbk hst2 c1 hfz
    by_cases k0 : y.kind = 0
    · have k0' : (((y.kind : Nat) : Int) == 0) = true := by rw [k0]; rfl
      obtain ⟨sz, hsz⟩ : ∃ n : Nat, y.size = n := ⟨y.size.toNat, by have := (unhide Hm).size.1; simp only at this; omega⟩
      rw [hsz] at b5
      cases pb with
      | true =>
        have HA := hide fun (n : Nat) => (show ∃ v B, B.map Bk.d = H.disks ∧ Calls Try.prog 60 #[.pointer (some ⟨r, 2, none⟩), .string y.name, .int .i64 sz] ((w2.alloc (.cells #[.int .i64 y.kind, .string y.name, .string y.host, .int .i64 y.number] 71)).drewN n) fun e w' => AddEnd r b B ⟨y.name, List.replicate sz 0, -1⟩ ((w2.alloc (.cells #[.int .i64 y.kind, .string y.name, .string y.host, .int .i64 y.number] 71)).drewN n) e w' from by
          have hR1 := (unhide HRk).later (below_drewN (Below.refl _ _) n)
          obtain ⟨v, B, c2, hB, e⟩ := hR1.hs.bank
          have hBl : B.length = H.disks.length := by rw [← List.length_map (f := Bk.d), e]
          have h24 := (unhide Hm).disks
          have h9 := (unhide Hm).size.2
          simp only at h9
          exact ⟨v, B, e, add_any r b sz y.name v B _ (by omega) (by omega) hR1.br hR1.ty c2 (hR1.fz 2) hB⟩)
        have hD : doH H (true, y) = { H with disks := H.disks ++ [⟨y.name, List.replicate sz 0, -1⟩] } := by simp [doH, doD, addD, k0, hsz]
        have HD := hide hD
        clear hD hsz k0
        go_wp2_with fail
        go_region_with (go_at_call 60; obtain ⟨bv, B, eB, hcall⟩ := unhide HA 1; refine hcall.mono ?_; rintro e w4 ⟨rfl, ⟨v', q, hq, c2', hB'⟩, htk4, hbe4, hrc4⟩)
        all_goals
          have hb0 := below_drewN (Below.refl (w2.alloc (.cells #[.int .i64 y.kind, .string y.name, .string y.host, .int .i64 y.number] 71)).heap.size (w2.alloc (.cells #[.int .i64 y.kind, .string y.name, .string y.host, .int .i64 y.number] 71))) 1
          have hR4 := ((unhide HRk).later hb0).banked htk4 hrc4 ⟨v', _, c2', hB', rfl⟩
          rw [List.map_append, eB, List.map_singleton, hq] at hR4
          have htk5 := ((unhide HT).trans (TK.of_below hb0)).trans htk4
          have hbe5 := ((unhide HB).trans (hb0.mono (Nat.le_of_lt hlk))).trans (hbe4.mono (Nat.le_succ b))
          have ho5 : ∀ o, o ≠ 1 → o ≠ 2 → w4.cell? ⟨r, o, none⟩ = w.cell? ⟨r, o, none⟩ := fun o h1 h2 => (hrc4.cell o h2).trans (unhide HO o h1)
          clear hB' c2' htk4 hbe4 hrc4 HA hb0
          go_wp2
          go_end0
          exact ⟨⟨rfl, by rw [unhide HL', unhide HD]; exact hR4, htk5, hbe5⟩, ho5⟩
      | false =>
        have HA := hide fun (n : Nat) => (show ∃ v B, B.map Bk.d = H.disks ∧ Calls Try.prog 75 #[.pointer (some ⟨r, 2, none⟩), .string y.name] ((w2.alloc (.cells #[.int .i64 y.kind, .string y.name, .string y.host, .int .i64 y.number] 71)).drewN n) fun e w' => RemEnd r b B y.name ((w2.alloc (.cells #[.int .i64 y.kind, .string y.name, .string y.host, .int .i64 y.number] 71)).drewN n) e w' from by
          have hR1 := (unhide HRk).later (below_drewN (Below.refl _ _) n)
          obtain ⟨v, B, c2, hB, e⟩ := hR1.hs.bank
          have hBl : B.length = H.disks.length := by rw [← List.length_map (f := Bk.d), e]
          have h24 := (unhide Hm).disks
          exact ⟨v, B, e, remove_any r b y.name v B _ (by omega) hR1.br hR1.ty c2 (hR1.fz 2) hB⟩)
        have hD : doH H (false, y) = { H with disks := remD H.disks y.name } := by simp [doH, doD, k0]
        have HD := hide hD
        clear hD hsz k0
        go_wp2_with fail
        go_region_with (go_at_call 75; obtain ⟨bv, B, eB, hcall⟩ := unhide HA 1; refine hcall.mono ?_; rintro e w4 ⟨rfl, ⟨v', c2', hB'⟩, htk4, hbe4, hrc4⟩)
        all_goals
          have hb0 := below_drewN (Below.refl (w2.alloc (.cells #[.int .i64 y.kind, .string y.name, .string y.host, .int .i64 y.number] 71)).heap.size (w2.alloc (.cells #[.int .i64 y.kind, .string y.name, .string y.host, .int .i64 y.number] 71))) 1
          have hR4 := ((unhide HRk).later hb0).banked htk4 hrc4 ⟨v', _, c2', hB', rfl⟩
          rw [remB_d, eB] at hR4
          have htk5 := ((unhide HT).trans (TK.of_below hb0)).trans htk4
          have hbe5 := ((unhide HB).trans (hb0.mono (Nat.le_of_lt hlk))).trans (hbe4.mono (Nat.le_succ b))
          have ho5 : ∀ o, o ≠ 1 → o ≠ 2 → w4.cell? ⟨r, o, none⟩ = w.cell? ⟨r, o, none⟩ := fun o h1 h2 => (hrc4.cell o h2).trans (unhide HO o h1)
          clear hB' c2' htk4 hbe4 hrc4 HA hb0
          go_wp2
          go_end0
          exact ⟨⟨rfl, by rw [unhide HL', unhide HD]; exact hR4, htk5, hbe5⟩, ho5⟩
    · have k0' : (((y.kind : Nat) : Int) == 0) = false := by rw [beq_eq_false_iff_ne]; omega
      have HD := hide (doH_other (H := H) (p := (pb, y)) k0)
      by_cases k3 : y.kind = 3
      · have k3' : (((y.kind : Nat) : Int) == 3) = true := by rw [k3]; rfl
        cases pb with
        | true =>
          clear k0 k3
          go_wp2_with fail
          go_end0
          exact ⟨⟨rfl, by rw [unhide HL', unhide HD]; exact unhide HRk, unhide HT, unhide HB⟩, fun o h1 _ => unhide HO o h1⟩
        | false =>
          have HE := hide (show Calls Try.prog 76 #[.pointer (some ⟨r, 0, none⟩), .string y.name, .string y.host] (w2.alloc (.cells #[.int .i64 y.kind, .string y.name, .string y.host, .int .i64 y.number] 71)) fun e w' => e = .returned (.tuple #[]) ∧ w' = w2.alloc (.cells #[.int .i64 y.kind, .string y.name, .string y.host, .int .i64 y.number] 71) from by
            obtain ⟨v, c3, hS⟩ := (unhide HRk).hs.ses
            exact ends_none r (b + 1) y.name y.host v H.ses _ (by have := (unhide Hm).few; omega) c3 hS ((unhide Hm).quiet (.inl k3)))
          clear k0 k3
          go_wp2_with fail
          refine (unhide HE).mono ?_
          rintro e w4 ⟨rfl, rfl⟩
          go_wp2_with fail
          go_end0
          exact ⟨⟨rfl, by rw [unhide HL', unhide HD]; exact unhide HRk, unhide HT, unhide HB⟩, fun o h1 _ => unhide HO o h1⟩
      · have k3' : (((y.kind : Nat) : Int) == 3) = false := by rw [beq_eq_false_iff_ne]; omega
        by_cases k4 : y.kind = 4
        · have k4' : (((y.kind : Nat) : Int) == 4) = true := by rw [k4]; rfl
          have HE := hide fun (n : Nat) => (show Calls Try.prog 77 #[.pointer (some ⟨r, 3, none⟩), .string y.name, .string y.host] ((w2.alloc (.cells #[.int .i64 y.kind, .string y.name, .string y.host, .int .i64 y.number] 71)).drewN n) fun e w' => e = .returned (.tuple #[]) ∧ w' = (w2.alloc (.cells #[.int .i64 y.kind, .string y.name, .string y.host, .int .i64 y.number] 71)).drewN n from by
            have hR1 := (unhide HRk).later (below_drewN (Below.refl _ _) n)
            obtain ⟨v, c3, hS⟩ := hR1.hs.ses
            exact tell_none r (b + 1) y.name y.host v H.ses _ (by have := (unhide Hm).few; omega) c3 hS ((unhide Hm).quiet (.inr k4)))
          clear k0 k3 k4
          go_wp2_with fail
          go_region_with (go_at_call 77; refine (unhide HE 1).mono ?_; rintro e w4 ⟨rfl, rfl⟩)
          all_goals
            have hb0 := below_drewN (Below.refl (w2.alloc (.cells #[.int .i64 y.kind, .string y.name, .string y.host, .int .i64 y.number] 71)).heap.size (w2.alloc (.cells #[.int .i64 y.kind, .string y.name, .string y.host, .int .i64 y.number] 71))) 1
            have hR4 := (unhide HRk).later hb0
            have htk5 := (unhide HT).trans (TK.of_below hb0)
            have hbe5 := (unhide HB).trans (hb0.mono (Nat.le_of_lt hlk))
            go_wp2
            go_end0
            exact ⟨⟨rfl, by rw [unhide HL', unhide HD]; exact hR4, htk5, hbe5⟩, fun o h1 _ => unhide HO o h1⟩
        · have k4' : (((y.kind : Nat) : Int) == 4) = false := by rw [beq_eq_false_iff_ne]; omega
          clear k0 k3 k4
          go_wp2_with fail
          go_end0
          exact ⟨⟨rfl, by rw [unhide HL', unhide HD]; exact unhide HRk, unhide HT, unhide HB⟩, fun o h1 _ => unhide HO o h1⟩

end Go.Proofs.Ytdlhgbhaeedbdab
