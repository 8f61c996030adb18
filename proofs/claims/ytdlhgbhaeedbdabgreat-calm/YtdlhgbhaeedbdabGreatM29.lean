/- Ws9, Dev0, Ws10, Un1, CmC, CmD. -/
import Derived.Test.YtdlhgbhaeedbdabGreatM28
import Derived.Test.YtdlhgbhaeedbdabGreatProg
import Derived.Test.YtdlhgbhaeedbdabGreatM1
import Derived.Test.YtdlhgbhaeedbdabGreatM26

/- 'Site.act', walked. -/
namespace Go.Proofs.YtdlhgbhaeedbdabGreat
open Go.RowKit

theorem i64e {k m : Int} (h : k ≠ m) : (k == m) = false := by rw [beq_eq_false_iff_ne]; exact h

end Go.Proofs.YtdlhgbhaeedbdabGreat

/- A new device. -/
namespace Go.Proofs.YtdlhgbhaeedbdabGreat
open Go.RowKit

def devCells : Array Value := (Array.replicate 4096 (.int .u8 0)) ++ #[.slice none 0 0, .int .i64 (-1), .bool false]

set_option maxRecDepth 100000 in
theorem run_newDev (w : World) : (Instr.build 120 #[(3, .int .i64 (-1))]).run Tryz.prog w = .ok (.agg devCells) w := by kernel_rfl

set_option maxRecDepth 100000 in
set_option maxHeartbeats 400000 in
theorem newDevice_any (w : World) : Calls Tryz.prog 40 #[] w fun e w' => e = .returned (.pointer (some ⟨w.heap.size, 0, none⟩)) ∧ w' = w.alloc (.cells devCells 120) := by
  have hb := run_newDev
  go_enter Tryz.func40, Tryz.ntmps40
  go_wp2
  go_ret
  exact ⟨rfl, rfl⟩

end Go.Proofs.YtdlhgbhaeedbdabGreat

/- 'site', 'Whole'. -/
namespace Go.Proofs.YtdlhgbhaeedbdabGreat
open Go.RowKit

theorem dev0_lt (j : Nat) (h : j < 4096) : devCells[j]? = some (.int .u8 0) := by
  unfold devCells
  rw [Array.getElem?_append_left (by simpa using h)]
  simp [h]

theorem dev0_past (j : Nat) : devCells[4096 + j]? = #[Value.slice none 0 0, .int .i64 (-1), .bool false][j]? := by
  unfold devCells
  rw [Array.getElem?_append_right (by simp)]
  simp

theorem api_new0 (w : World) : ApiAt (w.alloc (.cells devCells 120)) w.heap.size (fun _ => 0) (fun _ => 0) [] (-1) false := by
  have hc : ∀ j, (w.alloc (.cells devCells 120)).cell? ⟨w.heap.size, j, none⟩ = devCells[j]? := fun j => World.cell?_alloc_at _ _ _ _ rfl
  refine ⟨⟨_, _, heap_alloc_last w _⟩, fun j hj => ?_, fun j hj => ?_, ⟨.slice none 0 0, ?_, World.ownsRow_nil _ _ _ _⟩, ?_, ?_, fun o => World.frozen?_alloc_at _ _ _ _ rfl, by simp⟩
  · rw [hc, dev0_lt j (by omega)]; rfl
  · rw [hc, dev0_lt _ (by omega)]; rfl
  · rw [hc, show 4096 = 4096 + 0 from rfl, dev0_past]; rfl
  · rw [hc, show 4097 = 4096 + 1 from rfl, dev0_past]; rfl
  · rw [hc, show 4098 = 4096 + 2 from rfl, dev0_past]; rfl

theorem held_new0 : held (fun _ => 0) = ⟨#[]⟩ := by
  unfold held
  have : ∀ r, roomPart (fun _ => 0) r 13 = 0 :: List.replicate 415 0 := fun r => by
    unfold roomPart
    rw [List.map_const']
    simp only [List.length_range]
    rfl
  rw [this]
  unfold untilZ
  rw [List.takeWhile_cons_of_neg (by simp)]

def siteCells (b g : Nat) : Array Value := #[.pointer (some ⟨b, 0, none⟩), .pointer none, .slice (some ⟨g, 0, none⟩) 1 1, .string ⟨#[]⟩, .int .i64 0]

theorem site_new {w : World} {b : Nat} (hb : b < w.heap.size) (ho : w.ownsRow (b + 1) 9 1 (.slice (some ⟨w.heap.size - 1, 0, none⟩) 1 1) [(⟨#[]⟩ : ByteArray)].length ([(⟨#[]⟩ : ByteArray)].map Value.string)) :
    SiteAt hj0.sfro (w.alloc (.cells (siteCells b (w.heap.size - 1)) 38)) w.heap.size b none [⟨#[]⟩] ⟨#[]⟩ 0 := by
  unfold siteCells
  refine ⟨⟨_, (0, 0), heap_alloc_last w _⟩, by go_simp, by go_simp, ⟨_, by go_simp, ho.alloc _⟩, by go_simp, by go_simp, fun o => World.frozen?_alloc_at _ _ _ _ rfl, by simp, hb, SiteFro.none _ _⟩

/-- What 'site' gives. -/
def SiteEnd (w : World) (e : Ending) (w' : World) : Prop :=
  ∃ x b r, e = .returned (.pointer (some ⟨x, 0, none⟩)) ∧ w.heap.size ≤ b ∧ Below w.heap.size w w' ∧ ∀ t, Inv hj0 w' x b [⟨#[]⟩] ⟨#[]⟩ 0 (some r) (-1) false t

set_option maxRecDepth 100000 in
set_option maxHeartbeats 400000 in
theorem site_any (w : World) : Calls Tryz.prog 23 #[] w fun e w' => SiteEnd w e w' := by
  have hnot : ∀ (x : Bool) (w : World), (Op.unary .not (.bool x)).run Tryz.prog w = .ok (.bool (!x)) w := fun _ _ => rfl
  have ha0 := api_new0 w
  have hb1 := below_new w (.cells devCells 120)
  have hs1 : (w.alloc (.cells devCells 120)).heap.size = w.heap.size + 1 := by simp
  generalize hW1 : w.alloc (.cells devCells 120) = w1 at *
  have HN : Hid (Calls Tryz.prog 40 #[] w fun e w' => e = .returned (.pointer (some ⟨w.heap.size, 0, none⟩)) ∧ w' = w1) := hide (by rw [← hW1]; exact newDevice_any w)
  clear hW1
  have ho := str_new w1 ⟨#[]⟩ w.heap.size (by omega)
  have hb2 := below_new w1 (.cells #[.string ⟨#[]⟩] 9)
  have ha2 := ha0.later hb2
  have hs2 : (w1.alloc (.cells #[.string ⟨#[]⟩] 9)).heap.size = w.heap.size + 2 := by simp; omega
  have hx := site_new (w := w1.alloc (.cells #[.string ⟨#[]⟩] 9)) (b := w.heap.size) (by omega) (by rw [hs2, show w.heap.size + 2 - 1 = w1.heap.size by omega]; exact ho)
  have hb3 := below_new (w1.alloc (.cells #[.string ⟨#[]⟩] 9)) (.cells (siteCells w.heap.size ((w1.alloc (.cells #[.string ⟨#[]⟩] 9)).heap.size - 1)) 38)
  have ha3 := ha2.later hb3
  have hbe3 : Below w.heap.size w _ := (hb1.trans (hb2.mono (by omega))).trans (hb3.mono (by omega))
  have hd3 : DevAt _ w.heap.size [⟨#[]⟩] (-1) false := ⟨_, _, [], ha3, by decide, by simp, by simp, fun _ => ⟨rfl, rfl, by rw [held_new0]; simp⟩, (fun h => by cases h)⟩
  rw [hs2, show w.heap.size + 2 - 1 = w1.heap.size by omega] at hx hd3 hbe3
  have HO := hide (sopen_any _ _ _ _ _ _ _ _ _ (by simp) (by simp) (fun s hs => by simp only [List.mem_singleton] at hs; exact hs ▸ canon_nil) hx hd3)
  have c0 := hx.c0
  unfold siteCells at *
  rw [hs1] at HO hbe3 c0
  clear ha0 ho ha2 ha3 hb1 hb2 hb3 hx hd3
  go_enter Tryz.func23, Tryz.ntmps23
  go_wp2_with fail
  refine (unhide HN).mono ?_
  rintro e w2 ⟨rfl, rfl⟩
  go_wp2_with fail
  refine (unhide HO).mono ?_
  rintro e w5 ⟨rfl, l', d', hlow, hbe5, hcase⟩
  obtain ⟨rfl, rfl⟩ := hlow (by decide)
  rcases hcase with ⟨h0, _⟩ | ⟨_, _, r, T, hm, hI⟩
  · cases h0
  · simp only [List.mem_singleton] at hm
    subst hm
    have hbe := hbe3.trans hbe5
    clear HO HN c0
    go_wp2_with fail
    go_ret
    exact ⟨_, _, r, rfl, Nat.le_refl _, hbe, hI⟩

end Go.Proofs.YtdlhgbhaeedbdabGreat

/- A plan gone to its end; 'made'. -/
namespace Go.Proofs.YtdlhgbhaeedbdabGreat
open Go.RowKit

theorem pl_nil {T s : ByteArray} (hT : Canon T) (hs : (chk s).1 = 0) (h0 : (pl T s).length = 0) : prt s = T := by
  have hm : mk (itemsOf T) (itemsOf s) = [] := by
    rw [pl_canon hT.1 hs, stTxts_len] at h0
    exact List.length_eq_zero_iff.1 h0
  obtain ⟨_, m, hw, hp⟩ := plan_walk hT.arr (arrI_of_chk hs)
  rw [hm] at hw
  simp only [stTxts, List.map_nil, wlk, Option.some.injEq] at hw
  subst hw
  rw [prt_prI hs, ← prI_perm hT.arr hp, hT.2]

theorem prt_canon {s : ByteArray} (hs : (chk s).1 = 0) : Canon (prt s) ∧ (itemsOf (prt s)).Perm (itemsOf s) := by
  rw [prt_prI hs]
  obtain ⟨h1, h2, _⟩ := prI_canon (arrI_of_chk hs)
  exact ⟨h1, h2⟩

theorem pl_prt {s t : ByteArray} (hs : (chk s).1 = 0) (ht : (chk t).1 = 0) : pl (prt s) t = pl s t := by
  obtain ⟨h1, h2⟩ := prt_canon hs
  rw [pl_canon h1.1 ht, pl_canon hs ht, mk_perm h1.arr h2]

/-- What Walk tells of the steps that a plan has done. -/
theorem way_text {s t : ByteArray} (hs : (chk s).1 = 0) (ht : (chk t).1 = 0) {l0 l1 : List Item} {did left : List (Bool × Item)} (hp : l0.Perm (itemsOf (prt s))) (hw : Way l0 l1 (itemsOf t) did left) (hm : did ++ left = mk l0 (itemsOf t)) :
    wkErr s ((pl s t).take did.length) = 0 ∧ wkTxt s ((pl s t).take did.length) = prI l1 := by
  obtain ⟨_, h2⟩ := prt_canon hs
  have hp2 : l0.Perm (itemsOf s) := hp.trans h2
  have he : (pl s t).take did.length = stTxts did := by
    rw [pl_canon hs ht, ← mk_perm hw.arr0 hp2, ← hm, stTxts_append, List.take_left' (by rw [stTxts_len])]
  obtain ⟨m, hwm, hpm⟩ := wlk_perm hp2 hw.done
  rw [he]
  refine ⟨by simp [wkErr, hs, wErr, hwm], ?_⟩
  rw [wkTxt, if_pos hs, wOut, hwm]
  exact (prI_perm hw.arr hpm).symm

/-- A site whose plan from T to E goes on: n steps are left. -/
def Going (w : World) (x b r : Nat) (T E : ByteArray) (t : List Item) (n : Nat) : Prop :=
  (0 < n ∧ Inv hj0 w x b [T] E n (some r) (-1) false t) ∨ (n = 0 ∧ ∃ G, Inv hj0 w x b [E] G 0 (some r) (-1) false t)

theorem Going.later {w w' : World} {x b r : Nat} {T E : ByteArray} {t : List Item} {n : Nat} (h : Going w x b r T E t n) (hb : Below w.heap.size w w') : Going w' x b r T E t n := by
  rcases h with ⟨h0, h⟩ | ⟨h0, G, h⟩
  · exact .inl ⟨h0, h.later hb⟩
  · exact .inr ⟨h0, G, h.later hb⟩

theorem Going.c4 {w : World} {x b r : Nat} {T E : ByteArray} {t : List Item} {n : Nat} (h : Going w x b r T E t n) : w.cell? ⟨x, 4, none⟩ = some (.int .i64 n) ∧ b < w.heap.size := by
  rcases h with ⟨h0, h⟩ | ⟨h0, G, h⟩
  · exact ⟨h.site.c4, h.dev.lt⟩
  · subst h0; exact ⟨h.site.c4, h.dev.lt⟩

/-- How many steps the site tells. -/
def leftOf (w : World) (x : Nat) : Nat := match w.cell? ⟨x, 4, none⟩ with | some (.int _ n) => n.toNat | _ => 0
theorem leftOf_eq {w : World} {x n : Nat} (h : w.cell? ⟨x, 4, none⟩ = some (.int .i64 n)) : leftOf w x = n := by simp [leftOf, h]

theorem going_start (x b r : Nat) (T G s : ByteArray) (t : List Item) (w : World) (hs : s.size ≤ maxLen) (h0 : (chk s).1 = 0) (h : Inv hj0 w x b [T] G 0 (some r) (-1) false t) :
    Calls Tryz.prog 13 #[.pointer (some ⟨x, 0, none⟩), .string s] w fun e w' => e = .returned (.bool true) ∧ Going w' x b r T (prt s) (itemsOf s) (pl T s).length ∧ Below b w w' := by
  have hcT := h.canon T (by simp)
  refine (sstart_ok x b r T G s (-1) t w hs h0 (fun _ _ => ⟨trivial, trivial⟩) h).mono ?_
  rintro e w' ⟨rfl, hI, hb⟩
  refine ⟨rfl, ?_, hb⟩
  by_cases hn : (pl T s).length = 0
  · have he := pl_nil hcT h0 hn
    rw [hn] at hI ⊢
    exact .inr ⟨rfl, prt s, by rw [he] at hI ⊢; exact hI⟩
  · exact .inl ⟨by omega, hI⟩

theorem going_step (x b r : Nat) (T E : ByteArray) (t : List Item) (n : Nat) (w : World) (h : Going w x b r T E t (n + 1)) :
    Calls Tryz.prog 24 #[.pointer (some ⟨x, 0, none⟩)] w fun e w' => e = .returned (.bool true) ∧ Going w' x b r T E t n ∧ Below b w w' := by
  rcases h with ⟨_, h⟩ | ⟨h0, _⟩
  · match n with
    | 0 =>
      refine (sstep_last x b r T E (-1) t w h).mono ?_
      rintro e w' ⟨rfl, hb, l', d', hlow, hcase⟩
      obtain ⟨rfl, rfl⟩ := hlow (by decide)
      rcases hcase with ⟨h0, _⟩ | ⟨_, hI⟩
      · cases h0
      · exact ⟨rfl, .inr ⟨rfl, E, hI t⟩, hb⟩
    | m + 1 =>
      refine (sstep_more x b r T E (m + 1) (-1) t w (by omega) h).mono ?_
      rintro e w' ⟨rfl, hI, hb⟩
      exact ⟨rfl, .inl ⟨by omega, hI⟩, hb⟩
  · omega

set_option maxRecDepth 100000 in
set_option maxHeartbeats 400000 in
theorem made_any (s : ByteArray) (w : World) (hs : s.size ≤ maxLen) (h0 : (chk s).1 = 0) :
    Calls Tryz.prog 8 #[.string s] w fun e w' => ∃ x b r G, e = .returned (.pointer (some ⟨x, 0, none⟩)) ∧ w.heap.size ≤ b ∧ Below w.heap.size w w' ∧ Inv hj0 w' x b [prt s] G 0 (some r) (-1) false (itemsOf s) := by
  have hnot : ∀ (x : Bool) (w : World), (Op.unary .not (.bool x)).run Tryz.prog w = .ok (.bool (!x)) w := fun _ _ => rfl
  have hm : (pl ⟨#[]⟩ s).length ≤ 48 := (pl_small ⟨#[]⟩ s).1
  have HG := hide fun (wx : World) (x b r : Nat) (h : Inv hj0 wx x b [⟨#[]⟩] ⟨#[]⟩ 0 (some r) (-1) false []) => going_start x b r ⟨#[]⟩ ⟨#[]⟩ s [] wx hs h0 h
  generalize (pl ⟨#[]⟩ s).length = N at *
  generalize prt s = E at *
  generalize itemsOf s = t at *
  clear h0
  go_enter Tryz.func8, Tryz.ntmps8
  go_wp2_with fail
  refine (site_any _).mono ?_
  rintro e w1 ⟨x, b, r, rfl, hb, hb1, hI⟩
  have HS := hide (unhide HG w1 x b r (hI []))
  clear hI HG
  go_wp2_with fail
  refine (unhide HS).mono ?_
  rintro e w2 ⟨rfl, hGo, hbe2⟩
  have hbe02 : Below w.heap.size w w2 := hb1.trans (hbe2.mono hb)
  have HGo := hide hGo
  clear hGo HS
  go_wp2_with fail
  go_loopw [4] (fun ok wr => ok = .bool true ∧ ∃ n : Nat, n ≤ N ∧ Going wr x b r ⟨#[]⟩ E t n ∧ Below w.heap.size w wr) (fun _ wr => leftOf wr x)
  case atStart => exact ⟨rfl, N, Nat.le_refl _, unhide HGo, hbe02⟩
  case round =>
    obtain ⟨rfl, n, hn, hGo, hbe⟩ := hrel
    obtain ⟨c4, hlb⟩ := hGo.c4
    cases n with
    | zero =>
      have hI : ∃ G, Inv hj0 wr x b [E] G 0 (some r) (-1) false t := by
        rcases hGo with ⟨h, _⟩ | ⟨_, h⟩
        · omega
        · exact h
      have HI := hide hI
      clear hGo hI HGo
      simp only [Int.natCast_zero] at c4
      go_wp2_with fail
      go_ret
      obtain ⟨G, hI⟩ := unhide HI
      exact ⟨x, b, r, G, rfl, hb, hbe, hI⟩
    | succ m =>
      have hpos : (0 : Int) < (m : Int) + 1 := by omega
      have hm1 := leftOf_eq c4
      have HS := hide (going_step x b r ⟨#[]⟩ E t m wr hGo)
      have Hm := hide hm1
      clear hGo HGo hm1
      go_wp2_with fail
      refine (unhide HS).mono ?_
      rintro e w3 ⟨rfl, hGo3, hbe3⟩
      have hbe03 := hbe.trans (hbe3.mono hb)
      have Hm3 := hide (leftOf_eq hGo3.c4.1)
      have HG3 := hide hGo3
      clear HS c4 hGo3
      go_wp2_with fail
      go_roundw
      case rel => exact ⟨by trivial, m, by omega, unhide HG3, hbe03⟩
      case measure => rw [unhide Hm3, unhide Hm]; omega

end Go.Proofs.YtdlhgbhaeedbdabGreat

/- Two racks side by side: what the one does leaves the other as it is. -/
namespace Go.Proofs.YtdlhgbhaeedbdabGreat
open Go.RowKit

/-- What stands in these blocks. -/
def snap (w : World) (out : Nat → Prop) : Gh :=
  ⟨out, fun k o => out k ∧ w.heap[k]? = some o ∧ ∃ cs t fr, o = .cells cs t fr ∧ YT t⟩

theorem snap_some {w : World} {out : Nat → Prop} {k : Nat} {o : Obj} (h : (snap w out).fro k o) : out k ∧ w.heap[k]? = some o ∧ ∃ cs t fr, o = .cells cs t fr ∧ YT t := h

theorem snap_of {w : World} {out : Nat → Prop} {k : Nat} {cs : Array Value} {t : TypeId} {fr : Nat × Nat} (h1 : out k) (h2 : w.heap[k]? = some (Obj.cells cs t fr)) (h3 : YT t) : (snap w out).fro k (.cells cs t fr) := ⟨h1, h2, cs, t, fr, rfl, h3⟩

/-- What was kept apart stays. -/
theorem GapAt.stay {w w' : World} {r : Nat} {out : Nat → Prop} (h : GapAt w' r (snap w out)) {k : Nat} {cs : Array Value} {t : TypeId} {fr : Nat × Nat} (h1 : out k) (h2 : w.heap[k]? = some (Obj.cells cs t fr)) (h3 : YT t) : w'.heap[k]? = w.heap[k]? := by
  rw [h2]
  exact (h.fro k _ (snap_of h1 h2 h3)).2.1

theorem row_stay {w w' : World} {base : Nat} {e : TypeId} {size : Nat} {v : Value} {n : Nat} {xs : List Value} (h : w.ownsRow base e size v n xs) (hb : ∀ (k : Nat) cs fr, v.ownBlock = some k → w.heap[k]? = some (Obj.cells cs e fr) → w'.heap[k]? = w.heap[k]?) : w'.ownsRow base e size v n xs := by
  obtain ⟨hl, ⟨rfl, h0⟩ | ⟨g, cap, cur, rfl, hbs, hg, hr⟩⟩ := h
  · exact ⟨hl, .inl ⟨rfl, h0⟩⟩
  · exact ⟨hl, .inr ⟨g, cap, cur, rfl, hbs, (hb g cur (0, 0) rfl hg).trans hg, hr⟩⟩

/-- A rack is as it was where its blocks are; and what is not its own is told anew. -/
theorem RackF.reseen {w w' : World} {r b : Nat} {l : List Item} {did left : List (Bool × Item)} {H : Hs} (h : RackF w r b l did left H) (out : Nat → Prop) (hsz : w.heap.size ≤ w'.heap.size)
    (hf : ∀ (k : Nat) cs t fr, ¬ H.g.out k → w.heap[k]? = some (Obj.cells cs t fr) → YT t → w'.heap[k]? = w.heap[k]?)
    (hi : ∀ v, w.cell? ⟨r, 1, none⟩ = some v → w.ownsRow (b + 1) 83 9 v l.length (allCells l) → w'.ownsRow (b + 1) 83 9 v l.length (allCells l))
    (hst : (did = [] ∧ left = []) ∨ ∀ (k : Nat) cs fr, w.heap[k]? = some (Obj.cells cs 157 fr) → w'.heap[k]? = w.heap[k]?)
    (h1 : ∀ k, out k → k < w'.heap.size) (h2 : ∀ k, b < k → k < w.heap.size → out k → H.g.out k) : RackF w' r b l did left { H with g := snap w' out } := by
  obtain ⟨⟨cs, fr, hty⟩, c0, ⟨v, c1, hrow⟩, ⟨g, v2, v3, hg, c2, c3, hdid, hleft, hn⟩, c4, fz, lt, br, hs⟩ := h
  obtain ⟨⟨vb, B, cb, hB, eB, hO⟩, ⟨vs, c3', hS, hso⟩, c4', hG⟩ := hs
  have hb : w'.heap[r]? = w.heap[r]? := hf r cs _ fr hG.own hty (.inl rfl)
  have hc : ∀ o, w'.cell? ⟨r, o, none⟩ = w.cell? ⟨r, o, none⟩ := fun o => World.cell?_of_block hb
  have hfz : ∀ o, w'.frozen? ⟨r, o, none⟩ = w.frozen? ⟨r, o, none⟩ := fun o => World.frozen?_of_block hb
  have hno : ∀ k, b < k → k < w.heap.size → ¬ H.g.out k → ¬ out k := fun k a1 a2 a3 a4 => a3 (h2 k a1 a2 a4)
  refine ⟨⟨cs, fr, hb.trans hty⟩, (hc _).trans c0, ⟨v, (hc _).trans c1, hi v c1 hrow⟩, ⟨g, v2, v3, hg, (hc _).trans c2, (hc _).trans c3, ?_, ?_, hn⟩, (hc _).trans c4, fun o => (hfz o).trans (fz o), Nat.lt_of_lt_of_le lt hsz, br, ⟨⟨vb, B, (hc _).trans cb, ⟨?_, ?_, hB.apart⟩, eB, ?_, ?_⟩, ⟨vs, (hc _).trans c3', ?_, ?_⟩, (hc _).trans c4', ?_, h1, fun k o e => snap_some e⟩⟩
  · rcases hst with ⟨rfl, _⟩ | hst
    · rw [hn rfl]; exact World.ownsRow_nil _ _ _ _
    · exact row_stay hdid fun k cs' fr' _ hk => hst k cs' fr' hk
  · rcases hst with ⟨_, rfl⟩ | hst
    · rcases hleft with hleft | ⟨h0, _⟩
      · exact .inl hleft
      · simp at h0
    · exact hleft.block fun ⟨cs', fr', ht'⟩ => hst g cs' fr' ht'
  · exact row_stay hB.row fun k cs' fr' e hk => hf k cs' _ fr' (hO.1 k e) hk (.inr (.inr (.inl rfl)))
  · intro q hq
    have hd := hB.drv q hq
    refine ⟨hd.lo, (hf q.p _ _ _ (hO.2 q hq).1 hd.blk (.inr (.inr (.inr (.inl rfl))))).trans hd.blk, ?_⟩
    exact row_stay hd.row fun k cs' fr' e hk => hf k cs' _ fr' ((hO.2 q hq).2 k e) hk (.inr (.inr (.inr (.inr (.inl rfl)))))
  · intro k e
    have := hB.row.lt k e
    exact hno k (by omega) this.2 (hO.1 k e)
  · intro q hq
    have hd := hB.drv q hq
    have hlo := hd.lo
    refine ⟨hno q.p (by omega) hd.lt (hO.2 q hq).1, fun k e => ?_⟩
    have := hd.row.lt k e
    exact hno k (by omega) this.2 ((hO.2 q hq).2 k e)
  · exact row_stay hS fun k cs' fr' e hk => hf k cs' _ fr' (hso k e) hk (.inr (.inr (.inr (.inr (.inr rfl)))))
  · intro k e
    have := World.ownsRow.lt hS k e
    exact hno k (by omega) this.2 (hso k e)
  · exact hno r br lt hG.own

/-- The rack beside, whose blocks are Y's. -/
structure YRack (w : World) (Y : Nat → Prop) (r b : Nat) (l : List Item) (H : Hs) : Prop where
  rack : RackF w r b l [] [] H
  out : H.g = snap w fun k => k < w.heap.size ∧ ¬ Y k
  item : ∀ v, w.cell? ⟨r, 1, none⟩ = some v → ∀ k, v.ownBlock = some k → Y k
  lt : ∀ k, Y k → k < w.heap.size

def Hs.seen (H : Hs) (w : World) (out : Nat → Prop) : Hs := { H with g := snap w out }

/-- The other rack has done something. -/
theorem YRack.moved {w w' : World} {Y : Nat → Prop} {r b : Nat} {l : List Item} {H : Hs} (h : YRack w Y r b l H) (hsz : w.heap.size ≤ w'.heap.size) {rx : Nat} (hg : GapAt w' rx (snap w Y)) : YRack w' Y r b l (H.seen w' fun k => k < w'.heap.size ∧ ¬ Y k) := by
  have hY : ∀ k cs t fr, ¬ H.g.out k → w.heap[k]? = some (Obj.cells cs t fr) → Y k := by
    intro k cs t fr hno hk
    rw [h.out] at hno
    have hlt : k < w.heap.size := (Array.getElem?_eq_some_iff.1 hk).1
    by_cases hn : Y k
    · exact hn
    · exact absurd ⟨hlt, hn⟩ hno
  obtain ⟨cs, fr, hty⟩ := h.rack.ty
  have hb : w'.heap[r]? = w.heap[r]? := hg.stay (hY r cs _ fr h.rack.hs.gap.own hty) hty (.inl rfl)
  refine ⟨?_, rfl, ?_, fun k hk => Nat.lt_of_lt_of_le (h.lt k hk) hsz⟩
  · refine h.rack.reseen _ hsz (fun k cs t fr hno hk ht => hg.stay (hY k cs t fr hno hk) hk ht) ?_ (.inl ⟨rfl, rfl⟩) (fun k hk => hk.1) ?_
    · intro v hc hrow
      exact row_stay hrow fun k cs fr e hk => hg.stay (h.item v hc k e) hk (.inr (.inl rfl))
    · intro k _ hlt hk
      rw [h.out]
      exact ⟨hlt, hk.2⟩
  · intro v hc
    rw [World.cell?_of_block hb] at hc
    exact h.item v hc

/-- What is Y's when the rack beside has done something. -/
def grewY (Y : Nat → Prop) (w w' : World) (k : Nat) : Prop := Y k ∨ (w.heap.size ≤ k ∧ k < w'.heap.size)

/-- The rack beside has done something: what it is now. -/
theorem YRack.did {w w' : World} {Y : Nat → Prop} {r b : Nat} {l : List Item} {H H' : Hs} (h : YRack w Y r b l H) (hsz : w.heap.size ≤ w'.heap.size) (hR : RackF w' r b l [] [] H') (hg : H'.g = H.g) (hc1 : w'.cell? ⟨r, 1, none⟩ = w.cell? ⟨r, 1, none⟩) : YRack w' (grewY Y w w') r b l (H'.seen w' fun k => k < w'.heap.size ∧ ¬ grewY Y w w' k) := by
  refine ⟨?_, rfl, ?_, ?_⟩
  · refine hR.reseen _ (Nat.le_refl _) (fun _ _ _ _ _ _ _ => rfl) (fun _ _ h => h) (.inl ⟨rfl, rfl⟩) (fun k hk => hk.1) ?_
    intro k _ hlt hk
    rw [hg, h.out]
    refine ⟨?_, fun hY => hk.2 (.inl hY)⟩
    rcases Nat.lt_or_ge k w.heap.size with h1 | h1
    · exact h1
    · exact absurd (.inr ⟨h1, hk.1⟩) hk.2
  · intro v hc k e
    rw [hc1] at hc
    exact .inl (h.item v hc k e)
  · intro k hk
    rcases hk with hk | hk
    · exact Nat.lt_of_lt_of_le (h.lt k hk) hsz
    · exact hk.2

/-- And the other rack is as it was. -/
theorem YRack.aside {T : TypeId → Prop} {w w' : World} {Y : Nat → Prop} {r b : Nat} {l : List Item} {H H' : Hs} (h : YRack w Y r b l H) (hR : RackF w' r b l [] [] H') (hg : H'.g = H.g) (hk : TK T w w') (hT1 : ¬ T 83) (hT2 : ¬ T 157) {rx bx : Nat} {lx : List Item} {did left : List (Bool × Item)} {Hx : Hs} (hx : RackF w rx bx lx did left Hx) (hxo : ∀ k, Hx.g.out k ↔ Y k) :
    RackF w' rx bx lx did left (Hx.seen w' (grewY Y w w')) := by
  have hgap : GapAt w' r (snap w fun k => k < w.heap.size ∧ ¬ Y k) := by
    have := hR.hs.gap
    rw [hg, h.out] at this
    exact this
  refine hx.reseen _ hk.size ?_ (fun v _ hrow => hk.row hT1 hrow) (.inr fun k cs fr e => hk.block k cs _ fr e hT2) ?_ ?_
  · intro k cs t fr hno hkk ht
    exact hgap.stay ⟨(Array.getElem?_eq_some_iff.1 hkk).1, fun hY => hno ((hxo k).2 hY)⟩ hkk ht
  · intro k hkk
    rcases hkk with hY | hY
    · exact Nat.lt_of_lt_of_le (h.lt k hY) hk.size
    · exact hY.2
  · intro k _ hlt hkk
    rcases hkk with hY | hY
    · exact (hxo k).2 hY
    · omega

/-- Another eye on a site that has power. -/
theorem Inv.close {Mj Mj' : HJ} {T' : TypeId → Prop} {w w' : World} {x b r : Nat} {T G : ByteArray} {n : Nat} {l : Int} {t : List Item} (h : Inv Mj w x b [T] G n (some r) l false t) (hk : TK T' w w') (h1 : ¬ T' 38) (h2 : ¬ T' 9) (h3 : ¬ T' 120) (h4 : ¬ T' 147) (hf : SiteFro Mj'.sfro w' x) (hR : RackI Mj' w' r b T t n) :
    Inv Mj' w' x b [T] G n (some r) l false t := by
  obtain ⟨hsite, hdev, hcan, hne, hrack, hgoal⟩ := h
  have hs := hsite.keep hk h1 h2
  exact ⟨⟨hs.ty, hs.c0, hs.c1, hs.c2, hs.c3, hs.c4, hs.fz, hs.lt, hs.bx, hf⟩, hdev.keep hk h3 h4, hcan, hne, .inr ⟨r, rfl, .inr ⟨rfl, T, rfl, hR⟩⟩, hgoal⟩

theorem Inv.gap {sf : Nat → Option Obj} {g : Gh} {tn hn : ByteArray} {N : ByteArray → Prop} {F : ByteArray → Option Drv} {w : World} {x b r : Nat} {A : List ByteArray} {G : ByteArray} {n : Nat} {l : Int} {t : List Item} (h : Inv (hjC sf g tn hn N F) w x b A G n (some r) l false t) : GapAt w r g := by
  obtain ⟨T, _, l1, did, left, ⟨H, hR, _, hJ, _⟩, _⟩ := h.live
  have := hR.hs.gap
  rw [hJ.2.1] at this
  exact this

/-- The other rack has done something; it is told anew what is not its own. -/
theorem Inv.reghost {sf : Nat → Option Obj} {w w' : World} {Y : Nat → Prop} {tn hn : ByteArray} {N : ByteArray → Prop} {F : ByteArray → Option Drv} {x b r : Nat} {T G : ByteArray} {n : Nat} {l : Int} {t : List Item} (h : Inv (hjC sf (snap w Y) tn hn N F) w' x b [T] G n (some r) l false t) : Inv (hjC sf (snap w' Y) tn hn N F) w' x b [T] G n (some r) l false t := by
  obtain ⟨T1, hT1, l1, did, left, ⟨H, hR, hD, hJ, hQ⟩, hrest⟩ := h.live
  simp only [List.cons.injEq, and_true] at hT1
  subst hT1
  have hR' : RackF w' r b l1 did left (H.seen w' Y) := hR.reseen Y (Nat.le_refl _) (fun _ _ _ _ _ _ _ => rfl) (fun _ _ h => h) (.inr fun _ _ _ _ => rfl) (fun k hk => by
    have := hR.hs.gap.lt k
    rw [hJ.2.1] at this
    exact this hk) (fun k _ _ hk => by rw [hJ.2.1]; exact hk)
  exact h.close (TK.refl (fun _ => False) _) id id id id h.site.fro ⟨l1, did, left, ⟨_, hR', hD, ⟨hJ.1, rfl, hJ.2.2⟩, hQ⟩, hrest⟩

end Go.Proofs.YtdlhgbhaeedbdabGreat

/- Two sites, one of which has a plan under way: the calls of a session on both. -/
namespace Go.Proofs.YtdlhgbhaeedbdabGreat
open Go.RowKit

/-- A site whose plan from T to E goes on, or has ended, or was undone. -/
def GoX (Mj : HJ) (w : World) (x b r : Nat) (T E : ByteArray) (t : List Item) (n : Nat) : Prop :=
  ∃ A0 G, Inv Mj w x b [A0] G n (some r) (-1) false t ∧ (0 < n → A0 = T ∧ G = E) ∧ (A0 = T ∨ A0 = E)

theorem GoX.later {Mj : HJ} {w w' : World} {x b r : Nat} {T E : ByteArray} {t : List Item} {n : Nat} (h : GoX Mj w x b r T E t n) (hb : Below w.heap.size w w') : GoX Mj w' x b r T E t n := by
  obtain ⟨A0, G, hI, h⟩ := h
  exact ⟨A0, G, hI.later hb, h⟩

theorem GoX.c4 {Mj : HJ} {w : World} {x b r : Nat} {T E : ByteArray} {t : List Item} {n : Nat} (h : GoX Mj w x b r T E t n) : w.cell? ⟨x, 4, none⟩ = some (.int .i64 n) ∧ w.cell? ⟨x, 1, none⟩ = some (.pointer (some ⟨r, 0, none⟩)) ∧ b < w.heap.size := by
  obtain ⟨A0, G, hI, h⟩ := h
  exact ⟨hI.site.c4, hI.site.c1, hI.dev.lt⟩

theorem gox_start {Mj : HJ} (x b r : Nat) (T G s : ByteArray) (t : List Item) (w : World) (hs : s.size ≤ maxLen) (h0 : (chk s).1 = 0) (hq : ∀ p ∈ mk (itemsOf T) (itemsOf s), QQ Mj p) (h : Inv Mj w x b [T] G 0 (some r) (-1) false t) :
    Calls Tryz.prog 13 #[.pointer (some ⟨x, 0, none⟩), .string s] w fun e w' => e = .returned (.bool true) ∧ GoX Mj w' x b r T (prt s) (itemsOf s) (pl T s).length ∧ Below b w w' := by
  refine (sstart_ok x b r T G s (-1) t w hs h0 hq h).mono ?_
  rintro e w' ⟨rfl, hI, hb⟩
  exact ⟨rfl, ⟨T, prt s, hI, fun _ => ⟨rfl, rfl⟩, .inl rfl⟩, hb⟩

theorem gox_step {Mj : HJ} (x b r : Nat) (T E : ByteArray) (t : List Item) (n : Nat) (w : World) (h : GoX Mj w x b r T E t (n + 1)) :
    Calls Tryz.prog 24 #[.pointer (some ⟨x, 0, none⟩)] w fun e w' => e = .returned (.bool true) ∧ GoX Mj w' x b r T E t n ∧ Below b w w' := by
  obtain ⟨A0, G, h, h1, h2⟩ := h
  obtain ⟨rfl, rfl⟩ := h1 (by omega)
  match n with
  | 0 =>
    refine (sstep_last x b r A0 G (-1) t w h).mono ?_
    rintro e w' ⟨rfl, hb, l', d', hlow, hcase⟩
    obtain ⟨rfl, rfl⟩ := hlow (by decide)
    rcases hcase with ⟨h0, _⟩ | ⟨_, hI⟩
    · cases h0
    · exact ⟨rfl, ⟨G, G, hI t, fun h => absurd h (by omega), .inr rfl⟩, hb⟩
  | m + 1 =>
    refine (sstep_more x b r A0 G (m + 1) (-1) t w (by omega) h).mono ?_
    rintro e w' ⟨rfl, hI, hb⟩
    exact ⟨rfl, ⟨A0, G, hI, fun _ => ⟨rfl, rfl⟩, .inl rfl⟩, hb⟩

theorem gox_undo {Mj : HJ} (x b r : Nat) (f : Bool) (T E : ByteArray) (t : List Item) (n : Nat) (w : World) (h0 : 0 < n) (h : GoX Mj w x b r T E t n) :
    Calls Tryz.prog 34 #[.pointer (some ⟨x, 0, none⟩), .bool f] w fun e w' => e = .returned (.bool true) ∧ GoX Mj w' x b r T E t 0 ∧ Below b w w' := by
  obtain ⟨A0, G, h, h1, h2⟩ := h
  obtain ⟨rfl, rfl⟩ := h1 h0
  refine (sundo_busy x b r f A0 G n (-1) t w h0 h).mono ?_
  rintro e w' ⟨rfl, hI, hb⟩
  exact ⟨rfl, ⟨A0, G, hI t, fun h => absurd h (by omega), .inl rfl⟩, hb⟩

/-- Where the plan is. -/
def AtWay (T E : ByteArray) (t l : List Item) (did left : List (Bool × Item)) : Prop :=
  l.Perm (itemsOf T) ∨ l.Perm (itemsOf E) ∨ ∃ l0, l0.Perm (itemsOf T) ∧ Way l0 l t did left ∧ did ++ left = mk l0 t

/-- The rack of the site, taken out and put back. -/
theorem GoX.out {sf : Nat → Option Obj} {g : Gh} {tn hn : ByteArray} {N : ByteArray → Prop} {F : ByteArray → Option Drv} {w : World} {x b r : Nat} {T E : ByteArray} {t : List Item} {n : Nat} (h : GoX (hjC sf g tn hn N F) w x b r T E t n) :
    ∃ l did left H, RackF w r b l did left H ∧ DOK l H.disks ∧ (hjC sf g tn hn N F).J H ∧ AtWay T E t l did left ∧
      ∀ (T' : TypeId → Prop) (w' : World) (g' : Gh) (F' : ByteArray → Option Drv) (H' : Hs), TK T' w w' → ¬ T' 38 → ¬ T' 9 → ¬ T' 120 → ¬ T' 147 → RackF w' r b l did left H' → DOK l H'.disks → (hjC sf g' tn hn N F').J H' → GoX (hjC sf g' tn hn N F') w' x b r T E t n := by
  obtain ⟨A0, G, hI, h1, h2⟩ := h
  obtain ⟨T1, hT1, l, did, left, ⟨H, hR, hD, hJ, hQ⟩, hnl, h48, hcase⟩ := hI.live
  simp only [List.cons.injEq, and_true] at hT1
  subst hT1
  refine ⟨l, did, left, H, hR, hD, hJ, ?_, ?_⟩
  · rcases hcase with ⟨_, _, hp⟩ | ⟨h0, l0, hp, hw, hm⟩
    · rcases h2 with rfl | rfl
      · exact .inl hp
      · exact .inr (.inl hp)
    · obtain ⟨rfl, _⟩ := h1 (by omega)
      exact .inr (.inr ⟨l0, hp, hw, hm⟩)
  · intro T' w' g' F' H' hk k1 k2 k3 k4 hR' hD' hJ'
    exact ⟨A0, G, hI.close hk k1 k2 k3 k4 (hI.site.fro.keep hk k1) ⟨l, did, left, ⟨H', hR', hD', hJ', hQ⟩, hnl, h48, hcase⟩, h1, h2⟩

theorem GoX.gap {sf : Nat → Option Obj} {g : Gh} {tn hn : ByteArray} {N : ByteArray → Prop} {F : ByteArray → Option Drv} {w : World} {x b r : Nat} {T E : ByteArray} {t : List Item} {n : Nat} (h : GoX (hjC sf g tn hn N F) w x b r T E t n) : GapAt w r g := by
  obtain ⟨A0, G, hI, _⟩ := h
  exact hI.gap

theorem GoX.reghost {sf : Nat → Option Obj} {w w' : World} {Y : Nat → Prop} {tn hn : ByteArray} {N : ByteArray → Prop} {F : ByteArray → Option Drv} {x b r : Nat} {T E : ByteArray} {t : List Item} {n : Nat} (h : GoX (hjC sf (snap w Y) tn hn N F) w' x b r T E t n) : GoX (hjC sf (snap w' Y) tn hn N F) w' x b r T E t n := by
  obtain ⟨A0, G, hI, h⟩ := h
  exact ⟨A0, G, hI.reghost, h⟩

/-- What is fixed while the calls go on. -/
structure Cx where
  sf : Nat → Option Obj
  tn : ByteArray
  hn : ByteArray
  x : Nat
  bx : Nat
  rx : Nat
  T : ByteArray
  E : ByteArray
  t : List Item
  ry : Nat
  bY : Nat
  ly : List Item

def Cx.N (c : Cx) : ByteArray → Prop := seenN c.ly c.tn c.hn
def Cx.z (c : Cx) : Ses := ⟨0, c.tn, c.hn, false⟩

/-- Wherever the plan is, the host sees the same. -/
structure Cx.ok (c : Cx) : Prop where
  few : c.ly.length ≤ 24
  same : ∀ l did left, AtWay c.T c.E c.t l did left → l.length ≤ 24 ∧ (∀ n, lunO l c.tn c.hn n = lunO c.ly c.tn c.hn n) ∧ numsOf c.z (sortTo l l.length) = numsOf c.z (sortTo c.ly c.ly.length)

/-- Both sites, between the calls. -/
def Duo (c : Cx) (w : World) : Prop :=
  ∃ n Y F H, GoX (hjC c.sf (snap w Y) c.tn c.hn c.N F) w c.x c.bx c.rx c.T c.E c.t n ∧ YRack w Y c.ry c.bY c.ly H ∧ H.ses = [c.z] ∧ DOK c.ly H.disks ∧ ∀ m, c.N m → dkD H.disks m = F m

/-- Behind the one's call: what the other will tell. -/
def DuoX (c : Cx) (o : Iox) (t : Td) (s : Nat) (w : World) : Prop :=
  ∃ n Y F H, GoX (hjC c.sf (snap w Y) c.tn c.hn c.N F) w c.x c.bx c.rx c.T c.E c.t n ∧ YRack w Y c.ry c.bY c.ly H ∧ H.ses = [c.z] ∧ DOK c.ly H.disks ∧ tdR H c.ly 0 o = t ∧ (∀ m, c.N m → dkD (tdH H c.ly 0 o).disks m = F m) ∧ ∀ k, Y k → k < s

theorem tdR_seen (H : Hs) (w : World) (out : Nat → Prop) (l : List Item) (o : Iox) : tdR (H.seen w out) l 0 o = tdR H l 0 o := rfl
theorem tdH_seen (H : Hs) (w : World) (out : Nat → Prop) (l : List Item) (o : Iox) : (tdH (H.seen w out) l 0 o).disks = (tdH H l 0 o).disks := by
  have h1 : ∀ n, seeO (H.seen w out) l 0 n = seeO H l 0 n := fun _ => rfl
  unfold tdH wrH rsH rlH
  simp only [h1]
  (repeat' split) <;> rfl

theorem lsR_len (H : Hs) (l : List Item) (s : Int) (hl : l.length ≤ 24) : (lsR H l s).1.length ≤ 24 := by
  unfold lsR
  split
  · simp
  · unfold numsOf
    rw [List.length_map]
    refine Nat.le_trans (List.length_filter_le _ _) ?_
    rw [sortTo_all, (sorted_perm l).length_eq]
    exact hl

theorem tdR_len (H : Hs) (l : List Item) (s : Int) (o : Iox) (hl : l.length ≤ 24) : (tdR H l s o).l.length ≤ 24 := by
  unfold tdR
  (repeat' split) <;> first | exact lsR_len H l s hl | simp

theorem nonews_one {H : Hs} {z : Ses} (h : H.ses = [z]) (hz : z.news = false) : noNews H := by
  intro s hs
  rw [h] at hs
  rw [List.mem_singleton.1 hs]
  exact hz

theorem kd_site : ¬ KD 38 := by unfold KD; decide
theorem kd_str : ¬ KD 9 := by unfold KD; decide
theorem kd_dev : ¬ KD 120 := by unfold KD; decide
theorem kd_late : ¬ KD 147 := by unfold KD; decide

theorem bank_len {B : List Bk} {D : List Drv} {l : List Item} (h1 : B.map Bk.d = D) (h2 : DOK l D) (h3 : l.length ≤ 24) : B.length ≤ 1000 := by
  have h4 := h2.len
  rw [← h1, List.length_map] at h4
  omega

set_option maxHeartbeats 400000 in
/-- The session's call where the plan goes on. -/
theorem duo_callx (c : Cx) (hc : c.ok) (o : Iox) (w : World) (h : Duo c w) :
    Calls Tryz.prog 15 #[.pointer (some ⟨c.rx, 0, none⟩), .int .i64 0, .agg #[.int .i64 o.K, .int .i64 o.N, .int .i64 o.B, .int .i64 o.V, .int .i64 o.S, .int .i64 o.W]] w fun e w' => ∃ u t, e = .returned (.agg #[.int .i64 t.n, u, .int .i64 t.e]) ∧ NumsAt w' w.heap.size u t.l ∧ t.l.length ≤ 24 ∧ t.e ≠ 12 ∧ t.e ≠ 13 ∧ Below c.bx w w' ∧ TK KD w w' ∧ DuoX c o t w.heap.size w' := by
  obtain ⟨n, Y, F, H, hG, hY, hs, hD, hF⟩ := h
  obtain ⟨l, did, left, Hx, hR, hDx, hJ, hW, hput⟩ := hG.out
  obtain ⟨hl, hlun, hnum⟩ := hc.same l did left hW
  obtain ⟨v, B, c2, hB, eB, hO⟩ := hR.hs.bank
  have hq := td_same (Hx := Hx) (Hy := H) (lx := l) (ly := c.ly) (N := c.N) hJ.1 hs o (hlun o.N) hnum (fun u hu => ⟨_, u, hu, rfl⟩) (fun m hm => (hJ.2.2 m hm).trans (hF m hm).symm)
  have hrest := tdH_rest Hx l 0 o
  refine (call_any c.rx c.bx l did left Hx 0 o v B w hl (by rw [hJ.1]; simp) (bank_len eB hDx hl) (nonews_one hJ.1 rfl) hR c2 hB eB).mono ?_
  rintro e w' ⟨u, rfl, hu, _, _, hR', htk, hbe, _⟩
  have hgap : GapAt w' c.rx (snap w Y) := by
    have := hR'.hs.gap
    rw [hrest.2.2, hJ.2.1] at this
    exact this
  have hY' := hY.moved htk.size hgap
  refine ⟨u, _, rfl, hu, tdR_len _ _ _ _ hl, hq.2.1, hq.2.2.1, hbe, htk, n, Y, fun m => dkD (tdH Hx l 0 o).disks m, _, ?_, hY', hs, hD, ?_, ?_, hY.lt⟩
  · have hG' := hput KD w' (snap w Y) (fun m => dkD (tdH Hx l 0 o).disks m) (tdH Hx l 0 o) htk kd_site kd_str kd_dev kd_late hR' (hDx.told l 0 o) ⟨hrest.1.trans hJ.1, hrest.2.2.trans hJ.2.1, fun _ _ => rfl⟩
    exact hG'.reghost
  · rw [tdR_seen]; exact hq.1.symm
  · intro m hm
    rw [tdH_seen]
    exact (hq.2.2.2 m hm).symm

set_option maxHeartbeats 400000 in
/-- And where it does not. -/
theorem duo_cally (c : Cx) (hc : c.ok) (o : Iox) (t : Td) (s : Nat) (w : World) (h : DuoX c o t s w) :
    Calls Tryz.prog 15 #[.pointer (some ⟨c.ry, 0, none⟩), .int .i64 0, .agg #[.int .i64 o.K, .int .i64 o.N, .int .i64 o.B, .int .i64 o.V, .int .i64 o.S, .int .i64 o.W]] w fun e w' => ∃ u, e = .returned (.agg #[.int .i64 t.n, u, .int .i64 t.e]) ∧ NumsAt w' w.heap.size u t.l ∧ Below c.bY w w' ∧ TK KD w w' ∧ Duo c w' ∧ ∀ k, s ≤ k → k < w.heap.size → w'.heap[k]? = w.heap[k]? := by
  obtain ⟨n, Y, F, H, hG, hY, hs, hD, ht, hF, hYs⟩ := h
  obtain ⟨l, did, left, Hx, hR, hDx, hJ, hW, hput⟩ := hG.out
  obtain ⟨v, B, c2, hB, eB, hO⟩ := hY.rack.hs.bank
  have hrest := tdH_rest H c.ly 0 o
  refine (call_any c.ry c.bY c.ly [] [] H 0 o v B w hc.few (by rw [hs]; simp) (bank_len eB hD hc.few) (nonews_one hs rfl) hY.rack c2 hB eB).mono ?_
  rintro e w' ⟨u, rfl, hu, _, _, hR', htk, hbe, hft⟩
  obtain ⟨cs, fr, hty⟩ := hY.rack.ty
  have hc1 : w'.cell? ⟨c.ry, 1, none⟩ = w.cell? ⟨c.ry, 1, none⟩ := World.cell?_of_block (htk.block _ cs _ fr hty kd_rack)
  have hxo : ∀ k, Hx.g.out k ↔ Y k := fun k => by rw [hJ.2.1]; exact Iff.rfl
  have hx' := hY.aside hR' hrest.2.2 htk kd_item kd_step hR hxo
  rw [ht] at hu
  refine ⟨u, by rw [ht], hu, hbe, htk, ⟨n, grewY Y w w', F, _, ?_, hY.did htk.size hR' hrest.2.2 hc1, hrest.1.trans hs, hD.told c.ly 0 o, fun m hm => hF m hm⟩, ?_⟩
  · exact hput KD w' (snap w' (grewY Y w w')) F _ htk kd_site kd_str kd_dev kd_late hx' hDx ⟨hJ.1, rfl, hJ.2.2⟩
  · intro g a1 a2
    have hno : ¬ Y g := fun hg => by have := hYs g hg; omega
    have hout : H.g.out g := by rw [hY.out]; exact ⟨a2, hno⟩
    exact hft g a2 fun q hq => ⟨fun e => (hO.2 q hq).1 (e ▸ hout), fun e => (hO.2 q hq).2 g e hout⟩

/-- What neither site holds has changed. -/
structure NA (T : TypeId → Prop) : Prop where
  a1 : ¬ T 79
  a2 : ¬ T 83
  a3 : ¬ T 157
  a4 : NH T
  a5 : ¬ T 38
  a6 : ¬ T 9
  a7 : ¬ T 120
  a8 : ¬ T 147

theorem na_td : NA KTd := ⟨by unfold KTd; decide, by unfold KTd; decide, by unfold KTd; decide, nh_td, by unfold KTd; decide, by unfold KTd; decide, by unfold KTd; decide, by unfold KTd; decide⟩
theorem na_no : NA (fun _ => False) := ⟨id, id, id, nh_false, id, id, id, id⟩

theorem GoX.keep {Mj : HJ} {T' : TypeId → Prop} {w w' : World} {x b r : Nat} {T E : ByteArray} {t : List Item} {n : Nat} (h : GoX Mj w x b r T E t n) (hk : TK T' w w') (ha : NA T') : GoX Mj w' x b r T E t n := by
  obtain ⟨A0, G, hI, h⟩ := h
  exact ⟨A0, G, hI.keep hk ha.a5 ha.a6 ha.a7 ha.a8 ha.a1 ha.a2 ha.a3 ha.a4, h⟩

theorem Duo.keep {c : Cx} {T' : TypeId → Prop} {w w' : World} (h : Duo c w) (hk : TK T' w w') (ha : NA T') : Duo c w' := by
  obtain ⟨n, Y, F, H, hG, hY, hs, hD, hF⟩ := h
  have hG' := hG.keep hk ha
  exact ⟨n, Y, F, _, hG'.reghost, hY.moved hk.size hG'.gap, hs, hD, hF⟩

theorem DuoX.keep {c : Cx} {o : Iox} {t : Td} {s : Nat} {T' : TypeId → Prop} {w w' : World} (h : DuoX c o t s w) (hk : TK T' w w') (ha : NA T') : DuoX c o t s w' := by
  obtain ⟨n, Y, F, H, hG, hY, hs, hD, ht, hF, hYs⟩ := h
  have hG' := hG.keep hk ha
  exact ⟨n, Y, F, _, hG'.reghost, hY.moved hk.size hG'.gap, hs, hD, by rw [tdR_seen]; exact ht, fun m hm => by rw [tdH_seen]; exact hF m hm, hYs⟩

theorem DuoX.later {c : Cx} {o : Iox} {t : Td} {s : Nat} {w w' : World} (h : DuoX c o t s w) (hb : Below w.heap.size w w') : DuoX c o t s w' := h.keep (TK.of_below hb) na_no

theorem Duo.later {c : Cx} {w w' : World} (h : Duo c w) (hb : Below w.heap.size w w') : Duo c w' := h.keep (TK.of_below hb) na_no

theorem Duo.step {c : Cx} {w w' : World} (n' : Nat) (Y : Nat → Prop) (F : ByteArray → Option Drv) (H : Hs) (hY : YRack w Y c.ry c.bY c.ly H) (hs : H.ses = [c.z]) (hD : DOK c.ly H.disks) (hF : ∀ m, c.N m → dkD H.disks m = F m) (hb : w.heap.size ≤ w'.heap.size) (h : GoX (hjC c.sf (snap w Y) c.tn c.hn c.N F) w' c.x c.bx c.rx c.T c.E c.t n') : Duo c w' :=
  ⟨n', Y, F, _, h.reghost, hY.moved hb h.gap, hs, hD, hF⟩

end Go.Proofs.YtdlhgbhaeedbdabGreat
