/- Ws9, Dev0, Ws10, Un1, Texts2, Sd9, Sd4, Sd6. -/
import Derived.Test.YtdlhgbhaeedbdabM27
import Derived.Test.YtdlhgbhaeedbdabProg
import Derived.Test.YtdlhgbhaeedbdabM1
import Derived.Test.YtdlhgbhaeedbdabM25
import Derived.OpenShut
import Derived.Test.YtdlhgbhaeedbdabM24

/- 'Site.act', walked. -/
namespace Go.Proofs.Ytdlhgbhaeedbdab
open Go.RowKit

theorem i64e {k m : Int} (h : k ≠ m) : (k == m) = false := by rw [beq_eq_false_iff_ne]; exact h

end Go.Proofs.Ytdlhgbhaeedbdab

/- A new device. -/
namespace Go.Proofs.Ytdlhgbhaeedbdab
open Go.RowKit

def devCells : Array Value := (Array.replicate 4096 (.int .u8 0)) ++ #[.slice none 0 0, .int .i64 (-1), .bool false]

set_option maxRecDepth 100000 in
theorem run_newDev (w : World) : (Instr.build 114 #[(3, .int .i64 (-1))]).run Try.prog w = .ok (.agg devCells) w := by kernel_rfl

set_option maxRecDepth 100000 in
set_option maxHeartbeats 400000 in
theorem newDevice_any (w : World) : Calls Try.prog 48 #[] w fun e w' => e = .returned (.pointer (some ⟨w.heap.size, 0, none⟩)) ∧ w' = w.alloc (.cells devCells 114) := by
  have hb := run_newDev
  go_enter Try.func48, Try.ntmps48
  go_wp2
  go_ret
  exact ⟨rfl, rfl⟩

end Go.Proofs.Ytdlhgbhaeedbdab

/- 'site', 'Whole'. -/
namespace Go.Proofs.Ytdlhgbhaeedbdab
open Go.RowKit

theorem dev0_lt (j : Nat) (h : j < 4096) : devCells[j]? = some (.int .u8 0) := by
  unfold devCells
  rw [Array.getElem?_append_left (by simpa using h)]
  simp [h]

theorem dev0_past (j : Nat) : devCells[4096 + j]? = #[Value.slice none 0 0, .int .i64 (-1), .bool false][j]? := by
  unfold devCells
  rw [Array.getElem?_append_right (by simp)]
  simp

theorem api_new0 (w : World) : ApiAt (w.alloc (.cells devCells 114)) w.heap.size (fun _ => 0) (fun _ => 0) [] (-1) false := by
  have hc : ∀ j, (w.alloc (.cells devCells 114)).cell? ⟨w.heap.size, j, none⟩ = devCells[j]? := fun j => World.cell?_alloc_at _ _ _ _ rfl
  refine ⟨⟨_, _, heap_alloc_last w _⟩, fun j hj => ?_, fun j hj => ?_, ⟨.slice none 0 0, ?_, World.ownsRow_nil _ _ _ _⟩, ?_, ?_, fun o => World.frozen?_alloc_at _ _ _ _ rfl, by simp⟩
  · rw [hc, dev0_lt j (by omega)]; rfl
  · rw [hc, dev0_lt _ (by omega)]; rfl
  · rw [hc, show 4096 = 4096 + 0 from rfl, dev0_past]; rfl
  · rw [hc, show 4097 = 4096 + 1 from rfl, dev0_past]; rfl
  · rw [hc, show 4098 = 4096 + 2 from rfl, dev0_past]; rfl

theorem held_new0 : held (fun _ => 0) = ⟨#[]⟩ := by
  unfold held
  have : ∀ r, roomPart (fun _ => 0) r 13 = 0 :: List.replicate 415 0 := fun r => by
    unfold roomPart
    rw [List.map_const']
    simp only [List.length_range]
    rfl
  rw [this]
  unfold untilZ
  rw [List.takeWhile_cons_of_neg (by simp)]

def siteCells (b g : Nat) : Array Value := #[.pointer (some ⟨b, 0, none⟩), .pointer none, .slice (some ⟨g, 0, none⟩) 1 1, .string ⟨#[]⟩, .int .i64 0]

theorem site_new {w : World} {b : Nat} (hb : b < w.heap.size) (ho : w.ownsRow (b + 1) 9 1 (.slice (some ⟨w.heap.size - 1, 0, none⟩) 1 1) [(⟨#[]⟩ : ByteArray)].length ([(⟨#[]⟩ : ByteArray)].map Value.string)) :
    SiteAt (w.alloc (.cells (siteCells b (w.heap.size - 1)) 37)) w.heap.size b none [⟨#[]⟩] ⟨#[]⟩ 0 := by
  unfold siteCells
  refine ⟨⟨_, (0, 0), heap_alloc_last w _⟩, by go_simp, by go_simp, ⟨_, by go_simp, ho.alloc _⟩, by go_simp, by go_simp, fun o => World.frozen?_alloc_at _ _ _ _ rfl, by simp, hb⟩

/-- What 'site' gives. -/
def SiteEnd (w : World) (e : Ending) (w' : World) : Prop :=
  ∃ x b r, e = .returned (.pointer (some ⟨x, 0, none⟩)) ∧ w.heap.size ≤ b ∧ Below w.heap.size w w' ∧ ∀ t, Inv hj0 w' x b [⟨#[]⟩] ⟨#[]⟩ 0 (some r) (-1) false t

set_option maxRecDepth 100000 in
set_option maxHeartbeats 400000 in
theorem site_any (w : World) : Calls Try.prog 23 #[] w fun e w' => SiteEnd w e w' := by
  have hnot : ∀ (x : Bool) (w : World), (Op.unary .not (.bool x)).run Try.prog w = .ok (.bool (!x)) w := fun _ _ => rfl
  have ha0 := api_new0 w
  have hb1 := below_new w (.cells devCells 114)
  have hs1 : (w.alloc (.cells devCells 114)).heap.size = w.heap.size + 1 := by simp
  generalize hW1 : w.alloc (.cells devCells 114) = w1 at *
  have HN : Hid (Calls Try.prog 48 #[] w fun e w' => e = .returned (.pointer (some ⟨w.heap.size, 0, none⟩)) ∧ w' = w1) := hide (by rw [← hW1]; exact newDevice_any w)
  clear hW1
  have ho := str_new w1 ⟨#[]⟩ w.heap.size (by omega)
  have hb2 := below_new w1 (.cells #[.string ⟨#[]⟩] 9)
  have ha2 := ha0.later hb2
  have hs2 : (w1.alloc (.cells #[.string ⟨#[]⟩] 9)).heap.size = w.heap.size + 2 := by simp; omega
  have hx := site_new (w := w1.alloc (.cells #[.string ⟨#[]⟩] 9)) (b := w.heap.size) (by omega) (by rw [hs2, show w.heap.size + 2 - 1 = w1.heap.size by omega]; exact ho)
  have hb3 := below_new (w1.alloc (.cells #[.string ⟨#[]⟩] 9)) (.cells (siteCells w.heap.size ((w1.alloc (.cells #[.string ⟨#[]⟩] 9)).heap.size - 1)) 37)
  have ha3 := ha2.later hb3
  have hbe3 : Below w.heap.size w _ := (hb1.trans (hb2.mono (by omega))).trans (hb3.mono (by omega))
  have hd3 : DevAt _ w.heap.size [⟨#[]⟩] (-1) false := ⟨_, _, [], ha3, by decide, by simp, by simp, fun _ => ⟨rfl, rfl, by rw [held_new0]; simp⟩, (fun h => by cases h)⟩
  rw [hs2, show w.heap.size + 2 - 1 = w1.heap.size by omega] at hx hd3 hbe3
  have HO := hide (sopen_any _ _ _ _ _ _ _ _ _ (by simp) (by simp) (fun s hs => by simp only [List.mem_singleton] at hs; exact hs ▸ canon_nil) hx hd3)
  have c0 := hx.c0
  unfold siteCells at *
  rw [hs1] at HO hbe3 c0
  clear ha0 ho ha2 ha3 hb1 hb2 hb3 hx hd3
  go_enter Try.func23, Try.ntmps23
  go_wp2_with fail
  refine (unhide HN).mono ?_
  rintro e w2 ⟨rfl, rfl⟩
  go_wp2_with fail
  refine (unhide HO).mono ?_
  rintro e w5 ⟨rfl, l', d', hlow, hbe5, hcase⟩
  obtain ⟨rfl, rfl⟩ := hlow (by decide)
  rcases hcase with ⟨h0, _⟩ | ⟨_, _, r, T, hm, hI⟩
  · cases h0
  · simp only [List.mem_singleton] at hm
    subst hm
    have hbe := hbe3.trans hbe5
    clear HO HN c0
    go_wp2_with fail
    go_ret
    exact ⟨_, _, r, rfl, Nat.le_refl _, hbe, hI⟩

end Go.Proofs.Ytdlhgbhaeedbdab

/- A plan gone to its end; 'made'. -/
namespace Go.Proofs.Ytdlhgbhaeedbdab
open Go.RowKit

theorem pl_nil {T s : ByteArray} (hT : Canon T) (hs : (chk s).1 = 0) (h0 : (pl T s).length = 0) : prt s = T := by
  have hm : mk (itemsOf T) (itemsOf s) = [] := by
    rw [pl_canon hT.1 hs, stTxts_len] at h0
    exact List.length_eq_zero_iff.1 h0
  obtain ⟨_, m, hw, hp⟩ := plan_walk hT.arr (arrI_of_chk hs)
  rw [hm] at hw
  simp only [stTxts, List.map_nil, wlk, Option.some.injEq] at hw
  subst hw
  rw [prt_prI hs, ← prI_perm hT.arr hp, hT.2]

theorem prt_canon {s : ByteArray} (hs : (chk s).1 = 0) : Canon (prt s) ∧ (itemsOf (prt s)).Perm (itemsOf s) := by
  rw [prt_prI hs]
  obtain ⟨h1, h2, _⟩ := prI_canon (arrI_of_chk hs)
  exact ⟨h1, h2⟩

theorem pl_prt {s t : ByteArray} (hs : (chk s).1 = 0) (ht : (chk t).1 = 0) : pl (prt s) t = pl s t := by
  obtain ⟨h1, h2⟩ := prt_canon hs
  rw [pl_canon h1.1 ht, pl_canon hs ht, mk_perm h1.arr h2]

/-- What Walk tells of the steps that a plan has done. -/
theorem way_text {s t : ByteArray} (hs : (chk s).1 = 0) (ht : (chk t).1 = 0) {l0 l1 : List Item} {did left : List (Bool × Item)} (hp : l0.Perm (itemsOf (prt s))) (hw : Way l0 l1 (itemsOf t) did left) (hm : did ++ left = mk l0 (itemsOf t)) :
    wkErr s ((pl s t).take did.length) = 0 ∧ wkTxt s ((pl s t).take did.length) = prI l1 := by
  obtain ⟨_, h2⟩ := prt_canon hs
  have hp2 : l0.Perm (itemsOf s) := hp.trans h2
  have he : (pl s t).take did.length = stTxts did := by
    rw [pl_canon hs ht, ← mk_perm hw.arr0 hp2, ← hm, stTxts_append, List.take_left' (by rw [stTxts_len])]
  obtain ⟨m, hwm, hpm⟩ := wlk_perm hp2 hw.done
  rw [he]
  refine ⟨by simp [wkErr, hs, wErr, hwm], ?_⟩
  rw [wkTxt, if_pos hs, wOut, hwm]
  exact (prI_perm hw.arr hpm).symm

/-- A site whose plan from T to E goes on: n steps are left. -/
def Going (w : World) (x b r : Nat) (T E : ByteArray) (t : List Item) (n : Nat) : Prop :=
  (0 < n ∧ Inv hj0 w x b [T] E n (some r) (-1) false t) ∨ (n = 0 ∧ ∃ G, Inv hj0 w x b [E] G 0 (some r) (-1) false t)

theorem Going.later {w w' : World} {x b r : Nat} {T E : ByteArray} {t : List Item} {n : Nat} (h : Going w x b r T E t n) (hb : Below w.heap.size w w') : Going w' x b r T E t n := by
  rcases h with ⟨h0, h⟩ | ⟨h0, G, h⟩
  · exact .inl ⟨h0, h.later hb⟩
  · exact .inr ⟨h0, G, h.later hb⟩

theorem Going.c4 {w : World} {x b r : Nat} {T E : ByteArray} {t : List Item} {n : Nat} (h : Going w x b r T E t n) : w.cell? ⟨x, 4, none⟩ = some (.int .i64 n) ∧ b < w.heap.size := by
  rcases h with ⟨h0, h⟩ | ⟨h0, G, h⟩
  · exact ⟨h.site.c4, h.dev.lt⟩
  · subst h0; exact ⟨h.site.c4, h.dev.lt⟩

/-- How many steps the site tells. -/
def leftOf (w : World) (x : Nat) : Nat := match w.cell? ⟨x, 4, none⟩ with | some (.int _ n) => n.toNat | _ => 0
theorem leftOf_eq {w : World} {x n : Nat} (h : w.cell? ⟨x, 4, none⟩ = some (.int .i64 n)) : leftOf w x = n := by simp [leftOf, h]

theorem going_start (x b r : Nat) (T G s : ByteArray) (t : List Item) (w : World) (hs : s.size ≤ maxLen) (h0 : (chk s).1 = 0) (h : Inv hj0 w x b [T] G 0 (some r) (-1) false t) :
    Calls Try.prog 7 #[.pointer (some ⟨x, 0, none⟩), .string s] w fun e w' => e = .returned (.bool true) ∧ Going w' x b r T (prt s) (itemsOf s) (pl T s).length ∧ Below b w w' := by
  have hcT := h.canon T (by simp)
  refine (sstart_ok x b r T G s (-1) t w hs h0 (fun _ _ => ⟨trivial, trivial⟩) h).mono ?_
  rintro e w' ⟨rfl, hI, hb⟩
  refine ⟨rfl, ?_, hb⟩
  by_cases hn : (pl T s).length = 0
  · have he := pl_nil hcT h0 hn
    rw [hn] at hI ⊢
    exact .inr ⟨rfl, prt s, by rw [he] at hI ⊢; exact hI⟩
  · exact .inl ⟨by omega, hI⟩

theorem going_step (x b r : Nat) (T E : ByteArray) (t : List Item) (n : Nat) (w : World) (h : Going w x b r T E t (n + 1)) :
    Calls Try.prog 9 #[.pointer (some ⟨x, 0, none⟩)] w fun e w' => e = .returned (.bool true) ∧ Going w' x b r T E t n ∧ Below b w w' := by
  rcases h with ⟨_, h⟩ | ⟨h0, _⟩
  · match n with
    | 0 =>
      refine (sstep_last x b r T E (-1) t w h).mono ?_
      rintro e w' ⟨rfl, hb, l', d', hlow, hcase⟩
      obtain ⟨rfl, rfl⟩ := hlow (by decide)
      rcases hcase with ⟨h0, _⟩ | ⟨_, hI⟩
      · cases h0
      · exact ⟨rfl, .inr ⟨rfl, E, hI t⟩, hb⟩
    | m + 1 =>
      refine (sstep_more x b r T E (m + 1) (-1) t w (by omega) h).mono ?_
      rintro e w' ⟨rfl, hI, hb⟩
      exact ⟨rfl, .inl ⟨by omega, hI⟩, hb⟩
  · omega

set_option maxRecDepth 100000 in
set_option maxHeartbeats 400000 in
theorem made_any (s : ByteArray) (w : World) (hs : s.size ≤ maxLen) (h0 : (chk s).1 = 0) :
    Calls Try.prog 6 #[.string s] w fun e w' => ∃ x b r G, e = .returned (.pointer (some ⟨x, 0, none⟩)) ∧ w.heap.size ≤ b ∧ Below w.heap.size w w' ∧ Inv hj0 w' x b [prt s] G 0 (some r) (-1) false (itemsOf s) := by
  have hnot : ∀ (x : Bool) (w : World), (Op.unary .not (.bool x)).run Try.prog w = .ok (.bool (!x)) w := fun _ _ => rfl
  have hm : (pl ⟨#[]⟩ s).length ≤ 48 := (pl_small ⟨#[]⟩ s).1
  have HG := hide fun (wx : World) (x b r : Nat) (h : Inv hj0 wx x b [⟨#[]⟩] ⟨#[]⟩ 0 (some r) (-1) false []) => going_start x b r ⟨#[]⟩ ⟨#[]⟩ s [] wx hs h0 h
  generalize (pl ⟨#[]⟩ s).length = N at *
  generalize prt s = E at *
  generalize itemsOf s = t at *
  clear h0
  go_enter Try.func6, Try.ntmps6
  go_wp2_with fail
  refine (site_any _).mono ?_
  rintro e w1 ⟨x, b, r, rfl, hb, hb1, hI⟩
  have HS := hide (unhide HG w1 x b r (hI []))
  clear hI HG
  go_wp2_with fail
  refine (unhide HS).mono ?_
  rintro e w2 ⟨rfl, hGo, hbe2⟩
  have hbe02 : Below w.heap.size w w2 := hb1.trans (hbe2.mono hb)
  have HGo := hide hGo
  clear hGo HS
  go_wp2_with fail
  go_loopw [4] (fun ok wr => ok = .bool true ∧ ∃ n : Nat, n ≤ N ∧ Going wr x b r ⟨#[]⟩ E t n ∧ Below w.heap.size w wr) (fun _ wr => leftOf wr x)
  case atStart => exact ⟨rfl, N, Nat.le_refl _, unhide HGo, hbe02⟩
  case round =>
    obtain ⟨rfl, n, hn, hGo, hbe⟩ := hrel
    obtain ⟨c4, hlb⟩ := hGo.c4
    cases n with
    | zero =>
      have hI : ∃ G, Inv hj0 wr x b [E] G 0 (some r) (-1) false t := by
        rcases hGo with ⟨h, _⟩ | ⟨_, h⟩
        · omega
        · exact h
      have HI := hide hI
      clear hGo hI HGo
      simp only [Int.natCast_zero] at c4
      go_wp2_with fail
      go_ret
      obtain ⟨G, hI⟩ := unhide HI
      exact ⟨x, b, r, G, rfl, hb, hbe, hI⟩
    | succ m =>
      have hpos : (0 : Int) < (m : Int) + 1 := by omega
      have hm1 := leftOf_eq c4
      have HS := hide (going_step x b r ⟨#[]⟩ E t m wr hGo)
      have Hm := hide hm1
      clear hGo HGo hm1
      go_wp2_with fail
      refine (unhide HS).mono ?_
      rintro e w3 ⟨rfl, hGo3, hbe3⟩
      have hbe03 := hbe.trans (hbe3.mono hb)
      have Hm3 := hide (leftOf_eq hGo3.c4.1)
      have HG3 := hide hGo3
      clear HS c4 hGo3
      go_wp2_with fail
      go_roundw
      case rel => exact ⟨by trivial, m, by omega, unhide HG3, hbe03⟩
      case measure => rw [unhide Hm3, unhide Hm]; omega

end Go.Proofs.Ytdlhgbhaeedbdab

/- 'joined', 'pick', 'ordered'. -/
namespace Go.Proofs.Ytdlhgbhaeedbdab
open Go.RowKit

/-- The texts, one behind the other. -/
def catS (l : List ByteArray) : ByteArray := l.foldl (· ++ ·) ⟨#[]⟩

theorem catS_snoc (l : List ByteArray) (x : ByteArray) : catS (l ++ [x]) = catS l ++ x := by simp [catS]

theorem ret_int {a b : Int} (h : a = b) : Ending.returned (.int .i64 a) = .returned (.int .i64 b) := by rw [h]

theorem pk_bd {c : Int} (h : (Lit.int .i64 c).wf = true) : -9223372036854775808 ≤ c ∧ c ≤ 9223372036854775807 := bounds_i64 h
theorem pk_neg {c : Int} (h : (Lit.int .i64 c).wf = true) (h0 : c < 0) : 0 ≤ wrap64 (-wrap64 (c + 1)) := by
  obtain ⟨a, b⟩ := pk_bd h
  unfold wrap64
  omega
theorem pk_mod (x : Int) (_h : 0 ≤ x) (n : Nat) (hn : 0 < n) : ∃ j : Nat, j < n ∧ x % (n : Int) = (j : Int) :=
  ⟨(x % (n : Int)).toNat, by have := Int.emod_lt_of_pos x (show (0 : Int) < n by omega); have := Int.emod_nonneg x (show (n : Int) ≠ 0 by omega); omega, by have := Int.emod_nonneg x (show (n : Int) ≠ 0 by omega); omega⟩

set_option maxHeartbeats 400000 in
theorem pick_any (c : Int) (n : Nat) (w : World) (hc : (Lit.int .i64 c).wf = true) (hn : 0 < n) (hn2 : n ≤ 1000000) :
    Calls Try.prog 8 #[.int .i64 c, .int .i64 (n : Nat)] w fun e w' => (∃ j : Nat, j < n ∧ e = .returned (.int .i64 (j : Nat))) ∧ w' = w := by
  by_cases h0 : c < 0
  · have hx := pk_neg hc h0
    have hm := pk_mod _ hx n hn
    rw [← Int.tmod_eq_emod_of_nonneg hx] at hm
    obtain ⟨j, hj, hm⟩ := hm
    have Hm := hide hm
    clear hm hx
    go_enter Try.func8, Try.ntmps8
    go_wp2
    go_ret
    refine ⟨⟨j, hj, ?_⟩, rfl⟩
    exact ret_int (unhide Hm)
  · obtain ⟨j, hj, hm⟩ := pk_mod c (by omega) n hn
    have Hm := hide hm
    clear hm
    go_enter Try.func8, Try.ntmps8
    go_wp2
    go_ret
    refine ⟨⟨j, hj, ?_⟩, rfl⟩
    exact ret_int (unhide Hm)

/-- Do the texts stand in order? -/
def ordB (l : List ByteArray) (i : Nat) : Bool :=
  match l[i]?, l[i + 1]? with
  | some x, some y => decide (rankB x ≤ rankB y) && (decide (rankB x ≠ rankB y) || Op.bytesLess x.toList y.toList)
  | _, _ => true

end Go.Proofs.Ytdlhgbhaeedbdab

/- The law Stored: the rack that it begins with. -/
namespace Go.Proofs.Ytdlhgbhaeedbdab
open Go.RowKit

/-- The shelf, new. -/
def Z0 (j : Nat) : Int := if j < 18 then 0 else -1

theorem perm_two {α : Type} {p q u v : α} (h : [p, q].Perm [u, v]) : (p = u ∧ q = v) ∨ (p = v ∧ q = u) := by
  have hp : p = u ∨ p = v := by simpa using h.mem_iff.1 (show p ∈ [p, q] by simp)
  rcases hp with rfl | rfl
  · left
    refine ⟨rfl, ?_⟩
    have h2 := (List.perm_cons p).1 h
    simpa using h2.mem_iff.1 (show q ∈ [q] by simp)
  · right
    refine ⟨rfl, ?_⟩
    have h2 : [p, q].Perm [p, u] := h.trans (List.Perm.swap p u [])
    have h3 := (List.perm_cons p).1 h2
    simpa using h3.mem_iff.1 (show q ∈ [q] by simp)

theorem shop_new {l : List Item} {D : List Drv} (hp : l.Perm shopI) (hD : DOK l D) (hz : ∀ d ∈ D, zeroDrv d) : ∃ ia ib, ShRel D Z0 ia ib := by
  have h1 := hD.perm hp
  have hk : dskOf shopI = [(bs [97], 4), (bs [98], 9)] := rfl
  unfold DOK at h1
  rw [hk] at h1
  have hl := h1.length_eq
  simp only [List.length_map, List.length_cons, List.length_nil] at hl
  match D, hl with
  | [x, y], _ =>
    have hx := hz x (by simp)
    have hy := hz y (by simp)
    obtain ⟨xn, xb, xh⟩ := x
    obtain ⟨yn, yb, yh⟩ := y
    obtain ⟨hx1, hx2⟩ := hx
    obtain ⟨hy1, hy2⟩ := hy
    simp only at hx1 hx2 hy1 hy2
    simp only [List.map_cons, List.map_nil] at h1
    rcases perm_two h1 with ⟨e1, e2⟩ | ⟨e1, e2⟩
    · simp only [Prod.mk.injEq] at e1 e2
      refine ⟨0, 1, .inl ⟨rfl, rfl⟩, rfl, ?_, ?_, by decide, by decide⟩
      · rw [hx2, e1.2, e1.1, hx1]; rfl
      · rw [hy2, e2.2, e2.1, hy1]; rfl
    · simp only [Prod.mk.injEq] at e1 e2
      refine ⟨1, 0, .inr ⟨rfl, rfl⟩, rfl, ?_, ?_, by decide, by decide⟩
      · rw [hy2, e2.2, e2.1, hy1]; rfl
      · rw [hx2, e1.2, e1.1, hx1]; rfl

/-- The site: its rack. -/
def SiteR (w : World) (x r : Nat) : Prop := (∃ cs fr, w.heap[x]? = some (Obj.cells cs 37 fr)) ∧ w.cell? ⟨x, 1, none⟩ = some (.pointer (some ⟨r, 0, none⟩))

theorem SiteR.keep {T : TypeId → Prop} {w w' : World} {x r : Nat} (h : SiteR w x r) (hk : TK T w w') (h1 : ¬ T 37) : SiteR w' x r := by
  obtain ⟨⟨cs, fr, hty⟩, hc⟩ := h
  have hb := hk.block x cs _ fr hty h1
  exact ⟨⟨cs, fr, hb.trans hty⟩, (World.cell?_of_block hb).trans hc⟩

/-- What 'made' leaves, of this arrangement. -/
theorem made_shop (w : World) : Calls Try.prog 6 #[.string shopT] w fun e w' => ∃ x b r l D ia ib, e = .returned (.pointer (some ⟨x, 0, none⟩)) ∧ w.heap.size ≤ b ∧ Below w.heap.size w w' ∧ SiteR w' x r ∧ RackF w' r b l [] [] ⟨D, [], 0⟩ ∧ l.Perm shopI ∧ ShRel D Z0 ia ib := by
  have hs : shopT.size ≤ maxLen := by have := shop_size; unfold maxLen shopT; omega
  refine (made_any shopT w hs shop_chk).mono ?_
  rintro e w' ⟨x, b, r, G, rfl, hb, hbe, hI⟩
  obtain ⟨T, l0, hA, hR, hp⟩ := hI.rest
  simp only [List.cons.injEq, and_true] at hA
  subst hA
  obtain ⟨H, hF, hD, ⟨hJ1, hJ2, hJ3⟩, _⟩ := hR
  have hp2 : l0.Perm shopI := by
    have := hp.trans (prt_canon shop_chk).2
    rwa [shop_items] at this
  obtain ⟨ia, ib, hrel⟩ := shop_new hp2 hD hJ3
  obtain ⟨D, S, n⟩ := H
  simp only at hJ1 hJ2
  subst hJ1 hJ2
  exact ⟨x, b, r, l0, D, ia, ib, rfl, hb, hbe, ⟨hI.site.ty, hI.site.c1⟩, hF, hp2, hrel⟩

theorem host_shop {l : List Item} (hp : l.Perm shopI) (t h : ByteArray) : hostB l t h = hostB shopI t h := any_perm hp _

end Go.Proofs.Ytdlhgbhaeedbdab

/- The law Stored: 'wants', where there is no such block. -/
namespace Go.Proofs.Ytdlhgbhaeedbdab
open Go.RowKit

set_option maxRecDepth 100000 in
set_option maxHeartbeats 1600000 in
theorem want_17r (z : Nat) (Z : Nat → Int) (s : Int) (o : Iox) (d : Int) (u : Bool) (w : World) (hd : d = 0 ∨ d = 1) (a2 : (o.K != 2) = false) (a3 : (o.K == 3) = false) (hb : o.B < 0 ∨ (¬ o.B < 0 ∧ szD d ≤ o.B))
    (hh' : decide (0 ≤ Z (hAt d)) = false ∨ (decide (0 ≤ Z (hAt d)) = true ∧ (Z (hAt d) != s) = false)) (k1' : (o.K == 1) = false) (k4' : (o.K == 4) = false)
    (hs : ∀ wx, Calls Try.prog 42 #[.int .i64 s, .int .i64 o.N] wx fun e w' => e = .returned (.tuple #[.int .i64 d, .bool u]) ∧ w' = wx) (h : ShelfAt w z Z) :
    Calls Try.prog 17 #[.pointer (some ⟨z, 0, none⟩), .int .i64 s, .agg #[.int .i64 o.K, .int .i64 o.N, .int .i64 o.B, .int .i64 o.V, .int .i64 o.S, .int .i64 o.W]] w fun e w' => WantEnd z (Z) (⟨0, [], 17⟩) w e w' := by
  obtain ⟨f1, f2, f3, f4⟩ := callW_facts w o
  obtain ⟨i0, i1, i2, i3⟩ := f4.zero
  have HS := hide hs
  have h2 := h.keep (T := fun _ => False) (TK.of_below f1) id
  have hzc := h2.cell
  have hzf := h2.fz
  have hzl := h.lt
  have hne : ¬ z = w.heap.size + 1 := by omega
  have hne' : ¬ w.heap.size + 1 = z := by omega
  have hne2 : ¬ z = w.heap.size := by omega
  obtain ⟨z0, z1, z2, zf⟩ := td_cells f3
  have hHl : hAt d < 20 := by unfold hAt; omega
  have hch : (callW w o).cell? ⟨z, hAt d, none⟩ = some (.int .i64 (Z (hAt d))) := hzc (hAt d) hHl
  have hf18 := hzf (hAt d)
  obtain ⟨_, hE⟩ := want_same (o := o) h 0 17
  have HE0 := hide hE
  generalize Z (hAt d) = hv at *
  clear hE hzc hzf hHl hs h h2 f1 f2 f3 f4
  rcases hh' with h1 | ⟨h1, h3⟩
  all_goals
    rcases hd with rfl | rfl
    all_goals
      first | (rw [show hAt 0 = 18 from rfl] at *) | (rw [show hAt 1 = 19 from rfl] at *)
      first | (rw [show szD 0 = 4 from rfl] at *) | (rw [show szD 1 = 9 from rfl] at *)
      rcases hb with hb1 | ⟨hb1, hb2⟩
      all_goals
        unfold callW at *
        go_enter Try.func17, Try.ntmps17
        go_wp2_with fail
        generalize hW : (w.alloc (.cells #[.int .i64 o.K, .int .i64 o.N, .int .i64 o.B, .int .i64 o.V, .int .i64 o.S, .int .i64 o.W] 51)).alloc (.cells #[.int .i64 0, .slice none 0 0, .int .i64 0] 54) = W2 at *
        refine (unhide HS _).mono ?_
        rintro e w1 ⟨rfl, rfl⟩
        clear HS hW
        go_wp2_with fail
        refine bodyPost_ret (v := .agg #[.int .i64 0, .slice none 0 0, .int .i64 17]) (by simp [results, Try.results17, go_sem, z0, z1, z2]) rfl ?_
        exact unhide HE0

set_option maxRecDepth 100000 in
set_option maxHeartbeats 1600000 in
theorem want_17w (z : Nat) (Z : Nat → Int) (s : Int) (o : Iox) (d : Int) (w : World) (hd : d = 0 ∨ d = 1) (a2 : (o.K != 2) = true) (a3 : (o.K != 3) = false) (a4 : (o.K == 3) = true) (hb : o.B < 0 ∨ (¬ o.B < 0 ∧ szD d ≤ o.B))
    (hh' : decide (0 ≤ Z (hAt d)) = false ∨ (decide (0 ≤ Z (hAt d)) = true ∧ (Z (hAt d) != s) = false)) (k1' : (o.K == 1) = false) (k4' : (o.K == 4) = false)
    (hs : ∀ wx, Calls Try.prog 42 #[.int .i64 s, .int .i64 o.N] wx fun e w' => e = .returned (.tuple #[.int .i64 d, .bool false]) ∧ w' = wx) (h : ShelfAt w z Z) :
    Calls Try.prog 17 #[.pointer (some ⟨z, 0, none⟩), .int .i64 s, .agg #[.int .i64 o.K, .int .i64 o.N, .int .i64 o.B, .int .i64 o.V, .int .i64 o.S, .int .i64 o.W]] w fun e w' => WantEnd z (Z) (⟨0, [], 17⟩) w e w' := by
  obtain ⟨f1, f2, f3, f4⟩ := callW_facts w o
  obtain ⟨i0, i1, i2, i3⟩ := f4.zero
  have HS := hide hs
  have h2 := h.keep (T := fun _ => False) (TK.of_below f1) id
  have hzc := h2.cell
  have hzf := h2.fz
  have hzl := h.lt
  have hne : ¬ z = w.heap.size + 1 := by omega
  have hne' : ¬ w.heap.size + 1 = z := by omega
  have hne2 : ¬ z = w.heap.size := by omega
  obtain ⟨z0, z1, z2, zf⟩ := td_cells f3
  have hHl : hAt d < 20 := by unfold hAt; omega
  have hch : (callW w o).cell? ⟨z, hAt d, none⟩ = some (.int .i64 (Z (hAt d))) := hzc (hAt d) hHl
  have hf18 := hzf (hAt d)
  obtain ⟨_, hE⟩ := want_same (o := o) h 0 17
  have HE0 := hide hE
  generalize Z (hAt d) = hv at *
  clear hE hzc hzf hHl hs h h2 f1 f2 f3 f4
  rcases hh' with h1 | ⟨h1, h3⟩
  all_goals
    rcases hd with rfl | rfl
    all_goals
      first | (rw [show hAt 0 = 18 from rfl] at *) | (rw [show hAt 1 = 19 from rfl] at *)
      first | (rw [show szD 0 = 4 from rfl] at *) | (rw [show szD 1 = 9 from rfl] at *)
      rcases hb with hb1 | ⟨hb1, hb2⟩
      all_goals
        unfold callW at *
        go_enter Try.func17, Try.ntmps17
        go_wp2_with fail
        generalize hW : (w.alloc (.cells #[.int .i64 o.K, .int .i64 o.N, .int .i64 o.B, .int .i64 o.V, .int .i64 o.S, .int .i64 o.W] 51)).alloc (.cells #[.int .i64 0, .slice none 0 0, .int .i64 0] 54) = W2 at *
        refine (unhide HS _).mono ?_
        rintro e w1 ⟨rfl, rfl⟩
        clear HS hW
        go_wp2_with fail
        refine bodyPost_ret (v := .agg #[.int .i64 0, .slice none 0 0, .int .i64 17]) (by simp [results, Try.results17, go_sem, z0, z1, z2]) rfl ?_
        exact unhide HE0

end Go.Proofs.Ytdlhgbhaeedbdab

/- The law Stored: 'wants', reading and writing. -/
namespace Go.Proofs.Ytdlhgbhaeedbdab
open Go.RowKit

theorem WantEnd.drewN {z : Nat} {Z : Nat → Int} {t : Td} {w w' : World} {e : Ending} (h : WantEnd z Z t w e w') (n : Nat) : WantEnd z Z t w e (w'.drewN n) := by
  obtain ⟨u, h1, h2, h3, h4⟩ := h
  have hb := below_drewN (Below.refl w'.heap.size w') n
  exact ⟨u, h1, h2.keep hb (Nat.le_refl _), h3.keep (T := fun _ => False) (TK.of_below hb) id, gb_drewN h4 n⟩

set_option maxRecDepth 100000 in
set_option maxHeartbeats 1600000 in
theorem want_rd (z : Nat) (Z : Nat → Int) (s : Int) (o : Iox) (d : Int) (u : Bool) (w : World) (hd : d = 0 ∨ d = 1) (a1 : (o.K == 2) = true) (a2 : (o.K != 2) = false) (a3 : (o.K == 3) = false) (n : Nat) (hn : o.B = n) (hb2 : ¬ szD d ≤ (n : Int))
    (hh' : decide (0 ≤ Z (hAt d)) = false ∨ (decide (0 ≤ Z (hAt d)) = true ∧ (Z (hAt d) != s) = false)) (k1' : (o.K == 1) = false) (k4' : (o.K == 4) = false)
    (hs : ∀ wx, Calls Try.prog 42 #[.int .i64 s, .int .i64 o.N] wx fun e w' => e = .returned (.tuple #[.int .i64 d, .bool u]) ∧ w' = wx) (h : ShelfAt w z Z) :
    Calls Try.prog 17 #[.pointer (some ⟨z, 0, none⟩), .int .i64 s, .agg #[.int .i64 o.K, .int .i64 o.N, .int .i64 o.B, .int .i64 o.V, .int .i64 o.S, .int .i64 o.W]] w fun e w' => WantEnd z (Z) (⟨Z (bAt d n), [], 0⟩) w e w' := by
  obtain ⟨f1, f2, f3, f4⟩ := callW_facts w o
  obtain ⟨i0, i1, i2, i3⟩ := f4.zero
  have HS := hide hs
  have h2 := h.keep (T := fun _ => False) (TK.of_below f1) id
  have hzc := h2.cell
  have hzf := h2.fz
  have hzl := h.lt
  have hne : ¬ z = w.heap.size + 1 := by omega
  have hne' : ¬ w.heap.size + 1 = z := by omega
  have hne2 : ¬ z = w.heap.size := by omega
  obtain ⟨z0, z1, z2, zf⟩ := td_cells f3
  have hHl : hAt d < 20 := by unfold hAt; omega
  have hch : (callW w o).cell? ⟨z, hAt d, none⟩ = some (.int .i64 (Z (hAt d))) := hzc (hAt d) hHl
  have hf18 := hzf (hAt d)
  have hb1' : ¬ ((n : Nat) : Int) < 0 := by omega
  have hb2' : ¬ szD d ≤ ((n : Nat) : Int) := by omega
  rw [hn] at i2
  have hbl : bAt d n < 20 := by unfold bAt; unfold szD at hb2; split at hb2 <;> omega
  have hcb : (callW w o).cell? ⟨z, bAt d n, none⟩ = some (.int .i64 (Z (bAt d n))) := hzc (bAt d n) hbl
  have hfb := hzf (bAt d n)
  obtain ⟨_, hE⟩ := want_same (o := o) h (Z (bAt d n)) 0
  have HE0 := hide hE
  generalize Z (bAt d n) = bv at *
  generalize Z (hAt d) = hv at *
  have Hn := hide hn
  clear hE hzc hzf hHl hbl hs h h2 f1 f2 f3 f4 hb2 hn
  rcases hh' with h1 | ⟨h1, h3⟩
  all_goals
    rcases hd with rfl | rfl
    all_goals
      first | (rw [show hAt 0 = 18 from rfl] at *) | (rw [show hAt 1 = 19 from rfl] at *)
      first | (rw [show szD 0 = 4 from rfl] at *) | (rw [show szD 1 = 9 from rfl] at *)
      first | (rw [show bAt 0 n = n from by unfold bAt; omega] at *) | (rw [show bAt 1 n = 9 + n from by unfold bAt; omega] at *)
      have hn9 : ((n : Nat) : Int) < 9 := by omega
      unfold callW at *
      go_enter Try.func17, Try.ntmps17
      go_wp2_with fail
      generalize hW : (w.alloc (.cells #[.int .i64 o.K, .int .i64 o.N, .int .i64 o.B, .int .i64 o.V, .int .i64 o.S, .int .i64 o.W] 51)).alloc (.cells #[.int .i64 0, .slice none 0 0, .int .i64 0] 54) = W2 at *
      refine (unhide HS _).mono ?_
      rintro e w1 ⟨rfl, rfl⟩
      clear HS hW
      go_wp2_with fail
      go_region
      all_goals
        go_wp2_with fail
        refine bodyPost_ret (v := .agg #[.int .i64 bv, .slice none 0 0, .int .i64 0]) (by simp [results, Try.results17, go_sem, z0, z1, z2]) rfl ?_
        exact (unhide HE0).drewN 1

set_option maxRecDepth 100000 in
set_option maxHeartbeats 1600000 in
theorem want_6 (z : Nat) (Z : Nat → Int) (s : Int) (o : Iox) (d : Int) (w : World) (hd : d = 0 ∨ d = 1) (a1 : (o.K == 2) = false) (a2 : (o.K != 2) = true) (a3 : (o.K != 3) = false) (a4 : (o.K == 3) = true) (n : Nat) (hn : o.B = n) (hb2 : ¬ szD d ≤ (n : Int)) (hv' : o.V < 0 ∨ (¬ o.V < 0 ∧ 255 < o.V))
    (hh' : decide (0 ≤ Z (hAt d)) = false ∨ (decide (0 ≤ Z (hAt d)) = true ∧ (Z (hAt d) != s) = false)) (k1' : (o.K == 1) = false) (k4' : (o.K == 4) = false)
    (hs : ∀ wx, Calls Try.prog 42 #[.int .i64 s, .int .i64 o.N] wx fun e w' => e = .returned (.tuple #[.int .i64 d, .bool false]) ∧ w' = wx) (h : ShelfAt w z Z) :
    Calls Try.prog 17 #[.pointer (some ⟨z, 0, none⟩), .int .i64 s, .agg #[.int .i64 o.K, .int .i64 o.N, .int .i64 o.B, .int .i64 o.V, .int .i64 o.S, .int .i64 o.W]] w fun e w' => WantEnd z (Z) (⟨0, [], 6⟩) w e w' := by
  obtain ⟨f1, f2, f3, f4⟩ := callW_facts w o
  obtain ⟨i0, i1, i2, i3⟩ := f4.zero
  have HS := hide hs
  have h2 := h.keep (T := fun _ => False) (TK.of_below f1) id
  have hzc := h2.cell
  have hzf := h2.fz
  have hzl := h.lt
  have hne : ¬ z = w.heap.size + 1 := by omega
  have hne' : ¬ w.heap.size + 1 = z := by omega
  have hne2 : ¬ z = w.heap.size := by omega
  obtain ⟨z0, z1, z2, zf⟩ := td_cells f3
  have hHl : hAt d < 20 := by unfold hAt; omega
  have hch : (callW w o).cell? ⟨z, hAt d, none⟩ = some (.int .i64 (Z (hAt d))) := hzc (hAt d) hHl
  have hf18 := hzf (hAt d)
  have hb1' : ¬ ((n : Nat) : Int) < 0 := by omega
  have hb2' : ¬ szD d ≤ ((n : Nat) : Int) := by omega
  rw [hn] at i2
  have hbl : bAt d n < 20 := by unfold bAt; unfold szD at hb2; split at hb2 <;> omega
  have hcb : (callW w o).cell? ⟨z, bAt d n, none⟩ = some (.int .i64 (Z (bAt d n))) := hzc (bAt d n) hbl
  have hfb := hzf (bAt d n)
  obtain ⟨_, hE⟩ := want_same (o := o) h 0 6
  have HE0 := hide hE
  generalize Z (bAt d n) = bv at *
  generalize Z (hAt d) = hv at *
  clear hE hzc hzf hHl hbl hs h h2 f1 f2 f3 f4 hb2 hn
  rcases hh' with h1 | ⟨h1, h3⟩
  all_goals
    rcases hd with rfl | rfl
    all_goals
      first | (rw [show hAt 0 = 18 from rfl] at *) | (rw [show hAt 1 = 19 from rfl] at *)
      first | (rw [show szD 0 = 4 from rfl] at *) | (rw [show szD 1 = 9 from rfl] at *)
      first | (rw [show bAt 0 n = n from by unfold bAt; omega] at *) | (rw [show bAt 1 n = 9 + n from by unfold bAt; omega] at *)
      rcases hv' with hv1 | ⟨hv1, hv2⟩
      all_goals
        have hn9 : ((n : Nat) : Int) < 9 := by omega
        unfold callW at *
        go_enter Try.func17, Try.ntmps17
        go_wp2_with fail
        generalize hW : (w.alloc (.cells #[.int .i64 o.K, .int .i64 o.N, .int .i64 o.B, .int .i64 o.V, .int .i64 o.S, .int .i64 o.W] 51)).alloc (.cells #[.int .i64 0, .slice none 0 0, .int .i64 0] 54) = W2 at *
        refine (unhide HS _).mono ?_
        rintro e w1 ⟨rfl, rfl⟩
        clear HS hW
        go_wp2_with fail
        refine bodyPost_ret (v := .agg #[.int .i64 0, .slice none 0 0, .int .i64 6]) (by simp [results, Try.results17, go_sem, z0, z1, z2]) rfl ?_
        exact unhide HE0

set_option maxRecDepth 100000 in
set_option maxHeartbeats 1600000 in
theorem want_wr (z : Nat) (Z : Nat → Int) (s : Int) (o : Iox) (d : Int) (w : World) (hd : d = 0 ∨ d = 1) (a1 : (o.K == 2) = false) (a2 : (o.K != 2) = true) (a3 : (o.K != 3) = false) (a4 : (o.K == 3) = true) (n : Nat) (hn : o.B = n) (hb2 : ¬ szD d ≤ (n : Int)) (hv1 : ¬ o.V < 0) (hv2 : ¬ 255 < o.V)
    (hh' : decide (0 ≤ Z (hAt d)) = false ∨ (decide (0 ≤ Z (hAt d)) = true ∧ (Z (hAt d) != s) = false)) (k1' : (o.K == 1) = false) (k4' : (o.K == 4) = false)
    (hs : ∀ wx, Calls Try.prog 42 #[.int .i64 s, .int .i64 o.N] wx fun e w' => e = .returned (.tuple #[.int .i64 d, .bool false]) ∧ w' = wx) (h : ShelfAt w z Z) :
    Calls Try.prog 17 #[.pointer (some ⟨z, 0, none⟩), .int .i64 s, .agg #[.int .i64 o.K, .int .i64 o.N, .int .i64 o.B, .int .i64 o.V, .int .i64 o.S, .int .i64 o.W]] w fun e w' => WantEnd z (setZ Z (bAt d n) o.V) (⟨0, [], 0⟩) w e w' := by
  obtain ⟨f1, f2, f3, f4⟩ := callW_facts w o
  obtain ⟨i0, i1, i2, i3⟩ := f4.zero
  have HS := hide hs
  have h2 := h.keep (T := fun _ => False) (TK.of_below f1) id
  have hzc := h2.cell
  have hzf := h2.fz
  have hzl := h.lt
  have hne : ¬ z = w.heap.size + 1 := by omega
  have hne' : ¬ w.heap.size + 1 = z := by omega
  have hne2 : ¬ z = w.heap.size := by omega
  obtain ⟨z0, z1, z2, zf⟩ := td_cells f3
  have hHl : hAt d < 20 := by unfold hAt; omega
  have hch : (callW w o).cell? ⟨z, hAt d, none⟩ = some (.int .i64 (Z (hAt d))) := hzc (hAt d) hHl
  have hf18 := hzf (hAt d)
  have hb1' : ¬ ((n : Nat) : Int) < 0 := by omega
  have hb2' : ¬ szD d ≤ ((n : Nat) : Int) := by omega
  rw [hn] at i2
  have hbl : bAt d n < 20 := by unfold bAt; unfold szD at hb2; split at hb2 <;> omega
  have hcb : (callW w o).cell? ⟨z, bAt d n, none⟩ = some (.int .i64 (Z (bAt d n))) := hzc (bAt d n) hbl
  have hfb := hzf (bAt d n)
  obtain ⟨⟨y0, y1, y2, yf⟩, hE⟩ := want_set (o := o) h (j := bAt d n) hbl o.V
  have HE0 := hide hE
  generalize Z (bAt d n) = bv at *
  generalize Z (hAt d) = hv at *
  clear hE hzc hzf hHl hbl hs h h2 f1 f2 f3 f4 hb2 hn z0 z1 z2 zf
  rcases hh' with h1 | ⟨h1, h3⟩
  all_goals
    rcases hd with rfl | rfl
    all_goals
      first | (rw [show hAt 0 = 18 from rfl] at *) | (rw [show hAt 1 = 19 from rfl] at *)
      first | (rw [show szD 0 = 4 from rfl] at *) | (rw [show szD 1 = 9 from rfl] at *)
      first | (rw [show bAt 0 n = n from by unfold bAt; omega] at *) | (rw [show bAt 1 n = 9 + n from by unfold bAt; omega] at *)
      have hn9 : ((n : Nat) : Int) < 9 := by omega
      unfold callW at *
      go_enter Try.func17, Try.ntmps17
      go_wp2_with fail
      generalize hW : (w.alloc (.cells #[.int .i64 o.K, .int .i64 o.N, .int .i64 o.B, .int .i64 o.V, .int .i64 o.S, .int .i64 o.W] 51)).alloc (.cells #[.int .i64 0, .slice none 0 0, .int .i64 0] 54) = W2 at *
      refine (unhide HS _).mono ?_
      rintro e w1 ⟨rfl, rfl⟩
      clear HS hW
      go_wp2_with fail
      go_region
      all_goals
        go_wp2_with fail
        refine bodyPost_ret (v := .agg #[.int .i64 0, .slice none 0 0, .int .i64 0]) (by simp [results, Try.results17, go_sem, y0, y1, y2]) rfl ?_
        exact (unhide HE0).drewN 1

end Go.Proofs.Ytdlhgbhaeedbdab
