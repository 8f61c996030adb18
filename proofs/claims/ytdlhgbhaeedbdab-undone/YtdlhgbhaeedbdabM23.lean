/- Ws9, Dev0, Ws10, Un1, Texts2, Un2, Un3. -/
import Derived.Test.YtdlhgbhaeedbdabM22
import Derived.Test.YtdlhgbhaeedbdabProg
import Derived.Test.YtdlhgbhaeedbdabM1
import Derived.Test.YtdlhgbhaeedbdabM20
import Derived.OpenShut

/- 'Site.act', walked. -/
namespace Go.Proofs.Ytdlhgbhaeedbdab
open Go.RowKit

theorem i64e {k m : Int} (h : k ≠ m) : (k == m) = false := by rw [beq_eq_false_iff_ne]; exact h

end Go.Proofs.Ytdlhgbhaeedbdab

/- A new device. -/
namespace Go.Proofs.Ytdlhgbhaeedbdab
open Go.RowKit

def devCells : Array Value := (Array.replicate 4096 (.int .u8 0)) ++ #[.slice none 0 0, .int .i64 (-1), .bool false]

set_option maxRecDepth 100000 in
theorem run_newDev (w : World) : (Instr.build 114 #[(3, .int .i64 (-1))]).run Try.prog w = .ok (.agg devCells) w := by kernel_rfl

set_option maxRecDepth 100000 in
set_option maxHeartbeats 400000 in
theorem newDevice_any (w : World) : Calls Try.prog 48 #[] w fun e w' => e = .returned (.pointer (some ⟨w.heap.size, 0, none⟩)) ∧ w' = w.alloc (.cells devCells 114) := by
  have hb := run_newDev
  go_enter Try.func48, Try.ntmps48
  go_wp2
  go_ret
  exact ⟨rfl, rfl⟩

end Go.Proofs.Ytdlhgbhaeedbdab

/- 'site', 'Whole'. -/
namespace Go.Proofs.Ytdlhgbhaeedbdab
open Go.RowKit

theorem dev0_lt (j : Nat) (h : j < 4096) : devCells[j]? = some (.int .u8 0) := by
  unfold devCells
  rw [Array.getElem?_append_left (by simpa using h)]
  simp [h]

theorem dev0_past (j : Nat) : devCells[4096 + j]? = #[Value.slice none 0 0, .int .i64 (-1), .bool false][j]? := by
  unfold devCells
  rw [Array.getElem?_append_right (by simp)]
  simp

theorem api_new0 (w : World) : ApiAt (w.alloc (.cells devCells 114)) w.heap.size (fun _ => 0) (fun _ => 0) [] (-1) false := by
  have hc : ∀ j, (w.alloc (.cells devCells 114)).cell? ⟨w.heap.size, j, none⟩ = devCells[j]? := fun j => World.cell?_alloc_at _ _ _ _ rfl
  refine ⟨⟨_, _, heap_alloc_last w _⟩, fun j hj => ?_, fun j hj => ?_, ⟨.slice none 0 0, ?_, World.ownsRow_nil _ _ _ _⟩, ?_, ?_, fun o => World.frozen?_alloc_at _ _ _ _ rfl, by simp⟩
  · rw [hc, dev0_lt j (by omega)]; rfl
  · rw [hc, dev0_lt _ (by omega)]; rfl
  · rw [hc, show 4096 = 4096 + 0 from rfl, dev0_past]; rfl
  · rw [hc, show 4097 = 4096 + 1 from rfl, dev0_past]; rfl
  · rw [hc, show 4098 = 4096 + 2 from rfl, dev0_past]; rfl

theorem held_new0 : held (fun _ => 0) = ⟨#[]⟩ := by
  unfold held
  have : ∀ r, roomPart (fun _ => 0) r 13 = 0 :: List.replicate 415 0 := fun r => by
    unfold roomPart
    rw [List.map_const']
    simp only [List.length_range]
    rfl
  rw [this]
  unfold untilZ
  rw [List.takeWhile_cons_of_neg (by simp)]

def siteCells (b g : Nat) : Array Value := #[.pointer (some ⟨b, 0, none⟩), .pointer none, .slice (some ⟨g, 0, none⟩) 1 1, .string ⟨#[]⟩, .int .i64 0]

theorem site_new {w : World} {b : Nat} (hb : b < w.heap.size) (ho : w.ownsRow (b + 1) 9 1 (.slice (some ⟨w.heap.size - 1, 0, none⟩) 1 1) [(⟨#[]⟩ : ByteArray)].length ([(⟨#[]⟩ : ByteArray)].map Value.string)) :
    SiteAt (w.alloc (.cells (siteCells b (w.heap.size - 1)) 37)) w.heap.size b none [⟨#[]⟩] ⟨#[]⟩ 0 := by
  unfold siteCells
  refine ⟨⟨_, (0, 0), heap_alloc_last w _⟩, by go_simp, by go_simp, ⟨_, by go_simp, ho.alloc _⟩, by go_simp, by go_simp, fun o => World.frozen?_alloc_at _ _ _ _ rfl, by simp, hb⟩

/-- What 'site' gives. -/
def SiteEnd (w : World) (e : Ending) (w' : World) : Prop :=
  ∃ x b r, e = .returned (.pointer (some ⟨x, 0, none⟩)) ∧ w.heap.size ≤ b ∧ Below w.heap.size w w' ∧ ∀ t, Inv hj0 w' x b [⟨#[]⟩] ⟨#[]⟩ 0 (some r) (-1) false t

set_option maxRecDepth 100000 in
set_option maxHeartbeats 400000 in
theorem site_any (w : World) : Calls Try.prog 23 #[] w fun e w' => SiteEnd w e w' := by
  have hnot : ∀ (x : Bool) (w : World), (Op.unary .not (.bool x)).run Try.prog w = .ok (.bool (!x)) w := fun _ _ => rfl
  have ha0 := api_new0 w
  have hb1 := below_new w (.cells devCells 114)
  have hs1 : (w.alloc (.cells devCells 114)).heap.size = w.heap.size + 1 := by simp
  generalize hW1 : w.alloc (.cells devCells 114) = w1 at *
  have HN : Hid (Calls Try.prog 48 #[] w fun e w' => e = .returned (.pointer (some ⟨w.heap.size, 0, none⟩)) ∧ w' = w1) := hide (by rw [← hW1]; exact newDevice_any w)
  clear hW1
  have ho := str_new w1 ⟨#[]⟩ w.heap.size (by omega)
  have hb2 := below_new w1 (.cells #[.string ⟨#[]⟩] 9)
  have ha2 := ha0.later hb2
  have hs2 : (w1.alloc (.cells #[.string ⟨#[]⟩] 9)).heap.size = w.heap.size + 2 := by simp; omega
  have hx := site_new (w := w1.alloc (.cells #[.string ⟨#[]⟩] 9)) (b := w.heap.size) (by omega) (by rw [hs2, show w.heap.size + 2 - 1 = w1.heap.size by omega]; exact ho)
  have hb3 := below_new (w1.alloc (.cells #[.string ⟨#[]⟩] 9)) (.cells (siteCells w.heap.size ((w1.alloc (.cells #[.string ⟨#[]⟩] 9)).heap.size - 1)) 37)
  have ha3 := ha2.later hb3
  have hbe3 : Below w.heap.size w _ := (hb1.trans (hb2.mono (by omega))).trans (hb3.mono (by omega))
  have hd3 : DevAt _ w.heap.size [⟨#[]⟩] (-1) false := ⟨_, _, [], ha3, by decide, by simp, by simp, fun _ => ⟨rfl, rfl, by rw [held_new0]; simp⟩, (fun h => by cases h)⟩
  rw [hs2, show w.heap.size + 2 - 1 = w1.heap.size by omega] at hx hd3 hbe3
  have HO := hide (sopen_any _ _ _ _ _ _ _ _ _ (by simp) (by simp) (fun s hs => by simp only [List.mem_singleton] at hs; exact hs ▸ canon_nil) hx hd3)
  have c0 := hx.c0
  unfold siteCells at *
  rw [hs1] at HO hbe3 c0
  clear ha0 ho ha2 ha3 hb1 hb2 hb3 hx hd3
  go_enter Try.func23, Try.ntmps23
  go_wp2_with fail
  refine (unhide HN).mono ?_
  rintro e w2 ⟨rfl, rfl⟩
  go_wp2_with fail
  refine (unhide HO).mono ?_
  rintro e w5 ⟨rfl, l', d', hlow, hbe5, hcase⟩
  obtain ⟨rfl, rfl⟩ := hlow (by decide)
  rcases hcase with ⟨h0, _⟩ | ⟨_, _, r, T, hm, hI⟩
  · cases h0
  · simp only [List.mem_singleton] at hm
    subst hm
    have hbe := hbe3.trans hbe5
    clear HO HN c0
    go_wp2_with fail
    go_ret
    exact ⟨_, _, r, rfl, Nat.le_refl _, hbe, hI⟩

end Go.Proofs.Ytdlhgbhaeedbdab

/- A plan gone to its end; 'made'. -/
namespace Go.Proofs.Ytdlhgbhaeedbdab
open Go.RowKit

theorem pl_nil {T s : ByteArray} (hT : Canon T) (hs : (chk s).1 = 0) (h0 : (pl T s).length = 0) : prt s = T := by
  have hm : mk (itemsOf T) (itemsOf s) = [] := by
    rw [pl_canon hT.1 hs, stTxts_len] at h0
    exact List.length_eq_zero_iff.1 h0
  obtain ⟨_, m, hw, hp⟩ := plan_walk hT.arr (arrI_of_chk hs)
  rw [hm] at hw
  simp only [stTxts, List.map_nil, wlk, Option.some.injEq] at hw
  subst hw
  rw [prt_prI hs, ← prI_perm hT.arr hp, hT.2]

theorem prt_canon {s : ByteArray} (hs : (chk s).1 = 0) : Canon (prt s) ∧ (itemsOf (prt s)).Perm (itemsOf s) := by
  rw [prt_prI hs]
  obtain ⟨h1, h2, _⟩ := prI_canon (arrI_of_chk hs)
  exact ⟨h1, h2⟩

theorem pl_prt {s t : ByteArray} (hs : (chk s).1 = 0) (ht : (chk t).1 = 0) : pl (prt s) t = pl s t := by
  obtain ⟨h1, h2⟩ := prt_canon hs
  rw [pl_canon h1.1 ht, pl_canon hs ht, mk_perm h1.arr h2]

/-- What Walk tells of the steps that a plan has done. -/
theorem way_text {s t : ByteArray} (hs : (chk s).1 = 0) (ht : (chk t).1 = 0) {l0 l1 : List Item} {did left : List (Bool × Item)} (hp : l0.Perm (itemsOf (prt s))) (hw : Way l0 l1 (itemsOf t) did left) (hm : did ++ left = mk l0 (itemsOf t)) :
    wkErr s ((pl s t).take did.length) = 0 ∧ wkTxt s ((pl s t).take did.length) = prI l1 := by
  obtain ⟨_, h2⟩ := prt_canon hs
  have hp2 : l0.Perm (itemsOf s) := hp.trans h2
  have he : (pl s t).take did.length = stTxts did := by
    rw [pl_canon hs ht, ← mk_perm hw.arr0 hp2, ← hm, stTxts_append, List.take_left' (by rw [stTxts_len])]
  obtain ⟨m, hwm, hpm⟩ := wlk_perm hp2 hw.done
  rw [he]
  refine ⟨by simp [wkErr, hs, wErr, hwm], ?_⟩
  rw [wkTxt, if_pos hs, wOut, hwm]
  exact (prI_perm hw.arr hpm).symm

/-- A site whose plan from T to E goes on: n steps are left. -/
def Going (w : World) (x b r : Nat) (T E : ByteArray) (t : List Item) (n : Nat) : Prop :=
  (0 < n ∧ Inv hj0 w x b [T] E n (some r) (-1) false t) ∨ (n = 0 ∧ ∃ G, Inv hj0 w x b [E] G 0 (some r) (-1) false t)

theorem Going.later {w w' : World} {x b r : Nat} {T E : ByteArray} {t : List Item} {n : Nat} (h : Going w x b r T E t n) (hb : Below w.heap.size w w') : Going w' x b r T E t n := by
  rcases h with ⟨h0, h⟩ | ⟨h0, G, h⟩
  · exact .inl ⟨h0, h.later hb⟩
  · exact .inr ⟨h0, G, h.later hb⟩

theorem Going.c4 {w : World} {x b r : Nat} {T E : ByteArray} {t : List Item} {n : Nat} (h : Going w x b r T E t n) : w.cell? ⟨x, 4, none⟩ = some (.int .i64 n) ∧ b < w.heap.size := by
  rcases h with ⟨h0, h⟩ | ⟨h0, G, h⟩
  · exact ⟨h.site.c4, h.dev.lt⟩
  · subst h0; exact ⟨h.site.c4, h.dev.lt⟩

/-- How many steps the site tells. -/
def leftOf (w : World) (x : Nat) : Nat := match w.cell? ⟨x, 4, none⟩ with | some (.int _ n) => n.toNat | _ => 0
theorem leftOf_eq {w : World} {x n : Nat} (h : w.cell? ⟨x, 4, none⟩ = some (.int .i64 n)) : leftOf w x = n := by simp [leftOf, h]

theorem going_start (x b r : Nat) (T G s : ByteArray) (t : List Item) (w : World) (hs : s.size ≤ maxLen) (h0 : (chk s).1 = 0) (h : Inv hj0 w x b [T] G 0 (some r) (-1) false t) :
    Calls Try.prog 7 #[.pointer (some ⟨x, 0, none⟩), .string s] w fun e w' => e = .returned (.bool true) ∧ Going w' x b r T (prt s) (itemsOf s) (pl T s).length ∧ Below b w w' := by
  have hcT := h.canon T (by simp)
  refine (sstart_ok x b r T G s (-1) t w hs h0 (fun _ _ => ⟨trivial, trivial⟩) h).mono ?_
  rintro e w' ⟨rfl, hI, hb⟩
  refine ⟨rfl, ?_, hb⟩
  by_cases hn : (pl T s).length = 0
  · have he := pl_nil hcT h0 hn
    rw [hn] at hI ⊢
    exact .inr ⟨rfl, prt s, by rw [he] at hI ⊢; exact hI⟩
  · exact .inl ⟨by omega, hI⟩

theorem going_step (x b r : Nat) (T E : ByteArray) (t : List Item) (n : Nat) (w : World) (h : Going w x b r T E t (n + 1)) :
    Calls Try.prog 9 #[.pointer (some ⟨x, 0, none⟩)] w fun e w' => e = .returned (.bool true) ∧ Going w' x b r T E t n ∧ Below b w w' := by
  rcases h with ⟨_, h⟩ | ⟨h0, _⟩
  · match n with
    | 0 =>
      refine (sstep_last x b r T E (-1) t w h).mono ?_
      rintro e w' ⟨rfl, hb, l', d', hlow, hcase⟩
      obtain ⟨rfl, rfl⟩ := hlow (by decide)
      rcases hcase with ⟨h0, _⟩ | ⟨_, hI⟩
      · cases h0
      · exact ⟨rfl, .inr ⟨rfl, E, hI t⟩, hb⟩
    | m + 1 =>
      refine (sstep_more x b r T E (m + 1) (-1) t w (by omega) h).mono ?_
      rintro e w' ⟨rfl, hI, hb⟩
      exact ⟨rfl, .inl ⟨by omega, hI⟩, hb⟩
  · omega

set_option maxRecDepth 100000 in
set_option maxHeartbeats 400000 in
theorem made_any (s : ByteArray) (w : World) (hs : s.size ≤ maxLen) (h0 : (chk s).1 = 0) :
    Calls Try.prog 6 #[.string s] w fun e w' => ∃ x b r G, e = .returned (.pointer (some ⟨x, 0, none⟩)) ∧ w.heap.size ≤ b ∧ Below w.heap.size w w' ∧ Inv hj0 w' x b [prt s] G 0 (some r) (-1) false (itemsOf s) := by
  have hnot : ∀ (x : Bool) (w : World), (Op.unary .not (.bool x)).run Try.prog w = .ok (.bool (!x)) w := fun _ _ => rfl
  have hm : (pl ⟨#[]⟩ s).length ≤ 48 := (pl_small ⟨#[]⟩ s).1
  have HG := hide fun (wx : World) (x b r : Nat) (h : Inv hj0 wx x b [⟨#[]⟩] ⟨#[]⟩ 0 (some r) (-1) false []) => going_start x b r ⟨#[]⟩ ⟨#[]⟩ s [] wx hs h0 h
  generalize (pl ⟨#[]⟩ s).length = N at *
  generalize prt s = E at *
  generalize itemsOf s = t at *
  clear h0
  go_enter Try.func6, Try.ntmps6
  go_wp2_with fail
  refine (site_any _).mono ?_
  rintro e w1 ⟨x, b, r, rfl, hb, hb1, hI⟩
  have HS := hide (unhide HG w1 x b r (hI []))
  clear hI HG
  go_wp2_with fail
  refine (unhide HS).mono ?_
  rintro e w2 ⟨rfl, hGo, hbe2⟩
  have hbe02 : Below w.heap.size w w2 := hb1.trans (hbe2.mono hb)
  have HGo := hide hGo
  clear hGo HS
  go_wp2_with fail
  go_loopw [4] (fun ok wr => ok = .bool true ∧ ∃ n : Nat, n ≤ N ∧ Going wr x b r ⟨#[]⟩ E t n ∧ Below w.heap.size w wr) (fun _ wr => leftOf wr x)
  case atStart => exact ⟨rfl, N, Nat.le_refl _, unhide HGo, hbe02⟩
  case round =>
    obtain ⟨rfl, n, hn, hGo, hbe⟩ := hrel
    obtain ⟨c4, hlb⟩ := hGo.c4
    cases n with
    | zero =>
      have hI : ∃ G, Inv hj0 wr x b [E] G 0 (some r) (-1) false t := by
        rcases hGo with ⟨h, _⟩ | ⟨_, h⟩
        · omega
        · exact h
      have HI := hide hI
      clear hGo hI HGo
      simp only [Int.natCast_zero] at c4
      go_wp2_with fail
      go_ret
      obtain ⟨G, hI⟩ := unhide HI
      exact ⟨x, b, r, G, rfl, hb, hbe, hI⟩
    | succ m =>
      have hpos : (0 : Int) < (m : Int) + 1 := by omega
      have hm1 := leftOf_eq c4
      have HS := hide (going_step x b r ⟨#[]⟩ E t m wr hGo)
      have Hm := hide hm1
      clear hGo HGo hm1
      go_wp2_with fail
      refine (unhide HS).mono ?_
      rintro e w3 ⟨rfl, hGo3, hbe3⟩
      have hbe03 := hbe.trans (hbe3.mono hb)
      have Hm3 := hide (leftOf_eq hGo3.c4.1)
      have HG3 := hide hGo3
      clear HS c4 hGo3
      go_wp2_with fail
      go_roundw
      case rel => exact ⟨by trivial, m, by omega, unhide HG3, hbe03⟩
      case measure => rw [unhide Hm3, unhide Hm]; omega

end Go.Proofs.Ytdlhgbhaeedbdab

/- 'joined', 'pick', 'ordered'. -/
namespace Go.Proofs.Ytdlhgbhaeedbdab
open Go.RowKit

/-- The texts, one behind the other. -/
def catS (l : List ByteArray) : ByteArray := l.foldl (· ++ ·) ⟨#[]⟩

theorem catS_snoc (l : List ByteArray) (x : ByteArray) : catS (l ++ [x]) = catS l ++ x := by simp [catS]

theorem ret_int {a b : Int} (h : a = b) : Ending.returned (.int .i64 a) = .returned (.int .i64 b) := by rw [h]

theorem pk_bd {c : Int} (h : (Lit.int .i64 c).wf = true) : -9223372036854775808 ≤ c ∧ c ≤ 9223372036854775807 := bounds_i64 h
theorem pk_neg {c : Int} (h : (Lit.int .i64 c).wf = true) (h0 : c < 0) : 0 ≤ wrap64 (-wrap64 (c + 1)) := by
  obtain ⟨a, b⟩ := pk_bd h
  unfold wrap64
  omega
theorem pk_mod (x : Int) (_h : 0 ≤ x) (n : Nat) (hn : 0 < n) : ∃ j : Nat, j < n ∧ x % (n : Int) = (j : Int) :=
  ⟨(x % (n : Int)).toNat, by have := Int.emod_lt_of_pos x (show (0 : Int) < n by omega); have := Int.emod_nonneg x (show (n : Int) ≠ 0 by omega); omega, by have := Int.emod_nonneg x (show (n : Int) ≠ 0 by omega); omega⟩

set_option maxHeartbeats 400000 in
theorem pick_any (c : Int) (n : Nat) (w : World) (hc : (Lit.int .i64 c).wf = true) (hn : 0 < n) (hn2 : n ≤ 1000000) :
    Calls Try.prog 8 #[.int .i64 c, .int .i64 (n : Nat)] w fun e w' => (∃ j : Nat, j < n ∧ e = .returned (.int .i64 (j : Nat))) ∧ w' = w := by
  by_cases h0 : c < 0
  · have hx := pk_neg hc h0
    have hm := pk_mod _ hx n hn
    rw [← Int.tmod_eq_emod_of_nonneg hx] at hm
    obtain ⟨j, hj, hm⟩ := hm
    have Hm := hide hm
    clear hm hx
    go_enter Try.func8, Try.ntmps8
    go_wp2
    go_ret
    refine ⟨⟨j, hj, ?_⟩, rfl⟩
    exact ret_int (unhide Hm)
  · obtain ⟨j, hj, hm⟩ := pk_mod c (by omega) n hn
    have Hm := hide hm
    clear hm
    go_enter Try.func8, Try.ntmps8
    go_wp2
    go_ret
    refine ⟨⟨j, hj, ?_⟩, rfl⟩
    exact ret_int (unhide Hm)

/-- Do the texts stand in order? -/
def ordB (l : List ByteArray) (i : Nat) : Bool :=
  match l[i]?, l[i + 1]? with
  | some x, some y => decide (rankB x ≤ rankB y) && (decide (rankB x ≠ rankB y) || Op.bytesLess x.toList y.toList)
  | _, _ => true

end Go.Proofs.Ytdlhgbhaeedbdab

/- 'Undone'. -/
namespace Go.Proofs.Ytdlhgbhaeedbdab
open Go.RowKit

/-- Config tells what Walk tells of the steps so far. -/
theorem going_config (x b r : Nat) (s t : ByteArray) (n : Nat) (w : World) (hs : (chk s).1 = 0) (ht : (chk t).1 = 0) (hn : n ≤ (pl s t).length) (h : Going w x b r (prt s) (prt t) (itemsOf t) n) :
    (wkErr s ((pl s t).take ((pl s t).length - n)) = 0) ∧ Calls Try.prog 11 #[.pointer (some ⟨x, 0, none⟩), .string (wkTxt s ((pl s t).take ((pl s t).length - n)))] w fun e w' => e = .returned (.bool true) ∧ Below w.heap.size w w' := by
  rcases h with ⟨h0, h⟩ | ⟨h0, G, h⟩
  · obtain ⟨T0, l1, did, left, l0, hT0, hR, hnl, h48, hp0, hway, hmk⟩ := inv_way h h0
    simp only [List.cons.injEq, and_true] at hT0
    subst hT0
    have hlen : (pl s t).length = did.length + left.length := by
      obtain ⟨_, h2⟩ := prt_canon hs
      rw [pl_canon hs ht, stTxts_len, ← mk_perm hway.arr0 (hp0.trans h2), ← hmk, List.length_append]
    have hk : (pl s t).length - n = did.length := by omega
    obtain ⟨e1, e2⟩ := way_text hs ht hp0 hway hmk
    rw [hk, e2]
    refine ⟨e1, ?_⟩
    have := sconfig_any x b r _ _ (prI l1) n l1 did left w hway.arr.fits h.site hR
    simpa using this
  · subst h0
    obtain ⟨T, l0, hT, hR, hp⟩ := h.rest
    simp only [List.cons.injEq, and_true] at hT
    have hE : plErr s t = 0 := by unfold plErr; rw [if_pos hs]; exact ht
    obtain ⟨e1, e2, e3⟩ := plan_end hE
    rw [Nat.sub_zero, List.take_length, e3]
    refine ⟨e1, ?_⟩
    obtain ⟨hc, _⟩ := prt_canon ht
    rw [hT] at hc
    have hA : ArrI l0 := hc.arr.perm hp.symm
    have hpr : prI l0 = prt t := by rw [hT]; exact (prI_perm hA hp).trans hc.2
    have := sconfig_any x b r _ _ (prt t) 0 l0 [] [] w hA.fits h.site hR
    rw [hpr] at this
    simpa using this

/-- A plan is undone, or none is under way. -/
theorem going_undo (x b r : Nat) (f : Bool) (T E : ByteArray) (t : List Item) (n : Nat) (w : World) (h : Going w x b r T E t n) :
    Calls Try.prog 12 #[.pointer (some ⟨x, 0, none⟩), .bool f] w fun e w' => e = .returned (.bool true) ∧ ((0 < n ∧ ∃ G, Inv hj0 w' x b [T] G 0 (some r) (-1) false t) ∨ (n = 0 ∧ Going w' x b r T E t 0)) ∧ Below b w w' := by
  rcases h with ⟨h0, h⟩ | ⟨h0, G, h⟩
  · refine (sundo_busy x b r f T E n (-1) t w h0 h).mono ?_
    rintro e w' ⟨rfl, hI, hb⟩
    exact ⟨rfl, .inl ⟨h0, E, hI t⟩, hb⟩
  · refine (sundo_idle x b r f [E] G (-1) t w h).mono ?_
    rintro e w' ⟨rfl, rfl⟩
    exact ⟨rfl, .inr ⟨h0, .inr ⟨rfl, G, h⟩⟩, Below.refl _ _⟩

end Go.Proofs.Ytdlhgbhaeedbdab

/- 'Undone', walked. -/
namespace Go.Proofs.Ytdlhgbhaeedbdab
open Go.RowKit

theorem config_end (x b r : Nat) (E G : ByteArray) (t : List Item) (w : World) (h : Inv hj0 w x b [E] G 0 (some r) (-1) false t) :
    Calls Try.prog 11 #[.pointer (some ⟨x, 0, none⟩), .string E] w fun e w' => e = .returned (.bool true) ∧ Below w.heap.size w w' := by
  obtain ⟨T, l0, hT, hR, hp⟩ := h.rest
  simp only [List.cons.injEq, and_true] at hT
  subst hT
  have hc := h.canon E (by simp)
  have hA : ArrI l0 := hc.arr.perm hp.symm
  have hpr : prI l0 = E := (prI_perm hA hp).trans hc.2
  have := sconfig_any x b r _ _ E 0 l0 [] [] w hA.fits h.site hR
  rw [hpr] at this
  simpa using this

theorem open_end (x b r : Nat) (E G : ByteArray) (t : List Item) (w : World) (h : Inv hj0 w x b [E] G 0 (some r) (-1) false t) :
    Calls Try.prog 14 #[.pointer (some ⟨x, 0, none⟩)] w fun e w' => e = .returned (.bool true) ∧ Below b w w' ∧ ∃ g cap, w'.cell? ⟨x, 2, none⟩ = some (.slice (some ⟨g, 0, none⟩) 1 cap) ∧ w'.cell? ⟨g, 0, none⟩ = some (.string E) := by
  refine (sopen_any x b _ [E] G 0 (-1) false w (by simp) (by simp) h.canon h.site h.dev).mono ?_
  rintro e w' ⟨rfl, l', d', hlow, hbe, hcase⟩
  obtain ⟨rfl, rfl⟩ := hlow (by decide)
  rcases hcase with ⟨h0, _⟩ | ⟨_, _, r', T, hm, hI⟩
  · cases h0
  · simp only [List.mem_singleton] at hm
    subst hm
    obtain ⟨T', g, cap, hT', c2, hc, _⟩ := (hI []).front
    simp only [List.getElem?_cons_zero, Option.some.injEq] at hT'
    subst hT'
    exact ⟨rfl, hbe, g, cap, c2, hc⟩

set_option maxRecDepth 100000 in
set_option maxHeartbeats 400000 in
theorem undone_not (s t : ByteArray) (k : Int) (f : Bool) (w : World) (hs : s.size ≤ maxLen) (ht : t.size ≤ maxLen) (h : plErr s t ≠ 0) :
    Calls Try.prog 3 #[.string s, .string t, .int .i64 k, .bool f] w fun e w' => e = .returned (.bool true) ∧ Below w.heap.size w w' := by
  have hnot : ∀ (x : Bool) (w : World), (Op.unary .not (.bool x)).run Try.prog w = .ok (.bool (!x)) w := fun _ _ => rfl
  have hpl := planned_any s t w hs ht
  unfold bothB at hpl
  rw [show decide (plErr s t = 0) = false from decide_eq_false h] at hpl
  have Hpl := hide hpl
  clear hpl h
  go_enter Try.func3, Try.ntmps3
  go_wp2_with fail
  refine (unhide Hpl).mono ?_
  rintro e w1 ⟨v, rfl, hown, hb1⟩
  clear hown
  go_wp2
  go_ret
  exact ⟨rfl, hb1⟩

theorem tx_take {w : World} {a : Option Addr} {ss : List ByteArray} (h : TxAt w a ss) (k : Nat) : TxAt w a (ss.take k) := by
  rcases h with h | ⟨g, o, h1, h2, h3⟩
  · exact .inl (by rw [h]; simp)
  · exact .inr ⟨g, o, h1, h2, fun i hi => by
      have hi2 : i < ss.length := by simp at hi; omega
      rw [h3 i hi2, List.getElem_take]⟩

theorem tx_below {B : Nat} {w w' : World} {a : Option Addr} {ss : List ByteArray} (h : TxAt w a ss) (hb : Below B w w') (hB : w.heap.size ≤ B ∨ ss = [] ∨ ∃ g o, a = some ⟨g, o, none⟩ ∧ g < B) : TxAt w' a ss := by
  rcases h with h | ⟨g, o, h1, h2, h3⟩
  · exact .inl h
  · have hg : g < B ∨ ss = [] := by
      rcases hB with hB | hB | ⟨g', o', e, hB⟩
      · exact .inl (by omega)
      · exact .inr hB
      · rw [h1] at e
        simp only [Option.some.injEq, Addr.mk.injEq] at e
        exact .inl (by omega)
    rcases hg with hg | hg
    · exact .inr ⟨g, o, h1, Nat.lt_of_lt_of_le h2 hb.size, fun i hi => (hb.cell (p := ⟨g, o + i, none⟩) hg).trans (h3 i hi)⟩
    · exact .inl hg

set_option maxRecDepth 100000 in
set_option maxHeartbeats 1000000 in
theorem undone_ok (s t : ByteArray) (k : Int) (f : Bool) (w : World) (hs : s.size ≤ maxLen) (ht : t.size ≤ maxLen) (hk : (Lit.int .i64 k).wf = true) (h : plErr s t = 0) :
    Calls Try.prog 3 #[.string s, .string t, .int .i64 k, .bool f] w fun e w' => e = .returned (.bool true) ∧ Below w.heap.size w w' := by
  have hnot : ∀ (x : Bool) (w : World), (Op.unary .not (.bool x)).run Try.prog w = .ok (.bool (!x)) w := fun _ _ => rfl
  have hpl := planned_any s t w hs ht
  unfold bothB at hpl
  rw [show decide (plErr s t = 0) = true from decide_eq_true h] at hpl
  obtain ⟨h1, h2⟩ := plErr_zero h
  have hsm := pl_small s t
  have hpp := pl_prt h1 h2
  have Hpl := hide hpl
  have Hmade := hide fun wx => made_any s wx hs h1
  have Hstart := hide fun (wx : World) (x b r : Nat) (G : ByteArray) (t' : List Item) (hI : Inv hj0 wx x b [prt s] G 0 (some r) (-1) false t') => going_start x b r (prt s) G t t' wx ht h2 hI
  rw [hpp] at Hstart
  have Hconf := hide fun (wx : World) (x b r n : Nat) (hn : n ≤ (pl s t).length) (hG : Going wx x b r (prt s) (prt t) (itemsOf t) n) => going_config x b r s t n wx h1 h2 hn hG
  have Hwk := hide fun (ss : List ByteArray) (wx : World) (a : Option Addr) (cap : Nat) (hl : ss.length ≤ 48) (hy : ∀ y ∈ ss, y.size ≤ 401) (hx : TxAt wx a ss) => walk_any s a cap ss wx hs (by unfold maxLen; omega) (fun y hy' => by have := hy y hy'; unfold maxLen; omega) hx
  have Hp2 := hide fun wx => print_any t wx ht
  rw [h2] at Hp2
  have hln : (pl s t).length ≤ 48 := hsm.1
  have Hsz := hide hsm.2
  clear hpl hpp h h1 h2 hsm
  generalize hP : pl s t = P at *
  clear hP
  generalize prt s = U1 at *
  generalize prt t = U2 at *
  generalize itemsOf t = ts at *
  go_enter Try.func3, Try.ntmps3
  go_wp2_with fail
  refine (unhide Hpl).mono ?_
  rintro e w1 ⟨v, rfl, hown, hb1⟩
  have hl1 := hb1.size
  obtain ⟨a, cap, rfl, hcap, hx⟩ := tx_of_owns hown
  have htx1 := TxAt.of_new hx
  clear hown Hpl hx
  go_wp2_with fail
  refine (unhide Hmade _).mono ?_
  rintro e w2 ⟨x, b, r, G, rfl, hb, hb2, hI⟩
  have hwb : w.heap.size ≤ b := by omega
  have hb02 : Below w.heap.size w w2 := hb1.trans (hb2.mono hl1)
  have HS := hide (unhide Hstart w2 x b r G _ hI)
  have htx2 := tx_below htx1 hb2 (.inl (Nat.le_refl _))
  clear hI Hmade
  go_wp2_with fail
  refine (unhide HS).mono ?_
  rintro e w3 ⟨rfl, hGo, hbe3⟩
  have hb03 : Below w.heap.size w w3 := hb02.trans (hbe3.mono hwb)
  have htx3 := tx_below htx2 hbe3 (by
    rcases htx1 with h | ⟨g, o, h1, h2, h3⟩
    · exact .inr (.inl h)
    · exact .inr (.inr ⟨g, o, h1, by omega⟩))
  have htxb : ∀ wx, Below b w3 wx → TxAt wx a P := fun wx hb' => tx_below htx3 hb' (by
    rcases htx1 with h | ⟨g, o, h1, h2, h3⟩
    · exact .inr (.inl h)
    · exact .inr (.inr ⟨g, o, h1, by omega⟩))
  have Htx := hide htxb
  have HGo0 := hide hGo
  clear HS htx1 htx2 htx3 htxb hGo
  go_wp2_with fail
  refine (pick_any k (P.length + 1) _ hk (by omega) (by omega)).mono ?_
  rintro e w4 ⟨⟨n, hn, rfl⟩, rfl⟩
  have hni : (n : Int) ≤ (P.length : Int) := by omega
  go_wp2_with fail
  go_loopw [11, 14] (fun ok iv wr => ok = .bool true ∧ ∃ i : Nat, i ≤ n ∧ iv = .int .i64 i ∧ Going wr x b r U1 U2 ts (P.length - i) ∧ Below b w4 wr) (fun _ iv _ => n - (intOf iv).toNat)
  case atStart => exact ⟨rfl, 0, Nat.zero_le _, rfl, unhide HGo0, Below.refl _ _⟩
  case round =>
    obtain ⟨rfl, i, hi, rfl, hGo, hbe⟩ := hrel
    by_cases hlt : i < n
    · have hlt' : (i : Int) < (n : Int) := by omega
      obtain ⟨m, hm⟩ : ∃ m, P.length - i = m + 1 := ⟨P.length - i - 1, by omega⟩
      rw [hm] at hGo
      have hm2 : P.length - m = i + 1 := by omega
      have hm3 : P.length - (i + 1) = m := by omega
      have HS := hide (going_step x b r U1 U2 ts m wr hGo)
      have hic : (i : Int) + 1 ≤ (cap : Int) := by omega
      have hic2 : (i : Int) + 1 ≤ (P.length : Int) := by omega
      clear hGo HGo0
      go_wp2_with fail
      refine (unhide HS).mono ?_
      rintro e w5 ⟨rfl, hGo5, hbe5⟩
      have hbe05 := hbe.trans hbe5
      have HC := hide (fun wx (hb' : Below w5.heap.size w5 wx) => unhide Hconf wx x b r m (by omega) (hGo5.later hb'))
      rw [hm2] at HC
      have htl : (P.take (i + 1)).length = i + 1 := by simp; omega
      have HW := hide (unhide Hwk (P.take (i + 1)) w5 a cap (by omega) (fun y hy => unhide Hsz y (List.mem_of_mem_take hy)) (tx_take (unhide Htx w5 hbe05) (i + 1)))
      rw [htl] at HW
      have hErr := (unhide HC w5 (Below.refl _ _)).1
      rw [hErr] at HW
      have HG5 := hide hGo5
      generalize wkTxt s (P.take (i + 1)) = X at *
      generalize wkN s (P.take (i + 1)) = wn at *
      have hlb5 := hGo5.c4.2
      clear HS hGo5 htl hErr hm hm2
      go_wp2_with fail
      refine (unhide HW).mono ?_
      rintro e w6 ⟨rfl, hb6⟩
      have HC6 := hide (unhide HC w6 hb6).2
      have hs6 := hb6.size
      clear HW HC
      go_wp2_with fail
      refine (unhide HC6).mono ?_
      rintro e w7 ⟨rfl, hb7⟩
      have hb57 := hb6.trans (hb7.mono hs6)
      have hG7 := (unhide HG5).later hb57
      have hbe07 := hbe05.trans (hb57.mono (by omega : b ≤ w5.heap.size))
      have HG7 := hide hG7
      clear HC6 HG5 hG7
      go_wp2
      go_roundw
      case rel => exact ⟨by trivial, i + 1, by omega, by go_num, by rw [hm3]; exact unhide HG7, hbe07⟩
      case measure => simp [intOf]; omega
    · have hin : i = n := by omega
      subst hin
      have hlt' : ¬ (i : Int) < (i : Int) := by omega
      have HU := hide (going_undo x b r f U1 U2 ts (P.length - i) wr hGo)
      clear hGo HGo0
      go_wp2_with fail
      refine (unhide HU).mono ?_
      rintro e w5 ⟨rfl, hcase, hbe5⟩
      have hbe05 := hb03.trans ((hbe.trans hbe5).mono hwb)
      clear HU
      by_cases hlp : i < P.length
      · have hlp' : (i : Int) < (P.length : Int) := by omega
        rcases hcase with ⟨_, G5, hI5⟩ | ⟨h0, _⟩
        · have HS := hide (unhide Hstart w5 x b r G5 _ hI5)
          clear hI5
          go_wp2_with fail
          refine (unhide HS).mono ?_
          rintro e w6a ⟨rfl, hGo, hbe6a⟩
          have hbe06a := hbe05.trans (hbe6a.mono hwb)
          clear HS
          have HGo := hide hGo
          clear hGo
          go_wp2_with fail
          go_loopw [11] (fun ok wr => ok = .bool true ∧ ∃ N : Nat, Going wr x b r U1 U2 ts N ∧ Below w.heap.size w wr) (fun _ wr => leftOf wr x)
          case atStart => exact ⟨rfl, _, unhide HGo, hbe06a⟩
          case round =>
            obtain ⟨rfl, N, hGo, hbe⟩ := hrel
            obtain ⟨c4, hlb⟩ := hGo.c4
            cases N with
            | zero =>
              have hI : ∃ G, Inv hj0 wr x b [U2] G 0 (some r) (-1) false ts := by
                rcases hGo with ⟨h, _⟩ | ⟨_, h⟩
                · omega
                · exact h
              obtain ⟨G, hI⟩ := hI
              have HC := hide (fun wx (hb : Below wr.heap.size wr wx) => config_end x b r U2 G ts wx (hI.later hb))
              have HO := hide (fun wx (hb : Below wr.heap.size wr wx) => open_end x b r U2 G ts wx (hI.later hb))
              clear hGo hI HGo
              simp only [Int.natCast_zero] at c4
              go_wp2_with fail
              refine (unhide Hp2 _).mono ?_
              rintro e w6 ⟨rfl, hb6⟩
              have hs6 := hb6.size
              go_wp2_with fail
              refine (unhide HC _ hb6).mono ?_
              rintro e w7 ⟨rfl, hb7⟩
              have hb67 := hb6.trans (hb7.mono hs6)
              have hs7 := hb67.size
              go_wp2_with fail
              refine (unhide HO _ hb67).mono ?_
              rintro e w8 ⟨rfl, hbe8, gg, cc, d2, dg⟩
              have hbe08 := (hbe.trans (hb67.mono (by omega))).trans (hbe8.mono hwb)
              clear HC HO c4
              go_wp2
              go_ret
              exact ⟨rfl, hbe08⟩
            | succ m =>
              have hpos : (0 : Int) < (m : Int) + 1 := by omega
              have hm1 := leftOf_eq c4
              have HS := hide (going_step x b r U1 U2 ts m wr hGo)
              have Hm := hide hm1
              clear hGo HGo hm1
              go_wp2_with fail
              refine (unhide HS).mono ?_
              rintro e w6 ⟨rfl, hGo6, hbe6⟩
              have hbe06 := hbe.trans (hbe6.mono hwb)
              have Hm6 := hide (leftOf_eq hGo6.c4.1)
              have HG6 := hide hGo6
              clear HS c4 hGo6
              go_wp2_with fail
              go_roundw
              case rel => exact ⟨by trivial, m, unhide HG6, hbe06⟩
              case measure => rw [unhide Hm6, unhide Hm]; omega
        · omega
      · have hlp' : ¬ (i : Int) < (P.length : Int) := by omega
        rcases hcase with ⟨h0, _⟩ | ⟨_, hGo⟩
        · omega
        · have HGo := hide hGo
          clear hGo
          go_wp2_with fail
          go_loopw [11] (fun ok wr => ok = .bool true ∧ ∃ N : Nat, Going wr x b r U1 U2 ts N ∧ Below w.heap.size w wr) (fun _ wr => leftOf wr x)
          case atStart => exact ⟨rfl, _, unhide HGo, hbe05⟩
          case round =>
            obtain ⟨rfl, N, hGo, hbe⟩ := hrel
            obtain ⟨c4, hlb⟩ := hGo.c4
            cases N with
            | zero =>
              have hI : ∃ G, Inv hj0 wr x b [U2] G 0 (some r) (-1) false ts := by
                rcases hGo with ⟨h, _⟩ | ⟨_, h⟩
                · omega
                · exact h
              obtain ⟨G, hI⟩ := hI
              have HC := hide (fun wx (hb : Below wr.heap.size wr wx) => config_end x b r U2 G ts wx (hI.later hb))
              have HO := hide (fun wx (hb : Below wr.heap.size wr wx) => open_end x b r U2 G ts wx (hI.later hb))
              clear hGo hI HGo
              simp only [Int.natCast_zero] at c4
              go_wp2_with fail
              refine (unhide Hp2 _).mono ?_
              rintro e w6 ⟨rfl, hb6⟩
              have hs6 := hb6.size
              go_wp2_with fail
              refine (unhide HC _ hb6).mono ?_
              rintro e w7 ⟨rfl, hb7⟩
              have hb67 := hb6.trans (hb7.mono hs6)
              have hs7 := hb67.size
              go_wp2_with fail
              refine (unhide HO _ hb67).mono ?_
              rintro e w8 ⟨rfl, hbe8, gg, cc, d2, dg⟩
              have hbe08 := (hbe.trans (hb67.mono (by omega))).trans (hbe8.mono hwb)
              clear HC HO c4
              go_wp2
              go_ret
              exact ⟨rfl, hbe08⟩
            | succ m =>
              have hpos : (0 : Int) < (m : Int) + 1 := by omega
              have hm1 := leftOf_eq c4
              have HS := hide (going_step x b r U1 U2 ts m wr hGo)
              have Hm := hide hm1
              clear hGo HGo hm1
              go_wp2_with fail
              refine (unhide HS).mono ?_
              rintro e w6 ⟨rfl, hGo6, hbe6⟩
              have hbe06 := hbe.trans (hbe6.mono hwb)
              have Hm6 := hide (leftOf_eq hGo6.c4.1)
              have HG6 := hide hGo6
              clear HS c4 hGo6
              go_wp2_with fail
              go_roundw
              case rel => exact ⟨by trivial, m, unhide HG6, hbe06⟩
              case measure => rw [unhide Hm6, unhide Hm]; omega

theorem undone_any (s t : ByteArray) (k : Int) (f : Bool) (w : World) (hs : s.size ≤ maxLen) (ht : t.size ≤ maxLen) (hk : (Lit.int .i64 k).wf = true) :
    Calls Try.prog 3 #[.string s, .string t, .int .i64 k, .bool f] w fun e w' => e = .returned (.bool true) ∧ Below w.heap.size w w' := by
  by_cases h : plErr s t = 0
  · exact undone_ok s t k f w hs ht hk h
  · exact undone_not s t k f w hs ht h

end Go.Proofs.Ytdlhgbhaeedbdab
