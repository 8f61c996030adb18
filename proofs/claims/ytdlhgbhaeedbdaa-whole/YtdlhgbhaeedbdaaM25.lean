/- Ws9, Dev0, Ws10, Ws11, Ws12. -/
import Derived.Test.YtdlhgbhaeedbdaaM24
import Derived.Test.YtdlhgbhaeedbdaaProg
import Derived.Test.YtdlhgbhaeedbdaaM1
import Derived.Test.YtdlhgbhaeedbdaaRows
import Derived.ProofKit
import Derived.OpenShut
import Derived.Deep.Slices

/- 'Site.act', walked. -/
namespace Go.Proofs.Ytdlhgbhaeedbdaa
open Go.RowKit

theorem i64e {k m : Int} (h : k ≠ m) : (k == m) = false := by rw [beq_eq_false_iff_ne]; exact h

set_option maxRecDepth 100000 in
set_option maxHeartbeats 400000 in
theorem act_open (x b : Nat) (ka : Int) (s : ByteArray) (w : World) (h : Ok w x b) :
    Calls Try.prog 38 #[.pointer (some ⟨x, 0, none⟩), .agg #[.int .i64 1, .int .i64 ka, .string s]] w fun e w' => e = .returned (.bool true) ∧ OkEnd x b w w' := by
  obtain ⟨A, G, n, rp, l, d, t, hI, hA⟩ := h
  have hlb := hI.dev.lt
  have hbn := below_new w (.cells #[.int .i64 1, .int .i64 ka, .string s] 68)
  have HO := hide (ok_open x b A G n rp l d t _ (hI.later hbn) hA)
  clear hI
  go_enter Try.func38, Try.ntmps38
  go_wp2_with fail
  refine (unhide HO).mono ?_
  rintro e w1 ⟨rfl, hE⟩
  have hE' := hE.from (hbn.mono (show b ≤ w.heap.size by omega))
  clear hE HO
  go_wp2_with fail
  go_ret
  exact ⟨rfl, hE'⟩

set_option maxRecDepth 100000 in
set_option maxHeartbeats 400000 in
theorem act_arm (x b : Nat) (ka : Int) (hka : ka ≤ 9223372036854775807) (s : ByteArray) (w : World) (h : Ok w x b) :
    Calls Try.prog 38 #[.pointer (some ⟨x, 0, none⟩), .agg #[.int .i64 6, .int .i64 ka, .string s]] w fun e w' => e = .returned (.bool true) ∧ OkEnd x b w w' := by
  obtain ⟨A, G, n, rp, l, d, t, hI, hA⟩ := h
  have hlb := hI.dev.lt
  have hlx := hI.site.lt
  have hbn := below_new w (.cells #[.int .i64 6, .int .i64 ka, .string s] 68)
  have hI0 := hI.later hbn
  have hm : (if ka < 0 then -1 else ka) ≤ 9223372036854775807 := by split <;> omega
  have HA : Hid (∀ k, Calls Try.prog 18 #[.pointer (some ⟨b, 0, none⟩), .int .i64 ka] ((w.alloc (.cells #[.int .i64 6, .int .i64 ka, .string s] 68)).drewN k) fun e w' => e = .returned (.tuple #[]) ∧ OkEnd x b w w') := hide fun k => by
    have hIk := hI0.later (below_drewN (Below.refl _ _) k)
    obtain ⟨S, E, U, ha, _⟩ := hIk.dev
    refine (aarm_any b ka l _ ha.c3 ha.fz).mono ?_
    rintro e w' ⟨rfl, rfl⟩
    obtain ⟨q1, q2⟩ := inv_arm hIk hm
    exact ⟨rfl, ⟨A, G, n, rp, _, d, t, q1, hA⟩, ((hbn.mono (show b ≤ w.heap.size by omega)).trans ((below_drewN (Below.refl _ _) k))).trans q2⟩
  have c0 := hI.site.c0
  clear hI hI0 hm
  go_enter Try.func38, Try.ntmps38
  go_wp2_with fail
  go_region_with (go_at_call 18; refine (unhide HA 1).mono ?_; rintro e w1 ⟨rfl, hE⟩)
  all_goals
    clear HA
    go_wp2_with fail
    go_ret
    exact ⟨rfl, hE⟩

set_option maxRecDepth 100000 in
set_option maxHeartbeats 400000 in
theorem act_restore (x b : Nat) (ka : Int) (s : ByteArray) (w : World) (h : Ok w x b) :
    Calls Try.prog 38 #[.pointer (some ⟨x, 0, none⟩), .agg #[.int .i64 7, .int .i64 ka, .string s]] w fun e w' => e = .returned (.bool true) ∧ OkEnd x b w w' := by
  obtain ⟨A, G, n, rp, l, d, t, hI, hA⟩ := h
  have hlb := hI.dev.lt
  have hlx := hI.site.lt
  have hbx := hI.site.bx
  have hbn := below_new w (.cells #[.int .i64 7, .int .i64 ka, .string s] 68)
  have hI0 := hI.later hbn
  have HA := hide fun k => dev_restore x b A G n rp l ka d t _ (hI0.later (below_drewN (Below.refl _ _) k))
  have Hbe := hide fun k => ((hbn.mono (show b ≤ w.heap.size by omega)).trans (below_drewN (Below.refl b (w.alloc (.cells #[.int .i64 7, .int .i64 ka, .string s] 68))) k))
  have Hne := hide hI.ne
  have Hcan := hide hI.canon
  have c0 := hI.site.c0
  clear hI hI0
  go_enter Try.func38, Try.ntmps38
  go_wp2_with fail
  go_region_with (go_at_call 20; refine (unhide HA 1).mono ?_; rintro e w1 ⟨rfl, hx1, hd1, hbe1⟩)
  all_goals
    have c11 := hx1.c1
    have c41 := hx1.c4
    have hfz1 := hx1.fz
    have hx2 := hx1.put1 none
    have ht2 := hx1.setTK 1 (.pointer none)
    have hx3 := hx2.put4 0
    have ht3 := ht2.trans (hx2.setTK 4 (.int .i64 (0 : Nat)))
    have hd3 := hd1.keep ht3 x1_dev x1_late
    have hbe3 : Below b w _ := (((unhide Hbe 1).trans hbe1).setCell (p := ⟨x, 1, none⟩) (Nat.le_of_lt hbx) (.pointer none)).setCell (p := ⟨x, 4, none⟩) (Nat.le_of_lt hbx) (.int .i64 (0 : Nat))
    have hE : OkEnd x b w _ := ⟨⟨A, G, 0, none, -1, false, t, ⟨hx3, hd3, unhide Hcan, unhide Hne, .inl ⟨rfl, rfl⟩, fun _ h => absurd h (by omega)⟩, hA⟩, hbe3⟩
    clear HA Hbe hx1 hx2 ht2 hx3 ht3 hd1 hd3 hbe1 hbe3 c0
    go_wp2_with fail
    go_ret
    exact ⟨rfl, hE⟩

set_option maxRecDepth 100000 in
set_option maxHeartbeats 400000 in
theorem act_none (x b : Nat) (k ka : Int) (s : ByteArray) (A : List ByteArray) (G : ByteArray) (n : Nat) (l : Int) (d : Bool) (t : List Item) (w : World) (h1 : k ≠ 1) (h6 : k ≠ 6) (h7 : k ≠ 7) (h : Inv hj0 w x b A G n none l d t) (hA : A.length ≤ 2) :
    Calls Try.prog 38 #[.pointer (some ⟨x, 0, none⟩), .agg #[.int .i64 k, .int .i64 ka, .string s]] w fun e w' => e = .returned (.bool true) ∧ OkEnd x b w w' := by
  have hlb := h.dev.lt
  have hlx := h.site.lt
  have hbn := below_new w (.cells #[.int .i64 k, .int .i64 ka, .string s] 68)
  have hE : OkEnd x b w _ := ⟨⟨A, G, n, none, l, d, t, h.later hbn, hA⟩, hbn.mono (show b ≤ w.heap.size by omega)⟩
  have c1 := h.site.c1
  simp only [Option.map_none] at c1
  have e1 := i64e h1
  have e6 := i64e h6
  have e7 := i64e h7
  have HE := hide hE
  clear h h1 h6 h7 hE
  go_enter Try.func38, Try.ntmps38
  go_wp2_with fail
  go_ret
  exact ⟨rfl, unhide HE⟩

set_option maxRecDepth 100000 in
set_option maxHeartbeats 400000 in
theorem act_else (x b r : Nat) (k ka : Int) (s : ByteArray) (A : List ByteArray) (G : ByteArray) (n : Nat) (l : Int) (d : Bool) (t : List Item) (w : World) (h1 : k ≠ 1) (h2 : k ≠ 2) (h3 : k ≠ 3) (h4 : k ≠ 4) (h5 : k ≠ 5) (h6 : k ≠ 6) (h7 : k ≠ 7) (h : Inv hj0 w x b A G n (some r) l d t) (hA : A.length ≤ 2) :
    Calls Try.prog 38 #[.pointer (some ⟨x, 0, none⟩), .agg #[.int .i64 k, .int .i64 ka, .string s]] w fun e w' => e = .returned (.bool true) ∧ OkEnd x b w w' := by
  have hlb := h.dev.lt
  have hlx := h.site.lt
  have hbn := below_new w (.cells #[.int .i64 k, .int .i64 ka, .string s] 68)
  have hE : OkEnd x b w _ := ⟨⟨A, G, n, some r, l, d, t, h.later hbn, hA⟩, hbn.mono (show b ≤ w.heap.size by omega)⟩
  have c1 := h.site.c1
  simp only [Option.map_some] at c1
  have e1 := i64e h1
  have e2 := i64e h2
  have e3 := i64e h3
  have e4 := i64e h4
  have e5 := i64e h5
  have e6 := i64e h6
  have e7 := i64e h7
  have HE := hide hE
  clear h h1 h2 h3 h4 h5 h6 h7 hE
  go_enter Try.func38, Try.ntmps38
  go_wp2_with fail
  go_ret
  exact ⟨rfl, unhide HE⟩

set_option maxRecDepth 100000 in
set_option maxHeartbeats 400000 in
theorem act_start (x b r : Nat) (ka : Int) (s : ByteArray) (A : List ByteArray) (G : ByteArray) (n : Nat) (l : Int) (d : Bool) (t : List Item) (w : World) (hs : s.size ≤ maxLen) (h : Inv hj0 w x b A G n (some r) l d t) (hA : A.length ≤ 2) :
    Calls Try.prog 38 #[.pointer (some ⟨x, 0, none⟩), .agg #[.int .i64 2, .int .i64 ka, .string s]] w fun e w' => e = .returned (.bool true) ∧ OkEnd x b w w' := by
  have hlb := h.dev.lt
  have hlx := h.site.lt
  have hbn := below_new w (.cells #[.int .i64 2, .int .i64 ka, .string s] 68)
  have HO := hide (ok_start x b r A G s n l d t _ hs (h.later hbn) hA)
  have c1 := h.site.c1
  simp only [Option.map_some] at c1
  clear h
  go_enter Try.func38, Try.ntmps38
  go_wp2_with fail
  refine (unhide HO).mono ?_
  rintro e w1 ⟨rfl, hE⟩
  have hE' := hE.from (hbn.mono (show b ≤ w.heap.size by omega))
  clear hE HO
  go_wp2_with fail
  go_ret
  exact ⟨rfl, hE'⟩

set_option maxRecDepth 100000 in
set_option maxHeartbeats 400000 in
theorem act_step (x b r : Nat) (ka : Int) (s : ByteArray) (A : List ByteArray) (G : ByteArray) (n : Nat) (l : Int) (d : Bool) (t : List Item) (w : World) (h : Inv hj0 w x b A G n (some r) l d t) (hA : A.length ≤ 2) :
    Calls Try.prog 38 #[.pointer (some ⟨x, 0, none⟩), .agg #[.int .i64 3, .int .i64 ka, .string s]] w fun e w' => e = .returned (.bool true) ∧ OkEnd x b w w' := by
  have hlb := h.dev.lt
  have hlx := h.site.lt
  have hbn := below_new w (.cells #[.int .i64 3, .int .i64 ka, .string s] 68)
  have HO := hide (ok_step x b r A G n l d t _ (h.later hbn) hA)
  have c1 := h.site.c1
  simp only [Option.map_some] at c1
  clear h
  go_enter Try.func38, Try.ntmps38
  go_wp2_with fail
  refine (unhide HO).mono ?_
  rintro e w1 ⟨rfl, hE⟩
  have hE' := hE.from (hbn.mono (show b ≤ w.heap.size by omega))
  clear hE HO
  go_wp2_with fail
  go_ret
  exact ⟨rfl, hE'⟩

set_option maxRecDepth 100000 in
set_option maxHeartbeats 400000 in
theorem act_fail (x b r : Nat) (ka : Int) (s : ByteArray) (A : List ByteArray) (G : ByteArray) (n : Nat) (l : Int) (d : Bool) (t : List Item) (w : World) (h : Inv hj0 w x b A G n (some r) l d t) (hA : A.length ≤ 2) :
    Calls Try.prog 38 #[.pointer (some ⟨x, 0, none⟩), .agg #[.int .i64 4, .int .i64 ka, .string s]] w fun e w' => e = .returned (.bool true) ∧ OkEnd x b w w' := by
  have hlb := h.dev.lt
  have hlx := h.site.lt
  have hbn := below_new w (.cells #[.int .i64 4, .int .i64 ka, .string s] 68)
  have HO := hide (ok_undo x b r true A G n l d t _ (h.later hbn) hA)
  have c1 := h.site.c1
  simp only [Option.map_some] at c1
  clear h
  go_enter Try.func38, Try.ntmps38
  go_wp2_with fail
  refine (unhide HO).mono ?_
  rintro e w1 ⟨rfl, hE⟩
  have hE' := hE.from (hbn.mono (show b ≤ w.heap.size by omega))
  clear hE HO
  go_wp2_with fail
  go_ret
  exact ⟨rfl, hE'⟩

set_option maxRecDepth 100000 in
set_option maxHeartbeats 400000 in
theorem act_stop (x b r : Nat) (ka : Int) (s : ByteArray) (A : List ByteArray) (G : ByteArray) (n : Nat) (l : Int) (d : Bool) (t : List Item) (w : World) (h : Inv hj0 w x b A G n (some r) l d t) (hA : A.length ≤ 2) :
    Calls Try.prog 38 #[.pointer (some ⟨x, 0, none⟩), .agg #[.int .i64 5, .int .i64 ka, .string s]] w fun e w' => e = .returned (.bool true) ∧ OkEnd x b w w' := by
  have hlb := h.dev.lt
  have hlx := h.site.lt
  have hbn := below_new w (.cells #[.int .i64 5, .int .i64 ka, .string s] 68)
  have HO := hide (ok_undo x b r false A G n l d t _ (h.later hbn) hA)
  have c1 := h.site.c1
  simp only [Option.map_some] at c1
  clear h
  go_enter Try.func38, Try.ntmps38
  go_wp2_with fail
  refine (unhide HO).mono ?_
  rintro e w1 ⟨rfl, hE⟩
  have hE' := hE.from (hbn.mono (show b ≤ w.heap.size by omega))
  clear hE HO
  go_wp2_with fail
  go_ret
  exact ⟨rfl, hE'⟩

theorem act_any (x b : Nat) (k ka : Int) (s : ByteArray) (w : World) (hka : ka ≤ 9223372036854775807) (hs : s.size ≤ maxLen) (h : Ok w x b) :
    Calls Try.prog 38 #[.pointer (some ⟨x, 0, none⟩), .agg #[.int .i64 k, .int .i64 ka, .string s]] w fun e w' => e = .returned (.bool true) ∧ OkEnd x b w w' := by
  by_cases h1 : k = 1
  · subst h1; exact act_open x b ka s w h
  by_cases h6 : k = 6
  · subst h6; exact act_arm x b ka hka s w h
  by_cases h7 : k = 7
  · subst h7; exact act_restore x b ka s w h
  obtain ⟨A, G, n, rp, l, d, t, hI, hA⟩ := h
  cases rp with
  | none => exact act_none x b k ka s A G n l d t w h1 h6 h7 hI hA
  | some r =>
    by_cases h2 : k = 2
    · subst h2; exact act_start x b r ka s A G n l d t w hs hI hA
    by_cases h3 : k = 3
    · subst h3; exact act_step x b r ka s A G n l d t w hI hA
    by_cases h4 : k = 4
    · subst h4; exact act_fail x b r ka s A G n l d t w hI hA
    by_cases h5 : k = 5
    · subst h5; exact act_stop x b r ka s A G n l d t w hI hA
    exact act_else x b r k ka s A G n l d t w h1 h2 h3 h4 h5 h6 h7 hI hA

end Go.Proofs.Ytdlhgbhaeedbdaa

/- A new device. -/
namespace Go.Proofs.Ytdlhgbhaeedbdaa
open Go.RowKit

def devCells : Array Value := (Array.replicate 4096 (.int .u8 0)) ++ #[.slice none 0 0, .int .i64 (-1), .bool false]

set_option maxRecDepth 100000 in
theorem run_newDev (w : World) : (Instr.build 77 #[(3, .int .i64 (-1))]).run Try.prog w = .ok (.agg devCells) w := by kernel_rfl

set_option maxRecDepth 100000 in
set_option maxHeartbeats 400000 in
theorem newDevice_any (w : World) : Calls Try.prog 10 #[] w fun e w' => e = .returned (.pointer (some ⟨w.heap.size, 0, none⟩)) ∧ w' = w.alloc (.cells devCells 77) := by
  have hb := run_newDev
  go_enter Try.func10, Try.ntmps10
  go_wp2
  go_ret
  exact ⟨rfl, rfl⟩

end Go.Proofs.Ytdlhgbhaeedbdaa

/- 'site', 'Whole'. -/
namespace Go.Proofs.Ytdlhgbhaeedbdaa
open Go.RowKit

theorem dev0_lt (j : Nat) (h : j < 4096) : devCells[j]? = some (.int .u8 0) := by
  unfold devCells
  rw [Array.getElem?_append_left (by simpa using h)]
  simp [h]

theorem dev0_past (j : Nat) : devCells[4096 + j]? = #[Value.slice none 0 0, .int .i64 (-1), .bool false][j]? := by
  unfold devCells
  rw [Array.getElem?_append_right (by simp)]
  simp

theorem api_new0 (w : World) : ApiAt (w.alloc (.cells devCells 77)) w.heap.size (fun _ => 0) (fun _ => 0) [] (-1) false := by
  have hc : ∀ j, (w.alloc (.cells devCells 77)).cell? ⟨w.heap.size, j, none⟩ = devCells[j]? := fun j => World.cell?_alloc_at _ _ _ _ rfl
  refine ⟨⟨_, _, heap_alloc_last w _⟩, fun j hj => ?_, fun j hj => ?_, ⟨.slice none 0 0, ?_, World.ownsRow_nil _ _ _ _⟩, ?_, ?_, fun o => World.frozen?_alloc_at _ _ _ _ rfl, by simp⟩
  · rw [hc, dev0_lt j (by omega)]; rfl
  · rw [hc, dev0_lt _ (by omega)]; rfl
  · rw [hc, show 4096 = 4096 + 0 from rfl, dev0_past]; rfl
  · rw [hc, show 4097 = 4096 + 1 from rfl, dev0_past]; rfl
  · rw [hc, show 4098 = 4096 + 2 from rfl, dev0_past]; rfl

theorem held_new0 : held (fun _ => 0) = ⟨#[]⟩ := by
  unfold held
  have : ∀ r, roomPart (fun _ => 0) r 13 = 0 :: List.replicate 415 0 := fun r => by
    unfold roomPart
    rw [List.map_const']
    simp only [List.length_range]
    rfl
  rw [this]
  unfold untilZ
  rw [List.takeWhile_cons_of_neg (by simp)]

def siteCells (b g : Nat) : Array Value := #[.pointer (some ⟨b, 0, none⟩), .pointer none, .slice (some ⟨g, 0, none⟩) 1 1, .string ⟨#[]⟩, .int .i64 0]

theorem site_new {w : World} {b : Nat} (hb : b < w.heap.size) (ho : w.ownsRow (b + 1) 9 1 (.slice (some ⟨w.heap.size - 1, 0, none⟩) 1 1) [(⟨#[]⟩ : ByteArray)].length ([(⟨#[]⟩ : ByteArray)].map Value.string)) :
    SiteAt (w.alloc (.cells (siteCells b (w.heap.size - 1)) 71)) w.heap.size b none [⟨#[]⟩] ⟨#[]⟩ 0 := by
  unfold siteCells
  refine ⟨⟨_, (0, 0), heap_alloc_last w _⟩, by go_simp, by go_simp, ⟨_, by go_simp, ho.alloc _⟩, by go_simp, by go_simp, fun o => World.frozen?_alloc_at _ _ _ _ rfl, by simp, hb⟩

/-- What 'site' gives. -/
def SiteEnd (w : World) (e : Ending) (w' : World) : Prop :=
  ∃ x b r, e = .returned (.pointer (some ⟨x, 0, none⟩)) ∧ w.heap.size ≤ b ∧ Below w.heap.size w w' ∧ ∀ t, Inv hj0 w' x b [⟨#[]⟩] ⟨#[]⟩ 0 (some r) (-1) false t

set_option maxRecDepth 100000 in
set_option maxHeartbeats 400000 in
theorem site_any (w : World) : Calls Try.prog 37 #[] w fun e w' => SiteEnd w e w' := by
  have hnot : ∀ (x : Bool) (w : World), (Op.unary .not (.bool x)).run Try.prog w = .ok (.bool (!x)) w := fun _ _ => rfl
  have ha0 := api_new0 w
  have hb1 := below_new w (.cells devCells 77)
  have hs1 : (w.alloc (.cells devCells 77)).heap.size = w.heap.size + 1 := by simp
  generalize hW1 : w.alloc (.cells devCells 77) = w1 at *
  have HN : Hid (Calls Try.prog 10 #[] w fun e w' => e = .returned (.pointer (some ⟨w.heap.size, 0, none⟩)) ∧ w' = w1) := hide (by rw [← hW1]; exact newDevice_any w)
  clear hW1
  have ho := str_new w1 ⟨#[]⟩ w.heap.size (by omega)
  have hb2 := below_new w1 (.cells #[.string ⟨#[]⟩] 9)
  have ha2 := ha0.later hb2
  have hs2 : (w1.alloc (.cells #[.string ⟨#[]⟩] 9)).heap.size = w.heap.size + 2 := by simp; omega
  have hx := site_new (w := w1.alloc (.cells #[.string ⟨#[]⟩] 9)) (b := w.heap.size) (by omega) (by rw [hs2, show w.heap.size + 2 - 1 = w1.heap.size by omega]; exact ho)
  have hb3 := below_new (w1.alloc (.cells #[.string ⟨#[]⟩] 9)) (.cells (siteCells w.heap.size ((w1.alloc (.cells #[.string ⟨#[]⟩] 9)).heap.size - 1)) 71)
  have ha3 := ha2.later hb3
  have hbe3 : Below w.heap.size w _ := (hb1.trans (hb2.mono (by omega))).trans (hb3.mono (by omega))
  have hd3 : DevAt _ w.heap.size [⟨#[]⟩] (-1) false := ⟨_, _, [], ha3, by decide, by simp, by simp, fun _ => ⟨rfl, rfl, by rw [held_new0]; simp⟩, (fun h => by cases h)⟩
  rw [hs2, show w.heap.size + 2 - 1 = w1.heap.size by omega] at hx hd3 hbe3
  have HO := hide (sopen_any _ _ _ _ _ _ _ _ _ (by simp) (by simp) (fun s hs => by simp only [List.mem_singleton] at hs; exact hs ▸ canon_nil) hx hd3)
  have c0 := hx.c0
  unfold siteCells at *
  rw [hs1] at HO hbe3 c0
  clear ha0 ho ha2 ha3 hb1 hb2 hb3 hx hd3
  go_enter Try.func37, Try.ntmps37
  go_wp2_with fail
  refine (unhide HN).mono ?_
  rintro e w2 ⟨rfl, rfl⟩
  go_wp2_with fail
  refine (unhide HO).mono ?_
  rintro e w5 ⟨rfl, l', d', hlow, hbe5, hcase⟩
  obtain ⟨rfl, rfl⟩ := hlow (by decide)
  rcases hcase with ⟨h0, _⟩ | ⟨_, _, r, T, hm, hI⟩
  · cases h0
  · simp only [List.mem_singleton] at hm
    subst hm
    have hbe := hbe3.trans hbe5
    clear HO HN c0
    go_wp2_with fail
    go_ret
    exact ⟨_, _, r, rfl, Nat.le_refl _, hbe, hI⟩

end Go.Proofs.Ytdlhgbhaeedbdaa

/- 'Whole', walked. -/
namespace Go.Proofs.Ytdlhgbhaeedbdaa
open Go.RowKit

/-- A step of a script on a device. -/
structure Ax where
  K : Int
  A : Int
  s : ByteArray

structure AxAt (w : World) (g o : Nat) (x : Ax) : Prop where
  c0 : w.cell? ⟨g, o, none⟩ = some (.int .i64 x.K)
  c1 : w.cell? ⟨g, o + 1, none⟩ = some (.int .i64 x.A)
  c2 : w.cell? ⟨g, o + 2, none⟩ = some (.string x.s)

theorem AxAt.below {B : Nat} {w w' : World} {g o : Nat} {x : Ax} (h : AxAt w g o x) (hb : Below B w w') (hg : g < B) : AxAt w' g o x :=
  ⟨(hb.cell (p := ⟨g, o, none⟩) hg).trans h.c0, (hb.cell (p := ⟨g, o + 1, none⟩) hg).trans h.c1, (hb.cell (p := ⟨g, o + 2, none⟩) hg).trans h.c2⟩

/-- Restore, then open: a rack is there, and there is power. -/
theorem ok_restore (x b : Nat) (keep : Int) (w : World) (h : Ok w x b) :
    Calls Try.prog 20 #[.pointer (some ⟨b, 0, none⟩), .int .i64 keep] w fun e w' => e = .returned (.tuple #[]) ∧ ((∃ rp A G n, SiteAt w' x b rp A G n ∧ DevAt w' b A (-1) false ∧ A.length ≤ 2 ∧ A ≠ [] ∧ ∀ s ∈ A, Canon s) ∧ Below b w w') := by
  obtain ⟨A, G, n, rp, l, d, t, hI, hA⟩ := h
  refine (dev_restore x b A G n rp l keep d t w hI).mono ?_
  rintro e w' ⟨rfl, hx, hd, hb⟩
  exact ⟨rfl, ⟨_, A, G, n, hx, hd, hA, hI.ne, hI.canon⟩, hb⟩

theorem ok_reopen (x b : Nat) (w : World) (h : ∃ rp A G n, SiteAt w x b rp A G n ∧ DevAt w b A (-1) false ∧ A.length ≤ 2 ∧ A ≠ [] ∧ ∀ s ∈ A, Canon s) :
    Calls Try.prog 39 #[.pointer (some ⟨x, 0, none⟩)] w fun e w' => e = .returned (.bool true) ∧ ((∃ T G r t, Inv hj0 w' x b [T] G 0 (some r) (-1) false t) ∧ Below b w w') := by
  obtain ⟨rp, A, G, n, hx, hd, hA, hne, hcan⟩ := h
  refine (sopen_any x b rp A G n (-1) false w (by omega) hne hcan hx hd).mono ?_
  rintro e w' ⟨rfl, l', d', hlow, hbe, hcase⟩
  obtain ⟨rfl, rfl⟩ := hlow (by decide)
  rcases hcase with ⟨h0, _⟩ | ⟨_, _, r, T, _, hI⟩
  · cases h0
  · exact ⟨rfl, ⟨T, G, r, [], hI []⟩, hbe⟩

set_option maxRecDepth 100000 in
set_option maxHeartbeats 800000 in
theorem whole_any (a0 : Option Addr) (len cap : Nat) (keep : Int) (f : Nat → Ax) (w : World) (hlen : len ≤ 4398046511000) (hf : ∀ i, i < len → (f i).s.size ≤ maxLen ∧ (f i).A ≤ 9223372036854775807) (ha : len = 0 ∨ ∃ g o, a0 = some ⟨g, o, none⟩ ∧ g < w.heap.size ∧ ∀ i, i < len → AxAt w g (o + i * 3) (f i)) :
    Calls Try.prog 9 #[.slice a0 len cap, .int .i64 keep] w fun e w' => e = .returned (.bool true) ∧ Below w.heap.size w w' := by
  have hnot : ∀ (x : Bool) (w : World), (Op.unary .not (.bool x)).run Try.prog w = .ok (.bool (!x)) w := fun _ _ => rfl
  have Hf := hide hf
  have Ha := hide ha
  clear hf ha
  go_enter Try.func9, Try.ntmps9
  go_wp2_with fail
  refine (stepping_any _).mono ?_
  rintro e w1 ⟨rfl, hb1⟩
  have hs1 := hb1.size
  go_wp2_with fail
  refine (site_any _).mono ?_
  rintro e w2 ⟨x, b, r, rfl, hb, hb2, hI⟩
  have hb02 : Below w.heap.size w w2 := hb1.trans (hb2.mono hs1)
  have hok : Ok w2 x b := ⟨_, _, _, _, _, _, [], hI [], by simp⟩
  have hwb : w.heap.size ≤ b := by omega
  have Hok := hide hok
  clear hI hb1 hb2 hok
  go_wp2_with fail
  go_loopw [7] (fun kv wr => ∃ k : Nat, k ≤ len ∧ kv = .int .i64 k ∧ Ok wr x b ∧ Below w.heap.size w wr) (fun kv _ => len - (intOf kv).toNat)
  case atStart => exact ⟨0, Nat.zero_le _, rfl, unhide Hok, hb02⟩
  case round =>
    obtain ⟨k, hk, rfl, hokr, hbe⟩ := hrel
    by_cases hlt : k < len
    · have hlt' : (k : Int) < (len : Int) := by omega
      rcases unhide Ha with h0 | ⟨g, o, rfl, hg, hax⟩
      · omega
      have hxk := (hax k hlt).below hbe hg
      obtain ⟨hfs, hfa⟩ := unhide Hf k hlt
      have HA := hide (act_any x b (f k).K (f k).A (f k).s wr hfa hfs hokr)
      obtain ⟨d0, d1, d2⟩ := hxk
      generalize f k = y at *
      clear hax hokr Hok
      go_wp2_with fail
      refine (unhide HA).mono ?_
      rintro e w3 ⟨rfl, hok3, hbe3⟩
      have hbe03 := hbe.trans (hbe3.mono hwb)
      clear HA d0 d1 d2
      go_wp2_with fail
      go_roundw
      case rel => exact ⟨k + 1, by omega, by go_num, hok3, hbe03⟩
      case measure => simp [intOf]; omega
    · have hlt' : ¬ (k : Int) < (len : Int) := by omega
      have HR := hide (ok_restore x b keep wr hokr)
      have c0 : wr.cell? ⟨x, 0, none⟩ = some (.pointer (some ⟨b, 0, none⟩)) := by
        obtain ⟨A, G, n, rp, l, d, t, hI, hA⟩ := hokr
        exact hI.site.c0
      clear hokr Hok
      go_wp2_with fail
      refine (unhide HR).mono ?_
      rintro e w3 ⟨rfl, hS3, hbe3⟩
      have HO := hide (ok_reopen x b w3 hS3)
      have hbe03 := hbe.trans (hbe3.mono hwb)
      clear HR hS3 c0
      go_wp2_with fail
      refine (unhide HO).mono ?_
      rintro e w4 ⟨rfl, ⟨T4, G4, r4, t4, hI4⟩, hbe4⟩
      have hbe04 := hbe03.trans (hbe4.mono hwb)
      have c04 := hI4.site.c0
      have hdc4 := hI4.dev.c4
      have HR4 := hide (ok_restore x b 0 w4 ⟨_, _, _, _, _, _, _, hI4, by simp⟩)
      clear HO hI4
      go_wp2_with fail
      refine (adead_any b false _ hdc4).mono ?_
      rintro e w5 ⟨rfl, rfl⟩
      go_wp2_with fail
      refine (unhide HR4).mono ?_
      rintro e w6 ⟨rfl, hS6, hbe6⟩
      have HO6 := hide (ok_reopen x b w6 hS6)
      have hbe06 := hbe04.trans (hbe6.mono hwb)
      clear HR4 hS6 c04 hdc4
      go_wp2_with fail
      refine (unhide HO6).mono ?_
      rintro e w7 ⟨rfl, ⟨T7, G7, r7, t7, hI7⟩, hbe7⟩
      have hbe07 := hbe06.trans (hbe7.mono hwb)
      have c07 := hI7.site.c0
      have c17 := hI7.site.c1
      simp only [Option.map_some] at c17
      have hdc7 := hI7.dev.c4
      clear HO6 hI7
      go_wp2_with fail
      refine (adead_any b false _ hdc7).mono ?_
      rintro e w8 ⟨rfl, rfl⟩
      go_wp2
      go_ret
      exact ⟨rfl, hbe07⟩

end Go.Proofs.Ytdlhgbhaeedbdaa

/- A script of Whole opened: its steps by their cells. -/
namespace Go.Proofs.Ytdlhgbhaeedbdaa
open Go.ChangeShapes Go.WideShapes Go.ChangeAt Go.RowKit

theorem cellsAct : Try.prog.cellsOf 68 = 3 := by kernel_rfl
theorem cellsInt2 : Try.prog.cellsOf 3 = 1 := by kernel_rfl
theorem cellsStr2 : Try.prog.cellsOf 9 = 1 := by kernel_rfl

set_option maxRecDepth 100000 in
theorem act_cells {H : Type} {enc : TypeId × Value → H} {w : World} {base : Nat} {spare : Nat → Bool} {held : Bool} {fuel : Nat} {cs : List Value} {x : DataW H × List MemPlace}
    (h : DataW.trod enc Try.prog w base spare held fuel 68 cs = some x) :
    ∃ o : Ax, cs = [.int .i64 o.K, .int .i64 o.A, .string o.s] ∧ o.s.size ≤ maxLen ∧ o.A ≤ 9223372036854775807 := by
  obtain ⟨xs, n, _, rfl, hl, hlen, hf⟩ := DataW.trod_struct Try.underlying68 h
  rw [cellsAct] at hl
  match cs, hl with
  | [v0, v1, v2], _ =>
    match xs, hlen with
    | [y0, y1, y2], _ =>
      have h0 : DataW.trod enc Try.prog w base spare held n 3 (([v0, v1, v2].drop 0).take (Try.prog.cellsOf 3)) = some y0 := hf 0 _ rfl
      rw [cellsInt2] at h0
      have h1 : DataW.trod enc Try.prog w base spare held n 3 (([v0, v1, v2].drop 1).take (Try.prog.cellsOf 3)) = some y1 := hf 1 _ rfl
      rw [cellsInt2] at h1
      have h2 : DataW.trod enc Try.prog w base spare held n 9 (([v0, v1, v2].drop 2).take (Try.prog.cellsOf 9)) = some y2 := hf 2 _ rfl
      rw [cellsStr2] at h2
      obtain ⟨K, e0, _⟩ := DataW.trod_int Try.underlying3 h0
      obtain ⟨A, e1, _, hA⟩ := DataW.trod_int Try.underlying3 h1
      obtain ⟨s, e2, _, hs⟩ := DataW.trod_string Try.underlying9 h2
      simp at e0 e1 e2
      have hA' : -9223372036854775808 ≤ A ∧ A ≤ 9223372036854775807 := by simpa [Lit.wf, IntKind.min, IntKind.max, IntKind.signed, IntKind.bits] using hA
      exact ⟨⟨K, A, s⟩, by simp [e0, e1, e2], hs, hA'.2⟩

set_option maxRecDepth 100000 in
theorem acts_open {H : Type} {enc : TypeId × Value → H} {W : World} {a0 : Option Addr} {len cap : Nat} {d0 : DataW H} {p : List MemPlace}
    (h0 : DataW.Trod enc Try.prog W 0 (fun _ => true) true 64 (.slice a0 len cap) d0 p) (hlt : ∀ x ∈ p, x.block < W.heap.size) :
    ∃ f : Nat → Ax, (∀ i, i < len → (f i).s.size ≤ maxLen ∧ (f i).A ≤ 9223372036854775807) ∧ (len = 0 ∨ ∃ g o, a0 = some ⟨g, o, none⟩ ∧ g < W.heap.size ∧ ∀ i, i < len → AxAt W g (o + i * 3) (f i)) := by
  obtain ⟨fuel, hf⟩ := h0
  rcases Go.Deep.open_slice Try.underlying64 hf with ⟨hcs, hx⟩ | ⟨a, len', cap', m, n, D, Pl, hcs, _, hl, hm, hmm, hx, hel⟩
  · simp [Value.cells] at hcs
    exact ⟨fun _ => ⟨0, 0, .empty⟩, fun i hi => by omega, .inl hcs.2.1⟩
  · simp [Value.cells] at hcs
    obtain ⟨rfl, rfl, rfl⟩ := hcs
    simp only [if_true] at hmm
    subst hmm
    by_cases hz : len = 0
    · exact ⟨fun _ => ⟨0, 0, .empty⟩, fun i hi => by omega, .inl hz⟩
    simp only [Prod.mk.injEq] at hx
    obtain ⟨_, rfl⟩ := hx
    rw [cellsAct] at hel hlt
    haveI : Inhabited Ax := ⟨⟨0, 0, .empty⟩⟩
    obtain ⟨f, hF⟩ := Go.Deep.choose_lt (α := Ax) (n := len) (p := fun i x => (∀ c, c < 3 → W.cell? ((a.add (i * 3)).add c) = [.int .i64 x.K, .int .i64 x.A, .string x.s][c]?) ∧ x.s.size ≤ maxLen ∧ x.A ≤ 9223372036854775807) (fun i hi => by
      obtain ⟨cs', h1, h2⟩ := hel i (by omega)
      obtain ⟨x, rfl, hxs⟩ := act_cells h2
      exact ⟨x, (World.cells?_some h1).2.2, hxs⟩)
    obtain ⟨g, o, spot⟩ := a
    have hspot : spot = none := by
      have := (hF 0 (by omega)).1 0 (by omega)
      simpa [Addr.add] using World.cell?_spot this
    subst hspot
    refine ⟨f, fun i hi => (hF i hi).2, .inr ⟨g, o, rfl, hlt (.cell g o) (List.mem_append.2 (.inl (MemPlace.mem_row.2 ⟨0, by omega, by simp⟩))), fun i hi => ?_⟩⟩
    have hc := (hF i hi).1
    simp only [add_plain] at hc
    exact ⟨hc 0 (by omega), hc 1 (by omega), hc 2 (by omega)⟩

end Go.Proofs.Ytdlhgbhaeedbdaa
