/- 'Has', 'HasAll', 'Holds', 'Named', 'Size', at whatever list of items. -/
import Derived.Test.YtdlhgbhaeedbdaaPrint2
namespace Go.Proofs.Ytdlhgbhaeedbdaa
open Go.RowKit

theorem ItemsAt.below {B : Nat} {w w' : World} {v : Value} {l : List Item} (h : ItemsAt w v l) (hb : Below B w w') (hB : w.heap.size ≤ B) : ItemsAt w' v l := by
  rcases h with h | ⟨g, cap, e, hc, hi⟩
  · exact Or.inl h
  · exact Or.inr ⟨g, cap, e, hc, hi.below hb (Nat.lt_of_lt_of_le hi.1 hB)⟩

/-- A list of items in blocks below B stays while nothing below B turns. -/
def ItemsBel (w : World) (B : Nat) (v : Value) (l : List Item) : Prop :=
  (v = .slice none 0 0 ∧ l = []) ∨ ∃ g cap, v = .slice (some ⟨g, 0, none⟩) l.length cap ∧ l.length ≤ cap ∧ g < B ∧ ItemsIn w g l

theorem has_nil (k : Key) (w : World) :
    Calls Try.prog 78 #[.slice none 0 0, .agg #[.int .i64 k.kind, .string k.name, .string k.host, .int .i64 k.number]] w fun e w' => e = .returned (.bool false) ∧ Below w.heap.size w w' := has_of _ k.kind k.name k.host k.number noItem false w fun wx _ => find_nil k.kind k.name k.host k.number wx

theorem find_at (v : Value) (l : List Item) (k : Key) (w : World) (hl : l.length ≤ 24) (hv : ItemsAt w v l) :
    Calls Try.prog 94 #[v, .agg #[.int .i64 k.kind, .string k.name, .string k.host, .int .i64 k.number]] w fun e w' => e = .returned (findV l (keyIs k)) ∧ Below w.heap.size w w' := by
  rcases hv with ⟨rfl, rfl⟩ | ⟨g, cap, rfl, hcap, hit⟩
  · exact find_nil k.kind k.name k.host k.number w
  · have h := find_in g l.length cap l k.kind k.name k.host k.number w hl (Nat.le_refl _) hit
    rw [List.take_of_length_le (Nat.le_refl _)] at h
    exact h

theorem has_at (v : Value) (l : List Item) (k : Key) (w : World) (hl : l.length ≤ 24) (hv : ItemsAt w v l) :
    Calls Try.prog 78 #[v, .agg #[.int .i64 k.kind, .string k.name, .string k.host, .int .i64 k.number]] w fun e w' => e = .returned (.bool (l.any (keyIs k))) ∧ Below w.heap.size w w' := by
  rcases hv with ⟨rfl, rfl⟩ | ⟨g, cap, rfl, hcap, hit⟩
  · exact has_nil k w
  · have h := has_in g l.length cap l k.kind k.name k.host k.number w hl (Nat.le_refl _) hit
    rw [List.take_of_length_le (Nat.le_refl _)] at h
    exact h

set_option maxRecDepth 100000 in
set_option maxHeartbeats 400000 in
theorem hasAll_at (v : Value) (l : List Item) (kv : Value) (ks : List Key) (w : World) (hl : l.length ≤ 24) (hv : ItemsAt w v l) (B : Nat) (hks : KeysAt w B kv ks) (hkl : ks.length ≤ 2) :
    Calls Try.prog 80 #[v, kv] w fun e w' => e = .returned (.bool (ks.all fun k => l.any (keyIs k))) ∧ Below w.heap.size w w' := by
  rcases hv with ⟨rfl, rfl⟩ | ⟨g, cap, rfl, hcap, hit⟩
  · have hnot : ∀ (x : Bool) (w : World), (Op.unary .not (.bool x)).run Try.prog w = .ok (.bool (!x)) w := fun _ _ => rfl
    rcases hks with ⟨rfl, rfl⟩ | ⟨kg, kc, rfl, _, hkg, hk⟩
    · go_enter Try.func80, Try.ntmps80
      go_wp2
      refine wp_loop_rounds 1 ?_
      rw [rounds_succ]
      go_wp2
      go_ret
      exact ⟨rfl, Below.refl _ _⟩
    · cases ks with
      | nil =>
        go_enter Try.func80, Try.ntmps80
        go_wp2
        refine wp_loop_rounds 1 ?_
        rw [rounds_succ]
        go_wp2
        go_ret
        exact ⟨rfl, Below.refl _ _⟩
      | cons y ks =>
        obtain ⟨c0, c1, c2, c3⟩ := hk 0 (by simp)
        simp only [Nat.zero_mul, Nat.zero_add, List.getElem_cons_zero] at c0 c1 c2 c3
        obtain ⟨n, hn⟩ : ∃ n, n = (y :: ks).length := ⟨_, rfl⟩
        have hn' : (0 : Int) < (n : Int) := by rw [hn]; simp
        have hfin : ((y :: ks).all fun k => ([] : List Item).any (keyIs k)) = false := by simp
        rw [hfin, ← hn]
        clear hn hfin hk
        go_enter Try.func80, Try.ntmps80
        go_wp2
        refine wp_loop_rounds 1 ?_
        rw [rounds_succ]
        go_wp2_with (go_at_call 78; refine (has_nil y _).mono ?_; rintro e w1 ⟨rfl, hb1⟩)
        go_ret
        exact ⟨rfl, hb1⟩
  · exact hasAll_in g cap l kv ks w hl hit B hks hkl

/-- Is an item with this text one of the items? -/
def holdsB (l : List Item) (t : ByteArray) : Bool := l.any fun x => decide (x.text = t)

set_option maxRecDepth 100000 in
set_option maxHeartbeats 400000 in
theorem holds_at (v : Value) (l : List Item) (y : Item) (w : World) (hl : l.length ≤ 24) (hv : ItemsAt w v l) :
    Calls Try.prog 83 #[v, .agg #[.int .i64 y.kind, .string y.name, .string y.host, .int .i64 y.number, .int .i64 y.size, .string y.disk, .bool y.only, .int .i64 y.lun, .string y.text]] w fun e w' => e = .returned (.bool (holdsB l y.text)) ∧ Below w.heap.size w w' := by
  rcases hv with ⟨rfl, rfl⟩ | ⟨g, cap, rfl, hcap, hit⟩
  · go_enter Try.func83, Try.ntmps83
    go_wp2
    refine wp_loop_rounds 1 ?_
    rw [rounds_succ]
    go_wp2
    go_ret
    exact ⟨rfl, (Below.refl _ _).alloc (Nat.le_refl _) _⟩
  · have hg := hit.1
    have b6 : (w.alloc (.cells #[.int .i64 y.kind, .string y.name, .string y.host, .int .i64 y.number, .int .i64 y.size, .string y.disk, .bool y.only, .int .i64 y.lun, .string y.text] 99)).cell? ⟨w.heap.size, 8, none⟩ = some (.string y.text) := by go_simp
    have hb0 : Below (w.heap.size + 1) (w.alloc (.cells #[.int .i64 y.kind, .string y.name, .string y.host, .int .i64 y.number, .int .i64 y.size, .string y.disk, .bool y.only, .int .i64 y.lun, .string y.text] 99)) (w.alloc (.cells #[.int .i64 y.kind, .string y.name, .string y.host, .int .i64 y.number, .int .i64 y.size, .string y.disk, .bool y.only, .int .i64 y.lun, .string y.text] 99)) := Below.refl _ _
    have hit0 := hit.below ((Below.refl w.heap.size w).alloc (Nat.le_refl _) (.cells #[.int .i64 y.kind, .string y.name, .string y.host, .int .i64 y.number, .int .i64 y.size, .string y.disk, .bool y.only, .int .i64 y.lun, .string y.text] 99)) hg
    go_enter Try.func83, Try.ntmps83
    go_wp2
    generalize hW : w.alloc (.cells #[.int .i64 y.kind, .string y.name, .string y.host, .int .i64 y.number, .int .i64 y.size, .string y.disk, .bool y.only, .int .i64 y.lun, .string y.text] 99) = w0 at *
    have hfin : Below w.heap.size w w0 := by rw [← hW]; exact (Below.refl _ _).alloc (Nat.le_refl _) _
    clear hW hit
    go_loopw [5] (fun i wr => ∃ k : Nat, k ≤ l.length ∧ i = .int .i64 k ∧ (∀ x ∈ l.take k, ¬ x.text = y.text) ∧ Below (w.heap.size + 1) w0 wr) (fun i _ => l.length - (intOf i).toNat)
    case atStart => exact ⟨0, Nat.zero_le _, rfl, by simp, hb0⟩
    case round =>
      obtain ⟨k, hk, rfl, hno, hbe⟩ := hrel
      have Hno := hide hno
      clear hno
      by_cases hlt : k < l.length
      · obtain ⟨x, hx⟩ : ∃ x, x = l[k] := ⟨_, rfl⟩
        have hi := (hit0.2 k hlt).below hbe (by omega)
        rw [← hx] at hi
        have c8 := hi.c8
        have d6 := (hbe.cell (p := ⟨w.heap.size, 8, none⟩) (by simp)).trans b6
        have Hx := hide hx
        have hlt' : (k : Int) < (l.length : Int) := by omega
        clear hx hi
        by_cases he : x.text = y.text
        · have hf : holdsB l y.text = true := by unfold holdsB; rw [List.any_eq_true]; exact ⟨x, by rw [unhide Hx]; exact List.getElem_mem hlt, by simpa using he⟩
          have Hf := hide hf
          have he' : (x.text.toList == y.text.toList) = true := by rw [he]; simp
          clear hf he
          go_wp2
          go_quiet (fail)
          go_wp2
          go_ret
          exact ⟨ret_bool (unhide Hf).symm, hfin.trans ((below_drewN hbe _).mono (by omega))⟩
        · have hno : ∀ x ∈ l.take (k + 1), ¬ x.text = y.text := by
            intro z hz
            rw [List.take_succ_eq_append_getElem hlt, List.mem_append] at hz
            rcases hz with h | h
            · exact unhide Hno z h
            · simp at h; rw [h, ← unhide Hx]; exact he
          have H2 := hide hno
          have he' : (x.text.toList == y.text.toList) = false := by
            rw [beq_eq_false_iff_ne]; exact fun h => he (tl_inj h)
          clear hno he
          go_wp2
          go_quiet (fail)
          go_wp2
          go_roundw
          case rel => exact ⟨k + 1, by omega, by go_num, unhide H2, below_drewN hbe _⟩
          case measure => simp [intOf]; omega
      · have hno := unhide Hno
        rw [List.take_of_length_le (by omega)] at hno
        have hf : holdsB l y.text = false := by unfold holdsB; rw [List.any_eq_false]; intro x hx; simpa using hno x hx
        have Hf := hide hf
        clear hno hf
        go_wp2
        go_ret
        exact ⟨ret_bool (unhide Hf).symm, hfin.trans (hbe.mono (by omega))⟩

/-- How many bytes the items have. -/
def sizeI (l : List Item) : Nat := (l.map fun x => x.text.size).sum

theorem sizeI_take (l : List Item) (k : Nat) (h : k < l.length) : sizeI (l.take (k + 1)) = sizeI (l.take k) + l[k].text.size := by
  unfold sizeI
  rw [List.take_succ_eq_append_getElem h, List.map_append, List.sum_append]
  simp

theorem sizeI_le (l : List Item) (k : Nat) : sizeI (l.take k) ≤ sizeI l := by
  unfold sizeI
  conv => rhs; rw [← List.take_append_drop k l]
  rw [List.map_append, List.sum_append]
  omega

set_option maxRecDepth 100000 in
set_option maxHeartbeats 400000 in
theorem size_at (v : Value) (l : List Item) (w : World) (hl : l.length ≤ 24) (hsz : sizeI l ≤ 1000000) (hv : ItemsAt w v l) :
    Calls Try.prog 95 #[v] w fun e w' => e = .returned (.int .i64 (sizeI l)) ∧ w' = w := by
  rcases hv with ⟨rfl, rfl⟩ | ⟨g, cap, rfl, hcap, hit⟩
  · go_enter Try.func95, Try.ntmps95
    go_wp2
    refine wp_loop_rounds 1 ?_
    rw [rounds_succ]
    go_wp2
    go_ret
    exact ⟨rfl, rfl⟩
  · go_enter Try.func95, Try.ntmps95
    go_wp2
    go_loop [3, 4] (fun t i => ∃ k : Nat, k ≤ l.length ∧ i = .int .i64 k ∧ t = .int .i64 (sizeI (l.take k))) (fun _ i => l.length - (intOf i).toNat)
    case atStart => exact ⟨0, Nat.zero_le _, rfl, rfl⟩
    case round =>
      obtain ⟨k, hk, rfl, rfl⟩ := hrel
      by_cases hlt : k < l.length
      · have hc := (hit.2 k hlt).c8
        have hs1 := sizeI_take l k hlt
        have hs2 := sizeI_le l (k + 1)
        obtain ⟨x, hx⟩ : ∃ x, x = l[k] := ⟨_, rfl⟩
        rw [← hx] at hc hs1
        have hlt' : (k : Int) < (l.length : Int) := by omega
        have hs3 : ((sizeI (l.take k) : Nat) : Int) + (x.text.size : Int) ≤ 1000000 := by omega
        have H1 := hide hs1
        clear hx hs1 hs2
        go_wp2
        go_round
        case rel => exact ⟨k + 1, by omega, by go_num, by rw [unhide H1]; go_num⟩
        case measure => simp [intOf]; omega
      · have hkl : k = l.length := by omega
        have ht : l.take k = l := List.take_of_length_le (by omega)
        rw [ht]
        go_wp2
        go_ret
        exact ⟨rfl, rfl⟩

end Go.Proofs.Ytdlhgbhaeedbdaa
