/- The law Devices, walked. -/
import Derived.Test.YtdlhgbhaeedbdaaDv20
namespace Go.Proofs.Ytdlhgbhaeedbdaa
open Go.RowKit

/-- One step of a script of the device. -/
structure Cx where
  (K A : Int)
  (s : ByteArray)

structure CxAt (w : World) (g o : Nat) (x : Cx) : Prop where
  c0 : w.cell? ⟨g, o, none⟩ = some (.int .i64 x.K)
  c1 : w.cell? ⟨g, o + 1, none⟩ = some (.int .i64 x.A)
  c2 : w.cell? ⟨g, o + 2, none⟩ = some (.string x.s)

theorem CxAt.below {B : Nat} {w w' : World} {g o : Nat} {x : Cx} (h : CxAt w g o x) (hb : Below B w w') (hg : g < B) : CxAt w' g o x :=
  ⟨(hb.cell (p := ⟨g, o, none⟩) hg).trans h.c0, (hb.cell (p := ⟨g, o + 1, none⟩) hg).trans h.c1, (hb.cell (p := ⟨g, o + 2, none⟩) hg).trans h.c2⟩

theorem SimN.keep {T : TypeId → Prop} {w w' : World} {b1 b2 n : Nat} (h : SimN w b1 b2 n) (hk : TK T w w') (hT : ∀ t, WT t → ¬ T t) : SimN w' b1 b2 n := by
  obtain ⟨S, U, l1, l2, d, a, b⟩ := h
  exact ⟨S, U, l1, l2, d, a.keep hk hT, b⟩

theorem SimN.mono {w : World} {b1 b2 n m : Nat} (h : SimN w b1 b2 n) (hm : n ≤ m) : SimN w b1 b2 m := by
  obtain ⟨S, U, l1, l2, d, a, b⟩ := h
  exact ⟨S, U, l1, l2, d, a, Nat.le_trans b hm⟩

/-- The step's own cells, in a block of their own. -/
structure CallW (w : World) (N : Nat) (K A : Int) (s : ByteArray) : Prop where
  ty : ∃ fr, w.heap[N]? = some (Obj.cells #[.int .i64 K, .int .i64 A, .string s] 32 fr)

theorem CallW.new (w : World) (K A : Int) (s : ByteArray) : CallW (w.alloc (.cells #[.int .i64 K, .int .i64 A, .string s] 32)) w.heap.size K A s := ⟨_, heap_alloc_last w _⟩

theorem CallW.keep {T : TypeId → Prop} {w w' : World} {N : Nat} {K A : Int} {s : ByteArray} (h : CallW w N K A s) (hk : TK T w w') (hT : ¬ T 32) : CallW w' N K A s := by
  obtain ⟨fr, h⟩ := h.ty
  exact ⟨fr, (hk.block N _ _ fr h hT).trans h⟩

theorem CallW.c1 {w : World} {N : Nat} {K A : Int} {s : ByteArray} (h : CallW w N K A s) : w.cell? ⟨N, 1, none⟩ = some (.int .i64 A) := by
  obtain ⟨fr, h⟩ := h.ty
  simp [World.cell?, h]

theorem not_wtC : ¬ WT 32 := by unfold WT AT RT; decide

set_option maxRecDepth 100000 in
set_option maxHeartbeats 2000000 in
theorem devices_any (a : Option Addr) (n cap : Nat) (f : Nat → Cx) (w : World) (hn : n ≤ 4398046511000) (hs : ∀ i, i < n → (f i).s.size ≤ 9223372036854775807 ∧ (f i).A ≤ 9223372036854775807)
    (ha : n = 0 ∨ ∃ g o, a = some ⟨g, o, none⟩ ∧ g < w.heap.size ∧ ∀ i, i < n → CxAt w g (o + i * 3) (f i)) :
    Calls Try.prog 3 #[.slice a n cap] w fun e w' => e = .returned (.bool true) ∧ Below w.heap.size w w' := by
  have Hs := hide hs
  have Hit := hide ha
  have hnot : ∀ (x : Bool) (w : World), (Op.unary .not (.bool x)).run Try.prog w = .ok (.bool (!x)) w := fun _ _ => rfl
  clear hs ha
  have H1 := hide (newDevice_any w)
  have H2 := hide (rnewDevice_any (w.alloc (.cells devCells 77)))
  have hsim := sim_new w
  have H3 := hide (fun w => print_any oneDisk w (by unfold maxLen; decide))
  rw [disk_chk, disk_prt] at H3
  simp only [oneDisk] at H3
  have hB1 : Below w.heap.size w ((w.alloc (.cells devCells 77)).alloc (.cells refCells 43)) := ((Below.refl _ _).alloc (Nat.le_refl _) _).alloc (by simp) _
  generalize hb1 : w.heap.size = b1 at *
  have hsz : (w.alloc (.cells devCells 77)).heap.size = b1 + 1 := by simp [hb1]
  rw [hsz] at H2
  generalize devCells = dc at *
  generalize refCells = rc at *
  go_enter Try.func3, Try.ntmps3
  go_wp2_with fail
  refine (unhide H1).mono ?_
  rintro e w1 ⟨rfl, hw1⟩
  replace hw1 := hw1.symm
  subst hw1
  go_wp2_with fail
  refine (unhide H2).mono ?_
  rintro e w2 ⟨rfl, hw2⟩
  rw [← hw2] at hsim hB1
  clear hw2
  go_wp2_with fail
  refine (unhide H3 w2).mono ?_
  rintro e w3 ⟨rfl, hB3⟩
  have hsim3 := hsim.keep (T := fun _ => False) (TK.of_below hB3) (fun _ _ => id)
  have hB4 : Below b1 w w3 := hB1.trans (hB3.mono (by have := hB1.size; omega))
  clear hsim hB1 hB3
  go_wp2_with fail
  go_loopw [7, 8] (fun v i wr => ∃ k : Nat, k ≤ n ∧ i = .int .i64 k ∧ SimN wr b1 (b1 + 1) k ∧ BV b1 wr v ∧ Below b1 w wr) (fun _ i _ => n - (intOf i).toNat)
  case atStart => exact ⟨0, Nat.zero_le _, rfl, hsim3, .inl rfl, hB4⟩
  case round =>
    obtain ⟨k, hk, rfl, hS, hv, hbe⟩ := hrel
    by_cases hlt : k < n
    · have hlt' : (k : Int) < (n : Int) := by omega
      obtain ⟨x, hx⟩ : ∃ x, x = f k := ⟨_, rfl⟩
      obtain ⟨g, o, ha, hg, hit⟩ := (unhide Hit).resolve_left (by omega)
      have hx1 : CxAt wr g (o + k * 3) x := by rw [hx]; exact (hit k hlt).below hbe hg
      subst ha
      clear hit
      have hxs := unhide Hs k hlt
      rw [← hx] at hxs
      clear hx
      obtain ⟨K, A, s⟩ := x
      obtain ⟨c0, c1, c2⟩ := hx1
      simp only at c0 c1 c2 hxs
      have hwA : Below wr.heap.size wr (wr.alloc (.cells #[.int .i64 K, .int .i64 A, .string s] 32)) := (Below.refl _ _).alloc (Nat.le_refl _) _
      have hSA := hS.keep (T := fun _ => False) (TK.of_below hwA) (fun _ _ => id)
      have hvA := hv.keep (T := fun _ => False) (TK.of_below hwA) id
      have hsz1 : b1 ≤ wr.heap.size := by rw [← hb1]; exact hbe.size
      have hbA := hbe.trans (hwA.mono hsz1)
      have hCA := CallW.new wr K A s
      have hszA : (wr.alloc (.cells #[.int .i64 K, .int .i64 A, .string s] 32)).heap.size = wr.heap.size + 1 := by simp
      have HSA := hide hSA
      have HvA := hide hvA
      have HbA := hide hbA
      have HCA := hide hCA
      clear hS hv hbe hwA hSA hvA hbA hCA
      by_cases k1 : K = 1
      · subst k1
        have HR := hide (reads_any b1 (b1 + 1) A _ k (by omega) (unhide HSA))
        go_wp2_with fail
        refine (unhide HR).mono ?_
        rintro e wT ⟨v, rfl, hV0, hT, hF⟩
        have hBT := (unhide HbA).trans (hF b1 (Nat.le_refl _) (Nat.le_succ _))
        have hV : BV b1 wT v := by
          rcases hV0 with h | ⟨g', f', h1, h2, h3⟩
          · exact .inl h
          · exact .inr ⟨g', f', h1, by omega, h3⟩
        obtain ⟨S', U', m1, m2, d', hsim', hl'⟩ := hT
        have e4 := hsim'.api.c4
        have e2 := hsim'.ref.c2
        have HSim := hide hsim'
        clear hsim'
        go_wp2_with (go_at_call 17; refine (dnum_any _ _).mono ?_; rintro e w3 ⟨rfl, rfl⟩)
        refine (adead_any b1 d' _ e4).mono ?_
        rintro e w9 ⟨rfl, rfl⟩
        go_wp2_with fail
        go_roundw
        case rel => exact ⟨k + 1, by omega, by go_num, ⟨S', U', m1, m2, d', unhide HSim, by omega⟩, hV, hBT⟩
        case measure => simp [intOf]; omega
      have g1 : (K == 1) = false := by simp [k1]
      by_cases k2 : K = 2
      · subst k2
        have HR := hide (writes_step b1 (b1 + 1) A s _ k hxs.1 (by omega) (unhide HSA))
        go_wp2_with fail
        refine (unhide HR).mono ?_
        rintro e wT ⟨rfl, hT, hF, hTK⟩
        have hBT := (unhide HbA).trans (hF b1 (Nat.le_refl _) (Nat.le_succ _))
        have hV := (unhide HvA).keep hTK not_wt8
        obtain ⟨S', U', m1, m2, d', hsim', hl'⟩ := hT
        have e4 := hsim'.api.c4
        have e2 := hsim'.ref.c2
        have HSim := hide hsim'
        clear hsim'
        go_wp2_with (go_at_call 17; refine (dnum_any _ _).mono ?_; rintro e w3 ⟨rfl, rfl⟩)
        refine (adead_any b1 d' _ e4).mono ?_
        rintro e w9 ⟨rfl, rfl⟩
        go_wp2_with fail
        go_roundw
        case rel => exact ⟨k + 1, by omega, by go_num, ⟨S', U', m1, m2, d', unhide HSim, by omega⟩, hV, hBT⟩
        case measure => simp [intOf]; omega
      have g2 : (K == 2) = false := by simp [k2]
      by_cases k3 : K = 3
      · subst k3
        obtain ⟨r, P1, h1, h2⟩ := flush_two (by omega) (unhide HSA)
        have HR := hide h1
        have HR2 := hide h2
        clear h1 h2
        go_wp2_with fail
        refine (unhide HR).mono ?_
        rintro e w5 ⟨rfl, hP⟩
        go_wp2_with fail
        refine (unhide HR2 w5 hP).mono ?_
        rintro e wT ⟨rfl, hT, hF, hTK⟩
        have hBT := (unhide HbA).trans (hF b1 (Nat.le_refl _) (Nat.le_succ _))
        have hV := (unhide HvA).keep hTK not_wt8
        clear hP
        obtain ⟨S', U', m1, m2, d', hsim', hl'⟩ := hT
        have e4 := hsim'.api.c4
        have e2 := hsim'.ref.c2
        have HSim := hide hsim'
        clear hsim'
        go_wp2_with (go_at_call 17; refine (dnum_any _ _).mono ?_; rintro e w3 ⟨rfl, rfl⟩)
        refine (adead_any b1 d' _ e4).mono ?_
        rintro e w9 ⟨rfl, rfl⟩
        go_wp2_with fail
        go_roundw
        case rel => exact ⟨k + 1, by omega, by go_num, ⟨S', U', m1, m2, d', unhide HSim, by omega⟩, hV, hBT⟩
        case measure => simp [intOf]; omega
      have g3 : (K == 3) = false := by simp [k3]
      by_cases k4 : K = 4
      · subst k4
        obtain ⟨P1, h1, h2⟩ := arm_two A hxs.2 (unhide HSA)
        have HR := hide h1
        have HR2 := hide h2
        clear h1 h2
        go_wp2_with fail
        refine (unhide HR).mono ?_
        rintro e w5 ⟨rfl, hP, hTK5⟩
        have e5 := ((unhide HCA).keep hTK5 not_wtC).c1
        go_wp2_with fail
        refine (unhide HR2 w5 hP).mono ?_
        rintro e wT ⟨rfl, hT, hF, hTK⟩
        have hBT := (unhide HbA).trans (hF b1 (Nat.le_refl _) (Nat.le_succ _))
        have hV := (unhide HvA).keep hTK not_wt8
        clear hP
        obtain ⟨S', U', m1, m2, d', hsim', hl'⟩ := hT
        have e4 := hsim'.api.c4
        have e2 := hsim'.ref.c2
        have HSim := hide hsim'
        clear hsim'
        go_wp2_with (go_at_call 17; refine (dnum_any _ _).mono ?_; rintro e w3 ⟨rfl, rfl⟩)
        refine (adead_any b1 d' _ e4).mono ?_
        rintro e w9 ⟨rfl, rfl⟩
        go_wp2_with fail
        go_roundw
        case rel => exact ⟨k + 1, by omega, by go_num, ⟨S', U', m1, m2, d', unhide HSim, by omega⟩, hV, hBT⟩
        case measure => simp [intOf]; omega
      have g4 : (K == 4) = false := by simp [k4]
      by_cases k5 : K = 5
      · subst k5
        obtain ⟨P1, h1, h2⟩ := restore_two A (by omega) (unhide HSA)
        have HR := hide h1
        have HR2 := hide h2
        clear h1 h2
        go_wp2_with fail
        refine (unhide HR).mono ?_
        rintro e w5 ⟨rfl, hP, hTK5⟩
        have e5 := ((unhide HCA).keep hTK5 not_wtC).c1
        go_wp2_with fail
        refine (unhide HR2 w5 hP).mono ?_
        rintro e wT ⟨rfl, hT, hF, hTK⟩
        have hBT := (unhide HbA).trans (hF b1 (Nat.le_refl _) (Nat.le_succ _))
        have hV := (unhide HvA).keep hTK not_wt8
        clear hP
        obtain ⟨S', U', m1, m2, d', hsim', hl'⟩ := hT
        have e4 := hsim'.api.c4
        have e2 := hsim'.ref.c2
        have HSim := hide hsim'
        clear hsim'
        go_wp2_with (go_at_call 17; refine (dnum_any _ _).mono ?_; rintro e w3 ⟨rfl, rfl⟩)
        refine (adead_any b1 d' _ e4).mono ?_
        rintro e w9 ⟨rfl, rfl⟩
        go_wp2_with fail
        go_roundw
        case rel => exact ⟨k + 1, by omega, by go_num, ⟨S', U', m1, m2, d', unhide HSim, by omega⟩, hV, hBT⟩
        case measure => simp [intOf]; omega
      have g5 : (K == 5) = false := by simp [k5]
      by_cases k6 : K = 6
      · subst k6
        rcases unhide HvA with rfl | ⟨gg, ff, rfl, hge, hrow⟩
        · go_wp2_with fail
          go_loopw [13] (fun kv wq => kv = .int .i64 0 ∧ wq = wr.alloc (.cells #[.int .i64 6, .int .i64 A, .string s] 32)) (fun _ _ => 0)
          case atStart => exact ⟨rfl, rfl⟩
          case round =>
            obtain ⟨rfl, rfl⟩ := hrel
            have hT := unhide HSA
            have hV := unhide HvA
            have hBT := unhide HbA
            obtain ⟨S', U', m1, m2, d', hsim', hl'⟩ := hT
            have e4 := hsim'.api.c4
            have e2 := hsim'.ref.c2
            have HSim := hide hsim'
            clear hsim'
            go_wp2_with (go_at_call 17; refine (dnum_any _ _).mono ?_; rintro e w3 ⟨rfl, rfl⟩)
            refine (adead_any b1 d' _ e4).mono ?_
            rintro e w9 ⟨rfl, rfl⟩
            go_wp2_with fail
            go_roundw
            case rel => exact ⟨k + 1, by omega, by go_num, ⟨S', U', m1, m2, d', unhide HSim, by omega⟩, hV, hBT⟩
            case measure => simp [intOf]; omega
        · go_wp2_with fail
          go_loopw [13] (fun kv wq => ∃ j : Nat, j ≤ 32 ∧ kv = .int .i64 j ∧ (∃ f', RowW wq gg 32 f') ∧ TK (fun t => t = 5) (wr.alloc (.cells #[.int .i64 6, .int .i64 A, .string s] 32)) wq ∧ Below b1 w wq) (fun kv _ => 32 - (intOf kv).toNat)
          case atStart => exact ⟨0, by omega, rfl, ⟨ff, hrow⟩, TK.refl _ _, unhide HbA⟩
          case round =>
            obtain ⟨j, hj, rfl, ⟨f', hf'⟩, hTK, hBT⟩ := hrel
            by_cases hj2 : j < 32
            · have hj3 : (j : Int) < 32 := by omega
              have q1 := hf'.cell j hj2
              have q2 := hf'.fz j hj2
              have HS2 := hide (hf'.set hj2 238)
              have e : ((238 : UInt8).toNat : Int) = 238 := rfl
              rw [e] at HS2
              obtain ⟨cs, fr, hty⟩ := hf'.ty
              go_wp2_with fail
              go_roundw
              case rel => exact ⟨j + 1, by omega, by go_num, ⟨_, unhide HS2⟩, hTK.trans (TK.setCell (T := fun t => t = 5) hty rfl _), Below.setCell hBT (p := ⟨gg, j, none⟩) hge _⟩
              case measure => simp [intOf]; omega
            · have hj3 : ¬ (j : Int) < 32 := by omega
              have hT := (unhide HSA).keep hTK (fun t ht e => not_wt8 (e ▸ ht))
              have hV : BV b1 _ (.slice (some ⟨gg, 0, none⟩) 32 32) := .inr ⟨gg, f', rfl, hge, hf'⟩
              obtain ⟨S', U', m1, m2, d', hsim', hl'⟩ := hT
              have e4 := hsim'.api.c4
              have e2 := hsim'.ref.c2
              have HSim := hide hsim'
              clear hsim'
              go_wp2_with (go_at_call 17; refine (dnum_any _ _).mono ?_; rintro e w3 ⟨rfl, rfl⟩)
              refine (adead_any b1 d' _ e4).mono ?_
              rintro e w9 ⟨rfl, rfl⟩
              go_wp2_with fail
              go_roundw
              case rel => exact ⟨k + 1, by omega, by go_num, ⟨S', U', m1, m2, d', unhide HSim, by omega⟩, hV, hBT⟩
              case measure => simp [intOf]; omega
      have g6 : (K == 6) = false := by simp [k6]
      have hT := unhide HSA
      have hV := unhide HvA
      have hBT := unhide HbA
      obtain ⟨S', U', m1, m2, d', hsim', hl'⟩ := hT
      have e4 := hsim'.api.c4
      have e2 := hsim'.ref.c2
      have HSim := hide hsim'
      clear hsim'
      go_wp2_with (go_at_call 17; refine (dnum_any _ _).mono ?_; rintro e w3 ⟨rfl, rfl⟩)
      refine (adead_any b1 d' _ e4).mono ?_
      rintro e w9 ⟨rfl, rfl⟩
      go_wp2_with fail
      go_roundw
      case rel => exact ⟨k + 1, by omega, by go_num, ⟨S', U', m1, m2, d', unhide HSim, by omega⟩, hV, hBT⟩
      case measure => simp [intOf]; omega
    · have hlt' : ¬ (k : Int) < (n : Int) := by omega
      go_wp2_with fail
      go_ret
      exact ⟨rfl, hbe⟩

end Go.Proofs.Ytdlhgbhaeedbdaa
