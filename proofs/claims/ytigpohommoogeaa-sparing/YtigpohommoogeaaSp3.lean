/- 'needs'. -/
import Derived.Test.YtigpohommoogeaaSp2
namespace Go.Proofs.Ytigpohommoogeaa
open Go.RowKit

/-- What an item names, told by the texts of the list's items. -/
def ndL (L : List It) (x : It) : List ByteArray := (namesOf x.item).map (ndT L)

theorem cat3 (a b c : List UInt8) : ((⟨a.toArray⟩ ++ ⟨b.toArray⟩ : ByteArray) ++ ⟨c.toArray⟩) = ⟨(a ++ (b ++ c)).toArray⟩ := by
  apply ByteArray.ext
  simp [ByteArray.data_append]
theorem cat5 (a b c d e : List UInt8) : ((((⟨a.toArray⟩ ++ ⟨b.toArray⟩ : ByteArray) ++ ⟨c.toArray⟩) ++ ⟨d.toArray⟩) ++ ⟨e.toArray⟩) = ⟨(a ++ (b ++ (c ++ (d ++ e)))).toArray⟩ := by
  apply ByteArray.ext
  simp [ByteArray.data_append]

theorem mk_size (a : List UInt8) : (⟨a.toArray⟩ : ByteArray).size = a.length := by simp [ByteArray.size]

theorem textOf_size {x : It} (hx : x.ok) : (textOf x).size ≤ 100 := by
  rw [show textOf x = ⟨x.text.toArray⟩ from rfl, mk_size]
  rcases hx with ⟨ha, ⟨e, _⟩ | ⟨e, _⟩ | ⟨e, hb, _⟩ | ⟨e, hb, _⟩ | ⟨e, hb, _⟩⟩
  all_goals simp [It.text, It.body, e]
  all_goals (have := ha.2.1; try have := hb.2.1); omega

theorem bool_eq {a b : Bool} {p : Prop} (h1 : a = true ↔ p) (h2 : b = true ↔ p) : a = b := by
  rw [Bool.eq_iff_iff, h1, h2]

theorem fnd_target {L : List It} (hL : ∀ y ∈ L, y.ok) {a : List UInt8} (ha : isName a) : fnd (L.map textOf) ⟨([116, 97, 114, 103, 101, 116, 32] ++ (a ++ [59])).toArray⟩ = ndT L ⟨1, ⟨a.toArray⟩, ⟨#[]⟩, 0⟩ :=
  fnd_key fun y hy => bool_eq ((beg_pre y _).trans (pre_target (hL y hy) ha)) (key_target a)
theorem fnd_disk {L : List It} (hL : ∀ y ∈ L, y.ok) {a : List UInt8} (ha : isName a) : fnd (L.map textOf) ⟨([100, 105, 115, 107, 32] ++ (a ++ [32])).toArray⟩ = ndT L ⟨0, ⟨a.toArray⟩, ⟨#[]⟩, 0⟩ :=
  fnd_key fun y hy => bool_eq ((beg_pre y _).trans (pre_disk (hL y hy) ha)) (key_disk a)
theorem fnd_host {L : List It} (hL : ∀ y ∈ L, y.ok) {a b : List UInt8} (ha : isName a) (hb : isName b) : fnd (L.map textOf) ⟨([104, 111, 115, 116, 32] ++ (a ++ ([32] ++ (b ++ [59])))).toArray⟩ = ndT L ⟨3, ⟨a.toArray⟩, ⟨b.toArray⟩, 0⟩ :=
  fnd_key fun y hy => bool_eq ((beg_pre y _).trans (pre_host (hL y hy) ha hb)) (key_host a b)
theorem fnd_lun {L : List It} (hL : ∀ y ∈ L, y.ok) {a : List UInt8} (ha : isName a) {n : Nat} (hn : n ≤ 9) : fnd (L.map textOf) ⟨([108, 117, 110, 32] ++ (a ++ ([32] ++ ([dg n] ++ [32])))).toArray⟩ = ndT L ⟨2, ⟨a.toArray⟩, ⟨#[]⟩, (n : Int)⟩ :=
  fnd_key fun y hy => bool_eq ((beg_pre y _).trans (pre_lun (hL y hy) ha hn)) (key_lun a n)

theorem strs_two (w : World) (o : Nat → Obj) (a b : ByteArray) : o 0 = .cells #[.string a, .string b] 9 → StrsAt (w.alloc (o 0)) (.slice (some ⟨w.heap.size, 0, none⟩) 2 2) [a, b] := by
  intro e
  rw [e]
  refine Or.inr ⟨_, 2, rfl, by simp, by simp, fun i hi => ?_⟩
  match i, hi with
  | 0, _ => go_simp
  | 1, _ => go_simp
theorem strs_one (w : World) (a : ByteArray) : StrsAt (w.alloc (.cells #[.string a] 9)) (.slice (some ⟨w.heap.size, 0, none⟩) 1 1) [a] := by
  refine Or.inr ⟨_, 1, rfl, by simp, by simp, fun i hi => ?_⟩
  match i, hi with
  | 0, _ => go_simp

theorem add_run (a b : ByteArray) (h : a.size + b.size ≤ 1000) (w : World) : (Op.stringOp .add a b).run Try.prog w = .ok (.string (a ++ b)) w := run_string_add_sum (P := Try.prog) w a b (by omega)

set_option maxRecDepth 100000 in
set_option maxHeartbeats 1000000 in
theorem needs_any (g cap : Nat) (L : List It) (hL : ∀ y ∈ L, y.ok) (hl : L.length ≤ 24) (x : It) (hx : x.ok) (w : World) (hit : StrsIn w g 0 (L.map textOf)) :
    Calls Try.prog 50 #[.slice (some ⟨g, 0, none⟩) L.length cap, .string (textOf x)] w fun e w' => ∃ v, e = .returned v ∧ StrsAt w' v (ndL L x) ∧ Below w.heap.size w w' := by
  have hsz := textOf_size hx
  have hfind : ∀ q : ByteArray, q.size ≤ 1000 → Calls Try.prog 61 #[.slice (some ⟨g, 0, none⟩) L.length cap, .string q] w fun e w' => e = .returned (.string (fnd (L.map textOf) q)) ∧ w' = w := by
    intro q hq
    have := find_in g cap (L.map textOf) q w (by simp; omega) (by intro y hy; obtain ⟨z, hz, rfl⟩ := List.mem_map.1 hy; have := textOf_size (hL z hz); omega) (by omega) hit
    rw [List.length_map] at this
    exact this
  have hw : ∀ n : Nat, n ≤ 10 → Calls Try.prog 60 #[.string (textOf x), .int .i64 (n : Nat)] w fun e w' => e = .returned (.string (wrd (textOf x) n)) ∧ w' = w := fun n hn => word_n (textOf x) n w (by omega) hn
  have hr := rank_any (textOf x) w (by omega)
  rw [rank_text hx] at hr
  have hxa : isName x.a := hx.1
  have hal : x.a.length ≤ 4 := hxa.2.1
  have hAs : (⟨x.a.toArray⟩ : ByteArray).size ≤ 4 := by rw [mk_size]; exact hal
  by_cases h2 : x.kind = 2
  · obtain ⟨e1, e3⟩ := word_lun hx h2
    have hxb : isName x.b := by rcases hx.2 with ⟨e, _⟩ | ⟨e, _⟩ | ⟨e, h1, _⟩ | ⟨e, _⟩ | ⟨e, _⟩ <;> first | exact h1 | omega
    have hBs : (⟨x.b.toArray⟩ : ByteArray).size ≤ 4 := by rw [mk_size]; exact hxb.2.1
    have hnd : ndL L x = [ndT L ⟨1, ⟨x.a.toArray⟩, ⟨#[]⟩, 0⟩, ndT L ⟨0, ⟨x.b.toArray⟩, ⟨#[]⟩, 0⟩] := by simp [ndL, namesOf, It.item, h2]
    rw [hnd]
    have hw1 := hw 1 (by omega)
    have hw3 := hw 3 (by omega)
    rw [e1] at hw1
    rw [e3] at hw3
    rw [h2] at hr
    have a1 := add_run ⟨#[116, 97, 114, 103, 101, 116, 32]⟩ ⟨x.a.toArray⟩ (by have : (⟨#[116, 97, 114, 103, 101, 116, 32]⟩ : ByteArray).size = 7 := rfl; omega)
    have a2 := add_run (⟨#[116, 97, 114, 103, 101, 116, 32]⟩ ++ ⟨x.a.toArray⟩) ⟨#[59]⟩ (by rw [ByteArray.size_append]; have : (⟨#[116, 97, 114, 103, 101, 116, 32]⟩ : ByteArray).size = 7 := rfl; have : (⟨#[59]⟩ : ByteArray).size = 1 := rfl; omega)
    have a3 := add_run ⟨#[100, 105, 115, 107, 32]⟩ ⟨x.b.toArray⟩ (by have : (⟨#[100, 105, 115, 107, 32]⟩ : ByteArray).size = 5 := rfl; omega)
    have a4 := add_run (⟨#[100, 105, 115, 107, 32]⟩ ++ ⟨x.b.toArray⟩) ⟨#[32]⟩ (by rw [ByteArray.size_append]; have : (⟨#[100, 105, 115, 107, 32]⟩ : ByteArray).size = 5 := rfl; have : (⟨#[32]⟩ : ByteArray).size = 1 := rfl; omega)
    have q1 := cat3 [116, 97, 114, 103, 101, 116, 32] x.a [59]
    have q2 := cat3 [100, 105, 115, 107, 32] x.b [32]
    have f1 := hfind ⟨([116, 97, 114, 103, 101, 116, 32] ++ (x.a ++ [59])).toArray⟩ (by rw [mk_size]; simp; omega)
    have f2 := hfind ⟨([100, 105, 115, 107, 32] ++ (x.b ++ [32])).toArray⟩ (by rw [mk_size]; simp; have := hxb.2.1; omega)
    rw [fnd_target hL hxa, ← q1] at f1
    rw [fnd_disk hL hxb, ← q2] at f2
    generalize ndT L ⟨1, ⟨x.a.toArray⟩, ⟨#[]⟩, 0⟩ = N1 at *
    generalize ndT L ⟨0, ⟨x.b.toArray⟩, ⟨#[]⟩, 0⟩ = N2 at *
    generalize (⟨x.a.toArray⟩ : ByteArray) = A at *
    generalize (⟨x.b.toArray⟩ : ByteArray) = B at *
    generalize hQ1 : (⟨[116, 97, 114, 103, 101, 116, 32].toArray⟩ ++ A : ByteArray) = Q1 at *
    generalize hQ2 : (⟨[100, 105, 115, 107, 32].toArray⟩ ++ B : ByteArray) = Q2 at *
    generalize hR1 : (Q1 ++ ⟨[59].toArray⟩ : ByteArray) = R1 at *
    generalize hR2 : (Q2 ++ ⟨[32].toArray⟩ : ByteArray) = R2 at *
    generalize textOf x = X at *
    have F1 := hide f1
    have F2 := hide f2
    have W1 := hide hw1
    have W3 := hide hw3
    have HR := hide hr
    clear f1 f2 hw1 hw3 hr q1 q2 hQ1 hQ2 hR1 hR2 hfind hw hnd e1 e3 h2
    go_enter Try.func50, Try.ntmps50
    go_wp2_with fail
    refine (unhide W1).mono ?_
    rintro e w1 ⟨rfl, he⟩
    replace he := he.symm
    subst he
    go_wp2_with fail
    refine (unhide HR).mono ?_
    rintro e w1 ⟨rfl, he⟩
    replace he := he.symm
    subst he
    go_wp2_with fail
    refine (unhide F1).mono ?_
    rintro e w1 ⟨rfl, he⟩
    replace he := he.symm
    subst he
    go_wp2_with fail
    refine (unhide W3).mono ?_
    rintro e w1 ⟨rfl, he⟩
    replace he := he.symm
    subst he
    go_wp2_with fail
    refine (unhide F2).mono ?_
    rintro e w1 ⟨rfl, he⟩
    replace he := he.symm
    subst he
    go_wp2
    go_ret
    exact ⟨_, rfl, strs_two w (fun _ => .cells #[.string N1, .string N2] 9) N1 N2 rfl, (Below.refl _ _).alloc (Nat.le_refl _) _⟩
  by_cases h3 : x.kind = 3
  · have e1 := word_host hx h3
    have hnd : ndL L x = [ndT L ⟨1, ⟨x.a.toArray⟩, ⟨#[]⟩, 0⟩] := by simp [ndL, namesOf, It.item, h3]
    rw [hnd]
    have hw1 := hw 1 (by omega)
    rw [e1] at hw1
    rw [h3] at hr
    have a1 := add_run ⟨#[116, 97, 114, 103, 101, 116, 32]⟩ ⟨x.a.toArray⟩ (by have : (⟨#[116, 97, 114, 103, 101, 116, 32]⟩ : ByteArray).size = 7 := rfl; omega)
    have a2 := add_run (⟨#[116, 97, 114, 103, 101, 116, 32]⟩ ++ ⟨x.a.toArray⟩) ⟨#[59]⟩ (by rw [ByteArray.size_append]; have : (⟨#[116, 97, 114, 103, 101, 116, 32]⟩ : ByteArray).size = 7 := rfl; have : (⟨#[59]⟩ : ByteArray).size = 1 := rfl; omega)
    have q1 := cat3 [116, 97, 114, 103, 101, 116, 32] x.a [59]
    have f1 := hfind ⟨([116, 97, 114, 103, 101, 116, 32] ++ (x.a ++ [59])).toArray⟩ (by rw [mk_size]; simp; omega)
    rw [fnd_target hL hxa, ← q1] at f1
    generalize ndT L ⟨1, ⟨x.a.toArray⟩, ⟨#[]⟩, 0⟩ = N1 at *
    generalize (⟨x.a.toArray⟩ : ByteArray) = A at *
    generalize hQ1 : (⟨[116, 97, 114, 103, 101, 116, 32].toArray⟩ ++ A : ByteArray) = Q1 at *
    generalize hR1 : (Q1 ++ ⟨[59].toArray⟩ : ByteArray) = R1 at *
    generalize textOf x = X at *
    have F1 := hide f1
    have W1 := hide hw1
    have HR := hide hr
    clear f1 hw1 hr q1 hQ1 hR1 hfind hw hnd e1 h2 h3
    go_enter Try.func50, Try.ntmps50
    go_wp2_with fail
    refine (unhide W1).mono ?_
    rintro e w1 ⟨rfl, he⟩
    replace he := he.symm
    subst he
    go_wp2_with fail
    refine (unhide HR).mono ?_
    rintro e w1 ⟨rfl, he⟩
    replace he := he.symm
    subst he
    go_wp2_with fail
    refine (unhide F1).mono ?_
    rintro e w1 ⟨rfl, he⟩
    replace he := he.symm
    subst he
    go_wp2
    go_ret
    exact ⟨_, rfl, strs_one w N1, (Below.refl _ _).alloc (Nat.le_refl _) _⟩
  by_cases h4 : x.kind = 4
  · obtain ⟨e1, e2, e4⟩ := word_map hx h4
    have hxb : isName x.b ∧ x.m ≤ 7 := by rcases hx.2 with ⟨e, _⟩ | ⟨e, _⟩ | ⟨e, _⟩ | ⟨e, _⟩ | ⟨e, h1, _, h5⟩ <;> first | exact ⟨h1, h5⟩ | omega
    have hBs : (⟨x.b.toArray⟩ : ByteArray).size ≤ 4 := by rw [mk_size]; exact hxb.1.2.1
    have hMs : (⟨[dg x.m].toArray⟩ : ByteArray).size = 1 := rfl
    have hnd : ndL L x = [ndT L ⟨3, ⟨x.a.toArray⟩, ⟨x.b.toArray⟩, 0⟩, ndT L ⟨2, ⟨x.a.toArray⟩, ⟨#[]⟩, (x.m : Int)⟩] := by simp [ndL, namesOf, It.item, h4]
    rw [hnd]
    have hw1 := hw 1 (by omega)
    have hw2 := hw 2 (by omega)
    have hw4 := hw 4 (by omega)
    rw [e1] at hw1
    rw [e2] at hw2
    rw [e4, show (⟨#[dg x.m]⟩ : ByteArray) = ⟨[dg x.m].toArray⟩ from rfl] at hw4
    rw [h4] at hr
    have zH : (⟨#[104, 111, 115, 116, 32]⟩ : ByteArray).size = 5 := rfl
    have zU : (⟨#[108, 117, 110, 32]⟩ : ByteArray).size = 4 := rfl
    have z1 : (⟨#[32]⟩ : ByteArray).size = 1 := rfl
    have z2 : (⟨#[59]⟩ : ByteArray).size = 1 := rfl
    have a1 := add_run ⟨#[104, 111, 115, 116, 32]⟩ ⟨x.a.toArray⟩ (by omega)
    have a2 := add_run (⟨#[104, 111, 115, 116, 32]⟩ ++ ⟨x.a.toArray⟩) ⟨#[32]⟩ (by rw [ByteArray.size_append]; omega)
    have a3 := add_run ((⟨#[104, 111, 115, 116, 32]⟩ ++ ⟨x.a.toArray⟩) ++ ⟨#[32]⟩) ⟨x.b.toArray⟩ (by rw [ByteArray.size_append, ByteArray.size_append]; omega)
    have a4 := add_run (((⟨#[104, 111, 115, 116, 32]⟩ ++ ⟨x.a.toArray⟩) ++ ⟨#[32]⟩) ++ ⟨x.b.toArray⟩) ⟨#[59]⟩ (by rw [ByteArray.size_append, ByteArray.size_append, ByteArray.size_append]; omega)
    have b1 := add_run ⟨#[108, 117, 110, 32]⟩ ⟨x.a.toArray⟩ (by omega)
    have b2 := add_run (⟨#[108, 117, 110, 32]⟩ ++ ⟨x.a.toArray⟩) ⟨#[32]⟩ (by rw [ByteArray.size_append]; omega)
    have b3 := add_run ((⟨#[108, 117, 110, 32]⟩ ++ ⟨x.a.toArray⟩) ++ ⟨#[32]⟩) ⟨[dg x.m].toArray⟩ (by rw [ByteArray.size_append, ByteArray.size_append]; omega)
    have b4 := add_run (((⟨#[108, 117, 110, 32]⟩ ++ ⟨x.a.toArray⟩) ++ ⟨#[32]⟩) ++ ⟨[dg x.m].toArray⟩) ⟨#[32]⟩ (by rw [ByteArray.size_append, ByteArray.size_append, ByteArray.size_append]; omega)
    have q1 := cat5 [104, 111, 115, 116, 32] x.a [32] x.b [59]
    have q2 := cat5 [108, 117, 110, 32] x.a [32] [dg x.m] [32]
    have f1 := hfind ⟨([104, 111, 115, 116, 32] ++ (x.a ++ ([32] ++ (x.b ++ [59])))).toArray⟩ (by rw [mk_size]; simp; have := hxb.1.2.1; omega)
    have f2 := hfind ⟨([108, 117, 110, 32] ++ (x.a ++ ([32] ++ ([dg x.m] ++ [32])))).toArray⟩ (by rw [mk_size]; simp; omega)
    rw [fnd_host hL hxa hxb.1, ← q1] at f1
    rw [fnd_lun hL hxa (by omega), ← q2] at f2
    generalize ndT L ⟨3, ⟨x.a.toArray⟩, ⟨x.b.toArray⟩, 0⟩ = N1 at *
    generalize ndT L ⟨2, ⟨x.a.toArray⟩, ⟨#[]⟩, (x.m : Int)⟩ = N2 at *
    generalize (⟨x.a.toArray⟩ : ByteArray) = A at *
    generalize (⟨x.b.toArray⟩ : ByteArray) = B at *
    generalize (⟨[dg x.m].toArray⟩ : ByteArray) = D at *
    generalize hQ1 : (⟨[104, 111, 115, 116, 32].toArray⟩ ++ A : ByteArray) = Q1 at *
    generalize hQ2 : (⟨[108, 117, 110, 32].toArray⟩ ++ A : ByteArray) = Q2 at *
    generalize hR1 : (Q1 ++ ⟨[32].toArray⟩ : ByteArray) = R1 at *
    generalize hR2 : (Q2 ++ ⟨[32].toArray⟩ : ByteArray) = R2 at *
    generalize hS1 : (R1 ++ B : ByteArray) = S1 at *
    generalize hS2 : (R2 ++ D : ByteArray) = S2 at *
    generalize hT1 : (S1 ++ ⟨[59].toArray⟩ : ByteArray) = T1 at *
    generalize hT2 : (S2 ++ ⟨[32].toArray⟩ : ByteArray) = T2 at *
    generalize textOf x = X at *
    have F1 := hide f1
    have F2 := hide f2
    have W1 := hide hw1
    have W2 := hide hw2
    have W4 := hide hw4
    have HR := hide hr
    clear f1 f2 hw1 hw2 hw4 hr q1 q2 hQ1 hQ2 hR1 hR2 hS1 hS2 hT1 hT2 hfind hw hnd e1 e2 e4 h2 h3 h4
    go_enter Try.func50, Try.ntmps50
    go_wp2_with fail
    refine (unhide W1).mono ?_
    rintro e w1 ⟨rfl, he⟩
    replace he := he.symm
    subst he
    go_wp2_with fail
    refine (unhide HR).mono ?_
    rintro e w1 ⟨rfl, he⟩
    replace he := he.symm
    subst he
    go_wp2_with fail
    refine (unhide W2).mono ?_
    rintro e w1 ⟨rfl, he⟩
    replace he := he.symm
    subst he
    go_wp2_with fail
    refine (unhide F1).mono ?_
    rintro e w1 ⟨rfl, he⟩
    replace he := he.symm
    subst he
    go_wp2_with fail
    refine (unhide W4).mono ?_
    rintro e w1 ⟨rfl, he⟩
    replace he := he.symm
    subst he
    go_wp2_with fail
    refine (unhide F2).mono ?_
    rintro e w1 ⟨rfl, he⟩
    replace he := he.symm
    subst he
    go_wp2
    go_ret
    exact ⟨_, rfl, strs_two w (fun _ => .cells #[.string N1, .string N2] 9) N1 N2 rfl, (Below.refl _ _).alloc (Nat.le_refl _) _⟩
  · have hnd : ndL L x = [] := by simp [ndL, namesOf, It.item, h2, h3, h4]
    rw [hnd]
    have hw1 := hw 1 (by omega)
    have r2 : ((x.kind : Int) == 2) = false := by rw [beq_eq_false_iff_ne]; omega
    have r3 : ((x.kind : Int) == 3) = false := by rw [beq_eq_false_iff_ne]; omega
    have r4 : ((x.kind : Int) == 4) = false := by rw [beq_eq_false_iff_ne]; omega
    generalize wrd (textOf x) 1 = A at *
    generalize textOf x = X at *
    have W1 := hide hw1
    have HR := hide hr
    clear hw1 hr hfind hw hnd h2 h3 h4
    go_enter Try.func50, Try.ntmps50
    go_wp2_with fail
    refine (unhide W1).mono ?_
    rintro e w1 ⟨rfl, he⟩
    replace he := he.symm
    subst he
    go_wp2_with fail
    refine (unhide HR).mono ?_
    rintro e w1 ⟨rfl, he⟩
    replace he := he.symm
    subst he
    go_wp2
    go_ret
    exact ⟨_, rfl, Or.inl ⟨rfl, rfl⟩, Below.refl _ _⟩

end Go.Proofs.Ytigpohommoogeaa
