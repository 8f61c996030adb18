/- 'rack.Walk'. -/
import Derived.Test.YtdlhgbhaeedbdaaWk1
namespace Go.Proofs.Ytdlhgbhaeedbdaa
open Go.RowKit

/-- A list of texts that came in: at its place, or none. -/
def TxAt (w : World) (a : Option Addr) (ss : List ByteArray) : Prop :=
  (ss = []) ∨ ∃ g o, a = some ⟨g, o, none⟩ ∧ g < w.heap.size ∧ ∀ i (h : i < ss.length), w.cell? ⟨g, o + i, none⟩ = some (.string ss[i])

theorem aprint_at (v : Value) (l : List Item) (w : World) (h : Fits l) (hv : ItemsAt w v l) :
    Calls Try.prog 41 #[v] w fun e w' => e = .returned (.string ⟨(catB (sortTo l l.length)).toArray⟩) ∧ Below w.heap.size w w' := by
  rcases hv with ⟨rfl, rfl⟩ | ⟨g, cap, rfl, hcap, hit⟩
  · exact aprint_nil w
  · exact aprint_in g cap l w h.1 (fun x hx => h.text x (mem_sortTo hx)) hit

set_option maxRecDepth 100000 in
set_option maxHeartbeats 1000000 in
theorem walk_ok (s : ByteArray) (a : Option Addr) (cap : Nat) (ss : List ByteArray) (w : World) (hs : s.size ≤ maxLen) (hn : ss.length ≤ maxLen) (hz : ∀ t ∈ ss, t.size ≤ maxLen) (ht : TxAt w a ss) (h0 : (chk s).1 = 0) :
    Calls Try.prog 31 #[.string s, .slice a ss.length cap] w fun e w' => e = .returned (.tuple #[.string (wOut s ss), .int .i64 (wlkN (itemsOf s) ss), .int .i64 (wErr s ss)]) ∧ Below w.heap.size w w' := by
  have hp := parse_any s w hs
  have hnot : ∀ (x : Bool) (w : World), (Op.unary .not (.bool x)).run Try.prog w = .ok (.bool (!x)) w := fun _ _ => rfl
  unfold maxLen at hn hz
  have hfit := fits_of_chk h0
  rw [h0] at hp
  have Hp := hide hp
  have Hfit := hide hfit
  clear hp hfit h0 hs
  go_enter Try.func31, Try.ntmps31
  go_wp2_with fail
  refine (unhide Hp).mono ?_
  rintro e w1 ⟨v, rfl, hown, hb1⟩
  replace hown := hown trivial
  have hat := items_of_owns hown
  obtain ⟨va, vc, rfl⟩ := slice_of_items hat
  clear hown Hp
  go_wp2
  go_loopw [7, 10] (fun tv i wr => ∃ (k : Nat) (m : List Item), k ≤ ss.length ∧ i = .int .i64 k ∧ wlk (itemsOf s) (ss.take k) = some m ∧ Fits m ∧ ItemsAt wr tv m ∧ Below w.heap.size w wr) (fun _ i _ => ss.length - (intOf i).toNat)
  case atStart => exact ⟨0, itemsOf s, Nat.zero_le _, rfl, rfl, unhide Hfit, hat, hb1⟩
  case round =>
    obtain ⟨k, m, hk, rfl, hwl, hfm, hvm, hbe⟩ := hrel
    have Hwl := hide hwl
    obtain ⟨a1, c1, rfl⟩ := slice_of_items hvm
    have hsz := hbe.size
    clear hwl
    by_cases hlt : k < ss.length
    · rcases ht with h | ⟨g, o, rfl, hg, hc⟩
      · rw [h] at hlt; simp at hlt
      obtain ⟨t, htt⟩ : ∃ t, t = ss[k] := ⟨_, rfl⟩
      have hcell := (hbe.cell (p := ⟨g, o + k, none⟩) hg).trans (hc k hlt)
      rw [← htt] at hcell
      have hts : t.size ≤ 9223372036854775807 := hz t (by rw [htt]; exact List.getElem_mem hlt)
      have hlt' : (k : Int) < (ss.length : Int) := by omega
      have hsplit : ss = ss.take k ++ t :: ss.drop (k + 1) := by rw [htt, List.getElem_cons_drop, List.take_append_drop]
      have hsn : ss.take (k + 1) = ss.take k ++ [t] := by rw [List.take_succ_eq_append_getElem hlt, ← htt]
      have Hsp := hide hsplit
      have Hsn := hide hsn
      have Hc := hide hc
      have hparse := fun wx => stParse_any t wx hts
      have hys := itS_size t
      clear hsplit hsn htt hc
      cases hgd : goodS t with
      | false =>
        have hst : step1 m t = none := by simp [step1, hgd]
        have hf : wlkN (itemsOf s) ss = k ∧ wlk (itemsOf s) ss = none := by
          have := wlkN_stop (b := ss.drop (k + 1)) (unhide Hwl) hst
          rw [← unhide Hsp] at this
          refine ⟨this.1.trans ?_, this.2⟩
          simp; omega
        have hf2 : wOut s ss = ⟨#[]⟩ ∧ wErr s ss = 5 := by simp [wOut, wErr, hf.2]
        have Hf := hide (⟨hf.1, hf2⟩ : _ ∧ _)
        rw [hgd] at hparse
        have Hpa := hide hparse
        clear hparse hst hf hf2 hgd
        go_wp2_with fail
        refine (unhide Hpa _).mono ?_
        rintro e w2 ⟨rfl, hb2⟩
        have hb02 : Below w.heap.size w w2 := hbe.trans (hb2.mono hsz)
        have hsd : ∀ b y, stCells b y = #[.bool b, .int .i64 y.kind, .string y.name, .string y.host, .int .i64 y.number, .int .i64 y.size, .string y.disk, .bool y.only, .int .i64 y.lun, .string y.text] := fun _ _ => rfl
        go_wp2
        go_ret3
        exact ⟨by rw [(unhide Hf).1, (unhide Hf).2.1, (unhide Hf).2.2]; rfl, hb02.alloc (by have := hb2.size; omega) _⟩
      | true =>
        rw [hgd] at hparse
        have Hpa := hide hparse
        clear hparse
        have hsd : ∀ b y, stCells b y = #[.bool b, .int .i64 y.kind, .string y.name, .string y.host, .int .i64 y.number, .int .i64 y.size, .string y.disk, .bool y.only, .int .i64 y.lun, .string y.text] := fun _ _ => rfl
        cases hdo : doB (addsS t) m (itS t) with
        | false =>
          have hst : step1 m t = none := by simp [step1, hdo]
          have hf : wlkN (itemsOf s) ss = k ∧ wlk (itemsOf s) ss = none := by
            have := wlkN_stop (b := ss.drop (k + 1)) (unhide Hwl) hst
            rw [← unhide Hsp] at this
            refine ⟨this.1.trans ?_, this.2⟩
            simp; omega
          have hf2 : wOut s ss = ⟨#[]⟩ ∧ wErr s ss = 5 := by simp [wOut, wErr, hf.2]
          have Hf := hide (⟨hf.1, hf2⟩ : _ ∧ _)
          have Hdo := hide hdo
          clear hst hf hf2 hgd hdo
          generalize addsS t = sb at *
          generalize itS t = sy at *
          go_wp2_with fail
          refine (unhide Hpa _).mono ?_
          rintro e w2 ⟨rfl, hb2⟩
          have hb02 : Below w.heap.size w w2 := hbe.trans (hb2.mono hsz)
          have hv2 := hvm.below hb2 (Nat.le_refl _)
          have hl2 := hb2.size
          go_wp2_with fail
          refine (do_not sb _ m sy _ hfm.1 (by have := hfm.2; omega) (by omega) (hv2.below (below_new _ _) (Nat.le_refl _)) (unhide Hdo)).mono ?_
          rintro e w3 ⟨rfl, hb3⟩
          go_wp2
          go_ret3
          exact ⟨by rw [(unhide Hf).1, (unhide Hf).2.1, (unhide Hf).2.2]; rfl, (hb02.alloc (by omega) _).trans (hb3.mono (by simp; omega))⟩
        | true =>
          have hst : step1 m t = some (doI (addsS t) m (itS t)) := by simp [step1, hgd, hdo]
          have hfm2 := fits_step hfm hst
          have hw2 := (wlk_snoc (s := t) (unhide Hwl)).trans hst
          rw [← unhide Hsn] at hw2
          have Hw2 := hide hw2
          have Hdo := hide hdo
          clear hst hgd hdo hw2
          generalize addsS t = sb at *
          generalize itS t = sy at *
          go_wp2_with fail
          refine (unhide Hpa _).mono ?_
          rintro e w2 ⟨rfl, hb2⟩
          have hb02 : Below w.heap.size w w2 := hbe.trans (hb2.mono hsz)
          have hv2 := hvm.below hb2 (Nat.le_refl _)
          have hl2 := hb2.size
          go_wp2_with fail
          refine (do_ok sb _ m sy _ hfm.1 (by have := hfm.2; omega) (by omega) (hv2.below (below_new _ _) (Nat.le_refl _)) (unhide Hdo)).mono ?_
          rintro e w3 ⟨v3, rfl, hown3, hb3⟩
          have hb03 : Below w.heap.size w w3 := (hb02.alloc (by omega) _).trans (hb3.mono (by simp; omega))
          have hat3 := items_of_owns hown3
          clear hown3 hb3
          go_wp2
          go_roundw
          case rel => exact ⟨k + 1, _, by omega, by go_num, unhide Hw2, hfm2, hat3, hb03⟩
          case measure => simp [intOf]; omega
    · have hall : ss.take k = ss := List.take_of_length_le (by omega)
      have hwl := unhide Hwl
      rw [hall] at hwl
      have hf : wOut s ss = ⟨(catB (sortTo m m.length)).toArray⟩ ∧ wErr s ss = 0 ∧ wlkN (itemsOf s) ss = ss.length := ⟨by simp [wOut, hwl], by simp [wErr, hwl], wlkN_some hwl⟩
      have Hf := hide hf
      clear hf hwl hall
      go_wp2_with fail
      refine (aprint_at _ m _ hfm hvm).mono ?_
      rintro e w2 ⟨rfl, hb2⟩
      go_wp2
      go_ret3
      exact ⟨by rw [(unhide Hf).1, (unhide Hf).2.1, (unhide Hf).2.2]; rfl, hbe.trans (hb2.mono hsz)⟩

end Go.Proofs.Ytdlhgbhaeedbdaa
