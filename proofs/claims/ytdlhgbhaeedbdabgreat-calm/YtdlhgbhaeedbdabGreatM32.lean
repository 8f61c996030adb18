/- 'Calm', whole. -/
import Derived.Test.YtdlhgbhaeedbdabGreatM31
namespace Go.Proofs.YtdlhgbhaeedbdabGreat
open Go.RowKit

theorem calm_any (s t : ByteArray) (n : Int) (a0 : Option Addr) (len cap : Nat) (f : Nat → Iox) (w : World) (hs : s.size ≤ maxLen) (ht : t.size ≤ maxLen) (hn : (Lit.int .i64 n).wf = true) (hlen : len ≤ 4398046511000) (ha : len = 0 ∨ ∃ g o, a0 = some ⟨g, o, none⟩ ∧ g < w.heap.size ∧ ∀ i, i < len → IoAt w g (o + i * 6) (f i)) :
    Calls Tryz.prog 4 #[.string s, .string t, .int .i64 n, .slice a0 len cap] w fun e w' => e = .returned (.bool true) ∧ Below w.heap.size w w' := by
  by_cases h : plErr s t = 0
  · exact calm_ok s t n a0 len cap f w hs ht hn hlen ha h
  · exact calm_not s t n a0 len cap w hs ht h

end Go.Proofs.YtdlhgbhaeedbdabGreat
