/- strings.Builder, said of the text so far. No statement is proved here. -/
import Derived.Test.YtmddgncidgdglaaBld
import Derived.Test.YtmddgncidgdglaaStr
namespace Go.Proofs.Ytmddgncidgdglaa
open Go.RowKit
set_option linter.unusedVariables false
theorem IsB.bel {B b : Nat} {bs : List Value} {w w' : World} (h : IsB B b bs w) (g : Below w.heap.size w w') : IsB B b bs w' := by
  have key : ∀ p, Lib.BuilderAt 67 5 B b p bs w → Lib.BuilderAt 67 5 B b p bs w' := fun p h => by
    obtain ⟨h1, v, h2, h3, h4⟩ := h
    have hlt : b < w.heap.size := by
      rcases Nat.lt_or_ge b w.heap.size with h' | h'
      · exact h'
      · simp [Array.getElem?_eq_none h'] at h2
    exact ⟨h1, v, (g.block _ hlt).trans h2, own_bel h3 g, h4⟩
  rcases h with h | h
  · exact .inl (key _ h)
  · exact .inr (key _ h)
def bsOf (s : ByteArray) : List Value := Lib.byteCells s.data.toList
theorem bsOf_app (a b : ByteArray) : bsOf a ++ Lib.strCells b = bsOf (a ++ b) := by
  rw [strCells_bytes]
  unfold bsOf Lib.byteCells
  rw [← List.map_append]
  simp
theorem nilB_app (a : ByteArray) : (⟨#[]⟩ : ByteArray) ++ a = a := by
  apply ByteArray.ext; simp
theorem bsOf_len (a : ByteArray) : (bsOf a).length = a.size := by unfold bsOf Lib.byteCells; simp
/-- WriteString, said of the text so far. -/
theorem wrS {B b : Nat} {w : World} {a s c : ByteArray} (hc : a ++ s = c) (h : IsB B b (bsOf a) w) (hz : a.size + s.size ≤ 100000000) (hBw : B ≤ w.heap.size) :
    Calls Try.prog 70 #[.pointer (some ⟨b, 0, none⟩), .string s] w fun e w' => e = .returned (.tuple #[.int .i64 s.size, .nilIface]) ∧ IsB B b (bsOf c) w' ∧ Below B w w' ∧ Kp b w w' := by
  subst hc
  rw [← bsOf_app]
  exact writeString_any B b _ s w h (by rw [bsOf_len]; omega) hBw
theorem rdBld {B b : Nat} {w : World} {a : ByteArray} (h : IsB B b (bsOf a) w) (hBw : B ≤ w.heap.size) :
    Calls Try.prog 72 #[.pointer (some ⟨b, 0, none⟩)] w fun e w' => e = .returned (.string a) ∧ Below B w w' := by
  have := string_any B b a.data.toList w h hBw
  rwa [show (⟨a.data.toList.toArray⟩ : ByteArray) = a from by simp] at this
end Go.Proofs.Ytmddgncidgdglaa
