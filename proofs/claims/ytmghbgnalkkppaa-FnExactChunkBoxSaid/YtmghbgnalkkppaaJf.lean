/- Closed facts on the program's start, from the words of its first list. No statement is proved here. -/
import Derived.Test.YtmghbgnalkkppaaRows
import Derived.JoinedOf
namespace Go.Proofs.Ytmghbgnalkkppaa
/-- The words that the list begins with, sign by sign, as numbers; what follows. -/
def wordA : List Char := [104, 97, 114, 110, 101, 115, 115].map Char.ofNat
def wordB : List Char := [102, 97, 57, 99, 55, 50, 54, 48, 49, 54, 53, 99, 53, 55, 99, 54, 48, 100, 99, 98, 53, 51, 98, 101, 57, 50, 99, 50, 99, 53, 99, 50, 49, 100, 51, 57, 55, 49, 54, 50, 56, 97, 53, 53, 49, 57, 101, 52, 49, 101, 53, 102, 55, 50, 57, 100, 102, 51, 54, 51, 56, 54, 102, 49].map Char.ofNat
def wordC : List Char := [99, 117, 116].map Char.ofNat
def wordsD : List Char := [97, 116, 32, 108, 111, 111, 112, 46, 101, 120, 97, 109, 112, 108, 101, 47, 103, 48, 48, 57, 48, 52, 47, 108, 97, 119, 115, 46, 70, 110, 69, 120, 97, 99, 116, 86, 97, 108, 105, 100, 67, 104, 117, 110, 107, 32, 108, 111, 111, 112, 46, 101, 120, 97, 109, 112, 108, 101, 47, 103, 48, 48, 57, 48, 52, 47, 108, 97, 119, 115, 46, 70, 110, 69, 120, 97, 99, 116, 71, 114, 105, 100, 79, 102, 32, 108, 111, 111, 112, 46, 101, 120, 97, 109, 112, 108, 101, 47, 103, 48, 48, 57, 48, 52, 47, 108, 97, 119, 115, 46, 70, 110, 69, 120, 97, 99, 116, 67, 104, 117, 110, 107, 67, 111, 117, 110, 116, 32, 108, 111, 111, 112, 46, 101, 120, 97, 109, 112, 108, 101, 47, 103, 48, 48, 57, 48, 52, 47, 108, 97, 119, 115, 46, 70, 110, 69, 120, 97, 99, 116, 67, 104, 117, 110, 107, 75, 101, 121, 115, 32, 108, 111, 111, 112, 46, 101, 120, 97, 109, 112, 108, 101, 47, 103, 48, 48, 57, 48, 52, 47, 108, 97, 119, 115, 46, 70, 110, 69, 120, 97, 99, 116, 67, 104, 117, 110, 107, 79, 102, 32, 108, 111, 111, 112, 46, 101, 120, 97, 109, 112, 108, 101, 47, 103, 48, 48, 57, 48, 52, 47, 108, 97, 119, 115, 46, 70, 110, 69, 120, 97, 99, 116, 67, 104, 117, 110, 107, 66, 111, 120, 32, 108, 111, 111, 112, 46, 101, 120, 97, 109, 112, 108, 101, 47, 103, 48, 48, 57, 48, 52, 47, 108, 97, 119, 115, 46, 70, 110, 69, 120, 97, 99, 116, 67, 104, 117, 110, 107, 115, 76, 111, 115, 116, 32, 108, 111, 111, 112, 46, 101, 120, 97, 109, 112, 108, 101, 47, 103, 48, 48, 57, 48, 52, 47, 108, 97, 119, 115, 46, 70, 110, 69, 120, 97, 99, 116, 69, 108, 101, 109, 101, 110, 116, 115, 76, 111, 115, 116].map Char.ofNat
def gap : Char := Char.ofNat 32
theorem words_word (r : List Char) : ∀ w : List Char, w.all (fun c => c != gap) = true → wordsSigns (w ++ gap :: r) = w :: wordsSigns r
  | [], _ => rfl
  | c :: w, h => by
    simp only [List.all_cons, Bool.and_eq_true] at h
    have ih := words_word r w h.2
    have hc : c ≠ gap := by simpa using h.1
    show wordsSigns (c :: (w ++ gap :: r)) = _
    rw [wordsSigns]
    · rw [ih]
    · exact hc
set_option maxRecDepth 100000 in
theorem startSigns : Try.pinned.checked.prog.initOrder = String.ofList (wordA ++ gap :: (wordB ++ gap :: (wordC ++ gap :: wordsD))) := by kernel_rfl
theorem startWords : wordsSigns Try.pinned.checked.prog.initOrder.toList = wordA :: wordB :: wordC :: wordsSigns wordsD := by
  rw [startSigns, String.toList_ofList, words_word _ _ (by kernel_rfl), words_word _ _ (by kernel_rfl), words_word _ _ (by kernel_rfl)]
theorem behindWords (rest : List (List Char)) : behindMainWord (wordA :: wordB :: wordC :: rest) = wordC :: rest := by kernel_rfl
theorem strippedWords (rest : List (List Char)) : stripLifts liftWords (wordC :: rest) = ([], wordC :: rest) := by kernel_rfl
theorem mayE_at (P : Program) (rest : List (List Char)) (h : wordsSigns P.initOrder.toList = wordA :: wordB :: wordC :: rest) (h1 : P.laysLater = false) (h2 : P.bearsReflect = false) (h3 : P.doorFits [] = true) : P.mayEnter = true := by
  unfold Program.mayEnter
  rw [h, behindWords]
  dsimp only
  rw [strippedWords, h1, h2]
  dsimp only
  rw [h3]
  kernel_rfl
theorem lifF_at (P : Program) (rest : List (List Char)) (h : wordsSigns P.initOrder.toList = wordA :: wordB :: wordC :: rest) : P.liftsFinal = false := by
  unfold Program.liftsFinal Program.headLifts
  rw [h]
  kernel_rfl
theorem mkP_at (P : Program) (rest : List (List Char)) (h : wordsSigns P.initOrder.toList = wordA :: wordB :: wordC :: rest) : P.make = some .cut := by
  unfold Program.make Program.headLifts
  rw [h]
  kernel_rfl
theorem laysF : Try.pinned.checked.prog.laysLater = false := by kernel_rfl
theorem reflF : Try.pinned.checked.prog.bearsReflect = false := by kernel_rfl
theorem doorT : Try.pinned.checked.prog.doorFits [] = true := by kernel_rfl
theorem mayE : Try.pinned.checked.prog.mayEnter = true := mayE_at _ _ startWords laysF reflF doorT
theorem lifF : Try.pinned.checked.prog.liftsFinal = false := lifF_at _ _ startWords
theorem mkP : Try.pinned.checked.prog.make = some .cut := mkP_at _ _ startWords
end Go.Proofs.Ytmghbgnalkkppaa
