/- Closed facts on the program's start, from the words of its first list. No statement is proved here. -/
import Derived.Test.YtplfnlalmcpcaaaGreatRows
import Derived.JoinedOf
namespace Go.Proofs.YtplfnlalmcpcaaaGreat
/-- The words that the list begins with, sign by sign, as numbers; what follows. -/
def wordA : List Char := [104, 97, 114, 110, 101, 115, 115].map Char.ofNat
def wordB : List Char := [97, 100, 98, 48, 48, 51, 48, 100, 55, 57, 55, 97, 53, 98, 49, 102, 55, 50, 56, 102, 56, 99, 51, 98, 56, 56, 102, 52, 98, 101, 57, 49, 57, 98, 99, 49, 50, 56, 54, 49, 101, 101, 55, 56, 98, 97, 97, 57, 48, 56, 49, 102, 51, 51, 97, 98, 97, 49, 57, 55, 48, 49, 49, 51].map Char.ofNat
def wordC : List Char := [99, 117, 116].map Char.ofNat
def wordsD : List Char := [97, 116, 32, 108, 111, 111, 112, 46, 101, 120, 97, 109, 112, 108, 101, 47, 103, 48, 48, 57, 48, 52, 47, 108, 97, 119, 115, 46, 70, 110, 69, 120, 97, 99, 116, 83, 101, 116, 80, 97, 103, 101, 32, 108, 111, 111, 112, 46, 101, 120, 97, 109, 112, 108, 101, 47, 103, 48, 48, 57, 48, 52, 47, 108, 97, 119, 115, 46, 70, 110, 69, 120, 97, 99, 116, 83, 101, 116, 82, 111, 111, 116, 32, 108, 111, 111, 112, 46, 101, 120, 97, 109, 112, 108, 101, 47, 103, 48, 48, 57, 48, 52, 47, 108, 97, 119, 115, 46, 70, 110, 69, 120, 97, 99, 116, 65, 108, 108, 111, 99, 97, 116, 101, 32, 108, 111, 111, 112, 46, 101, 120, 97, 109, 112, 108, 101, 47, 103, 48, 48, 57, 48, 52, 47, 108, 97, 119, 115, 46, 70, 110, 69, 120, 97, 99, 116, 82, 101, 108, 101, 97, 115, 101, 32, 108, 111, 111, 112, 46, 101, 120, 97, 109, 112, 108, 101, 47, 103, 48, 48, 57, 48, 52, 47, 108, 97, 119, 115, 46, 70, 110, 69, 120, 97, 99, 116, 87, 114, 105, 116, 101, 82, 117, 110, 32, 108, 111, 111, 112, 46, 101, 120, 97, 109, 112, 108, 101, 47, 103, 48, 48, 57, 48, 52, 47, 108, 97, 119, 115, 46, 70, 110, 69, 120, 97, 99, 116, 82, 101, 97, 100, 72, 101, 97, 100, 101, 114, 32, 108, 111, 111, 112, 46, 101, 120, 97, 109, 112, 108, 101, 47, 103, 48, 48, 57, 48, 52, 47, 108, 97, 119, 115, 46, 70, 110, 69, 120, 97, 99, 116, 72, 101, 97, 100, 101, 114, 66, 108, 111, 99, 107, 115].map Char.ofNat
def gap : Char := Char.ofNat 32
theorem words_word (r : List Char) : ∀ w : List Char, w.all (fun c => c != gap) = true → wordsSigns (w ++ gap :: r) = w :: wordsSigns r
  | [], _ => rfl
  | c :: w, h => by
    simp only [List.all_cons, Bool.and_eq_true] at h
    have ih := words_word r w h.2
    have hc : c ≠ gap := by simpa using h.1
    show wordsSigns (c :: (w ++ gap :: r)) = _
    rw [wordsSigns]
    · rw [ih]
    · exact hc
set_option maxRecDepth 100000 in
theorem startSigns : Tryz.pinned.checked.prog.initOrder = String.ofList (wordA ++ gap :: (wordB ++ gap :: (wordC ++ gap :: wordsD))) := by kernel_rfl
theorem startWords : wordsSigns Tryz.pinned.checked.prog.initOrder.toList = wordA :: wordB :: wordC :: wordsSigns wordsD := by
  rw [startSigns, String.toList_ofList, words_word _ _ (by kernel_rfl), words_word _ _ (by kernel_rfl), words_word _ _ (by kernel_rfl)]
theorem behindWords (rest : List (List Char)) : behindMainWord (wordA :: wordB :: wordC :: rest) = wordC :: rest := by kernel_rfl
theorem strippedWords (rest : List (List Char)) : stripLifts liftWords (wordC :: rest) = ([], wordC :: rest) := by kernel_rfl
theorem mayE_at (P : Program) (rest : List (List Char)) (h : wordsSigns P.initOrder.toList = wordA :: wordB :: wordC :: rest) (h1 : P.laysLater = false) (h2 : P.bearsReflect = false) (h3 : P.doorFits [] = true) : P.mayEnter = true := by
  unfold Program.mayEnter
  rw [h, behindWords]
  dsimp only
  rw [strippedWords, h1, h2]
  dsimp only
  rw [h3]
  kernel_rfl
theorem lifF_at (P : Program) (rest : List (List Char)) (h : wordsSigns P.initOrder.toList = wordA :: wordB :: wordC :: rest) : P.liftsFinal = false := by
  unfold Program.liftsFinal Program.headLifts
  rw [h]
  kernel_rfl
theorem mkP_at (P : Program) (rest : List (List Char)) (h : wordsSigns P.initOrder.toList = wordA :: wordB :: wordC :: rest) : P.make = some .cut := by
  unfold Program.make Program.headLifts
  rw [h]
  kernel_rfl
theorem laysF : Tryz.pinned.checked.prog.laysLater = false := by kernel_rfl
theorem reflF : Tryz.pinned.checked.prog.bearsReflect = false := by kernel_rfl
theorem doorT : Tryz.pinned.checked.prog.doorFits [] = true := by kernel_rfl
theorem mayE : Tryz.pinned.checked.prog.mayEnter = true := mayE_at _ _ startWords laysF reflF doorT
theorem lifF : Tryz.pinned.checked.prog.liftsFinal = false := lifF_at _ _ startWords
theorem mkP : Tryz.pinned.checked.prog.make = some .cut := mkP_at _ _ startWords
end Go.Proofs.YtplfnlalmcpcaaaGreat
