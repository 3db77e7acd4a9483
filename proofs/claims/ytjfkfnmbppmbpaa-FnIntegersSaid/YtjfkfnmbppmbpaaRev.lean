/- The contracts of slices.Reverse at bytes, and of the two ReverseBytes. No statement is proved here. -/
import Derived.Test.YtjfkfnmbppmbpaaStep
import Derived.BigRegion
import Derived.Laws.IdiomStrings
namespace Go.Proofs.Ytjfkfnmbppmbpaa
open Go.RowKit
set_option linter.unusedVariables false
/-- The first n cells of block g hold the bytes c 0, c 1, ..; none is frozen. -/
def RowB (w : World) (g n : Nat) (c : Nat → UInt8) : Prop := ∀ j, j < n → w.cell? ⟨g, j, none⟩ = some (bv (c j)) ∧ w.frozen? ⟨g, j, none⟩ = false
def swapTo (n k : Nat) (c : Nat → UInt8) (j : Nat) : UInt8 := if j < k ∨ n ≤ j + k then c (n - 1 - j) else c j
theorem RowB.set {w : World} {g n : Nat} {c : Nat → UInt8} (h : RowB w g n c) (k : Nat) (hk : k < n) (x : UInt8) : RowB (w.setCell ⟨g, k, none⟩ (bv x)) g n (fun j => if j = k then x else c j) := by
  intro j hj
  obtain ⟨c1, f1⟩ := h j hj
  refine ⟨?_, by rw [World.frozen?_setCell]; exact f1⟩
  by_cases e : j = k
  · subst e
    rw [World.cell?_setCell_same _ _ _ c1]; simp
  · rw [World.cell?_setCell_other _ _ _ _ (by intro h; injection h; omega)]; simp [e]; exact c1
theorem RowB.congr {w : World} {g n : Nat} {c d : Nat → UInt8} (h : RowB w g n c) (hcd : ∀ j, j < n → c j = d j) : RowB w g n d := fun j hj => by rw [← hcd j hj]; exact h j hj
theorem RowB.drew {w : World} {g n : Nat} {c : Nat → UInt8} (h : RowB w g n c) : RowB w.drew g n c := h
theorem swap_step (n k b : Nat) (c : Nat → UInt8) (h : b + k + 1 = n) (hkb : k < b) (j : Nat) (hj : j < n) : (if j = b then swapTo n k c k else (if j = k then swapTo n k c b else swapTo n k c j)) = swapTo n (k + 1) c j := by
  unfold swapTo
  by_cases e1 : j = b
  · subst e1
    rw [if_pos rfl, if_neg (by omega), if_pos (by omega)]
    congr 1; omega
  · rw [if_neg e1]
    by_cases e2 : j = k
    · subst e2
      rw [if_pos rfl, if_neg (by omega), if_pos (by omega)]
      congr 1; omega
    · rw [if_neg e2]
      by_cases e3 : j < k ∨ n ≤ j + k
      · rw [if_pos e3, if_pos (by omega)]
      · rw [if_neg e3, if_neg (by omega)]
theorem swap_end (n k : Nat) (c : Nat → UInt8) (h : ¬ ((k : Int) < (n : Int) - 1 - k)) (j : Nat) (hj : j < n) : swapTo n k c j = c (n - 1 - j) := by
  unfold swapTo
  split
  · rfl
  · congr 1; omega
theorem reverse_any (g n cap : Nat) (c : Nat → UInt8) (hcap : n ≤ cap) (hn : n ≤ 1048576) (w : World) (hrow : RowB w g n c) :
    Calls Try.prog 53 #[.slice (some ⟨g, 0, none⟩) n cap] w fun e w' => e = .returned (.tuple #[]) ∧ RowB w' g n (fun j => c (n - 1 - j)) ∧ Below g w w' := by
  go_enter Try.func53, Try.ntmps53
  go_wp2
  go_loopw [2, 3] (fun i j wr => ∃ k : Nat, 2 * k ≤ n + 1 ∧ i = .int .i64 k ∧ j = .int .i64 ((n : Int) - 1 - k) ∧ RowB wr g n (swapTo n k c) ∧ Below g w wr) (fun i _ _ => n + 1 - (intOf i).toNat)
  case atStart => exact ⟨0, by omega, rfl, by go_num, by
    intro j hj
    have : swapTo n 0 c j = c j := by unfold swapTo; rw [if_neg (by omega)]
    rw [this]; exact hrow j hj, Below.refl _ _⟩
  case round =>
    obtain ⟨k, hk, rfl, rfl, hr, hbel⟩ := hrel
    by_cases hlt : (k : Int) < (n : Int) - 1 - k
    · obtain ⟨b, hb⟩ := Int.eq_ofNat_of_zero_le (show 0 ≤ (n : Int) - 1 - k by omega)
      rw [hb] at hlt ⊢
      have hbn : b + k + 1 = n := by omega
      have hkb : k < b := by omega
      obtain ⟨ck, fk⟩ := hr k (by omega)
      obtain ⟨cb, fb⟩ := hr b (by omega)
      have a0 : (0 : Int) ≤ (k : Int) := by omega
      have a1 : (k : Int) < (n : Int) := by omega
      have a2 : (0 : Int) ≤ (b : Int) := by omega
      have a3 : (b : Int) < (n : Int) := by omega
      have Hb := Lib.hid hb; have Hbn := Lib.hid hbn; have Hr := Lib.hid hr; clear hb hbn hr
      unfold bv at ck cb
      go_wp2
      go_region
      go_wp2
      go_roundw
      case rel => exact ⟨k + 1, by have := Hbn.out; omega, by go_num, by have := Hb.out; go_num, ((Hr.out.set k (by omega) (swapTo n k c b)).set b (by omega) (swapTo n k c k)).congr (fun j hj => swap_step n k b c Hbn.out hkb j hj), ((hbel.setCell (Nat.le_refl _) _).setCell (Nat.le_refl _) _).drew⟩
      case measure => simp [intOf]; omega
    · have hfin := hr.congr (fun j hj => swap_end n k c hlt j hj)
      have Hfin := Lib.hid hfin; clear hfin hr
      go_wp2
      go_end0
      exact ⟨rfl, Hfin.out, hbel⟩

def revS (s : ByteArray) : ByteArray := ⟨s.data.toList.reverse.toArray⟩
theorem rev_conv (s : ByteArray) (w : World) (g cap : Nat) (h : RowB w g s.size (fun j => s.data.toList.getD (s.size - 1 - j) 0)) : (convert 22 9 (.slice (some ⟨g, 0, none⟩) s.size cap)).run Try.prog w = .ok (.string (revS s)) w := by
  have hl : s.data.toList.reverse.length = s.size := by simp
  have h1 := run_convert_bytes_back w 22 9 5 ⟨g, 0, none⟩ cap s.data.toList.reverse Try.underlying22 Try.underlying5 Try.underlying9 (fun j hj => by
    rw [hl] at hj
    rw [add_none, (h j hj).1]
    have e : s.data.toList.reverse[j]'(by rw [hl]; exact hj) = s.data.toList.getD (s.size - 1 - j) 0 := by
      rw [List.getElem_reverse]
      have h3 : s.data.toList.length = s.size := by simp
      have h4 : s.size - 1 - j < s.data.toList.length := by omega
      simp only [List.getD, List.getElem?_eq_getElem h4, Option.getD_some]
      congr 1
    show some (bv (s.data.toList.getD (s.size - 1 - j) 0)) = _
    rw [← e]; rfl)
  rw [hl] at h1
  exact h1
theorem implReverse_any (s : ByteArray) (hs : s.size ≤ 1048576) (w : World) :
    Calls Try.prog 28 #[.string s] w fun e w' => e = .returned (.string (revS s)) ∧ Below w.heap.size w w' := by
  have hl : s.data.toList.length = s.size := by simp
  have hcv := run_bytes_of_string (P := Try.prog) w 9 22 5 s Try.underlying9 Try.underlying22 Try.underlying5
  have hge := grownCap_ge w s.size 0 5
  generalize grownCap w s.size 0 5 = cap at *
  have hrow : RowB (w.drew.alloc (.cells (bytesRow s cap) 5 ((bytesRow s cap).size, (bytesRow s cap).size + 1))) w.heap.size s.size (fun j => s.data.toList.getD j 0) := by
    intro j hj
    have hj' : j < s.data.size := hj
    refine ⟨?_, ?_⟩
    · have h1 := World.cell?_alloc_mark w.drew (bytesRow s cap) 5 ((bytesRow s cap).size, (bytesRow s cap).size + 1) j
      have h2 : w.drew.heap.size = w.heap.size := rfl
      rw [h2] at h1
      rw [h1, bytesRow_at s cap j hj']
      simp [bv, List.getD, Array.getElem?_eq_getElem hj']
    · have h1 := World.frozen?_alloc_mark w.drew (bytesRow s cap) 5 (bytesRow s cap).size ((bytesRow s cap).size + 1) j
      have h2 : w.drew.heap.size = w.heap.size := rfl
      rw [h2] at h1
      rw [h1]
      have : s.data.size ≤ (bytesRow s cap).size := by unfold bytesRow; simp
      simp
      omega
  generalize bytesRow s cap = C at *
  have hbel : Below w.heap.size w (w.drew.alloc (.cells C 5 (C.size, C.size + 1))) := (Below.drew (Below.refl _ w)).alloc (Nat.le_refl _) _
  have Hrow := Lib.hid hrow; clear hrow
  go_enter Try.func28, Try.ntmps28
  go_wp2_with (go_at_call 53; refine (reverse_any w.heap.size s.size cap _ hge hs _ (by exact Hrow.out)).mono ?_; rintro e w' ⟨rfl, hr, hb⟩; have hc := rev_conv s w' _ cap hr; clear hr)
  go_ret
  exact ⟨rfl, hbel.trans (by assumption)⟩
theorem specReverse_any (s : ByteArray) (hs : s.size ≤ 1048576) (w : World) :
    Calls Try.prog 31 #[.string s] w fun e w' => e = .returned (.string (revS s)) ∧ Below w.heap.size w w' := by
  have hl : s.data.toList.length = s.size := by simp
  go_enter Try.func31, Try.ntmps31
  go_wp2
  go_loopw [3, 4] (fun v i wr => ∃ iv : Int, -1 ≤ iv ∧ iv < s.size ∧ i = .int .i64 iv ∧ OwnB wr w.heap.size v (s.data.toList.drop (iv + 1).toNat).reverse ∧ Below w.heap.size w wr) (fun _ i _ => (intOf i + 1).toNat)
  case atStart =>
    refine ⟨(s.size : Int) - 1, by omega, by omega, by go_num, ?_, (Below.refl _ _).alloc (Nat.le_refl _) _⟩
    rw [show ((s.size : Int) - 1 + 1).toNat = s.size from by omega, List.drop_eq_nil_of_le (by omega)]
    exact World.ownsRow_lit w #[] 0 (Nat.le_refl _) (by decide) rfl
  case round =>
    obtain ⟨iv, hi0, hi1, rfl, hown, hbel⟩ := hrel
    have hsz := hbel.size
    by_cases hge : 0 ≤ iv
    · obtain ⟨j, rfl⟩ := Int.eq_ofNat_of_zero_le hge
      have hj : j < s.size := by omega
      have e1 : ((j : Int) + 1).toNat = j + 1 := by omega
      rw [e1] at hown
      have e2 : (s.data.toList.drop (j + 1)).reverse ++ [s[j]'hj] = (s.data.toList.drop j).reverse := by
        rw [List.drop_eq_getElem_cons (i := j) (by omega), List.reverse_cons]; rfl
      have E2 := Lib.hid e2
      have Hown := Lib.hid hown
      have hlen : (s.data.toList.drop (j + 1)).reverse.length + 1 ≤ 70368744177664 := by rw [List.length_reverse, List.length_drop]; omega
      have Hlen := Lib.hid hlen; have Hl := Lib.hid hl
      clear e1 e2 hown hlen hl
      go_wp2_with (at_builtin; refine wpList_app wr _ 1 rfl (.tmp 13) (.tmp 17) rfl w.heap.size _ _ Hown.out rfl [s[j]'hj] ?c1 rfl rfl Hlen.out hsz ?_)
      case c1 => simp [bv]
      intro v' w1 hown' hbel'
      rw [E2.out] at hown'
      go_wp2
      go_roundw
      case rel => exact ⟨j - 1, by omega, by omega, by go_num, by rw [show ((j : Int) - 1 + 1).toNat = j from by omega]; exact hown', hbel.trans hbel'⟩
      case measure => first | (simp [intOf]; done) | (simp [intOf]; omega)
    · obtain rfl : iv = -1 := by omega
      have hc := conv_own hown
      have Hown := Lib.hid hown; clear hown
      go_wp2
      go_ret
      exact ⟨rfl, hbel⟩
end Go.Proofs.Ytjfkfnmbppmbpaa
