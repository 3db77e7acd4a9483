/- Contracts of the laws' functions that mark and hold lists of strings. No statement is proved here. -/
import Derived.Test.YtabnglimchjgpaaStr
import Derived.Deep.WholeRow
import Derived.StillTailTactics
namespace Go.Proofs.Ytabnglimchjgpaa
open Go.RowKit
set_option linter.unusedVariables false
/-- The digits of a number, at most f of them. -/
def mD : Nat → Nat → List UInt8
  | 0, _ => []
  | f + 1, k => if k = 0 then [] else mD f (k / 10) ++ [UInt8.ofNat (48 + k % 10)]
/-- The text that marks with k. -/
def mT (k : Nat) : ByteArray := ⟨(109 :: mD k k).toArray⟩
theorem mD_len : ∀ f k, (mD f k).length ≤ f
  | 0, _ => Nat.le_refl _
  | f + 1, k => by
    unfold mD
    split
    · simp
    · have := mD_len f (k / 10); simp; omega
theorem mD_step (f k : Nat) (hk : k ≠ 0) (hf : k ≤ f) : ∃ f', k / 10 ≤ f' ∧ mD f k = mD f' (k / 10) ++ [UInt8.ofNat (48 + k % 10)] := by
  obtain ⟨f', rfl⟩ : ∃ f', f = f' + 1 := ⟨f - 1, by omega⟩
  exact ⟨f', by omega, by rw [mD, if_neg hk]⟩
theorem mD_nil (f : Nat) : mD f 0 = [] := by cases f <;> simp [mD]
theorem mT_size (k : Nat) : (mT k).size ≤ k + 1 := by
  have := mD_len k k
  show (109 :: mD k k).toArray.size ≤ _
  simp; omega
set_option maxHeartbeats 1000000 in
theorem markText_any (k : Nat) (h1 : 1 ≤ k) (h2 : k ≤ 8000000) (w : World) : Calls Try.prog 102 #[.int .i64 (k : Int)] w (GivesB (.string (mT k)) w) := by
  have Hk := Lib.hid h1
  have HF : Hid (mT k = ⟨(109 :: mD k k).toArray⟩) := Lib.hid rfl
  generalize mT k = T at *
  go_enter Try.func102, Try.ntmps102
  go_wp2
  go_loopw [0, 3] (fun a o wr => ∃ (j f : Nat) (s : ByteArray), j ≤ k ∧ j ≤ f ∧ a = .int .i64 (j : Int) ∧ o = .string s ∧ mD k k = mD f j ++ s.data.toList ∧ Below w.heap.size w wr) (fun a _ _ => (intOf a).toNat)
  case atStart => exact ⟨k, k, ⟨#[]⟩, Nat.le_refl _, Nat.le_refl _, rfl, rfl, by simp, Below.refl _ _⟩
  case round =>
    obtain ⟨j, f, s, hj, hf, rfl, rfl, hd, hbel⟩ := hrel
    have Hd := Lib.hid hd; have Hbel := Lib.hid hbel
    have hs : s.size ≤ k := by
      have h3 := congrArg List.length hd
      have h4 := mD_len k k
      simp at h3; omega
    clear hd hbel
    by_cases hj0 : j = 0
    · subst hj0
      have hT : T = (⟨#[109]⟩ : ByteArray) ++ s := by
        rw [HF.out, Hd.out, mD_nil]
        apply ByteArray.ext
        simp
      have HT := Lib.hid hT; clear hT
      have hsz : ¬ 9223372036854775807 < 1 + s.size := by omega
      go_wp2
      go_ret
      exact ⟨by rw [HT.out]; rfl, Hbel.out⟩
    · have hjp : 0 < j := by omega
      have hc : Sem.run Try.prog (convert 81 9 (.slice (some ⟨wr.heap.size, 0, none⟩) 1 1)) (wr.alloc (.cells #[.int .u8 (48 + (j : Int) % 10)] 5)) = .ok (.string ⟨#[UInt8.ofNat (48 + j % 10)]⟩) (wr.alloc (.cells #[.int .u8 (48 + (j : Int) % 10)] 5)) := by
        refine run_convert_bytes_back _ 81 9 5 ⟨wr.heap.size, 0, none⟩ 1 [UInt8.ofNat (48 + j % 10)] Try.underlying81 Try.underlying5 Try.underlying9 (fun q hq => ?_)
        obtain rfl : q = 0 := by simpa using hq
        rw [add_at, cell_of_row _ _ _ _ _ _ (heap_alloc_new wr _)]
        simp; omega
      obtain ⟨f', hf', hm⟩ := mD_step f j (by omega) hf
      have Hb2 : Hid (Below w.heap.size w (wr.alloc (.cells #[.int .u8 (48 + (j : Int) % 10)] 5))) := Lib.hid (Hbel.out.alloc Hbel.out.size _)
      have Hd2 : Hid (mD k k = mD f' (j / 10) ++ (UInt8.ofNat (48 + j % 10) :: s.data.toList)) := Lib.hid (by rw [Hd.out, hm]; simp)
      have hsz : ¬ 9223372036854775807 < 1 + s.size := by omega
      have Hf' := Lib.hid hf'
      clear hj0 hm hf'
      go_wp2
      go_roundw
      case rel => exact ⟨j / 10, f', (⟨#[UInt8.ofNat (48 + j % 10)]⟩ : ByteArray) ++ s, by omega, Hf'.out, by simp, by simp, by rw [Hd2.out]; simp, Hb2.out⟩
      case measure => simp [intOf]; omega
def marksT (k n : Nat) : List ByteArray := (List.range n).map fun i => mT (k + i)
theorem marksT_length (k n : Nat) : (marksT k n).length = n := by simp [marksT]
theorem marksT_at (k n i : Nat) (h : i < (marksT k n).length) : (marksT k n)[i] = mT (k + i) := by simp [marksT]
def mkdT (k : Nat) (xs : List ByteArray) (j : Nat) : List ByteArray := marksT k j ++ xs.drop j
theorem mkdT_length (k : Nat) (xs : List ByteArray) (j : Nat) (h : j ≤ xs.length) : (mkdT k xs j).length = xs.length := by
  unfold mkdT; rw [List.length_append, marksT_length, List.length_drop]; omega
theorem mkdT_step (k : Nat) (xs : List ByteArray) (j : Nat) (h : j < xs.length) : (mkdT k xs j).set j (mT (k + j)) = mkdT k xs (j + 1) := by
  unfold mkdT
  rw [List.set_append, if_neg (by rw [marksT_length]; omega), marksT_length, Nat.sub_self]
  rw [List.drop_eq_getElem_cons h, List.set_cons_zero]
  simp [marksT, List.range_succ]
theorem mkdT_end (k : Nat) (xs : List ByteArray) : mkdT k xs xs.length = marksT k xs.length := by
  unfold mkdT; simp
set_option maxHeartbeats 400000 in
theorem markT_any {w : World} {lo : Nat} {v : Value} {xs : List ByteArray} (h : OT w lo v xs) (k : Nat) (h1 : 1 ≤ k) (hk : k + xs.length ≤ 8000000) :
    Calls Try.prog 61 #[v, .int .i64 (k : Int)] w fun e w' => e = .returned (.int .i64 ((k + xs.length : Nat) : Int)) ∧ OT w' lo v (marksT k xs.length) ∧ w.grownBy w' v.ownBlock := by
  have H := Lib.hid h
  rcases h.sl with ⟨rfl, rfl⟩ | ⟨g, cap, rfl, hlo, hg, hn, hm⟩
  · go_enter Try.func61, Try.ntmps61
    go_wp2
    go_loop [1, 5] (fun c i => i = .int .i64 0 ∧ c = .int .i64 (k : Int)) (fun _ _ => 0)
    case atStart => exact ⟨rfl, rfl⟩
    case round =>
      obtain ⟨rfl, rfl⟩ := hrel
      go_wp2
      go_ret
      exact ⟨rfl, H.out, grown_refl _ _⟩
  · unfold maxLen at hm
    clear h
    go_enter Try.func61, Try.ntmps61
    go_wp2
    go_loopw [1, 5] (fun c i wr => ∃ j : Nat, j ≤ xs.length ∧ i = .int .i64 (j : Int) ∧ c = .int .i64 ((k + j : Nat) : Int) ∧ OT wr lo (.slice (some ⟨g, 0, none⟩) xs.length cap) (mkdT k xs j) ∧ w.grownBy wr (some g)) (fun _ i _ => xs.length - (intOf i).toNat)
    case atStart => exact ⟨0, Nat.zero_le _, rfl, rfl, H.out, grown_refl _ _⟩
    case round =>
      obtain ⟨j, hj, rfl, rfl, hown, hgr⟩ := hrel
      have Hown := Lib.hid hown; have Hgr := Lib.hid hgr
      clear hgr
      by_cases hlt : j < xs.length
      · have Hlen := Lib.hid (mkdT_length k xs j hj)
        clear hown
        go_wp2_with fail
        refine (markText_any (k + j) (by omega) (by omega) _).mono ?_
        rintro e w1 ⟨rfl, hb1⟩
        have hown1 : OT w1 lo (.slice (some ⟨g, 0, none⟩) xs.length cap) (mkdT k xs j) := own_bel Hown.out hb1
        have hu := hown1.cell j (by rw [Hlen.out]; exact hlt)
        have hfz := own_frozen hown1 j
        have Hset : Hid (OT (w1.setCell ⟨g, j, none⟩ (.string (mT (k + j)))) lo (.slice (some ⟨g, 0, none⟩) xs.length cap) (mkdT k xs (j + 1))) := Lib.hid (by
          rw [← mkdT_step k xs j hlt]
          exact hown1.set j _ (by rw [Hlen.out]; exact hlt))
        have Hgr2 : Hid (w.grownBy (w1.setCell ⟨g, j, none⟩ (.string (mT (k + j)))) (some g)) := Lib.hid (grown_trans Hgr.out (grown_trans ⟨hb1.os, hb1.tape, hb1.output, hb1.size, fun q hq _ => hb1.block q hq⟩ (grown_set _ _ _ _)))
        clear hown1 hb1
        go_wp2
        go_roundw
        case rel => exact ⟨j + 1, by omega, by go_num, by go_num, Hset.out, Hgr2.out⟩
        case measure => simp [intOf]; omega
      · obtain rfl : j = xs.length := by omega
        have Hend : Hid (OT wr lo (.slice (some ⟨g, 0, none⟩) xs.length cap) (marksT k xs.length)) := Lib.hid (mkdT_end k xs ▸ hown)
        clear hown
        go_wp2
        go_ret
        exact ⟨rfl, Hend.out, Hgr.out⟩
set_option maxHeartbeats 400000 in
set_option maxRecDepth 100000 in
theorem heldT_any {w : World} {lo n : Nat} {v : Value} (k : Nat) (h : OT w lo v (marksT k n)) (h1 : 1 ≤ k) (hk : k + n ≤ 8000000) :
    Calls Try.prog 62 #[v, .int .i64 (k : Int)] w (GivesB (.int .i64 ((k + n : Nat) : Int)) w) := by
  have H := Lib.hid h
  have Hl := Lib.hid (marksT_length k n)
  rcases h.sl with ⟨rfl, h0⟩ | ⟨g, cap, rfl, hlo, hg, hn, hm⟩
  · have hn0 : n = 0 := by have := congrArg List.length h0; rw [marksT_length] at this; simpa using this
    subst hn0
    clear h h0
    go_enter Try.func62, Try.ntmps62
    go_wp2
    go_loop [1, 5] (fun c i => i = .int .i64 0 ∧ c = .int .i64 (k : Int)) (fun _ _ => 0)
    case atStart => exact ⟨rfl, rfl⟩
    case round =>
      obtain ⟨rfl, rfl⟩ := hrel
      go_wp2
      go_ret
      exact ⟨rfl, Below.refl _ _⟩
  · unfold maxLen at hm
    rw [marksT_length] at hn ⊢
    clear h
    go_enter Try.func62, Try.ntmps62
    go_wp2
    go_loopw [1, 5] (fun c i wr => ∃ j : Nat, j ≤ n ∧ i = .int .i64 (j : Int) ∧ c = .int .i64 ((k + j : Nat) : Int) ∧ Below w.heap.size w wr) (fun _ i _ => n - (intOf i).toNat)
    case atStart => exact ⟨0, Nat.zero_le _, rfl, rfl, Below.refl _ _⟩
    case round =>
      obtain ⟨j, hj, rfl, rfl, hbel⟩ := hrel
      have Hbel := Lib.hid hbel
      by_cases hlt : j < n
      · have HS : Hid (∀ W, Below w.heap.size w W → W.cell? ⟨g, j, none⟩ = some (.string (mT (k + j)))) := Lib.hid (fun W hW => by
          have h2 := H.out.cell j (by rw [Hl.out]; exact hlt)
          rw [marksT_at] at h2
          exact (hW.cell (p := ⟨g, j, none⟩) hg).trans h2)
        clear hbel
        go_wp2
        go_region_held3 (fun W => W.cell? ⟨g, j, none⟩ = some (.string (mT (k + j)))) (exact HS.out _ (by first | exact kb1 | exact Hbel.out.drew | exact Hbel.out))
          ((first | (go_at_call 102; go_fit (markText_any (k + j) (by omega) (by omega) _); rintro e u1 ⟨rfl, ga⟩; have kb1 : Below w.heap.size w u1 := Hbel.out.drew.trans (ga.mono Hbel.out.size))))
        try simp only [Exit.then]
        have Hkb := Lib.hid kb1
        clear kb1 ga
        go_wp2
        go_roundw
        case rel => exact ⟨j + 1, by omega, by go_num, by go_num, Hkb.out⟩
        case measure => simp [intOf]; omega
      · obtain rfl : j = n := by omega
        clear hbel
        go_wp2
        go_ret
        exact ⟨rfl, Hbel.out⟩
end Go.Proofs.Ytabnglimchjgpaa
