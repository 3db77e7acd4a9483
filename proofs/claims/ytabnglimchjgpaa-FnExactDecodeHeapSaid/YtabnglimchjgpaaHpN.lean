/- The name in a slot, the slot of a name, equal heaps: contracts of both sides. No statement is proved here. -/
import Derived.Test.YtabnglimchjgpaaHpW
import Derived.Laws.StructEq
namespace Go.Proofs.Ytabnglimchjgpaa
open Go.RowKit
set_option linter.unusedVariables false
theorem na_no {ss : List ByteArray} {k : Int} (h : naY ss k = false) : naX ss k = ⟨#[]⟩ := by unfold naX; rw [h]; rfl
theorem na_inv {ss : List ByteArray} {k : Int} (h : hpOk ss = false) : naY ss k = false := by simp [naY, h]
theorem na_out {ss : List ByteArray} {k : Int} (h : inB k 0 ((ss.length : Int) - 1) = false) : naY ss k = false := by simp [naY, h]
theorem na_at {ss : List ByteArray} {m : Nat} (h0 : hpOk ss = true) (h : m < ss.length) : naY ss (m : Int) = decide (ss[m].size ≠ 0) := by
  have e : inB (m : Int) 0 ((ss.length : Int) - 1) = true := by rw [inB_iff]; omega
  simp [naY, h0, e, hpN_at h]
theorem na_yes {ss : List ByteArray} {m : Nat} (h : m < ss.length) (hy : naY ss (m : Int) = true) : naX ss (m : Int) = ss[m] := by unfold naX; rw [hy, if_pos rfl, Int.toNat_natCast, hpN_at h]
set_option maxHeartbeats 2000000 in
set_option maxRecDepth 100000 in
theorem specNameAt_any {B : Nat} {w : World} {v : Value} {ss : List ByteArray} {k : Int} (h : RiT B w v ss) (hk : (Lit.int .i64 k).wf = true) (hB : B ≤ w.heap.size) (hs : SmT ss) :
    Calls Try.prog 25 #[.agg #[v], .int .i64 k] w (GivesB (.tuple #[.string (naX ss k), .bool (naY ss k)]) w) := by
  have H := Lib.hid h
  obtain ⟨A, cap, rfl, hl, hm, hx⟩ := h
  unfold maxLen at hm
  have Hx := Lib.hid hx; clear hx
  have HB0 : Hid (Below w.heap.size w (w.alloc (.cells #[.slice A ss.length cap] 27))) := Lib.hid ((Below.refl _ w).alloc (Nat.le_refl _) _)
  have R0 : Hid ((w.alloc (.cells #[.slice A ss.length cap] 27)).heap[w.heap.size]? = some (.cells #[.slice A ss.length cap] 27 (0, 0))) := Lib.hid (heap_alloc_new w _)
  have HC := Lib.hid (l16Ok_any (H.out.at hB HB0.out) (Nat.le_refl _) hs)
  clear hs
  have HZ0 : Hid (w.heap.size < (w.alloc (.cells #[.slice A ss.length cap] 27)).heap.size) := Lib.hid (by simp)
  have HI : Hid (hpOk ss = false → naY ss k = false ∧ naX ss k = ⟨#[]⟩) := Lib.hid (fun h => ⟨na_inv h, na_no (na_inv h)⟩)
  have HO : Hid (inB k 0 ((ss.length : Int) - 1) = false → naY ss k = false ∧ naX ss k = ⟨#[]⟩) := Lib.hid (fun h => ⟨na_out h, na_no (na_out h)⟩)
  have HY : Hid (∀ m (hm : m < ss.length), k = (m : Int) → hpOk ss = true → (ss[m].size = 0 → naY ss k = false ∧ naX ss k = ⟨#[]⟩) ∧ (ss[m].size ≠ 0 → naY ss k = true ∧ naX ss k = ss[m])) := Lib.hid (fun m hm e h0 => by
    subst e
    have := na_at h0 hm
    refine ⟨fun hz => ?_, fun hz => ?_⟩
    · have h1 : naY ss (m : Int) = false := by rw [this]; simp [hz]
      exact ⟨h1, na_no h1⟩
    · have h1 : naY ss (m : Int) = true := by rw [this]; simp [hz]
      exact ⟨h1, na_yes hm h1⟩)
  generalize naX ss k = X at *
  generalize naY ss k = Y at *
  go_enter Try.func25, Try.ntmps25
  go_wp2_with (refine wpList_load_row rfl 27 (.tmp 2) rfl _ rfl 27 _ (0, 0) _ R0.out Try.underlying27 rfl (by kernel_rfl) ?_)
  generalize (w.alloc (.cells #[.slice A ss.length cap] 27)) = w0 at *
  refine HC.out.mono ?_
  rintro e w1 ⟨rfl, g⟩
  have HB1 := Lib.hid (HB0.out.trans (g.mono HB0.out.size))
  have q0 : w1.cell? ⟨w.heap.size, 0, none⟩ = some (.slice A ss.length cap) := by rw [cell_of_row _ _ _ _ _ _ ((g.block _ HZ0.out).trans R0.out)]; rfl
  clear g HC
  cases hok : hpOk ss
  · have Hf := Lib.hid (HI.out hok)
    clear hok
    go_wp2_with fail
    go_ret2
    exact ⟨by rw [Hf.out.1, Hf.out.2]; rfl, HB1.out⟩
  have Hok := Lib.hid hok; clear hok
  cases hin : inB k 0 ((ss.length : Int) - 1)
  · have Hf := Lib.hid (HO.out hin)
    have Hin := Lib.hid hin; clear hin
    go_wp2_with (go_at_call 63; (with_reducible refine (l00In_no _ _ _ _ Hin.out).mono ?_); rintro e w' ⟨rfl, rfl⟩)
    go_ret2
    exact ⟨by rw [Hf.out.1, Hf.out.2]; rfl, HB1.out⟩
  have hin2 := inB_iff.1 hin
  have Hin := Lib.hid hin; clear hin
  obtain ⟨m, rfl⟩ := Int.eq_ofNat_of_zero_le hin2.1
  have hlt : m < ss.length := by omega
  obtain ⟨hz1, hz2⟩ := HY.out m hlt rfl Hok.out
  obtain ⟨b, o, rfl, hb, hc, -⟩ := Hx.out m hlt
  have g1 := (HB1.out.cell (p := ⟨b, o + m, none⟩) (show b < _ by omega)).trans hc
  have d1 : decide ((m : Int) < (ss.length : Int)) = true := decide_eq_true (by omega)
  clear hc hin2
  generalize ss[m] = s at *
  by_cases hz : s.size = 0
  · have Hf := Lib.hid (hz1 hz)
    have e1 := mt_isEmpty hz
    clear hz1 hz2 hz
    go_wp2_with (go_at_call 63; (with_reducible refine (l00In_yes _ _ _ _ Hin.out).mono ?_); rintro e w' ⟨rfl, rfl⟩)
    go_ret2
    exact ⟨by rw [Hf.out.1, Hf.out.2]; rfl, HB1.out⟩
  · have Hf := Lib.hid (hz2 hz)
    have e1 := toList_ne s (by omega)
    clear hz1 hz2 hz
    go_wp2_with (go_at_call 63; (with_reducible refine (l00In_yes _ _ _ _ Hin.out).mono ?_); rintro e w' ⟨rfl, rfl⟩)
    go_ret2
    exact ⟨by rw [Hf.out.1, Hf.out.2]; rfl, HB1.out⟩
theorem isIndex_any (k n : Int) (w : World) : Calls Try.prog 64 #[.int .i64 k, .int .i64 n] w fun e w' => e = .returned (.bool (decide (0 ≤ k) && decide (k < n))) ∧ w' = w := by
  by_cases h0 : 0 ≤ k
  · by_cases h1 : k < n
    · go_enter Try.func64, Try.ntmps64
      go_wp2_with fail
      go_ret
      exact ⟨by rw [decide_eq_true (show 0 ≤ k by omega), decide_eq_true (show k < n by omega)]; rfl, rfl⟩
    · go_enter Try.func64, Try.ntmps64
      go_wp2_with fail
      go_ret
      exact ⟨by have e : decide (k < n) = false := decide_eq_false (by omega)
                simp [e], rfl⟩
  · go_enter Try.func64, Try.ntmps64
    go_wp2_with fail
    go_ret
    exact ⟨by rw [decide_eq_false (show ¬ 0 ≤ k by omega)]; rfl, rfl⟩
theorem isIndex_is {k n : Int} {r : Bool} (h : (decide (0 ≤ k) && decide (k < n)) = r) (w : World) : Calls Try.prog 64 #[.int .i64 k, .int .i64 n] w fun e w' => e = .returned (.bool r) ∧ w' = w := by subst h; exact isIndex_any k n w
set_option maxHeartbeats 2000000 in
set_option maxRecDepth 100000 in
theorem implNameAt_any {B : Nat} {w : World} {v : Value} {ss : List ByteArray} {k : Int} (h : RiT B w v ss) (hk : (Lit.int .i64 k).wf = true) (hB : B ≤ w.heap.size) (hs : SmT ss) :
    Calls Try.prog 26 #[.agg #[v], .int .i64 k] w (GivesB (.tuple #[.string (naX ss k), .bool (naY ss k)]) w) := by
  have H := Lib.hid h
  obtain ⟨A, cap, rfl, hl, hm, hx⟩ := h
  unfold maxLen at hm
  have Hx := Lib.hid hx; clear hx
  have HB0 : Hid (Below w.heap.size w (w.alloc (.cells #[.slice A ss.length cap] 27))) := Lib.hid ((Below.refl _ w).alloc (Nat.le_refl _) _)
  have R0 : Hid ((w.alloc (.cells #[.slice A ss.length cap] 27)).heap[w.heap.size]? = some (.cells #[.slice A ss.length cap] 27 (0, 0))) := Lib.hid (heap_alloc_new w _)
  have HC := Lib.hid (implValidHeap_any (H.out.at hB HB0.out) (Nat.le_refl _) hs)
  clear hs
  have HZ0 : Hid (w.heap.size < (w.alloc (.cells #[.slice A ss.length cap] 27)).heap.size) := Lib.hid (by simp)
  have HI : Hid (hpOk ss = false → naY ss k = false ∧ naX ss k = ⟨#[]⟩) := Lib.hid (fun h => ⟨na_inv h, na_no (na_inv h)⟩)
  have HO : Hid (inB k 0 ((ss.length : Int) - 1) = false → naY ss k = false ∧ naX ss k = ⟨#[]⟩) := Lib.hid (fun h => ⟨na_out h, na_no (na_out h)⟩)
  have HY : Hid (∀ m (hm : m < ss.length), k = (m : Int) → hpOk ss = true → (ss[m].size = 0 → naY ss k = false ∧ naX ss k = ⟨#[]⟩) ∧ (ss[m].size ≠ 0 → naY ss k = true ∧ naX ss k = ss[m])) := Lib.hid (fun m hm e h0 => by
    subst e
    have := na_at h0 hm
    refine ⟨fun hz => ?_, fun hz => ?_⟩
    · have h1 : naY ss (m : Int) = false := by rw [this]; simp [hz]
      exact ⟨h1, na_no h1⟩
    · have h1 : naY ss (m : Int) = true := by rw [this]; simp [hz]
      exact ⟨h1, na_yes hm h1⟩)
  generalize naX ss k = X at *
  generalize naY ss k = Y at *
  go_enter Try.func26, Try.ntmps26
  go_wp2_with (refine wpList_load_row rfl 27 (.tmp 2) rfl _ rfl 27 _ (0, 0) _ R0.out Try.underlying27 rfl (by kernel_rfl) ?_)
  generalize (w.alloc (.cells #[.slice A ss.length cap] 27)) = w0 at *
  refine HC.out.mono ?_
  rintro e w1 ⟨rfl, g⟩
  have HB1 := Lib.hid (HB0.out.trans (g.mono HB0.out.size))
  have q0 : w1.cell? ⟨w.heap.size, 0, none⟩ = some (.slice A ss.length cap) := by rw [cell_of_row _ _ _ _ _ _ ((g.block _ HZ0.out).trans R0.out)]; rfl
  clear g HC
  cases hok : hpOk ss
  · have Hf := Lib.hid (HI.out hok)
    clear hok
    go_wp2_with fail
    go_ret2
    exact ⟨by rw [Hf.out.1, Hf.out.2]; rfl, HB1.out⟩
  have Hok := Lib.hid hok; clear hok
  cases hin : inB k 0 ((ss.length : Int) - 1)
  · have Hf := Lib.hid (HO.out hin)
    have HCi := Lib.hid (fun W => isIndex_is (k := k) (n := (ss.length : Int)) (r := false) (by
      rw [Bool.eq_false_iff] at hin ⊢
      intro h
      simp only [Bool.and_eq_true, decide_eq_true_eq] at h
      exact hin (inB_iff.2 (by omega))) W)
    clear hin
    go_wp2_with (go_at_call 64; refine (HCi.out _).mono ?_; rintro e w' ⟨rfl, rfl⟩)
    go_ret2
    exact ⟨by rw [Hf.out.1, Hf.out.2]; rfl, HB1.out⟩
  have hin2 := inB_iff.1 hin
  clear hin
  obtain ⟨m, rfl⟩ := Int.eq_ofNat_of_zero_le hin2.1
  have HCi := Lib.hid (fun W => isIndex_is (k := (m : Int)) (n := (ss.length : Int)) (r := true) (by simp; omega) W)
  have hlt : m < ss.length := by omega
  obtain ⟨hz1, hz2⟩ := HY.out m hlt rfl Hok.out
  obtain ⟨b, o, rfl, hb, hc, -⟩ := Hx.out m hlt
  have g1 := (HB1.out.cell (p := ⟨b, o + m, none⟩) (show b < _ by omega)).trans hc
  have d1 : decide ((m : Int) < (ss.length : Int)) = true := decide_eq_true (by omega)
  clear hc hin2
  generalize ss[m] = s at *
  by_cases hz : s.size = 0
  · have Hf := Lib.hid (hz1 hz)
    have e1 := mt_isEmpty hz
    have Hse := Lib.hid (mt_empty hz)
    clear hz1 hz2 hz
    go_wp2_with (go_at_call 64; refine (HCi.out _).mono ?_; rintro e w' ⟨rfl, rfl⟩)
    go_region
    go_wp2_with fail
    go_ret2
    exact ⟨by rw [Hf.out.1, Hf.out.2, Hse.out]; rfl, HB1.out.drew⟩
  · have Hf := Lib.hid (hz2 hz)
    have e1 := toList_ne s (by omega)
    clear hz1 hz2 hz
    go_wp2_with (go_at_call 64; refine (HCi.out _).mono ?_; rintro e w' ⟨rfl, rfl⟩)
    go_region
    go_wp2_with fail
    go_ret2
    exact ⟨by rw [Hf.out.1, Hf.out.2]; rfl, HB1.out.drew⟩
end Go.Proofs.Ytabnglimchjgpaa
