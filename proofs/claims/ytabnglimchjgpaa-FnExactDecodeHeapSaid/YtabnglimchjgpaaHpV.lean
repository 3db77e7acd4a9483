/- Which heaps of names are valid: contracts of the model and of the program. No statement is proved here. -/
import Derived.Test.YtabnglimchjgpaaHpS
import Derived.Test.YtabnglimchjgpaaNameS
import Derived.Test.YtabnglimchjgpaaNameI
import Derived.Test.YtabnglimchjgpaaDimC
namespace Go.Proofs.Ytabnglimchjgpaa
open Go.RowKit
set_option linter.unusedVariables false
set_option maxHeartbeats 2000000 in
set_option maxRecDepth 100000 in
theorem l16Ok_any {B : Nat} {w : World} {v : Value} {ss : List ByteArray} (h : RiT B w v ss) (hB : B ≤ w.heap.size) (hs : SmT ss) :
    Calls Try.prog 47 #[.agg #[v]] w (GivesB (.bool (hpOk ss)) w) := by
  obtain ⟨A, cap, rfl, hl, hm, hx⟩ := h
  unfold maxLen at hm
  generalize hr : hpOk ss = r
  have Hr := Lib.hid hr; clear hr
  have Hx := Lib.hid hx; clear hx
  have Hs := Lib.hid hs.2; clear hs
  have HB0 : Hid (Below w.heap.size w (w.alloc (.cells #[.slice A ss.length cap] 27))) := Lib.hid ((Below.refl _ w).alloc (Nat.le_refl _) _)
  have HZ0 : Hid (w.heap.size < (w.alloc (.cells #[.slice A ss.length cap] 27)).heap.size) := Lib.hid (by simp)
  have HQ0 := Lib.hid (row1 w (.slice A ss.length cap) 27)
  by_cases h30 : ss.length ≤ 30
  rotate_left
  · have Hf : Hid (r = false) := Lib.hid (by rw [← Hr.out]; exact hpOk_long h30)
    have d1 : decide ((30 : Int) < (ss.length : Int)) = true := decide_eq_true (by omega)
    have q0 := HQ0.out
    go_enter Try.func47, Try.ntmps47
    go_wp2_with fail
    go_ret
    exact ⟨by rw [Hf.out]; rfl, HB0.out⟩
  have d1 : decide ((30 : Int) < (ss.length : Int)) = false := decide_eq_false (by omega)
  have HL : Hid (∀ wr : World, Below (w.alloc (.cells #[.slice A ss.length cap] 27)).heap.size (w.alloc (.cells #[.slice A ss.length cap] 27)) wr → wr.cell? ⟨w.heap.size, 0, none⟩ = some (.slice A ss.length cap)) := Lib.hid (fun wr hb => (hb.cell (p := ⟨w.heap.size, 0, none⟩) HZ0.out).trans HQ0.out)
  by_cases hn : ss.length = 0
  · have Hf : Hid (r = true) := Lib.hid (by rw [← Hr.out]; obtain rfl := List.eq_nil_of_length_eq_zero hn; rfl)
    have n0 : decide ((0 : Int) < (ss.length : Int)) = false := decide_eq_false (by omega)
    have n2 : ¬ (0 : Int) < (ss.length : Int) := by omega
    have q0 := HQ0.out
    clear hn
    go_enter Try.func47, Try.ntmps47
    go_wp2_with fail
    generalize (w.alloc (.cells #[.slice A ss.length cap] 27)) = w0 at *
    go_loopw [4] (fun i wr => i = .int .i64 0 ∧ wr = w0) (fun i _ => 0)
    case atStart => exact ⟨rfl, rfl⟩
    case round =>
      obtain ⟨rfl, rfl⟩ := hrel
      go_wp2_with fail
      go_ret
      exact ⟨by rw [Hf.out]; rfl, HB0.out⟩
  obtain ⟨b, o, rfl, hb, hcl, -⟩ := Hx.out (ss.length - 1) (by omega)
  have hclw := (HB0.out.cell (p := ⟨b, o + (ss.length - 1), none⟩) (show b < _ from by omega)).trans hcl
  have n0 : decide ((0 : Int) < (ss.length : Int)) = true := decide_eq_true (by omega)
  have n1 : ((ss.length : Int) - 1) = ((ss.length - 1 : Nat) : Int) := by omega
  have n2 : ss.length - 1 < ss.length := by omega
  have HE := Lib.hid (hpEnd_last hn)
  clear hcl
  generalize hls : ss[ss.length - 1] = ls at *
  by_cases hl0 : ls.size = 0
  · have Hf : Hid (r = false) := Lib.hid (by rw [← Hr.out]; exact hpOk_end (by rw [HE.out]; simp [hl0]))
    have e1 := mt_isEmpty hl0
    have q0 := HQ0.out
    clear HE hls hl0
    go_enter Try.func47, Try.ntmps47
    go_wp2_with fail
    go_ret
    exact ⟨by rw [Hf.out]; rfl, HB0.out⟩
  have Hend : Hid (hpEnd ss = true) := Lib.hid (by rw [HE.out]; simp [hl0])
  have e1 := toList_ne ls (by omega)
  have q0 := HQ0.out
  clear HE hls
  go_enter Try.func47, Try.ntmps47
  go_wp2_with fail
  clear q0 hclw e1
  generalize (w.alloc (.cells #[.slice (some ⟨b, o, none⟩) ss.length cap] 27)) = w0 at *
  go_loopw [4] (fun i wr => ∃ k : Nat, k ≤ ss.length ∧ i = .int .i64 (k : Int) ∧ Below w0.heap.size w0 wr ∧ allTo (hpAt ss) k = true) (fun i _ => ss.length - (intOf i).toNat)
  case atStart => exact ⟨0, Nat.zero_le _, rfl, Below.refl _ _, allTo_zero _⟩
  case round =>
    obtain ⟨k, hk, rfl, hbel, hall⟩ := hrel
    have Hall := Lib.hid hall; have Hbel := Lib.hid hbel; clear hall
    have q0 := HL.out wr hbel
    have Hbw : Hid (Below w.heap.size w wr) := Lib.hid (HB0.out.trans (hbel.mono HB0.out.size))
    by_cases hlt : k < ss.length
    · obtain ⟨b', o', e, hb', hc', -⟩ := Hx.out k hlt
      simp only [Option.some.injEq, Addr.mk.injEq, and_true] at e
      obtain ⟨rfl, rfl⟩ := e
      have g1 := (Hbw.out.cell (p := ⟨b, o + k, none⟩) (show b < _ by omega)).trans hc'
      have HS := Lib.hid (allTo_succ (hpAt ss) k)
      have HP : Hid (hpAt ss k = (decide (ss[k].size = 0) || nameS ss[k])) := Lib.hid (by unfold hpAt; rw [hpN_at hlt])
      have Hbad : Hid (hpAt ss k = false → r = false) := Lib.hid (fun h => by rw [← Hr.out]; exact hpOk_bad hlt h)
      have hsz := Hs.out ss[k] (List.getElem_mem hlt)
      clear hc' hbel
      generalize ss[k] = s at *
      by_cases hz : s.size = 0
      · have e1 := mt_isEmpty hz
        have Hall2 : Hid (allTo (hpAt ss) (k + 1) = true) := Lib.hid (by rw [HS.out, Hall.out, HP.out]; simp [hz])
        clear Hbad hz
        go_wp2_with fail
        go_roundw
        case rel => exact ⟨k + 1, by omega, by go_num, Hbel.out, Hall2.out⟩
        case measure => simp [intOf]; omega
      · have e1 := toList_ne s (by omega)
        have HC := Lib.hid (specIsName_any s hsz wr)
        cases hnm : nameS s
        · have Hf := Lib.hid (Hbad.out (by rw [HP.out, hnm]; simp [hz]))
          rw [hnm] at HC
          clear Hbad hz hnm HP
          go_wp2_with (go_at_call 54; refine HC.out.mono ?_; rintro e w' ⟨rfl, rfl⟩)
          go_ret
          exact ⟨by rw [Hf.out]; rfl, Hbw.out⟩
        · have Hall2 : Hid (allTo (hpAt ss) (k + 1) = true) := Lib.hid (by rw [HS.out, Hall.out, HP.out, hnm]; simp)
          rw [hnm] at HC
          clear Hbad hz hnm HP
          go_wp2_with (go_at_call 54; refine HC.out.mono ?_; rintro e w' ⟨rfl, rfl⟩)
          go_roundw
          case rel => exact ⟨k + 1, by omega, by go_num, Hbel.out, Hall2.out⟩
          case measure => simp [intOf]; omega
    · obtain rfl : k = ss.length := by omega
      have Hf : Hid (r = true) := Lib.hid (by rw [← Hr.out]; exact hpOk_y h30 Hend.out Hall.out)
      clear hbel
      go_wp2_with fail
      go_ret
      exact ⟨by rw [Hf.out]; rfl, Hbw.out⟩
theorem specValidHeap_any {B : Nat} {w : World} {v : Value} {ss : List ByteArray} (h : RiT B w v ss) (hB : B ≤ w.heap.size) (hs : SmT ss) :
    Calls Try.prog 15 #[.agg #[v]] w (GivesB (.bool (hpOk ss)) w) := by
  have H := Lib.hid h
  have Hs := Lib.hid hs; clear hs
  obtain ⟨A, cap, rfl, -, -, -⟩ := h
  have HB0 : Hid (Below w.heap.size w (w.alloc (.cells #[.slice A ss.length cap] 27))) := Lib.hid ((Below.refl _ w).alloc (Nat.le_refl _) _)
  have R0 : Hid ((w.alloc (.cells #[.slice A ss.length cap] 27)).heap[w.heap.size]? = some (.cells #[.slice A ss.length cap] 27 (0, 0))) := Lib.hid (heap_alloc_new w _)
  go_enter Try.func15, Try.ntmps15
  go_wp2_with (refine wpList_load_row rfl 27 (.tmp 1) rfl _ rfl 27 _ (0, 0) _ R0.out Try.underlying27 rfl (by kernel_rfl) ?_)
  refine (l16Ok_any (H.out.at hB HB0.out) (Nat.le_refl _) Hs.out).mono ?_
  rintro e w1 ⟨rfl, g⟩
  have Hg := Lib.hid (HB0.out.trans (g.mono HB0.out.size)); clear g
  go_wp2_with fail
  go_ret
  exact ⟨rfl, Hg.out⟩
end Go.Proofs.Ytabnglimchjgpaa
