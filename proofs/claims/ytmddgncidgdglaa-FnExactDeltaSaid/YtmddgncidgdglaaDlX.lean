/- Delta and Undelta, both sides. No statement is proved here. -/
import Derived.Test.YtmddgncidgdglaaDlW
namespace Go.Proofs.Ytmddgncidgdglaa
open Go.RowKit
set_option linter.unusedVariables false
def wdN (s : ByteArray) (W : Int) : Bool := wdOk W && decide (s.size ≤ 1100)
def delA (s : ByteArray) (W : Int) : ByteArray := if wdN s W then dlS s W.toNat (dlF s W.toNat) else ⟨#[]⟩
def undA (s : ByteArray) (W : Int) : ByteArray := if wdN s W then dlS s W.toNat (dlB s W.toNat) else ⟨#[]⟩
theorem wdOk_is {z : Int} (h : wdOk z = true) : z = 1 ∨ z = 2 ∨ z = 4 := by
  simp [wdOk] at h
  omega
set_option maxRecDepth 100000 in
theorem l18Width_any (s : ByteArray) (hs : s.size ≤ 1048576) (p : Int) (w : World) : Calls Try.prog 61 #[.string s, .int .i64 p] w (Quiet (.bool (wdN s p)) w) := by
  have HN : Hid (wdN s p = (wdOk p && decide (s.size ≤ 1100))) := Lib.hid rfl
  have hd : decide ((s.size : Int) ≤ 1100) = decide (s.size ≤ 1100) := by rw [decide_eq_decide]; omega
  generalize wdN s p = v at *
  generalize decide (s.size ≤ 1100) = q at *
  by_cases p1 : p = 1
  · subst p1
    have Hf : Hid (v = q) := Lib.hid (by rw [HN.out]; show (wdOk 1 && q) = q; rw [show wdOk 1 = true from rfl]; rfl)
    clear HN
    go_enter Try.func61, Try.ntmps61
    go_wp2_with fail
    go_ret
    exact ⟨by rw [Hf.out]; rfl, rfl⟩
  have p1b : (p == 1) = false := by simpa using p1
  by_cases p2 : p = 2
  · subst p2; clear p1 p1b
    have Hf : Hid (v = q) := Lib.hid (by rw [HN.out]; rw [show wdOk 2 = true from rfl]; rfl)
    clear HN
    go_enter Try.func61, Try.ntmps61
    go_wp2_with fail
    go_ret
    exact ⟨by rw [Hf.out]; rfl, rfl⟩
  have p2b : (p == 2) = false := by simpa using p2
  by_cases p4 : p = 4
  · subst p4; clear p1 p1b p2 p2b
    have Hf : Hid (v = q) := Lib.hid (by rw [HN.out]; rw [show wdOk 4 = true from rfl]; rfl)
    clear HN
    go_enter Try.func61, Try.ntmps61
    go_wp2_with fail
    go_ret
    exact ⟨by rw [Hf.out]; rfl, rfl⟩
  have p4b : (p == 4) = false := by simpa using p4
  have Hf : Hid (v = false) := Lib.hid (by rw [HN.out]; rw [show wdOk p = false by simp [wdOk, p1, p2, p4]]; rfl)
  clear p1 p2 p4
  clear HN
  go_enter Try.func61, Try.ntmps61
  go_wp2_with fail
  go_ret
  exact ⟨by rw [Hf.out]; rfl, rfl⟩
theorem specDelta_c {s : ByteArray} {z : Int} {w : World} {B : Nat} (hs : s.size ≤ 1048576) (hz : (Lit.int .i64 z).wf = true) (hB : B ≤ w.heap.size) : Calls Try.prog 24 #[.string s, .int .i64 z] w (GivesB (.string (delA s z)) w) := by
  have HW := Lib.hid (fun W' => l18Width_any s hs z W')
  cases hk : wdN s z
  · have Hf : Hid (delA s z = ⟨#[]⟩) := Lib.hid (by simp [delA, hk])
    rw [hk] at HW
    clear hk
    go_enter Try.func24, Try.ntmps24
    go_wp2_with ((go_at_call 61; refine (HW.out _).mono ?_; rintro e w' ⟨rfl, rfl⟩))
    go_ret
    exact ⟨by rw [Hf.out]; rfl, Below.refl _ _⟩
  have hk2 : wdOk z = true ∧ s.size ≤ 1100 := by simpa [wdN] using hk
  rw [hk] at HW
  rcases wdOk_is hk2.1 with rfl | rfl | rfl
  · have Hf : Hid (delA s 1 = dlS s 1 (dlF s 1)) := Lib.hid (by simp [delA, hk])
    have HC := Lib.hid (fun W' => l18Delta1F s hk2.2 W')
    clear hk hk2
    generalize dlS s 1 (dlF s 1) = R at *
    go_enter Try.func24, Try.ntmps24
    go_wp2_with (first | (go_at_call 61; refine (HW.out _).mono ?_; rintro e w' ⟨rfl, rfl⟩) | (go_at_call 62; refine (HC.out _).mono ?_; rintro e w1 ⟨rfl, g⟩))
    go_ret
    exact ⟨by rw [Hf.out]; rfl, g⟩
  · have Hf : Hid (delA s 2 = dlS s 2 (dlF s 2)) := Lib.hid (by simp [delA, hk])
    have HC := Lib.hid (fun W' => l18Delta2F s hk2.2 W')
    clear hk hk2
    generalize dlS s 2 (dlF s 2) = R at *
    go_enter Try.func24, Try.ntmps24
    go_wp2_with (first | (go_at_call 61; refine (HW.out _).mono ?_; rintro e w' ⟨rfl, rfl⟩) | (go_at_call 62; refine (HC.out _).mono ?_; rintro e w1 ⟨rfl, g⟩))
    go_ret
    exact ⟨by rw [Hf.out]; rfl, g⟩
  · have Hf : Hid (delA s 4 = dlS s 4 (dlF s 4)) := Lib.hid (by simp [delA, hk])
    have HC := Lib.hid (fun W' => l18Delta4F s hk2.2 W')
    clear hk hk2
    generalize dlS s 4 (dlF s 4) = R at *
    go_enter Try.func24, Try.ntmps24
    go_wp2_with (first | (go_at_call 61; refine (HW.out _).mono ?_; rintro e w' ⟨rfl, rfl⟩) | (go_at_call 62; refine (HC.out _).mono ?_; rintro e w1 ⟨rfl, g⟩))
    go_ret
    exact ⟨by rw [Hf.out]; rfl, g⟩
set_option maxHeartbeats 1000000 in
set_option maxRecDepth 100000 in
theorem withNoF (s : ByteArray) (hs : s.size ≤ 1048576) (z : Int) (v : Value) (hk : wdN s z = false) (w : World) :
    Calls Try.prog 63 #[.string s, .int .i64 z, v] w (Quiet (.string ⟨#[]⟩) w) := by
  have HW := Lib.hid (fun W' => isDeltaWidth_any z W')
  have HN : Hid (wdOk z = true → ¬ s.size ≤ 1100) := Lib.hid (fun h h2 => by simp [wdN, h, h2] at hk)
  clear hk
  cases hw : wdOk z
  · rw [hw] at HW
    clear hw HN
    go_enter Try.func63, Try.ntmps63
    go_wp2_with ((go_at_call 56; refine (HW.out _).mono ?_; rintro e w' ⟨rfl, rfl⟩))
    go_ret
    exact ⟨rfl, rfl⟩
  · have hl := HN.out hw
    have hd : decide ((1100 : Int) < (s.size : Int)) = true := decide_eq_true (by omega)
    rw [hw] at HW
    clear hw HN
    go_enter Try.func63, Try.ntmps63
    go_wp2_with ((go_at_call 56; refine (HW.out _).mono ?_; rintro e w' ⟨rfl, rfl⟩))
    go_ret
    exact ⟨rfl, rfl⟩
set_option maxHeartbeats 1000000 in
set_option maxRecDepth 100000 in
theorem implDelta_c {s : ByteArray} {z : Int} {w : World} {B : Nat} (hs : s.size ≤ 1048576) (hz : (Lit.int .i64 z).wf = true) (hB : B ≤ w.heap.size) : Calls Try.prog 25 #[.string s, .int .i64 z] w (GivesB (.string (delA s z)) w) := by
  have HB0 : Hid (Below w.heap.size w (w.alloc (.cells #[.int .i64 0] 2))) := Lib.hid ((Below.refl _ w).alloc (Nat.le_refl _) _)
  have HN0 : Hid (NbA (w.alloc (.cells #[.int .i64 0] 2)) w.heap.size 0) := Lib.hid (heap_alloc_new w _)
  have HZ0 : Hid (w.heap.size < (w.alloc (.cells #[.int .i64 0] 2)).heap.size) := Lib.hid (by simp)
  have HC : Hid (∀ W', w.heap.size < W'.heap.size → NbA W' w.heap.size 0 → Calls Try.prog 63 #[.string s, .int .i64 z, .func (.func 64) #[] #[.pointer (some ⟨w.heap.size, 0, none⟩)]] W' fun e w' => e = .returned (.string (delA s z)) ∧ Below w.heap.size W' w') := Lib.hid (fun W' h1 h2 => by
    cases hk : wdN s z
    · have hf : delA s z = ⟨#[]⟩ := by simp [delA, hk]
      rw [hf]
      exact (withNoF s hs z _ hk W').mono (fun e w' ⟨he, hw⟩ => ⟨he, by rw [← hw]; exact Below.refl _ _⟩)
    · have hk2 : wdOk z = true ∧ s.size ≤ 1100 := by simpa [wdN] using hk
      rcases wdOk_is hk2.1 with rfl | rfl | rfl
      · rw [show delA s 1 = dlS s 1 (dlF s 1) by simp [delA, hk]]
        exact withN1F s hk2.2 _ W' h1 h2
      · rw [show delA s 2 = dlS s 2 (dlF s 2) by simp [delA, hk]]
        exact withN2F s hk2.2 _ W' h1 h2
      · rw [show delA s 4 = dlS s 4 (dlF s 4) by simp [delA, hk]]
        exact withN4F s hk2.2 _ W' h1 h2)
  generalize delA s z = R at *
  go_enter Try.func25, Try.ntmps25
  go_wp2_with ((go_at_call 63; refine (HC.out _ (by first | exact HZ0.out | simp) (by first | exact HN0.out | exact heap_alloc_new w _)).mono ?_; rintro e w1 ⟨rfl, g⟩; have Hg := Lib.hid (HB0.out.trans g); clear g))
  go_ret
  exact ⟨rfl, Hg.out⟩
theorem specUndelta_c {s : ByteArray} {z : Int} {w : World} {B : Nat} (hs : s.size ≤ 1048576) (hz : (Lit.int .i64 z).wf = true) (hB : B ≤ w.heap.size) : Calls Try.prog 26 #[.string s, .int .i64 z] w (GivesB (.string (undA s z)) w) := by
  have HW := Lib.hid (fun W' => l18Width_any s hs z W')
  cases hk : wdN s z
  · have Hf : Hid (undA s z = ⟨#[]⟩) := Lib.hid (by simp [undA, hk])
    rw [hk] at HW
    clear hk
    go_enter Try.func26, Try.ntmps26
    go_wp2_with ((go_at_call 61; refine (HW.out _).mono ?_; rintro e w' ⟨rfl, rfl⟩))
    go_ret
    exact ⟨by rw [Hf.out]; rfl, Below.refl _ _⟩
  have hk2 : wdOk z = true ∧ s.size ≤ 1100 := by simpa [wdN] using hk
  rw [hk] at HW
  rcases wdOk_is hk2.1 with rfl | rfl | rfl
  · have Hf : Hid (undA s 1 = dlS s 1 (dlB s 1)) := Lib.hid (by simp [undA, hk])
    have HC := Lib.hid (fun W' => l18Delta1B s hk2.2 W')
    clear hk hk2
    generalize dlS s 1 (dlB s 1) = R at *
    go_enter Try.func26, Try.ntmps26
    go_wp2_with (first | (go_at_call 61; refine (HW.out _).mono ?_; rintro e w' ⟨rfl, rfl⟩) | (go_at_call 62; refine (HC.out _).mono ?_; rintro e w1 ⟨rfl, g⟩))
    go_ret
    exact ⟨by rw [Hf.out]; rfl, g⟩
  · have Hf : Hid (undA s 2 = dlS s 2 (dlB s 2)) := Lib.hid (by simp [undA, hk])
    have HC := Lib.hid (fun W' => l18Delta2B s hk2.2 W')
    clear hk hk2
    generalize dlS s 2 (dlB s 2) = R at *
    go_enter Try.func26, Try.ntmps26
    go_wp2_with (first | (go_at_call 61; refine (HW.out _).mono ?_; rintro e w' ⟨rfl, rfl⟩) | (go_at_call 62; refine (HC.out _).mono ?_; rintro e w1 ⟨rfl, g⟩))
    go_ret
    exact ⟨by rw [Hf.out]; rfl, g⟩
  · have Hf : Hid (undA s 4 = dlS s 4 (dlB s 4)) := Lib.hid (by simp [undA, hk])
    have HC := Lib.hid (fun W' => l18Delta4B s hk2.2 W')
    clear hk hk2
    generalize dlS s 4 (dlB s 4) = R at *
    go_enter Try.func26, Try.ntmps26
    go_wp2_with (first | (go_at_call 61; refine (HW.out _).mono ?_; rintro e w' ⟨rfl, rfl⟩) | (go_at_call 62; refine (HC.out _).mono ?_; rintro e w1 ⟨rfl, g⟩))
    go_ret
    exact ⟨by rw [Hf.out]; rfl, g⟩
set_option maxHeartbeats 1000000 in
set_option maxRecDepth 100000 in
theorem withNoB (s : ByteArray) (hs : s.size ≤ 1048576) (z : Int) (v : Value) (hk : wdN s z = false) (w : World) :
    Calls Try.prog 63 #[.string s, .int .i64 z, v] w (Quiet (.string ⟨#[]⟩) w) := by
  have HW := Lib.hid (fun W' => isDeltaWidth_any z W')
  have HN : Hid (wdOk z = true → ¬ s.size ≤ 1100) := Lib.hid (fun h h2 => by simp [wdN, h, h2] at hk)
  clear hk
  cases hw : wdOk z
  · rw [hw] at HW
    clear hw HN
    go_enter Try.func63, Try.ntmps63
    go_wp2_with ((go_at_call 56; refine (HW.out _).mono ?_; rintro e w' ⟨rfl, rfl⟩))
    go_ret
    exact ⟨rfl, rfl⟩
  · have hl := HN.out hw
    have hd : decide ((1100 : Int) < (s.size : Int)) = true := decide_eq_true (by omega)
    rw [hw] at HW
    clear hw HN
    go_enter Try.func63, Try.ntmps63
    go_wp2_with ((go_at_call 56; refine (HW.out _).mono ?_; rintro e w' ⟨rfl, rfl⟩))
    go_ret
    exact ⟨rfl, rfl⟩
set_option maxHeartbeats 1000000 in
set_option maxRecDepth 100000 in
theorem implUndelta_c {s : ByteArray} {z : Int} {w : World} {B : Nat} (hs : s.size ≤ 1048576) (hz : (Lit.int .i64 z).wf = true) (hB : B ≤ w.heap.size) : Calls Try.prog 27 #[.string s, .int .i64 z] w (GivesB (.string (undA s z)) w) := by
  have HB0 : Hid (Below w.heap.size w (w.alloc (.cells #[.int .i64 0] 2))) := Lib.hid ((Below.refl _ w).alloc (Nat.le_refl _) _)
  have HN0 : Hid (NbA (w.alloc (.cells #[.int .i64 0] 2)) w.heap.size 0) := Lib.hid (heap_alloc_new w _)
  have HZ0 : Hid (w.heap.size < (w.alloc (.cells #[.int .i64 0] 2)).heap.size) := Lib.hid (by simp)
  have HC : Hid (∀ W', w.heap.size < W'.heap.size → NbA W' w.heap.size 0 → Calls Try.prog 63 #[.string s, .int .i64 z, .func (.func 65) #[] #[.pointer (some ⟨w.heap.size, 0, none⟩)]] W' fun e w' => e = .returned (.string (undA s z)) ∧ Below w.heap.size W' w') := Lib.hid (fun W' h1 h2 => by
    cases hk : wdN s z
    · have hf : undA s z = ⟨#[]⟩ := by simp [undA, hk]
      rw [hf]
      exact (withNoB s hs z _ hk W').mono (fun e w' ⟨he, hw⟩ => ⟨he, by rw [← hw]; exact Below.refl _ _⟩)
    · have hk2 : wdOk z = true ∧ s.size ≤ 1100 := by simpa [wdN] using hk
      rcases wdOk_is hk2.1 with rfl | rfl | rfl
      · rw [show undA s 1 = dlS s 1 (dlB s 1) by simp [undA, hk]]
        exact withN1B s hk2.2 _ W' h1 h2
      · rw [show undA s 2 = dlS s 2 (dlB s 2) by simp [undA, hk]]
        exact withN2B s hk2.2 _ W' h1 h2
      · rw [show undA s 4 = dlS s 4 (dlB s 4) by simp [undA, hk]]
        exact withN4B s hk2.2 _ W' h1 h2)
  generalize undA s z = R at *
  go_enter Try.func27, Try.ntmps27
  go_wp2_with ((go_at_call 63; refine (HC.out _ (by first | exact HZ0.out | simp) (by first | exact HN0.out | exact heap_alloc_new w _)).mono ?_; rintro e w1 ⟨rfl, g⟩; have Hg := Lib.hid (HB0.out.trans g); clear g))
  go_ret
  exact ⟨rfl, Hg.out⟩
end Go.Proofs.Ytmddgncidgdglaa
