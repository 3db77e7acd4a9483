/- Contracts of the functions that write a dataspace as bytes. No statement is proved here. -/
import Derived.Test.YtaokifppaagalaaSpV
import Derived.Test.YtaokifppaagalaaNumI
import Derived.Deep.DeepFit
namespace Go.Proofs.Ytaokifppaagalaa
open Go.RowKit
set_option linter.unusedVariables false
/-- The bytes behind the first k dimensions. -/
def encL (xs ms : List Int) : Nat → ByteArray
  | 0 => leS xs.length 1
  | k + 1 => encL xs ms k ++ (leS (xs.getD k 0) 1 ++ leS (ms.getD k 0) 1)
def encS (xs ms : List Int) : ByteArray := if spaceOk xs ms = true then encL xs ms xs.length else ⟨#[]⟩
theorem leS_size (n : Int) (k : Nat) : (leS n k).size = k := by
  show (leL n k).toArray.size = k
  rw [List.size_toArray, leL_length]
theorem encL_size (xs ms : List Int) : ∀ k, (encL xs ms k).size = 1 + 2 * k
  | 0 => by rw [encL, leS_size]
  | k + 1 => by rw [encL, ByteArray.size_append, ByteArray.size_append, leS_size, leS_size, encL_size xs ms k]; omega
theorem leS_neg : leS (-1) 1 = leS 255 1 := by decide
theorem putU1 {n : Int} (h0 : 0 ≤ n) (h1 : n ≤ 255) : putU n 1 = leS n 1 := putU_yes ⟨by decide, by decide, h0, Int.ediv_eq_zero_of_lt h0 (by show n < 256; omega)⟩
theorem putI1 {n : Int} (h : n = -1 ∨ (0 ≤ n ∧ n ≤ 127)) : putI n 1 = leS n 1 := by
  refine putI_yes ⟨by decide, by decide, ?_⟩
  rcases h with rfl | ⟨h0, h1⟩
  · exact .inr (by decide)
  · exact .inl (Int.ediv_eq_zero_of_lt h0 (by show n < 128; omega))
theorem spec1 (n : Int) (w : World) (h0 : 0 ≤ n) (h1 : n ≤ 255) : Calls Try.prog 107 #[.int .i64 n, .int .i64 1] w (GivesB (.string (leS n 1)) w) := by
  have := l01PutUint_any n 1 (by omega) w
  rw [putU1 h0 h1] at this
  exact this
theorem implU1 (n : Int) (w : World) (h0 : 0 ≤ n) (h1 : n ≤ 255) : Calls Try.prog 111 #[.int .i64 n, .int .i64 1] w (GivesB (.string (leS n 1)) w) := by
  have := implPutUint_any n 1 (by omega) w
  rw [putU1 h0 h1] at this
  exact this
theorem implI1 (n : Int) (w : World) (h : n = -1 ∨ (0 ≤ n ∧ n ≤ 127)) : Calls Try.prog 112 #[.int .i64 n, .int .i64 1] w (GivesB (.string (leS n 1)) w) := by
  have := implPutInt_any n 1 (by omega) (by omega) w
  rw [putI1 h] at this
  exact this
theorem space_at {xs ms : List Int} (h : spaceOk xs ms = true) (k : Nat) (hk : k < xs.length) (hk2 : k < ms.length) : 0 ≤ xs[k] ∧ xs[k] ≤ 40 ∧ (ms[k] = -1 ∨ (0 ≤ ms[k] ∧ ms[k] ≤ 40)) := by
  obtain ⟨h1, h2, h3⟩ := spaceOk_iff h
  have a1 := allTo_at (dimsOk_iff h1).2.1 hk
  rw [inD_at _ _ hk, inB_iff] at a1
  have a2 := allTo_at h3 hk
  rw [maxP_at _ _ _ hk hk2] at a2
  simp [inB] at a2
  omega
set_option maxHeartbeats 1000000 in
set_option maxRecDepth 100000 in
theorem specEncodeSpace_any {B : Nat} {w : World} {v1 v2 : Value} {xs ms : List Int} (h1 : Ri B w v1 xs) (h2 : Ri B w v2 ms) (hB : B ≤ w.heap.size) :
    Calls Try.prog 61 #[.agg #[v1, v2]] w (GivesB (.string (encS xs ms)) w) := by
  have H1 := Lib.hid h1; have H2 := Lib.hid h2
  obtain ⟨A1, c1, rfl, hl1, hm1, hx1⟩ := h1
  obtain ⟨A2, c2, rfl, hl2, hm2, hx2⟩ := h2
  have Hx1 := Lib.hid hx1; have Hx2 := Lib.hid hx2; clear hx1 hx2
  unfold maxLen at hm1 hm2
  have Hb0 : Hid (Below w.heap.size w (w.alloc (.cells #[.slice A1 xs.length c1, .slice A2 ms.length c2] 24))) := Lib.hid ((Below.refl _ w).alloc (Nat.le_refl _) _)
  have Hc0 : Hid ((w.alloc (.cells #[.slice A1 xs.length c1, .slice A2 ms.length c2] 24)).cell? ⟨w.heap.size, 0, none⟩ = some (.slice A1 xs.length c1)) := Lib.hid (by rw [cell_of_row _ _ _ _ _ _ (heap_alloc_new w _)]; rfl)
  have Hc1 : Hid ((w.alloc (.cells #[.slice A1 xs.length c1, .slice A2 ms.length c2] 24)).cell? ⟨w.heap.size, 1, none⟩ = some (.slice A2 ms.length c2)) := Lib.hid (by rw [cell_of_row _ _ _ _ _ _ (heap_alloc_new w _)]; rfl)
  have Hz0 : Hid (w.heap.size < (w.alloc (.cells #[.slice A1 xs.length c1, .slice A2 ms.length c2] 24)).heap.size) := Lib.hid (by simp)
  generalize hr : encS xs ms = r
  unfold encS at hr
  generalize ho : spaceOk xs ms = ok at hr
  have Hr := Lib.hid hr; have Ho := Lib.hid ho; clear hr ho
  go_enter Try.func61, Try.ntmps61
  go_wp2_with fail
  generalize (w.alloc (.cells #[.slice A1 xs.length c1, .slice A2 ms.length c2] 24)) = w0 at *
  refine (Ho.out ▸ l05Space_any (H1.out.at hB Hb0.out) (H2.out.at hB Hb0.out) (Nat.le_refl _)).mono ?_
  rintro e w1 ⟨rfl, g⟩
  have Hb1 : Hid (Below w.heap.size w w1) := Lib.hid (Hb0.out.trans (g.mono Hb0.out.size))
  have k0 := (g.cell (p := ⟨w.heap.size, 0, none⟩) Hz0.out).trans Hc0.out
  have k1 := (g.cell (p := ⟨w.heap.size, 1, none⟩) Hz0.out).trans Hc1.out
  have hz1 : w.heap.size < w1.heap.size := by have := Hz0.out; have := g.size; omega
  clear g
  cases ok
  · have Hf : Hid (r = ⟨#[]⟩) := Lib.hid (by rw [← Hr.out]; rfl)
    clear k0 k1
    go_wp2_with fail
    go_ret
    exact ⟨by rw [Hf.out]; rfl, Hb1.out⟩
  have Hf : Hid (r = encL xs ms xs.length) := Lib.hid (by rw [← Hr.out]; rfl)
  have Hn := Lib.hid (spaceOk_iff Ho.out).2.1
  have h3 : xs.length ≤ 3 := (dimsOk_iff (spaceOk_iff Ho.out).1).1
  have K0 := Lib.hid k0; have K1 := Lib.hid k1
  go_wp2_with fail
  clear k0 k1
  refine (spec1 (xs.length : Int) _ (by omega) (by omega)).mono ?_
  rintro e w2 ⟨rfl, g⟩
  have hz2 : w.heap.size < w2.heap.size := by have := g.size; omega
  have Hb2 : Hid (Below w.heap.size w w2) := Lib.hid (Hb1.out.trans (g.mono (by omega)))
  have K02 : Hid (w2.cell? ⟨w.heap.size, 0, none⟩ = some (.slice A1 xs.length c1)) := Lib.hid ((g.cell (p := ⟨w.heap.size, 0, none⟩) hz1).trans K0.out)
  have K12 : Hid (w2.cell? ⟨w.heap.size, 1, none⟩ = some (.slice A2 ms.length c2)) := Lib.hid ((g.cell (p := ⟨w.heap.size, 1, none⟩) hz1).trans K1.out)
  clear g
  go_wp2
  go_loopw [3, 4] (fun s i wr => ∃ k : Nat, k ≤ xs.length ∧ i = .int .i64 k ∧ s = .string (encL xs ms k) ∧ Below w.heap.size w wr ∧ wr.cell? ⟨w.heap.size, 0, none⟩ = some (.slice A1 xs.length c1) ∧ wr.cell? ⟨w.heap.size, 1, none⟩ = some (.slice A2 ms.length c2) ∧ w.heap.size < wr.heap.size) (fun _ i _ => xs.length - (intOf i).toNat)
  case atStart => exact ⟨0, Nat.zero_le _, rfl, rfl, Hb2.out, K02.out, K12.out, hz2⟩
  case round =>
    obtain ⟨k, hk, rfl, rfl, hbel, hc0, hc1, hlt0⟩ := hrel
    have Hbel := Lib.hid hbel
    have Hk0 := Lib.hid hc0; have Hk1 := Lib.hid hc1
    by_cases hlt : k < xs.length
    · have hlt2 : k < ms.length := by have := Hn.out; omega
      obtain ⟨b1, o1, rfl, hb1, hq1, hI1⟩ := Hx1.out k hlt
      obtain ⟨b2, o2, rfl, hb2, hq2, hI2⟩ := Hx2.out k hlt2
      have g1 : wr.cell? ⟨b1, o1 + k, none⟩ = some (.int .i64 xs[k]) := by rw [hbel.cell (p := ⟨b1, o1 + k, none⟩) (show b1 < _ from by omega)]; exact hq1
      have g2 : wr.cell? ⟨b2, o2 + k, none⟩ = some (.int .i64 ms[k]) := by rw [hbel.cell (p := ⟨b2, o2 + k, none⟩) (show b2 < _ from by omega)]; exact hq2
      obtain ⟨hd0, hd1, hm⟩ := space_at Ho.out k hlt hlt2
      have He : Hid (encL xs ms (k + 1) = encL xs ms k ++ (leS xs[k] 1 ++ leS ms[k] 1)) := Lib.hid (by rw [encL, getD_at _ _ hlt, getD_at _ _ hlt2])
      have hsz := encL_size xs ms k
      have hsz2 : (encL xs ms k).size ≤ 7 := by omega
      have hs1 : (leS xs[k] 1).size ≤ 1 := by rw [leS_size]; omega
      have hs2 : (leS ms[k] 1).size ≤ 1 := by rw [leS_size]; omega
      clear hq1 hq2 hbel hI1 hI2 hsz
      generalize hxk : xs[k] = x at *
      generalize hyk : ms[k] = m at *
      have Hxk := Lib.hid hxk; have Hyk := Lib.hid hyk; have Hm := Lib.hid hm
      clear hxk hyk hm
      have fin : ∀ (m' : Int), 0 ≤ m' → m' ≤ 255 → leS m' 1 = leS m 1 → (leS m' 1).size ≤ 1 := fun m' _ _ _ => by rw [leS_size]; omega
      clear fin
      by_cases hm1' : m = -1
      · have e1 : (m == -1) = true := by simpa using hm1'
        have e3 := Lib.hid hm1'
        clear hm1'
        go_wp2_with fail
        clear e1 hc0 hc1 g1 g2
        refine (spec1 x _ hd0 (by omega)).mono ?_
        rintro e w3 ⟨rfl, g3⟩
        have G3 := Lib.hid g3; clear g3
        go_wp2_with fail
        refine (spec1 255 _ (by omega) (by omega)).mono ?_
        rintro e w4 ⟨rfl, g4⟩
        have G4 : Hid (Below wr.heap.size wr w4) := Lib.hid (G3.out.trans (g4.mono G3.out.size))
        have Hs255 : Hid (leS 255 1 = leS m 1) := Lib.hid (by rw [e3.out, leS_neg])
        have hs3 : (leS 255 1).size ≤ 1 := by rw [leS_size]; omega
        clear g4
        go_wp2
        go_roundw
        case rel => exact ⟨k + 1, by omega, by go_num, by rw [He.out, ← Hs255.out], Hbel.out.trans (G4.out.mono Hbel.out.size), (G4.out.cell (p := ⟨w.heap.size, 0, none⟩) hlt0).trans Hk0.out, (G4.out.cell (p := ⟨w.heap.size, 1, none⟩) hlt0).trans Hk1.out, by have := G4.out.size; omega⟩
        case measure => simp [intOf]; omega
      · have e1 : (m == -1) = false := by simpa using hm1'
        have hm0 : 0 ≤ m ∧ m ≤ 40 := by have := Hm.out; omega
        obtain ⟨hm0, hm2⟩ := hm0
        clear hm1'
        go_wp2_with fail
        clear e1 hc0 hc1 g1 g2
        refine (spec1 x _ hd0 (by omega)).mono ?_
        rintro e w3 ⟨rfl, g3⟩
        have G3 := Lib.hid g3; clear g3
        go_wp2_with fail
        refine (spec1 m _ hm0 (by omega)).mono ?_
        rintro e w4 ⟨rfl, g4⟩
        have G4 : Hid (Below wr.heap.size wr w4) := Lib.hid (G3.out.trans (g4.mono G3.out.size))
        clear g4
        go_wp2
        go_roundw
        case rel => exact ⟨k + 1, by omega, by go_num, by rw [He.out], Hbel.out.trans (G4.out.mono Hbel.out.size), (G4.out.cell (p := ⟨w.heap.size, 0, none⟩) hlt0).trans Hk0.out, (G4.out.cell (p := ⟨w.heap.size, 1, none⟩) hlt0).trans Hk1.out, by have := G4.out.size; omega⟩
        case measure => simp [intOf]; omega
    · obtain rfl : k = xs.length := by omega
      clear hbel
      go_wp2
      go_ret
      exact ⟨by rw [Hf.out]; rfl, Hbel.out⟩
end Go.Proofs.Ytaokifppaagalaa
