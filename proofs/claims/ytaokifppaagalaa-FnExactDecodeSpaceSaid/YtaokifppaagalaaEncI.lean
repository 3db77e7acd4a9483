/- Contracts of the program's functions that write a dataspace as bytes. No statement is proved here. -/
import Derived.Test.YtaokifppaagalaaEnc
import Derived.Deep.RegionHeld3
namespace Go.Proofs.Ytaokifppaagalaa
open Go.RowKit
set_option linter.unusedVariables false
/-- Bytes of numbers. -/
def octL (xs : List Int) : List UInt8 := xs.map fun n => byteOf n 0
theorem byteOf0 (n : Int) (h0 : 0 ≤ n) (h1 : n ≤ 255) : ((byteOf n 0).toNat : Int) = n := by
  rw [byteOf_toNat]
  simp
  omega
theorem oct_one (n : Int) : (⟨(octL [n]).toArray⟩ : ByteArray) = leS n 1 := rfl
set_option maxHeartbeats 400000 in
theorem octets_one (n : Int) (w : World) (b : Nat) (h0 : 0 ≤ n) (h1 : n ≤ 255) (hcell : w.cell? ⟨b, 0, none⟩ = some (.int .i64 n)) :
    Calls Try.prog 110 #[.slice (some ⟨b, 0, none⟩) 1 1] w (GivesB (.string (leS n 1)) w) := by
  have hb : b < w.heap.size := (spot_none hcell).2
  have Hc := Lib.hid hcell
  clear hcell
  go_enter Try.func110, Try.ntmps110
  go_wp2
  go_loopw [3, 8] (fun v i wr => ∃ k : Nat, k ≤ 1 ∧ i = .int .i64 k ∧ OwnB wr w.heap.size v (octL ([n].take k)) ∧ Below w.heap.size w wr) (fun _ i _ => 1 - (intOf i).toNat)
  case atStart => exact ⟨0, Nat.zero_le _, rfl, World.ownsRow_nil w _ _ _, Below.refl _ _⟩
  case round =>
    obtain ⟨k, hk, rfl, hown, hbel⟩ := hrel
    have hsz := hbel.size
    have hk2 : k = 0 ∨ k = 1 := by omega
    rcases hk2 with rfl | rfl
    · have g1 : wr.cell? ⟨b, 0, none⟩ = some (.int .i64 n) := by rw [hbel.cell (p := ⟨b, 0, none⟩) hb]; exact Hc.out
      have Hbel := Lib.hid hbel; clear hbel
      go_wp2_with (at_builtin; refine wpList_app wr _ 1 rfl (.tmp 12) (.tmp 15) rfl w.heap.size _ _ hown rfl [byteOf n 0] ?c1 rfl rfl ?c2 hsz ?_)
      case c1 => simp [bv, byteOf0 n h0 h1]
      case c2 => simp [octL]
      intro v' w1 hown' hbel'
      have Hown : Hid (OwnB w1 w.heap.size v' (octL ([n].take (0 + 1)))) := Lib.hid hown'
      have Hb2 := Lib.hid (Hbel.out.trans hbel')
      clear hown hown' hbel' g1
      go_wp2
      go_roundw
      case rel => exact ⟨1, by omega, by go_num, Hown.out, Hb2.out⟩
      case measure => simp [intOf]
    · have hc := conv_own hown
      have Hown := Lib.hid hown; clear hown
      have Hbel := Lib.hid hbel; clear hbel
      go_wp2
      go_ret
      exact ⟨rfl, Hbel.out⟩
set_option maxHeartbeats 2000000 in
set_option maxRecDepth 100000 in
theorem implEncodeSpace_any {B : Nat} {w : World} {v1 v2 : Value} {xs ms : List Int} (h1 : Ri B w v1 xs) (h2 : Ri B w v2 ms) (hB : B ≤ w.heap.size) :
    Calls Try.prog 64 #[.agg #[v1, v2]] w (GivesB (.string (encS xs ms)) w) := by
  have H1 := Lib.hid h1; have H2 := Lib.hid h2
  obtain ⟨A1, c1, rfl, hl1, hm1, hx1⟩ := h1
  obtain ⟨A2, c2, rfl, hl2, hm2, hx2⟩ := h2
  have Hx1 := Lib.hid hx1; have Hx2 := Lib.hid hx2; clear hx1 hx2
  unfold maxLen at hm1 hm2
  have Hb0 : Hid (Below w.heap.size w (w.alloc (.cells #[.slice A1 xs.length c1, .slice A2 ms.length c2] 24))) := Lib.hid ((Below.refl _ w).alloc (Nat.le_refl _) _)
  have Hc0 : Hid ((w.alloc (.cells #[.slice A1 xs.length c1, .slice A2 ms.length c2] 24)).cell? ⟨w.heap.size, 0, none⟩ = some (.slice A1 xs.length c1)) := Lib.hid (by rw [cell_of_row _ _ _ _ _ _ (heap_alloc_new w _)]; rfl)
  have Hc1 : Hid ((w.alloc (.cells #[.slice A1 xs.length c1, .slice A2 ms.length c2] 24)).cell? ⟨w.heap.size, 1, none⟩ = some (.slice A2 ms.length c2)) := Lib.hid (by rw [cell_of_row _ _ _ _ _ _ (heap_alloc_new w _)]; rfl)
  have Hz0 : Hid (w.heap.size < (w.alloc (.cells #[.slice A1 xs.length c1, .slice A2 ms.length c2] 24)).heap.size) := Lib.hid (by simp)
  generalize hr : encS xs ms = r
  unfold encS at hr
  generalize ho : spaceOk xs ms = ok at hr
  have Hr := Lib.hid hr; have Ho := Lib.hid ho; clear hr ho
  go_enter Try.func64, Try.ntmps64
  go_wp2_with fail
  generalize (w.alloc (.cells #[.slice A1 xs.length c1, .slice A2 ms.length c2] 24)) = w0 at *
  refine (Ho.out ▸ implValidSpace_any (H1.out.at hB Hb0.out) (H2.out.at hB Hb0.out) (Nat.le_refl _)).mono ?_
  rintro e w1 ⟨rfl, g⟩
  have Hb1 : Hid (Below w.heap.size w w1) := Lib.hid (Hb0.out.trans (g.mono Hb0.out.size))
  have k0 := (g.cell (p := ⟨w.heap.size, 0, none⟩) Hz0.out).trans Hc0.out
  have k1 := (g.cell (p := ⟨w.heap.size, 1, none⟩) Hz0.out).trans Hc1.out
  have hz1 : w.heap.size < w1.heap.size := by have := Hz0.out; have := g.size; omega
  clear g
  cases ok
  · have Hf : Hid (r = ⟨#[]⟩) := Lib.hid (by rw [← Hr.out]; rfl)
    clear k0 k1
    go_wp2_with fail
    go_ret
    exact ⟨by rw [Hf.out]; rfl, Hb1.out⟩
  have Hf : Hid (r = encL xs ms xs.length) := Lib.hid (by rw [← Hr.out]; rfl)
  have Hn := Lib.hid (spaceOk_iff Ho.out).2.1
  have h3 : xs.length ≤ 3 := (dimsOk_iff (spaceOk_iff Ho.out).1).1
  have K0 := Lib.hid k0; have K1 := Lib.hid k1
  have Hbx : Hid (Below w1.heap.size w1 (w1.alloc (.cells #[.int .i64 (xs.length : Int)] 2))) := Lib.hid ((Below.refl _ _).alloc (Nat.le_refl _) _)
  have Hcx : Hid ((w1.alloc (.cells #[.int .i64 (xs.length : Int)] 2)).cell? ⟨w1.heap.size, 0, none⟩ = some (.int .i64 (xs.length : Int))) := Lib.hid (by rw [cell_of_row _ _ _ _ _ _ (heap_alloc_new w1 _)]; rfl)
  go_wp2_with fail
  clear k0 k1
  refine (octets_one (xs.length : Int) _ _ (by omega) (by omega) Hcx.out).mono ?_
  rintro e w2 ⟨rfl, g0⟩
  have g : Below w1.heap.size w1 w2 := Hbx.out.trans (g0.mono Hbx.out.size)
  have hz2 : w.heap.size < w2.heap.size := by have := g.size; omega
  have Hb2 : Hid (Below w.heap.size w w2) := Lib.hid (Hb1.out.trans (g.mono (by omega)))
  have k02 : w2.cell? ⟨w.heap.size, 0, none⟩ = some (.slice A1 xs.length c1) := (g.cell (p := ⟨w.heap.size, 0, none⟩) hz1).trans K0.out
  have k12 : w2.cell? ⟨w.heap.size, 1, none⟩ = some (.slice A2 ms.length c2) := (g.cell (p := ⟨w.heap.size, 1, none⟩) hz1).trans K1.out
  have K02 := Lib.hid k02; have K12 := Lib.hid k12
  clear g g0 k12
  go_wp2
  clear k02
  go_loopw [3, 17] (fun s i wr => ∃ k : Nat, k ≤ xs.length ∧ i = .int .i64 k ∧ s = .string (encL xs ms k) ∧ Below w.heap.size w wr ∧ wr.cell? ⟨w.heap.size, 0, none⟩ = some (.slice A1 xs.length c1) ∧ wr.cell? ⟨w.heap.size, 1, none⟩ = some (.slice A2 ms.length c2) ∧ w.heap.size < wr.heap.size) (fun _ i _ => xs.length - (intOf i).toNat)
  case atStart => exact ⟨0, Nat.zero_le _, rfl, rfl, Hb2.out, K02.out, K12.out, hz2⟩
  case round =>
    obtain ⟨k, hk, rfl, rfl, hbel, hc0, hc1, hlt0⟩ := hrel
    have Hbel := Lib.hid hbel
    have Hk0 := Lib.hid hc0; have Hk1 := Lib.hid hc1
    by_cases hlt : k < xs.length
    · have hlt2 : k < ms.length := by have := Hn.out; omega
      obtain ⟨b1, o1, rfl, hb1, hq1, hI1⟩ := Hx1.out k hlt
      obtain ⟨b2, o2, rfl, hb2, hq2, hI2⟩ := Hx2.out k hlt2
      have g1 : wr.cell? ⟨b1, o1 + k, none⟩ = some (.int .i64 xs[k]) := by rw [hbel.cell (p := ⟨b1, o1 + k, none⟩) (show b1 < _ from by omega)]; exact hq1
      have g2 : wr.cell? ⟨b2, o2 + k, none⟩ = some (.int .i64 ms[k]) := by rw [hbel.cell (p := ⟨b2, o2 + k, none⟩) (show b2 < _ from by omega)]; exact hq2
      have hbs := hbel.size
      have hlb2 : b2 < wr.heap.size := by omega
      obtain ⟨hd0, hd1, hm⟩ := space_at Ho.out k hlt hlt2
      have He : Hid (encL xs ms (k + 1) = encL xs ms k ++ (leS xs[k] 1 ++ leS ms[k] 1)) := Lib.hid (by rw [encL, getD_at _ _ hlt, getD_at _ _ hlt2])
      have hsz := encL_size xs ms k
      have hsz2 : (encL xs ms k).size ≤ 7 := by omega
      have hs1 : (leS xs[k] 1).size ≤ 1 := by rw [leS_size]; omega
      have hs2 : (leS ms[k] 1).size ≤ 1 := by rw [leS_size]; omega
      clear hq1 hq2 hbel hI1 hI2 hsz
      generalize hxk : xs[k] = x at *
      generalize hyk : ms[k] = m at *
      have Hxk := Lib.hid hxk; have Hyk := Lib.hid hyk; have Hm : Hid (m = -1 ∨ (0 ≤ m ∧ m ≤ 127)) := Lib.hid (by omega)
      have HS : Hid (∀ W, Below wr.heap.size wr W → W.cell? ⟨w.heap.size, 1, none⟩ = some (.slice (some ⟨b2, o2, none⟩) ms.length c2) ∧ W.cell? ⟨b2, o2 + k, none⟩ = some (.int .i64 m)) := Lib.hid (fun W hW => ⟨(hW.cell (p := ⟨w.heap.size, 1, none⟩) hlt0).trans hc1, (hW.cell (p := ⟨b2, o2 + k, none⟩) hlb2).trans g2⟩)
      clear hxk hyk hm hc0 hc1
      go_wp2
      clear g1 g2
      have hn1 : ¬ 9223372036854775807 < (leS x 1).size + (leS m 1).size := by omega
      have hn2 : ¬ 9223372036854775807 < (encL xs ms k).size + ((leS x 1).size + (leS m 1).size) := by omega
      have hn3 : ¬ 9223372036854775807 < (encL xs ms k).size + (leS x 1 ++ leS m 1).size := by rw [ByteArray.size_append]; omega
      go_region_held3 (fun W => W.cell? ⟨w.heap.size, 1, none⟩ = some (.slice (some ⟨b2, o2, none⟩) ms.length c2) ∧ W.cell? ⟨b2, o2 + k, none⟩ = some (.int .i64 m)) (exact HS.out _ (by first | exact kb2 | exact kb1 | exact (Below.refl _ _).drew))
        ((first | (go_at_call 111; go_fit (implU1 x _ hd0 (by omega)); rintro e u1 ⟨rfl, g1⟩; have kb1 : Below wr.heap.size wr u1 := (Below.refl _ _).drew.trans g1) | (go_at_call 112; go_fit (implI1 m _ Hm.out); rintro e u2 ⟨rfl, g2⟩; have kb2 : Below wr.heap.size wr u2 := kb1.trans (g2.mono kb1.size))))
      have G4 := Lib.hid kb2
      clear kb2 kb1 g1 g2
      try simp only [Exit.then]
      go_wp2
      go_roundw
      case rel => exact ⟨k + 1, by omega, by go_num, by rw [He.out], Hbel.out.trans (G4.out.mono Hbel.out.size), (G4.out.cell (p := ⟨w.heap.size, 0, none⟩) hlt0).trans Hk0.out, (G4.out.cell (p := ⟨w.heap.size, 1, none⟩) hlt0).trans Hk1.out, by have := G4.out.size; omega⟩
      case measure => simp [intOf]; omega
    · obtain rfl : k = xs.length := by omega
      clear hbel
      go_wp2
      go_ret
      exact ⟨by rw [Hf.out]; rfl, Hbel.out⟩
end Go.Proofs.Ytaokifppaagalaa
