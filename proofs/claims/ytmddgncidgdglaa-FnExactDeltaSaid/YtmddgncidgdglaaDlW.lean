/- The program's withNumbers, for each width and closure. No statement is proved here. -/
import Derived.Test.YtmddgncidgdglaaDlI
import Derived.Lib.LazyBuf
import Derived.Deep.RegionHeld3
namespace Go.Proofs.Ytmddgncidgdglaa
open Go.RowKit
set_option linter.unusedVariables false
theorem sumTo_bd (s : ByteArray) {W : Nat} (hW : W = 1 ∨ W = 2 ∨ W = 4) : ∀ t, t * W ≤ s.size → 0 ≤ sumTo s W t ∧ sumTo s W t ≤ (t : Int) * 2 ^ (8 * W)
  | 0, _ => by simp [sumTo]
  | t + 1, h => by
    have h1 : (t + 1) * W = t * W + W := Nat.succ_mul t W
    have ih := sumTo_bd s hW t (by omega)
    have hn := numAt_bd s hW t (by omega)
    rw [sumTo, show ((t + 1 : Nat) : Int) = (t : Int) + 1 by omega, Int.add_mul, Int.one_mul]
    generalize (t : Int) * 2 ^ (8 * W) = a at *
    generalize (2 : Int) ^ (8 * W) = b at *
    omega
theorem setCells_other {b k : Nat} (h : k ≠ b) : ∀ {vs : List Value} {o : Nat} {w : World}, (w.setCells b o vs).heap[k]? = w.heap[k]?
  | [], _, _ => rfl
  | v :: vs, o, w => (setCells_other h (vs := vs) (o := o + 1)).trans (heap_setCell_other _ ⟨b, o, none⟩ k _ h)
set_option maxHeartbeats 2000000 in
set_option maxRecDepth 100000 in
theorem withN1F (s : ByteArray) (hs : s.size ≤ 1100) (c : Nat) (w : World) (hcw : c < w.heap.size) (hc : NbA w c 0) :
    Calls Try.prog 63 #[.string s, .int .i64 1, .func (.func 64) #[] #[.pointer (some ⟨c, 0, none⟩)]] w fun e w' => e = .returned (.string (dlS s 1 (dlF s 1))) ∧ Below c w w' := by
  have hR : s.size / 1 * 1 ≤ s.size := Nat.div_mul_le_self _ _
  have hRs : s.size < s.size / 1 * 1 + 1 := by omega
  have hend := cAt_end s (dlF s 1) 1 hR
  have Hend := Lib.hid hend; clear hend
  have hcv := run_bytes_of_string (P := Try.prog) w 9 62 5 s Try.underlying9 Try.underlying62 Try.underlying5
  have hge := grownCap_ge w s.size 0 5
  generalize grownCap w s.size 0 5 = cap at *
  have hrow : RowB (w.drew.alloc (.cells (bytesRow s cap) 5 ((bytesRow s cap).size, (bytesRow s cap).size + 1))) w.heap.size s.size (cAt s (dlF s 1) 1 0) := by
    intro j hj
    have hj' : j < s.data.size := hj
    rw [cAt_zero]
    refine ⟨?_, ?_⟩
    · have h1 := World.cell?_alloc_mark w.drew (bytesRow s cap) 5 ((bytesRow s cap).size, (bytesRow s cap).size + 1) j
      have h2 : w.drew.heap.size = w.heap.size := rfl
      rw [h2] at h1
      rw [h1, bytesRow_at s cap j hj']
      simp [bv, List.getD, Array.getElem?_eq_getElem hj']
    · have h1 := World.frozen?_alloc_mark w.drew (bytesRow s cap) 5 (bytesRow s cap).size ((bytesRow s cap).size + 1) j
      have h2 : w.drew.heap.size = w.heap.size := rfl
      rw [h2] at h1
      rw [h1]
      have : s.data.size ≤ (bytesRow s cap).size := by unfold bytesRow; simp
      simp
      omega
  generalize bytesRow s cap = D at *
  have hbel : Below w.heap.size w (w.drew.alloc (.cells D 5 (D.size, D.size + 1))) := (Below.drew (Below.refl _ w)).alloc (Nat.le_refl _) _
  have HW : Hid (∀ W', Calls Try.prog 56 #[.int .i64 1] W' (Quiet (.bool true) W')) := Lib.hid (fun W' => isDeltaWidth_any 1 W')
  have Hrow : Hid (RowB (w.alloc (.cells D 5 (D.size, D.size + 1))).drew w.heap.size s.size (cAt s (dlF s 1) 1 0)) := Lib.hid hrow
  have Hnb : Hid (NbA (w.alloc (.cells D 5 (D.size, D.size + 1))).drew c 0) := Lib.hid ((hbel.block c hcw).trans hc)
  have Hbel0 : Hid (Below c w (w.alloc (.cells D 5 (D.size, D.size + 1))).drew) := Lib.hid (hbel.mono (by omega))
  have Hz0 : Hid (w.heap.size < (w.alloc (.cells D 5 (D.size, D.size + 1))).drew.heap.size) := Lib.hid (by show w.heap.size < (w.alloc _).heap.size; simp)
  clear hrow hbel hc
  generalize s.size / 1 = R at *
  have Hge := Lib.hid hge
  go_enter Try.func63, Try.ntmps63
  go_wp2_with ((go_at_call 56; refine (HW.out _).mono ?_; rintro e w' ⟨rfl, rfl⟩))
  clear hcv
  generalize (w.alloc (.cells D 5 (D.size, D.size + 1))).drew = w0 at *
  go_loopw [8, 9, 10] (fun i _ _ wr => ∃ j p : Nat, j ≤ R ∧ i = .int .i64 (p : Int) ∧ p = j * 1 ∧ RowB wr w.heap.size s.size (cAt s (dlF s 1) 1 j) ∧ NbA wr c (prevAt s 1 j) ∧ Below c w wr ∧ w.heap.size < wr.heap.size) (fun i _ _ _ => R * 1 - (intOf i).toNat)
  case atStart => exact ⟨0, 0, Nat.zero_le _, rfl, by omega, Hrow.out, Hnb.out, Hbel0.out, Hz0.out⟩
  case round =>
    obtain ⟨j, p, hj, rfl, hpp, hrow, hnb, hbel, hz⟩ := hrel
    have Hrw := Lib.hid hrow; have Hnbr := Lib.hid hnb; have Hbel := Lib.hid hbel; have Hz := Lib.hid hz
    clear hrow hnb hbel hz
    by_cases hlt : j < R
    · have hp : j * 1 + 1 ≤ s.size := by omega
      have hpb : p + 1 ≤ s.size := by omega
      have hI1 : (p : Int) ≤ (s.size : Int) := by omega
      have hI2 : p ≤ s.size := by omega
      have hne0 : ¬ cap = p := by omega
      have hle : (p : Int) ≤ (s.size : Int) - 1 := by omega
      have hn : 0 ≤ numAt s 1 j ∧ numAt s 1 j < 256 := by simpa using numAt_bd s (show 1 = 1 ∨ 1 = 2 ∨ 1 = 4 by omega) j hp
      have hgv : gV s (j * 1) 1 = numAt s 1 j := by unfold gV; rw [show leVal (cutL s (j * 1) 1) = numAt s 1 j from rfl, if_pos (by omega)]
      have hgu := getU_gV s (j * 1) 1 (by omega) (by omega) hp
      rw [hgv] at hgu
      have C1 : Hid (∀ W', Calls Try.prog 94 #[.string s, .int .i64 (p : Int), .int .i64 1] W' fun e w' => e = .returned (.tuple #[.int .i64 (numAt s 1 j), .bool (gB s (j * 1) 1)]) ∧ W' = w') := Lib.hid (fun W' => by
        have := implGetUint_any s (p : Int) 1 (by omega) (by omega) W'
        have hgu2 : getU s (p : Int) 1 = .tuple #[.int .i64 (numAt s 1 j), .bool (gB s (j * 1) 1)] := by rw [hpp]; exact hgu
        rw [hgu2] at this
        exact this)
      clear hgu hgv
      have hz0 : 0 ≤ prevAt s 1 j ∧ prevAt s 1 j < 256 := by
        rcases j with _ | j
        · exact ⟨Int.le_refl 0, by show (0 : Int) < 256; omega⟩
        · have := numAt_bd s (show 1 = 1 ∨ 1 = 2 ∨ 1 = 4 by omega) j (by omega)
          simpa [prevAt] using this
      have He : Hid (dlF s 1 j = numAt s 1 j - prevAt s 1 j) := Lib.hid rfl
      have Hne : Hid (numAt s 1 j = prevAt s 1 (j + 1)) := Lib.hid rfl
      have C3 : Hid (∀ W', Calls Try.prog 95 #[.int .u64 (IntKind.u64.wrap (numAt s 1 j - prevAt s 1 j)), .int .i64 1] W' fun e w' => e = .returned (.string (leS (dlF s 1 j) 1)) ∧ Below W'.heap.size W' w') := Lib.hid (fun W' => by
        have h1 := le_any ((numAt s 1 j - prevAt s 1 j) % 18446744073709551616) 1 (by omega) (by omega) (by omega) (by omega) W'
        have h2 : leS ((numAt s 1 j - prevAt s 1 j) % 18446744073709551616) (1 : Int).toNat = leS (dlF s 1 j) 1 := by unfold leS; rw [He.out]; exact congrArg (fun l => (⟨l.toArray⟩ : ByteArray)) (leL_m1 _ _ (Int.emod_emod_of_dvd _ (by decide : (256 : Int) ∣ 18446744073709551616)))
        rw [h2] at h1
        rw [IntKind.wrap_u64]
        exact h1)
      have C2 : Hid (∀ W', NbA W' c (prevAt s 1 j) → Calls Try.prog 64 #[.int .i64 (numAt s 1 j), .pointer (some ⟨c, 0, none⟩)] W' (NbP c (numAt s 1 j - prevAt s 1 j) (numAt s 1 j) W')) := Lib.hid (fun W' hW => delta_any (by omega) hW)
      have Hst := Lib.hid (cAt_succ s (dlF s 1) 1 j)
      rw [← hpp] at Hst
      have Hpp := Lib.hid hpp; clear hpp
      have Hset : Hid (∀ u, RowB u w.heap.size s.size (cAt s (dlF s 1) 1 j) → RowB (u.setCells w.heap.size p ((leS (dlF s 1 j) 1).data.toList.map bv)) w.heap.size s.size (cAt s (dlF s 1) 1 (j + 1))) := Lib.hid (fun u hu => by
        have hl : (leS (dlF s 1 j) 1).data.toList = leL (dlF s 1 j) 1 := by simp [leS]
        rw [hl]
        exact (RowB.sets (leL (dlF s 1 j) 1) p (by rw [leL_length]; omega) hu).congr (fun q _ => Hst.out q))
      have Hcp : Hid (∀ u, RowB u w.heap.size s.size (cAt s (dlF s 1) 1 j) → (Builtin.copy_ #[62, 9] 3 #[.slice (some ⟨w.heap.size, p, none⟩) (s.size - p) (cap - p), .string (leS (dlF s 1 j) 1)]).run Try.prog u = .ok (goInt (leS (dlF s 1 j) 1).size) (u.setCells w.heap.size p ((leS (dlF s 1 j) 1).data.toList.map bv))) := Lib.hid (fun u hu => by
        have hsz : (leS (dlF s 1 j) 1).size = 1 := by show (leL _ _).toArray.size = _; simp [leL]
        exact run_copy_string (P := Try.prog) u 62 9 3 5 w.heap.size p (s.size - p) (cap - p) (leS (dlF s 1 j) 1) Try.underlying62 Try.sizeOf5 (by omega) (fun q hq => by rw [(hu (p + q) (by omega)).1]; rfl) (fun q hq => (hu (p + q) (by omega)).2))
      go_wp2_with ((go_at_call 94; refine (C1.out _).mono ?_; rintro e w' ⟨rfl, rfl⟩))
      go_region_held3 (fun _ => True) (trivial)
        ((first | (go_at_call 64; go_fit (C2.out _ (by exact Hnbr.out)); rintro e u1 ⟨rfl, hnb1, hk1, hs1, g1⟩; have Hrw1 := Lib.hid (RowB.same (show RowB _ _ _ _ from Hrw.out) (hk1 w.heap.size (Nat.ne_of_gt hcw)))) | (go_at_call 95; go_fit (C3.out _); rintro e u2 ⟨rfl, g2⟩; have Hrw2 := Lib.hid (Hrw1.out.same (g2.block w.heap.size (by have h1 : u1.heap.size = wr.heap.size := hs1; have := Hz.out; omega))); have hcp := Hcp.out u2 Hrw2.out)))
      try simp only [Exit.then]
      have hu1 : u1.heap.size = wr.heap.size := hs1
      have Hr3 := Lib.hid (Hset.out u2 Hrw2.out)
      have Hn3 : Hid (NbA (u2.setCells w.heap.size p ((leS (dlF s 1 j) 1).data.toList.map bv)) c (prevAt s 1 (j + 1))) := Lib.hid (by
        unfold NbA at hnb1 ⊢
        rw [setCells_other (Nat.ne_of_lt hcw), g2.block c (by have := Hz.out; omega), hnb1, ← Hne.out])
      have Hb3 : Hid (Below c w (u2.setCells w.heap.size p ((leS (dlF s 1 j) 1).data.toList.map bv))) := Lib.hid (below_setCells (by omega) _ _ ((Hbel.out.trans ((Below.refl c wr).drew.trans g1)).trans (g2.mono (by have := Hz.out; omega))))
      have Hz3 : Hid (w.heap.size < (u2.setCells w.heap.size p ((leS (dlF s 1 j) 1).data.toList.map bv)).heap.size) := Lib.hid (by rw [size_setCells]; have := Hz.out; have := g2.size; omega)
      have hpn : p + 1 = (j + 1) * 1 := by have := Hpp.out; omega
      have Hpn := Lib.hid hpn
      clear hcp hnb1 hk1 hs1 g1 g2 hu1 hpn
      generalize u2.setCells w.heap.size p ((leS (dlF s 1 j) 1).data.toList.map bv) = u3 at *
      go_wp2_with fail
      go_roundw
      case rel => exact ⟨j + 1, p + 1, by omega, by go_num, Hpn.out, Hr3.out, Hn3.out, Hb3.out, Hz3.out⟩
      case measure => have := Hpp.out; have := hlt; simp [intOf]; omega
    · have hjR : j = R := by omega
      have hgt : decide ((p : Int) ≤ (s.size : Int) - 1) = false := decide_eq_false (by omega)
      have hc2 := row_conv s.size _ wr w.heap.size cap Hrw.out
      rw [hjR, Hend.out] at hc2
      have hpb2 : p ≤ 1100 := by omega
      clear hjR hpp
      go_wp2_with fail
      go_ret
      exact ⟨rfl, Hbel.out⟩
set_option maxHeartbeats 2000000 in
set_option maxRecDepth 100000 in
theorem withN1B (s : ByteArray) (hs : s.size ≤ 1100) (c : Nat) (w : World) (hcw : c < w.heap.size) (hc : NbA w c 0) :
    Calls Try.prog 63 #[.string s, .int .i64 1, .func (.func 65) #[] #[.pointer (some ⟨c, 0, none⟩)]] w fun e w' => e = .returned (.string (dlS s 1 (dlB s 1))) ∧ Below c w w' := by
  have hR : s.size / 1 * 1 ≤ s.size := Nat.div_mul_le_self _ _
  have hRs : s.size < s.size / 1 * 1 + 1 := by omega
  have hend := cAt_end s (dlB s 1) 1 hR
  have Hend := Lib.hid hend; clear hend
  have hcv := run_bytes_of_string (P := Try.prog) w 9 62 5 s Try.underlying9 Try.underlying62 Try.underlying5
  have hge := grownCap_ge w s.size 0 5
  generalize grownCap w s.size 0 5 = cap at *
  have hrow : RowB (w.drew.alloc (.cells (bytesRow s cap) 5 ((bytesRow s cap).size, (bytesRow s cap).size + 1))) w.heap.size s.size (cAt s (dlB s 1) 1 0) := by
    intro j hj
    have hj' : j < s.data.size := hj
    rw [cAt_zero]
    refine ⟨?_, ?_⟩
    · have h1 := World.cell?_alloc_mark w.drew (bytesRow s cap) 5 ((bytesRow s cap).size, (bytesRow s cap).size + 1) j
      have h2 : w.drew.heap.size = w.heap.size := rfl
      rw [h2] at h1
      rw [h1, bytesRow_at s cap j hj']
      simp [bv, List.getD, Array.getElem?_eq_getElem hj']
    · have h1 := World.frozen?_alloc_mark w.drew (bytesRow s cap) 5 (bytesRow s cap).size ((bytesRow s cap).size + 1) j
      have h2 : w.drew.heap.size = w.heap.size := rfl
      rw [h2] at h1
      rw [h1]
      have : s.data.size ≤ (bytesRow s cap).size := by unfold bytesRow; simp
      simp
      omega
  generalize bytesRow s cap = D at *
  have hbel : Below w.heap.size w (w.drew.alloc (.cells D 5 (D.size, D.size + 1))) := (Below.drew (Below.refl _ w)).alloc (Nat.le_refl _) _
  have HW : Hid (∀ W', Calls Try.prog 56 #[.int .i64 1] W' (Quiet (.bool true) W')) := Lib.hid (fun W' => isDeltaWidth_any 1 W')
  have Hrow : Hid (RowB (w.alloc (.cells D 5 (D.size, D.size + 1))).drew w.heap.size s.size (cAt s (dlB s 1) 1 0)) := Lib.hid hrow
  have Hnb : Hid (NbA (w.alloc (.cells D 5 (D.size, D.size + 1))).drew c 0) := Lib.hid ((hbel.block c hcw).trans hc)
  have Hbel0 : Hid (Below c w (w.alloc (.cells D 5 (D.size, D.size + 1))).drew) := Lib.hid (hbel.mono (by omega))
  have Hz0 : Hid (w.heap.size < (w.alloc (.cells D 5 (D.size, D.size + 1))).drew.heap.size) := Lib.hid (by show w.heap.size < (w.alloc _).heap.size; simp)
  clear hrow hbel hc
  generalize s.size / 1 = R at *
  have Hge := Lib.hid hge
  go_enter Try.func63, Try.ntmps63
  go_wp2_with ((go_at_call 56; refine (HW.out _).mono ?_; rintro e w' ⟨rfl, rfl⟩))
  clear hcv
  generalize (w.alloc (.cells D 5 (D.size, D.size + 1))).drew = w0 at *
  go_loopw [8, 9, 10] (fun i _ _ wr => ∃ j p : Nat, j ≤ R ∧ i = .int .i64 (p : Int) ∧ p = j * 1 ∧ RowB wr w.heap.size s.size (cAt s (dlB s 1) 1 j) ∧ NbA wr c (sumTo s 1 j) ∧ Below c w wr ∧ w.heap.size < wr.heap.size) (fun i _ _ _ => R * 1 - (intOf i).toNat)
  case atStart => exact ⟨0, 0, Nat.zero_le _, rfl, by omega, Hrow.out, Hnb.out, Hbel0.out, Hz0.out⟩
  case round =>
    obtain ⟨j, p, hj, rfl, hpp, hrow, hnb, hbel, hz⟩ := hrel
    have Hrw := Lib.hid hrow; have Hnbr := Lib.hid hnb; have Hbel := Lib.hid hbel; have Hz := Lib.hid hz
    clear hrow hnb hbel hz
    by_cases hlt : j < R
    · have hp : j * 1 + 1 ≤ s.size := by omega
      have hpb : p + 1 ≤ s.size := by omega
      have hI1 : (p : Int) ≤ (s.size : Int) := by omega
      have hI2 : p ≤ s.size := by omega
      have hne0 : ¬ cap = p := by omega
      have hle : (p : Int) ≤ (s.size : Int) - 1 := by omega
      have hn : 0 ≤ numAt s 1 j ∧ numAt s 1 j < 256 := by simpa using numAt_bd s (show 1 = 1 ∨ 1 = 2 ∨ 1 = 4 by omega) j hp
      have hgv : gV s (j * 1) 1 = numAt s 1 j := by unfold gV; rw [show leVal (cutL s (j * 1) 1) = numAt s 1 j from rfl, if_pos (by omega)]
      have hgu := getU_gV s (j * 1) 1 (by omega) (by omega) hp
      rw [hgv] at hgu
      have C1 : Hid (∀ W', Calls Try.prog 94 #[.string s, .int .i64 (p : Int), .int .i64 1] W' fun e w' => e = .returned (.tuple #[.int .i64 (numAt s 1 j), .bool (gB s (j * 1) 1)]) ∧ W' = w') := Lib.hid (fun W' => by
        have := implGetUint_any s (p : Int) 1 (by omega) (by omega) W'
        have hgu2 : getU s (p : Int) 1 = .tuple #[.int .i64 (numAt s 1 j), .bool (gB s (j * 1) 1)] := by rw [hpp]; exact hgu
        rw [hgu2] at this
        exact this)
      clear hgu hgv
      have hsb := sumTo_bd s (show 1 = 1 ∨ 1 = 2 ∨ 1 = 4 by omega) j (by omega)
      have hsb2 : 0 ≤ sumTo s 1 j ∧ sumTo s 1 j ≤ (j : Int) * 256 := by simpa using hsb
      have hsn : sumTo s 1 j + numAt s 1 j = sumTo s 1 (j + 1) := rfl
      have He : Hid (dlB s 1 j = sumTo s 1 j + numAt s 1 j) := Lib.hid rfl
      have C3 : Hid (∀ W', Calls Try.prog 95 #[.int .u64 (sumTo s 1 j + numAt s 1 j), .int .i64 1] W' fun e w' => e = .returned (.string (leS (dlB s 1 j) 1)) ∧ Below W'.heap.size W' w') := Lib.hid (fun W' => by
        have h1 := le_any (sumTo s 1 j + numAt s 1 j) 1 (by omega) (by omega) (by omega) (by omega) W'
        rw [He.out]
        exact h1)
      have C2 : Hid (∀ W', NbA W' c (sumTo s 1 j) → Calls Try.prog 65 #[.int .i64 (numAt s 1 j), .pointer (some ⟨c, 0, none⟩)] W' (NbP c (sumTo s 1 j + numAt s 1 j) (sumTo s 1 j + numAt s 1 j) W')) := Lib.hid (fun W' hW => undelta_any (by omega) hW)
      have hsb3 : 0 ≤ sumTo s 1 j + numAt s 1 j ∧ sumTo s 1 j + numAt s 1 j ≤ 18446744073709551615 := by omega
      have hsu : IntKind.u64.wrap (sumTo s 1 j + numAt s 1 j) = sumTo s 1 j + numAt s 1 j := IntWalk.u64_in _ hsb3
      have Hsn := Lib.hid hsn; clear hsn hsb hsb2
      have Hst := Lib.hid (cAt_succ s (dlB s 1) 1 j)
      rw [← hpp] at Hst
      have Hpp := Lib.hid hpp; clear hpp
      have Hset : Hid (∀ u, RowB u w.heap.size s.size (cAt s (dlB s 1) 1 j) → RowB (u.setCells w.heap.size p ((leS (dlB s 1 j) 1).data.toList.map bv)) w.heap.size s.size (cAt s (dlB s 1) 1 (j + 1))) := Lib.hid (fun u hu => by
        have hl : (leS (dlB s 1 j) 1).data.toList = leL (dlB s 1 j) 1 := by simp [leS]
        rw [hl]
        exact (RowB.sets (leL (dlB s 1 j) 1) p (by rw [leL_length]; omega) hu).congr (fun q _ => Hst.out q))
      have Hcp : Hid (∀ u, RowB u w.heap.size s.size (cAt s (dlB s 1) 1 j) → (Builtin.copy_ #[62, 9] 3 #[.slice (some ⟨w.heap.size, p, none⟩) (s.size - p) (cap - p), .string (leS (dlB s 1 j) 1)]).run Try.prog u = .ok (goInt (leS (dlB s 1 j) 1).size) (u.setCells w.heap.size p ((leS (dlB s 1 j) 1).data.toList.map bv))) := Lib.hid (fun u hu => by
        have hsz : (leS (dlB s 1 j) 1).size = 1 := by show (leL _ _).toArray.size = _; simp [leL]
        exact run_copy_string (P := Try.prog) u 62 9 3 5 w.heap.size p (s.size - p) (cap - p) (leS (dlB s 1 j) 1) Try.underlying62 Try.sizeOf5 (by omega) (fun q hq => by rw [(hu (p + q) (by omega)).1]; rfl) (fun q hq => (hu (p + q) (by omega)).2))
      go_wp2_with ((go_at_call 94; refine (C1.out _).mono ?_; rintro e w' ⟨rfl, rfl⟩))
      go_region_held3 (fun _ => True) (trivial)
        ((first | (go_at_call 65; go_fit (C2.out _ (by exact Hnbr.out)); rintro e u1 ⟨rfl, hnb1, hk1, hs1, g1⟩; have Hrw1 := Lib.hid (RowB.same (show RowB _ _ _ _ from Hrw.out) (hk1 w.heap.size (Nat.ne_of_gt hcw)))) | (go_at_call 95; go_fit (C3.out _); rintro e u2 ⟨rfl, g2⟩; have Hrw2 := Lib.hid (Hrw1.out.same (g2.block w.heap.size (by have h1 : u1.heap.size = wr.heap.size := hs1; have := Hz.out; omega))); have hcp := Hcp.out u2 Hrw2.out)))
      try simp only [Exit.then]
      have hu1 : u1.heap.size = wr.heap.size := hs1
      have Hr3 := Lib.hid (Hset.out u2 Hrw2.out)
      have Hn3 : Hid (NbA (u2.setCells w.heap.size p ((leS (dlB s 1 j) 1).data.toList.map bv)) c (sumTo s 1 (j + 1))) := Lib.hid (by
        unfold NbA at hnb1 ⊢
        rw [setCells_other (Nat.ne_of_lt hcw), g2.block c (by have := Hz.out; omega), hnb1, Hsn.out])
      have Hb3 : Hid (Below c w (u2.setCells w.heap.size p ((leS (dlB s 1 j) 1).data.toList.map bv))) := Lib.hid (below_setCells (by omega) _ _ ((Hbel.out.trans ((Below.refl c wr).drew.trans g1)).trans (g2.mono (by have := Hz.out; omega))))
      have Hz3 : Hid (w.heap.size < (u2.setCells w.heap.size p ((leS (dlB s 1 j) 1).data.toList.map bv)).heap.size) := Lib.hid (by rw [size_setCells]; have := Hz.out; have := g2.size; omega)
      have hpn : p + 1 = (j + 1) * 1 := by have := Hpp.out; omega
      have Hpn := Lib.hid hpn
      clear hcp hnb1 hk1 hs1 g1 g2 hu1 hpn
      generalize u2.setCells w.heap.size p ((leS (dlB s 1 j) 1).data.toList.map bv) = u3 at *
      go_wp2_with fail
      go_roundw
      case rel => exact ⟨j + 1, p + 1, by omega, by go_num, Hpn.out, Hr3.out, Hn3.out, Hb3.out, Hz3.out⟩
      case measure => have := Hpp.out; have := hlt; simp [intOf]; omega
    · have hjR : j = R := by omega
      have hgt : decide ((p : Int) ≤ (s.size : Int) - 1) = false := decide_eq_false (by omega)
      have hc2 := row_conv s.size _ wr w.heap.size cap Hrw.out
      rw [hjR, Hend.out] at hc2
      have hpb2 : p ≤ 1100 := by omega
      clear hjR hpp
      go_wp2_with fail
      go_ret
      exact ⟨rfl, Hbel.out⟩
set_option maxHeartbeats 2000000 in
set_option maxRecDepth 100000 in
theorem withN2F (s : ByteArray) (hs : s.size ≤ 1100) (c : Nat) (w : World) (hcw : c < w.heap.size) (hc : NbA w c 0) :
    Calls Try.prog 63 #[.string s, .int .i64 2, .func (.func 64) #[] #[.pointer (some ⟨c, 0, none⟩)]] w fun e w' => e = .returned (.string (dlS s 2 (dlF s 2))) ∧ Below c w w' := by
  have hR : s.size / 2 * 2 ≤ s.size := Nat.div_mul_le_self _ _
  have hRs : s.size < s.size / 2 * 2 + 2 := by omega
  have hend := cAt_end s (dlF s 2) 2 hR
  have Hend := Lib.hid hend; clear hend
  have hcv := run_bytes_of_string (P := Try.prog) w 9 62 5 s Try.underlying9 Try.underlying62 Try.underlying5
  have hge := grownCap_ge w s.size 0 5
  generalize grownCap w s.size 0 5 = cap at *
  have hrow : RowB (w.drew.alloc (.cells (bytesRow s cap) 5 ((bytesRow s cap).size, (bytesRow s cap).size + 1))) w.heap.size s.size (cAt s (dlF s 2) 2 0) := by
    intro j hj
    have hj' : j < s.data.size := hj
    rw [cAt_zero]
    refine ⟨?_, ?_⟩
    · have h1 := World.cell?_alloc_mark w.drew (bytesRow s cap) 5 ((bytesRow s cap).size, (bytesRow s cap).size + 1) j
      have h2 : w.drew.heap.size = w.heap.size := rfl
      rw [h2] at h1
      rw [h1, bytesRow_at s cap j hj']
      simp [bv, List.getD, Array.getElem?_eq_getElem hj']
    · have h1 := World.frozen?_alloc_mark w.drew (bytesRow s cap) 5 (bytesRow s cap).size ((bytesRow s cap).size + 1) j
      have h2 : w.drew.heap.size = w.heap.size := rfl
      rw [h2] at h1
      rw [h1]
      have : s.data.size ≤ (bytesRow s cap).size := by unfold bytesRow; simp
      simp
      omega
  generalize bytesRow s cap = D at *
  have hbel : Below w.heap.size w (w.drew.alloc (.cells D 5 (D.size, D.size + 1))) := (Below.drew (Below.refl _ w)).alloc (Nat.le_refl _) _
  have HW : Hid (∀ W', Calls Try.prog 56 #[.int .i64 2] W' (Quiet (.bool true) W')) := Lib.hid (fun W' => isDeltaWidth_any 2 W')
  have Hrow : Hid (RowB (w.alloc (.cells D 5 (D.size, D.size + 1))).drew w.heap.size s.size (cAt s (dlF s 2) 2 0)) := Lib.hid hrow
  have Hnb : Hid (NbA (w.alloc (.cells D 5 (D.size, D.size + 1))).drew c 0) := Lib.hid ((hbel.block c hcw).trans hc)
  have Hbel0 : Hid (Below c w (w.alloc (.cells D 5 (D.size, D.size + 1))).drew) := Lib.hid (hbel.mono (by omega))
  have Hz0 : Hid (w.heap.size < (w.alloc (.cells D 5 (D.size, D.size + 1))).drew.heap.size) := Lib.hid (by show w.heap.size < (w.alloc _).heap.size; simp)
  clear hrow hbel hc
  generalize s.size / 2 = R at *
  have Hge := Lib.hid hge
  go_enter Try.func63, Try.ntmps63
  go_wp2_with ((go_at_call 56; refine (HW.out _).mono ?_; rintro e w' ⟨rfl, rfl⟩))
  clear hcv
  generalize (w.alloc (.cells D 5 (D.size, D.size + 1))).drew = w0 at *
  go_loopw [8, 9, 10] (fun i _ _ wr => ∃ j p : Nat, j ≤ R ∧ i = .int .i64 (p : Int) ∧ p = j * 2 ∧ RowB wr w.heap.size s.size (cAt s (dlF s 2) 2 j) ∧ NbA wr c (prevAt s 2 j) ∧ Below c w wr ∧ w.heap.size < wr.heap.size) (fun i _ _ _ => R * 2 - (intOf i).toNat)
  case atStart => exact ⟨0, 0, Nat.zero_le _, rfl, by omega, Hrow.out, Hnb.out, Hbel0.out, Hz0.out⟩
  case round =>
    obtain ⟨j, p, hj, rfl, hpp, hrow, hnb, hbel, hz⟩ := hrel
    have Hrw := Lib.hid hrow; have Hnbr := Lib.hid hnb; have Hbel := Lib.hid hbel; have Hz := Lib.hid hz
    clear hrow hnb hbel hz
    by_cases hlt : j < R
    · have hp : j * 2 + 2 ≤ s.size := by omega
      have hpb : p + 2 ≤ s.size := by omega
      have hI1 : (p : Int) ≤ (s.size : Int) := by omega
      have hI2 : p ≤ s.size := by omega
      have hne0 : ¬ cap = p := by omega
      have hle : (p : Int) ≤ (s.size : Int) - 2 := by omega
      have hn : 0 ≤ numAt s 2 j ∧ numAt s 2 j < 65536 := by simpa using numAt_bd s (show 2 = 1 ∨ 2 = 2 ∨ 2 = 4 by omega) j hp
      have hgv : gV s (j * 2) 2 = numAt s 2 j := by unfold gV; rw [show leVal (cutL s (j * 2) 2) = numAt s 2 j from rfl, if_pos (by omega)]
      have hgu := getU_gV s (j * 2) 2 (by omega) (by omega) hp
      rw [hgv] at hgu
      have C1 : Hid (∀ W', Calls Try.prog 94 #[.string s, .int .i64 (p : Int), .int .i64 2] W' fun e w' => e = .returned (.tuple #[.int .i64 (numAt s 2 j), .bool (gB s (j * 2) 2)]) ∧ W' = w') := Lib.hid (fun W' => by
        have := implGetUint_any s (p : Int) 2 (by omega) (by omega) W'
        have hgu2 : getU s (p : Int) 2 = .tuple #[.int .i64 (numAt s 2 j), .bool (gB s (j * 2) 2)] := by rw [hpp]; exact hgu
        rw [hgu2] at this
        exact this)
      clear hgu hgv
      have hz0 : 0 ≤ prevAt s 2 j ∧ prevAt s 2 j < 65536 := by
        rcases j with _ | j
        · exact ⟨Int.le_refl 0, by show (0 : Int) < 65536; omega⟩
        · have := numAt_bd s (show 2 = 1 ∨ 2 = 2 ∨ 2 = 4 by omega) j (by omega)
          simpa [prevAt] using this
      have He : Hid (dlF s 2 j = numAt s 2 j - prevAt s 2 j) := Lib.hid rfl
      have Hne : Hid (numAt s 2 j = prevAt s 2 (j + 1)) := Lib.hid rfl
      have C3 : Hid (∀ W', Calls Try.prog 95 #[.int .u64 (IntKind.u64.wrap (numAt s 2 j - prevAt s 2 j)), .int .i64 2] W' fun e w' => e = .returned (.string (leS (dlF s 2 j) 2)) ∧ Below W'.heap.size W' w') := Lib.hid (fun W' => by
        have h1 := le_any ((numAt s 2 j - prevAt s 2 j) % 18446744073709551616) 2 (by omega) (by omega) (by omega) (by omega) W'
        have h2 : leS ((numAt s 2 j - prevAt s 2 j) % 18446744073709551616) (2 : Int).toNat = leS (dlF s 2 j) 2 := by unfold leS; rw [He.out]; exact congrArg (fun l => (⟨l.toArray⟩ : ByteArray)) (leL_m2 _ _ (Int.emod_emod_of_dvd _ (by decide : (65536 : Int) ∣ 18446744073709551616)))
        rw [h2] at h1
        rw [IntKind.wrap_u64]
        exact h1)
      have C2 : Hid (∀ W', NbA W' c (prevAt s 2 j) → Calls Try.prog 64 #[.int .i64 (numAt s 2 j), .pointer (some ⟨c, 0, none⟩)] W' (NbP c (numAt s 2 j - prevAt s 2 j) (numAt s 2 j) W')) := Lib.hid (fun W' hW => delta_any (by omega) hW)
      have Hst := Lib.hid (cAt_succ s (dlF s 2) 2 j)
      rw [← hpp] at Hst
      have Hpp := Lib.hid hpp; clear hpp
      have Hset : Hid (∀ u, RowB u w.heap.size s.size (cAt s (dlF s 2) 2 j) → RowB (u.setCells w.heap.size p ((leS (dlF s 2 j) 2).data.toList.map bv)) w.heap.size s.size (cAt s (dlF s 2) 2 (j + 1))) := Lib.hid (fun u hu => by
        have hl : (leS (dlF s 2 j) 2).data.toList = leL (dlF s 2 j) 2 := by simp [leS]
        rw [hl]
        exact (RowB.sets (leL (dlF s 2 j) 2) p (by rw [leL_length]; omega) hu).congr (fun q _ => Hst.out q))
      have Hcp : Hid (∀ u, RowB u w.heap.size s.size (cAt s (dlF s 2) 2 j) → (Builtin.copy_ #[62, 9] 3 #[.slice (some ⟨w.heap.size, p, none⟩) (s.size - p) (cap - p), .string (leS (dlF s 2 j) 2)]).run Try.prog u = .ok (goInt (leS (dlF s 2 j) 2).size) (u.setCells w.heap.size p ((leS (dlF s 2 j) 2).data.toList.map bv))) := Lib.hid (fun u hu => by
        have hsz : (leS (dlF s 2 j) 2).size = 2 := by show (leL _ _).toArray.size = _; simp [leL]
        exact run_copy_string (P := Try.prog) u 62 9 3 5 w.heap.size p (s.size - p) (cap - p) (leS (dlF s 2 j) 2) Try.underlying62 Try.sizeOf5 (by omega) (fun q hq => by rw [(hu (p + q) (by omega)).1]; rfl) (fun q hq => (hu (p + q) (by omega)).2))
      go_wp2_with ((go_at_call 94; refine (C1.out _).mono ?_; rintro e w' ⟨rfl, rfl⟩))
      go_region_held3 (fun _ => True) (trivial)
        ((first | (go_at_call 64; go_fit (C2.out _ (by exact Hnbr.out)); rintro e u1 ⟨rfl, hnb1, hk1, hs1, g1⟩; have Hrw1 := Lib.hid (RowB.same (show RowB _ _ _ _ from Hrw.out) (hk1 w.heap.size (Nat.ne_of_gt hcw)))) | (go_at_call 95; go_fit (C3.out _); rintro e u2 ⟨rfl, g2⟩; have Hrw2 := Lib.hid (Hrw1.out.same (g2.block w.heap.size (by have h1 : u1.heap.size = wr.heap.size := hs1; have := Hz.out; omega))); have hcp := Hcp.out u2 Hrw2.out)))
      try simp only [Exit.then]
      have hu1 : u1.heap.size = wr.heap.size := hs1
      have Hr3 := Lib.hid (Hset.out u2 Hrw2.out)
      have Hn3 : Hid (NbA (u2.setCells w.heap.size p ((leS (dlF s 2 j) 2).data.toList.map bv)) c (prevAt s 2 (j + 1))) := Lib.hid (by
        unfold NbA at hnb1 ⊢
        rw [setCells_other (Nat.ne_of_lt hcw), g2.block c (by have := Hz.out; omega), hnb1, ← Hne.out])
      have Hb3 : Hid (Below c w (u2.setCells w.heap.size p ((leS (dlF s 2 j) 2).data.toList.map bv))) := Lib.hid (below_setCells (by omega) _ _ ((Hbel.out.trans ((Below.refl c wr).drew.trans g1)).trans (g2.mono (by have := Hz.out; omega))))
      have Hz3 : Hid (w.heap.size < (u2.setCells w.heap.size p ((leS (dlF s 2 j) 2).data.toList.map bv)).heap.size) := Lib.hid (by rw [size_setCells]; have := Hz.out; have := g2.size; omega)
      have hpn : p + 2 = (j + 1) * 2 := by have := Hpp.out; omega
      have Hpn := Lib.hid hpn
      clear hcp hnb1 hk1 hs1 g1 g2 hu1 hpn
      generalize u2.setCells w.heap.size p ((leS (dlF s 2 j) 2).data.toList.map bv) = u3 at *
      go_wp2_with fail
      go_roundw
      case rel => exact ⟨j + 1, p + 2, by omega, by go_num, Hpn.out, Hr3.out, Hn3.out, Hb3.out, Hz3.out⟩
      case measure => have := Hpp.out; have := hlt; simp [intOf]; omega
    · have hjR : j = R := by omega
      have hgt : decide ((p : Int) ≤ (s.size : Int) - 2) = false := decide_eq_false (by omega)
      have hc2 := row_conv s.size _ wr w.heap.size cap Hrw.out
      rw [hjR, Hend.out] at hc2
      have hpb2 : p ≤ 1100 := by omega
      clear hjR hpp
      go_wp2_with fail
      go_ret
      exact ⟨rfl, Hbel.out⟩
set_option maxHeartbeats 2000000 in
set_option maxRecDepth 100000 in
theorem withN2B (s : ByteArray) (hs : s.size ≤ 1100) (c : Nat) (w : World) (hcw : c < w.heap.size) (hc : NbA w c 0) :
    Calls Try.prog 63 #[.string s, .int .i64 2, .func (.func 65) #[] #[.pointer (some ⟨c, 0, none⟩)]] w fun e w' => e = .returned (.string (dlS s 2 (dlB s 2))) ∧ Below c w w' := by
  have hR : s.size / 2 * 2 ≤ s.size := Nat.div_mul_le_self _ _
  have hRs : s.size < s.size / 2 * 2 + 2 := by omega
  have hend := cAt_end s (dlB s 2) 2 hR
  have Hend := Lib.hid hend; clear hend
  have hcv := run_bytes_of_string (P := Try.prog) w 9 62 5 s Try.underlying9 Try.underlying62 Try.underlying5
  have hge := grownCap_ge w s.size 0 5
  generalize grownCap w s.size 0 5 = cap at *
  have hrow : RowB (w.drew.alloc (.cells (bytesRow s cap) 5 ((bytesRow s cap).size, (bytesRow s cap).size + 1))) w.heap.size s.size (cAt s (dlB s 2) 2 0) := by
    intro j hj
    have hj' : j < s.data.size := hj
    rw [cAt_zero]
    refine ⟨?_, ?_⟩
    · have h1 := World.cell?_alloc_mark w.drew (bytesRow s cap) 5 ((bytesRow s cap).size, (bytesRow s cap).size + 1) j
      have h2 : w.drew.heap.size = w.heap.size := rfl
      rw [h2] at h1
      rw [h1, bytesRow_at s cap j hj']
      simp [bv, List.getD, Array.getElem?_eq_getElem hj']
    · have h1 := World.frozen?_alloc_mark w.drew (bytesRow s cap) 5 (bytesRow s cap).size ((bytesRow s cap).size + 1) j
      have h2 : w.drew.heap.size = w.heap.size := rfl
      rw [h2] at h1
      rw [h1]
      have : s.data.size ≤ (bytesRow s cap).size := by unfold bytesRow; simp
      simp
      omega
  generalize bytesRow s cap = D at *
  have hbel : Below w.heap.size w (w.drew.alloc (.cells D 5 (D.size, D.size + 1))) := (Below.drew (Below.refl _ w)).alloc (Nat.le_refl _) _
  have HW : Hid (∀ W', Calls Try.prog 56 #[.int .i64 2] W' (Quiet (.bool true) W')) := Lib.hid (fun W' => isDeltaWidth_any 2 W')
  have Hrow : Hid (RowB (w.alloc (.cells D 5 (D.size, D.size + 1))).drew w.heap.size s.size (cAt s (dlB s 2) 2 0)) := Lib.hid hrow
  have Hnb : Hid (NbA (w.alloc (.cells D 5 (D.size, D.size + 1))).drew c 0) := Lib.hid ((hbel.block c hcw).trans hc)
  have Hbel0 : Hid (Below c w (w.alloc (.cells D 5 (D.size, D.size + 1))).drew) := Lib.hid (hbel.mono (by omega))
  have Hz0 : Hid (w.heap.size < (w.alloc (.cells D 5 (D.size, D.size + 1))).drew.heap.size) := Lib.hid (by show w.heap.size < (w.alloc _).heap.size; simp)
  clear hrow hbel hc
  generalize s.size / 2 = R at *
  have Hge := Lib.hid hge
  go_enter Try.func63, Try.ntmps63
  go_wp2_with ((go_at_call 56; refine (HW.out _).mono ?_; rintro e w' ⟨rfl, rfl⟩))
  clear hcv
  generalize (w.alloc (.cells D 5 (D.size, D.size + 1))).drew = w0 at *
  go_loopw [8, 9, 10] (fun i _ _ wr => ∃ j p : Nat, j ≤ R ∧ i = .int .i64 (p : Int) ∧ p = j * 2 ∧ RowB wr w.heap.size s.size (cAt s (dlB s 2) 2 j) ∧ NbA wr c (sumTo s 2 j) ∧ Below c w wr ∧ w.heap.size < wr.heap.size) (fun i _ _ _ => R * 2 - (intOf i).toNat)
  case atStart => exact ⟨0, 0, Nat.zero_le _, rfl, by omega, Hrow.out, Hnb.out, Hbel0.out, Hz0.out⟩
  case round =>
    obtain ⟨j, p, hj, rfl, hpp, hrow, hnb, hbel, hz⟩ := hrel
    have Hrw := Lib.hid hrow; have Hnbr := Lib.hid hnb; have Hbel := Lib.hid hbel; have Hz := Lib.hid hz
    clear hrow hnb hbel hz
    by_cases hlt : j < R
    · have hp : j * 2 + 2 ≤ s.size := by omega
      have hpb : p + 2 ≤ s.size := by omega
      have hI1 : (p : Int) ≤ (s.size : Int) := by omega
      have hI2 : p ≤ s.size := by omega
      have hne0 : ¬ cap = p := by omega
      have hle : (p : Int) ≤ (s.size : Int) - 2 := by omega
      have hn : 0 ≤ numAt s 2 j ∧ numAt s 2 j < 65536 := by simpa using numAt_bd s (show 2 = 1 ∨ 2 = 2 ∨ 2 = 4 by omega) j hp
      have hgv : gV s (j * 2) 2 = numAt s 2 j := by unfold gV; rw [show leVal (cutL s (j * 2) 2) = numAt s 2 j from rfl, if_pos (by omega)]
      have hgu := getU_gV s (j * 2) 2 (by omega) (by omega) hp
      rw [hgv] at hgu
      have C1 : Hid (∀ W', Calls Try.prog 94 #[.string s, .int .i64 (p : Int), .int .i64 2] W' fun e w' => e = .returned (.tuple #[.int .i64 (numAt s 2 j), .bool (gB s (j * 2) 2)]) ∧ W' = w') := Lib.hid (fun W' => by
        have := implGetUint_any s (p : Int) 2 (by omega) (by omega) W'
        have hgu2 : getU s (p : Int) 2 = .tuple #[.int .i64 (numAt s 2 j), .bool (gB s (j * 2) 2)] := by rw [hpp]; exact hgu
        rw [hgu2] at this
        exact this)
      clear hgu hgv
      have hsb := sumTo_bd s (show 2 = 1 ∨ 2 = 2 ∨ 2 = 4 by omega) j (by omega)
      have hsb2 : 0 ≤ sumTo s 2 j ∧ sumTo s 2 j ≤ (j : Int) * 65536 := by simpa using hsb
      have hsn : sumTo s 2 j + numAt s 2 j = sumTo s 2 (j + 1) := rfl
      have He : Hid (dlB s 2 j = sumTo s 2 j + numAt s 2 j) := Lib.hid rfl
      have C3 : Hid (∀ W', Calls Try.prog 95 #[.int .u64 (sumTo s 2 j + numAt s 2 j), .int .i64 2] W' fun e w' => e = .returned (.string (leS (dlB s 2 j) 2)) ∧ Below W'.heap.size W' w') := Lib.hid (fun W' => by
        have h1 := le_any (sumTo s 2 j + numAt s 2 j) 2 (by omega) (by omega) (by omega) (by omega) W'
        rw [He.out]
        exact h1)
      have C2 : Hid (∀ W', NbA W' c (sumTo s 2 j) → Calls Try.prog 65 #[.int .i64 (numAt s 2 j), .pointer (some ⟨c, 0, none⟩)] W' (NbP c (sumTo s 2 j + numAt s 2 j) (sumTo s 2 j + numAt s 2 j) W')) := Lib.hid (fun W' hW => undelta_any (by omega) hW)
      have hsb3 : 0 ≤ sumTo s 2 j + numAt s 2 j ∧ sumTo s 2 j + numAt s 2 j ≤ 18446744073709551615 := by omega
      have hsu : IntKind.u64.wrap (sumTo s 2 j + numAt s 2 j) = sumTo s 2 j + numAt s 2 j := IntWalk.u64_in _ hsb3
      have Hsn := Lib.hid hsn; clear hsn hsb hsb2
      have Hst := Lib.hid (cAt_succ s (dlB s 2) 2 j)
      rw [← hpp] at Hst
      have Hpp := Lib.hid hpp; clear hpp
      have Hset : Hid (∀ u, RowB u w.heap.size s.size (cAt s (dlB s 2) 2 j) → RowB (u.setCells w.heap.size p ((leS (dlB s 2 j) 2).data.toList.map bv)) w.heap.size s.size (cAt s (dlB s 2) 2 (j + 1))) := Lib.hid (fun u hu => by
        have hl : (leS (dlB s 2 j) 2).data.toList = leL (dlB s 2 j) 2 := by simp [leS]
        rw [hl]
        exact (RowB.sets (leL (dlB s 2 j) 2) p (by rw [leL_length]; omega) hu).congr (fun q _ => Hst.out q))
      have Hcp : Hid (∀ u, RowB u w.heap.size s.size (cAt s (dlB s 2) 2 j) → (Builtin.copy_ #[62, 9] 3 #[.slice (some ⟨w.heap.size, p, none⟩) (s.size - p) (cap - p), .string (leS (dlB s 2 j) 2)]).run Try.prog u = .ok (goInt (leS (dlB s 2 j) 2).size) (u.setCells w.heap.size p ((leS (dlB s 2 j) 2).data.toList.map bv))) := Lib.hid (fun u hu => by
        have hsz : (leS (dlB s 2 j) 2).size = 2 := by show (leL _ _).toArray.size = _; simp [leL]
        exact run_copy_string (P := Try.prog) u 62 9 3 5 w.heap.size p (s.size - p) (cap - p) (leS (dlB s 2 j) 2) Try.underlying62 Try.sizeOf5 (by omega) (fun q hq => by rw [(hu (p + q) (by omega)).1]; rfl) (fun q hq => (hu (p + q) (by omega)).2))
      go_wp2_with ((go_at_call 94; refine (C1.out _).mono ?_; rintro e w' ⟨rfl, rfl⟩))
      go_region_held3 (fun _ => True) (trivial)
        ((first | (go_at_call 65; go_fit (C2.out _ (by exact Hnbr.out)); rintro e u1 ⟨rfl, hnb1, hk1, hs1, g1⟩; have Hrw1 := Lib.hid (RowB.same (show RowB _ _ _ _ from Hrw.out) (hk1 w.heap.size (Nat.ne_of_gt hcw)))) | (go_at_call 95; go_fit (C3.out _); rintro e u2 ⟨rfl, g2⟩; have Hrw2 := Lib.hid (Hrw1.out.same (g2.block w.heap.size (by have h1 : u1.heap.size = wr.heap.size := hs1; have := Hz.out; omega))); have hcp := Hcp.out u2 Hrw2.out)))
      try simp only [Exit.then]
      have hu1 : u1.heap.size = wr.heap.size := hs1
      have Hr3 := Lib.hid (Hset.out u2 Hrw2.out)
      have Hn3 : Hid (NbA (u2.setCells w.heap.size p ((leS (dlB s 2 j) 2).data.toList.map bv)) c (sumTo s 2 (j + 1))) := Lib.hid (by
        unfold NbA at hnb1 ⊢
        rw [setCells_other (Nat.ne_of_lt hcw), g2.block c (by have := Hz.out; omega), hnb1, Hsn.out])
      have Hb3 : Hid (Below c w (u2.setCells w.heap.size p ((leS (dlB s 2 j) 2).data.toList.map bv))) := Lib.hid (below_setCells (by omega) _ _ ((Hbel.out.trans ((Below.refl c wr).drew.trans g1)).trans (g2.mono (by have := Hz.out; omega))))
      have Hz3 : Hid (w.heap.size < (u2.setCells w.heap.size p ((leS (dlB s 2 j) 2).data.toList.map bv)).heap.size) := Lib.hid (by rw [size_setCells]; have := Hz.out; have := g2.size; omega)
      have hpn : p + 2 = (j + 1) * 2 := by have := Hpp.out; omega
      have Hpn := Lib.hid hpn
      clear hcp hnb1 hk1 hs1 g1 g2 hu1 hpn
      generalize u2.setCells w.heap.size p ((leS (dlB s 2 j) 2).data.toList.map bv) = u3 at *
      go_wp2_with fail
      go_roundw
      case rel => exact ⟨j + 1, p + 2, by omega, by go_num, Hpn.out, Hr3.out, Hn3.out, Hb3.out, Hz3.out⟩
      case measure => have := Hpp.out; have := hlt; simp [intOf]; omega
    · have hjR : j = R := by omega
      have hgt : decide ((p : Int) ≤ (s.size : Int) - 2) = false := decide_eq_false (by omega)
      have hc2 := row_conv s.size _ wr w.heap.size cap Hrw.out
      rw [hjR, Hend.out] at hc2
      have hpb2 : p ≤ 1100 := by omega
      clear hjR hpp
      go_wp2_with fail
      go_ret
      exact ⟨rfl, Hbel.out⟩
set_option maxHeartbeats 2000000 in
set_option maxRecDepth 100000 in
theorem withN4F (s : ByteArray) (hs : s.size ≤ 1100) (c : Nat) (w : World) (hcw : c < w.heap.size) (hc : NbA w c 0) :
    Calls Try.prog 63 #[.string s, .int .i64 4, .func (.func 64) #[] #[.pointer (some ⟨c, 0, none⟩)]] w fun e w' => e = .returned (.string (dlS s 4 (dlF s 4))) ∧ Below c w w' := by
  have hR : s.size / 4 * 4 ≤ s.size := Nat.div_mul_le_self _ _
  have hRs : s.size < s.size / 4 * 4 + 4 := by omega
  have hend := cAt_end s (dlF s 4) 4 hR
  have Hend := Lib.hid hend; clear hend
  have hcv := run_bytes_of_string (P := Try.prog) w 9 62 5 s Try.underlying9 Try.underlying62 Try.underlying5
  have hge := grownCap_ge w s.size 0 5
  generalize grownCap w s.size 0 5 = cap at *
  have hrow : RowB (w.drew.alloc (.cells (bytesRow s cap) 5 ((bytesRow s cap).size, (bytesRow s cap).size + 1))) w.heap.size s.size (cAt s (dlF s 4) 4 0) := by
    intro j hj
    have hj' : j < s.data.size := hj
    rw [cAt_zero]
    refine ⟨?_, ?_⟩
    · have h1 := World.cell?_alloc_mark w.drew (bytesRow s cap) 5 ((bytesRow s cap).size, (bytesRow s cap).size + 1) j
      have h2 : w.drew.heap.size = w.heap.size := rfl
      rw [h2] at h1
      rw [h1, bytesRow_at s cap j hj']
      simp [bv, List.getD, Array.getElem?_eq_getElem hj']
    · have h1 := World.frozen?_alloc_mark w.drew (bytesRow s cap) 5 (bytesRow s cap).size ((bytesRow s cap).size + 1) j
      have h2 : w.drew.heap.size = w.heap.size := rfl
      rw [h2] at h1
      rw [h1]
      have : s.data.size ≤ (bytesRow s cap).size := by unfold bytesRow; simp
      simp
      omega
  generalize bytesRow s cap = D at *
  have hbel : Below w.heap.size w (w.drew.alloc (.cells D 5 (D.size, D.size + 1))) := (Below.drew (Below.refl _ w)).alloc (Nat.le_refl _) _
  have HW : Hid (∀ W', Calls Try.prog 56 #[.int .i64 4] W' (Quiet (.bool true) W')) := Lib.hid (fun W' => isDeltaWidth_any 4 W')
  have Hrow : Hid (RowB (w.alloc (.cells D 5 (D.size, D.size + 1))).drew w.heap.size s.size (cAt s (dlF s 4) 4 0)) := Lib.hid hrow
  have Hnb : Hid (NbA (w.alloc (.cells D 5 (D.size, D.size + 1))).drew c 0) := Lib.hid ((hbel.block c hcw).trans hc)
  have Hbel0 : Hid (Below c w (w.alloc (.cells D 5 (D.size, D.size + 1))).drew) := Lib.hid (hbel.mono (by omega))
  have Hz0 : Hid (w.heap.size < (w.alloc (.cells D 5 (D.size, D.size + 1))).drew.heap.size) := Lib.hid (by show w.heap.size < (w.alloc _).heap.size; simp)
  clear hrow hbel hc
  generalize s.size / 4 = R at *
  have Hge := Lib.hid hge
  go_enter Try.func63, Try.ntmps63
  go_wp2_with ((go_at_call 56; refine (HW.out _).mono ?_; rintro e w' ⟨rfl, rfl⟩))
  clear hcv
  generalize (w.alloc (.cells D 5 (D.size, D.size + 1))).drew = w0 at *
  go_loopw [8, 9, 10] (fun i _ _ wr => ∃ j p : Nat, j ≤ R ∧ i = .int .i64 (p : Int) ∧ p = j * 4 ∧ RowB wr w.heap.size s.size (cAt s (dlF s 4) 4 j) ∧ NbA wr c (prevAt s 4 j) ∧ Below c w wr ∧ w.heap.size < wr.heap.size) (fun i _ _ _ => R * 4 - (intOf i).toNat)
  case atStart => exact ⟨0, 0, Nat.zero_le _, rfl, by omega, Hrow.out, Hnb.out, Hbel0.out, Hz0.out⟩
  case round =>
    obtain ⟨j, p, hj, rfl, hpp, hrow, hnb, hbel, hz⟩ := hrel
    have Hrw := Lib.hid hrow; have Hnbr := Lib.hid hnb; have Hbel := Lib.hid hbel; have Hz := Lib.hid hz
    clear hrow hnb hbel hz
    by_cases hlt : j < R
    · have hp : j * 4 + 4 ≤ s.size := by omega
      have hpb : p + 4 ≤ s.size := by omega
      have hI1 : (p : Int) ≤ (s.size : Int) := by omega
      have hI2 : p ≤ s.size := by omega
      have hne0 : ¬ cap = p := by omega
      have hle : (p : Int) ≤ (s.size : Int) - 4 := by omega
      have hn : 0 ≤ numAt s 4 j ∧ numAt s 4 j < 4294967296 := by simpa using numAt_bd s (show 4 = 1 ∨ 4 = 2 ∨ 4 = 4 by omega) j hp
      have hgv : gV s (j * 4) 4 = numAt s 4 j := by unfold gV; rw [show leVal (cutL s (j * 4) 4) = numAt s 4 j from rfl, if_pos (by omega)]
      have hgu := getU_gV s (j * 4) 4 (by omega) (by omega) hp
      rw [hgv] at hgu
      have C1 : Hid (∀ W', Calls Try.prog 94 #[.string s, .int .i64 (p : Int), .int .i64 4] W' fun e w' => e = .returned (.tuple #[.int .i64 (numAt s 4 j), .bool (gB s (j * 4) 4)]) ∧ W' = w') := Lib.hid (fun W' => by
        have := implGetUint_any s (p : Int) 4 (by omega) (by omega) W'
        have hgu2 : getU s (p : Int) 4 = .tuple #[.int .i64 (numAt s 4 j), .bool (gB s (j * 4) 4)] := by rw [hpp]; exact hgu
        rw [hgu2] at this
        exact this)
      clear hgu hgv
      have hz0 : 0 ≤ prevAt s 4 j ∧ prevAt s 4 j < 4294967296 := by
        rcases j with _ | j
        · exact ⟨Int.le_refl 0, by show (0 : Int) < 4294967296; omega⟩
        · have := numAt_bd s (show 4 = 1 ∨ 4 = 2 ∨ 4 = 4 by omega) j (by omega)
          simpa [prevAt] using this
      have He : Hid (dlF s 4 j = numAt s 4 j - prevAt s 4 j) := Lib.hid rfl
      have Hne : Hid (numAt s 4 j = prevAt s 4 (j + 1)) := Lib.hid rfl
      have C3 : Hid (∀ W', Calls Try.prog 95 #[.int .u64 (IntKind.u64.wrap (numAt s 4 j - prevAt s 4 j)), .int .i64 4] W' fun e w' => e = .returned (.string (leS (dlF s 4 j) 4)) ∧ Below W'.heap.size W' w') := Lib.hid (fun W' => by
        have h1 := le_any ((numAt s 4 j - prevAt s 4 j) % 18446744073709551616) 4 (by omega) (by omega) (by omega) (by omega) W'
        have h2 : leS ((numAt s 4 j - prevAt s 4 j) % 18446744073709551616) (4 : Int).toNat = leS (dlF s 4 j) 4 := by unfold leS; rw [He.out]; exact congrArg (fun l => (⟨l.toArray⟩ : ByteArray)) (leL_m4 _ _ (Int.emod_emod_of_dvd _ (by decide : (4294967296 : Int) ∣ 18446744073709551616)))
        rw [h2] at h1
        rw [IntKind.wrap_u64]
        exact h1)
      have C2 : Hid (∀ W', NbA W' c (prevAt s 4 j) → Calls Try.prog 64 #[.int .i64 (numAt s 4 j), .pointer (some ⟨c, 0, none⟩)] W' (NbP c (numAt s 4 j - prevAt s 4 j) (numAt s 4 j) W')) := Lib.hid (fun W' hW => delta_any (by omega) hW)
      have Hst := Lib.hid (cAt_succ s (dlF s 4) 4 j)
      rw [← hpp] at Hst
      have Hpp := Lib.hid hpp; clear hpp
      have Hset : Hid (∀ u, RowB u w.heap.size s.size (cAt s (dlF s 4) 4 j) → RowB (u.setCells w.heap.size p ((leS (dlF s 4 j) 4).data.toList.map bv)) w.heap.size s.size (cAt s (dlF s 4) 4 (j + 1))) := Lib.hid (fun u hu => by
        have hl : (leS (dlF s 4 j) 4).data.toList = leL (dlF s 4 j) 4 := by simp [leS]
        rw [hl]
        exact (RowB.sets (leL (dlF s 4 j) 4) p (by rw [leL_length]; omega) hu).congr (fun q _ => Hst.out q))
      have Hcp : Hid (∀ u, RowB u w.heap.size s.size (cAt s (dlF s 4) 4 j) → (Builtin.copy_ #[62, 9] 3 #[.slice (some ⟨w.heap.size, p, none⟩) (s.size - p) (cap - p), .string (leS (dlF s 4 j) 4)]).run Try.prog u = .ok (goInt (leS (dlF s 4 j) 4).size) (u.setCells w.heap.size p ((leS (dlF s 4 j) 4).data.toList.map bv))) := Lib.hid (fun u hu => by
        have hsz : (leS (dlF s 4 j) 4).size = 4 := by show (leL _ _).toArray.size = _; simp [leL]
        exact run_copy_string (P := Try.prog) u 62 9 3 5 w.heap.size p (s.size - p) (cap - p) (leS (dlF s 4 j) 4) Try.underlying62 Try.sizeOf5 (by omega) (fun q hq => by rw [(hu (p + q) (by omega)).1]; rfl) (fun q hq => (hu (p + q) (by omega)).2))
      go_wp2_with ((go_at_call 94; refine (C1.out _).mono ?_; rintro e w' ⟨rfl, rfl⟩))
      go_region_held3 (fun _ => True) (trivial)
        ((first | (go_at_call 64; go_fit (C2.out _ (by exact Hnbr.out)); rintro e u1 ⟨rfl, hnb1, hk1, hs1, g1⟩; have Hrw1 := Lib.hid (RowB.same (show RowB _ _ _ _ from Hrw.out) (hk1 w.heap.size (Nat.ne_of_gt hcw)))) | (go_at_call 95; go_fit (C3.out _); rintro e u2 ⟨rfl, g2⟩; have Hrw2 := Lib.hid (Hrw1.out.same (g2.block w.heap.size (by have h1 : u1.heap.size = wr.heap.size := hs1; have := Hz.out; omega))); have hcp := Hcp.out u2 Hrw2.out)))
      try simp only [Exit.then]
      have hu1 : u1.heap.size = wr.heap.size := hs1
      have Hr3 := Lib.hid (Hset.out u2 Hrw2.out)
      have Hn3 : Hid (NbA (u2.setCells w.heap.size p ((leS (dlF s 4 j) 4).data.toList.map bv)) c (prevAt s 4 (j + 1))) := Lib.hid (by
        unfold NbA at hnb1 ⊢
        rw [setCells_other (Nat.ne_of_lt hcw), g2.block c (by have := Hz.out; omega), hnb1, ← Hne.out])
      have Hb3 : Hid (Below c w (u2.setCells w.heap.size p ((leS (dlF s 4 j) 4).data.toList.map bv))) := Lib.hid (below_setCells (by omega) _ _ ((Hbel.out.trans ((Below.refl c wr).drew.trans g1)).trans (g2.mono (by have := Hz.out; omega))))
      have Hz3 : Hid (w.heap.size < (u2.setCells w.heap.size p ((leS (dlF s 4 j) 4).data.toList.map bv)).heap.size) := Lib.hid (by rw [size_setCells]; have := Hz.out; have := g2.size; omega)
      have hpn : p + 4 = (j + 1) * 4 := by have := Hpp.out; omega
      have Hpn := Lib.hid hpn
      clear hcp hnb1 hk1 hs1 g1 g2 hu1 hpn
      generalize u2.setCells w.heap.size p ((leS (dlF s 4 j) 4).data.toList.map bv) = u3 at *
      go_wp2_with fail
      go_roundw
      case rel => exact ⟨j + 1, p + 4, by omega, by go_num, Hpn.out, Hr3.out, Hn3.out, Hb3.out, Hz3.out⟩
      case measure => have := Hpp.out; have := hlt; simp [intOf]; omega
    · have hjR : j = R := by omega
      have hgt : decide ((p : Int) ≤ (s.size : Int) - 4) = false := decide_eq_false (by omega)
      have hc2 := row_conv s.size _ wr w.heap.size cap Hrw.out
      rw [hjR, Hend.out] at hc2
      have hpb2 : p ≤ 1100 := by omega
      clear hjR hpp
      go_wp2_with fail
      go_ret
      exact ⟨rfl, Hbel.out⟩
set_option maxHeartbeats 2000000 in
set_option maxRecDepth 100000 in
theorem withN4B (s : ByteArray) (hs : s.size ≤ 1100) (c : Nat) (w : World) (hcw : c < w.heap.size) (hc : NbA w c 0) :
    Calls Try.prog 63 #[.string s, .int .i64 4, .func (.func 65) #[] #[.pointer (some ⟨c, 0, none⟩)]] w fun e w' => e = .returned (.string (dlS s 4 (dlB s 4))) ∧ Below c w w' := by
  have hR : s.size / 4 * 4 ≤ s.size := Nat.div_mul_le_self _ _
  have hRs : s.size < s.size / 4 * 4 + 4 := by omega
  have hend := cAt_end s (dlB s 4) 4 hR
  have Hend := Lib.hid hend; clear hend
  have hcv := run_bytes_of_string (P := Try.prog) w 9 62 5 s Try.underlying9 Try.underlying62 Try.underlying5
  have hge := grownCap_ge w s.size 0 5
  generalize grownCap w s.size 0 5 = cap at *
  have hrow : RowB (w.drew.alloc (.cells (bytesRow s cap) 5 ((bytesRow s cap).size, (bytesRow s cap).size + 1))) w.heap.size s.size (cAt s (dlB s 4) 4 0) := by
    intro j hj
    have hj' : j < s.data.size := hj
    rw [cAt_zero]
    refine ⟨?_, ?_⟩
    · have h1 := World.cell?_alloc_mark w.drew (bytesRow s cap) 5 ((bytesRow s cap).size, (bytesRow s cap).size + 1) j
      have h2 : w.drew.heap.size = w.heap.size := rfl
      rw [h2] at h1
      rw [h1, bytesRow_at s cap j hj']
      simp [bv, List.getD, Array.getElem?_eq_getElem hj']
    · have h1 := World.frozen?_alloc_mark w.drew (bytesRow s cap) 5 (bytesRow s cap).size ((bytesRow s cap).size + 1) j
      have h2 : w.drew.heap.size = w.heap.size := rfl
      rw [h2] at h1
      rw [h1]
      have : s.data.size ≤ (bytesRow s cap).size := by unfold bytesRow; simp
      simp
      omega
  generalize bytesRow s cap = D at *
  have hbel : Below w.heap.size w (w.drew.alloc (.cells D 5 (D.size, D.size + 1))) := (Below.drew (Below.refl _ w)).alloc (Nat.le_refl _) _
  have HW : Hid (∀ W', Calls Try.prog 56 #[.int .i64 4] W' (Quiet (.bool true) W')) := Lib.hid (fun W' => isDeltaWidth_any 4 W')
  have Hrow : Hid (RowB (w.alloc (.cells D 5 (D.size, D.size + 1))).drew w.heap.size s.size (cAt s (dlB s 4) 4 0)) := Lib.hid hrow
  have Hnb : Hid (NbA (w.alloc (.cells D 5 (D.size, D.size + 1))).drew c 0) := Lib.hid ((hbel.block c hcw).trans hc)
  have Hbel0 : Hid (Below c w (w.alloc (.cells D 5 (D.size, D.size + 1))).drew) := Lib.hid (hbel.mono (by omega))
  have Hz0 : Hid (w.heap.size < (w.alloc (.cells D 5 (D.size, D.size + 1))).drew.heap.size) := Lib.hid (by show w.heap.size < (w.alloc _).heap.size; simp)
  clear hrow hbel hc
  generalize s.size / 4 = R at *
  have Hge := Lib.hid hge
  go_enter Try.func63, Try.ntmps63
  go_wp2_with ((go_at_call 56; refine (HW.out _).mono ?_; rintro e w' ⟨rfl, rfl⟩))
  clear hcv
  generalize (w.alloc (.cells D 5 (D.size, D.size + 1))).drew = w0 at *
  go_loopw [8, 9, 10] (fun i _ _ wr => ∃ j p : Nat, j ≤ R ∧ i = .int .i64 (p : Int) ∧ p = j * 4 ∧ RowB wr w.heap.size s.size (cAt s (dlB s 4) 4 j) ∧ NbA wr c (sumTo s 4 j) ∧ Below c w wr ∧ w.heap.size < wr.heap.size) (fun i _ _ _ => R * 4 - (intOf i).toNat)
  case atStart => exact ⟨0, 0, Nat.zero_le _, rfl, by omega, Hrow.out, Hnb.out, Hbel0.out, Hz0.out⟩
  case round =>
    obtain ⟨j, p, hj, rfl, hpp, hrow, hnb, hbel, hz⟩ := hrel
    have Hrw := Lib.hid hrow; have Hnbr := Lib.hid hnb; have Hbel := Lib.hid hbel; have Hz := Lib.hid hz
    clear hrow hnb hbel hz
    by_cases hlt : j < R
    · have hp : j * 4 + 4 ≤ s.size := by omega
      have hpb : p + 4 ≤ s.size := by omega
      have hI1 : (p : Int) ≤ (s.size : Int) := by omega
      have hI2 : p ≤ s.size := by omega
      have hne0 : ¬ cap = p := by omega
      have hle : (p : Int) ≤ (s.size : Int) - 4 := by omega
      have hn : 0 ≤ numAt s 4 j ∧ numAt s 4 j < 4294967296 := by simpa using numAt_bd s (show 4 = 1 ∨ 4 = 2 ∨ 4 = 4 by omega) j hp
      have hgv : gV s (j * 4) 4 = numAt s 4 j := by unfold gV; rw [show leVal (cutL s (j * 4) 4) = numAt s 4 j from rfl, if_pos (by omega)]
      have hgu := getU_gV s (j * 4) 4 (by omega) (by omega) hp
      rw [hgv] at hgu
      have C1 : Hid (∀ W', Calls Try.prog 94 #[.string s, .int .i64 (p : Int), .int .i64 4] W' fun e w' => e = .returned (.tuple #[.int .i64 (numAt s 4 j), .bool (gB s (j * 4) 4)]) ∧ W' = w') := Lib.hid (fun W' => by
        have := implGetUint_any s (p : Int) 4 (by omega) (by omega) W'
        have hgu2 : getU s (p : Int) 4 = .tuple #[.int .i64 (numAt s 4 j), .bool (gB s (j * 4) 4)] := by rw [hpp]; exact hgu
        rw [hgu2] at this
        exact this)
      clear hgu hgv
      have hsb := sumTo_bd s (show 4 = 1 ∨ 4 = 2 ∨ 4 = 4 by omega) j (by omega)
      have hsb2 : 0 ≤ sumTo s 4 j ∧ sumTo s 4 j ≤ (j : Int) * 4294967296 := by simpa using hsb
      have hsn : sumTo s 4 j + numAt s 4 j = sumTo s 4 (j + 1) := rfl
      have He : Hid (dlB s 4 j = sumTo s 4 j + numAt s 4 j) := Lib.hid rfl
      have C3 : Hid (∀ W', Calls Try.prog 95 #[.int .u64 (sumTo s 4 j + numAt s 4 j), .int .i64 4] W' fun e w' => e = .returned (.string (leS (dlB s 4 j) 4)) ∧ Below W'.heap.size W' w') := Lib.hid (fun W' => by
        have h1 := le_any (sumTo s 4 j + numAt s 4 j) 4 (by omega) (by omega) (by omega) (by omega) W'
        rw [He.out]
        exact h1)
      have C2 : Hid (∀ W', NbA W' c (sumTo s 4 j) → Calls Try.prog 65 #[.int .i64 (numAt s 4 j), .pointer (some ⟨c, 0, none⟩)] W' (NbP c (sumTo s 4 j + numAt s 4 j) (sumTo s 4 j + numAt s 4 j) W')) := Lib.hid (fun W' hW => undelta_any (by omega) hW)
      have hsb3 : 0 ≤ sumTo s 4 j + numAt s 4 j ∧ sumTo s 4 j + numAt s 4 j ≤ 18446744073709551615 := by omega
      have hsu : IntKind.u64.wrap (sumTo s 4 j + numAt s 4 j) = sumTo s 4 j + numAt s 4 j := IntWalk.u64_in _ hsb3
      have Hsn := Lib.hid hsn; clear hsn hsb hsb2
      have Hst := Lib.hid (cAt_succ s (dlB s 4) 4 j)
      rw [← hpp] at Hst
      have Hpp := Lib.hid hpp; clear hpp
      have Hset : Hid (∀ u, RowB u w.heap.size s.size (cAt s (dlB s 4) 4 j) → RowB (u.setCells w.heap.size p ((leS (dlB s 4 j) 4).data.toList.map bv)) w.heap.size s.size (cAt s (dlB s 4) 4 (j + 1))) := Lib.hid (fun u hu => by
        have hl : (leS (dlB s 4 j) 4).data.toList = leL (dlB s 4 j) 4 := by simp [leS]
        rw [hl]
        exact (RowB.sets (leL (dlB s 4 j) 4) p (by rw [leL_length]; omega) hu).congr (fun q _ => Hst.out q))
      have Hcp : Hid (∀ u, RowB u w.heap.size s.size (cAt s (dlB s 4) 4 j) → (Builtin.copy_ #[62, 9] 3 #[.slice (some ⟨w.heap.size, p, none⟩) (s.size - p) (cap - p), .string (leS (dlB s 4 j) 4)]).run Try.prog u = .ok (goInt (leS (dlB s 4 j) 4).size) (u.setCells w.heap.size p ((leS (dlB s 4 j) 4).data.toList.map bv))) := Lib.hid (fun u hu => by
        have hsz : (leS (dlB s 4 j) 4).size = 4 := by show (leL _ _).toArray.size = _; simp [leL]
        exact run_copy_string (P := Try.prog) u 62 9 3 5 w.heap.size p (s.size - p) (cap - p) (leS (dlB s 4 j) 4) Try.underlying62 Try.sizeOf5 (by omega) (fun q hq => by rw [(hu (p + q) (by omega)).1]; rfl) (fun q hq => (hu (p + q) (by omega)).2))
      go_wp2_with ((go_at_call 94; refine (C1.out _).mono ?_; rintro e w' ⟨rfl, rfl⟩))
      go_region_held3 (fun _ => True) (trivial)
        ((first | (go_at_call 65; go_fit (C2.out _ (by exact Hnbr.out)); rintro e u1 ⟨rfl, hnb1, hk1, hs1, g1⟩; have Hrw1 := Lib.hid (RowB.same (show RowB _ _ _ _ from Hrw.out) (hk1 w.heap.size (Nat.ne_of_gt hcw)))) | (go_at_call 95; go_fit (C3.out _); rintro e u2 ⟨rfl, g2⟩; have Hrw2 := Lib.hid (Hrw1.out.same (g2.block w.heap.size (by have h1 : u1.heap.size = wr.heap.size := hs1; have := Hz.out; omega))); have hcp := Hcp.out u2 Hrw2.out)))
      try simp only [Exit.then]
      have hu1 : u1.heap.size = wr.heap.size := hs1
      have Hr3 := Lib.hid (Hset.out u2 Hrw2.out)
      have Hn3 : Hid (NbA (u2.setCells w.heap.size p ((leS (dlB s 4 j) 4).data.toList.map bv)) c (sumTo s 4 (j + 1))) := Lib.hid (by
        unfold NbA at hnb1 ⊢
        rw [setCells_other (Nat.ne_of_lt hcw), g2.block c (by have := Hz.out; omega), hnb1, Hsn.out])
      have Hb3 : Hid (Below c w (u2.setCells w.heap.size p ((leS (dlB s 4 j) 4).data.toList.map bv))) := Lib.hid (below_setCells (by omega) _ _ ((Hbel.out.trans ((Below.refl c wr).drew.trans g1)).trans (g2.mono (by have := Hz.out; omega))))
      have Hz3 : Hid (w.heap.size < (u2.setCells w.heap.size p ((leS (dlB s 4 j) 4).data.toList.map bv)).heap.size) := Lib.hid (by rw [size_setCells]; have := Hz.out; have := g2.size; omega)
      have hpn : p + 4 = (j + 1) * 4 := by have := Hpp.out; omega
      have Hpn := Lib.hid hpn
      clear hcp hnb1 hk1 hs1 g1 g2 hu1 hpn
      generalize u2.setCells w.heap.size p ((leS (dlB s 4 j) 4).data.toList.map bv) = u3 at *
      go_wp2_with fail
      go_roundw
      case rel => exact ⟨j + 1, p + 4, by omega, by go_num, Hpn.out, Hr3.out, Hn3.out, Hb3.out, Hz3.out⟩
      case measure => have := Hpp.out; have := hlt; simp [intOf]; omega
    · have hjR : j = R := by omega
      have hgt : decide ((p : Int) ≤ (s.size : Int) - 4) = false := decide_eq_false (by omega)
      have hc2 := row_conv s.size _ wr w.heap.size cap Hrw.out
      rw [hjR, Hend.out] at hc2
      have hpb2 : p ≤ 1100 := by omega
      clear hjR hpp
      go_wp2_with fail
      go_ret
      exact ⟨rfl, Hbel.out⟩
end Go.Proofs.Ytmddgncidgdglaa
