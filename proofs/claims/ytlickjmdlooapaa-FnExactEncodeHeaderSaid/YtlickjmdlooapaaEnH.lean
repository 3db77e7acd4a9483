/- The binary form of a header: bytes, numbers, and the model's text. No statement is proved here. -/
import Derived.Test.YtlickjmdlooapaaVhd
import Derived.Test.YtlickjmdlooapaaByt
import Derived.Below
import Derived.Deep.DeepFit
namespace Go.Proofs.Ytlickjmdlooapaa
open Go.RowKit
set_option linter.unusedVariables false
theorem leS_one (n : Int) (k : Nat) : (leS n k).size = k := by show (leL n k).toArray.size = k; simp [leL]
theorem leL_one (n : Int) : leL n 1 = [byteOf n 0] := rfl
theorem byteOf_and (n : Int) (k : Nat) : byteOf (n / 2 ^ (8 * k) % 256) 0 = byteOf n k := by
  apply UInt8.toNat_inj.1
  have h1 := byteOf_toNat (n / 2 ^ (8 * k) % 256) 0
  have h2 := byteOf_toNat n k
  simp only [Nat.mul_zero, Int.pow_zero, Int.ediv_one] at h1
  rw [Int.emod_emod_of_dvd _ (by decide : (256 : Int) ∣ 256)] at h1
  omega
theorem leS_step (n : Int) (k : Nat) : leS n k ++ leS (n / 2 ^ (8 * k) % 256) 1 = leS n (k + 1) := by
  apply ByteArray.ext
  simp only [leS, ByteArray.data_append, leL_one, byteOf_and]
  rw [leL_succ]
  simp
theorem leS_nil (n : Int) : leS n 0 = ⟨#[]⟩ := rfl
set_option maxHeartbeats 1000000 in
set_option maxRecDepth 100000 in
theorem l02Byte_any (n : Int) (w : World) : Calls Try.prog 181 #[.int .i64 n] w (GivesB (.string (leS n 1)) w) := by
  have e : (leL n 1).map bv = [.int .u8 (n % 256)] := by
    rw [leL_one]
    simp [bv, byteOf_toNat]
  have hown : OwnB (w.alloc (.cells #[.int .u8 (n % 256)] 5)) w.heap.size (.slice (some ⟨w.heap.size, 0, none⟩) 1 1) (leL n 1) := by
    unfold OwnB
    rw [e]
    exact World.ownsRow_lit w #[.int .u8 (n % 256)] 1 (Nat.le_refl _) (by decide) rfl
  have hc := conv_own hown
  have Hb : Hid (Below w.heap.size w (w.alloc (.cells #[.int .u8 (n % 256)] 5))) := Lib.hid ((Below.refl _ _).alloc (Nat.le_refl _) _)
  clear hown e
  have hs : (⟨(leL n 1).toArray⟩ : ByteArray) = leS n 1 := rfl
  rw [hs] at hc
  generalize leS n 1 = r at *
  go_enter Try.func181, Try.ntmps181
  go_wp2
  go_ret
  exact ⟨rfl, Hb.out⟩
set_option maxHeartbeats 1000000 in
set_option maxRecDepth 100000 in
theorem l02Put_any (n : Int) (m : Nat) (h8 : m ≤ 8) (w : World) : Calls Try.prog 182 #[.int .i64 n, .int .i64 m, .bool false] w (GivesB (.string (leS n m)) w) := by
  go_enter Try.func182, Try.ntmps182
  go_wp2_with fail
  go_loopw [7, 8] (fun v i wr => ∃ k : Nat, k ≤ m ∧ i = .int .i64 k ∧ v = .string (leS n k) ∧ Below w.heap.size w wr) (fun _ i _ => m - (intOf i).toNat)
  case atStart => exact ⟨0, by omega, rfl, rfl, Below.refl _ _⟩
  case round =>
    obtain ⟨k, hk, rfl, rfl, hbel⟩ := hrel
    have Hbel := Lib.hid hbel
    have hsz := hbel.size
    clear hbel
    by_cases hlt : k < m
    · have HS := Lib.hid (leS_step n k)
      have z1 := leS_one n k
      have z2 := leS_one (n / 2 ^ (8 * k) % 256) 1
      have HC := Lib.hid (l02Byte_any (n / 2 ^ (8 * k) % 256) wr)
      have ha := i64_and255 (n / 2 ^ (8 * k))
      have hadd := fun w1 => run_string_add_sum (P := Try.prog) w1 (leS n k) (leS (n / 2 ^ (8 * k) % 256) 1) (by omega)
      rw [HS.out] at hadd
      generalize hN : leS n (k + 1) = S1 at *
      have HN := Lib.hid hN; clear hN
      generalize leS n k = S0 at *
      generalize leS (n / 2 ^ (8 * k) % 256) 1 = S2 at *
      go_wp2_with fail
      refine HC.out.mono ?_
      rintro e w1 ⟨rfl, g⟩
      have Hb2 := Lib.hid (Hbel.out.trans (g.mono hsz))
      clear g ha
      go_wp2_with fail
      go_roundw
      case rel => exact ⟨k + 1, by omega, by go_num, by rw [HN.out], Hb2.out⟩
      case measure => simp [intOf]; omega
    · obtain rfl : k = m := by omega
      go_wp2_with fail
      go_ret
      exact ⟨rfl, Hbel.out⟩
/-- The form of one message; of the first ones, behind the head. -/
def enM (m : EM) : ByteArray := ((leS m.1 1 ++ leS m.2.1 1) ++ leS m.2.2.size 1) ++ m.2.2
def enH (k r : Int) (ms : List EM) : ByteArray := (leS k 1 ++ leS r 2) ++ leS ms.length 1
def enT (H : ByteArray) (ms : List EM) : Nat → ByteArray
  | 0 => H
  | j + 1 => enT H ms j ++ enM (ms.getD j (0, 0, ByteArray.empty))
def enF (k r : Int) (ms : List EM) : ByteArray := enT (enH k r ms) ms ms.length
def enV (k r : Int) (ms : List EM) : ByteArray := if hdrOk k r ms then enF k r ms else ⟨#[]⟩
theorem enT_succ (H : ByteArray) (ms : List EM) (j : Nat) (h : j < ms.length) : enT H ms (j + 1) = enT H ms j ++ enM ms[j] := by
  rw [enT, List.getD_eq_getElem?_getD, List.getElem?_eq_getElem h]; rfl
theorem enM_size (m : EM) : (enM m).size = 3 + m.2.2.size := by simp only [enM, ByteArray.size_append, leS_one]
theorem enH_size (k r : Int) (ms : List EM) : (enH k r ms).size = 4 := by simp only [enH, ByteArray.size_append, leS_one]
theorem hdr_msgs {k r : Int} {ms : List EM} (h : hdrOk k r ms = true) : ms.length ≤ 24 ∧ ∀ j (hj : j < ms.length), ms[j].2.2.size ≤ 200 := by
  simp only [hdrOk, msgsOk, Bool.and_eq_true, decide_eq_true_eq] at h
  refine ⟨h.1.2.2, fun j hj => ?_⟩
  have h2 := allTo_at h.2 hj
  rw [msgAt_at ms j hj] at h2
  simp only [msgOk, Bool.and_eq_true, decide_eq_true_eq] at h2
  exact h2.2.2
theorem enT_size {k r : Int} {ms : List EM} (h : hdrOk k r ms = true) : ∀ j, j ≤ ms.length → (enT (enH k r ms) ms j).size ≤ 4 + 203 * j
  | 0, _ => by rw [enT, enH_size]; omega
  | j + 1, hj => by
    have h1 := enT_size h j (by omega)
    have h2 := (hdr_msgs h).2 j (by omega)
    rw [enT_succ _ _ j (by omega), ByteArray.size_append, enM_size]
    omega
theorem enF_size {k r : Int} {ms : List EM} (h : hdrOk k r ms = true) : (enF k r ms).size ≤ 4876 := by
  have h1 := enT_size h ms.length (Nat.le_refl _)
  have h2 := (hdr_msgs h).1
  unfold enF
  omega
theorem addS {a b c : ByteArray} (hc : a ++ b = c) (h : a.size + b.size ≤ 100000) (w1 : World) : (Op.stringOp .add a b).run Try.prog w1 = .ok (.string c) w1 := by
  subst hc
  exact run_string_add_sum (P := Try.prog) w1 a b (by omega)
set_option maxHeartbeats 4000000 in
set_option maxRecDepth 100000 in
theorem l14Encode_any {B : Nat} {w : World} {v : Value} {k r : Int} {ms : List EM} (h : RiM B w v ms) (hB : B ≤ w.heap.size) (hok : hdrOk k r ms = true) :
    Calls Try.prog 115 #[.agg #[.int .i64 k, .int .i64 r, v]] w (GivesB (.string (enF k r ms)) w) := by
  obtain ⟨A, cap, rfl, hl, hcc, hx⟩ := h
  have Hx := Lib.hid hx; clear hx
  unfold maxLen at hcc
  have hlen := (hdr_msgs hok).1
  have HD2 := Lib.hid (hdr_msgs hok).2
  have HSZ := Lib.hid (fun j hj => enT_size hok j hj)
  have Hb0 : Hid (Below w.heap.size w (w.alloc (.cells #[.int .i64 k, .int .i64 r, .slice A ms.length cap] 64))) := Lib.hid ((Below.refl _ w).alloc (Nat.le_refl _) _)
  have R0 : Hid ((w.alloc (.cells #[.int .i64 k, .int .i64 r, .slice A ms.length cap] 64)).heap[w.heap.size]? = some (.cells #[.int .i64 k, .int .i64 r, .slice A ms.length cap] 64 (0, 0))) := Lib.hid (heap_alloc_new w _)
  have Lt0 : Hid (w.heap.size < (w.alloc (.cells #[.int .i64 k, .int .i64 r, .slice A ms.length cap] 64)).heap.size) := Lib.hid (by simp)
  have F1 := Lib.hid (fun W => l02Byte_any k W)
  have F2 := Lib.hid (fun W => l02Put_any r 2 (by omega) W)
  have F3 := Lib.hid (fun W => l02Byte_any (ms.length : Int) W)
  have HF : Hid (enF k r ms = enT (enH k r ms) ms ms.length) := Lib.hid rfl
  have HH : Hid ((leS k 1 ++ leS r 2) ++ leS (ms.length : Int) 1 = enH k r ms) := Lib.hid rfl
  have a1 := fun W => addS (a := leS k 1) (b := leS r 2) rfl (by rw [leS_one, leS_one]; omega) W
  have a2 := fun W => addS (a := leS k 1 ++ leS r 2) (b := leS (ms.length : Int) 1) rfl (by rw [ByteArray.size_append, leS_one, leS_one, leS_one]; omega) W
  rw [HH.out] at a2
  clear HH
  generalize leS k 1 ++ leS r 2 = b12 at *
  generalize leS k 1 = b1 at *
  generalize leS r 2 = b2 at *
  generalize leS (ms.length : Int) 1 = b3 at *
  generalize enF k r ms = EF at *
  generalize enH k r ms = EH at *
  clear hok
  go_enter Try.func115, Try.ntmps115
  go_wp2_with fail
  generalize (w.alloc (.cells #[.int .i64 k, .int .i64 r, .slice A ms.length cap] 64)) = w0 at *
  have HSt : Hid (∀ W, Below w0.heap.size w0 W → W.cell? ⟨w.heap.size, 0, none⟩ = some (.int .i64 k) ∧ W.cell? ⟨w.heap.size, 1, none⟩ = some (.int .i64 r) ∧ W.cell? ⟨w.heap.size, 2, none⟩ = some (.slice A ms.length cap)) := Lib.hid (fun W hW => by
    have hr := (hW.block _ Lt0.out).trans R0.out
    exact ⟨by rw [cell_of_row _ _ _ _ _ _ hr]; rfl, by rw [cell_of_row _ _ _ _ _ _ hr]; rfl, by rw [cell_of_row _ _ _ _ _ _ hr]; rfl⟩)
  have HD : Hid (Below w0.heap.size w0 w0.drew) := Lib.hid (Below.refl _ _).drew
  go_region_held3 (fun W => W.cell? ⟨w.heap.size, 0, none⟩ = some (.int .i64 k) ∧ W.cell? ⟨w.heap.size, 1, none⟩ = some (.int .i64 r) ∧ W.cell? ⟨w.heap.size, 2, none⟩ = some (.slice A ms.length cap)) (exact HSt.out _ (by first | exact kb3 | exact kb2 | exact kb1 | exact HD.out))
    ((first | (go_at_call 181; go_fit (F1.out _); rintro e u1 ⟨rfl, g1⟩; have kb1 : Below w0.heap.size w0 u1 := HD.out.trans (g1.mono HD.out.size)) | (go_at_call 182; go_fit (F2.out _); rintro e u2 ⟨rfl, g2⟩; have kb2 : Below w0.heap.size w0 u2 := kb1.trans (g2.mono kb1.size)) | (go_at_call 181; go_fit (F3.out _); rintro e u3 ⟨rfl, g3⟩; have kb3 : Below w0.heap.size w0 u3 := kb2.trans (g3.mono kb2.size))))
  try simp only [Exit.then]
  have Hk3 : Hid (Below w0.heap.size w0 u3) := Lib.hid kb3
  clear kb1 kb2 kb3 g1 g2 g3 a1 a2 F1 F2 F3
  go_wp2_with fail
  go_loopw [3, 4] (fun v i wr => ∃ j : Nat, j ≤ ms.length ∧ i = .int .i64 j ∧ v = .string (enT EH ms j) ∧ Below w0.heap.size w0 wr) (fun _ i _ => ms.length - (intOf i).toNat)
  case atStart => exact ⟨0, Nat.zero_le _, rfl, rfl, Hk3.out⟩
  case round =>
    obtain ⟨j, hj, rfl, rfl, hbel⟩ := hrel
    have Hbel := Lib.hid hbel
    have q2 := (HSt.out wr hbel).2.2
    have hbw : Below w.heap.size w wr := Hb0.out.trans (hbel.mono Hb0.out.size)
    have hsz := hbel.size
    by_cases hlt : j < ms.length
    · obtain ⟨bb, o, rfl, hb, hc0, hc1, hc2, -⟩ := Hx.out j hlt
      have Hld := Lib.hid (run_load_cells (P := Try.prog) wr bb (o + j * 3) 70 _ [.int .i64 ms[j].1, .int .i64 ms[j].2.1, .string ms[j].2.2] (cells_M (by rw [hbw.cell (show bb < _ from by omega)]; exact hc0) (by rw [hbw.cell (show bb < _ from by omega)]; exact hc1) (by rw [hbw.cell (show bb < _ from by omega)]; exact hc2)) Try.underlying70 rfl)
      have hd := HD2.out j hlt
      have hS := HSZ.out j hj
      have HS : Hid (enT EH ms (j + 1) = enT EH ms j ++ (((leS ms[j].1 1 ++ leS ms[j].2.1 1) ++ leS ms[j].2.2.size 1) ++ ms[j].2.2)) := Lib.hid (enT_succ EH ms j hlt)
      clear hc0 hc1 hc2 hbw hbel
      generalize ms[j].1 = z at *
      generalize ms[j].2.1 = f at *
      generalize ms[j].2.2 = d at *
      generalize hN : enT EH ms (j + 1) = S1 at *
      have HN := Lib.hid hN; clear hN
      generalize enT EH ms j = S0 at *
      have F1 := Lib.hid (fun W => l02Byte_any z W)
      have F2 := Lib.hid (fun W => l02Byte_any f W)
      have F3 := Lib.hid (fun W => l02Byte_any (d.size : Int) W)
      have z1 := leS_one z 1; have z2 := leS_one f 1; have z3 := leS_one (d.size : Int) 1
      generalize leS z 1 = b1 at *
      generalize leS f 1 = b2 at *
      generalize leS (d.size : Int) 1 = b3 at *
      have a1 := fun W => addS (a := b1) (b := b2) rfl (by omega) W
      have a2 := fun W => addS (a := b1 ++ b2) (b := b3) rfl (by rw [ByteArray.size_append]; omega) W
      have a3 := fun W => addS (a := (b1 ++ b2) ++ b3) (b := d) rfl (by rw [ByteArray.size_append, ByteArray.size_append]; omega) W
      have a4 := fun W => addS (a := S0) (b := ((b1 ++ b2) ++ b3) ++ d) HS.out.symm (by rw [ByteArray.size_append, ByteArray.size_append, ByteArray.size_append]; omega) W
      clear HS
      generalize ((b1 ++ b2) ++ b3) ++ d = t4 at *
      generalize (b1 ++ b2) ++ b3 = t3 at *
      generalize b1 ++ b2 = t2 at *
      clear z1 z2 z3
      have RM : Hid ((wr.alloc (.cells #[.int .i64 z, .int .i64 f, .string d] 70)).heap[wr.heap.size]? = some (.cells #[.int .i64 z, .int .i64 f, .string d] 70 (0, 0))) := Lib.hid (heap_alloc_new wr _)
      have LM : Hid (wr.heap.size < (wr.alloc (.cells #[.int .i64 z, .int .i64 f, .string d] 70)).heap.size) := Lib.hid (by simp)
      have BM : Hid (Below w0.heap.size w0 (wr.alloc (.cells #[.int .i64 z, .int .i64 f, .string d] 70))) := Lib.hid (Hbel.out.alloc hsz _)
      go_wp2_with (refine wpList_load_agg rfl 70 (.tmp 28) rfl _ rfl _ Hld.out ?_)
      clear q2 Hld
      generalize (wr.alloc (.cells #[.int .i64 z, .int .i64 f, .string d] 70)) = w5 at *
      generalize wr.heap.size = bm at *
      have HSm : Hid (∀ W, Below w5.heap.size w5 W → W.cell? ⟨bm, 0, none⟩ = some (.int .i64 z) ∧ W.cell? ⟨bm, 1, none⟩ = some (.int .i64 f) ∧ W.cell? ⟨bm, 2, none⟩ = some (.string d)) := Lib.hid (fun W hW => by
        have hr := (hW.block _ LM.out).trans RM.out
        exact ⟨by rw [cell_of_row _ _ _ _ _ _ hr]; rfl, by rw [cell_of_row _ _ _ _ _ _ hr]; rfl, by rw [cell_of_row _ _ _ _ _ _ hr]; rfl⟩)
      have HDm : Hid (Below w5.heap.size w5 w5.drew) := Lib.hid (Below.refl _ _).drew
      go_region_held3 (fun W => W.cell? ⟨bm, 0, none⟩ = some (.int .i64 z) ∧ W.cell? ⟨bm, 1, none⟩ = some (.int .i64 f) ∧ W.cell? ⟨bm, 2, none⟩ = some (.string d)) (exact HSm.out _ (by first | exact kb3 | exact kb2 | exact kb1 | exact HDm.out))
        ((first | (go_at_call 181; go_fit (F1.out _); rintro e u1 ⟨rfl, g1⟩; have kb1 : Below w5.heap.size w5 u1 := HDm.out.trans (g1.mono HDm.out.size)) | (go_at_call 181; go_fit (F2.out _); rintro e u2 ⟨rfl, g2⟩; have kb2 : Below w5.heap.size w5 u2 := kb1.trans (g2.mono kb1.size)) | (go_at_call 181; go_fit (F3.out _); rintro e u3 ⟨rfl, g3⟩; have kb3 : Below w5.heap.size w5 u3 := kb2.trans (g3.mono kb2.size))))
      try simp only [Exit.then]
      have Hk5 : Hid (Below w0.heap.size w0 u3) := Lib.hid (BM.out.trans (kb3.mono BM.out.size))
      clear kb1 kb2 kb3 g1 g2 g3 a1 a2 a3 a4 F1 F2 F3
      go_wp2_with fail
      go_roundw
      case rel => exact ⟨j + 1, by omega, by go_num, by rw [HN.out], Hk5.out⟩
      case measure => simp [intOf]; omega
    · obtain rfl : j = ms.length := by omega
      clear hbel hbw
      go_wp2_with fail
      go_ret
      exact ⟨by rw [HF.out]; rfl, Hb0.out.trans (Hbel.out.mono Hb0.out.size)⟩
end Go.Proofs.Ytlickjmdlooapaa
