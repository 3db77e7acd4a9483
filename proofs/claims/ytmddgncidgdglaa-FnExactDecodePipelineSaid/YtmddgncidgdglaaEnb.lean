/- Bytes, numbers and lists of bytes as texts: what serves every binary form. No statement is proved here. -/
import Derived.Test.YtmddgncidgdglaaByt
import Derived.Test.YtmddgncidgdglaaNuI
import Derived.Test.YtmddgncidgdglaaPre
import Derived.Below
import Derived.Deep.DeepFit
namespace Go.Proofs.Ytmddgncidgdglaa
open Go.RowKit
set_option linter.unusedVariables false
theorem leS_one (n : Int) (k : Nat) : (leS n k).size = k := by show (leL n k).toArray.size = k; simp [leL]
theorem leL_one (n : Int) : leL n 1 = [byteOf n 0] := rfl
theorem byteOf_and (n : Int) (k : Nat) : byteOf (n / 2 ^ (8 * k) % 256) 0 = byteOf n k := by
  apply UInt8.toNat_inj.1
  have h1 := byteOf_toNat (n / 2 ^ (8 * k) % 256) 0
  have h2 := byteOf_toNat n k
  simp only [Nat.mul_zero, Int.pow_zero, Int.ediv_one] at h1
  rw [Int.emod_emod_of_dvd _ (by decide : (256 : Int) ∣ 256)] at h1
  omega
theorem leS_step (n : Int) (k : Nat) : leS n k ++ leS (n / 2 ^ (8 * k) % 256) 1 = leS n (k + 1) := by
  apply ByteArray.ext
  simp only [leS, ByteArray.data_append, leL_one, byteOf_and]
  rw [leL_succ]
  simp
theorem leS_nil (n : Int) : leS n 0 = ⟨#[]⟩ := rfl
theorem addS {a b c : ByteArray} (hc : a ++ b = c) (h : a.size + b.size ≤ 100000) (w1 : World) : (Op.stringOp .add a b).run Try.prog w1 = .ok (.string c) w1 := by
  subst hc
  exact run_string_add_sum (P := Try.prog) w1 a b (by omega)
theorem putU_leS {n : Int} {s : Nat} (h1 : 1 ≤ s) (h8 : s ≤ 8) (h0 : 0 ≤ n) (h : n < 2 ^ (8 * s)) : putU n (s : Int) = leS n s := by
  have := putU_yes (n := n) (s := (s : Int)) ⟨by omega, by omega, h0, by rw [Int.toNat_natCast]; exact Int.ediv_eq_zero_of_lt h0 (by exact_mod_cast h)⟩
  rw [this, Int.toNat_natCast]
def oc (ns : List Int) : List UInt8 := ns.map fun n => byteOf n 0
theorem oc_take {ns : List Int} {k : Nat} (h : k < ns.length) : oc (ns.take k) ++ [byteOf ns[k] 0] = oc (ns.take (k + 1)) := by
  unfold oc
  rw [← List.take_append_getElem h, List.map_append]; rfl
set_option maxHeartbeats 1000000 in
set_option maxRecDepth 100000 in
theorem octets_any {B : Nat} {w : World} {v : Value} {ns : List Int} (h : Ri B w v ns) (hB : B ≤ w.heap.size) (hl : ns.length ≤ 1000) :
    Calls Try.prog 81 #[v] w (GivesB (.string ⟨(oc ns).toArray⟩) w) := by
  obtain ⟨A, cap, rfl, hln, hcc, hx⟩ := h
  have Hx := Lib.hid hx; clear hx
  unfold maxLen at hcc
  go_enter Try.func81, Try.ntmps81
  go_wp2_with fail
  go_loopw [3, 5, 8] (fun v _ i wr => ∃ k : Nat, k ≤ ns.length ∧ i = .int .i64 k ∧ OwnB wr w.heap.size v (oc (ns.take k)) ∧ Below w.heap.size w wr) (fun _ _ i _ => ns.length - (intOf i).toNat)
  case atStart => exact ⟨0, Nat.zero_le _, rfl, ⟨by simp [oc], .inl ⟨rfl, by simp [oc]⟩⟩, Below.refl _ _⟩
  case round =>
    obtain ⟨k, hk, rfl, hown, hbel⟩ := hrel
    have hsz := hbel.size
    by_cases hlt : k < ns.length
    · obtain ⟨b, o, rfl, hb, hc, -⟩ := Hx.out k hlt
      have q := (hbel.cell (p := ⟨b, o + k, none⟩) (show b < _ by omega)).trans hc
      have HT := Lib.hid (oc_take hlt)
      have hz : (oc (ns.take k)).length = k := by simp [oc]; omega
      generalize ns[k] = z at *
      clear hc
      go_wp2_with (at_builtin; refine wpList_app wr _ 1 rfl (.tmp 12) (.tmp 15) rfl w.heap.size _ _ hown rfl [byteOf z 0] ?c1 rfl rfl ?c2 hsz ?_)
      case c1 => simp [bv, byteOf_toNat]
      case c2 => omega
      intro v' w1 hown' hbel'
      rw [HT.out] at hown'
      have Ho := Lib.hid hown'; clear hown'
      have Hb := Lib.hid (hbel.trans hbel')
      clear q hown hbel hbel'
      go_wp2_with fail
      go_roundw
      case rel => exact ⟨k + 1, by omega, by go_num, Ho.out, Hb.out⟩
      case measure => simp [intOf]; omega
    · have hkm : k = ns.length := by omega
      have hc := conv_own hown
      have He : Hid (oc (ns.take k) = oc ns) := Lib.hid (by rw [hkm, List.take_length])
      have Hb := Lib.hid hbel
      clear hown hbel
      go_wp2_with fail
      go_ret
      exact ⟨by rw [← He.out]; rfl, Hb.out⟩
theorem oc1 (z : Int) : (⟨(oc [z]).toArray⟩ : ByteArray) = leS z 1 := by
  apply ByteArray.ext
  simp [oc, leS, leL]
theorem oc2 (z f : Int) : (⟨(oc [z, f]).toArray⟩ : ByteArray) = leS z 1 ++ leS f 1 := by
  apply ByteArray.ext
  simp [oc, leS, leL]
theorem oc1_ri (w : World) (z : Int) (hz : InI z) : Ri (w.heap.size + 1) (w.alloc (.cells #[.int .i64 z] 2)) (.slice (some ⟨w.heap.size, 0, none⟩) 1 1) [z] := by
  refine ⟨_, 1, rfl, by simp, by unfold maxLen; decide, fun i hi => ⟨w.heap.size, 0, rfl, by omega, ?_, ?_⟩⟩
  · rw [cell_of_row _ _ _ _ _ _ (heap_alloc_new w _)]
    rcases i with _ | i
    · rfl
    · simp at hi
  · rcases i with _ | i
    · exact hz
    · simp at hi
theorem oc2_ri (w : World) (z f : Int) (hz : InI z) (hf : InI f) : Ri (w.heap.size + 1) (w.alloc (.cells #[.int .i64 z, .int .i64 f] 2)) (.slice (some ⟨w.heap.size, 0, none⟩) 2 2) [z, f] := by
  refine ⟨_, 2, rfl, by simp, by unfold maxLen; decide, fun i hi => ⟨w.heap.size, 0, rfl, by omega, ?_, ?_⟩⟩
  · rw [cell_of_row _ _ _ _ _ _ (heap_alloc_new w _)]
    rcases i with _ | _ | i
    · rfl
    · rfl
    · simp at hi; omega
  · rcases i with _ | _ | i
    · exact hz
    · exact hf
    · simp at hi; omega
theorem oct1_any (w : World) (z : Int) (hz : InI z) :
    Calls Try.prog 81 #[.slice (some ⟨w.heap.size, 0, none⟩) 1 1] (w.alloc (.cells #[.int .i64 z] 2)) (GivesB (.string (leS z 1)) (w.alloc (.cells #[.int .i64 z] 2))) := by
  have := octets_any (oc1_ri w z hz) (by simp) (by simp)
  rwa [oc1] at this
theorem oct1d_any (w : World) (z : Int) (hz : InI z) :
    Calls Try.prog 81 #[.slice (some ⟨w.heap.size, 0, none⟩) 1 1] (w.alloc (.cells #[.int .i64 z] 2)).drew (GivesB (.string (leS z 1)) (w.alloc (.cells #[.int .i64 z] 2)).drew) := by
  have := octets_any ((oc1_ri w z hz).up (Nat.le_refl _) (Below.refl _ _).drew) (by simp) (by simp)
  rwa [oc1] at this
theorem oct2d_any (w : World) (z f : Int) (hz : InI z) (hf : InI f) :
    Calls Try.prog 81 #[.slice (some ⟨w.heap.size, 0, none⟩) 2 2] (w.alloc (.cells #[.int .i64 z, .int .i64 f] 2)).drew (GivesB (.string (leS z 1 ++ leS f 1)) (w.alloc (.cells #[.int .i64 z, .int .i64 f] 2)).drew) := by
  have := octets_any ((oc2_ri w z f hz hf).up (Nat.le_refl _) (Below.refl _ _).drew) (by simp) (by simp)
  rwa [oc2] at this
end Go.Proofs.Ytmddgncidgdglaa
