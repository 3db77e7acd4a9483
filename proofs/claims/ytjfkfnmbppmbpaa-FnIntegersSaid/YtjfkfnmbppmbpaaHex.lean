/- The contracts of HexText, the program's and the model's. No statement is proved here. -/
import Derived.Test.YtjfkfnmbppmbpaaStep
namespace Go.Proofs.Ytjfkfnmbppmbpaa
open Go.RowKit
set_option linter.unusedVariables false
def digs : ByteArray := ⟨#[48, 49, 50, 51, 52, 53, 54, 55, 56, 57, 97, 98, 99, 100, 101, 102]⟩
theorem digs_at : ∀ q : Fin 16, digs[q.val]? = some (hexC q.val) := by decide +kernel
theorem run_digs (w : World) (k : IntKind) (q : Nat) (hq : q < 16) : (Instr.index 9 (.string ⟨#[48, 49, 50, 51, 52, 53, 54, 55, 56, 57, 97, 98, 99, 100, 101, 102]⟩) (.int k (q : Int))).run Try.prog w = .ok (.int .u8 ((hexC q).toNat : Int)) w := by
  have hsz : digs.size = 16 := by decide
  rw [run_index_string w 9 _ k q Try.underlying9]
  have hi : 0 ≤ (q : Int) ∧ (q : Int) < (digs.size : Int) := by rw [hsz]; omega
  have hi' : 0 ≤ (q : Int) ∧ (q : Int) < ((⟨#[48, 49, 50, 51, 52, 53, 54, 55, 56, 57, 97, 98, 99, 100, 101, 102]⟩ : ByteArray).size : Int) := hi
  rw [dif_pos hi']
  have h1 := digs_at ⟨q, hq⟩
  have h2 : digs[q]? = some (digs[q]'(by omega)) := ByteArray.getElem?_lt' _ _ (by omega)
  rw [h2] at h1
  have h3 := Option.some.inj h1
  have h4 : (digs[(q : Int).toNat]'(by simp; omega)) = hexC q := h3
  show Result.ok (Value.int .u8 ((digs[(q : Int).toNat]'(by simp; omega)).toNat : Int)) w = _
  rw [h4]
theorem u8_and15 : ∀ b : Fin 256, bits .and .u8 (b.val : Int) 15 = ((b.val % 16 : Nat) : Int) := by decide +kernel
/-- What a round reads: the byte, and its two digits. -/
theorem hex_reads (s : ByteArray) (k : Nat) (hlt : k < s.size) : ∃ b : UInt8, s.data.toList.take (k + 1) = s.data.toList.take k ++ [b] ∧ (∀ w1, (Instr.index 9 (.string s) (.int .i64 (k : Int))).run Try.prog w1 = .ok (.int .u8 (b.toNat : Int)) w1) ∧
    (∀ w1, (Instr.index 9 (.string ⟨#[48, 49, 50, 51, 52, 53, 54, 55, 56, 57, 97, 98, 99, 100, 101, 102]⟩) (.int .u8 ((b.toNat : Int) / 16))).run Try.prog w1 = .ok (.int .u8 ((hexC (b.toNat / 16)).toNat : Int)) w1) ∧
    (∀ w1, (Instr.index 9 (.string ⟨#[48, 49, 50, 51, 52, 53, 54, 55, 56, 57, 97, 98, 99, 100, 101, 102]⟩) (.int .u8 (bits .and .u8 (b.toNat : Int) 15))).run Try.prog w1 = .ok (.int .u8 ((hexC (b.toNat % 16)).toNat : Int)) w1) := by
  have hb := byte_lt (s[k]'hlt)
  have hl : s.data.toList.length = s.size := by simp
  refine ⟨s[k]'hlt, ?_, fun w1 => ?_, fun w1 => ?_, fun w1 => ?_⟩
  · rw [List.take_succ_eq_append_getElem (by omega)]; rfl
  · rw [run_index_string w1 9 s .i64 k Try.underlying9, dif_pos ⟨by omega, by omega⟩]
    rfl
  · have := run_digs w1 .u8 ((s[k]'hlt).toNat / 16) (by omega)
    rwa [show ((((s[k]'hlt).toNat / 16 : Nat)) : Int) = ((s[k]'hlt).toNat : Int) / 16 from by omega] at this
  · have := run_digs w1 .u8 ((s[k]'hlt).toNat % 16) (by omega)
    rwa [← u8_and15 ⟨(s[k]'hlt).toNat, hb⟩] at this
set_option maxHeartbeats 400000 in
theorem l01Hex_any (s : ByteArray) (hs : s.size ≤ 1048576) (w : World) :
    Calls Try.prog 50 #[.string s] w fun e w' => e = .returned (.string ⟨(hexL s.data.toList).toArray⟩) ∧ Below w.heap.size w w' := by
  have hl : s.data.toList.length = s.size := by simp
  go_enter Try.func50, Try.ntmps50
  go_wp2
  go_loopw [4, 5] (fun v i wr => ∃ k : Nat, k ≤ s.size ∧ i = .int .i64 k ∧ OwnB wr w.heap.size v (hexL (s.data.toList.take k)) ∧ Below w.heap.size w wr) (fun _ i _ => s.size - (intOf i).toNat)
  case atStart => exact ⟨0, Nat.zero_le _, rfl, World.ownsRow_lit w #[] 0 (Nat.le_refl _) (by decide) rfl, (Below.refl _ _).alloc (Nat.le_refl _) _⟩
  case round =>
    obtain ⟨k, hk, rfl, hown, hbel⟩ := hrel
    have hsz := hbel.size
    by_cases hlt : k < s.size
    · obtain ⟨b, hsb, hix, h1, h2⟩ := hex_reads s k hlt
      have hb := byte_lt b
      have hlen : (hexL (s.data.toList.take k)).length + 2 ≤ 70368744177664 := by rw [hexL_length, List.length_take]; omega
      have Hown := Lib.hid hown; have Hsb := Lib.hid hsb; have Hlen := Lib.hid hlen; have Hl := Lib.hid hl; clear hown hsb hlen hl
      go_wp2
      go_region_held3 (fun w' => True) (trivial)
        ((refine step_app _ wr.heap.size 2 (by rfl) _ _ (by rfl) w.heap.size _ (hexL (s.data.toList.take k)) (by exact OwnB.drew (OwnB.alloc Hown.out _)) (by rfl) (hex2 b) (by exact heap_alloc_new wr _) (by rfl) (by rfl) Hlen.out (by simp; omega) ?_; intro v' w1 hown' hbel'))
      all_goals
        rw [← hexL_snoc, ← Hsb.out] at hown'
        have hbel2 := hbel.trans (((((Below.refl _ wr).alloc hsz _).drew).trans hbel'))
        go_wp2
        go_roundw
        case rel => exact ⟨k + 1, by omega, by go_num, hown', hbel2⟩
        case measure => simp [intOf]; omega
    · have hkm : s.data.toList.take k = s.data.toList := List.take_of_length_le (by omega)
      have hc := conv_own hown
      rw [hkm] at hc
      have Hown := Lib.hid hown; clear hown hkm
      go_wp2
      go_ret
      exact ⟨rfl, hbel⟩
end Go.Proofs.Ytjfkfnmbppmbpaa
