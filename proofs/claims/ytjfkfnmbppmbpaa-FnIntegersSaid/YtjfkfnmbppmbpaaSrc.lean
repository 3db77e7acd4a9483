/- The drawing functions' source of choices: what it is in memory, and the contract of its one step. No statement is proved here. -/
import Derived.Test.YtjfkfnmbppmbpaaRows
import Derived.WalkKit
import Derived.WalkSpells
import Derived.Lib.Hide
import Derived.Laws.OwnMore
import Derived.Deep.QuietTactic
import Derived.BigQuiet
import Derived.Deep.Draws
import Derived.Lib.EndianBits
namespace Go.Proofs.Ytjfkfnmbppmbpaa
open Go.RowKit
set_option linter.unusedVariables false

/-- The source lies in block g: its bytes, how many steps it has made (at most K), its seed. -/
def Src (w : World) (g : Nat) (A : Option Addr) (n cap K : Nat) : Prop := ∃ a s : Int, w.heap[g]? = some (.cells #[.slice A n cap, .int .i64 a, .int .u64 s] 64 (0, 0)) ∧ 0 ≤ a ∧ a ≤ K ∧ 0 ≤ s ∧ s < 18446744073709551616
/-- The bytes that it reads, below block B. -/
def CodeIs (w : World) (B : Nat) (A : Option Addr) (n : Nat) : Prop := ∀ i, i < n → ∃ (b o : Nat) (v : Int), A = some ⟨b, o, none⟩ ∧ b < B ∧ 0 ≤ v ∧ v < 256 ∧ w.cell? ⟨b, o + i, none⟩ = some (.int .u8 v)

theorem grownBy_trans {w w1 w2 : World} {row : Option Nat} (h : w.grownBy w1 row) (k : w1.grownBy w2 row) : w.grownBy w2 row :=
  ⟨k.os.trans h.os, k.tape.trans h.tape, k.output.trans h.output, Nat.le_trans h.size k.size, fun j hj hne => (k.block j (Nat.lt_of_lt_of_le hj h.size) hne).trans (h.block j hj hne)⟩
theorem grownBy_drewN {w w1 : World} {row : Option Nat} (h : w.grownBy w1 row) (q : Nat) : w.grownBy (w1.drewN q) row := by
  induction q with
  | zero => exact h
  | succ q ih => exact ⟨ih.os, ih.tape, ih.output, ih.size, ih.block⟩
theorem grownBy_drew {w w1 : World} {row : Option Nat} (h : w.grownBy w1 row) : w.grownBy w1.drew row := ⟨h.os, h.tape, h.output, h.size, h.block⟩
theorem grownBy_set {w w1 : World} {g : Nat} (h : w.grownBy w1 (some g)) (o : Nat) (v : Value) : w.grownBy (w1.setCell ⟨g, o, none⟩ v) (some g) :=
  ⟨h.os, h.tape, h.output, by simpa using h.size, fun j hj hne => (heap_setCell_other w1 ⟨g, o, none⟩ j v (fun e => hne (by simp [e]))).trans (h.block j hj hne)⟩
theorem CodeIs.grown {w w' : World} {B : Nat} {A : Option Addr} {n g : Nat} (h : CodeIs w B A n) (hg : w.grownBy w' (some g)) (hB : B ≤ g) : CodeIs w' B A n := fun i hi => by
  obtain ⟨b, o, v, e, hb, h0, h1, hc⟩ := h i hi
  exact ⟨b, o, v, e, hb, h0, h1, hg.cell hc (by simp; omega)⟩
theorem CodeIs.more {w : World} {B B' : Nat} {A : Option Addr} {n : Nat} (h : CodeIs w B A n) (hB : B ≤ B') : CodeIs w B' A n := fun i hi => by
  obtain ⟨b, o, v, e, hb, h0, h1, hc⟩ := h i hi
  exact ⟨b, o, v, e, by omega, h0, h1, hc⟩
theorem Src.lt {w : World} {g : Nat} {A : Option Addr} {n cap K : Nat} (h : Src w g A n cap K) : g < w.heap.size := by
  obtain ⟨a, s, hb, _⟩ := h
  rcases Nat.lt_or_ge g w.heap.size with hl | hl
  · exact hl
  · rw [Array.getElem?_eq_none hl] at hb; cases hb
theorem Src.more {w : World} {g : Nat} {A : Option Addr} {n cap K K' : Nat} (h : Src w g A n cap K) (hk : K ≤ K') : Src w g A n cap K' := by
  obtain ⟨a, s, hb, h0, h1, h2, h3⟩ := h
  exact ⟨a, s, hb, h0, by omega, h2, h3⟩

theorem u64_and255 (n : Int) : bits .and .u64 n 255 = n % 256 := by
  have h255 : (BitVec.ofInt 64 255).toNat = 2 ^ 8 - 1 := by decide
  have key : (BitVec.ofInt 64 n &&& BitVec.ofInt 64 255).toNat = (n % ((2 ^ 64 : Nat) : Int)).toNat % 2 ^ 8 := by
    rw [BitVec.toNat_and, BitVec.toNat_ofInt, h255, Nat.and_two_pow_sub_one_eq_mod]
  show IntKind.u64.wrap ((BitVec.ofInt 64 n &&& BitVec.ofInt 64 255).toNat : Nat) = n % 256
  rw [key, IntKind.wrap_u64]
  omega
theorem src_step {w : World} {g : Nat} {c : Value} {a s : Value} (h : w.heap[g]? = some (.cells #[c, a, s] 64 (0, 0))) (q q' : Nat) (a' s' : Value) :
    ((((w.drewN q).setCell ⟨g, 1, none⟩ a').setCell ⟨g, 2, none⟩ s').drewN q').heap[g]? = some (.cells #[c, a', s'] 64 (0, 0)) := by
  have h0 : (w.drewN q).heap[g]? = some (.cells #[c, a, s] 64 (0, 0)) := by rw [World.heap_drewN]; exact h
  rw [World.heap_drewN, heap_setCell_same _ g 2 _ _ _ (heap_setCell_same _ g 1 _ _ _ h0)]
  rfl
set_option maxHeartbeats 800000 in
theorem next_any (g : Nat) (A : Option Addr) (n cap K B : Nat) (hn : n ≤ 1048576) (hK : K ≤ 4611686018427387904) (hB : B ≤ g) (w : World) (hs : Src w g A n cap K) (hcode : CodeIs w B A n) :
    Calls Try.prog 62 #[.pointer (some ⟨g, 0, none⟩)] w fun e w' => ∃ v : Int, e = .returned (.int .i64 v) ∧ 0 ≤ v ∧ v ≤ 255 ∧ Src w' g A n cap (K + 1) ∧ w.grownBy w' (some g) := by
  obtain ⟨a, s, hb, ha0, haK, hs0, hs1⟩ := hs
  have c0 := cell_of_row w g 0 _ _ _ hb
  have c1 := cell_of_row w g 1 _ _ _ hb
  have c2 := cell_of_row w g 2 _ _ _ hb
  have f1 := frozen_of_row w g 1 _ _ hb
  have f2 := frozen_of_row w g 2 _ _ hb
  simp at c0 c1 c2
  have Hb := Lib.hid hb; clear hb
  by_cases hlt : a < (n : Int)
  · obtain ⟨i, rfl⟩ := Int.eq_ofNat_of_zero_le ha0
    obtain ⟨b, o, v, rfl, hbB, hv0, hv1, hc⟩ := hcode i (by omega)
    have hle : ((i : Int) + 1 ≤ (n : Int)) := by omega
    clear hcode
    go_enter Try.func62, Try.ntmps62
    go_wp2_with fail
    go_quiet (fail)
    go_wp2_with fail
    go_quiet (fail)
    go_wp2_with fail
    go_quiet (fail)
    go_wp2_with fail
    go_ret
    have hw := IntKind.wrap_u64 (IntKind.u64.wrap (IntKind.u64.wrap (s * 6364136223846793005) + v) + 1442695040888963407)
    refine ⟨v, rfl, hv0, by omega, ⟨(i : Int) + 1, _, src_step Hb.out _ _ _ _, by omega, by omega, by rw [hw]; omega, by rw [hw]; omega⟩, ?_⟩
    exact grownBy_drewN (grownBy_set (grownBy_set (grownBy_drewN (World.grownBy.refl _ _) _) _ _) _ _) _
  · have hnlt : decide (a < (n : Int)) = false := by simp; omega
    have hnle : decide (a + 1 ≤ (n : Int)) = false := by simp; omega
    have hnle' : (n : Int) < a + 1 := by omega
    clear hcode
    go_enter Try.func62, Try.ntmps62
    go_wp2_with fail
    go_quiet (fail)
    go_wp2_with fail
    go_quiet (fail)
    go_wp2_with fail
    go_ret
    have hw := IntKind.wrap_u64 (IntKind.u64.wrap (IntKind.u64.wrap (s * 6364136223846793005)) + 1442695040888963407)
    refine ⟨_, rfl, ?_, ?_, ⟨a + 1, _, src_step Hb.out _ _ _ _, by omega, by omega, by rw [hw]; omega, by rw [hw]; omega⟩, ?_⟩
    · rw [u64_and255]; unfold wrap64; omega
    · rw [u64_and255]; unfold wrap64; omega
    · exact grownBy_drewN (grownBy_set (grownBy_set (grownBy_drewN (World.grownBy.refl _ _) _) _ _) _ _) _
end Go.Proofs.Ytjfkfnmbppmbpaa
