/- The contract of the program's NewDisk. No statement is proved here. -/
import Derived.Test.YtlickjmdlooapaaDrv
namespace Go.Proofs.Ytlickjmdlooapaa
open Go.RowKit
set_option linter.unusedVariables false
set_option maxRecDepth 100000 in
theorem Try.infoSec : (Try.prog.info? 251).map (fun i => (i.zero.map Value.cells, i.size, i.bytes)) = some (some (Array.replicate 64 (Value.int .u8 0)), 64, 64) := by kernel_rfl
/-- New sectors. -/
theorem make_sec (n : Nat) (hn : n ≤ 1048576) : ∃ C : Array Value, C.size = n * 64 ∧ (∀ k, k < n * 64 → C[k]? = some (.int .u8 0)) ∧
    ∀ w : World, (Instr.makeSlice 200 (.int .i64 (n : Int)) (.int .i64 (n : Int))).run Try.prog w = .ok (.slice (some ⟨w.heap.size, 0, none⟩) n n) (w.alloc (.cells C 251)) := by
  obtain ⟨i, hi, he⟩ := Option.map_eq_some_iff.1 Try.infoSec
  simp only [Prod.mk.injEq] at he
  obtain ⟨hz, hs, hb⟩ := he
  obtain ⟨z, hz1, hz2⟩ := Option.map_eq_some_iff.1 hz
  refine ⟨madeCells z.cells (n * 64), size_madeCells _ _, fun k hk => ?_, fun w => ?_⟩
  · rw [hz2, madeCells, Array.getElem?_map, Array.getElem?_range]
    rw [if_pos hk]
    have : k % 64 < 64 := Nat.mod_lt _ (by omega)
    simp only [Option.map_some, Array.size_replicate]
    rw [getElem!_pos _ _ (by simpa using this)]
    simp
  · have := run_make (P := Try.prog) w 200 251 i z Try.underlying200 hi hz1 .i64 .i64 n n (by omega) (Int.le_refl _) (by rw [hb]; omega) (by omega)
    rw [hs] at this
    simpa only [Int.toNat_natCast] using this
theorem zeros_at (j : Nat) (h : j < (zeros 64).size) : (zeros 64)[j] = 0 := by
  exact List.eq_of_mem_replicate (List.getElem_mem (l := List.replicate 64 (0 : UInt8)) h)
theorem sec_new {W : World} {S n : Nat} {C : Array Value} (hC : C.size = n * 64) (hz : ∀ k, k < n * 64 → C[k]? = some (.int .u8 0)) (h : W.heap[S]? = some (.cells C 251 (0, 0))) : Sec W S (zs n) := by
  refine ⟨C, h, by rw [zs_len]; exact hC, fun i hi => ?_⟩
  rw [zs_len] at hi
  have e : (zs n)[i]'(by rw [zs_len]; exact hi) = zeros 64 := List.eq_of_mem_replicate (List.getElem_mem _)
  rw [e]
  refine ⟨by decide, fun j hj => ?_⟩
  rw [hz _ (by have : j < 64 := hj; omega), zeros_at j hj]
  rfl
theorem OT.slv {w : World} {lo : Nat} {v : Value} {ss : List ByteArray} (h : OT w lo v ss) : ∃ A m c, v = .slice A m c := by
  rcases OT.sl h with ⟨rfl, _⟩ | ⟨g, cap, rfl, _⟩
  · exact ⟨_, _, _, rfl⟩
  · exact ⟨_, _, _, rfl⟩
theorem rows3 (w : World) (o0 o1 o2 : Obj) : (((w.alloc o0).alloc o1).alloc o2).heap[w.heap.size]? = some o0 ∧ (((w.alloc o0).alloc o1).alloc o2).heap[w.heap.size + 1]? = some o1 ∧ (((w.alloc o0).alloc o1).alloc o2).heap[w.heap.size + 1 + 1]? = some o2 ∧
    (((w.alloc o0).alloc o1).alloc o2).heap.size = w.heap.size + 3 ∧ Below w.heap.size w (((w.alloc o0).alloc o1).alloc o2) := by
  have z1 : (w.alloc o0).heap.size = w.heap.size + 1 := by simp
  have z2 : ((w.alloc o0).alloc o1).heap.size = w.heap.size + 1 + 1 := by simp
  refine ⟨?_, ?_, ?_, by simp, (((Below.refl _ w).alloc (Nat.le_refl _) _).alloc (by omega) _).alloc (by omega) _⟩
  · rw [heap_alloc_old _ _ (by omega), heap_alloc_old _ _ (by omega)]; exact heap_alloc_new _ _
  · rw [heap_alloc_old _ _ (by omega), ← z1]; exact heap_alloc_new _ _
  · rw [← z2]; exact heap_alloc_new _ _
end Go.Proofs.Ytlickjmdlooapaa
