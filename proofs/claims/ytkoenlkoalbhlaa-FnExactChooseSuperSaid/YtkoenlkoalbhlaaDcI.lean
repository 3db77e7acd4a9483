/- The program's DecodeSuper: the closure that reads a half's next number. No statement is proved here. -/
import Derived.Test.YtkoenlkoalbhlaaDcS
import Derived.Test.YtkoenlkoalbhlaaHlI
import Derived.Deep.DeepFit
import Derived.Deep.RegionHeld3
namespace Go.Proofs.Ytkoenlkoalbhlaa
open Go.RowKit
set_option linter.unusedVariables false
/-- The cells of a half with these bytes. -/
def hcA (h : ByteArray) : Array Value := (Lib.byteCells h.data.toList).toArray
theorem conv_hc {w : World} {g : Nat} {h : ByteArray} (hz : h.size = 32) (hg : w.heap[g]? = some (.cells (hcA h) 121 (0, 0))) : ∀ W : World, W.heap = w.heap → (convert 122 9 (.slice (some ⟨g, 0, none⟩) 32 32)).run Try.prog W = .ok (.string h) W := fun W hW => by
  have hb : Lib.Bytes W g 0 h := fun i hi => by
    rw [Nat.zero_add, cell_of_row W g i _ 121 (0, 0) (by rw [hW]; exact hg)]
    have hl : i < h.data.toList.length := by simpa using hi
    simp only [hcA, Lib.byteCells, List.getElem?_toArray, List.getElem?_map, List.getElem?_eq_getElem hl, Option.map_some]
    rw [bytes_list _ _ hi]
  have := Lib.run_convert_whole (P := Try.prog) W 122 5 9 Try.underlying122 Try.underlying5 Try.underlying9 g 0 h hb 32
  rw [hz] at this
  exact this
/-- 'copy(dst, s)', s a string that does not fit: as much of it goes over as dst holds. -/
theorem run_copy_long {P : Program} (w : World) (dT sT ty elem : TypeId) (g o dLen dCap : Nat) (s : ByteArray) (cur : Array Value) (t : TypeId)
    (hu : P.underlying dT = some (.slice elem)) (hs : (P.info? elem).map (·.size) = some 1) (hg : w.heap[g]? = some (.cells cur t (0, 0))) (hle : dLen ≤ s.size) (hfit : o + dLen ≤ cur.size) :
    (Builtin.copy_ #[dT, sT] ty #[.slice (some ⟨g, o, none⟩) dLen dCap, .string s]).run P w =
      .ok (goInt dLen) (w.setRow g (cur.toList.take o ++ Lib.byteCells (s.data.toList.take dLen) ++ cur.toList.drop (o + dLen)).toArray) := by
  have hz : s.data.toList.length = s.size := by simp
  have hlen : (Lib.byteCells (s.data.toList.take dLen)).length = dLen := by rw [Lib.byteCells_length, List.length_take]; omega
  have hst := run_storeCells_at P g o t (Lib.byteCells (s.data.toList.take dLen)) 0 cur w hg (by rw [hlen]; simpa using hfit) (Lib.byteCells_one _)
  have hmin : Nat.min s.size dLen = dLen := Nat.min_eq_right hle
  have htk : List.take dLen (List.map (fun b : UInt8 => Value.int IntKind.u8 (b.toNat : Int)) s.data.toList) = Lib.byteCells (s.data.toList.take dLen) := by
    rw [← List.map_take]
    rfl
  rw [hlen] at hst
  simp only [Nat.add_zero] at hst
  cases hq : P.info? elem with
  | none => simp [hq] at hs
  | some i =>
    simp [Builtin.copy_, run_underlying hu, Builtin.lenOf, Builtin.firstCells, sizeOf, typeInfo, hq, hmin]
    rw [htk, hst]
    simp [Result.andThen]
set_option maxHeartbeats 2000000 in
set_option maxRecDepth 100000 in
theorem next_any {w : World} {g c a m : Nat} {h : ByteArray} (hz : h.size = 32) (hg : w.heap[g]? = some (.cells (hcA h) 121 (0, 0))) (hc : w.heap[c]? = some (.cells #[.int .i64 a] 2 (0, 0))) (h1 : 1 ≤ m) (h8 : m ≤ 8) (ham : a + m ≤ 32) :
    Calls Try.prog 135 #[.int .i64 m, .pointer (some ⟨g, 0, none⟩), .pointer (some ⟨c, 0, none⟩)] w fun e w' => e = .returned (.int .i64 (gV h a m)) ∧
      w'.heap[c]? = some (.cells #[.int .i64 ((a + m : Nat) : Int)] 2 (0, 0)) ∧ (∀ k, k ≠ c → w'.heap[k]? = w.heap[k]?) ∧ w'.heap.size = w.heap.size ∧ Below c w w' := by
  have hcd : (convert 122 9 (.slice (some ⟨g, 0, none⟩) 32 32)).run Try.prog w.drew = .ok (.string h) w.drew := conv_hc hz hg w.drew rfl
  have q0 : w.cell? ⟨c, 0, none⟩ = some (.int .i64 a) := by rw [cell_of_row _ _ _ _ _ _ hc]; rfl
  have f0 : w.frozen? ⟨c, 0, none⟩ = false := frozen_of_row _ _ _ _ _ hc
  have HG := Lib.hid (fun W => by have h := implGetUint_any h a m (by omega) (by omega) W; rwa [getU_gV _ a m h1 h8 (by omega)] at h)
  have hwr : IntKind.i64.wrap ((a : Int) + (m : Int)) = (a : Int) + (m : Int) := IntWalk.i64_in _ (by omega)
  have Hc := Lib.hid hc
  clear hc hg h1 h8
  generalize gV h a m = x at *
  generalize gB h a m = b at *
  go_enter Try.func135, Try.ntmps135
  go_wp2
  go_region_held3 (fun W => W.cell? ⟨c, 0, none⟩ = some (.int .i64 a) ∧ (convert 122 9 (.slice (some ⟨g, 0, none⟩) 32 32)).run Try.prog W = .ok (.string h) W) (exact ⟨q0, hcd⟩)
    ((go_at_call 136; go_fit (HG.out _); rintro e u1 ⟨rfl, rfl⟩))
  simp only [Exit.then]
  clear q0 f0 hcd
  have Hc2 : Hid (w.drew.heap[c]? = some (.cells #[.int .i64 a] 2 (0, 0))) := Hc
  have HS := Lib.hid (heap_setCell_same w.drew c 0 _ _ (.int .i64 ((a + m : Nat) : Int)) Hc2.out)
  have HB : Hid (Below c w (w.drew.setCell ⟨c, 0, none⟩ (.int .i64 ((a + m : Nat) : Int)))) := Lib.hid (((Below.refl c w).drew).setCell (p := ⟨c, 0, none⟩) (Nat.le_refl _) _)
  have q0 : w.drew.cell? ⟨c, 0, none⟩ = some (.int .i64 a) := by rw [cell_of_row _ _ _ _ _ _ Hc2.out]; rfl
  have f0 : w.drew.frozen? ⟨c, 0, none⟩ = false := frozen_of_row _ _ _ _ _ Hc2.out
  go_wp2_with fail
  go_ret
  exact ⟨rfl, HS.out, fun k hk => heap_setCell_other _ ⟨c, 0, none⟩ k _ hk, by simp, HB.out⟩
set_option maxHeartbeats 2000000 in
set_option maxRecDepth 100000 in
theorem super_any {h : ByteArray} (hz : h.size = 32) (w : World) :
    Calls Try.prog 85 #[.agg (hcA h)] w (GivesB (.agg #[.int .i64 (gV h 5 2), .int .i64 (gV h 7 2), .int .i64 (gV h 9 8), .int .i64 (gV h 17 8)]) w) := by
  have HF1 := Lib.hid (fun W => by
    have := implPutUint_any 1 1 (by omega) W
    rwa [show putU 1 1 = leS 1 1 from putU_le (s := 1) (by omega) (by omega) (by omega) (by decide)] at this)
  have s1 : (leS 1 1).size = 1 := leS_sz _ _
  have HB := Lib.hid (boxes2 w (hcA h) #[.int .i64 0, .int .i64 0, .int .i64 0, .int .i64 0] 121 41)
  have Hz := Lib.hid hz; clear hz
  generalize leS 1 1 = b1 at *
  go_enter Try.func85, Try.ntmps85
  go_wp2_with fail
  generalize ((w.alloc (.cells (hcA h) 121)).alloc (.cells #[.int .i64 0, .int .i64 0, .int .i64 0, .int .i64 0] 41)) = w0 at *
  refine (HF1.out w0).mono ?_
  rintro e w1 ⟨rfl, g1⟩
  have RG : Hid (w1.heap[w.heap.size]? = some (.cells (hcA h) 121 (0, 0))) := Lib.hid ((g1.block _ (by have := HB.out.2.2.1; omega)).trans HB.out.1)
  have RS : Hid (w1.heap[w.heap.size + 1]? = some (.cells #[.int .i64 0, .int .i64 0, .int .i64 0, .int .i64 0] 41 (0, 0))) := Lib.hid ((g1.block _ (by have := HB.out.2.2.1; omega)).trans HB.out.2.1)
  have B1 : Hid (Below w.heap.size w w1) := Lib.hid (HB.out.2.2.2.trans (g1.mono HB.out.2.2.2.size))
  have Z1 : Hid (w.heap.size + 2 ≤ w1.heap.size) := Lib.hid (by have := HB.out.2.2.1; have := g1.size; omega)
  clear g1
  have hk : ((((⟨#[65, 82, 82, 83]⟩ : ByteArray) ++ b1).size : Nat) : Int) = 5 := by rw [ByteArray.size_append, s1]; rfl
  go_wp2_with fail
  generalize hcw : w1.heap.size = c at *
  have hg : (w1.alloc (.cells #[.int .i64 5] 2)).heap[w.heap.size]? = some (.cells (hcA h) 121 (0, 0)) := (((Below.refl _ w1).alloc (Nat.le_refl _) (.cells #[.int .i64 5] 2)).block _ (by have := Z1.out; omega)).trans RG.out
  have hc : (w1.alloc (.cells #[.int .i64 5] 2)).heap[c]? = some (.cells #[.int .i64 ((5 : Nat) : Int)] 2 (0, 0)) := by subst hcw; exact heap_alloc_new w1 _
  have hsup : (w1.alloc (.cells #[.int .i64 5] 2)).heap[w.heap.size + 1]? = some (.cells #[.int .i64 0, .int .i64 0, .int .i64 0, .int .i64 0] 41 (0, 0)) := (((Below.refl _ w1).alloc (Nat.le_refl _) (.cells #[.int .i64 5] 2)).block _ (by have := Z1.out; omega)).trans RS.out
  have hbw : Below w.heap.size w (w1.alloc (.cells #[.int .i64 5] 2)) := B1.out.alloc B1.out.size _
  have H0g := Lib.hid hg; have H0c := Lib.hid hc; have H0s := Lib.hid hsup; have H0b := Lib.hid hbw
  clear hg hc hsup hbw
  generalize (w1.alloc (.cells #[.int .i64 5] 2)) = v0 at *
  refine (next_any (a := 5) (m := 2) Hz.out H0g.out H0c.out (by omega) (by omega) (by omega)).mono ?_
  rintro e v1 ⟨rfl, hc, ho, hsz, hb⟩
  have H1g := Lib.hid ((ho w.heap.size (by have := Z1.out; omega)).trans H0g.out)
  have H1s := Lib.hid ((ho (w.heap.size + 1) (by have := Z1.out; omega)).trans H0s.out)
  have H1c : Hid (v1.heap[c]? = some (.cells #[.int .i64 ((7 : Nat) : Int)] 2 (0, 0))) := Lib.hid hc
  have H1b := Lib.hid (H0b.out.trans (hb.mono (by have := Z1.out; omega)))
  clear hc ho hsz hb
  go_wp2_with fail
  refine (next_any (a := 7) (m := 2) Hz.out H1g.out H1c.out (by omega) (by omega) (by omega)).mono ?_
  rintro e v2 ⟨rfl, hc, ho, hsz, hb⟩
  have H2g := Lib.hid ((ho w.heap.size (by have := Z1.out; omega)).trans H1g.out)
  have H2s := Lib.hid ((ho (w.heap.size + 1) (by have := Z1.out; omega)).trans H1s.out)
  have H2c : Hid (v2.heap[c]? = some (.cells #[.int .i64 ((9 : Nat) : Int)] 2 (0, 0))) := Lib.hid hc
  have H2b := Lib.hid (H1b.out.trans (hb.mono (by have := Z1.out; omega)))
  clear hc ho hsz hb
  go_wp2_with fail
  refine (next_any (a := 9) (m := 8) Hz.out H2g.out H2c.out (by omega) (by omega) (by omega)).mono ?_
  rintro e v3 ⟨rfl, hc, ho, hsz, hb⟩
  have H3g := Lib.hid ((ho w.heap.size (by have := Z1.out; omega)).trans H2g.out)
  have H3s := Lib.hid ((ho (w.heap.size + 1) (by have := Z1.out; omega)).trans H2s.out)
  have H3c : Hid (v3.heap[c]? = some (.cells #[.int .i64 ((17 : Nat) : Int)] 2 (0, 0))) := Lib.hid hc
  have H3b := Lib.hid (H2b.out.trans (hb.mono (by have := Z1.out; omega)))
  clear hc ho hsz hb
  go_wp2_with fail
  refine (next_any (a := 17) (m := 8) Hz.out H3g.out H3c.out (by omega) (by omega) (by omega)).mono ?_
  rintro e v4 ⟨rfl, hc, ho, hsz, hb⟩
  have H4g := Lib.hid ((ho w.heap.size (by have := Z1.out; omega)).trans H3g.out)
  have H4s := Lib.hid ((ho (w.heap.size + 1) (by have := Z1.out; omega)).trans H3s.out)
  have H4c : Hid (v4.heap[c]? = some (.cells #[.int .i64 ((25 : Nat) : Int)] 2 (0, 0))) := Lib.hid hc
  have H4b := Lib.hid (H3b.out.trans (hb.mono (by have := Z1.out; omega)))
  clear hc ho hsz hb
  generalize gV h 5 2 = x0 at *
  generalize gV h 7 2 = x1 at *
  generalize gV h 9 8 = x2 at *
  generalize gV h 17 8 = x3 at *
  go_wp2_with (refine wpList_store_row rfl 41 (.tmp 2) (.tmp 17) rfl (w.heap.size + 1) #[.int .i64 x0, .int .i64 x1, .int .i64 x2, .int .i64 x3] rfl rfl 41 _ H4s.out (infoS4 _ _ _ _) rfl oneS4 ?_)
  refine bodyPost_ret (v := .agg #[.int .i64 x0, .int .i64 x1, .int .i64 x2, .int .i64 x3]) ?_ rfl ?_
  · exact results_cell_row rfl _ _ (w.heap.size + 1) 41 _ (0, 0) _ rfl (setRow_heap _ _ _ _ _ _ H4s.out) Try.underlying41 rfl (by kernel_rfl)
  · exact ⟨rfl, below_setRow H4b.out (by omega) _⟩
end Go.Proofs.Ytkoenlkoalbhlaa
