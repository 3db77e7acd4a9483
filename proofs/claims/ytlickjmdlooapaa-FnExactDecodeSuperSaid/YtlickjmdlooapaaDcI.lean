/- The program's DecodeSuper: the closure that reads a half's next number. No statement is proved here. -/
import Derived.Test.YtlickjmdlooapaaDcS
import Derived.Test.YtlickjmdlooapaaHlI
import Derived.Deep.DeepFit
import Derived.Deep.RegionHeld3
namespace Go.Proofs.Ytlickjmdlooapaa
open Go.RowKit
set_option linter.unusedVariables false
/-- The cells of a half with these bytes. -/
def hcA (h : ByteArray) : Array Value := (Lib.byteCells h.data.toList).toArray
theorem conv_hc {w : World} {g : Nat} {h : ByteArray} (hz : h.size = 32) (hg : w.heap[g]? = some (.cells (hcA h) 167 (0, 0))) : ∀ W : World, W.heap = w.heap → (convert 119 9 (.slice (some ⟨g, 0, none⟩) 32 32)).run Try.prog W = .ok (.string h) W := fun W hW => by
  have hb : Lib.Bytes W g 0 h := fun i hi => by
    rw [Nat.zero_add, cell_of_row W g i _ 167 (0, 0) (by rw [hW]; exact hg)]
    have hl : i < h.data.toList.length := by simpa using hi
    simp only [hcA, Lib.byteCells, List.getElem?_toArray, List.getElem?_map, List.getElem?_eq_getElem hl, Option.map_some]
    rw [bytes_list _ _ hi]
  have := Lib.run_convert_whole (P := Try.prog) W 119 5 9 Try.underlying119 Try.underlying5 Try.underlying9 g 0 h hb 32
  rw [hz] at this
  exact this
/-- 'copy(dst, s)', s a string that does not fit: as much of it goes over as dst holds. -/
theorem run_copy_long {P : Program} (w : World) (dT sT ty elem : TypeId) (g o dLen dCap : Nat) (s : ByteArray) (cur : Array Value) (t : TypeId)
    (hu : P.underlying dT = some (.slice elem)) (hs : (P.info? elem).map (·.size) = some 1) (hg : w.heap[g]? = some (.cells cur t (0, 0))) (hle : dLen ≤ s.size) (hfit : o + dLen ≤ cur.size) :
    (Builtin.copy_ #[dT, sT] ty #[.slice (some ⟨g, o, none⟩) dLen dCap, .string s]).run P w =
      .ok (goInt dLen) (w.setRow g (cur.toList.take o ++ Lib.byteCells (s.data.toList.take dLen) ++ cur.toList.drop (o + dLen)).toArray) := by
  have hz : s.data.toList.length = s.size := by simp
  have hlen : (Lib.byteCells (s.data.toList.take dLen)).length = dLen := by rw [Lib.byteCells_length, List.length_take]; omega
  have hst := run_storeCells_at P g o t (Lib.byteCells (s.data.toList.take dLen)) 0 cur w hg (by rw [hlen]; simpa using hfit) (Lib.byteCells_one _)
  have hmin : Nat.min s.size dLen = dLen := Nat.min_eq_right hle
  have htk : List.take dLen (List.map (fun b : UInt8 => Value.int IntKind.u8 (b.toNat : Int)) s.data.toList) = Lib.byteCells (s.data.toList.take dLen) := by
    rw [← List.map_take]
    rfl
  rw [hlen] at hst
  simp only [Nat.add_zero] at hst
  cases hq : P.info? elem with
  | none => simp [hq] at hs
  | some i =>
    simp [Builtin.copy_, run_underlying hu, Builtin.lenOf, Builtin.firstCells, sizeOf, typeInfo, hq, hmin]
    rw [htk, hst]
    simp [Result.andThen]
theorem conv_hr {w : World} {g : Nat} {h : ByteArray} (hz : h.size = 32) (hg : w.heap[g]? = some (.cells (hcA h) 167 (0, 0))) : ∀ W : World, W.heap = w.heap → (convert 119 9 (.slice (some ⟨g, 5, none⟩) 27 27)).run Try.prog W = .ok (.string (h.extract 5 32)) W := fun W hW => by
  have hsz : (h.extract 5 32).size = 27 := by simp [hz]
  have hb : Lib.Bytes W g 5 (h.extract 5 32) := fun i hi => by
    rw [cell_of_row W g (5 + i) _ 167 (0, 0) (by rw [hW]; exact hg)]
    have hl : 5 + i < h.data.toList.length := by simp; omega
    simp only [hcA, Lib.byteCells, List.getElem?_toArray, List.getElem?_map, List.getElem?_eq_getElem hl, Option.map_some]
    rw [ByteArray.getElem_extract]
    rw [bytes_list _ _ (by omega)]
  have := Lib.run_convert_whole (P := Try.prog) W 119 5 9 Try.underlying119 Try.underlying5 Try.underlying9 g 5 (h.extract 5 32) hb 27
  rw [hsz] at this
  exact this
theorem nV_ext (h : ByteArray) (hz : h.size = 32) (a m : Nat) (ham : a + m ≤ 32) : nV (h.extract a 32) m = gV h a m := by
  unfold nV
  rw [if_pos (by simp [hz]; omega), gV_rest h a m 32 ham]
theorem fR_ext (h : ByteArray) (hz : h.size = 32) (a m : Nat) (ham : a + m ≤ 32) : fR (h.extract a 32) m = h.extract (a + m) 32 := by
  unfold fR
  have e : (h.extract a 32).size = 32 - a := by simp [hz]
  rw [e, Nat.min_eq_left (by omega), ByteArray.extract_extract]
  congr 1
  omega
theorem frNum_half {w : World} {c a m : Nat} {h : ByteArray} (hz : h.size = 32) (h1 : 1 ≤ m) (h8 : m ≤ 8) (ham : a + m ≤ 32) (hc : FrA w c (h.extract a 32)) :
    Calls Try.prog 167 #[.pointer (some ⟨c, 0, none⟩), .int .i64 m] w (FrP c (.int .i64 (gV h a m)) (h.extract (a + m) 32) w) := by
  have := frNumber_any (w := w) (c := c) (s := h.extract a 32) (by simp [hz]; omega) h1 h8 hc
  rw [nV_ext h hz a m ham, fR_ext h hz a m ham] at this
  exact this
set_option maxHeartbeats 2000000 in
set_option maxRecDepth 100000 in
theorem super_any {h : ByteArray} (hz : h.size = 32) (w : World) :
    Calls Try.prog 124 #[.agg (hcA h)] w (GivesB (.agg #[.int .i64 (gV h 5 2), .int .i64 (gV h 7 2), .int .i64 (gV h 9 8), .int .i64 (gV h 17 8)]) w) := by
  have HF1 := Lib.hid (fun W => by
    have := implPutUint_any 1 1 (by omega) W
    rwa [show putU 1 1 = leS 1 1 from putU_le (s := 1) (by omega) (by omega) (by omega) (by decide)] at this)
  have s1 : (leS 1 1).size = 1 := leS_sz _ _
  have HB := Lib.hid (boxes2 w (hcA h) #[.int .i64 0, .int .i64 0, .int .i64 0, .int .i64 0] 167 39)
  have Hz := Lib.hid hz; clear hz
  generalize leS 1 1 = b1 at *
  go_enter Try.func124, Try.ntmps124
  go_wp2_with fail
  generalize ((w.alloc (.cells (hcA h) 167)).alloc (.cells #[.int .i64 0, .int .i64 0, .int .i64 0, .int .i64 0] 39)) = w0 at *
  refine (HF1.out w0).mono ?_
  rintro e w1 ⟨rfl, g1⟩
  have RG : Hid (w1.heap[w.heap.size]? = some (.cells (hcA h) 167 (0, 0))) := Lib.hid ((g1.block _ (by have := HB.out.2.2.1; omega)).trans HB.out.1)
  have RS : Hid (w1.heap[w.heap.size + 1]? = some (.cells #[.int .i64 0, .int .i64 0, .int .i64 0, .int .i64 0] 39 (0, 0))) := Lib.hid ((g1.block _ (by have := HB.out.2.2.1; omega)).trans HB.out.2.1)
  have B1 : Hid (Below w.heap.size w w1) := Lib.hid (HB.out.2.2.2.trans (g1.mono HB.out.2.2.2.size))
  have Z1 : Hid (w.heap.size + 2 ≤ w1.heap.size) := Lib.hid (by have := HB.out.2.2.1; have := g1.size; omega)
  clear g1
  have hk : ((((⟨#[65, 82, 82, 83]⟩ : ByteArray) ++ b1).size : Nat) : Int) = 5 := by rw [ByteArray.size_append, s1]; rfl
  have hcd : (convert 119 9 (.slice (some ⟨w.heap.size, 5, none⟩) 27 27)).run Try.prog w1 = .ok (.string (h.extract 5 32)) w1 := conv_hr Hz.out RG.out w1 rfl
  go_wp2_with fail
  generalize hcw : w1.heap.size = c at *
  have hc : FrA (w1.alloc (.cells #[.string (h.extract 5 32)] 219)) c (h.extract 5 32) := by subst hcw; exact heap_alloc_new w1 _
  have hsup : (w1.alloc (.cells #[.string (h.extract 5 32)] 219)).heap[w.heap.size + 1]? = some (.cells #[.int .i64 0, .int .i64 0, .int .i64 0, .int .i64 0] 39 (0, 0)) := (((Below.refl _ w1).alloc (Nat.le_refl _) (.cells #[.string (h.extract 5 32)] 219)).block _ (by have := Z1.out; omega)).trans RS.out
  have hbw : Below w.heap.size w (w1.alloc (.cells #[.string (h.extract 5 32)] 219)) := B1.out.alloc B1.out.size _
  have H0c := Lib.hid hc; have H0s := Lib.hid hsup; have H0b := Lib.hid hbw
  clear hc hsup hbw hcd
  generalize (w1.alloc (.cells #[.string (h.extract 5 32)] 219)) = v0 at *
  refine (frNum_half (a := 5) (m := 2) Hz.out (by omega) (by omega) (by omega) H0c.out).mono ?_
  rintro e v1 ⟨rfl, hc, ho, hsz, hb⟩
  have H1s := Lib.hid ((ho (w.heap.size + 1) (by have := Z1.out; omega)).trans H0s.out)
  have H1c : Hid (FrA v1 c (h.extract 7 32)) := Lib.hid hc
  have H1b := Lib.hid (H0b.out.trans (hb.mono (by have := Z1.out; omega)))
  clear hc ho hsz hb
  go_wp2_with fail
  refine (frNum_half (a := 7) (m := 2) Hz.out (by omega) (by omega) (by omega) H1c.out).mono ?_
  rintro e v2 ⟨rfl, hc, ho, hsz, hb⟩
  have H2s := Lib.hid ((ho (w.heap.size + 1) (by have := Z1.out; omega)).trans H1s.out)
  have H2c : Hid (FrA v2 c (h.extract 9 32)) := Lib.hid hc
  have H2b := Lib.hid (H1b.out.trans (hb.mono (by have := Z1.out; omega)))
  clear hc ho hsz hb
  go_wp2_with fail
  refine (frNum_half (a := 9) (m := 8) Hz.out (by omega) (by omega) (by omega) H2c.out).mono ?_
  rintro e v3 ⟨rfl, hc, ho, hsz, hb⟩
  have H3s := Lib.hid ((ho (w.heap.size + 1) (by have := Z1.out; omega)).trans H2s.out)
  have H3c : Hid (FrA v3 c (h.extract 17 32)) := Lib.hid hc
  have H3b := Lib.hid (H2b.out.trans (hb.mono (by have := Z1.out; omega)))
  clear hc ho hsz hb
  go_wp2_with fail
  refine (frNum_half (a := 17) (m := 8) Hz.out (by omega) (by omega) (by omega) H3c.out).mono ?_
  rintro e v4 ⟨rfl, hc, ho, hsz, hb⟩
  have H4s := Lib.hid ((ho (w.heap.size + 1) (by have := Z1.out; omega)).trans H3s.out)
  have H4c : Hid (FrA v4 c (h.extract 25 32)) := Lib.hid hc
  have H4b := Lib.hid (H3b.out.trans (hb.mono (by have := Z1.out; omega)))
  clear hc ho hsz hb
  generalize gV h 5 2 = x0 at *
  generalize gV h 7 2 = x1 at *
  generalize gV h 9 8 = x2 at *
  generalize gV h 17 8 = x3 at *
  go_wp2_with (refine wpList_store_row rfl 39 (.tmp 2) (.tmp 14) rfl (w.heap.size + 1) #[.int .i64 x0, .int .i64 x1, .int .i64 x2, .int .i64 x3] rfl rfl 39 _ H4s.out (infoS4 _ _ _ _) rfl oneS4 ?_)
  refine bodyPost_ret (v := .agg #[.int .i64 x0, .int .i64 x1, .int .i64 x2, .int .i64 x3]) ?_ rfl ?_
  · exact results_cell_row rfl _ _ (w.heap.size + 1) 39 _ (0, 0) _ rfl (setRow_heap _ _ _ _ _ _ H4s.out) Try.underlying39 rfl (by kernel_rfl)
  · exact ⟨rfl, below_setRow H4b.out (by omega) _⟩
end Go.Proofs.Ytlickjmdlooapaa
