/- Chunks: the program's low. No statement is proved here. -/
import Derived.Test.YtmghbgnalkkppaaItO
namespace Go.Proofs.Ytmghbgnalkkppaa
open Go.RowKit
set_option linter.unusedVariables false
/-- The first coordinates of a chunk, from its place as three numbers. -/
def lowF (cs x : List Int) (k : Nat) : Int := x.getD (3 - cs.length + k) 0 * cs.getD k 0
def lowL (cs x : List Int) : List Int := (List.range cs.length).map (lowF cs x)
set_option maxHeartbeats 4000000 in
set_option maxRecDepth 100000 in
theorem low_any {B : Nat} {w : World} {v u z : Value} {cs : List Int} {a b c : Int} (hv : ∃ A l c, v = .slice A l c) (hz : ∃ A l c, z = .slice A l c) (h : Ri B w u cs) (hB : B ≤ w.heap.size) (hc : allTo (inC cs) cs.length = true) (hl : cs.length ≤ 3) (hx : ∀ y ∈ [a, b, c], 0 ≤ y ∧ y ≤ 40) :
    Calls Try.prog 50 #[.agg #[v, u, z], .agg #[.int .i64 a, .int .i64 b, .int .i64 c]] w (MadeO (lowL cs [a, b, c]) w) := by
  have H := Lib.hid h; have HC := Lib.hid hc; have HX := Lib.hid hx
  obtain ⟨A1, l1, d1, rfl⟩ := hv
  obtain ⟨A3, l3, d3, rfl⟩ := hz
  obtain ⟨A2, c2, rfl, -, -, hx2⟩ := h
  have Hx2 := Lib.hid hx2
  obtain ⟨d, hd⟩ : ∃ d : Nat, cs.length + d = 3 := ⟨3 - cs.length, by omega⟩
  have e1 : (3 : Int) - (cs.length : Int) = (d : Int) := by omega
  have e2 : (d : Int) ≤ 3 := by omega
  clear hx2 hc hx
  have HR0 : Hid (((w.alloc (.cells #[.slice A1 l1 d1, .slice A2 cs.length c2, .slice A3 l3 d3] 43)).alloc (.cells #[.int .i64 a, .int .i64 b, .int .i64 c] 55)).heap[w.heap.size]? = some (.cells #[.slice A1 l1 d1, .slice A2 cs.length c2, .slice A3 l3 d3] 43 (0, 0))) := Lib.hid ((((Below.refl (w.alloc (.cells #[.slice A1 l1 d1, .slice A2 cs.length c2, .slice A3 l3 d3] 43)).heap.size _).alloc (Nat.le_refl _) _).block w.heap.size (by simp)).trans (heap_alloc_new w _))
  have HR1 : Hid (((w.alloc (.cells #[.slice A1 l1 d1, .slice A2 cs.length c2, .slice A3 l3 d3] 43)).alloc (.cells #[.int .i64 a, .int .i64 b, .int .i64 c] 55)).heap[w.heap.size + 1]? = some (.cells #[.int .i64 a, .int .i64 b, .int .i64 c] 55 (0, 0))) := Lib.hid (by
    have h := heap_alloc_new (w.alloc (.cells #[.slice A1 l1 d1, .slice A2 cs.length c2, .slice A3 l3 d3] 43)) (.cells #[.int .i64 a, .int .i64 b, .int .i64 c] 55)
    rwa [show (w.alloc (.cells #[.slice A1 l1 d1, .slice A2 cs.length c2, .slice A3 l3 d3] 43)).heap.size = w.heap.size + 1 by simp] at h)
  have HBW : Hid (Below w.heap.size w ((w.alloc (.cells #[.slice A1 l1 d1, .slice A2 cs.length c2, .slice A3 l3 d3] 43)).alloc (.cells #[.int .i64 a, .int .i64 b, .int .i64 c] 55))) := Lib.hid (((Below.refl _ w).alloc (Nat.le_refl _) _).alloc (by simp) _)
  have Hl := Lib.hid hl; have Hd := Lib.hid hd
  have HL0 : Hid (cs.length = 0 → lowL cs [a, b, c] = []) := Lib.hid (fun h0 => by simp [lowL, h0])
  by_cases hz : cs.length = 0
  · have hd3 : d = 3 := by omega
    subst hd3
    rw [hz] at e1
    clear hd hl e1 e2 HX
    have Hz := Lib.hid hz
    go_enter Try.func50, Try.ntmps50
    go_wp2
    go_loopw [5, 14] (fun v i wr => v = .slice none 0 0 ∧ i = .int .i64 0 ∧ Below w.heap.size w wr) (fun _ _ _ => 0)
    case atStart => exact ⟨rfl, rfl, ((Below.refl _ w).alloc (Nat.le_refl _) _).alloc (by simp) _⟩
    case round =>
      obtain ⟨rfl, rfl, hb⟩ := hrel
      have Hb := Lib.hid hb
      clear hb
      go_wp2
      go_ret
      refine ⟨_, rfl, ?_, Hb.out⟩
      rw [HL0.out Hz.out]
      exact oi_none _ _
  · have e3 : 3 - d = cs.length := by omega
    have hdp : ¬ (3 ≤ d) := by omega
    clear hd hl
    go_enter Try.func50, Try.ntmps50
    go_wp2
    generalize ((w.alloc (.cells #[.slice A1 l1 d1, .slice A2 cs.length c2, .slice A3 l3 d3] 43)).alloc (.cells #[.int .i64 a, .int .i64 b, .int .i64 c] 55)) = w1 at *
    have Hz1 : Hid (w.heap.size + 1 < w1.heap.size) := Lib.hid (Array.getElem?_eq_some_iff.1 HR1.out).1
    go_loopw [5, 14] (fun v i wr => ∃ (k : Nat), k ≤ cs.length ∧ i = .int .i64 (k : Int) ∧ OI wr (w.heap.size + 1 + 1) v ((List.range k).map (lowF cs [a, b, c])) ∧ Below (w.heap.size + 1 + 1) w1 wr) (fun _ i _ => cs.length - (intOf i).toNat)
    case atStart => exact ⟨0, Nat.zero_le _, rfl, oi_none _ _, Below.refl _ _⟩
    case round =>
      obtain ⟨k, hk, rfl, ho, hb⟩ := hrel
      obtain ⟨VA, vc, rfl⟩ := ho.sl
      have HO := Lib.hid ho; have Hb := Lib.hid hb
      have HBr : Hid (Below w.heap.size w wr) := Lib.hid (HBW.out.trans (hb.mono (by omega)))
      have L0 : Hid (w.heap.size + 1 + 1 ≤ wr.heap.size) := Lib.hid (by have := hb.size; have := Hz1.out; omega)
      have e4 : ((List.range k).map (lowF cs [a, b, c])).length = k := by simp
      have q1 : wr.cell? ⟨w.heap.size, 1, none⟩ = some (.slice A2 cs.length c2) := by rw [cell_of_row _ _ _ _ _ _ ((hb.block _ (by omega)).trans HR0.out)]; rfl
      have HRp : Hid (wr.heap[w.heap.size + 1]? = some (.cells #[.int .i64 a, .int .i64 b, .int .i64 c] 55 (0, 0))) := Lib.hid ((hb.block _ (by omega)).trans HR1.out)
      have HK : Hid (k ≤ cs.length) := Lib.hid hk
      clear hb ho
      by_cases hlt : k < cs.length
      · obtain ⟨b2, o2, rfl, hb2, hc2, -⟩ := Hx2.out k hlt
        have q2 : wr.cell? ⟨b2, o2 + k, none⟩ = some (.int .i64 cs[k]) := (HBr.out.cell (p := ⟨b2, o2 + k, none⟩) (by show b2 < w.heap.size; omega)).trans hc2
        have hdk : d + k < 3 := by have := Hd.out; omega
        have q3 : wr.cell? ⟨w.heap.size + 1, d + k, none⟩ = some (.int .i64 ([a, b, c].getD (d + k) 0)) := by
          rw [cell_of_row _ _ _ _ _ _ HRp.out]
          rcases (show d + k = 0 ∨ d + k = 1 ∨ d + k = 2 by omega) with h | h | h <;> rw [h] <;> rfl
        have hy : 0 ≤ [a, b, c].getD (d + k) 0 ∧ [a, b, c].getD (d + k) 0 ≤ 40 := by
          have hm := HX.out
          rcases (show d + k = 0 ∨ d + k = 1 ∨ d + k = 2 by omega) with h | h | h <;> rw [h]
          · exact hm a (by simp)
          · exact hm b (by simp)
          · exact hm c (by simp)
        have hcc := allTo_at HC.out hlt
        rw [inC_at _ _ hlt, inB_iff] at hcc
        have HF : Hid ((List.range k).map (lowF cs [a, b, c]) ++ [[a, b, c].getD (d + k) 0 * cs[k]] = (List.range (k + 1)).map (lowF cs [a, b, c])) := Lib.hid (by
          rw [List.range_succ, List.map_append]
          congr 1
          simp only [List.map_cons, List.map_nil, lowF]
          rw [show 3 - cs.length = d by have := Hd.out; omega, getD_at _ _ hlt])
        generalize [a, b, c].getD (d + k) 0 = y at *
        generalize cs[k] = x at *
        have hm1 : 0 ≤ y * x := Int.mul_nonneg (by omega) (by omega)
        have hm2 : y * x ≤ 40 * 40 := Int.mul_le_mul (by omega) (by omega) (by omega) (by omega)
        have w1' : IntKind.i64.wrap (y * x) = y * x := IntWalk.i64_in _ (by omega)
        have HKl := Lib.hid hlt
        generalize hL : (List.range k).map (lowF cs [a, b, c]) = L at *
        have HL := Lib.hid hL
        clear hL hc2 hb2 hy hcc hm1 hm2
        have E4 := Lib.hid e4
        have HO2 : Hid (OI wr (w.heap.size + 1 + 1) (.slice VA k vc) L) := Lib.hid (by have h := HO.out; rw [E4.out] at h; exact h)
        rw [e4]
        clear e4
        go_wp2_with (at_builtin; refine wpList_push (W := wr) (v := .slice VA k vc) (lo := w.heap.size + 1 + 1) (xs := L) (x := y * x) rfl (.tmp 19) (.tmp 27) rfl rfl rfl rfl HO2.out L0.out (by rw [E4.out]; have := HK.out; have := Hl.out; omega) ?_; intro g4 cap4 w4 ow4 gr4 hw4 lt4; have Ho4 := Lib.hid ow4; have Hb4 : Hid (Below (w.heap.size + 1 + 1) w1 w4) := Lib.hid (pushI_bel Hb.out HO2.out (Nat.le_refl _) L0.out gr4); clear ow4 gr4 hw4)
        go_roundw
        case rel => exact ⟨k + 1, HKl.out, by go_num, by rw [← HF.out]; exact Ho4.out, Hb4.out⟩
        case measure => have := HKl.out; simp [intOf]; omega
      · obtain rfl : k = cs.length := by omega
        have Ho5 : Hid (OI wr w.heap.size (.slice VA cs.length vc) (lowL cs [a, b, c])) := Lib.hid (by
          have h := HO.out.lo (show w.heap.size ≤ w.heap.size + 1 + 1 by omega)
          rw [e4] at h
          exact h)
        rw [e4]
        clear e4 q1
        go_wp2
        go_ret
        exact ⟨_, rfl, Ho5.out, HBr.out⟩
end Go.Proofs.Ytmghbgnalkkppaa
