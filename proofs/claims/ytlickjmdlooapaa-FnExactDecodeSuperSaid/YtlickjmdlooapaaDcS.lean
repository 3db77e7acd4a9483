/- The model's DecodeSuper. No statement is proved here. -/
import Derived.Test.YtlickjmdlooapaaEnS
import Derived.Test.YtlickjmdlooapaaFre
import Derived.Test.YtlickjmdlooapaaSfI
import Derived.Deep.DeepFit
namespace Go.Proofs.Ytlickjmdlooapaa
open Go.RowKit
set_option linter.unusedVariables false
def dcO (s : ByteArray) : Bool := ((gB s 5 2 && gB s 7 2) && gB s 9 8) && gB s 17 8
/-- The block is one that a superblock is written as. -/
def dcY (s : ByteArray) : Bool := (decide (s.size = 64) && dcO s) && (supOk (gV s 5 2) (gV s 7 2) (gV s 9 8) (gV s 17 8) && decide (supB (gV s 5 2) (gV s 7 2) (gV s 9 8) (gV s 17 8) = s))
def dcA (s : ByteArray) : Array Value := if dcY s then #[.int .i64 (gV s 5 2), .int .i64 (gV s 7 2), .int .i64 (gV s 9 8), .int .i64 (gV s 17 8)] else #[.int .i64 0, .int .i64 0, .int .i64 0, .int .i64 0]
theorem toList_loop_eq (t : ByteArray) (i : Nat) (r : List UInt8) : ByteArray.toList.loop t i r = r.reverse ++ t.data.toList.drop i := by
  have hz : t.data.toList.length = t.size := by simp
  induction i, r using ByteArray.toList.loop.induct (bs := t) with
  | case1 i r h ih =>
    unfold ByteArray.toList.loop
    rw [if_pos h, ih, List.reverse_cons, List.append_assoc, List.drop_eq_getElem_cons (i := i) (by omega)]
    congr 1
    have h2 : i < t.data.size := h
    have e : t.get! i = t.data.toList[i]'(by omega) := by
      show t.data[i]! = t.data[i]
      exact getElem!_pos t.data i h2
    rw [e]; rfl
  | case2 i r h =>
    unfold ByteArray.toList.loop
    rw [if_neg h, List.drop_eq_nil_of_le (by omega), List.append_nil]
theorem toList_eq (t : ByteArray) : t.toList = t.data.toList := by
  show ByteArray.toList.loop t 0 [] = _
  rw [toList_loop_eq]; simp
theorem toList_ne2 {s t : ByteArray} (h : ¬ s = t) : ¬ s.toList = t.toList := fun e => h (by
  rw [toList_eq, toList_eq] at e
  exact ByteArray.ext (Array.toList_inj.1 e))
theorem infoS4 (a b c d : Int) : (Try.prog.info? 39).map (·.size) = some (#[.int .i64 a, .int .i64 b, .int .i64 c, .int .i64 d] : Array Value).size := by kernel_rfl
theorem oneS4 {a b c d : Int} : (#[.int .i64 a, .int .i64 b, .int .i64 c, .int .i64 d] : Array Value).all (·.oneCell') = true := by simp [Value.oneCell']
/-- What the loop has read after k rounds. -/
def dcR (w : World) (S k : Nat) (x0 x1 x2 x3 : Int) : Prop := w.heap[S]? = some (.cells #[.int .i64 (if 0 < k then x0 else 0), .int .i64 (if 1 < k then x1 else 0), .int .i64 (if 2 < k then x2 else 0), .int .i64 (if 3 < k then x3 else 0)] 39 (0, 0))
def okTo (b0 b1 b2 b3 : Bool) : Nat → Bool
  | 0 => true
  | 1 => b0
  | 2 => b0 && b1
  | 3 => (b0 && b1) && b2
  | _ => ((b0 && b1) && b2) && b3
set_option maxHeartbeats 8000000 in
set_option maxRecDepth 100000 in
theorem specDecodeSuper_any (s : ByteArray) (hs : s.size ≤ 1048576) (w : World) :
    Calls Try.prog 52 #[.string s] w (GivesB (.tuple #[.agg (dcA s), .bool (dcY s)]) w) := by
  have R0 : Hid ((w.alloc (.cells #[.int .i64 0, .int .i64 0, .int .i64 0, .int .i64 0] 39)).heap[w.heap.size]? = some (.cells #[.int .i64 0, .int .i64 0, .int .i64 0, .int .i64 0] 39 (0, 0))) := Lib.hid (heap_alloc_new w _)
  have Hb0 : Hid (Below w.heap.size w (w.alloc (.cells #[.int .i64 0, .int .i64 0, .int .i64 0, .int .i64 0] 39))) := Lib.hid ((Below.refl _ w).alloc (Nat.le_refl _) _)
  by_cases hz : s.size = 64
  rotate_left
  · have E : Hid (dcA s = #[.int .i64 0, .int .i64 0, .int .i64 0, .int .i64 0] ∧ dcY s = false) := Lib.hid (by
      have : dcY s = false := by simp [dcY, hz]
      exact ⟨by simp [dcA, this], this⟩)
    have h1 : ((s.size : Int) != 64) = true := by simp; omega
    clear hz
    go_enter Try.func52, Try.ntmps52
    go_wp2_with (refine wpList_store_row rfl 39 (.tmp 2) (.tmp 14) rfl w.heap.size #[.int .i64 0, .int .i64 0, .int .i64 0, .int .i64 0] rfl rfl 39 _ R0.out (infoS4 _ _ _ _) rfl oneS4 ?_)
    refine bodyPost_ret (v := .tuple #[.agg #[.int .i64 0, .int .i64 0, .int .i64 0, .int .i64 0], .bool false]) ?_ rfl ?_
    · exact results_cell_row2 rfl _ _ w.heap.size 39 _ (0, 0) _ _ rfl rfl (setRow_heap _ _ _ _ _ _ R0.out) Try.underlying39 rfl (by kernel_rfl)
    · exact ⟨by rw [E.out.1, E.out.2], below_setRow Hb0.out (Nat.le_refl _) _⟩
  have h1 : ((s.size : Int) != 64) = false := by simp; omega
  have HB := Lib.hid (boxes2 w #[.int .i64 0, .int .i64 0, .int .i64 0, .int .i64 0] #[.int .i64 0, .int .i64 0, .int .i64 0, .int .i64 0] 39 39)
  have G0 := Lib.hid (fun W => by have h := l01GetUint_any s 5 2 (by omega) hs W; rwa [show getU s 5 2 = _ from getU_gV s 5 2 (by omega) (by omega) (by omega)] at h)
  have I0 := Lib.hid (gV_in s 5 2)
  have G1 := Lib.hid (fun W => by have h := l01GetUint_any s 7 2 (by omega) hs W; rwa [show getU s 7 2 = _ from getU_gV s 7 2 (by omega) (by omega) (by omega)] at h)
  have I1 := Lib.hid (gV_in s 7 2)
  have G2 := Lib.hid (fun W => by have h := l01GetUint_any s 9 8 (by omega) hs W; rwa [show getU s 9 8 = _ from getU_gV s 9 8 (by omega) (by omega) (by omega)] at h)
  have I2 := Lib.hid (gV_in s 9 8)
  have G3 := Lib.hid (fun W => by have h := l01GetUint_any s 17 8 (by omega) hs W; rwa [show getU s 17 8 = _ from getU_gV s 17 8 (by omega) (by omega) (by omega)] at h)
  have I3 := Lib.hid (gV_in s 17 8)
  have EY : Hid (dcY s = (dcO s && (supOk (gV s 5 2) (gV s 7 2) (gV s 9 8) (gV s 17 8) && decide (supB (gV s 5 2) (gV s 7 2) (gV s 9 8) (gV s 17 8) = s)))) := Lib.hid (by simp [dcY, hz])
  have EA : Hid (dcA s = if dcY s then #[.int .i64 (gV s 5 2), .int .i64 (gV s 7 2), .int .i64 (gV s 9 8), .int .i64 (gV s 17 8)] else #[.int .i64 0, .int .i64 0, .int .i64 0, .int .i64 0]) := Lib.hid rfl
  have EO : Hid (dcO s = okTo (gB s 5 2) (gB s 7 2) (gB s 9 8) (gB s 17 8) 4) := Lib.hid rfl
  generalize dcA s = A at *
  generalize dcY s = Y at *
  generalize dcO s = O at *
  generalize gV s 5 2 = x0 at *
  generalize gB s 5 2 = b0 at *
  generalize gV s 7 2 = x1 at *
  generalize gB s 7 2 = b1 at *
  generalize gV s 9 8 = x2 at *
  generalize gB s 9 8 = b2 at *
  generalize gV s 17 8 = x3 at *
  generalize gB s 17 8 = b3 at *
  clear hz
  go_enter Try.func52, Try.ntmps52
  go_wp2
  generalize ((w.alloc (.cells #[.int .i64 0, .int .i64 0, .int .i64 0, .int .i64 0] 39)).alloc (.cells #[.int .i64 0, .int .i64 0, .int .i64 0, .int .i64 0] 39)) = W0 at *
  go_loopw [5, 6] (fun c i wr => ∃ k : Nat, k ≤ 4 ∧ i = .int .i64 k ∧ c = .bool (okTo b0 b1 b2 b3 k) ∧ dcR wr (w.heap.size + 1) k x0 x1 x2 x3 ∧ Below (w.heap.size + 1) W0 wr) (fun _ i _ => 4 - (intOf i).toNat)
  case atStart => exact ⟨0, by omega, rfl, rfl, HB.out.2.1, Below.refl _ _⟩
  case round =>
    obtain ⟨k, hk, rfl, rfl, hr, hb⟩ := hrel
    have HR := Lib.hid hr; have Hbl := Lib.hid hb
    have hsz : w.heap.size + 2 ≤ wr.heap.size := by have := hb.size; have := HB.out.2.2.1; omega
    have Hsz := Lib.hid hsz
    clear hr hb hsz
    have hcs : k = 0 ∨ k = 1 ∨ k = 2 ∨ k = 3 ∨ k = 4 := by omega
    clear hk
    rcases hcs with rfl | rfl | rfl | rfl | rfl
    · have hr : ((wr.alloc (.cells #[.int .i64 5, .int .i64 7, .int .i64 9, .int .i64 17] 2)).alloc (.cells #[.int .i64 2, .int .i64 2, .int .i64 8, .int .i64 8] 2)).heap[w.heap.size + 1]? = some (.cells #[.int .i64 0, .int .i64 0, .int .i64 0, .int .i64 0] 39 (0, 0)) := by
        have hb2 : Below wr.heap.size wr ((wr.alloc (.cells #[.int .i64 5, .int .i64 7, .int .i64 9, .int .i64 17] 2)).alloc (.cells #[.int .i64 2, .int .i64 2, .int .i64 8, .int .i64 8] 2)) := ((Below.refl _ _).alloc (Nat.le_refl _) _).alloc (by simp) _
        exact (hb2.block _ (by have := Hsz.out; omega)).trans HR.out
      have hset : Hid ((((wr.alloc (.cells #[.int .i64 5, .int .i64 7, .int .i64 9, .int .i64 17] 2)).alloc (.cells #[.int .i64 2, .int .i64 2, .int .i64 8, .int .i64 8] 2)).setCell ⟨w.heap.size + 1, 0, none⟩ (.int .i64 x0)).heap[w.heap.size + 1]? = some (.cells #[.int .i64 x0, .int .i64 0, .int .i64 0, .int .i64 0] 39 (0, 0))) := Lib.hid (heap_setCell_same _ _ 0 _ _ _ hr)
      have hbel : Hid (Below (w.heap.size + 1) W0 (((wr.alloc (.cells #[.int .i64 5, .int .i64 7, .int .i64 9, .int .i64 17] 2)).alloc (.cells #[.int .i64 2, .int .i64 2, .int .i64 8, .int .i64 8] 2)).setCell ⟨w.heap.size + 1, 0, none⟩ (.int .i64 x0))) := Lib.hid (Hbl.out.trans (((((Below.refl _ _).alloc (Nat.le_refl _) _).alloc (by simp) _).mono (by have := Hsz.out; show w.heap.size + 1 ≤ wr.heap.size; omega)).setCell (p := ⟨w.heap.size + 1, 0, none⟩) (Nat.le_refl _) _))
      have hst : Hid (okTo b0 b1 b2 b3 (0 + 1) = (okTo b0 b1 b2 b3 0 && b0)) := Lib.hid (by cases b0 <;> rfl)
      generalize okTo b0 b1 b2 b3 0 = OK at *
      have q0 : ((wr.alloc (.cells #[.int .i64 5, .int .i64 7, .int .i64 9, .int .i64 17] 2)).alloc (.cells #[.int .i64 2, .int .i64 2, .int .i64 8, .int .i64 8] 2)).cell? ⟨w.heap.size + 1, 0, none⟩ = some (.int .i64 0) := by rw [cell_of_row _ _ _ _ _ _ hr]; rfl
      have q1 : ((wr.alloc (.cells #[.int .i64 5, .int .i64 7, .int .i64 9, .int .i64 17] 2)).alloc (.cells #[.int .i64 2, .int .i64 2, .int .i64 8, .int .i64 8] 2)).cell? ⟨w.heap.size + 1, 1, none⟩ = some (.int .i64 0) := by rw [cell_of_row _ _ _ _ _ _ hr]; rfl
      have q2 : ((wr.alloc (.cells #[.int .i64 5, .int .i64 7, .int .i64 9, .int .i64 17] 2)).alloc (.cells #[.int .i64 2, .int .i64 2, .int .i64 8, .int .i64 8] 2)).cell? ⟨w.heap.size + 1, 2, none⟩ = some (.int .i64 0) := by rw [cell_of_row _ _ _ _ _ _ hr]; rfl
      have q3 : ((wr.alloc (.cells #[.int .i64 5, .int .i64 7, .int .i64 9, .int .i64 17] 2)).alloc (.cells #[.int .i64 2, .int .i64 2, .int .i64 8, .int .i64 8] 2)).cell? ⟨w.heap.size + 1, 3, none⟩ = some (.int .i64 0) := by rw [cell_of_row _ _ _ _ _ _ hr]; rfl
      have f := frozen_of_row _ _ 0 _ _ hr
      clear hr
      cases OK
      all_goals
        go_wp2_with (go_at_call 121; refine (G0.out _).mono ?_; rintro e w' ⟨rfl, rfl⟩)
        go_roundw
        case rel => exact ⟨0 + 1, by omega, by rfl, by rw [hst.out]; rfl, hset.out, hbel.out⟩
        case measure => simp [intOf]
    · have hr : ((wr.alloc (.cells #[.int .i64 5, .int .i64 7, .int .i64 9, .int .i64 17] 2)).alloc (.cells #[.int .i64 2, .int .i64 2, .int .i64 8, .int .i64 8] 2)).heap[w.heap.size + 1]? = some (.cells #[.int .i64 x0, .int .i64 0, .int .i64 0, .int .i64 0] 39 (0, 0)) := by
        have hb2 : Below wr.heap.size wr ((wr.alloc (.cells #[.int .i64 5, .int .i64 7, .int .i64 9, .int .i64 17] 2)).alloc (.cells #[.int .i64 2, .int .i64 2, .int .i64 8, .int .i64 8] 2)) := ((Below.refl _ _).alloc (Nat.le_refl _) _).alloc (by simp) _
        exact (hb2.block _ (by have := Hsz.out; omega)).trans HR.out
      have hset : Hid ((((wr.alloc (.cells #[.int .i64 5, .int .i64 7, .int .i64 9, .int .i64 17] 2)).alloc (.cells #[.int .i64 2, .int .i64 2, .int .i64 8, .int .i64 8] 2)).setCell ⟨w.heap.size + 1, 1, none⟩ (.int .i64 x1)).heap[w.heap.size + 1]? = some (.cells #[.int .i64 x0, .int .i64 x1, .int .i64 0, .int .i64 0] 39 (0, 0))) := Lib.hid (heap_setCell_same _ _ 1 _ _ _ hr)
      have hbel : Hid (Below (w.heap.size + 1) W0 (((wr.alloc (.cells #[.int .i64 5, .int .i64 7, .int .i64 9, .int .i64 17] 2)).alloc (.cells #[.int .i64 2, .int .i64 2, .int .i64 8, .int .i64 8] 2)).setCell ⟨w.heap.size + 1, 1, none⟩ (.int .i64 x1))) := Lib.hid (Hbl.out.trans (((((Below.refl _ _).alloc (Nat.le_refl _) _).alloc (by simp) _).mono (by have := Hsz.out; show w.heap.size + 1 ≤ wr.heap.size; omega)).setCell (p := ⟨w.heap.size + 1, 1, none⟩) (Nat.le_refl _) _))
      have hst : Hid (okTo b0 b1 b2 b3 (1 + 1) = (okTo b0 b1 b2 b3 1 && b1)) := Lib.hid (by cases b0 <;> rfl)
      generalize okTo b0 b1 b2 b3 1 = OK at *
      have q0 : ((wr.alloc (.cells #[.int .i64 5, .int .i64 7, .int .i64 9, .int .i64 17] 2)).alloc (.cells #[.int .i64 2, .int .i64 2, .int .i64 8, .int .i64 8] 2)).cell? ⟨w.heap.size + 1, 0, none⟩ = some (.int .i64 x0) := by rw [cell_of_row _ _ _ _ _ _ hr]; rfl
      have q1 : ((wr.alloc (.cells #[.int .i64 5, .int .i64 7, .int .i64 9, .int .i64 17] 2)).alloc (.cells #[.int .i64 2, .int .i64 2, .int .i64 8, .int .i64 8] 2)).cell? ⟨w.heap.size + 1, 1, none⟩ = some (.int .i64 0) := by rw [cell_of_row _ _ _ _ _ _ hr]; rfl
      have q2 : ((wr.alloc (.cells #[.int .i64 5, .int .i64 7, .int .i64 9, .int .i64 17] 2)).alloc (.cells #[.int .i64 2, .int .i64 2, .int .i64 8, .int .i64 8] 2)).cell? ⟨w.heap.size + 1, 2, none⟩ = some (.int .i64 0) := by rw [cell_of_row _ _ _ _ _ _ hr]; rfl
      have q3 : ((wr.alloc (.cells #[.int .i64 5, .int .i64 7, .int .i64 9, .int .i64 17] 2)).alloc (.cells #[.int .i64 2, .int .i64 2, .int .i64 8, .int .i64 8] 2)).cell? ⟨w.heap.size + 1, 3, none⟩ = some (.int .i64 0) := by rw [cell_of_row _ _ _ _ _ _ hr]; rfl
      have f := frozen_of_row _ _ 1 _ _ hr
      clear hr
      cases OK
      all_goals
        go_wp2_with (go_at_call 121; refine (G1.out _).mono ?_; rintro e w' ⟨rfl, rfl⟩)
        go_roundw
        case rel => exact ⟨1 + 1, by omega, by rfl, by rw [hst.out]; rfl, hset.out, hbel.out⟩
        case measure => simp [intOf]
    · have hr : ((wr.alloc (.cells #[.int .i64 5, .int .i64 7, .int .i64 9, .int .i64 17] 2)).alloc (.cells #[.int .i64 2, .int .i64 2, .int .i64 8, .int .i64 8] 2)).heap[w.heap.size + 1]? = some (.cells #[.int .i64 x0, .int .i64 x1, .int .i64 0, .int .i64 0] 39 (0, 0)) := by
        have hb2 : Below wr.heap.size wr ((wr.alloc (.cells #[.int .i64 5, .int .i64 7, .int .i64 9, .int .i64 17] 2)).alloc (.cells #[.int .i64 2, .int .i64 2, .int .i64 8, .int .i64 8] 2)) := ((Below.refl _ _).alloc (Nat.le_refl _) _).alloc (by simp) _
        exact (hb2.block _ (by have := Hsz.out; omega)).trans HR.out
      have hset : Hid ((((wr.alloc (.cells #[.int .i64 5, .int .i64 7, .int .i64 9, .int .i64 17] 2)).alloc (.cells #[.int .i64 2, .int .i64 2, .int .i64 8, .int .i64 8] 2)).setCell ⟨w.heap.size + 1, 2, none⟩ (.int .i64 x2)).heap[w.heap.size + 1]? = some (.cells #[.int .i64 x0, .int .i64 x1, .int .i64 x2, .int .i64 0] 39 (0, 0))) := Lib.hid (heap_setCell_same _ _ 2 _ _ _ hr)
      have hbel : Hid (Below (w.heap.size + 1) W0 (((wr.alloc (.cells #[.int .i64 5, .int .i64 7, .int .i64 9, .int .i64 17] 2)).alloc (.cells #[.int .i64 2, .int .i64 2, .int .i64 8, .int .i64 8] 2)).setCell ⟨w.heap.size + 1, 2, none⟩ (.int .i64 x2))) := Lib.hid (Hbl.out.trans (((((Below.refl _ _).alloc (Nat.le_refl _) _).alloc (by simp) _).mono (by have := Hsz.out; show w.heap.size + 1 ≤ wr.heap.size; omega)).setCell (p := ⟨w.heap.size + 1, 2, none⟩) (Nat.le_refl _) _))
      have hst : Hid (okTo b0 b1 b2 b3 (2 + 1) = (okTo b0 b1 b2 b3 2 && b2)) := Lib.hid (by cases b0 <;> rfl)
      generalize okTo b0 b1 b2 b3 2 = OK at *
      have q0 : ((wr.alloc (.cells #[.int .i64 5, .int .i64 7, .int .i64 9, .int .i64 17] 2)).alloc (.cells #[.int .i64 2, .int .i64 2, .int .i64 8, .int .i64 8] 2)).cell? ⟨w.heap.size + 1, 0, none⟩ = some (.int .i64 x0) := by rw [cell_of_row _ _ _ _ _ _ hr]; rfl
      have q1 : ((wr.alloc (.cells #[.int .i64 5, .int .i64 7, .int .i64 9, .int .i64 17] 2)).alloc (.cells #[.int .i64 2, .int .i64 2, .int .i64 8, .int .i64 8] 2)).cell? ⟨w.heap.size + 1, 1, none⟩ = some (.int .i64 x1) := by rw [cell_of_row _ _ _ _ _ _ hr]; rfl
      have q2 : ((wr.alloc (.cells #[.int .i64 5, .int .i64 7, .int .i64 9, .int .i64 17] 2)).alloc (.cells #[.int .i64 2, .int .i64 2, .int .i64 8, .int .i64 8] 2)).cell? ⟨w.heap.size + 1, 2, none⟩ = some (.int .i64 0) := by rw [cell_of_row _ _ _ _ _ _ hr]; rfl
      have q3 : ((wr.alloc (.cells #[.int .i64 5, .int .i64 7, .int .i64 9, .int .i64 17] 2)).alloc (.cells #[.int .i64 2, .int .i64 2, .int .i64 8, .int .i64 8] 2)).cell? ⟨w.heap.size + 1, 3, none⟩ = some (.int .i64 0) := by rw [cell_of_row _ _ _ _ _ _ hr]; rfl
      have f := frozen_of_row _ _ 2 _ _ hr
      clear hr
      cases OK
      all_goals
        go_wp2_with (go_at_call 121; refine (G2.out _).mono ?_; rintro e w' ⟨rfl, rfl⟩)
        go_roundw
        case rel => exact ⟨2 + 1, by omega, by rfl, by rw [hst.out]; rfl, hset.out, hbel.out⟩
        case measure => simp [intOf]
    · have hr : ((wr.alloc (.cells #[.int .i64 5, .int .i64 7, .int .i64 9, .int .i64 17] 2)).alloc (.cells #[.int .i64 2, .int .i64 2, .int .i64 8, .int .i64 8] 2)).heap[w.heap.size + 1]? = some (.cells #[.int .i64 x0, .int .i64 x1, .int .i64 x2, .int .i64 0] 39 (0, 0)) := by
        have hb2 : Below wr.heap.size wr ((wr.alloc (.cells #[.int .i64 5, .int .i64 7, .int .i64 9, .int .i64 17] 2)).alloc (.cells #[.int .i64 2, .int .i64 2, .int .i64 8, .int .i64 8] 2)) := ((Below.refl _ _).alloc (Nat.le_refl _) _).alloc (by simp) _
        exact (hb2.block _ (by have := Hsz.out; omega)).trans HR.out
      have hset : Hid ((((wr.alloc (.cells #[.int .i64 5, .int .i64 7, .int .i64 9, .int .i64 17] 2)).alloc (.cells #[.int .i64 2, .int .i64 2, .int .i64 8, .int .i64 8] 2)).setCell ⟨w.heap.size + 1, 3, none⟩ (.int .i64 x3)).heap[w.heap.size + 1]? = some (.cells #[.int .i64 x0, .int .i64 x1, .int .i64 x2, .int .i64 x3] 39 (0, 0))) := Lib.hid (heap_setCell_same _ _ 3 _ _ _ hr)
      have hbel : Hid (Below (w.heap.size + 1) W0 (((wr.alloc (.cells #[.int .i64 5, .int .i64 7, .int .i64 9, .int .i64 17] 2)).alloc (.cells #[.int .i64 2, .int .i64 2, .int .i64 8, .int .i64 8] 2)).setCell ⟨w.heap.size + 1, 3, none⟩ (.int .i64 x3))) := Lib.hid (Hbl.out.trans (((((Below.refl _ _).alloc (Nat.le_refl _) _).alloc (by simp) _).mono (by have := Hsz.out; show w.heap.size + 1 ≤ wr.heap.size; omega)).setCell (p := ⟨w.heap.size + 1, 3, none⟩) (Nat.le_refl _) _))
      have hst : Hid (okTo b0 b1 b2 b3 (3 + 1) = (okTo b0 b1 b2 b3 3 && b3)) := Lib.hid (by cases b0 <;> rfl)
      generalize okTo b0 b1 b2 b3 3 = OK at *
      have q0 : ((wr.alloc (.cells #[.int .i64 5, .int .i64 7, .int .i64 9, .int .i64 17] 2)).alloc (.cells #[.int .i64 2, .int .i64 2, .int .i64 8, .int .i64 8] 2)).cell? ⟨w.heap.size + 1, 0, none⟩ = some (.int .i64 x0) := by rw [cell_of_row _ _ _ _ _ _ hr]; rfl
      have q1 : ((wr.alloc (.cells #[.int .i64 5, .int .i64 7, .int .i64 9, .int .i64 17] 2)).alloc (.cells #[.int .i64 2, .int .i64 2, .int .i64 8, .int .i64 8] 2)).cell? ⟨w.heap.size + 1, 1, none⟩ = some (.int .i64 x1) := by rw [cell_of_row _ _ _ _ _ _ hr]; rfl
      have q2 : ((wr.alloc (.cells #[.int .i64 5, .int .i64 7, .int .i64 9, .int .i64 17] 2)).alloc (.cells #[.int .i64 2, .int .i64 2, .int .i64 8, .int .i64 8] 2)).cell? ⟨w.heap.size + 1, 2, none⟩ = some (.int .i64 x2) := by rw [cell_of_row _ _ _ _ _ _ hr]; rfl
      have q3 : ((wr.alloc (.cells #[.int .i64 5, .int .i64 7, .int .i64 9, .int .i64 17] 2)).alloc (.cells #[.int .i64 2, .int .i64 2, .int .i64 8, .int .i64 8] 2)).cell? ⟨w.heap.size + 1, 3, none⟩ = some (.int .i64 0) := by rw [cell_of_row _ _ _ _ _ _ hr]; rfl
      have f := frozen_of_row _ _ 3 _ _ hr
      clear hr
      cases OK
      all_goals
        go_wp2_with (go_at_call 121; refine (G3.out _).mono ?_; rintro e w' ⟨rfl, rfl⟩)
        go_roundw
        case rel => exact ⟨3 + 1, by omega, by rfl, by rw [hst.out]; rfl, hset.out, hbel.out⟩
        case measure => simp [intOf]
    · have hr : wr.heap[w.heap.size + 1]? = some (.cells #[.int .i64 x0, .int .i64 x1, .int .i64 x2, .int .i64 x3] 39 (0, 0)) := HR.out
      have RD : Hid (wr.heap[w.heap.size]? = some (.cells #[.int .i64 0, .int .i64 0, .int .i64 0, .int .i64 0] 39 (0, 0))) := Lib.hid ((Hbl.out.block _ (by omega)).trans HB.out.1)
      have BW : Hid (Below w.heap.size w wr) := Lib.hid (HB.out.2.2.2.trans (Hbl.out.mono (by have := HB.out.2.2.1; omega)))
      have q0 : wr.cell? ⟨w.heap.size + 1, 0, none⟩ = some (.int .i64 x0) := by rw [cell_of_row _ _ _ _ _ _ hr]; rfl
      have q1 : wr.cell? ⟨w.heap.size + 1, 1, none⟩ = some (.int .i64 x1) := by rw [cell_of_row _ _ _ _ _ _ hr]; rfl
      have q2 : wr.cell? ⟨w.heap.size + 1, 2, none⟩ = some (.int .i64 x2) := by rw [cell_of_row _ _ _ _ _ _ hr]; rfl
      have q3 : wr.cell? ⟨w.heap.size + 1, 3, none⟩ = some (.int .i64 x3) := by rw [cell_of_row _ _ _ _ _ _ hr]; rfl
      have HRow := Lib.hid hr
      clear hr HR
      generalize okTo b0 b1 b2 b3 4 = OK at *
      obtain rfl : O = OK := EO.out
      clear EO
      cases O
      · have E : Hid (A = #[.int .i64 0, .int .i64 0, .int .i64 0, .int .i64 0] ∧ Y = false) := Lib.hid (by have h := EY.out; simp at h; exact ⟨by rw [EA.out, h]; rfl, h⟩)
        go_wp2_with (refine wpList_store_row rfl 39 (.tmp 2) (.tmp 67) rfl w.heap.size #[.int .i64 0, .int .i64 0, .int .i64 0, .int .i64 0] rfl rfl 39 _ RD.out (infoS4 _ _ _ _) rfl oneS4 ?_)
        refine bodyPost_ret (v := .tuple #[.agg #[.int .i64 0, .int .i64 0, .int .i64 0, .int .i64 0], .bool false]) ?_ rfl ?_
        · exact results_cell_row2 rfl _ _ w.heap.size 39 _ (0, 0) _ _ rfl rfl (setRow_heap _ _ _ _ _ _ RD.out) Try.underlying39 rfl (by kernel_rfl)
        · exact ⟨by rw [E.out.1, E.out.2], below_setRow BW.out (Nat.le_refl _) _⟩
      cases hv : supOk x0 x1 x2 x3
      · have E : Hid (A = #[.int .i64 0, .int .i64 0, .int .i64 0, .int .i64 0] ∧ Y = false) := Lib.hid (by have h := EY.out; simp [hv] at h; exact ⟨by rw [EA.out, h]; rfl, h⟩)
        have HV := Lib.hid hv; clear hv
        go_wp2_with fail
        clear q0 q1 q2 q3
        refine (specValidSuper_any x0 x1 x2 x3 wr (by have := I0.out; unfold InI; omega) (by have := I1.out; unfold InI; omega)).mono ?_
        rintro e w5 ⟨rfl, g⟩
        rw [HV.out]
        have RD5 : Hid (w5.heap[w.heap.size]? = some (.cells #[.int .i64 0, .int .i64 0, .int .i64 0, .int .i64 0] 39 (0, 0))) := Lib.hid ((g.block _ (by have := Hsz.out; omega)).trans RD.out)
        have RS5 : Hid (w5.heap[w.heap.size + 1]? = some (.cells #[.int .i64 x0, .int .i64 x1, .int .i64 x2, .int .i64 x3] 39 (0, 0))) := Lib.hid ((g.block _ (by have := Hsz.out; omega)).trans HRow.out)
        have BW5 : Hid (Below w.heap.size w w5) := Lib.hid (BW.out.trans (g.mono BW.out.size))
        have Hsz5 : Hid (w.heap.size + 2 ≤ w5.heap.size) := Lib.hid (by have := Hsz.out; have := g.size; omega)
        clear g
        go_wp2_with (refine wpList_store_row rfl 39 (.tmp 2) (.tmp 67) rfl w.heap.size #[.int .i64 0, .int .i64 0, .int .i64 0, .int .i64 0] rfl rfl 39 _ RD5.out (infoS4 _ _ _ _) rfl oneS4 ?_)
        refine bodyPost_ret (v := .tuple #[.agg #[.int .i64 0, .int .i64 0, .int .i64 0, .int .i64 0], .bool false]) ?_ rfl ?_
        · exact results_cell_row2 rfl _ _ w.heap.size 39 _ (0, 0) _ _ rfl rfl (setRow_heap _ _ _ _ _ _ RD5.out) Try.underlying39 rfl (by kernel_rfl)
        · exact ⟨by rw [E.out.1, E.out.2], below_setRow BW5.out (Nat.le_refl _) _⟩
      · have HV := Lib.hid hv; clear hv
        go_wp2_with fail
        clear q0 q1 q2 q3
        refine (specValidSuper_any x0 x1 x2 x3 wr (by have := I0.out; unfold InI; omega) (by have := I1.out; unfold InI; omega)).mono ?_
        rintro e w5 ⟨rfl, g⟩
        rw [HV.out]
        have RD5 : Hid (w5.heap[w.heap.size]? = some (.cells #[.int .i64 0, .int .i64 0, .int .i64 0, .int .i64 0] 39 (0, 0))) := Lib.hid ((g.block _ (by have := Hsz.out; omega)).trans RD.out)
        have RS5 : Hid (w5.heap[w.heap.size + 1]? = some (.cells #[.int .i64 x0, .int .i64 x1, .int .i64 x2, .int .i64 x3] 39 (0, 0))) := Lib.hid ((g.block _ (by have := Hsz.out; omega)).trans HRow.out)
        have BW5 : Hid (Below w.heap.size w w5) := Lib.hid (BW.out.trans (g.mono BW.out.size))
        have Hsz5 : Hid (w.heap.size + 2 ≤ w5.heap.size) := Lib.hid (by have := Hsz.out; have := g.size; omega)
        clear g
        have p0 : w5.cell? ⟨w.heap.size + 1, 0, none⟩ = some (.int .i64 x0) := by rw [cell_of_row _ _ _ _ _ _ RS5.out]; rfl
        have p1 : w5.cell? ⟨w.heap.size + 1, 1, none⟩ = some (.int .i64 x1) := by rw [cell_of_row _ _ _ _ _ _ RS5.out]; rfl
        have p2 : w5.cell? ⟨w.heap.size + 1, 2, none⟩ = some (.int .i64 x2) := by rw [cell_of_row _ _ _ _ _ _ RS5.out]; rfl
        have p3 : w5.cell? ⟨w.heap.size + 1, 3, none⟩ = some (.int .i64 x3) := by rw [cell_of_row _ _ _ _ _ _ RS5.out]; rfl
        go_wp2_with fail
        clear p0 p1 p2 p3
        refine (l10Encode_any x0 x1 x2 x3 w5).mono ?_
        rintro e w6 ⟨rfl, g⟩
        have RD6 : Hid (w6.heap[w.heap.size]? = some (.cells #[.int .i64 0, .int .i64 0, .int .i64 0, .int .i64 0] 39 (0, 0))) := Lib.hid ((g.block _ (by have := BW5.out.size; have := Hsz5.out; omega)).trans RD5.out)
        have RS6 : Hid (w6.heap[w.heap.size + 1]? = some (.cells #[.int .i64 x0, .int .i64 x1, .int .i64 x2, .int .i64 x3] 39 (0, 0))) := Lib.hid ((g.block _ (by have := Hsz5.out; omega)).trans RS5.out)
        have BW6 : Hid (Below w.heap.size w w6) := Lib.hid (BW5.out.trans (g.mono BW5.out.size))
        clear g
        generalize supB x0 x1 x2 x3 = t at *
        by_cases hts : t = s
        · have E : Hid (A = #[.int .i64 x0, .int .i64 x1, .int .i64 x2, .int .i64 x3] ∧ Y = true) := Lib.hid (by have h := EY.out; simp [HV.out, hts] at h; exact ⟨by rw [EA.out, h]; rfl, h⟩)
          subst hts
          have p0 : w6.cell? ⟨w.heap.size + 1, 0, none⟩ = some (.int .i64 x0) := by rw [cell_of_row _ _ _ _ _ _ RS6.out]; rfl
          have p1 : w6.cell? ⟨w.heap.size + 1, 1, none⟩ = some (.int .i64 x1) := by rw [cell_of_row _ _ _ _ _ _ RS6.out]; rfl
          have p2 : w6.cell? ⟨w.heap.size + 1, 2, none⟩ = some (.int .i64 x2) := by rw [cell_of_row _ _ _ _ _ _ RS6.out]; rfl
          have p3 : w6.cell? ⟨w.heap.size + 1, 3, none⟩ = some (.int .i64 x3) := by rw [cell_of_row _ _ _ _ _ _ RS6.out]; rfl
          go_wp2_with (refine wpList_store_row rfl 39 (.tmp 2) (.tmp 68) rfl w.heap.size #[.int .i64 x0, .int .i64 x1, .int .i64 x2, .int .i64 x3] rfl rfl 39 _ RD6.out (infoS4 _ _ _ _) rfl oneS4 ?_)
          refine bodyPost_ret (v := .tuple #[.agg #[.int .i64 x0, .int .i64 x1, .int .i64 x2, .int .i64 x3], .bool true]) ?_ rfl ?_
          · exact results_cell_row2 rfl _ _ w.heap.size 39 _ (0, 0) _ _ rfl rfl (setRow_heap _ _ _ _ _ _ RD6.out) Try.underlying39 rfl (by kernel_rfl)
          · exact ⟨by rw [E.out.1, E.out.2], below_setRow BW6.out (Nat.le_refl _) _⟩
        · have E : Hid (A = #[.int .i64 0, .int .i64 0, .int .i64 0, .int .i64 0] ∧ Y = false) := Lib.hid (by have h := EY.out; simp [HV.out, hts] at h; exact ⟨by rw [EA.out, h]; rfl, h⟩)
          have htl := toList_ne2 hts
          have htl2 : (t.toList == s.toList) = false := by simpa using htl
          go_wp2_with (refine wpList_store_row rfl 39 (.tmp 2) (.tmp 67) rfl w.heap.size #[.int .i64 0, .int .i64 0, .int .i64 0, .int .i64 0] rfl rfl 39 _ RD6.out (infoS4 _ _ _ _) rfl oneS4 ?_)
          refine bodyPost_ret (v := .tuple #[.agg #[.int .i64 0, .int .i64 0, .int .i64 0, .int .i64 0], .bool false]) ?_ rfl ?_
          · exact results_cell_row2 rfl _ _ w.heap.size 39 _ (0, 0) _ _ rfl rfl (setRow_heap _ _ _ _ _ _ RD6.out) Try.underlying39 rfl (by kernel_rfl)
          · exact ⟨by rw [E.out.1, E.out.2], below_setRow BW6.out (Nat.le_refl _) _⟩
end Go.Proofs.Ytlickjmdlooapaa
