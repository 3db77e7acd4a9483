/- Contracts of the model's function that reads a dataspace's bytes. No statement is proved here. -/
import Derived.Test.YtaokifppaagalaaAcc
import Derived.Test.YtaokifppaagalaaEnc
import Derived.Test.YtaokifppaagalaaHeld
namespace Go.Proofs.Ytaokifppaagalaa
open Go.RowKit
set_option linter.unusedVariables false
/-- A byte as a number. -/
def bN (s : ByteArray) (i : Nat) : Nat := (s.data.toList.getD i 0).toNat
theorem bN_lt (s : ByteArray) (i : Nat) : bN s i < 256 := UInt8.toNat_lt _
theorem bN_at (s : ByteArray) (i : Nat) (h : i < s.size) : bN s i = (s[i]'h).toNat := by
  have hl : s.data.toList.length = s.size := by simp
  unfold bN; rw [List.getD_eq_getElem?_getD, List.getElem?_eq_getElem (by omega)]; rfl
theorem bN_read (s : ByteArray) (i : Nat) (z : Int) (hz : z = (i : Int)) (h : i < s.size) (w1 : World) : (Instr.index 9 (.string s) (.int .i64 z)).run Try.prog w1 = .ok (.int .u8 ((bN s i : Nat) : Int)) w1 := by
  subst hz
  rw [run_index_string w1 9 s .i64 _ Try.underlying9, dif_pos ⟨by omega, by omega⟩, bN_at s i h]
  simp
theorem toList_loop_eq (t : ByteArray) (i : Nat) (r : List UInt8) : ByteArray.toList.loop t i r = r.reverse ++ t.data.toList.drop i := by
  have hz : t.data.toList.length = t.size := by simp
  induction i, r using ByteArray.toList.loop.induct (bs := t) with
  | case1 i r h ih =>
    unfold ByteArray.toList.loop
    rw [if_pos h, ih, List.reverse_cons, List.append_assoc, List.drop_eq_getElem_cons (i := i) (by omega)]
    congr 1
    have h2 : i < t.data.size := h
    have e : t.get! i = t.data.toList[i]'(by omega) := by
      show t.data[i]! = t.data[i]
      exact getElem!_pos t.data i h2
    rw [e]; rfl
  | case2 i r h =>
    unfold ByteArray.toList.loop
    rw [if_neg h, List.drop_eq_nil_of_le (by omega), List.append_nil]
theorem toList_eq (t : ByteArray) : t.toList = t.data.toList := by
  show ByteArray.toList.loop t 0 [] = _
  rw [toList_loop_eq]; simp
theorem toList_ne2 {s t : ByteArray} (h : ¬ s = t) : ¬ s.toList = t.toList := fun e => h (by
  rw [toList_eq, toList_eq] at e
  exact ByteArray.ext (Array.toList_inj.1 e))
theorem ba_ne {s : ByteArray} (h : ¬ s.size = 0) : ¬ s.toList = [] := fun e => h (by
  rw [toList_eq] at e
  have h2 : s.data.toList.length = s.size := by simp
  rw [e] at h2; simpa using h2.symm)
def decD (s : ByteArray) (k : Nat) : List Int := (List.range k).map fun j => ((bN s (1 + 2 * j) : Nat) : Int)
def mS (b : Nat) : Int := if b = 255 then -1 else (b : Int)
def mI (b : Nat) : Int := if b < 128 then (b : Int) else (b : Int) - 256
def decM (s : ByteArray) (k : Nat) : List Int := (List.range k).map fun j => mS (bN s (2 + 2 * j))
def decI (s : ByteArray) (k : Nat) : List Int := (List.range k).map fun j => mI (bN s (2 + 2 * j))
def decK (s : ByteArray) : Nat := (s.size - 1) / 2
def decOk (s : ByteArray) : Bool := decide (s.size % 2 = 1) && decide (encS (decD s (decK s)) (decI s (decK s)) = s)
def ansD (s : ByteArray) : List Int := if decOk s then decD s (decK s) else []
def ansM (s : ByteArray) : List Int := if decOk s then decI s (decK s) else []
theorem decD_len (s : ByteArray) (k : Nat) : (decD s k).length = k := by simp [decD]
theorem decM_len (s : ByteArray) (k : Nat) : (decM s k).length = k := by simp [decM]
theorem decI_len (s : ByteArray) (k : Nat) : (decI s k).length = k := by simp [decI]
theorem decD_step (s : ByteArray) (k : Nat) : decD s k ++ [((bN s (1 + 2 * k) : Nat) : Int)] = decD s (k + 1) := by simp [decD, List.range_succ]
theorem decM_step (s : ByteArray) (k : Nat) : decM s k ++ [mS (bN s (2 + 2 * k))] = decM s (k + 1) := by simp [decM, List.range_succ]
theorem decI_step (s : ByteArray) (k : Nat) : decI s k ++ [mI (bN s (2 + 2 * k))] = decI s (k + 1) := by simp [decI, List.range_succ]
theorem decD_in (s : ByteArray) (k : Nat) : ∀ x ∈ decD s k, InI x := fun x hx => by
  obtain ⟨j, _, rfl⟩ := List.mem_map.1 hx
  have := bN_lt s (1 + 2 * j); unfold InI; omega
theorem mS_in (b : Nat) (h : b < 256) : InI (mS b) := by unfold mS InI; split <;> omega
theorem mI_in (b : Nat) (h : b < 256) : InI (mI b) := by unfold mI InI; split <;> omega
theorem decM_in (s : ByteArray) (k : Nat) : ∀ x ∈ decM s k, InI x := fun x hx => by
  obtain ⟨j, _, rfl⟩ := List.mem_map.1 hx
  exact mS_in _ (bN_lt _ _)
theorem decI_in (s : ByteArray) (k : Nat) : ∀ x ∈ decI s k, InI x := fun x hx => by
  obtain ⟨j, _, rfl⟩ := List.mem_map.1 hx
  exact mI_in _ (bN_lt _ _)
theorem enc_space {xs ms : List Int} {s : ByteArray} (h : encS xs ms = s) (h0 : 0 < s.size) : spaceOk xs ms = true ∧ s.size = 1 + 2 * xs.length := by
  unfold encS at h
  split at h
  · rename_i hs
    exact ⟨hs, by rw [← h, encL_size]⟩
  · subst h; exact absurd h0 (by decide)
theorem mSI {s : ByteArray} {k : Nat} (h : ∀ j, j < k → bN s (2 + 2 * j) < 128 ∨ bN s (2 + 2 * j) = 255) : decM s k = decI s k := by
  unfold decM decI
  refine List.map_congr_left fun j hj => ?_
  have hb := h j (List.mem_range.1 hj)
  unfold mS mI
  split <;> split <;> omega
theorem mS_ok {s : ByteArray} {k : Nat} (h : spaceOk (decD s k) (decM s k) = true) : ∀ j, j < k → bN s (2 + 2 * j) < 128 ∨ bN s (2 + 2 * j) = 255 := fun j hj => by
  have := (space_at h j (by rw [decD_len]; exact hj) (by rw [decM_len]; exact hj)).2.2
  simp only [decM, List.getElem_map, List.getElem_range] at this
  unfold mS at this
  split at this <;> omega
theorem mI_ok {s : ByteArray} {k : Nat} (h : spaceOk (decD s k) (decI s k) = true) : ∀ j, j < k → bN s (2 + 2 * j) < 128 ∨ bN s (2 + 2 * j) = 255 := fun j hj => by
  have := (space_at h j (by rw [decD_len]; exact hj) (by rw [decI_len]; exact hj)).2.2
  simp only [decI, List.getElem_map, List.getElem_range] at this
  have hb := bN_lt s (2 + 2 * j)
  unfold mI at this
  split at this <;> omega
theorem space_short {xs ms : List Int} (h : spaceOk xs ms = true) : xs.length ≤ 3 := (dimsOk_iff (spaceOk_iff h).1).1
/-- The model's early end makes no difference. -/
theorem dec_model (s : ByteArray) (k : Nat) (hk : k = min (decK s) 4) : (decide (0 < s.size ∧ encS (decD s k) (decM s k) = s) = decOk s) ∧ (decOk s = true → decD s k = decD s (decK s) ∧ decM s k = decI s (decK s)) := by
  have key : (0 < s.size ∧ encS (decD s k) (decM s k) = s) → k = decK s ∧ s.size % 2 = 1 ∧ decM s k = decI s k := fun ⟨h0, h⟩ => by
    obtain ⟨hs, hz⟩ := enc_space h h0
    have h3 := space_short hs
    rw [decD_len] at hz h3
    have hK : decK s = k := by unfold decK; omega
    exact ⟨hK.symm, by omega, mSI (mS_ok hs)⟩
  have key2 : decOk s = true → k = decK s ∧ 0 < s.size ∧ decM s k = decI s k ∧ encS (decD s k) (decI s k) = s := fun h => by
    simp only [decOk, Bool.and_eq_true, decide_eq_true_eq] at h
    have h0 : 0 < s.size := by omega
    obtain ⟨hs, hz⟩ := enc_space h.2 h0
    have h3 := space_short hs
    rw [decD_len] at h3
    have hK : k = decK s := by omega
    rw [hK]
    exact ⟨rfl, h0, mSI (mI_ok hs), h.2⟩
  refine ⟨?_, fun h => ?_⟩
  · rw [Bool.eq_iff_iff, decide_eq_true_iff]
    refine ⟨fun h => ?_, fun h => ?_⟩
    · obtain ⟨k1, k2, k3⟩ := key h
      have h2 := h.2
      rw [k3] at h2
      simp only [decOk, Bool.and_eq_true, decide_eq_true_eq]
      rw [← k1]
      exact ⟨k2, h2⟩
    · obtain ⟨k1, k2, k3, k4⟩ := key2 h
      exact ⟨k2, by rw [k3]; exact k4⟩
  · obtain ⟨k1, k2, k3, k4⟩ := key2 h
    rw [← k1]
    exact ⟨rfl, k3⟩
set_option maxHeartbeats 4000000 in
set_option maxRecDepth 100000 in
theorem specDec_any (s : ByteArray) (w : World) (hs : s.size ≤ 1048576) :
    Calls Try.prog 15 #[.string s] w (AnsAt (ansD s) (ansM s) (.bool (decOk s)) w) := by
  generalize hr : decOk s = r
  have HL : Hid (ansD s = if r then decD s (decK s) else []) := Lib.hid (by unfold ansD; rw [hr])
  have HM : Hid (ansM s = if r then decI s (decK s) else []) := Lib.hid (by unfold ansM; rw [hr])
  generalize ansD s = Lo at *
  generalize ansM s = Hi at *
  have Hr := Lib.hid hr; clear hr
  have HB0 : Hid (Below w.heap.size w ((w.alloc (.cells #[.slice none 0 0, .slice none 0 0] 24)).alloc (.cells #[.slice none 0 0, .slice none 0 0] 24))) := Lib.hid (((Below.refl _ w).alloc (Nat.le_refl _) _).alloc (by simp) _)
  have Hr0 : Hid (((w.alloc (.cells #[.slice none 0 0, .slice none 0 0] 24)).alloc (.cells #[.slice none 0 0, .slice none 0 0] 24)).heap[w.heap.size]? = some (.cells #[.slice none 0 0, .slice none 0 0] 24 (0, 0))) := Lib.hid (heap_alloc2_old w _ _)
  have HA0 : Hid (Acc ((w.alloc (.cells #[.slice none 0 0, .slice none 0 0] 24)).alloc (.cells #[.slice none 0 0, .slice none 0 0] 24)) (w.heap.size + 1) 24 (.slice none 0 0) (.slice none 0 0) (decD s 0) (decM s 0)) := Lib.hid (by
    have h := Acc.start (w.alloc (.cells #[.slice none 0 0, .slice none 0 0] 24)) 24
    rw [show (w.alloc (.cells #[.slice none 0 0, .slice none 0 0] 24)).heap.size = w.heap.size + 1 by simp] at h
    exact h)
  have HB1 : Hid (Below (w.heap.size + 1) ((w.alloc (.cells #[.slice none 0 0, .slice none 0 0] 24)).alloc (.cells #[.slice none 0 0, .slice none 0 0] 24)) ((w.alloc (.cells #[.slice none 0 0, .slice none 0 0] 24)).alloc (.cells #[.slice none 0 0, .slice none 0 0] 24))) := Lib.hid (Below.refl _ _)
  have Hi9 : Hid ((Try.prog.info? 24).map (·.size) = some (#[.slice none 0 0, .slice none 0 0] : Array Value).size) := Lib.hid (by kernel_rfl)
  have H19 : Hid ((#[.slice none 0 0, .slice none 0 0] : Array Value).all (·.oneCell') = true) := Lib.hid (by simp [Value.oneCell'])
  go_enter Try.func15, Try.ntmps15
  go_wp2_with fail
  generalize ((w.alloc (.cells #[.slice none 0 0, .slice none 0 0] 24)).alloc (.cells #[.slice none 0 0, .slice none 0 0] 24)) = W0 at *
  go_loopw [5] (fun i wr => ∃ (k : Nat) (u1 u2 : Value), k ≤ decK s ∧ k ≤ 4 ∧ i = .int .i64 (1 + 2 * (k : Int)) ∧ Acc wr (w.heap.size + 1) 24 u1 u2 (decD s k) (decM s k) ∧ Below (w.heap.size + 1) W0 wr) (fun i _ => s.size + 1 - (intOf i).toNat)
  case atStart => exact ⟨0, _, _, Nat.zero_le _, by omega, rfl, HA0.out, HB1.out⟩
  case round =>
    obtain ⟨k, u1, u2, hk, hk4, rfl, hacc, hbel⟩ := hrel
    have Hbel := Lib.hid hbel; have Hacc := Lib.hid hacc
    have Hlk := Lib.hid (decD_len s k); have Hlm := Lib.hid (decM_len s k)
    have HsD := Lib.hid (decD_step s k)
    have q5 := hacc.c0
    have Hsz : Hid (w.heap.size + 1 < wr.heap.size) := Lib.hid hacc.lt
    have Hd : Hid (k ≤ 4) := Lib.hid hk4
    have HrW : Hid (wr.heap[w.heap.size]? = some (.cells #[.slice none 0 0, .slice none 0 0] 24 (0, 0))) := Lib.hid ((hbel.block _ (by omega)).trans Hr0.out)
    have HBW : Hid (Below w.heap.size w wr) := Lib.hid (HB0.out.trans (hbel.mono (by omega)))
    have hw1 : IntKind.i64.wrap (1 + 2 * (k : Int) + 1) = 1 + 2 * (k : Int) + 1 := IntWalk.i64_in _ (by omega)
    have hw2 : IntKind.i64.wrap (1 + 2 * (k : Int) + 2) = 1 + 2 * (k : Int) + 2 := IntWalk.i64_in _ (by omega)
    obtain ⟨E1, e1, hu1⟩ := hacc.2.1.sl
    have Hu1 := Lib.hid hu1
    by_cases hlt : 2 + 2 * k < s.size
    · have q1 : decide (1 + 2 * (k : Int) + 1 < (s.size : Int)) = true := decide_eq_true (by omega)
      by_cases h3 : k ≤ 3
      · have hb1 := fun w1 => bN_read s (1 + 2 * k) (1 + 2 * (k : Int)) (by omega) (by omega) w1
        have hb2 := fun w1 => bN_read s (2 + 2 * k) (1 + 2 * (k : Int) + 1) (by omega) (by omega) w1
        have hc1 : IntKind.i64.wrap ((bN s (1 + 2 * k) : Nat) : Int) = ((bN s (1 + 2 * k) : Nat) : Int) := IntWalk.i64_in _ (by have := bN_lt s (1 + 2 * k); omega)
        have hc2 : IntKind.i64.wrap ((bN s (2 + 2 * k) : Nat) : Int) = ((bN s (2 + 2 * k) : Nat) : Int) := IntWalk.i64_in _ (by have := bN_lt s (2 + 2 * k); omega)
        have hkK : k < decK s := by unfold decK; omega
        have hl3 : decide (((decD s k).length : Int) ≤ 3) = true := decide_eq_true (by rw [Hlk.out]; omega)
        have hl4 : ((decD s k).length : Int) ≤ 3 := by rw [Hlk.out]; omega
        have Hms : Hid (mS (bN s (2 + 2 * k)) = if bN s (2 + 2 * k) = 255 then -1 else ((bN s (2 + 2 * k) : Nat) : Int)) := Lib.hid rfl
        clear hacc hbel
        subst hu1
        by_cases h255 : bN s (2 + 2 * k) = 255
        · have HsM : Hid (decM s k ++ [(-1 : Int)] = decM s (k + 1)) := Lib.hid (by rw [← decM_step]; unfold mS; rw [if_pos h255])
          have p1 : (((bN s (2 + 2 * k) : Nat) : Int) == 255) = true := by simp; omega
          have p2 : ((bN s (2 + 2 * k) : Nat) : Int) = 255 := by omega
          clear h255
          go_wp2
          clear q5
          refine wp_region_held_drew (S := fun _ => True) (by kernel_rfl) (trivial) (fun hHeld => ?_)
          refine held_yes 0 (some 21) rfl rfl (by kernel_rfl) (by kernel_rfl) (by kernel_rfl) (fun _ _ _ h => h) (by kernel_rfl) hHeld (v := ?_) (fun wz hSw => ?_) ?_
          rotate_left 1
          · (try dsimp only at hSw); go_simp; (try with_reducible rfl)
          try simp only [Act.put, List.setIfInBounds_toArray, List.set_cons_zero, List.set_cons_succ]
          refine held_yes 2 (some 23) rfl rfl (by kernel_rfl) (by kernel_rfl) (by kernel_rfl) (fun _ _ _ h => h) (by kernel_rfl) hHeld (v := ?_) (fun wz hSw => ?_) ?_
          rotate_left 1
          · (try dsimp only at hSw); go_simp; (try with_reducible rfl)
          try simp only [Act.put, List.setIfInBounds_toArray, List.set_cons_zero, List.set_cons_succ]
          refine held_yes 3 (some 24) rfl rfl (by kernel_rfl) (by kernel_rfl) (by kernel_rfl) (fun _ _ _ h => h) (by kernel_rfl) hHeld (v := ?_) (fun wz hSw => ?_) ?_
          rotate_left 1
          · (try dsimp only at hSw); go_simp; (try with_reducible rfl)
          try simp only [Act.put, List.setIfInBounds_toArray, List.set_cons_zero, List.set_cons_succ]
          refine held_yes 4 (some 25) rfl rfl (by kernel_rfl) (by kernel_rfl) (by kernel_rfl) (fun _ _ _ h => h) (by kernel_rfl) hHeld (v := ?_) (fun wz hSw => ?_) ?_
          rotate_left 1
          · (try dsimp only at hSw); go_simp; (try with_reducible rfl)
          try simp only [Act.put, List.setIfInBounds_toArray, List.set_cons_zero, List.set_cons_succ]
          refine held_yes 5 (some 26) rfl rfl (by kernel_rfl) (by kernel_rfl) (by kernel_rfl) (fun _ _ _ h => h) (by kernel_rfl) hHeld (v := ?_) (fun wz hSw => ?_) ?_
          rotate_left 1
          · (try dsimp only at hSw); go_simp; (try with_reducible rfl)
          try simp only [Act.put, List.setIfInBounds_toArray, List.set_cons_zero, List.set_cons_succ]
          refine wpAnyH_ready (rs := [1, 6]) (by kernel_rfl) (by simp) ?_
          refine AllReadyH.cons rfl (fun K hK => ?_) (AllReadyH.cons rfl (fun K hK => ?_) AllReadyH.nil)
          have qld : wr.drew.cell? ⟨w.heap.size + 1, 0, none⟩ = some (.slice E1 (decD s k).length e1) := Hacc.out.c0
          go_simp
          refine hK.out _ _ (trivial) (fun hHeld => ?_)
          clear hK K qld
          try simp only [Act.put, List.setIfInBounds_toArray, List.set_cons_zero, List.set_cons_succ]
          refine wpAnyH_ready (rs := [6]) (by kernel_rfl) (by simp) ?_
          refine AllReadyH.cons rfl (fun K hK => ?_) AllReadyH.nil
          go_simp
          refine hK.out _ _ (trivial) (fun hHeld => ?_)
          clear hK K
          try simp only [Act.put, List.setIfInBounds_toArray, List.set_cons_zero, List.set_cons_succ]
          refine wpAnyH_ready (rs := [7]) (by kernel_rfl) (by simp) ?_
          refine AllReadyH.cons rfl (fun K hK => ?_) AllReadyH.nil
          refine wp_pushd (W := wr.drew) (v := (.slice E1 (decD s k).length e1)) (lo := w.heap.size + 1 + 1) (xs := decD s k) (some 28) (by kernel_rfl) (.tmp 22) (.tmp 27) rfl rfl rfl rfl rfl Hacc.out.drew.2.1 Hsz.out (by have := Hlk.out; have := Hd.out; omega) ?_
          intro h1 cap1 w1 ow1 gr1 at1 lt1
          obtain ⟨m1, m2⟩ := Hacc.out.drew.mid0 gr1
          have HP1 := Lib.hid (Hacc.out.drew.push0 ow1 gr1 at1)
          have k1 := push_below Hacc.out.drew.2.1 (Acc.lt Hacc.out.drew) gr1
          refine hK.out _ _ (trivial) (fun hHeld => ?_)
          clear hK K k1 ow1 gr1 at1 lt1
          try simp only [Act.put, List.setIfInBounds_toArray, List.set_cons_zero, List.set_cons_succ]
          refine held_yes 8 (some 29) rfl rfl (by kernel_rfl) (by kernel_rfl) (by kernel_rfl) (fun _ _ _ h => h) (by kernel_rfl) hHeld (v := ?_) (fun wz hSw => ?_) ?_
          rotate_left 1
          · (try dsimp only at hSw); go_simp; (try with_reducible rfl)
          try simp only [Act.put, List.setIfInBounds_toArray, List.set_cons_zero, List.set_cons_succ]
          refine wpAnyH_ready (rs := [9]) (by kernel_rfl) (by simp) ?_
          refine AllReadyH.cons rfl (fun K hK => ?_) AllReadyH.nil
          go_simp
          refine hK.out _ _ (trivial) (fun hHeld => ?_)
          clear hK K m1 m2 hHeld
          try simp only [Act.put, List.setIfInBounds_toArray, List.set_cons_zero, List.set_cons_succ]
          refine wpAnyH_done (by kernel_rfl) ?_ _
          rotate_left
          go_simp
          refine hK.out _ _ (trivial) (fun hHeld => ?_)
          clear hK K
          try simp only [Act.put, List.setIfInBounds_toArray, List.set_cons_zero, List.set_cons_succ]
          refine wpAnyH_ready (rs := [1]) (by kernel_rfl) (by simp) ?_
          refine AllReadyH.cons rfl (fun K hK => ?_) AllReadyH.nil
          have qld : (wr.alloc (.cells #[.int .i64 ((bN s (1 + 2 * k) : Nat) : Int)] 2)).drew.cell? ⟨w.heap.size + 1, 0, none⟩ = some (.slice E1 (decD s k).length e1) := (Hacc.out.drew.keep ((Below.refl _ _).alloc (Nat.le_refl _) _)).c0
          go_simp
          refine hK.out _ _ (trivial) (fun hHeld => ?_)
          clear hK K qld
          try simp only [Act.put, List.setIfInBounds_toArray, List.set_cons_zero, List.set_cons_succ]
          refine wpAnyH_ready (rs := [7]) (by kernel_rfl) (by simp) ?_
          refine AllReadyH.cons rfl (fun K hK => ?_) AllReadyH.nil
          refine wp_pushd (W := wr.drew) (v := (.slice E1 (decD s k).length e1)) (lo := w.heap.size + 1 + 1) (xs := decD s k) (some 28) (by kernel_rfl) (.tmp 22) (.tmp 27) rfl rfl rfl rfl rfl Hacc.out.drew.2.1 Hsz.out (by have := Hlk.out; have := Hd.out; omega) ?_
          intro h1 cap1 w1 ow1 gr1 at1 lt1
          obtain ⟨m1, m2⟩ := Hacc.out.drew.mid0 gr1
          have HP1 := Lib.hid (Hacc.out.drew.push0 ow1 gr1 at1)
          have k1 := push_below Hacc.out.drew.2.1 (Acc.lt Hacc.out.drew) gr1
          refine hK.out _ _ (trivial) (fun hHeld => ?_)
          clear hK K k1 ow1 gr1 at1 lt1
          try simp only [Act.put, List.setIfInBounds_toArray, List.set_cons_zero, List.set_cons_succ]
          refine held_yes 8 (some 29) rfl rfl (by kernel_rfl) (by kernel_rfl) (by kernel_rfl) (fun _ _ _ h => h) (by kernel_rfl) hHeld (v := ?_) (fun wz hSw => ?_) ?_
          rotate_left 1
          · (try dsimp only at hSw); go_simp; (try with_reducible rfl)
          try simp only [Act.put, List.setIfInBounds_toArray, List.set_cons_zero, List.set_cons_succ]
          refine wpAnyH_ready (rs := [9]) (by kernel_rfl) (by simp) ?_
          refine AllReadyH.cons rfl (fun K hK => ?_) AllReadyH.nil
          go_simp
          refine hK.out _ _ (trivial) (fun hHeld => ?_)
          clear hK K m1 m2 hHeld
          try simp only [Act.put, List.setIfInBounds_toArray, List.set_cons_zero, List.set_cons_succ]
          refine wpAnyH_done (by kernel_rfl) ?_ _
          rotate_left
          all_goals (
            have HV0 := Lib.hid HP1.out.1
            have HV1 := Lib.hid HP1.out.2
            have HZ1 := Lib.hid HP1.out.1.lt
            clear HP1
            try simp only [Exit.then]
            generalize (w1.setCell ⟨w.heap.size + 1, 0, none⟩ (.slice (some ⟨h1, 0, none⟩) ((decD s k).length + 1) cap1)) = V1 at *
            have v1 := HV0.out.c1
            go_wp2_with (at_builtin; refine wpList_push (W := V1) (v := u2) (lo := w.heap.size + 1 + 1) (xs := decM s k) rfl (.tmp 38) (.tmp 40) rfl rfl rfl rfl HV0.out.2.2.1 HZ1.out (by have := Hlm.out; have := Hd.out; omega) ?_; intro h2 cap2 w2 ow2 gr2 at2 lt2; clear v1; obtain ⟨m4, m5⟩ := HV0.out.mid1 gr2; have HP2 := Lib.hid (HV0.out.push1 ow2 gr2 at2); clear ow2 gr2 at2)
            go_roundw
            case rel => exact ⟨k + 1, _, _, by omega, by omega, by go_num, HsD.out ▸ HsM.out ▸ HP2.out.1, Hbel.out.trans ((Below.refl _ _).drew.trans (HV1.out.trans HP2.out.2))⟩
            case measure => simp [intOf]; omega)
        · have HsM : Hid (decM s k ++ [((bN s (2 + 2 * k) : Nat) : Int)] = decM s (k + 1)) := Lib.hid (by rw [← decM_step]; unfold mS; rw [if_neg h255])
          have p1 : (((bN s (2 + 2 * k) : Nat) : Int) == 255) = false := by simp; omega
          have p2 : ¬ ((bN s (2 + 2 * k) : Nat) : Int) = 255 := by omega
          clear h255
          go_wp2
          clear q5
          refine wp_region_held_drew (S := fun _ => True) (by kernel_rfl) (trivial) (fun hHeld => ?_)
          refine held_yes 0 (some 21) rfl rfl (by kernel_rfl) (by kernel_rfl) (by kernel_rfl) (fun _ _ _ h => h) (by kernel_rfl) hHeld (v := ?_) (fun wz hSw => ?_) ?_
          rotate_left 1
          · (try dsimp only at hSw); go_simp; (try with_reducible rfl)
          try simp only [Act.put, List.setIfInBounds_toArray, List.set_cons_zero, List.set_cons_succ]
          refine held_yes 2 (some 23) rfl rfl (by kernel_rfl) (by kernel_rfl) (by kernel_rfl) (fun _ _ _ h => h) (by kernel_rfl) hHeld (v := ?_) (fun wz hSw => ?_) ?_
          rotate_left 1
          · (try dsimp only at hSw); go_simp; (try with_reducible rfl)
          try simp only [Act.put, List.setIfInBounds_toArray, List.set_cons_zero, List.set_cons_succ]
          refine held_yes 3 (some 24) rfl rfl (by kernel_rfl) (by kernel_rfl) (by kernel_rfl) (fun _ _ _ h => h) (by kernel_rfl) hHeld (v := ?_) (fun wz hSw => ?_) ?_
          rotate_left 1
          · (try dsimp only at hSw); go_simp; (try with_reducible rfl)
          try simp only [Act.put, List.setIfInBounds_toArray, List.set_cons_zero, List.set_cons_succ]
          refine held_yes 4 (some 25) rfl rfl (by kernel_rfl) (by kernel_rfl) (by kernel_rfl) (fun _ _ _ h => h) (by kernel_rfl) hHeld (v := ?_) (fun wz hSw => ?_) ?_
          rotate_left 1
          · (try dsimp only at hSw); go_simp; (try with_reducible rfl)
          try simp only [Act.put, List.setIfInBounds_toArray, List.set_cons_zero, List.set_cons_succ]
          refine held_yes 5 (some 26) rfl rfl (by kernel_rfl) (by kernel_rfl) (by kernel_rfl) (fun _ _ _ h => h) (by kernel_rfl) hHeld (v := ?_) (fun wz hSw => ?_) ?_
          rotate_left 1
          · (try dsimp only at hSw); go_simp; (try with_reducible rfl)
          try simp only [Act.put, List.setIfInBounds_toArray, List.set_cons_zero, List.set_cons_succ]
          refine wpAnyH_ready (rs := [1, 6]) (by kernel_rfl) (by simp) ?_
          refine AllReadyH.cons rfl (fun K hK => ?_) (AllReadyH.cons rfl (fun K hK => ?_) AllReadyH.nil)
          have qld : wr.drew.cell? ⟨w.heap.size + 1, 0, none⟩ = some (.slice E1 (decD s k).length e1) := Hacc.out.c0
          go_simp
          refine hK.out _ _ (trivial) (fun hHeld => ?_)
          clear hK K qld
          try simp only [Act.put, List.setIfInBounds_toArray, List.set_cons_zero, List.set_cons_succ]
          refine wpAnyH_ready (rs := [6]) (by kernel_rfl) (by simp) ?_
          refine AllReadyH.cons rfl (fun K hK => ?_) AllReadyH.nil
          go_simp
          refine hK.out _ _ (trivial) (fun hHeld => ?_)
          clear hK K
          try simp only [Act.put, List.setIfInBounds_toArray, List.set_cons_zero, List.set_cons_succ]
          refine wpAnyH_ready (rs := [7]) (by kernel_rfl) (by simp) ?_
          refine AllReadyH.cons rfl (fun K hK => ?_) AllReadyH.nil
          refine wp_pushd (W := wr.drew) (v := (.slice E1 (decD s k).length e1)) (lo := w.heap.size + 1 + 1) (xs := decD s k) (some 28) (by kernel_rfl) (.tmp 22) (.tmp 27) rfl rfl rfl rfl rfl Hacc.out.drew.2.1 Hsz.out (by have := Hlk.out; have := Hd.out; omega) ?_
          intro h1 cap1 w1 ow1 gr1 at1 lt1
          obtain ⟨m1, m2⟩ := Hacc.out.drew.mid0 gr1
          have HP1 := Lib.hid (Hacc.out.drew.push0 ow1 gr1 at1)
          have k1 := push_below Hacc.out.drew.2.1 (Acc.lt Hacc.out.drew) gr1
          refine hK.out _ _ (trivial) (fun hHeld => ?_)
          clear hK K k1 ow1 gr1 at1 lt1
          try simp only [Act.put, List.setIfInBounds_toArray, List.set_cons_zero, List.set_cons_succ]
          refine held_yes 8 (some 29) rfl rfl (by kernel_rfl) (by kernel_rfl) (by kernel_rfl) (fun _ _ _ h => h) (by kernel_rfl) hHeld (v := ?_) (fun wz hSw => ?_) ?_
          rotate_left 1
          · (try dsimp only at hSw); go_simp; (try with_reducible rfl)
          try simp only [Act.put, List.setIfInBounds_toArray, List.set_cons_zero, List.set_cons_succ]
          refine wpAnyH_ready (rs := [9]) (by kernel_rfl) (by simp) ?_
          refine AllReadyH.cons rfl (fun K hK => ?_) AllReadyH.nil
          go_simp
          refine hK.out _ _ (trivial) (fun hHeld => ?_)
          clear hK K m1 m2 hHeld
          try simp only [Act.put, List.setIfInBounds_toArray, List.set_cons_zero, List.set_cons_succ]
          refine wpAnyH_done (by kernel_rfl) ?_ _
          rotate_left
          go_simp
          refine hK.out _ _ (trivial) (fun hHeld => ?_)
          clear hK K
          try simp only [Act.put, List.setIfInBounds_toArray, List.set_cons_zero, List.set_cons_succ]
          refine wpAnyH_ready (rs := [1]) (by kernel_rfl) (by simp) ?_
          refine AllReadyH.cons rfl (fun K hK => ?_) AllReadyH.nil
          have qld : (wr.alloc (.cells #[.int .i64 ((bN s (1 + 2 * k) : Nat) : Int)] 2)).drew.cell? ⟨w.heap.size + 1, 0, none⟩ = some (.slice E1 (decD s k).length e1) := (Hacc.out.drew.keep ((Below.refl _ _).alloc (Nat.le_refl _) _)).c0
          go_simp
          refine hK.out _ _ (trivial) (fun hHeld => ?_)
          clear hK K qld
          try simp only [Act.put, List.setIfInBounds_toArray, List.set_cons_zero, List.set_cons_succ]
          refine wpAnyH_ready (rs := [7]) (by kernel_rfl) (by simp) ?_
          refine AllReadyH.cons rfl (fun K hK => ?_) AllReadyH.nil
          refine wp_pushd (W := wr.drew) (v := (.slice E1 (decD s k).length e1)) (lo := w.heap.size + 1 + 1) (xs := decD s k) (some 28) (by kernel_rfl) (.tmp 22) (.tmp 27) rfl rfl rfl rfl rfl Hacc.out.drew.2.1 Hsz.out (by have := Hlk.out; have := Hd.out; omega) ?_
          intro h1 cap1 w1 ow1 gr1 at1 lt1
          obtain ⟨m1, m2⟩ := Hacc.out.drew.mid0 gr1
          have HP1 := Lib.hid (Hacc.out.drew.push0 ow1 gr1 at1)
          have k1 := push_below Hacc.out.drew.2.1 (Acc.lt Hacc.out.drew) gr1
          refine hK.out _ _ (trivial) (fun hHeld => ?_)
          clear hK K k1 ow1 gr1 at1 lt1
          try simp only [Act.put, List.setIfInBounds_toArray, List.set_cons_zero, List.set_cons_succ]
          refine held_yes 8 (some 29) rfl rfl (by kernel_rfl) (by kernel_rfl) (by kernel_rfl) (fun _ _ _ h => h) (by kernel_rfl) hHeld (v := ?_) (fun wz hSw => ?_) ?_
          rotate_left 1
          · (try dsimp only at hSw); go_simp; (try with_reducible rfl)
          try simp only [Act.put, List.setIfInBounds_toArray, List.set_cons_zero, List.set_cons_succ]
          refine wpAnyH_ready (rs := [9]) (by kernel_rfl) (by simp) ?_
          refine AllReadyH.cons rfl (fun K hK => ?_) AllReadyH.nil
          go_simp
          refine hK.out _ _ (trivial) (fun hHeld => ?_)
          clear hK K m1 m2 hHeld
          try simp only [Act.put, List.setIfInBounds_toArray, List.set_cons_zero, List.set_cons_succ]
          refine wpAnyH_done (by kernel_rfl) ?_ _
          rotate_left
          all_goals (
            have HV0 := Lib.hid HP1.out.1
            have HV1 := Lib.hid HP1.out.2
            have HZ1 := Lib.hid HP1.out.1.lt
            clear HP1
            try simp only [Exit.then]
            generalize (w1.setCell ⟨w.heap.size + 1, 0, none⟩ (.slice (some ⟨h1, 0, none⟩) ((decD s k).length + 1) cap1)) = V1 at *
            have v1 := HV0.out.c1
            go_wp2_with (at_builtin; refine wpList_push (W := V1) (v := u2) (lo := w.heap.size + 1 + 1) (xs := decM s k) rfl (.tmp 38) (.tmp 40) rfl rfl rfl rfl HV0.out.2.2.1 HZ1.out (by have := Hlm.out; have := Hd.out; omega) ?_; intro h2 cap2 w2 ow2 gr2 at2 lt2; clear v1; obtain ⟨m4, m5⟩ := HV0.out.mid1 gr2; have HP2 := Lib.hid (HV0.out.push1 ow2 gr2 at2); clear ow2 gr2 at2)
            go_roundw
            case rel => exact ⟨k + 1, _, _, by omega, by omega, by go_num, HsD.out ▸ HsM.out ▸ HP2.out.1, Hbel.out.trans ((Below.refl _ _).drew.trans (HV1.out.trans HP2.out.2))⟩
            case measure => simp [intOf]; omega)
      · have q2 : decide (((decD s k).length : Int) ≤ 3) = false := decide_eq_false (by rw [Hlk.out]; omega)
        have q3 : ¬ ((decD s k).length : Int) ≤ 3 := by rw [Hlk.out]; omega
        have hkm : k = min (decK s) 4 := by unfold decK at *; omega
        obtain ⟨hd1, hd2⟩ := dec_model s k hkm
        have Hd1 := Lib.hid hd1; have Hd2 := Lib.hid hd2; clear hd1 hd2 hkm
        obtain ⟨E2, e2, hu2⟩ := hacc.2.2.1.sl
        have H29 : Hid ((#[u1, u2] : Array Value).all (·.oneCell') = true) := Lib.hid (by rw [hu1, hu2]; simp [Value.oneCell'])
        have HR1 : Hid (Ri wr.heap.size wr (.slice E1 (decD s k).length e1) (decD s k)) := Lib.hid (hu1 ▸ hacc.2.1.ri (decD_in s k))
        have HR2 : Hid (Ri wr.heap.size wr (.slice E2 (decM s k).length e2) (decM s k)) := Lib.hid (hu2 ▸ hacc.2.2.1.ri (decM_in s k))
        by_cases h0 : s.size = 0
        · exact absurd hlt (by omega)
        · have hne := ba_ne h0
          have hne2 : s.toList.isEmpty = false := by simpa using hne
          have q6 := hacc.c1
          clear hacc hbel
          go_wp2_with fail
          clear q5 q6
          refine (specEncodeSpace_any HR1.out HR2.out (Nat.le_refl _)).mono ?_
          clear hu1 hu2
          rintro e W5 ⟨rfl, g⟩
          have HT5 := Lib.hid (Hacc.out.keep g)
          have HrW5 : Hid (W5.heap[w.heap.size]? = some (.cells #[.slice none 0 0, .slice none 0 0] 24 (0, 0))) := Lib.hid ((g.block _ (by have := Hsz.out; omega)).trans HrW.out)
          have HBW5 : Hid (Below w.heap.size w W5) := Lib.hid (HBW.out.trans (g.mono HBW.out.size))
          clear g
          generalize encS (decD s k) (decM s k) = t at *
          by_cases hts : t = s
          · have Hf : Hid (r = true) := Lib.hid (by rw [← Hr.out, ← Hd1.out]; simp [hts]; omega)
            subst hts
            go_wp2_with (first | (refine wpList_load_row rfl 24 (.tmp 4) rfl _ rfl 24 _ (0, 0) _ HT5.out.1 Try.underlying24 rfl (by kernel_rfl) ?_) | (refine wpList_store_row rfl 24 (.tmp 2) (.tmp 52) rfl w.heap.size #[u1, u2] rfl rfl 24 _ HrW5.out (by kernel_rfl) rfl H29.out ?_))
            refine bodyPost_ret (v := .tuple #[.agg #[u1, u2], .bool true]) ?_ ?_ ?_
            · exact results_cell_row2 rfl _ _ w.heap.size 24 _ (0, 0) _ _ rfl rfl (setRow_heap _ _ _ _ _ _ HrW5.out) Try.underlying24 rfl (by kernel_rfl)
            · rfl
            · rw [HL.out, HM.out, Hf.out]
              obtain ⟨z1, z2⟩ := Hd2.out (Hr.out.trans Hf.out)
              rw [if_pos rfl, if_pos rfl, ← z1, ← z2]
              exact HT5.out.ans (Below.refl _ _) (Nat.le_refl _) (by omega) HBW5.out
          · have Hf : Hid (r = false) := Lib.hid (by rw [← Hr.out, ← Hd1.out]; simp [hts])
            have htl := toList_ne2 hts
            have htl2 : (t.toList == s.toList) = false := by simpa using htl
            go_wp2_with (refine wpList_store_row rfl 24 (.tmp 2) (.tmp 51) rfl w.heap.size #[.slice none 0 0, .slice none 0 0] rfl rfl 24 _ HrW5.out Hi9.out rfl H19.out ?_)
            refine bodyPost_ret (v := .tuple #[.agg #[.slice none 0 0, .slice none 0 0], .bool false]) ?_ ?_ ?_
            · exact results_cell_row2 rfl _ _ w.heap.size 24 _ (0, 0) _ _ rfl rfl (setRow_heap _ _ _ _ _ _ HrW5.out) Try.underlying24 rfl (by kernel_rfl)
            · rfl
            · rw [HL.out, HM.out, Hf.out]; exact ans_nil _ (below_setRow HBW5.out (by omega) _)
    · have q1 : decide (1 + 2 * (k : Int) + 1 < (s.size : Int)) = false := decide_eq_false (by omega)
      have q2 : ¬ (1 + 2 * (k : Int) + 1 < (s.size : Int)) := by omega
      have hkm : k = min (decK s) 4 := by unfold decK at *; omega
      obtain ⟨hd1, hd2⟩ := dec_model s k hkm
      have Hd1 := Lib.hid hd1; have Hd2 := Lib.hid hd2; clear hd1 hd2 hkm
      obtain ⟨E2, e2, hu2⟩ := hacc.2.2.1.sl
      have H29 : Hid ((#[u1, u2] : Array Value).all (·.oneCell') = true) := Lib.hid (by rw [hu1, hu2]; simp [Value.oneCell'])
      have HR1 : Hid (Ri wr.heap.size wr (.slice E1 (decD s k).length e1) (decD s k)) := Lib.hid (hu1 ▸ hacc.2.1.ri (decD_in s k))
      have HR2 : Hid (Ri wr.heap.size wr (.slice E2 (decM s k).length e2) (decM s k)) := Lib.hid (hu2 ▸ hacc.2.2.1.ri (decM_in s k))
      by_cases h0 : s.size = 0
      · have Hf : Hid (r = false) := Lib.hid (by rw [← Hr.out, ← Hd1.out]; simp [h0])
        have hse : s = ⟨#[]⟩ := ByteArray.ext (Array.eq_empty_of_size_eq_zero h0)
        clear hacc hbel
        subst hu1
        skip
        go_wp2_with (refine wpList_store_row rfl 24 (.tmp 2) (.tmp 51) rfl w.heap.size #[.slice none 0 0, .slice none 0 0] rfl rfl 24 _ HrW.out Hi9.out rfl H19.out ?_)
        refine bodyPost_ret (v := .tuple #[.agg #[.slice none 0 0, .slice none 0 0], .bool false]) ?_ ?_ ?_
        · exact results_cell_row2 rfl _ _ w.heap.size 24 _ (0, 0) _ _ rfl rfl (setRow_heap _ _ _ _ _ _ HrW.out) Try.underlying24 rfl (by kernel_rfl)
        · rfl
        · rw [HL.out, HM.out, Hf.out]; exact ans_nil _ (below_setRow HBW.out (by omega) _)
      · have hne := ba_ne h0
        have hne2 : s.toList.isEmpty = false := by simpa using hne
        have q6 := hacc.c1
        clear hacc hbel
        go_wp2_with fail
        clear q5 q6
        refine (specEncodeSpace_any HR1.out HR2.out (Nat.le_refl _)).mono ?_
        clear hu1 hu2
        rintro e W5 ⟨rfl, g⟩
        have HT5 := Lib.hid (Hacc.out.keep g)
        have HrW5 : Hid (W5.heap[w.heap.size]? = some (.cells #[.slice none 0 0, .slice none 0 0] 24 (0, 0))) := Lib.hid ((g.block _ (by have := Hsz.out; omega)).trans HrW.out)
        have HBW5 : Hid (Below w.heap.size w W5) := Lib.hid (HBW.out.trans (g.mono HBW.out.size))
        clear g
        generalize encS (decD s k) (decM s k) = t at *
        by_cases hts : t = s
        · have Hf : Hid (r = true) := Lib.hid (by rw [← Hr.out, ← Hd1.out]; simp [hts]; omega)
          subst hts
          go_wp2_with (first | (refine wpList_load_row rfl 24 (.tmp 4) rfl _ rfl 24 _ (0, 0) _ HT5.out.1 Try.underlying24 rfl (by kernel_rfl) ?_) | (refine wpList_store_row rfl 24 (.tmp 2) (.tmp 52) rfl w.heap.size #[u1, u2] rfl rfl 24 _ HrW5.out (by kernel_rfl) rfl H29.out ?_))
          refine bodyPost_ret (v := .tuple #[.agg #[u1, u2], .bool true]) ?_ ?_ ?_
          · exact results_cell_row2 rfl _ _ w.heap.size 24 _ (0, 0) _ _ rfl rfl (setRow_heap _ _ _ _ _ _ HrW5.out) Try.underlying24 rfl (by kernel_rfl)
          · rfl
          · rw [HL.out, HM.out, Hf.out]
            obtain ⟨z1, z2⟩ := Hd2.out (Hr.out.trans Hf.out)
            rw [if_pos rfl, if_pos rfl, ← z1, ← z2]
            exact HT5.out.ans (Below.refl _ _) (Nat.le_refl _) (by omega) HBW5.out
        · have Hf : Hid (r = false) := Lib.hid (by rw [← Hr.out, ← Hd1.out]; simp [hts])
          have htl := toList_ne2 hts
          have htl2 : (t.toList == s.toList) = false := by simpa using htl
          go_wp2_with (refine wpList_store_row rfl 24 (.tmp 2) (.tmp 51) rfl w.heap.size #[.slice none 0 0, .slice none 0 0] rfl rfl 24 _ HrW5.out Hi9.out rfl H19.out ?_)
          refine bodyPost_ret (v := .tuple #[.agg #[.slice none 0 0, .slice none 0 0], .bool false]) ?_ ?_ ?_
          · exact results_cell_row2 rfl _ _ w.heap.size 24 _ (0, 0) _ _ rfl rfl (setRow_heap _ _ _ _ _ _ HrW5.out) Try.underlying24 rfl (by kernel_rfl)
          · rfl
          · rw [HL.out, HM.out, Hf.out]; exact ans_nil _ (below_setRow HBW5.out (by omega) _)
end Go.Proofs.Ytaokifppaagalaa
