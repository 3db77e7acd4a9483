/- DropName: what it answers; both sides. No statement is proved here. -/
import Derived.Test.YtabnglimchjgpaaPtI
namespace Go.Proofs.Ytabnglimchjgpaa
open Go.RowKit
set_option linter.unusedVariables false
def DpIs (ss : List ByteArray) (k : Int) (D : List ByteArray) (c : Int) : Prop := dpL ss k = D ∧ dpC ss k = c
theorem dp_inv {ss : List ByteArray} {k : Int} (h : hpOk ss = false) : DpIs ss k [] 1 := by simp [DpIs, dpL, dpC, na_inv h, h]
theorem dp_none {ss : List ByteArray} {k : Int} (h : hpOk ss = true) (h2 : naY ss k = false) : DpIs ss k [] 3 := by simp [DpIs, dpL, dpC, h, h2]
theorem dp_y {ss : List ByteArray} {k : Int} (h : hpOk ss = true) (h2 : naY ss k = true) : DpIs ss k (dpT ss k.toNat) 0 := by simp [DpIs, dpL, dpC, h, h2]
theorem na_lt {ss : List ByteArray} {k : Int} (h : naY ss k = true) : 0 ≤ k ∧ k.toNat < ss.length := by
  simp only [naY, Bool.and_eq_true, inB_iff] at h
  omega
theorem dp_ok {ss : List ByteArray} {k : Int} (h : SmT ss) : (∀ x ∈ dpL ss k, x.size ≤ maxLen) ∧ (dpL ss k).length ≤ 1300000 := by
  unfold dpL
  split
  · unfold dpT dpM
    refine ⟨fun x hx => ?_, by rw [List.length_take, List.length_set]; have := h.1; omega⟩
    have hx2 := List.mem_of_mem_take hx
    rcases List.mem_or_eq_of_mem_set hx2 with h1 | rfl
    · exact max_1m (h.2 x h1)
    · exact max_1m (by show 0 ≤ 1048576; omega)
  · exact ⟨(fun x hx => absurd hx (by simp)), (by simp)⟩
set_option maxHeartbeats 4000000 in
set_option maxRecDepth 100000 in
theorem implDropName_any {B : Nat} {w : World} {v : Value} {ss : List ByteArray} {k : Int} (h : RiT B w v ss) (hk : (Lit.int .i64 k).wf = true) (hB : B ≤ w.heap.size) (hs : SmT ss) :
    Calls Try.prog 28 #[.agg #[v], .int .i64 k] w (AnsH (mkC2 (dpC ss k)) (dpL ss k) w) := by
  have H := Lib.hid h
  obtain ⟨A, cap, rfl, hl, hm, -⟩ := h
  have HB0 : Hid (Below w.heap.size w ((w.alloc (.cells #[.slice A ss.length cap] 27)).alloc (.cells #[.slice none 0 0] 27))) := Lib.hid (((Below.refl _ w).alloc (Nat.le_refl _) _).alloc (by simp) _)
  have R0 : Hid (((w.alloc (.cells #[.slice A ss.length cap] 27)).alloc (.cells #[.slice none 0 0] 27)).heap[w.heap.size]? = some (.cells #[.slice A ss.length cap] 27 (0, 0))) := Lib.hid (heap_alloc2_old w _ _)
  have S0 : Hid (((w.alloc (.cells #[.slice A ss.length cap] 27)).alloc (.cells #[.slice none 0 0] 27)).heap[w.heap.size + 1]? = some (.cells #[.slice none 0 0] 27 (0, 0))) := Lib.hid (heap_alloc2_new w _ _)
  have Z0 : Hid (w.heap.size + 2 ≤ ((w.alloc (.cells #[.slice A ss.length cap] 27)).alloc (.cells #[.slice none 0 0] 27)).heap.size) := Lib.hid (by simp)
  have HC := Lib.hid (implValidHeap_any (H.out.at hB HB0.out) (Nat.le_refl _) hs)
  have HN := Lib.hid (fun W (hW : Below w.heap.size w W) => implNameAt_any (k := k) (H.out.at hB hW) hk (Nat.le_refl _) hs)
  have HD := Lib.hid (fun W (hW : Below w.heap.size w W) => slotTableOf_any (H.out.at hB hW) (Nat.le_refl _) hs.1)
  have HInv : Hid (hpOk ss = false → DpIs ss k [] 1) := Lib.hid dp_inv
  have HNone : Hid (hpOk ss = true → naY ss k = false → DpIs ss k [] 3) := Lib.hid dp_none
  have HYes : Hid (hpOk ss = true → naY ss k = true → (0 ≤ k ∧ k.toNat < ss.length) ∧ DpIs ss k (dpT ss k.toNat) 0) := Lib.hid (fun h h2 => ⟨na_lt h2, dp_y h h2⟩)
  have HDef : Hid (∀ D c, DpIs ss k D c → dpL ss k = D ∧ dpC ss k = c) := Lib.hid (fun D c h => h)
  have HLn : Hid (ss.length ≤ 1048576) := Lib.hid hs.1
  clear hs hk
  generalize dpL ss k = PL at *
  generalize dpC ss k = PC at *
  generalize naX ss k = nx at *
  generalize naY ss k = ny at *
  generalize hpOk ss = ok at *
  go_enter Try.func28, Try.ntmps28
  go_wp2_with (refine wpList_load_row rfl 27 (.tmp 2) rfl _ rfl 27 _ (0, 0) _ R0.out Try.underlying27 rfl (by kernel_rfl) ?_)
  generalize ((w.alloc (.cells #[.slice A ss.length cap] 27)).alloc (.cells #[.slice none 0 0] 27)) = w0 at *
  refine HC.out.mono ?_
  rintro e w1 ⟨rfl, g⟩
  have HB1 := Lib.hid (HB0.out.trans (g.mono HB0.out.size))
  have R1 := Lib.hid ((g.block _ (by have := Z0.out; omega)).trans R0.out)
  have S1 := Lib.hid ((g.block _ (by have := Z0.out; omega)).trans S0.out)
  have Z1 : Hid (w.heap.size + 2 ≤ w1.heap.size) := Lib.hid (by have := Z0.out; have := g.size; omega)
  clear g HC
  cases ok
  · have Hf := Lib.hid (HDef.out _ _ (HInv.out (by first | rfl | trivial)))
    go_wp2_with (refine wpList_store_row rfl 27 (.tmp 4) (.tmp 12) rfl (w.heap.size + 1) #[.slice none 0 0] rfl rfl 27 _ S1.out (infoHs _ _ _) rfl (oneH _ _ _) ?_)
    refine bodyPost_ret (v := .tuple #[.agg #[.slice none 0 0], .int .i64 1]) ?_ rfl ?_
    · exact results_cell_row2 rfl _ _ (w.heap.size + 1) 27 _ (0, 0) _ _ rfl rfl (setRow_heap _ _ _ _ _ _ S1.out) Try.underlying27 rfl (by kernel_rfl)
    · rw [Hf.out.1, Hf.out.2]
      exact AnsH.zero (mk := mkC2 1) (by omega) HB1.out
  have HN1 := Lib.hid (HN.out w1 HB1.out)
  go_wp2_with (refine wpList_load_row rfl 27 (.tmp 2) rfl _ rfl 27 _ (0, 0) _ R1.out Try.underlying27 rfl (by kernel_rfl) ?_)
  refine HN1.out.mono ?_
  rintro e w2 ⟨rfl, g⟩
  have HB2 := Lib.hid (HB1.out.trans (g.mono HB1.out.size))
  have R2 := Lib.hid ((g.block _ (by have := Z1.out; omega)).trans R1.out)
  have S2 := Lib.hid ((g.block _ (by have := Z1.out; omega)).trans S1.out)
  have Z2 : Hid (w.heap.size + 2 ≤ w2.heap.size) := Lib.hid (by have := Z1.out; have := g.size; omega)
  clear g HN1 HN
  cases ny
  · have Hf := Lib.hid (HDef.out _ _ (HNone.out (by first | rfl | trivial) (by first | rfl | trivial)))
    go_wp2_with (refine wpList_store_row rfl 27 (.tmp 4) (.tmp 21) rfl (w.heap.size + 1) #[.slice none 0 0] rfl rfl 27 _ S2.out (infoHs _ _ _) rfl (oneH _ _ _) ?_)
    refine bodyPost_ret (v := .tuple #[.agg #[.slice none 0 0], .int .i64 3]) ?_ rfl ?_
    · exact results_cell_row2 rfl _ _ (w.heap.size + 1) 27 _ (0, 0) _ _ rfl rfl (setRow_heap _ _ _ _ _ _ S2.out) Try.underlying27 rfl (by kernel_rfl)
    · rw [Hf.out.1, Hf.out.2]
      exact AnsH.zero (mk := mkC2 3) (by omega) HB2.out
  obtain ⟨⟨hk0, hkl⟩, hpt⟩ := HYes.out (by first | rfl | trivial) (by first | rfl | trivial)
  have Hf := Lib.hid (HDef.out _ _ hpt)
  obtain ⟨q, rfl⟩ := Int.eq_ofNat_of_zero_le hk0
  simp only [Int.toNat_natCast] at hkl Hf
  clear hpt hk0 HDef HYes HNone HInv
  have HD2 := Lib.hid (HD.out w2 HB2.out)
  clear HD
  go_wp2_with (refine wpList_load_row rfl 27 (.tmp 2) rfl _ rfl 27 _ (0, 0) _ R2.out Try.underlying27 rfl (by kernel_rfl) ?_)
  refine HD2.out.mono ?_
  rintro e w3 ⟨g, vv, uu, ns, rfl, hgl, ht, hoi, hot, htop, hnl, gb⟩
  have T3 := Lib.hid ht; have OT3 := Lib.hid hot
  have HB3 := Lib.hid (HB2.out.trans (gb.mono HB2.out.size))
  have S3 := Lib.hid ((gb.block _ (by have := Z2.out; omega)).trans S2.out)
  have Z3 := Lib.hid gb.size
  have GL : Hid (w2.heap.size ≤ g) := Lib.hid hgl
  have HEm := Lib.hid (empty_any q T3.out OT3.out Z3.out GL.out HLn.out hkl)
  clear ht hoi hot gb HD2 hgl htop
  go_wp2_with fail
  refine HEm.out.mono ?_
  rintro e w4 ⟨rfl, u4, t4, o4, b4⟩
  have T4 := Lib.hid t4; have O4 := Lib.hid o4
  obtain ⟨A4, c4, rfl⟩ := O4.out.op
  have S4 : Hid (w4.heap[w.heap.size + 1]? = some (.cells #[.slice none 0 0] 27 (0, 0))) := Lib.hid ((b4.block _ (by have := Z2.out; omega)).trans S3.out)
  have HB4 : Hid (Below w.heap.size w w4) := Lib.hid (HB3.out.trans (b4.mono (by have := Z2.out; omega)))
  have q4 : w4.cell? ⟨g, 1, none⟩ = some (.slice A4 (dpT ss q).length c4) := by rw [cell_of_row _ _ _ _ _ _ T4.out]; rfl
  clear t4 o4 b4 HEm
  generalize dpT ss q = D at *
  go_wp2_with (refine wpList_store_row rfl 27 (.tmp 4) (.tmp 31) rfl (w.heap.size + 1) #[.slice A4 D.length c4] rfl rfl 27 _ S4.out (infoHs _ _ _) rfl (oneH _ _ _) ?_)
  refine bodyPost_ret (v := .tuple #[.agg #[.slice A4 D.length c4], .int .i64 0]) ?_ rfl ?_
  · exact results_cell_row2 rfl _ _ (w.heap.size + 1) 27 _ (0, 0) _ _ rfl rfl (setRow_heap _ _ _ _ _ _ S4.out) Try.underlying27 rfl (by kernel_rfl)
  · rw [Hf.out.1, Hf.out.2]
    exact AnsH.end (mk := mkC2 0) O4.out (by have := Z2.out; omega) (by omega) HB4.out
set_option maxHeartbeats 4000000 in
set_option maxRecDepth 100000 in
theorem specDropName_any {B : Nat} {w : World} {v : Value} {ss : List ByteArray} {k : Int} (h : RiT B w v ss) (hk : (Lit.int .i64 k).wf = true) (hB : B ≤ w.heap.size) (hs : SmT ss) :
    Calls Try.prog 27 #[.agg #[v], .int .i64 k] w (AnsH (mkC2 (dpC ss k)) (dpL ss k) w) := by
  have H := Lib.hid h
  obtain ⟨A, cap, rfl, hl, hm, -⟩ := h
  have HB0 : Hid (Below w.heap.size w ((w.alloc (.cells #[.slice A ss.length cap] 27)).alloc (.cells #[.slice none 0 0] 27))) := Lib.hid (((Below.refl _ w).alloc (Nat.le_refl _) _).alloc (by simp) _)
  have R0 : Hid (((w.alloc (.cells #[.slice A ss.length cap] 27)).alloc (.cells #[.slice none 0 0] 27)).heap[w.heap.size]? = some (.cells #[.slice A ss.length cap] 27 (0, 0))) := Lib.hid (heap_alloc2_old w _ _)
  have S0 : Hid (((w.alloc (.cells #[.slice A ss.length cap] 27)).alloc (.cells #[.slice none 0 0] 27)).heap[w.heap.size + 1]? = some (.cells #[.slice none 0 0] 27 (0, 0))) := Lib.hid (heap_alloc2_new w _ _)
  have Z0 : Hid (w.heap.size + 2 ≤ ((w.alloc (.cells #[.slice A ss.length cap] 27)).alloc (.cells #[.slice none 0 0] 27)).heap.size) := Lib.hid (by simp)
  have HC := Lib.hid (l16Ok_any (H.out.at hB HB0.out) (Nat.le_refl _) hs)
  have HN := Lib.hid (fun W (hW : Below w.heap.size w W) => specNameAt_any (k := k) (H.out.at hB hW) hk (Nat.le_refl _) hs)
  have HD := Lib.hid (fun W (hW : Below w.heap.size w W) => l16Own_any (H.out.at hB hW) (Nat.le_refl _) hs.1)
  have HInv : Hid (hpOk ss = false → DpIs ss k [] 1) := Lib.hid dp_inv
  have HNone : Hid (hpOk ss = true → naY ss k = false → DpIs ss k [] 3) := Lib.hid dp_none
  have HYes : Hid (hpOk ss = true → naY ss k = true → (0 ≤ k ∧ k.toNat < ss.length) ∧ DpIs ss k (dpT ss k.toNat) 0) := Lib.hid (fun h h2 => ⟨na_lt h2, dp_y h h2⟩)
  have HDef : Hid (∀ D c, DpIs ss k D c → dpL ss k = D ∧ dpC ss k = c) := Lib.hid (fun D c h => h)
  have HLn : Hid (ss.length ≤ 1048576) := Lib.hid hs.1
  clear hs hk
  generalize dpL ss k = PL at *
  generalize dpC ss k = PC at *
  generalize naX ss k = nx at *
  generalize naY ss k = ny at *
  generalize hpOk ss = ok at *
  go_enter Try.func27, Try.ntmps27
  go_wp2_with (refine wpList_load_row rfl 27 (.tmp 2) rfl _ rfl 27 _ (0, 0) _ R0.out Try.underlying27 rfl (by kernel_rfl) ?_)
  generalize ((w.alloc (.cells #[.slice A ss.length cap] 27)).alloc (.cells #[.slice none 0 0] 27)) = w0 at *
  refine HC.out.mono ?_
  rintro e w1 ⟨rfl, g⟩
  have HB1 := Lib.hid (HB0.out.trans (g.mono HB0.out.size))
  have R1 := Lib.hid ((g.block _ (by have := Z0.out; omega)).trans R0.out)
  have S1 := Lib.hid ((g.block _ (by have := Z0.out; omega)).trans S0.out)
  have Z1 : Hid (w.heap.size + 2 ≤ w1.heap.size) := Lib.hid (by have := Z0.out; have := g.size; omega)
  clear g HC
  cases ok
  · have Hf := Lib.hid (HDef.out _ _ (HInv.out (by first | rfl | trivial)))
    go_wp2_with (refine wpList_store_row rfl 27 (.tmp 4) (.tmp 13) rfl (w.heap.size + 1) #[.slice none 0 0] rfl rfl 27 _ S1.out (infoHs _ _ _) rfl (oneH _ _ _) ?_)
    refine bodyPost_ret (v := .tuple #[.agg #[.slice none 0 0], .int .i64 1]) ?_ rfl ?_
    · exact results_cell_row2 rfl _ _ (w.heap.size + 1) 27 _ (0, 0) _ _ rfl rfl (setRow_heap _ _ _ _ _ _ S1.out) Try.underlying27 rfl (by kernel_rfl)
    · rw [Hf.out.1, Hf.out.2]
      exact AnsH.zero (mk := mkC2 1) (by omega) HB1.out
  have HN1 := Lib.hid (HN.out w1 HB1.out)
  go_wp2_with (refine wpList_load_row rfl 27 (.tmp 2) rfl _ rfl 27 _ (0, 0) _ R1.out Try.underlying27 rfl (by kernel_rfl) ?_)
  refine HN1.out.mono ?_
  rintro e w2 ⟨rfl, g⟩
  have HB2 := Lib.hid (HB1.out.trans (g.mono HB1.out.size))
  have R2 := Lib.hid ((g.block _ (by have := Z1.out; omega)).trans R1.out)
  have S2 := Lib.hid ((g.block _ (by have := Z1.out; omega)).trans S1.out)
  have Z2 : Hid (w.heap.size + 2 ≤ w2.heap.size) := Lib.hid (by have := Z1.out; have := g.size; omega)
  clear g HN1 HN
  cases ny
  · have Hf := Lib.hid (HDef.out _ _ (HNone.out (by first | rfl | trivial) (by first | rfl | trivial)))
    go_wp2_with (refine wpList_store_row rfl 27 (.tmp 4) (.tmp 22) rfl (w.heap.size + 1) #[.slice none 0 0] rfl rfl 27 _ S2.out (infoHs _ _ _) rfl (oneH _ _ _) ?_)
    refine bodyPost_ret (v := .tuple #[.agg #[.slice none 0 0], .int .i64 3]) ?_ rfl ?_
    · exact results_cell_row2 rfl _ _ (w.heap.size + 1) 27 _ (0, 0) _ _ rfl rfl (setRow_heap _ _ _ _ _ _ S2.out) Try.underlying27 rfl (by kernel_rfl)
    · rw [Hf.out.1, Hf.out.2]
      exact AnsH.zero (mk := mkC2 3) (by omega) HB2.out
  obtain ⟨⟨hk0, hkl⟩, hpt⟩ := HYes.out (by first | rfl | trivial) (by first | rfl | trivial)
  have Hf := Lib.hid (HDef.out _ _ hpt)
  obtain ⟨q, rfl⟩ := Int.eq_ofNat_of_zero_le hk0
  simp only [Int.toNat_natCast] at hkl Hf
  clear hpt hk0 HDef HYes HNone HInv
  have HD2 := Lib.hid (HD.out w2 HB2.out)
  clear HD
  go_wp2_with (refine wpList_load_row rfl 27 (.tmp 2) rfl _ rfl 27 _ (0, 0) _ R2.out Try.underlying27 rfl (by kernel_rfl) ?_)
  refine HD2.out.mono ?_
  rintro e w3 ⟨v3, rfl, ho, g⟩
  have O3 := Lib.hid ho
  rcases O3.out.sl with ⟨_, h2⟩ | ⟨m, c3, rfl, hm1, hm2, hnc, hcm⟩
  · rw [h2] at hkl; simp at hkl
  have HB3 := Lib.hid (HB2.out.trans (g.mono HB2.out.size))
  have S3 := Lib.hid ((g.block _ (by have := Z2.out; omega)).trans S2.out)
  have Z3 := Lib.hid g.size
  have HM := Lib.hid (And.intro hm1 (And.intro hm2 (And.intro hnc hcm)))
  clear ho g HD2
  have G4 : Hid (Below w3.heap.size w3 (w3.alloc (.cells #[.slice (some ⟨m, 0, none⟩) ss.length c3] 27))) := Lib.hid ((Below.refl _ _).alloc (Nat.le_refl _) _)
  have HB4 : Hid (Below w.heap.size w (w3.alloc (.cells #[.slice (some ⟨m, 0, none⟩) ss.length c3] 27))) := Lib.hid (HB3.out.alloc HB3.out.size _)
  have S4 : Hid ((w3.alloc (.cells #[.slice (some ⟨m, 0, none⟩) ss.length c3] 27)).heap[w.heap.size + 1]? = some (.cells #[.slice none 0 0] 27 (0, 0))) := Lib.hid ((G4.out.block _ (by have := Z2.out; have := Z3.out; omega)).trans S3.out)
  have T4 : Hid ((w3.alloc (.cells #[.slice (some ⟨m, 0, none⟩) ss.length c3] 27)).heap[w3.heap.size]? = some (.cells #[.slice (some ⟨m, 0, none⟩) ss.length c3] 27 (0, 0))) := Lib.hid (heap_alloc_new w3 _)
  have O4 : Hid (OT (w3.alloc (.cells #[.slice (some ⟨m, 0, none⟩) ss.length c3] 27)) w2.heap.size (.slice (some ⟨m, 0, none⟩) ss.length c3) ss) := Lib.hid (own_bel O3.out G4.out)
  have q4 : (w3.alloc (.cells #[.slice (some ⟨m, 0, none⟩) ss.length c3] 27)).cell? ⟨w3.heap.size, 0, none⟩ = some (.slice (some ⟨m, 0, none⟩) ss.length c3) := by rw [cell_of_row _ _ _ _ _ _ T4.out]; rfl
  have hu := O4.out.cell q hkl
  have hfz := own_frozen O4.out q
  have d1 : decide ((q : Int) < (ss.length : Int)) = true := decide_eq_true (by omega)
  have N34 : Hid (m ≠ w3.heap.size ∧ w.heap.size + 1 < w3.heap.size ∧ w.heap.size + 1 < m) := Lib.hid (by have := HM.out; have := Z2.out; have := Z3.out; omega)
  have S5 : Hid (((w3.alloc (.cells #[.slice (some ⟨m, 0, none⟩) ss.length c3] 27)).setCell ⟨m, q, none⟩ (.string ⟨#[]⟩)).heap[w.heap.size + 1]? = some (.cells #[.slice none 0 0] 27 (0, 0))) := Lib.hid ((heap_setCell_other _ ⟨m, q, none⟩ _ _ (by have := N34.out; simp only; omega)).trans S4.out)
  have T5 : Hid (((w3.alloc (.cells #[.slice (some ⟨m, 0, none⟩) ss.length c3] 27)).setCell ⟨m, q, none⟩ (.string ⟨#[]⟩)).heap[w3.heap.size]? = some (.cells #[.slice (some ⟨m, 0, none⟩) ss.length c3] 27 (0, 0))) := Lib.hid ((heap_setCell_other _ ⟨m, q, none⟩ _ _ (by have := N34.out; simp only; omega)).trans T4.out)
  have O5 : Hid (OT ((w3.alloc (.cells #[.slice (some ⟨m, 0, none⟩) ss.length c3] 27)).setCell ⟨m, q, none⟩ (.string ⟨#[]⟩)) w2.heap.size (.slice (some ⟨m, 0, none⟩) ss.length c3) (dpM ss q)) := Lib.hid (O4.out.set q ⟨#[]⟩ hkl)
  have B5 : Hid (Below w.heap.size w ((w3.alloc (.cells #[.slice (some ⟨m, 0, none⟩) ss.length c3] 27)).setCell ⟨m, q, none⟩ (.string ⟨#[]⟩))) := Lib.hid (HB4.out.setCell (p := ⟨m, q, none⟩) (by have := N34.out; simp only; omega) _)
  have q5 : ((w3.alloc (.cells #[.slice (some ⟨m, 0, none⟩) ss.length c3] 27)).setCell ⟨m, q, none⟩ (.string ⟨#[]⟩)).cell? ⟨w3.heap.size, 0, none⟩ = some (.slice (some ⟨m, 0, none⟩) ss.length c3) := by rw [cell_of_row _ _ _ _ _ _ T5.out]; rfl
  have HL := Lib.hid (dpM_len ss q)
  have HT : Hid (dpT ss q = (dpM ss q).take (trN (dpM ss q) (dpM ss q).length)) := Lib.hid rfl
  generalize ss[q] = old at *
  unfold maxLen at hcm
  clear hm1 hm2
  go_wp2_with (first | (refine wpList_store_last rfl 27 (.tmp 8) (.tmp 24) rfl #[.slice (some ⟨m, 0, none⟩) ss.length c3] _ 27 rfl rfl (infoHs _ _ _) rfl (oneH _ _ _) ?_))
  clear q4 hu hfz q5 G4
  generalize ((w3.alloc (.cells #[.slice (some ⟨m, 0, none⟩) ss.length c3] 27)).setCell ⟨m, q, none⟩ (.string ⟨#[]⟩)) = w5 at *
  generalize hb8 : w3.heap.size = b8 at *
  have Hb8 := Lib.hid hb8; clear hb8
  have Hcap := Lib.hid (And.intro hnc hcm)
  clear hnc hcm
  go_loop [9] (fun i => ∃ j : Nat, j ≤ ss.length ∧ i = .int .i64 (j : Int) ∧ trN (dpM ss q) (dpM ss q).length = trN (dpM ss q) j) (fun i => (intOf i).toNat)
  case atStart => exact ⟨ss.length, Nat.le_refl _, rfl, by rw [HL.out]⟩
  case round =>
    obtain ⟨j, hj, rfl, htr⟩ := hrel
    have HR := Lib.hid htr; clear htr
    have q5 : w5.cell? ⟨b8, 0, none⟩ = some (.slice (some ⟨m, 0, none⟩) ss.length c3) := by rw [cell_of_row _ _ _ _ _ _ T5.out]; rfl
    have f5 : w5.frozen? ⟨b8, 0, none⟩ = false := frozen_of_row _ _ _ _ _ T5.out
    have hcap1 := Hcap.out.1
    have hcap2 := Hcap.out.2
    have hend : ∀ t : Nat, t ≤ ss.length → (w5.setCell ⟨b8, 0, none⟩ (.slice (some ⟨m, 0, none⟩) t c3)).heap[b8]? = some (.cells #[.slice (some ⟨m, 0, none⟩) t c3] 27 (0, 0)) ∧ (w5.setCell ⟨b8, 0, none⟩ (.slice (some ⟨m, 0, none⟩) t c3)).heap[w.heap.size + 1]? = some (.cells #[.slice none 0 0] 27 (0, 0)) ∧ OT (w5.setCell ⟨b8, 0, none⟩ (.slice (some ⟨m, 0, none⟩) t c3)) w2.heap.size (.slice (some ⟨m, 0, none⟩) t c3) ((dpM ss q).take t) ∧ Below w.heap.size w (w5.setCell ⟨b8, 0, none⟩ (.slice (some ⟨m, 0, none⟩) t c3)) := fun t ht =>
      ⟨by rw [heap_setCell_same w5 b8 0 _ _ _ T5.out]; rfl, (heap_setCell_other _ ⟨b8, 0, none⟩ _ _ (by have := N34.out; simp only; omega)).trans S5.out, own_same (O5.out.cut t (by rw [HL.out]; exact ht)) (fun z hz => heap_setCell_other _ ⟨b8, 0, none⟩ _ _ (by simp [Value.ownBlock] at hz; have := N34.out; simp only; omega)), B5.out.setCell (p := ⟨b8, 0, none⟩) (by have := N34.out; simp only; omega) _⟩
    have HEnd := Lib.hid hend; clear hend
    cases j with
    | zero =>
      obtain ⟨t6, s6, o6, b6⟩ := HEnd.out 0 (by omega)
      have T6 := Lib.hid t6; have S6 := Lib.hid s6; have O6 := Lib.hid o6; have B6 := Lib.hid b6
      clear t6 s6 o6 b6 HEnd
      go_wp2_with (first | (refine wpList_load_row rfl 27 (.tmp 8) rfl _ rfl 27 _ (0, 0) _ T6.out Try.underlying27 rfl (by kernel_rfl) ?_) | (refine wpList_store_row rfl 27 (.tmp 4) (.tmp 50) rfl (w.heap.size + 1) #[.slice (some ⟨m, 0, none⟩) 0 c3] rfl rfl 27 _ S6.out (infoHs _ _ _) rfl (oneH _ _ _) ?_))
      refine bodyPost_ret (v := .tuple #[.agg #[.slice (some ⟨m, 0, none⟩) 0 c3], .int .i64 0]) ?_ rfl ?_
      · exact results_cell_row2 rfl _ _ (w.heap.size + 1) 27 _ (0, 0) _ _ rfl rfl (setRow_heap _ _ _ _ _ _ S6.out) Try.underlying27 rfl (by kernel_rfl)
      · rw [Hf.out.1, Hf.out.2]
        exact (by rw [HT.out, show trN (dpM ss q) (dpM ss q).length = 0 from by rw [HR.out]; rfl]; exact AnsH.end (mk := mkC2 0) O6.out (by have := Z2.out; omega) (by omega) B6.out)
    | succ j =>
      have hjl : j < (dpM ss q).length := by rw [HL.out]; omega
      have g1 := O5.out.cell j hjl
      have HZ : Hid ((dpM ss q)[j].size = 0 → trN (dpM ss q) (j + 1) = trN (dpM ss q) j) := Lib.hid (fun h => trN_step (by rw [hpN_at hjl]; exact h))
      have HY : Hid ((dpM ss q)[j].size ≠ 0 → trN (dpM ss q) (j + 1) = j + 1) := Lib.hid (fun h => trN_stop (by rw [hpN_at hjl]; exact h))
      generalize (dpM ss q)[j] = s at *
      have n1 : ((j + 1 : Nat) : Int) - 1 = (j : Int) := by omega
      have n2 : decide ((j : Int) < (ss.length : Int)) = true := decide_eq_true (by omega)
      have n3 : j < ss.length := by omega
      by_cases hz : s.size = 0
      · have e1 := mt_isEmpty hz
        have Htr2 : Hid (trN (dpM ss q) (dpM ss q).length = trN (dpM ss q) j) := Lib.hid (by rw [HR.out, HZ.out hz])
        clear hz HZ HY HEnd f5
        go_wp2_with fail
        go_round
        case rel => exact ⟨j, by omega, by first | rfl | (congr 1; omega) | simp, Htr2.out⟩
        case measure => simp [intOf]
      · have e1 := toList_ne s (by omega)
        have Htr2 : Hid (trN (dpM ss q) (dpM ss q).length = j + 1) := Lib.hid (by rw [HR.out, HY.out hz])
        obtain ⟨t6, s6, o6, b6⟩ := HEnd.out (j + 1) (by omega)
        have T6 := Lib.hid t6; have S6 := Lib.hid s6; have O6 := Lib.hid o6; have B6 := Lib.hid b6
        clear t6 s6 o6 b6 HEnd hz HZ HY
        go_wp2_with (first | (refine wpList_load_row rfl 27 (.tmp 8) rfl _ rfl 27 _ (0, 0) _ T6.out Try.underlying27 rfl (by kernel_rfl) ?_) | (refine wpList_store_row rfl 27 (.tmp 4) (.tmp 50) rfl (w.heap.size + 1) #[.slice (some ⟨m, 0, none⟩) (j + 1) c3] rfl rfl 27 _ S6.out (infoHs _ _ _) rfl (oneH _ _ _) ?_))
        refine bodyPost_ret (v := .tuple #[.agg #[.slice (some ⟨m, 0, none⟩) (j + 1) c3], .int .i64 0]) ?_ rfl ?_
        · exact results_cell_row2 rfl _ _ (w.heap.size + 1) 27 _ (0, 0) _ _ rfl rfl (setRow_heap _ _ _ _ _ _ S6.out) Try.underlying27 rfl (by kernel_rfl)
        · rw [Hf.out.1, Hf.out.2]
          exact (by rw [HT.out, Htr2.out]; exact AnsH.end (mk := mkC2 0) O6.out (by have := Z2.out; omega) (by omega) B6.out)
end Go.Proofs.Ytabnglimchjgpaa
