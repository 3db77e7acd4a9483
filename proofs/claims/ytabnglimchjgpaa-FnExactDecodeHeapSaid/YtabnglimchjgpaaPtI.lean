/- PutName: the program. No statement is proved here. -/
import Derived.Test.YtabnglimchjgpaaSlV
namespace Go.Proofs.Ytabnglimchjgpaa
open Go.RowKit
set_option linter.unusedVariables false
set_option maxHeartbeats 4000000 in
set_option maxRecDepth 100000 in
theorem implPutName_any {B : Nat} {w : World} {v : Value} {ss : List ByteArray} {nm : ByteArray} (h : RiT B w v ss) (hnm : nm.size ≤ 1048576) (hB : B ≤ w.heap.size) (hs : SmT ss) :
    Calls Try.prog 22 #[.agg #[v], .string nm] w (AnsH (mkA2 (ptK ss nm) (ptC ss nm)) (ptL ss nm) w) := by
  have H := Lib.hid h
  obtain ⟨A, cap, rfl, hl, hm, -⟩ := h
  have HB0 : Hid (Below w.heap.size w ((w.alloc (.cells #[.slice A ss.length cap] 27)).alloc (.cells #[.slice none 0 0] 27))) := Lib.hid (((Below.refl _ w).alloc (Nat.le_refl _) _).alloc (by simp) _)
  have R0 : Hid (((w.alloc (.cells #[.slice A ss.length cap] 27)).alloc (.cells #[.slice none 0 0] 27)).heap[w.heap.size]? = some (.cells #[.slice A ss.length cap] 27 (0, 0))) := Lib.hid (heap_alloc2_old w _ _)
  have S0 : Hid (((w.alloc (.cells #[.slice A ss.length cap] 27)).alloc (.cells #[.slice none 0 0] 27)).heap[w.heap.size + 1]? = some (.cells #[.slice none 0 0] 27 (0, 0))) := Lib.hid (heap_alloc2_new w _ _)
  have Z0 : Hid (w.heap.size + 2 ≤ ((w.alloc (.cells #[.slice A ss.length cap] 27)).alloc (.cells #[.slice none 0 0] 27)).heap.size) := Lib.hid (by simp)
  have HC := Lib.hid (implValidHeap_any (H.out.at hB HB0.out) (Nat.le_refl _) hs)
  have HD := Lib.hid (fun W (hW : Below w.heap.size w W) => slotTableOf_any (H.out.at hB hW) (Nat.le_refl _) hs.1)
  have HN := Lib.hid (fun W => implIsName_any nm hnm W)
  have HBad : Hid (ptG ss nm = false → PtIs ss nm [] 0 1) := Lib.hid pt_bad
  have HWay : Hid (ptG ss nm = true → ((∃ m, fd ss 30 = some m ∧ m ≤ ss.length ∧ PtIs ss nm (ptW ss nm m) (m : Int) 0) ∨ (fd ss 30 = none ∧ PtIs ss nm [] 0 5))) := Lib.hid (fun hg => by
    have hl30 : ss.length ≤ 30 := by
      simp only [ptG, Bool.and_eq_true] at hg
      exact (hpOk_iff.1 hg.1).1
    rcases fd_slot hl30 with ⟨k, hk, h1, h2⟩ | ⟨h1, h2, h3⟩ | ⟨h1, h2, h3⟩
    · exact .inl ⟨k, h2, by omega, by have := pt_set hg h2 hk; rwa [← show ptW ss nm k = ss.set k nm from if_pos hk] at this⟩
    · exact .inl ⟨ss.length, h3, Nat.le_refl _, by have := pt_app hg h3; rwa [← show ptW ss nm ss.length = ss ++ [nm] from if_neg (by omega)] at this⟩
    · exact .inr ⟨h3, pt_full hg h3⟩)
  have HG1 : Hid (hpOk ss = false → ptG ss nm = false) := Lib.hid ptG_1
  have HG2 : Hid (nameS nm = false → ptG ss nm = false) := Lib.hid ptG_2
  have HGy : Hid (hpOk ss = true → nameS nm = true → ptG ss nm = true) := Lib.hid ptG_y
  have HDef : Hid (∀ D k c, PtIs ss nm D k c → ptL ss nm = D ∧ ptK ss nm = k ∧ ptC ss nm = c) := Lib.hid (fun D k c h => h)
  have HLn : Hid (ss.length ≤ 1048576) := Lib.hid hs.1
  clear hs hnm
  generalize ptL ss nm = PL at *
  generalize ptK ss nm = PK at *
  generalize ptC ss nm = PC at *
  generalize hpOk ss = ok at *
  generalize nameS nm = nk at *
  go_enter Try.func22, Try.ntmps22
  go_wp2_with (refine wpList_load_row rfl 27 (.tmp 2) rfl _ rfl 27 _ (0, 0) _ R0.out Try.underlying27 rfl (by kernel_rfl) ?_)
  generalize ((w.alloc (.cells #[.slice A ss.length cap] 27)).alloc (.cells #[.slice none 0 0] 27)) = w0 at *
  refine HC.out.mono ?_
  rintro e w1 ⟨rfl, g⟩
  have HB1 := Lib.hid (HB0.out.trans (g.mono HB0.out.size))
  have R1 := Lib.hid ((g.block _ (by have := Z0.out; omega)).trans R0.out)
  have S1 := Lib.hid ((g.block _ (by have := Z0.out; omega)).trans S0.out)
  have Z1 : Hid (w.heap.size + 2 ≤ w1.heap.size) := Lib.hid (by have := Z0.out; have := g.size; omega)
  clear g HC
  cases ok
  · have Hf := Lib.hid (HDef.out _ _ _ (HBad.out (HG1.out rfl)))
    go_wp2_with (refine wpList_store_row rfl 27 (.tmp 4) (.tmp 18) rfl (w.heap.size + 1) #[.slice none 0 0] rfl rfl 27 _ S1.out (infoHs _ _ _) rfl (oneH _ _ _) ?_)
    refine bodyPost_ret (v := .tuple #[.agg #[.slice none 0 0], .int .i64 0, .int .i64 1]) ?_ rfl ?_
    · exact results_cell_row3 rfl _ _ (w.heap.size + 1) 27 _ (0, 0) _ _ _ rfl rfl rfl (setRow_heap _ _ _ _ _ _ S1.out) Try.underlying27 rfl (by kernel_rfl)
    · rw [Hf.out.1, Hf.out.2.1, Hf.out.2.2]
      exact AnsH.zero (mk := mkA2 0 1) (by omega) HB1.out
  cases nk
  · have Hf := Lib.hid (HDef.out _ _ _ (HBad.out (HG2.out rfl)))
    have HN1 := Lib.hid (HN.out w1)
    go_wp2_with (first | (go_at_call 57; refine HN1.out.mono ?_; rintro e w' ⟨rfl, gn⟩; have HB1n := Lib.hid (HB1.out.trans (gn.mono HB1.out.size)); have S1n := Lib.hid ((gn.block _ (by have := Z1.out; omega)).trans S1.out); clear gn) | (refine wpList_store_row rfl 27 (.tmp 4) (.tmp 18) rfl (w.heap.size + 1) #[.slice none 0 0] rfl rfl 27 _ S1n.out (infoHs _ _ _) rfl (oneH _ _ _) ?_))
    refine bodyPost_ret (v := .tuple #[.agg #[.slice none 0 0], .int .i64 0, .int .i64 1]) ?_ rfl ?_
    · exact results_cell_row3 rfl _ _ (w.heap.size + 1) 27 _ (0, 0) _ _ _ rfl rfl rfl (setRow_heap _ _ _ _ _ _ S1n.out) Try.underlying27 rfl (by kernel_rfl)
    · rw [Hf.out.1, Hf.out.2.1, Hf.out.2.2]
      exact AnsH.zero (mk := mkA2 0 1) (by omega) HB1n.out
  have HN1 := Lib.hid (HN.out w1)
  have Hway := Lib.hid (HWay.out (HGy.out rfl rfl))
  clear HBad HWay HG1 HG2 HGy HN
  go_wp2_with (first | (go_at_call 57; refine HN1.out.mono ?_; rintro e w' ⟨rfl, gn⟩; have HB1n := Lib.hid (HB1.out.trans (gn.mono HB1.out.size)); have R1n := Lib.hid ((gn.block _ (by have := Z1.out; omega)).trans R1.out); have S1n := Lib.hid ((gn.block _ (by have := Z1.out; omega)).trans S1.out); have Z1n : Hid (w.heap.size + 2 ≤ w'.heap.size) := Lib.hid (by have := Z1.out; have := gn.size; omega); clear gn) | (refine wpList_load_row rfl 27 (.tmp 2) rfl _ rfl 27 _ (0, 0) _ R1n.out Try.underlying27 rfl (by kernel_rfl) ?_))
  refine (HD.out _ HB1n.out).mono ?_
  rintro e w2 ⟨g, vv, uu, ns, rfl, hgl, ht, hoi, hot, htop, hnl, gb⟩
  have T2 := Lib.hid ht; have OI2 := Lib.hid hoi; have OT2 := Lib.hid hot
  have HB2 := Lib.hid (HB1n.out.trans (gb.mono HB1n.out.size))
  have S2 := Lib.hid ((gb.block _ (by have := Z1n.out; omega)).trans S1n.out)
  have Z2 := Lib.hid gb.size
  have GL : Hid (w'.heap.size ≤ g) := Lib.hid hgl
  clear ht hoi hot gb HD hgl
  rcases Hway.out with ⟨m, hfd, hml, hpt⟩ | ⟨hfd, hpt⟩
  · have Hf := Lib.hid (HDef.out _ _ _ hpt)
    rw [hfd] at htop
    have HPo := Lib.hid (pop_some (m := (m : Int)) T2.out OI2.out (by simpa [TopI] using htop) hnl)
    clear hpt Hway HDef htop hfd
    go_wp2_with fail
    refine HPo.out.mono ?_
    rintro e w3 ⟨rfl, v3, t3, k3, z3, b3⟩
    have T3 := Lib.hid t3
    have OT3 : Hid (OT w3 w'.heap.size uu ss) := Lib.hid (own_same OT2.out fun q hq => k3 q (fun e => own_neH OT2.out T2.out tne2 (by rw [hq, e])))
    have S3 : Hid (w3.heap[w.heap.size + 1]? = some (.cells #[.slice none 0 0] 27 (0, 0))) := Lib.hid ((k3 _ (by have := GL.out; have := Z1n.out; omega)).trans S2.out)
    have HB3 : Hid (Below w.heap.size w w3) := Lib.hid (HB2.out.trans (b3.mono (by have := GL.out; have := Z1n.out; omega)))
    have Z3 : Hid (w'.heap.size ≤ w3.heap.size) := Lib.hid (by rw [z3]; exact Z2.out)
    have HFi := Lib.hid (fill_any m nm T3.out OT3.out Z3.out GL.out HLn.out hml)
    clear t3 k3 z3 b3 HPo
    go_wp2_with fail
    refine HFi.out.mono ?_
    rintro e w4 ⟨rfl, u4, t4, o4, b4⟩
    have T4 := Lib.hid t4; have O4 := Lib.hid o4
    obtain ⟨A4, c4, rfl⟩ := O4.out.op
    have S4 : Hid (w4.heap[w.heap.size + 1]? = some (.cells #[.slice none 0 0] 27 (0, 0))) := Lib.hid ((b4.block _ (by have := Z1n.out; omega)).trans S3.out)
    have HB4 : Hid (Below w.heap.size w w4) := Lib.hid (HB3.out.trans (b4.mono (by have := Z1n.out; omega)))
    have q4 : w4.cell? ⟨g, 1, none⟩ = some (.slice A4 (ptW ss nm m).length c4) := by rw [cell_of_row _ _ _ _ _ _ T4.out]; rfl
    clear t4 o4 b4 HFi
    generalize ptW ss nm m = D at *
    go_wp2_with (refine wpList_store_row rfl 27 (.tmp 4) (.tmp 39) rfl (w.heap.size + 1) #[.slice A4 D.length c4] rfl rfl 27 _ S4.out (infoHs _ _ _) rfl (oneH _ _ _) ?_)
    refine bodyPost_ret (v := .tuple #[.agg #[.slice A4 D.length c4], .int .i64 (m : Int), .int .i64 0]) ?_ rfl ?_
    · exact results_cell_row3 rfl _ _ (w.heap.size + 1) 27 _ (0, 0) _ _ _ rfl rfl rfl (setRow_heap _ _ _ _ _ _ S4.out) Try.underlying27 rfl (by kernel_rfl)
    · rw [Hf.out.1, Hf.out.2.1, Hf.out.2.2]
      exact AnsH.end (mk := mkA2 (m : Int) 0) O4.out (by have := Z1n.out; omega) (by omega) HB4.out
  · have Hf := Lib.hid (HDef.out _ _ _ hpt)
    rw [hfd] at htop
    have HPo := Lib.hid (pop_none T2.out OI2.out (by simpa [TopI] using htop))
    clear hpt Hway HDef htop hfd
    go_wp2_with fail
    refine HPo.out.mono ?_
    rintro e w3 ⟨rfl, hww⟩
    rw [hww]
    clear hww w3
    go_wp2_with (refine wpList_store_row rfl 27 (.tmp 4) (.tmp 30) rfl (w.heap.size + 1) #[.slice none 0 0] rfl rfl 27 _ S2.out (infoHs _ _ _) rfl (oneH _ _ _) ?_)
    refine bodyPost_ret (v := .tuple #[.agg #[.slice none 0 0], .int .i64 0, .int .i64 5]) ?_ rfl ?_
    · exact results_cell_row3 rfl _ _ (w.heap.size + 1) 27 _ (0, 0) _ _ _ rfl rfl rfl (setRow_heap _ _ _ _ _ _ S2.out) Try.underlying27 rfl (by kernel_rfl)
    · rw [Hf.out.1, Hf.out.2.1, Hf.out.2.2]
      exact AnsH.zero (mk := mkA2 0 5) (by omega) HB2.out
theorem max_1m {x : ByteArray} (h : x.size ≤ 1048576) : x.size ≤ maxLen := by unfold maxLen; omega
theorem pt_ok {ss : List ByteArray} {nm : ByteArray} (h : SmT ss) (hn : nm.size ≤ 1048576) : (∀ x ∈ ptL ss nm, x.size ≤ maxLen) ∧ (ptL ss nm).length ≤ 1300000 := by
  unfold ptL
  split
  · unfold ptW
    split
    · refine ⟨fun x hx => ?_, by rw [List.length_set]; have := h.1; omega⟩
      rcases List.mem_or_eq_of_mem_set hx with h1 | rfl
      · exact max_1m (h.2 x h1)
      · exact max_1m hn
    · refine ⟨fun x hx => ?_, by rw [List.length_append]; have := h.1; simp; omega⟩
      rcases List.mem_append.1 hx with h1 | h1
      · exact max_1m (h.2 x h1)
      · obtain rfl := List.mem_singleton.1 h1
        exact max_1m hn
  · exact ⟨(fun x hx => absurd hx (by simp)), (by simp)⟩
end Go.Proofs.Ytabnglimchjgpaa
