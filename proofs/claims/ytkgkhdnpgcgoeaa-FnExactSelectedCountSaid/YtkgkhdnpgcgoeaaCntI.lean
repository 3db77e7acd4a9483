/- Contract of the program's count of selected elements. No statement is proved here. -/
import Derived.Test.YtkgkhdnpgcgoeaaCnt
namespace Go.Proofs.Ytkgkhdnpgcgoeaa
open Go.RowKit
set_option linter.unusedVariables false
theorem asAA (v : Value) (w : World) : (Instr.typeAssert (.iface 80 v) 52 80 true).run Try.prog w = .ok (.tuple #[v, .bool true]) w := by kernel_rfl
theorem asNA (v : Value) (w : World) : (Instr.typeAssert (.iface 81 v) 52 80 true).run Try.prog w = .ok (.tuple #[.agg #[], .bool false]) w := by kernel_rfl
theorem asNS (v : Value) (w : World) : (Instr.typeAssert (.iface 81 v) 52 83 true).run Try.prog w = .ok (.tuple #[.slice none 0 0, .bool false]) w := by kernel_rfl
theorem asNP (v : Value) (w : World) : (Instr.typeAssert (.iface 81 v) 52 86 true).run Try.prog w = .ok (.tuple #[.slice none 0 0, .bool false]) w := by kernel_rfl
theorem asSA (v : Value) (w : World) : (Instr.typeAssert (.iface 83 v) 52 80 true).run Try.prog w = .ok (.tuple #[.agg #[], .bool false]) w := by kernel_rfl
theorem asSS (v : Value) (w : World) : (Instr.typeAssert (.iface 83 v) 52 83 true).run Try.prog w = .ok (.tuple #[v, .bool true]) w := by kernel_rfl
theorem asPA (v : Value) (w : World) : (Instr.typeAssert (.iface 86 v) 52 80 true).run Try.prog w = .ok (.tuple #[.agg #[], .bool false]) w := by kernel_rfl
theorem asPS (v : Value) (w : World) : (Instr.typeAssert (.iface 86 v) 52 83 true).run Try.prog w = .ok (.tuple #[.slice none 0 0, .bool false]) w := by kernel_rfl
theorem asPP (v : Value) (w : World) : (Instr.typeAssert (.iface 86 v) 52 86 true).run Try.prog w = .ok (.tuple #[v, .bool true]) w := by kernel_rfl
theorem prod3 (n c b : Int) : prodL [n, c, b] = n * (c * b) := by
  show ((1 * n) * c) * b = _
  rw [Int.one_mul, Int.mul_assoc]
theorem prod3_bd {n c b : Int} (h1 : 0 ≤ n) (h2 : n ≤ 4096000000) (h3 : 0 ≤ c) (h4 : c ≤ 40) (h5 : 0 ≤ b) (h6 : b ≤ 40) : ∀ k, k ≤ [n, c, b].length → 0 ≤ prodK [n, c, b] k ∧ prodK [n, c, b] k ≤ 9000000000000 := by
  intro k hk
  have e1 := mul_bd2 h1 h2 h3 h4
  have e2 := mul_bd2 e1.1 e1.2 h5 h6
  have hk' : k = 0 ∨ k = 1 ∨ k = 2 ∨ k = 3 := by simp at hk; omega
  rcases hk' with rfl | rfl | rfl | rfl
  · show 0 ≤ (1 : Int) ∧ (1 : Int) ≤ _; omega
  · show 0 ≤ 1 * n ∧ 1 * n ≤ _; omega
  · show 0 ≤ 1 * n * c ∧ 1 * n * c ≤ _; rw [Int.one_mul]; omega
  · show 0 ≤ 1 * n * c * b ∧ 1 * n * c * b ≤ _; rw [Int.one_mul]; omega
set_option maxHeartbeats 1000000 in
set_option maxRecDepth 100000 in
theorem picked1 {B : Nat} {w : World} {v0 : Value} {ds : List Int} (h0 : Ri B w v0 ds) (hB : B ≤ w.heap.size) (hd : dimsOk ds = true) :
    Calls Try.prog 50 #[v0, .iface 80 (.agg #[])] w (GivesB (.int .i64 (prodL ds)) w) := by
  have H0 := Lib.hid h0
  obtain ⟨A0, c0, rfl, -, -, -⟩ := h0
  have Hd := Lib.hid (dimsOk_iff hd)
  clear hd
  have Hb0 : Hid (Below w.heap.size w (w.alloc (.cells #[] 80))) := Lib.hid ((Below.refl _ w).alloc (Nat.le_refl _) _)
  have qAA := asAA
  go_enter Try.func50, Try.ntmps50
  go_wp2_with (go_at_call 77; (with_reducible refine (product_any (H0.out.at hB Hb0.out) ⟨Hd.out.1, Hd.out.2.1⟩).mono ?_); rintro e w' ⟨rfl, rfl⟩)
  go_ret
  exact ⟨rfl, Hb0.out⟩
set_option maxHeartbeats 1000000 in
set_option maxRecDepth 100000 in
theorem picked2 {w : World} {v0 : Value} : Calls Try.prog 50 #[v0, .iface 81 (.agg #[])] w (GivesB (.int .i64 0) w) := by
  have qNA := asNA
  have qNS := asNS
  have qNP := asNP
  go_enter Try.func50, Try.ntmps50
  go_wp2
  go_ret
  exact ⟨rfl, Below.refl _ _⟩
set_option maxHeartbeats 1000000 in
set_option maxRecDepth 100000 in
theorem picked4 {w : World} {v0 : Value} (A : Option Addr) (n c : Nat) : Calls Try.prog 50 #[v0, .iface 86 (.slice A n c)] w (GivesB (.int .i64 (n : Int)) w) := by
  have qPA := asPA
  have qPS := asPS
  have qPP := asPP
  go_enter Try.func50, Try.ntmps50
  go_wp2
  go_ret
  exact ⟨rfl, Below.refl _ _⟩
set_option maxHeartbeats 4000000 in
set_option maxRecDepth 100000 in
theorem picked3 {w : World} {v0 : Value} {S T C K : List Int} {b : Nat} (hs : SlabAt w b S T C K S.length) (hb : b < w.heap.size) (hok : slabOk S T C K = true) :
    Calls Try.prog 50 #[v0, .iface 83 (.slice (some ⟨b, 0, none⟩) S.length S.length)] w (GivesB (.int .i64 (cntK C K S.length)) w) := by
  have Hs := Lib.hid hs; have Hok := Lib.hid hok
  obtain ⟨l1, l2, l3, l4⟩ := slab_lens hok
  have L2 := Lib.hid l2; have L3 := Lib.hid l3; have L4 := Lib.hid l4
  clear l2 l3 l4 hok hs
  have qSA := asSA
  have qSS := asSS
  go_enter Try.func50, Try.ntmps50
  go_wp2
  go_loopw [7, 22] (fun n i wr => ∃ j : Nat, j ≤ S.length ∧ i = .int .i64 j ∧ n = .int .i64 (cntK C K j) ∧ Below w.heap.size w wr) (fun _ i _ => S.length - (intOf i).toNat)
  case atStart => exact ⟨0, Nat.zero_le _, rfl, rfl, Below.refl _ _⟩
  case round =>
    obtain ⟨j, hj, rfl, rfl, hbel⟩ := hrel
    have Hbel := Lib.hid hbel
    by_cases hlt : j < S.length
    · have hlt2 : j < T.length := by have := L2.out; omega
      have hlt3 : j < C.length := by have := L3.out; omega
      have hlt4 : j < K.length := by have := L4.out; omega
      have hbs := hbel.size
      have Hrg : Hid (wr.rangeAt b (j * 4) [.int .i64 S[j], .int .i64 T[j], .int .i64 C[j], .int .i64 K[j]]) := Lib.hid (by
        have h := (Hs.out.same (hbel.block b hb)).2 j hlt
        rwa [getD_at _ _ hlt, getD_at _ _ hlt2, getD_at _ _ hlt3, getD_at _ _ hlt4] at h)
      have hck := ck_bd Hok.out hlt
      have hcs := cnt_small Hok.out j (by omega)
      have Hc : Hid (cntK C K (j + 1) = cntK C K j * (C[j] * K[j])) := Lib.hid (by rw [cntK, getD_at _ _ hlt3, getD_at _ _ hlt4])
      rw [getD_at _ _ hlt3, getD_at _ _ hlt4] at hck
      clear hbel
      generalize S[j] = s at *
      generalize T[j] = t at *
      generalize C[j] = c at *
      generalize K[j] = x at *
      generalize cntK C K j = n at *
      have Hpb := Lib.hid (prod3_bd hcs.1 hcs.2 hck.1 hck.2.1 hck.2.2.1 hck.2.2.2)
      have Hin : Hid (∀ y ∈ [n, c, x], InI y) := Lib.hid (fun y hy => by
        simp at hy
        unfold InI
        rcases hy with rfl | rfl | rfl <;> omega)
      have Hld : Hid ((loadVar 92 ⟨b, j * 4, none⟩).run Try.prog wr = .ok (.agg [Value.int .i64 s, .int .i64 t, .int .i64 c, .int .i64 x].toArray) wr) := Lib.hid (run_load_cells (P := Try.prog) wr b (j * 4) 92 _ [.int .i64 s, .int .i64 t, .int .i64 c, .int .i64 x] (fun q u hq => Hrg.out q u hq) Try.underlying92 (by kernel_rfl))
      have Hi9 : Hid ((Try.prog.info? 92).map (·.size) = some (#[.int .i64 s, .int .i64 t, .int .i64 c, .int .i64 x] : Array Value).size) := Lib.hid (by kernel_rfl)
      have H19 : Hid ((#[.int .i64 s, .int .i64 t, .int .i64 c, .int .i64 x] : Array Value).all (·.oneCell') = true) := Lib.hid (by simp [Value.oneCell'])
      have Hb2 : Hid (Below wr.heap.size wr ((wr.alloc (.cells #[.int .i64 s, .int .i64 t, .int .i64 c, .int .i64 x] 92)).alloc (.cells #[.int .i64 n, .int .i64 c, .int .i64 x] 2))) := Lib.hid (((Below.refl _ _).alloc (Nat.le_refl _) _).alloc (by simp) _)
      have Hri : Hid (Ri ((wr.alloc (.cells #[.int .i64 s, .int .i64 t, .int .i64 c, .int .i64 x] 92)).alloc (.cells #[.int .i64 n, .int .i64 c, .int .i64 x] 2)).heap.size ((wr.alloc (.cells #[.int .i64 s, .int .i64 t, .int .i64 c, .int .i64 x] 92)).alloc (.cells #[.int .i64 n, .int .i64 c, .int .i64 x] 2)) (.slice (some ⟨wr.heap.size + 1, 0, none⟩) 3 3) [n, c, x]) := Lib.hid (by
        have e0 : (wr.alloc (.cells #[.int .i64 s, .int .i64 t, .int .i64 c, .int .i64 x] 92)).heap.size = wr.heap.size + 1 := by simp
        have hrow : Row ((wr.alloc (.cells #[.int .i64 s, .int .i64 t, .int .i64 c, .int .i64 x] 92)).alloc (.cells #[.int .i64 n, .int .i64 c, .int .i64 x] 2)) (wr.heap.size + 1) [n, c, x] := by
          unfold Row
          rw [← e0]
          exact heap_alloc_new _ _
        exact hrow.ri hrow.lt Hin.out (by unfold maxLen; simp))
      clear hck hcs
      go_wp2_with (first | (refine wpList_load_agg rfl 92 (.tmp 24) rfl _ rfl _ Hld.out ?_) | (refine wpList_store_last rfl 92 (.tmp 9) (.tmp 25) rfl #[.int .i64 s, .int .i64 t, .int .i64 c, .int .i64 x] _ 92 rfl rfl Hi9.out rfl H19.out ?_))
      refine (product_gen Hri.out Hpb.out).mono ?_
      rintro e w3 ⟨rfl, rfl⟩
      go_wp2
      go_roundw
      case rel => exact ⟨j + 1, by omega, by go_num, by rw [Hc.out, prod3], Hbel.out.trans (Hb2.out.mono Hbel.out.size)⟩
      case measure => simp [intOf]; omega
    · obtain rfl : j = S.length := by omega
      clear hbel
      go_wp2
      go_ret
      exact ⟨rfl, Hbel.out⟩
set_option maxHeartbeats 4000000 in
set_option maxRecDepth 100000 in
theorem implCount_any {B : Nat} {w : World} {k : Int} {v0 v1 v2 v3 v4 v5 : Value} {ds S T C K : List Int} {ps : List (List Int)} (h0 : Ri B w v0 ds) (h1 : Ri B w v1 S) (h2 : Ri B w v2 T) (h3 : Ri B w v3 C) (h4 : Ri B w v4 K) (h5 : RiP B w v5 ps) (hB : B ≤ w.heap.size)
    (hs : S.length ≤ 1048576 ∧ T.length ≤ 1048576 ∧ C.length ≤ 1048576 ∧ K.length ≤ 1048576) :
    Calls Try.prog 23 #[v0, .agg #[.int .i64 k, v1, v2, v3, v4, v5]] w (GivesB (.int .i64 (countS ds k S T C K ps)) w) := by
  have H0 := Lib.hid h0; have H1 := Lib.hid h1; have H2 := Lib.hid h2; have H3 := Lib.hid h3; have H4 := Lib.hid h4; have H5 := Lib.hid h5; have Hs := Lib.hid hs
  obtain ⟨A0, c0, rfl, -, -, -⟩ := h0
  obtain ⟨A1, c1, rfl, -, -, -⟩ := h1
  obtain ⟨A2, c2, rfl, -, -, -⟩ := h2
  obtain ⟨A3, c3, rfl, -, -, -⟩ := h3
  obtain ⟨A4, c4, rfl, -, -, -⟩ := h4
  obtain ⟨A5, c5, rfl, -, -, -⟩ := h5
  clear hs
  have Hb0 : Hid (Below w.heap.size w (w.alloc (.cells #[.int .i64 k, .slice A1 S.length c1, .slice A2 T.length c2, .slice A3 C.length c3, .slice A4 K.length c4, .slice A5 ps.length c5] 30))) := Lib.hid ((Below.refl _ w).alloc (Nat.le_refl _) _)
  have HP := Lib.hid (pickerWithin_any (k := k) (H0.out.at hB Hb0.out) (H1.out.at hB Hb0.out) (H2.out.at hB Hb0.out) (H3.out.at hB Hb0.out) (H4.out.at hB Hb0.out) (H5.out.at hB Hb0.out) (Nat.le_refl _) Hs.out)
  generalize hr : countS ds k S T C K ps = r
  unfold countS at hr
  generalize hv : validB ds k S T C K ps = va at *
  have Hr := Lib.hid hr; have Hv := Lib.hid hv
  clear hr hv
  go_enter Try.func23, Try.ntmps23
  go_wp2_with fail
  refine HP.out.mono ?_
  rintro e w1 ⟨g, p, rfl, hp⟩
  have Hb1 : Hid (Below w.heap.size w w1) := Lib.hid (Hb0.out.trans (g.mono Hb0.out.size))
  have Hp := Lib.hid hp
  clear g hp HP
  cases va
  · have Hf : Hid (r = -1) := Lib.hid (by rw [← Hr.out]; rfl)
    clear Hp
    go_wp2_with fail
    go_ret
    exact ⟨by rw [Hf.out]; rfl, Hb1.out⟩
  have Hf : Hid (selCount ds k C K ps = r) := Lib.hid (by rw [← Hr.out]; rfl)
  have Hp2 := Lib.hid (Hp.out rfl)
  clear Hp Hr
  obtain ⟨hd, hfo, hki⟩ := valid_iff Hv.out
  have Hd := Lib.hid hd
  have Hki := Lib.hid hki
  clear hd hki
  rcases formed_kind hfo with rfl | rfl | ⟨rfl, hso⟩ | ⟨rfl, hpo⟩
  · obtain rfl := Hp2.out.1 rfl
    clear hfo
    go_wp2_with fail
    refine (picked1 (H0.out.at hB Hb1.out) (Nat.le_refl _) Hd.out).mono ?_
    rintro e w2 ⟨rfl, g⟩
    have Hb2 : Hid (Below w.heap.size w w2) := Lib.hid (Hb1.out.trans (g.mono Hb1.out.size))
    clear g
    go_wp2_with fail
    go_ret
    exact ⟨by rw [← Hf.out]; rfl, Hb2.out⟩
  · obtain rfl := Hp2.out.2.1 rfl
    clear hfo
    go_wp2_with fail
    refine picked2.mono ?_
    rintro e w2 ⟨rfl, g⟩
    have Hb2 : Hid (Below w.heap.size w w2) := Lib.hid (Hb1.out.trans (g.mono Hb1.out.size))
    clear g
    go_wp2_with fail
    go_ret
    exact ⟨by rw [← Hf.out]; rfl, Hb2.out⟩
  · obtain ⟨b, hb, hlo, rfl, hsl⟩ := Hp2.out.2.2.1 rfl
    have Hso := Lib.hid hso; have Hsl := Lib.hid hsl
    have Hl : Hid (S.length = ds.length) := Lib.hid (by
      have h := Hki.out
      unfold kindIn at h
      rw [if_pos rfl] at h
      unfold slabIn at h
      simp at h
      exact h.1)
    clear hso hsl hfo
    go_wp2_with fail
    refine (picked3 Hsl.out hb Hso.out).mono ?_
    rintro e w2 ⟨rfl, g⟩
    have Hb2 : Hid (Below w.heap.size w w2) := Lib.hid (Hb1.out.trans (g.mono Hb1.out.size))
    clear g
    go_wp2_with fail
    go_ret
    exact ⟨by rw [← Hf.out, Hl.out]; rfl, Hb2.out⟩
  · obtain rfl := Hp2.out.2.2.2 rfl
    clear hfo hpo
    go_wp2_with fail
    refine (picked4 _ _ _).mono ?_
    rintro e w2 ⟨rfl, g⟩
    have Hb2 : Hid (Below w.heap.size w w2) := Lib.hid (Hb1.out.trans (g.mono Hb1.out.size))
    clear g
    go_wp2_with fail
    go_ret
    exact ⟨by rw [← Hf.out]; rfl, Hb2.out⟩
end Go.Proofs.Ytkgkhdnpgcgoeaa
