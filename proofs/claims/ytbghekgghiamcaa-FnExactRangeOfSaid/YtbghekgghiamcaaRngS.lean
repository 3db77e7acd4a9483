/- Contract of the model's function that makes a range's selection, with its checks. No statement is proved here. -/
import Derived.Test.YtbghekgghiamcaaRngM
namespace Go.Proofs.Ytbghekgghiamcaa
open Go.RowKit
set_option linter.unusedVariables false
def RgAns (xs ys : List Int) (w : World) (e : Ending) (w' : World) : Prop := AnsSel (rgK xs ys) (rg0 xs ys) (rg1 xs ys) (rg2 xs ys) (rg1 xs ys) (.bool (rgOk xs ys)) w e w'
theorem rg_no {xs ys : List Int} {w W : World} (hf : rgOk xs ys = false) (h : Below w.heap.size w W) : RgAns xs ys w (.returned (.tuple #[.agg #[.int .i64 0, .slice none 0 0, .slice none 0 0, .slice none 0 0, .slice none 0 0, .slice none 0 0], .bool false])) W := by
  unfold RgAns rgK rg0 rg1 rg2
  rw [hf]
  exact ansSel_nil _ h
theorem rg_yes {xs ys : List Int} {w W : World} {v0 v1 v2 v3 : Value} (hf : rgOk xs ys = true) (s : Sel4 W w.heap.size v0 v1 v2 v3 xs (df xs ys) (ones (df xs ys).length) (df xs ys)) (h : Below w.heap.size w W) : RgAns xs ys w (.returned (.tuple #[.agg #[.int .i64 3, v0, v1, v2, v3, .slice none 0 0], .bool true])) W := by
  unfold RgAns rgK rg0 rg1 rg2
  rw [hf]
  exact s.ans h
theorem ripN (B : Nat) (w : World) : RiP B w (.slice none 0 0) [] := ⟨none, 0, rfl, by simp, by simp, fun i hi => absurd hi (by simp)⟩
theorem below_one (y : Int) (hy : InI y) : (y = -9223372036854775808 ∧ IntKind.i64.wrap (y - 1) = 9223372036854775807) ∨ (-9223372036854775808 < y ∧ IntKind.i64.wrap (y - 1) = y - 1) := by
  unfold InI at hy
  rw [IntKind.wrap_i64]
  omega
set_option maxHeartbeats 4000000 in
set_option maxRecDepth 100000 in
theorem specRange_any {B : Nat} {w : World} {A1 A2 : Option Addr} {xs ys : List Int} (h1 : Ri B w (.slice A1 xs.length xs.length) xs) (h2 : Ri B w (.slice A2 ys.length ys.length) ys) (hB : B ≤ w.heap.size) (hs : xs.length ≤ 1048576) (hs2 : ys.length ≤ 1048576) :
    Calls Try.prog 8 #[.slice A1 xs.length xs.length, .slice A2 ys.length ys.length] w (RgAns xs ys w) := by
  have H1 := Lib.hid h1; have H2 := Lib.hid h2
  obtain ⟨A1', c1, hv1, hl1, hm1, hx1⟩ := h1
  obtain ⟨A2', c2, hv2, hl2, hm2, hx2⟩ := h2
  have Hx1 : Hid (∀ k (hk : k < xs.length), ∃ b o, A1 = some ⟨b, o, none⟩ ∧ b < B ∧ w.cell? ⟨b, o + k, none⟩ = some (.int .i64 xs[k])) := Lib.hid (fun k hk => by
    obtain ⟨b, o, hA, hb, hc, _⟩ := hx1 k hk
    have e1 : A1' = A1 := by injection hv1 with h1 h2 h3; exact h1.symm
    exact ⟨b, o, e1 ▸ hA, hb, hc⟩)
  have Hx2 : Hid (∀ k (hk : k < ys.length), ∃ b o, A2 = some ⟨b, o, none⟩ ∧ b < B ∧ w.cell? ⟨b, o + k, none⟩ = some (.int .i64 ys[k])) := Lib.hid (fun k hk => by
    obtain ⟨b, o, hA, hb, hc, _⟩ := hx2 k hk
    have e1 : A2' = A2 := by injection hv2 with h1 h2 h3; exact h1.symm
    exact ⟨b, o, e1 ▸ hA, hb, hc⟩)
  clear hx1 hx2 hv1 hv2 hl1 hl2 hm1 hm2 c1 c2 A1' A2'
  have Hs : Hid (xs.length ≤ 1048576 ∧ ys.length ≤ 1048576) := Lib.hid ⟨hs, hs2⟩
  have HB0 : Hid (Below w.heap.size w (w.alloc (.cells #[.int .i64 0, .slice none 0 0, .slice none 0 0, .slice none 0 0, .slice none 0 0, .slice none 0 0] 25))) := Lib.hid ((Below.refl _ w).alloc (Nat.le_refl _) _)
  have Hz0 : Hid ((w.alloc (.cells #[.int .i64 0, .slice none 0 0, .slice none 0 0, .slice none 0 0, .slice none 0 0, .slice none 0 0] 25)).heap.size = w.heap.size + 1) := Lib.hid (by simp)
  have Hr0 : Hid ((w.alloc (.cells #[.int .i64 0, .slice none 0 0, .slice none 0 0, .slice none 0 0, .slice none 0 0, .slice none 0 0] 25)).heap[w.heap.size]? = some (.cells #[.int .i64 0, .slice none 0 0, .slice none 0 0, .slice none 0 0, .slice none 0 0, .slice none 0 0] 25 (0, 0))) := Lib.hid (heap_alloc_new w _)
  have Hi9 : Hid ((Try.prog.info? 25).map (·.size) = some (#[.int .i64 0, .slice none 0 0, .slice none 0 0, .slice none 0 0, .slice none 0 0, .slice none 0 0] : Array Value).size) := Lib.hid (by kernel_rfl)
  have H19 : Hid ((#[.int .i64 0, .slice none 0 0, .slice none 0 0, .slice none 0 0, .slice none 0 0, .slice none 0 0] : Array Value).all (·.oneCell') = true) := Lib.hid (by simp [Value.oneCell'])
  have HlD := Lib.hid (df_len xs ys)
  go_enter Try.func8, Try.ntmps8
  go_wp2_with fail
  generalize (w.alloc (.cells #[.int .i64 0, .slice none 0 0, .slice none 0 0, .slice none 0 0, .slice none 0 0, .slice none 0 0] 25)) = W0 at *
  go_loopw [6] (fun i wr => ∃ k : Nat, k ≤ (df xs ys).length ∧ i = .int .i64 k ∧ Below W0.heap.size W0 wr) (fun i _ => xs.length - (intOf i).toNat)
  case atStart => exact ⟨0, Nat.zero_le _, rfl, Below.refl _ _⟩
  case round =>
    obtain ⟨k, hk, rfl, hbel⟩ := hrel
    have Hbel := Lib.hid hbel
    have HBW : Hid (Below w.heap.size w wr) := Lib.hid (HB0.out.trans (hbel.mono HB0.out.size))
    have HrW : Hid (wr.heap[w.heap.size]? = some (.cells #[.int .i64 0, .slice none 0 0, .slice none 0 0, .slice none 0 0, .slice none 0 0, .slice none 0 0] 25 (0, 0))) := Lib.hid ((hbel.block _ (by have := Hz0.out; omega)).trans Hr0.out)
    have HzW : Hid (w.heap.size < wr.heap.size) := Lib.hid (by have := hbel.size; have := Hz0.out; omega)
    have Hk := Lib.hid hk
    clear hk
    by_cases hlt : k < (df xs ys).length
    · have hlt1 : k < xs.length := by have := HlD.out; omega
      have hlt2 : k < ys.length := by have := HlD.out; omega
      obtain ⟨b1, o1, rfl, hb1, hx1⟩ := Hx1.out k hlt1
      obtain ⟨b2, o2, rfl, hb2, hx2⟩ := Hx2.out k hlt2
      have g1 : wr.cell? ⟨b1, o1 + k, none⟩ = some (.int .i64 xs[k]) := (HBW.out.cell (p := ⟨b1, o1 + k, none⟩) (by simp only; omega)).trans hx1
      have g2 : wr.cell? ⟨b2, o2 + k, none⟩ = some (.int .i64 ys[k]) := (HBW.out.cell (p := ⟨b2, o2 + k, none⟩) (by simp only; omega)).trans hx2
      have Hbad : Hid ((xs[k] < 0 ∨ ys[k] ≤ xs[k] ∨ 40 < ys[k]) → rgOk xs ys = false) := Lib.hid (fun h => rgOk_bad H2.out.inI k hlt1 hlt2 h)
      have HyI : Hid (InI ys[k]) := Lib.hid (H2.out.inI _ (List.getElem_mem hlt2))
      have HxI : Hid (InI xs[k]) := Lib.hid (H1.out.inI _ (List.getElem_mem hlt1))
      have Hlt := Lib.hid hlt
      clear hx1 hx2 hbel hb1 hb2 hlt
      generalize xs[k] = x at *
      generalize ys[k] = y at *
      have Hy1 := Lib.hid (below_one y HyI.out)
      generalize hz : IntKind.i64.wrap (y - 1) = z at *
      cases hp : inB x 0 z
      · have Hp := Lib.hid hp; clear hp
        have Hf : Hid (rgOk xs ys = false) := Lib.hid (Hbad.out (by
          have h1 := Hp.out; have h2 := Hy1.out; have h3 := HxI.out
          unfold InI at h3
          rw [Bool.eq_false_iff, ne_eq, inB_iff] at h1
          omega))
        go_wp2
        go_quiet ((go_at_call 34; exact Quiet.qs (l00In_no _ _ _ _ Hp.out)))
        go_wp2_with (refine wpList_store_row rfl 25 (.tmp 4) (.tmp 38) rfl w.heap.size #[.int .i64 0, .slice none 0 0, .slice none 0 0, .slice none 0 0, .slice none 0 0, .slice none 0 0] rfl rfl 25 _ HrW.out Hi9.out rfl H19.out ?_)
        refine bodyPost_ret (v := .tuple #[.agg #[.int .i64 0, .slice none 0 0, .slice none 0 0, .slice none 0 0, .slice none 0 0, .slice none 0 0], .bool false]) ?_ ?_ ?_
        · exact results_cell_row2 rfl _ _ w.heap.size 25 _ (0, 0) _ _ rfl rfl (setRow_heap _ _ _ _ _ _ HrW.out) Try.underlying25 rfl (by kernel_rfl)
        · rfl
        · exact rg_no Hf.out (below_setRow (below_draws HBW.out _) (Nat.le_refl _) _)
      · have Hp := Lib.hid hp; clear hp
        by_cases hy : 40 < y
        · have Hf : Hid (rgOk xs ys = false) := Lib.hid (Hbad.out (.inr (.inr hy)))
          have hy2 : decide (40 < y) = true := decide_eq_true hy
          go_wp2
          go_quiet ((go_at_call 34; exact Quiet.qs (l00In_yes _ _ _ _ Hp.out)))
          go_wp2_with (refine wpList_store_row rfl 25 (.tmp 4) (.tmp 38) rfl w.heap.size #[.int .i64 0, .slice none 0 0, .slice none 0 0, .slice none 0 0, .slice none 0 0, .slice none 0 0] rfl rfl 25 _ HrW.out Hi9.out rfl H19.out ?_)
          refine bodyPost_ret (v := .tuple #[.agg #[.int .i64 0, .slice none 0 0, .slice none 0 0, .slice none 0 0, .slice none 0 0, .slice none 0 0], .bool false]) ?_ ?_ ?_
          · exact results_cell_row2 rfl _ _ w.heap.size 25 _ (0, 0) _ _ rfl rfl (setRow_heap _ _ _ _ _ _ HrW.out) Try.underlying25 rfl (by kernel_rfl)
          · rfl
          · exact rg_no Hf.out (below_setRow (below_draws HBW.out _) (Nat.le_refl _) _)
        · have hy2 : decide (40 < y) = false := decide_eq_false hy
          go_wp2
          go_quiet ((go_at_call 34; exact Quiet.qs (l00In_yes _ _ _ _ Hp.out)))
          go_wp2
          go_roundw
          case rel => exact ⟨k + 1, by have := Hlt.out; omega, by go_num, below_draws Hbel.out _⟩
          case measure => simp [intOf]; omega
    · obtain rfl : k = (df xs ys).length := by have := Hk.out; omega
      have hcase : (xs.length ≤ (df xs ys).length) ∨ ((df xs ys).length < xs.length ∧ ys.length ≤ (df xs ys).length) := by have := HlD.out; omega
      clear hbel hlt
      generalize hn : (df xs ys).length = n at *
      have Hn := Lib.hid hn; clear hn
      rcases hcase with hc | ⟨hc, hc2⟩
      all_goals
        go_wp2_with fail
        refine (l06Range_any (H1.out.at hB HBW.out) (H2.out.at hB HBW.out) (Nat.le_refl _) Hs.out.1 Hs.out.2).mono ?_
        rintro e W1 ⟨E0, E1, E2, E3, c0, c1, c2, c3, rfl, s, g⟩
        have HS := Lib.hid s
        have HB1 : Hid (Below w.heap.size w W1) := Lib.hid (HBW.out.trans (g.mono HBW.out.size))
        have Hr1 : Hid (W1.heap[w.heap.size]? = some (.cells #[.int .i64 0, .slice none 0 0, .slice none 0 0, .slice none 0 0, .slice none 0 0, .slice none 0 0] 25 (0, 0))) := Lib.hid ((g.block _ HzW.out).trans HrW.out)
        have Hz1 : Hid (w.heap.size < W1.heap.size) := Lib.hid (by have := g.size; have := HzW.out; omega)
        have HB2 : Hid (Below W1.heap.size W1 (W1.alloc (.cells #[.int .i64 3, .slice E0 xs.length c0, .slice E1 (df xs ys).length c1, .slice E2 (ones (df xs ys).length).length c2, .slice E3 (df xs ys).length c3, .slice none 0 0] 25))) := Lib.hid ((Below.refl _ _).alloc (Nat.le_refl _) _)
        have HR2 : Hid ((W1.alloc (.cells #[.int .i64 3, .slice E0 xs.length c0, .slice E1 (df xs ys).length c1, .slice E2 (ones (df xs ys).length).length c2, .slice E3 (df xs ys).length c3, .slice none 0 0] 25)).heap[W1.heap.size]? = some (.cells #[.int .i64 3, .slice E0 xs.length c0, .slice E1 (df xs ys).length c1, .slice E2 (ones (df xs ys).length).length c2, .slice E3 (df xs ys).length c3, .slice none 0 0] 25 (0, 0))) := Lib.hid (heap_alloc_new W1 _)
        clear s g
        have HS2 := Lib.hid (HS.out.bel HB2.out)
        have HF := fun W (hW : W = (W1.alloc (.cells #[.int .i64 3, .slice E0 xs.length c0, .slice E1 (df xs ys).length c1, .slice E2 (ones (df xs ys).length).length c2, .slice E3 (df xs ys).length c3, .slice none 0 0] 25))) => l06Formed_any (B := W.heap.size) (w := W) (k := 3) (hW ▸ HS2.out.1.ri H1.out.inI) (hW ▸ HS2.out.2.1.ri (df_in xs ys)) (hW ▸ HS2.out.2.2.1.ri (ones_in _)) (hW ▸ HS2.out.2.2.2.1.ri (df_in xs ys)) (ripN _ _) (Nat.le_refl _)
        have HF := Lib.hid HF
        have HLd := Lib.hid (fun W (hW : W = (W1.alloc (.cells #[.int .i64 3, .slice E0 xs.length c0, .slice E1 (df xs ys).length c1, .slice E2 (ones (df xs ys).length).length c2, .slice E3 (df xs ys).length c3, .slice none 0 0] 25))) => run_loadVar_row W W1.heap.size 25 25 #[.int .i64 3, .slice E0 xs.length c0, .slice E1 (df xs ys).length c1, .slice E2 (ones (df xs ys).length).length c2, .slice E3 (df xs ys).length c3, .slice none 0 0] (0, 0) _ (hW ▸ HR2.out) Try.underlying25 rfl (by kernel_rfl))
        by_cases hlen : xs.length = ys.length
        · have hlen2 : ((xs.length : Int) == (ys.length : Int)) = true := by simp; omega
          have hlen3 : ((xs.length : Int) != (ys.length : Int)) = false := by simp; omega
          have hlen4 : (xs.length : Int) = (ys.length : Int) := by omega
          first
          | (exfalso; omega)
          | (have HE : Hid (formedB 3 xs (df xs ys) (ones (df xs ys).length) (df xs ys) [] = rgOk xs ys) := Lib.hid (rgOk_eq hlen)
             have Hlen := Lib.hid hlen; clear hlen
             go_wp2_with (refine wpList_load_on rfl 25 (.tmp 7) rfl _ rfl _ (HLd.out _ rfl) ?_)
             refine (HE.out ▸ HF.out _ rfl).mono ?_
             rintro e W2 ⟨rfl, g⟩
             have HR3 : Hid (W2.heap[W1.heap.size]? = some (.cells #[.int .i64 3, .slice E0 xs.length c0, .slice E1 (df xs ys).length c1, .slice E2 (ones (df xs ys).length).length c2, .slice E3 (df xs ys).length c3, .slice none 0 0] 25 (0, 0))) := Lib.hid ((g.block _ (by simp)).trans HR2.out)
             have HB3 : Hid (Below w.heap.size w W2) := Lib.hid (HB1.out.trans ((HB2.out.mono HB1.out.size).trans (g.mono (by simp; have := HB1.out.size; omega))))
             have Hr3 : Hid (W2.heap[w.heap.size]? = some (.cells #[.int .i64 0, .slice none 0 0, .slice none 0 0, .slice none 0 0, .slice none 0 0, .slice none 0 0] 25 (0, 0))) := Lib.hid ((g.block _ (by simp; have := Hz1.out; omega)).trans ((HB2.out.block _ Hz1.out).trans Hr1.out))
             have HS3 := Lib.hid (HS2.out.bel g)
             clear g
             cases hr : rgOk xs ys
             · have Hf := Lib.hid hr; clear hr
               go_wp2_with (refine wpList_store_row rfl 25 (.tmp 4) (.tmp 52) rfl w.heap.size #[.int .i64 0, .slice none 0 0, .slice none 0 0, .slice none 0 0, .slice none 0 0, .slice none 0 0] rfl rfl 25 _ Hr3.out Hi9.out rfl H19.out ?_)
               refine bodyPost_ret (v := .tuple #[.agg #[.int .i64 0, .slice none 0 0, .slice none 0 0, .slice none 0 0, .slice none 0 0, .slice none 0 0], .bool false]) ?_ ?_ ?_
               · exact results_cell_row2 rfl _ _ w.heap.size 25 _ (0, 0) _ _ rfl rfl (setRow_heap _ _ _ _ _ _ Hr3.out) Try.underlying25 rfl (by kernel_rfl)
               · rfl
               · exact rg_no Hf.out (below_setRow HB3.out (Nat.le_refl _) _)
             · have Hf := Lib.hid hr; clear hr
               have H29 : Hid ((#[.int .i64 3, .slice E0 xs.length c0, .slice E1 (df xs ys).length c1, .slice E2 (ones (df xs ys).length).length c2, .slice E3 (df xs ys).length c3, .slice none 0 0] : Array Value).all (·.oneCell') = true) := Lib.hid (by simp [Value.oneCell'])
               go_wp2_with (first | (refine wpList_load_row rfl 25 (.tmp 7) rfl _ rfl 25 _ (0, 0) _ HR3.out Try.underlying25 rfl (by kernel_rfl) ?_) | (refine wpList_store_row rfl 25 (.tmp 4) (.tmp 53) rfl w.heap.size #[.int .i64 3, .slice E0 xs.length c0, .slice E1 (df xs ys).length c1, .slice E2 (ones (df xs ys).length).length c2, .slice E3 (df xs ys).length c3, .slice none 0 0] rfl rfl 25 _ Hr3.out (by kernel_rfl) rfl H29.out ?_))
               refine bodyPost_ret (v := .tuple #[.agg #[.int .i64 3, .slice E0 xs.length c0, .slice E1 (df xs ys).length c1, .slice E2 (ones (df xs ys).length).length c2, .slice E3 (df xs ys).length c3, .slice none 0 0], .bool true]) ?_ ?_ ?_
               · exact results_cell_row2 rfl _ _ w.heap.size 25 _ (0, 0) _ _ rfl rfl (setRow_heap _ _ _ _ _ _ Hr3.out) Try.underlying25 rfl (by kernel_rfl)
               · rfl
               · exact rg_yes Hf.out ((HS3.out.row HzW.out _).lo (Nat.le_of_lt HzW.out)) (below_setRow HB3.out (Nat.le_refl _) _))
        · have Hf : Hid (rgOk xs ys = false) := Lib.hid (rgOk_len hlen)
          have hlen2 : ((xs.length : Int) == (ys.length : Int)) = false := by simp; omega
          have hlen3 : ((xs.length : Int) != (ys.length : Int)) = true := by simp; omega
          have hlen4 : ¬ (xs.length : Int) = (ys.length : Int) := by omega
          have Hr3 : Hid ((W1.alloc (.cells #[.int .i64 3, .slice E0 xs.length c0, .slice E1 (df xs ys).length c1, .slice E2 (ones (df xs ys).length).length c2, .slice E3 (df xs ys).length c3, .slice none 0 0] 25)).heap[w.heap.size]? = some (.cells #[.int .i64 0, .slice none 0 0, .slice none 0 0, .slice none 0 0, .slice none 0 0, .slice none 0 0] 25 (0, 0))) := Lib.hid ((HB2.out.block _ Hz1.out).trans Hr1.out)
          go_wp2_with (refine wpList_store_row rfl 25 (.tmp 4) (.tmp 52) rfl w.heap.size #[.int .i64 0, .slice none 0 0, .slice none 0 0, .slice none 0 0, .slice none 0 0, .slice none 0 0] rfl rfl 25 _ Hr3.out Hi9.out rfl H19.out ?_)
          refine bodyPost_ret (v := .tuple #[.agg #[.int .i64 0, .slice none 0 0, .slice none 0 0, .slice none 0 0, .slice none 0 0, .slice none 0 0], .bool false]) ?_ ?_ ?_
          · exact results_cell_row2 rfl _ _ w.heap.size 25 _ (0, 0) _ _ rfl rfl (setRow_heap _ _ _ _ _ _ Hr3.out) Try.underlying25 rfl (by kernel_rfl)
          · rfl
          · exact rg_no Hf.out (below_setRow (HB1.out.trans (HB2.out.mono HB1.out.size)) (Nat.le_refl _) _)
end Go.Proofs.Ytbghekgghiamcaa
