/- How many elements a selection selects; contracts of the model's and of the program's count. No statement is proved here. -/
import Derived.Test.YtkgkhdnpgcgoeaaVaP
namespace Go.Proofs.Ytkgkhdnpgcgoeaa
open Go.RowKit
set_option linter.unusedVariables false
def cntK (C K : List Int) : Nat → Int
  | 0 => 1
  | k + 1 => cntK C K k * (C.getD k 0 * K.getD k 0)
theorem mul_bd2 {p x P X : Int} (h0 : 0 ≤ p) (h1 : p ≤ P) (h2 : 0 ≤ x) (h3 : x ≤ X) : 0 ≤ p * x ∧ p * x ≤ P * X :=
  ⟨Int.mul_nonneg h0 h2, Int.mul_le_mul h1 h3 h2 (Int.le_trans h0 h1)⟩
theorem ck_bd {S T C K : List Int} (h : slabOk S T C K = true) {i : Nat} (hi : i < S.length) : 0 ≤ C.getD i 0 ∧ C.getD i 0 ≤ 40 ∧ 0 ≤ K.getD i 0 ∧ K.getD i 0 ≤ 40 := by
  have := axOk_iff.1 (allTo_at (Bool.and_eq_true_iff.1 h).2 hi)
  omega
theorem cnt_bd {S T C K : List Int} (h : slabOk S T C K = true) : ∀ k, k ≤ S.length → 0 ≤ cntK C K k ∧ cntK C K k ≤ 1600 ^ k
  | 0, _ => by rw [cntK]; decide
  | k + 1, hk => by
    have ih := cnt_bd h k (by omega)
    obtain ⟨a1, a2, a3, a4⟩ := ck_bd h (show k < S.length by omega)
    have hm := mul_bd2 a1 a2 a3 a4
    have := mul_bd2 ih.1 ih.2 hm.1 hm.2
    rw [cntK, Int.pow_succ]
    exact this
theorem pow1600 (k : Nat) (h : k ≤ 3) : (1600 : Int) ^ k ≤ 4096000000 := by
  have : k = 0 ∨ k = 1 ∨ k = 2 ∨ k = 3 := by omega
  rcases this with rfl | rfl | rfl | rfl <;> decide
theorem cnt_small {S T C K : List Int} (h : slabOk S T C K = true) (k : Nat) (hk : k ≤ S.length) : 0 ≤ cntK C K k ∧ cntK C K k ≤ 4096000000 := by
  have h1 := cnt_bd h k hk
  have h2 := pow1600 k (by have := (slab_lens h).1; omega)
  omega
def selCount (ds : List Int) (k : Int) (C K : List Int) (ps : List (List Int)) : Int := if k = 1 then prodL ds else if k = 4 then (ps.length : Int) else if k = 2 then 0 else cntK C K ds.length
def countS (ds : List Int) (k : Int) (S T C K : List Int) (ps : List (List Int)) : Int := if validB ds k S T C K ps = true then selCount ds k C K ps else -1
theorem valid_iff {ds : List Int} {k : Int} {S T C K : List Int} {ps : List (List Int)} (h : validB ds k S T C K ps = true) : dimsOk ds = true ∧ formedB k S T C K ps = true ∧ kindIn ds k S T C K ps = true := by
  simpa [validB] using h
theorem valid_r {B : Nat} {w : World} {k : Int} {v0 v1 v2 v3 v4 v5 : Value} {ds S T C K : List Int} {ps : List (List Int)} {r : Bool} (h0 : Ri B w v0 ds) (h1 : Ri B w v1 S) (h2 : Ri B w v2 T) (h3 : Ri B w v3 C) (h4 : Ri B w v4 K) (h5 : RiP B w v5 ps) (hB : B ≤ w.heap.size) (hr : validB ds k S T C K ps = r) :
    Calls Try.prog 42 #[v0, .agg #[.int .i64 k, v1, v2, v3, v4, v5]] w (GivesB (.bool r) w) := by
  subst hr
  exact l06Valid_any h0 h1 h2 h3 h4 h5 hB
set_option maxHeartbeats 2000000 in
set_option maxRecDepth 100000 in
theorem l06Count_any {B : Nat} {w : World} {k : Int} {v0 v1 v2 v3 v4 v5 : Value} {ds S T C K : List Int} {ps : List (List Int)} (h0 : Ri B w v0 ds) (h1 : Ri B w v1 S) (h2 : Ri B w v2 T) (h3 : Ri B w v3 C) (h4 : Ri B w v4 K) (h5 : RiP B w v5 ps) (hB : B ≤ w.heap.size) (hv : validB ds k S T C K ps = true) :
    Calls Try.prog 49 #[v0, .agg #[.int .i64 k, v1, v2, v3, v4, v5]] w (GivesB (.int .i64 (selCount ds k C K ps)) w) := by
  have H0 := Lib.hid h0
  obtain ⟨A0, c0, rfl, -, hm0, hx0⟩ := h0
  obtain ⟨A1, c1, rfl, -, hm1, hx1⟩ := h1
  obtain ⟨A2, c2, rfl, -, hm2, hx2⟩ := h2
  obtain ⟨A3, c3, rfl, -, hm3, hx3⟩ := h3
  obtain ⟨A4, c4, rfl, -, hm4, hx4⟩ := h4
  obtain ⟨A5, c5, rfl, -, hm5, hx5⟩ := h5
  have Hx3 := Lib.hid hx3; have Hx4 := Lib.hid hx4
  clear hx0 hx1 hx2 hx3 hx4 hx5
  unfold maxLen at hm0 hm1 hm2 hm3 hm4 hm5
  have Hb0 : Hid (Below w.heap.size w (w.alloc (.cells #[.int .i64 k, .slice A1 S.length c1, .slice A2 T.length c2, .slice A3 C.length c3, .slice A4 K.length c4, .slice A5 ps.length c5] 30))) := Lib.hid ((Below.refl _ w).alloc (Nat.le_refl _) _)
  have HX0 := Lib.hid (SelBox.start w 30 k A1 A2 A3 A4 A5 S.length T.length C.length K.length ps.length c1 c2 c3 c4 c5)
  obtain ⟨hd, hfo, hki⟩ := valid_iff hv
  have Hd := Lib.hid (dimsOk_iff hd)
  generalize hr : selCount ds k C K ps = r
  unfold selCount at hr
  rcases formed_kind hfo with rfl | rfl | ⟨rfl, hso⟩ | ⟨rfl, hpo⟩
  · rw [if_pos rfl] at hr
    have Hr := Lib.hid hr
    clear hr hv hd hfo hki
    go_enter Try.func49, Try.ntmps49
    go_wp2_with (go_at_call 76; (with_reducible refine (l05Count_any (H0.out.at hB Hb0.out) ⟨Hd.out.1, Hd.out.2.1⟩).mono ?_); rintro e w' ⟨rfl, rfl⟩)
    go_ret
    exact ⟨by rw [← Hr.out]; rfl, Hb0.out⟩
  · rw [if_neg (by decide), if_neg (by decide), if_pos rfl] at hr
    have Hr := Lib.hid hr
    clear hr hv hd hfo hki
    go_enter Try.func49, Try.ntmps49
    go_wp2
    go_ret
    exact ⟨by rw [← Hr.out]; rfl, Hb0.out⟩
  · rw [if_neg (by decide), if_neg (by decide), if_neg (by decide)] at hr
    have Hr := Lib.hid hr
    unfold kindIn at hki
    rw [if_pos rfl] at hki
    obtain ⟨l1, l2, l3, l4⟩ := slab_lens hso
    have hl : S.length = ds.length := by
      unfold slabIn at hki
      simp at hki
      exact hki.1
    have Hl := Lib.hid hl; have Hso := Lib.hid hso; have L3 := Lib.hid l3; have L4 := Lib.hid l4
    clear hr hv hd hfo hki hl hso l2 l3 l4
    go_enter Try.func49, Try.ntmps49
    go_wp2
    go_loopw [5, 6] (fun n i wr => ∃ j : Nat, j ≤ ds.length ∧ i = .int .i64 j ∧ n = .int .i64 (cntK C K j) ∧ Below w.heap.size w wr ∧ SelBox w wr 3 A1 A2 A3 A4 A5 S.length T.length C.length K.length ps.length c1 c2 c3 c4 c5) (fun _ i _ => ds.length - (intOf i).toNat)
    case atStart => exact ⟨0, Nat.zero_le _, rfl, rfl, Hb0.out, HX0.out⟩
    case round =>
      obtain ⟨j, hj, rfl, rfl, hbel, hbox⟩ := hrel
      have Hbel := Lib.hid hbel; have Hbox := Lib.hid hbox
      obtain ⟨x0, x1, x2, x3, x4, x5, x6⟩ := hbox
      by_cases hlt0 : j < ds.length
      · have hlt : j < S.length := by have := Hl.out; omega
        have hlt3 : j < C.length := by have := L3.out; omega
        have hlt4 : j < K.length := by have := L4.out; omega
        obtain ⟨b3, o3, rfl, hb3, hq3, hI3⟩ := Hx3.out j hlt3
        obtain ⟨b4, o4, rfl, hb4, hq4, hI4⟩ := Hx4.out j hlt4
        have g3 : wr.cell? ⟨b3, o3 + j, none⟩ = some (.int .i64 C[j]) := by rw [hbel.cell (p := ⟨b3, o3 + j, none⟩) (show b3 < _ from by omega)]; exact hq3
        have g4 : wr.cell? ⟨b4, o4 + j, none⟩ = some (.int .i64 K[j]) := by rw [hbel.cell (p := ⟨b4, o4 + j, none⟩) (show b4 < _ from by omega)]; exact hq4
        have hck := ck_bd Hso.out hlt
        have hcs := cnt_small Hso.out j (by omega)
        have hcs2 := cnt_small Hso.out (j + 1) (by omega)
        have Hc : Hid (cntK C K (j + 1) = cntK C K j * (C[j] * K[j])) := Lib.hid (by rw [cntK, getD_at _ _ hlt3, getD_at _ _ hlt4])
        rw [Hc.out] at hcs2
        rw [getD_at _ _ hlt3, getD_at _ _ hlt4] at hck
        have hm := mul_bd2 hck.1 hck.2.1 hck.2.2.1 hck.2.2.2
        clear hq3 hq4 hI3 hI4 hbel
        generalize C[j] = c at *
        generalize K[j] = b at *
        generalize cntK C K j = n at *
        have w1 : IntKind.i64.wrap (c * b) = c * b := IntWalk.i64_in _ (by omega)
        have w2 : IntKind.i64.wrap (n * (c * b)) = n * (c * b) := IntWalk.i64_in _ (by omega)
        go_wp2
        go_quiet (fail)
        clear w1 w2
        go_wp2
        go_roundw
        case rel => exact ⟨j + 1, by omega, by go_num, by rw [Hc.out], below_draws Hbel.out _, Hbox.out.go (below_draws (Below.refl _ _) _)⟩
        case measure => simp [intOf]; omega
      · obtain rfl : j = ds.length := by omega
        clear hbel
        go_wp2
        go_ret
        exact ⟨by rw [← Hr.out]; rfl, Hbel.out⟩
  · rw [if_neg (by decide), if_pos rfl] at hr
    have Hr := Lib.hid hr
    clear hr hv hd hfo hki hpo
    go_enter Try.func49, Try.ntmps49
    go_wp2
    go_ret
    exact ⟨by rw [← Hr.out]; rfl, Hb0.out⟩
set_option maxHeartbeats 2000000 in
set_option maxRecDepth 100000 in
theorem specCount_any {B : Nat} {w : World} {k : Int} {v0 v1 v2 v3 v4 v5 : Value} {ds S T C K : List Int} {ps : List (List Int)} (h0 : Ri B w v0 ds) (h1 : Ri B w v1 S) (h2 : Ri B w v2 T) (h3 : Ri B w v3 C) (h4 : Ri B w v4 K) (h5 : RiP B w v5 ps) (hB : B ≤ w.heap.size) :
    Calls Try.prog 22 #[v0, .agg #[.int .i64 k, v1, v2, v3, v4, v5]] w (GivesB (.int .i64 (countS ds k S T C K ps)) w) := by
  have H0 := Lib.hid h0; have H1 := Lib.hid h1; have H2 := Lib.hid h2; have H3 := Lib.hid h3; have H4 := Lib.hid h4; have H5 := Lib.hid h5
  obtain ⟨A0, c0, rfl, -, -, -⟩ := h0
  obtain ⟨A1, c1, rfl, -, -, -⟩ := h1
  obtain ⟨A2, c2, rfl, -, -, -⟩ := h2
  obtain ⟨A3, c3, rfl, -, -, -⟩ := h3
  obtain ⟨A4, c4, rfl, -, -, -⟩ := h4
  obtain ⟨A5, c5, rfl, -, -, -⟩ := h5
  have Hb0 : Hid (Below w.heap.size w (w.alloc (.cells #[.int .i64 k, .slice A1 S.length c1, .slice A2 T.length c2, .slice A3 C.length c3, .slice A4 K.length c4, .slice A5 ps.length c5] 30))) := Lib.hid ((Below.refl _ w).alloc (Nat.le_refl _) _)
  have HX0 := Lib.hid (SelBox.start w 30 k A1 A2 A3 A4 A5 S.length T.length C.length K.length ps.length c1 c2 c3 c4 c5)
  generalize hr : countS ds k S T C K ps = r
  unfold countS at hr
  generalize hv : validB ds k S T C K ps = va at hr
  have Hr := Lib.hid hr; have Hv := Lib.hid hv
  clear hr hv
  go_enter Try.func22, Try.ntmps22
  go_wp2_with fail
  refine (valid_r (k := k) (H0.out.at hB Hb0.out) (H1.out.at hB Hb0.out) (H2.out.at hB Hb0.out) (H3.out.at hB Hb0.out) (H4.out.at hB Hb0.out) (H5.out.at hB Hb0.out) (Nat.le_refl _) Hv.out).mono ?_
  rintro e w1 ⟨rfl, g⟩
  have Hb1 : Hid (Below w.heap.size w w1) := Lib.hid (Hb0.out.trans (g.mono Hb0.out.size))
  obtain ⟨x0, x1, x2, x3, x4, x5, x6⟩ := HX0.out.go g
  clear g
  cases va
  · have Hf : Hid (r = -1) := Lib.hid (by rw [← Hr.out]; rfl)
    go_wp2_with fail
    go_ret
    exact ⟨by rw [Hf.out]; rfl, Hb1.out⟩
  · have Hf : Hid (selCount ds k C K ps = r) := Lib.hid (by rw [← Hr.out]; rfl)
    go_wp2_with fail
    clear x0 x1 x2 x3 x4 x5
    refine (l06Count_any (k := k) (H0.out.at hB Hb1.out) (H1.out.at hB Hb1.out) (H2.out.at hB Hb1.out) (H3.out.at hB Hb1.out) (H4.out.at hB Hb1.out) (H5.out.at hB Hb1.out) (Nat.le_refl _) Hv.out).mono ?_
    rintro e w2 ⟨rfl, g⟩
    have Hb2 : Hid (Below w.heap.size w w2) := Lib.hid (Hb1.out.trans (g.mono Hb1.out.size))
    clear g
    go_wp2_with fail
    go_ret
    exact ⟨by rw [← Hf.out]; rfl, Hb2.out⟩
/-- The product of numbers whose partial products stay small. -/
theorem product_gen {B : Nat} {w : World} {v : Value} {xs : List Int} (h : Ri B w v xs) (hb : ∀ k, k ≤ xs.length → 0 ≤ prodK xs k ∧ prodK xs k ≤ 9000000000000) : Calls Try.prog 77 #[v] w (Quiet (.int .i64 (prodL xs)) w) := by
  obtain ⟨A, cap, rfl, hl, hc, hx⟩ := h
  unfold maxLen at hc
  have Hx := Lib.hid hx; have Hb := Lib.hid hb; clear hx hb
  go_enter Try.func77, Try.ntmps77
  go_wp2
  go_loop [3, 8] (fun n i => ∃ k : Nat, k ≤ xs.length ∧ i = .int .i64 k ∧ n = .int .i64 (prodK xs k)) (fun _ i => xs.length - (intOf i).toNat)
  case atStart => exact ⟨0, Nat.zero_le _, rfl, by rw [prodK_zero]⟩
  case round =>
    obtain ⟨k, hk, rfl, rfl⟩ := hrel
    have hpb := Hb.out k hk
    by_cases hlt : k < xs.length
    · obtain ⟨b, o, rfl, hb, hcell, hI⟩ := Hx.out k hlt
      have hpb2 := Hb.out (k + 1) hlt
      have Hps := Lib.hid (prodK_succ xs k hlt)
      rw [Hps.out] at hpb2
      generalize hp : prodK xs k = p at *
      generalize hxk : xs[k] = x at *
      have Hp := Lib.hid hp; have Hxk := Lib.hid hxk
      clear hp hxk
      have hwr := i64_of (n := p * x) (by omega) (by omega)
      go_wp2
      go_round
      case rel => exact ⟨k + 1, by omega, by go_num, by rw [Hps.out]⟩
      case measure => simp [intOf]; omega
    · obtain rfl : k = xs.length := by omega
      go_wp2
      go_ret
      exact ⟨rfl, rfl⟩
end Go.Proofs.Ytkgkhdnpgcgoeaa
