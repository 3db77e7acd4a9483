/- Grids of chunks: the model's ValidChunk, GridOf, ChunkCount, keys and the chunk of an element. No statement is proved here. -/
import Derived.Test.YtmghbgnalkkppaaGrS
namespace Go.Proofs.Ytmghbgnalkkppaa
open Go.RowKit
set_option linter.unusedVariables false
theorem l20Ok_yes {B : Nat} {w : World} {v u : Value} {ds cs : List Int} (h : Ri B w v ds) (h2 : Ri B w u cs) (hB : B ≤ w.heap.size) (hk : ckOk ds cs = true) : Calls Try.prog 34 #[v, u] w (GivesB (.bool true) w) := hk ▸ l20Ok_any h h2 hB
theorem l20Ok_no {B : Nat} {w : World} {v u : Value} {ds cs : List Int} (h : Ri B w v ds) (h2 : Ri B w u cs) (hB : B ≤ w.heap.size) (hk : ckOk ds cs = false) : Calls Try.prog 34 #[v, u] w (GivesB (.bool false) w) := hk ▸ l20Ok_any h h2 hB
def gridE (ds cs : List Int) : List Int := if ckOk ds cs = true then grds ds cs else []
def ccE (ds cs : List Int) : Int := if ckOk ds cs = true then prodL (grds ds cs) else -1
set_option maxHeartbeats 1000000 in
set_option maxRecDepth 100000 in
theorem specValidChunk_any {B : Nat} {w : World} {v u : Value} {ds cs : List Int} (h : Ri B w v ds) (h2 : Ri B w u cs) (hB : B ≤ w.heap.size) :
    Calls Try.prog 11 #[v, u] w (GivesB (.bool (ckOk ds cs)) w) := by
  have H := Lib.hid h; have H2 := Lib.hid h2
  obtain ⟨A1, c1, rfl, -⟩ := h
  obtain ⟨A2, c2, rfl, -⟩ := h2
  have HC := Lib.hid (l20Ok_any H.out H2.out hB)
  generalize ckOk ds cs = ok at *
  go_enter Try.func11, Try.ntmps11
  go_wp2_with fail
  refine HC.out.mono ?_
  rintro e w1 ⟨rfl, hb⟩
  have Hb := Lib.hid hb; clear hb
  go_wp2_with fail
  go_ret
  exact ⟨rfl, Hb.out⟩
/-- What follows from a good division. -/
theorem ck_facts {ds cs : List Int} (h : ckOk ds cs = true) : ds.length ≤ 3 ∧ allTo (inD ds) ds.length = true ∧ cs.length = ds.length ∧ allTo (inC cs) cs.length = true ∧ allTo (inD (grds ds cs)) (grds ds cs).length = true := by
  obtain ⟨h1, h2, h3, h4, h5, h6⟩ := ckOk_iff h
  have hd := dimsOk_iff h1
  exact ⟨hd.1, hd.2.1, h2, h3, grds_inD ds cs hd.2.1 h2 h3⟩
set_option maxHeartbeats 1000000 in
set_option maxRecDepth 100000 in
theorem specGridOf_any {B : Nat} {w : World} {v u : Value} {ds cs : List Int} (h : Ri B w v ds) (h2 : Ri B w u cs) (hB : B ≤ w.heap.size) :
    Calls Try.prog 15 #[v, u] w (MadeO (gridE ds cs) w) := by
  have H := Lib.hid h; have H2 := Lib.hid h2
  obtain ⟨A1, c1, rfl, -⟩ := h
  obtain ⟨A2, c2, rfl, -⟩ := h2
  by_cases hk : ckOk ds cs = true
  · have Hk := Lib.hid hk
    have Hf : Hid (gridE ds cs = grds ds cs) := Lib.hid (by rw [gridE, if_pos hk])
    clear hk
    go_enter Try.func15, Try.ntmps15
    go_wp2_with fail
    refine (l20Ok_yes H.out H2.out hB Hk.out).mono ?_
    rintro e w1 ⟨rfl, hb⟩
    have Hb := Lib.hid hb; clear hb
    have hz := Hb.out.size
    go_wp2_with fail
    obtain ⟨k1, k2, k3, k4, k5⟩ := ck_facts Hk.out
    refine (l20Grid_any (H.out.up (Nat.le_refl _) (Hb.out.mono hB)) (H2.out.up (Nat.le_refl _) (Hb.out.mono hB)) (Nat.le_trans hB hz) k1 k2 k3 k4).mono ?_
    clear k1 k2 k3 k4 k5
    rintro e w2 ⟨g, rfl, hog, hbg⟩
    have Hog := Lib.hid (hog.lo hz); have Hbg := Lib.hid (Hb.out.trans (hbg.mono hz))
    clear hog hbg
    go_wp2_with fail
    go_ret
    exact ⟨_, rfl, by rw [Hf.out]; exact Hog.out, Hbg.out⟩
  · have Hk : Hid (ckOk ds cs = false) := Lib.hid (by simpa using hk)
    have Hf : Hid (gridE ds cs = []) := Lib.hid (by rw [gridE, if_neg hk])
    clear hk
    go_enter Try.func15, Try.ntmps15
    go_wp2_with fail
    refine (l20Ok_no H.out H2.out hB Hk.out).mono ?_
    rintro e w1 ⟨rfl, hb⟩
    have Hb := Lib.hid hb; clear hb
    go_wp2_with fail
    go_ret
    exact ⟨_, rfl, by rw [Hf.out]; exact oi_none _ _, Hb.out⟩
set_option maxHeartbeats 1000000 in
set_option maxRecDepth 100000 in
theorem specChunkCount_any {B : Nat} {w : World} {v u : Value} {ds cs : List Int} (h : Ri B w v ds) (h2 : Ri B w u cs) (hB : B ≤ w.heap.size) :
    Calls Try.prog 19 #[v, u] w (GivesB (.int .i64 (ccE ds cs)) w) := by
  have H := Lib.hid h; have H2 := Lib.hid h2
  obtain ⟨A1, c1, rfl, -⟩ := h
  obtain ⟨A2, c2, rfl, -⟩ := h2
  by_cases hk : ckOk ds cs = true
  · have Hk := Lib.hid hk
    have Hf : Hid (ccE ds cs = prodL (grds ds cs)) := Lib.hid (by rw [ccE, if_pos hk])
    clear hk
    go_enter Try.func19, Try.ntmps19
    go_wp2_with fail
    refine (l20Ok_yes H.out H2.out hB Hk.out).mono ?_
    rintro e w1 ⟨rfl, hb⟩
    have Hb := Lib.hid hb; clear hb
    have hz := Hb.out.size
    go_wp2_with fail
    obtain ⟨k1, k2, k3, k4, k5⟩ := ck_facts Hk.out
    have K5 := Lib.hid k5
    have K1 : Hid ((grds ds cs).length ≤ 3) := Lib.hid (by rw [grds_length]; exact k1)
    refine (l20Grid_any (H.out.up (Nat.le_refl _) (Hb.out.mono hB)) (H2.out.up (Nat.le_refl _) (Hb.out.mono hB)) (Nat.le_trans hB hz) k1 k2 k3 k4).mono ?_
    clear k1 k2 k3 k4 k5
    rintro e w2 ⟨g, rfl, hog, hbg⟩
    have Hog := Lib.hid (hog.ri (inD_inI K5.out)); have Hbg := Lib.hid (Hb.out.trans (hbg.mono hz))
    clear hog hbg
    go_wp2_with (go_at_call 37; (with_reducible refine (l05Count_any Hog.out ⟨K1.out, K5.out⟩).mono ?_); rintro e w' ⟨rfl, rfl⟩)
    go_ret
    exact ⟨by rw [Hf.out]; rfl, Hbg.out⟩
  · have Hk : Hid (ckOk ds cs = false) := Lib.hid (by simpa using hk)
    have Hf : Hid (ccE ds cs = -1) := Lib.hid (by rw [ccE, if_neg hk])
    clear hk
    go_enter Try.func19, Try.ntmps19
    go_wp2_with fail
    refine (l20Ok_no H.out H2.out hB Hk.out).mono ?_
    rintro e w1 ⟨rfl, hb⟩
    have Hb := Lib.hid hb; clear hb
    go_wp2_with fail
    go_ret
    exact ⟨by rw [Hf.out]; rfl, Hb.out⟩
/-- The key of a place in the grid. -/
def pkK (xs : List Int) : Nat → Int
  | 0 => 0
  | k + 1 => 16 * pkK xs k + xs.getD k 0
def pkL (xs : List Int) : Int := pkK xs xs.length
theorem pkK_bd (xs : List Int) (hd : allTo (inD xs) xs.length = true) : ∀ k, k ≤ xs.length → 0 ≤ pkK xs k ∧ pkK xs k ≤ 60 ^ k
  | 0, _ => by rw [pkK]; decide
  | k + 1, hk => by
    have := pkK_bd xs hd k (by omega)
    have a := allTo_at hd (show k < xs.length by omega)
    rw [inD_at _ _ (by omega), inB_iff] at a
    rw [pkK, getD_at _ _ (by omega), Int.pow_succ]
    have h1 : (1 : Int) ≤ 60 ^ k := (Int.pow_pos (by decide) : (0 : Int) < 60 ^ k)
    omega
theorem pkK_small (xs : List Int) (hl : xs.length ≤ 3) (hd : allTo (inD xs) xs.length = true) (k : Nat) (hk : k ≤ xs.length) : 0 ≤ pkK xs k ∧ pkK xs k ≤ 216000 := by
  have := pkK_bd xs hd k hk
  have h2 : (60 : Int) ^ k ≤ 216000 := by
    have : k = 0 ∨ k = 1 ∨ k = 2 ∨ k = 3 := by omega
    rcases this with rfl | rfl | rfl | rfl <;> decide
  omega
set_option maxHeartbeats 1000000 in
set_option maxRecDepth 100000 in
theorem l20Key_any {B : Nat} {w : World} {v : Value} {xs : List Int} (h : Ri B w v xs) (hl3 : xs.length ≤ 3) (hd : allTo (inD xs) xs.length = true) :
    Calls Try.prog 61 #[v] w (Quiet (.int .i64 (pkL xs)) w) := by
  obtain ⟨A, cap, rfl, hl, hc, hx⟩ := h
  unfold maxLen at hc
  have Hx := Lib.hid hx; have Hd := Lib.hid hd; clear hx hd
  go_enter Try.func61, Try.ntmps61
  go_wp2
  go_loop [3, 4] (fun n i => ∃ k : Nat, k ≤ xs.length ∧ i = .int .i64 (k : Int) ∧ n = .int .i64 (pkK xs k)) (fun _ i => xs.length - (intOf i).toNat)
  case atStart => exact ⟨0, Nat.zero_le _, rfl, rfl⟩
  case round =>
    obtain ⟨k, hk, rfl, rfl⟩ := hrel
    by_cases hlt : k < xs.length
    · obtain ⟨b, o, rfl, hb, hcell, hI⟩ := Hx.out k hlt
      have hpb := pkK_small xs hl3 Hd.out k hk
      have hpb2 := pkK_small xs hl3 Hd.out (k + 1) hlt
      have Hps : Hid (pkK xs (k + 1) = 16 * pkK xs k + xs[k]) := Lib.hid (by rw [pkK, getD_at _ _ hlt])
      rw [Hps.out] at hpb2
      generalize hp : pkK xs k = p at *
      generalize hxk : xs[k] = x at *
      have Hp := Lib.hid hp; have Hxk := Lib.hid hxk
      clear hp hxk
      have w1 : IntKind.i64.wrap (16 * p) = 16 * p := IntWalk.i64_in _ (by omega)
      have w2 : IntKind.i64.wrap (16 * p + x) = 16 * p + x := IntWalk.i64_in _ (by omega)
      go_wp2
      go_round
      case rel => exact ⟨k + 1, by omega, by go_num, by rw [Hps.out]⟩
      case measure => simp [intOf]; omega
    · obtain rfl : k = xs.length := by omega
      go_wp2
      go_ret
      exact ⟨rfl, rfl⟩
end Go.Proofs.Ytmghbgnalkkppaa
