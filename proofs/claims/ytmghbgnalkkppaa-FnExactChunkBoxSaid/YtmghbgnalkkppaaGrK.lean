/- Grids of chunks: the model's list of keys. No statement is proved here. -/
import Derived.Test.YtmghbgnalkkppaaGrA
import Derived.Test.YtmghbgnalkkppaaCrd
namespace Go.Proofs.Ytmghbgnalkkppaa
open Go.RowKit
set_option linter.unusedVariables false
theorem foldl_zeroG (l : List Int) (a : Int) (h : a = 0 ∨ 0 ∈ l) : l.foldl (· * ·) a = 0 := by
  induction l generalizing a with
  | nil => rcases h with h | h; · simpa using h
           · simp at h
  | cons x l ih =>
    rw [List.foldl_cons]
    apply ih
    rcases h with rfl | h
    · exact .inl (by simp)
    · rcases List.mem_cons.1 h with rfl | h
      · exact .inl (by simp)
      · exact .inr h
theorem pos_of_count {gs : List Int} (hd : allTo (inD gs) gs.length = true) (h : 0 < prodL gs) : ∀ d ∈ gs, 0 < d ∧ d ≤ 40 := by
  intro d hdm
  obtain ⟨k, hk, rfl⟩ := List.mem_iff_getElem.1 hdm
  have hb := allTo_at hd hk
  rw [inD_at gs k hk, inB_iff] at hb
  refine ⟨?_, hb.2⟩
  by_cases hz : gs[k] = 0
  · have : prodL gs = 0 := by
      unfold prodL prodK
      rw [List.take_length]
      exact foldl_zeroG gs 1 (.inr (hz ▸ hdm))
    omega
  · omega
/-- The key of the chunk with number k. -/
def kyF (gs : List Int) (k : Nat) : Int := pkL (crds gs k)
def kys (gs : List Int) : List Int := (List.range (prodL gs).toNat).map (kyF gs)
theorem range_push' (f : Nat → Int) (k : Nat) : (List.range k).map f ++ [f k] = (List.range (k + 1)).map f := by rw [List.range_succ, List.map_append]; rfl
theorem crds_inD {gs : List Int} (hp : ∀ d ∈ gs, 0 < d ∧ d ≤ 40) (i : Int) (h0 : 0 ≤ i) : allTo (inD (crds gs i)) (crds gs i).length = true := by
  unfold allTo
  rw [List.all_eq_true]
  intro j hj
  rw [List.mem_range] at hj
  have hj2 : j < gs.length := by rw [crds_length] at hj; exact hj
  have := crd_bd gs i h0 (fun d hd => (hp d hd).1) j hj2
  have h40 := (hp gs[j] (List.getElem_mem hj2)).2
  rw [inD_at _ _ hj, crds_at]
  exact inB_iff.2 (by omega)
theorem grd_facts {ds cs : List Int} (h : ckOk ds cs = true) : (grds ds cs).length ≤ 3 ∧ allTo (inD (grds ds cs)) (grds ds cs).length = true ∧ 0 ≤ prodL (grds ds cs) ∧ prodL (grds ds cs) ≤ 256 := by
  obtain ⟨k1, k2, k3, k4, k5⟩ := ck_facts h
  obtain ⟨h1, h2, h3, h4, h5, h6⟩ := ckOk_iff h
  have hl : (grds ds cs).length ≤ 3 := by rw [grds_length]; exact k1
  exact ⟨hl, k5, (prodK_small _ hl _ (Nat.le_refl _) k5).1, h6⟩
set_option maxHeartbeats 1000000 in
set_option maxRecDepth 100000 in
theorem l20Keys_any {B : Nat} {w : World} {v u : Value} {ds cs : List Int} (h : Ri B w v ds) (h2 : Ri B w u cs) (hB : B ≤ w.heap.size) (hk : ckOk ds cs = true) :
    Calls Try.prog 39 #[v, u] w (MadeO (kys (grds ds cs)) w) := by
  have H := Lib.hid h; have H2 := Lib.hid h2
  obtain ⟨A1, c1, rfl, -⟩ := h
  obtain ⟨A2, c2, rfl, -⟩ := h2
  have HK := Lib.hid (ck_facts hk)
  have HG := Lib.hid (grd_facts hk)
  clear hk
  have HC := Lib.hid (l20Grid_any H.out H2.out hB HK.out.1 HK.out.2.1 HK.out.2.2.1 HK.out.2.2.2.1)
  have hp0 := HG.out.2.2.1
  have hp1 := HG.out.2.2.2
  generalize grds ds cs = gs at *
  obtain ⟨N, hN⟩ : ∃ N : Nat, prodL gs = (N : Int) := ⟨(prodL gs).toNat, by omega⟩
  have HN := Lib.hid hN
  have hN1 : N ≤ 256 := by omega
  have HE : Hid (kys gs = (List.range N).map (kyF gs)) := Lib.hid (by rw [kys, hN]; rfl)
  clear hp0 hp1 hN
  go_enter Try.func39, Try.ntmps39
  go_wp2_with fail
  refine HC.out.mono ?_
  rintro e w1 ⟨g, rfl, hog, hbg⟩
  have HR := Lib.hid (hog.ri (inD_inI HG.out.2.1))
  have Hbg := Lib.hid hbg
  have hz1 := hbg.size
  clear hog hbg
  go_wp2_with fail
  go_loopw [6, 7] (fun v k wr => ∃ j : Nat, j ≤ N ∧ k = .int .i64 (j : Int) ∧ OI wr w1.heap.size v ((List.range j).map (kyF gs)) ∧ Below w1.heap.size w1 wr) (fun _ k _ => N - (intOf k).toNat)
  case atStart => exact ⟨0, Nat.zero_le _, rfl, World.ownsRow_lit w1 #[] 0 (Nat.le_refl _) (by decide) rfl, (Below.refl _ _).alloc (Nat.le_refl _) _⟩
  case round =>
    obtain ⟨j, hj, rfl, hown, hbel⟩ := hrel
    have Hown := Lib.hid hown; have Hbel := Lib.hid hbel
    have hsz := hbel.size
    obtain ⟨Aw, cw, hu1⟩ := hown.sl
    obtain ⟨ps, hps⟩ : ∃ ps, (List.range j).map (kyF gs) = ps := ⟨_, rfl⟩
    have hpl : ps.length = j := by rw [← hps]; simp
    rw [hps] at Hown hu1
    have Hps := Lib.hid hps; have Hpl := Lib.hid hpl
    have HR2 : Hid (Ri wr.heap.size wr g gs) := Lib.hid (HR.out.at (Nat.le_refl _) Hbel.out)
    clear hown hbel hps hpl
    subst hu1
    have HCt : Hid (∀ W, Ri W.heap.size W g gs → Calls Try.prog 37 #[g] W (Quiet (.int .i64 (N : Int)) W)) := Lib.hid (fun W hW => by
      have := l05Count_any hW ⟨HG.out.1, HG.out.2.1⟩
      rw [HN.out] at this
      exact this)
    by_cases hlt : j < N
    · have hpos : ∀ d ∈ gs, 0 < d ∧ d ≤ 40 := pos_of_count HG.out.2.1 (by rw [HN.out]; omega)
      have Hpos := Lib.hid hpos
      clear hpos
      go_wp2_with (go_at_call 37; (with_reducible refine (HCt.out _ HR2.out).mono ?_); rintro e w' ⟨rfl, rfl⟩)
      refine (l05Coords_any HR2.out (Nat.le_refl _) HG.out.1 (by omega) (by omega) Hpos.out).mono ?_
      rintro e w2 ⟨rfl, ho2, hb2⟩
      have HI : Hid (∀ x ∈ crds gs (j : Int), InI x) := Lib.hid (inD_inI (crds_inD Hpos.out _ (by omega)))
      have HD2 : Hid (allTo (inD (crds gs (j : Int))) (crds gs (j : Int)).length = true) := Lib.hid (crds_inD Hpos.out _ (by omega))
      have HL3 : Hid ((crds gs (j : Int)).length ≤ 3) := Lib.hid (by rw [crds_length]; exact HG.out.1)
      have HRc := Lib.hid (ho2.ri HI.out)
      have HO2 : Hid (OI w2 w1.heap.size (.slice Aw ps.length cw) ps) := Lib.hid (Hown.out.bel hb2)
      have hb2' : Below w1.heap.size w1 w2 := Hbel.out.trans (hb2.mono hsz)
      have hz2 : w1.heap.size ≤ w2.heap.size := hb2'.size
      have Hb2 := Lib.hid hb2'
      have HKy : Hid (pkL (crds gs (j : Int)) = kyF gs j) := Lib.hid rfl
      have HCk := Lib.hid (l20Key_any HRc.out HL3.out HD2.out)
      rw [HKy.out] at HCk
      clear ho2 hb2 hb2'
      go_wp2_with (first | (go_at_call 61; (with_reducible refine (HCk.out).mono ?_); rintro e w' ⟨rfl, rfl⟩) | (at_builtin; refine wpList_push (W := w2) (v := .slice Aw ps.length cw) (lo := w1.heap.size) (xs := ps) (x := kyF gs j) rfl (.tmp 18) (.tmp 23) rfl rfl rfl rfl HO2.out hz2 (by have := Hpl.out; omega) ?_; intro h9 cap w5 o5 g5 _ _; have HB5 := Lib.hid (pushI_bel Hb2.out HO2.out (Nat.le_refl _) hz2 g5); have O5 := Lib.hid o5; clear o5 g5))
      go_roundw
      case rel => exact ⟨j + 1, by omega, by go_num, by rw [← range_push', Hps.out]; exact O5.out, HB5.out⟩
      case measure => simp [intOf]; omega
    · obtain rfl : j = N := by omega
      go_wp2_with (go_at_call 37; (with_reducible refine (HCt.out _ HR2.out).mono ?_); rintro e w' ⟨rfl, rfl⟩)
      go_ret
      exact ⟨_, rfl, by rw [HE.out, Hps.out]; exact Hown.out.lo hz1, Hbg.out.trans (Hbel.out.mono hz1)⟩
def keysE (ds cs : List Int) : List Int := if ckOk ds cs = true then kys (grds ds cs) else []
set_option maxHeartbeats 1000000 in
set_option maxRecDepth 100000 in
theorem specChunkKeys_any {B : Nat} {w : World} {v u : Value} {ds cs : List Int} (h : Ri B w v ds) (h2 : Ri B w u cs) (hB : B ≤ w.heap.size) :
    Calls Try.prog 21 #[v, u] w (MadeO (keysE ds cs) w) := by
  have H := Lib.hid h; have H2 := Lib.hid h2
  obtain ⟨A1, c1, rfl, -⟩ := h
  obtain ⟨A2, c2, rfl, -⟩ := h2
  by_cases hk : ckOk ds cs = true
  · have Hk := Lib.hid hk
    have Hf : Hid (keysE ds cs = kys (grds ds cs)) := Lib.hid (by rw [keysE, if_pos hk])
    clear hk
    go_enter Try.func21, Try.ntmps21
    go_wp2_with fail
    refine (l20Ok_yes H.out H2.out hB Hk.out).mono ?_
    rintro e w1 ⟨rfl, hb⟩
    have Hb := Lib.hid hb; clear hb
    have hz := Hb.out.size
    go_wp2_with fail
    refine (l20Keys_any (H.out.up (Nat.le_refl _) (Hb.out.mono hB)) (H2.out.up (Nat.le_refl _) (Hb.out.mono hB)) (Nat.le_trans hB hz) Hk.out).mono ?_
    rintro e w2 ⟨g, rfl, hog, hbg⟩
    have Hog := Lib.hid (hog.lo hz); have Hbg := Lib.hid (Hb.out.trans (hbg.mono hz))
    clear hog hbg
    go_wp2_with fail
    go_ret
    exact ⟨_, rfl, by rw [Hf.out]; exact Hog.out, Hbg.out⟩
  · have Hk : Hid (ckOk ds cs = false) := Lib.hid (by simpa using hk)
    have Hf : Hid (keysE ds cs = []) := Lib.hid (by rw [keysE, if_neg hk])
    clear hk
    go_enter Try.func21, Try.ntmps21
    go_wp2_with fail
    refine (l20Ok_no H.out H2.out hB Hk.out).mono ?_
    rintro e w1 ⟨rfl, hb⟩
    have Hb := Lib.hid hb; clear hb
    go_wp2_with fail
    go_ret
    exact ⟨_, rfl, by rw [Hf.out]; exact oi_none _ _, Hb.out⟩
end Go.Proofs.Ytmghbgnalkkppaa
