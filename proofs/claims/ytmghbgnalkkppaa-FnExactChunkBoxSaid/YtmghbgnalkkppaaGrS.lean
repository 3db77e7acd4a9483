/- Grids of chunks: the model's functions. No statement is proved here. -/
import Derived.Test.YtmghbgnalkkppaaGrP
import Derived.Deep.RegionLaw
namespace Go.Proofs.Ytmghbgnalkkppaa
open Go.RowKit
set_option linter.unusedVariables false
set_option maxHeartbeats 1000000 in
set_option maxRecDepth 100000 in
theorem l20Grid_any {B : Nat} {w : World} {v u : Value} {ds cs : List Int} (h : Ri B w v ds) (h2 : Ri B w u cs) (hB : B ≤ w.heap.size) (hs : ds.length ≤ 3) (hd : allTo (inD ds) ds.length = true) (hl : cs.length = ds.length) (hcs : allTo (inC cs) cs.length = true) :
    Calls Try.prog 36 #[v, u] w (MadeO (grds ds cs) w) := by
  obtain ⟨A1, c1, rfl, hl1, hm1, hx1⟩ := h
  obtain ⟨A2, c2, rfl, hl2, hm2, hx2⟩ := h2
  have Hx1 := Lib.hid hx1; have Hx2 := Lib.hid hx2; clear hx1 hx2
  unfold maxLen at hm1 hm2
  have Hd := Lib.hid hd; have Hcs := Lib.hid hcs; have Hl := Lib.hid hl
  clear hd hcs hl
  go_enter Try.func36, Try.ntmps36
  go_wp2
  go_loopw [5, 6] (fun v i wr => ∃ k : Nat, k ≤ ds.length ∧ i = .int .i64 (k : Int) ∧ OI wr w.heap.size v ((List.range k).map (grd ds cs)) ∧ Below w.heap.size w wr) (fun _ i _ => ds.length - (intOf i).toNat)
  case atStart => exact ⟨0, Nat.zero_le _, rfl, World.ownsRow_lit w #[] 0 (Nat.le_refl _) (by decide) rfl, (Below.refl _ _).alloc (Nat.le_refl _) _⟩
  case round =>
    obtain ⟨k, hk, rfl, hown, hbel⟩ := hrel
    have Hown := Lib.hid hown; have Hbel := Lib.hid hbel
    have hsz := hbel.size
    obtain ⟨Aw, cw, hu4⟩ := hown.sl
    obtain ⟨xs, hxs⟩ : ∃ xs, (List.range k).map (grd ds cs) = xs := ⟨_, rfl⟩
    have hxl : xs.length = k := by rw [← hxs]; simp
    rw [hxs] at Hown hu4
    have Hxs := Lib.hid hxs
    have Hxl := Lib.hid hxl
    clear hown hbel hxs hxl
    subst hu4
    have HO : Hid (∀ W, Below wr.heap.size wr W → OI W w.heap.size (.slice Aw xs.length cw) xs) := Lib.hid (fun W hW => Hown.out.bel hW)
    by_cases hlt : k < ds.length
    · have hlt2 : k < cs.length := by have := Hl.out; omega
      obtain ⟨b1, o1, rfl, hb1, hq1, hI1⟩ := Hx1.out k hlt
      obtain ⟨b2, o2, rfl, hb2, hq2, hI2⟩ := Hx2.out k hlt2
      have g1 : wr.cell? ⟨b1, o1 + k, none⟩ = some (.int .i64 ds[k]) := by rw [Hbel.out.cell (p := ⟨b1, o1 + k, none⟩) (show b1 < _ from by omega)]; exact hq1
      have g2 : wr.cell? ⟨b2, o2 + k, none⟩ = some (.int .i64 cs[k]) := by rw [Hbel.out.cell (p := ⟨b2, o2 + k, none⟩) (show b2 < _ from by omega)]; exact hq2
      have Hg : Hid (grd ds cs k = (ds[k] + cs[k] - 1).tdiv cs[k]) := Lib.hid (grd_at ds cs k hlt hlt2)
      have a1 := allTo_at Hd.out hlt
      have a2 := allTo_at Hcs.out hlt2
      rw [inD_at _ _ hlt, inB_iff] at a1
      rw [inC_at _ _ hlt2, inB_iff] at a2
      have hgn := grd_num a1 a2
      clear hq1 hq2 hI1 hI2
      generalize ds[k] = d at *
      generalize cs[k] = c at *
      have hne : ¬ (c = 0) := by omega
      obtain ⟨q, hq⟩ : ∃ q, (d + c - 1).tdiv c = q := ⟨_, rfl⟩
      rw [hq] at hgn Hg
      have w1 : IntKind.i64.wrap (d + c) = d + c := IntWalk.i64_in _ (by omega)
      have w2 : IntKind.i64.wrap (d + c - 1) = d + c - 1 := IntWalk.i64_in _ (by omega)
      have w3 : IntKind.i64.wrap q = q := IntWalk.i64_in _ (by omega)
      go_wp2_with fail
      go_region_law (refine step_pushI (W := wr.drew) (lo := w.heap.size) (v := .slice Aw xs.length cw) (xs := xs) (x := q) (by rfl) (.tmp 14) (.tmp 30) (by rfl) (by first | rfl | go_simp) (by first | rfl | go_simp) (by exact HO.out _ (Below.refl _ _).drew) (by exact hsz) (by have := Hxl.out; omega) ?_; intro g cap w3 hown' hgr hg3)
      all_goals
        have Hb3 : Hid (Below w.heap.size w w3) := Lib.hid (pushI_bel (W := wr.drew) (Below.drew Hbel.out) (by exact HO.out _ (Below.refl _ _).drew) (Nat.le_refl _) (by exact hsz) hgr)
        have Hon := Lib.hid hown'
        clear hown' hgr
        go_wp2_with fail
        go_roundw
        case rel => exact ⟨k + 1, by omega, by go_num, by rw [← grds_push, Hxs.out, Hg.out]; exact Hon.out, Hb3.out⟩
        case measure => simp [intOf]; omega
    · obtain rfl : k = ds.length := by omega
      go_wp2
      go_ret
      exact ⟨_, rfl, by show OI _ _ (.slice Aw xs.length cw) _; rw [grds, Hxs.out]; exact Hown.out, Hbel.out⟩
set_option maxHeartbeats 1000000 in
set_option maxRecDepth 100000 in
theorem l20Ok_any {B : Nat} {w : World} {v u : Value} {ds cs : List Int} (h : Ri B w v ds) (h2 : Ri B w u cs) (hB : B ≤ w.heap.size) :
    Calls Try.prog 34 #[v, u] w (GivesB (.bool (ckOk ds cs)) w) := by
  have HV0 := Lib.hid h; have HU0 := Lib.hid h2
  obtain ⟨A1, c1, rfl, hl1, hm1, hx1⟩ := h
  obtain ⟨A2, c2, rfl, hl2, hm2, hx2⟩ := h2
  unfold maxLen at hm1 hm2
  by_cases hd : dimsOk ds = true
  · have Hd := Lib.hid hd
    have Hdi := Lib.hid (dimsOk_iff hd)
    by_cases hl : cs.length = ds.length
    · have Hl := Lib.hid hl
      have Hx2 := Lib.hid hx2
      clear hx1 hx2 hd
      obtain ⟨n, hn⟩ : ∃ n, ds.length = n := ⟨_, rfl⟩
      rw [hl] at HU0 hl2
      rw [hn] at HV0 HU0 hl1 hl2
      rw [hl, hn]
      have Hnd := Lib.hid hn
      have Hnc : Hid (cs.length = n) := Lib.hid (hl.trans hn)
      have hn3 : n ≤ 3 := by have := Hdi.out.1; omega
      clear hl hn
      go_enter Try.func34, Try.ntmps34
      go_wp2_with (go_at_call 58; (with_reducible refine (dims_yes HV0.out Hd.out).mono ?_); rintro e w' ⟨rfl, rfl⟩)
      go_loop [5, 6] (fun p i => ∃ k : Nat, k ≤ n ∧ i = .int .i64 (k : Int) ∧ p = .int .i64 (prodK cs k) ∧ allTo (inC cs) k = true) (fun _ i => n - (intOf i).toNat)
      case atStart => exact ⟨0, Nat.zero_le _, rfl, by rw [prodK_zero], allTo_zero _⟩
      case round =>
        obtain ⟨k, hk, rfl, rfl, hall⟩ := hrel
        have Hall := Lib.hid hall; clear hall
        by_cases hlt : k < n
        · have hlt2 : k < cs.length := by have := Hnc.out; omega
          obtain ⟨b2, o2, rfl, hb2, hq2, hI2⟩ := Hx2.out k hlt2
          clear hI2
          by_cases hin : inB cs[k] 1 40 = true
          · have Hin := Lib.hid hin
            have Hall2 : Hid (allTo (inC cs) (k + 1) = true) := Lib.hid (by rw [allTo_succ, Hall.out, inC_at _ _ hlt2, hin]; rfl)
            have hpb := prodK_small cs (by have := Hnc.out; omega) (k + 1) (by omega) (inC_inDk cs (k + 1) (by omega) Hall2.out)
            have Hps := Lib.hid (prodK_succ cs k hlt2)
            rw [Hps.out] at hpb
            have hI := inB_iff.1 hin
            clear hin
            generalize prodK cs k = p at *
            generalize hxk : cs[k] = x at *
            have Hxk := Lib.hid hxk
            clear hxk
            have hwr := i64_of (n := p * x) (by omega) (by omega)
            go_wp2_with (go_at_call 59; (with_reducible refine (l00In_yes _ _ _ _ Hin.out).mono ?_); rintro e w' ⟨rfl, rfl⟩)
            go_round
            case rel => exact ⟨k + 1, by omega, by go_num, by rw [Hps.out], Hall2.out⟩
            case measure => simp [intOf]; omega
          · have Hin : Hid (inB cs[k] 1 40 = false) := Lib.hid (by simpa using hin)
            have Hf := Lib.hid (ckOk_bad (ds := ds) hlt2 (by rw [inC_at _ _ hlt2]; exact Hin.out))
            clear hin
            generalize cs[k] = x at *
            go_wp2_with (go_at_call 59; (with_reducible refine (l00In_no _ _ _ _ Hin.out).mono ?_); rintro e w' ⟨rfl, rfl⟩)
            go_ret
            exact ⟨by rw [Hf.out]; rfl, Below.refl _ _⟩
        · obtain rfl : k = n := by omega
          have hall3 : allTo (inC cs) cs.length = true := by rw [Hnc.out]; exact Hall.out
          have Hall3 := Lib.hid hall3
          have HGD := Lib.hid (grds_inD ds cs Hdi.out.2.1 Hl.out hall3)
          clear hall3
          have HPn : Hid (prodK cs k = prodL cs) := Lib.hid (by rw [prodL, Hnc.out])
          rw [HPn.out]
          go_wp2_with fail
          refine (l20Grid_any HV0.out HU0.out hB (by have := Hnd.out; omega) Hdi.out.2.1 Hl.out Hall3.out).mono ?_
          rintro e w1 ⟨g, rfl, hog, hbg⟩
          have HG0 := Lib.hid (hog.ri (inD_inI HGD.out))
          obtain ⟨Ag, cg, rfl⟩ := hog.sl
          have Hbg := Lib.hid hbg
          have hGL : (grds ds cs).length = k := by rw [grds_length, Hnd.out]
          have HGL := Lib.hid hGL
          rw [hGL] at HG0 ⊢
          clear hog hbg hGL
          have Hxg := HG0.out
          obtain ⟨A3, c3, he, hl3, hm3, hx3⟩ := Hxg
          have Hx3 := Lib.hid hx3
          clear hx3
          injection he with he1 he2 he3
          subst he1; subst he3
          clear he2
          unfold maxLen at hm3
          rw [HGL.out] at hl3
          go_wp2_with fail
          go_loop [8] (fun i => ∃ j : Nat, j ≤ k ∧ i = .int .i64 (j : Int) ∧ allTo (inG (grds ds cs)) j = true) (fun i => k - (intOf i).toNat)
          case atStart => exact ⟨0, Nat.zero_le _, rfl, allTo_zero _⟩
          case round =>
            obtain ⟨j, hj, rfl, hallg⟩ := hrel
            have Hallg := Lib.hid hallg; clear hallg
            by_cases hltg : j < k
            · have hltg2 : j < (grds ds cs).length := by rw [HGL.out]; exact hltg
              obtain ⟨b3, o3, rfl, hb3, hq3, hI3⟩ := Hx3.out j hltg2
              clear hI3
              by_cases hin : (grds ds cs)[j] ≤ 16
              · have Hallg2 : Hid (allTo (inG (grds ds cs)) (j + 1) = true) := Lib.hid (by rw [allTo_succ, Hallg.out, inG_at _ _ hltg2, decide_eq_true hin]; rfl)
                generalize hxk : (grds ds cs)[j] = x at *
                clear hxk
                go_wp2
                go_round
                case rel => exact ⟨j + 1, by omega, by go_num, Hallg2.out⟩
                case measure => simp [intOf]; omega
              · have Hf := Lib.hid (ckOk_grid (ds := ds) (cs := cs) (k := j) (by have := Hnd.out; omega) (by rw [inG_at _ _ hltg2, decide_eq_false hin]))
                generalize hxk : (grds ds cs)[j] = x at *
                clear hxk
                go_wp2
                go_ret
                exact ⟨by rw [Hf.out]; rfl, Hbg.out⟩
            · obtain rfl : j = k := by omega
              have Hf := Lib.hid (ckOk_end Hd.out Hl.out Hall3.out (by rw [Hnd.out]; exact Hallg.out))
              by_cases h64 : prodL cs ≤ 64
              · have Hf2 : Hid (ckOk ds cs = decide (prodL (grds ds cs) ≤ 256)) := Lib.hid (by rw [Hf.out, decide_eq_true h64]; rfl)
                clear Hf
                go_wp2_with (go_at_call 37; (with_reducible refine (l05Count_any HG0.out ⟨by rw [HGL.out]; exact hn3, HGD.out⟩).mono ?_); rintro e w' ⟨rfl, rfl⟩)
                go_ret
                exact ⟨by rw [Hf2.out]; rfl, Hbg.out⟩
              · have Hf2 : Hid (ckOk ds cs = false) := Lib.hid (by rw [Hf.out, decide_eq_false h64]; rfl)
                clear Hf
                go_wp2_with fail
                go_ret
                exact ⟨by rw [Hf2.out]; rfl, Hbg.out⟩
    · have Hf := Lib.hid (ckOk_len hl)
      have hn' : ((cs.length : Int) == (ds.length : Int)) = false := by simp; omega
      have hn2 : ((cs.length : Int) != (ds.length : Int)) = true := by simp; omega
      have hn3 : ¬ ((cs.length : Int) = (ds.length : Int)) := by omega
      clear hd hx1 hx2
      go_enter Try.func34, Try.ntmps34
      go_wp2_with (go_at_call 58; (with_reducible refine (dims_yes HV0.out Hd.out).mono ?_); rintro e w' ⟨rfl, rfl⟩)
      go_ret
      exact ⟨by rw [Hf.out]; rfl, Below.refl _ _⟩
  · have Hd : Hid (dimsOk ds = false) := Lib.hid (by simpa using hd)
    have Hf := Lib.hid (ckOk_dims (cs := cs) Hd.out)
    clear hd hx1 hx2
    go_enter Try.func34, Try.ntmps34
    go_wp2_with (go_at_call 58; (with_reducible refine (dims_no HV0.out Hd.out).mono ?_); rintro e w' ⟨rfl, rfl⟩)
    go_ret
    exact ⟨by rw [Hf.out]; rfl, Below.refl _ _⟩
end Go.Proofs.Ytmghbgnalkkppaa
