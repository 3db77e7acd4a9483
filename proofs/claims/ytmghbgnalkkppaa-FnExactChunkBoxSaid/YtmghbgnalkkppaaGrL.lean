/- Grids of chunks: the model's chunks that are lost. No statement is proved here. -/
import Derived.Test.YtmghbgnalkkppaaGrK
namespace Go.Proofs.Ytmghbgnalkkppaa
open Go.RowKit
set_option linter.unusedVariables false
theorem oi_lit2' (W : World) (lo : Nat) (h : lo ≤ W.heap.size) : OI (W.alloc (.cells #[] 2)) lo (.slice (some ⟨W.heap.size, 0, none⟩) 0 0) [] := World.ownsRow_lit W #[] 0 h (by decide) rfl
def neA (xs : List Int) (z : Int) (i : Nat) : Bool := decide (xs.getD i 0 ≠ z)
theorem neA_end {xs : List Int} {z : Int} (h : allTo (neA xs z) xs.length = true) : decide (z ∈ xs) = false := by
  rw [decide_eq_false_iff_not]
  intro hm
  obtain ⟨i, hi, e⟩ := List.getElem_of_mem hm
  have := allTo_at h hi
  unfold neA at this
  rw [getD_at _ _ hi] at this
  simp [e] at this
set_option maxHeartbeats 1000000 in
set_option maxRecDepth 100000 in
theorem l00Has_any {B : Nat} {w : World} {v : Value} {xs : List Int} (h : Ri B w v xs) (z : Int) :
    Calls Try.prog 52 #[v, .int .i64 z] w (Quiet (.bool (decide (z ∈ xs))) w) := by
  obtain ⟨A, cap, rfl, hl, hc, hx⟩ := h
  unfold maxLen at hc
  have Hx := Lib.hid hx; clear hx
  go_enter Try.func52, Try.ntmps52
  go_wp2
  go_loop [5] (fun i => ∃ k : Nat, k ≤ xs.length ∧ i = .int .i64 (k : Int) ∧ allTo (neA xs z) k = true) (fun i => xs.length - (intOf i).toNat)
  case atStart => exact ⟨0, Nat.zero_le _, rfl, allTo_zero _⟩
  case round =>
    obtain ⟨k, hk, rfl, hall⟩ := hrel
    have Hall := Lib.hid hall; clear hall
    by_cases hlt : k < xs.length
    · obtain ⟨b, o, rfl, hb, hcell, hI⟩ := Hx.out k hlt
      by_cases he : xs[k] = z
      · have Hf : Hid (decide (z ∈ xs) = true) := Lib.hid (decide_eq_true (he ▸ List.getElem_mem hlt))
        have heq : (xs[k] == z) = true := by simp [he]
        generalize xs[k] = x at *
        subst he
        go_wp2
        go_ret
        exact ⟨by rw [Hf.out]; rfl, rfl⟩
      · have Hall2 : Hid (allTo (neA xs z) (k + 1) = true) := Lib.hid (by rw [allTo_succ, Hall.out, neA, getD_at _ _ hlt, decide_eq_true he]; rfl)
        have heq : (xs[k] == z) = false := by simp [he]
        generalize xs[k] = x at *
        go_wp2
        go_round
        case rel => exact ⟨k + 1, by omega, by go_num, Hall2.out⟩
        case measure => simp [intOf]; omega
    · obtain rfl : k = xs.length := by omega
      have Hf := Lib.hid (neA_end Hall.out)
      go_wp2
      go_ret
      exact ⟨by rw [Hf.out]; rfl, rfl⟩
theorem kys_inI {ds cs : List Int} (h : ckOk ds cs = true) : ∀ x ∈ kys (grds ds cs), InI x := by
  obtain ⟨h1, h2, h3, h4⟩ := grd_facts h
  intro x hx
  obtain ⟨j, hj, rfl⟩ := List.mem_map.1 hx
  have hj := List.mem_range.1 hj
  have hp := pos_of_count h2 (by omega)
  have := pkK_small _ (by rw [crds_length]; exact h1) (crds_inD hp (j : Int) (by omega)) _ (Nat.le_refl _)
  unfold InI kyF pkL
  omega
theorem kys_len {ds cs : List Int} (h : ckOk ds cs = true) : (kys (grds ds cs)).length ≤ 256 := by
  obtain ⟨h1, h2, h3, h4⟩ := grd_facts h
  simp [kys]
  omega
def hasE (ds cs : List Int) (k : Int) : Bool := ckOk ds cs && decide (k ∈ kys (grds ds cs))
set_option maxHeartbeats 1000000 in
set_option maxRecDepth 100000 in
theorem l20Has_any {B : Nat} {w : World} {v u : Value} {ds cs : List Int} (k : Int) (h : Ri B w v ds) (h2 : Ri B w u cs) (hB : B ≤ w.heap.size) :
    Calls Try.prog 47 #[v, u, .int .i64 k] w (GivesB (.bool (hasE ds cs k)) w) := by
  have H := Lib.hid h; have H2 := Lib.hid h2
  obtain ⟨A1, c1, rfl, -⟩ := h
  obtain ⟨A2, c2, rfl, -⟩ := h2
  by_cases hk : ckOk ds cs = true
  · have Hk := Lib.hid hk
    have Hf : Hid (hasE ds cs k = decide (k ∈ kys (grds ds cs))) := Lib.hid (by rw [hasE, hk]; rfl)
    have HI := Lib.hid (kys_inI hk)
    clear hk
    go_enter Try.func47, Try.ntmps47
    go_wp2_with fail
    refine (l20Ok_yes H.out H2.out hB Hk.out).mono ?_
    rintro e w1 ⟨rfl, hb⟩
    have Hb := Lib.hid hb; clear hb
    have hz := Hb.out.size
    go_wp2_with fail
    refine (l20Keys_any (H.out.up (Nat.le_refl _) (Hb.out.mono hB)) (H2.out.up (Nat.le_refl _) (Hb.out.mono hB)) (Nat.le_trans hB hz) Hk.out).mono ?_
    rintro e w2 ⟨g, rfl, hog, hbg⟩
    have Hog := Lib.hid (hog.ri HI.out); have Hbg := Lib.hid (Hb.out.trans (hbg.mono hz))
    clear hog hbg
    have HC := Lib.hid (l00Has_any Hog.out k)
    rw [← Hf.out] at HC
    generalize hasE ds cs k = r at *
    go_wp2_with (go_at_call 52; (with_reducible refine (HC.out).mono ?_); rintro e w' ⟨rfl, rfl⟩)
    go_ret
    exact ⟨rfl, Hbg.out⟩
  · have Hk : Hid (ckOk ds cs = false) := Lib.hid (by simpa using hk)
    have Hf : Hid (hasE ds cs k = false) := Lib.hid (by rw [hasE, Hk.out]; rfl)
    clear hk
    go_enter Try.func47, Try.ntmps47
    go_wp2_with fail
    refine (l20Ok_no H.out H2.out hB Hk.out).mono ?_
    rintro e w1 ⟨rfl, hb⟩
    have Hb := Lib.hid hb; clear hb
    go_wp2_with fail
    go_ret
    exact ⟨by rw [Hf.out]; rfl, Hb.out⟩
def twoE (ds fs cs : List Int) : Bool := ckOk ds cs && ckOk fs cs
set_option maxHeartbeats 1000000 in
set_option maxRecDepth 100000 in
theorem l20Two_any {B : Nat} {w : World} {v z u : Value} {ds fs cs : List Int} (h : Ri B w v ds) (h3 : Ri B w z fs) (h2 : Ri B w u cs) (hB : B ≤ w.heap.size) :
    Calls Try.prog 51 #[v, z, u] w (GivesB (.bool (twoE ds fs cs)) w) := by
  have H := Lib.hid h; have H2 := Lib.hid h2; have H3 := Lib.hid h3
  obtain ⟨A1, c1, rfl, -⟩ := h
  obtain ⟨A2, c2, rfl, -⟩ := h2
  obtain ⟨A3, c3, rfl, -⟩ := h3
  by_cases hk : ckOk ds cs = true
  · have Hk := Lib.hid hk
    have Hf : Hid (twoE ds fs cs = ckOk fs cs) := Lib.hid (by rw [twoE, hk]; rfl)
    clear hk
    generalize twoE ds fs cs = r at *
    go_enter Try.func51, Try.ntmps51
    go_wp2_with fail
    refine (l20Ok_yes H.out H2.out hB Hk.out).mono ?_
    rintro e w1 ⟨rfl, hb⟩
    have Hb := Lib.hid hb; clear hb
    have hz := Hb.out.size
    go_wp2_with fail
    have HC := Lib.hid (l20Ok_any (H3.out.up (Nat.le_refl _) (Hb.out.mono hB)) (H2.out.up (Nat.le_refl _) (Hb.out.mono hB)) (Nat.le_trans hB hz))
    rw [← Hf.out] at HC
    refine (HC.out).mono ?_
    rintro e w2 ⟨rfl, hbg⟩
    have Hbg := Lib.hid (Hb.out.trans (hbg.mono hz))
    clear hbg
    go_wp2_with fail
    go_ret
    exact ⟨rfl, Hbg.out⟩
  · have Hk : Hid (ckOk ds cs = false) := Lib.hid (by simpa using hk)
    have Hf : Hid (twoE ds fs cs = false) := Lib.hid (by rw [twoE, Hk.out]; rfl)
    clear hk
    go_enter Try.func51, Try.ntmps51
    go_wp2_with fail
    refine (l20Ok_no H.out H2.out hB Hk.out).mono ?_
    rintro e w1 ⟨rfl, hb⟩
    have Hb := Lib.hid hb; clear hb
    go_wp2_with fail
    go_ret
    exact ⟨by rw [Hf.out]; rfl, Hb.out⟩
theorem l20Two_b {B : Nat} {w : World} {v z u : Value} {ds fs cs : List Int} (b : Bool) (h : Ri B w v ds) (h3 : Ri B w z fs) (h2 : Ri B w u cs) (hB : B ≤ w.heap.size) (hk : twoE ds fs cs = b) :
    Calls Try.prog 51 #[v, z, u] w (GivesB (.bool b) w) := hk ▸ l20Two_any h h3 h2 hB
theorem twoE_iff {ds fs cs : List Int} (h : twoE ds fs cs = true) : ckOk ds cs = true ∧ ckOk fs cs = true := by simpa [twoE] using h
/-- The keys of which a condition holds. -/
def notIn (ks : List Int) (x : Int) : Bool := !decide (x ∈ ks)
def lostE (ds fs cs : List Int) : List Int := if twoE ds fs cs = true then (kys (grds ds cs)).filter (notIn (kys (grds fs cs))) else []
theorem filter_yes {p : Int → Bool} {L : List Int} {j : Nat} (h : j < L.length) (hp : p L[j] = true) : (L.take (j + 1)).filter p = (L.take j).filter p ++ [L[j]] := by
  rw [List.take_succ_eq_append_getElem h, List.filter_append]
  simp [hp]
theorem filter_no {p : Int → Bool} {L : List Int} {j : Nat} (h : j < L.length) (hp : p L[j] = false) : (L.take (j + 1)).filter p = (L.take j).filter p := by
  rw [List.take_succ_eq_append_getElem h, List.filter_append]
  simp [hp]
theorem filter_len (p : Int → Bool) (L : List Int) (j : Nat) : ((L.take j).filter p).length ≤ L.length := Nat.le_trans (List.length_filter_le _ _) (by rw [List.length_take]; omega)
set_option maxHeartbeats 2000000 in
set_option maxRecDepth 100000 in
theorem specChunksLost_any {B : Nat} {w : World} {v z u : Value} {ds fs cs : List Int} (h : Ri B w v ds) (h3 : Ri B w z fs) (h2 : Ri B w u cs) (hB : B ≤ w.heap.size) :
    Calls Try.prog 30 #[v, z, u] w (MadeO (lostE ds fs cs) w) := by
  have H := Lib.hid h; have H2 := Lib.hid h2; have H3 := Lib.hid h3
  obtain ⟨A1, c1, rfl, -⟩ := h
  obtain ⟨A2, c2, rfl, -⟩ := h2
  obtain ⟨A3, c3, rfl, -⟩ := h3
  by_cases hk : twoE ds fs cs = true
  · have Hk := Lib.hid hk
    have Hf : Hid (lostE ds fs cs = (kys (grds ds cs)).filter (notIn (kys (grds fs cs)))) := Lib.hid (by rw [lostE, if_pos hk])
    obtain ⟨k1, k2⟩ := twoE_iff hk
    have HI1 := Lib.hid (kys_inI k1); have HI2 := Lib.hid (kys_inI k2)
    have HL1 := Lib.hid (kys_len k1)
    have K1 := Lib.hid k1; have K2 := Lib.hid k2
    clear hk k1 k2
    go_enter Try.func30, Try.ntmps30
    go_wp2_with fail
    refine (l20Two_b true H.out H3.out H2.out hB Hk.out).mono ?_
    rintro e w1 ⟨rfl, hb⟩
    have Hb := Lib.hid hb; clear hb
    have hz := Hb.out.size
    have Hba : Hid (Below w.heap.size w (w1.alloc (.cells #[] 2))) := Lib.hid (Hb.out.alloc hz _)
    have hza := Hba.out.size
    have hs1 : (w1.alloc (.cells #[] 2)).heap.size = w1.heap.size + 1 := by simp
    have HO0 : Hid (OI (w1.alloc (.cells #[] 2)) w.heap.size (.slice (some ⟨w1.heap.size, 0, none⟩) 0 0) []) := Lib.hid (oi_lit2' w1 w.heap.size hz)
    have Hk1 : Hid (∀ W, Below w.heap.size w W → Calls Try.prog 39 #[.slice A3 fs.length c3, .slice A2 cs.length c2] W (MadeO (kys (grds fs cs)) W)) := Lib.hid (fun W hW =>
      l20Keys_any (H3.out.up (Nat.le_refl _) (hW.mono hB)) (H2.out.up (Nat.le_refl _) (hW.mono hB)) (Nat.le_trans hB hW.size) K2.out)
    have Hk2 : Hid (∀ W, Below w.heap.size w W → Calls Try.prog 39 #[.slice A1 ds.length c1, .slice A2 cs.length c2] W (MadeO (kys (grds ds cs)) W)) := Lib.hid (fun W hW =>
      l20Keys_any (H.out.up (Nat.le_refl _) (hW.mono hB)) (H2.out.up (Nat.le_refl _) (hW.mono hB)) (Nat.le_trans hB hW.size) K1.out)
    generalize kys (grds fs cs) = fk at *
    generalize kys (grds ds cs) = dk at *
    go_wp2_with fail
    refine (Hk1.out _ Hba.out).mono ?_
    rintro e w2 ⟨g2, rfl, hog2, hbg2⟩
    have Hb2 := Lib.hid (Hba.out.trans (hbg2.mono hza))
    have hz2 := Hb2.out.size
    have hz12 := hbg2.size
    have HO1 := Lib.hid (HO0.out.bel hbg2)
    have HG2 := Lib.hid hog2
    clear hog2 hbg2
    go_wp2_with fail
    refine (Hk2.out _ Hb2.out).mono ?_
    rintro e w3 ⟨g3, rfl, hog3, hbg3⟩
    have Hb3 := Lib.hid (Hb2.out.trans (hbg3.mono hz2))
    have hz3 := Hb3.out.size
    have HO2 := Lib.hid (HO1.out.bel hbg3)
    have HG22 : Hid (OI w3 w.heap.size g2 fk) := Lib.hid ((HG2.out.bel hbg3).lo hza)
    have HG3 : Hid (OI w3 w.heap.size g3 dk) := Lib.hid (hog3.lo hz2)
    have HA2 : Hid (Apart (.slice (some ⟨w1.heap.size, 0, none⟩) 0 0) g2) := Lib.hid (fun k h1 h2 => by
      have := HG2.out.wi k h2
      simp [Value.ownBlock] at h1
      omega)
    have HA3 : Hid (Apart (.slice (some ⟨w1.heap.size, 0, none⟩) 0 0) g3) := Lib.hid (fun k h1 h2 => by
      have := hog3.wi k h2
      simp [Value.ownBlock] at h1
      omega)
    obtain ⟨A4, c4, hu3⟩ := hog3.sl
    clear hog3 hbg3
    subst hu3
    go_wp2_with fail
    go_loopw [7, 10] (fun v i wr => ∃ j : Nat, j ≤ dk.length ∧ i = .int .i64 (j : Int) ∧ OI wr w.heap.size v ((dk.take j).filter (notIn fk)) ∧ OI wr w.heap.size g2 fk ∧ OI wr w.heap.size (.slice A4 dk.length c4) dk ∧ Apart v g2 ∧ Apart v (.slice A4 dk.length c4) ∧ Below w.heap.size w wr) (fun _ i _ => dk.length - (intOf i).toNat)
    case atStart => exact ⟨0, Nat.zero_le _, rfl, HO2.out, HG22.out, HG3.out, HA2.out, HA3.out, Hb3.out⟩
    case round =>
      obtain ⟨j, hj, rfl, ho, hg2, hg3, ha2, ha3, hbel⟩ := hrel
      have HO := Lib.hid ho; have HF := Lib.hid hg2; have HD := Lib.hid hg3; have HP2 := Lib.hid ha2; have HP3 := Lib.hid ha3; have Hbel := Lib.hid hbel
      have hsz := hbel.size
      obtain ⟨Aw, cw, hu1⟩ := ho.sl
      obtain ⟨ps, hps⟩ : ∃ ps, (dk.take j).filter (notIn fk) = ps := ⟨_, rfl⟩
      have hpl : ps.length ≤ 256 := by rw [← hps]; exact Nat.le_trans (filter_len _ _ _) HL1.out
      rw [hps] at HO hu1
      have Hps := Lib.hid hps
      have Hpl := Lib.hid hpl
      have HRf := Lib.hid (hg2.ri HI2.out)
      have HRd := hg3.ri HI1.out
      clear ho hg2 hg3 ha2 ha3 hbel hps hpl
      subst hu1
      obtain ⟨A5, c5, he, hl5, hm5, hx5⟩ := HRd
      injection he with he1 he2 he3
      subst he1; subst he3
      clear he2
      unfold maxLen at hm5
      have Hx := Lib.hid hx5
      clear hx5
      by_cases hlt : j < dk.length
      · obtain ⟨b, o, rfl, hb, hcell, hI⟩ := Hx.out j hlt
        clear hI
        have HC := Lib.hid (l00Has_any HRf.out dk[j])
        by_cases hp : notIn fk dk[j] = true
        · have HPu : Hid ((dk.take (j + 1)).filter (notIn fk) = ps ++ [dk[j]]) := Lib.hid (by rw [filter_yes hlt hp, Hps.out])
          have hno : decide (dk[j] ∈ fk) = false := by simpa [notIn] using hp
          rw [hno] at HC
          clear hp hno
          generalize dk[j] = x at *
          go_wp2_with (first | (go_at_call 52; (with_reducible refine (HC.out).mono ?_); rintro e w' ⟨rfl, rfl⟩) | (at_builtin; refine wpList_push (W := wr) (v := .slice Aw ps.length cw) (lo := w.heap.size) (xs := ps) (x := x) rfl (.tmp 36) (.tmp 41) rfl rfl rfl rfl HO.out hsz (by have := Hpl.out; omega) ?_; intro h9 cap w5 o5 g5 at5 _; have HB5 := Lib.hid (pushI_bel Hbel.out HO.out (Nat.le_refl _) hsz g5); have Q2 := Lib.hid (push_aux (g := 0) HO.out HF.out HP2.out g5 at5 cap (ps.length + 1)); have Q3 := Lib.hid (push_aux (g := 0) HO.out HD.out HP3.out g5 at5 cap (ps.length + 1)); have O5 := Lib.hid o5; clear o5 g5 at5))
          go_roundw
          case rel => exact ⟨j + 1, by omega, by go_num, by rw [HPu.out]; exact O5.out, Q2.out.1, Q3.out.1, Q2.out.2.1, Q3.out.2.1, HB5.out⟩
          case measure => simp [intOf]; omega
        · have hp0 : notIn fk dk[j] = false := by simpa using hp
          have HPu : Hid ((dk.take (j + 1)).filter (notIn fk) = ps) := Lib.hid (by rw [filter_no hlt hp0, Hps.out])
          have hno : decide (dk[j] ∈ fk) = true := by simpa [notIn] using hp0
          rw [hno] at HC
          clear hp hno hp0
          generalize dk[j] = x at *
          go_wp2_with (go_at_call 52; (with_reducible refine (HC.out).mono ?_); rintro e w' ⟨rfl, rfl⟩)
          go_roundw
          case rel => exact ⟨j + 1, by omega, by go_num, by rw [HPu.out]; exact HO.out, HF.out, HD.out, HP2.out, HP3.out, Hbel.out⟩
          case measure => simp [intOf]; omega
      · obtain rfl : j = dk.length := by omega
        have HE : Hid (lostE ds fs cs = ps) := Lib.hid (by have := Hps.out; rw [List.take_length] at this; rw [Hf.out, this])
        go_wp2_with fail
        go_ret
        exact ⟨_, rfl, by rw [HE.out]; exact HO.out, Hbel.out⟩
  · have Hk : Hid (twoE ds fs cs = false) := Lib.hid (by simpa using hk)
    have Hf : Hid (lostE ds fs cs = []) := Lib.hid (by rw [lostE, if_neg hk])
    clear hk
    go_enter Try.func30, Try.ntmps30
    go_wp2_with fail
    refine (l20Two_b false H.out H3.out H2.out hB Hk.out).mono ?_
    rintro e w1 ⟨rfl, hb⟩
    have Hb := Lib.hid hb; clear hb
    go_wp2_with fail
    go_ret
    exact ⟨_, rfl, by rw [Hf.out]; exact oi_none _ _, Hb.out⟩
end Go.Proofs.Ytmghbgnalkkppaa
