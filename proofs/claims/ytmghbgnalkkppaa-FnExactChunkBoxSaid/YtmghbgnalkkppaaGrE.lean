/- Grids of chunks: the model's elements that are lost. No statement is proved here. -/
import Derived.Test.YtmghbgnalkkppaaGrC
namespace Go.Proofs.Ytmghbgnalkkppaa
open Go.RowKit
set_option linter.unusedVariables false
theorem cell_same {w w' : World} {b o : Nat} (h : w'.heap[b]? = w.heap[b]?) : w'.cell? ⟨b, o, none⟩ = w.cell? ⟨b, o, none⟩ := World.cell?_of_block (w := w) h
theorem oi_frozen {w : World} {lo g n cap : Nat} {xs : List Int} (h : OI w lo (.slice (some ⟨g, 0, none⟩) n cap) xs) (j : Nat) : w.frozen? ⟨g, j, none⟩ = false := by
  unfold OI at h
  rcases h.2 with ⟨h0, _⟩ | ⟨g', cap', cur, he, hb, hg, _⟩
  · cases h0
  · cases he; exact frozen_of_row _ _ _ _ _ hg
theorem mix_set (f g : Nat → Int) (m j : Nat) : ((List.range m).map (fun t => if t < j then g t else f t)).set j (g j) = (List.range m).map (fun t => if t < j + 1 then g t else f t) := by
  apply List.ext_getElem (by simp)
  intro i h1 h2
  rw [List.getElem_set]
  simp only [List.getElem_map, List.getElem_range]
  by_cases e : j = i
  · subst e; simp
  · rw [if_neg e]
    by_cases h : i < j
    · rw [if_pos h, if_pos (by omega)]
    · rw [if_neg h, if_neg (by omega)]
/-- The coordinates in the chunk, the first j moved to the array. -/
def mixL (ds cs : List Int) (key n : Int) (j : Nat) : List Int := (List.range cs.length).map (fun t => if t < j then crd cs n t + bxF ds.length cs key t else crd cs n t)
def atL (ds cs : List Int) (key n : Int) : List Int := (List.range cs.length).map (fun t => crd cs n t + bxF ds.length cs key t)
theorem mixL_zero (ds cs : List Int) (key n : Int) : mixL ds cs key n 0 = crds cs n := by simp [mixL, crds]
theorem mixL_end (ds cs : List Int) (key n : Int) : mixL ds cs key n cs.length = atL ds cs key n := by
  unfold mixL atL
  apply List.map_congr_left
  intro t ht
  rw [if_pos (List.mem_range.1 ht)]
theorem mixL_len (ds cs : List Int) (key n : Int) (j : Nat) : (mixL ds cs key n j).length = cs.length := by simp [mixL]
theorem mixL_set (ds cs : List Int) (key n : Int) (j : Nat) : (mixL ds cs key n j).set j (crd cs n j + bxF ds.length cs key j) = mixL ds cs key n (j + 1) :=
  mix_set (crd cs n) (fun t => crd cs n t + bxF ds.length cs key t) cs.length j
theorem mixL_at (ds cs : List Int) (key n : Int) (j : Nat) (h : j < (mixL ds cs key n j).length) : (mixL ds cs key n j)[j] = crd cs n j := by simp [mixL]
/-- Is this element lost? -/
def lostP (ds fs cs : List Int) (key : Int) (n : Int) : Bool := inside ds (atL ds cs key n) && !inside fs (atL ds cs key n)
def elF (ds fs cs : List Int) (key : Int) (t : Nat) : List Int := ((List.range t).map Int.ofNat).filter (lostP ds fs cs key)
theorem elF_step (ds fs cs : List Int) (key : Int) (t : Nat) : elF ds fs cs key (t + 1) = elF ds fs cs key t ++ (if lostP ds fs cs key (t : Int) = true then [(t : Int)] else []) := by
  unfold elF
  rw [List.range_succ, List.map_append, List.filter_append]
  congr 1
  by_cases h : lostP ds fs cs key (t : Int) = true
  · rw [if_pos h]
    show List.filter _ [(t : Int)] = _
    simp [h]
  · rw [if_neg h]
    show List.filter _ [(t : Int)] = _
    simp [h]
theorem elF_len (ds fs cs : List Int) (key : Int) (t : Nat) : (elF ds fs cs key t).length ≤ t := Nat.le_trans (List.length_filter_le _ _) (by simp)
def elE (ds fs cs : List Int) (key : Int) : List Int := if twoE ds fs cs = true ∧ hasE ds cs key = true then elF ds fs cs key (prodL cs).toNat else []
theorem bxF_bd {ds cs : List Int} (hk : ckOk ds cs = true) (key : Int) (h0 : 0 ≤ key) (j : Nat) (hj : j < ds.length) : 0 ≤ bxF ds.length cs key j ∧ bxF ds.length cs key j ≤ 640 := by
  obtain ⟨k1, k2, k3, k4, k5⟩ := ck_facts hk
  have h2 : j < cs.length := by omega
  have a := allTo_at k4 h2
  rw [inC_at _ _ h2, inB_iff] at a
  have b := crd_bd (sx ds.length) key h0 (sx_pos _) j (by rw [sx_len]; exact hj)
  rw [sx_at] at b
  rw [bxF, getD_at _ _ h2]
  generalize crd (sx ds.length) key j = pl at *
  generalize cs[j] = c at *
  refine ⟨Int.mul_nonneg (by omega) (by omega), ?_⟩
  have := Int.mul_le_mul (a := pl) (b := c) (c := 16) (d := 40) (by omega) (by omega) (by omega) (by omega)
  omega
theorem atL_inI {ds cs : List Int} (hk : ckOk ds cs = true) (key : Int) (h0 : 0 ≤ key) (n : Int) (hn : 0 ≤ n) : ∀ x ∈ atL ds cs key n, InI x := by
  obtain ⟨k1, k2, k3, k4, k5⟩ := ck_facts hk
  intro x hx
  obtain ⟨j, hj, rfl⟩ := List.mem_map.1 hx
  have hj := List.mem_range.1 hj
  have a := bxF_bd hk key h0 j (by omega)
  have p : ∀ d ∈ cs, 0 < d ∧ d ≤ 40 := by
    intro d hd
    obtain ⟨i, hi, rfl⟩ := List.getElem_of_mem hd
    have := allTo_at k4 hi
    rw [inC_at _ _ hi, inB_iff] at this
    omega
  have b := crd_bd cs n hn (fun d hd => (p d hd).1) j hj
  have c := (p _ (List.getElem_mem hj)).2
  unfold InI
  omega
theorem pos_of_inC {cs : List Int} (h : allTo (inC cs) cs.length = true) : ∀ d ∈ cs, 0 < d ∧ d ≤ 40 := by
  intro d hd
  obtain ⟨i, hi, rfl⟩ := List.getElem_of_mem hd
  have := allTo_at h hi
  rw [inC_at _ _ hi, inB_iff] at this
  omega
set_option maxHeartbeats 4000000 in
set_option maxRecDepth 100000 in
theorem specElementsLost_any {B : Nat} {w : World} {v z u : Value} {ds fs cs : List Int} (key : Int) (h : Ri B w v ds) (h3 : Ri B w z fs) (h2 : Ri B w u cs) (hB : B ≤ w.heap.size) :
    Calls Try.prog 32 #[v, z, u, .int .i64 key] w (MadeO (elE ds fs cs key) w) := by
  have H := Lib.hid h; have H2 := Lib.hid h2; have H3 := Lib.hid h3
  obtain ⟨A1, c1, rfl, -⟩ := h
  obtain ⟨A2, c2, rfl, -⟩ := h2
  obtain ⟨A3, c3, rfl, -⟩ := h3
  have HD : ∀ W, Below w.heap.size w W → Ri W.heap.size W (.slice A1 ds.length c1) ds := fun W hW => (H.out.up (Nat.le_refl _) (hW.mono hB)).up (Nat.le_trans hB hW.size) (Below.refl _ _)
  have HF : ∀ W, Below w.heap.size w W → Ri W.heap.size W (.slice A3 fs.length c3) fs := fun W hW => (H3.out.up (Nat.le_refl _) (hW.mono hB)).up (Nat.le_trans hB hW.size) (Below.refl _ _)
  have HC : ∀ W, Below w.heap.size w W → Ri W.heap.size W (.slice A2 cs.length c2) cs := fun W hW => (H2.out.up (Nat.le_refl _) (hW.mono hB)).up (Nat.le_trans hB hW.size) (Below.refl _ _)
  have RD := Lib.hid HD; have RF := Lib.hid HF; have RC := Lib.hid HC
  clear HD HF HC
  by_cases hk : twoE ds fs cs = true
  rotate_left
  · have Hk : Hid (twoE ds fs cs = false) := Lib.hid (by simpa using hk)
    have Hf : Hid (elE ds fs cs key = []) := Lib.hid (by rw [elE, if_neg (fun h => hk h.1)])
    clear hk
    go_enter Try.func32, Try.ntmps32
    go_wp2_with fail
    refine (l20Two_b false H.out H3.out H2.out hB Hk.out).mono ?_
    rintro e w1 ⟨rfl, hb⟩
    have Hb := Lib.hid hb; clear hb
    have hz := Hb.out.size
    go_wp2_with fail
    go_ret
    exact ⟨_, rfl, by rw [Hf.out]; exact oi_none _ _, Hb.out⟩
  have Hk := Lib.hid hk
  by_cases hh : hasE ds cs key = true
  rotate_left
  · have Hh : Hid (hasE ds cs key = false) := Lib.hid (by simpa using hh)
    have Hf : Hid (elE ds fs cs key = []) := Lib.hid (by rw [elE, if_neg (fun h => hh h.2)])
    clear hk hh
    go_enter Try.func32, Try.ntmps32
    go_wp2_with fail
    refine (l20Two_b true H.out H3.out H2.out hB Hk.out).mono ?_
    rintro e w1 ⟨rfl, hb⟩
    have Hb := Lib.hid hb; clear hb
    have hz := Hb.out.size
    go_wp2_with fail
    refine (l20Has_b false key (RD.out _ Hb.out) (RC.out _ Hb.out) (Nat.le_refl _) Hh.out).mono ?_
    rintro e w2 ⟨rfl, hb2⟩
    have Hb2 := Lib.hid (Hb.out.trans (hb2.mono hz)); clear hb2
    go_wp2_with fail
    go_ret
    exact ⟨_, rfl, by rw [Hf.out]; exact oi_none _ _, Hb2.out⟩
  · have Hh := Lib.hid hh
    have HI := Lib.hid (hasE_iff hh)
    have K2 := Lib.hid (twoE_iff hk).2
    have hkk := ckOk_iff HI.out.1
    have HK := Lib.hid (ck_facts HI.out.1)
    have HKf := Lib.hid (ck_facts K2.out)
    obtain ⟨T, hT⟩ : ∃ T : Nat, prodL cs = (T : Int) := ⟨(prodL cs).toNat, by have := (prodK_small cs (by have := HK.out.1; have := HK.out.2.2.1; omega) _ (Nat.le_refl _) (inC_inD cs HK.out.2.2.2.1)).1; unfold prodL; omega⟩
    have hT64 : T ≤ 64 := by have := hkk.2.2.2.2.1; omega
    have Hf : Hid (elE ds fs cs key = elF ds fs cs key T) := Lib.hid (by rw [elE, if_pos ⟨hk, hh⟩, hT]; rfl)
    have HT := Lib.hid hT
    have HCt : Hid (∀ W, Below w.heap.size w W → Calls Try.prog 37 #[.slice A2 cs.length c2] W (Quiet (.int .i64 (T : Int)) W)) := Lib.hid (fun W hW => by
      have := l05Count_any (RC.out W hW) ⟨by have := HK.out.1; have := HK.out.2.2.1; omega, inC_inD cs HK.out.2.2.2.1⟩
      rw [HT.out] at this
      exact this)
    have HPos := Lib.hid (pos_of_inC HK.out.2.2.2.1)
    clear hk hh hkk hT
    go_enter Try.func32, Try.ntmps32
    go_wp2_with fail
    refine (l20Two_b true H.out H3.out H2.out hB Hk.out).mono ?_
    rintro e w1 ⟨rfl, hb⟩
    have Hb := Lib.hid hb; clear hb
    have hz := Hb.out.size
    go_wp2_with fail
    refine (l20Has_b true key (RD.out _ Hb.out) (RC.out _ Hb.out) (Nat.le_refl _) Hh.out).mono ?_
    rintro e w2 ⟨rfl, hb2⟩
    have Hb2 := Lib.hid (Hb.out.trans (hb2.mono hz)); clear hb2
    have hz2 := Hb2.out.size
    have Hba : Hid (Below w.heap.size w (w2.alloc (.cells #[] 2))) := Lib.hid (Hb2.out.alloc hz2 _)
    have HO0 : Hid (OI (w2.alloc (.cells #[] 2)) w.heap.size (.slice (some ⟨w2.heap.size, 0, none⟩) 0 0) []) := Lib.hid (oi_lit2' w2 w.heap.size hz2)
    have Hs2 : Hid ((w2.alloc (.cells #[] 2)).heap.size = w2.heap.size + 1) := Lib.hid (by simp)
    go_wp2_with fail
    generalize (w2.alloc (.cells #[] 2)) = W2 at *
    refine (l20Box_any key (RD.out _ Hba.out) (RC.out _ Hba.out) (Nat.le_refl _) HI.out.1 HI.out.2.1 HI.out.2.2).mono ?_
    rintro e W3 ⟨E1, E2, d1, d2, rfl, ho1, ho2, hap, hb⟩
    have hz3 := hb.size
    have Hb3 := Lib.hid (Hba.out.trans (hb.mono Hba.out.size))
    have HO3 := Lib.hid (HO0.out.bel hb)
    have HLw := Lib.hid ho1
    have HLl : Hid ((bxL ds cs key).length = ds.length) := Lib.hid (by simp [bxL])
    have HLh : Hid ((bxH ds cs key).length = ds.length) := Lib.hid (by simp [bxH])
    clear ho1 ho2 hap hb
    rw [HLl.out] at HLw ⊢
    rw [HLh.out]
    have hz4 : w.heap.size ≤ W3.heap.size := Hb3.out.size
    have Hi0 : Hid ((Try.prog.info? 32).map (·.size) = some (#[.slice E1 ds.length d1, .slice E2 ds.length d2] : Array Value).size) := Lib.hid (by kernel_rfl)
    have H10 : Hid ((#[.slice E1 ds.length d1, .slice E2 ds.length d2] : Array Value).all (·.oneCell') = true) := Lib.hid (by simp [Value.oneCell'])
    have Hb4 : Hid (Below w.heap.size w (W3.alloc (.cells #[.slice E1 ds.length d1, .slice E2 ds.length d2] 32))) := Lib.hid (Hb3.out.alloc hz4 _)
    have HO4 : Hid (OI (W3.alloc (.cells #[.slice E1 ds.length d1, .slice E2 ds.length d2] 32)) w.heap.size (.slice (some ⟨w2.heap.size, 0, none⟩) 0 0) []) := Lib.hid (HO3.out.bel ((Below.refl _ _).alloc (Nat.le_refl _) _))
    have HL4 : Hid (OI (W3.alloc (.cells #[.slice E1 ds.length d1, .slice E2 ds.length d2] 32)) W2.heap.size (.slice E1 ds.length d1) (bxL ds cs key)) := Lib.hid (HLw.out.bel ((Below.refl _ _).alloc (Nat.le_refl _) _))
    have Hr4 : Hid ((W3.alloc (.cells #[.slice E1 ds.length d1, .slice E2 ds.length d2] 32)).heap[W3.heap.size]? = some (.cells #[.slice E1 ds.length d1, .slice E2 ds.length d2] 32 (0, 0))) := Lib.hid (heap_alloc_new W3 _)
    have Hs4 : Hid ((W3.alloc (.cells #[.slice E1 ds.length d1, .slice E2 ds.length d2] 32)).heap.size = W3.heap.size + 1) := Lib.hid (by simp)
    have Hd4 : Hid (∀ g, (Value.slice (some ⟨w2.heap.size, 0, none⟩) 0 0).ownBlock = some g → ¬ (g = W3.heap.size ∨ (Value.slice E1 ds.length d1).ownBlock = some g)) := Lib.hid (fun g hg h => by
      simp [Value.ownBlock] at hg
      rcases h with h | h
      · have := Hs2.out; omega
      · have := HLw.out.wi g h; have := Hs2.out; omega)
    have HBlt : Hid (∀ g, (g = W3.heap.size ∨ (Value.slice E1 ds.length d1).ownBlock = some g) → g < W3.heap.size + 1) := Lib.hid (fun g h => by
      rcases h with h | h
      · omega
      · have := HLw.out.wi g h; omega)
    go_wp2_with (refine wpList_store_last rfl 32 (.tmp 10) (.tmp 30) rfl #[.slice E1 ds.length d1, .slice E2 ds.length d2] _ 32 rfl rfl Hi0.out rfl H10.out ?_)
    generalize (W3.alloc (.cells #[.slice E1 ds.length d1, .slice E2 ds.length d2] 32)) = W4 at *
    generalize W3.heap.size = bx at *
    go_loopw [9, 11] (fun v n wr => ∃ t : Nat, t ≤ T ∧ n = .int .i64 (t : Int) ∧ OI wr w.heap.size v (elF ds fs cs key t) ∧ (∀ g, (g = bx ∨ (Value.slice E1 ds.length d1).ownBlock = some g) → wr.heap[g]? = W4.heap[g]?) ∧ (∀ g, v.ownBlock = some g → ¬ (g = bx ∨ (Value.slice E1 ds.length d1).ownBlock = some g)) ∧ Below w.heap.size w wr ∧ W4.heap.size ≤ wr.heap.size) (fun _ n _ => T - (intOf n).toNat)
    case atStart => exact ⟨0, Nat.zero_le _, rfl, HO4.out, fun _ _ => rfl, Hd4.out, Hb4.out, Nat.le_refl _⟩
    case round =>
      obtain ⟨t, ht, rfl, hov, hbk, hdj, hbel, hsB⟩ := hrel
      have Hov := Lib.hid hov; have HBk := Lib.hid hbk; have Hdj := Lib.hid hdj; have Hbel := Lib.hid hbel
      have hsz := hbel.size
      obtain ⟨Aw, cw, hu1⟩ := hov.sl
      obtain ⟨ps, hps⟩ : ∃ ps, elF ds fs cs key t = ps := ⟨_, rfl⟩
      have hpl : ps.length ≤ 64 := by rw [← hps]; exact Nat.le_trans (elF_len _ _ _ _ _) (by omega)
      rw [hps] at Hov hu1
      have Hps := Lib.hid hps; have Hpl := Lib.hid hpl
      have HFs := Lib.hid (elF_step ds fs cs key t)
      rw [hps] at HFs
      have HsB := Lib.hid hsB
      clear hov hbk hdj hbel hps hpl hsB
      subst hu1
      by_cases hlt : t < T
      · obtain ⟨wa, hwa⟩ : ∃ wa, wa = wr := ⟨_, rfl⟩
        subst hwa
        go_wp2_with (go_at_call 37; (with_reducible refine (HCt.out _ Hbel.out).mono ?_); rintro e w' ⟨rfl, rfl⟩)
        refine (l05Coords_any (RC.out _ Hbel.out) (Nat.le_refl _) (by have := HK.out.1; have := HK.out.2.2.1; omega) (by omega) (by omega) HPos.out).mono ?_
        rintro e w5 ⟨rfl, ho5, hb5⟩
        have Ho5 : Hid (OI w5 wa.heap.size (.slice (some ⟨wa.heap.size, 0, none⟩) cs.length cs.length) (mixL ds cs key (t : Int) 0)) := Lib.hid (by rw [mixL_zero]; exact ho5)
        have Hb5 := Lib.hid hb5
        clear ho5 hb5
        go_wp2_with fail
        go_loopw [13] (fun i wr => ∃ j : Nat, j ≤ cs.length ∧ i = .int .i64 (j : Int) ∧ OI wr wa.heap.size (.slice (some ⟨wa.heap.size, 0, none⟩) cs.length cs.length) (mixL ds cs key (t : Int) j) ∧ Below wa.heap.size wa wr) (fun i _ => cs.length - (intOf i).toNat)
        case atStart => exact ⟨0, Nat.zero_le _, rfl, Ho5.out, Hb5.out⟩
        case round =>
          obtain ⟨j, hj, rfl, hat, hbel2⟩ := hrel
          have Hat := Lib.hid hat; have Hbel2 := Lib.hid hbel2
          have hsz2 := hbel2.size
          clear hat hbel2
          have hc3 : cs.length ≤ 3 := by have := HK.out.1; have := HK.out.2.2.1; omega
          by_cases hjl : j < cs.length
          · have hjd : j < ds.length := by have := HK.out.2.2.1; omega
            have hml : j < (mixL ds cs key (t : Int) j).length := by rw [mixL_len]; exact hjl
            have hcell2 : wr.cell? ⟨wa.heap.size, j, none⟩ = some (.int .i64 (crd cs (t : Int) j)) := by
              have := oi_cellN Hat.out (mixL_len ds cs key (t : Int) j) j hml
              rw [mixL_at] at this
              exact this
            have hfz2 : wr.frozen? ⟨wa.heap.size, j, none⟩ = false := oi_frozen Hat.out j
            have hcb := crd_bd cs (t : Int) (by omega) (fun d hd => (HPos.out d hd).1) j hjl
            have hc40 := (HPos.out _ (List.getElem_mem hjl)).2
            have hlb := bxF_bd HI.out.1 key HI.out.2.1 j hjd
            have Hset := Lib.hid (Hat.out.set j (crd cs (t : Int) j + bxF ds.length cs key j) hml)
            rw [mixL_set] at Hset
            obtain ⟨bl, hbl, hEl⟩ : ∃ bl, bl < W4.heap.size ∧ Value.slice E1 ds.length d1 = .slice (some ⟨bl, 0, none⟩) ds.length d1 := by
              rcases HL4.out.slice with ⟨h, h0⟩ | ⟨g, cap, h, h1, h2, _⟩
              · injection h with h1 h2 h3
                omega
              · injection h with h4 h5 h6
                exact ⟨g, h2, by rw [h4]⟩
            have HbS : Hid (wa.heap[bl]? = W4.heap[bl]?) := Lib.hid (HBk.out bl (.inr (by rw [hEl]; rfl)))
            have HxS : Hid (wa.heap[bx]? = W4.heap[bx]?) := Lib.hid (HBk.out bx (.inl rfl))
            have hbx : bx < W4.heap.size := by have := Hs4.out; omega
            have HLc : Hid (W4.cell? ⟨bl, j, none⟩ = some (.int .i64 (bxF ds.length cs key j))) := Lib.hid (by
              have := HL4.out
              rw [hEl] at this
              have := oi_cellN this (by simp [bxL]) j (by simp [bxL]; exact hjd)
              simpa [bxL] using this)
            have HXc : Hid (W4.cell? ⟨bx, 0, none⟩ = some (.slice (some ⟨bl, 0, none⟩) ds.length d1)) := Lib.hid (by rw [← hEl, cell_of_row _ _ _ _ _ _ Hr4.out]; rfl)
            obtain ⟨lo, hlo⟩ : ∃ lo, bxF ds.length cs key j = lo := ⟨_, rfl⟩
            obtain ⟨c, hc⟩ : ∃ c, crd cs (t : Int) j = c := ⟨_, rfl⟩
            rw [hlo] at hlb Hset HLc
            rw [hc] at hcell2 hcb Hset
            have HS : Hid (∀ W, Below wa.heap.size wr W → (fun W => W.cell? ⟨bx, 0, none⟩ = some (.slice (some ⟨bl, 0, none⟩) ds.length d1) ∧ W.cell? ⟨bl, j, none⟩ = some (.int .i64 lo)) W) := Lib.hid (fun W hW => by
              have e : ∀ b, b < wa.heap.size → W.heap[b]? = wa.heap[b]? := fun b hb => (hW.block b hb).trans (Hbel2.out.block b hb)
              have z := HsB.out
              exact ⟨(cell_same ((e bx (by omega)).trans HxS.out)).trans HXc.out, (cell_same ((e bl (by omega)).trans HbS.out)).trans HLc.out⟩)
            have Hst : Hid (Below wa.heap.size wr (wr.drew.setCell ⟨wa.heap.size, j, none⟩ (.int .i64 (c + lo)))) := Lib.hid ((Below.refl _ wr).drew.setCell (p := ⟨wa.heap.size, j, none⟩) (Nat.le_refl _) _)
            have HE1 : Hid (Value.slice E1 ds.length d1 = .slice (some ⟨bl, 0, none⟩) ds.length d1) := Lib.hid hEl
            have z1 : IntKind.i64.wrap (c + lo) = c + lo := IntWalk.i64_in _ (by omega)
            clear hlo hc hEl hml
            go_wp2_with fail
            refine wp_region_held_drew (S := fun W => W.cell? ⟨bx, 0, none⟩ = some (.slice (some ⟨bl, 0, none⟩) ds.length d1) ∧ W.cell? ⟨bl, j, none⟩ = some (.int .i64 lo)) (by kernel_rfl) (HS.out _ (Below.refl _ _).drew) (fun hHeld => ?_)
            refine held_yes 0 (some 46) rfl rfl (by kernel_rfl) (by kernel_rfl) (by kernel_rfl) (fun _ _ _ h => h) (by kernel_rfl) hHeld (v := ?_) (fun wz hSw => ?_) ?_
            rotate_left 1
            · (try dsimp only at hSw); go_simp; (try with_reducible rfl)
            try simp only [Act.put, List.setIfInBounds_toArray, List.set_cons_zero, List.set_cons_succ]
            refine held_yes 1 (some 47) rfl rfl (by kernel_rfl) (by kernel_rfl) (by kernel_rfl) (fun _ _ _ h => h) (by kernel_rfl) hHeld (v := ?_) (fun wz hSw => ?_) ?_
            rotate_left 1
            · (try dsimp only at hSw); go_simp; (try with_reducible rfl)
            try simp only [Act.put, List.setIfInBounds_toArray, List.set_cons_zero, List.set_cons_succ]
            refine held_yes 2 (some 48) rfl rfl (by kernel_rfl) (by kernel_rfl) (by kernel_rfl) (fun _ _ _ h => h) (by kernel_rfl) hHeld (v := ?_) (fun wz hSw => ?_) ?_
            rotate_left 1
            · (try dsimp only at hSw); go_simp; (try with_reducible rfl)
            try simp only [Act.put, List.setIfInBounds_toArray, List.set_cons_zero, List.set_cons_succ]
            refine held_yes 4 (some 50) rfl rfl (by kernel_rfl) (by kernel_rfl) (by kernel_rfl) (fun _ _ _ h => h) (by kernel_rfl) hHeld (v := ?_) (fun wz hSw => ?_) ?_
            rotate_left 1
            · (try dsimp only at hSw); go_simp; (try with_reducible rfl)
            try simp only [Act.put, List.setIfInBounds_toArray, List.set_cons_zero, List.set_cons_succ]
            refine held_yes 5 (some 51) rfl rfl (by kernel_rfl) (by kernel_rfl) (by kernel_rfl) (fun _ _ _ h => h) (by kernel_rfl) hHeld (v := ?_) (fun wz hSw => ?_) ?_
            rotate_left 1
            · (try dsimp only at hSw); go_simp; (try with_reducible rfl)
            try simp only [Act.put, List.setIfInBounds_toArray, List.set_cons_zero, List.set_cons_succ]
            refine held_yes 6 (some 52) rfl rfl (by kernel_rfl) (by kernel_rfl) (by kernel_rfl) (fun _ _ _ h => h) (by kernel_rfl) hHeld (v := ?_) (fun wz hSw => ?_) ?_
            rotate_left 1
            · (try dsimp only at hSw); go_simp; (try with_reducible rfl)
            try simp only [Act.put, List.setIfInBounds_toArray, List.set_cons_zero, List.set_cons_succ]
            refine held_yes 7 (some 53) rfl rfl (by kernel_rfl) (by kernel_rfl) (by kernel_rfl) (fun _ _ _ h => h) (by kernel_rfl) hHeld (v := ?_) (fun wz hSw => ?_) ?_
            rotate_left 1
            · (try dsimp only at hSw); go_simp; (try with_reducible rfl)
            try simp only [Act.put, List.setIfInBounds_toArray, List.set_cons_zero, List.set_cons_succ]
            refine held_yes 8 (some 54) rfl rfl (by kernel_rfl) (by kernel_rfl) (by kernel_rfl) (fun _ _ _ h => h) (by kernel_rfl) hHeld (v := ?_) (fun wz hSw => ?_) ?_
            rotate_left 1
            · (try dsimp only at hSw); go_simp; (try with_reducible rfl)
            try simp only [Act.put, List.setIfInBounds_toArray, List.set_cons_zero, List.set_cons_succ]
            refine wpAnyH_ready (rs := [3]) (by kernel_rfl) (by simp) ?_
            refine AllReadyH.cons rfl (fun K hK => ?_) AllReadyH.nil
            have qld : wr.drew.cell? ⟨wa.heap.size, j, none⟩ = some (.int .i64 c) := hcell2
            go_simp
            refine hK.out _ _ (HS.out _ (Below.refl _ _).drew) (fun hHeld => ?_)
            clear hK K qld
            try simp only [Act.put, List.setIfInBounds_toArray, List.set_cons_zero, List.set_cons_succ]
            refine held_yes 9 (some 55) rfl rfl (by kernel_rfl) (by kernel_rfl) (by kernel_rfl) (fun _ _ _ h => h) (by kernel_rfl) hHeld (v := ?_) (fun wz hSw => ?_) ?_
            rotate_left 1
            · (try dsimp only at hSw); go_simp; (try with_reducible rfl)
            try simp only [Act.put, List.setIfInBounds_toArray, List.set_cons_zero, List.set_cons_succ]
            refine held_yes 10 (some 56) rfl rfl (by kernel_rfl) (by kernel_rfl) (by kernel_rfl) (fun _ _ _ h => h) (by kernel_rfl) hHeld (v := ?_) (fun wz hSw => ?_) ?_
            rotate_left 1
            · (try dsimp only at hSw); go_simp; (try with_reducible rfl)
            try simp only [Act.put, List.setIfInBounds_toArray, List.set_cons_zero, List.set_cons_succ]
            refine wpAnyH_ready (rs := [11]) (by kernel_rfl) (by simp) ?_
            refine AllReadyH.cons rfl (fun K hK => ?_) AllReadyH.nil
            have qld : wr.drew.cell? ⟨wa.heap.size, j, none⟩ = some (.int .i64 c) := hcell2
            have qfz : wr.drew.frozen? ⟨wa.heap.size, j, none⟩ = false := hfz2
            go_simp
            refine hK.out _ _ (HS.out _ Hst.out) (fun hHeld => ?_)
            clear hK K qld qfz hHeld
            try simp only [Act.put, List.setIfInBounds_toArray, List.set_cons_zero, List.set_cons_succ]
            refine wpAnyH_done (by kernel_rfl) ?_ _
            try simp only [Exit.then]
            go_wp2_with fail
            go_roundw
            case rel => exact ⟨j + 1, by omega, by go_num, Hset.out, Hbel2.out.trans Hst.out⟩
            case measure => simp [intOf]; omega
          · obtain rfl : j = cs.length := by omega
            have hmE : mixL ds cs key (t : Int) cs.length = atL ds cs key (t : Int) := mixL_end ds cs key (t : Int)
            rw [hmE] at Hat
            clear hmE
            have HA : Hid (Ri wr.heap.size wr (.slice (some ⟨wa.heap.size, 0, none⟩) cs.length cs.length) (atL ds cs key (t : Int))) := Lib.hid (Hat.out.ri (atL_inI HI.out.1 key HI.out.2.1 (t : Int) (by omega)))
            have HTr : Hid (∀ W, Below wa.heap.size wa W → OI W w.heap.size (.slice Aw ps.length cw) ps ∧ (∀ g, (g = bx ∨ (Value.slice E1 ds.length d1).ownBlock = some g) → W.heap[g]? = W4.heap[g]?) ∧ Below w.heap.size w W ∧ W4.heap.size ≤ W.heap.size ∧ w.heap.size ≤ W.heap.size) := Lib.hid (fun W hW => by
              have hs := hW.size
              have z := HsB.out
              have z4 := Hs4.out
              exact ⟨Hov.out.bel hW, fun g hg => (hW.block g (by have := HBlt.out g hg; omega)).trans (HBk.out g hg), Hbel.out.trans (hW.mono hsz), by omega, by omega⟩)
            have hb6 : Below w.heap.size w wr := (HTr.out wr Hbel2.out).2.2.1
            have HCi : Hid (Calls Try.prog 42 #[.slice A1 ds.length c1, .slice (some ⟨wa.heap.size, 0, none⟩) cs.length cs.length] wr (GivesB (.bool (inside ds (atL ds cs key (t : Int)))) wr)) := Lib.hid (l05Inside_any (RD.out _ hb6) HA.out (Nat.le_refl _) HK.out.2.1)
            have HCj : Hid (∀ W, Below wr.heap.size wr W → Calls Try.prog 42 #[.slice A3 fs.length c3, .slice (some ⟨wa.heap.size, 0, none⟩) cs.length cs.length] W (GivesB (.bool (inside fs (atL ds cs key (t : Int)))) W)) := Lib.hid (fun W hW =>
              l05Inside_any (RF.out _ (HTr.out W (Hbel2.out.trans (hW.mono hsz2))).2.2.1) (HA.out.at (Nat.le_refl _) hW) (Nat.le_refl _) HKf.out.2.1)
            have HP : Hid (lostP ds fs cs key (t : Int) = (inside ds (atL ds cs key (t : Int)) && !inside fs (atL ds cs key (t : Int)))) := Lib.hid rfl
            generalize lostP ds fs cs key (t : Int) = lp at *
            generalize inside ds (atL ds cs key (t : Int)) = i1 at *
            generalize inside fs (atL ds cs key (t : Int)) = i2 at *
            clear hb6
            have hT64' := hT64
            cases i1 with
            | false =>
              have HFn : Hid (elF ds fs cs key (t + 1) = ps) := Lib.hid (by rw [HFs.out, HP.out]; simp)
              go_wp2_with fail
              refine HCi.out.mono ?_
              rintro e w6 ⟨rfl, hb6⟩
              have HQ := Lib.hid (HTr.out w6 (Hbel2.out.trans (hb6.mono hsz2)))
              clear hb6
              go_wp2_with fail
              go_roundw
              case rel => exact ⟨t + 1, by omega, by go_num, by rw [HFn.out]; exact HQ.out.1, HQ.out.2.1, Hdj.out, HQ.out.2.2.1, HQ.out.2.2.2.1⟩
              case measure => simp [intOf]; omega
            | true =>
              cases i2 with
              | true =>
                have HFn : Hid (elF ds fs cs key (t + 1) = ps) := Lib.hid (by rw [HFs.out, HP.out]; simp)
                go_wp2_with fail
                refine HCi.out.mono ?_
                rintro e w6 ⟨rfl, hb6⟩
                have Hb6 := Lib.hid hb6
                have hz6 := hb6.size
                clear hb6
                go_wp2_with fail
                refine (HCj.out w6 Hb6.out).mono ?_
                rintro e w7 ⟨rfl, hb7⟩
                have HQ := Lib.hid (HTr.out w7 (Hbel2.out.trans ((Hb6.out.trans (hb7.mono hz6)).mono hsz2)))
                clear hb7
                go_wp2_with fail
                go_roundw
                case rel => exact ⟨t + 1, by omega, by go_num, by rw [HFn.out]; exact HQ.out.1, HQ.out.2.1, Hdj.out, HQ.out.2.2.1, HQ.out.2.2.2.1⟩
                case measure => simp [intOf]; omega
              | false =>
                have HFn : Hid (elF ds fs cs key (t + 1) = ps ++ [(t : Int)]) := Lib.hid (by rw [HFs.out, HP.out]; simp)
                go_wp2_with fail
                refine HCi.out.mono ?_
                rintro e w6 ⟨rfl, hb6⟩
                have Hb6 := Lib.hid hb6
                have hz6 := hb6.size
                clear hb6
                go_wp2_with fail
                refine (HCj.out w6 Hb6.out).mono ?_
                rintro e w7 ⟨rfl, hb7⟩
                have HQ := Lib.hid (HTr.out w7 (Hbel2.out.trans ((Hb6.out.trans (hb7.mono hz6)).mono hsz2)))
                have hz7 := HQ.out.2.2.2.2
                clear hb7
                go_wp2_with (at_builtin; refine wpList_push (W := w7) (v := .slice Aw ps.length cw) (lo := w.heap.size) (xs := ps) (x := (t : Int)) rfl (.tmp 66) (.tmp 68) rfl rfl rfl rfl HQ.out.1 hz7 (by have := Hpl.out; omega) ?_; intro h9 cap w8 o8 g8 at8 _; have O8 := Lib.hid o8; have G8 := Lib.hid g8; have At8 := Lib.hid at8; clear o8 g8 at8)
                have HB8 := Lib.hid (pushI_bel HQ.out.2.2.1 HQ.out.1 (Nat.le_refl _) hz7 G8.out)
                have HK8 : Hid (∀ g, (g = bx ∨ (Value.slice E1 ds.length d1).ownBlock = some g) → w8.heap[g]? = W4.heap[g]?) := Lib.hid (fun g hg => by
                  have hlt9 : g < w7.heap.size := by have := HBlt.out g hg; have := HQ.out.2.2.2.1; have := Hs4.out; omega
                  exact (G8.out.block g (by simp; omega) (fun e => Hdj.out g e.symm hg)).trans ((((Below.refl _ w7).alloc (Nat.le_refl _) _).block g hlt9).trans (HQ.out.2.1 g hg)))
                have HD8 : Hid (∀ g, (Value.slice (some ⟨h9, 0, none⟩) (ps.length + 1) cap).ownBlock = some g → ¬ (g = bx ∨ (Value.slice E1 ds.length d1).ownBlock = some g)) := Lib.hid (fun g hg hbs => by
                  simp [Value.ownBlock] at hg
                  subst hg
                  rcases At8.out with h | h
                  · exact Hdj.out _ h hbs
                  · have := HBlt.out _ hbs; have := HQ.out.2.2.2.1; have := Hs4.out; omega)
                have HZ8 : Hid (W4.heap.size ≤ w8.heap.size) := Lib.hid (Nat.le_trans HQ.out.2.2.2.1 (Nat.le_trans (((Below.refl _ w7).alloc (Nat.le_refl _) _).size) G8.out.size))
                go_roundw
                case rel => exact ⟨t + 1, by omega, by go_num, by rw [HFn.out]; exact O8.out, HK8.out, HD8.out, HB8.out, HZ8.out⟩
                case measure => simp [intOf]; omega
      · obtain rfl : t = T := by omega
        have HE : Hid (elE ds fs cs key = ps) := Lib.hid (by rw [Hf.out, Hps.out])
        go_wp2_with (go_at_call 37; (with_reducible refine (HCt.out _ Hbel.out).mono ?_); rintro e w' ⟨rfl, rfl⟩)
        go_ret
        exact ⟨_, rfl, by rw [HE.out]; exact Hov.out, Hbel.out⟩
end Go.Proofs.Ytmghbgnalkkppaa
