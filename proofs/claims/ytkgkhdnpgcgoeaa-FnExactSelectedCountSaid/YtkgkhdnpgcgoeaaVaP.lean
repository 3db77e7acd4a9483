/- Contract of the program's reading of a selection within dimensions. No statement is proved here. -/
import Derived.Test.YtkgkhdnpgcgoeaaVaI
namespace Go.Proofs.Ytkgkhdnpgcgoeaa
open Go.RowKit
set_option linter.unusedVariables false
theorem formed_kind {k : Int} {S T C K : List Int} {ps : List (List Int)} (h : formedB k S T C K ps = true) : k = 1 ∨ k = 2 ∨ (k = 3 ∧ slabOk S T C K = true) ∨ (k = 4 ∧ ptsOk ps = true) := by
  unfold formedB at h
  by_cases h12 : k = 1 ∨ k = 2
  · rcases h12 with h | h
    · exact .inl h
    · exact .inr (.inl h)
  rw [if_neg h12] at h
  by_cases h3 : k = 3
  · rw [if_pos h3, Bool.and_eq_true] at h
    exact .inr (.inr (.inl ⟨h3, h.2⟩))
  rw [if_neg h3] at h
  by_cases h4 : k = 4
  · rw [if_pos h4, Bool.and_eq_true] at h
    exact .inr (.inr (.inr ⟨h4, h.2⟩))
  rw [if_neg h4] at h
  cases h
theorem slabWithin_r {B : Nat} {w : World} {u : Value} {ds S T C K : List Int} {b : Nat} {r : Bool} (h0 : Ri B w u ds) (hB : B ≤ w.heap.size) (hs : SlabAt w b S T C K S.length) (hb : b < w.heap.size) (hok : slabOk S T C K = true) (hr : slabIn ds S T C K = r) :
    Calls Try.prog 118 #[.slice (some ⟨b, 0, none⟩) S.length S.length, u] w (GivesB (.bool r) w) := by
  subst hr
  exact slabWithin_any h0 hB hs hb hok
theorem PickOk.below {w w' : World} {lo : Nat} {k : Int} {S T C K : List Int} {v5 p : Value} (h : PickOk w lo k S T C K v5 p) (g : Below w.heap.size w w') : PickOk w' lo k S T C K v5 p := by
  obtain ⟨h1, h2, h3, h4⟩ := h
  refine ⟨h1, h2, fun hk => ?_, h4⟩
  obtain ⟨b, hb, hl, hp, hs⟩ := h3 hk
  exact ⟨b, by have := g.size; omega, hl, hp, hs.same (g.block b hb)⟩
theorem PickOk.lo {w : World} {lo lo' : Nat} {k : Int} {S T C K : List Int} {v5 p : Value} (h : PickOk w lo k S T C K v5 p) (g : lo' ≤ lo) : PickOk w lo' k S T C K v5 p := by
  obtain ⟨h1, h2, h3, h4⟩ := h
  refine ⟨h1, h2, fun hk => ?_, h4⟩
  obtain ⟨b, hb, hl, hp, hs⟩ := h3 hk
  exact ⟨b, hb, by omega, hp, hs⟩
set_option maxHeartbeats 4000000 in
set_option maxRecDepth 100000 in
theorem pickerWithin_any {B : Nat} {w : World} {k : Int} {v0 v1 v2 v3 v4 v5 : Value} {ds S T C K : List Int} {ps : List (List Int)} (h0 : Ri B w v0 ds) (h1 : Ri B w v1 S) (h2 : Ri B w v2 T) (h3 : Ri B w v3 C) (h4 : Ri B w v4 K) (h5 : RiP B w v5 ps) (hB : B ≤ w.heap.size)
    (hs : S.length ≤ 1048576 ∧ T.length ≤ 1048576 ∧ C.length ≤ 1048576 ∧ K.length ≤ 1048576) :
    Calls Try.prog 43 #[v0, .agg #[.int .i64 k, v1, v2, v3, v4, v5]] w (PickRes (validB ds k S T C K ps) k S T C K v5 w) := by
  have H0 := Lib.hid h0; have H1 := Lib.hid h1; have H2 := Lib.hid h2; have H3 := Lib.hid h3; have H4 := Lib.hid h4; have H5 := Lib.hid h5; have Hs := Lib.hid hs
  obtain ⟨A0, c0, rfl, -, -, -⟩ := h0
  obtain ⟨A1, c1, rfl, -, -, -⟩ := h1
  obtain ⟨A2, c2, rfl, -, -, -⟩ := h2
  obtain ⟨A3, c3, rfl, -, -, -⟩ := h3
  obtain ⟨A4, c4, rfl, -, -, -⟩ := h4
  obtain ⟨A5, c5, rfl, -, -, -⟩ := h5
  clear hs
  have Hb0 : Hid (Below w.heap.size w (w.alloc (.cells #[.int .i64 k, .slice A1 S.length c1, .slice A2 T.length c2, .slice A3 C.length c3, .slice A4 K.length c4, .slice A5 ps.length c5] 30))) := Lib.hid ((Below.refl _ w).alloc (Nat.le_refl _) _)
  have HP := Lib.hid (pickerOf_any k (H1.out.at hB Hb0.out) (H2.out.at hB Hb0.out) (H3.out.at hB Hb0.out) (H4.out.at hB Hb0.out) (H5.out.at hB Hb0.out) (Nat.le_refl _) Hs.out.1 Hs.out.2.1 Hs.out.2.2.1 Hs.out.2.2.2)
  generalize hr : validB ds k S T C K ps = r
  unfold validB at hr
  generalize hfo : formedB k S T C K ps = fo at *
  have Hfo := Lib.hid hfo; have Hr := Lib.hid hr
  clear hfo hr
  go_enter Try.func43, Try.ntmps43
  go_wp2_with fail
  refine HP.out.mono ?_
  rintro e w1 ⟨g, p, rfl, hp⟩
  have Hb1 : Hid (Below w.heap.size w w1) := Lib.hid (Hb0.out.trans (g.mono Hb0.out.size))
  have hg1 := g.size
  have Hp := Lib.hid hp
  have hlow : w.heap.size ≤ (w.alloc (.cells #[.int .i64 k, .slice A1 S.length c1, .slice A2 T.length c2, .slice A3 C.length c3, .slice A4 K.length c4, .slice A5 ps.length c5] 30)).heap.size := Hb0.out.size
  have Hlow := Lib.hid hlow
  clear g hp hg1 hlow
  cases fo
  · obtain rfl : false = r := by rw [← Hr.out]; simp
    clear Hr Hp HP
    go_wp2_with fail
    go_ret2
    exact PickRes.no _ Hb1.out
  have Hp2 : Hid (PickOk w1 w.heap.size k S T C K (.slice A5 ps.length c5) p) := Lib.hid ((Hp.out rfl).lo Hlow.out)
  clear Hp HP
  by_cases hd : dimsOk ds = true
  rotate_left
  · have Hd : Hid (dimsOk ds = false) := Lib.hid (by simpa using hd)
    obtain rfl : false = r := by rw [← Hr.out, Hd.out]; rfl
    clear hd Hr
    go_wp2_with (go_at_call 75; (with_reducible refine (valid_no (H0.out.at hB Hb1.out) Hd.out).mono ?_); rintro e w' ⟨rfl, rfl⟩)
    go_ret2
    exact PickRes.no _ Hb1.out
  have Hd := Lib.hid hd
  have Hr2 : Hid (kindIn ds k S T C K ps = r) := Lib.hid (by rw [← Hr.out, hd]; rfl)
  clear hd Hr
  rcases formed_kind Hfo.out with rfl | rfl | ⟨rfl, hso⟩ | ⟨rfl, hpo⟩
  · obtain rfl : true = r := by rw [← Hr2.out]; rfl
    obtain rfl := Hp2.out.1 rfl
    clear Hr2
    go_wp2_with (first | (go_at_call 75; (with_reducible refine (valid_yes (H0.out.at hB Hb1.out) Hd.out).mono ?_); rintro e w' ⟨rfl, rfl⟩) | fail)
    refine (withinAll _ _).mono ?_
    rintro e w2 ⟨rfl, g⟩
    have Hb2 : Hid (Below w.heap.size w w2) := Lib.hid (Hb1.out.trans (g.mono Hb1.out.size))
    have Hp3 := Lib.hid (Hp2.out.below g)
    clear g
    go_wp2_with fail
    go_ret2
    exact PickRes.yes Hb2.out Hp3.out
  · obtain rfl : true = r := by rw [← Hr2.out]; rfl
    obtain rfl := Hp2.out.2.1 rfl
    clear Hr2
    go_wp2_with (first | (go_at_call 75; (with_reducible refine (valid_yes (H0.out.at hB Hb1.out) Hd.out).mono ?_); rintro e w' ⟨rfl, rfl⟩) | fail)
    refine (withinNone _ _).mono ?_
    rintro e w2 ⟨rfl, g⟩
    have Hb2 : Hid (Below w.heap.size w w2) := Lib.hid (Hb1.out.trans (g.mono Hb1.out.size))
    have Hp3 := Lib.hid (Hp2.out.below g)
    clear g
    go_wp2_with fail
    go_ret2
    exact PickRes.yes Hb2.out Hp3.out
  · obtain ⟨b, hb, hlo, rfl, hsl⟩ := Hp2.out.2.2.1 rfl
    have Hso := Lib.hid hso; have Hsl := Lib.hid hsl
    have Hr3 : Hid (slabIn ds S T C K = r) := Lib.hid (by rw [← Hr2.out]; rfl)
    clear Hr2 hso hsl
    go_wp2_with (first | (go_at_call 75; (with_reducible refine (valid_yes (H0.out.at hB Hb1.out) Hd.out).mono ?_); rintro e w' ⟨rfl, rfl⟩) | fail)
    refine (slabWithin_r (H0.out.at hB Hb1.out) (Nat.le_refl _) Hsl.out hb Hso.out Hr3.out).mono ?_
    rintro e w2 ⟨rfl, g⟩
    have Hb2 : Hid (Below w.heap.size w w2) := Lib.hid (Hb1.out.trans (g.mono Hb1.out.size))
    have Hp3 := Lib.hid (Hp2.out.below g)
    clear g
    cases r
    · go_wp2_with fail
      go_ret2
      exact PickRes.no _ Hb2.out
    · go_wp2_with fail
      go_ret2
      exact PickRes.yes Hb2.out Hp3.out
  · obtain rfl := Hp2.out.2.2.2 rfl
    have Hr3 : Hid (withinB ds ps = r) := Lib.hid (by rw [← Hr2.out]; rfl)
    clear Hr2 hpo
    go_wp2_with (first | (go_at_call 75; (with_reducible refine (valid_yes (H0.out.at hB Hb1.out) Hd.out).mono ?_); rintro e w' ⟨rfl, rfl⟩) | fail)
    refine (within_r (H5.out.at hB Hb1.out) (H0.out.at hB Hb1.out) (Nat.le_refl _) Hr3.out).mono ?_
    rintro e w2 ⟨rfl, g⟩
    have Hb2 : Hid (Below w.heap.size w w2) := Lib.hid (Hb1.out.trans (g.mono Hb1.out.size))
    have Hp3 := Lib.hid (Hp2.out.below g)
    clear g
    cases r
    · go_wp2_with fail
      go_ret2
      exact PickRes.no _ Hb2.out
    · go_wp2_with fail
      go_ret2
      exact PickRes.yes Hb2.out Hp3.out
set_option maxHeartbeats 1000000 in
set_option maxRecDepth 100000 in
theorem implValidSel_any {B : Nat} {w : World} {k : Int} {v0 v1 v2 v3 v4 v5 : Value} {ds S T C K : List Int} {ps : List (List Int)} (h0 : Ri B w v0 ds) (h1 : Ri B w v1 S) (h2 : Ri B w v2 T) (h3 : Ri B w v3 C) (h4 : Ri B w v4 K) (h5 : RiP B w v5 ps) (hB : B ≤ w.heap.size)
    (hs : S.length ≤ 1048576 ∧ T.length ≤ 1048576 ∧ C.length ≤ 1048576 ∧ K.length ≤ 1048576) :
    Calls Try.prog 18 #[v0, .agg #[.int .i64 k, v1, v2, v3, v4, v5]] w (GivesB (.bool (validB ds k S T C K ps)) w) := by
  have H0 := Lib.hid h0; have H1 := Lib.hid h1; have H2 := Lib.hid h2; have H3 := Lib.hid h3; have H4 := Lib.hid h4; have H5 := Lib.hid h5; have Hs := Lib.hid hs
  obtain ⟨A0, c0, rfl, -, -, -⟩ := h0
  obtain ⟨A1, c1, rfl, -, -, -⟩ := h1
  obtain ⟨A2, c2, rfl, -, -, -⟩ := h2
  obtain ⟨A3, c3, rfl, -, -, -⟩ := h3
  obtain ⟨A4, c4, rfl, -, -, -⟩ := h4
  obtain ⟨A5, c5, rfl, -, -, -⟩ := h5
  clear hs
  have Hb0 : Hid (Below w.heap.size w (w.alloc (.cells #[.int .i64 k, .slice A1 S.length c1, .slice A2 T.length c2, .slice A3 C.length c3, .slice A4 K.length c4, .slice A5 ps.length c5] 30))) := Lib.hid ((Below.refl _ w).alloc (Nat.le_refl _) _)
  have HP := Lib.hid (pickerWithin_any (k := k) (H0.out.at hB Hb0.out) (H1.out.at hB Hb0.out) (H2.out.at hB Hb0.out) (H3.out.at hB Hb0.out) (H4.out.at hB Hb0.out) (H5.out.at hB Hb0.out) (Nat.le_refl _) Hs.out)
  generalize validB ds k S T C K ps = r at *
  go_enter Try.func18, Try.ntmps18
  go_wp2_with fail
  refine HP.out.mono ?_
  rintro e w1 ⟨g, p, rfl, hp⟩
  have Hb1 : Hid (Below w.heap.size w w1) := Lib.hid (Hb0.out.trans (g.mono Hb0.out.size))
  clear g hp
  go_wp2_with fail
  go_ret
  exact ⟨rfl, Hb1.out⟩
set_option maxHeartbeats 1000000 in
set_option maxRecDepth 100000 in
theorem specValidSel_any {B : Nat} {w : World} {k : Int} {v0 v1 v2 v3 v4 v5 : Value} {ds S T C K : List Int} {ps : List (List Int)} (h0 : Ri B w v0 ds) (h1 : Ri B w v1 S) (h2 : Ri B w v2 T) (h3 : Ri B w v3 C) (h4 : Ri B w v4 K) (h5 : RiP B w v5 ps) (hB : B ≤ w.heap.size) :
    Calls Try.prog 16 #[v0, .agg #[.int .i64 k, v1, v2, v3, v4, v5]] w (GivesB (.bool (validB ds k S T C K ps)) w) := by
  have H0 := Lib.hid h0; have H1 := Lib.hid h1; have H2 := Lib.hid h2; have H3 := Lib.hid h3; have H4 := Lib.hid h4; have H5 := Lib.hid h5
  obtain ⟨A0, c0, rfl, -, -, -⟩ := h0
  obtain ⟨A1, c1, rfl, -, -, -⟩ := h1
  obtain ⟨A2, c2, rfl, -, -, -⟩ := h2
  obtain ⟨A3, c3, rfl, -, -, -⟩ := h3
  obtain ⟨A4, c4, rfl, -, -, -⟩ := h4
  obtain ⟨A5, c5, rfl, -, -, -⟩ := h5
  have Hb0 : Hid (Below w.heap.size w (w.alloc (.cells #[.int .i64 k, .slice A1 S.length c1, .slice A2 T.length c2, .slice A3 C.length c3, .slice A4 K.length c4, .slice A5 ps.length c5] 30))) := Lib.hid ((Below.refl _ w).alloc (Nat.le_refl _) _)
  have HP := Lib.hid (l06Valid_any (k := k) (H0.out.at hB Hb0.out) (H1.out.at hB Hb0.out) (H2.out.at hB Hb0.out) (H3.out.at hB Hb0.out) (H4.out.at hB Hb0.out) (H5.out.at hB Hb0.out) (Nat.le_refl _))
  generalize validB ds k S T C K ps = r at *
  go_enter Try.func16, Try.ntmps16
  go_wp2_with fail
  refine HP.out.mono ?_
  rintro e w1 ⟨rfl, g⟩
  have Hb1 : Hid (Below w.heap.size w w1) := Lib.hid (Hb0.out.trans (g.mono Hb0.out.size))
  clear g
  go_wp2_with fail
  go_ret
  exact ⟨rfl, Hb1.out⟩
end Go.Proofs.Ytkgkhdnpgcgoeaa
