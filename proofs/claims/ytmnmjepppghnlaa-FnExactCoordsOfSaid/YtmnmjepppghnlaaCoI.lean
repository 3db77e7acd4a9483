/- Contracts of both CoordsOf. No statement is proved here. -/
import Derived.Test.YtmnmjepppghnlaaCoo
import Derived.Test.YtmnmjepppghnlaaIdx
namespace Go.Proofs.Ytmnmjepppghnlaa
open Go.RowKit
set_option linter.unusedVariables false
def CrdOk (ds : List Int) (i : Int) : Prop := 0 ≤ i ∧ i < countE ds
instance (ds : List Int) (i : Int) : Decidable (CrdOk ds i) := by unfold CrdOk; infer_instance
def crdA (ds : List Int) (i : Int) : List Int := if CrdOk ds i then crds ds i else []
/-- A new list, and nothing else changed. -/
def MadeL (L : List Int) (w : World) (e : Ending) (w' : World) : Prop := ∃ A c, e = .returned (.slice A L.length c) ∧ OI w' w.heap.size (.slice A L.length c) L ∧ Below w.heap.size w w'
theorem madeL_nil (w : World) : MadeL [] w (.returned (.slice none 0 0)) w := ⟨none, 0, rfl, ⟨by simp, .inl ⟨rfl, rfl⟩⟩, Below.refl _ _⟩
theorem foldl_zero (l : List Int) (a : Int) (h : a = 0 ∨ 0 ∈ l) : l.foldl (· * ·) a = 0 := by
  induction l generalizing a with
  | nil => rcases h with h | h; · simpa using h
           · simp at h
  | cons x l ih =>
    rw [List.foldl_cons]
    apply ih
    rcases h with rfl | h
    · exact .inl (by simp)
    · rcases List.mem_cons.1 h with rfl | h
      · exact .inl (by simp)
      · exact .inr h
theorem crdOk_facts {ds : List Int} {i : Int} (h : CrdOk ds i) : dimsOk ds = true ∧ ds.length ≤ 3 ∧ 0 ≤ i ∧ i < prodL ds ∧ i ≤ 1000 ∧ ∀ d ∈ ds, 0 < d ∧ d ≤ 40 := by
  obtain ⟨h0, h1⟩ := h
  have hd : dimsOk ds = true := by
    unfold countE at h1
    by_cases hd : dimsOk ds = true
    · exact hd
    · rw [if_neg hd] at h1; omega
  have hc : countE ds = prodL ds := by unfold countE; rw [if_pos hd]
  obtain ⟨hl, ha, hp⟩ := dimsOk_iff hd
  refine ⟨hd, hl, h0, by omega, by omega, fun d hdm => ?_⟩
  obtain ⟨k, hk, rfl⟩ := List.mem_iff_getElem.1 hdm
  have hb := allTo_at ha hk
  rw [inD_at ds k hk, inB_iff] at hb
  refine ⟨?_, hb.2⟩
  by_cases hz : ds[k] = 0
  · have : prodL ds = 0 := by
      unfold prodL prodK
      rw [List.take_length]
      exact foldl_zero ds 1 (.inr (hz ▸ hdm))
    omega
  · omega
theorem coordsOf_any {B : Nat} {w : World} {v : Value} {ds : List Int} {i : Int} (h : Ri B w v ds) (hB : B ≤ w.heap.size) (ho : CrdOk ds i) :
    Calls Try.prog 49 #[v, .int .i64 i] w (MadeL (crds ds i) w) := by
  obtain ⟨hd, hl, h0, _, hi, hp⟩ := crdOk_facts ho
  refine (callsIn_wide.1 (coordsOf_in Fence.wide 3 trivial trivial trivial rfl (by omega) h hB hl h0 hi hp)).mono ?_
  rintro e w' ⟨A1, rfl, hoi, hb⟩
  refine ⟨A1, ds.length, by rw [crds_length], by rw [crds_length]; exact hoi, hb⟩
theorem l05Coords_l {B : Nat} {w : World} {v : Value} {ds : List Int} {i : Int} (h : Ri B w v ds) (hB : B ≤ w.heap.size) (ho : CrdOk ds i) :
    Calls Try.prog 48 #[v, .int .i64 i] w (MadeL (crds ds i) w) := by
  obtain ⟨hd, hl, h0, _, hi, hp⟩ := crdOk_facts ho
  refine (l05Coords_any h hB hl h0 hi hp).mono ?_
  rintro e w' ⟨rfl, hoi, hb⟩
  refine ⟨_, ds.length, by rw [crds_length], by rw [crds_length]; exact hoi, hb⟩
set_option maxHeartbeats 400000 in
theorem implCoordsOf_any {B : Nat} {w : World} {v : Value} {ds : List Int} {i : Int} (h : Ri B w v ds) (hB : B ≤ w.heap.size) :
    Calls Try.prog 21 #[v, .int .i64 i] w (MadeL (crdA ds i) w) := by
  have H := Lib.hid h
  obtain ⟨A, cap, rfl, _⟩ := h
  by_cases hneg : i < 0
  · have hA : crdA ds i = [] := by unfold crdA; rw [if_neg (by unfold CrdOk; omega)]
    rw [hA]
    clear hA
    go_enter Try.func21, Try.ntmps21
    go_wp2_with fail
    go_ret
    exact madeL_nil w
  by_cases hlt : i < countE ds
  · have Hok : Hid (CrdOk ds i) := Lib.hid ⟨by omega, hlt⟩
    have hA : crdA ds i = crds ds i := by unfold crdA; rw [if_pos Hok.out]
    rw [hA]
    clear hA
    have HC := Lib.hid (implElementsOf_any H.out)
    generalize countE ds = c at *
    go_enter Try.func21, Try.ntmps21
    go_wp2_with fail
    refine HC.out.mono ?_
    rintro e w' ⟨rfl, rfl⟩
    go_wp2_with fail
    refine (coordsOf_any H.out hB Hok.out).mono ?_
    rintro e w1 ⟨A1, c1, rfl, ho, hb⟩
    have Ho := Lib.hid ho; have Hb := Lib.hid hb; clear ho hb
    go_wp2_with fail
    go_ret
    exact ⟨A1, c1, rfl, Ho.out, Hb.out⟩
  · have hA : crdA ds i = [] := by unfold crdA; rw [if_neg (by unfold CrdOk; omega)]
    rw [hA]
    clear hA
    have HC := Lib.hid (implElementsOf_any H.out)
    generalize countE ds = c at *
    go_enter Try.func21, Try.ntmps21
    go_wp2_with fail
    refine HC.out.mono ?_
    rintro e w' ⟨rfl, rfl⟩
    go_wp2_with fail
    go_ret
    exact madeL_nil w
set_option maxHeartbeats 400000 in
theorem specCoordsOf_any {B : Nat} {w : World} {v : Value} {ds : List Int} {i : Int} (h : Ri B w v ds) (hB : B ≤ w.heap.size) (hi : (Lit.int .i64 i).wf = true) :
    Calls Try.prog 20 #[v, .int .i64 i] w (MadeL (crdA ds i) w) := by
  have H := Lib.hid h; have HI := Lib.hid hi; clear hi
  obtain ⟨A, cap, rfl, _⟩ := h
  by_cases hd : dimsOk ds = true
  rotate_left
  · have hA : crdA ds i = [] := by unfold crdA; rw [if_neg (fun h => hd (crdOk_facts h).1)]
    rw [hA]
    clear hA
    have Hd : Hid (dimsOk ds = false) := Lib.hid (by simpa using hd)
    clear hd
    go_enter Try.func20, Try.ntmps20
    go_wp2_with fail
    refine (dims_no H.out Hd.out).mono ?_
    rintro e w' ⟨rfl, rfl⟩
    go_wp2_with fail
    go_ret
    exact madeL_nil w
  have Hd := Lib.hid hd
  have hcE : countE ds = prodL ds := by unfold countE; rw [if_pos hd]
  obtain ⟨hl, ha, hp⟩ := dimsOk_iff hd
  have hp0 : 0 ≤ prodL ds := (prodK_small ds hl ds.length (Nat.le_refl _) ha).1
  have HC := Lib.hid (l05Count_any H.out ⟨hl, ha⟩)
  clear hd ha
  by_cases hin : inB i 0 (prodL ds - 1) = true
  · have hin2 := inB_iff.1 hin
    have Hok : Hid (CrdOk ds i) := Lib.hid ⟨by omega, by omega⟩
    have hA : crdA ds i = crds ds i := by unfold crdA; rw [if_pos Hok.out]
    rw [hA]
    have Hin := Lib.hid hin
    clear hA hcE hin hin2
    generalize prodL ds = c at *
    have hw : IntKind.i64.wrap (c - 1) = c - 1 := IntWalk.i64_in _ (by omega)
    go_enter Try.func20, Try.ntmps20
    go_wp2_with fail
    refine (dims_yes H.out Hd.out).mono ?_
    rintro e w' ⟨rfl, rfl⟩
    go_wp2_with fail
    refine HC.out.mono ?_
    rintro e w' ⟨rfl, rfl⟩
    go_wp2_with fail
    refine (l00In_yes _ _ _ _ Hin.out).mono ?_
    rintro e w' ⟨rfl, rfl⟩
    go_wp2_with fail
    refine (l05Coords_l H.out hB Hok.out).mono ?_
    rintro e w1 ⟨A1, c1, rfl, ho, hb⟩
    have Ho := Lib.hid ho; have Hb := Lib.hid hb; clear ho hb
    go_wp2_with fail
    go_ret
    exact ⟨A1, c1, rfl, Ho.out, Hb.out⟩
  · have hA : crdA ds i = [] := by
      unfold crdA; rw [if_neg (fun h => hin (inB_iff.2 ⟨h.1, by have := h.2; omega⟩))]
    rw [hA]
    have Hin : Hid (inB i 0 (prodL ds - 1) = false) := Lib.hid (by simpa using hin)
    clear hA hcE hin
    generalize prodL ds = c at *
    have hw : IntKind.i64.wrap (c - 1) = c - 1 := IntWalk.i64_in _ (by omega)
    go_enter Try.func20, Try.ntmps20
    go_wp2_with fail
    refine (dims_yes H.out Hd.out).mono ?_
    rintro e w' ⟨rfl, rfl⟩
    go_wp2_with fail
    refine HC.out.mono ?_
    rintro e w' ⟨rfl, rfl⟩
    go_wp2_with fail
    refine (l00In_no _ _ _ _ Hin.out).mono ?_
    rintro e w' ⟨rfl, rfl⟩
    go_wp2_with fail
    go_ret
    exact madeL_nil w
end Go.Proofs.Ytmnmjepppghnlaa
