/- The contract of the program's Barrier. No statement is proved here. -/
import Derived.Test.YtpjkeikaonkohaaBaI
import Derived.Test.YtpjkeikaonkohaaWbI
import Derived.Test.YtpjkeikaonkohaaDkQ
namespace Go.Proofs.Ytpjkeikaonkohaa
open Go.RowKit
set_option linter.unusedVariables false
theorem barS_brR {ss : List ByteArray} {ps : List Pt} {fz : Int} (off : Bool) (h : dskOk ss ps fz = true) : barS ss ps fz off = brR ss ps fz off := by
  unfold barS brR
  obtain ⟨h1, h2⟩ := dskOk_all h
  have := putAll_br h1 h2 ps.length (Nat.le_refl _)
  rw [List.take_length] at this
  rw [this]
theorem brC_cases (fz : Int) (off : Bool) : brC fz off = 0 ∨ brC fz off = 13 := by
  unfold brC
  split
  · exact .inl rfl
  · exact .inr rfl
set_option maxHeartbeats 2000000 in
set_option maxRecDepth 100000 in
theorem implBarrier_gen {B : Nat} {w : World} {v1 v2 : Value} {ss : List ByteArray} {ps : List Pt} {fz : Int} {off : Bool} (h1 : RiT B w v1 ss) (h2 : RiU B w v2 ps) (hB : B ≤ w.heap.size) :
    Calls Try.prog 37 #[.agg #[v1, v2, .int .i64 fz, .bool off]] w (AnsDC (baS ss ps fz off) (baP ss ps fz off) (baF ss ps fz off) (baO ss ps fz off) (baC ss ps fz off) w) := by
  have H1 := Lib.hid h1; obtain ⟨A1, c1, rfl, hl1, hm1, -⟩ := h1
  have H2 := Lib.hid h2; obtain ⟨A2, c2, rfl, -, -, -⟩ := h2
  have HB := Lib.hid (boxes2 w #[.slice A1 ss.length c1, .slice A2 ps.length c2, .int .i64 fz, .bool off] #[.slice none 0 0, .slice none 0 0, .int .i64 0, .bool false] 30 30)
  go_enter Try.func37, Try.ntmps37
  go_wp2_with fail
  generalize ((w.alloc (.cells #[.slice A1 ss.length c1, .slice A2 ps.length c2, .int .i64 fz, .bool off] 30)).alloc (.cells #[.slice none 0 0, .slice none 0 0, .int .i64 0, .bool false] 30)) = w0 at *
  refine (driveOf_any (H1.out.at hB HB.out.2.2.2) (H2.out.at hB HB.out.2.2.2) (Nat.le_refl _)).mono ?_
  rintro e w1 (⟨hok, rfl, g⟩ | ⟨hok, D, S, A, m, c, rfl, hd, g⟩)
  · have E : Hid (baS ss ps fz off = [] ∧ baP ss ps fz off = [] ∧ baF ss ps fz off = 0 ∧ baO ss ps fz off = false ∧ baC ss ps fz off = 1) := Lib.hid ⟨by simp [baS, hok], by simp [baP, hok], by simp [baF, hok], by simp [baO, hok], by simp [baC, hok]⟩
    have R1 : Hid (w1.heap[w.heap.size + 1]? = some (.cells #[.slice none 0 0, .slice none 0 0, .int .i64 0, .bool false] 30 (0, 0))) := Lib.hid ((g.block _ (by have := HB.out.2.2.1; omega)).trans HB.out.2.1)
    have B1 : Hid (Below w.heap.size w w1) := Lib.hid (HB.out.2.2.2.trans (g.mono HB.out.2.2.2.size))
    clear g hok
    go_wp2_with (refine wpList_store_row rfl 30 (.tmp 2) (.tmp 13) rfl (w.heap.size + 1) #[.slice none 0 0, .slice none 0 0, .int .i64 0, .bool false] rfl rfl 30 _ R1.out (infoD4 _ _ _ _) rfl oneD4 ?_)
    refine bodyPost_ret (v := .tuple #[.agg #[.slice none 0 0, .slice none 0 0, .int .i64 0, .bool false], .int .i64 1]) ?_ rfl ?_
    · exact results_cell_row2 rfl _ _ (w.heap.size + 1) 30 _ (0, 0) _ _ rfl rfl (setRow_heap _ _ _ _ _ _ R1.out) Try.underlying30 rfl (by kernel_rfl)
    · rw [E.out.1, E.out.2.1, E.out.2.2.1, E.out.2.2.2.1, E.out.2.2.2.2]
      exact DskO.ans (DskO.nil _ _) (below_setRow B1.out (Nat.le_succ _) _)
  have R1 : Hid (w1.heap[w.heap.size + 1]? = some (.cells #[.slice none 0 0, .slice none 0 0, .int .i64 0, .bool false] 30 (0, 0))) := Lib.hid ((g.block _ (by have := HB.out.2.2.1; omega)).trans HB.out.2.1)
  have B1 : Hid (Below w.heap.size w w1) := Lib.hid (HB.out.2.2.2.trans (g.mono HB.out.2.2.2.size))
  have Hd := Lib.hid hd
  have Hlo : Hid (w.heap.size + 2 ≤ D ∧ w.heap.size + 2 ≤ S ∧ w0.heap.size = w.heap.size + 2 ∧ w0.heap.size ≤ w1.heap.size) := Lib.hid ⟨by have := hd.loD; have := HB.out.2.2.1; omega, by have := hd.loS; have := HB.out.2.2.1; omega, HB.out.2.2.1, g.size⟩
  have hdk := dskOk_iff.1 hok
  have Hall : Hid (∀ p ∈ ps, (0 ≤ p.1 ∧ p.1 < (ss.length : Int)) ∧ p.2.size ≤ 64) := Lib.hid (fun p hp => ⟨((dskOk_all hok).2 p hp).1, by rw [((dskOk_all hok).2 p hp).2]; exact Nat.le_refl _⟩)
  have Hbd : Hid (ps.length ≤ 600 ∧ -1 ≤ fz ∧ fz ≤ 100000) := Lib.hid ⟨hdk.2.2.1, hdk.2.2.2.1, hdk.2.2.2.2.1⟩
  have E : Hid (baS ss ps fz off = barS ss ps fz off ∧ baP ss ps fz off = brP ps fz off ∧ baF ss ps fz off = pwF fz off ∧ baO ss ps fz off = pwO fz off ∧ baC ss ps fz off = brC fz off) := Lib.hid ⟨by simp [baS, hok, barS_brR off hok], by simp [baP, hok], by simp [baF, hok], by simp [baO, hok], by simp [baC, hok]⟩
  clear g hd hdk hok
  go_wp2_with fail
  refine (barrier_any Hd.out (by have := Hlo.out; omega) Hbd.out.1 Hbd.out.2 Hall.out).mono ?_
  rintro e w2 ⟨rfl, A3, m3, c3, hd2, hb2⟩
  have Hd2 := Lib.hid hd2
  have B2 : Hid (Below w.heap.size w w2) := Lib.hid (B1.out.trans (hb2.mono (by have := Hlo.out; omega)))
  have R2 : Hid (w2.heap[w.heap.size + 1]? = some (.cells #[.slice none 0 0, .slice none 0 0, .int .i64 0, .bool false] 30 (0, 0))) := Lib.hid ((hb2.block _ (by have := Hlo.out; omega)).trans R1.out)
  have Z2 : Hid (w.heap.size + 2 ≤ w2.heap.size) := Lib.hid (by have := hb2.size; have := Hlo.out; omega)
  clear hd2 hb2
  have HC5 := Lib.hid (brC_cases fz off)
  generalize brC fz off = C at *
  generalize barS ss ps fz off = S2 at *
  generalize brP ps fz off = P2 at *
  generalize pwF fz off = F2 at *
  generalize pwO fz off = O2 at *
  go_wp2_with fail
  refine (after_yes Hd2.out HC5.out).mono ?_
  rintro e w3 ⟨v1, rfl, ho, hg⟩
  obtain ⟨Ao, mo, co, rfl⟩ := OT.slv ho
  have HO := Lib.hid ho; have B3 := Lib.hid (B2.out.trans (hg.mono B2.out.size))
  have R3 : Hid (w3.heap[w.heap.size + 1]? = some (.cells #[.slice none 0 0, .slice none 0 0, .int .i64 0, .bool false] 30 (0, 0))) := Lib.hid ((hg.block _ (by have := Z2.out; omega)).trans R2.out)
  have HU : Hid (OU w3 (w.heap.size + 2) (.slice A3 m3 c3) P2) := Lib.hid (own_lo (own_bel Hd2.out.pend hg) (by have := Hlo.out; omega))
  clear ho hg
  go_wp2_with (refine wpList_store_row rfl 30 (.tmp 2) (.tmp 18) rfl (w.heap.size + 1) #[.slice Ao mo co, .slice A3 m3 c3, .int .i64 F2, .bool O2] rfl rfl 30 _ R3.out (infoD4 _ _ _ _) rfl oneD4 ?_)
  refine bodyPost_ret (v := .tuple #[.agg #[.slice Ao mo co, .slice A3 m3 c3, .int .i64 F2, .bool O2], .int .i64 C]) ?_ rfl ?_
  · exact results_cell_row2 rfl _ _ (w.heap.size + 1) 30 _ (0, 0) _ _ rfl rfl (setRow_heap _ _ _ _ _ _ R3.out) Try.underlying30 rfl (by kernel_rfl)
  · rw [E.out.1, E.out.2.1, E.out.2.2.1, E.out.2.2.2.1, E.out.2.2.2.2]
    refine DskO.ans ⟨own_lo (own_same HO.out fun q hq => setRow_other _ _ q _ (by have := (own_wi HO.out q hq).1; have := Z2.out; omega)) (by have := Z2.out; omega), own_lo (own_same HU.out fun q hq => setRow_other _ _ q _ (by have := (own_wi HU.out q hq).1; omega)) (by omega), ?_⟩ (below_setRow B3.out (Nat.le_succ _) _)
    exact OT.ap (own_lo HO.out (Nat.zero_le _)) (own_lo HU.out (Nat.zero_le _))
theorem implBarrier_any {w : World} {A1 A2 : Option Addr} {ss : List ByteArray} {ps : List Pt} {fz : Int} {off : Bool} (h1 : RiT w.heap.size w (.slice A1 ss.length ss.length) ss) (h2 : RiU w.heap.size w (.slice A2 ps.length ps.length) ps) :
    Calls Try.prog 37 #[.agg #[.slice A1 ss.length ss.length, .slice A2 ps.length ps.length, .int .i64 fz, .bool off]] w (AnsDC (baS ss ps fz off) (baP ss ps fz off) (baF ss ps fz off) (baO ss ps fz off) (baC ss ps fz off) w) := implBarrier_gen h1 h2 (Nat.le_refl _)
end Go.Proofs.Ytpjkeikaonkohaa
