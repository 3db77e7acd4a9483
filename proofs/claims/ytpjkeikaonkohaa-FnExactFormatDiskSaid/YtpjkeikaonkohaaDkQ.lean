/- Barrier: the model's function. No statement is proved here. -/
import Derived.Test.YtpjkeikaonkohaaDkB
namespace Go.Proofs.Ytpjkeikaonkohaa
open Go.RowKit
set_option linter.unusedVariables false
def baC (ss : List ByteArray) (ps : List Pt) (fz : Int) (off : Bool) : Int := if dskOk ss ps fz then brC fz off else 1
def baS (ss : List ByteArray) (ps : List Pt) (fz : Int) (off : Bool) : List ByteArray := if dskOk ss ps fz then brR ss ps fz off else []
def baP (ss : List ByteArray) (ps : List Pt) (fz : Int) (off : Bool) : List Pt := if dskOk ss ps fz then brP ps fz off else []
def baF (ss : List ByteArray) (ps : List Pt) (fz : Int) (off : Bool) : Int := if dskOk ss ps fz then pwF fz off else 0
def baO (ss : List ByteArray) (ps : List Pt) (fz : Int) (off : Bool) : Bool := if dskOk ss ps fz then pwO fz off else false
theorem dskOk_pend {ss : List ByteArray} {ps : List Pt} {fz : Int} (h : dskOk ss ps fz = true) (i : Nat) (hi : i < ps.length) : 0 ≤ ps[i].1 ∧ ps[i].1 < ss.length := by
  have h1 := (dskOk_iff.1 h).2.2.2.2.2.2
  have h2 : pdAt ss.length ps i = true := by
    cases hp : pdAt ss.length ps i
    · rw [allTo_bad _ i _ hi hp] at h1; cases h1
    · rfl
  rw [pdAt_at _ _ _ hi, Bool.and_eq_true, inB_iff] at h2
  omega
set_option maxHeartbeats 2000000 in
set_option maxRecDepth 100000 in
theorem specBarrier_any {w : World} {A1 A2 : Option Addr} {ss : List ByteArray} {ps : List Pt} {fz : Int} {off : Bool} (h1 : RiT w.heap.size w (.slice A1 ss.length ss.length) ss) (h2 : RiU w.heap.size w (.slice A2 ps.length ps.length) ps) :
    Calls Try.prog 36 #[.agg #[.slice A1 ss.length ss.length, .slice A2 ps.length ps.length, .int .i64 fz, .bool off]] w (AnsDC (baS ss ps fz off) (baP ss ps fz off) (baF ss ps fz off) (baO ss ps fz off) (baC ss ps fz off) w) := by
  have H1 := Lib.hid h1; have H2 := Lib.hid h2
  clear h1 h2
  have B0 : Hid (Below w.heap.size w ((w.alloc (.cells #[.slice A1 ss.length ss.length, .slice A2 ps.length ps.length, .int .i64 fz, .bool off] 30)).alloc (.cells #[.slice none 0 0, .slice none 0 0, .int .i64 0, .bool false] 30))) := Lib.hid (((Below.refl _ w).alloc (Nat.le_refl _) _).alloc (by simp) _)
  have G0 : Hid (DB ((w.alloc (.cells #[.slice A1 ss.length ss.length, .slice A2 ps.length ps.length, .int .i64 fz, .bool off] 30)).alloc (.cells #[.slice none 0 0, .slice none 0 0, .int .i64 0, .bool false] 30)) w.heap.size (.slice A1 ss.length ss.length) (.slice A2 ps.length ps.length) fz off) := Lib.hid (((Below.refl _ (w.alloc (.cells #[.slice A1 ss.length ss.length, .slice A2 ps.length ps.length, .int .i64 fz, .bool off] 30))).alloc (Nat.le_refl _) _ |>.block _ (by simp)).trans (heap_alloc_new w _))
  have R0 : Hid (((w.alloc (.cells #[.slice A1 ss.length ss.length, .slice A2 ps.length ps.length, .int .i64 fz, .bool off] 30)).alloc (.cells #[.slice none 0 0, .slice none 0 0, .int .i64 0, .bool false] 30)).heap[w.heap.size + 1]? = some (.cells #[.slice none 0 0, .slice none 0 0, .int .i64 0, .bool false] 30 (0, 0))) := Lib.hid (by
    have h := heap_alloc_new (w.alloc (.cells #[.slice A1 ss.length ss.length, .slice A2 ps.length ps.length, .int .i64 fz, .bool off] 30)) (.cells #[.slice none 0 0, .slice none 0 0, .int .i64 0, .bool false] 30)
    rwa [show (w.alloc (.cells #[.slice A1 ss.length ss.length, .slice A2 ps.length ps.length, .int .i64 fz, .bool off] 30)).heap.size = w.heap.size + 1 from by simp] at h)
  have Z0 : Hid (((w.alloc (.cells #[.slice A1 ss.length ss.length, .slice A2 ps.length ps.length, .int .i64 fz, .bool off] 30)).alloc (.cells #[.slice none 0 0, .slice none 0 0, .int .i64 0, .bool false] 30)).heap.size = w.heap.size + 2) := Lib.hid (by simp)
  cases hok : dskOk ss ps fz
  · have e1 : baS ss ps fz off = [] := by simp [baS, hok]
    have e2 : baP ss ps fz off = [] := by simp [baP, hok]
    have e3 : baF ss ps fz off = 0 := by simp [baF, hok]
    have e4 : baO ss ps fz off = false := by simp [baO, hok]
    have e5 : baC ss ps fz off = 1 := by simp [baC, hok]
    rw [e1, e2, e3, e4, e5]
    clear e1 e2 e3 e4 e5
    go_enter Try.func36, Try.ntmps36
    go_wp2_with fail
    generalize ((w.alloc (.cells #[.slice A1 ss.length ss.length, .slice A2 ps.length ps.length, .int .i64 fz, .bool off] 30)).alloc (.cells #[.slice none 0 0, .slice none 0 0, .int .i64 0, .bool false] 30)) = w0 at *
    refine (l09Ok_any hok G0.out (H1.out.at (Nat.le_refl _) B0.out) (H2.out.at (Nat.le_refl _) B0.out)).mono ?_
    rintro e w1 ⟨rfl, rfl⟩
    go_wp2_with (refine wpList_store_row rfl 30 (.tmp 2) (.tmp 8) rfl (w.heap.size + 1) #[.slice none 0 0, .slice none 0 0, .int .i64 0, .bool false] rfl rfl 30 _ R0.out (infoD4 _ _ _ _) rfl oneD4 ?_)
    refine bodyPost_ret (v := .tuple #[.agg #[.slice none 0 0, .slice none 0 0, .int .i64 0, .bool false], .int .i64 1]) ?_ rfl ?_
    · exact results_cell_row2 rfl _ _ (w.heap.size + 1) 30 _ (0, 0) _ _ rfl rfl (setRow_heap _ _ _ _ _ _ R0.out) Try.underlying30 rfl (by kernel_rfl)
    · exact DskO.ans (DskO.nil _ _) (below_setRow B0.out (Nat.le_succ _) _)
  have e1 : baS ss ps fz off = brR ss ps fz off := by simp [baS, hok]
  have e2 : baP ss ps fz off = brP ps fz off := by simp [baP, hok]
  have e3 : baF ss ps fz off = pwF fz off := by simp [baF, hok]
  have e4 : baO ss ps fz off = pwO fz off := by simp [baO, hok]
  have e5 : baC ss ps fz off = brC fz off := by simp [baC, hok]
  rw [e1, e2, e3, e4, e5]
  clear e1 e2 e3 e4 e5
  have hl : (ss.length ≤ 256 ∧ ps.length ≤ 600) ∧ -1 ≤ fz ∧ fz ≤ 100000 := by have := dskOk_iff.1 hok; omega
  have Hl := Lib.hid hl; clear hl
  have HW := Lib.hid (fun (W : World) (lo g : Nat) (v1 v2 : Value) (a1 : DB W g v1 v2 fz off) (a2 : OT W lo v1 ss) (a3 : OU W lo v2 ps) (a4 : lo ≤ g) => l09Barrier_any a1 a2 a3 a4 Hl.out.1 (by have := Hl.out; unfold InI; omega) (fun i hi => dskOk_pend hok i hi))
  go_enter Try.func36, Try.ntmps36
  go_wp2_with fail
  generalize ((w.alloc (.cells #[.slice A1 ss.length ss.length, .slice A2 ps.length ps.length, .int .i64 fz, .bool off] 30)).alloc (.cells #[.slice none 0 0, .slice none 0 0, .int .i64 0, .bool false] 30)) = w0 at *
  refine (l09Ok_any hok G0.out (H1.out.at (Nat.le_refl _) B0.out) (H2.out.at (Nat.le_refl _) B0.out)).mono ?_
  rintro e w1 ⟨rfl, rfl⟩
  go_wp2_with fail
  refine (l09Own_any G0.out (H1.out.at (Nat.le_refl _) B0.out) (H2.out.at (Nat.le_refl _) B0.out) (by have := Hl.out; omega) (by have := Hl.out; omega)).mono ?_
  rintro e w1 ⟨v1, v2, rfl, hd, g⟩
  obtain ⟨E1, d1, rfl⟩ := hd.1.ex
  obtain ⟨E2, d2, rfl⟩ := hd.2.1.ex
  have HD := Lib.hid hd; have G := Lib.hid g; clear hd g
  have Q1 : Hid (DB (w1.alloc (.cells #[.slice E1 ss.length d1, .slice E2 ps.length d2, .int .i64 fz, .bool off] 30)) w1.heap.size (.slice E1 ss.length d1) (.slice E2 ps.length d2) fz off) := Lib.hid (heap_alloc_new w1 _)
  have R1 : Hid ((w1.alloc (.cells #[.slice E1 ss.length d1, .slice E2 ps.length d2, .int .i64 fz, .bool off] 30)).heap[w.heap.size + 1]? = some (.cells #[.slice none 0 0, .slice none 0 0, .int .i64 0, .bool false] 30 (0, 0))) := Lib.hid (((Below.refl _ w1).alloc (Nat.le_refl _) _ |>.block _ (by have := Z0.out; have := G.out.size; omega)).trans ((G.out.block _ (by have := Z0.out; omega)).trans R0.out))
  have D1 : Hid (DskO (w1.alloc (.cells #[.slice E1 ss.length d1, .slice E2 ps.length d2, .int .i64 fz, .bool off] 30)) (w.heap.size + 2) (.slice E1 ss.length d1) (.slice E2 ps.length d2) ss ps) := Lib.hid (DskO.bel (Z0.out ▸ HD.out) ((Below.refl _ _).alloc (Nat.le_refl _) _))
  have B1 : Hid (Below w.heap.size w (w1.alloc (.cells #[.slice E1 ss.length d1, .slice E2 ps.length d2, .int .i64 fz, .bool off] 30))) := Lib.hid ((B0.out.trans (G.out.mono B0.out.size)).alloc (by have := Z0.out; have := G.out.size; omega) _)
  have Z1 : Hid (w.heap.size + 2 ≤ w1.heap.size) := Lib.hid (by have := Z0.out; have := G.out.size; omega)
  clear G HD
  go_wp2_with fail
  generalize (w1.alloc (.cells #[.slice E1 ss.length d1, .slice E2 ps.length d2, .int .i64 fz, .bool off] 30)) = w2 at *
  refine (HW.out w2 (w.heap.size + 2) w1.heap.size _ _ Q1.out D1.out.1 D1.out.2.1 Z1.out).mono ?_
  generalize brR ss ps fz off = ss' at *
  generalize brP ps fz off = ps' at *
  generalize pwF fz off = fz' at *
  generalize pwO fz off = off' at *
  generalize brC fz off = c at *
  rintro e w3 ⟨rfl, v3, v4, db, o1, o2, bb⟩
  obtain ⟨E3, d3, rfl⟩ := o1.ex
  obtain ⟨E4, d4, rfl⟩ := o2.ex
  have DB3 := Lib.hid db; have O1 := Lib.hid o1; have O2 := Lib.hid o2
  have R3 : Hid (w3.heap[w.heap.size + 1]? = some (.cells #[.slice none 0 0, .slice none 0 0, .int .i64 0, .bool false] 30 (0, 0))) := Lib.hid ((bb.block _ (by omega)).trans R1.out)
  have B3 : Hid (Below w.heap.size w w3) := Lib.hid (B1.out.trans (bb.mono (by omega)))
  clear db o1 o2 bb
  have c0 := DB3.out.c0; have c1 := DB3.out.c1; have c2 := DB3.out.c2; have c3 := DB3.out.c3
  go_wp2_with (refine wpList_store_row rfl 30 (.tmp 2) (.tmp 11) rfl (w.heap.size + 1) #[.slice E3 ss'.length d3, .slice E4 ps'.length d4, .int .i64 fz', .bool off'] rfl rfl 30 _ R3.out (infoD4 _ _ _ _) rfl oneD4 ?_)
  refine bodyPost_ret (v := .tuple #[.agg #[.slice E3 ss'.length d3, .slice E4 ps'.length d4, .int .i64 fz', .bool off'], .int .i64 c]) ?_ rfl ?_
  · exact results_cell_row2 rfl _ _ (w.heap.size + 1) 30 _ (0, 0) _ _ rfl rfl (setRow_heap _ _ _ _ _ _ R3.out) Try.underlying30 rfl (by kernel_rfl)
  · exact DskO.ans (DskO.lo (DskO.same (r := w.heap.size + 1) ⟨O1.out, O2.out, OT.ap O1.out O2.out⟩ (Nat.lt_succ_self _) (fun k hk => setRow_other _ _ k _ hk)) (Nat.le_add_right _ 2)) (below_setRow B3.out (Nat.le_succ _) _)
theorem ba_ok {ss : List ByteArray} {ps : List Pt} (fz : Int) (off : Bool) (h1 : ∀ x ∈ ss, x.size ≤ maxLen) (h2 : ∀ p ∈ ps, InI p.1 ∧ p.2.size ≤ maxLen) :
    (∀ x ∈ baS ss ps fz off, x.size ≤ maxLen) ∧ (∀ p ∈ baP ss ps fz off, InI p.1 ∧ p.2.size ≤ maxLen) ∧ (baS ss ps fz off).length ≤ ss.length + 1 ∧ (baP ss ps fz off).length ≤ ps.length + 1 := by
  have hb : ∀ x ∈ brS ss ps ps.length, x.size ≤ maxLen := fun x hx => by
    rcases brS_in ss ps _ (Nat.le_refl _) x hx with h | ⟨p, hp, rfl⟩
    · exact h1 x h
    · exact (h2 p hp).2
  have hl := brS_len ss ps ps.length
  unfold baS baP brR brP
  cases dskOk ss ps fz
  · simp
  · cases pwY fz off
    · exact ⟨h1, h2, Nat.le_succ _, Nat.le_succ _⟩
    · simpa [hl] using hb
end Go.Proofs.Ytpjkeikaonkohaa
