/- SetFuse: the model's function. No statement is proved here. -/
import Derived.Test.YtpjkeikaonkohaaDkO
namespace Go.Proofs.Ytpjkeikaonkohaa
open Go.RowKit
set_option linter.unusedVariables false
def sfY (ss : List ByteArray) (ps : List Pt) (fz f : Int) : Bool := dskOk ss ps fz && inB f (-1) 100000
def sfC (ss : List ByteArray) (ps : List Pt) (fz f : Int) : Int := if dskOk ss ps fz then (if inB f (-1) 100000 then 0 else 2) else 1
def sfS (ss : List ByteArray) (ps : List Pt) (fz f : Int) : List ByteArray := if sfY ss ps fz f then ss else []
def sfP (ss : List ByteArray) (ps : List Pt) (fz f : Int) : List Pt := if sfY ss ps fz f then ps else []
def sfF (ss : List ByteArray) (ps : List Pt) (fz f : Int) : Int := if sfY ss ps fz f then f else 0
def sfO (ss : List ByteArray) (ps : List Pt) (fz f : Int) (off : Bool) : Bool := if sfY ss ps fz f then off else false
theorem infoD4 (v1 v2 : Value) (fz : Int) (off : Bool) : (Try.prog.info? 30).map (·.size) = some (#[v1, v2, .int .i64 fz, .bool off] : Array Value).size := by kernel_rfl
theorem oneD4 {A1 A2 : Option Addr} {n1 c1 n2 c2 : Nat} {fz : Int} {off : Bool} : (#[.slice A1 n1 c1, .slice A2 n2 c2, .int .i64 fz, .bool off] : Array Value).all (·.oneCell') = true := by simp [Value.oneCell']
set_option maxHeartbeats 2000000 in
set_option maxRecDepth 100000 in
theorem specSetFuse_any {w : World} {A1 A2 : Option Addr} {ss : List ByteArray} {ps : List Pt} {fz f : Int} {off : Bool} (h1 : RiT w.heap.size w (.slice A1 ss.length ss.length) ss) (h2 : RiU w.heap.size w (.slice A2 ps.length ps.length) ps) (hf : (Lit.int .i64 f).wf = true) :
    Calls Try.prog 30 #[.agg #[.slice A1 ss.length ss.length, .slice A2 ps.length ps.length, .int .i64 fz, .bool off], .int .i64 f] w (AnsDC (sfS ss ps fz f) (sfP ss ps fz f) (sfF ss ps fz f) (sfO ss ps fz f off) (sfC ss ps fz f) w) := by
  have H1 := Lib.hid h1; have H2 := Lib.hid h2
  clear h1 h2
  have B0 : Hid (Below w.heap.size w ((w.alloc (.cells #[.slice A1 ss.length ss.length, .slice A2 ps.length ps.length, .int .i64 fz, .bool off] 30)).alloc (.cells #[.slice none 0 0, .slice none 0 0, .int .i64 0, .bool false] 30))) := Lib.hid (((Below.refl _ w).alloc (Nat.le_refl _) _).alloc (by simp) _)
  have G0 : Hid (DB ((w.alloc (.cells #[.slice A1 ss.length ss.length, .slice A2 ps.length ps.length, .int .i64 fz, .bool off] 30)).alloc (.cells #[.slice none 0 0, .slice none 0 0, .int .i64 0, .bool false] 30)) w.heap.size (.slice A1 ss.length ss.length) (.slice A2 ps.length ps.length) fz off) := Lib.hid (((Below.refl _ (w.alloc (.cells #[.slice A1 ss.length ss.length, .slice A2 ps.length ps.length, .int .i64 fz, .bool off] 30))).alloc (Nat.le_refl _) _ |>.block _ (by simp)).trans (heap_alloc_new w _))
  have R0 : Hid (((w.alloc (.cells #[.slice A1 ss.length ss.length, .slice A2 ps.length ps.length, .int .i64 fz, .bool off] 30)).alloc (.cells #[.slice none 0 0, .slice none 0 0, .int .i64 0, .bool false] 30)).heap[w.heap.size + 1]? = some (.cells #[.slice none 0 0, .slice none 0 0, .int .i64 0, .bool false] 30 (0, 0))) := Lib.hid (by
    have h := heap_alloc_new (w.alloc (.cells #[.slice A1 ss.length ss.length, .slice A2 ps.length ps.length, .int .i64 fz, .bool off] 30)) (.cells #[.slice none 0 0, .slice none 0 0, .int .i64 0, .bool false] 30)
    rwa [show (w.alloc (.cells #[.slice A1 ss.length ss.length, .slice A2 ps.length ps.length, .int .i64 fz, .bool off] 30)).heap.size = w.heap.size + 1 from by simp] at h)
  have Z0 : Hid (((w.alloc (.cells #[.slice A1 ss.length ss.length, .slice A2 ps.length ps.length, .int .i64 fz, .bool off] 30)).alloc (.cells #[.slice none 0 0, .slice none 0 0, .int .i64 0, .bool false] 30)).heap.size = w.heap.size + 2) := Lib.hid (by simp)
  cases hok : dskOk ss ps fz
  · have e1 : sfS ss ps fz f = [] := by simp [sfS, sfY, hok]
    have e2 : sfP ss ps fz f = [] := by simp [sfP, sfY, hok]
    have e3 : sfF ss ps fz f = 0 := by simp [sfF, sfY, hok]
    have e4 : sfO ss ps fz f off = false := by simp [sfO, sfY, hok]
    have e5 : sfC ss ps fz f = 1 := by simp [sfC, hok]
    rw [e1, e2, e3, e4, e5]
    clear e1 e2 e3 e4 e5
    go_enter Try.func30, Try.ntmps30
    go_wp2_with fail
    generalize ((w.alloc (.cells #[.slice A1 ss.length ss.length, .slice A2 ps.length ps.length, .int .i64 fz, .bool off] 30)).alloc (.cells #[.slice none 0 0, .slice none 0 0, .int .i64 0, .bool false] 30)) = w0 at *
    refine (l09Ok_any hok G0.out (H1.out.at (Nat.le_refl _) B0.out) (H2.out.at (Nat.le_refl _) B0.out)).mono ?_
    rintro e w1 ⟨rfl, rfl⟩
    go_wp2_with (refine wpList_store_row rfl 30 (.tmp 4) (.tmp 9) rfl (w.heap.size + 1) #[.slice none 0 0, .slice none 0 0, .int .i64 0, .bool false] rfl rfl 30 _ R0.out (infoD4 _ _ _ _) rfl oneD4 ?_)
    refine bodyPost_ret (v := .tuple #[.agg #[.slice none 0 0, .slice none 0 0, .int .i64 0, .bool false], .int .i64 1]) ?_ rfl ?_
    · exact results_cell_row2 rfl _ _ (w.heap.size + 1) 30 _ (0, 0) _ _ rfl rfl (setRow_heap _ _ _ _ _ _ R0.out) Try.underlying30 rfl (by kernel_rfl)
    · exact DskO.ans (DskO.nil _ _) (below_setRow B0.out (Nat.le_succ _) _)
  have Hok := Lib.hid hok
  have hl : ss.length ≤ 1048576 ∧ ps.length ≤ 1048576 := by have := dskOk_iff.1 hok; omega
  have Hl := Lib.hid hl; clear hl
  cases hi : inB f (-1) 100000
  · have e1 : sfS ss ps fz f = [] := by simp [sfS, sfY, hi]
    have e2 : sfP ss ps fz f = [] := by simp [sfP, sfY, hi]
    have e3 : sfF ss ps fz f = 0 := by simp [sfF, sfY, hi]
    have e4 : sfO ss ps fz f off = false := by simp [sfO, sfY, hi]
    have e5 : sfC ss ps fz f = 2 := by simp [sfC, hok, hi]
    rw [e1, e2, e3, e4, e5]
    have Hi := Lib.hid hi
    clear e1 e2 e3 e4 e5 hi
    go_enter Try.func30, Try.ntmps30
    go_wp2_with fail
    generalize ((w.alloc (.cells #[.slice A1 ss.length ss.length, .slice A2 ps.length ps.length, .int .i64 fz, .bool off] 30)).alloc (.cells #[.slice none 0 0, .slice none 0 0, .int .i64 0, .bool false] 30)) = w0 at *
    refine (l09Ok_any hok G0.out (H1.out.at (Nat.le_refl _) B0.out) (H2.out.at (Nat.le_refl _) B0.out)).mono ?_
    rintro e w1 ⟨rfl, rfl⟩
    go_wp2_with (first | (go_at_call 72; refine (l00In_any _ _ _ _).mono ?_; rintro e w' ⟨rfl, rfl⟩; rw [Hi.out]) | (refine wpList_store_row rfl 30 (.tmp 4) (.tmp 13) rfl (w.heap.size + 1) #[.slice none 0 0, .slice none 0 0, .int .i64 0, .bool false] rfl rfl 30 _ R0.out (infoD4 _ _ _ _) rfl oneD4 ?_))
    refine bodyPost_ret (v := .tuple #[.agg #[.slice none 0 0, .slice none 0 0, .int .i64 0, .bool false], .int .i64 2]) ?_ rfl ?_
    · exact results_cell_row2 rfl _ _ (w.heap.size + 1) 30 _ (0, 0) _ _ rfl rfl (setRow_heap _ _ _ _ _ _ R0.out) Try.underlying30 rfl (by kernel_rfl)
    · exact DskO.ans (DskO.nil _ _) (below_setRow B0.out (Nat.le_succ _) _)
  have e1 : sfS ss ps fz f = ss := by simp [sfS, sfY, hok, hi]
  have e2 : sfP ss ps fz f = ps := by simp [sfP, sfY, hok, hi]
  have e3 : sfF ss ps fz f = f := by simp [sfF, sfY, hok, hi]
  have e4 : sfO ss ps fz f off = off := by simp [sfO, sfY, hok, hi]
  have e5 : sfC ss ps fz f = 0 := by simp [sfC, hok, hi]
  rw [e1, e2, e3, e4, e5]
  have Hi := Lib.hid hi
  clear e1 e2 e3 e4 e5 hi
  go_enter Try.func30, Try.ntmps30
  go_wp2_with fail
  generalize ((w.alloc (.cells #[.slice A1 ss.length ss.length, .slice A2 ps.length ps.length, .int .i64 fz, .bool off] 30)).alloc (.cells #[.slice none 0 0, .slice none 0 0, .int .i64 0, .bool false] 30)) = w0 at *
  refine (l09Ok_any hok G0.out (H1.out.at (Nat.le_refl _) B0.out) (H2.out.at (Nat.le_refl _) B0.out)).mono ?_
  rintro e w1 ⟨rfl, rfl⟩
  go_wp2_with (go_at_call 72; refine (l00In_any _ _ _ _).mono ?_; rintro e w' ⟨rfl, rfl⟩; rw [Hi.out])
  refine (l09Own_any G0.out (H1.out.at (Nat.le_refl _) B0.out) (H2.out.at (Nat.le_refl _) B0.out) Hl.out.1 Hl.out.2).mono ?_
  rintro e w1 ⟨v1, v2, rfl, hd, g⟩
  obtain ⟨E1, d1, rfl⟩ := hd.1.ex
  obtain ⟨E2, d2, rfl⟩ := hd.2.1.ex
  have HD := Lib.hid hd; have G := Lib.hid g; clear hd g
  have R1 : Hid ((w1.alloc (.cells #[.slice E1 ss.length d1, .slice E2 ps.length d2, .int .i64 f, .bool off] 30)).heap[w.heap.size + 1]? = some (.cells #[.slice none 0 0, .slice none 0 0, .int .i64 0, .bool false] 30 (0, 0))) := Lib.hid (((Below.refl _ w1).alloc (Nat.le_refl _) _ |>.block _ (by have := Z0.out; have := G.out.size; omega)).trans ((G.out.block _ (by have := Z0.out; omega)).trans R0.out))
  have D1 : Hid (DskO (w1.alloc (.cells #[.slice E1 ss.length d1, .slice E2 ps.length d2, .int .i64 f, .bool off] 30)) (w.heap.size + 2) (.slice E1 ss.length d1) (.slice E2 ps.length d2) ss ps) := Lib.hid (DskO.bel (Z0.out ▸ HD.out) ((Below.refl _ _).alloc (Nat.le_refl _) _))
  have B1 : Hid (Below w.heap.size w (w1.alloc (.cells #[.slice E1 ss.length d1, .slice E2 ps.length d2, .int .i64 f, .bool off] 30))) := Lib.hid ((B0.out.trans (G.out.mono B0.out.size)).alloc (by have := Z0.out; have := G.out.size; omega) _)
  clear G
  go_wp2_with (refine wpList_store_row rfl 30 (.tmp 4) (.tmp 17) rfl (w.heap.size + 1) #[.slice E1 ss.length d1, .slice E2 ps.length d2, .int .i64 f, .bool off] rfl rfl 30 _ R1.out (infoD4 _ _ _ _) rfl oneD4 ?_)
  refine bodyPost_ret (v := .tuple #[.agg #[.slice E1 ss.length d1, .slice E2 ps.length d2, .int .i64 f, .bool off], .int .i64 0]) ?_ rfl ?_
  · exact results_cell_row2 rfl _ _ (w.heap.size + 1) 30 _ (0, 0) _ _ rfl rfl (setRow_heap _ _ _ _ _ _ R1.out) Try.underlying30 rfl (by kernel_rfl)
  · exact DskO.ans (DskO.lo (D1.out.same (r := w.heap.size + 1) (Nat.lt_succ_self _) (fun k hk => setRow_other _ _ k _ hk)) (Nat.le_add_right _ 2)) (below_setRow B1.out (Nat.le_succ _) _)
theorem sf_sub (ss : List ByteArray) (ps : List Pt) (fz f : Int) : (∀ x ∈ sfS ss ps fz f, x ∈ ss) ∧ (∀ p ∈ sfP ss ps fz f, p ∈ ps) ∧ (sfS ss ps fz f).length ≤ ss.length + 1 ∧ (sfP ss ps fz f).length ≤ ps.length + 1 := by
  unfold sfS sfP
  cases sfY ss ps fz f <;> simp
end Go.Proofs.Ytpjkeikaonkohaa
