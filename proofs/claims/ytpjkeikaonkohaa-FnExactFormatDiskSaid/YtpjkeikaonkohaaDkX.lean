/- WriteBlock: the model's function. No statement is proved here. -/
import Derived.Test.YtpjkeikaonkohaaDkF
import Derived.Test.YtpjkeikaonkohaaDkW
namespace Go.Proofs.Ytpjkeikaonkohaa
open Go.RowKit
set_option linter.unusedVariables false
/-- The code of a write. -/
def wbC (ss : List ByteArray) (ps : List Pt) (fz : Int) (off : Bool) (k : Int) (x : ByteArray) : Int := if dskOk ss ps fz && decide (x.size = 64) then (if inB k 0 ((ss.length : Int) - 1) then wrC ps fz off else 2) else 1
/-- A disk is answered that is not the empty one. -/
def wbY (ss : List ByteArray) (ps : List Pt) (fz : Int) (off : Bool) (k : Int) (x : ByteArray) : Bool := (dskOk ss ps fz && decide (x.size = 64)) && (inB k 0 ((ss.length : Int) - 1) && !decide (wrC ps fz off = 5))
def wbS (ss : List ByteArray) (ps : List Pt) (fz : Int) (off : Bool) (k : Int) (x : ByteArray) : List ByteArray := if wbY ss ps fz off k x then ss else []
def wbP (ss : List ByteArray) (ps : List Pt) (fz : Int) (off : Bool) (k : Int) (x : ByteArray) : List Pt := if wbY ss ps fz off k x then wrP ps fz off k x else []
def wbF (ss : List ByteArray) (ps : List Pt) (fz : Int) (off : Bool) (k : Int) (x : ByteArray) : Int := if wbY ss ps fz off k x then wrF ps fz off else 0
def wbO (ss : List ByteArray) (ps : List Pt) (fz : Int) (off : Bool) (k : Int) (x : ByteArray) : Bool := if wbY ss ps fz off k x then wrO ps fz off else false
set_option maxHeartbeats 2000000 in
set_option maxRecDepth 100000 in
theorem specWriteBlock_any {w : World} {A1 A2 : Option Addr} {ss : List ByteArray} {ps : List Pt} {fz k : Int} {off : Bool} {x : ByteArray} (h1 : RiT w.heap.size w (.slice A1 ss.length ss.length) ss) (h2 : RiU w.heap.size w (.slice A2 ps.length ps.length) ps) (hk : (Lit.int .i64 k).wf = true) (hx : x.size ≤ maxLen) :
    Calls Try.prog 34 #[.agg #[.slice A1 ss.length ss.length, .slice A2 ps.length ps.length, .int .i64 fz, .bool off], .int .i64 k, .string x] w (AnsDC (wbS ss ps fz off k x) (wbP ss ps fz off k x) (wbF ss ps fz off k x) (wbO ss ps fz off k x) (wbC ss ps fz off k x) w) := by
  have H1 := Lib.hid h1; have H2 := Lib.hid h2
  clear h1 h2
  unfold maxLen at hx
  have B0 : Hid (Below w.heap.size w ((w.alloc (.cells #[.slice A1 ss.length ss.length, .slice A2 ps.length ps.length, .int .i64 fz, .bool off] 30)).alloc (.cells #[.slice none 0 0, .slice none 0 0, .int .i64 0, .bool false] 30))) := Lib.hid (((Below.refl _ w).alloc (Nat.le_refl _) _).alloc (by simp) _)
  have G0 : Hid (DB ((w.alloc (.cells #[.slice A1 ss.length ss.length, .slice A2 ps.length ps.length, .int .i64 fz, .bool off] 30)).alloc (.cells #[.slice none 0 0, .slice none 0 0, .int .i64 0, .bool false] 30)) w.heap.size (.slice A1 ss.length ss.length) (.slice A2 ps.length ps.length) fz off) := Lib.hid (((Below.refl _ (w.alloc (.cells #[.slice A1 ss.length ss.length, .slice A2 ps.length ps.length, .int .i64 fz, .bool off] 30))).alloc (Nat.le_refl _) _ |>.block _ (by simp)).trans (heap_alloc_new w _))
  have R0 : Hid (((w.alloc (.cells #[.slice A1 ss.length ss.length, .slice A2 ps.length ps.length, .int .i64 fz, .bool off] 30)).alloc (.cells #[.slice none 0 0, .slice none 0 0, .int .i64 0, .bool false] 30)).heap[w.heap.size + 1]? = some (.cells #[.slice none 0 0, .slice none 0 0, .int .i64 0, .bool false] 30 (0, 0))) := Lib.hid (by
    have h := heap_alloc_new (w.alloc (.cells #[.slice A1 ss.length ss.length, .slice A2 ps.length ps.length, .int .i64 fz, .bool off] 30)) (.cells #[.slice none 0 0, .slice none 0 0, .int .i64 0, .bool false] 30)
    rwa [show (w.alloc (.cells #[.slice A1 ss.length ss.length, .slice A2 ps.length ps.length, .int .i64 fz, .bool off] 30)).heap.size = w.heap.size + 1 from by simp] at h)
  have Z0 : Hid (((w.alloc (.cells #[.slice A1 ss.length ss.length, .slice A2 ps.length ps.length, .int .i64 fz, .bool off] 30)).alloc (.cells #[.slice none 0 0, .slice none 0 0, .int .i64 0, .bool false] 30)).heap.size = w.heap.size + 2) := Lib.hid (by simp)
  cases hok : dskOk ss ps fz
  · have hok' := hok
    have e0 : wbY ss ps fz off k x = false := by simp [wbY, hok']
    have ewbS : wbS ss ps fz off k x = [] := by simp [wbS, e0]
    have ewbP : wbP ss ps fz off k x = [] := by simp [wbP, e0]
    have ewbF : wbF ss ps fz off k x = 0 := by simp [wbF, e0]
    have ewbO : wbO ss ps fz off k x = false := by simp [wbO, e0]
    have ec : wbC ss ps fz off k x = 1 := by simp [wbC, hok']
    rw [ewbS, ewbP, ewbF, ewbO, ec]
    clear e0 ewbS ewbP ewbF ewbO ec
    go_enter Try.func34, Try.ntmps34
    go_wp2_with fail
    generalize ((w.alloc (.cells #[.slice A1 ss.length ss.length, .slice A2 ps.length ps.length, .int .i64 fz, .bool off] 30)).alloc (.cells #[.slice none 0 0, .slice none 0 0, .int .i64 0, .bool false] 30)) = w0 at *
    refine (l09Ok_any hok G0.out (H1.out.at (Nat.le_refl _) B0.out) (H2.out.at (Nat.le_refl _) B0.out)).mono ?_
    rintro e w1 ⟨rfl, rfl⟩
    go_wp2_with (refine wpList_store_row rfl 30 (.tmp 6) (.tmp 17) rfl (w.heap.size + 1) #[.slice none 0 0, .slice none 0 0, .int .i64 0, .bool false] rfl rfl 30 _ R0.out (infoD4 _ _ _ _) rfl oneD4 ?_)
    refine bodyPost_ret (v := .tuple #[.agg #[.slice none 0 0, .slice none 0 0, .int .i64 0, .bool false], .int .i64 1]) ?_ rfl ?_
    · exact results_cell_row2 rfl _ _ (w.heap.size + 1) 30 _ (0, 0) _ _ rfl rfl (setRow_heap _ _ _ _ _ _ R0.out) Try.underlying30 rfl (by kernel_rfl)
    · exact DskO.ans (DskO.nil _ _) (below_setRow B0.out (Nat.le_succ _) _)
  have Hok := Lib.hid hok
  have hl : (16 ≤ ss.length ∧ ss.length ≤ 256) ∧ ps.length ≤ 600 ∧ -1 ≤ fz ∧ fz ≤ 100000 := by have := dskOk_iff.1 hok; omega
  have Hl := Lib.hid hl; clear hl
  by_cases hs : x.size = 64
  rotate_left
  · have hs2 : ¬ (x.size : Int) = 64 := by omega
    have hs3 : ((x.size : Int) != 64) = true := by simpa using hs2
    have e0 : wbY ss ps fz off k x = false := by simp [wbY, hs]
    have ewbS : wbS ss ps fz off k x = [] := by simp [wbS, e0]
    have ewbP : wbP ss ps fz off k x = [] := by simp [wbP, e0]
    have ewbF : wbF ss ps fz off k x = 0 := by simp [wbF, e0]
    have ewbO : wbO ss ps fz off k x = false := by simp [wbO, e0]
    have ec : wbC ss ps fz off k x = 1 := by simp [wbC, hs]
    rw [ewbS, ewbP, ewbF, ewbO, ec]
    clear e0 ewbS ewbP ewbF ewbO ec
    clear hs2
    go_enter Try.func34, Try.ntmps34
    go_wp2_with fail
    generalize ((w.alloc (.cells #[.slice A1 ss.length ss.length, .slice A2 ps.length ps.length, .int .i64 fz, .bool off] 30)).alloc (.cells #[.slice none 0 0, .slice none 0 0, .int .i64 0, .bool false] 30)) = w0 at *
    refine (l09Ok_any hok G0.out (H1.out.at (Nat.le_refl _) B0.out) (H2.out.at (Nat.le_refl _) B0.out)).mono ?_
    rintro e w1 ⟨rfl, rfl⟩
    go_wp2_with (refine wpList_store_row rfl 30 (.tmp 6) (.tmp 17) rfl (w.heap.size + 1) #[.slice none 0 0, .slice none 0 0, .int .i64 0, .bool false] rfl rfl 30 _ R0.out (infoD4 _ _ _ _) rfl oneD4 ?_)
    refine bodyPost_ret (v := .tuple #[.agg #[.slice none 0 0, .slice none 0 0, .int .i64 0, .bool false], .int .i64 1]) ?_ rfl ?_
    · exact results_cell_row2 rfl _ _ (w.heap.size + 1) 30 _ (0, 0) _ _ rfl rfl (setRow_heap _ _ _ _ _ _ R0.out) Try.underlying30 rfl (by kernel_rfl)
    · exact DskO.ans (DskO.nil _ _) (below_setRow B0.out (Nat.le_succ _) _)
  have hs2 : (x.size : Int) = 64 := by omega
  have hs3 : ((x.size : Int) != 64) = false := by simp [hs2]
  have hn : IntKind.i64.wrap ((ss.length : Int) - 1) = (ss.length : Int) - 1 := IntWalk.i64_in _ (by have := Hl.out; omega)
  cases hi : inB k 0 ((ss.length : Int) - 1)
  · have Hi := Lib.hid hi
    have e0 : wbY ss ps fz off k x = false := by simp [wbY, hok, hs, hi]
    have ewbS : wbS ss ps fz off k x = [] := by simp [wbS, e0]
    have ewbP : wbP ss ps fz off k x = [] := by simp [wbP, e0]
    have ewbF : wbF ss ps fz off k x = 0 := by simp [wbF, e0]
    have ewbO : wbO ss ps fz off k x = false := by simp [wbO, e0]
    have ec : wbC ss ps fz off k x = 2 := by simp [wbC, hok, hs, hi]
    rw [ewbS, ewbP, ewbF, ewbO, ec]
    clear e0 ewbS ewbP ewbF ewbO ec
    clear hi
    have r0 := G0.out.c0
    go_enter Try.func34, Try.ntmps34
    go_wp2_with fail
    clear r0
    generalize ((w.alloc (.cells #[.slice A1 ss.length ss.length, .slice A2 ps.length ps.length, .int .i64 fz, .bool off] 30)).alloc (.cells #[.slice none 0 0, .slice none 0 0, .int .i64 0, .bool false] 30)) = w0 at *
    refine (l09Ok_any hok G0.out (H1.out.at (Nat.le_refl _) B0.out) (H2.out.at (Nat.le_refl _) B0.out)).mono ?_
    rintro e w1 ⟨rfl, rfl⟩
    have r0 := G0.out.c0
    go_wp2_with (first | (go_at_call 72; refine (l00In_any _ _ _ _).mono ?_; rintro e w' ⟨rfl, rfl⟩; rw [Hi.out]) | (refine wpList_store_row rfl 30 (.tmp 6) (.tmp 25) rfl (w.heap.size + 1) #[.slice none 0 0, .slice none 0 0, .int .i64 0, .bool false] rfl rfl 30 _ R0.out (infoD4 _ _ _ _) rfl oneD4 ?_))
    clear r0
    refine bodyPost_ret (v := .tuple #[.agg #[.slice none 0 0, .slice none 0 0, .int .i64 0, .bool false], .int .i64 2]) ?_ rfl ?_
    · exact results_cell_row2 rfl _ _ (w.heap.size + 1) 30 _ (0, 0) _ _ rfl rfl (setRow_heap _ _ _ _ _ _ R0.out) Try.underlying30 rfl (by kernel_rfl)
    · exact DskO.ans (DskO.nil _ _) (below_setRow B0.out (Nat.le_succ _) _)
  have Hi := Lib.hid hi
  have HW := Lib.hid (fun (W : World) (lo g : Nat) (v1 v2 : Value) (a1 : DB W g v1 v2 fz off) (a2 : OT W lo v1 ss) (a3 : OU W lo v2 ps) (a4 : lo ≤ g) => l09Write_any (k := k) (x := x) a1 a2 a3 a4 (by have := Hl.out; omega) (by have := Hl.out; unfold InI; omega))
  by_cases h5 : wrC ps fz off = 5
  · have e0 : wbY ss ps fz off k x = false := by simp [wbY, hok, hs, hi, h5]
    have ewbS : wbS ss ps fz off k x = [] := by simp [wbS, e0]
    have ewbP : wbP ss ps fz off k x = [] := by simp [wbP, e0]
    have ewbF : wbF ss ps fz off k x = 0 := by simp [wbF, e0]
    have ewbO : wbO ss ps fz off k x = false := by simp [wbO, e0]
    have ec : wbC ss ps fz off k x = 5 := by simp [wbC, hok, hs, hi, h5]
    rw [ewbS, ewbP, ewbF, ewbO, ec]
    clear e0 ewbS ewbP ewbF ewbO ec
    clear hi
    have r0 := G0.out.c0
    go_enter Try.func34, Try.ntmps34
    go_wp2_with fail
    clear r0
    generalize ((w.alloc (.cells #[.slice A1 ss.length ss.length, .slice A2 ps.length ps.length, .int .i64 fz, .bool off] 30)).alloc (.cells #[.slice none 0 0, .slice none 0 0, .int .i64 0, .bool false] 30)) = w0 at *
    refine (l09Ok_any hok G0.out (H1.out.at (Nat.le_refl _) B0.out) (H2.out.at (Nat.le_refl _) B0.out)).mono ?_
    rintro e w1 ⟨rfl, rfl⟩
    have r0 := G0.out.c0
    go_wp2_with (go_at_call 72; refine (l00In_any _ _ _ _).mono ?_; rintro e w' ⟨rfl, rfl⟩; rw [Hi.out])
    clear r0
    refine (l09Own_any G0.out (H1.out.at (Nat.le_refl _) B0.out) (H2.out.at (Nat.le_refl _) B0.out) (by have := Hl.out; omega) (by have := Hl.out; omega)).mono ?_
    rintro e w1 ⟨v1, v2, rfl, hd, g⟩
    obtain ⟨E1, d1, rfl⟩ := hd.1.ex
    obtain ⟨E2, d2, rfl⟩ := hd.2.1.ex
    have HD := Lib.hid hd; have G := Lib.hid g; clear hd g
    have Q1 : Hid (DB (w1.alloc (.cells #[.slice E1 ss.length d1, .slice E2 ps.length d2, .int .i64 fz, .bool off] 30)) w1.heap.size (.slice E1 ss.length d1) (.slice E2 ps.length d2) fz off) := Lib.hid (heap_alloc_new w1 _)
    have R1 : Hid ((w1.alloc (.cells #[.slice E1 ss.length d1, .slice E2 ps.length d2, .int .i64 fz, .bool off] 30)).heap[w.heap.size + 1]? = some (.cells #[.slice none 0 0, .slice none 0 0, .int .i64 0, .bool false] 30 (0, 0))) := Lib.hid (((Below.refl _ w1).alloc (Nat.le_refl _) _ |>.block _ (by have := Z0.out; have := G.out.size; omega)).trans ((G.out.block _ (by have := Z0.out; omega)).trans R0.out))
    have D1 : Hid (DskO (w1.alloc (.cells #[.slice E1 ss.length d1, .slice E2 ps.length d2, .int .i64 fz, .bool off] 30)) (w.heap.size + 2) (.slice E1 ss.length d1) (.slice E2 ps.length d2) ss ps) := Lib.hid (DskO.bel (Z0.out ▸ HD.out) ((Below.refl _ _).alloc (Nat.le_refl _) _))
    have B1 : Hid (Below w.heap.size w (w1.alloc (.cells #[.slice E1 ss.length d1, .slice E2 ps.length d2, .int .i64 fz, .bool off] 30))) := Lib.hid ((B0.out.trans (G.out.mono B0.out.size)).alloc (by have := Z0.out; have := G.out.size; omega) _)
    have Z1 : Hid (w.heap.size + 2 ≤ w1.heap.size) := Lib.hid (by have := Z0.out; have := G.out.size; omega)
    clear G HD
    go_wp2_with fail
    generalize (w1.alloc (.cells #[.slice E1 ss.length d1, .slice E2 ps.length d2, .int .i64 fz, .bool off] 30)) = w2 at *
    refine (HW.out w2 (w.heap.size + 2) w1.heap.size _ _ Q1.out D1.out.1 D1.out.2.1 Z1.out).mono ?_
    rintro e w3 ⟨rfl, v3, db, o1, o2, bb⟩
    obtain ⟨E3, d3, rfl⟩ := o2.ex
    have DB3 := Lib.hid db; have O1 := Lib.hid o1; have O2 := Lib.hid o2
    have R3 : Hid (w3.heap[w.heap.size + 1]? = some (.cells #[.slice none 0 0, .slice none 0 0, .int .i64 0, .bool false] 30 (0, 0))) := Lib.hid ((bb.block _ (by omega)).trans R1.out)
    have B3 : Hid (Below w.heap.size w w3) := Lib.hid (B1.out.trans (bb.mono (by omega)))
    clear db o1 o2 bb
    rw [h5]
    go_wp2_with (refine wpList_store_row rfl 30 (.tmp 6) (.tmp 32) rfl (w.heap.size + 1) #[.slice none 0 0, .slice none 0 0, .int .i64 0, .bool false] rfl rfl 30 _ R3.out (infoD4 _ _ _ _) rfl oneD4 ?_)
    refine bodyPost_ret (v := .tuple #[.agg #[.slice none 0 0, .slice none 0 0, .int .i64 0, .bool false], .int .i64 5]) ?_ rfl ?_
    · exact results_cell_row2 rfl _ _ (w.heap.size + 1) 30 _ (0, 0) _ _ rfl rfl (setRow_heap _ _ _ _ _ _ R3.out) Try.underlying30 rfl (by kernel_rfl)
    · exact DskO.ans (DskO.nil _ _) (below_setRow B3.out (Nat.le_succ _) _)
  have e0 : wbY ss ps fz off k x = true := by simp [wbY, hok, hs, hi, h5]
  have eS : wbS ss ps fz off k x = ss := by simp [wbS, e0]
  have eP : wbP ss ps fz off k x = wrP ps fz off k x := by simp [wbP, e0]
  have eF : wbF ss ps fz off k x = wrF ps fz off := by simp [wbF, e0]
  have eO : wbO ss ps fz off k x = wrO ps fz off := by simp [wbO, e0]
  have eC : wbC ss ps fz off k x = wrC ps fz off := by simp [wbC, hok, hs, hi]
  rw [eS, eP, eF, eO, eC]
  clear e0 eS eP eF eO eC hi
  generalize wrP ps fz off k x = ps' at *
  generalize wrF ps fz off = fz' at *
  generalize wrO ps fz off = off' at *
  generalize wrC ps fz off = c at *
  have h5' : (c == 5) = false := beq_eq_false_iff_ne.2 h5
  have r0 := G0.out.c0
  go_enter Try.func34, Try.ntmps34
  go_wp2_with fail
  clear r0
  generalize ((w.alloc (.cells #[.slice A1 ss.length ss.length, .slice A2 ps.length ps.length, .int .i64 fz, .bool off] 30)).alloc (.cells #[.slice none 0 0, .slice none 0 0, .int .i64 0, .bool false] 30)) = w0 at *
  refine (l09Ok_any hok G0.out (H1.out.at (Nat.le_refl _) B0.out) (H2.out.at (Nat.le_refl _) B0.out)).mono ?_
  rintro e w1 ⟨rfl, rfl⟩
  have r0 := G0.out.c0
  go_wp2_with (go_at_call 72; refine (l00In_any _ _ _ _).mono ?_; rintro e w' ⟨rfl, rfl⟩; rw [Hi.out])
  clear r0
  refine (l09Own_any G0.out (H1.out.at (Nat.le_refl _) B0.out) (H2.out.at (Nat.le_refl _) B0.out) (by have := Hl.out; omega) (by have := Hl.out; omega)).mono ?_
  rintro e w1 ⟨v1, v2, rfl, hd, g⟩
  obtain ⟨E1, d1, rfl⟩ := hd.1.ex
  obtain ⟨E2, d2, rfl⟩ := hd.2.1.ex
  have HD := Lib.hid hd; have G := Lib.hid g; clear hd g
  have Q1 : Hid (DB (w1.alloc (.cells #[.slice E1 ss.length d1, .slice E2 ps.length d2, .int .i64 fz, .bool off] 30)) w1.heap.size (.slice E1 ss.length d1) (.slice E2 ps.length d2) fz off) := Lib.hid (heap_alloc_new w1 _)
  have R1 : Hid ((w1.alloc (.cells #[.slice E1 ss.length d1, .slice E2 ps.length d2, .int .i64 fz, .bool off] 30)).heap[w.heap.size + 1]? = some (.cells #[.slice none 0 0, .slice none 0 0, .int .i64 0, .bool false] 30 (0, 0))) := Lib.hid (((Below.refl _ w1).alloc (Nat.le_refl _) _ |>.block _ (by have := Z0.out; have := G.out.size; omega)).trans ((G.out.block _ (by have := Z0.out; omega)).trans R0.out))
  have D1 : Hid (DskO (w1.alloc (.cells #[.slice E1 ss.length d1, .slice E2 ps.length d2, .int .i64 fz, .bool off] 30)) (w.heap.size + 2) (.slice E1 ss.length d1) (.slice E2 ps.length d2) ss ps) := Lib.hid (DskO.bel (Z0.out ▸ HD.out) ((Below.refl _ _).alloc (Nat.le_refl _) _))
  have B1 : Hid (Below w.heap.size w (w1.alloc (.cells #[.slice E1 ss.length d1, .slice E2 ps.length d2, .int .i64 fz, .bool off] 30))) := Lib.hid ((B0.out.trans (G.out.mono B0.out.size)).alloc (by have := Z0.out; have := G.out.size; omega) _)
  have Z1 : Hid (w.heap.size + 2 ≤ w1.heap.size) := Lib.hid (by have := Z0.out; have := G.out.size; omega)
  clear G HD
  go_wp2_with fail
  generalize (w1.alloc (.cells #[.slice E1 ss.length d1, .slice E2 ps.length d2, .int .i64 fz, .bool off] 30)) = w2 at *
  refine (HW.out w2 (w.heap.size + 2) w1.heap.size _ _ Q1.out D1.out.1 D1.out.2.1 Z1.out).mono ?_
  rintro e w3 ⟨rfl, v3, db, o1, o2, bb⟩
  obtain ⟨E3, d3, rfl⟩ := o2.ex
  have DB3 := Lib.hid db; have O1 := Lib.hid o1; have O2 := Lib.hid o2
  have R3 : Hid (w3.heap[w.heap.size + 1]? = some (.cells #[.slice none 0 0, .slice none 0 0, .int .i64 0, .bool false] 30 (0, 0))) := Lib.hid ((bb.block _ (by omega)).trans R1.out)
  have B3 : Hid (Below w.heap.size w w3) := Lib.hid (B1.out.trans (bb.mono (by omega)))
  clear db o1 o2 bb
  have c0 := DB3.out.c0; have c1 := DB3.out.c1; have c2 := DB3.out.c2; have c3 := DB3.out.c3
  go_wp2_with (refine wpList_store_row rfl 30 (.tmp 6) (.tmp 34) rfl (w.heap.size + 1) #[.slice E1 ss.length d1, .slice E3 ps'.length d3, .int .i64 fz', .bool off'] rfl rfl 30 _ R3.out (infoD4 _ _ _ _) rfl oneD4 ?_)
  refine bodyPost_ret (v := .tuple #[.agg #[.slice E1 ss.length d1, .slice E3 ps'.length d3, .int .i64 fz', .bool off'], .int .i64 c]) ?_ rfl ?_
  · exact results_cell_row2 rfl _ _ (w.heap.size + 1) 30 _ (0, 0) _ _ rfl rfl (setRow_heap _ _ _ _ _ _ R3.out) Try.underlying30 rfl (by kernel_rfl)
  · exact DskO.ans (DskO.lo (DskO.same (r := w.heap.size + 1) ⟨O1.out, O2.out, OT.ap O1.out O2.out⟩ (Nat.lt_succ_self _) (fun k hk => setRow_other _ _ k _ hk)) (Nat.le_add_right _ 2)) (below_setRow B3.out (Nat.le_succ _) _)
end Go.Proofs.Ytpjkeikaonkohaa
