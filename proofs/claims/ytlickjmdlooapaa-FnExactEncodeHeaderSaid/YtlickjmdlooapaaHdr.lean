/- Headers in memory: contracts of the laws' functions that bound, copy and compare them. No statement is proved here. -/
import Derived.Test.YtlickjmdlooapaaMsg
import Derived.Test.YtlickjmdlooapaaRec
namespace Go.Proofs.Ytlickjmdlooapaa
open Go.RowKit
set_option linter.unusedVariables false
set_option maxHeartbeats 1000000 in
set_option maxRecDepth 100000 in
theorem szHeader_any {B : Nat} {w : World} {n0 : Int} {n1 : Int} {v2 : Value} {xs2 : List EM} (h2 : RiM B w v2 xs2) (hB : B ≤ w.heap.size) (L : Int) (hL0 : 0 ≤ L) (hL : L ≤ 1048576) :
    Calls Try.prog 38 #[.agg #[.int .i64 n0, .int .i64 n1, v2], .int .i64 L] w (Left L (SmM xs2) w) := by
  have H2 := Lib.hid h2; obtain ⟨A2, c2, rfl, -, -, -⟩ := h2
  have hp : SmM xs2 → (SmM xs2) := fun x0 => x0
  have HP := Lib.hid hp; clear hp
  have Hb0 : Hid (Below w.heap.size w (w.alloc (.cells #[.int .i64 n0, .int .i64 n1, .slice A2 xs2.length c2] 59))) := Lib.hid ((Below.refl _ w).alloc (Nat.le_refl _) _)
  have R0 : Hid ((w.alloc (.cells #[.int .i64 n0, .int .i64 n1, .slice A2 xs2.length c2] 59)).heap[w.heap.size]? = some (.cells #[.int .i64 n0, .int .i64 n1, .slice A2 xs2.length c2] 59 (0, 0))) := Lib.hid (heap_alloc_new w _)
  have Lt0 : Hid (w.heap.size < (w.alloc (.cells #[.int .i64 n0, .int .i64 n1, .slice A2 xs2.length c2] 59)).heap.size) := Lib.hid (by simp)
  have q1 : (w.alloc (.cells #[.int .i64 n0, .int .i64 n1, .slice A2 xs2.length c2] 59)).cell? ⟨w.heap.size, 2, none⟩ = some (.slice A2 xs2.length c2) := by rw [cell_of_row _ _ _ _ _ _ R0.out]; rfl
  go_enter Try.func38, Try.ntmps38
  go_wp2_with fail
  clear q1
  generalize (w.alloc (.cells #[.int .i64 n0, .int .i64 n1, .slice A2 xs2.length c2] 59)) = w0 at *
  refine (szMessages_any (H2.out.at hB Hb0.out) (Nat.le_refl _) L (by omega) (by omega)).mono ?_
  rintro e w1 ⟨l1, rfl, hn1, hl1, hp, g⟩
  have Hp1 := Lib.hid hp; clear hp
  have Hb1 : Hid (Below w.heap.size w w1) := Lib.hid (Hb0.out.trans (g.mono Hb0.out.size))
  have R1 := Lib.hid ((g.block _ Lt0.out).trans R0.out)
  have Lt1 : Hid (w.heap.size < w1.heap.size) := Lib.hid (by have := Lt0.out; have := g.size; omega)
  clear g
  by_cases neg1 : l1 < 0
  · go_wp2_with fail
    go_ret
    exact ⟨-1, rfl, by omega, by omega, by omega, Hb1.out⟩
  go_wp2_with fail
  go_ret
  exact ⟨l1, rfl, by omega, by omega, fun h => HP.out (Hp1.out (by omega)), Hb1.out⟩
/-- A struct Header in new memory, and where its slices lie. -/
def AtHeader (n0 : Int) (n1 : Int) (xs2 : List EM) (w : World) (e : Ending) (w' : World) : Prop := ∃ (A2 : Option Addr) , e = .returned (.agg #[.int .i64 n0, .int .i64 n1, .slice A2 xs2.length xs2.length]) ∧ OM w' w.heap.size (.slice A2 xs2.length xs2.length) xs2 ∧ Wi w.heap.size w'.heap.size (.slice A2 xs2.length xs2.length) ∧ Below w.heap.size w w'
set_option maxHeartbeats 4000000 in
set_option maxRecDepth 100000 in
theorem toHeader_any {B : Nat} {w : World} {n0 : Int} {n1 : Int} {v2 : Value} {xs2 : List EM} (h2 : RiM B w v2 xs2) (hB : B ≤ w.heap.size) (hs : SmM xs2) :
    Calls Try.prog 40 #[.agg #[.int .i64 n0, .int .i64 n1, v2]] w (AtHeader n0 n1 xs2 w) := by
  have H2 := Lib.hid h2; obtain ⟨A2, c2, rfl, -, -, -⟩ := h2
  have Hs := Lib.hid hs; clear hs
  have Tri0 := Lib.hid (Tri.start w 59 64 #[.int .i64 n0, .int .i64 n1, .slice A2 xs2.length c2] #[.int .i64 0, .int .i64 0, .slice none 0 0] #[.int .i64 n0, .int .i64 n1, .slice none 0 0])
  have Sz0 : Hid (w.heap.size + 3 ≤ (((w.alloc (.cells #[.int .i64 n0, .int .i64 n1, .slice A2 xs2.length c2] 59)).alloc (.cells #[.int .i64 0, .int .i64 0, .slice none 0 0] 64)).alloc (.cells #[.int .i64 n0, .int .i64 n1, .slice none 0 0] 64)).heap.size) := Lib.hid Tri0.out.2.2.2.2
  go_enter Try.func40, Try.ntmps40
  go_wp2_with fail
  generalize (((w.alloc (.cells #[.int .i64 n0, .int .i64 n1, .slice A2 xs2.length c2] 59)).alloc (.cells #[.int .i64 0, .int .i64 0, .slice none 0 0] 64)).alloc (.cells #[.int .i64 n0, .int .i64 n1, .slice none 0 0] 64)) = W0 at *
  refine (toMessages_any (H2.out.at hB Tri0.out.2.2.2.1) (Nat.le_refl _) Hs.out.1).mono ?_
  rintro e w1 ⟨rfl, r, g⟩
  have tri := Tri0.out.after g
  have Sy1 : Hid (W0.heap.size ≤ w1.heap.size) := Lib.hid g.size
  have oo : OM w1 W0.heap.size (.slice (some ⟨W0.heap.size, 0, none⟩) xs2.length xs2.length) xs2 := OM.of_row r (Nat.le_refl _) (by unfold maxLen; have := Hs.out.1; omega)
  have I2 := Lib.hid (own_wi oo)
  have O2_1 : Hid (OM w1 (w.heap.size + 3) (.slice (some ⟨W0.heap.size, 0, none⟩) xs2.length xs2.length) xs2) := Lib.hid (own_lo oo (by have := Sz0.out; omega))
  have Hi9 : Hid ((Try.prog.info? 64).map (·.size) = some (#[.int .i64 n0, .int .i64 n1, .slice (some ⟨W0.heap.size, 0, none⟩) xs2.length xs2.length] : Array Value).size) := Lib.hid (by kernel_rfl)
  have H19 : Hid ((#[.int .i64 n0, .int .i64 n1, .slice (some ⟨W0.heap.size, 0, none⟩) xs2.length xs2.length] : Array Value).all (·.oneCell') = true) := Lib.hid (by simp [Value.oneCell'])
  clear g r oo
  have q1 := tri.out 2 _ rfl
  have q2 := tri.free 2
  have Tri1 : Hid (Tri w (w1.setCell ⟨w.heap.size + 1 + 1, 2, none⟩ (.slice (some ⟨W0.heap.size, 0, none⟩) xs2.length xs2.length)) 59 64 #[.int .i64 n0, .int .i64 n1, .slice A2 xs2.length c2] #[.int .i64 0, .int .i64 0, .slice none 0 0] #[.int .i64 n0, .int .i64 n1, .slice (some ⟨W0.heap.size, 0, none⟩) xs2.length xs2.length]) := Lib.hid (tri.set 2 (.slice (some ⟨W0.heap.size, 0, none⟩) xs2.length xs2.length))
  have Sz1 : Hid (w.heap.size + 3 ≤ (w1.setCell ⟨w.heap.size + 1 + 1, 2, none⟩ (.slice (some ⟨W0.heap.size, 0, none⟩) xs2.length xs2.length)).heap.size ∧ w1.heap.size ≤ (w1.setCell ⟨w.heap.size + 1 + 1, 2, none⟩ (.slice (some ⟨W0.heap.size, 0, none⟩) xs2.length xs2.length)).heap.size) := Lib.hid ⟨Tri1.out.2.2.2.2, by simp [World.setCell]⟩
  have HSC1 : Hid (∀ q, q ≠ w.heap.size + 1 + 1 → (w1.setCell ⟨w.heap.size + 1 + 1, 2, none⟩ (.slice (some ⟨W0.heap.size, 0, none⟩) xs2.length xs2.length)).heap[q]? = w1.heap[q]?) := Lib.hid (fun q hq => by rw [heap_setCell_other _ ⟨w.heap.size + 1 + 1, 2, none⟩ q _ hq])
  have O2_1s : Hid (OM (w1.setCell ⟨w.heap.size + 1 + 1, 2, none⟩ (.slice (some ⟨W0.heap.size, 0, none⟩) xs2.length xs2.length)) (w.heap.size + 3) (.slice (some ⟨W0.heap.size, 0, none⟩) xs2.length xs2.length) xs2) := Lib.hid (own_same O2_1.out fun q hq => HSC1.out q (by have := own_wi O2_1.out q hq; omega))
  clear tri
  go_wp2_with (first | (refine wpList_load_row rfl 64 (.tmp 3) rfl _ rfl 64 _ (0, 0) _ Tri1.out.2.2.1 Try.underlying64 rfl (by kernel_rfl) ?_) | (refine wpList_store_row rfl 64 (.tmp 2) (.tmp 14) rfl (w.heap.size + 1) #[.int .i64 n0, .int .i64 n1, .slice (some ⟨W0.heap.size, 0, none⟩) xs2.length xs2.length] rfl rfl 64 #[.int .i64 0, .int .i64 0, .slice none 0 0] Tri1.out.2.1 Hi9.out rfl H19.out ?_))
  refine bodyPost_ret (v := .agg #[.int .i64 n0, .int .i64 n1, .slice (some ⟨W0.heap.size, 0, none⟩) xs2.length xs2.length]) ?_ rfl ?_
  · exact results_cell_row rfl _ _ (w.heap.size + 1) 64 _ (0, 0) _ rfl (setRow_heap _ _ _ _ _ _ Tri1.out.2.1) Try.underlying64 rfl (by kernel_rfl)
  · have hend := below_setRow Tri1.out.2.2.2.1 (show w.heap.size ≤ w.heap.size + 1 by omega) #[.int .i64 n0, .int .i64 n1, .slice (some ⟨W0.heap.size, 0, none⟩) xs2.length xs2.length]
    have Z9 := Sz1.out
    exact ⟨_, rfl, own_lo (own_same O2_1s.out fun q hq => setRow_other _ _ q _ (by have := own_wi O2_1s.out q hq; omega)) (Nat.le_add_right _ 3), I2.out.wide (by have a0 := Sz0.out; have a1 := Sz1.out; have b1 := Sy1.out; omega) (by rw [setRow_size]; have a0 := Sz0.out; have a1 := Sz1.out; have b1 := Sy1.out; omega), hend⟩
theorem toHeader_rd {B : Nat} {w : World} {n0 : Int} {n1 : Int} {v2 : Value} {xs2 : List EM} (h2 : RiM B w v2 xs2) (hB : B ≤ w.heap.size) (hs : SmM xs2) :
    Calls Try.prog 40 #[.agg #[.int .i64 n0, .int .i64 n1, v2]] w fun e w' => ∃ A2 : Option Addr, e = .returned (.agg #[.int .i64 n0, .int .i64 n1, .slice A2 xs2.length xs2.length]) ∧ RiM w'.heap.size w' (.slice A2 xs2.length xs2.length) xs2 ∧ Below w.heap.size w w' :=
  (toHeader_any h2 hB hs).mono fun e w' h => by
    obtain ⟨A2, he, o2, -, g⟩ := h
    exact ⟨A2, he, o2.ri h2.wf, g⟩
set_option maxHeartbeats 2000000 in
set_option maxRecDepth 100000 in
theorem eqHeader_any {B : Nat} {w : World} {n0 : Int} {n1 : Int} {v2 u2 : Value} {xs2 : List EM} (h2 : RiM B w v2 xs2) (g2 : RiM B w u2 xs2) (hB : B ≤ w.heap.size) :
    Calls Try.prog 42 #[.agg #[.int .i64 n0, .int .i64 n1, v2], .agg #[.int .i64 n0, .int .i64 n1, u2]] w (GivesB (.bool true) w) := by
  have H2 := Lib.hid h2; obtain ⟨A2, c2, rfl, -, -, -⟩ := h2
  have G2 := Lib.hid g2; obtain ⟨D2, d2, rfl, -, -, -⟩ := g2
  have Hb0 : Hid (Below w.heap.size w ((w.alloc (.cells #[.int .i64 n0, .int .i64 n1, .slice A2 xs2.length c2] 64)).alloc (.cells #[.int .i64 n0, .int .i64 n1, .slice D2 xs2.length d2] 64))) := Lib.hid (((Below.refl _ w).alloc (Nat.le_refl _) _).alloc (by simp) _)
  have R0 : Hid (((w.alloc (.cells #[.int .i64 n0, .int .i64 n1, .slice A2 xs2.length c2] 64)).alloc (.cells #[.int .i64 n0, .int .i64 n1, .slice D2 xs2.length d2] 64)).heap[w.heap.size]? = some (.cells #[.int .i64 n0, .int .i64 n1, .slice A2 xs2.length c2] 64 (0, 0))) := Lib.hid (heap_alloc2_old w _ _)
  have S0 : Hid (((w.alloc (.cells #[.int .i64 n0, .int .i64 n1, .slice A2 xs2.length c2] 64)).alloc (.cells #[.int .i64 n0, .int .i64 n1, .slice D2 xs2.length d2] 64)).heap[w.heap.size + 1]? = some (.cells #[.int .i64 n0, .int .i64 n1, .slice D2 xs2.length d2] 64 (0, 0))) := Lib.hid (heap_alloc2_new w _ _)
  have Lt0 : Hid (w.heap.size + 1 < ((w.alloc (.cells #[.int .i64 n0, .int .i64 n1, .slice A2 xs2.length c2] 64)).alloc (.cells #[.int .i64 n0, .int .i64 n1, .slice D2 xs2.length d2] 64)).heap.size) := Lib.hid (by simp)
  have q1 : ((w.alloc (.cells #[.int .i64 n0, .int .i64 n1, .slice A2 xs2.length c2] 64)).alloc (.cells #[.int .i64 n0, .int .i64 n1, .slice D2 xs2.length d2] 64)).cell? ⟨w.heap.size, 0, none⟩ = some (.int .i64 n0) := by rw [cell_of_row _ _ _ _ _ _ R0.out]; rfl
  have q2 : ((w.alloc (.cells #[.int .i64 n0, .int .i64 n1, .slice A2 xs2.length c2] 64)).alloc (.cells #[.int .i64 n0, .int .i64 n1, .slice D2 xs2.length d2] 64)).cell? ⟨w.heap.size + 1, 0, none⟩ = some (.int .i64 n0) := by rw [cell_of_row _ _ _ _ _ _ S0.out]; rfl
  have q3 : ((w.alloc (.cells #[.int .i64 n0, .int .i64 n1, .slice A2 xs2.length c2] 64)).alloc (.cells #[.int .i64 n0, .int .i64 n1, .slice D2 xs2.length d2] 64)).cell? ⟨w.heap.size, 1, none⟩ = some (.int .i64 n1) := by rw [cell_of_row _ _ _ _ _ _ R0.out]; rfl
  have q4 : ((w.alloc (.cells #[.int .i64 n0, .int .i64 n1, .slice A2 xs2.length c2] 64)).alloc (.cells #[.int .i64 n0, .int .i64 n1, .slice D2 xs2.length d2] 64)).cell? ⟨w.heap.size + 1, 1, none⟩ = some (.int .i64 n1) := by rw [cell_of_row _ _ _ _ _ _ S0.out]; rfl
  have q5 : ((w.alloc (.cells #[.int .i64 n0, .int .i64 n1, .slice A2 xs2.length c2] 64)).alloc (.cells #[.int .i64 n0, .int .i64 n1, .slice D2 xs2.length d2] 64)).cell? ⟨w.heap.size, 2, none⟩ = some (.slice A2 xs2.length c2) := by rw [cell_of_row _ _ _ _ _ _ R0.out]; rfl
  have q6 : ((w.alloc (.cells #[.int .i64 n0, .int .i64 n1, .slice A2 xs2.length c2] 64)).alloc (.cells #[.int .i64 n0, .int .i64 n1, .slice D2 xs2.length d2] 64)).cell? ⟨w.heap.size + 1, 2, none⟩ = some (.slice D2 xs2.length d2) := by rw [cell_of_row _ _ _ _ _ _ S0.out]; rfl
  go_enter Try.func42, Try.ntmps42
  go_wp2_with fail
  clear q1 q2 q3 q4 q5 q6
  generalize ((w.alloc (.cells #[.int .i64 n0, .int .i64 n1, .slice A2 xs2.length c2] 64)).alloc (.cells #[.int .i64 n0, .int .i64 n1, .slice D2 xs2.length d2] 64)) = w0 at *
  refine (eqMessages_any (H2.out.at hB Hb0.out) (G2.out.at hB Hb0.out) (Nat.le_refl _)).mono ?_
  rintro e w1 ⟨rfl, g⟩
  have Hb1 : Hid (Below w.heap.size w w1) := Lib.hid (Hb0.out.trans (g.mono Hb0.out.size))
  have R1 := Lib.hid ((g.block _ (by have := Lt0.out; omega)).trans R0.out)
  have S1 := Lib.hid ((g.block _ Lt0.out).trans S0.out)
  have Lt1 : Hid (w.heap.size + 1 < w1.heap.size) := Lib.hid (by have := Lt0.out; have := g.size; omega)
  clear g
  go_wp2_with fail
  go_ret
  exact ⟨rfl, Hb1.out⟩
end Go.Proofs.Ytlickjmdlooapaa
