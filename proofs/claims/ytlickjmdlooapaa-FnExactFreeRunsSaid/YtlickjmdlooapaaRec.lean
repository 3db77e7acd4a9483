/- Records in memory: contracts of the laws' functions that bound, copy and compare them. No statement is proved here. -/
import Derived.Test.YtlickjmdlooapaaPag
import Derived.Test.YtlickjmdlooapaaDsk2
namespace Go.Proofs.Ytlickjmdlooapaa
open Go.RowKit
set_option linter.unusedVariables false
theorem row_part {w : World} {b o : Nat} {C : Array Value} {t : TypeId} {cs : List Value} (h : w.heap[b]? = some (.cells C t (0, 0))) (hs : ∀ (j : Nat) (u : Value), cs[j]? = some u → C[o + j]? = some u) : ∀ (j : Nat) (u : Value), cs[j]? = some u → w.cell? ⟨b, o + j, none⟩ = some u := fun j u hj => by rw [cell_of_row _ _ _ _ _ _ h]; exact hs j u hj
theorem Wi.wide {lo hi lo' hi' : Nat} {v : Value} (h : Wi lo hi v) (h1 : lo' ≤ lo) (h2 : hi ≤ hi') : Wi lo' hi' v := fun g hg => ⟨Nat.le_trans h1 (h g hg).1, Nat.lt_of_lt_of_le (h g hg).2 h2⟩
set_option maxHeartbeats 1000000 in
set_option maxRecDepth 100000 in
theorem szRec_any {B : Nat} {w : World} {n0 : Int} {v1 : Value} {xs1 : List Pt} (h1 : RiU B w v1 xs1) (hB : B ≤ w.heap.size) (L : Int) (hL0 : 0 ≤ L) (hL : L ≤ 1048576) :
    Calls Try.prog 60 #[.agg #[.int .i64 n0, v1], .int .i64 L] w (Left L (SmU xs1) w) := by
  have H1 := Lib.hid h1; obtain ⟨A1, c1, rfl, -, -, -⟩ := h1
  have hp : SmU xs1 → (SmU xs1) := fun x0 => x0
  have HP := Lib.hid hp; clear hp
  have Hb0 : Hid (Below w.heap.size w (w.alloc (.cells #[.int .i64 n0, .slice A1 xs1.length c1] 88))) := Lib.hid ((Below.refl _ w).alloc (Nat.le_refl _) _)
  have R0 : Hid ((w.alloc (.cells #[.int .i64 n0, .slice A1 xs1.length c1] 88)).heap[w.heap.size]? = some (.cells #[.int .i64 n0, .slice A1 xs1.length c1] 88 (0, 0))) := Lib.hid (heap_alloc_new w _)
  have Lt0 : Hid (w.heap.size < (w.alloc (.cells #[.int .i64 n0, .slice A1 xs1.length c1] 88)).heap.size) := Lib.hid (by simp)
  have q1 : (w.alloc (.cells #[.int .i64 n0, .slice A1 xs1.length c1] 88)).cell? ⟨w.heap.size, 1, none⟩ = some (.slice A1 xs1.length c1) := by rw [cell_of_row _ _ _ _ _ _ R0.out]; rfl
  go_enter Try.func60, Try.ntmps60
  go_wp2_with fail
  clear q1
  generalize (w.alloc (.cells #[.int .i64 n0, .slice A1 xs1.length c1] 88)) = w0 at *
  refine (szPages_any (H1.out.at hB Hb0.out) (Nat.le_refl _) L (by omega) (by omega)).mono ?_
  rintro e w1 ⟨l1, rfl, hn1, hl1, hp, g⟩
  have Hp1 := Lib.hid hp; clear hp
  have Hb1 : Hid (Below w.heap.size w w1) := Lib.hid (Hb0.out.trans (g.mono Hb0.out.size))
  have R1 := Lib.hid ((g.block _ Lt0.out).trans R0.out)
  have Lt1 : Hid (w.heap.size < w1.heap.size) := Lib.hid (by have := Lt0.out; have := g.size; omega)
  clear g
  by_cases neg1 : l1 < 0
  · go_wp2_with fail
    go_ret
    exact ⟨-1, rfl, by omega, by omega, by omega, Hb1.out⟩
  go_wp2_with fail
  go_ret
  exact ⟨l1, rfl, by omega, by omega, fun h => HP.out (Hp1.out (by omega)), Hb1.out⟩
/-- A struct Record in new memory, and where its slices lie. -/
def AtRecord (n0 : Int) (xs1 : List Pt) (w : World) (e : Ending) (w' : World) : Prop := ∃ (A1 : Option Addr) , e = .returned (.agg #[.int .i64 n0, .slice A1 xs1.length xs1.length]) ∧ OG w' w.heap.size (.slice A1 xs1.length xs1.length) xs1 ∧ Wi w.heap.size w'.heap.size (.slice A1 xs1.length xs1.length) ∧ Below w.heap.size w w'
set_option maxHeartbeats 4000000 in
set_option maxRecDepth 100000 in
theorem toRec_any {B : Nat} {w : World} {n0 : Int} {v1 : Value} {xs1 : List Pt} (h1 : RiU B w v1 xs1) (hB : B ≤ w.heap.size) (hs : SmU xs1) :
    Calls Try.prog 62 #[.agg #[.int .i64 n0, v1]] w (AtRecord n0 xs1 w) := by
  have H1 := Lib.hid h1; obtain ⟨A1, c1, rfl, -, -, -⟩ := h1
  have Hs := Lib.hid hs; clear hs
  have Tri0 := Lib.hid (Tri.start w 88 92 #[.int .i64 n0, .slice A1 xs1.length c1] #[.int .i64 0, .slice none 0 0] #[.int .i64 n0, .slice none 0 0])
  have Sz0 : Hid (w.heap.size + 3 ≤ (((w.alloc (.cells #[.int .i64 n0, .slice A1 xs1.length c1] 88)).alloc (.cells #[.int .i64 0, .slice none 0 0] 92)).alloc (.cells #[.int .i64 n0, .slice none 0 0] 92)).heap.size) := Lib.hid Tri0.out.2.2.2.2
  go_enter Try.func62, Try.ntmps62
  go_wp2_with fail
  generalize (((w.alloc (.cells #[.int .i64 n0, .slice A1 xs1.length c1] 88)).alloc (.cells #[.int .i64 0, .slice none 0 0] 92)).alloc (.cells #[.int .i64 n0, .slice none 0 0] 92)) = W0 at *
  refine (toPages_any (H1.out.at hB Tri0.out.2.2.2.1) (Nat.le_refl _) Hs.out.1).mono ?_
  rintro e w1 ⟨rfl, r, g⟩
  have tri := Tri0.out.after g
  have Sy1 : Hid (W0.heap.size ≤ w1.heap.size) := Lib.hid g.size
  have oo : OG w1 W0.heap.size (.slice (some ⟨W0.heap.size, 0, none⟩) xs1.length xs1.length) xs1 := OG.of_row r (Nat.le_refl _) (by unfold maxLen; have := Hs.out.1; omega)
  have I1 := Lib.hid (own_wi oo)
  have O1_1 : Hid (OG w1 (w.heap.size + 3) (.slice (some ⟨W0.heap.size, 0, none⟩) xs1.length xs1.length) xs1) := Lib.hid (own_lo oo (by have := Sz0.out; omega))
  have Hi9 : Hid ((Try.prog.info? 92).map (·.size) = some (#[.int .i64 n0, .slice (some ⟨W0.heap.size, 0, none⟩) xs1.length xs1.length] : Array Value).size) := Lib.hid (by kernel_rfl)
  have H19 : Hid ((#[.int .i64 n0, .slice (some ⟨W0.heap.size, 0, none⟩) xs1.length xs1.length] : Array Value).all (·.oneCell') = true) := Lib.hid (by simp [Value.oneCell'])
  clear g r oo
  have q1 := tri.out 1 _ rfl
  have q2 := tri.free 1
  have Tri1 : Hid (Tri w (w1.setCell ⟨w.heap.size + 1 + 1, 1, none⟩ (.slice (some ⟨W0.heap.size, 0, none⟩) xs1.length xs1.length)) 88 92 #[.int .i64 n0, .slice A1 xs1.length c1] #[.int .i64 0, .slice none 0 0] #[.int .i64 n0, .slice (some ⟨W0.heap.size, 0, none⟩) xs1.length xs1.length]) := Lib.hid (tri.set 1 (.slice (some ⟨W0.heap.size, 0, none⟩) xs1.length xs1.length))
  have Sz1 : Hid (w.heap.size + 3 ≤ (w1.setCell ⟨w.heap.size + 1 + 1, 1, none⟩ (.slice (some ⟨W0.heap.size, 0, none⟩) xs1.length xs1.length)).heap.size ∧ w1.heap.size ≤ (w1.setCell ⟨w.heap.size + 1 + 1, 1, none⟩ (.slice (some ⟨W0.heap.size, 0, none⟩) xs1.length xs1.length)).heap.size) := Lib.hid ⟨Tri1.out.2.2.2.2, by simp [World.setCell]⟩
  have HSC1 : Hid (∀ q, q ≠ w.heap.size + 1 + 1 → (w1.setCell ⟨w.heap.size + 1 + 1, 1, none⟩ (.slice (some ⟨W0.heap.size, 0, none⟩) xs1.length xs1.length)).heap[q]? = w1.heap[q]?) := Lib.hid (fun q hq => by rw [heap_setCell_other _ ⟨w.heap.size + 1 + 1, 1, none⟩ q _ hq])
  have O1_1s : Hid (OG (w1.setCell ⟨w.heap.size + 1 + 1, 1, none⟩ (.slice (some ⟨W0.heap.size, 0, none⟩) xs1.length xs1.length)) (w.heap.size + 3) (.slice (some ⟨W0.heap.size, 0, none⟩) xs1.length xs1.length) xs1) := Lib.hid (own_same O1_1.out fun q hq => HSC1.out q (by have := own_wi O1_1.out q hq; omega))
  clear tri
  go_wp2_with (first | (refine wpList_load_row rfl 92 (.tmp 3) rfl _ rfl 92 _ (0, 0) _ Tri1.out.2.2.1 Try.underlying92 rfl (by kernel_rfl) ?_) | (refine wpList_store_row rfl 92 (.tmp 2) (.tmp 11) rfl (w.heap.size + 1) #[.int .i64 n0, .slice (some ⟨W0.heap.size, 0, none⟩) xs1.length xs1.length] rfl rfl 92 #[.int .i64 0, .slice none 0 0] Tri1.out.2.1 Hi9.out rfl H19.out ?_))
  refine bodyPost_ret (v := .agg #[.int .i64 n0, .slice (some ⟨W0.heap.size, 0, none⟩) xs1.length xs1.length]) ?_ rfl ?_
  · exact results_cell_row rfl _ _ (w.heap.size + 1) 92 _ (0, 0) _ rfl (setRow_heap _ _ _ _ _ _ Tri1.out.2.1) Try.underlying92 rfl (by kernel_rfl)
  · have hend := below_setRow Tri1.out.2.2.2.1 (show w.heap.size ≤ w.heap.size + 1 by omega) #[.int .i64 n0, .slice (some ⟨W0.heap.size, 0, none⟩) xs1.length xs1.length]
    have Z9 := Sz1.out
    exact ⟨_, rfl, own_lo (own_same O1_1s.out fun q hq => setRow_other _ _ q _ (by have := own_wi O1_1s.out q hq; omega)) (Nat.le_add_right _ 3), I1.out.wide (by have a0 := Sz0.out; have a1 := Sz1.out; have b1 := Sy1.out; omega) (by rw [setRow_size]; have a0 := Sz0.out; have a1 := Sz1.out; have b1 := Sy1.out; omega), hend⟩
theorem toRec_rd {B : Nat} {w : World} {n0 : Int} {v1 : Value} {xs1 : List Pt} (h1 : RiU B w v1 xs1) (hB : B ≤ w.heap.size) (hs : SmU xs1) :
    Calls Try.prog 62 #[.agg #[.int .i64 n0, v1]] w fun e w' => ∃ A1 : Option Addr, e = .returned (.agg #[.int .i64 n0, .slice A1 xs1.length xs1.length]) ∧ RiU w'.heap.size w' (.slice A1 xs1.length xs1.length) xs1 ∧ Below w.heap.size w w' :=
  (toRec_any h1 hB hs).mono fun e w' h => by
    obtain ⟨A1, he, o1, -, g⟩ := h
    exact ⟨A1, he, o1.riu h1.wf, g⟩
set_option maxHeartbeats 2000000 in
set_option maxRecDepth 100000 in
theorem eqRec_any {B : Nat} {w : World} {n0 : Int} {v1 u1 : Value} {xs1 : List Pt} (h1 : RiU B w v1 xs1) (g1 : RiU B w u1 xs1) (hB : B ≤ w.heap.size) :
    Calls Try.prog 65 #[.agg #[.int .i64 n0, v1], .agg #[.int .i64 n0, u1]] w (GivesB (.bool true) w) := by
  have H1 := Lib.hid h1; obtain ⟨A1, c1, rfl, -, -, -⟩ := h1
  have G1 := Lib.hid g1; obtain ⟨D1, d1, rfl, -, -, -⟩ := g1
  have Hb0 : Hid (Below w.heap.size w ((w.alloc (.cells #[.int .i64 n0, .slice A1 xs1.length c1] 92)).alloc (.cells #[.int .i64 n0, .slice D1 xs1.length d1] 92))) := Lib.hid (((Below.refl _ w).alloc (Nat.le_refl _) _).alloc (by simp) _)
  have R0 : Hid (((w.alloc (.cells #[.int .i64 n0, .slice A1 xs1.length c1] 92)).alloc (.cells #[.int .i64 n0, .slice D1 xs1.length d1] 92)).heap[w.heap.size]? = some (.cells #[.int .i64 n0, .slice A1 xs1.length c1] 92 (0, 0))) := Lib.hid (heap_alloc2_old w _ _)
  have S0 : Hid (((w.alloc (.cells #[.int .i64 n0, .slice A1 xs1.length c1] 92)).alloc (.cells #[.int .i64 n0, .slice D1 xs1.length d1] 92)).heap[w.heap.size + 1]? = some (.cells #[.int .i64 n0, .slice D1 xs1.length d1] 92 (0, 0))) := Lib.hid (heap_alloc2_new w _ _)
  have Lt0 : Hid (w.heap.size + 1 < ((w.alloc (.cells #[.int .i64 n0, .slice A1 xs1.length c1] 92)).alloc (.cells #[.int .i64 n0, .slice D1 xs1.length d1] 92)).heap.size) := Lib.hid (by simp)
  have q1 : ((w.alloc (.cells #[.int .i64 n0, .slice A1 xs1.length c1] 92)).alloc (.cells #[.int .i64 n0, .slice D1 xs1.length d1] 92)).cell? ⟨w.heap.size, 0, none⟩ = some (.int .i64 n0) := by rw [cell_of_row _ _ _ _ _ _ R0.out]; rfl
  have q2 : ((w.alloc (.cells #[.int .i64 n0, .slice A1 xs1.length c1] 92)).alloc (.cells #[.int .i64 n0, .slice D1 xs1.length d1] 92)).cell? ⟨w.heap.size + 1, 0, none⟩ = some (.int .i64 n0) := by rw [cell_of_row _ _ _ _ _ _ S0.out]; rfl
  have q3 : ((w.alloc (.cells #[.int .i64 n0, .slice A1 xs1.length c1] 92)).alloc (.cells #[.int .i64 n0, .slice D1 xs1.length d1] 92)).cell? ⟨w.heap.size, 1, none⟩ = some (.slice A1 xs1.length c1) := by rw [cell_of_row _ _ _ _ _ _ R0.out]; rfl
  have q4 : ((w.alloc (.cells #[.int .i64 n0, .slice A1 xs1.length c1] 92)).alloc (.cells #[.int .i64 n0, .slice D1 xs1.length d1] 92)).cell? ⟨w.heap.size + 1, 1, none⟩ = some (.slice D1 xs1.length d1) := by rw [cell_of_row _ _ _ _ _ _ S0.out]; rfl
  go_enter Try.func65, Try.ntmps65
  go_wp2_with fail
  clear q1 q2 q3 q4
  generalize ((w.alloc (.cells #[.int .i64 n0, .slice A1 xs1.length c1] 92)).alloc (.cells #[.int .i64 n0, .slice D1 xs1.length d1] 92)) = w0 at *
  refine (eqPages_any (H1.out.at hB Hb0.out) (G1.out.at hB Hb0.out) (Nat.le_refl _)).mono ?_
  rintro e w1 ⟨rfl, g⟩
  have Hb1 : Hid (Below w.heap.size w w1) := Lib.hid (Hb0.out.trans (g.mono Hb0.out.size))
  have R1 := Lib.hid ((g.block _ (by have := Lt0.out; omega)).trans R0.out)
  have S1 := Lib.hid ((g.block _ Lt0.out).trans S0.out)
  have Lt1 : Hid (w.heap.size + 1 < w1.heap.size) := Lib.hid (by have := Lt0.out; have := g.size; omega)
  clear g
  go_wp2_with fail
  go_ret
  exact ⟨rfl, Hb1.out⟩
end Go.Proofs.Ytlickjmdlooapaa
