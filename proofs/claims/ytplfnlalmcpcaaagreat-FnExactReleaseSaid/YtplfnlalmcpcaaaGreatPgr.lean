/- Pagers in memory: contracts of the laws' functions that bound, copy and compare them. No statement is proved here. -/
import Derived.Test.YtplfnlalmcpcaaaGreatRec
import Derived.Test.YtplfnlalmcpcaaaGreatSupE
namespace Go.Proofs.YtplfnlalmcpcaaaGreat
open Go.RowKit
set_option linter.unusedVariables false
set_option maxHeartbeats 1000000 in
set_option maxRecDepth 100000 in
theorem szPager_any {B : Nat} {w : World} {v0 : Value} {xs0 : List ByteArray} {v1 : Value} {xs1 : List Pt} {n2 : Int} {n3 : Bool} {n4 : Int} {n5 : Int} {n6 : Int} {n7 : Int} {n8 : Int} {n9 : Int} {v10 : Value} {xs10 : List Pt} {v11 : Value} {xs11 : List Pt} (h0 : RiT B w v0 xs0) (h1 : RiU B w v1 xs1) (h10 : RiU B w v10 xs10) (h11 : RiU B w v11 xs11) (hB : B ≤ w.heap.size) (L : Int) (hL0 : 0 ≤ L) (hL : L ≤ 1048576) :
    Calls Tryz.prog 10 #[.agg #[v0, v1, .int .i64 n2, .bool n3, .int .i64 n4, .int .i64 n5, .int .i64 n6, .int .i64 n7, .int .i64 n8, .int .i64 n9, v10, v11], .int .i64 L] w (Left L ((SmT xs0 ∧ SmU xs1) ∧ SmU xs10 ∧ SmU xs11) w) := by
  have H0 := Lib.hid h0; obtain ⟨A0, c0, rfl, -, -, -⟩ := h0
  have H1 := Lib.hid h1; obtain ⟨A1, c1, rfl, -, -, -⟩ := h1
  have H10 := Lib.hid h10; obtain ⟨A10, c10, rfl, -, -, -⟩ := h10
  have H11 := Lib.hid h11; obtain ⟨A11, c11, rfl, -, -, -⟩ := h11
  have hp : (SmT xs0 ∧ SmU xs1) → SmU xs10 → SmU xs11 → ((SmT xs0 ∧ SmU xs1) ∧ SmU xs10 ∧ SmU xs11) := fun x0 x1 x2 => ⟨x0, x1, x2⟩
  generalize ((SmT xs0 ∧ SmU xs1) ∧ SmU xs10 ∧ SmU xs11) = P at *
  have HP := Lib.hid hp; clear hp
  have Hb0 : Hid (Below w.heap.size w (w.alloc (.cells #[.slice A0 xs0.length c0, .slice A1 xs1.length c1, .int .i64 n2, .bool n3, .int .i64 n4, .int .i64 n5, .int .i64 n6, .int .i64 n7, .int .i64 n8, .int .i64 n9, .slice A10 xs10.length c10, .slice A11 xs11.length c11] 30))) := Lib.hid ((Below.refl _ w).alloc (Nat.le_refl _) _)
  have R0 : Hid ((w.alloc (.cells #[.slice A0 xs0.length c0, .slice A1 xs1.length c1, .int .i64 n2, .bool n3, .int .i64 n4, .int .i64 n5, .int .i64 n6, .int .i64 n7, .int .i64 n8, .int .i64 n9, .slice A10 xs10.length c10, .slice A11 xs11.length c11] 30)).heap[w.heap.size]? = some (.cells #[.slice A0 xs0.length c0, .slice A1 xs1.length c1, .int .i64 n2, .bool n3, .int .i64 n4, .int .i64 n5, .int .i64 n6, .int .i64 n7, .int .i64 n8, .int .i64 n9, .slice A10 xs10.length c10, .slice A11 xs11.length c11] 30 (0, 0))) := Lib.hid (heap_alloc_new w _)
  have Lt0 : Hid (w.heap.size < (w.alloc (.cells #[.slice A0 xs0.length c0, .slice A1 xs1.length c1, .int .i64 n2, .bool n3, .int .i64 n4, .int .i64 n5, .int .i64 n6, .int .i64 n7, .int .i64 n8, .int .i64 n9, .slice A10 xs10.length c10, .slice A11 xs11.length c11] 30)).heap.size) := Lib.hid (by simp)
  have Hld := Lib.hid (run_load_cells (P := Tryz.prog) (w.alloc (.cells #[.slice A0 xs0.length c0, .slice A1 xs1.length c1, .int .i64 n2, .bool n3, .int .i64 n4, .int .i64 n5, .int .i64 n6, .int .i64 n7, .int .i64 n8, .int .i64 n9, .slice A10 xs10.length c10, .slice A11 xs11.length c11] 30)) w.heap.size 0 25 _ [.slice A0 xs0.length c0, .slice A1 xs1.length c1, .int .i64 n2, .bool n3] (row_part R0.out (by intro j u hj; rcases j with _ | _ | _ | _ | j; all_goals first | exact hj | simp at hj)) Tryz.underlying25 rfl)
  go_enter Tryz.func10, Tryz.ntmps10
  go_wp2_with (refine wpList_load_agg rfl 25 (.tmp 5) rfl _ rfl _ Hld.out ?_)
  clear Hld
  generalize (w.alloc (.cells #[.slice A0 xs0.length c0, .slice A1 xs1.length c1, .int .i64 n2, .bool n3, .int .i64 n4, .int .i64 n5, .int .i64 n6, .int .i64 n7, .int .i64 n8, .int .i64 n9, .slice A10 xs10.length c10, .slice A11 xs11.length c11] 30)) = w0 at *
  refine (szDisk_any (H0.out.at hB Hb0.out) (H1.out.at hB Hb0.out) (Nat.le_refl _) L (by omega) (by omega)).mono ?_
  rintro e w1 ⟨l1, rfl, hn1, hl1, hp, g⟩
  have Hp1 := Lib.hid hp; clear hp
  have Hb1 : Hid (Below w.heap.size w w1) := Lib.hid (Hb0.out.trans (g.mono Hb0.out.size))
  have R1 := Lib.hid ((g.block _ Lt0.out).trans R0.out)
  have Lt1 : Hid (w.heap.size < w1.heap.size) := Lib.hid (by have := Lt0.out; have := g.size; omega)
  clear g
  have q1 : w1.cell? ⟨w.heap.size, 10, none⟩ = some (.slice A10 xs10.length c10) := by rw [cell_of_row _ _ _ _ _ _ R1.out]; rfl
  by_cases neg1 : l1 < 0
  · go_wp2_with fail
    go_ret
    exact ⟨-1, rfl, by omega, by omega, by omega, Hb1.out⟩
  go_wp2_with fail
  clear q1
  refine (szPages_any (H10.out.at hB Hb1.out) (Nat.le_refl _) l1 (by omega) (by omega)).mono ?_
  rintro e w2 ⟨l2, rfl, hn2, hl2, hp, g⟩
  have Hp2 := Lib.hid hp; clear hp
  have Hb2 : Hid (Below w.heap.size w w2) := Lib.hid (Hb1.out.trans (g.mono Hb1.out.size))
  have R2 := Lib.hid ((g.block _ Lt1.out).trans R1.out)
  have Lt2 : Hid (w.heap.size < w2.heap.size) := Lib.hid (by have := Lt1.out; have := g.size; omega)
  clear g
  have q1 : w2.cell? ⟨w.heap.size, 11, none⟩ = some (.slice A11 xs11.length c11) := by rw [cell_of_row _ _ _ _ _ _ R2.out]; rfl
  by_cases neg2 : l2 < 0
  · go_wp2_with fail
    go_ret
    exact ⟨-1, rfl, by omega, by omega, by omega, Hb2.out⟩
  go_wp2_with fail
  clear q1
  refine (szPages_any (H11.out.at hB Hb2.out) (Nat.le_refl _) l2 (by omega) (by omega)).mono ?_
  rintro e w3 ⟨l3, rfl, hn3, hl3, hp, g⟩
  have Hp3 := Lib.hid hp; clear hp
  have Hb3 : Hid (Below w.heap.size w w3) := Lib.hid (Hb2.out.trans (g.mono Hb2.out.size))
  have R3 := Lib.hid ((g.block _ Lt2.out).trans R2.out)
  have Lt3 : Hid (w.heap.size < w3.heap.size) := Lib.hid (by have := Lt2.out; have := g.size; omega)
  clear g
  by_cases neg3 : l3 < 0
  · go_wp2_with fail
    go_ret
    exact ⟨-1, rfl, by omega, by omega, by omega, Hb3.out⟩
  go_wp2_with fail
  go_ret
  exact ⟨l3, rfl, by omega, by omega, fun h => HP.out (Hp1.out (by omega)) (Hp2.out (by omega)) (Hp3.out (by omega)), Hb3.out⟩
/-- A struct Pager in new memory, and where its slices lie. -/
def AtPager (xs0 : List ByteArray) (xs1 : List Pt) (n2 : Int) (n3 : Bool) (n4 : Int) (n5 : Int) (n6 : Int) (n7 : Int) (n8 : Int) (n9 : Int) (xs10 : List Pt) (xs11 : List Pt) (w : World) (e : Ending) (w' : World) : Prop := ∃ (A0 A1 A10 A11 : Option Addr) (p1 p2 : Nat), e = .returned (.agg #[.slice A0 xs0.length xs0.length, .slice A1 xs1.length xs1.length, .int .i64 n2, .bool n3, .int .i64 n4, .int .i64 n5, .int .i64 n6, .int .i64 n7, .int .i64 n8, .int .i64 n9, .slice A10 xs10.length xs10.length, .slice A11 xs11.length xs11.length]) ∧ OT w' w.heap.size (.slice A0 xs0.length xs0.length) xs0 ∧ OU w' w.heap.size (.slice A1 xs1.length xs1.length) xs1 ∧ OG w' w.heap.size (.slice A10 xs10.length xs10.length) xs10 ∧ OG w' w.heap.size (.slice A11 xs11.length xs11.length) xs11 ∧ Apart (.slice A0 xs0.length xs0.length) (.slice A1 xs1.length xs1.length) ∧ Wi w.heap.size p1 (.slice A0 xs0.length xs0.length) ∧ Wi w.heap.size p1 (.slice A1 xs1.length xs1.length) ∧ Wi p1 p2 (.slice A10 xs10.length xs10.length) ∧ Wi p2 w'.heap.size (.slice A11 xs11.length xs11.length) ∧ Below w.heap.size w w'
set_option maxHeartbeats 4000000 in
set_option maxRecDepth 100000 in
theorem toPager_any {B : Nat} {w : World} {v0 : Value} {xs0 : List ByteArray} {v1 : Value} {xs1 : List Pt} {n2 : Int} {n3 : Bool} {n4 : Int} {n5 : Int} {n6 : Int} {n7 : Int} {n8 : Int} {n9 : Int} {v10 : Value} {xs10 : List Pt} {v11 : Value} {xs11 : List Pt} (h0 : RiT B w v0 xs0) (h1 : RiU B w v1 xs1) (h10 : RiU B w v10 xs10) (h11 : RiU B w v11 xs11) (hB : B ≤ w.heap.size) (hs : (SmT xs0 ∧ SmU xs1) ∧ SmU xs10 ∧ SmU xs11) :
    Calls Tryz.prog 12 #[.agg #[v0, v1, .int .i64 n2, .bool n3, .int .i64 n4, .int .i64 n5, .int .i64 n6, .int .i64 n7, .int .i64 n8, .int .i64 n9, v10, v11]] w (AtPager xs0 xs1 n2 n3 n4 n5 n6 n7 n8 n9 xs10 xs11 w) := by
  have H0 := Lib.hid h0; obtain ⟨A0, c0, rfl, -, -, -⟩ := h0
  have H1 := Lib.hid h1; obtain ⟨A1, c1, rfl, -, -, -⟩ := h1
  have H10 := Lib.hid h10; obtain ⟨A10, c10, rfl, -, -, -⟩ := h10
  have H11 := Lib.hid h11; obtain ⟨A11, c11, rfl, -, -, -⟩ := h11
  have Hs := Lib.hid hs; clear hs
  have Tri0 := Lib.hid (Tri.start w 30 38 #[.slice A0 xs0.length c0, .slice A1 xs1.length c1, .int .i64 n2, .bool n3, .int .i64 n4, .int .i64 n5, .int .i64 n6, .int .i64 n7, .int .i64 n8, .int .i64 n9, .slice A10 xs10.length c10, .slice A11 xs11.length c11] #[.slice none 0 0, .slice none 0 0, .int .i64 0, .bool false, .int .i64 0, .int .i64 0, .int .i64 0, .int .i64 0, .int .i64 0, .int .i64 0, .slice none 0 0, .slice none 0 0] #[.slice none 0 0, .slice none 0 0, .int .i64 0, .bool false, .int .i64 0, .int .i64 0, .int .i64 0, .int .i64 0, .int .i64 0, .int .i64 0, .slice none 0 0, .slice none 0 0])
  have Sz0 : Hid (w.heap.size + 3 ≤ (((w.alloc (.cells #[.slice A0 xs0.length c0, .slice A1 xs1.length c1, .int .i64 n2, .bool n3, .int .i64 n4, .int .i64 n5, .int .i64 n6, .int .i64 n7, .int .i64 n8, .int .i64 n9, .slice A10 xs10.length c10, .slice A11 xs11.length c11] 30)).alloc (.cells #[.slice none 0 0, .slice none 0 0, .int .i64 0, .bool false, .int .i64 0, .int .i64 0, .int .i64 0, .int .i64 0, .int .i64 0, .int .i64 0, .slice none 0 0, .slice none 0 0] 38)).alloc (.cells #[.slice none 0 0, .slice none 0 0, .int .i64 0, .bool false, .int .i64 0, .int .i64 0, .int .i64 0, .int .i64 0, .int .i64 0, .int .i64 0, .slice none 0 0, .slice none 0 0] 38)).heap.size) := Lib.hid Tri0.out.2.2.2.2
  have Hld := Lib.hid (run_load_cells (P := Tryz.prog) (((w.alloc (.cells #[.slice A0 xs0.length c0, .slice A1 xs1.length c1, .int .i64 n2, .bool n3, .int .i64 n4, .int .i64 n5, .int .i64 n6, .int .i64 n7, .int .i64 n8, .int .i64 n9, .slice A10 xs10.length c10, .slice A11 xs11.length c11] 30)).alloc (.cells #[.slice none 0 0, .slice none 0 0, .int .i64 0, .bool false, .int .i64 0, .int .i64 0, .int .i64 0, .int .i64 0, .int .i64 0, .int .i64 0, .slice none 0 0, .slice none 0 0] 38)).alloc (.cells #[.slice none 0 0, .slice none 0 0, .int .i64 0, .bool false, .int .i64 0, .int .i64 0, .int .i64 0, .int .i64 0, .int .i64 0, .int .i64 0, .slice none 0 0, .slice none 0 0] 38)) w.heap.size 0 25 _ [.slice A0 xs0.length c0, .slice A1 xs1.length c1, .int .i64 n2, .bool n3] (row_part Tri0.out.1 (by intro j u hj; rcases j with _ | _ | _ | _ | j; all_goals first | exact hj | simp at hj)) Tryz.underlying25 rfl)
  go_enter Tryz.func12, Tryz.ntmps12
  go_wp2_with (refine wpList_load_agg rfl 25 (.tmp 4) rfl _ rfl _ Hld.out ?_)
  clear Hld
  generalize (((w.alloc (.cells #[.slice A0 xs0.length c0, .slice A1 xs1.length c1, .int .i64 n2, .bool n3, .int .i64 n4, .int .i64 n5, .int .i64 n6, .int .i64 n7, .int .i64 n8, .int .i64 n9, .slice A10 xs10.length c10, .slice A11 xs11.length c11] 30)).alloc (.cells #[.slice none 0 0, .slice none 0 0, .int .i64 0, .bool false, .int .i64 0, .int .i64 0, .int .i64 0, .int .i64 0, .int .i64 0, .int .i64 0, .slice none 0 0, .slice none 0 0] 38)).alloc (.cells #[.slice none 0 0, .slice none 0 0, .int .i64 0, .bool false, .int .i64 0, .int .i64 0, .int .i64 0, .int .i64 0, .int .i64 0, .int .i64 0, .slice none 0 0, .slice none 0 0] 38)) = W0 at *
  refine (toDisk_any (H0.out.at hB Tri0.out.2.2.2.1) (H1.out.at hB Tri0.out.2.2.2.1) (Nat.le_refl _) Hs.out.1.1 Hs.out.1.2).mono ?_
  rintro e w1 ⟨M0, M1, rfl, oa, ob, hap, g⟩
  have tri := Tri0.out.after g
  have Sy1 : Hid (W0.heap.size ≤ w1.heap.size) := Lib.hid g.size
  have X0 := Lib.hid hap; clear hap
  have I0 := Lib.hid (own_wi oa)
  have O0_1 : Hid (OT w1 (w.heap.size + 3) (.slice M0 xs0.length xs0.length) xs0) := Lib.hid (own_lo oa (by have := Sz0.out; omega))
  have I1 := Lib.hid (own_wi ob)
  have O1_1 : Hid (OU w1 (w.heap.size + 3) (.slice M1 xs1.length xs1.length) xs1) := Lib.hid (own_lo ob (by have := Sz0.out; omega))
  clear g oa ob
  go_wp2_with (first | (refine wpList_store_out rfl 34 (.tmp 7) (.tmp 6) rfl 0 #[.slice M0 xs0.length xs0.length, .slice M1 xs1.length xs1.length, .int .i64 n2, .bool n3] rfl rfl tri (out' := #[.slice M0 xs0.length xs0.length, .slice M1 xs1.length xs1.length, .int .i64 n2, .bool n3, .int .i64 0, .int .i64 0, .int .i64 0, .int .i64 0, .int .i64 0, .int .i64 0, .slice none 0 0, .slice none 0 0]) (by simp [putL]) (by simp) (by kernel_rfl) (by simp [Value.oneCell']) ?_; intro V1 triv hsame hsz; clear tri; have Tri1 : Hid (Tri w V1 30 38 #[.slice A0 xs0.length c0, .slice A1 xs1.length c1, .int .i64 n2, .bool n3, .int .i64 n4, .int .i64 n5, .int .i64 n6, .int .i64 n7, .int .i64 n8, .int .i64 n9, .slice A10 xs10.length c10, .slice A11 xs11.length c11] #[.slice none 0 0, .slice none 0 0, .int .i64 0, .bool false, .int .i64 0, .int .i64 0, .int .i64 0, .int .i64 0, .int .i64 0, .int .i64 0, .slice none 0 0, .slice none 0 0] #[.slice M0 xs0.length xs0.length, .slice M1 xs1.length xs1.length, .int .i64 n2, .bool n3, .int .i64 0, .int .i64 0, .int .i64 0, .int .i64 0, .int .i64 0, .int .i64 0, .slice none 0 0, .slice none 0 0]) := Lib.hid triv; have Sz1 : Hid (w.heap.size + 3 ≤ V1.heap.size ∧ w1.heap.size ≤ V1.heap.size) := Lib.hid ⟨Tri1.out.2.2.2.2, by omega⟩; have HSC1 : Hid (∀ q, q ≠ w.heap.size + 1 + 1 → V1.heap[q]? = w1.heap[q]?) := Lib.hid (fun q hq => by exact hsame [q] (by simpa using fun e => hq e.symm) q (by simp)); have O0_1s : Hid (OT V1 (w.heap.size + 3) (.slice M0 xs0.length xs0.length) xs0) := Lib.hid (own_same O0_1.out fun q hq => HSC1.out q (by have := own_wi O0_1.out q hq; omega)); have O1_1s : Hid (OU V1 (w.heap.size + 3) (.slice M1 xs1.length xs1.length) xs1) := Lib.hid (own_same O1_1.out fun q hq => HSC1.out q (by have := own_wi O1_1.out q hq; omega)); have Hld := Lib.hid (run_load_cells (P := Tryz.prog) V1 w.heap.size 4 27 _ [.int .i64 n4, .int .i64 n5, .int .i64 n6, .int .i64 n7] (row_part Tri1.out.1 (by intro j u hj; rcases j with _ | _ | _ | _ | j; all_goals first | exact hj | simp at hj)) Tryz.underlying27 rfl); clear hsame) | (refine wpList_load_agg rfl 27 (.tmp 8) rfl _ rfl _ Hld.out ?_))
  clear Hld
  generalize V1 = W1 at *
  refine (toSuper_any _ _ _ _ _).mono ?_
  rintro e w2 ⟨rfl, g⟩
  have tri := Tri1.out.after g
  have Sy2 : Hid (W1.heap.size ≤ w2.heap.size) := Lib.hid g.size
  have O0_2 : Hid (OT w2 (w.heap.size + 3) (.slice M0 xs0.length xs0.length) xs0) := Lib.hid (own_bel O0_1s.out g)
  have O1_2 : Hid (OU w2 (w.heap.size + 3) (.slice M1 xs1.length xs1.length) xs1) := Lib.hid (own_bel O1_1s.out g)
  clear g
  go_wp2_with (first | (refine wpList_store_out rfl 35 (.tmp 11) (.tmp 10) rfl 4 #[.int .i64 n4, .int .i64 n5, .int .i64 n6, .int .i64 n7] rfl rfl tri (out' := #[.slice M0 xs0.length xs0.length, .slice M1 xs1.length xs1.length, .int .i64 n2, .bool n3, .int .i64 n4, .int .i64 n5, .int .i64 n6, .int .i64 n7, .int .i64 0, .int .i64 0, .slice none 0 0, .slice none 0 0]) (by simp [putL]) (by simp) (by kernel_rfl) (by simp [Value.oneCell']) ?_; intro V2 triv hsame hsz; clear tri; have q1 := triv.out 8 _ rfl; have q2 := triv.free 8; have q3 := triv.box 8 _ rfl; have q4 := triv.out 9 _ rfl; have q5 := triv.free 9; have q6 := triv.box 9 _ rfl; have Tri2 : Hid (Tri w ((V2.setCell ⟨w.heap.size + 1 + 1, 8, none⟩ (.int .i64 n8)).setCell ⟨w.heap.size + 1 + 1, 9, none⟩ (.int .i64 n9)) 30 38 #[.slice A0 xs0.length c0, .slice A1 xs1.length c1, .int .i64 n2, .bool n3, .int .i64 n4, .int .i64 n5, .int .i64 n6, .int .i64 n7, .int .i64 n8, .int .i64 n9, .slice A10 xs10.length c10, .slice A11 xs11.length c11] #[.slice none 0 0, .slice none 0 0, .int .i64 0, .bool false, .int .i64 0, .int .i64 0, .int .i64 0, .int .i64 0, .int .i64 0, .int .i64 0, .slice none 0 0, .slice none 0 0] #[.slice M0 xs0.length xs0.length, .slice M1 xs1.length xs1.length, .int .i64 n2, .bool n3, .int .i64 n4, .int .i64 n5, .int .i64 n6, .int .i64 n7, .int .i64 n8, .int .i64 n9, .slice none 0 0, .slice none 0 0]) := Lib.hid ((triv.set 8 (.int .i64 n8)).set 9 (.int .i64 n9)); have Sz2 : Hid (w.heap.size + 3 ≤ ((V2.setCell ⟨w.heap.size + 1 + 1, 8, none⟩ (.int .i64 n8)).setCell ⟨w.heap.size + 1 + 1, 9, none⟩ (.int .i64 n9)).heap.size ∧ w2.heap.size ≤ ((V2.setCell ⟨w.heap.size + 1 + 1, 8, none⟩ (.int .i64 n8)).setCell ⟨w.heap.size + 1 + 1, 9, none⟩ (.int .i64 n9)).heap.size) := Lib.hid ⟨Tri2.out.2.2.2.2, by simp [World.setCell, hsz]⟩; have HSC2 : Hid (∀ q, q ≠ w.heap.size + 1 + 1 → ((V2.setCell ⟨w.heap.size + 1 + 1, 8, none⟩ (.int .i64 n8)).setCell ⟨w.heap.size + 1 + 1, 9, none⟩ (.int .i64 n9)).heap[q]? = w2.heap[q]?) := Lib.hid (fun q hq => by rw [heap_setCell_other _ ⟨w.heap.size + 1 + 1, 9, none⟩ q _ hq, heap_setCell_other _ ⟨w.heap.size + 1 + 1, 8, none⟩ q _ hq]; exact hsame [q] (by simpa using fun e => hq e.symm) q (by simp)); have O0_2s : Hid (OT ((V2.setCell ⟨w.heap.size + 1 + 1, 8, none⟩ (.int .i64 n8)).setCell ⟨w.heap.size + 1 + 1, 9, none⟩ (.int .i64 n9)) (w.heap.size + 3) (.slice M0 xs0.length xs0.length) xs0) := Lib.hid (own_same O0_2.out fun q hq => HSC2.out q (by have := own_wi O0_2.out q hq; omega)); have O1_2s : Hid (OU ((V2.setCell ⟨w.heap.size + 1 + 1, 8, none⟩ (.int .i64 n8)).setCell ⟨w.heap.size + 1 + 1, 9, none⟩ (.int .i64 n9)) (w.heap.size + 3) (.slice M1 xs1.length xs1.length) xs1) := Lib.hid (own_same O1_2.out fun q hq => HSC2.out q (by have := own_wi O1_2.out q hq; omega)); have q7 := triv.box 10 _ rfl; clear hsame))
  clear q1 q2 q3 q4 q5 q6 q7
  generalize ((V2.setCell ⟨w.heap.size + 1 + 1, 8, none⟩ (.int .i64 n8)).setCell ⟨w.heap.size + 1 + 1, 9, none⟩ (.int .i64 n9)) = W2 at *
  refine (toPages_any (H10.out.at hB Tri2.out.2.2.2.1) (Nat.le_refl _) Hs.out.2.1.1).mono ?_
  rintro e w3 ⟨rfl, r, g⟩
  have tri := Tri2.out.after g
  have Sy3 : Hid (W2.heap.size ≤ w3.heap.size) := Lib.hid g.size
  have O0_3 : Hid (OT w3 (w.heap.size + 3) (.slice M0 xs0.length xs0.length) xs0) := Lib.hid (own_bel O0_2s.out g)
  have O1_3 : Hid (OU w3 (w.heap.size + 3) (.slice M1 xs1.length xs1.length) xs1) := Lib.hid (own_bel O1_2s.out g)
  have oo : OG w3 W2.heap.size (.slice (some ⟨W2.heap.size, 0, none⟩) xs10.length xs10.length) xs10 := OG.of_row r (Nat.le_refl _) (by unfold maxLen; have := Hs.out.2.1.1; omega)
  have I10 := Lib.hid (own_wi oo)
  have O10_3 : Hid (OG w3 (w.heap.size + 3) (.slice (some ⟨W2.heap.size, 0, none⟩) xs10.length xs10.length) xs10) := Lib.hid (own_lo oo (by have := Sz2.out; omega))
  clear g r oo
  have q1 := tri.out 10 _ rfl
  have q2 := tri.free 10
  have Tri3 : Hid (Tri w (w3.setCell ⟨w.heap.size + 1 + 1, 10, none⟩ (.slice (some ⟨W2.heap.size, 0, none⟩) xs10.length xs10.length)) 30 38 #[.slice A0 xs0.length c0, .slice A1 xs1.length c1, .int .i64 n2, .bool n3, .int .i64 n4, .int .i64 n5, .int .i64 n6, .int .i64 n7, .int .i64 n8, .int .i64 n9, .slice A10 xs10.length c10, .slice A11 xs11.length c11] #[.slice none 0 0, .slice none 0 0, .int .i64 0, .bool false, .int .i64 0, .int .i64 0, .int .i64 0, .int .i64 0, .int .i64 0, .int .i64 0, .slice none 0 0, .slice none 0 0] #[.slice M0 xs0.length xs0.length, .slice M1 xs1.length xs1.length, .int .i64 n2, .bool n3, .int .i64 n4, .int .i64 n5, .int .i64 n6, .int .i64 n7, .int .i64 n8, .int .i64 n9, .slice (some ⟨W2.heap.size, 0, none⟩) xs10.length xs10.length, .slice none 0 0]) := Lib.hid (tri.set 10 (.slice (some ⟨W2.heap.size, 0, none⟩) xs10.length xs10.length))
  have Sz3 : Hid (w.heap.size + 3 ≤ (w3.setCell ⟨w.heap.size + 1 + 1, 10, none⟩ (.slice (some ⟨W2.heap.size, 0, none⟩) xs10.length xs10.length)).heap.size ∧ w3.heap.size ≤ (w3.setCell ⟨w.heap.size + 1 + 1, 10, none⟩ (.slice (some ⟨W2.heap.size, 0, none⟩) xs10.length xs10.length)).heap.size) := Lib.hid ⟨Tri3.out.2.2.2.2, by simp [World.setCell]⟩
  have HSC3 : Hid (∀ q, q ≠ w.heap.size + 1 + 1 → (w3.setCell ⟨w.heap.size + 1 + 1, 10, none⟩ (.slice (some ⟨W2.heap.size, 0, none⟩) xs10.length xs10.length)).heap[q]? = w3.heap[q]?) := Lib.hid (fun q hq => by rw [heap_setCell_other _ ⟨w.heap.size + 1 + 1, 10, none⟩ q _ hq])
  have O0_3s : Hid (OT (w3.setCell ⟨w.heap.size + 1 + 1, 10, none⟩ (.slice (some ⟨W2.heap.size, 0, none⟩) xs10.length xs10.length)) (w.heap.size + 3) (.slice M0 xs0.length xs0.length) xs0) := Lib.hid (own_same O0_3.out fun q hq => HSC3.out q (by have := own_wi O0_3.out q hq; omega))
  have O1_3s : Hid (OU (w3.setCell ⟨w.heap.size + 1 + 1, 10, none⟩ (.slice (some ⟨W2.heap.size, 0, none⟩) xs10.length xs10.length)) (w.heap.size + 3) (.slice M1 xs1.length xs1.length) xs1) := Lib.hid (own_same O1_3.out fun q hq => HSC3.out q (by have := own_wi O1_3.out q hq; omega))
  have O10_3s : Hid (OG (w3.setCell ⟨w.heap.size + 1 + 1, 10, none⟩ (.slice (some ⟨W2.heap.size, 0, none⟩) xs10.length xs10.length)) (w.heap.size + 3) (.slice (some ⟨W2.heap.size, 0, none⟩) xs10.length xs10.length) xs10) := Lib.hid (own_same O10_3.out fun q hq => HSC3.out q (by have := own_wi O10_3.out q hq; omega))
  have q3 := tri.box 11 _ rfl
  clear tri
  go_wp2_with fail
  clear q1 q2 q3
  generalize (w3.setCell ⟨w.heap.size + 1 + 1, 10, none⟩ (.slice (some ⟨W2.heap.size, 0, none⟩) xs10.length xs10.length)) = W3 at *
  refine (toPages_any (H11.out.at hB Tri3.out.2.2.2.1) (Nat.le_refl _) Hs.out.2.2.1).mono ?_
  rintro e w4 ⟨rfl, r, g⟩
  have tri := Tri3.out.after g
  have Sy4 : Hid (W3.heap.size ≤ w4.heap.size) := Lib.hid g.size
  have O0_4 : Hid (OT w4 (w.heap.size + 3) (.slice M0 xs0.length xs0.length) xs0) := Lib.hid (own_bel O0_3s.out g)
  have O1_4 : Hid (OU w4 (w.heap.size + 3) (.slice M1 xs1.length xs1.length) xs1) := Lib.hid (own_bel O1_3s.out g)
  have O10_4 : Hid (OG w4 (w.heap.size + 3) (.slice (some ⟨W2.heap.size, 0, none⟩) xs10.length xs10.length) xs10) := Lib.hid (own_bel O10_3s.out g)
  have oo : OG w4 W3.heap.size (.slice (some ⟨W3.heap.size, 0, none⟩) xs11.length xs11.length) xs11 := OG.of_row r (Nat.le_refl _) (by unfold maxLen; have := Hs.out.2.2.1; omega)
  have I11 := Lib.hid (own_wi oo)
  have O11_4 : Hid (OG w4 (w.heap.size + 3) (.slice (some ⟨W3.heap.size, 0, none⟩) xs11.length xs11.length) xs11) := Lib.hid (own_lo oo (by have := Sz3.out; omega))
  have Hi9 : Hid ((Tryz.prog.info? 38).map (·.size) = some (#[.slice M0 xs0.length xs0.length, .slice M1 xs1.length xs1.length, .int .i64 n2, .bool n3, .int .i64 n4, .int .i64 n5, .int .i64 n6, .int .i64 n7, .int .i64 n8, .int .i64 n9, .slice (some ⟨W2.heap.size, 0, none⟩) xs10.length xs10.length, .slice (some ⟨W3.heap.size, 0, none⟩) xs11.length xs11.length] : Array Value).size) := Lib.hid (by kernel_rfl)
  have H19 : Hid ((#[.slice M0 xs0.length xs0.length, .slice M1 xs1.length xs1.length, .int .i64 n2, .bool n3, .int .i64 n4, .int .i64 n5, .int .i64 n6, .int .i64 n7, .int .i64 n8, .int .i64 n9, .slice (some ⟨W2.heap.size, 0, none⟩) xs10.length xs10.length, .slice (some ⟨W3.heap.size, 0, none⟩) xs11.length xs11.length] : Array Value).all (·.oneCell') = true) := Lib.hid (by simp [Value.oneCell'])
  clear g r oo
  have q1 := tri.out 11 _ rfl
  have q2 := tri.free 11
  have Tri4 : Hid (Tri w (w4.setCell ⟨w.heap.size + 1 + 1, 11, none⟩ (.slice (some ⟨W3.heap.size, 0, none⟩) xs11.length xs11.length)) 30 38 #[.slice A0 xs0.length c0, .slice A1 xs1.length c1, .int .i64 n2, .bool n3, .int .i64 n4, .int .i64 n5, .int .i64 n6, .int .i64 n7, .int .i64 n8, .int .i64 n9, .slice A10 xs10.length c10, .slice A11 xs11.length c11] #[.slice none 0 0, .slice none 0 0, .int .i64 0, .bool false, .int .i64 0, .int .i64 0, .int .i64 0, .int .i64 0, .int .i64 0, .int .i64 0, .slice none 0 0, .slice none 0 0] #[.slice M0 xs0.length xs0.length, .slice M1 xs1.length xs1.length, .int .i64 n2, .bool n3, .int .i64 n4, .int .i64 n5, .int .i64 n6, .int .i64 n7, .int .i64 n8, .int .i64 n9, .slice (some ⟨W2.heap.size, 0, none⟩) xs10.length xs10.length, .slice (some ⟨W3.heap.size, 0, none⟩) xs11.length xs11.length]) := Lib.hid (tri.set 11 (.slice (some ⟨W3.heap.size, 0, none⟩) xs11.length xs11.length))
  have Sz4 : Hid (w.heap.size + 3 ≤ (w4.setCell ⟨w.heap.size + 1 + 1, 11, none⟩ (.slice (some ⟨W3.heap.size, 0, none⟩) xs11.length xs11.length)).heap.size ∧ w4.heap.size ≤ (w4.setCell ⟨w.heap.size + 1 + 1, 11, none⟩ (.slice (some ⟨W3.heap.size, 0, none⟩) xs11.length xs11.length)).heap.size) := Lib.hid ⟨Tri4.out.2.2.2.2, by simp [World.setCell]⟩
  have HSC4 : Hid (∀ q, q ≠ w.heap.size + 1 + 1 → (w4.setCell ⟨w.heap.size + 1 + 1, 11, none⟩ (.slice (some ⟨W3.heap.size, 0, none⟩) xs11.length xs11.length)).heap[q]? = w4.heap[q]?) := Lib.hid (fun q hq => by rw [heap_setCell_other _ ⟨w.heap.size + 1 + 1, 11, none⟩ q _ hq])
  have O0_4s : Hid (OT (w4.setCell ⟨w.heap.size + 1 + 1, 11, none⟩ (.slice (some ⟨W3.heap.size, 0, none⟩) xs11.length xs11.length)) (w.heap.size + 3) (.slice M0 xs0.length xs0.length) xs0) := Lib.hid (own_same O0_4.out fun q hq => HSC4.out q (by have := own_wi O0_4.out q hq; omega))
  have O1_4s : Hid (OU (w4.setCell ⟨w.heap.size + 1 + 1, 11, none⟩ (.slice (some ⟨W3.heap.size, 0, none⟩) xs11.length xs11.length)) (w.heap.size + 3) (.slice M1 xs1.length xs1.length) xs1) := Lib.hid (own_same O1_4.out fun q hq => HSC4.out q (by have := own_wi O1_4.out q hq; omega))
  have O10_4s : Hid (OG (w4.setCell ⟨w.heap.size + 1 + 1, 11, none⟩ (.slice (some ⟨W3.heap.size, 0, none⟩) xs11.length xs11.length)) (w.heap.size + 3) (.slice (some ⟨W2.heap.size, 0, none⟩) xs10.length xs10.length) xs10) := Lib.hid (own_same O10_4.out fun q hq => HSC4.out q (by have := own_wi O10_4.out q hq; omega))
  have O11_4s : Hid (OG (w4.setCell ⟨w.heap.size + 1 + 1, 11, none⟩ (.slice (some ⟨W3.heap.size, 0, none⟩) xs11.length xs11.length)) (w.heap.size + 3) (.slice (some ⟨W3.heap.size, 0, none⟩) xs11.length xs11.length) xs11) := Lib.hid (own_same O11_4.out fun q hq => HSC4.out q (by have := own_wi O11_4.out q hq; omega))
  clear tri
  go_wp2_with (first | (refine wpList_load_row rfl 38 (.tmp 3) rfl _ rfl 38 _ (0, 0) _ Tri4.out.2.2.1 Tryz.underlying38 rfl (by kernel_rfl) ?_) | (refine wpList_store_row rfl 38 (.tmp 2) (.tmp 26) rfl (w.heap.size + 1) #[.slice M0 xs0.length xs0.length, .slice M1 xs1.length xs1.length, .int .i64 n2, .bool n3, .int .i64 n4, .int .i64 n5, .int .i64 n6, .int .i64 n7, .int .i64 n8, .int .i64 n9, .slice (some ⟨W2.heap.size, 0, none⟩) xs10.length xs10.length, .slice (some ⟨W3.heap.size, 0, none⟩) xs11.length xs11.length] rfl rfl 38 #[.slice none 0 0, .slice none 0 0, .int .i64 0, .bool false, .int .i64 0, .int .i64 0, .int .i64 0, .int .i64 0, .int .i64 0, .int .i64 0, .slice none 0 0, .slice none 0 0] Tri4.out.2.1 Hi9.out rfl H19.out ?_))
  refine bodyPost_ret (v := .agg #[.slice M0 xs0.length xs0.length, .slice M1 xs1.length xs1.length, .int .i64 n2, .bool n3, .int .i64 n4, .int .i64 n5, .int .i64 n6, .int .i64 n7, .int .i64 n8, .int .i64 n9, .slice (some ⟨W2.heap.size, 0, none⟩) xs10.length xs10.length, .slice (some ⟨W3.heap.size, 0, none⟩) xs11.length xs11.length]) ?_ rfl ?_
  · exact results_cell_row rfl _ _ (w.heap.size + 1) 38 _ (0, 0) _ rfl (setRow_heap _ _ _ _ _ _ Tri4.out.2.1) Tryz.underlying38 rfl (by kernel_rfl)
  · have hend := below_setRow Tri4.out.2.2.2.1 (show w.heap.size ≤ w.heap.size + 1 by omega) #[.slice M0 xs0.length xs0.length, .slice M1 xs1.length xs1.length, .int .i64 n2, .bool n3, .int .i64 n4, .int .i64 n5, .int .i64 n6, .int .i64 n7, .int .i64 n8, .int .i64 n9, .slice (some ⟨W2.heap.size, 0, none⟩) xs10.length xs10.length, .slice (some ⟨W3.heap.size, 0, none⟩) xs11.length xs11.length]
    have Z9 := Sz4.out
    exact ⟨_, _, _, _, w1.heap.size, w3.heap.size, rfl, own_lo (own_same O0_4s.out fun q hq => setRow_other _ _ q _ (by have := own_wi O0_4s.out q hq; omega)) (Nat.le_add_right _ 3), own_lo (own_same O1_4s.out fun q hq => setRow_other _ _ q _ (by have := own_wi O1_4s.out q hq; omega)) (Nat.le_add_right _ 3), own_lo (own_same O10_4s.out fun q hq => setRow_other _ _ q _ (by have := own_wi O10_4s.out q hq; omega)) (Nat.le_add_right _ 3), own_lo (own_same O11_4s.out fun q hq => setRow_other _ _ q _ (by have := own_wi O11_4s.out q hq; omega)) (Nat.le_add_right _ 3), X0.out, I0.out.wide (by have a0 := Sz0.out; have a1 := Sz1.out; have b1 := Sy1.out; have a2 := Sz2.out; have b2 := Sy2.out; have a3 := Sz3.out; have b3 := Sy3.out; have a4 := Sz4.out; have b4 := Sy4.out; omega) (by have a0 := Sz0.out; have a1 := Sz1.out; have b1 := Sy1.out; have a2 := Sz2.out; have b2 := Sy2.out; have a3 := Sz3.out; have b3 := Sy3.out; have a4 := Sz4.out; have b4 := Sy4.out; omega), I1.out.wide (by have a0 := Sz0.out; have a1 := Sz1.out; have b1 := Sy1.out; have a2 := Sz2.out; have b2 := Sy2.out; have a3 := Sz3.out; have b3 := Sy3.out; have a4 := Sz4.out; have b4 := Sy4.out; omega) (by have a0 := Sz0.out; have a1 := Sz1.out; have b1 := Sy1.out; have a2 := Sz2.out; have b2 := Sy2.out; have a3 := Sz3.out; have b3 := Sy3.out; have a4 := Sz4.out; have b4 := Sy4.out; omega), I10.out.wide (by have a0 := Sz0.out; have a1 := Sz1.out; have b1 := Sy1.out; have a2 := Sz2.out; have b2 := Sy2.out; have a3 := Sz3.out; have b3 := Sy3.out; have a4 := Sz4.out; have b4 := Sy4.out; omega) (by have a0 := Sz0.out; have a1 := Sz1.out; have b1 := Sy1.out; have a2 := Sz2.out; have b2 := Sy2.out; have a3 := Sz3.out; have b3 := Sy3.out; have a4 := Sz4.out; have b4 := Sy4.out; omega), I11.out.wide (by have a0 := Sz0.out; have a1 := Sz1.out; have b1 := Sy1.out; have a2 := Sz2.out; have b2 := Sy2.out; have a3 := Sz3.out; have b3 := Sy3.out; have a4 := Sz4.out; have b4 := Sy4.out; omega) (by rw [setRow_size]; have a0 := Sz0.out; have a1 := Sz1.out; have b1 := Sy1.out; have a2 := Sz2.out; have b2 := Sy2.out; have a3 := Sz3.out; have b3 := Sy3.out; have a4 := Sz4.out; have b4 := Sy4.out; omega), hend⟩
theorem toPager_rd {B : Nat} {w : World} {v0 : Value} {xs0 : List ByteArray} {v1 : Value} {xs1 : List Pt} {n2 : Int} {n3 : Bool} {n4 : Int} {n5 : Int} {n6 : Int} {n7 : Int} {n8 : Int} {n9 : Int} {v10 : Value} {xs10 : List Pt} {v11 : Value} {xs11 : List Pt} (h0 : RiT B w v0 xs0) (h1 : RiU B w v1 xs1) (h10 : RiU B w v10 xs10) (h11 : RiU B w v11 xs11) (hB : B ≤ w.heap.size) (hs : (SmT xs0 ∧ SmU xs1) ∧ SmU xs10 ∧ SmU xs11) :
    Calls Tryz.prog 12 #[.agg #[v0, v1, .int .i64 n2, .bool n3, .int .i64 n4, .int .i64 n5, .int .i64 n6, .int .i64 n7, .int .i64 n8, .int .i64 n9, v10, v11]] w fun e w' => ∃ A0 A1 A10 A11 : Option Addr, e = .returned (.agg #[.slice A0 xs0.length xs0.length, .slice A1 xs1.length xs1.length, .int .i64 n2, .bool n3, .int .i64 n4, .int .i64 n5, .int .i64 n6, .int .i64 n7, .int .i64 n8, .int .i64 n9, .slice A10 xs10.length xs10.length, .slice A11 xs11.length xs11.length]) ∧ RiT w'.heap.size w' (.slice A0 xs0.length xs0.length) xs0 ∧ RiU w'.heap.size w' (.slice A1 xs1.length xs1.length) xs1 ∧ RiU w'.heap.size w' (.slice A10 xs10.length xs10.length) xs10 ∧ RiU w'.heap.size w' (.slice A11 xs11.length xs11.length) xs11 ∧ Below w.heap.size w w' :=
  (toPager_any h0 h1 h10 h11 hB hs).mono fun e w' h => by
    obtain ⟨A0, A1, A10, A11, _, _, he, o0, o1, o10, o11, -, -, -, -, -, g⟩ := h
    exact ⟨A0, A1, A10, A11, he, o0.rit h0.inT, o1.riu h1.wf, o10.riu h10.wf, o11.riu h11.wf, g⟩
set_option maxHeartbeats 2000000 in
set_option maxRecDepth 100000 in
theorem eqPager_any {B : Nat} {w : World} {v0 u0 : Value} {xs0 : List ByteArray} {v1 u1 : Value} {xs1 : List Pt} {n2 : Int} {n3 : Bool} {n4 : Int} {n5 : Int} {n6 : Int} {n7 : Int} {n8 : Int} {n9 : Int} {v10 u10 : Value} {xs10 : List Pt} {v11 u11 : Value} {xs11 : List Pt} (h0 : RiT B w v0 xs0) (h1 : RiU B w v1 xs1) (h10 : RiU B w v10 xs10) (h11 : RiU B w v11 xs11) (g0 : RiT B w u0 xs0) (g1 : RiU B w u1 xs1) (g10 : RiU B w u10 xs10) (g11 : RiU B w u11 xs11) (hB : B ≤ w.heap.size) :
    Calls Tryz.prog 14 #[.agg #[v0, v1, .int .i64 n2, .bool n3, .int .i64 n4, .int .i64 n5, .int .i64 n6, .int .i64 n7, .int .i64 n8, .int .i64 n9, v10, v11], .agg #[u0, u1, .int .i64 n2, .bool n3, .int .i64 n4, .int .i64 n5, .int .i64 n6, .int .i64 n7, .int .i64 n8, .int .i64 n9, u10, u11]] w (GivesB (.bool true) w) := by
  have H0 := Lib.hid h0; obtain ⟨A0, c0, rfl, -, -, -⟩ := h0
  have G0 := Lib.hid g0; obtain ⟨D0, d0, rfl, -, -, -⟩ := g0
  have H1 := Lib.hid h1; obtain ⟨A1, c1, rfl, -, -, -⟩ := h1
  have G1 := Lib.hid g1; obtain ⟨D1, d1, rfl, -, -, -⟩ := g1
  have H10 := Lib.hid h10; obtain ⟨A10, c10, rfl, -, -, -⟩ := h10
  have G10 := Lib.hid g10; obtain ⟨D10, d10, rfl, -, -, -⟩ := g10
  have H11 := Lib.hid h11; obtain ⟨A11, c11, rfl, -, -, -⟩ := h11
  have G11 := Lib.hid g11; obtain ⟨D11, d11, rfl, -, -, -⟩ := g11
  have Hb0 : Hid (Below w.heap.size w ((w.alloc (.cells #[.slice A0 xs0.length c0, .slice A1 xs1.length c1, .int .i64 n2, .bool n3, .int .i64 n4, .int .i64 n5, .int .i64 n6, .int .i64 n7, .int .i64 n8, .int .i64 n9, .slice A10 xs10.length c10, .slice A11 xs11.length c11] 38)).alloc (.cells #[.slice D0 xs0.length d0, .slice D1 xs1.length d1, .int .i64 n2, .bool n3, .int .i64 n4, .int .i64 n5, .int .i64 n6, .int .i64 n7, .int .i64 n8, .int .i64 n9, .slice D10 xs10.length d10, .slice D11 xs11.length d11] 38))) := Lib.hid (((Below.refl _ w).alloc (Nat.le_refl _) _).alloc (by simp) _)
  have R0 : Hid (((w.alloc (.cells #[.slice A0 xs0.length c0, .slice A1 xs1.length c1, .int .i64 n2, .bool n3, .int .i64 n4, .int .i64 n5, .int .i64 n6, .int .i64 n7, .int .i64 n8, .int .i64 n9, .slice A10 xs10.length c10, .slice A11 xs11.length c11] 38)).alloc (.cells #[.slice D0 xs0.length d0, .slice D1 xs1.length d1, .int .i64 n2, .bool n3, .int .i64 n4, .int .i64 n5, .int .i64 n6, .int .i64 n7, .int .i64 n8, .int .i64 n9, .slice D10 xs10.length d10, .slice D11 xs11.length d11] 38)).heap[w.heap.size]? = some (.cells #[.slice A0 xs0.length c0, .slice A1 xs1.length c1, .int .i64 n2, .bool n3, .int .i64 n4, .int .i64 n5, .int .i64 n6, .int .i64 n7, .int .i64 n8, .int .i64 n9, .slice A10 xs10.length c10, .slice A11 xs11.length c11] 38 (0, 0))) := Lib.hid (heap_alloc2_old w _ _)
  have S0 : Hid (((w.alloc (.cells #[.slice A0 xs0.length c0, .slice A1 xs1.length c1, .int .i64 n2, .bool n3, .int .i64 n4, .int .i64 n5, .int .i64 n6, .int .i64 n7, .int .i64 n8, .int .i64 n9, .slice A10 xs10.length c10, .slice A11 xs11.length c11] 38)).alloc (.cells #[.slice D0 xs0.length d0, .slice D1 xs1.length d1, .int .i64 n2, .bool n3, .int .i64 n4, .int .i64 n5, .int .i64 n6, .int .i64 n7, .int .i64 n8, .int .i64 n9, .slice D10 xs10.length d10, .slice D11 xs11.length d11] 38)).heap[w.heap.size + 1]? = some (.cells #[.slice D0 xs0.length d0, .slice D1 xs1.length d1, .int .i64 n2, .bool n3, .int .i64 n4, .int .i64 n5, .int .i64 n6, .int .i64 n7, .int .i64 n8, .int .i64 n9, .slice D10 xs10.length d10, .slice D11 xs11.length d11] 38 (0, 0))) := Lib.hid (heap_alloc2_new w _ _)
  have Lt0 : Hid (w.heap.size + 1 < ((w.alloc (.cells #[.slice A0 xs0.length c0, .slice A1 xs1.length c1, .int .i64 n2, .bool n3, .int .i64 n4, .int .i64 n5, .int .i64 n6, .int .i64 n7, .int .i64 n8, .int .i64 n9, .slice A10 xs10.length c10, .slice A11 xs11.length c11] 38)).alloc (.cells #[.slice D0 xs0.length d0, .slice D1 xs1.length d1, .int .i64 n2, .bool n3, .int .i64 n4, .int .i64 n5, .int .i64 n6, .int .i64 n7, .int .i64 n8, .int .i64 n9, .slice D10 xs10.length d10, .slice D11 xs11.length d11] 38)).heap.size) := Lib.hid (by simp)
  have HldR := Lib.hid (run_load_cells (P := Tryz.prog) ((w.alloc (.cells #[.slice A0 xs0.length c0, .slice A1 xs1.length c1, .int .i64 n2, .bool n3, .int .i64 n4, .int .i64 n5, .int .i64 n6, .int .i64 n7, .int .i64 n8, .int .i64 n9, .slice A10 xs10.length c10, .slice A11 xs11.length c11] 38)).alloc (.cells #[.slice D0 xs0.length d0, .slice D1 xs1.length d1, .int .i64 n2, .bool n3, .int .i64 n4, .int .i64 n5, .int .i64 n6, .int .i64 n7, .int .i64 n8, .int .i64 n9, .slice D10 xs10.length d10, .slice D11 xs11.length d11] 38)) (w.heap.size) 0 34 _ [.slice A0 xs0.length c0, .slice A1 xs1.length c1, .int .i64 n2, .bool n3] (row_part R0.out (by intro j u hj; rcases j with _ | _ | _ | _ | j; all_goals first | exact hj | simp at hj)) Tryz.underlying34 rfl)
  have HldS := Lib.hid (run_load_cells (P := Tryz.prog) ((w.alloc (.cells #[.slice A0 xs0.length c0, .slice A1 xs1.length c1, .int .i64 n2, .bool n3, .int .i64 n4, .int .i64 n5, .int .i64 n6, .int .i64 n7, .int .i64 n8, .int .i64 n9, .slice A10 xs10.length c10, .slice A11 xs11.length c11] 38)).alloc (.cells #[.slice D0 xs0.length d0, .slice D1 xs1.length d1, .int .i64 n2, .bool n3, .int .i64 n4, .int .i64 n5, .int .i64 n6, .int .i64 n7, .int .i64 n8, .int .i64 n9, .slice D10 xs10.length d10, .slice D11 xs11.length d11] 38)) (w.heap.size + 1) 0 34 _ [.slice D0 xs0.length d0, .slice D1 xs1.length d1, .int .i64 n2, .bool n3] (row_part S0.out (by intro j u hj; rcases j with _ | _ | _ | _ | j; all_goals first | exact hj | simp at hj)) Tryz.underlying34 rfl)
  go_enter Tryz.func14, Tryz.ntmps14
  go_wp2_with (first | (refine wpList_load_agg rfl 34 (.tmp 5) rfl _ rfl _ HldR.out ?_) | (refine wpList_load_agg rfl 34 (.tmp 7) rfl _ rfl _ HldS.out ?_))
  clear HldR HldS
  generalize ((w.alloc (.cells #[.slice A0 xs0.length c0, .slice A1 xs1.length c1, .int .i64 n2, .bool n3, .int .i64 n4, .int .i64 n5, .int .i64 n6, .int .i64 n7, .int .i64 n8, .int .i64 n9, .slice A10 xs10.length c10, .slice A11 xs11.length c11] 38)).alloc (.cells #[.slice D0 xs0.length d0, .slice D1 xs1.length d1, .int .i64 n2, .bool n3, .int .i64 n4, .int .i64 n5, .int .i64 n6, .int .i64 n7, .int .i64 n8, .int .i64 n9, .slice D10 xs10.length d10, .slice D11 xs11.length d11] 38)) = w0 at *
  refine (eqDisk_any (H0.out.at hB Hb0.out) (H1.out.at hB Hb0.out) (G0.out.at hB Hb0.out) (G1.out.at hB Hb0.out) (Nat.le_refl _)).mono ?_
  rintro e w1 ⟨rfl, g⟩
  have Hb1 : Hid (Below w.heap.size w w1) := Lib.hid (Hb0.out.trans (g.mono Hb0.out.size))
  have R1 := Lib.hid ((g.block _ (by have := Lt0.out; omega)).trans R0.out)
  have S1 := Lib.hid ((g.block _ Lt0.out).trans S0.out)
  have Lt1 : Hid (w.heap.size + 1 < w1.heap.size) := Lib.hid (by have := Lt0.out; have := g.size; omega)
  clear g
  have HldR := Lib.hid (run_load_cells (P := Tryz.prog) w1 (w.heap.size) 4 35 _ [.int .i64 n4, .int .i64 n5, .int .i64 n6, .int .i64 n7] (row_part R1.out (by intro j u hj; rcases j with _ | _ | _ | _ | j; all_goals first | exact hj | simp at hj)) Tryz.underlying35 rfl)
  have HldS := Lib.hid (run_load_cells (P := Tryz.prog) w1 (w.heap.size + 1) 4 35 _ [.int .i64 n4, .int .i64 n5, .int .i64 n6, .int .i64 n7] (row_part S1.out (by intro j u hj; rcases j with _ | _ | _ | _ | j; all_goals first | exact hj | simp at hj)) Tryz.underlying35 rfl)
  go_wp2_with (first | (refine wpList_load_agg rfl 35 (.tmp 11) rfl _ rfl _ HldR.out ?_) | (refine wpList_load_agg rfl 35 (.tmp 13) rfl _ rfl _ HldS.out ?_))
  clear HldR HldS
  refine (eqSuper_any _ _ _ _ _).mono ?_
  rintro e w2 ⟨rfl, g⟩
  have Hb2 : Hid (Below w.heap.size w w2) := Lib.hid (Hb1.out.trans (g.mono Hb1.out.size))
  have R2 := Lib.hid ((g.block _ (by have := Lt1.out; omega)).trans R1.out)
  have S2 := Lib.hid ((g.block _ Lt1.out).trans S1.out)
  have Lt2 : Hid (w.heap.size + 1 < w2.heap.size) := Lib.hid (by have := Lt1.out; have := g.size; omega)
  clear g
  have q1 : w2.cell? ⟨w.heap.size, 8, none⟩ = some (.int .i64 n8) := by rw [cell_of_row _ _ _ _ _ _ R2.out]; rfl
  have q2 : w2.cell? ⟨w.heap.size + 1, 8, none⟩ = some (.int .i64 n8) := by rw [cell_of_row _ _ _ _ _ _ S2.out]; rfl
  have q3 : w2.cell? ⟨w.heap.size, 9, none⟩ = some (.int .i64 n9) := by rw [cell_of_row _ _ _ _ _ _ R2.out]; rfl
  have q4 : w2.cell? ⟨w.heap.size + 1, 9, none⟩ = some (.int .i64 n9) := by rw [cell_of_row _ _ _ _ _ _ S2.out]; rfl
  have q5 : w2.cell? ⟨w.heap.size, 10, none⟩ = some (.slice A10 xs10.length c10) := by rw [cell_of_row _ _ _ _ _ _ R2.out]; rfl
  have q6 : w2.cell? ⟨w.heap.size + 1, 10, none⟩ = some (.slice D10 xs10.length d10) := by rw [cell_of_row _ _ _ _ _ _ S2.out]; rfl
  go_wp2_with fail
  clear q1 q2 q3 q4 q5 q6
  refine (eqPages_any (H10.out.at hB Hb2.out) (G10.out.at hB Hb2.out) (Nat.le_refl _)).mono ?_
  rintro e w3 ⟨rfl, g⟩
  have Hb3 : Hid (Below w.heap.size w w3) := Lib.hid (Hb2.out.trans (g.mono Hb2.out.size))
  have R3 := Lib.hid ((g.block _ (by have := Lt2.out; omega)).trans R2.out)
  have S3 := Lib.hid ((g.block _ Lt2.out).trans S2.out)
  have Lt3 : Hid (w.heap.size + 1 < w3.heap.size) := Lib.hid (by have := Lt2.out; have := g.size; omega)
  clear g
  have q1 : w3.cell? ⟨w.heap.size, 11, none⟩ = some (.slice A11 xs11.length c11) := by rw [cell_of_row _ _ _ _ _ _ R3.out]; rfl
  have q2 : w3.cell? ⟨w.heap.size + 1, 11, none⟩ = some (.slice D11 xs11.length d11) := by rw [cell_of_row _ _ _ _ _ _ S3.out]; rfl
  go_wp2_with fail
  clear q1 q2
  refine (eqPages_any (H11.out.at hB Hb3.out) (G11.out.at hB Hb3.out) (Nat.le_refl _)).mono ?_
  rintro e w4 ⟨rfl, g⟩
  have Hb4 : Hid (Below w.heap.size w w4) := Lib.hid (Hb3.out.trans (g.mono Hb3.out.size))
  have R4 := Lib.hid ((g.block _ (by have := Lt3.out; omega)).trans R3.out)
  have S4 := Lib.hid ((g.block _ Lt3.out).trans S3.out)
  have Lt4 : Hid (w.heap.size + 1 < w4.heap.size) := Lib.hid (by have := Lt3.out; have := g.size; omega)
  clear g
  go_wp2_with fail
  go_ret
  exact ⟨rfl, Hb4.out⟩
end Go.Proofs.YtplfnlalmcpcaaaGreat
