/- Nodes in memory: contracts of the laws' functions that bound, copy and compare them. No statement is proved here. -/
import Derived.Test.YtabnglimchjgpaaChu
namespace Go.Proofs.Ytabnglimchjgpaa
open Go.RowKit
set_option linter.unusedVariables false
def SmI (xs : List Int) : Prop := xs.length ≤ 1048576 ∧ True
theorem szI2_any {B : Nat} {w : World} {v : Value} {xs : List Int} (h : Ri B w v xs) (L : Int) (h0 : 0 ≤ L) (h1 : L ≤ 1048576) : Calls Try.prog 76 #[v, .int .i64 L] w (Left L (SmI xs) w) :=
  (szI_any h L h0 h1).mono fun e w' ⟨n, he, a, b, c, d⟩ => ⟨n, he, a, b, fun h => ⟨c h, trivial⟩, d⟩
theorem row_part {w : World} {b o : Nat} {C : Array Value} {t : TypeId} {cs : List Value} (h : w.heap[b]? = some (.cells C t (0, 0))) (hs : ∀ (j : Nat) (u : Value), cs[j]? = some u → C[o + j]? = some u) : ∀ (j : Nat) (u : Value), cs[j]? = some u → w.cell? ⟨b, o + j, none⟩ = some u := fun j u hj => by rw [cell_of_row _ _ _ _ _ _ h]; exact hs j u hj
theorem Wi.wide {lo hi lo' hi' : Nat} {v : Value} (h : Wi lo hi v) (h1 : lo' ≤ lo) (h2 : hi ≤ hi') : Wi lo' hi' v := fun g hg => ⟨Nat.le_trans h1 (h g hg).1, Nat.lt_of_lt_of_le (h g hg).2 h2⟩
set_option maxHeartbeats 1000000 in
set_option maxRecDepth 100000 in
theorem szNode_any {B : Nat} {w : World} {n0 : Bool} {v1 : Value} {xs1 : List EC} {v2 : Value} {xs2 : List Int} {v3 : Value} {xs3 : List Int} (h1 : RiC B w v1 xs1) (h2 : Ri B w v2 xs2) (h3 : Ri B w v3 xs3) (hB : B ≤ w.heap.size) (L : Int) (hL0 : 0 ≤ L) (hL : L ≤ 1048576) :
    Calls Try.prog 35 #[.agg #[.bool n0, v1, v2, v3], .int .i64 L] w (Left L (SmC xs1 ∧ SmI xs2 ∧ SmI xs3) w) := by
  have H1 := Lib.hid h1; obtain ⟨A1, c1, rfl, -, -, -⟩ := h1
  have H2 := Lib.hid h2; obtain ⟨A2, c2, rfl, -, -, -⟩ := h2
  have H3 := Lib.hid h3; obtain ⟨A3, c3, rfl, -, -, -⟩ := h3
  have hp : SmC xs1 → SmI xs2 → SmI xs3 → (SmC xs1 ∧ SmI xs2 ∧ SmI xs3) := fun x0 x1 x2 => ⟨x0, x1, x2⟩
  generalize (SmC xs1 ∧ SmI xs2 ∧ SmI xs3) = P at *
  have HP := Lib.hid hp; clear hp
  have Hb0 : Hid (Below w.heap.size w (w.alloc (.cells #[.bool n0, .slice A1 xs1.length c1, .slice A2 xs2.length c2, .slice A3 xs3.length c3] 49))) := Lib.hid ((Below.refl _ w).alloc (Nat.le_refl _) _)
  have R0 : Hid ((w.alloc (.cells #[.bool n0, .slice A1 xs1.length c1, .slice A2 xs2.length c2, .slice A3 xs3.length c3] 49)).heap[w.heap.size]? = some (.cells #[.bool n0, .slice A1 xs1.length c1, .slice A2 xs2.length c2, .slice A3 xs3.length c3] 49 (0, 0))) := Lib.hid (heap_alloc_new w _)
  have Lt0 : Hid (w.heap.size < (w.alloc (.cells #[.bool n0, .slice A1 xs1.length c1, .slice A2 xs2.length c2, .slice A3 xs3.length c3] 49)).heap.size) := Lib.hid (by simp)
  have q1 : (w.alloc (.cells #[.bool n0, .slice A1 xs1.length c1, .slice A2 xs2.length c2, .slice A3 xs3.length c3] 49)).cell? ⟨w.heap.size, 1, none⟩ = some (.slice A1 xs1.length c1) := by rw [cell_of_row _ _ _ _ _ _ R0.out]; rfl
  go_enter Try.func35, Try.ntmps35
  go_wp2_with fail
  clear q1
  generalize (w.alloc (.cells #[.bool n0, .slice A1 xs1.length c1, .slice A2 xs2.length c2, .slice A3 xs3.length c3] 49)) = w0 at *
  refine (szChunks_any (H1.out.at hB Hb0.out) (Nat.le_refl _) L (by omega) (by omega)).mono ?_
  rintro e w1 ⟨l1, rfl, hn1, hl1, hp, g⟩
  have Hp1 := Lib.hid hp; clear hp
  have Hb1 : Hid (Below w.heap.size w w1) := Lib.hid (Hb0.out.trans (g.mono Hb0.out.size))
  have R1 := Lib.hid ((g.block _ Lt0.out).trans R0.out)
  have Lt1 : Hid (w.heap.size < w1.heap.size) := Lib.hid (by have := Lt0.out; have := g.size; omega)
  clear g
  have q1 : w1.cell? ⟨w.heap.size, 2, none⟩ = some (.slice A2 xs2.length c2) := by rw [cell_of_row _ _ _ _ _ _ R1.out]; rfl
  by_cases neg1 : l1 < 0
  · go_wp2_with fail
    go_ret
    exact ⟨-1, rfl, by omega, by omega, by omega, Hb1.out⟩
  go_wp2_with fail
  clear q1
  refine (szI2_any (H2.out.at hB Hb1.out) l1 (by omega) (by omega)).mono ?_
  rintro e w2 ⟨l2, rfl, hn2, hl2, hp, g⟩
  have Hp2 := Lib.hid hp; clear hp
  have Hb2 : Hid (Below w.heap.size w w2) := Lib.hid (Hb1.out.trans (g.mono Hb1.out.size))
  have R2 := Lib.hid ((g.block _ Lt1.out).trans R1.out)
  have Lt2 : Hid (w.heap.size < w2.heap.size) := Lib.hid (by have := Lt1.out; have := g.size; omega)
  clear g
  have q1 : w2.cell? ⟨w.heap.size, 3, none⟩ = some (.slice A3 xs3.length c3) := by rw [cell_of_row _ _ _ _ _ _ R2.out]; rfl
  by_cases neg2 : l2 < 0
  · go_wp2_with fail
    go_ret
    exact ⟨-1, rfl, by omega, by omega, by omega, Hb2.out⟩
  go_wp2_with fail
  clear q1
  refine (szI2_any (H3.out.at hB Hb2.out) l2 (by omega) (by omega)).mono ?_
  rintro e w3 ⟨l3, rfl, hn3, hl3, hp, g⟩
  have Hp3 := Lib.hid hp; clear hp
  have Hb3 : Hid (Below w.heap.size w w3) := Lib.hid (Hb2.out.trans (g.mono Hb2.out.size))
  have R3 := Lib.hid ((g.block _ Lt2.out).trans R2.out)
  have Lt3 : Hid (w.heap.size < w3.heap.size) := Lib.hid (by have := Lt2.out; have := g.size; omega)
  clear g
  by_cases neg3 : l3 < 0
  · go_wp2_with fail
    go_ret
    exact ⟨-1, rfl, by omega, by omega, by omega, Hb3.out⟩
  go_wp2_with fail
  go_ret
  exact ⟨l3, rfl, by omega, by omega, fun h => HP.out (Hp1.out (by omega)) (Hp2.out (by omega)) (Hp3.out (by omega)), Hb3.out⟩
/-- A struct Node in new memory, and where its slices lie. -/
def AtNode (n0 : Bool) (xs1 : List EC) (xs2 : List Int) (xs3 : List Int) (w : World) (e : Ending) (w' : World) : Prop := ∃ (A1 A2 A3 : Option Addr) (p1 p2 : Nat), e = .returned (.agg #[.bool n0, .slice A1 xs1.length xs1.length, .slice A2 xs2.length xs2.length, .slice A3 xs3.length xs3.length]) ∧ OC w' w.heap.size (.slice A1 xs1.length xs1.length) xs1 ∧ OI w' w.heap.size (.slice A2 xs2.length xs2.length) xs2 ∧ OI w' w.heap.size (.slice A3 xs3.length xs3.length) xs3 ∧ Wi w.heap.size p1 (.slice A1 xs1.length xs1.length) ∧ Wi p1 p2 (.slice A2 xs2.length xs2.length) ∧ Wi p2 w'.heap.size (.slice A3 xs3.length xs3.length) ∧ Below w.heap.size w w'
set_option maxHeartbeats 4000000 in
set_option maxRecDepth 100000 in
theorem toNode_any {B : Nat} {w : World} {n0 : Bool} {v1 : Value} {xs1 : List EC} {v2 : Value} {xs2 : List Int} {v3 : Value} {xs3 : List Int} (h1 : RiC B w v1 xs1) (h2 : Ri B w v2 xs2) (h3 : Ri B w v3 xs3) (hB : B ≤ w.heap.size) (hs : SmC xs1 ∧ SmI xs2 ∧ SmI xs3) :
    Calls Try.prog 37 #[.agg #[.bool n0, v1, v2, v3]] w (AtNode n0 xs1 xs2 xs3 w) := by
  have H1 := Lib.hid h1; obtain ⟨A1, c1, rfl, -, -, -⟩ := h1
  have H2 := Lib.hid h2; obtain ⟨A2, c2, rfl, -, -, -⟩ := h2
  have H3 := Lib.hid h3; obtain ⟨A3, c3, rfl, -, -, -⟩ := h3
  have Hs := Lib.hid hs; clear hs
  have Tri0 := Lib.hid (Tri.start w 49 54 #[.bool n0, .slice A1 xs1.length c1, .slice A2 xs2.length c2, .slice A3 xs3.length c3] #[.bool false, .slice none 0 0, .slice none 0 0, .slice none 0 0] #[.bool n0, .slice none 0 0, .slice none 0 0, .slice none 0 0])
  have Sz0 : Hid (w.heap.size + 3 ≤ (((w.alloc (.cells #[.bool n0, .slice A1 xs1.length c1, .slice A2 xs2.length c2, .slice A3 xs3.length c3] 49)).alloc (.cells #[.bool false, .slice none 0 0, .slice none 0 0, .slice none 0 0] 54)).alloc (.cells #[.bool n0, .slice none 0 0, .slice none 0 0, .slice none 0 0] 54)).heap.size) := Lib.hid Tri0.out.2.2.2.2
  go_enter Try.func37, Try.ntmps37
  go_wp2_with fail
  generalize (((w.alloc (.cells #[.bool n0, .slice A1 xs1.length c1, .slice A2 xs2.length c2, .slice A3 xs3.length c3] 49)).alloc (.cells #[.bool false, .slice none 0 0, .slice none 0 0, .slice none 0 0] 54)).alloc (.cells #[.bool n0, .slice none 0 0, .slice none 0 0, .slice none 0 0] 54)) = W0 at *
  refine (toChunks_any (H1.out.at hB Tri0.out.2.2.2.1) (Nat.le_refl _) Hs.out.1.1).mono ?_
  rintro e w1 ⟨rfl, r, g⟩
  have tri := Tri0.out.after g
  have Sy1 : Hid (W0.heap.size ≤ w1.heap.size) := Lib.hid g.size
  have oo : OC w1 W0.heap.size (.slice (some ⟨W0.heap.size, 0, none⟩) xs1.length xs1.length) xs1 := OC.of_row r (Nat.le_refl _) (by unfold maxLen; have := Hs.out.1.1; omega)
  have I1 := Lib.hid (own_wi oo)
  have O1_1 : Hid (OC w1 (w.heap.size + 3) (.slice (some ⟨W0.heap.size, 0, none⟩) xs1.length xs1.length) xs1) := Lib.hid (own_lo oo (by have := Sz0.out; omega))
  clear g r oo
  have q1 := tri.out 1 _ rfl
  have q2 := tri.free 1
  have Tri1 : Hid (Tri w (w1.setCell ⟨w.heap.size + 1 + 1, 1, none⟩ (.slice (some ⟨W0.heap.size, 0, none⟩) xs1.length xs1.length)) 49 54 #[.bool n0, .slice A1 xs1.length c1, .slice A2 xs2.length c2, .slice A3 xs3.length c3] #[.bool false, .slice none 0 0, .slice none 0 0, .slice none 0 0] #[.bool n0, .slice (some ⟨W0.heap.size, 0, none⟩) xs1.length xs1.length, .slice none 0 0, .slice none 0 0]) := Lib.hid (tri.set 1 (.slice (some ⟨W0.heap.size, 0, none⟩) xs1.length xs1.length))
  have Sz1 : Hid (w.heap.size + 3 ≤ (w1.setCell ⟨w.heap.size + 1 + 1, 1, none⟩ (.slice (some ⟨W0.heap.size, 0, none⟩) xs1.length xs1.length)).heap.size ∧ w1.heap.size ≤ (w1.setCell ⟨w.heap.size + 1 + 1, 1, none⟩ (.slice (some ⟨W0.heap.size, 0, none⟩) xs1.length xs1.length)).heap.size) := Lib.hid ⟨Tri1.out.2.2.2.2, by simp [World.setCell]⟩
  have HSC1 : Hid (∀ q, q ≠ w.heap.size + 1 + 1 → (w1.setCell ⟨w.heap.size + 1 + 1, 1, none⟩ (.slice (some ⟨W0.heap.size, 0, none⟩) xs1.length xs1.length)).heap[q]? = w1.heap[q]?) := Lib.hid (fun q hq => by rw [heap_setCell_other _ ⟨w.heap.size + 1 + 1, 1, none⟩ q _ hq])
  have O1_1s : Hid (OC (w1.setCell ⟨w.heap.size + 1 + 1, 1, none⟩ (.slice (some ⟨W0.heap.size, 0, none⟩) xs1.length xs1.length)) (w.heap.size + 3) (.slice (some ⟨W0.heap.size, 0, none⟩) xs1.length xs1.length) xs1) := Lib.hid (own_same O1_1.out fun q hq => HSC1.out q (by have := own_wi O1_1.out q hq; omega))
  have q3 := tri.box 2 _ rfl
  clear tri
  go_wp2_with fail
  clear q1 q2 q3
  generalize (w1.setCell ⟨w.heap.size + 1 + 1, 1, none⟩ (.slice (some ⟨W0.heap.size, 0, none⟩) xs1.length xs1.length)) = W1 at *
  refine (toI_any (H2.out.at hB Tri1.out.2.2.2.1) (Nat.le_refl _) Hs.out.2.1.1).mono ?_
  rintro e w2 ⟨rfl, r, zz, g⟩
  have tri := Tri1.out.after g
  have Sy2 : Hid (W1.heap.size ≤ w2.heap.size) := Lib.hid g.size
  have O1_2 : Hid (OC w2 (w.heap.size + 3) (.slice (some ⟨W0.heap.size, 0, none⟩) xs1.length xs1.length) xs1) := Lib.hid (own_bel O1_1s.out g)
  have oo : OI w2 W1.heap.size (.slice (some ⟨W1.heap.size, 0, none⟩) xs2.length xs2.length) xs2 := OI.of_row r (Nat.le_refl _) (by unfold maxLen; have := Hs.out.2.1.1; omega)
  have I2 := Lib.hid (own_wi oo)
  have O2_2 : Hid (OI w2 (w.heap.size + 3) (.slice (some ⟨W1.heap.size, 0, none⟩) xs2.length xs2.length) xs2) := Lib.hid (own_lo oo (by have := Sz1.out; omega))
  clear g r zz oo
  have q1 := tri.out 2 _ rfl
  have q2 := tri.free 2
  have Tri2 : Hid (Tri w (w2.setCell ⟨w.heap.size + 1 + 1, 2, none⟩ (.slice (some ⟨W1.heap.size, 0, none⟩) xs2.length xs2.length)) 49 54 #[.bool n0, .slice A1 xs1.length c1, .slice A2 xs2.length c2, .slice A3 xs3.length c3] #[.bool false, .slice none 0 0, .slice none 0 0, .slice none 0 0] #[.bool n0, .slice (some ⟨W0.heap.size, 0, none⟩) xs1.length xs1.length, .slice (some ⟨W1.heap.size, 0, none⟩) xs2.length xs2.length, .slice none 0 0]) := Lib.hid (tri.set 2 (.slice (some ⟨W1.heap.size, 0, none⟩) xs2.length xs2.length))
  have Sz2 : Hid (w.heap.size + 3 ≤ (w2.setCell ⟨w.heap.size + 1 + 1, 2, none⟩ (.slice (some ⟨W1.heap.size, 0, none⟩) xs2.length xs2.length)).heap.size ∧ w2.heap.size ≤ (w2.setCell ⟨w.heap.size + 1 + 1, 2, none⟩ (.slice (some ⟨W1.heap.size, 0, none⟩) xs2.length xs2.length)).heap.size) := Lib.hid ⟨Tri2.out.2.2.2.2, by simp [World.setCell]⟩
  have HSC2 : Hid (∀ q, q ≠ w.heap.size + 1 + 1 → (w2.setCell ⟨w.heap.size + 1 + 1, 2, none⟩ (.slice (some ⟨W1.heap.size, 0, none⟩) xs2.length xs2.length)).heap[q]? = w2.heap[q]?) := Lib.hid (fun q hq => by rw [heap_setCell_other _ ⟨w.heap.size + 1 + 1, 2, none⟩ q _ hq])
  have O1_2s : Hid (OC (w2.setCell ⟨w.heap.size + 1 + 1, 2, none⟩ (.slice (some ⟨W1.heap.size, 0, none⟩) xs2.length xs2.length)) (w.heap.size + 3) (.slice (some ⟨W0.heap.size, 0, none⟩) xs1.length xs1.length) xs1) := Lib.hid (own_same O1_2.out fun q hq => HSC2.out q (by have := own_wi O1_2.out q hq; omega))
  have O2_2s : Hid (OI (w2.setCell ⟨w.heap.size + 1 + 1, 2, none⟩ (.slice (some ⟨W1.heap.size, 0, none⟩) xs2.length xs2.length)) (w.heap.size + 3) (.slice (some ⟨W1.heap.size, 0, none⟩) xs2.length xs2.length) xs2) := Lib.hid (own_same O2_2.out fun q hq => HSC2.out q (by have := own_wi O2_2.out q hq; omega))
  have q3 := tri.box 3 _ rfl
  clear tri
  go_wp2_with fail
  clear q1 q2 q3
  generalize (w2.setCell ⟨w.heap.size + 1 + 1, 2, none⟩ (.slice (some ⟨W1.heap.size, 0, none⟩) xs2.length xs2.length)) = W2 at *
  refine (toI_any (H3.out.at hB Tri2.out.2.2.2.1) (Nat.le_refl _) Hs.out.2.2.1).mono ?_
  rintro e w3 ⟨rfl, r, zz, g⟩
  have tri := Tri2.out.after g
  have Sy3 : Hid (W2.heap.size ≤ w3.heap.size) := Lib.hid g.size
  have O1_3 : Hid (OC w3 (w.heap.size + 3) (.slice (some ⟨W0.heap.size, 0, none⟩) xs1.length xs1.length) xs1) := Lib.hid (own_bel O1_2s.out g)
  have O2_3 : Hid (OI w3 (w.heap.size + 3) (.slice (some ⟨W1.heap.size, 0, none⟩) xs2.length xs2.length) xs2) := Lib.hid (own_bel O2_2s.out g)
  have oo : OI w3 W2.heap.size (.slice (some ⟨W2.heap.size, 0, none⟩) xs3.length xs3.length) xs3 := OI.of_row r (Nat.le_refl _) (by unfold maxLen; have := Hs.out.2.2.1; omega)
  have I3 := Lib.hid (own_wi oo)
  have O3_3 : Hid (OI w3 (w.heap.size + 3) (.slice (some ⟨W2.heap.size, 0, none⟩) xs3.length xs3.length) xs3) := Lib.hid (own_lo oo (by have := Sz2.out; omega))
  have Hi9 : Hid ((Try.prog.info? 54).map (·.size) = some (#[.bool n0, .slice (some ⟨W0.heap.size, 0, none⟩) xs1.length xs1.length, .slice (some ⟨W1.heap.size, 0, none⟩) xs2.length xs2.length, .slice (some ⟨W2.heap.size, 0, none⟩) xs3.length xs3.length] : Array Value).size) := Lib.hid (by kernel_rfl)
  have H19 : Hid ((#[.bool n0, .slice (some ⟨W0.heap.size, 0, none⟩) xs1.length xs1.length, .slice (some ⟨W1.heap.size, 0, none⟩) xs2.length xs2.length, .slice (some ⟨W2.heap.size, 0, none⟩) xs3.length xs3.length] : Array Value).all (·.oneCell') = true) := Lib.hid (by simp [Value.oneCell'])
  clear g r zz oo
  have q1 := tri.out 3 _ rfl
  have q2 := tri.free 3
  have Tri3 : Hid (Tri w (w3.setCell ⟨w.heap.size + 1 + 1, 3, none⟩ (.slice (some ⟨W2.heap.size, 0, none⟩) xs3.length xs3.length)) 49 54 #[.bool n0, .slice A1 xs1.length c1, .slice A2 xs2.length c2, .slice A3 xs3.length c3] #[.bool false, .slice none 0 0, .slice none 0 0, .slice none 0 0] #[.bool n0, .slice (some ⟨W0.heap.size, 0, none⟩) xs1.length xs1.length, .slice (some ⟨W1.heap.size, 0, none⟩) xs2.length xs2.length, .slice (some ⟨W2.heap.size, 0, none⟩) xs3.length xs3.length]) := Lib.hid (tri.set 3 (.slice (some ⟨W2.heap.size, 0, none⟩) xs3.length xs3.length))
  have Sz3 : Hid (w.heap.size + 3 ≤ (w3.setCell ⟨w.heap.size + 1 + 1, 3, none⟩ (.slice (some ⟨W2.heap.size, 0, none⟩) xs3.length xs3.length)).heap.size ∧ w3.heap.size ≤ (w3.setCell ⟨w.heap.size + 1 + 1, 3, none⟩ (.slice (some ⟨W2.heap.size, 0, none⟩) xs3.length xs3.length)).heap.size) := Lib.hid ⟨Tri3.out.2.2.2.2, by simp [World.setCell]⟩
  have HSC3 : Hid (∀ q, q ≠ w.heap.size + 1 + 1 → (w3.setCell ⟨w.heap.size + 1 + 1, 3, none⟩ (.slice (some ⟨W2.heap.size, 0, none⟩) xs3.length xs3.length)).heap[q]? = w3.heap[q]?) := Lib.hid (fun q hq => by rw [heap_setCell_other _ ⟨w.heap.size + 1 + 1, 3, none⟩ q _ hq])
  have O1_3s : Hid (OC (w3.setCell ⟨w.heap.size + 1 + 1, 3, none⟩ (.slice (some ⟨W2.heap.size, 0, none⟩) xs3.length xs3.length)) (w.heap.size + 3) (.slice (some ⟨W0.heap.size, 0, none⟩) xs1.length xs1.length) xs1) := Lib.hid (own_same O1_3.out fun q hq => HSC3.out q (by have := own_wi O1_3.out q hq; omega))
  have O2_3s : Hid (OI (w3.setCell ⟨w.heap.size + 1 + 1, 3, none⟩ (.slice (some ⟨W2.heap.size, 0, none⟩) xs3.length xs3.length)) (w.heap.size + 3) (.slice (some ⟨W1.heap.size, 0, none⟩) xs2.length xs2.length) xs2) := Lib.hid (own_same O2_3.out fun q hq => HSC3.out q (by have := own_wi O2_3.out q hq; omega))
  have O3_3s : Hid (OI (w3.setCell ⟨w.heap.size + 1 + 1, 3, none⟩ (.slice (some ⟨W2.heap.size, 0, none⟩) xs3.length xs3.length)) (w.heap.size + 3) (.slice (some ⟨W2.heap.size, 0, none⟩) xs3.length xs3.length) xs3) := Lib.hid (own_same O3_3.out fun q hq => HSC3.out q (by have := own_wi O3_3.out q hq; omega))
  clear tri
  go_wp2_with (first | (refine wpList_load_row rfl 54 (.tmp 3) rfl _ rfl 54 _ (0, 0) _ Tri3.out.2.2.1 Try.underlying54 rfl (by kernel_rfl) ?_) | (refine wpList_store_row rfl 54 (.tmp 2) (.tmp 19) rfl (w.heap.size + 1) #[.bool n0, .slice (some ⟨W0.heap.size, 0, none⟩) xs1.length xs1.length, .slice (some ⟨W1.heap.size, 0, none⟩) xs2.length xs2.length, .slice (some ⟨W2.heap.size, 0, none⟩) xs3.length xs3.length] rfl rfl 54 #[.bool false, .slice none 0 0, .slice none 0 0, .slice none 0 0] Tri3.out.2.1 Hi9.out rfl H19.out ?_))
  refine bodyPost_ret (v := .agg #[.bool n0, .slice (some ⟨W0.heap.size, 0, none⟩) xs1.length xs1.length, .slice (some ⟨W1.heap.size, 0, none⟩) xs2.length xs2.length, .slice (some ⟨W2.heap.size, 0, none⟩) xs3.length xs3.length]) ?_ rfl ?_
  · exact results_cell_row rfl _ _ (w.heap.size + 1) 54 _ (0, 0) _ rfl (setRow_heap _ _ _ _ _ _ Tri3.out.2.1) Try.underlying54 rfl (by kernel_rfl)
  · have hend := below_setRow Tri3.out.2.2.2.1 (show w.heap.size ≤ w.heap.size + 1 by omega) #[.bool n0, .slice (some ⟨W0.heap.size, 0, none⟩) xs1.length xs1.length, .slice (some ⟨W1.heap.size, 0, none⟩) xs2.length xs2.length, .slice (some ⟨W2.heap.size, 0, none⟩) xs3.length xs3.length]
    have Z9 := Sz3.out
    exact ⟨_, _, _, w1.heap.size, w2.heap.size, rfl, own_lo (own_same O1_3s.out fun q hq => setRow_other _ _ q _ (by have := own_wi O1_3s.out q hq; omega)) (Nat.le_add_right _ 3), own_lo (own_same O2_3s.out fun q hq => setRow_other _ _ q _ (by have := own_wi O2_3s.out q hq; omega)) (Nat.le_add_right _ 3), own_lo (own_same O3_3s.out fun q hq => setRow_other _ _ q _ (by have := own_wi O3_3s.out q hq; omega)) (Nat.le_add_right _ 3), I1.out.wide (by have a0 := Sz0.out; have a1 := Sz1.out; have b1 := Sy1.out; have a2 := Sz2.out; have b2 := Sy2.out; have a3 := Sz3.out; have b3 := Sy3.out; omega) (by have a0 := Sz0.out; have a1 := Sz1.out; have b1 := Sy1.out; have a2 := Sz2.out; have b2 := Sy2.out; have a3 := Sz3.out; have b3 := Sy3.out; omega), I2.out.wide (by have a0 := Sz0.out; have a1 := Sz1.out; have b1 := Sy1.out; have a2 := Sz2.out; have b2 := Sy2.out; have a3 := Sz3.out; have b3 := Sy3.out; omega) (by have a0 := Sz0.out; have a1 := Sz1.out; have b1 := Sy1.out; have a2 := Sz2.out; have b2 := Sy2.out; have a3 := Sz3.out; have b3 := Sy3.out; omega), I3.out.wide (by have a0 := Sz0.out; have a1 := Sz1.out; have b1 := Sy1.out; have a2 := Sz2.out; have b2 := Sy2.out; have a3 := Sz3.out; have b3 := Sy3.out; omega) (by rw [setRow_size]; have a0 := Sz0.out; have a1 := Sz1.out; have b1 := Sy1.out; have a2 := Sz2.out; have b2 := Sy2.out; have a3 := Sz3.out; have b3 := Sy3.out; omega), hend⟩
theorem toNode_rd {B : Nat} {w : World} {n0 : Bool} {v1 : Value} {xs1 : List EC} {v2 : Value} {xs2 : List Int} {v3 : Value} {xs3 : List Int} (h1 : RiC B w v1 xs1) (h2 : Ri B w v2 xs2) (h3 : Ri B w v3 xs3) (hB : B ≤ w.heap.size) (hs : SmC xs1 ∧ SmI xs2 ∧ SmI xs3) :
    Calls Try.prog 37 #[.agg #[.bool n0, v1, v2, v3]] w fun e w' => ∃ A1 A2 A3 : Option Addr, e = .returned (.agg #[.bool n0, .slice A1 xs1.length xs1.length, .slice A2 xs2.length xs2.length, .slice A3 xs3.length xs3.length]) ∧ RiC w'.heap.size w' (.slice A1 xs1.length xs1.length) xs1 ∧ Ri w'.heap.size w' (.slice A2 xs2.length xs2.length) xs2 ∧ Ri w'.heap.size w' (.slice A3 xs3.length xs3.length) xs3 ∧ Below w.heap.size w w' :=
  (toNode_any h1 h2 h3 hB hs).mono fun e w' h => by
    obtain ⟨A1, A2, A3, _, _, he, o1, o2, o3, -, -, -, g⟩ := h
    exact ⟨A1, A2, A3, he, o1.ri h1.wf, o2.ri h2.inI, o3.ri h3.inI, g⟩
set_option maxHeartbeats 2000000 in
set_option maxRecDepth 100000 in
theorem eqNode_any {B : Nat} {w : World} {n0 : Bool} {v1 u1 : Value} {xs1 : List EC} {v2 u2 : Value} {xs2 : List Int} {v3 u3 : Value} {xs3 : List Int} (h1 : RiC B w v1 xs1) (h2 : Ri B w v2 xs2) (h3 : Ri B w v3 xs3) (g1 : RiC B w u1 xs1) (g2 : Ri B w u2 xs2) (g3 : Ri B w u3 xs3) (hB : B ≤ w.heap.size) :
    Calls Try.prog 39 #[.agg #[.bool n0, v1, v2, v3], .agg #[.bool n0, u1, u2, u3]] w (GivesB (.bool true) w) := by
  have H1 := Lib.hid h1; obtain ⟨A1, c1, rfl, -, -, -⟩ := h1
  have G1 := Lib.hid g1; obtain ⟨D1, d1, rfl, -, -, -⟩ := g1
  have H2 := Lib.hid h2; obtain ⟨A2, c2, rfl, -, -, -⟩ := h2
  have G2 := Lib.hid g2; obtain ⟨D2, d2, rfl, -, -, -⟩ := g2
  have H3 := Lib.hid h3; obtain ⟨A3, c3, rfl, -, -, -⟩ := h3
  have G3 := Lib.hid g3; obtain ⟨D3, d3, rfl, -, -, -⟩ := g3
  have Hb0 : Hid (Below w.heap.size w ((w.alloc (.cells #[.bool n0, .slice A1 xs1.length c1, .slice A2 xs2.length c2, .slice A3 xs3.length c3] 54)).alloc (.cells #[.bool n0, .slice D1 xs1.length d1, .slice D2 xs2.length d2, .slice D3 xs3.length d3] 54))) := Lib.hid (((Below.refl _ w).alloc (Nat.le_refl _) _).alloc (by simp) _)
  have R0 : Hid (((w.alloc (.cells #[.bool n0, .slice A1 xs1.length c1, .slice A2 xs2.length c2, .slice A3 xs3.length c3] 54)).alloc (.cells #[.bool n0, .slice D1 xs1.length d1, .slice D2 xs2.length d2, .slice D3 xs3.length d3] 54)).heap[w.heap.size]? = some (.cells #[.bool n0, .slice A1 xs1.length c1, .slice A2 xs2.length c2, .slice A3 xs3.length c3] 54 (0, 0))) := Lib.hid (heap_alloc2_old w _ _)
  have S0 : Hid (((w.alloc (.cells #[.bool n0, .slice A1 xs1.length c1, .slice A2 xs2.length c2, .slice A3 xs3.length c3] 54)).alloc (.cells #[.bool n0, .slice D1 xs1.length d1, .slice D2 xs2.length d2, .slice D3 xs3.length d3] 54)).heap[w.heap.size + 1]? = some (.cells #[.bool n0, .slice D1 xs1.length d1, .slice D2 xs2.length d2, .slice D3 xs3.length d3] 54 (0, 0))) := Lib.hid (heap_alloc2_new w _ _)
  have Lt0 : Hid (w.heap.size + 1 < ((w.alloc (.cells #[.bool n0, .slice A1 xs1.length c1, .slice A2 xs2.length c2, .slice A3 xs3.length c3] 54)).alloc (.cells #[.bool n0, .slice D1 xs1.length d1, .slice D2 xs2.length d2, .slice D3 xs3.length d3] 54)).heap.size) := Lib.hid (by simp)
  have q1 : ((w.alloc (.cells #[.bool n0, .slice A1 xs1.length c1, .slice A2 xs2.length c2, .slice A3 xs3.length c3] 54)).alloc (.cells #[.bool n0, .slice D1 xs1.length d1, .slice D2 xs2.length d2, .slice D3 xs3.length d3] 54)).cell? ⟨w.heap.size, 0, none⟩ = some (.bool n0) := by rw [cell_of_row _ _ _ _ _ _ R0.out]; rfl
  have q2 : ((w.alloc (.cells #[.bool n0, .slice A1 xs1.length c1, .slice A2 xs2.length c2, .slice A3 xs3.length c3] 54)).alloc (.cells #[.bool n0, .slice D1 xs1.length d1, .slice D2 xs2.length d2, .slice D3 xs3.length d3] 54)).cell? ⟨w.heap.size + 1, 0, none⟩ = some (.bool n0) := by rw [cell_of_row _ _ _ _ _ _ S0.out]; rfl
  have q3 : ((w.alloc (.cells #[.bool n0, .slice A1 xs1.length c1, .slice A2 xs2.length c2, .slice A3 xs3.length c3] 54)).alloc (.cells #[.bool n0, .slice D1 xs1.length d1, .slice D2 xs2.length d2, .slice D3 xs3.length d3] 54)).cell? ⟨w.heap.size, 1, none⟩ = some (.slice A1 xs1.length c1) := by rw [cell_of_row _ _ _ _ _ _ R0.out]; rfl
  have q4 : ((w.alloc (.cells #[.bool n0, .slice A1 xs1.length c1, .slice A2 xs2.length c2, .slice A3 xs3.length c3] 54)).alloc (.cells #[.bool n0, .slice D1 xs1.length d1, .slice D2 xs2.length d2, .slice D3 xs3.length d3] 54)).cell? ⟨w.heap.size + 1, 1, none⟩ = some (.slice D1 xs1.length d1) := by rw [cell_of_row _ _ _ _ _ _ S0.out]; rfl
  go_enter Try.func39, Try.ntmps39
  go_wp2_with fail
  clear q1 q2 q3 q4
  generalize ((w.alloc (.cells #[.bool n0, .slice A1 xs1.length c1, .slice A2 xs2.length c2, .slice A3 xs3.length c3] 54)).alloc (.cells #[.bool n0, .slice D1 xs1.length d1, .slice D2 xs2.length d2, .slice D3 xs3.length d3] 54)) = w0 at *
  refine (eqChunks_any (H1.out.at hB Hb0.out) (G1.out.at hB Hb0.out) (Nat.le_refl _)).mono ?_
  rintro e w1 ⟨rfl, g⟩
  have Hb1 : Hid (Below w.heap.size w w1) := Lib.hid (Hb0.out.trans (g.mono Hb0.out.size))
  have R1 := Lib.hid ((g.block _ (by have := Lt0.out; omega)).trans R0.out)
  have S1 := Lib.hid ((g.block _ Lt0.out).trans S0.out)
  have Lt1 : Hid (w.heap.size + 1 < w1.heap.size) := Lib.hid (by have := Lt0.out; have := g.size; omega)
  clear g
  have q1 : w1.cell? ⟨w.heap.size, 2, none⟩ = some (.slice A2 xs2.length c2) := by rw [cell_of_row _ _ _ _ _ _ R1.out]; rfl
  have q2 : w1.cell? ⟨w.heap.size + 1, 2, none⟩ = some (.slice D2 xs2.length d2) := by rw [cell_of_row _ _ _ _ _ _ S1.out]; rfl
  go_wp2_with fail
  clear q1 q2
  refine (eqI_any (H2.out.at hB Hb1.out) (G2.out.at hB Hb1.out) (Nat.le_refl _)).mono ?_
  rintro e w2 ⟨rfl, g⟩
  have Hb2 : Hid (Below w.heap.size w w2) := Lib.hid (Hb1.out.trans (g.mono Hb1.out.size))
  have R2 := Lib.hid ((g.block _ (by have := Lt1.out; omega)).trans R1.out)
  have S2 := Lib.hid ((g.block _ Lt1.out).trans S1.out)
  have Lt2 : Hid (w.heap.size + 1 < w2.heap.size) := Lib.hid (by have := Lt1.out; have := g.size; omega)
  clear g
  have q1 : w2.cell? ⟨w.heap.size, 3, none⟩ = some (.slice A3 xs3.length c3) := by rw [cell_of_row _ _ _ _ _ _ R2.out]; rfl
  have q2 : w2.cell? ⟨w.heap.size + 1, 3, none⟩ = some (.slice D3 xs3.length d3) := by rw [cell_of_row _ _ _ _ _ _ S2.out]; rfl
  go_wp2_with fail
  clear q1 q2
  refine (eqI_any (H3.out.at hB Hb2.out) (G3.out.at hB Hb2.out) (Nat.le_refl _)).mono ?_
  rintro e w3 ⟨rfl, g⟩
  have Hb3 : Hid (Below w.heap.size w w3) := Lib.hid (Hb2.out.trans (g.mono Hb2.out.size))
  have R3 := Lib.hid ((g.block _ (by have := Lt2.out; omega)).trans R2.out)
  have S3 := Lib.hid ((g.block _ Lt2.out).trans S2.out)
  have Lt3 : Hid (w.heap.size + 1 < w3.heap.size) := Lib.hid (by have := Lt2.out; have := g.size; omega)
  clear g
  go_wp2_with fail
  go_ret
  exact ⟨rfl, Hb3.out⟩
end Go.Proofs.Ytabnglimchjgpaa
