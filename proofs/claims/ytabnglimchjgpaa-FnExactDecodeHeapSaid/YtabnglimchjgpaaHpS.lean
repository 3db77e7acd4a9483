/- Heaps of names in memory: contracts of the laws' functions that bound, copy, compare and mark them. No statement is proved here. -/
import Derived.Test.YtabnglimchjgpaaMrT
import Derived.Test.YtabnglimchjgpaaHpP
namespace Go.Proofs.Ytabnglimchjgpaa
open Go.RowKit
set_option linter.unusedVariables false
theorem row_part {w : World} {b o : Nat} {C : Array Value} {t : TypeId} {cs : List Value} (h : w.heap[b]? = some (.cells C t (0, 0))) (hs : ∀ (j : Nat) (u : Value), cs[j]? = some u → C[o + j]? = some u) : ∀ (j : Nat) (u : Value), cs[j]? = some u → w.cell? ⟨b, o + j, none⟩ = some u := fun j u hj => by rw [cell_of_row _ _ _ _ _ _ h]; exact hs j u hj
theorem Wi.wide {lo hi lo' hi' : Nat} {v : Value} (h : Wi lo hi v) (h1 : lo' ≤ lo) (h2 : hi ≤ hi') : Wi lo' hi' v := fun g hg => ⟨Nat.le_trans h1 (h g hg).1, Nat.lt_of_lt_of_le (h g hg).2 h2⟩
theorem Mv.wide {lo hi lo' hi' : Nat} {a b : World} (h : Mv lo hi a b) (h1 : lo' ≤ lo) (h2 : hi ≤ hi') : Mv lo' hi' a b := ⟨h.1, h.2.1, h.2.2.1, h.2.2.2.1, fun k hk ho => h.2.2.2.2 k hk (by omega)⟩
theorem RiT.inT {B : Nat} {w : World} {v : Value} {xs : List ByteArray} (h : RiT B w v xs) : ∀ x ∈ xs, x.size ≤ maxLen := h.len
set_option maxHeartbeats 1000000 in
set_option maxRecDepth 100000 in
theorem szHp_any {B : Nat} {w : World} {v0 : Value} {xs0 : List ByteArray} (h0 : RiT B w v0 xs0) (hB : B ≤ w.heap.size) (L : Int) (hL0 : 0 ≤ L) (hL : L ≤ 1048576) :
    Calls Try.prog 14 #[.agg #[v0], .int .i64 L] w (Left L (SmT xs0) w) := by
  have H0 := Lib.hid h0; obtain ⟨A0, c0, rfl, -, -, -⟩ := h0
  have hp : SmT xs0 → (SmT xs0) := fun x0 => x0
  have HP := Lib.hid hp; clear hp
  have Hb0 : Hid (Below w.heap.size w (w.alloc (.cells #[.slice A0 xs0.length c0] 24))) := Lib.hid ((Below.refl _ w).alloc (Nat.le_refl _) _)
  have R0 : Hid ((w.alloc (.cells #[.slice A0 xs0.length c0] 24)).heap[w.heap.size]? = some (.cells #[.slice A0 xs0.length c0] 24 (0, 0))) := Lib.hid (heap_alloc_new w _)
  have Lt0 : Hid (w.heap.size < (w.alloc (.cells #[.slice A0 xs0.length c0] 24)).heap.size) := Lib.hid (by simp)
  have q1 : (w.alloc (.cells #[.slice A0 xs0.length c0] 24)).cell? ⟨w.heap.size, 0, none⟩ = some (.slice A0 xs0.length c0) := by rw [cell_of_row _ _ _ _ _ _ R0.out]; rfl
  go_enter Try.func14, Try.ntmps14
  go_wp2_with fail
  clear q1
  generalize (w.alloc (.cells #[.slice A0 xs0.length c0] 24)) = w0 at *
  refine (szT_any (H0.out.at hB Hb0.out) L (by omega) (by omega) (Nat.le_refl _)).mono ?_
  rintro e w1 ⟨l1, rfl, hn1, hl1, hp, g⟩
  have Hp1 := Lib.hid hp; clear hp
  have Hb1 : Hid (Below w.heap.size w w1) := Lib.hid (Hb0.out.trans (g.mono Hb0.out.size))
  have R1 := Lib.hid ((g.block _ Lt0.out).trans R0.out)
  have Lt1 : Hid (w.heap.size < w1.heap.size) := Lib.hid (by have := Lt0.out; have := g.size; omega)
  clear g
  by_cases neg1 : l1 < 0
  · go_wp2_with fail
    go_ret
    exact ⟨-1, rfl, by omega, by omega, by omega, Hb1.out⟩
  go_wp2_with fail
  go_ret
  exact ⟨l1, rfl, by omega, by omega, fun h => HP.out (Hp1.out (by omega)), Hb1.out⟩
/-- A struct NameHeap in new memory, and where its slices lie. -/
def AtHp (xs0 : List ByteArray) (w : World) (e : Ending) (w' : World) : Prop := ∃ (A0 : Option Addr) , e = .returned (.agg #[.slice A0 xs0.length xs0.length]) ∧ OT w' w.heap.size (.slice A0 xs0.length xs0.length) xs0 ∧ Wi w.heap.size w'.heap.size (.slice A0 xs0.length xs0.length) ∧ w.heap.size ≤ w'.heap.size ∧ Below w.heap.size w w'
set_option maxHeartbeats 4000000 in
set_option maxRecDepth 100000 in
theorem toHp_any {B : Nat} {w : World} {v0 : Value} {xs0 : List ByteArray} (h0 : RiT B w v0 xs0) (hB : B ≤ w.heap.size) (hs : SmT xs0) :
    Calls Try.prog 16 #[.agg #[v0]] w (AtHp xs0 w) := by
  have H0 := Lib.hid h0; obtain ⟨A0, c0, rfl, -, -, -⟩ := h0
  have Hs := Lib.hid hs; clear hs
  have Tri0 := Lib.hid (Tri.start w 24 27 #[.slice A0 xs0.length c0] #[.slice none 0 0] #[.slice none 0 0])
  have Sz0 : Hid (w.heap.size + 3 ≤ (((w.alloc (.cells #[.slice A0 xs0.length c0] 24)).alloc (.cells #[.slice none 0 0] 27)).alloc (.cells #[.slice none 0 0] 27)).heap.size) := Lib.hid Tri0.out.2.2.2.2
  go_enter Try.func16, Try.ntmps16
  go_wp2_with fail
  generalize (((w.alloc (.cells #[.slice A0 xs0.length c0] 24)).alloc (.cells #[.slice none 0 0] 27)).alloc (.cells #[.slice none 0 0] 27)) = W0 at *
  refine (toT_any (H0.out.at hB Tri0.out.2.2.2.1) (Nat.le_refl _) Hs.out.1).mono ?_
  rintro e w1 ⟨rfl, r, zz, g⟩
  have tri := Tri0.out.after g
  have Sy1 : Hid (W0.heap.size ≤ w1.heap.size) := Lib.hid g.size
  have oo : OT w1 W0.heap.size (.slice (some ⟨W0.heap.size, 0, none⟩) xs0.length xs0.length) xs0 := OT.of_row r (Nat.le_refl _) (by unfold maxLen; have := Hs.out.1; omega)
  have I0 := Lib.hid (own_wi oo)
  have O0_1 : Hid (OT w1 (w.heap.size + 3) (.slice (some ⟨W0.heap.size, 0, none⟩) xs0.length xs0.length) xs0) := Lib.hid (own_lo oo (by have := Sz0.out; omega))
  have Hi9 : Hid ((Try.prog.info? 27).map (·.size) = some (#[.slice (some ⟨W0.heap.size, 0, none⟩) xs0.length xs0.length] : Array Value).size) := Lib.hid (by kernel_rfl)
  have H19 : Hid ((#[.slice (some ⟨W0.heap.size, 0, none⟩) xs0.length xs0.length] : Array Value).all (·.oneCell') = true) := Lib.hid (by simp [Value.oneCell'])
  clear g r zz oo
  have q1 := tri.out 0 _ rfl
  have q2 := tri.free 0
  have Tri1 : Hid (Tri w (w1.setCell ⟨w.heap.size + 1 + 1, 0, none⟩ (.slice (some ⟨W0.heap.size, 0, none⟩) xs0.length xs0.length)) 24 27 #[.slice A0 xs0.length c0] #[.slice none 0 0] #[.slice (some ⟨W0.heap.size, 0, none⟩) xs0.length xs0.length]) := Lib.hid (tri.set 0 (.slice (some ⟨W0.heap.size, 0, none⟩) xs0.length xs0.length))
  have Sz1 : Hid (w.heap.size + 3 ≤ (w1.setCell ⟨w.heap.size + 1 + 1, 0, none⟩ (.slice (some ⟨W0.heap.size, 0, none⟩) xs0.length xs0.length)).heap.size ∧ w1.heap.size ≤ (w1.setCell ⟨w.heap.size + 1 + 1, 0, none⟩ (.slice (some ⟨W0.heap.size, 0, none⟩) xs0.length xs0.length)).heap.size) := Lib.hid ⟨Tri1.out.2.2.2.2, by simp [World.setCell]⟩
  have HSC1 : Hid (∀ q, q ≠ w.heap.size + 1 + 1 → (w1.setCell ⟨w.heap.size + 1 + 1, 0, none⟩ (.slice (some ⟨W0.heap.size, 0, none⟩) xs0.length xs0.length)).heap[q]? = w1.heap[q]?) := Lib.hid (fun q hq => by rw [heap_setCell_other _ ⟨w.heap.size + 1 + 1, 0, none⟩ q _ hq])
  have O0_1s : Hid (OT (w1.setCell ⟨w.heap.size + 1 + 1, 0, none⟩ (.slice (some ⟨W0.heap.size, 0, none⟩) xs0.length xs0.length)) (w.heap.size + 3) (.slice (some ⟨W0.heap.size, 0, none⟩) xs0.length xs0.length) xs0) := Lib.hid (own_same O0_1.out fun q hq => HSC1.out q (by have := own_wi O0_1.out q hq; omega))
  clear tri
  go_wp2_with (first | (refine wpList_load_row rfl 27 (.tmp 3) rfl _ rfl 27 _ (0, 0) _ Tri1.out.2.2.1 Try.underlying27 rfl (by kernel_rfl) ?_) | (refine wpList_store_row rfl 27 (.tmp 2) (.tmp 8) rfl (w.heap.size + 1) #[.slice (some ⟨W0.heap.size, 0, none⟩) xs0.length xs0.length] rfl rfl 27 #[.slice none 0 0] Tri1.out.2.1 Hi9.out rfl H19.out ?_))
  refine bodyPost_ret (v := .agg #[.slice (some ⟨W0.heap.size, 0, none⟩) xs0.length xs0.length]) ?_ rfl ?_
  · exact results_cell_row rfl _ _ (w.heap.size + 1) 27 _ (0, 0) _ rfl (setRow_heap _ _ _ _ _ _ Tri1.out.2.1) Try.underlying27 rfl (by kernel_rfl)
  · have hend := below_setRow Tri1.out.2.2.2.1 (show w.heap.size ≤ w.heap.size + 1 by omega) #[.slice (some ⟨W0.heap.size, 0, none⟩) xs0.length xs0.length]
    have Z9 := Sz1.out
    exact ⟨_, rfl, own_lo (own_same O0_1s.out fun q hq => setRow_other _ _ q _ (by have := own_wi O0_1s.out q hq; omega)) (Nat.le_add_right _ 3), I0.out.wide (by have a0 := Sz0.out; have a1 := Sz1.out; have b1 := Sy1.out; omega) (by rw [setRow_size]; have a0 := Sz0.out; have a1 := Sz1.out; have b1 := Sy1.out; omega), by rw [setRow_size]; have a0 := Sz0.out; have a1 := Sz1.out; have b1 := Sy1.out; omega, hend⟩
theorem toHp_rd {B : Nat} {w : World} {v0 : Value} {xs0 : List ByteArray} (h0 : RiT B w v0 xs0) (hB : B ≤ w.heap.size) (hs : SmT xs0) :
    Calls Try.prog 16 #[.agg #[v0]] w fun e w' => ∃ A0 : Option Addr, e = .returned (.agg #[.slice A0 xs0.length xs0.length]) ∧ RiT w'.heap.size w' (.slice A0 xs0.length xs0.length) xs0 ∧ Below w.heap.size w w' :=
  (toHp_any h0 hB hs).mono fun e w' h => by
    obtain ⟨A0, he, o0, -, -, g⟩ := h
    exact ⟨A0, he, o0.rit h0.inT, g⟩
set_option maxHeartbeats 2000000 in
set_option maxRecDepth 100000 in
theorem eqHp_any {B : Nat} {w : World} {v0 u0 : Value} {xs0 : List ByteArray} (h0 : RiT B w v0 xs0) (g0 : RiT B w u0 xs0) (hB : B ≤ w.heap.size) :
    Calls Try.prog 18 #[.agg #[v0], .agg #[u0]] w (GivesB (.bool true) w) := by
  have H0 := Lib.hid h0; obtain ⟨A0, c0, rfl, -, -, -⟩ := h0
  have G0 := Lib.hid g0; obtain ⟨D0, d0, rfl, -, -, -⟩ := g0
  have Hb0 : Hid (Below w.heap.size w ((w.alloc (.cells #[.slice A0 xs0.length c0] 27)).alloc (.cells #[.slice D0 xs0.length d0] 27))) := Lib.hid (((Below.refl _ w).alloc (Nat.le_refl _) _).alloc (by simp) _)
  have R0 : Hid (((w.alloc (.cells #[.slice A0 xs0.length c0] 27)).alloc (.cells #[.slice D0 xs0.length d0] 27)).heap[w.heap.size]? = some (.cells #[.slice A0 xs0.length c0] 27 (0, 0))) := Lib.hid (heap_alloc2_old w _ _)
  have S0 : Hid (((w.alloc (.cells #[.slice A0 xs0.length c0] 27)).alloc (.cells #[.slice D0 xs0.length d0] 27)).heap[w.heap.size + 1]? = some (.cells #[.slice D0 xs0.length d0] 27 (0, 0))) := Lib.hid (heap_alloc2_new w _ _)
  have Lt0 : Hid (w.heap.size + 1 < ((w.alloc (.cells #[.slice A0 xs0.length c0] 27)).alloc (.cells #[.slice D0 xs0.length d0] 27)).heap.size) := Lib.hid (by simp)
  have q1 : ((w.alloc (.cells #[.slice A0 xs0.length c0] 27)).alloc (.cells #[.slice D0 xs0.length d0] 27)).cell? ⟨w.heap.size, 0, none⟩ = some (.slice A0 xs0.length c0) := by rw [cell_of_row _ _ _ _ _ _ R0.out]; rfl
  have q2 : ((w.alloc (.cells #[.slice A0 xs0.length c0] 27)).alloc (.cells #[.slice D0 xs0.length d0] 27)).cell? ⟨w.heap.size + 1, 0, none⟩ = some (.slice D0 xs0.length d0) := by rw [cell_of_row _ _ _ _ _ _ S0.out]; rfl
  go_enter Try.func18, Try.ntmps18
  go_wp2_with fail
  clear q1 q2
  generalize ((w.alloc (.cells #[.slice A0 xs0.length c0] 27)).alloc (.cells #[.slice D0 xs0.length d0] 27)) = w0 at *
  refine (eqT_any (H0.out.at hB Hb0.out) (G0.out.at hB Hb0.out) (Nat.le_refl _)).mono ?_
  rintro e w1 ⟨rfl, g⟩
  have Hb1 : Hid (Below w.heap.size w w1) := Lib.hid (Hb0.out.trans (g.mono Hb0.out.size))
  have R1 := Lib.hid ((g.block _ (by have := Lt0.out; omega)).trans R0.out)
  have S1 := Lib.hid ((g.block _ Lt0.out).trans S0.out)
  have Lt1 : Hid (w.heap.size + 1 < w1.heap.size) := Lib.hid (by have := Lt0.out; have := g.size; omega)
  clear g
  go_wp2_with fail
  go_ret
  exact ⟨rfl, Hb1.out⟩
set_option maxHeartbeats 2000000 in
set_option maxRecDepth 100000 in
theorem markHp_any {w : World} {lo hi : Nat} {A0 : Option Addr} {c0 : Nat} {xs0 : List ByteArray} (o0 : OT w lo (.slice A0 xs0.length c0) xs0) (i0 : Wi lo hi (.slice A0 xs0.length c0)) (r0 : lo ≤ hi) (hhi : hi ≤ w.heap.size) (k : Nat) (hk1 : 1 ≤ k) (hk : k + xs0.length ≤ 8000000) :
    Calls Try.prog 23 #[.agg #[.slice A0 xs0.length c0], .int .i64 (k : Int)] w fun e w' => e = .returned (.int .i64 ((k + xs0.length : Nat) : Int)) ∧ Mv lo hi w w' := by
  have I0 := Lib.hid i0; clear i0
  have B0 : Hid (Below w.heap.size w (w.alloc (.cells #[.slice A0 xs0.length c0] 27))) := Lib.hid ((Below.refl _ w).alloc (Nat.le_refl _) _)
  have R0 : Hid ((w.alloc (.cells #[.slice A0 xs0.length c0] 27)).heap[w.heap.size]? = some (.cells #[.slice A0 xs0.length c0] 27 (0, 0))) := Lib.hid (heap_alloc_new w _)
  have Z0 : Hid (w.heap.size < (w.alloc (.cells #[.slice A0 xs0.length c0] 27)).heap.size) := Lib.hid (by simp)
  have M0 : Hid (Mv lo hi w (w.alloc (.cells #[.slice A0 xs0.length c0] 27))) := Lib.hid (Mv.of_below B0.out)
  have O0_0 : Hid (OT (w.alloc (.cells #[.slice A0 xs0.length c0] 27)) lo (.slice A0 xs0.length c0) xs0) := Lib.hid (own_bel o0 B0.out)
  clear o0
  have q1 : (w.alloc (.cells #[.slice A0 xs0.length c0] 27)).cell? ⟨w.heap.size, 0, none⟩ = some (.slice A0 xs0.length c0) := by rw [cell_of_row _ _ _ _ _ _ R0.out]; rfl
  go_enter Try.func23, Try.ntmps23
  go_wp2_with fail
  clear q1
  generalize (w.alloc (.cells #[.slice A0 xs0.length c0] 27)) = w0 at *
  refine (markT_any O0_0.out (k) (by omega) (by omega)).mono ?_
  rintro e w1 ⟨rfl, oa, gr⟩
  have m1 : Mv lo hi w0 w1 := Mv.grown gr I0.out
  have M1 : Hid (Mv lo hi w w1) := Lib.hid (M0.out.trans (m1.wide (by omega) (by omega)))
  have Z1 : Hid (w.heap.size < w1.heap.size) := Lib.hid (by have := Z0.out; have := m1.2.2.2.1; omega)
  have R1 : Hid (w1.heap[w.heap.size]? = some (.cells #[.slice A0 xs0.length c0] 27 (0, 0))) := Lib.hid ((m1.2.2.2.2 _ Z0.out (by omega)).trans R0.out)
  clear m1 oa gr
  go_wp2_with fail
  go_ret
  exact ⟨by first | rfl | (congr 2; omega) | simp [Nat.add_assoc], M1.out⟩
theorem row1 (w : World) (v : Value) (t : TypeId) : (w.alloc (.cells #[v] t)).cell? ⟨w.heap.size, 0, none⟩ = some v := by rw [cell_of_row _ _ _ _ _ _ (heap_alloc_new w _)]; rfl
set_option maxHeartbeats 1000000 in
set_option maxRecDepth 100000 in
theorem markHpO_any {w : World} {lo : Nat} {v : Value} {xs : List ByteArray} (o0 : OT w lo v xs) (k : Nat) (hk1 : 1 ≤ k) (hk : k + xs.length ≤ 8000000) :
    Calls Try.prog 23 #[.agg #[v], .int .i64 (k : Int)] w fun e w' => e = .returned (.int .i64 ((k + xs.length : Nat) : Int)) ∧ OT w' lo v (marksT k xs.length) ∧ w.grownBy w' v.ownBlock := by
  have B0 : Hid (Below w.heap.size w (w.alloc (.cells #[v] 27))) := Lib.hid ((Below.refl _ w).alloc (Nat.le_refl _) _)
  have O0 : Hid (OT (w.alloc (.cells #[v] 27)) lo v xs) := Lib.hid (own_bel o0 B0.out)
  have q1 := row1 w v 27
  clear o0
  go_enter Try.func23, Try.ntmps23
  go_wp2_with fail
  clear q1
  generalize (w.alloc (.cells #[v] 27)) = w0 at *
  refine (markT_any O0.out k hk1 hk).mono ?_
  rintro e w1 ⟨rfl, oa, gr⟩
  have Oa := Lib.hid oa
  have Gr : Hid (w.grownBy w1 v.ownBlock) := Lib.hid (grown_trans ⟨B0.out.os, B0.out.tape, B0.out.output, B0.out.size, fun q hq _ => B0.out.block q hq⟩ gr)
  clear oa gr
  go_wp2_with fail
  go_ret
  exact ⟨rfl, Oa.out, Gr.out⟩
set_option maxHeartbeats 1000000 in
set_option maxRecDepth 100000 in
theorem heldHp_any {w : World} {lo n : Nat} {v : Value} (k : Nat) (h : OT w lo v (marksT k n)) (h1 : 1 ≤ k) (hk : k + n ≤ 8000000) :
    Calls Try.prog 24 #[.agg #[v], .int .i64 (k : Int)] w (GivesB (.int .i64 ((k + n : Nat) : Int)) w) := by
  have B0 : Hid (Below w.heap.size w (w.alloc (.cells #[v] 27))) := Lib.hid ((Below.refl _ w).alloc (Nat.le_refl _) _)
  have O0 : Hid (OT (w.alloc (.cells #[v] 27)) lo v _) := Lib.hid (own_bel h B0.out)
  have q1 := row1 w v 27
  have g1 : ¬ (((k + n : Nat) : Int) < 0) := by omega
  clear h
  go_enter Try.func24, Try.ntmps24
  go_wp2_with fail
  clear q1
  generalize (w.alloc (.cells #[v] 27)) = w0 at *
  refine (heldT_any k O0.out h1 hk).mono ?_
  rintro e w1 ⟨rfl, g⟩
  have Bw : Hid (Below w.heap.size w w1) := Lib.hid (B0.out.trans (g.mono B0.out.size))
  clear g
  go_wp2_with fail
  go_ret
  exact ⟨rfl, Bw.out⟩
end Go.Proofs.Ytabnglimchjgpaa
