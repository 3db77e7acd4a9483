/- Contract of the program's reading of a hyperslab. No statement is proved here. -/
import Derived.Test.YtbghekgghiamcaaAx
namespace Go.Proofs.Ytbghekgghiamcaa
open Go.RowKit
set_option linter.unusedVariables false
theorem wpList_store_named {P : Program} {ops : Array Oper} {rest : List Oper} {op : Oper} {a : Act} {w : World} {Q : Exit → Act → World → Prop} (hgd : op.guard = none) (ty : TypeId) (x y : Operand) (ho : op.op = .store ty x y)
    (b o : Nat) (cells : Array Value) (hx : a.eval x = .pointer (some ⟨b, o, none⟩)) (hy : a.eval y = .agg cells) (hth : w.there b o cells.size)
    (hi : (P.info? ty).map (·.size) = some cells.size) (h1 : cells.all (·.oneCell') = true)
    (h : ∀ W2, Hid (W2 = w.setCells b o cells.toList) → wpList P ops Q rest (a.put op.dst undef) W2) : wpList P ops Q (op :: rest) a w :=
  wpList_store_mid hgd ty x y ho b o cells hx hy hth hi h1 (h _ (Lib.hid rfl))
theorem SelBox.block {w w1 w2 : World} {k : Int} {A1 A2 A3 A4 A5 : Option Addr} {n1 n2 n3 n4 n5 c1 c2 c3 c4 c5 : Nat} (h : SelBox w w1 k A1 A2 A3 A4 A5 n1 n2 n3 n4 n5 c1 c2 c3 c4 c5) (hb : w2.heap[w.heap.size]? = w1.heap[w.heap.size]?) (hs : w.heap.size < w2.heap.size) : SelBox w w2 k A1 A2 A3 A4 A5 n1 n2 n3 n4 n5 c1 c2 c3 c4 c5 := by
  obtain ⟨h0, h1, h2, h3, h4, h5, h6⟩ := h
  have e : ∀ j, w2.cell? ⟨w.heap.size, j, none⟩ = w1.cell? ⟨w.heap.size, j, none⟩ := fun j => World.cell?_of_block (w := w1) hb
  exact ⟨by rw [e]; exact h0, by rw [e]; exact h1, by rw [e]; exact h2, by rw [e]; exact h3, by rw [e]; exact h4, by rw [e]; exact h5, hs⟩
/-- What slabOf answers. -/
def SlabRes (S T C K : List Int) (w : World) (e : Ending) (w' : World) : Prop := Below w.heap.size w w' ∧
  ((slabOk S T C K = true ∧ ∃ b, b < w'.heap.size ∧ w.heap.size ≤ b ∧ e = .returned (.tuple #[.slice (some ⟨b, 0, none⟩) S.length S.length, .bool true]) ∧ SlabAt w' b S T C K S.length) ∨
   (slabOk S T C K = false ∧ e = .returned (.tuple #[.slice none 0 0, .bool false])))
theorem SlabRes.no {S T C K : List Int} {w w' : World} (h : slabOk S T C K = false) (hb : Below w.heap.size w w') : SlabRes S T C K w (.returned (.tuple #[.slice none 0 0, .bool false])) w' := ⟨hb, .inr ⟨h, rfl⟩⟩
theorem SlabRes.yes {S T C K : List Int} {w w' : World} {b : Nat} (h : slabOk S T C K = true) (hb : Below w.heap.size w w') (h1 : b < w'.heap.size) (h2 : w.heap.size ≤ b) (h3 : SlabAt w' b S T C K S.length) : SlabRes S T C K w (.returned (.tuple #[.slice (some ⟨b, 0, none⟩) S.length S.length, .bool true])) w' := ⟨hb, .inl ⟨h, b, h1, h2, rfl, h3⟩⟩
set_option maxHeartbeats 4000000 in
set_option maxRecDepth 100000 in
theorem slabOf_any {B : Nat} {w : World} (k : Int) {v1 v2 v3 v4 : Value} {S T C K : List Int} (h1 : Ri B w v1 S) (h2 : Ri B w v2 T) (h3 : Ri B w v3 C) (h4 : Ri B w v4 K) (A5 : Option Addr) (n5 c5 : Nat) (hB : B ≤ w.heap.size) :
    Calls Try.prog 82 #[.agg #[.int .i64 k, v1, v2, v3, v4, .slice A5 n5 c5]] w (SlabRes S T C K w) := by
  obtain ⟨A1, c1, rfl, hl1, hm1, hx1⟩ := h1
  obtain ⟨A2, c2, rfl, hl2, hm2, hx2⟩ := h2
  obtain ⟨A3, c3, rfl, hl3, hm3, hx3⟩ := h3
  obtain ⟨A4, c4, rfl, hl4, hm4, hx4⟩ := h4
  have Hx1 := Lib.hid hx1; have Hx2 := Lib.hid hx2; have Hx3 := Lib.hid hx3; have Hx4 := Lib.hid hx4; clear hx1 hx2 hx3 hx4
  unfold maxLen at hm1 hm2 hm3 hm4
  have Hb0 : Hid (Below w.heap.size w (w.alloc (.cells #[.int .i64 k, .slice A1 S.length c1, .slice A2 T.length c2, .slice A3 C.length c3, .slice A4 K.length c4, .slice A5 n5 c5] 25))) := Lib.hid ((Below.refl _ w).alloc (Nat.le_refl _) _)
  have HX0 := Lib.hid (SelBox.start w 25 k A1 A2 A3 A4 A5 S.length T.length C.length K.length n5 c1 c2 c3 c4 c5)
  by_cases e1 : 3 < S.length
  · have Hf : Hid (slabOk S T C K = false) := Lib.hid (slabOk_lens (by rw [Bool.eq_false_iff]; intro h; have := (slabLens_iff.1 h).1; omega))
    have q1 : decide ((3 : Int) < (S.length : Int)) = true := decide_eq_true (by omega)
    go_enter Try.func82, Try.ntmps82
    go_wp2
    go_ret2
    exact SlabRes.no Hf.out ((Below.refl _ w).alloc (Nat.le_refl _) _)
  have q0 : decide ((3 : Int) < (S.length : Int)) = false := decide_eq_false (by omega)
  by_cases e2 : T.length = S.length
  rotate_left
  · have Hf : Hid (slabOk S T C K = false) := Lib.hid (slabOk_lens (by rw [Bool.eq_false_iff]; intro h; exact e2 (slabLens_iff.1 h).2.1))
    have q1 : ((T.length : Int) == (S.length : Int)) = false := by simp; omega
    have q2 : ((T.length : Int) != (S.length : Int)) = true := by simp; omega
    have q3 : ¬ ((T.length : Int) = (S.length : Int)) := by omega
    go_enter Try.func82, Try.ntmps82
    go_wp2
    go_ret2
    exact SlabRes.no Hf.out ((Below.refl _ w).alloc (Nat.le_refl _) _)
  by_cases e3 : C.length = S.length
  rotate_left
  · have Hf : Hid (slabOk S T C K = false) := Lib.hid (slabOk_lens (by rw [Bool.eq_false_iff]; intro h; exact e3 (slabLens_iff.1 h).2.2.1))
    have q1 : ((C.length : Int) == (S.length : Int)) = false := by simp; omega
    have q2 : ((C.length : Int) != (S.length : Int)) = true := by simp; omega
    have q3 : ¬ ((C.length : Int) = (S.length : Int)) := by omega
    have q4 : (T.length : Int) = (S.length : Int) := by omega
    go_enter Try.func82, Try.ntmps82
    go_wp2
    go_ret2
    exact SlabRes.no Hf.out ((Below.refl _ w).alloc (Nat.le_refl _) _)
  by_cases e4 : K.length = S.length
  rotate_left
  · have Hf : Hid (slabOk S T C K = false) := Lib.hid (slabOk_lens (by rw [Bool.eq_false_iff]; intro h; exact e4 (slabLens_iff.1 h).2.2.2))
    have q1 : ((K.length : Int) == (S.length : Int)) = false := by simp; omega
    have q2 : ((K.length : Int) != (S.length : Int)) = true := by simp; omega
    have q3 : ¬ ((K.length : Int) = (S.length : Int)) := by omega
    have q4 : (T.length : Int) = (S.length : Int) := by omega
    have q5 : (C.length : Int) = (S.length : Int) := by omega
    go_enter Try.func82, Try.ntmps82
    go_wp2
    go_ret2
    exact SlabRes.no Hf.out ((Below.refl _ w).alloc (Nat.le_refl _) _)
  have E2 := Lib.hid e2; have E3 := Lib.hid e3; have E4 := Lib.hid e4
  have q4 : (T.length : Int) = (S.length : Int) := by omega
  have q5 : (C.length : Int) = (S.length : Int) := by omega
  have q6 : (K.length : Int) = (S.length : Int) := by omega
  have Hlen : Hid (slabLens S T C K = true) := Lib.hid (slabLens_iff.2 ⟨by omega, e2, e3, e4⟩)
  obtain ⟨CC, hCC, hmk⟩ := make_all (P := Try.prog) 105 112 S.length 4 32 Try.underlying105 Try.infoA (by omega) (by omega)
  have Hmk := Lib.hid (hmk (w.alloc (.cells #[.int .i64 k, .slice A1 S.length c1, .slice A2 T.length c2, .slice A3 C.length c3, .slice A4 K.length c4, .slice A5 n5 c5] 25)))
  have Hb1 : Hid (Below w.heap.size w ((w.alloc (.cells #[.int .i64 k, .slice A1 S.length c1, .slice A2 T.length c2, .slice A3 C.length c3, .slice A4 K.length c4, .slice A5 n5 c5] 25)).alloc (.cells CC 112))) := Lib.hid (Hb0.out.alloc (by simp) _)
  have HX1 := Lib.hid (HX0.out.go ((Below.refl _ (w.alloc (.cells #[.int .i64 k, .slice A1 S.length c1, .slice A2 T.length c2, .slice A3 C.length c3, .slice A4 K.length c4, .slice A5 n5 c5] 25))).alloc (Nat.le_refl _) (.cells CC 112)))
  have HS0 : Hid (SlabAt ((w.alloc (.cells #[.int .i64 k, .slice A1 S.length c1, .slice A2 T.length c2, .slice A3 C.length c3, .slice A4 K.length c4, .slice A5 n5 c5] 25)).alloc (.cells CC 112)) (w.heap.size + 1) S T C K 0) := Lib.hid (by
    have e0 : (w.alloc (.cells #[.int .i64 k, .slice A1 S.length c1, .slice A2 T.length c2, .slice A3 C.length c3, .slice A4 K.length c4, .slice A5 n5 c5] 25)).heap.size = w.heap.size + 1 := by simp
    refine ⟨?_, fun j hj => absurd hj (by omega)⟩
    rw [← e0]
    exact there_alloc _ _ _ _ (by rw [hCC]; exact Nat.le_refl _))
  have Hz1 : Hid (w.heap.size + 1 < ((w.alloc (.cells #[.int .i64 k, .slice A1 S.length c1, .slice A2 T.length c2, .slice A3 C.length c3, .slice A4 K.length c4, .slice A5 n5 c5] 25)).alloc (.cells CC 112)).heap.size) := Lib.hid (by simp)
  clear e2 e3 e4 Hmk hCC
  go_enter Try.func82, Try.ntmps82
  go_wp2
  clear q4 q5 q6 q0
  go_loopw [37] (fun i wr => ∃ j : Nat, j ≤ S.length ∧ i = .int .i64 j ∧ Below w.heap.size w wr ∧ SelBox w wr k A1 A2 A3 A4 A5 S.length T.length C.length K.length n5 c1 c2 c3 c4 c5 ∧ SlabAt wr (w.heap.size + 1) S T C K j ∧ w.heap.size + 1 < wr.heap.size ∧ allTo (slabAt S T C K) j = true) (fun i _ => S.length - (intOf i).toNat)
  case atStart => exact ⟨0, Nat.zero_le _, rfl, Hb1.out, HX1.out, HS0.out, Hz1.out, allTo_zero _⟩
  case round =>
    obtain ⟨j, hj, rfl, hbel, hbox, hsl, hz, hall⟩ := hrel
    have Hall := Lib.hid hall; have Hbel := Lib.hid hbel; have Hbox := Lib.hid hbox; have Hsl := Lib.hid hsl
    clear hall hbox hsl
    by_cases hlt : j < S.length
    · have hlt2 : j < T.length := by have := E2.out; omega
      have hlt3 : j < C.length := by have := E3.out; omega
      have hlt4 : j < K.length := by have := E4.out; omega
      obtain ⟨b1, o1, rfl, hb1, hq1, hI1⟩ := Hx1.out j hlt
      obtain ⟨b2, o2, rfl, hb2, hq2, hI2⟩ := Hx2.out j hlt2
      obtain ⟨b3, o3, rfl, hb3, hq3, hI3⟩ := Hx3.out j hlt3
      obtain ⟨b4, o4, rfl, hb4, hq4, hI4⟩ := Hx4.out j hlt4
      have g1 : wr.cell? ⟨b1, o1 + j, none⟩ = some (.int .i64 S[j]) := by rw [hbel.cell (p := ⟨b1, o1 + j, none⟩) (show b1 < _ from by omega)]; exact hq1
      have g2 : wr.cell? ⟨b2, o2 + j, none⟩ = some (.int .i64 T[j]) := by rw [hbel.cell (p := ⟨b2, o2 + j, none⟩) (show b2 < _ from by omega)]; exact hq2
      have g3 : wr.cell? ⟨b3, o3 + j, none⟩ = some (.int .i64 C[j]) := by rw [hbel.cell (p := ⟨b3, o3 + j, none⟩) (show b3 < _ from by omega)]; exact hq3
      have g4 : wr.cell? ⟨b4, o4 + j, none⟩ = some (.int .i64 K[j]) := by rw [hbel.cell (p := ⟨b4, o4 + j, none⟩) (show b4 < _ from by omega)]; exact hq4
      have Hp := Lib.hid (slabAt_at (S := S) (T := T) (C := C) (K := K) hlt hlt2 hlt3 hlt4)
      have Hk2 := Lib.hid (allTo_succ (slabAt S T C K) j)
      have Hbad : Hid (slabAt S T C K j = false → slabOk S T C K = false) := Lib.hid (fun h => slabOk_bad hlt h)
      have Hstep := Lib.hid ((Hsl.out.same (w' := wr.drewN 1) rfl).step hlt)
      rw [getD_at _ _ hlt, getD_at _ _ hlt2, getD_at _ _ hlt3, getD_at _ _ hlt4] at Hstep
      have Hth : Hid ((wr.drewN 1).there (w.heap.size + 1) (j * 4) 4) := Lib.hid (there_sub (Hsl.out.same (w' := wr.drewN 1) rfl).1 (Nat.zero_le _) (by omega))
      clear hq1 hq2 hq3 hq4 hI1 hI2 hI3 hI4 hbel
      generalize hgs : S[j] = s at *
      generalize hgt : T[j] = t at *
      generalize hgc : C[j] = c at *
      generalize hgk : K[j] = b at *
      have Hgs := Lib.hid hgs; have Hgt := Lib.hid hgt; have Hgc := Lib.hid hgc; have Hgk := Lib.hid hgk
      clear hgs hgt hgc hgk
      have Hi9 : Hid ((Try.prog.info? 112).map (·.size) = some (#[.int .i64 s, .int .i64 t, .int .i64 c, .int .i64 b] : Array Value).size) := Lib.hid (by kernel_rfl)
      have H19 : Hid ((#[.int .i64 s, .int .i64 t, .int .i64 c, .int .i64 b] : Array Value).all (·.oneCell') = true) := Lib.hid (by simp [Value.oneCell'])
      obtain ⟨x0, x1, x2, x3, x4, x5, x6⟩ := Hbox.out
      go_wp2
      refine wp_region_still_tail 24 (by kernel_rfl) (by kernel_rfl) ?_
      simp only [List.take_succ_cons, List.take_zero, List.drop_succ_cons, List.drop_zero]
      repeat still_step
      refine wpStill_nil ?_
      clear g1 g2 g3 g4 x0 x1 x2 x3 x4 x5
      go_wp2_with (refine wpList_store_named rfl 112 (.tmp 63) (.tmp 62) rfl (w.heap.size + 1) (j * 4) #[.int .i64 s, .int .i64 t, .int .i64 c, .int .i64 b] rfl rfl Hth.out Hi9.out H19.out ?_)
      intro W2 hW2
      have Hs2 : Hid (SlabAt W2 (w.heap.size + 1) S T C K (j + 1)) := Lib.hid (hW2.out ▸ Hstep.out)
      have Hz2 : Hid (W2.heap.size = wr.heap.size) := Lib.hid (by rw [hW2.out, size_setCells]; rfl)
      have Hbel2 : Hid (Below w.heap.size w W2) := Lib.hid (by
        rw [hW2.out]
        exact below_setCells (by omega) _ _ Hbel.out.drew)
      have Hbox2 : Hid (SelBox w W2 k (some ⟨b1, o1, none⟩) (some ⟨b2, o2, none⟩) (some ⟨b3, o3, none⟩) (some ⟨b4, o4, none⟩) A5 S.length T.length C.length K.length n5 c1 c2 c3 c4 c5) := Lib.hid (Hbox.out.block (by
        rw [hW2.out, heap_setCells_other (w.heap.size + 1) w.heap.size (by omega)]
        rfl) (by rw [Hz2.out]; omega))
      have Hz3 : Hid (w.heap.size + 1 < W2.heap.size) := Lib.hid (by rw [Hz2.out]; exact hz)
      have Hld : Hid ((loadVar 112 ⟨w.heap.size + 1, j * 4, none⟩).run Try.prog W2 = .ok (.agg [Value.int .i64 s, .int .i64 t, .int .i64 c, .int .i64 b].toArray) W2) := Lib.hid (run_load_cells (P := Try.prog) W2 (w.heap.size + 1) (j * 4) 112 _ [.int .i64 s, .int .i64 t, .int .i64 c, .int .i64 b] (fun q u hq => by
        have h := Hs2.out.2 j (by omega)
        rw [getD_at _ _ hlt, getD_at _ _ hlt2, getD_at _ _ hlt3, getD_at _ _ hlt4, Hgs.out, Hgt.out, Hgc.out, Hgk.out] at h
        exact h q u hq) Try.underlying112 (by kernel_rfl))
      have HA := Lib.hid (axisFormed_any W2 s t c b)
      generalize hao : axOk s t c b = ao at *
      have Hao := Lib.hid hao
      clear hW2 hao
      go_wp2_with (refine wpList_load_agg rfl 112 (.tmp 66) rfl _ rfl _ Hld.out ?_)
      refine HA.out.mono ?_
      rintro e w3 ⟨rfl, g⟩
      have Hb3 : Hid (Below w.heap.size w w3) := Lib.hid (Hbel2.out.trans (g.mono Hbel2.out.size))
      have Hbox3 := Lib.hid (Hbox2.out.go g)
      have Hs3 := Lib.hid (Hs2.out.same (g.block _ Hz3.out))
      have hz3 : w.heap.size + 1 < w3.heap.size := by have := g.size; have := Hz3.out; omega
      clear g
      cases ao
      · have Hf : Hid (slabOk S T C K = false) := Lib.hid (Hbad.out (by rw [Hp.out]))
        clear Hbad
        go_wp2
        go_ret2
        exact SlabRes.no Hf.out Hb3.out
      · have Hall2 : Hid (allTo (slabAt S T C K) (j + 1) = true) := Lib.hid (by rw [Hk2.out, Hall.out, Hp.out]; rfl)
        clear Hbad
        go_wp2
        go_roundw
        case rel => exact ⟨j + 1, by omega, by go_num, Hb3.out, Hbox3.out, Hs3.out, hz3, Hall2.out⟩
        case measure => simp [intOf]; omega
    · have Hf : Hid (slabOk S T C K = true) := Lib.hid (slabOk_end Hlen.out (by rw [show S.length = j by omega]; exact Hall.out))
      have Hs4 : Hid (SlabAt wr (w.heap.size + 1) S T C K S.length) := Lib.hid (by rw [show S.length = j by omega]; exact Hsl.out)
      clear hbel
      go_wp2
      go_ret2
      exact SlabRes.yes Hf.out Hbel.out hz (by omega) Hs4.out
end Go.Proofs.Ytbghekgghiamcaa
