/- PutName: what it answers, and the model. No statement is proved here. -/
import Derived.Test.YtabnglimchjgpaaHpO
import Derived.Test.YtabnglimchjgpaaRw3
import Derived.Test.YtabnglimchjgpaaHeld
namespace Go.Proofs.Ytabnglimchjgpaa
open Go.RowKit
set_option linter.unusedVariables false
theorem wp_store_rowH (d : Option Tmp) {o : Oper} {a : Act} {w : World} {K : Act → World → Prop} {Q : Exit → Act → World → Prop} {E : Prop} {ops : Array Oper} (hw : Region.wanted o (yielded ops a.tmps) = true) (hd : o.dst = d) (ty : TypeId) (x y : Operand) (ho : o.op = .store ty x y)
    (g : Nat) (cells : Array Value) (hx : a.eval x = .pointer (some ⟨g, 0, none⟩)) (hy : a.eval y = .agg cells)
    (t : TypeId) (old : Array Value) (hg : w.heap[g]? = some (.cells old t (0, 0))) (hi : (Try.prog.info? ty).map (·.size) = some cells.size)
    (hold : old.size = cells.size) (h1 : cells.all (·.oneCell') = true)
    (h : K (a.put d undef) (w.setRow g cells)) : if Region.wanted o (yielded ops a.tmps) = true then Oper.wp Try.prog o a w K Q else E := by
  subst hd
  rw [if_pos hw]
  exact wp_store_row ty x y ho g cells hx hy t old hg hi hold h1 h
def mkA2 (a c : Int) (p : Value) : Value := .tuple #[p, .int .i64 a, .int .i64 c]
def mkC2 (c : Int) (p : Value) : Value := .tuple #[p, .int .i64 c]
def mkB2 (b : Bool) (p : Value) : Value := .tuple #[p, .bool b]
def PtIs (ss : List ByteArray) (nm : ByteArray) (D : List ByteArray) (k c : Int) : Prop := ptL ss nm = D ∧ ptK ss nm = k ∧ ptC ss nm = c
theorem pt_bad {ss : List ByteArray} {nm : ByteArray} (h : ptG ss nm = false) : PtIs ss nm [] 0 1 := by simp [PtIs, ptL, ptK, ptC, ptO, h]
theorem ptG_1 {ss : List ByteArray} {nm : ByteArray} (h : hpOk ss = false) : ptG ss nm = false := by simp [ptG, h]
theorem ptG_2 {ss : List ByteArray} {nm : ByteArray} (h : nameS nm = false) : ptG ss nm = false := by simp [ptG, h]
theorem ptG_y {ss : List ByteArray} {nm : ByteArray} (h : hpOk ss = true) (h2 : nameS nm = true) : ptG ss nm = true := by simp [ptG, h, h2]
theorem pt_set {ss : List ByteArray} {nm : ByteArray} {k : Nat} (h : ptG ss nm = true) (hf : fd ss 30 = some k) (hk : k < ss.length) : PtIs ss nm (ss.set k nm) (k : Int) 0 := by simp [PtIs, ptL, ptK, ptC, ptO, ptW, h, hf, hk]
theorem pt_app {ss : List ByteArray} {nm : ByteArray} (h : ptG ss nm = true) (hf : fd ss 30 = some ss.length) : PtIs ss nm (ss ++ [nm]) (ss.length : Int) 0 := by simp [PtIs, ptL, ptK, ptC, ptO, ptW, h, hf]
theorem pt_full {ss : List ByteArray} {nm : ByteArray} (h : ptG ss nm = true) (hf : fd ss 30 = none) : PtIs ss nm [] 0 5 := by simp [PtIs, ptL, ptK, ptC, ptO, h, hf]
set_option maxHeartbeats 4000000 in
set_option maxRecDepth 100000 in
theorem specPutName_any {B : Nat} {w : World} {v : Value} {ss : List ByteArray} {nm : ByteArray} (h : RiT B w v ss) (hnm : nm.size ≤ 1048576) (hB : B ≤ w.heap.size) (hs : SmT ss) :
    Calls Try.prog 21 #[.agg #[v], .string nm] w (AnsH (mkA2 (ptK ss nm) (ptC ss nm)) (ptL ss nm) w) := by
  have H := Lib.hid h
  obtain ⟨A, cap, rfl, hl, hm, -⟩ := h
  have HB0 : Hid (Below w.heap.size w ((w.alloc (.cells #[.slice A ss.length cap] 27)).alloc (.cells #[.slice none 0 0] 27))) := Lib.hid (((Below.refl _ w).alloc (Nat.le_refl _) _).alloc (by simp) _)
  have R0 : Hid (((w.alloc (.cells #[.slice A ss.length cap] 27)).alloc (.cells #[.slice none 0 0] 27)).heap[w.heap.size]? = some (.cells #[.slice A ss.length cap] 27 (0, 0))) := Lib.hid (heap_alloc2_old w _ _)
  have S0 : Hid (((w.alloc (.cells #[.slice A ss.length cap] 27)).alloc (.cells #[.slice none 0 0] 27)).heap[w.heap.size + 1]? = some (.cells #[.slice none 0 0] 27 (0, 0))) := Lib.hid (heap_alloc2_new w _ _)
  have Z0 : Hid (w.heap.size + 2 ≤ ((w.alloc (.cells #[.slice A ss.length cap] 27)).alloc (.cells #[.slice none 0 0] 27)).heap.size) := Lib.hid (by simp)
  have HC := Lib.hid (l16Ok_any (H.out.at hB HB0.out) (Nat.le_refl _) hs)
  have HD := Lib.hid (fun W (hW : Below w.heap.size w W) => l16Own_any (H.out.at hB hW) (Nat.le_refl _) hs.1)
  have HE := Lib.hid (fun W (hW : Below w.heap.size w W) => l16Slot_any ⟨#[]⟩ (H.out.at hB hW) (Nat.le_refl _))
  have HN := Lib.hid (fun W => specIsName_any nm hnm W)
  have HBad : Hid (ptG ss nm = false → PtIs ss nm [] 0 1) := Lib.hid pt_bad
  have HWay : Hid (ptG ss nm = true → ((∃ k, ∃ hk : k < ss.length, slI ss ⟨#[]⟩ = (k : Int) ∧ PtIs ss nm (ss.set k nm) (k : Int) 0) ∨ (slI ss ⟨#[]⟩ = -1 ∧ ss.length < 30 ∧ PtIs ss nm (ss ++ [nm]) (ss.length : Int) 0) ∨ (slI ss ⟨#[]⟩ = -1 ∧ ss.length = 30 ∧ PtIs ss nm [] 0 5))) := Lib.hid (fun hg => by
    have hl30 : ss.length ≤ 30 := by
      simp only [ptG, Bool.and_eq_true] at hg
      exact (hpOk_iff.1 hg.1).1
    rcases fd_slot hl30 with ⟨k, hk, h1, h2⟩ | ⟨h1, h2, h3⟩ | ⟨h1, h2, h3⟩
    · exact .inl ⟨k, hk, h1, pt_set hg h2 hk⟩
    · exact .inr (.inl ⟨h1, h2, pt_app hg h3⟩)
    · exact .inr (.inr ⟨h1, h2, pt_full hg h3⟩))
  have HG1 : Hid (hpOk ss = false → ptG ss nm = false) := Lib.hid ptG_1
  have HG2 : Hid (nameS nm = false → ptG ss nm = false) := Lib.hid ptG_2
  have HGy : Hid (hpOk ss = true → nameS nm = true → ptG ss nm = true) := Lib.hid ptG_y
  have HDef : Hid (∀ D k c, PtIs ss nm D k c → ptL ss nm = D ∧ ptK ss nm = k ∧ ptC ss nm = c) := Lib.hid (fun D k c h => h)
  clear hs hnm
  generalize ptL ss nm = PL at *
  generalize ptK ss nm = PK at *
  generalize ptC ss nm = PC at *
  generalize slI ss ⟨#[]⟩ = sl at *
  generalize hpOk ss = ok at *
  generalize nameS nm = nk at *
  go_enter Try.func21, Try.ntmps21
  go_wp2_with (refine wpList_load_row rfl 27 (.tmp 2) rfl _ rfl 27 _ (0, 0) _ R0.out Try.underlying27 rfl (by kernel_rfl) ?_)
  generalize ((w.alloc (.cells #[.slice A ss.length cap] 27)).alloc (.cells #[.slice none 0 0] 27)) = w0 at *
  refine HC.out.mono ?_
  rintro e w1 ⟨rfl, g⟩
  have HB1 := Lib.hid (HB0.out.trans (g.mono HB0.out.size))
  have R1 := Lib.hid ((g.block _ (by have := Z0.out; omega)).trans R0.out)
  have S1 := Lib.hid ((g.block _ (by have := Z0.out; omega)).trans S0.out)
  have Z1 : Hid (w.heap.size + 2 ≤ w1.heap.size) := Lib.hid (by have := Z0.out; have := g.size; omega)
  clear g HC
  cases ok
  · have Hf := Lib.hid (HDef.out _ _ _ (HBad.out (HG1.out rfl)))
    go_wp2_with (refine wpList_store_row rfl 27 (.tmp 4) (.tmp 17) rfl (w.heap.size + 1) #[.slice none 0 0] rfl rfl 27 _ S1.out (infoHs _ _ _) rfl (oneH _ _ _) ?_)
    refine bodyPost_ret (v := .tuple #[.agg #[.slice none 0 0], .int .i64 0, .int .i64 1]) ?_ rfl ?_
    · exact results_cell_row3 rfl _ _ (w.heap.size + 1) 27 _ (0, 0) _ _ _ rfl rfl rfl (setRow_heap _ _ _ _ _ _ S1.out) Try.underlying27 rfl (by kernel_rfl)
    · rw [Hf.out.1, Hf.out.2.1, Hf.out.2.2]
      exact AnsH.zero (mk := mkA2 0 1) (by omega) HB1.out
  cases nk
  · have Hf := Lib.hid (HDef.out _ _ _ (HBad.out (HG2.out rfl)))
    have HN1 := Lib.hid (HN.out w1)
    go_wp2_with (first | (go_at_call 54; refine HN1.out.mono ?_; rintro e w' ⟨rfl, rfl⟩) | (refine wpList_store_row rfl 27 (.tmp 4) (.tmp 17) rfl (w.heap.size + 1) #[.slice none 0 0] rfl rfl 27 _ S1.out (infoHs _ _ _) rfl (oneH _ _ _) ?_))
    refine bodyPost_ret (v := .tuple #[.agg #[.slice none 0 0], .int .i64 0, .int .i64 1]) ?_ rfl ?_
    · exact results_cell_row3 rfl _ _ (w.heap.size + 1) 27 _ (0, 0) _ _ _ rfl rfl rfl (setRow_heap _ _ _ _ _ _ S1.out) Try.underlying27 rfl (by kernel_rfl)
    · rw [Hf.out.1, Hf.out.2.1, Hf.out.2.2]
      exact AnsH.zero (mk := mkA2 0 1) (by omega) HB1.out
  have HN1 := Lib.hid (HN.out w1)
  have Hway := Lib.hid (HWay.out (HGy.out rfl rfl))
  have HD1 := Lib.hid (HD.out w1 HB1.out)
  clear HBad HWay HG1 HG2 HGy HN HD
  go_wp2_with (first | (go_at_call 54; refine HN1.out.mono ?_; rintro e w' ⟨rfl, rfl⟩) | (refine wpList_load_row rfl 27 (.tmp 2) rfl _ rfl 27 _ (0, 0) _ R1.out Try.underlying27 rfl (by kernel_rfl) ?_))
  refine HD1.out.mono ?_
  rintro e w2 ⟨v2, rfl, ho, g⟩
  have O2 := Lib.hid ho
  obtain ⟨A2, c2, rfl⟩ := O2.out.op
  have HB2 := Lib.hid (HB1.out.trans (g.mono HB1.out.size))
  have B12 := Lib.hid g
  clear ho g HD1 HN1
  have HB3 : Hid (Below w.heap.size w (w2.alloc (.cells #[.slice A2 ss.length c2] 27))) := Lib.hid (HB2.out.alloc HB2.out.size _)
  have G3 : Hid (Below w2.heap.size w2 (w2.alloc (.cells #[.slice A2 ss.length c2] 27))) := Lib.hid ((Below.refl _ _).alloc (Nat.le_refl _) _)
  have Z2 : Hid (w1.heap.size ≤ w2.heap.size) := Lib.hid B12.out.size
  have R3 : Hid ((w2.alloc (.cells #[.slice A2 ss.length c2] 27)).heap[w.heap.size]? = some (.cells #[.slice A ss.length cap] 27 (0, 0))) := Lib.hid ((G3.out.block _ (by have := Z1.out; have := Z2.out; omega)).trans ((B12.out.block _ (by have := Z1.out; omega)).trans R1.out))
  have S3 : Hid ((w2.alloc (.cells #[.slice A2 ss.length c2] 27)).heap[w.heap.size + 1]? = some (.cells #[.slice none 0 0] 27 (0, 0))) := Lib.hid ((G3.out.block _ (by have := Z1.out; have := Z2.out; omega)).trans ((B12.out.block _ (by have := Z1.out; omega)).trans S1.out))
  have T3 : Hid ((w2.alloc (.cells #[.slice A2 ss.length c2] 27)).heap[w2.heap.size]? = some (.cells #[.slice A2 ss.length c2] 27 (0, 0))) := Lib.hid (heap_alloc_new w2 _)
  have O3 : Hid (OT (w2.alloc (.cells #[.slice A2 ss.length c2] 27)) w1.heap.size (.slice A2 ss.length c2) ss) := Lib.hid (own_bel O2.out G3.out)
  have I3 : Hid (∀ g, (Value.slice A2 ss.length c2).ownBlock = some g → w1.heap.size ≤ g ∧ g < w2.heap.size) := Lib.hid (own_wi O2.out)
  have Z3 : Hid (w2.heap.size < (w2.alloc (.cells #[.slice A2 ss.length c2] 27)).heap.size) := Lib.hid (by simp)
  have HE3 := Lib.hid (HE.out _ HB3.out)
  clear HE
  go_wp2_with (first | (refine wpList_load_row rfl 27 (.tmp 2) rfl _ rfl 27 _ (0, 0) _ R3.out Try.underlying27 rfl (by kernel_rfl) ?_) | (refine wpList_store_last rfl 27 (.tmp 7) (.tmp 19) rfl #[.slice A2 ss.length c2] _ 27 rfl rfl (infoHs _ _ _) rfl (oneH _ _ _) ?_))
  generalize (w2.alloc (.cells #[.slice A2 ss.length c2] 27)) = w3 at *
  generalize hb7 : w2.heap.size = b7 at *
  have Hb7 := Lib.hid hb7; clear hb7
  refine HE3.out.mono ?_
  rintro e w4 ⟨rfl, g⟩
  have HB4 := Lib.hid (HB3.out.trans (g.mono HB3.out.size))
  have R4 := Lib.hid ((g.block _ (by have := Z1.out; have := Z2.out; have := Z3.out; omega)).trans R3.out)
  have S4 := Lib.hid ((g.block _ (by have := Z1.out; have := Z2.out; have := Z3.out; omega)).trans S3.out)
  have T4 := Lib.hid ((g.block _ Z3.out).trans T3.out)
  have O4 : Hid (OT w4 w1.heap.size (.slice A2 ss.length c2) ss) := Lib.hid (own_bel O3.out g)
  clear g HE3
  rcases Hway.out with ⟨k, hk, hsl, hpt⟩ | ⟨hsl, h30, hpt⟩ | ⟨hsl, h30, hpt⟩
  · have Hf := Lib.hid (HDef.out _ _ _ hpt)
    clear hpt Hway HDef
    subst hsl
    rcases O4.out.sl with ⟨_, h2⟩ | ⟨g, cap', he, hg1, hg2, hnc, hcm⟩
    · rw [h2] at hk; simp at hk
    cases he
    have hu := O4.out.cell k hk
    have hfz := own_frozen O4.out k
    have HI := Lib.hid (I3.out g rfl)
    have q7 : w4.cell? ⟨b7, 0, none⟩ = some (.slice (some ⟨g, 0, none⟩) ss.length c2) := by rw [cell_of_row _ _ _ _ _ _ T4.out]; rfl
    have T5 : Hid ((w4.setCell ⟨g, k, none⟩ (.string nm)).heap[b7]? = some (.cells #[.slice (some ⟨g, 0, none⟩) ss.length c2] 27 (0, 0))) := Lib.hid ((heap_setCell_other _ ⟨g, k, none⟩ _ _ (by have := HI.out; have := Hb7.out; simp only; omega)).trans T4.out)
    have S5 : Hid ((w4.setCell ⟨g, k, none⟩ (.string nm)).heap[w.heap.size + 1]? = some (.cells #[.slice none 0 0] 27 (0, 0))) := Lib.hid ((heap_setCell_other _ ⟨g, k, none⟩ _ _ (by have := HI.out; have := Z1.out; simp only; omega)).trans S4.out)
    have O5 : Hid (OT (w4.setCell ⟨g, k, none⟩ (.string nm)) w1.heap.size (.slice (some ⟨g, 0, none⟩) ss.length c2) (ss.set k nm)) := Lib.hid (O4.out.set k nm hk)
    have B5 : Hid (Below w.heap.size w (w4.setCell ⟨g, k, none⟩ (.string nm))) := Lib.hid (HB4.out.setCell (p := ⟨g, k, none⟩) (by have := HI.out; have := Z1.out; simp only; omega) _)
    have d1 : decide ((k : Int) < (ss.length : Int)) = true := decide_eq_true (by omega)
    clear hnc hcm hg1 hg2
    generalize ss[k] = old at *
    go_wp2_with (first | (refine wpList_load_row rfl 27 (.tmp 7) rfl _ rfl 27 _ (0, 0) _ T5.out Try.underlying27 rfl (by kernel_rfl) ?_) | (refine wpList_store_row rfl 27 (.tmp 4) (.tmp 29) rfl (w.heap.size + 1) #[.slice (some ⟨g, 0, none⟩) ss.length c2] rfl rfl 27 _ S5.out (infoHs _ _ _) rfl (oneH _ _ _) ?_))
    refine bodyPost_ret (v := .tuple #[.agg #[.slice (some ⟨g, 0, none⟩) ss.length c2], .int .i64 (k : Int), .int .i64 0]) ?_ rfl ?_
    · exact results_cell_row3 rfl _ _ (w.heap.size + 1) 27 _ (0, 0) _ _ _ rfl rfl rfl (setRow_heap _ _ _ _ _ _ S5.out) Try.underlying27 rfl (by kernel_rfl)
    · rw [Hf.out.1, Hf.out.2.1, Hf.out.2.2]
      exact AnsH.end (mk := mkA2 (k : Int) 0) O5.out (by have := Z1.out; omega) (by omega) B5.out
  · have Hf := Lib.hid (HDef.out _ _ _ hpt)
    clear hpt Hway HDef
    subst hsl
    have q2 : w4.cell? ⟨w.heap.size, 0, none⟩ = some (.slice A ss.length cap) := by rw [cell_of_row _ _ _ _ _ _ R4.out]; rfl
    have q7 : w4.cell? ⟨b7, 0, none⟩ = some (.slice A2 ss.length c2) := by rw [cell_of_row _ _ _ _ _ _ T4.out]; rfl
    have q8 : (w4.alloc (.cells #[.string nm] 9)).cell? ⟨b7, 0, none⟩ = some (.slice A2 ss.length c2) := by rw [World.cell?_alloc_lt w4 _ _ (by have := Z3.out; have := HB4.out.size; have := T4.out; simp only; exact World.block_lt_of_cell? w4 ⟨b7, 0, none⟩ q7)]; exact q7
    have L7 : Hid (b7 < w4.heap.size) := Lib.hid (World.block_lt_of_cell? w4 ⟨b7, 0, none⟩ q7)
    have d1 : decide ((30 : Int) ≤ (ss.length : Int)) = false := decide_eq_false (by omega)
    have HL := Lib.hid (And.intro hm (And.intro h30 hl))
    have I4 : Hid (∀ g, (Value.slice A2 ss.length c2).ownBlock = some g → g < b7) := Lib.hid (fun g hg => by have := I3.out g hg; have := Hb7.out; omega)
    have Z7 : Hid (w.heap.size + 2 ≤ b7) := Lib.hid (by have := Z1.out; have := Z2.out; have := Hb7.out; omega)
    go_wp2_with ((at_builtin; refine wpList_pushT (W := w4) (v := .slice A2 ss.length c2) (lo := w1.heap.size) (xs := ss) (x := nm) rfl (.tmp 37) (.tmp 39) rfl rfl rfl rfl O4.out (by have := Z2.out; have := L7.out; have := Hb7.out; omega) (by have := HL.out; omega) ?_; intro g cap' w5 ho hg hgl; have O5 : Hid (OT w5 w1.heap.size (.slice (some ⟨g, 0, none⟩) (ss.length + 1) cap') (ss ++ [nm])) := Lib.hid (by have h9 := ho; rw [List.length_append, List.length_singleton] at h9; exact h9); have G5 := Lib.hid hg; clear ho hg q2 q7 q8 hgl; have K5 : Hid (∀ q, q < w4.heap.size → (∀ z, (Value.slice A2 ss.length c2).ownBlock = some z → q ≠ z) → w5.heap[q]? = w4.heap[q]?) := Lib.hid (fun q hq hne => (G5.out.block q (Nat.lt_of_lt_of_le hq ((Below.refl _ w4).alloc (Nat.le_refl _) _).size) (fun e => hne q e.symm rfl)).trans (((Below.refl _ w4).alloc (Nat.le_refl _) _).block q hq)); have T5 : Hid (w5.heap[b7]? = some (.cells #[.slice A2 ss.length c2] 27 (0, 0))) := Lib.hid ((K5.out b7 L7.out (fun z hz => by have := I4.out z hz; omega)).trans T4.out); have B5 : Hid (Below w.heap.size w w5) := Lib.hid (pushT_bel HB4.out O4.out (by have := Z1.out; omega) HB4.out.size G5.out); have S5 : Hid (w5.heap[w.heap.size + 1]? = some (.cells #[.slice none 0 0] 27 (0, 0))) := Lib.hid ((K5.out _ (by have := L7.out; have := Z7.out; omega) (fun z hz => by have := I3.out z hz; have := Z1.out; omega)).trans S4.out); have R5 : Hid (w5.heap[w.heap.size]? = some (.cells #[.slice A ss.length cap] 27 (0, 0))) := Lib.hid ((K5.out _ (by have := L7.out; have := Z7.out; omega) (fun z hz => by have := I3.out z hz; have := Z1.out; omega)).trans R4.out); have q9 : w5.cell? ⟨b7, 0, none⟩ = some (.slice A2 ss.length c2) := (by rw [cell_of_row _ _ _ _ _ _ T5.out]; rfl); have f9 : w5.frozen? ⟨b7, 0, none⟩ = false := frozen_of_row _ _ _ _ _ T5.out))
    clear q9 f9
    have T6 : Hid ((w5.setCell ⟨b7, 0, none⟩ (.slice (some ⟨g, 0, none⟩) (ss.length + 1) cap')).heap[b7]? = some (.cells #[.slice (some ⟨g, 0, none⟩) (ss.length + 1) cap'] 27 (0, 0))) := Lib.hid (by rw [heap_setCell_same w5 b7 0 _ _ _ T5.out]; rfl)
    have S6 : Hid ((w5.setCell ⟨b7, 0, none⟩ (.slice (some ⟨g, 0, none⟩) (ss.length + 1) cap')).heap[w.heap.size + 1]? = some (.cells #[.slice none 0 0] 27 (0, 0))) := Lib.hid ((heap_setCell_other _ ⟨b7, 0, none⟩ _ _ (by have := Z7.out; simp only; omega)).trans S5.out)
    have R6 : Hid ((w5.setCell ⟨b7, 0, none⟩ (.slice (some ⟨g, 0, none⟩) (ss.length + 1) cap')).heap[w.heap.size]? = some (.cells #[.slice A ss.length cap] 27 (0, 0))) := Lib.hid ((heap_setCell_other _ ⟨b7, 0, none⟩ _ _ (by have := Z7.out; simp only; omega)).trans R5.out)
    have N7 : Hid (g ≠ b7) := Lib.hid (fun e => by
      subst e
      rcases O5.out.2 with ⟨h0, _⟩ | ⟨g', cap'', cur, he, _, hgg, _⟩
      · cases h0
      · have e1 : some (⟨g, 0, none⟩ : Addr) = some ⟨g', 0, none⟩ := (Value.slice.inj he).1
        cases e1
        rw [T5.out] at hgg
        cases hgg)
    have O6 : Hid (OT (w5.setCell ⟨b7, 0, none⟩ (.slice (some ⟨g, 0, none⟩) (ss.length + 1) cap')) w1.heap.size (.slice (some ⟨g, 0, none⟩) (ss.length + 1) cap') (ss ++ [nm])) := Lib.hid (own_same O5.out fun q hq => heap_setCell_other _ ⟨b7, 0, none⟩ _ _ (by cases hq; exact N7.out))
    have B6 : Hid (Below w.heap.size w (w5.setCell ⟨b7, 0, none⟩ (.slice (some ⟨g, 0, none⟩) (ss.length + 1) cap'))) := Lib.hid (B5.out.setCell (p := ⟨b7, 0, none⟩) (by have := Z7.out; simp only; omega) _)
    generalize (w5.setCell ⟨b7, 0, none⟩ (.slice (some ⟨g, 0, none⟩) (ss.length + 1) cap')) = w6 at *
    have HS0 : Hid (∀ W : World, W.heap[b7]? = some (.cells #[.slice (some ⟨g, 0, none⟩) (ss.length + 1) cap'] 27 (0, 0)) → W.heap[w.heap.size]? = some (.cells #[.slice A ss.length cap] 27 (0, 0)) → (W.cell? ⟨b7, 0, none⟩ = some (.slice (some ⟨g, 0, none⟩) (ss.length + 1) cap') ∧ W.cell? ⟨w.heap.size, 0, none⟩ = some (.slice A ss.length cap))) := Lib.hid (fun W h1 h2 => ⟨by rw [cell_of_row W _ _ _ _ _ h1]; rfl, by rw [cell_of_row W _ _ _ _ _ h2]; rfl⟩)
    have HS1 := Lib.hid (HS0.out w6.drew T6.out R6.out)
    have S6d : Hid (w6.drew.heap[w.heap.size + 1]? = some (.cells #[.slice none 0 0] 27 (0, 0))) := S6
    have HS2 := Lib.hid (HS0.out (w6.drew.setRow (w.heap.size + 1) #[.slice (some ⟨g, 0, none⟩) (ss.length + 1) cap']) ((setRow_other _ _ _ _ (by have := Z7.out; omega)).trans T6.out) ((setRow_other _ _ _ _ (by omega)).trans R6.out))
    refine wp_region_held_drew (S := fun W => (W.cell? ⟨b7, 0, none⟩ = some (.slice (some ⟨g, 0, none⟩) (ss.length + 1) cap') ∧ W.cell? ⟨w.heap.size, 0, none⟩ = some (.slice A ss.length cap))) (by kernel_rfl) (HS1.out) (fun hHeld => ?_)
    refine held_yes 0 (some 42) rfl rfl (by kernel_rfl) (by kernel_rfl) (by kernel_rfl) (fun _ _ _ h => h) (by kernel_rfl) hHeld (v := ?_) (fun wz hSw => ?_) ?_
    rotate_left 1
    · (try dsimp only at hSw); go_simp; (try with_reducible rfl)
    try simp only [Act.put, List.setIfInBounds_toArray, List.set_cons_zero, List.set_cons_succ]
    refine held_yes 1 (some 43) rfl rfl (by kernel_rfl) (by kernel_rfl) (by kernel_rfl) (fun _ _ _ h => h) (by kernel_rfl) hHeld (v := ?_) (fun wz hSw => ?_) ?_
    rotate_left 1
    · (try dsimp only at hSw); go_simp; (try with_reducible rfl)
    try simp only [Act.put, List.setIfInBounds_toArray, List.set_cons_zero, List.set_cons_succ]
    refine held_yes 2 (some 44) rfl rfl (by kernel_rfl) (by kernel_rfl) (by kernel_rfl) (fun _ _ _ h => h) (by kernel_rfl) hHeld (v := ?_) (fun wz hSw => ?_) ?_
    rotate_left 1
    · (try dsimp only at hSw); go_simp; (try with_reducible rfl)
    try simp only [Act.put, List.setIfInBounds_toArray, List.set_cons_zero, List.set_cons_succ]
    refine held_yes 3 (some 45) rfl rfl (by kernel_rfl) (by kernel_rfl) (by kernel_rfl) (fun _ _ _ h => h) (by kernel_rfl) hHeld (v := ?_) (fun wz hSw => ?_) ?_
    rotate_left 1
    · (try dsimp only at hSw); go_simp; (try with_reducible rfl)
    try simp only [Act.put, List.setIfInBounds_toArray, List.set_cons_zero, List.set_cons_succ]
    refine wpAnyH_ready (rs := [4]) (by kernel_rfl) (by simp) ?_
    refine AllReadyH.cons rfl (fun K hK => ?_) AllReadyH.nil
    refine wp_store_rowH none (by kernel_rfl) rfl 27 (.tmp 4) (.tmp 42) rfl (w.heap.size + 1) #[.slice (some ⟨g, 0, none⟩) (ss.length + 1) cap'] rfl rfl 27 _ S6d.out (infoHs _ _ _) rfl (oneH _ _ _) ?_
    refine hK.out _ _ (HS2.out) (fun hHeld => ?_)
    clear hK K
    try simp only [Act.put]
    refine held_yes 5 (some 5) rfl rfl (by kernel_rfl) (by kernel_rfl) (by kernel_rfl) (fun _ _ _ h => h) (by kernel_rfl) hHeld (v := ?_) (fun wz hSw => ?_) ?_
    rotate_left 1
    · (try dsimp only at hSw); go_simp; (try with_reducible rfl)
    try simp only [Act.put, List.setIfInBounds_toArray, List.set_cons_zero, List.set_cons_succ]
    refine held_yes 6 (some 6) rfl rfl (by kernel_rfl) (by kernel_rfl) (by kernel_rfl) (fun _ _ _ h => h) (by kernel_rfl) hHeld (v := ?_) (fun wz hSw => ?_) ?_
    rotate_left 1
    · (try dsimp only at hSw); go_simp; (try with_reducible rfl)
    try simp only [Act.put, List.setIfInBounds_toArray, List.set_cons_zero, List.set_cons_succ]
    refine wpAnyH_done (by kernel_rfl) ?_ _
    try simp only [Exit.then]
    have S8 : Hid ((w6.drew.setRow (w.heap.size + 1) #[.slice (some ⟨g, 0, none⟩) (ss.length + 1) cap']).heap[w.heap.size + 1]? = some (.cells #[.slice (some ⟨g, 0, none⟩) (ss.length + 1) cap'] 27 (0, 0))) := Lib.hid (setRow_heap _ _ _ _ _ _ S6d.out)
    have F8 : Hid (AnsH (mkA2 (ss.length : Int) 0) (ss ++ [nm]) w (.returned (.tuple #[.agg #[.slice (some ⟨g, 0, none⟩) (ss.length + 1) cap'], .int .i64 (ss.length : Int), .int .i64 0])) (w6.drew.setRow (w.heap.size + 1) #[.slice (some ⟨g, 0, none⟩) (ss.length + 1) cap'])) := Lib.hid (AnsH.end (mk := mkA2 (ss.length : Int) 0) (w3 := w6.drew) (lo := w1.heap.size) O6.out (by have := Z1.out; omega) (by omega) B6.out.drew)
    generalize (w6.drew.setRow (w.heap.size + 1) #[.slice (some ⟨g, 0, none⟩) (ss.length + 1) cap']) = wd at *
    go_wp2_with fail
    refine bodyPost_ret (v := .tuple #[.agg #[.slice (some ⟨g, 0, none⟩) (ss.length + 1) cap'], .int .i64 (ss.length : Int), .int .i64 0]) ?_ rfl ?_
    · exact results_cell_row3 rfl _ _ (w.heap.size + 1) 27 _ (0, 0) _ _ _ rfl rfl rfl S8.out Try.underlying27 rfl (by kernel_rfl)
    · rw [Hf.out.1, Hf.out.2.1, Hf.out.2.2]
      exact F8.out
  · have Hf := Lib.hid (HDef.out _ _ _ hpt)
    clear hpt Hway HDef
    subst hsl
    have q2 : w4.cell? ⟨w.heap.size, 0, none⟩ = some (.slice A ss.length cap) := by rw [cell_of_row _ _ _ _ _ _ R4.out]; rfl
    have d1 : decide ((30 : Int) ≤ (ss.length : Int)) = true := decide_eq_true (by omega)
    go_wp2_with (refine wpList_store_row rfl 27 (.tmp 4) (.tmp 35) rfl (w.heap.size + 1) #[.slice none 0 0] rfl rfl 27 _ S4.out (infoHs _ _ _) rfl (oneH _ _ _) ?_)
    refine bodyPost_ret (v := .tuple #[.agg #[.slice none 0 0], .int .i64 0, .int .i64 5]) ?_ rfl ?_
    · exact results_cell_row3 rfl _ _ (w.heap.size + 1) 27 _ (0, 0) _ _ _ rfl rfl rfl (setRow_heap _ _ _ _ _ _ S4.out) Try.underlying27 rfl (by kernel_rfl)
    · rw [Hf.out.1, Hf.out.2.1, Hf.out.2.2]
      exact AnsH.zero (mk := mkA2 0 5) (by omega) HB4.out
end Go.Proofs.Ytabnglimchjgpaa
