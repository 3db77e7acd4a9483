/- The program's drive in memory; the contract of its method disk. No statement is proved here. -/
import Derived.Test.YtlickjmdlooapaaDkM
import Derived.Lib.SlBytesRow
namespace Go.Proofs.Ytlickjmdlooapaa
open Go.RowKit
set_option linter.unusedVariables false
/-- A block of sectors with these contents. -/
def Sec (w : World) (S : Nat) (ss : List ByteArray) : Prop := ∃ C : Array Value, w.heap[S]? = some (.cells C 251 (0, 0)) ∧ C.size = ss.length * 64 ∧
  ∀ i (hi : i < ss.length), ss[i].size = 64 ∧ ∀ j (hj : j < ss[i].size), C[i * 64 + j]? = some (.int .u8 (ss[i][j].toNat : Int))
theorem Sec.same {w w' : World} {S : Nat} {ss : List ByteArray} (h : Sec w S ss) (he : w'.heap[S]? = w.heap[S]?) : Sec w' S ss := by
  obtain ⟨C, h1, h2⟩ := h; exact ⟨C, he.trans h1, h2⟩
theorem Sec.lt {w : World} {S : Nat} {ss : List ByteArray} (h : Sec w S ss) : S < w.heap.size := by
  obtain ⟨C, h1, -⟩ := h; exact (Array.getElem?_eq_some_iff.1 h1).1
theorem Sec.keep {w w' : World} {S : Nat} {ss : List ByteArray} (h : Sec w S ss) (hb : Below w.heap.size w w') : Sec w' S ss := h.same (hb.block _ h.lt)
theorem Sec.bytes {w : World} {S : Nat} {ss : List ByteArray} (h : Sec w S ss) (i : Nat) (hi : i < ss.length) : Lib.Bytes w S (i * 64) ss[i] := by
  obtain ⟨C, h1, h2, h3⟩ := h
  intro j hj
  rw [cell_of_row _ _ _ _ _ _ h1]
  exact (h3 i hi).2 j hj
theorem Sec.len {w : World} {S : Nat} {ss : List ByteArray} (h : Sec w S ss) (i : Nat) (hi : i < ss.length) : ss[i].size = 64 := by
  obtain ⟨C, h1, h2, h3⟩ := h; exact (h3 i hi).1
/-- A drive in a block. -/
def VB (w : World) (g : Nat) (v1 v2 : Value) (fz : Int) (off : Bool) : Prop := w.heap[g]? = some (.cells #[v1, v2, .int .i64 fz, .bool off] 202 (0, 0))
theorem VB.c0 {w : World} {g : Nat} {v1 v2 : Value} {fz : Int} {off : Bool} (h : VB w g v1 v2 fz off) : w.cell? ⟨g, 0, none⟩ = some v1 := by rw [cell_of_row _ _ _ _ _ _ h]; rfl
theorem VB.c1 {w : World} {g : Nat} {v1 v2 : Value} {fz : Int} {off : Bool} (h : VB w g v1 v2 fz off) : w.cell? ⟨g, 1, none⟩ = some v2 := by rw [cell_of_row _ _ _ _ _ _ h]; rfl
theorem VB.c2 {w : World} {g : Nat} {v1 v2 : Value} {fz : Int} {off : Bool} (h : VB w g v1 v2 fz off) : w.cell? ⟨g, 2, none⟩ = some (.int .i64 fz) := by rw [cell_of_row _ _ _ _ _ _ h]; rfl
theorem VB.c3 {w : World} {g : Nat} {v1 v2 : Value} {fz : Int} {off : Bool} (h : VB w g v1 v2 fz off) : w.cell? ⟨g, 3, none⟩ = some (.bool off) := by rw [cell_of_row _ _ _ _ _ _ h]; rfl
theorem VB.f {w : World} {g : Nat} {v1 v2 : Value} {fz : Int} {off : Bool} (h : VB w g v1 v2 fz off) (j : Nat) : w.frozen? ⟨g, j, none⟩ = false := frozen_of_row _ _ _ _ _ h
theorem VB.lt {w : World} {g : Nat} {v1 v2 : Value} {fz : Int} {off : Bool} (h : VB w g v1 v2 fz off) : g < w.heap.size := (Array.getElem?_eq_some_iff.1 h).1
theorem VB.keep {w w' : World} {g : Nat} {v1 v2 : Value} {fz : Int} {off : Bool} (h : VB w g v1 v2 fz off) (hb : Below w.heap.size w w') : VB w' g v1 v2 fz off := (hb.block g h.lt).trans h
/-- A drive: its block, that of its sectors, its own pending writes. -/
structure Drv (w : World) (lo D S : Nat) (v2 : Value) (ss : List ByteArray) (ps : List Pt) (fz : Int) (off : Bool) : Prop where
  box : VB w D (.slice (some ⟨S, 0, none⟩) ss.length ss.length) v2 fz off
  sec : Sec w S ss
  pend : OU w lo v2 ps
  loD : lo ≤ D
  loS : lo ≤ S
  hn : ss.length ≤ 256
theorem Drv.keep {w w' : World} {lo D S : Nat} {v2 : Value} {ss : List ByteArray} {ps : List Pt} {fz : Int} {off : Bool} (h : Drv w lo D S v2 ss ps fz off) (hb : Below w.heap.size w w') : Drv w' lo D S v2 ss ps fz off :=
  ⟨h.box.keep hb, h.sec.keep hb, own_bel h.pend hb, h.loD, h.loS, h.hn⟩
theorem conv_sec {w : World} {S : Nat} {ss : List ByteArray} (h : Sec w S ss) (i : Nat) (hi : i < ss.length) : (convert 119 9 (.slice (some ⟨S, i * 64, none⟩) 64 64)).run Try.prog w = .ok (.string ss[i]) w := by
  have := Lib.run_convert_whole (P := Try.prog) w 119 5 9 Try.underlying119 Try.underlying5 Try.underlying9 S (i * 64) ss[i] (h.bytes i hi) 64
  rw [h.len i hi] at this
  exact this
theorem OU.slv {w : World} {lo : Nat} {v : Value} {ps : List Pt} (h : OU w lo v ps) : ∃ A m c, v = .slice A m c := by
  rcases OU.sl h with ⟨rfl, _⟩ | ⟨g, cap, rfl, _⟩
  · exact ⟨_, _, _, rfl⟩
  · exact ⟨_, _, _, rfl⟩
set_option maxHeartbeats 1000000 in
set_option maxRecDepth 100000 in
theorem disk_any {w : World} {lo D S : Nat} {v2 : Value} {ss : List ByteArray} {ps : List Pt} {fz : Int} {off : Bool} (hd : Drv w lo D S v2 ss ps fz off) :
    Calls Try.prog 149 #[.pointer (some ⟨D, 0, none⟩)] w fun e w' => ∃ v1, e = .returned (.agg #[v1, v2, .int .i64 fz, .bool off]) ∧ OT w' w.heap.size v1 ss ∧ Below w.heap.size w w' := by
  obtain ⟨A2, m2, c2, rfl⟩ := OU.slv hd.pend
  have Hd := Lib.hid hd
  have hn := hd.hn
  obtain ⟨C, hC, hmk⟩ := make_all (P := Try.prog) 24 9 ss.length 1 16 Try.underlying24 Try.infoT (by omega) (by omega)
  have HC := Lib.hid hC
  clear hC
  have q0 := hd.box.c0
  have HW0 : Hid (Below w.heap.size w (w.alloc (.cells #[.slice none 0 0, .slice none 0 0, .int .i64 0, .bool false] 38))) := Lib.hid ((Below.refl _ w).alloc (Nat.le_refl _) _)
  have q1 : (w.alloc (.cells #[.slice none 0 0, .slice none 0 0, .int .i64 0, .bool false] 38)).cell? ⟨D, 0, none⟩ = some (.slice (some ⟨S, 0, none⟩) ss.length ss.length) := (hd.box.keep HW0.out).c0
  clear hd
  go_enter Try.func149, Try.ntmps149
  go_wp2
  clear q0 q1
  have HR0 : Hid (((w.alloc (.cells #[.slice none 0 0, .slice none 0 0, .int .i64 0, .bool false] 38)).alloc (.cells C 9)).heap[w.heap.size + 1]? = some (.cells C 9 (0, 0))) := Lib.hid (heap_alloc2_new w _ _)
  have HQ0 : Hid (((w.alloc (.cells #[.slice none 0 0, .slice none 0 0, .int .i64 0, .bool false] 38)).alloc (.cells C 9)).heap[w.heap.size]? = some (.cells #[.slice none 0 0, .slice none 0 0, .int .i64 0, .bool false] 38 (0, 0))) := Lib.hid (heap_alloc2_old w _ _)
  have HB0 : Hid (Below w.heap.size w ((w.alloc (.cells #[.slice none 0 0, .slice none 0 0, .int .i64 0, .bool false] 38)).alloc (.cells C 9))) := Lib.hid (((Below.refl _ w).alloc (Nat.le_refl _) _).alloc (by simp) _)
  have HZ0 : Hid (((w.alloc (.cells #[.slice none 0 0, .slice none 0 0, .int .i64 0, .bool false] 38)).alloc (.cells C 9)).heap.size = w.heap.size + 2) := Lib.hid (by simp)
  generalize ((w.alloc (.cells #[.slice none 0 0, .slice none 0 0, .int .i64 0, .bool false] 38)).alloc (.cells C 9)) = W0 at *
  go_loopw [4, 13] (fun s i wr => ∃ k : Nat, ∃ C' : Array Value, k ≤ ss.length ∧ i = .int .i64 k ∧ wr.heap[w.heap.size + 1]? = some (.cells C' 9 (0, 0)) ∧ C'.size = ss.length ∧ (∀ j (hj : j < ss.length), j < k → C'[j]? = some (.string ss[j])) ∧ wr.heap[w.heap.size]? = some (.cells #[.slice none 0 0, .slice none 0 0, .int .i64 0, .bool false] 38 (0, 0)) ∧ wr.heap.size = w.heap.size + 2 ∧ Below w.heap.size w wr) (fun _ i _ => ss.length - (intOf i).toNat)
  case atStart => exact ⟨0, C, Nat.zero_le _, rfl, HR0.out, by rw [HC.out, Nat.mul_one], fun j hj h => absurd h (by omega), HQ0.out, HZ0.out, HB0.out⟩
  case round =>
    obtain ⟨k, C', hk, rfl, hrow, hsz, hall, hq, hws, hbel⟩ := hrel
    have Hall := Lib.hid hall; have Hsz := Lib.hid hsz
    have Hws := Lib.hid hws; have Hq := Lib.hid hq; have Hbel := Lib.hid hbel; have Hrow := Lib.hid hrow
    have HDr := Lib.hid (Hd.out.keep hbel)
    clear hall hsz hq
    by_cases hlt : k < ss.length
    · have q0 := HDr.out.box.c0
      have hcv := conv_sec HDr.out.sec k hlt
      obtain ⟨u, hu0⟩ : ∃ u, C'[k]? = some u := ⟨_, Array.getElem?_eq_getElem (by rw [Hsz.out]; exact hlt)⟩
      have hu : wr.cell? ⟨w.heap.size + 1, k, none⟩ = some u := by rw [cell_of_row _ _ _ _ _ _ hrow]; exact hu0
      have hfz : wr.frozen? ⟨w.heap.size + 1, k, none⟩ = false := frozen_of_row _ _ _ _ _ hrow
      have Hnew : Hid ((wr.setCell ⟨w.heap.size + 1, k, none⟩ (.string ss[k])).heap[w.heap.size + 1]? = some (.cells (C'.setIfInBounds k (.string ss[k])) 9 (0, 0))) := Lib.hid (heap_setCell_same _ _ _ _ _ _ hrow)
      have Hq2 : Hid ((wr.setCell ⟨w.heap.size + 1, k, none⟩ (.string ss[k])).heap[w.heap.size]? = some (.cells #[.slice none 0 0, .slice none 0 0, .int .i64 0, .bool false] 38 (0, 0))) := Lib.hid ((heap_setCell_other _ ⟨w.heap.size + 1, k, none⟩ _ _ (show w.heap.size ≠ w.heap.size + 1 by omega)).trans Hq.out)
      have Hb2 : Hid (Below w.heap.size w (wr.setCell ⟨w.heap.size + 1, k, none⟩ (.string ss[k]))) := Lib.hid (hbel.setCell (p := ⟨w.heap.size + 1, k, none⟩) (by simp) _)
      have Hall2 : Hid (∀ j (hj : j < ss.length), j < k + 1 → (C'.setIfInBounds k (.string ss[k]))[j]? = some (.string ss[j])) := Lib.hid (fun j hj hjk => by
        rw [Array.getElem?_setIfInBounds]
        by_cases e : k = j
        · subst e; simp [Hsz.out, hlt]
        · rw [if_neg e]; exact Hall.out j hj (by omega))
      clear hu0 hrow hbel hws
      generalize ss[k] = s at *
      go_wp2
      go_roundw
      case rel => exact ⟨k + 1, _, by omega, by go_num, Hnew.out, by simp [Hsz.out], Hall2.out, Hq2.out, by simp [World.setCell, Hws.out], Hb2.out⟩
      case measure => simp [intOf]; omega
    · have HO : Hid (OT wr w.heap.size (.slice (some ⟨w.heap.size + 1, 0, none⟩) ss.length ss.length) ss) := Lib.hid (by
        refine OT.of_row ?_ (by omega) (by unfold maxLen; omega)
        unfold RowT
        rw [hrow]
        congr 2
        apply Array.ext (by rw [cellsT_size, Hsz.out])
        intro i h1 h2
        rw [cellsT_size] at h2
        have e1 := Hall.out i h2 (by omega)
        have e2 := cellsT_at ss i h2
        rw [Array.getElem?_eq_getElem h1] at e1
        rw [Array.getElem?_eq_getElem (by rw [cellsT_size]; exact h2)] at e2
        rw [← Option.some.inj e1] at e2
        exact (Option.some.inj e2).symm)
      have Hi9 : Hid ((Try.prog.info? 38).map (·.size) = some (#[.slice (some ⟨w.heap.size + 1, 0, none⟩) ss.length ss.length, .slice A2 m2 c2, .int .i64 fz, .bool off] : Array Value).size) := Lib.hid (by kernel_rfl)
      have H19 : Hid ((#[.slice (some ⟨w.heap.size + 1, 0, none⟩) ss.length ss.length, .slice A2 m2 c2, .int .i64 fz, .bool off] : Array Value).all (·.oneCell') = true) := Lib.hid (by simp [Value.oneCell'])
      have q1 := HDr.out.box.c1
      have q2 := HDr.out.box.c2
      have q3 := HDr.out.box.c3
      have Hgo : Hid (wr.drew.heap[w.heap.size]? = some (.cells #[.slice none 0 0, .slice none 0 0, .int .i64 0, .bool false] 38 (0, 0)) ∧ OT wr.drew w.heap.size (.slice (some ⟨w.heap.size + 1, 0, none⟩) ss.length ss.length) ss ∧ Below w.heap.size w wr.drew) := Lib.hid ⟨Hq.out, HO.out, Hbel.out.drew⟩
      clear hrow hbel hws
      go_wp2
      refine wp_region_still_tail 14 (by kernel_rfl) (by kernel_rfl) ?_
      simp only [List.take_succ_cons, List.take_zero, List.drop_succ_cons, List.drop_zero]
      repeat still_step
      refine wpStill_nil ?_
      clear q1 q2 q3
      change wpList _ _ _ _ _ wr.drew
      generalize wr.drew = wd at *
      go_wp2_with (refine wpList_store_row rfl 38 (.tmp 2) (.tmp 41) rfl w.heap.size #[.slice (some ⟨w.heap.size + 1, 0, none⟩) ss.length ss.length, .slice A2 m2 c2, .int .i64 fz, .bool off] rfl rfl 38 #[.slice none 0 0, .slice none 0 0, .int .i64 0, .bool false] Hgo.out.1 Hi9.out rfl H19.out ?_)
      refine bodyPost_ret (v := .agg #[.slice (some ⟨w.heap.size + 1, 0, none⟩) ss.length ss.length, .slice A2 m2 c2, .int .i64 fz, .bool off]) ?_ rfl ?_
      · exact results_cell_row rfl _ _ w.heap.size 38 _ (0, 0) _ rfl (setRow_heap _ _ _ _ _ _ Hgo.out.1) Try.underlying38 rfl (by kernel_rfl)
      · exact ⟨_, rfl, own_same Hgo.out.2.1 fun q hq => setRow_other _ _ q _ (by simp only [Value.ownBlock, Option.some.injEq] at hq; omega), below_setRow Hgo.out.2.2 (Nat.le_refl _) _⟩
end Go.Proofs.Ytlickjmdlooapaa
