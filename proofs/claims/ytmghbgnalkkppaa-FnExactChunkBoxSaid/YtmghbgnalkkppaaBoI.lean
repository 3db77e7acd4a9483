/- The contract of the program's ChunkBox. No statement is proved here. -/
import Derived.Test.YtmghbgnalkkppaaLoP
namespace Go.Proofs.Ytmghbgnalkkppaa
open Go.RowKit
set_option linter.unusedVariables false
theorem hasE_of {ds cs : List Int} {key : Int} (hk : ckOk ds cs = true) : hasE ds cs key = decide (key ∈ kys (grds ds cs)) := by simp [hasE, hk]
theorem box_info (a b : Value) : (Try.prog.info? 32).map (·.size) = some (#[a, b] : Array Value).size := by kernel_rfl
theorem lowF_bd {cs : List Int} {a b c : Int} (hx : ∀ y ∈ [a, b, c], 0 ≤ y ∧ y < 16) {k : Nat} (hk : k < cs.length) (hc : 1 ≤ cs[k] ∧ cs[k] ≤ 40) : 0 ≤ lowF cs [a, b, c] k ∧ lowF cs [a, b, c] k ≤ 640 := by
  unfold lowF
  rw [getD_at _ _ hk]
  have hy : 0 ≤ [a, b, c].getD (3 - cs.length + k) 0 ∧ [a, b, c].getD (3 - cs.length + k) 0 ≤ 16 := by
    rcases Nat.lt_or_ge (3 - cs.length + k) 3 with h | h
    · have := hx _ (List.getElem_mem (l := [a, b, c]) (n := 3 - cs.length + k) h)
      rw [getD_at [a, b, c] _ h]
      omega
    · rw [List.getD_eq_getElem?_getD, List.getElem?_eq_none (by simpa using h)]
      decide
  generalize [a, b, c].getD (3 - cs.length + k) 0 = y at *
  generalize cs[k] = z at *
  exact ⟨Int.mul_nonneg hy.1 (by omega), by have := Int.mul_le_mul (a := y) (b := z) (c := 16) (d := 40) (by omega) (by omega) (by omega) (by omega); omega⟩
/-- One number more in the box's second list. -/
theorem bo_push {w5 wr w4 : World} {lv v nv : Value} {L : List Int} {x : Int} {g4 n4 c4 : Nat} (hb : wr.heap[w5.heap.size]? = some (.cells #[lv, v] 32 (0, 0))) (ho : OI wr (w5.heap.size + 1) v L) (hbel : Below w5.heap.size w5 wr) (hnv : nv = .slice (some ⟨g4, 0, none⟩) n4 c4)
    (ho4 : OI w4 (w5.heap.size + 1) nv (L ++ [x])) (hg4 : (wr.drew.alloc (.cells #[.int .i64 x] 2)).grownBy w4 v.ownBlock) :
    (w4.cell? ⟨w5.heap.size, 1, none⟩ = some v ∧ w4.frozen? ⟨w5.heap.size, 1, none⟩ = false) ∧ (w4.setCell ⟨w5.heap.size, 1, none⟩ nv).heap[w5.heap.size]? = some (.cells #[lv, nv] 32 (0, 0)) ∧ OI (w4.setCell ⟨w5.heap.size, 1, none⟩ nv) (w5.heap.size + 1) nv (L ++ [x]) ∧ Below w5.heap.size w5 (w4.setCell ⟨w5.heap.size, 1, none⟩ nv) := by
  have hbl := (Array.getElem?_eq_some_iff.1 hb).1
  have hb4 : w4.heap[w5.heap.size]? = some (.cells #[lv, v] 32 (0, 0)) :=
    (hg4.block _ (by simp; omega) (fun e => by have := (ho.wi _ e.symm).1; omega)).trans (((((Below.refl wr.heap.size wr).drew).alloc (Nat.le_refl _) _).block _ hbl).trans hb)
  refine ⟨⟨by rw [cell_of_row _ _ _ _ _ _ hb4]; rfl, frozen_of_row _ _ _ _ _ hb4⟩, ?_, ?_, ?_⟩
  · have h := heap_setCell_same w4 w5.heap.size 1 _ _ nv hb4
    exact h
  · refine ho4.same fun g hgv => ?_
    have := (ho4.wi g hgv).1
    exact heap_setCell_other _ ⟨w5.heap.size, 1, none⟩ _ _ (show g ≠ w5.heap.size by omega)
  · exact (pushI_bel (W := wr.drew) (Below.drew hbel) ho (Nat.le_succ _) (Nat.le_of_lt hbl) hg4).setCell (p := ⟨w5.heap.size, 1, none⟩) (Nat.le_refl _) _
set_option maxHeartbeats 4000000 in
set_option maxRecDepth 100000 in
theorem implChunkBox_any {B : Nat} {w : World} {v u : Value} {ds cs : List Int} (key : Int) (h : Ri B w v ds) (h2 : Ri B w u cs) (hB : B ≤ w.heap.size) :
    Calls Try.prog 26 #[v, u, .int .i64 key] w (AnsAt (cbL ds cs key) (cbH ds cs key) (.bool (hasE ds cs key)) w) := by
  have HT := Lib.hid (fun (W : World) (hW : Below w.heap.size w W) => tilingOf_any (h.at hB hW) (h2.at hB hW) (Nat.le_refl _))
  have H := Lib.hid h; have H2 := Lib.hid h2
  obtain ⟨A1, c1, rfl, -, -, hx1⟩ := h
  obtain ⟨A2, c2, rfl, -, -, hx2⟩ := h2
  have Hx1 := Lib.hid hx1; have Hx2 := Lib.hid hx2
  clear hx1 hx2
  have HB0 : Hid (Below w.heap.size w (w.alloc (.cells #[.slice none 0 0, .slice none 0 0] 32))) := Lib.hid ((Below.refl _ w).alloc (Nat.le_refl _) _)
  have Hr0 : Hid ((w.alloc (.cells #[.slice none 0 0, .slice none 0 0] 32)).heap[w.heap.size]? = some (.cells #[.slice none 0 0, .slice none 0 0] 32 (0, 0))) := Lib.hid (heap_alloc_new w _)
  have Hi9 : Hid ((Try.prog.info? 32).map (·.size) = some (#[.slice none 0 0, .slice none 0 0] : Array Value).size) := Lib.hid (by kernel_rfl)
  have H19 : Hid ((#[.slice none 0 0, .slice none 0 0] : Array Value).all (·.oneCell') = true) := Lib.hid (by simp [Value.oneCell'])
  have HEf : Hid (hasE ds cs key = false → cbL ds cs key = [] ∧ cbH ds cs key = []) := Lib.hid (fun h => by simp [cbL, cbH, h])
  have HEt : Hid (hasE ds cs key = true → cbL ds cs key = bxL ds cs key ∧ cbH ds cs key = bxH ds cs key) := Lib.hid (fun h => by simp [cbL, cbH, h])
  have HKf : Hid (ckOk ds cs = false → hasE ds cs key = false) := Lib.hid (fun h => by simp [hasE, h])
  have HKt : Hid (ckOk ds cs = true → hasE ds cs key = decide (key ∈ kys (grds ds cs))) := Lib.hid hasE_of
  have HG := Lib.hid (fun hk : ckOk ds cs = true => grd_facts hk)
  have HGI := Lib.hid (fun hk : ckOk ds cs = true => gr_in hk)
  have HLB := Lib.hid (fun (hk : ckOk ds cs = true) (x : List Int) hx => low_box hk (x := x) hx)
  have HCK := Lib.hid (fun hk : ckOk ds cs = true => ck_facts hk)
  go_enter Try.func26, Try.ntmps26
  go_wp2_with fail
  generalize (w.alloc (.cells #[.slice none 0 0, .slice none 0 0] 32)) = w0 at *
  refine (HT.out _ HB0.out).mono ?_
  rintro e w1 ⟨xv, rfl, ⟨a, b, c, l1, l2, l3, e1, e2, e3, rfl⟩, hb, hy⟩
  have Hb := Lib.hid hb; have HY := Lib.hid hy
  clear hb hy
  have HB1 := Lib.hid (HB0.out.trans (Hb.out.mono HB0.out.size))
  have Hl0 : Hid (w.heap.size < w0.heap.size) := Lib.hid (Array.getElem?_eq_some_iff.1 Hr0.out).1
  have Hr1 : Hid (w1.heap[w.heap.size]? = some (.cells #[.slice none 0 0, .slice none 0 0] 32 (0, 0))) := Lib.hid ((Hb.out.block _ Hl0.out).trans Hr0.out)
  generalize ckOk ds cs = y at *
  have hi := til_info (.slice a l1 e1) (.slice b l2 e2) (.slice c l3 e3)
  have h1 : (#[.slice a l1 e1, .slice b l2 e2, .slice c l3 e3] : Array Value).all (·.oneCell') = true := by simp [Value.oneCell']
  have Hal : Hid (Below w1.heap.size w1 (w1.alloc (.cells #[.slice a l1 e1, .slice b l2 e2, .slice c l3 e3] 43))) := Lib.hid ((Below.refl _ _).alloc (Nat.le_refl _) _)
  have HB2 := Lib.hid (HB1.out.trans (Hal.out.mono HB1.out.size))
  have Hl1 : Hid (w.heap.size < w1.heap.size) := Lib.hid (Array.getElem?_eq_some_iff.1 Hr1.out).1
  have Hr2 : Hid ((w1.alloc (.cells #[.slice a l1 e1, .slice b l2 e2, .slice c l3 e3] 43)).heap[w.heap.size]? = some (.cells #[.slice none 0 0, .slice none 0 0] 32 (0, 0))) := Lib.hid ((Hal.out.block _ Hl1.out).trans Hr1.out)
  have Ht2 : Hid ((w1.alloc (.cells #[.slice a l1 e1, .slice b l2 e2, .slice c l3 e3] 43)).heap[w1.heap.size]? = some (.cells #[.slice a l1 e1, .slice b l2 e2, .slice c l3 e3] 43 (0, 0))) := Lib.hid (heap_alloc_new _ _)
  cases y with
  | false =>
    go_wp2_with (first | (refine wpList_store_last rfl 43 (.tmp 8) (.tmp 18) rfl #[.slice a l1 e1, .slice b l2 e2, .slice c l3 e3] _ 43 rfl rfl hi rfl h1 ?_) | (refine wpList_store_row rfl 32 (.tmp 6) (.tmp 22) rfl w.heap.size #[.slice none 0 0, .slice none 0 0] rfl rfl 32 _ Hr2.out Hi9.out rfl H19.out ?_))
    refine bodyPost_ret (v := .tuple #[.agg #[.slice none 0 0, .slice none 0 0], .bool false]) ?_ rfl ?_
    · exact results_cell_row2 rfl _ _ w.heap.size 32 _ (0, 0) _ _ rfl rfl (setRow_heap _ _ _ _ _ _ Hr2.out) Try.underlying32 rfl (by kernel_rfl)
    · rw [(HEf.out (HKf.out (by first | rfl | trivial))).1, (HEf.out (HKf.out (by first | rfl | trivial))).2, HKf.out (by first | rfl | trivial)]
      exact ans_nil _ (below_setRow HB2.out (Nat.le_refl _) _)
  | true =>
    obtain ⟨A, hx, ho⟩ := HY.out (by first | rfl | trivial)
    have HO := Lib.hid ho
    have HF := Lib.hid (HG.out (by first | rfl | trivial))
    have HI := Lib.hid (HGI.out (by first | rfl | trivial))
    have HC := Lib.hid (HCK.out (by first | rfl | trivial))
    have HHE := Lib.hid (HKt.out (by first | rfl | trivial))
    have HLO := Lib.hid (HLB.out (by first | rfl | trivial))
    simp at hx
    obtain ⟨⟨rfl, rfl, rfl⟩, ⟨rfl, rfl, rfl⟩, rfl, rfl, rfl⟩ := hx
    clear ho
    go_wp2_with (refine wpList_store_last rfl 43 (.tmp 8) (.tmp 18) rfl #[.slice a ds.length e1, .slice b cs.length e2, .slice c ds.length ds.length] _ 43 rfl rfl hi rfl h1 ?_)
    have HPO := Lib.hid (placeOf_any (A1 := a) (l1 := ds.length) (c1 := e1) (A2 := b) (l2 := cs.length) (c2 := e2) key ((HO.out.bel Hal.out).ri HI.out) (Nat.le_refl _) HF.out.1 HF.out.2.1 (by have := HF.out.2.2.2; omega))
    generalize (w1.alloc (.cells #[.slice a ds.length e1, .slice b cs.length e2, .slice c ds.length ds.length] 43)) = w2 at *
    refine HPO.out.mono ?_
    rintro e w3 ⟨hcase, hb3⟩
    have Hb3 := Lib.hid hb3
    have HB3 := Lib.hid (HB2.out.trans (hb3.mono HB2.out.size))
    have Hl2 : Hid (w.heap.size < w2.heap.size ∧ w1.heap.size < w2.heap.size) := Lib.hid ⟨(Array.getElem?_eq_some_iff.1 Hr2.out).1, (Array.getElem?_eq_some_iff.1 Ht2.out).1⟩
    have Hr3 : Hid (w3.heap[w.heap.size]? = some (.cells #[.slice none 0 0, .slice none 0 0] 32 (0, 0))) := Lib.hid ((hb3.block _ Hl2.out.1).trans Hr2.out)
    have Ht3 : Hid (w3.heap[w1.heap.size]? = some (.cells #[.slice a ds.length e1, .slice b cs.length e2, .slice c ds.length ds.length] 43 (0, 0))) := Lib.hid ((hb3.block _ Hl2.out.2).trans Ht2.out)
    clear hb3
    rcases hcase with ⟨x, hx, hkx, rfl⟩ | ⟨hno, rfl⟩
    · obtain ⟨hlow, hplc⟩ := HLO.out x hx
      have hl3 := hplc.len
      rcases x with _ | ⟨pa, _ | ⟨pb, _ | ⟨pc, _ | ⟨pd, t⟩⟩⟩⟩ <;> simp at hl3
      have HY1 : Hid (hasE ds cs key = true) := Lib.hid (by
        rw [HHE.out, ← kys_pls _ HF.out.1]
        exact decide_eq_true (List.mem_map.2 ⟨_, hx, hkx⟩))
      have HLow : Hid (lowL cs [pa, pb, pc] = bxL ds cs key) := Lib.hid (by rw [hlow, hkx])
      have HNum := Lib.hid hplc.num
      have hag : aggI [pa, pb, pc] = .agg #[.int .i64 pa, .int .i64 pb, .int .i64 pc] := rfl
      have Hal3 : Hid (Below w3.heap.size w3 (w3.alloc (.cells #[.int .i64 pa, .int .i64 pb, .int .i64 pc] 55))) := Lib.hid ((Below.refl _ _).alloc (Nat.le_refl _) _)
      have Hr4 : Hid ((w3.alloc (.cells #[.int .i64 pa, .int .i64 pb, .int .i64 pc] 55)).heap[w.heap.size]? = some (.cells #[.slice none 0 0, .slice none 0 0] 32 (0, 0))) := Lib.hid ((Hal3.out.block _ (Array.getElem?_eq_some_iff.1 Hr3.out).1).trans Hr3.out)
      have Ht4 : Hid ((w3.alloc (.cells #[.int .i64 pa, .int .i64 pb, .int .i64 pc] 55)).heap[w1.heap.size]? = some (.cells #[.slice a ds.length e1, .slice b cs.length e2, .slice c ds.length ds.length] 43 (0, 0))) := Lib.hid ((Hal3.out.block _ (Array.getElem?_eq_some_iff.1 Ht3.out).1).trans Ht3.out)
      have HB4 := Lib.hid (HB3.out.trans (Hal3.out.mono HB3.out.size))
      have HLC := Lib.hid (low_any (w := w3.alloc (.cells #[.int .i64 pa, .int .i64 pb, .int .i64 pc] 55)) (v := .slice a ds.length e1) (z := .slice c ds.length ds.length) (a := pa) (b := pb) (c := pc) ⟨_, _, _, rfl⟩ ⟨_, _, _, rfl⟩ (H2.out.at hB HB4.out) (Nat.le_refl _) (by have := HC.out; rw [this.2.2.1]; exact this.2.2.1 ▸ this.2.2.2.1) (by have := HC.out; omega) (fun y hy => by have := HNum.out y hy; omega))
      have q0 : (w3.alloc (.cells #[.int .i64 pa, .int .i64 pb, .int .i64 pc] 55)).cell? ⟨w1.heap.size, 0, none⟩ = some (.slice a ds.length e1) := by rw [cell_of_row _ _ _ _ _ _ Ht4.out]; rfl
      have q1 : (w3.alloc (.cells #[.int .i64 pa, .int .i64 pb, .int .i64 pc] 55)).cell? ⟨w1.heap.size, 1, none⟩ = some (.slice b cs.length e2) := by rw [cell_of_row _ _ _ _ _ _ Ht4.out]; rfl
      have q2 : (w3.alloc (.cells #[.int .i64 pa, .int .i64 pb, .int .i64 pc] 55)).cell? ⟨w1.heap.size, 2, none⟩ = some (.slice c ds.length ds.length) := by rw [cell_of_row _ _ _ _ _ _ Ht4.out]; rfl
      rw [hag]
      clear hag hx hkx hlow hplc
      go_wp2_with fail
      clear q0 q1 q2
      generalize (w3.alloc (.cells #[.int .i64 pa, .int .i64 pb, .int .i64 pc] 55)) = w4 at *
      refine HLC.out.mono ?_
      rintro e w5 ⟨lv, rfl, ho5, hb5⟩
      obtain ⟨LA, lc, rfl⟩ := ho5.sl
      have e5 : (lowL cs [pa, pb, pc]).length = cs.length := by simp [lowL]
      rw [e5]
      have HO5 : Hid (OI w5 w4.heap.size (.slice LA cs.length lc) (lowL cs [pa, pb, pc])) := Lib.hid (by have h := ho5; rw [e5] at h; exact h)
      have E5 := Lib.hid e5
      have Hb5 := Lib.hid hb5
      have HB5 := Lib.hid (HB4.out.trans (hb5.mono HB4.out.size))
      have Hr5 : Hid (w5.heap[w.heap.size]? = some (.cells #[.slice none 0 0, .slice none 0 0] 32 (0, 0))) := Lib.hid ((hb5.block _ (Array.getElem?_eq_some_iff.1 Hr4.out).1).trans Hr4.out)
      have Ht5 : Hid (w5.heap[w1.heap.size]? = some (.cells #[.slice a ds.length e1, .slice b cs.length e2, .slice c ds.length ds.length] 43 (0, 0))) := Lib.hid ((hb5.block _ (Array.getElem?_eq_some_iff.1 Ht4.out).1).trans Ht4.out)
      clear ho5 hb5 e5
      have Hr6 : Hid ((w5.alloc (.cells #[.slice LA cs.length lc, .slice none 0 0] 32)).heap[w5.heap.size]? = some (.cells #[.slice LA cs.length lc, .slice none 0 0] 32 (0, 0))) := Lib.hid (heap_alloc_new _ _)
      have HA6 : Hid (Below w5.heap.size w5 (w5.alloc (.cells #[.slice LA cs.length lc, .slice none 0 0] 32))) := Lib.hid ((Below.refl _ _).alloc (Nat.le_refl _) _)
      go_wp2
      generalize (w5.alloc (.cells #[.slice LA cs.length lc, .slice none 0 0] 32)) = w6 at *
      have HEq : Hid (∀ k, k < cs.length → bxF ds.length cs key k = lowF cs [pa, pb, pc] k) := Lib.hid (fun k hk => by
        have h := congrArg (fun l : List Int => l.getD k 0) HLow.out
        simp only [lowL, bxL] at h
        rw [rangeI_getD _ _ _ hk, rangeI_getD _ _ _ (by have := HC.out.2.2.1; omega)] at h
        exact h.symm)
      go_loopw [39] (fun i wr => ∃ (k : Nat) (u2 : Value), k ≤ cs.length ∧ i = .int .i64 (k : Int) ∧ wr.heap[w5.heap.size]? = some (.cells #[.slice LA cs.length lc, u2] 32 (0, 0)) ∧ OI wr (w5.heap.size + 1) u2 ((List.range k).map (bxG ds.length ds cs key)) ∧ Below w5.heap.size w5 wr) (fun i _ => cs.length - (intOf i).toNat)
      case atStart => exact ⟨0, _, Nat.zero_le _, rfl, Hr6.out, oi_none _ _, HA6.out⟩
      case round =>
        obtain ⟨k, u2, hk, rfl, hbx, hou, hbel⟩ := hrel
        obtain ⟨UA, uc, rfl⟩ := hou.sl
        have e4 : ((List.range k).map (bxG ds.length ds cs key)).length = k := by simp
        rw [e4] at hou hbx
        have HX := Lib.hid hbx; have HU := Lib.hid hou; have HBl := Lib.hid hbel
        have Hlt5 : Hid (w1.heap.size < w5.heap.size ∧ w.heap.size < w5.heap.size) := Lib.hid ⟨(Array.getElem?_eq_some_iff.1 Ht5.out).1, (Array.getElem?_eq_some_iff.1 Hr5.out).1⟩
        have HrT : Hid (wr.heap[w1.heap.size]? = some (.cells #[.slice a ds.length e1, .slice b cs.length e2, .slice c ds.length ds.length] 43 (0, 0))) := Lib.hid ((hbel.block _ Hlt5.out.1).trans Ht5.out)
        have HrR : Hid (wr.heap[w.heap.size]? = some (.cells #[.slice none 0 0, .slice none 0 0] 32 (0, 0))) := Lib.hid ((hbel.block _ Hlt5.out.2).trans Hr5.out)
        have HBW : Hid (Below w.heap.size w wr) := Lib.hid (HB5.out.trans (hbel.mono (Nat.le_of_lt Hlt5.out.2)))
        have q1 : wr.cell? ⟨w5.heap.size, 1, none⟩ = some (.slice UA k uc) := by rw [cell_of_row _ _ _ _ _ _ hbx]; rfl
        have q5 : wr.cell? ⟨w5.heap.size, 0, none⟩ = some (.slice LA cs.length lc) := by rw [cell_of_row _ _ _ _ _ _ hbx]; rfl
        have q2 : wr.cell? ⟨w1.heap.size, 0, none⟩ = some (.slice a ds.length e1) := by rw [cell_of_row _ _ _ _ _ _ HrT.out]; rfl
        have q3 : wr.cell? ⟨w1.heap.size, 1, none⟩ = some (.slice b cs.length e2) := by rw [cell_of_row _ _ _ _ _ _ HrT.out]; rfl
        clear hbx hou hbel
        by_cases hlt : k < cs.length
        · have k1 : k < ds.length := by have := HC.out.2.2.1; omega
          obtain ⟨b1, o1, rfl, hb1, hc1, -⟩ := Hx1.out k k1
          obtain ⟨b2, o2, rfl, hb2, hc2, -⟩ := Hx2.out k hlt
          have r1 := hc1; have r2 := hc2
          have p1 : wr.cell? ⟨b1, o1 + k, none⟩ = some (.int .i64 ds[k]) := (HBW.out.cell (p := ⟨b1, o1 + k, none⟩) (by show b1 < w.heap.size; omega)).trans hc1
          have p2 : wr.cell? ⟨b2, o2 + k, none⟩ = some (.int .i64 cs[k]) := (HBW.out.cell (p := ⟨b2, o2 + k, none⟩) (by show b2 < w.heap.size; omega)).trans hc2
          have kl : k < (lowL cs [pa, pb, pc]).length := by rw [E5.out]; exact hlt
          obtain ⟨g, rfl, hgl, hcl⟩ : ∃ g, LA = some ⟨g, 0, none⟩ ∧ g < w5.heap.size ∧ w5.cell? ⟨g, k, none⟩ = some (.int .i64 (lowF cs [pa, pb, pc] k)) := by
            rcases HO5.out.slice with ⟨e0, e1⟩ | ⟨g, cap, e0, -, hgl, -⟩
            · rw [e1] at kl; exact absurd kl (by simp)
            · have ee := e0
              simp only [Value.slice.injEq] at ee
              obtain ⟨rfl, -, -⟩ := ee
              have := oi_cellN HO5.out E5.out k kl
              refine ⟨g, rfl, hgl, this.trans ?_⟩
              congr 2
              simp [lowL]
          have p3 : wr.cell? ⟨g, k, none⟩ = some (.int .i64 (lowF cs [pa, pb, pc] k)) := (HBl.out.cell (p := ⟨g, k, none⟩) hgl).trans hcl
          have bd := allTo_at HC.out.2.1 k1
          rw [inD_at _ _ k1, inB_iff] at bd
          have bc := allTo_at HC.out.2.2.2.1 hlt
          rw [inC_at _ _ hlt, inB_iff] at bc
          have bl := lowF_bd (fun y hy => HNum.out y hy) hlt bc
          have HF1 : Hid ((List.range k).map (bxG ds.length ds cs key) ++ [min ds[k] (lowF cs [pa, pb, pc] k + cs[k])] = (List.range (k + 1)).map (bxG ds.length ds cs key)) := Lib.hid (by
            rw [List.range_succ, List.map_append]
            congr 1
            simp only [List.map_cons, List.map_nil, bxG]
            rw [HEq.out k hlt, getD_at _ _ k1, getD_at _ _ hlt])
          have Hb1 := Lib.hid hb1; have Hb2 := Lib.hid hb2; have Hgl := Lib.hid hgl; have HKl := Lib.hid hlt
          have hk3 : k < 3 := by have := HC.out.1; omega
          have E4 := Lib.hid e4
          clear hb1 hb2 hc1 hc2 hcl hgl kl e4 p1 p2
          generalize lowF cs [pa, pb, pc] k = lo at *
          generalize ds[k] = d at *
          generalize cs[k] = c' at *
          generalize hL : (List.range k).map (bxG ds.length ds cs key) = L at *
          have HL := Lib.hid hL
          clear hL
          have w1' : IntKind.i64.wrap (lo + c') = lo + c' := IntWalk.i64_in _ (by omega)
          have L0 : Hid (w5.heap.size + 1 ≤ wr.heap.size) := Lib.hid (Array.getElem?_eq_some_iff.1 HX.out).1
          have hmin : min d (lo + c') = (if d < lo + c' then d else lo + c') := by split <;> omega
          rw [hmin] at HF1
          have Hbd := Lib.hid bd; have Hbc := Lib.hid bc; have Hbl := Lib.hid bl
          clear hmin bd bc bl
          have HS : Hid (∀ W, Below w5.heap.size w5 W → (fun W => W.cell? ⟨w1.heap.size, 0, none⟩ = some (.slice (some ⟨b1, o1, none⟩) ds.length e1) ∧ W.cell? ⟨w1.heap.size, 1, none⟩ = some (.slice (some ⟨b2, o2, none⟩) cs.length e2) ∧ W.cell? ⟨b1, o1 + k, none⟩ = some (.int .i64 d) ∧ W.cell? ⟨b2, o2 + k, none⟩ = some (.int .i64 c')) W) := Lib.hid (fun W hW => by
            have z1 := HB5.out.size
            have z2 := Hb1.out; have z3 := Hb2.out
            have hT := (hW.block _ Hlt5.out.1).trans Ht5.out
            have hV := HB5.out.trans (hW.mono z1)
            exact ⟨by rw [cell_of_row _ _ _ _ _ _ hT]; rfl, by rw [cell_of_row _ _ _ _ _ _ hT]; rfl, (hV.cell (p := ⟨b1, o1 + k, none⟩) (by show b1 < w.heap.size; omega)).trans r1, (hV.cell (p := ⟨b2, o2 + k, none⟩) (by show b2 < w.heap.size; omega)).trans r2⟩)
          have HQ0 : Hid (wr.drew.cell? ⟨w5.heap.size, 1, none⟩ = some (.slice UA k uc)) := Lib.hid (show wr.cell? ⟨w5.heap.size, 1, none⟩ = _ by rw [cell_of_row _ _ _ _ _ _ HX.out]; rfl)
          have HQA : Hid ((wr.alloc (.cells #[.int .i64 (if d < lo + c' then d else lo + c')] 2)).drew.cell? ⟨w5.heap.size, 1, none⟩ = some (.slice UA k uc)) := Lib.hid (show (wr.alloc (.cells #[.int .i64 (if d < lo + c' then d else lo + c')] 2)).cell? ⟨w5.heap.size, 1, none⟩ = _ by rw [cell_of_row _ _ _ _ _ _ ((((Below.refl wr.heap.size wr).alloc (Nat.le_refl _) _).block _ (Array.getElem?_eq_some_iff.1 HX.out).1).trans HX.out)]; rfl)
          clear r1 r2 q1 q2 q3 q5
          go_wp2
          refine wp_region_held_drew (S := fun W => W.cell? ⟨w1.heap.size, 0, none⟩ = some (.slice (some ⟨b1, o1, none⟩) ds.length e1) ∧ W.cell? ⟨w1.heap.size, 1, none⟩ = some (.slice (some ⟨b2, o2, none⟩) cs.length e2) ∧ W.cell? ⟨b1, o1 + k, none⟩ = some (.int .i64 d) ∧ W.cell? ⟨b2, o2 + k, none⟩ = some (.int .i64 c')) (by kernel_rfl) (HS.out _ (Below.drew HBl.out)) (fun hHeld => ?_)
          refine held_yes 0 (some 44) rfl rfl (by kernel_rfl) (by kernel_rfl) (by kernel_rfl) (fun _ _ _ h => h) (by kernel_rfl) hHeld (v := ?_) (fun wz hSw => ?_) ?_
          rotate_left 1
          · (try dsimp only at hSw); go_simp; (try with_reducible rfl)
          try simp only [Act.put, List.setIfInBounds_toArray, List.set_cons_zero, List.set_cons_succ]
          refine held_yes 2 (some 46) rfl rfl (by kernel_rfl) (by kernel_rfl) (by kernel_rfl) (fun _ _ _ h => h) (by kernel_rfl) hHeld (v := ?_) (fun wz hSw => ?_) ?_
          rotate_left 1
          · (try dsimp only at hSw); go_simp; (try with_reducible rfl)
          try simp only [Act.put, List.setIfInBounds_toArray, List.set_cons_zero, List.set_cons_succ]
          refine held_yes 3 (some 47) rfl rfl (by kernel_rfl) (by kernel_rfl) (by kernel_rfl) (fun _ _ _ h => h) (by kernel_rfl) hHeld (v := ?_) (fun wz hSw => ?_) ?_
          rotate_left 1
          · (try dsimp only at hSw); go_simp; (try with_reducible rfl)
          try simp only [Act.put, List.setIfInBounds_toArray, List.set_cons_zero, List.set_cons_succ]
          refine held_yes 4 (some 48) rfl rfl (by kernel_rfl) (by kernel_rfl) (by kernel_rfl) (fun _ _ _ h => h) (by kernel_rfl) hHeld (v := ?_) (fun wz hSw => ?_) ?_
          rotate_left 1
          · (try dsimp only at hSw); go_simp; (try with_reducible rfl)
          try simp only [Act.put, List.setIfInBounds_toArray, List.set_cons_zero, List.set_cons_succ]
          refine held_yes 5 (some 49) rfl rfl (by kernel_rfl) (by kernel_rfl) (by kernel_rfl) (fun _ _ _ h => h) (by kernel_rfl) hHeld (v := ?_) (fun wz hSw => ?_) ?_
          rotate_left 1
          · (try dsimp only at hSw); go_simp; (try with_reducible rfl)
          try simp only [Act.put, List.setIfInBounds_toArray, List.set_cons_zero, List.set_cons_succ]
          refine held_yes 6 (some 50) rfl rfl (by kernel_rfl) (by kernel_rfl) (by kernel_rfl) (fun _ _ _ h => h) (by kernel_rfl) hHeld (v := ?_) (fun wz hSw => ?_) ?_
          rotate_left 1
          · (try dsimp only at hSw); go_simp; (try with_reducible rfl)
          try simp only [Act.put, List.setIfInBounds_toArray, List.set_cons_zero, List.set_cons_succ]
          refine held_yes 7 (some 51) rfl rfl (by kernel_rfl) (by kernel_rfl) (by kernel_rfl) (fun _ _ _ h => h) (by kernel_rfl) hHeld (v := ?_) (fun wz hSw => ?_) ?_
          rotate_left 1
          · (try dsimp only at hSw); go_simp; (try with_reducible rfl)
          try simp only [Act.put, List.setIfInBounds_toArray, List.set_cons_zero, List.set_cons_succ]
          refine held_yes 8 (some 52) rfl rfl (by kernel_rfl) (by kernel_rfl) (by kernel_rfl) (fun _ _ _ h => h) (by kernel_rfl) hHeld (v := ?_) (fun wz hSw => ?_) ?_
          rotate_left 1
          · (try dsimp only at hSw); go_simp; (try with_reducible rfl)
          try simp only [Act.put, List.setIfInBounds_toArray, List.set_cons_zero, List.set_cons_succ]
          refine held_yes 9 (some 53) rfl rfl (by kernel_rfl) (by kernel_rfl) (by kernel_rfl) (fun _ _ _ h => h) (by kernel_rfl) hHeld (v := ?_) (fun wz hSw => ?_) ?_
          rotate_left 1
          · (try dsimp only at hSw); go_simp; (try with_reducible rfl)
          try simp only [Act.put, List.setIfInBounds_toArray, List.set_cons_zero, List.set_cons_succ]
          refine held_yes 10 (some 54) rfl rfl (by kernel_rfl) (by kernel_rfl) (by kernel_rfl) (fun _ _ _ h => h) (by kernel_rfl) hHeld (v := ?_) (fun wz hSw => ?_) ?_
          rotate_left 1
          · (try dsimp only at hSw); go_simp; (try with_reducible rfl)
          try simp only [Act.put, List.setIfInBounds_toArray, List.set_cons_zero, List.set_cons_succ]
          refine held_yes 11 (some 55) rfl rfl (by kernel_rfl) (by kernel_rfl) (by kernel_rfl) (fun _ _ _ h => h) (by kernel_rfl) hHeld (v := ?_) (fun wz hSw => ?_) ?_
          rotate_left 1
          · (try dsimp only at hSw); go_simp; (try with_reducible rfl)
          try simp only [Act.put, List.setIfInBounds_toArray, List.set_cons_zero, List.set_cons_succ]
          refine held_yes 12 (some 56) rfl rfl (by kernel_rfl) (by kernel_rfl) (by kernel_rfl) (fun _ _ _ h => h) (by kernel_rfl) hHeld (v := ?_) (fun wz hSw => ?_) ?_
          rotate_left 1
          · (try dsimp only at hSw); go_simp; (try with_reducible rfl)
          try simp only [Act.put, List.setIfInBounds_toArray, List.set_cons_zero, List.set_cons_succ]
          refine held_yes 13 (some 57) rfl rfl (by kernel_rfl) (by kernel_rfl) (by kernel_rfl) (fun _ _ _ h => h) (by kernel_rfl) hHeld (v := ?_) (fun wz hSw => ?_) ?_
          rotate_left 1
          · (try dsimp only at hSw); go_simp; (try with_reducible rfl)
          try simp only [Act.put, List.setIfInBounds_toArray, List.set_cons_zero, List.set_cons_succ]
          refine held_yes 14 (some 58) rfl rfl (by kernel_rfl) (by kernel_rfl) (by kernel_rfl) (fun _ _ _ h => h) (by kernel_rfl) hHeld (v := ?_) (fun wz hSw => ?_) ?_
          rotate_left 1
          · (try dsimp only at hSw); go_simp; (try with_reducible rfl)
          try simp only [Act.put, List.setIfInBounds_toArray, List.set_cons_zero, List.set_cons_succ]
          refine wpAnyH_ready (rs := [1, 15]) (by kernel_rfl) (by simp) ?_
          refine AllReadyH.cons rfl (fun K hK => ?_) (AllReadyH.cons rfl (fun K hK => ?_) AllReadyH.nil)
          have qld := HQ0.out
          go_simp
          refine hK.out _ _ (HS.out _ (Below.drew HBl.out)) (fun hHeld => ?_)
          clear hK K qld
          try simp only [Act.put, List.setIfInBounds_toArray, List.set_cons_zero, List.set_cons_succ]
          refine wpAnyH_ready (rs := [15]) (by kernel_rfl) (by simp) ?_
          refine AllReadyH.cons rfl (fun K hK => ?_) AllReadyH.nil
          go_simp
          refine hK.out _ _ (HS.out _ ((Below.drew HBl.out).alloc (Nat.le_of_lt L0.out) _)) (fun hHeld => ?_)
          clear hK K
          try simp only [Act.put, List.setIfInBounds_toArray, List.set_cons_zero, List.set_cons_succ]
          refine wpAnyH_ready (rs := [16]) (by kernel_rfl) (by simp) ?_
          refine AllReadyH.cons rfl (fun K hK => ?_) AllReadyH.nil
          refine wp_pushd (W := wr.drew) (v := .slice UA k uc) (lo := w5.heap.size + 1) (xs := L) (some 60) (by kernel_rfl) (.tmp 45) (.tmp 59) rfl rfl rfl rfl rfl (by exact HU.out) (by exact L0.out) (by rw [E4.out]; omega) ?_
          intro h1 cap1 wq ow1 gr1 at1 lt1
          obtain ⟨⟨m1, m2⟩, Z3, Z4, Z5⟩ := bo_push HX.out HU.out HBl.out rfl ow1 gr1
          have Y3 := Lib.hid Z3; have Y4 := Lib.hid Z4; have Y5 := Lib.hid Z5
          have k1 := pushI_bel (W := wr.drew) (Below.drew HBl.out) HU.out (Nat.le_succ _) (Nat.le_of_lt L0.out) gr1
          clear Z3 Z4 Z5
          refine hK.out _ _ (HS.out _ k1) (fun hHeld => ?_)
          clear hK K k1 ow1 gr1 at1 lt1
          try simp only [Act.put, List.setIfInBounds_toArray, List.set_cons_zero, List.set_cons_succ]
          refine held_yes 17 (some 61) rfl rfl (by kernel_rfl) (by kernel_rfl) (by kernel_rfl) (fun _ _ _ h => h) (by kernel_rfl) hHeld (v := ?_) (fun wz hSw => ?_) ?_
          rotate_left 1
          · (try dsimp only at hSw); go_simp; (try with_reducible rfl)
          try simp only [Act.put, List.setIfInBounds_toArray, List.set_cons_zero, List.set_cons_succ]
          refine wpAnyH_ready (rs := [18]) (by kernel_rfl) (by simp) ?_
          refine AllReadyH.cons rfl (fun K hK => ?_) AllReadyH.nil
          go_simp
          refine hK.out _ _ (HS.out _ Y5.out) (fun hHeld => ?_)
          clear hK K m1 m2 hHeld
          try simp only [Act.put, List.setIfInBounds_toArray, List.set_cons_zero, List.set_cons_succ]
          refine wpAnyH_done (by kernel_rfl) ?_ _
          rotate_left
          go_simp
          refine hK.out _ _ (HS.out _ ((Below.drew HBl.out).alloc (Nat.le_of_lt L0.out) _)) (fun hHeld => ?_)
          clear hK K
          try simp only [Act.put, List.setIfInBounds_toArray, List.set_cons_zero, List.set_cons_succ]
          refine wpAnyH_ready (rs := [1]) (by kernel_rfl) (by simp) ?_
          refine AllReadyH.cons rfl (fun K hK => ?_) AllReadyH.nil
          have qld := HQA.out
          go_simp
          refine hK.out _ _ (HS.out _ ((Below.drew HBl.out).alloc (Nat.le_of_lt L0.out) _)) (fun hHeld => ?_)
          clear hK K qld
          try simp only [Act.put, List.setIfInBounds_toArray, List.set_cons_zero, List.set_cons_succ]
          refine wpAnyH_ready (rs := [16]) (by kernel_rfl) (by simp) ?_
          refine AllReadyH.cons rfl (fun K hK => ?_) AllReadyH.nil
          refine wp_pushd (W := wr.drew) (v := .slice UA k uc) (lo := w5.heap.size + 1) (xs := L) (some 60) (by kernel_rfl) (.tmp 45) (.tmp 59) rfl rfl rfl rfl rfl (by exact HU.out) (by exact L0.out) (by rw [E4.out]; omega) ?_
          intro h1 cap1 wq ow1 gr1 at1 lt1
          obtain ⟨⟨m1, m2⟩, Z3, Z4, Z5⟩ := bo_push HX.out HU.out HBl.out rfl ow1 gr1
          have Y3 := Lib.hid Z3; have Y4 := Lib.hid Z4; have Y5 := Lib.hid Z5
          have k1 := pushI_bel (W := wr.drew) (Below.drew HBl.out) HU.out (Nat.le_succ _) (Nat.le_of_lt L0.out) gr1
          clear Z3 Z4 Z5
          refine hK.out _ _ (HS.out _ k1) (fun hHeld => ?_)
          clear hK K k1 ow1 gr1 at1 lt1
          try simp only [Act.put, List.setIfInBounds_toArray, List.set_cons_zero, List.set_cons_succ]
          refine held_yes 17 (some 61) rfl rfl (by kernel_rfl) (by kernel_rfl) (by kernel_rfl) (fun _ _ _ h => h) (by kernel_rfl) hHeld (v := ?_) (fun wz hSw => ?_) ?_
          rotate_left 1
          · (try dsimp only at hSw); go_simp; (try with_reducible rfl)
          try simp only [Act.put, List.setIfInBounds_toArray, List.set_cons_zero, List.set_cons_succ]
          refine wpAnyH_ready (rs := [18]) (by kernel_rfl) (by simp) ?_
          refine AllReadyH.cons rfl (fun K hK => ?_) AllReadyH.nil
          go_simp
          refine hK.out _ _ (HS.out _ Y5.out) (fun hHeld => ?_)
          clear hK K m1 m2 hHeld
          try simp only [Act.put, List.setIfInBounds_toArray, List.set_cons_zero, List.set_cons_succ]
          refine wpAnyH_done (by kernel_rfl) ?_ _
          rotate_left
          all_goals (
            try simp only [Exit.then]
            go_wp2
            go_roundw
            case rel => exact ⟨k + 1, _, HKl.out, by go_num, Y3.out, by rw [← HF1.out]; exact Y4.out, Y5.out⟩
            case measure => have := HKl.out; simp [intOf]; omega)
        · obtain rfl : k = cs.length := by omega
          have Hfin : Hid (AnsAt (cbL ds cs key) (cbH ds cs key) (.bool (hasE ds cs key)) w (.returned (.tuple #[.agg #[.slice LA cs.length lc, .slice UA cs.length uc], .bool true])) (wr.setRow w.heap.size #[.slice LA cs.length lc, .slice UA cs.length uc])) := Lib.hid (by
            have n1 := HC.out.2.2.1
            have m1 : (bxL ds cs key).length = cs.length := by simp [bxL, n1]
            have m2 : (bxH ds cs key).length = cs.length := by simp [bxH, n1]
            have m3 : (List.range cs.length).map (bxG ds.length ds cs key) = bxH ds cs key := by rw [bxH, n1]
            have r1 := (HO5.out.bel HBl.out).lo (show w.heap.size + 1 ≤ w4.heap.size from (Array.getElem?_eq_some_iff.1 Hr4.out).1)
            rw [HLow.out] at r1
            have r2 := HU.out.lo (show w.heap.size + 1 ≤ w5.heap.size + 1 by have := Hlt5.out.2; omega)
            rw [m3] at r2
            rw [(HEt.out HY1.out).1, (HEt.out HY1.out).2, HY1.out]
            refine ⟨LA, UA, lc, uc, by rw [m1, m2], ?_, ?_, ?_, below_setRow HBW.out (Nat.le_refl _) _⟩
            · rw [m1]; exact (r1.row (Nat.lt_succ_self _) _).lo (Nat.le_succ _)
            · rw [m2]; exact (r2.row (Nat.lt_succ_self _) _).lo (Nat.le_succ _)
            · rw [m1, m2]
              intro g hg hg2
              have := (HO5.out.wi g hg).2
              have := (HU.out.wi g hg2).1
              omega)
          have h19 : (#[.slice LA cs.length lc, .slice UA cs.length uc] : Array Value).all (·.oneCell') = true := by simp [Value.oneCell']
          have hib := box_info (.slice LA cs.length lc) (.slice UA cs.length uc)
          clear e4
          go_wp2_with (refine wpList_store_row rfl 32 (.tmp 6) (.tmp 63) rfl w.heap.size #[.slice LA cs.length lc, .slice UA cs.length uc] rfl rfl 32 _ HrR.out hib rfl h19 ?_)
          refine bodyPost_ret (v := .tuple #[.agg #[.slice LA cs.length lc, .slice UA cs.length uc], .bool true]) ?_ rfl ?_
          · exact results_cell_row2 rfl _ _ w.heap.size 32 _ (0, 0) _ _ rfl rfl (setRow_heap _ _ _ _ _ _ HrR.out) Try.underlying32 rfl hib
          · exact Hfin.out
    · have HN : Hid (hasE ds cs key = false) := Lib.hid (by rw [HHE.out]; exact decide_eq_false hno)
      have hag : aggI [0, 0, 0] = .agg #[.int .i64 0, .int .i64 0, .int .i64 0] := rfl
      have Hal3 : Hid (Below w3.heap.size w3 (w3.alloc (.cells #[.int .i64 0, .int .i64 0, .int .i64 0] 55))) := Lib.hid ((Below.refl _ _).alloc (Nat.le_refl _) _)
      have Hr4 : Hid ((w3.alloc (.cells #[.int .i64 0, .int .i64 0, .int .i64 0] 55)).heap[w.heap.size]? = some (.cells #[.slice none 0 0, .slice none 0 0] 32 (0, 0))) := Lib.hid ((Hal3.out.block _ (Array.getElem?_eq_some_iff.1 Hr3.out).1).trans Hr3.out)
      have HB4 := Lib.hid (HB3.out.trans (Hal3.out.mono HB3.out.size))
      rw [hag]
      clear hag hno
      go_wp2_with (refine wpList_store_row rfl 32 (.tmp 6) (.tmp 31) rfl w.heap.size #[.slice none 0 0, .slice none 0 0] rfl rfl 32 _ Hr4.out Hi9.out rfl H19.out ?_)
      refine bodyPost_ret (v := .tuple #[.agg #[.slice none 0 0, .slice none 0 0], .bool false]) ?_ rfl ?_
      · exact results_cell_row2 rfl _ _ w.heap.size 32 _ (0, 0) _ _ rfl rfl (setRow_heap _ _ _ _ _ _ Hr4.out) Try.underlying32 rfl (by kernel_rfl)
      · rw [(HEf.out HN.out).1, (HEf.out HN.out).2, HN.out]
        exact ans_nil _ (below_setRow HB4.out (Nat.le_refl _) _)
theorem bx_bd {ds cs : List Int} {key : Int} (hk : ckOk ds cs = true) (hm : key ∈ kys (grds ds cs)) (k : Nat) (hkl : k < ds.length) :
    0 ≤ bxF ds.length cs key k ∧ bxF ds.length cs key k ≤ 640 ∧ 0 ≤ bxG ds.length ds cs key k ∧ bxG ds.length ds cs key k ≤ 40 := by
  obtain ⟨h1, h2, h3, h4, h5⟩ := ck_facts hk
  rw [← kys_pls _ (grd_facts hk).1] at hm
  obtain ⟨x, hx, rfl⟩ := List.mem_map.1 hm
  obtain ⟨hlow, hplc⟩ := low_box hk hx
  have hl := hplc.len
  rcases x with _ | ⟨pa, _ | ⟨pb, _ | ⟨pc, _ | ⟨pd, t⟩⟩⟩⟩ <;> simp at hl
  have kc : k < cs.length := by omega
  have bd := allTo_at h2 hkl
  rw [inD_at _ _ hkl, inB_iff] at bd
  have bc := allTo_at h4 kc
  rw [inC_at _ _ kc, inB_iff] at bc
  have e : bxF ds.length cs (pkL [pa, pb, pc]) k = lowF cs [pa, pb, pc] k := by
    have h := congrArg (fun l : List Int => l.getD k 0) hlow
    simp only [lowL, bxL] at h
    rw [rangeI_getD _ _ _ kc, rangeI_getD _ _ _ hkl] at h
    exact h.symm
  have hy : 0 ≤ [pa, pb, pc].getD (3 - cs.length + k) 0 ∧ [pa, pb, pc].getD (3 - cs.length + k) 0 ≤ 16 := by
    rcases Nat.lt_or_ge (3 - cs.length + k) 3 with h | h
    · have := hplc.num _ (List.getElem_mem (l := [pa, pb, pc]) (n := 3 - cs.length + k) h)
      rw [getD_at [pa, pb, pc] _ h]
      omega
    · rw [List.getD_eq_getElem?_getD, List.getElem?_eq_none (by simpa using h)]
      decide
  have hb : 0 ≤ lowF cs [pa, pb, pc] k ∧ lowF cs [pa, pb, pc] k ≤ 640 := by
    unfold lowF
    rw [getD_at _ _ kc]
    generalize [pa, pb, pc].getD (3 - cs.length + k) 0 = y at *
    generalize cs[k] = z at *
    exact ⟨Int.mul_nonneg hy.1 (by omega), by have := Int.mul_le_mul (a := y) (b := z) (c := 16) (d := 40) (by omega) (by omega) (by omega) (by omega); omega⟩
  rw [bxG, e, getD_at _ _ hkl, getD_at _ _ kc]
  generalize lowF cs [pa, pb, pc] k = q at *
  generalize ds[k] = d at *
  generalize cs[k] = z at *
  omega
theorem cb_bd (ds cs : List Int) (key : Int) : (∀ x ∈ cbL ds cs key, InI x) ∧ (∀ x ∈ cbH ds cs key, InI x) ∧ (cbL ds cs key).length ≤ 1048576 ∧ (cbH ds cs key).length ≤ 1048576 := by
  unfold cbL cbH
  by_cases h : hasE ds cs key = true
  · rw [if_pos h, if_pos h]
    simp only [hasE, Bool.and_eq_true, decide_eq_true_eq] at h
    have hl := (ck_facts h.1).1
    refine ⟨?_, ?_, by simp [bxL]; omega, by simp [bxH]; omega⟩
    · intro x hx
      obtain ⟨k, hk, rfl⟩ := List.mem_map.1 hx
      have := bx_bd h.1 h.2 k (List.mem_range.1 hk)
      unfold InI; omega
    · intro x hx
      obtain ⟨k, hk, rfl⟩ := List.mem_map.1 hx
      have := bx_bd h.1 h.2 k (List.mem_range.1 hk)
      unfold InI; omega
  · rw [if_neg h, if_neg h]
    simp
end Go.Proofs.Ytmghbgnalkkppaa
