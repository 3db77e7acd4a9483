/- slices.Grow and slices.Concat of lists of numbers, by the program. No statement is proved here. -/
import Derived.Test.YtabnglimchjgpaaAcc
import Derived.Test.YtabnglimchjgpaaStr
import Derived.Lib.AppendZeros
import Derived.Maps.AppendAt
namespace Go.Proofs.Ytabnglimchjgpaa
open Go.RowKit
set_option linter.unusedVariables false
theorem infoI64 : (Try.prog.info? 2).map (fun i => (i.zero, i.size, i.bytes)) = some (some (.int .i64 0), 1, 8) := by kernel_rfl
/-- A row of one's own of no numbers, with room. -/
theorem oi_room {w : World} {lo g c : Nat} {C : Array Value} (h : w.heap[g]? = some (.cells C 2 (0, 0))) (hlo : lo ≤ g) (hc : C.size = c) (hm : c ≤ maxLen) : OI w lo (.slice (some ⟨g, 0, none⟩) 0 c) [] :=
  ⟨rfl, .inr ⟨g, c, C, rfl, hlo, h, Nat.zero_le _, hm, by rw [hc, Nat.mul_one], by simp⟩⟩
set_option maxHeartbeats 1000000 in
set_option maxRecDepth 100000 in
theorem grow_any (n : Nat) (h0 : 0 < n) (hn : n ≤ 100) (w : World) :
    Calls Try.prog 116 #[.slice none 0 0, .int .i64 (n : Int)] w fun e w' => ∃ c, e = .returned (.slice (some ⟨w.heap.size, 0, none⟩) 0 c) ∧ OI w' w.heap.size (.slice (some ⟨w.heap.size, 0, none⟩) 0 c) [] ∧ Below w.heap.size w w' := by
  obtain ⟨i, hi, he⟩ := Option.map_eq_some_iff.1 infoI64
  simp only [Prod.mk.injEq] at he
  obtain ⟨hz, hs1, hb8⟩ := he
  have hrun := fun ty => Lib.run_append_nil_zeros (P := Try.prog) w 47 3 ty 2 i (.int .i64 0) .i64 .i64 Try.underlying47 (by kernel_rfl) hi hz n h0 (by omega) (by omega) (by rw [hb8]; omega)
  have hg1 := grownCap_ge w n 0 2
  have hg2 := grownCap_le_maxLen w n 0 2 (by unfold maxLen; omega)
  generalize grownCap w n 0 2 = c at *
  have hsz : (Builtin.zeroCells (Value.int .i64 0).cells n ++ Builtin.zeroCells (Value.int .i64 0).cells (c - n)).size = c := by
    rw [Array.size_append, size_zeroCells, size_zeroCells]
    show n * 1 + (c - n) * 1 = c
    omega
  generalize (Builtin.zeroCells (Value.int .i64 0).cells n ++ Builtin.zeroCells (Value.int .i64 0).cells (c - n)) = C at *
  have HO : Hid (OI (w.drew.alloc (.cells C 2)) w.heap.size (.slice (some ⟨w.heap.size, 0, none⟩) 0 c) []) := Lib.hid (oi_room (heap_alloc_new w.drew _) (Nat.le_refl _) hsz hg2)
  have HB : Hid (Below w.heap.size w (w.drew.alloc (.cells C 2))) := Lib.hid ((Below.refl _ w).drew.alloc (Nat.le_refl _) _)
  have HR := Lib.hid hrun
  have hwr : IntKind.i64.wrap (n : Int) = (n : Int) := IntWalk.i64_in _ (by omega)
  have d1 : decide ((0 : Int) < (n : Int)) = true := decide_eq_true (by omega)
  have d2 : decide (0 < n) = true := decide_eq_true h0
  have d3 : decide ((n : Int) < 0) = false := decide_eq_false (by omega)
  clear hrun hsz hi hz hs1 hb8
  go_enter Try.func116, Try.ntmps116
  go_wp2_with (at_builtin; refine Lib.wpList_append_run w rfl (.tmp 20) (.tmp 21) 47 3 rfl (.slice none 0 0) (.int .i64 (n : Int)) rfl rfl _ _ (HR.out _) ?_)
  go_ret
  exact ⟨c, rfl, HO.out, HB.out⟩
set_option maxHeartbeats 1000000 in
set_option maxRecDepth 100000 in
theorem grow0_any (w : World) : Calls Try.prog 116 #[.slice none 0 0, .int .i64 0] w (Quiet (.slice none 0 0) w) := by
  go_enter Try.func116, Try.ntmps116
  go_wp2
  go_ret
  exact ⟨rfl, rfl⟩
theorem run_append_nn (w : World) (ty : TypeId) (A : Option Addr) (c : Nat) : (Builtin.append_ #[47, 47] ty #[.slice none 0 0, .slice A 0 c]).run Try.prog w = .ok (.slice none 0 0) w := by
  obtain ⟨i, hi, he⟩ := Option.map_eq_some_iff.1 infoI64
  cases A <;> simp [Builtin.append_, run_underlying Try.underlying47, Builtin.lenOf, Builtin.firstCells, sizeOf, typeInfo, hi, loadCells, loadCellsFrom, Sem.run_bind, Result.andThen]
/-- append of a whole list of numbers, as a step of a walk. -/
theorem wpList_joinI {ops : Array Oper} {rest : List Oper} {o : Oper} {a : Act} {Q : Exit → Act → World → Prop} {W z : World} {lo B b of c : Nat} {v : Value} {ps qs : List Int} (hgd : o.guard = none) (s y : Operand)
    (ho : o.op = .call { callee := .builtin .append, args := #[s, y], argTypes := #[47, 47] }) (hs : a.eval s = v) (hx : a.eval y = .slice (some ⟨b, of, none⟩) qs.length c)
    (hown : OI W lo v ps) (hq : Ri W.heap.size W (.slice (some ⟨b, of, none⟩) qs.length c) qs) (hlo : lo ≤ W.heap.size) (hlen : ps.length + qs.length ≤ 1048576) (hz : Below B z W) (hB : B ≤ lo)
    (h : ∀ v' w', OI w' lo v' (ps ++ qs) → Below B z w' → wpList Try.prog ops Q rest (a.put o.dst v') w') : wpList Try.prog ops Q (o :: rest) a W := by
  obtain ⟨i0, hi, he⟩ := Option.map_eq_some_iff.1 infoI64
  simp only [Prod.mk.injEq] at he
  obtain ⟨hz0, hz1, hz2⟩ := he
  obtain ⟨A, c', he, -, -, hx3⟩ := hq
  simp only [Value.slice.injEq] at he
  obtain ⟨rfl, -, rfl⟩ := he
  refine wpList_append_own_at _ hgd s y 47 ho lo 2 i0 (.int .i64 0) 1 8 Try.underlying47 hi hz0 hz1 hz2 rfl (by decide) v ps.length (ps.map (Value.int .i64)) hs hown
    ⟨b, of, none⟩ qs.length c (qs.map (Value.int .i64)) hx (by simp) (fun j u hu => ?_) (fun u hu => ?_) (by unfold maxLen; omega) (by omega) hlo (fun v' w' h1 h2 _ _ => h v' w' ?_ (hz.grown h2 (Nat.le_trans hB hlo) (fun k hk => Nat.le_trans hB (own_wi hown k hk).1)))
  · have hj : j < qs.length := by
      rcases Nat.lt_or_ge j qs.length with h | h
      · exact h
      · rw [List.getElem?_eq_none (by simpa using h)] at hu; cases hu
    obtain ⟨b', o', e1, -, hc, -⟩ := hx3 j hj
    cases e1
    rw [List.getElem?_map, List.getElem?_eq_getElem hj] at hu
    obtain rfl := Option.some.inj hu
    rw [add_at]
    exact hc
  · obtain ⟨x, -, rfl⟩ := List.mem_map.1 hu
    rfl
  · unfold OI; rw [List.length_append, List.map_append]; exact h1
set_option maxHeartbeats 2000000 in
set_option maxRecDepth 100000 in
theorem concat_any {w : World} {b : Nat} {A1 A2 : Option Addr} {c1 c2 : Nat} {ds ks : List Int} (h : w.heap[b]? = some (.cells #[.slice A2 ds.length c2, .slice A1 ks.length c1] 47 (0, 0)))
    (h2 : Ri w.heap.size w (.slice A2 ds.length c2) ds) (h1 : Ri w.heap.size w (.slice A1 ks.length c1) ks) (hd0 : 0 < ds.length) (hk0 : 0 < ks.length) (hd : ds.length ≤ 50) (hk : ks.length ≤ 50) :
    Calls Try.prog 90 #[.slice (some ⟨b, 0, none⟩) 2 2] w fun e w' => ∃ v, e = .returned v ∧ OI w' w.heap.size v (ds ++ ks) ∧ Below w.heap.size w w' := by
  have HI2 := Lib.hid h2.inI; have HI1 := Lib.hid h1.inI
  have H2 := Lib.hid h2; have H1 := Lib.hid h1; have HR := Lib.hid h
  have HBL : Hid (b < w.heap.size) := Lib.hid (World.block_lt_of_cell? w ⟨b, 0, none⟩ (show _ = some (.slice A2 ds.length c2) by rw [cell_of_row _ _ _ _ _ _ h]; rfl))
  obtain ⟨_, _, e2, -, -, hx2⟩ := h2
  obtain ⟨_, _, e1, -, -, hx1⟩ := h1
  simp only [Value.slice.injEq] at e1 e2
  obtain ⟨rfl, -, rfl⟩ := e2
  obtain ⟨rfl, -, rfl⟩ := e1
  obtain ⟨b2, o2, rfl, -⟩ := hx2 0 hd0
  obtain ⟨b1, o1, rfl, -⟩ := hx1 0 hk0
  have q0 : w.cell? ⟨b, 0, none⟩ = some (.slice (some ⟨b2, o2, none⟩) ds.length c2) := by rw [cell_of_row _ _ _ _ _ _ h]; rfl
  have q1 : w.cell? ⟨b, 1, none⟩ = some (.slice (some ⟨b1, o1, none⟩) ks.length c1) := by rw [cell_of_row _ _ _ _ _ _ h]; rfl
  have HG := Lib.hid (grow_any (ds.length + ks.length) (by omega) (by omega) w)
  have HL := Lib.hid (And.intro hd hk)
  have x1 : IntKind.i64.wrap ((ds.length : Int)) = (ds.length : Int) := IntWalk.i64_in _ (by omega)
  have x2 : IntKind.i64.wrap ((ds.length : Int) + (ks.length : Int)) = (ds.length : Int) + (ks.length : Int) := IntWalk.i64_in _ (by omega)
  have d1 : decide ((ds.length : Int) < 0) = false := decide_eq_false (by omega)
  have d2 : decide ((ds.length : Int) + (ks.length : Int) < 0) = false := decide_eq_false (by omega)
  clear h hx1 hx2 hd0 hk0 hd hk
  go_enter Try.func90, Try.ntmps90
  go_wp2
  go_loopw [3, 11] (fun s i wr => w = wr ∧ ((s = .int .i64 0 ∧ i = .int .i64 0) ∨ (s = .int .i64 (ds.length : Int) ∧ i = .int .i64 1) ∨ (s = .int .i64 ((ds.length : Int) + (ks.length : Int)) ∧ i = .int .i64 2))) (fun _ i _ => 2 - (intOf i).toNat)
  case atStart => exact ⟨rfl, .inl ⟨rfl, rfl⟩⟩
  case round =>
    obtain ⟨hww, hh⟩ := hrel
    subst hww
    rcases hh with ⟨rfl, rfl⟩ | ⟨rfl, rfl⟩ | ⟨rfl, rfl⟩
    · go_wp2
      go_roundw
      case rel => exact ⟨by trivial, .inr (.inl ⟨rfl, rfl⟩)⟩
      case measure => simp [intOf]
    · go_wp2
      go_roundw
      case rel => exact ⟨by trivial, .inr (.inr ⟨rfl, rfl⟩)⟩
      case measure => simp [intOf]
    · clear q0 q1
      go_wp2_with fail
      refine (show Calls Try.prog 116 #[.slice none 0 0, .int .i64 ((ds.length : Int) + (ks.length : Int))] w _ from by have h := HG.out; rw [Int.natCast_add] at h; exact h).mono ?_
      rintro e w1 ⟨c, rfl, ho, g⟩
      have HO := Lib.hid ho; have HB := Lib.hid g
      clear ho g HG
      go_wp2_with fail
      go_loopw [6, 27] (fun v i wr => Below w.heap.size w wr ∧ ((OI wr w.heap.size v [] ∧ i = .int .i64 0) ∨ (OI wr w.heap.size v ds ∧ i = .int .i64 1) ∨ (OI wr w.heap.size v (ds ++ ks) ∧ i = .int .i64 2))) (fun _ i _ => 2 - (intOf i).toNat)
      case atStart => exact ⟨HB.out, .inl ⟨HO.out, rfl⟩⟩
      case round =>
        obtain ⟨hb, hh⟩ := hrel
        have Hb := Lib.hid hb
        have r0 : wr.cell? ⟨b, 0, none⟩ = some (.slice (some ⟨b2, o2, none⟩) ds.length c2) := by rw [cell_of_row _ _ _ _ _ _ ((hb.block _ HBL.out).trans HR.out)]; rfl
        have r1 : wr.cell? ⟨b, 1, none⟩ = some (.slice (some ⟨b1, o1, none⟩) ks.length c1) := by rw [cell_of_row _ _ _ _ _ _ ((hb.block _ HBL.out).trans HR.out)]; rfl
        have Hs := Lib.hid hb.size
        clear hb
        rcases hh with ⟨ho, rfl⟩ | ⟨ho, rfl⟩ | ⟨ho, rfl⟩
        · have Ho := Lib.hid ho
          obtain ⟨A9, c9, rfl⟩ := ho.sl
          clear ho
          go_wp2_with (at_builtin; refine wpList_joinI (W := wr) (z := w) (lo := w.heap.size) (B := w.heap.size) (v := .slice A9 ([] : List Int).length c9) (ps := []) (qs := ds) rfl (.tmp 31) (.tmp 32) rfl rfl rfl Ho.out (H2.out.at (Nat.le_refl _) Hb.out) Hs.out (by have := HL.out; simp; omega) Hb.out (Nat.le_refl _) ?_; intro v' w5 o5 g5; have O5 := Lib.hid o5; have G5 := Lib.hid g5; clear o5 g5 r0 r1)
          go_roundw
          case rel => exact ⟨G5.out, .inr (.inl ⟨O5.out, rfl⟩)⟩
          case measure => simp [intOf]
        · have Ho := Lib.hid ho
          obtain ⟨A9, c9, rfl⟩ := ho.sl
          clear ho
          go_wp2_with (at_builtin; refine wpList_joinI (W := wr) (z := w) (lo := w.heap.size) (B := w.heap.size) (v := .slice A9 ds.length c9) (ps := ds) (qs := ks) rfl (.tmp 31) (.tmp 32) rfl rfl rfl Ho.out (H1.out.at (Nat.le_refl _) Hb.out) Hs.out (by have := HL.out; omega) Hb.out (Nat.le_refl _) ?_; intro v' w5 o5 g5; have O5 := Lib.hid o5; have G5 := Lib.hid g5; clear o5 g5 r0 r1)
          go_roundw
          case rel => exact ⟨G5.out, .inr (.inr ⟨O5.out, rfl⟩)⟩
          case measure => simp [intOf]
        · have HF := Lib.hid ho
          clear ho r0 r1
          go_wp2
          go_ret
          exact ⟨_, rfl, HF.out, Hb.out⟩
set_option maxHeartbeats 2000000 in
set_option maxRecDepth 100000 in
theorem concat0_any {w : World} {b : Nat} {A1 A2 : Option Addr} {c1 c2 : Nat} (h : w.heap[b]? = some (.cells #[.slice A2 0 c2, .slice A1 0 c1] 47 (0, 0))) :
    Calls Try.prog 90 #[.slice (some ⟨b, 0, none⟩) 2 2] w (Quiet (.slice none 0 0) w) := by
  have q0 : w.cell? ⟨b, 0, none⟩ = some (.slice A2 0 c2) := by rw [cell_of_row _ _ _ _ _ _ h]; rfl
  have q1 : w.cell? ⟨b, 1, none⟩ = some (.slice A1 0 c1) := by rw [cell_of_row _ _ _ _ _ _ h]; rfl
  have Q0 := Lib.hid q0; have Q1 := Lib.hid q1
  clear h
  go_enter Try.func90, Try.ntmps90
  go_wp2
  go_loopw [3, 11] (fun s i wr => w = wr ∧ s = .int .i64 0 ∧ (i = .int .i64 0 ∨ i = .int .i64 1 ∨ i = .int .i64 2)) (fun _ i _ => 2 - (intOf i).toNat)
  case atStart => exact ⟨rfl, rfl, .inl rfl⟩
  case round =>
    obtain ⟨hww, rfl, hh⟩ := hrel
    subst hww
    rcases hh with rfl | rfl | rfl
    · go_wp2
      go_roundw
      case rel => exact ⟨by trivial, by trivial, .inr (.inl rfl)⟩
      case measure => simp [intOf]
    · go_wp2
      go_roundw
      case rel => exact ⟨by trivial, by trivial, .inr (.inr rfl)⟩
      case measure => simp [intOf]
    · clear q0 q1
      go_wp2_with fail
      refine (grow0_any w).mono ?_
      rintro e w1 ⟨rfl, rfl⟩
      go_wp2_with fail
      go_loopw [6, 27] (fun v i wr => w = wr ∧ v = .slice none 0 0 ∧ (i = .int .i64 0 ∨ i = .int .i64 1 ∨ i = .int .i64 2)) (fun _ i _ => 2 - (intOf i).toNat)
      case atStart => exact ⟨rfl, rfl, .inl rfl⟩
      case round =>
        obtain ⟨hww, rfl, hh⟩ := hrel
        subst hww
        have q0 := Q0.out; have q1 := Q1.out
        rcases hh with rfl | rfl | rfl
        · go_wp2_with (at_builtin; refine Lib.wpList_append_run w rfl (.tmp 31) (.tmp 32) 47 47 rfl (.slice none 0 0) (.slice A2 0 c2) rfl rfl _ _ (run_append_nn w _ A2 c2) ?_)
          go_roundw
          case rel => exact ⟨by trivial, by trivial, .inr (.inl rfl)⟩
          case measure => simp [intOf]
        · go_wp2_with (at_builtin; refine Lib.wpList_append_run w rfl (.tmp 31) (.tmp 32) 47 47 rfl (.slice none 0 0) (.slice A1 0 c1) rfl rfl _ _ (run_append_nn w _ A1 c1) ?_)
          go_roundw
          case rel => exact ⟨by trivial, by trivial, .inr (.inr rfl)⟩
          case measure => simp [intOf]
        · clear q0 q1
          go_wp2
          go_ret
          exact ⟨rfl, rfl⟩
end Go.Proofs.Ytabnglimchjgpaa
