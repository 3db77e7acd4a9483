/- The contract of the program's WriteBlock. No statement is proved here. -/
import Derived.Test.YtpjkeikaonkohaaOpW
import Derived.Test.YtpjkeikaonkohaaDkX
namespace Go.Proofs.Ytpjkeikaonkohaa
open Go.RowKit
set_option linter.unusedVariables false
set_option maxHeartbeats 1000000 in
set_option maxRecDepth 100000 in
theorem write_any {w : World} {lo D S : Nat} {v2 : Value} {ss : List ByteArray} {ps : List Pt} {fz k : Int} {off : Bool} {x : ByteArray} (hd : Drv w lo D S v2 ss ps fz off) (hlo : lo ≤ w.heap.size) (hl : ps.length ≤ 600) (hf : -1 ≤ fz ∧ fz ≤ 100000) :
    Calls Try.prog 85 #[.pointer (some ⟨D, 0, none⟩), .agg #[.int .i64 k, .string x]] w fun e w' =>
      e = .returned (.int .i64 (wrC ps fz off)) ∧ ∃ A m c, Drv w' lo D S (.slice A m c) ss (wrP ps fz off k x) (wrF ps fz off) (wrO ps fz off) ∧ Below lo w w' := by
  have HB := Lib.hid (boxes2 w #[.pointer (some ⟨D, 0, none⟩)] #[.int .i64 k, .string x] 89 77)
  have Hd := Lib.hid hd; have Hl := Lib.hid hl; have Hlo := Lib.hid hlo; have Hf := Lib.hid hf
  have hmf : ∀ (fn : Fn) (first cap : Array Value) (w : World), (Instr.makeFunc fn first cap).run Try.prog w = .ok (.func fn first cap) w := fun _ _ _ _ => rfl
  clear hd hl hlo hf
  go_enter Try.func85, Try.ntmps85
  go_wp2_with fail
  generalize ((w.alloc (.cells #[.pointer (some ⟨D, 0, none⟩)] 89)).alloc (.cells #[.int .i64 k, .string x] 77)) = w0 at *
  refine (operateW_any (Hd.out.keep HB.out.2.2.2) HB.out.1 HB.out.2.1 (Hd.out.other _ (Nat.le_refl _)).2.2 (Hd.out.other _ (Nat.le_succ _)).2.2 (by have := Hlo.out; have := HB.out.2.2.1; omega) Hl.out Hf.out).mono ?_
  rintro e w1 ⟨rfl, A, m, c, hd1, hb1⟩
  have H1 : Hid (∃ A m c, Drv w1 lo D S (.slice A m c) ss (wrP ps fz off k x) (wrF ps fz off) (wrO ps fz off) ∧ Below lo w w1) := Lib.hid ⟨A, m, c, hd1, (HB.out.2.2.2.mono Hlo.out).trans hb1⟩
  clear hd1 hb1
  go_wp2_with fail
  go_ret
  exact ⟨rfl, H1.out⟩
/-- The disk of a drive, or none, beside a code. -/
def AftD (w : World) (v2 : Value) (ss : List ByteArray) (fz : Int) (off : Bool) (c : Int) (e : Ending) (w' : World) : Prop := ∃ v1, e = .returned (.tuple #[.agg #[v1, v2, .int .i64 fz, .bool off], .int .i64 c]) ∧ OT w' w.heap.size v1 ss ∧ Below w.heap.size w w'
set_option maxHeartbeats 1000000 in
set_option maxRecDepth 100000 in
theorem after_no {w : World} {D : Nat} {c : Int} (h0 : c ≠ 0) (h1 : c ≠ 13) :
    Calls Try.prog 84 #[.pointer (some ⟨D, 0, none⟩), .int .i64 c] w (AftD w (.slice none 0 0) [] 0 false c) := by
  have R0 : Hid ((w.alloc (.cells #[.slice none 0 0, .slice none 0 0, .int .i64 0, .bool false] 30)).heap[w.heap.size]? = some (.cells #[.slice none 0 0, .slice none 0 0, .int .i64 0, .bool false] 30 (0, 0))) := Lib.hid (heap_alloc_new w _)
  have B0 : Hid (Below w.heap.size w (w.alloc (.cells #[.slice none 0 0, .slice none 0 0, .int .i64 0, .bool false] 30))) := Lib.hid ((Below.refl _ w).alloc (Nat.le_refl _) _)
  have e0 : (c != 0) = true := by simpa using h0
  have e1 : (c != 13) = true := by simpa using h1
  clear h0 h1
  go_enter Try.func84, Try.ntmps84
  go_wp2_with (refine wpList_store_row rfl 30 (.tmp 4) (.tmp 12) rfl w.heap.size #[.slice none 0 0, .slice none 0 0, .int .i64 0, .bool false] rfl rfl 30 _ R0.out (infoD4 _ _ _ _) rfl oneD4 ?_)
  refine bodyPost_ret (v := .tuple #[.agg #[.slice none 0 0, .slice none 0 0, .int .i64 0, .bool false], .int .i64 c]) ?_ rfl ?_
  · exact results_cell_row2 rfl _ _ w.heap.size 30 _ (0, 0) _ _ rfl rfl (setRow_heap _ _ _ _ _ _ R0.out) Try.underlying30 rfl (by kernel_rfl)
  · exact ⟨_, rfl, ot_none _ _, below_setRow B0.out (Nat.le_refl _) _⟩
set_option maxHeartbeats 1000000 in
set_option maxRecDepth 100000 in
theorem after_yes {w : World} {lo D S : Nat} {A : Option Addr} {m c2 : Nat} {ss : List ByteArray} {ps : List Pt} {fz c : Int} {off : Bool} (hd : Drv w lo D S (.slice A m c2) ss ps fz off) (h : c = 0 ∨ c = 13) :
    Calls Try.prog 84 #[.pointer (some ⟨D, 0, none⟩), .int .i64 c] w (AftD w (.slice A m c2) ss fz off c) := by
  have R0 : Hid ((w.alloc (.cells #[.slice none 0 0, .slice none 0 0, .int .i64 0, .bool false] 30)).heap[w.heap.size]? = some (.cells #[.slice none 0 0, .slice none 0 0, .int .i64 0, .bool false] 30 (0, 0))) := Lib.hid (heap_alloc_new w _)
  have B0 : Hid (Below w.heap.size w (w.alloc (.cells #[.slice none 0 0, .slice none 0 0, .int .i64 0, .bool false] 30))) := Lib.hid ((Below.refl _ w).alloc (Nat.le_refl _) _)
  have Z0 : Hid ((w.alloc (.cells #[.slice none 0 0, .slice none 0 0, .int .i64 0, .bool false] 30)).heap.size = w.heap.size + 1) := Lib.hid (by simp)
  have Hd := Lib.hid hd; clear hd
  have hcase : (c != 0) = false ∨ ((c != 0) = true ∧ (c != 13) = false) := by
    rcases h with rfl | rfl
    · exact .inl rfl
    · exact .inr ⟨rfl, rfl⟩
  clear h
  have key : ∀ e w1, (∃ v1, e = Ending.returned (.agg #[v1, .slice A m c2, .int .i64 fz, .bool off]) ∧ OT w1 (w.alloc (.cells #[.slice none 0 0, .slice none 0 0, .int .i64 0, .bool false] 30)).heap.size v1 ss ∧ Below (w.alloc (.cells #[.slice none 0 0, .slice none 0 0, .int .i64 0, .bool false] 30)).heap.size (w.alloc (.cells #[.slice none 0 0, .slice none 0 0, .int .i64 0, .bool false] 30)) w1) →
      ∃ Ao mo co, e = .returned (.agg #[.slice Ao mo co, .slice A m c2, .int .i64 fz, .bool off]) ∧ w1.heap[w.heap.size]? = some (.cells #[.slice none 0 0, .slice none 0 0, .int .i64 0, .bool false] 30 (0, 0)) ∧ OT w1 (w.heap.size + 1) (.slice Ao mo co) ss ∧ Below w.heap.size w w1 := by
    rintro e w1 ⟨v1, rfl, ho, hg⟩
    obtain ⟨Ao, mo, co, rfl⟩ := OT.slv ho
    exact ⟨Ao, mo, co, rfl, (hg.block _ (by rw [Z0.out]; omega)).trans R0.out, by rw [← Z0.out]; exact ho, B0.out.trans (hg.mono B0.out.size)⟩
  have Key := Lib.hid key; clear key
  have HD0 := Lib.hid (Hd.out.keep B0.out)
  rcases hcase with e0 | ⟨e0, e1⟩
  all_goals
    go_enter Try.func84, Try.ntmps84
    go_wp2_with fail
    generalize (w.alloc (.cells #[.slice none 0 0, .slice none 0 0, .int .i64 0, .bool false] 30)) = w0 at *
    refine (disk_any HD0.out).mono ?_
    rintro e w1 hk
    obtain ⟨Ao, mo, co, rfl, r1, o1, b1⟩ := Key.out e w1 hk
    have R1 := Lib.hid r1; have O1 := Lib.hid o1; have B1 := Lib.hid b1
    clear hk r1 o1 b1
    go_wp2_with (refine wpList_store_row rfl 30 (.tmp 4) (.tmp 15) rfl w.heap.size #[.slice Ao mo co, .slice A m c2, .int .i64 fz, .bool off] rfl rfl 30 _ R1.out (infoD4 _ _ _ _) rfl oneD4 ?_)
    refine bodyPost_ret (v := .tuple #[.agg #[.slice Ao mo co, .slice A m c2, .int .i64 fz, .bool off], .int .i64 c]) ?_ rfl ?_
    · exact results_cell_row2 rfl _ _ w.heap.size 30 _ (0, 0) _ _ rfl rfl (setRow_heap _ _ _ _ _ _ R1.out) Try.underlying30 rfl (by kernel_rfl)
    · exact ⟨_, rfl, own_lo (own_same O1.out fun q hq => setRow_other _ _ q _ (by have := (own_wi O1.out q hq).1; omega)) (Nat.le_succ _), below_setRow B1.out (Nat.le_refl _) _⟩
theorem wb_yes {ss : List ByteArray} {ps : List Pt} {fz k : Int} {off : Bool} {x : ByteArray} (h1 : dskOk ss ps fz = true) (h2 : x.size = 64) (h3 : inB k 0 ((ss.length : Int) - 1) = true) (h4 : wrC ps fz off ≠ 5) : wbY ss ps fz off k x = true := by simp [wbY, h1, h2, h3, h4]
theorem wrC_cases (ps : List Pt) (fz : Int) (off : Bool) : wrC ps fz off = 5 ∨ wrC ps fz off = 0 ∨ wrC ps fz off = 13 := by
  unfold wrC
  split
  · split
    · exact .inl rfl
    · exact .inr (.inl rfl)
  · exact .inr (.inr rfl)
set_option maxHeartbeats 2000000 in
set_option maxRecDepth 100000 in
theorem implWriteBlock_gen {B : Nat} {w : World} {v1 v2 : Value} {ss : List ByteArray} {ps : List Pt} {fz k : Int} {off : Bool} {x : ByteArray} (h1 : RiT B w v1 ss) (h2 : RiU B w v2 ps) (hB : B ≤ w.heap.size) (hx : x.size ≤ maxLen) :
    Calls Try.prog 35 #[.agg #[v1, v2, .int .i64 fz, .bool off], .int .i64 k, .string x] w (AnsDC (wbS ss ps fz off k x) (wbP ss ps fz off k x) (wbF ss ps fz off k x) (wbO ss ps fz off k x) (wbC ss ps fz off k x) w) := by
  have H1 := Lib.hid h1; obtain ⟨A1, c1, rfl, hl1, hm1, -⟩ := h1
  have H2 := Lib.hid h2; obtain ⟨A2, c2, rfl, -, -, -⟩ := h2
  unfold maxLen at hm1 hx
  have HB := Lib.hid (boxes2 w #[.slice A1 ss.length c1, .slice A2 ps.length c2, .int .i64 fz, .bool off] #[.slice none 0 0, .slice none 0 0, .int .i64 0, .bool false] 30 30)
  go_enter Try.func35, Try.ntmps35
  go_wp2_with fail
  generalize ((w.alloc (.cells #[.slice A1 ss.length c1, .slice A2 ps.length c2, .int .i64 fz, .bool off] 30)).alloc (.cells #[.slice none 0 0, .slice none 0 0, .int .i64 0, .bool false] 30)) = w0 at *
  refine (driveOf_any (H1.out.at hB HB.out.2.2.2) (H2.out.at hB HB.out.2.2.2) (Nat.le_refl _)).mono ?_
  rintro e w1 (⟨hok, rfl, g⟩ | ⟨hok, D, S, A, m, c, rfl, hd, g⟩)
  · have E : Hid (wbS ss ps fz off k x = [] ∧ wbP ss ps fz off k x = [] ∧ wbF ss ps fz off k x = 0 ∧ wbO ss ps fz off k x = false ∧ wbC ss ps fz off k x = 1) := Lib.hid ⟨by simp [wbS, wbY, hok], by simp [wbP, wbY, hok], by simp [wbF, wbY, hok], by simp [wbO, wbY, hok], by simp [wbC, hok]⟩
    have R1 : Hid (w1.heap[w.heap.size + 1]? = some (.cells #[.slice none 0 0, .slice none 0 0, .int .i64 0, .bool false] 30 (0, 0))) := Lib.hid ((g.block _ (by have := HB.out.2.2.1; omega)).trans HB.out.2.1)
    have B1 : Hid (Below w.heap.size w w1) := Lib.hid (HB.out.2.2.2.trans (g.mono HB.out.2.2.2.size))
    clear g hok
    go_wp2_with (first | (go_at_call 67; refine (isIndex_no _ _ _ Hi.out).mono ?_; rintro e w' ⟨rfl, rfl⟩) | (refine wpList_store_row rfl 30 (.tmp 6) (.tmp 22) rfl (w.heap.size + 1) #[.slice none 0 0, .slice none 0 0, .int .i64 0, .bool false] rfl rfl 30 _ R1.out (infoD4 _ _ _ _) rfl oneD4 ?_))
    refine bodyPost_ret (v := .tuple #[.agg #[.slice none 0 0, .slice none 0 0, .int .i64 0, .bool false], .int .i64 1]) ?_ rfl ?_
    · exact results_cell_row2 rfl _ _ (w.heap.size + 1) 30 _ (0, 0) _ _ rfl rfl (setRow_heap _ _ _ _ _ _ R1.out) Try.underlying30 rfl (by kernel_rfl)
    · rw [E.out.1, E.out.2.1, E.out.2.2.1, E.out.2.2.2.1, E.out.2.2.2.2]
      exact DskO.ans (DskO.nil _ _) (below_setRow B1.out (Nat.le_succ _) _)
  have R1 : Hid (w1.heap[w.heap.size + 1]? = some (.cells #[.slice none 0 0, .slice none 0 0, .int .i64 0, .bool false] 30 (0, 0))) := Lib.hid ((g.block _ (by have := HB.out.2.2.1; omega)).trans HB.out.2.1)
  have B1 : Hid (Below w.heap.size w w1) := Lib.hid (HB.out.2.2.2.trans (g.mono HB.out.2.2.2.size))
  have Hd := Lib.hid hd
  have HDB : Hid (DB w1 w.heap.size (.slice A1 ss.length c1) (.slice A2 ps.length c2) fz off) := Lib.hid ((g.block _ (by have := HB.out.2.2.1; omega)).trans HB.out.1)
  have Hlo : Hid (w.heap.size + 2 ≤ D ∧ w.heap.size + 2 ≤ S ∧ w0.heap.size = w.heap.size + 2 ∧ w0.heap.size ≤ w1.heap.size) := Lib.hid ⟨by have := hd.loD; have := HB.out.2.2.1; omega, by have := hd.loS; have := HB.out.2.2.1; omega, HB.out.2.2.1, g.size⟩
  have hdk := dskOk_iff.1 hok
  have Hok := Lib.hid hok
  have Hbd : Hid (ps.length ≤ 600 ∧ -1 ≤ fz ∧ fz ≤ 100000) := Lib.hid ⟨hdk.2.2.1, hdk.2.2.2.1, hdk.2.2.2.2.1⟩
  clear g hd hdk hok
  by_cases hs : x.size = 64
  rotate_left
  · have hsb : decide (x.size = 64) = false := decide_eq_false hs
    have E : Hid (wbS ss ps fz off k x = [] ∧ wbP ss ps fz off k x = [] ∧ wbF ss ps fz off k x = 0 ∧ wbO ss ps fz off k x = false ∧ wbC ss ps fz off k x = 1) := Lib.hid ⟨by simp [wbS, wbY, hsb], by simp [wbP, wbY, hsb], by simp [wbF, wbY, hsb], by simp [wbO, wbY, hsb], by simp [wbC, hsb]⟩
    have h64 : ((x.size : Int) != 64) = true := by simp; omega
    have h65 : ¬ (x.size : Int) = 64 := by omega
    clear hs hsb
    go_wp2_with (first | (go_at_call 67; refine (isIndex_no _ _ _ Hi.out).mono ?_; rintro e w' ⟨rfl, rfl⟩) | (refine wpList_store_row rfl 30 (.tmp 6) (.tmp 22) rfl (w.heap.size + 1) #[.slice none 0 0, .slice none 0 0, .int .i64 0, .bool false] rfl rfl 30 _ R1.out (infoD4 _ _ _ _) rfl oneD4 ?_))
    refine bodyPost_ret (v := .tuple #[.agg #[.slice none 0 0, .slice none 0 0, .int .i64 0, .bool false], .int .i64 1]) ?_ rfl ?_
    · exact results_cell_row2 rfl _ _ (w.heap.size + 1) 30 _ (0, 0) _ _ rfl rfl (setRow_heap _ _ _ _ _ _ R1.out) Try.underlying30 rfl (by kernel_rfl)
    · rw [E.out.1, E.out.2.1, E.out.2.2.1, E.out.2.2.2.1, E.out.2.2.2.2]
      exact DskO.ans (DskO.nil _ _) (below_setRow B1.out (Nat.le_succ _) _)
  have h64 : ((x.size : Int) != 64) = false := by simp; omega
  have h65 : (x.size : Int) = 64 := by omega
  have Hs := Lib.hid hs; clear hs
  have q0 := HDB.out.c0
  cases hi : inB k 0 ((ss.length : Int) - 1)
  · have E : Hid (wbS ss ps fz off k x = [] ∧ wbP ss ps fz off k x = [] ∧ wbF ss ps fz off k x = 0 ∧ wbO ss ps fz off k x = false ∧ wbC ss ps fz off k x = 2) := Lib.hid ⟨by simp [wbS, wbY, hi], by simp [wbP, wbY, hi], by simp [wbF, wbY, hi], by simp [wbO, wbY, hi], by simp [wbC, Hok.out, Hs.out, hi]⟩
    have Hi := Lib.hid hi
    clear hi
    go_wp2_with (first | (go_at_call 67; refine (isIndex_no _ _ _ Hi.out).mono ?_; rintro e w' ⟨rfl, rfl⟩) | (refine wpList_store_row rfl 30 (.tmp 6) (.tmp 29) rfl (w.heap.size + 1) #[.slice none 0 0, .slice none 0 0, .int .i64 0, .bool false] rfl rfl 30 _ R1.out (infoD4 _ _ _ _) rfl oneD4 ?_))
    refine bodyPost_ret (v := .tuple #[.agg #[.slice none 0 0, .slice none 0 0, .int .i64 0, .bool false], .int .i64 2]) ?_ rfl ?_
    · exact results_cell_row2 rfl _ _ (w.heap.size + 1) 30 _ (0, 0) _ _ rfl rfl (setRow_heap _ _ _ _ _ _ R1.out) Try.underlying30 rfl (by kernel_rfl)
    · rw [E.out.1, E.out.2.1, E.out.2.2.1, E.out.2.2.2.1, E.out.2.2.2.2]
      exact DskO.ans (DskO.nil _ _) (below_setRow B1.out (Nat.le_succ _) _)
  have Hi := Lib.hid hi
  have HY : Hid (wrC ps fz off ≠ 5 → wbS ss ps fz off k x = ss ∧ wbP ss ps fz off k x = wrP ps fz off k x ∧ wbF ss ps fz off k x = wrF ps fz off ∧ wbO ss ps fz off k x = wrO ps fz off) := Lib.hid (fun h => by
    have hy := wb_yes Hok.out Hs.out Hi.out h
    exact ⟨by simp [wbS, hy], by simp [wbP, hy], by simp [wbF, hy], by simp [wbO, hy]⟩)
  have HN : Hid (wrC ps fz off = 5 → wbS ss ps fz off k x = [] ∧ wbP ss ps fz off k x = [] ∧ wbF ss ps fz off k x = 0 ∧ wbO ss ps fz off k x = false) := Lib.hid (fun h => ⟨by simp [wbS, wbY, h], by simp [wbP, wbY, h], by simp [wbF, wbY, h], by simp [wbO, wbY, h]⟩)
  have HC : Hid (wbC ss ps fz off k x = wrC ps fz off) := Lib.hid (by simp [wbC, Hok.out, Hs.out, Hi.out])
  clear hi
  go_wp2_with ((go_at_call 67; refine (isIndex_yes _ _ _ Hi.out).mono ?_; rintro e w' ⟨rfl, rfl⟩))
  clear q0 h64 h65
  refine (write_any Hd.out (by have := Hlo.out; omega) Hbd.out.1 Hbd.out.2).mono ?_
  rintro e w2 ⟨rfl, A3, m3, c3, hd2, hb2⟩
  have Hd2 := Lib.hid hd2
  have B2 : Hid (Below w.heap.size w w2) := Lib.hid (B1.out.trans (hb2.mono (by have := Hlo.out; omega)))
  have R2 : Hid (w2.heap[w.heap.size + 1]? = some (.cells #[.slice none 0 0, .slice none 0 0, .int .i64 0, .bool false] 30 (0, 0))) := Lib.hid ((hb2.block _ (by have := Hlo.out; omega)).trans R1.out)
  have Z2 : Hid (w.heap.size + 2 ≤ w2.heap.size) := Lib.hid (by have := hb2.size; have := Hlo.out; omega)
  clear hd2 hb2
  have HC5 := Lib.hid (wrC_cases ps fz off)
  generalize wrC ps fz off = C at *
  go_wp2_with fail
  by_cases h5 : C = 5
  · have E := Lib.hid (HN.out h5)
    refine (after_no (by omega) (by omega)).mono ?_
    rintro e w3 ⟨v1, rfl, ho, hg⟩
    have hv1 := ho.2
    obtain ⟨Ao, mo, co, rfl⟩ := OT.slv ho
    have HO := Lib.hid ho; have B3 := Lib.hid (B2.out.trans (hg.mono B2.out.size))
    have R3 : Hid (w3.heap[w.heap.size + 1]? = some (.cells #[.slice none 0 0, .slice none 0 0, .int .i64 0, .bool false] 30 (0, 0))) := Lib.hid ((hg.block _ (by have := Z2.out; omega)).trans R2.out)
    clear ho hg hv1 h5
    go_wp2_with (refine wpList_store_row rfl 30 (.tmp 6) (.tmp 37) rfl (w.heap.size + 1) #[.slice Ao mo co, .slice none 0 0, .int .i64 0, .bool false] rfl rfl 30 _ R3.out (infoD4 _ _ _ _) rfl oneD4 ?_)
    refine bodyPost_ret (v := .tuple #[.agg #[.slice Ao mo co, .slice none 0 0, .int .i64 0, .bool false], .int .i64 C]) ?_ rfl ?_
    · exact results_cell_row2 rfl _ _ (w.heap.size + 1) 30 _ (0, 0) _ _ rfl rfl (setRow_heap _ _ _ _ _ _ R3.out) Try.underlying30 rfl (by kernel_rfl)
    · rw [E.out.1, E.out.2.1, E.out.2.2.1, E.out.2.2.2, HC.out]
      exact DskO.ans ⟨own_lo (own_same HO.out fun q hq => setRow_other _ _ q _ (by have := (own_wi HO.out q hq).1; have := Z2.out; omega)) (by have := Z2.out; omega), ou_none _ _, apart_none _⟩ (below_setRow B3.out (Nat.le_succ _) _)
  · have E := Lib.hid (HY.out h5)
    refine (after_yes Hd2.out (HC5.out.resolve_left h5)).mono ?_
    rintro e w3 ⟨v1, rfl, ho, hg⟩
    obtain ⟨Ao, mo, co, rfl⟩ := OT.slv ho
    have HO := Lib.hid ho; have B3 := Lib.hid (B2.out.trans (hg.mono B2.out.size))
    have R3 : Hid (w3.heap[w.heap.size + 1]? = some (.cells #[.slice none 0 0, .slice none 0 0, .int .i64 0, .bool false] 30 (0, 0))) := Lib.hid ((hg.block _ (by have := Z2.out; omega)).trans R2.out)
    have HU : Hid (OU w3 (w.heap.size + 2) (.slice A3 m3 c3) (wrP ps fz off k x)) := Lib.hid (own_lo (own_bel Hd2.out.pend hg) (by have := Hlo.out; omega))
    clear ho hg h5
    go_wp2_with (refine wpList_store_row rfl 30 (.tmp 6) (.tmp 37) rfl (w.heap.size + 1) #[.slice Ao mo co, .slice A3 m3 c3, .int .i64 (wrF ps fz off), .bool (wrO ps fz off)] rfl rfl 30 _ R3.out (infoD4 _ _ _ _) rfl oneD4 ?_)
    refine bodyPost_ret (v := .tuple #[.agg #[.slice Ao mo co, .slice A3 m3 c3, .int .i64 (wrF ps fz off), .bool (wrO ps fz off)], .int .i64 C]) ?_ rfl ?_
    · exact results_cell_row2 rfl _ _ (w.heap.size + 1) 30 _ (0, 0) _ _ rfl rfl (setRow_heap _ _ _ _ _ _ R3.out) Try.underlying30 rfl (by kernel_rfl)
    · rw [E.out.1, E.out.2.1, E.out.2.2.1, E.out.2.2.2, HC.out]
      refine DskO.ans ⟨own_lo (own_same HO.out fun q hq => setRow_other _ _ q _ (by have := (own_wi HO.out q hq).1; have := Z2.out; omega)) (by have := Z2.out; omega), own_lo (own_same HU.out fun q hq => setRow_other _ _ q _ (by have := (own_wi HU.out q hq).1; omega)) (by omega), ?_⟩ (below_setRow B3.out (Nat.le_succ _) _)
      exact OT.ap (own_lo HO.out (Nat.zero_le _)) (own_lo HU.out (Nat.zero_le _))
theorem implWriteBlock_any {w : World} {A1 A2 : Option Addr} {ss : List ByteArray} {ps : List Pt} {fz k : Int} {off : Bool} {x : ByteArray} (h1 : RiT w.heap.size w (.slice A1 ss.length ss.length) ss) (h2 : RiU w.heap.size w (.slice A2 ps.length ps.length) ps) (hk : (Lit.int .i64 k).wf = true) (hx : x.size ≤ maxLen) :
    Calls Try.prog 35 #[.agg #[.slice A1 ss.length ss.length, .slice A2 ps.length ps.length, .int .i64 fz, .bool off], .int .i64 k, .string x] w (AnsDC (wbS ss ps fz off k x) (wbP ss ps fz off k x) (wbF ss ps fz off k x) (wbO ss ps fz off k x) (wbC ss ps fz off k x) w) := implWriteBlock_gen h1 h2 (Nat.le_refl _) hx
end Go.Proofs.Ytpjkeikaonkohaa
