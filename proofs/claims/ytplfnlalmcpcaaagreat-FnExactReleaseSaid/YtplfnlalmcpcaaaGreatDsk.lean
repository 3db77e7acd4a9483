/- Disks in memory; contracts of the laws' functions that bound, copy, compare, mark and hold them. No statement is proved here. -/
import Derived.Test.YtplfnlalmcpcaaaGreatMrU
namespace Go.Proofs.YtplfnlalmcpcaaaGreat
open Go.RowKit
set_option linter.unusedVariables false
set_option maxHeartbeats 1000000 in
theorem szDisk_any {B : Nat} {w : World} {v1 v2 : Value} {ss : List ByteArray} {ps : List Pt} {fz : Int} {off : Bool} (h1 : RiT B w v1 ss) (h2 : RiU B w v2 ps) (hB : B ≤ w.heap.size) (L : Int) (hL0 : 0 ≤ L) (hL : L ≤ 1048576) :
    Calls Tryz.prog 35 #[.agg #[v1, v2, .int .i64 fz, .bool off], .int .i64 L] w (Left L (SmT ss ∧ SmU ps) w) := by
  have H1 := Lib.hid h1; obtain ⟨A1, c1, rfl, -, -, -⟩ := h1
  have H2 := Lib.hid h2; obtain ⟨A2, c2, rfl, -, -, -⟩ := h2
  have hp : SmT ss → SmU ps → SmT ss ∧ SmU ps := fun a b => ⟨a, b⟩
  generalize (SmT ss ∧ SmU ps) = P at *
  have HP := Lib.hid hp; clear hp
  have Hb0 : Hid (Below w.heap.size w (w.alloc (.cells #[.slice A1 ss.length c1, .slice A2 ps.length c2, .int .i64 fz, .bool off] 25))) := Lib.hid ((Below.refl _ w).alloc (Nat.le_refl _) _)
  have C0 : Hid ((w.alloc (.cells #[.slice A1 ss.length c1, .slice A2 ps.length c2, .int .i64 fz, .bool off] 25)).cell? ⟨w.heap.size, 1, none⟩ = some (.slice A2 ps.length c2)) := Lib.hid (by rw [cell_of_row _ _ _ _ _ _ (heap_alloc_new w _)]; rfl)
  have Lt0 : Hid (w.heap.size < (w.alloc (.cells #[.slice A1 ss.length c1, .slice A2 ps.length c2, .int .i64 fz, .bool off] 25)).heap.size) := Lib.hid (by simp)
  go_enter Tryz.func35, Tryz.ntmps35
  go_wp2_with fail
  generalize (w.alloc (.cells #[.slice A1 ss.length c1, .slice A2 ps.length c2, .int .i64 fz, .bool off] 25)) = w0 at *
  refine (szT_any (H1.out.at hB Hb0.out) L hL0 hL (Nat.le_refl _)).mono ?_
  rintro e w1 ⟨l1, rfl, hn1, hl1, hp, g⟩
  have Hp1 := Lib.hid hp; clear hp
  have Hb1 : Hid (Below w.heap.size w w1) := Lib.hid (Hb0.out.trans (g.mono Hb0.out.size))
  have C1 : Hid (w1.cell? ⟨w.heap.size, 1, none⟩ = some (.slice A2 ps.length c2)) := Lib.hid ((g.cell (p := ⟨w.heap.size, 1, none⟩) Lt0.out).trans C0.out)
  clear g
  have q1 := C1.out
  by_cases neg1 : l1 < 0
  · go_wp2_with fail
    go_ret
    exact ⟨-1, rfl, by omega, by omega, by omega, Hb1.out⟩
  go_wp2_with fail
  clear q1
  refine (szPuts_any (H2.out.at hB Hb1.out) (Nat.le_refl _) l1 (by omega) (by omega)).mono ?_
  rintro e w2 ⟨l2, rfl, hn2, hl2, hp, g⟩
  have Hp2 := Lib.hid hp; clear hp
  have Hb2 : Hid (Below w.heap.size w w2) := Lib.hid (Hb1.out.trans (g.mono Hb1.out.size))
  clear g
  by_cases neg2 : l2 < 0
  · go_wp2_with fail
    go_ret
    exact ⟨-1, rfl, by omega, by omega, by omega, Hb2.out⟩
  go_wp2_with fail
  go_ret
  exact ⟨l2, rfl, by omega, by omega, fun h => HP.out (Hp1.out (by omega)) (Hp2.out h), Hb2.out⟩
/-- A disk in new memory. -/
def DskAt (ss : List ByteArray) (ps : List Pt) (fz : Int) (off : Bool) (w : World) (e : Ending) (w' : World) : Prop := ∃ A1 A2 : Option Addr, e = .returned (.agg #[.slice A1 ss.length ss.length, .slice A2 ps.length ps.length, .int .i64 fz, .bool off]) ∧
  OT w' w.heap.size (.slice A1 ss.length ss.length) ss ∧ OU w' w.heap.size (.slice A2 ps.length ps.length) ps ∧ Apart (.slice A1 ss.length ss.length) (.slice A2 ps.length ps.length) ∧ Below w.heap.size w w'
set_option maxHeartbeats 2000000 in
set_option maxRecDepth 100000 in
theorem toDisk_any {B : Nat} {w : World} {v1 v2 : Value} {ss : List ByteArray} {ps : List Pt} {fz : Int} {off : Bool} (h1 : RiT B w v1 ss) (h2 : RiU B w v2 ps) (hB : B ≤ w.heap.size) (hs : SmT ss) (hs2 : SmU ps) :
    Calls Tryz.prog 41 #[.agg #[v1, v2, .int .i64 fz, .bool off]] w (DskAt ss ps fz off w) := by
  have H1 := Lib.hid h1; obtain ⟨A1, c1, rfl, -, -, -⟩ := h1
  have H2 := Lib.hid h2; obtain ⟨A2, c2, rfl, -, -, -⟩ := h2
  have Hs := Lib.hid hs; have Hs2 := Lib.hid hs2; clear hs hs2
  have Tri0 := Lib.hid (Tri.start w 25 34 #[.slice A1 ss.length c1, .slice A2 ps.length c2, .int .i64 fz, .bool off] #[.slice none 0 0, .slice none 0 0, .int .i64 0, .bool false] #[.slice none 0 0, .slice none 0 0, .int .i64 0, .bool false])
  have Z0 : Hid ((((w.alloc (.cells #[.slice A1 ss.length c1, .slice A2 ps.length c2, .int .i64 fz, .bool off] 25)).alloc (.cells #[.slice none 0 0, .slice none 0 0, .int .i64 0, .bool false] 34)).alloc (.cells #[.slice none 0 0, .slice none 0 0, .int .i64 0, .bool false] 34)).heap.size = w.heap.size + 3) := Lib.hid (by simp)
  go_enter Tryz.func41, Tryz.ntmps41
  go_wp2_with fail
  generalize (((w.alloc (.cells #[.slice A1 ss.length c1, .slice A2 ps.length c2, .int .i64 fz, .bool off] 25)).alloc (.cells #[.slice none 0 0, .slice none 0 0, .int .i64 0, .bool false] 34)).alloc (.cells #[.slice none 0 0, .slice none 0 0, .int .i64 0, .bool false] 34)) = W0 at *
  refine (toT_any (H1.out.at hB Tri0.out.2.2.2.1) (Nat.le_refl _) Hs.out.1).mono ?_
  rintro e w1 ⟨rfl, r, zz, g⟩
  have tri := Tri0.out.after g
  have O1 : Hid (OT w1 (w.heap.size + 3) (.slice (some ⟨W0.heap.size, 0, none⟩) ss.length ss.length) ss) := Lib.hid (OT.of_row r (by have := Z0.out; omega) (by unfold maxLen; have := Hs.out.1; omega))
  have Z1 : Hid (w1.heap.size = w.heap.size + 4) := Lib.hid (by rw [zz, Z0.out])
  have q1 := tri.box 1 _ rfl
  have q2 := tri.out 0 _ rfl
  have q3 := tri.free 0
  have Tri1 := Lib.hid (tri.set 0 (.slice (some ⟨W0.heap.size, 0, none⟩) ss.length ss.length))
  have O1s : Hid (OT (w1.setCell ⟨w.heap.size + 1 + 1, 0, none⟩ (.slice (some ⟨W0.heap.size, 0, none⟩) ss.length ss.length)) (w.heap.size + 3) (.slice (some ⟨W0.heap.size, 0, none⟩) ss.length ss.length) ss) := Lib.hid (own_same O1.out fun q hq => heap_setCell_other _ ⟨w.heap.size + 1 + 1, 0, none⟩ q _ (fun e => by have := own_wi O1.out q hq; simp at e; omega))
  have Z1s : Hid ((w1.setCell ⟨w.heap.size + 1 + 1, 0, none⟩ (.slice (some ⟨W0.heap.size, 0, none⟩) ss.length ss.length)).heap.size = w.heap.size + 4) := Lib.hid (by simp [World.setCell, Z1.out])
  clear r zz g tri
  go_wp2_with fail
  clear q1 q2 q3
  generalize (w1.setCell ⟨w.heap.size + 1 + 1, 0, none⟩ (.slice (some ⟨W0.heap.size, 0, none⟩) ss.length ss.length)) = W1 at *
  refine (toPuts_any (H2.out.at hB Tri1.out.2.2.2.1) (Nat.le_refl _) Hs2.out.1).mono ?_
  rintro e w2 ⟨rfl, r, g⟩
  have tri := Tri1.out.after g
  have O2 : Hid (OU w2 (w.heap.size + 3) (.slice (some ⟨W1.heap.size, 0, none⟩) ps.length ps.length) ps) := Lib.hid (OU.of_row r (by have := Z1s.out; omega) (by unfold maxLen; have := Hs2.out.1; omega))
  have O1' : Hid (OT w2 (w.heap.size + 3) (.slice (some ⟨W0.heap.size, 0, none⟩) ss.length ss.length) ss) := Lib.hid (own_bel O1s.out g)
  have q1 := tri.box 2 _ rfl
  have q4 := tri.box 3 _ rfl
  have q2 := tri.out 1 _ rfl
  have q3 := tri.free 1
  have q5 := tri.out 2 _ rfl
  have q6 := tri.free 2
  have q7 := tri.out 3 _ rfl
  have q8 := tri.free 3
  have Tri2 := Lib.hid (((tri.set 1 (.slice (some ⟨W1.heap.size, 0, none⟩) ps.length ps.length)).set 2 (.int .i64 fz)).set 3 (.bool off))
  have HSC : Hid (∀ q, q ≠ w.heap.size + 1 + 1 → (((w2.setCell ⟨w.heap.size + 1 + 1, 1, none⟩ (.slice (some ⟨W1.heap.size, 0, none⟩) ps.length ps.length)).setCell ⟨w.heap.size + 1 + 1, 2, none⟩ (.int .i64 fz)).setCell ⟨w.heap.size + 1 + 1, 3, none⟩ (.bool off)).heap[q]? = w2.heap[q]?) := Lib.hid (fun q hq => by
    rw [heap_setCell_other _ ⟨w.heap.size + 1 + 1, 3, none⟩ q _ hq, heap_setCell_other _ ⟨w.heap.size + 1 + 1, 2, none⟩ q _ hq, heap_setCell_other _ ⟨w.heap.size + 1 + 1, 1, none⟩ q _ hq])
  have Hi9 : Hid ((Tryz.prog.info? 34).map (·.size) = some (#[.slice (some ⟨W0.heap.size, 0, none⟩) ss.length ss.length, .slice (some ⟨W1.heap.size, 0, none⟩) ps.length ps.length, .int .i64 fz, .bool off] : Array Value).size) := Lib.hid (by kernel_rfl)
  have H19 : Hid ((#[.slice (some ⟨W0.heap.size, 0, none⟩) ss.length ss.length, .slice (some ⟨W1.heap.size, 0, none⟩) ps.length ps.length, .int .i64 fz, .bool off] : Array Value).all (·.oneCell') = true) := Lib.hid (by simp [Value.oneCell'])
  clear r g tri
  go_wp2_with (first | (refine wpList_load_row rfl 34 (.tmp 3) rfl _ rfl 34 _ (0, 0) _ Tri2.out.2.2.1 Tryz.underlying34 rfl (by kernel_rfl) ?_) | (refine wpList_store_row rfl 34 (.tmp 2) (.tmp 18) rfl (w.heap.size + 1) #[.slice (some ⟨W0.heap.size, 0, none⟩) ss.length ss.length, .slice (some ⟨W1.heap.size, 0, none⟩) ps.length ps.length, .int .i64 fz, .bool off] rfl rfl 34 _ Tri2.out.2.1 Hi9.out rfl H19.out ?_))
  refine bodyPost_ret (v := .agg #[.slice (some ⟨W0.heap.size, 0, none⟩) ss.length ss.length, .slice (some ⟨W1.heap.size, 0, none⟩) ps.length ps.length, .int .i64 fz, .bool off]) ?_ rfl ?_
  · exact results_cell_row rfl _ _ (w.heap.size + 1) 34 _ (0, 0) _ rfl (setRow_heap _ _ _ _ _ _ Tri2.out.2.1) Tryz.underlying34 rfl (by kernel_rfl)
  · refine ⟨_, _, rfl, own_lo (own_same O1'.out fun q hq => ?_) (Nat.le_add_right _ 3), own_lo (own_same O2.out fun q hq => ?_) (Nat.le_add_right _ 3), fun q hq he => ?_, below_setRow Tri2.out.2.2.2.1 (by omega) _⟩
    · have := own_wi O1'.out q hq
      rw [setRow_other _ _ q _ (by omega), HSC.out q (by omega)]
    · have := own_wi O2.out q hq
      rw [setRow_other _ _ q _ (by omega), HSC.out q (by omega)]
    · simp only [Value.ownBlock, Option.some.injEq] at hq he
      have h3 := own_wi O1s.out W0.heap.size rfl
      omega
end Go.Proofs.YtplfnlalmcpcaaaGreat
