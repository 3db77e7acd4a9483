/- New disks: the model's function. No statement is proved here. -/
import Derived.Test.YtpjkeikaonkohaaDkN
import Derived.Test.YtpjkeikaonkohaaAcc
namespace Go.Proofs.Ytpjkeikaonkohaa
open Go.RowKit
set_option linter.unusedVariables false
theorem DskO.ans {w W : World} {v1 v2 : Value} {ss : List ByteArray} {ps : List Pt} {fz c : Int} {off : Bool} (h : DskO W w.heap.size v1 v2 ss ps) (hb : Below w.heap.size w W) : AnsDC ss ps fz off c w (.returned (.tuple #[.agg #[v1, v2, .int .i64 fz, .bool off], .int .i64 c])) W := ⟨v1, v2, rfl, h, hb⟩
def ndS (n : Int) : List ByteArray := if inB n 16 256 then zs n.toNat else []
def ndF (n : Int) : Int := if inB n 16 256 then -1 else 0
def ndC (n : Int) : Int := if inB n 16 256 then 0 else 2
set_option maxHeartbeats 1000000 in
set_option maxRecDepth 100000 in
theorem specNewDisk_any (n : Int) (w : World) (hn : InI n) : Calls Try.prog 26 #[.int .i64 n] w (AnsDC (ndS n) [] (ndF n) false (ndC n) w) := by
  have Hb0 : Hid (Below w.heap.size w (w.alloc (.cells #[.slice none 0 0, .slice none 0 0, .int .i64 0, .bool false] 30))) := Lib.hid ((Below.refl _ w).alloc (Nat.le_refl _) _)
  have R0 : Hid ((w.alloc (.cells #[.slice none 0 0, .slice none 0 0, .int .i64 0, .bool false] 30)).heap[w.heap.size]? = some (.cells #[.slice none 0 0, .slice none 0 0, .int .i64 0, .bool false] 30 (0, 0))) := Lib.hid (heap_alloc_new w _)
  have Z0 : Hid ((w.alloc (.cells #[.slice none 0 0, .slice none 0 0, .int .i64 0, .bool false] 30)).heap.size = w.heap.size + 1) := Lib.hid (by simp)
  cases hb : inB n 16 256
  · have h1 : ndS n = [] := by simp [ndS, hb]
    have h2 : ndF n = 0 := by simp [ndF, hb]
    have h3 : ndC n = 2 := by simp [ndC, hb]
    rw [h1, h2, h3]
    clear h1 h2 h3
    have E0 := Lib.hid hb; clear hb
    have Hi9 : Hid ((Try.prog.info? 30).map (·.size) = some (#[.slice none 0 0, .slice none 0 0, .int .i64 0, .bool false] : Array Value).size) := Lib.hid (by kernel_rfl)
    have H19 : Hid ((#[.slice none 0 0, .slice none 0 0, .int .i64 0, .bool false] : Array Value).all (·.oneCell') = true) := Lib.hid (by simp [Value.oneCell'])
    go_enter Try.func26, Try.ntmps26
    go_wp2_with (first | (go_at_call 72; refine (l00In_any _ _ _ _).mono ?_; rintro e w' ⟨rfl, rfl⟩; rw [E0.out]) | (refine wpList_store_row rfl 30 (.tmp 2) (.tmp 7) rfl w.heap.size #[.slice none 0 0, .slice none 0 0, .int .i64 0, .bool false] rfl rfl 30 #[.slice none 0 0, .slice none 0 0, .int .i64 0, .bool false] R0.out Hi9.out rfl H19.out ?_))
    refine bodyPost_ret (v := .tuple #[.agg #[.slice none 0 0, .slice none 0 0, .int .i64 0, .bool false], .int .i64 2]) ?_ rfl ?_
    · first
        | exact results_cell_row2 rfl _ _ w.heap.size 30 _ (0, 0) _ _ rfl rfl (setRow_heap _ _ _ _ _ _ R0.out) Try.underlying30 rfl (by kernel_rfl)
        | exact results_cell_row2 rfl _ _ w.heap.size 30 _ (0, 0) _ _ rfl rfl R0.out Try.underlying30 rfl (by kernel_rfl)
    · first
        | exact DskO.ans (DskO.nil _ _) (below_setRow Hb0.out (Nat.le_refl _) _)
        | exact DskO.ans (DskO.nil _ _) Hb0.out
  · have h1 : ndS n = zs n.toNat := by simp [ndS, hb]
    have h2 : ndF n = -1 := by simp [ndF, hb]
    have h3 : ndC n = 0 := by simp [ndC, hb]
    rw [h1, h2, h3]
    clear h1 h2 h3
    have E0 := Lib.hid hb; clear hb
    go_enter Try.func26, Try.ntmps26
    go_wp2_with ((go_at_call 72; refine (l00In_any _ _ _ _).mono ?_; rintro e w' ⟨rfl, rfl⟩; rw [E0.out]))
    generalize (w.alloc (.cells #[.slice none 0 0, .slice none 0 0, .int .i64 0, .bool false] 30)) = w0 at *
    refine (l09New_any n w0 E0.out).mono ?_
    rintro e w1 ⟨v1, v2, rfl, hd, g⟩
    have HD := Lib.hid hd; have G := Lib.hid g; clear hd g
    have R1 : Hid (w1.heap[w.heap.size]? = some (.cells #[.slice none 0 0, .slice none 0 0, .int .i64 0, .bool false] 30 (0, 0))) := Lib.hid ((G.out.block _ (by have := Z0.out; omega)).trans R0.out)
    have Hi9 : Hid ((Try.prog.info? 30).map (·.size) = some (#[v1, v2, .int .i64 (-1), .bool false] : Array Value).size) := Lib.hid (by kernel_rfl)
    have H19 : Hid ((#[v1, v2, .int .i64 (-1), .bool false] : Array Value).all (·.oneCell') = true) := Lib.hid (by
      rcases OT.sl HD.out.1 with ⟨rfl, _⟩ | ⟨g, cap, rfl, _⟩ <;> rcases OU.sl HD.out.2.1 with ⟨rfl, _⟩ | ⟨g2, cap2, rfl, _⟩ <;> simp [Value.oneCell'])
    go_wp2_with (refine wpList_store_row rfl 30 (.tmp 2) (.tmp 9) rfl w.heap.size #[v1, v2, .int .i64 (-1), .bool false] rfl rfl 30 #[.slice none 0 0, .slice none 0 0, .int .i64 0, .bool false] R1.out Hi9.out rfl H19.out ?_)
    refine bodyPost_ret (v := .tuple #[.agg #[v1, v2, .int .i64 (-1), .bool false], .int .i64 0]) ?_ rfl ?_
    · exact results_cell_row2 rfl _ _ w.heap.size 30 _ (0, 0) _ _ rfl rfl (setRow_heap _ _ _ _ _ _ R1.out) Try.underlying30 rfl (by kernel_rfl)
    · have hb1 : Below w.heap.size w w1 := Hb0.out.trans (G.out.mono Hb0.out.size)
      refine DskO.ans (DskO.lo (HD.out.same (r := w.heap.size) (by have := Z0.out; omega) (fun k hk => setRow_other _ _ k _ hk)) (by have := Z0.out; omega)) (below_setRow hb1 (Nat.le_refl _) _)
theorem ndS_in (n : Int) : ∀ x ∈ ndS n, x.size ≤ maxLen := by
  intro x hx
  unfold ndS at hx
  split at hx
  · rw [List.eq_of_mem_replicate hx]; decide
  · cases hx
theorem ndS_le (n : Int) : (ndS n).length ≤ 1048576 := by
  unfold ndS
  split
  · rename_i h; rw [zs_len]; have := inB_iff.1 h; omega
  · simp
end Go.Proofs.Ytpjkeikaonkohaa
