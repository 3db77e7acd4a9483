/- Which headers are valid: contracts of both sides. No statement is proved here. -/
import Derived.Test.YtlickjmdlooapaaHdr
import Derived.Test.YtlickjmdlooapaaDimC
namespace Go.Proofs.Ytlickjmdlooapaa
open Go.RowKit
set_option linter.unusedVariables false
def msgOk (m : EM) : Bool := inB m.1 1 9 && (inB m.2.1 0 255 && decide (m.2.2.size ≤ 200))
def msgAt (ms : List EM) (i : Nat) : Bool := msgOk (ms.getD i (0, 0, ByteArray.empty))
theorem msgAt_at (ms : List EM) (i : Nat) (h : i < ms.length) : msgAt ms i = msgOk ms[i] := by unfold msgAt; rw [List.getD_eq_getElem?_getD, List.getElem?_eq_getElem h]; rfl
def msgsOk (ms : List EM) : Bool := allTo (msgAt ms) ms.length
def hdrOk (k r : Int) (ms : List EM) : Bool := (inB k 1 3 && (inB r 0 1000 && decide (ms.length ≤ 24))) && msgsOk ms
set_option maxHeartbeats 1000000 in
theorem isInvalid_any (k f : Int) (s : ByteArray) (w : World) :
    Calls Try.prog 110 #[.agg #[.int .i64 k, .int .i64 f, .string s]] w (GivesB (.bool (!msgOk (k, f, s))) w) := by
  have Hb0 : Hid (Below w.heap.size w (w.alloc (.cells #[.int .i64 k, .int .i64 f, .string s] 70))) := Lib.hid ((Below.refl _ w).alloc (Nat.le_refl _) _)
  have HM : Hid (msgOk (k, f, s) = (inB k 1 9 && (inB f 0 255 && decide (s.size ≤ 200)))) := Lib.hid rfl
  generalize msgOk (k, f, s) = r at *
  by_cases h1 : k < 1
  · have Hf : Hid (r = false) := Lib.hid (by rw [HM.out]; simp [inB]; omega)
    go_enter Try.func110, Try.ntmps110
    go_wp2_with fail
    go_ret
    exact ⟨by rw [Hf.out]; rfl, Hb0.out⟩
  by_cases h2 : k > 9
  · have Hf : Hid (r = false) := Lib.hid (by rw [HM.out]; simp [inB]; omega)
    go_enter Try.func110, Try.ntmps110
    go_wp2_with fail
    go_ret
    exact ⟨by rw [Hf.out]; rfl, Hb0.out⟩
  by_cases h3 : f < 0
  · have Hf : Hid (r = false) := Lib.hid (by rw [HM.out]; simp [inB]; omega)
    go_enter Try.func110, Try.ntmps110
    go_wp2_with fail
    go_ret
    exact ⟨by rw [Hf.out]; rfl, Hb0.out⟩
  by_cases h4 : f > 255
  · have Hf : Hid (r = false) := Lib.hid (by rw [HM.out]; simp [inB]; omega)
    go_enter Try.func110, Try.ntmps110
    go_wp2_with fail
    go_ret
    exact ⟨by rw [Hf.out]; rfl, Hb0.out⟩
  by_cases h5 : (s.size : Int) > 200
  · have Hf : Hid (r = false) := Lib.hid (by rw [HM.out]; simp [inB]; omega)
    go_enter Try.func110, Try.ntmps110
    go_wp2_with fail
    go_ret
    exact ⟨by rw [Hf.out]; rfl, Hb0.out⟩
  · have Hf : Hid (r = true) := Lib.hid (by rw [HM.out]; simp [inB]; omega)
    go_enter Try.func110, Try.ntmps110
    go_wp2_with fail
    go_ret
    exact ⟨by rw [Hf.out]; rfl, Hb0.out⟩
set_option maxHeartbeats 2000000 in
set_option maxRecDepth 100000 in
theorem indexInv_any {B : Nat} {w : World} {v : Value} {ms : List EM} (h : RiM B w v ms) (hB : B ≤ w.heap.size) :
    Calls Try.prog 113 #[v, .func (.func 110) #[] #[]] w
      fun e w' => (∃ n : Int, e = .returned (.int .i64 n) ∧ -1 ≤ n ∧ n < 9223372036854775808 ∧ decide (0 ≤ n) = !msgsOk ms) ∧ Below w.heap.size w w' := by
  obtain ⟨A, cap, rfl, hl, hcc, hx⟩ := h
  have Hx := Lib.hid hx; clear hx
  unfold maxLen at hcc
  have HF : Hid (msgsOk ms = allTo (msgAt ms) ms.length) := Lib.hid rfl
  generalize msgsOk ms = r at *
  have Hbad : Hid (∀ k, k < ms.length → msgAt ms k = false → r = false) := Lib.hid (fun k hk h => by rw [HF.out, allTo_bad _ k _ hk h])
  go_enter Try.func113, Try.ntmps113
  go_wp2
  go_loopw [8] (fun i wr => ∃ k : Nat, k ≤ ms.length ∧ i = .int .i64 k ∧ Below w.heap.size w wr ∧ allTo (msgAt ms) k = true) (fun i _ => ms.length - (intOf i).toNat)
  case atStart => exact ⟨0, Nat.zero_le _, rfl, Below.refl _ _, allTo_zero _⟩
  case round =>
    obtain ⟨k, hk, rfl, hbel, hall⟩ := hrel
    have Hall := Lib.hid hall; have Hbel := Lib.hid hbel
    clear hall
    by_cases hlt : k < ms.length
    · obtain ⟨b1, o, rfl, hb, hc0, hc1, hc2, -⟩ := Hx.out k hlt
      have Hld := Lib.hid (run_load_cells (P := Try.prog) wr b1 (o + k * 3) 70 _ [.int .i64 ms[k].1, .int .i64 ms[k].2.1, .string ms[k].2.2] (cells_M (by rw [hbel.cell (show b1 < _ from by omega)]; exact hc0) (by rw [hbel.cell (show b1 < _ from by omega)]; exact hc1) (by rw [hbel.cell (show b1 < _ from by omega)]; exact hc2)) Try.underlying70 rfl)
      have Hp : Hid (msgAt ms k = msgOk (ms[k].1, ms[k].2.1, ms[k].2.2)) := Lib.hid (msgAt_at ms k hlt)
      have Hk2 := Lib.hid (allTo_succ (msgAt ms) k)
      have Hno := Lib.hid (Hbad.out k hlt)
      have hs := hbel.size
      clear hc0 hc1 hc2 hbel
      generalize ms[k].1 = z at *
      generalize ms[k].2.1 = f at *
      generalize ms[k].2.2 = s at *
      have HC := Lib.hid (isInvalid_any z f s wr)
      generalize msgOk (z, f, s) = y at *
      cases y
      · have Hf := Lib.hid (Hno.out Hp.out)
        go_wp2_with (refine wpList_load_agg rfl 70 (.tmp 14) rfl _ rfl _ Hld.out ?_)
        refine HC.out.mono ?_
        rintro e w2 ⟨rfl, g⟩
        have Hb2 : Hid (Below w.heap.size w w2) := Lib.hid (Hbel.out.trans (g.mono hs))
        clear g
        go_wp2
        go_ret
        exact ⟨⟨(k : Int), rfl, by omega, by omega, by rw [Hf.out]; simp⟩, Hb2.out⟩
      · have Hall2 : Hid (allTo (msgAt ms) (k + 1) = true) := Lib.hid (by rw [Hk2.out, Hall.out, Hp.out]; rfl)
        go_wp2_with (refine wpList_load_agg rfl 70 (.tmp 14) rfl _ rfl _ Hld.out ?_)
        refine HC.out.mono ?_
        rintro e w2 ⟨rfl, g⟩
        have Hb2 : Hid (Below w.heap.size w w2) := Lib.hid (Hbel.out.trans (g.mono hs))
        clear g
        go_wp2
        go_roundw
        case rel => exact ⟨k + 1, by omega, by go_num, Hb2.out, Hall2.out⟩
        case measure => simp [intOf]; omega
    · obtain rfl : k = ms.length := by omega
      have Hf : Hid (r = true) := Lib.hid (by rw [HF.out, Hall.out])
      clear hbel
      go_wp2
      go_ret
      exact ⟨⟨-1, rfl, by omega, by omega, by rw [Hf.out]; rfl⟩, Hbel.out⟩
set_option maxHeartbeats 2000000 in
set_option maxRecDepth 100000 in
theorem containsInv_any {B : Nat} {w : World} {v : Value} {ms : List EM} (h : RiM B w v ms) (hB : B ≤ w.heap.size) :
    Calls Try.prog 109 #[v, .func (.func 110) #[] #[]] w (GivesB (.bool (!msgsOk ms)) w) := by
  have HC := Lib.hid (indexInv_any h hB)
  obtain ⟨A, cap, rfl, -, -, -⟩ := h
  generalize msgsOk ms = r at *
  go_enter Try.func109, Try.ntmps109
  go_wp2_with fail
  refine HC.out.mono ?_
  rintro e w1 ⟨⟨n, rfl, n1, n2, hn⟩, g⟩
  have Hb1 := Lib.hid g; have Hn := Lib.hid hn; clear g hn
  by_cases h0 : 0 ≤ n
  · have Hf : Hid ((!r) = true) := Lib.hid (by rw [← Hn.out]; simpa using h0)
    go_wp2_with fail
    go_ret
    exact ⟨by rw [Hf.out]; first | rfl | simp, Hb1.out⟩
  · have Hf : Hid ((!r) = false) := Lib.hid (by rw [← Hn.out]; simpa using h0)
    have h0' : decide (0 ≤ n) = false := by simpa using h0
    go_wp2_with fail
    go_ret
    exact ⟨by rw [Hf.out]; first | rfl | simp, Hb1.out⟩
set_option maxHeartbeats 2000000 in
set_option maxRecDepth 100000 in
theorem implValidHeader_any {B : Nat} {w : World} {v : Value} {k r : Int} {ms : List EM} (h : RiM B w v ms) (hB : B ≤ w.heap.size) :
    Calls Try.prog 41 #[.agg #[.int .i64 k, .int .i64 r, v]] w (GivesB (.bool (hdrOk k r ms)) w) := by
  have H := Lib.hid h; obtain ⟨A, cap, rfl, hl, hcc, -⟩ := h
  unfold maxLen at hcc
  have Hb0 : Hid (Below w.heap.size w (w.alloc (.cells #[.int .i64 k, .int .i64 r, .slice A ms.length cap] 64))) := Lib.hid ((Below.refl _ w).alloc (Nat.le_refl _) _)
  have HM : Hid (hdrOk k r ms = ((inB k 1 3 && (inB r 0 1000 && decide (ms.length ≤ 24))) && msgsOk ms)) := Lib.hid rfl
  generalize hdrOk k r ms = x at *
  by_cases h1 : 1 ≤ k
  rotate_left
  · have Hf : Hid (x = false) := Lib.hid (by rw [HM.out]; simp [inB]; omega)
    go_enter Try.func41, Try.ntmps41
    go_wp2_with fail
    go_ret
    exact ⟨by rw [Hf.out]; rfl, Hb0.out⟩
  by_cases h2 : k ≤ 3
  rotate_left
  · have Hf : Hid (x = false) := Lib.hid (by rw [HM.out]; simp [inB]; omega)
    go_enter Try.func41, Try.ntmps41
    go_wp2_with fail
    go_ret
    exact ⟨by rw [Hf.out]; rfl, Hb0.out⟩
  by_cases h3 : 0 ≤ r
  rotate_left
  · have Hf : Hid (x = false) := Lib.hid (by rw [HM.out]; simp [inB]; omega)
    go_enter Try.func41, Try.ntmps41
    go_wp2_with fail
    go_ret
    exact ⟨by rw [Hf.out]; rfl, Hb0.out⟩
  by_cases h4 : r ≤ 1000
  rotate_left
  · have Hf : Hid (x = false) := Lib.hid (by rw [HM.out]; simp [inB]; omega)
    go_enter Try.func41, Try.ntmps41
    go_wp2_with fail
    go_ret
    exact ⟨by rw [Hf.out]; rfl, Hb0.out⟩
  by_cases h5 : (ms.length : Int) ≤ 24
  rotate_left
  · have Hf : Hid (x = false) := Lib.hid (by rw [HM.out]; simp [inB]; omega)
    go_enter Try.func41, Try.ntmps41
    go_wp2_with fail
    go_ret
    exact ⟨by rw [Hf.out]; rfl, Hb0.out⟩
  have Hf : Hid (x = msgsOk ms) := Lib.hid (by
    have e1 : inB k 1 3 = true := inB_iff.2 ⟨h1, h2⟩
    have e2 : inB r 0 1000 = true := inB_iff.2 ⟨h3, h4⟩
    have e3 : decide (ms.length ≤ 24) = true := decide_eq_true (by omega)
    rw [HM.out, e1, e2, e3]; rfl)
  have HC := Lib.hid (containsInv_any (H.out.at hB Hb0.out) (Nat.le_refl _))
  generalize msgsOk ms = y at *
  go_enter Try.func41, Try.ntmps41
  go_wp2_with fail
  refine HC.out.mono ?_
  rintro e w1 ⟨rfl, g⟩
  have Hb1 := Lib.hid (Hb0.out.trans (g.mono Hb0.out.size)); clear g
  cases y <;> (go_wp2_with fail; go_ret; exact ⟨by rw [Hf.out]; rfl, Hb1.out⟩)
set_option maxHeartbeats 2000000 in
set_option maxRecDepth 100000 in
theorem l14Ok_any {B : Nat} {w : World} {v : Value} {k r : Int} {ms : List EM} (h : RiM B w v ms) (hB : B ≤ w.heap.size) :
    Calls Try.prog 107 #[.agg #[.int .i64 k, .int .i64 r, v]] w (GivesB (.bool (hdrOk k r ms)) w) := by
  obtain ⟨A, cap, rfl, hl, hcc, hx⟩ := h
  have Hx := Lib.hid hx; clear hx
  unfold maxLen at hcc
  have Hb0 : Hid (Below w.heap.size w (w.alloc (.cells #[.int .i64 k, .int .i64 r, .slice A ms.length cap] 64))) := Lib.hid ((Below.refl _ w).alloc (Nat.le_refl _) _)
  have R0 : Hid ((w.alloc (.cells #[.int .i64 k, .int .i64 r, .slice A ms.length cap] 64)).heap[w.heap.size]? = some (.cells #[.int .i64 k, .int .i64 r, .slice A ms.length cap] 64 (0, 0))) := Lib.hid (heap_alloc_new w _)
  have Lt0 : Hid (w.heap.size < (w.alloc (.cells #[.int .i64 k, .int .i64 r, .slice A ms.length cap] 64)).heap.size) := Lib.hid (by simp)
  have HM : Hid (hdrOk k r ms = ((inB k 1 3 && (inB r 0 1000 && decide (ms.length ≤ 24))) && msgsOk ms)) := Lib.hid rfl
  generalize hdrOk k r ms = x at *
  cases h1 : inB k 1 3
  · have Hf : Hid (x = false) := Lib.hid (by rw [HM.out, h1]; rfl)
    have H1 := Lib.hid h1; clear h1
    go_enter Try.func107, Try.ntmps107
    go_wp2_with ((go_at_call 80; refine (l00In_no _ _ _ _ H1.out).mono ?_; rintro e w' ⟨rfl, rfl⟩))
    go_ret
    exact ⟨by rw [Hf.out]; rfl, Hb0.out⟩
  have H1 := Lib.hid h1
  cases h2 : inB r 0 1000
  · have Hf : Hid (x = false) := Lib.hid (by rw [HM.out, h1, h2]; rfl)
    have H2 := Lib.hid h2; clear h1 h2
    go_enter Try.func107, Try.ntmps107
    go_wp2_with (first | (go_at_call 80; ((with_reducible refine (l00In_yes _ _ _ _ H1.out).mono ?_); rintro e w' ⟨rfl, rfl⟩)) | (go_at_call 80; refine (l00In_no _ _ _ _ H2.out).mono ?_; rintro e w' ⟨rfl, rfl⟩))
    go_ret
    exact ⟨by rw [Hf.out]; rfl, Hb0.out⟩
  have H2 := Lib.hid h2
  by_cases h3 : (ms.length : Int) > 24
  · have Hf : Hid (x = false) := Lib.hid (by rw [HM.out, h1, h2, decide_eq_false (by omega)]; rfl)
    clear h1 h2
    go_enter Try.func107, Try.ntmps107
    go_wp2_with (first | (go_at_call 80; ((with_reducible refine (l00In_yes _ _ _ _ H1.out).mono ?_); rintro e w' ⟨rfl, rfl⟩)) | (go_at_call 80; refine (l00In_yes _ _ _ _ H2.out).mono ?_; rintro e w' ⟨rfl, rfl⟩))
    go_ret
    exact ⟨by rw [Hf.out]; rfl, Hb0.out⟩
  have Hf : Hid (x = allTo (msgAt ms) ms.length) := Lib.hid (by rw [HM.out, h1, h2, decide_eq_true (by omega)]; rfl)
  clear h1 h2
  go_enter Try.func107, Try.ntmps107
  go_wp2_with (first | (go_at_call 80; ((with_reducible refine (l00In_yes _ _ _ _ H1.out).mono ?_); rintro e w' ⟨rfl, rfl⟩)) | (go_at_call 80; refine (l00In_yes _ _ _ _ H2.out).mono ?_; rintro e w' ⟨rfl, rfl⟩))
  generalize (w.alloc (.cells #[.int .i64 k, .int .i64 r, .slice A ms.length cap] 64)) = w0 at *
  go_loopw [3] (fun i wr => ∃ k : Nat, k ≤ ms.length ∧ i = .int .i64 k ∧ Below w0.heap.size w0 wr ∧ allTo (msgAt ms) k = true) (fun i _ => ms.length - (intOf i).toNat)
  case atStart => exact ⟨0, Nat.zero_le _, rfl, Below.refl _ _, allTo_zero _⟩
  case round =>
    obtain ⟨j, hj, rfl, hbel, hall⟩ := hrel
    have Hall := Lib.hid hall; have Hbel := Lib.hid hbel
    clear hall
    have q2 : wr.cell? ⟨w.heap.size, 2, none⟩ = some (.slice A ms.length cap) := by rw [cell_of_row _ _ _ _ _ _ ((hbel.block _ Lt0.out).trans R0.out)]; rfl
    by_cases hlt : j < ms.length
    · obtain ⟨b1, o, rfl, hb, hc0, hc1, hc2, -⟩ := Hx.out j hlt
      have hbw : Below w.heap.size w wr := Hb0.out.trans (hbel.mono Hb0.out.size)
      have Hld := Lib.hid (run_load_cells (P := Try.prog) wr b1 (o + j * 3) 70 _ [.int .i64 ms[j].1, .int .i64 ms[j].2.1, .string ms[j].2.2] (cells_M (by rw [hbw.cell (show b1 < _ from by omega)]; exact hc0) (by rw [hbw.cell (show b1 < _ from by omega)]; exact hc1) (by rw [hbw.cell (show b1 < _ from by omega)]; exact hc2)) Try.underlying70 rfl)
      have Hp : Hid (msgAt ms j = (inB ms[j].1 1 9 && (inB ms[j].2.1 0 255 && decide (ms[j].2.2.size ≤ 200)))) := Lib.hid (msgAt_at ms j hlt)
      have Hk2 := Lib.hid (allTo_succ (msgAt ms) j)
      have Hno : Hid (msgAt ms j = false → x = false) := Lib.hid (fun h => by rw [Hf.out, allTo_bad _ j _ hlt h])
      have hs := hbel.size
      have Hbw : Hid (Below w.heap.size w wr) := Lib.hid hbw
      clear hc0 hc1 hc2 hbel hbw
      generalize ms[j].1 = z at *
      generalize ms[j].2.1 = f at *
      generalize ms[j].2.2 = s at *
      have Hx1 : Hid (Below w0.heap.size w0 (wr.alloc (.cells #[.int .i64 z, .int .i64 f, .string s] 70))) := Lib.hid (Hbel.out.alloc hs _)
      cases g1 : inB z 1 9
      · have Hff := Lib.hid (Hno.out (by rw [Hp.out, g1]; rfl))
        have G1 := Lib.hid g1; clear g1
        go_wp2_with (first | (refine wpList_load_agg rfl 70 (.tmp 31) rfl _ rfl _ Hld.out ?_) | (go_at_call 80; refine (l00In_no _ _ _ _ G1.out).mono ?_; rintro e w' ⟨rfl, rfl⟩))
        go_ret
        exact ⟨by rw [Hff.out]; rfl, Hb0.out.trans (Hx1.out.mono Hb0.out.size)⟩
      have G1 := Lib.hid g1
      cases g2 : inB f 0 255
      · have Hff := Lib.hid (Hno.out (by rw [Hp.out, g1, g2]; rfl))
        have G2 := Lib.hid g2; clear g1 g2
        go_wp2_with (first | (refine wpList_load_agg rfl 70 (.tmp 31) rfl _ rfl _ Hld.out ?_) | (go_at_call 80; ((with_reducible refine (l00In_yes _ _ _ _ G1.out).mono ?_); rintro e w' ⟨rfl, rfl⟩)) | (go_at_call 80; refine (l00In_no _ _ _ _ G2.out).mono ?_; rintro e w' ⟨rfl, rfl⟩))
        go_ret
        exact ⟨by rw [Hff.out]; rfl, Hb0.out.trans (Hx1.out.mono Hb0.out.size)⟩
      have G2 := Lib.hid g2
      by_cases g3 : (s.size : Int) > 200
      · have Hff := Lib.hid (Hno.out (by rw [Hp.out, g1, g2, decide_eq_false (by omega)]; rfl))
        clear g1 g2
        go_wp2_with (first | (refine wpList_load_agg rfl 70 (.tmp 31) rfl _ rfl _ Hld.out ?_) | (go_at_call 80; ((with_reducible refine (l00In_yes _ _ _ _ G1.out).mono ?_); rintro e w' ⟨rfl, rfl⟩)) | (go_at_call 80; refine (l00In_yes _ _ _ _ G2.out).mono ?_; rintro e w' ⟨rfl, rfl⟩))
        go_ret
        exact ⟨by rw [Hff.out]; rfl, Hb0.out.trans (Hx1.out.mono Hb0.out.size)⟩
      · have Hall2 : Hid (allTo (msgAt ms) (j + 1) = true) := Lib.hid (by rw [Hk2.out, Hall.out, Hp.out, g1, g2, decide_eq_true (by omega)]; rfl)
        clear g1 g2
        go_wp2_with (first | (refine wpList_load_agg rfl 70 (.tmp 31) rfl _ rfl _ Hld.out ?_) | (go_at_call 80; ((with_reducible refine (l00In_yes _ _ _ _ G1.out).mono ?_); rintro e w' ⟨rfl, rfl⟩)) | (go_at_call 80; refine (l00In_yes _ _ _ _ G2.out).mono ?_; rintro e w' ⟨rfl, rfl⟩))
        go_roundw
        case rel => exact ⟨j + 1, by omega, by go_num, Hx1.out, Hall2.out⟩
        case measure => simp [intOf]; omega
    · obtain rfl : j = ms.length := by omega
      have Hff : Hid (x = true) := Lib.hid (by rw [Hf.out, Hall.out])
      clear hbel
      go_wp2_with fail
      go_ret
      exact ⟨by rw [Hff.out]; rfl, Hb0.out.trans (Hbel.out.mono Hb0.out.size)⟩
set_option maxHeartbeats 2000000 in
set_option maxRecDepth 100000 in
theorem specValidHeader_any {B : Nat} {w : World} {v : Value} {k r : Int} {ms : List EM} (h : RiM B w v ms) (hB : B ≤ w.heap.size) :
    Calls Try.prog 39 #[.agg #[.int .i64 k, .int .i64 r, v]] w (GivesB (.bool (hdrOk k r ms)) w) := by
  have H := Lib.hid h; obtain ⟨A, cap, rfl, hl, hcc, -⟩ := h
  have Hb0 : Hid (Below w.heap.size w (w.alloc (.cells #[.int .i64 k, .int .i64 r, .slice A ms.length cap] 64))) := Lib.hid ((Below.refl _ w).alloc (Nat.le_refl _) _)
  have HC := Lib.hid (l14Ok_any (k := k) (r := r) (H.out.at hB Hb0.out) (Nat.le_refl _))
  generalize hdrOk k r ms = x at *
  go_enter Try.func39, Try.ntmps39
  go_wp2_with fail
  refine HC.out.mono ?_
  rintro e w1 ⟨rfl, g⟩
  have Hb1 := Lib.hid (Hb0.out.trans (g.mono Hb0.out.size)); clear g
  go_wp2_with fail
  go_ret
  exact ⟨rfl, Hb1.out⟩
end Go.Proofs.Ytlickjmdlooapaa
