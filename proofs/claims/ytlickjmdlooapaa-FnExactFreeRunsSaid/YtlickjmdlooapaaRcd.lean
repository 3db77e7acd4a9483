/- Which records are valid: contracts of both sides. No statement is proved here. -/
import Derived.Test.YtlickjmdlooapaaRec
import Derived.Test.YtlickjmdlooapaaRbk
import Derived.Test.YtlickjmdlooapaaPgI
namespace Go.Proofs.Ytlickjmdlooapaa
open Go.RowKit
set_option linter.unusedVariables false
def recOk (q : Int) (ps : List Pt) : Bool := inB q 1 1000000000000 && (inB (ps.length : Int) 1 60 && pgOk ps)
set_option maxHeartbeats 2000000 in
set_option maxRecDepth 100000 in
theorem l11Record_any {B : Nat} {w : World} {q : Int} {v : Value} {ps : List Pt} (h : RiU B w v ps) (hB : B ≤ w.heap.size) :
    Calls Try.prog 136 #[.agg #[.int .i64 q, v]] w (GivesB (.bool (recOk q ps)) w) := by
  have H := Lib.hid h; obtain ⟨A, cap, rfl, hl, hm, -⟩ := h
  unfold maxLen at hm
  have Hb0 : Hid (Below w.heap.size w (w.alloc (.cells #[.int .i64 q, .slice A ps.length cap] 92))) := Lib.hid ((Below.refl _ w).alloc (Nat.le_refl _) _)
  have HF : Hid (recOk q ps = (inB q 1 1000000000000 && (inB (ps.length : Int) 1 60 && pgOk ps))) := Lib.hid rfl
  generalize recOk q ps = r at *
  cases h1 : inB q 1 1000000000000
  · have Hf : Hid (r = false) := Lib.hid (by rw [HF.out, h1]; rfl)
    have H1 := Lib.hid h1; clear h1
    go_enter Try.func136, Try.ntmps136
    go_wp2_with ((go_at_call 80; refine (l00In_no _ _ _ _ H1.out).mono ?_; rintro e w' ⟨rfl, rfl⟩))
    go_ret
    exact ⟨by rw [Hf.out]; rfl, Hb0.out⟩
  have H1 := Lib.hid h1
  cases h2 : inB (ps.length : Int) 1 60
  · have Hf : Hid (r = false) := Lib.hid (by rw [HF.out, h1, h2]; rfl)
    have H2 := Lib.hid h2; clear h1 h2
    go_enter Try.func136, Try.ntmps136
    go_wp2_with (first | (go_at_call 80; ((with_reducible refine (l00In_yes _ _ _ _ H1.out).mono ?_); rintro e w' ⟨rfl, rfl⟩)) | (go_at_call 80; refine (l00In_no _ _ _ _ H2.out).mono ?_; rintro e w' ⟨rfl, rfl⟩))
    go_ret
    exact ⟨by rw [Hf.out]; rfl, Hb0.out⟩
  have H2 := Lib.hid h2
  have Hf : Hid (r = pgOk ps) := Lib.hid (by rw [HF.out, h1, h2]; rfl)
  clear h1 h2
  rw [Hf.out]
  go_enter Try.func136, Try.ntmps136
  go_wp2_with (first | (go_at_call 80; ((with_reducible refine (l00In_yes _ _ _ _ H1.out).mono ?_); rintro e w' ⟨rfl, rfl⟩)) | (go_at_call 80; refine (l00In_yes _ _ _ _ H2.out).mono ?_; rintro e w' ⟨rfl, rfl⟩))
  generalize (w.alloc (.cells #[.int .i64 q, .slice A ps.length cap] 92)) = w0 at *
  refine (l11Pages_any (H.out.at hB Hb0.out) (Nat.le_refl _)).mono ?_
  rintro e w1 ⟨rfl, g⟩
  have Hb1 : Hid (Below w.heap.size w w1) := Lib.hid (Hb0.out.trans (g.mono Hb0.out.size))
  clear g
  generalize pgOk ps = z at *
  cases z <;> (go_wp2_with fail; go_ret; exact ⟨rfl, Hb1.out⟩)
set_option maxHeartbeats 2000000 in
set_option maxRecDepth 100000 in
theorem implValidRecord_any {B : Nat} {w : World} {q : Int} {v : Value} {ps : List Pt} (h : RiU B w v ps) (hB : B ≤ w.heap.size) :
    Calls Try.prog 138 #[.agg #[.int .i64 q, v]] w (GivesB (.bool (recOk q ps)) w) := by
  have H := Lib.hid h; obtain ⟨A, cap, rfl, hl, hm, -⟩ := h
  unfold maxLen at hm
  have Hb0 : Hid (Below w.heap.size w (w.alloc (.cells #[.int .i64 q, .slice A ps.length cap] 92))) := Lib.hid ((Below.refl _ w).alloc (Nat.le_refl _) _)
  have HF : Hid (recOk q ps = (inB q 1 1000000000000 && (inB (ps.length : Int) 1 60 && pgOk ps))) := Lib.hid rfl
  generalize recOk q ps = r at *
  cases h1 : inB q 1 1000000000000
  · have Hf : Hid (r = false) := Lib.hid (by rw [HF.out, h1]; rfl)
    have H1 := Lib.hid h1; clear h1
    go_enter Try.func138, Try.ntmps138
    go_wp2_with ((go_at_call 199; refine (isRecordSeq_no _ _ H1.out).mono ?_; rintro e w' ⟨rfl, rfl⟩))
    go_ret
    exact ⟨by rw [Hf.out]; rfl, Hb0.out⟩
  have H1 := Lib.hid h1
  cases h2 : inB (ps.length : Int) 1 60
  · have Hf : Hid (r = false) := Lib.hid (by rw [HF.out, h1, h2]; rfl)
    have H2 := Lib.hid h2; clear h1 h2
    go_enter Try.func138, Try.ntmps138
    go_wp2_with (first | (go_at_call 199; refine (isRecordSeq_yes _ _ H1.out).mono ?_; rintro e w' ⟨rfl, rfl⟩) | (go_at_call 200; refine (isRecordSize_no _ _ H2.out).mono ?_; rintro e w' ⟨rfl, rfl⟩))
    go_ret
    exact ⟨by rw [Hf.out]; rfl, Hb0.out⟩
  have H2 := Lib.hid h2
  have Hf : Hid (r = pgOk ps) := Lib.hid (by rw [HF.out, h1, h2]; rfl)
  clear h1 h2
  rw [Hf.out]
  go_enter Try.func138, Try.ntmps138
  go_wp2_with (first | (go_at_call 199; refine (isRecordSeq_yes _ _ H1.out).mono ?_; rintro e w' ⟨rfl, rfl⟩) | (go_at_call 200; refine (isRecordSize_yes _ _ H2.out).mono ?_; rintro e w' ⟨rfl, rfl⟩))
  generalize (w.alloc (.cells #[.int .i64 q, .slice A ps.length cap] 92)) = w0 at *
  refine (implValidPages_any (H.out.at hB Hb0.out) (Nat.le_refl _)).mono ?_
  rintro e w1 ⟨rfl, g⟩
  have Hb1 : Hid (Below w.heap.size w w1) := Lib.hid (Hb0.out.trans (g.mono Hb0.out.size))
  clear g
  generalize pgOk ps = z at *
  cases z <;> (go_wp2_with fail; go_ret; exact ⟨rfl, Hb1.out⟩)
end Go.Proofs.Ytlickjmdlooapaa
