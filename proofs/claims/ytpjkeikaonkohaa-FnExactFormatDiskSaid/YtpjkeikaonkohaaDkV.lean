/- Contracts of the checks of a disk handed over by value. No statement is proved here. -/
import Derived.Test.YtpjkeikaonkohaaDk
namespace Go.Proofs.Ytpjkeikaonkohaa
open Go.RowKit
set_option linter.unusedVariables false
theorem specValidDisk_any {B : Nat} {w : World} {v1 v2 : Value} {ss : List ByteArray} {ps : List Pt} {fz : Int} {off : Bool} (h1 : RiT B w v1 ss) (h2 : RiU B w v2 ps) (hB : B ≤ w.heap.size) :
    Calls Try.prog 20 #[.agg #[v1, v2, .int .i64 fz, .bool off]] w (GivesB (.bool (dskOk ss ps fz)) w) := by
  have H1 := Lib.hid h1; obtain ⟨A1, c1, rfl, -, -, -⟩ := h1
  have H2 := Lib.hid h2; obtain ⟨A2, c2, rfl, -, -, -⟩ := h2
  have Hb0 : Hid (Below w.heap.size w (w.alloc (.cells #[.slice A1 ss.length c1, .slice A2 ps.length c2, .int .i64 fz, .bool off] 30))) := Lib.hid ((Below.refl _ w).alloc (Nat.le_refl _) _)
  have HD : Hid (DB (w.alloc (.cells #[.slice A1 ss.length c1, .slice A2 ps.length c2, .int .i64 fz, .bool off] 30)) w.heap.size (.slice A1 ss.length c1) (.slice A2 ps.length c2) fz off) := Lib.hid (heap_alloc_new w _)
  generalize hr : dskOk ss ps fz = r
  have Hr := Lib.hid hr; clear hr
  go_enter Try.func20, Try.ntmps20
  go_wp2_with fail
  refine (l09Ok_any Hr.out HD.out (H1.out.at hB Hb0.out) (H2.out.at hB Hb0.out)).mono ?_
  rintro e w1 ⟨rfl, rfl⟩
  go_wp2_with fail
  go_ret
  exact ⟨rfl, Hb0.out⟩
end Go.Proofs.Ytpjkeikaonkohaa
