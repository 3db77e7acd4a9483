/- The power of a disk: the model's text. No statement is proved here. -/
import Derived.Test.YtpjkeikaonkohaaDk
import Derived.WalkKit
namespace Go.Proofs.Ytpjkeikaonkohaa
open Go.RowKit
set_option linter.unusedVariables false
def pwY (fz : Int) (off : Bool) : Bool := !(off || decide (fz = 0))
def pwF (fz : Int) (off : Bool) : Int := if pwY fz off then (if 0 < fz then fz - 1 else fz) else fz
def pwO (fz : Int) (off : Bool) : Bool := !pwY fz off
/-- Only the disk in block g has changed: its fuse and its switch. -/
def Pow (w : World) (g : Nat) (v1 v2 : Value) (fz : Int) (off : Bool) (w' : World) : Prop := DB w' g v1 v2 fz off ∧ w'.heap.size = w.heap.size ∧ Below g w w' ∧ ∀ k, k ≠ g → w'.heap[k]? = w.heap[k]?
theorem pow_set {w : World} {g : Nat} {v1 v2 : Value} {fz fz' : Int} {off off' : Bool} (hd : DB w g v1 v2 fz off) (j : Nat) (u : Value) (he : (#[v1, v2, .int .i64 fz, .bool off] : Array Value).setIfInBounds j u = #[v1, v2, .int .i64 fz', .bool off']) : Pow w g v1 v2 fz' off' (w.setCell ⟨g, j, none⟩ u) :=
  ⟨by unfold DB; rw [heap_setCell_same _ _ _ _ _ _ hd, he], by simp [World.setCell], (Below.refl g w).setCell (p := ⟨g, j, none⟩) (Nat.le_refl _) _, fun k hk => heap_setCell_other _ ⟨g, j, none⟩ k u (fun e => hk (by simpa using e))⟩
set_option maxHeartbeats 1000000 in
theorem l09Power_any {w : World} {g : Nat} {v1 v2 : Value} {fz : Int} {off : Bool} (hd : DB w g v1 v2 fz off) (hf : InI fz) :
    Calls Try.prog 107 #[.pointer (some ⟨g, 0, none⟩)] w (fun e w' => e = .returned (.bool (pwY fz off)) ∧ Pow w g v1 v2 (pwF fz off) (pwO fz off) w') := by
  have Hd := Lib.hid hd
  have q2 := hd.c2; have q3 := hd.c3; have f2 := hd.f 2; have f3 := hd.f 3
  clear hd
  cases off
  rotate_left
  · have hy : pwY fz true = false := by simp [pwY]
    have hF : pwF fz true = fz := by simp [pwF, hy]
    have hO : pwO fz true = true := by simp [pwO, hy]
    rw [hy, hF, hO]
    have Hp : Hid (Pow w g v1 v2 fz true (w.setCell ⟨g, 3, none⟩ (.bool true))) := Lib.hid (pow_set Hd.out 3 _ rfl)
    clear hy hF hO
    go_enter Try.func107, Try.ntmps107
    go_wp2_with fail
    go_ret
    exact ⟨rfl, Hp.out⟩
  by_cases hz : fz = 0
  · subst hz
    have hy : pwY 0 false = false := by simp [pwY]
    have hF : pwF 0 false = 0 := by simp [pwF, hy]
    have hO : pwO 0 false = true := by simp [pwO, hy]
    rw [hy, hF, hO]
    have Hp : Hid (Pow w g v1 v2 0 true (w.setCell ⟨g, 3, none⟩ (.bool true))) := Lib.hid (pow_set Hd.out 3 _ rfl)
    clear hy hF hO
    go_enter Try.func107, Try.ntmps107
    go_wp2_with fail
    go_ret
    exact ⟨rfl, Hp.out⟩
  have hy : pwY fz false = true := by simp [pwY, hz]
  have hO : pwO fz false = false := by simp [pwO, hy]
  have e1 : (fz == 0) = false := beq_eq_false_iff_ne.2 hz
  by_cases hp : 0 < fz
  · have hF : pwF fz false = fz - 1 := by simp [pwF, hy, hp]
    rw [hy, hF, hO]
    have d1 : decide (fz > 0) = true := decide_eq_true hp
    have hw : IntKind.i64.wrap (fz - 1) = fz - 1 := IntWalk.i64_in _ (by unfold InI at hf; omega)
    have Hp : Hid (Pow w g v1 v2 (fz - 1) false (w.setCell ⟨g, 2, none⟩ (.int .i64 (fz - 1)))) := Lib.hid (pow_set Hd.out 2 _ rfl)
    clear hy hF hO
    go_enter Try.func107, Try.ntmps107
    go_wp2_with fail
    go_ret
    exact ⟨rfl, Hp.out⟩
  · have hF : pwF fz false = fz := by simp [pwF, hp]
    rw [hy, hF, hO]
    have d1 : decide (fz > 0) = false := decide_eq_false hp
    have Hp : Hid (Pow w g v1 v2 fz false w) := Lib.hid ⟨Hd.out, rfl, Below.refl _ _, fun _ _ => rfl⟩
    clear hy hF hO
    go_enter Try.func107, Try.ntmps107
    go_wp2_with fail
    go_ret
    exact ⟨rfl, Hp.out⟩
end Go.Proofs.Ytpjkeikaonkohaa
