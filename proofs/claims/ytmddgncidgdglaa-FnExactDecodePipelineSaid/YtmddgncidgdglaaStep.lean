/- Two laws on a row of bytes inside a statement whose order is open. No statement is proved here. -/
import Derived.Test.YtmddgncidgdglaaVal
import Derived.Deep.RegionHeld3
import Derived.Deep.AppendLies
import Derived.Deep.DrawnRows
namespace Go.Proofs.Ytmddgncidgdglaa
open Go.RowKit
set_option linter.unusedVariables false
theorem OwnB.alloc {w : World} {B : Nat} {v : Value} {l : List UInt8} (h : OwnB w B v l) (o : Obj) : OwnB (w.alloc o) B v l := World.ownsRow.alloc h o
theorem OwnB.drew {w : World} {B : Nat} {v : Value} {l : List UInt8} (h : OwnB w B v l) : OwnB w.drew B v l := h

/-- 'append' of some bytes that lie in a block g, at a step of a region that draws its order. -/
theorem step_app {ops : Array Oper} {o : Oper} {a : Act} {K : Act → World → Prop} {Q : Exit → Act → World → Prop} {E : Prop} (W : World) (g m : Nat) (hgd : o.guard = none) (s x : Operand)
    (ho : o.op = .call { callee := .builtin .append, args := #[s, x], argTypes := #[62, 62] }) (B : Nat) (v : Value) (l : List UInt8) (hown : OwnB W B v l) (hs : a.eval s = v) (bs : List UInt8)
    (hblk : W.heap[g]? = some (.cells (bs.map bv).toArray 5 (0, 0))) (hm : m = bs.length)
    (hx : a.eval x = .slice (some ⟨g, 0, none⟩) m m) (hl : l.length + m ≤ 70368744177664) (hB : B ≤ W.heap.size)
    (h : ∀ v' w', OwnB w' B v' (l ++ bs) → Below B W w' → K (a.put o.dst v') w') :
    if Region.wanted o (yielded ops a.tmps) = true then Oper.wp Try.prog o a W K Q else E := by
  have hw : Region.wanted o (yielded ops a.tmps) = true := by simp [Region.wanted, hgd]
  rw [if_pos hw]
  obtain ⟨i0, hi, hz0, hz1, hz2⟩ := info_parts Try.infoB
  subst hm
  refine wp_append_own _ s x 62 ho B 5 i0 (.int .u8 0) 1 1 Try.underlying62 hi hz0 hz1 hz2 rfl (by decide) v l.length (l.map bv) hs hown ⟨g, 0, none⟩ bs.length bs.length (bs.map bv) hx (by simp) ?_ ?_ ?_ ?_ ?_ ?_
  · exact World.news_of_block (cs := (bs.map bv).toArray) hblk
  · intro u hu
    obtain ⟨b, _, rfl⟩ := List.mem_map.1 hu
    rfl
  · unfold maxLen; omega
  · omega
  · exact hB
  · intro v' w' ho' hg _
    refine h v' w' ?_ ?_
    · have : (l ++ bs).length = l.length + bs.length := by simp
      unfold OwnB
      rw [this, List.map_append]
      exact ho'
    · exact (Below.refl B W).grown hg hB (fun k hk => (World.ownsRow.lt hown k hk).1)

def hexC (q : Nat) : UInt8 := if q < 10 then UInt8.ofNat (48 + q) else UInt8.ofNat (87 + q)
def hex2 (b : UInt8) : List UInt8 := [hexC (b.toNat / 16), hexC (b.toNat % 16)]
def hexL (l : List UInt8) : List UInt8 := l.flatMap hex2
theorem hexL_length (l : List UInt8) : (hexL l).length = 2 * l.length := by
  induction l with
  | nil => rfl
  | cons b l ih => unfold hexL at *; rw [List.flatMap_cons, List.length_append, ih, List.length_cons]; simp [hex2]; omega
theorem hexL_snoc (l : List UInt8) (b : UInt8) : hexL (l ++ [b]) = hexL l ++ hex2 b := by simp [hexL]
end Go.Proofs.Ytmddgncidgdglaa
