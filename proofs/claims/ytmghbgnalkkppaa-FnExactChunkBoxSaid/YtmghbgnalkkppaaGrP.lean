/- Grids of chunks: the numbers. No statement is proved here. -/
import Derived.Test.YtmghbgnalkkppaaCrd
import Derived.Test.YtmghbgnalkkppaaAcc
import Derived.Test.YtmghbgnalkkppaaIdx
namespace Go.Proofs.Ytmghbgnalkkppaa
open Go.RowKit
set_option linter.unusedVariables false
/-- A number of the grid. -/
def grd (ds cs : List Int) (k : Nat) : Int := (ds.getD k 0 + cs.getD k 0 - 1).tdiv (cs.getD k 0)
def grds (ds cs : List Int) : List Int := (List.range ds.length).map (grd ds cs)
def inC (cs : List Int) (i : Nat) : Bool := inB (cs.getD i 0) 1 40
def inG (gs : List Int) (i : Nat) : Bool := decide (gs.getD i 0 ≤ 16)
/-- Dimensions and those of chunks for them. -/
def ckOk (ds cs : List Int) : Bool := dimsOk ds && (decide (cs.length = ds.length) && (allTo (inC cs) cs.length && (allTo (inG (grds ds cs)) ds.length && (decide (prodL cs ≤ 64) && decide (prodL (grds ds cs) ≤ 256)))))
theorem grds_length (ds cs : List Int) : (grds ds cs).length = ds.length := by simp [grds]
theorem grds_at (ds cs : List Int) (j : Nat) (h : j < (grds ds cs).length) : (grds ds cs)[j] = grd ds cs j := by simp [grds]
theorem grds_getD (ds cs : List Int) (j : Nat) (h : j < ds.length) : (grds ds cs).getD j 0 = grd ds cs j := by rw [getD_at _ _ (by rw [grds_length]; exact h), grds_at]
theorem grd_at (ds cs : List Int) (j : Nat) (h : j < ds.length) (h2 : j < cs.length) : grd ds cs j = (ds[j] + cs[j] - 1).tdiv cs[j] := by rw [grd, getD_at _ _ h, getD_at _ _ h2]
theorem grds_push (ds cs : List Int) (k : Nat) : (List.range k).map (grd ds cs) ++ [grd ds cs k] = (List.range (k + 1)).map (grd ds cs) := by rw [List.range_succ, List.map_append]; rfl
theorem inC_at (xs : List Int) (i : Nat) (h : i < xs.length) : inC xs i = inB xs[i] 1 40 := by unfold inC; rw [getD_at _ _ h]
/-- A number of chunks lies between 0 and 40. -/
theorem grd_num {d c : Int} (hd : 0 ≤ d ∧ d ≤ 40) (hc : 1 ≤ c ∧ c ≤ 40) : 0 ≤ (d + c - 1).tdiv c ∧ (d + c - 1).tdiv c ≤ 40 := by
  refine ⟨Int.tdiv_nonneg (by omega) (by omega), ?_⟩
  rw [Int.tdiv_eq_ediv_of_nonneg (by omega)]
  have h1 : (d + c - 1) / c < 41 := Int.ediv_lt_of_lt_mul (by omega) (by
    have : 41 * c = 40 * c + c := by omega
    omega)
  omega
theorem grd_bd (ds cs : List Int) (hd : allTo (inD ds) ds.length = true) (hl : cs.length = ds.length) (hc : allTo (inC cs) cs.length = true) (j : Nat) (h : j < ds.length) : 0 ≤ grd ds cs j ∧ grd ds cs j ≤ 40 := by
  have h2 : j < cs.length := by omega
  have a := allTo_at hd h
  have b := allTo_at hc h2
  rw [inD_at _ _ h, inB_iff] at a
  rw [inC_at _ _ h2, inB_iff] at b
  rw [grd_at _ _ _ h h2]
  exact grd_num a b
theorem grds_inD (ds cs : List Int) (hd : allTo (inD ds) ds.length = true) (hl : cs.length = ds.length) (hc : allTo (inC cs) cs.length = true) : allTo (inD (grds ds cs)) (grds ds cs).length = true := by
  unfold allTo
  rw [List.all_eq_true]
  intro j hj
  rw [List.mem_range, grds_length] at hj
  unfold inD
  rw [grds_getD _ _ _ hj]
  exact inB_iff.2 (grd_bd ds cs hd hl hc j hj)
theorem inC_inD (cs : List Int) (hc : allTo (inC cs) cs.length = true) : allTo (inD cs) cs.length = true := by
  unfold allTo
  rw [List.all_eq_true]
  intro j hj
  rw [List.mem_range] at hj
  have b := allTo_at hc hj
  rw [inC_at _ _ hj, inB_iff] at b
  rw [inD_at _ _ hj]
  exact inB_iff.2 (by omega)
theorem inC_inDk (cs : List Int) (k : Nat) (hk : k ≤ cs.length) (hc : allTo (inC cs) k = true) : allTo (inD cs) k = true := by
  unfold allTo
  rw [List.all_eq_true]
  intro j hj
  rw [List.mem_range] at hj
  have b := allTo_at hc hj
  rw [inC_at _ _ (by omega), inB_iff] at b
  rw [inD_at _ _ (by omega)]
  exact inB_iff.2 (by omega)
theorem inG_at (gs : List Int) (i : Nat) (h : i < gs.length) : inG gs i = decide (gs[i] ≤ 16) := by unfold inG; rw [getD_at _ _ h]
theorem inD_inI {xs : List Int} (h : allTo (inD xs) xs.length = true) : ∀ x ∈ xs, InI x := by
  intro x hx
  obtain ⟨i, hi, rfl⟩ := List.getElem_of_mem hx
  have := allTo_at h hi
  rw [inD_at _ _ hi, inB_iff] at this
  unfold InI
  omega
theorem ckOk_dims {ds cs : List Int} (h : dimsOk ds = false) : ckOk ds cs = false := by rw [ckOk, h]; rfl
theorem ckOk_len {ds cs : List Int} (h : cs.length ≠ ds.length) : ckOk ds cs = false := by rw [ckOk, decide_eq_false h]; simp
theorem ckOk_bad {ds cs : List Int} {k : Nat} (hk : k < cs.length) (h : inC cs k = false) : ckOk ds cs = false := by rw [ckOk, allTo_bad _ k _ hk h]; simp
theorem ckOk_grid {ds cs : List Int} {k : Nat} (hk : k < ds.length) (h : inG (grds ds cs) k = false) : ckOk ds cs = false := by rw [ckOk, allTo_bad _ k _ hk h]; simp
theorem ckOk_end {ds cs : List Int} (h1 : dimsOk ds = true) (h2 : cs.length = ds.length) (h3 : allTo (inC cs) cs.length = true) (h4 : allTo (inG (grds ds cs)) ds.length = true) : ckOk ds cs = (decide (prodL cs ≤ 64) && decide (prodL (grds ds cs) ≤ 256)) := by
  rw [ckOk, h1, h3, h4, decide_eq_true h2]; rfl
theorem ckOk_iff {ds cs : List Int} (h : ckOk ds cs = true) : dimsOk ds = true ∧ cs.length = ds.length ∧ allTo (inC cs) cs.length = true ∧ allTo (inG (grds ds cs)) ds.length = true ∧ prodL cs ≤ 64 ∧ prodL (grds ds cs) ≤ 256 := by
  simpa [ckOk] using h
/-- append of one number, its block just laid, inside a region that draws. -/
theorem step_pushI {ops : Array Oper} {o : Oper} {a : Act} {K : Act → World → Prop} {Q : Exit → Act → World → Prop} {E : Prop} {W : World} {lo : Nat} {v : Value} {xs : List Int} {x : Int} (hgd : o.guard = none) (s z : Operand)
    (ho : o.op = .call { callee := .builtin .append, args := #[s, z], argTypes := #[22, 22] }) (hs : a.eval s = v) (hx : a.eval z = .slice (some ⟨W.heap.size, 0, none⟩) 1 1)
    (hown : OI W lo v xs) (hlo : lo ≤ W.heap.size) (hlen : xs.length ≤ 1048576)
    (h : ∀ g cap w', OI w' lo (.slice (some ⟨g, 0, none⟩) (xs.length + 1) cap) (xs ++ [x]) → (W.alloc (.cells #[.int .i64 x] 2)).grownBy w' v.ownBlock → g < w'.heap.size →
      K (a.put o.dst (.slice (some ⟨g, 0, none⟩) (xs.length + 1) cap)) w') : if Region.wanted o (yielded ops a.tmps) = true then Oper.wp Try.prog o a (W.alloc (.cells #[.int .i64 x] 2)) K Q else E := by
  have hw : Region.wanted o (yielded ops a.tmps) = true := by simp [Region.wanted, hgd]
  rw [if_pos hw]
  exact wp_push s z ho hs hx rfl hown hlo hlen fun g cap w' h1 h2 _ h4 => h g cap w' h1 h2 h4
theorem pushI_bel {W W2 z : World} {lo B : Nat} {o : Obj} {v : Value} {xs : List Int} (hz : Below B z W) (h1 : OI W lo v xs) (hB : B ≤ lo) (hlo : B ≤ W.heap.size) (hgr : (W.alloc o).grownBy W2 v.ownBlock) : Below B z W2 :=
  (hz.alloc hlo o).grown hgr (by simp; omega) (fun k hk => Nat.le_trans hB (h1.wi k hk).1)
end Go.Proofs.Ytmghbgnalkkppaa
