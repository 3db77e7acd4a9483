/- Two lists of pages made one: the model. No statement is proved here. -/
import Derived.Test.YtplfnlalmcpcaaaPgI
import Derived.Test.YtplfnlalmcpcaaaPgF
import Derived.Test.YtplfnlalmcpcaaaPsT
namespace Go.Proofs.Ytplfnlalmcpcaaa
open Go.RowKit
set_option linter.unusedVariables false
theorem infoGz : (Try.prog.info? 145).map (fun i => (i.zero, i.size, i.bytes)) = some (some (.agg #[.int .i64 0, .string ⟨#[]⟩]), 2, 24) := by kernel_rfl
theorem OG.opened {W : World} {lo : Nat} {v : Value} {ss : List Pt} (h : OG W lo v ss) : ∃ A cap, v = .slice A ss.length cap := by
  rcases h.sl with ⟨rfl, rfl⟩ | ⟨x, cap, rfl, _⟩ <;> exact ⟨_, _, rfl⟩
theorem OG.none (w : World) (lo : Nat) : OG w lo (.slice none 0 0) [] := ⟨rfl, .inl ⟨rfl, rfl⟩⟩
/-- append of one page that was just laid into a block of its own. -/
theorem wpList_pushG {ops : Array Oper} {rest : List Oper} {o : Oper} {a : Act} {Q : Exit → Act → World → Prop} {W : World} {lo B : Nat} {v : Value} {ps : List Pt} {k : Int} {x : ByteArray} (hgd : o.guard = none) (s y : Operand)
    (ho : o.op = .call { callee := .builtin .append, args := #[s, y], argTypes := #[36, 36] }) (hs : a.eval s = v) (hx : a.eval y = .slice (some ⟨B, 0, none⟩) 1 1) (hB : W.heap.size = B)
    (hown : OG W lo v ps) (hlo : lo ≤ W.heap.size) (hlen : ps.length ≤ 1048576)
    (h : ∀ g cap w', OG w' lo (.slice (some ⟨g, 0, none⟩) (ps ++ [(k, x)]).length cap) (ps ++ [(k, x)]) → (W.alloc (.cells #[.int .i64 k, .string x] 145)).grownBy w' v.ownBlock → g < w'.heap.size →
      wpList Try.prog ops Q rest (a.put o.dst (.slice (some ⟨g, 0, none⟩) (ps ++ [(k, x)]).length cap)) w') : wpList Try.prog ops Q (o :: rest) a (W.alloc (.cells #[.int .i64 k, .string x] 145)) := by
  obtain ⟨i0, hi, hz0, hz1, hz2⟩ := info_partsT infoGz
  subst hB
  have el : (ps ++ [(k, x)]).length = ps.length + 1 := by simp
  refine wpList_append_lies _ hgd s y 36 ho lo 145 i0 (.agg #[.int .i64 0, .string ⟨#[]⟩]) 2 24 Try.underlying36 hi hz0 hz1 hz2 rfl (by decide) v ps.length (flatP ps) hs (own_bel hown ((Below.refl _ W).alloc (Nat.le_refl _) _))
    ⟨W.heap.size, 0, none⟩ 1 1 [.int .i64 k, .string x] hx rfl (fun j u hu => ?_) (fun u hu => ?_) (by decide) (by unfold maxLen; omega) (by omega) (by simp; omega) (W.heap.size + 1) (by simp) (fun g cap w' h1 h2 h3 h4 => ?_)
  · rcases j with _ | _ | j
    · obtain rfl := Option.some.inj hu
      rw [add_at, cell_of_row _ _ _ _ _ _ (heap_alloc_new W _)]; rfl
    · obtain rfl := Option.some.inj hu
      rw [add_at, cell_of_row _ _ _ _ _ _ (heap_alloc_new W _)]; rfl
    · simp at hu
  · simp only [List.mem_cons, List.not_mem_nil, or_false] at hu
    rcases hu with rfl | rfl <;> rfl
  · have := h g cap w' (by unfold OG; rw [el, flatP_append]; exact h1) h2 h4
    rw [el] at this; exact this
theorem pushG_bel {W W2 z : World} {lo B : Nat} {o : Obj} {v : Value} {xs : List Pt} (hz : Below B z W) (h1 : OG W lo v xs) (hB : B ≤ lo) (hlo : B ≤ W.heap.size) (hgr : (W.alloc o).grownBy W2 v.ownBlock) : Below B z W2 :=
  (hz.alloc hlo o).grown hgr (by simp; omega) (fun k hk => Nat.le_trans hB (own_wi h1 k hk).1)
def mg : List Pt → List Pt → List Pt
  | [], ys => ys
  | a :: xs, [] => a :: xs
  | a :: xs, b :: ys => if a.1 < b.1 then a :: mg xs (b :: ys) else if a.1 = b.1 then b :: mg xs ys else b :: mg (a :: xs) ys
termination_by p q => p.length + q.length
theorem mg_nil (xs : List Pt) : mg xs [] = xs := by cases xs <;> simp [mg]
theorem mg_a {xs ys : List Pt} {i j : Nat} (hi : i < xs.length) (h : ∀ hj : j < ys.length, xs[i].1 < ys[j].1) : mg (xs.drop i) (ys.drop j) = xs[i] :: mg (xs.drop (i + 1)) (ys.drop j) := by
  rw [List.drop_eq_getElem_cons hi]
  by_cases hj : j < ys.length
  · rw [List.drop_eq_getElem_cons hj]
    rw [mg, if_pos (h hj)]
  · rw [List.drop_eq_nil_of_le (by omega : ys.length ≤ j), mg_nil, mg_nil]
theorem mg_e {xs ys : List Pt} {i j : Nat} (hi : i < xs.length) (hj : j < ys.length) (h : xs[i].1 = ys[j].1) : mg (xs.drop i) (ys.drop j) = ys[j] :: mg (xs.drop (i + 1)) (ys.drop (j + 1)) := by
  rw [List.drop_eq_getElem_cons hi, List.drop_eq_getElem_cons hj, mg, if_neg (by omega), if_pos h]
theorem mg_b {xs ys : List Pt} {i j : Nat} (hj : j < ys.length) (h : ∀ hi : i < xs.length, ys[j].1 < xs[i].1) : mg (xs.drop i) (ys.drop j) = ys[j] :: mg (xs.drop i) (ys.drop (j + 1)) := by
  rw [List.drop_eq_getElem_cons hj]
  by_cases hi : i < xs.length
  · have := h hi
    rw [List.drop_eq_getElem_cons hi, mg, if_neg (by omega), if_neg (by omega)]
  · rw [List.drop_eq_nil_of_le (by omega : xs.length ≤ i), mg, mg]
def AnsG (D : List Pt) (w : World) (e : Ending) (w' : World) : Prop := ∃ v : Value, e = .returned v ∧ OG w' w.heap.size v D ∧ Below w.heap.size w w'
def MgI (xs ys : List Pt) (w : World) (vl iv jv : Value) (wr : World) : Prop := ∃ (i j : Nat) (L : List Pt), i ≤ xs.length ∧ j ≤ ys.length ∧ iv = .int .i64 (i : Int) ∧ jv = .int .i64 (j : Int) ∧ OG wr w.heap.size vl L ∧ L ++ mg (xs.drop i) (ys.drop j) = mg xs ys ∧ L.length ≤ i + j ∧ Below w.heap.size w wr
def mgD (xs ys : List Pt) : List Pt := if pgOk xs then (if pgOk ys then mg xs ys else []) else []
end Go.Proofs.Ytplfnlalmcpcaaa
