/- What is read as a binary form of a pipeline, in plain words; one filter more on a list. No statement is proved here. -/
import Derived.Test.YtmddgncidgdglaaPlI
import Derived.Test.YtmddgncidgdglaaRdI
import Derived.Test.YtmddgncidgdglaaPsT
import Derived.Deep.AppendLies
import Derived.Deep.DrawnRows
namespace Go.Proofs.Ytmddgncidgdglaa
open Go.RowKit
set_option linter.unusedVariables false
def e3 (p : EFI) : List UInt8 := [byteOf p.1 0, byteOf p.2.1 0, byteOf (flg p.2.2) 0]
def encB (ps : List EFI) : List UInt8 := byteOf (ps.length : Int) 0 :: ps.flatMap e3
theorem fB_list (p : EFI) : (fB p).data.toList = e3 p := by simp [fB, leS, leL, e3]
theorem plT_list (h : ByteArray) (ps : List EFI) : ∀ j, j ≤ ps.length → (plT h ps j).data.toList = h.data.toList ++ (ps.take j).flatMap e3
  | 0, _ => by simp [plT]
  | j + 1, hj => by
    have hj' : j < ps.length := hj
    rw [plT, ByteArray.data_append, Array.toList_append, plT_list h ps j (by omega), fB_list, List.getD_eq_getElem?_getD, List.getElem?_eq_getElem hj', Option.getD_some, ← List.take_append_getElem hj', List.flatMap_append, List.append_assoc]
    simp
theorem plF_list (ps : List EFI) : (plF ps).data.toList = encB ps := by
  unfold plF
  rw [plT_list _ _ _ (Nat.le_refl _), List.take_length]
  simp [plH, leS, leL, encB]
/-- At most n whole entries. -/
def mPl : Nat → List UInt8 → List EFI
  | n + 1, a :: b :: c :: l => ((a.toNat : Int), (b.toNat : Int), decide (c.toNat = 1)) :: mPl n l
  | _, _ => []
def nv (l : List UInt8) : Int := match l with
  | [] => 0
  | x :: _ => (x.toNat : Int)
/-- n entries, what is missing read as 0. -/
def iPl : Nat → List UInt8 → List EFI
  | 0, _ => []
  | n + 1, l => (nv l, nv (l.drop 1), decide (nv (l.drop 2) = 1)) :: iPl n (l.drop 3)
theorem byte_back {n : Int} (h0 : 0 ≤ n) (h : n < 256) : ((byteOf n 0).toNat : Int) = n := by
  rw [byteOf_toNat]
  simp
  omega
theorem flg_back (b : Bool) : decide ((byteOf (flg b) 0).toNat = 1) = b := by cases b <;> rfl
theorem e3_back {p : EFI} (h : 0 ≤ p.1 ∧ p.1 < 256 ∧ 0 ≤ p.2.1 ∧ p.2.1 < 256) : (((byteOf p.1 0).toNat : Int), ((byteOf p.2.1 0).toNat : Int), decide ((byteOf (flg p.2.2) 0).toNat = 1)) = p := by
  rw [byte_back h.1 h.2.1, byte_back h.2.2.1 h.2.2.2, flg_back]
theorem mPl_back : ∀ (ps : List EFI) (n : Nat), ps.length ≤ n → (∀ p ∈ ps, 0 ≤ p.1 ∧ p.1 < 256 ∧ 0 ≤ p.2.1 ∧ p.2.1 < 256) → mPl n (ps.flatMap e3) = ps
  | [], n, _, _ => by cases n <;> rfl
  | p :: ps, n, hn, h => by
    obtain ⟨n', rfl⟩ : ∃ n', n = n' + 1 := ⟨n - 1, by simp at hn; omega⟩
    have e : (p :: ps).flatMap e3 = byteOf p.1 0 :: byteOf p.2.1 0 :: byteOf (flg p.2.2) 0 :: ps.flatMap e3 := rfl
    rw [e, mPl, e3_back (h p (by simp)), mPl_back ps n' (by simp at hn; omega) (fun q hq => h q (by simp [hq]))]
theorem nv_dec (c : UInt8) (l : List UInt8) : decide (nv (c :: l) = 1) = decide (c.toNat = 1) := by
  rw [decide_eq_decide]
  show (c.toNat : Int) = 1 ↔ _
  omega
theorem iPl_back : ∀ (ps : List EFI), (∀ p ∈ ps, 0 ≤ p.1 ∧ p.1 < 256 ∧ 0 ≤ p.2.1 ∧ p.2.1 < 256) → iPl ps.length (ps.flatMap e3) = ps
  | [], _ => rfl
  | p :: ps, h => by
    have e : (p :: ps).flatMap e3 = byteOf p.1 0 :: byteOf p.2.1 0 :: byteOf (flg p.2.2) 0 :: ps.flatMap e3 := rfl
    rw [e, List.length_cons, iPl]
    simp only [List.drop_succ_cons, List.drop_zero]
    rw [nv_dec, iPl_back ps (fun q hq => h q (by simp [hq]))]
    show (((byteOf p.1 0).toNat : Int), ((byteOf p.2.1 0).toNat : Int), decide ((byteOf (flg p.2.2) 0).toNat = 1)) :: ps = _
    rw [e3_back (h p (by simp))]
theorem plOk_in {ps : List EFI} (h : plOk ps = true) : ∀ p ∈ ps, 0 ≤ p.1 ∧ p.1 < 256 ∧ 0 ≤ p.2.1 ∧ p.2.1 < 256 := fun p hp => by
  obtain ⟨i, hi, rfl⟩ := List.getElem_of_mem hp
  have := filOk_b (by rw [← flAt_at hi]; exact allTo_at (plOk_b h).2 hi : filOk ps[i].1 ps[i].2.1 ps[i].2.2 = true)
  omega
def mP (s : ByteArray) : List EFI := mPl 5 (s.data.toList.drop 1)
def iP (s : ByteArray) : List EFI := iPl (nv s.data.toList).toNat (s.data.toList.drop 1)
def dpOk (s : ByteArray) : Bool := plOk (mP s) && decide (plF (mP s) = s)
def dpL (s : ByteArray) : List EFI := if dpOk s then mP s else []
theorem mP_back {ps : List EFI} (h : plOk ps = true) : mP (plF ps) = ps := by
  unfold mP
  rw [plF_list]
  exact mPl_back ps 5 (by have := (plOk_b h).1; omega) (plOk_in h)
theorem iP_back {ps : List EFI} (h : plOk ps = true) : iP (plF ps) = ps := by
  have h4 := (plOk_b h).1
  unfold iP
  rw [plF_list]
  have e : (nv (encB ps)).toNat = ps.length := by
    show ((byteOf (ps.length : Int) 0).toNat : Int).toNat = _
    rw [byte_back (by omega) (by omega)]
    omega
  rw [e]
  exact iPl_back ps (plOk_in h)
/-- Both readers accept the same. -/
theorem dp_both (s : ByteArray) : (plOk (iP s) && decide (plF (iP s) = s)) = dpOk s ∧ (dpOk s = true → iP s = mP s) := by
  have h1 : dpOk s = true → iP s = mP s := fun h => by
    simp only [dpOk, Bool.and_eq_true, decide_eq_true_eq] at h
    have := iP_back h.1
    rwa [h.2] at this
  refine ⟨?_, h1⟩
  cases hd : dpOk s
  · cases hi : (plOk (iP s) && decide (plF (iP s) = s))
    · rfl
    · simp only [Bool.and_eq_true, decide_eq_true_eq] at hi
      have := mP_back hi.1
      rw [hi.2] at this
      have h2 : dpOk s = true := by rw [dpOk, this, hi.1, decide_eq_true hi.2]; rfl
      rw [hd] at h2
      cases h2
  · rw [h1 hd]
    exact hd
/-- The test that the two functions make, said of the form of a list. -/
theorem plA_ne {ps : List EFI} {s : ByteArray} (h0 : s ≠ ⟨#[]⟩) : decide (plA ps = s) = (plOk ps && decide (plF ps = s)) := by
  unfold plA
  cases h : plOk ps
  · rw [if_neg (by simp), decide_eq_false (fun e => h0 e.symm)]
    rfl
  · rw [if_pos rfl]
    rfl
theorem dpOk_nil : dpOk ⟨#[]⟩ = false := by
  have : plF (mP ⟨#[]⟩) ≠ ⟨#[]⟩ := fun e => by
    have := congrArg ByteArray.size e
    rw [plF, plT_size] at this
    have h2 : (plH (mP ⟨#[]⟩)).size = 1 := leS_one _ _
    rw [h2] at this
    have h3 : (⟨#[]⟩ : ByteArray).size = 0 := rfl
    omega
  rw [dpOk, decide_eq_false this, Bool.and_false]
theorem infoFz : (Try.prog.info? 25).map (fun i => (i.zero, i.size, i.bytes)) = some (some (.agg #[.int .i64 0, .int .i64 0, .bool false]), 3, 24) := by kernel_rfl
theorem OFI.opened {W : World} {lo : Nat} {v : Value} {ss : List EFI} (h : OFI W lo v ss) : ∃ A cap, v = .slice A ss.length cap := by
  rcases h.sl with ⟨rfl, rfl⟩ | ⟨x, cap, rfl, _⟩ <;> exact ⟨_, _, rfl⟩
theorem OFI.none (w : World) (lo : Nat) : OFI w lo (.slice none 0 0) [] := ⟨rfl, .inl ⟨rfl, rfl⟩⟩
theorem cellsF_lies {W : World} {x y : Int} {b : Bool} (j : Nat) (u : Value) (hu : [Value.int .i64 x, .int .i64 y, .bool b][j]? = some u) : (W.alloc (.cells #[.int .i64 x, .int .i64 y, .bool b] 25)).cell? ((⟨W.heap.size, 0, none⟩ : Addr).add j) = some u := by
  rcases j with _ | _ | _ | j
  · obtain rfl := Option.some.inj hu
    rw [add_at, cell_of_row _ _ _ _ _ _ (heap_alloc_new W _)]; rfl
  · obtain rfl := Option.some.inj hu
    rw [add_at, cell_of_row _ _ _ _ _ _ (heap_alloc_new W _)]; rfl
  · obtain rfl := Option.some.inj hu
    rw [add_at, cell_of_row _ _ _ _ _ _ (heap_alloc_new W _)]; rfl
  · simp at hu
theorem wpList_pushF {ops : Array Oper} {rest : List Oper} {o : Oper} {a : Act} {Q : Exit → Act → World → Prop} {W : World} {lo B : Nat} {v : Value} {ps : List EFI} {x y : Int} {b : Bool} (hgd : o.guard = none) (s z : Operand)
    (ho : o.op = .call { callee := .builtin .append, args := #[s, z], argTypes := #[37, 37] }) (hs : a.eval s = v) (hx : a.eval z = .slice (some ⟨B, 0, none⟩) 1 1) (hB : W.heap.size = B)
    (hown : OFI W lo v ps) (hlo : lo ≤ W.heap.size) (hlen : ps.length ≤ 1048576)
    (h : ∀ g cap w', OFI w' lo (.slice (some ⟨g, 0, none⟩) (ps ++ [(x, y, b)]).length cap) (ps ++ [(x, y, b)]) → (W.alloc (.cells #[.int .i64 x, .int .i64 y, .bool b] 25)).grownBy w' v.ownBlock → g < w'.heap.size →
      wpList Try.prog ops Q rest (a.put o.dst (.slice (some ⟨g, 0, none⟩) (ps ++ [(x, y, b)]).length cap)) w') : wpList Try.prog ops Q (o :: rest) a (W.alloc (.cells #[.int .i64 x, .int .i64 y, .bool b] 25)) := by
  obtain ⟨i0, hi, hz0, hz1, hz2⟩ := info_partsT infoFz
  subst hB
  have el : (ps ++ [(x, y, b)]).length = ps.length + 1 := by simp
  refine wpList_append_lies _ hgd s z 37 ho lo 25 i0 (.agg #[.int .i64 0, .int .i64 0, .bool false]) 3 24 Try.underlying37 hi hz0 hz1 hz2 rfl (by decide) v ps.length (flatFI ps) hs (own_bel hown ((Below.refl _ W).alloc (Nat.le_refl _) _))
    ⟨W.heap.size, 0, none⟩ 1 1 [.int .i64 x, .int .i64 y, .bool b] hx rfl cellsF_lies (fun u hu => ?_) (by decide) (by unfold maxLen; omega) (by omega) (by simp; omega) (W.heap.size + 1) (by simp) (fun g cap w' h1 h2 h3 h4 => ?_)
  · simp only [List.mem_cons, List.not_mem_nil, or_false] at hu
    rcases hu with rfl | rfl | rfl <;> rfl
  · have := h g cap w' (by unfold OFI; rw [el, flatFI_append]; exact h1) h2 h4
    rw [el] at this; exact this
theorem step_pushF {ops : Array Oper} {o : Oper} {a : Act} {K : Act → World → Prop} {Q : Exit → Act → World → Prop} {E : Prop} {W : World} {lo : Nat} {v : Value} {ps : List EFI} {x y : Int} {b : Bool} (hgd : o.guard = none) (s z : Operand)
    (ho : o.op = .call { callee := .builtin .append, args := #[s, z], argTypes := #[37, 37] }) (hs : a.eval s = v) (hx : a.eval z = .slice (some ⟨W.heap.size, 0, none⟩) 1 1)
    (hown : OFI W lo v ps) (hlo : lo ≤ W.heap.size) (hlen : ps.length ≤ 1048576)
    (h : ∀ g cap w', OFI w' lo (.slice (some ⟨g, 0, none⟩) (ps ++ [(x, y, b)]).length cap) (ps ++ [(x, y, b)]) → (W.alloc (.cells #[.int .i64 x, .int .i64 y, .bool b] 25)).grownBy w' v.ownBlock → g < w'.heap.size →
      K (a.put o.dst (.slice (some ⟨g, 0, none⟩) (ps ++ [(x, y, b)]).length cap)) w') : if Region.wanted o (yielded ops a.tmps) = true then Oper.wp Try.prog o a (W.alloc (.cells #[.int .i64 x, .int .i64 y, .bool b] 25)) K Q else E := by
  have hw : Region.wanted o (yielded ops a.tmps) = true := by simp [Region.wanted, hgd]
  rw [if_pos hw]
  obtain ⟨i0, hi, hz0, hz1, hz2⟩ := info_partsT infoFz
  have el : (ps ++ [(x, y, b)]).length = ps.length + 1 := by simp
  refine wp_append_lies _ s z 37 ho lo 25 i0 (.agg #[.int .i64 0, .int .i64 0, .bool false]) 3 24 Try.underlying37 hi hz0 hz1 hz2 rfl (by decide) v ps.length (flatFI ps) hs (own_bel hown ((Below.refl _ W).alloc (Nat.le_refl _) _))
    ⟨W.heap.size, 0, none⟩ 1 1 [.int .i64 x, .int .i64 y, .bool b] hx rfl cellsF_lies (fun u hu => ?_) (by decide) (by unfold maxLen; omega) (by omega) (by simp; omega) (W.heap.size + 1) (by simp) (fun g cap w' h1 h2 h3 h4 => ?_)
  · simp only [List.mem_cons, List.not_mem_nil, or_false] at hu
    rcases hu with rfl | rfl | rfl <;> rfl
  · have := h g cap w' (by unfold OFI; rw [el, flatFI_append]; exact h1) h2 h4
    rw [el] at this; exact this
theorem pushF_bel {W W2 z : World} {lo B : Nat} {o : Obj} {v : Value} {xs : List EFI} (hz : Below B z W) (h1 : OFI W lo v xs) (hB : B ≤ lo) (hlo : B ≤ W.heap.size) (hgr : (W.alloc o).grownBy W2 v.ownBlock) : Below B z W2 :=
  (hz.alloc hlo o).grown hgr (by simp; omega) (fun k hk => Nat.le_trans hB (own_wi h1 k hk).1)
end Go.Proofs.Ytmddgncidgdglaa
