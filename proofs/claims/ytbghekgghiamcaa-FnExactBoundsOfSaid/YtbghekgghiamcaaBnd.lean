/- The bounds of boxes as lists; a box of one's own whose lists are written in place. No statement is proved here. -/
import Derived.Test.YtbghekgghiamcaaAcc
import Derived.Test.YtbghekgghiamcaaLst
namespace Go.Proofs.Ytbghekgghiamcaa
open Go.RowKit
set_option linter.unusedVariables false
/-- The first k of the numbers brought together by f, the others as they are. -/
def zwK (f : Int → Int → Int) (xs ys : List Int) (k : Nat) : List Int := (List.zipWith f xs ys).take k ++ xs.drop k
theorem zw_len {f : Int → Int → Int} {xs ys : List Int} (h : ys.length = xs.length) : (List.zipWith f xs ys).length = xs.length := by simp [List.length_zipWith]; omega
theorem zwK_len {f : Int → Int → Int} {xs ys : List Int} (h : ys.length = xs.length) (k : Nat) (hk : k ≤ xs.length) : (zwK f xs ys k).length = xs.length := by
  unfold zwK; rw [List.length_append, List.length_take, List.length_drop, zw_len h]; omega
theorem zwK_zero (f : Int → Int → Int) (xs ys : List Int) : zwK f xs ys 0 = xs := by simp [zwK]
theorem zwK_end {f : Int → Int → Int} {xs ys : List Int} (h : ys.length = xs.length) : zwK f xs ys xs.length = List.zipWith f xs ys := by
  unfold zwK; rw [List.take_of_length_le (by rw [zw_len h]; exact Nat.le_refl _)]; simp
theorem zwK_at {f : Int → Int → Int} {xs ys : List Int} (h : ys.length = xs.length) (k : Nat) (hk : k < xs.length) (h2 : k < (zwK f xs ys k).length) : (zwK f xs ys k)[k] = xs[k] := by
  have hl : ((List.zipWith f xs ys).take k).length = k := by rw [List.length_take, zw_len h]; omega
  have e : (zwK f xs ys k)[k]? = some xs[k] := by
    unfold zwK
    rw [List.getElem?_append_right (by rw [hl]; exact Nat.le_refl _), hl, Nat.sub_self, List.getElem?_drop, Nat.add_zero, List.getElem?_eq_getElem hk]
  exact Option.some.inj ((List.getElem?_eq_getElem h2).symm.trans e)
theorem zwK_set {f : Int → Int → Int} {xs ys : List Int} (h : ys.length = xs.length) (k : Nat) (hk : k < xs.length) (h2 : k < ys.length) : (zwK f xs ys k).set k (f xs[k] ys[k]) = zwK f xs ys (k + 1) := by
  have hl : ((List.zipWith f xs ys).take k).length = k := by rw [List.length_take, zw_len h]; omega
  have hz : k < (List.zipWith f xs ys).length := by rw [zw_len h]; exact hk
  unfold zwK
  rw [List.set_append, if_neg (by rw [hl]; omega), hl, Nat.sub_self, List.drop_eq_getElem_cons hk, List.set_cons_zero, List.take_succ_eq_append_getElem hz, List.append_assoc]
  simp
def bndL (bs : List Bx) : Nat → List Int
  | 0 => (bxAt bs 0).1
  | i + 1 => List.zipWith min (bndL bs i) (bxAt bs i).1
def bndH (bs : List Bx) : Nat → List Int
  | 0 => (bxAt bs 0).2
  | i + 1 => List.zipWith max (bndH bs i) (bxAt bs i).2
def bdOk (bs : List Bx) : Bool := boxesOk bs && decide (0 < bs.length)
def bdLo (bs : List Bx) : List Int := if bdOk bs then bndL bs bs.length else []
def bdHi (bs : List Bx) : List Int := if bdOk bs then bndH bs bs.length else []
theorem box_lens {bs : List Bx} (h : boxesOk bs = true) (i : Nat) (hi : i < bs.length) : (bxAt bs i).1.length = (bxAt bs 0).1.length ∧ (bxAt bs i).2.length = (bxAt bs 0).1.length ∧ (bxAt bs i).1.length ≤ 3 := by
  simp only [boxesOk, Bool.and_eq_true] at h
  have hk := allTo_at h.2 hi
  simp only [bsP, Bool.and_eq_true, decide_eq_true_eq] at hk
  obtain ⟨h3, h4, _⟩ := boxOk_iff hk.1
  omega
theorem bnd_lens {bs : List Bx} (h : boxesOk bs = true) : ∀ i, i ≤ bs.length → (0 < bs.length) → (bndL bs i).length = (bxAt bs 0).1.length ∧ (bndH bs i).length = (bxAt bs 0).1.length
  | 0, _, h0 => ⟨rfl, (box_lens h 0 h0).2.1⟩
  | i + 1, hi, h0 => by
    obtain ⟨h1, h2⟩ := bnd_lens h i (by omega) h0
    obtain ⟨h3, h4, _⟩ := box_lens h i (by omega)
    rw [bndL, bndH, zw_len (by omega), zw_len (by omega)]
    exact ⟨h1, h2⟩
theorem bnd_in {bs : List Bx} (hi : ∀ p ∈ bs, (∀ x ∈ p.1, InI x) ∧ ∀ x ∈ p.2, InI x) : ∀ i, i ≤ bs.length → 0 < bs.length → (∀ x ∈ bndL bs i, InI x) ∧ ∀ x ∈ bndH bs i, InI x
  | 0, _, h0 => by
    have := hi bs[0] (List.getElem_mem h0)
    rw [bndL, bndH, bxAt_at _ _ h0]; exact this
  | i + 1, hl, h0 => by
    obtain ⟨h1, h2⟩ := bnd_in hi i (by omega) h0
    have h3 := hi bs[i] (List.getElem_mem (by omega))
    rw [bndL, bndH, bxAt_at _ _ (by omega)]
    refine ⟨fun x hx => ?_, fun x hx => ?_⟩
    · obtain ⟨j, hj, rfl⟩ := List.mem_iff_getElem.1 hx
      rw [List.getElem_zipWith]
      have a1 := h1 _ (List.getElem_mem (show j < (bndL bs i).length by simp at hj; omega))
      have a2 := h3.1 _ (List.getElem_mem (show j < bs[i].1.length by simp at hj; omega))
      unfold InI at *; omega
    · obtain ⟨j, hj, rfl⟩ := List.mem_iff_getElem.1 hx
      rw [List.getElem_zipWith]
      have a1 := h2 _ (List.getElem_mem (show j < (bndH bs i).length by simp at hj; omega))
      have a2 := h3.2 _ (List.getElem_mem (show j < bs[i].2.length by simp at hj; omega))
      unfold InI at *; omega
/-- A box in block g, its two lists one's own from lo on. -/
def Two (W : World) (lo g : Nat) (v1 v2 : Value) (xs ys : List Int) : Prop :=
  W.heap[g]? = some (.cells #[v1, v2] 43 (0, 0)) ∧ OI W lo v1 xs ∧ OI W lo v2 ys ∧ Apart v1 v2 ∧ v1.ownBlock ≠ some g ∧ v2.ownBlock ≠ some g ∧ lo ≤ g
theorem Two.lt {W : World} {lo g : Nat} {v1 v2 : Value} {xs ys : List Int} (h : Two W lo g v1 v2 xs ys) : g < W.heap.size := by
  rcases Nat.lt_or_ge g W.heap.size with hl | hl
  · exact hl
  · have := h.1; rw [Array.getElem?_eq_none hl] at this; cases this
theorem Two.c0 {W : World} {lo g : Nat} {v1 v2 : Value} {xs ys : List Int} (h : Two W lo g v1 v2 xs ys) : W.cell? ⟨g, 0, none⟩ = some v1 := by rw [cell_of_row _ _ _ _ _ _ h.1]; rfl
theorem Two.c1 {W : World} {lo g : Nat} {v1 v2 : Value} {xs ys : List Int} (h : Two W lo g v1 v2 xs ys) : W.cell? ⟨g, 1, none⟩ = some v2 := by rw [cell_of_row _ _ _ _ _ _ h.1]; rfl
theorem Two.keep {W W' : World} {lo g : Nat} {v1 v2 : Value} {xs ys : List Int} (h : Two W lo g v1 v2 xs ys) (hb : Below W.heap.size W W') : Two W' lo g v1 v2 xs ys :=
  ⟨(hb.block _ h.lt).trans h.1, h.2.1.bel hb, h.2.2.1.bel hb, h.2.2.2⟩
theorem Two.drew {W : World} {lo g : Nat} {v1 v2 : Value} {xs ys : List Int} (h : Two W lo g v1 v2 xs ys) : Two W.drew lo g v1 v2 xs ys := h
theorem Two.drewN {W : World} {lo g n : Nat} {v1 v2 : Value} {xs ys : List Int} (h : Two W lo g v1 v2 xs ys) : Two (W.drewN n) lo g v1 v2 xs ys := h
theorem oi_at {W : World} {lo n c k : Nat} {A : Option Addr} {xs : List Int} (h : OI W lo (.slice A n c) xs) (hk : k < xs.length) : ∃ b, A = some ⟨b, 0, none⟩ ∧ lo ≤ b ∧ b < W.heap.size ∧ n = xs.length ∧ W.cell? ⟨b, k, none⟩ = some (.int .i64 xs[k]) ∧ W.frozen? ⟨b, k, none⟩ = false := by
  rcases h.slice with ⟨_, rfl⟩ | ⟨b, cap, he, hlo, hlt, _, _⟩
  · simp at hk
  · injection he with e1 e2 e3
    subst e1; subst e2; subst e3
    refine ⟨b, rfl, hlo, hlt, rfl, h.cell k hk, ?_⟩
    rcases h.2 with ⟨h0, _⟩ | ⟨g', cap', cur, he, hb, hgg, _⟩
    · cases h0
    · have e : b = g' := by simp only [Value.slice.injEq, Option.some.injEq, Addr.mk.injEq] at he; exact he.1.1
      subst e
      exact frozen_of_row _ _ _ _ _ hgg
theorem Two.set0 {W : World} {lo g b n c k : Nat} {v2 : Value} {xs ys : List Int} (h : Two W lo g (.slice (some ⟨b, 0, none⟩) n c) v2 xs ys) (hk : k < xs.length) (x : Int) :
    Two (W.setCell ⟨b, k, none⟩ (.int .i64 x)) lo g (.slice (some ⟨b, 0, none⟩) n c) v2 (xs.set k x) ys ∧ Below lo W (W.setCell ⟨b, k, none⟩ (.int .i64 x)) := by
  have hb : lo ≤ b := (h.2.1.wi b rfl).1
  have hg : g ≠ b := fun e => h.2.2.2.2.1 (by rw [e]; rfl)
  refine ⟨⟨(heap_setCell_other _ ⟨b, k, none⟩ g _ hg).trans h.1, h.2.1.set k x hk, h.2.2.1.same fun q hq => heap_setCell_other _ ⟨b, k, none⟩ q _ (fun e => ?_), h.2.2.2⟩, (Below.refl _ _).setCell (p := ⟨b, k, none⟩) hb _⟩
  exact h.2.2.2.1 b rfl (by rw [hq]; exact congrArg some e)
theorem Two.set1 {W : World} {lo g b n c k : Nat} {v1 : Value} {xs ys : List Int} (h : Two W lo g v1 (.slice (some ⟨b, 0, none⟩) n c) xs ys) (hk : k < ys.length) (x : Int) :
    Two (W.setCell ⟨b, k, none⟩ (.int .i64 x)) lo g v1 (.slice (some ⟨b, 0, none⟩) n c) xs (ys.set k x) ∧ Below lo W (W.setCell ⟨b, k, none⟩ (.int .i64 x)) := by
  have hb : lo ≤ b := (h.2.2.1.wi b rfl).1
  have hg : g ≠ b := fun e => h.2.2.2.2.2.1 (by rw [e]; rfl)
  refine ⟨⟨(heap_setCell_other _ ⟨b, k, none⟩ g _ hg).trans h.1, h.2.1.same fun q hq => heap_setCell_other _ ⟨b, k, none⟩ q _ (fun e => ?_), h.2.2.1.set k x hk, h.2.2.2⟩, (Below.refl _ _).setCell (p := ⟨b, k, none⟩) hb _⟩
  exact h.2.2.2.1 q hq (by rw [e]; rfl)
/-- The box's lists as the answer's. -/
theorem Two.ans {w W : World} {lo g r : Nat} {v1 v2 x : Value} {xs ys : List Int} {cs : Array Value} (a : Two W lo g v1 v2 xs ys) (hr : r < lo) (hlo : w.heap.size ≤ r) (hw : Below w.heap.size w W) :
    AnsAt xs ys x w (.returned (.tuple #[.agg #[v1, v2], x])) (W.setRow r cs) := by
  have key : ∀ {v : Value} {zs : List Int}, OI W lo v zs → OI (W.setRow r cs) w.heap.size v zs := fun h =>
    (h.same fun k hk => setRow_other W r k cs (fun e => by have := h.wi k hk; omega)).lo (by omega)
  obtain ⟨A1, c1, rfl⟩ := a.2.1.sl
  obtain ⟨A2, c2, rfl⟩ := a.2.2.1.sl
  exact ⟨A1, A2, c1, c2, rfl, key a.2.1, key a.2.2.1, a.2.2.2.1, below_setRow hw hlo _⟩
/-- Lists copied, whatever their room. -/
def ClAt (xs : List Int) (w : World) (e : Ending) (w' : World) : Prop := ∃ A1 c1, e = .returned (.slice A1 xs.length c1) ∧ OI w' w.heap.size (.slice A1 xs.length c1) xs ∧ Below w.heap.size w w'
theorem OI.cl {w w' : World} {v : Value} {xs : List Int} (h : OI w' w.heap.size v xs) (hb : Below w.heap.size w w') : ClAt xs w (.returned v) w' := by
  obtain ⟨A1, c1, rfl⟩ := h.sl
  exact ⟨A1, c1, rfl, h, hb⟩
set_option maxHeartbeats 400000 in
theorem sCl_any {B : Nat} {w : World} {A : Option Addr} {c : Nat} {xs : List Int} (h : Ri B w (.slice A xs.length c) xs) (hB : B ≤ w.heap.size) (hs : xs.length ≤ 1048576) :
    Calls Try.prog 51 #[.slice A xs.length c] w (ClAt xs w) := by
  obtain ⟨A1, cap, hv, hl, hm, hx⟩ := h
  have e1 : A1 = A := by injection hv with h1 h2 h3; exact h1.symm
  subst e1
  clear hv hl hm cap
  obtain ⟨i0, hi, hz0, hz1, hz2⟩ := info_parts infoI
  have Hown : Hid ((w.alloc (.cells #[] 2)).ownsRow w.heap.size 2 1 (.slice (some ⟨w.heap.size, 0, none⟩) 0 0) 0 []) := Lib.hid (World.ownsRow_made w #[] 0 (Nat.le_refl _) (by decide) (by simp))
  cases A1 with
  | none =>
    have h0 : xs = [] := by
      rcases xs with _ | ⟨x, l⟩
      · rfl
      · obtain ⟨b, o, hA, _⟩ := hx 0 (by simp); cases hA
    subst h0
    clear hx
    go_enter Try.func51, Try.ntmps51
    go_wp2_with (refine wpList_append_own_none rfl (.tmp 3) (.tmp 4) 22 rfl w.heap.size 2 i0 1 Try.underlying22 hi _ 0 [] rfl Hown.out rfl ?_)
    go_ret
    exact OI.cl Hown.out ((Below.refl _ w).alloc (Nat.le_refl _) _)
  | some ad =>
    have Hc : Hid (∀ j u, (xs.map (Value.int .i64))[j]? = some u → (w.alloc (.cells #[] 2)).cell? (ad.add j) = some u) := Lib.hid (fun j u hu => by
      rw [List.getElem?_map] at hu
      obtain ⟨x, hxj, rfl⟩ := Option.map_eq_some_iff.1 hu
      obtain ⟨hj, rfl⟩ := List.getElem?_eq_some_iff.1 hxj
      obtain ⟨b, o, hA, hb, hc, _⟩ := hx j hj
      cases hA
      rw [add_at, World.cell?_alloc_lt w _ _ (by simp only; omega)]
      exact hc)
    clear hx
    go_enter Try.func51, Try.ntmps51
    go_wp2_with (refine wpList_append_own _ rfl (.tmp 3) (.tmp 4) 22 rfl w.heap.size 2 i0 (.int .i64 0) 1 8 Try.underlying22 hi hz0 hz1 hz2 rfl (by decide) (.slice (some ⟨w.heap.size, 0, none⟩) 0 0) 0 [] rfl Hown.out ad xs.length c (xs.map (Value.int .i64)) rfl (by simp) Hc.out (by intro u hu; obtain ⟨x, _, rfl⟩ := List.mem_map.1 hu; rfl) (by unfold maxLen; omega) (by omega) (by simp) ?_; intro v2 w2 hown2 hg2 hnil2)
    go_ret
    exact OI.cl (by unfold OI; simpa using hown2) (((Below.refl _ w).alloc (Nat.le_refl _) _).grown hg2 (by simp) (fun k hk => by simp [Value.ownBlock] at hk; omega))
theorem eql_noneC (c : Nat) (w : World) : Sem.run Try.prog (binOp BinOp.eql 22 (Value.slice none 0 c) (Value.slice none 0 0)) w = .ok (.bool true) w := by kernel_rfl
set_option maxHeartbeats 400000 in
theorem pCl_any {B : Nat} {w : World} {A : Option Addr} {c : Nat} {xs : List Int} (h : Ri B w (.slice A xs.length c) xs) (hB : B ≤ w.heap.size) (hs : xs.length ≤ 1048576) :
    Calls Try.prog 37 #[.slice A xs.length c] w (ClAt xs w) := by
  obtain ⟨A1, cap, hv, hl, hm, hx⟩ := h
  have e1 : A1 = A := by injection hv with h1 h2 h3; exact h1.symm
  subst e1
  clear hv hl hm cap
  obtain ⟨i0, hi, hz0, hz1, hz2⟩ := info_parts infoI
  have Hown : Hid ((w.alloc (.cells #[] 2)).ownsRow w.heap.size 2 1 (.slice (some ⟨w.heap.size, 0, none⟩) 0 0) 0 []) := Lib.hid (World.ownsRow_made w #[] 0 (Nat.le_refl _) (by decide) (by simp))
  cases A1 with
  | none =>
    have h0 : xs = [] := by
      rcases xs with _ | ⟨x, l⟩
      · rfl
      · obtain ⟨b, o, hA, _⟩ := hx 0 (by simp); cases hA
    subst h0
    clear hx
    have hq := eql_noneC c
    go_enter Try.func37, Try.ntmps37
    go_wp2
    go_ret
    exact OI.cl ⟨by simp, .inl ⟨rfl, rfl⟩⟩ (Below.refl _ w)
  | some ad =>
    have Hc : Hid (∀ j u, (xs.map (Value.int .i64))[j]? = some u → (w.alloc (.cells #[] 2)).cell? (ad.add j) = some u) := Lib.hid (fun j u hu => by
      rw [List.getElem?_map] at hu
      obtain ⟨x, hxj, rfl⟩ := Option.map_eq_some_iff.1 hu
      obtain ⟨hj, rfl⟩ := List.getElem?_eq_some_iff.1 hxj
      obtain ⟨b, o, hA, hb, hc, _⟩ := hx j hj
      cases hA
      rw [add_at, World.cell?_alloc_lt w _ _ (by simp only; omega)]
      exact hc)
    clear hx
    have hq := fun w n c => eql_some w ad n c
    go_enter Try.func37, Try.ntmps37
    go_wp2_with (refine wpList_append_own _ rfl (.tmp 5) (.tmp 6) 22 rfl w.heap.size 2 i0 (.int .i64 0) 1 8 Try.underlying22 hi hz0 hz1 hz2 rfl (by decide) (.slice (some ⟨w.heap.size, 0, none⟩) 0 0) 0 [] rfl Hown.out ad xs.length c (xs.map (Value.int .i64)) rfl (by simp) Hc.out (by intro u hu; obtain ⟨x, _, rfl⟩ := List.mem_map.1 hu; rfl) (by unfold maxLen; omega) (by omega) (by simp) ?_; intro v2 w2 hown2 hg2 hnil2)
    go_ret
    exact OI.cl (by unfold OI; simpa using hown2) (((Below.refl _ w).alloc (Nat.le_refl _) _).grown hg2 (by simp) (fun k hk => by simp [Value.ownBlock] at hk; omega))
/-- This block holds these cells. -/
def Rw2 (w : World) (g : Nat) (t : TypeId) (a b : Value) : Prop := w.heap[g]? = some (.cells #[a, b] t (0, 0))
theorem Rw2.c0 {w : World} {g : Nat} {t : TypeId} {a b : Value} (h : Rw2 w g t a b) : w.cell? ⟨g, 0, none⟩ = some a := by rw [cell_of_row _ _ _ _ _ _ h]; rfl
theorem Rw2.c1 {w : World} {g : Nat} {t : TypeId} {a b : Value} (h : Rw2 w g t a b) : w.cell? ⟨g, 1, none⟩ = some b := by rw [cell_of_row _ _ _ _ _ _ h]; rfl
theorem Rw2.f0 {w : World} {g : Nat} {t : TypeId} {a b : Value} (h : Rw2 w g t a b) : w.frozen? ⟨g, 0, none⟩ = false := frozen_of_row _ _ _ _ _ h
theorem Rw2.f1 {w : World} {g : Nat} {t : TypeId} {a b : Value} (h : Rw2 w g t a b) : w.frozen? ⟨g, 1, none⟩ = false := frozen_of_row _ _ _ _ _ h
theorem Rw2.lt {w : World} {g : Nat} {t : TypeId} {a b : Value} (h : Rw2 w g t a b) : g < w.heap.size := by
  rcases Nat.lt_or_ge g w.heap.size with hlt | hge
  · exact hlt
  · unfold Rw2 at h; rw [Array.getElem?_eq_none hge] at h; cases h
theorem Rw2.keep {w u : World} {g : Nat} {t : TypeId} {a b : Value} (h : Rw2 w g t a b) (k : Below w.heap.size w u) : Rw2 u g t a b := (k.block g h.lt).trans h
theorem newrow {w1 u : World} {a b : Value} {t : TypeId} (g : Below (w1.alloc (.cells #[a, b] t)).heap.size (w1.alloc (.cells #[a, b] t)) u) : Rw2 u w1.heap.size t a b := Rw2.keep (heap_alloc_new w1 _) g
theorem newrowd {w1 u : World} {a b : Value} {t : TypeId} (g : Below (w1.alloc (.cells #[a, b] t)).drew.heap.size (w1.alloc (.cells #[a, b] t)).drew u) : Rw2 u w1.heap.size t a b := Rw2.keep (w := (w1.alloc (.cells #[a, b] t)).drew) (heap_alloc_new w1 _) g
/-- Behind the making of the new box: its cells and its two lists. -/
def Fin3 (w1 W : World) (g : Nat) (va vb : Value) (ds ms : List Int) : Prop := Two W w1.heap.size g va vb ds ms ∧ Below w1.heap.size w1 W
theorem apart_of {u1 u2 : World} {l1 l2 : Nat} {va vb : Value} {ds ms : List Int} (oa : OI u1 l1 va ds) (ob : OI u2 l2 vb ms) (h : u1.heap.size ≤ l2) : Apart va vb := fun g hg he => by
  have h1 := oa.wi g hg; have h2 := ob.wi g he; omega
theorem bndC {w1 u1 u2 : World} {va vb : Value} {ds ms : List Int} {l1 : Nat} (kb1 : Below w1.heap.size w1 u1) (oa : OI u1 l1 va ds) (gb : Below u1.heap.size u1 u2) (ob : OI u2 u1.heap.size vb ms) (hl : w1.heap.size ≤ l1) :
    Fin3 w1 (u2.alloc (.cells #[va, vb] 43)) u2.heap.size va vb ds ms := by
  have ga : Below u2.heap.size u2 (u2.alloc (.cells #[va, vb] 43)) := (Below.refl _ _).alloc (Nat.le_refl _) _
  refine ⟨⟨heap_alloc_new u2 _, ((oa.bel gb).bel ga).lo hl, (ob.bel ga).lo kb1.size, apart_of oa ob (Nat.le_refl _), ?_, ?_, Nat.le_trans kb1.size gb.size⟩, (kb1.trans (gb.mono kb1.size)).alloc (Nat.le_trans kb1.size gb.size) _⟩
  · intro e; have := (oa.bel gb).wi _ e; omega
  · intro e; have := ob.wi _ e; omega
theorem bndS {w1 u2 : World} {g : Nat} {va vb a b : Value} {ds ms : List Int} (kb2 : Below w1.heap.size w1 u2) (oa : OI u2 w1.heap.size va ds) (ob : OI u2 w1.heap.size vb ms) (hap : Apart va vb) (ry : Rw2 u2 g 43 a b) (hg : w1.heap.size ≤ g)
    (na : va.ownBlock ≠ some g) (nb : vb.ownBlock ≠ some g) : Fin3 w1 ((u2.setCell ⟨g, 0, none⟩ va).setCell ⟨g, 1, none⟩ vb) g va vb ds ms := by
  have hh : ∀ k, k ≠ g → ((u2.setCell ⟨g, 0, none⟩ va).setCell ⟨g, 1, none⟩ vb).heap[k]? = u2.heap[k]? := fun k hk => by
    rw [heap_setCell_other _ ⟨g, 1, none⟩ k vb (fun e => hk e), heap_setCell_other _ ⟨g, 0, none⟩ k va (fun e => hk e)]
  refine ⟨⟨?_, oa.same fun k hk => hh k (fun e => na (e ▸ hk)), ob.same fun k hk => hh k (fun e => nb (e ▸ hk)), hap, na, nb, hg⟩, (kb2.setCell (p := ⟨g, 0, none⟩) hg _).setCell (p := ⟨g, 1, none⟩) hg _⟩
  exact heap_setCell_same _ _ _ _ _ _ (heap_setCell_same _ _ _ _ _ _ ry)
theorem bndB {w1 u1 u2 : World} {va vb a b : Value} {ds ms : List Int} {l1 : Nat} {o : Obj} (kb1 : Below w1.heap.size w1 u1) (kb2 : Below w1.heap.size w1 u2) (oa : OI u1 l1 va ds) (gb : Below (u1.alloc o).heap.size (u1.alloc o) u2) (ob : OI u2 (u1.alloc o).heap.size vb ms) (hl : w1.heap.size ≤ l1) (ry : Rw2 u2 u1.heap.size 43 a b) :
    Fin3 w1 ((u2.setCell ⟨u1.heap.size, 0, none⟩ va).setCell ⟨u1.heap.size, 1, none⟩ vb) u1.heap.size va vb ds ms := by
  have ho : Below u1.heap.size u1 (u1.alloc o) := (Below.refl _ _).alloc (Nat.le_refl _) _
  have hz : (u1.alloc o).heap.size = u1.heap.size + 1 := by simp
  refine bndS kb2 (((oa.bel ho).bel gb).lo hl) (ob.lo (by have := kb1.size; omega)) (apart_of oa ob (by omega)) ry kb1.size ?_ ?_
  · intro e; have := oa.wi _ e; omega
  · intro e; have := ob.wi _ e; omega
theorem bndA {w1 u1 u2 : World} {va vb a b : Value} {ds ms : List Int} {o : Obj} (kb1 : Below w1.heap.size w1 u1) (kb2 : Below w1.heap.size w1 u2) (oa : OI u1 (w1.alloc o).drew.heap.size va ds) (gb : Below u1.heap.size u1 u2) (ob : OI u2 u1.heap.size vb ms) (ry : Rw2 u2 w1.heap.size 43 a b) (rz : Rw2 u1 w1.heap.size 43 a b) :
    Fin3 w1 ((u2.setCell ⟨w1.heap.size, 0, none⟩ va).setCell ⟨w1.heap.size, 1, none⟩ vb) w1.heap.size va vb ds ms := by
  have hz : (w1.alloc o).drew.heap.size = w1.heap.size + 1 := by show (w1.alloc o).heap.size = _; simp
  have hlt := rz.lt
  refine bndS kb2 ((oa.bel gb).lo (by omega)) (ob.lo (by omega)) (apart_of oa ob (Nat.le_refl _)) ry (Nat.le_refl _) ?_ ?_
  · intro e; have := oa.wi _ e; omega
  · intro e; have := ob.wi _ e; omega
def BdAns (bs : List Bx) (w : World) (e : Ending) (w' : World) : Prop := AnsAt (bdLo bs) (bdHi bs) (.bool (bdOk bs)) w e w'
theorem bd_no {bs : List Bx} {w W : World} (hf : bdOk bs = false) (h : Below w.heap.size w W) : BdAns bs w (.returned (.tuple #[.agg #[.slice none 0 0, .slice none 0 0], .bool false])) W := by
  unfold BdAns bdLo bdHi
  rw [hf]
  exact ans_nil _ h
theorem bd_yes {bs : List Bx} {w W : World} {lo g r : Nat} {v1 v2 : Value} {cs : Array Value} (hf : bdOk bs = true) (a : Two W lo g v1 v2 (bndL bs bs.length) (bndH bs bs.length)) (hr : r < lo) (hlo : w.heap.size ≤ r) (hw : Below w.heap.size w W) : BdAns bs w (.returned (.tuple #[.agg #[v1, v2], .bool true])) (W.setRow r cs) := by
  unfold BdAns bdLo bdHi
  rw [hf]
  exact a.ans hr hlo hw
end Go.Proofs.Ytbghekgghiamcaa
