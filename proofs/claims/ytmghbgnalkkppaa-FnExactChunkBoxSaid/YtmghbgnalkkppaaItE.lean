/- Chunks: the iterator over the elements of an array. No statement is proved here. -/
import Derived.RangeFuncNested
import Derived.RangeFuncBound
import Derived.RangeFuncCalls
import Derived.RangeFuncLeaves
import Derived.Shelf.Abstract
import Derived.Shelf.RegionOpen
import Derived.WalkKit
import Derived.OwnWalkIn
import Derived.TacticsInMore
import Derived.LoopNIn
import Derived.LoopIn
import Derived.Test.YtmghbgnalkkppaaRgM
import Derived.Test.YtmghbgnalkkppaaTlD
import Derived.Test.YtmghbgnalkkppaaCoo
namespace Go.Proofs.Ytmghbgnalkkppaa
open Go.RowKit Go.Shelf
attribute [local go_sem] Oper.semAt_some
set_option linter.unusedVariables false
/-- What is read below m stays where these blocks do. -/
theorem Ri.on {m : Nat} {T : Bks} {w W : World} {v : Value} {xs : List Int} (h : Ri m w v xs) (hm : m ≤ w.heap.size) (hs : SameOn T w W) (hT : ∀ k, k < m → T k) : Ri m W v xs := by
  obtain ⟨A, cap, hv, h1, h2, h3⟩ := h
  refine ⟨A, cap, hv, h1, h2, fun i hi => ?_⟩
  obtain ⟨b, o, e, hb, hc, hI⟩ := h3 i hi
  exact ⟨b, o, e, hb, (World.cell?_of_block (w := w) (a := ⟨b, o + i, none⟩) (hs.2 b (hT b hb) (by omega))).trans hc, hI⟩
theorem elements_any (A : Option Addr) (l c : Nat) (w : World) : Calls Try.prog 63 #[.slice A l c] w fun e w' => e = .returned (.func (.func 75) #[] #[.pointer (some ⟨w.heap.size, 0, none⟩)]) ∧ w' = w.alloc (.cells #[.slice A l c] 41) := by
  go_enter Try.func63, Try.ntmps63
  go_wp2
  go_ret
  exact ⟨rfl, rfl⟩
/-- A row of coordinates, with their number. -/
def PxE (gs : List Int) (x : List Int) (v : Value) (W : World) : Prop := (∃ j : Nat, j < (prodL gs).toNat ∧ x = crF gs j) ∧ ∃ A : Option Addr, v = .slice A gs.length gs.length ∧ OI W 0 v x
def T0E (m Bs : Nat) : Bks := fun k => k < m ∨ k = Bs
set_option maxHeartbeats 4000000 in
set_option maxRecDepth 100000 in
theorem elem_yields {m Bs : Nat} {w : World} {v : Value} {gs : List Int} (h : Ri m w v gs) (hm : m ≤ w.heap.size) (hBs : w.heap[Bs]? = some (.cells #[v] 41 (0, 0))) (hl : gs.length ≤ 3) (hd : allTo (inD gs) gs.length = true) (hp : prodL gs ≤ 600) :
    Yields Try.prog 75 #[.pointer (some ⟨Bs, 0, none⟩)] (PxE gs) (fun ys => ys = els gs (prodL gs).toNat) (fun _ => True) 601 (T0E m Bs) w := by
  intro n l T J Jx W hW hcJ hcX hY h0
  have HcJ := Lib.hid hcJ; have HY := Lib.hid hY; have H0 := Lib.hid h0
  have hBl : Bs < w.heap.size := (Array.getElem?_eq_some_iff.1 hBs).1
  have HR : Hid (∀ X, SameOn (T0E m Bs) W X → m ≤ X.heap.size ∧ Ri m X v gs ∧ X.cell? ⟨Bs, 0, none⟩ = some v) := Lib.hid (fun X hX => by
    have h1 := hW.trans hX
    refine ⟨Nat.le_trans hm h1.1, h.on hm h1 (fun k hk => .inl hk), ?_⟩
    rw [cell_of_row _ _ _ _ _ _ ((h1.2 Bs (.inr rfl) hBl).trans hBs)]; rfl)
  have HPr : Hid (∀ X, SameOn (T0E m Bs) W X → Calls Try.prog 38 #[v] X (Quiet (.int .i64 (prodL gs)) X)) := Lib.hid (fun X hX => product_any (HR.out X hX).2.1 ⟨hl, hd⟩)
  have hp0 := (prodK_small _ hl _ (Nat.le_refl _) hd).1
  obtain ⟨N, hN⟩ : ∃ N : Nat, prodL gs = (N : Int) := ⟨(prodL gs).toNat, by have : prodL gs = prodK gs gs.length := rfl; omega⟩
  have HCo : Hid (∀ X (j : Nat), SameOn (T0E m Bs) W X → j < N → Calls Try.prog 74 #[v, .int .i64 (j : Int)] X fun e w' => ∃ A1 : Option Addr, e = .returned (.slice A1 gs.length gs.length) ∧ OI w' X.heap.size (.slice A1 gs.length gs.length) (crds gs (j : Int)) ∧ Below X.heap.size X w') := Lib.hid (fun X j hX hj => callsIn_wide.1 (coordsOf_in Fence.wide 3 trivial trivial trivial rfl (by omega) (HR.out X hX).2.1 (HR.out X hX).1 hl (by omega) (by omega) (pos_of_count hd (by omega))))
  have HE : Hid ((prodL gs).toNat = N) := Lib.hid (by omega)
  rw [hN] at HPr
  have hN6 : N ≤ 600 := by omega
  clear hp0 hN hcJ hY h0 hBs hW hBl
  refine callsIn_of_wp Try.func75 rfl trivial ?_ rfl
  simp only [Try.ntmps75, List.size_toArray, List.length_cons, List.length_nil, Nat.reduceAdd, Nat.reduceSub, Array.replicate_succ, Array.replicate_zero, List.push_toArray, List.append_toArray, List.nil_append, List.cons_append]
  have c0 := (HR.out W (SameOn.refl _ _)).2.2
  gi_wp2_with fail
  refine ⟨trivial, (fun h => by cases h), ?_⟩
  refine (callsIn_wide.2 (HPr.out W (SameOn.refl _ _))).mono ?_
  rintro e w1 ⟨rfl, rfl⟩
  clear c0
  gi_wp2
  gi_loopw [6] (fun x wr => ∃ (j : Nat) (T' : Bks), j ≤ N ∧ x = .int .i64 (j : Int) ∧ (∀ k, T k → T' k) ∧ J T' (els gs j) wr ∧ SameOn (T0E m Bs) W wr) (fun x _ => N - (intOf x).toNat)
  case atStart => exact ⟨0, T, Nat.zero_le _, rfl, fun _ h => h, H0.out, SameOn.refl _ _⟩
  case round =>
    obtain ⟨j, T', hj, rfl, hTT, hJ, hS⟩ := hrel
    have HTT := Lib.hid hTT; have HJ := Lib.hid hJ; have HS := Lib.hid hS
    clear hTT hJ hS
    have c0 := (HR.out wr HS.out).2.2
    by_cases hlt : j < N
    · gi_wp2_with fail
      refine ⟨trivial, (fun h => by cases h), ?_⟩
      refine (callsIn_wide.2 (HCo.out wr j HS.out hlt)).mono ?_
      rintro e w2 ⟨A1, rfl, ho, hb⟩
      have HS2 := Lib.hid (HS.out.trans (SameOn.bel hb))
      have HJ2 := Lib.hid (HcJ.out.bel HJ.out hb)
      have Hpx : Hid (PxE gs (crF gs j) (.slice A1 gs.length gs.length) w2) := Lib.hid ⟨⟨j, by rw [HE.out]; exact hlt, rfl⟩, A1, rfl, ho.lo (Nat.zero_le _)⟩
      have hst : els gs j ++ [crF gs j] = els gs (j + 1) := by unfold els; rw [List.range_succ, List.map_append]; rfl
      have Hst := Lib.hid hst
      obtain ⟨fn, tmps, assign, body, hy, hR⟩ := HY.out _ (els gs j) (crF gs j) (.slice A1 gs.length gs.length) w2 HJ2.out HS2.out.1 Hpx.out (by simp [els]; omega)
      clear ho hb hst c0
      try dsimp only at hy
      gi_wp2
      refine ⟨(fun h => by cases h), hR.mono ?_⟩
      rintro e W3 (⟨rfl, hs3, T3, hT3, hJ3⟩ | ⟨rfl, hs3, T3, hT3, hJx3⟩)
      · rw [Hst.out] at hJ3
        have HJ3 := Lib.hid hJ3
        have HT3 : Hid (∀ k, T k → T3 k) := Lib.hid (fun k hk => hT3 k (.inl (HTT.out k hk)))
        have HS3 := Lib.hid (HS2.out.trans (hs3.sub (fun k hk => .inr hk)))
        clear hs3 hT3 hJ3
        gi_wp2
        go_roundw
        case rel => exact ⟨j + 1, T3, by omega, by go_num, HT3.out, HJ3.out, HS3.out⟩
        case measure => simp [intOf]; omega
      · have HX3 := Lib.hid hJx3
        have HT3 : Hid (∀ k, T k → T3 k) := Lib.hid (fun k hk => hT3 k (.inl (HTT.out k hk)))
        clear hs3 hT3 hJx3
        gi_wp2
        refine bodyPost_ret (results_none rfl _ _ _) rfl ?_
        exact ⟨⟨_, rfl⟩, .inr ⟨_, trivial, T3, HT3.out, HX3.out⟩⟩
    · obtain rfl : j = N := by omega
      clear c0
      gi_wp2
      go_end0
      exact ⟨⟨_, rfl⟩, .inl ⟨_, by rw [HE.out], T', HTT.out, HJ.out⟩⟩
end Go.Proofs.Ytmghbgnalkkppaa
