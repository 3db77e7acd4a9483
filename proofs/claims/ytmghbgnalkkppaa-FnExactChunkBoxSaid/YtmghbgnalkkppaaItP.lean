/- Chunks: the iterator over the places of the chunks. No statement is proved here. -/
import Derived.Test.YtmghbgnalkkppaaItE
import Derived.Test.YtmghbgnalkkppaaPlA
import Derived.Test.YtmghbgnalkkppaaTlE
namespace Go.Proofs.Ytmghbgnalkkppaa
open Go.RowKit Go.Shelf
attribute [local go_sem] Oper.semAt_some
set_option linter.unusedVariables false
theorem places_any (A1 A2 A3 : Option Addr) (l1 c1 l2 c2 l3 c3 : Nat) (w : World) : Calls Try.prog 41 #[.agg #[.slice A1 l1 c1, .slice A2 l2 c2, .slice A3 l3 c3]] w fun e w' => e = .returned (.func (.func 62) #[] #[.pointer (some ⟨w.heap.size, 0, none⟩)]) ∧ w' = w.alloc (.cells #[.slice A1 l1 c1, .slice A2 l2 c2, .slice A3 l3 c3] 43) := by
  go_enter Try.func41, Try.ntmps41
  go_wp2
  go_ret
  exact ⟨rfl, rfl⟩
/-- A place of the grid. -/
def PxP (gs : List Int) (x : List Int) (v : Value) (_ : World) : Prop := (∃ j : Nat, j < (prodL gs).toNat ∧ x = plsF gs j) ∧ v = aggI x
def orT (T U : Bks) : Bks := fun k => T k ∨ U k
theorem ext_or (T U : Bks) (X Y : World) : ext (orT T U) X Y = orT (ext T X Y) U := funext fun k => propext (by
  unfold ext orT
  constructor
  · rintro ((h | h) | h)
    · exact .inl (.inl h)
    · exact .inr h
    · exact .inl (.inr h)
  · rintro ((h | h) | h)
    · exact .inl (.inl h)
    · exact .inr h
    · exact .inl (.inr h))
def lessB (T : Bks) (b : Nat) : Bks := fun k => T k ∧ k ≠ b
theorem or_less {T U : Bks} {b : Nat} (hU : ∀ k, U k → T k) (hb : U b) : orT (lessB T b) U = T := funext fun k => propext ⟨fun h => h.elim (fun h => h.1) (hU k), fun h => by
  by_cases e : k = b
  · subst e; exact .inr hb
  · exact .inl ⟨h, e⟩⟩
/-- A caller's word seen from within: its blocks and U, and block b as it lay. -/
def Inner {α β : Type} (J : Bks → List β → World → Prop) (f : α → β) (U : Bks) (b : Nat) (o : Obj) (T : Bks) (pre : List α) (W : World) : Prop := J (orT T U) (pre.map f) W ∧ W.heap[b]? = some o ∧ ¬ T b
theorem Inner.closed {α β : Type} {J : Bks → List β → World → Prop} (hJ : Closed J) (f : α → β) (U : Bks) (b : Nat) (o : Obj) : Closed (Inner J f U b o) := by
  rintro T pre X Y ⟨h1, h2, h3⟩ hm
  have h := hJ _ _ X Y h1 (hm.sub fun k hk => .inl hk)
  rw [ext_or] at h
  have hb : b < X.heap.size := (Array.getElem?_eq_some_iff.1 h2).1
  exact ⟨h, (hm.block b hb h3).trans h2, fun e => e.elim h3 (by omega)⟩
theorem oi_own {β : Type} {B lo : Nat} {v : Value} {xs : List Int} : OwnFrom B (fun (_ : β) W => OI W lo v xs) := fun s X Y row h hg hr => by
  have h' := h
  rcases h'.2 with ⟨rfl, h0⟩ | ⟨g, cap, cur, rfl, hb, hc, -⟩
  · exact h.same fun g hg' => by simp [Value.ownBlock] at hg'
  · refine h.same fun g' hg' => ?_
    obtain rfl : g = g' := by simpa [Value.ownBlock] using hg'
    refine hg.block g (Array.getElem?_eq_some_iff.1 hc).1 (fun e => ?_)
    obtain ⟨-, o, ho, hn⟩ := hr g e.symm
    rw [hc] at ho
    cases ho
    cases hn
theorem round_any {n n' l' l : Nat} {P : Program} {f : FuncId} {tmps : Array Value} {assign body : Code} {w : World} {R : Ending → World → Prop} (h : RoundIn Fence.wide n P l f tmps assign body w R) : RoundIn (Fence.wide.inRound l') n' P l f tmps assign body w R :=
  ⟨trivial, fun c cs _ => h.2 c cs (room_wide _)⟩
theorem crF_in {gs : List Int} (hd : allTo (inD gs) gs.length = true) (hp : 0 < prodL gs) (j : Nat) : ∀ x ∈ crF gs j, InI x := by
  unfold crF
  intro x hx
  obtain ⟨i, hi, rfl⟩ := List.mem_iff_getElem.1 hx
  have hb := allTo_at (crds_inD (gs := gs) (pos_of_count hd hp) (j : Int) (by omega)) hi
  rw [inD_at _ _ hi, inB_iff] at hb
  unfold InI
  omega
set_option maxHeartbeats 4000000 in
set_option maxRecDepth 100000 in
theorem places_yields {m Bt : Nat} {w : World} {v1 v2 v3 : Value} {gs : List Int} (hv : ∃ A l c, v3 = .slice A l c) (h : Ri m w v3 gs) (hm : m ≤ w.heap.size) (hBt : w.heap[Bt]? = some (.cells #[v1, v2, v3] 43 (0, 0))) (hl : gs.length ≤ 3) (hd : allTo (inD gs) gs.length = true) (hp : prodL gs ≤ 600) :
    Yields Try.prog 62 #[.pointer (some ⟨Bt, 0, none⟩)] (PxP gs) (fun ys => ys = pls gs) (fun _ => True) 601 (T0E m Bt) w := by
  intro n l T J Jx W hW hcJ hcX hY h0
  obtain ⟨A3, l3, c3, rfl⟩ := hv
  have HcJ := Lib.hid hcJ; have HcX := Lib.hid hcX; have HY := Lib.hid hY; have H0 := Lib.hid h0; have HW := Lib.hid hW
  have hBl : Bt < w.heap.size := (Array.getElem?_eq_some_iff.1 hBt).1
  have HRw : Hid (W.heap[Bt]? = some (.cells #[v1, v2, .slice A3 l3 c3] 43 (0, 0))) := Lib.hid ((hW.2 Bt (.inr rfl) hBl).trans hBt)
  have HRi : Hid (∀ X, Below W.heap.size W X → Ri m X (.slice A3 l3 c3) gs) := Lib.hid (fun X hX => (h.on hm hW (fun k hk => .inl hk)).up (Nat.le_refl _) (hX.mono (Nat.le_trans hm hW.1)))
  have HmW : Hid (m ≤ W.heap.size) := Lib.hid (Nat.le_trans hm hW.1)
  have c0 : (W.alloc (.cells #[.func (.yield l) #[] #[]] 73)).cell? ⟨Bt, 2, none⟩ = some (.slice A3 l3 c3) := by
    rw [cell_of_row _ _ _ _ _ _ ((((Below.refl W.heap.size W).alloc (Nat.le_refl _) _).block Bt (Array.getElem?_eq_some_iff.1 HRw.out).1).trans HRw.out)]; rfl
  clear hcJ hcX hY h0 hBt hW hBl h hm
  refine callsIn_of_wp_marks Try.func62 rfl trivial ?_ rfl
  simp only [Try.ntmps62, List.size_toArray, List.length_cons, List.length_nil, Nat.reduceAdd, Nat.reduceSub, Array.replicate_succ, Array.replicate_zero, List.push_toArray, List.append_toArray, List.nil_append, List.cons_append]
  gi_wp2_with fail
  refine ⟨trivial, (fun h => by cases h), ?_⟩
  refine (callsIn_wide.2 (elements_any _ _ _ _)).mono ?_
  rintro e W2 ⟨rfl, hW2⟩
  have Hsz1 : Hid (W2.heap.size = W.heap.size + 1 + 1) := Lib.hid (by rw [hW2]; simp)
  have Hbx : Hid (W2.heap[W.heap.size]? = some (.cells #[.func (.yield l) #[] #[]] 73 (0, 0))) := Lib.hid (by
    rw [hW2]
    exact (((Below.refl _ _).alloc (Nat.le_refl _) _).block W.heap.size (by simp)).trans (heap_alloc_new W _))
  have Hbe : Hid (W2.heap[W.heap.size + 1]? = some (.cells #[.slice A3 l3 c3] 41 (0, 0))) := Lib.hid (by
    have h := heap_alloc_new (W.alloc (.cells #[.func (.yield l) #[] #[]] 73)) (.cells #[.slice A3 l3 c3] 41)
    rw [hW2]
    rwa [show (W.alloc (.cells #[.func (.yield l) #[] #[]] 73)).heap.size = W.heap.size + 1 by simp] at h)
  have HB2 : Hid (Below W.heap.size W W2) := Lib.hid (by rw [hW2]; exact ((Below.refl _ W).alloc (Nat.le_refl _) _).alloc (by simp) _)
  clear hW2 c0
  gi_wp2
  have HT1 : Hid (∀ k, T0E m (W.heap.size + 1) k → k < W2.heap.size) := Lib.hid (fun k hk => by
    have := Hsz1.out; have := HmW.out
    rcases hk with hk | hk
    · omega
    · omega)
  obtain ⟨U, hU⟩ : ∃ U : Bks, U = ext T W W2 := ⟨_, rfl⟩
  have HU0 : Hid (U W.heap.size ∧ (∀ k, T k → U k) ∧ U (W.heap.size + 1)) := Lib.hid (by
    have := Hsz1.out
    rw [hU]
    exact ⟨.inr ⟨Nat.le_refl _, by omega⟩, fun k hk => .inl hk, .inr ⟨by omega, by omega⟩⟩)
  have HI0 : Hid (Inner J pad3 U W.heap.size (.cells #[.func (.yield l) #[] #[]] 73 (0, 0)) (fun _ => False) [] W2) := Lib.hid (by
    refine ⟨?_, Hbx.out, ?_⟩
    · have h := HcJ.out.bel H0.out HB2.out
      rw [← hU] at h
      have e : orT (fun _ => False) U = U := funext fun k => propext ⟨fun h => h.elim False.elim id, .inr⟩
      rw [e]; exact h
    · exact id)
  clear hU
  refine range_seq (gf := 75) (lb := #[.pointer (some ⟨W.heap.size + 1, 0, none⟩)]) rfl (enters_of Try.func75 (by kernel_rfl) rfl)
    (elem_yields (HRi.out W2 HB2.out) (Nat.le_trans HmW.out HB2.out.size) Hbe.out hl hd hp) (SameOn.refl _ _) HT1.out (fun _ => False) (fun k hk => hk.elim)
    (Inner J pad3 U W.heap.size (.cells #[.func (.yield l) #[] #[]] 73 (0, 0))) (fun c T' pre W' => c = .ret ∧ Inner Jx pad3 U W.heap.size (.cells #[.func (.yield l) #[] #[]] 73 (0, 0)) T' pre W')
    (Inner.closed HcJ.out _ _ _ _) (fun c T' pre X Y h hm => ⟨h.1, Inner.closed HcX.out _ _ _ _ T' pre X Y h.2 hm⟩) HI0.out
    (fun x v a' W' => a' = { tmps := #[.func (.yield l) #[] #[], .pointer (some ⟨Bt, 0, none⟩), .pointer (some ⟨W.heap.size, 0, none⟩), v, .pointer (some ⟨Bt, 2, none⟩), .slice A3 l3 c3, .func (.func 75) #[] #[.pointer (some ⟨W.heap.size + 1, 0, none⟩)], v, undef, undef, undef, undef, undef], defers := [] } ∧ PxE gs x v W')
    ?hAx ?hassign ?hbody ?hdone ?hstop
  case hAx =>
    intro x v a' s X Y row h hg hr
    obtain ⟨h1, h2, A, rfl, ho⟩ := h
    exact ⟨h1, h2, A, rfl, oi_own (β := Unit) () X Y row ho hg hr⟩
  case hassign =>
    intro l' T' pre x v W' K hI hTa hTb hz hpx hK
    gi_wp2
    exact hK T' _ W' (fun k h => h) (SameOn.refl _ _) hI ⟨rfl, hpx⟩
  case hbody =>
    rintro l' T' pre x v a' W' hI hTa hTb hz ⟨rfl, hpx⟩ hlen
    obtain ⟨hJ, hb, hnb⟩ := hI
    have HJ := Lib.hid hJ; have Hb := Lib.hid hb; have Hnb := Lib.hid hnb
    obtain ⟨⟨j, hj, rfl⟩, A, rfl, ho⟩ := hpx
    have HO := Lib.hid ho; have Hj := Lib.hid hj
    have q2 : W'.cell? ⟨W.heap.size, 0, none⟩ = some (.func (.yield l) #[] #[]) := by rw [cell_of_row _ _ _ _ _ _ hb]; rfl
    have Hlen : Hid ((crF gs j).length = gs.length) := Lib.hid (by simp [crF, crds_length])
    have HIn : Hid (∀ x ∈ crF gs j, InI x) := Lib.hid (crF_in hd (by have := Hj.out; omega) j)
    have CP := Lib.hid (fun (X : World) (hX : Below W'.heap.size W' X) => placeAt_any ((HO.out.bel hX).ri HIn.out) (Nat.le_refl _) (by rw [Hlen.out]; exact hl))
    clear hJ hb hnb hj ho hTa hTb
    have HQ : Hid (∀ X, Below W'.heap.size W' X → X.cell? ⟨W.heap.size, 0, none⟩ = some (.func (.yield l) #[] #[])) := Lib.hid (fun X hX => by rw [cell_of_row _ _ _ _ _ _ ((hX.block _ (Array.getElem?_eq_some_iff.1 Hb.out).1).trans Hb.out)]; rfl)
    have hmo : Try.prog.follows .mixedOrders = true := by kernel_rfl
    have HYb : Hid (∀ v2 : World, Below W'.heap.size W' v2 → YieldAt Fence.wide (n - 1) Try.prog l #[aggI (pad3 (crF gs j))] v2 fun e W3 => ∃ b : Bool, e = .returned (.bool b) ∧ leftSo W2.heap.size (T0E m (W.heap.size + 1)) T' (Inner J pad3 U W.heap.size (.cells #[.func (.yield l) #[] #[]] 73 (0, 0))) (fun c T' pre W' => c = .ret ∧ Inner Jx pad3 U W.heap.size (.cells #[.func (.yield l) #[] #[]] 73 (0, 0)) T' pre W') (pre ++ [crF gs j]) W' (if b then .normal else .ret) { tmps := #[], defers := [] } W3) := Lib.hid (fun v2 hv2 => by
      have hJ2 := HcJ.out.bel HJ.out hv2
      have hzz : W.heap.size ≤ v2.heap.size := by
        have := hv2.size; have := HB2.out.size
        omega
      have hbl := (Array.getElem?_eq_some_iff.1 Hb.out).1
      refine (HY.out _ (pre.map pad3) (pad3 (crF gs j)) (aggI (pad3 (crF gs j))) v2 hJ2 hzz ⟨⟨j, Hj.out, rfl⟩, rfl⟩ (by simpa using hlen)).mono ?_
      have hmap : pre.map pad3 ++ [pad3 (crF gs j)] = (pre ++ [crF gs j]).map pad3 := by simp
      rw [hmap]
      rintro e W3 (⟨rfl, hs, T3, hT3, hJ3⟩ | ⟨rfl, hs, T3, hT3, hJ3⟩)
      · refine ⟨true, rfl, ?_⟩
        show SameOn (fun k => T' k ∨ T0E m (W.heap.size + 1) k) W' W3 ∧ _
        refine ⟨(SameOn.bel hv2).trans (hs.sub (fun k hk => by
          rcases hk with hk | hk | rfl
          · exact .inl (.inl (.inl hk))
          · exact .inr (.inl hk)
          · exact .inl (.inl (.inr HU0.out.2.2)))), lessB T3 W.heap.size, fun k hk => ⟨hT3 k (.inl (.inl hk)), fun e => Hnb.out (e ▸ hk)⟩, ?_, ?_, fun e => e.2 rfl⟩
        · rw [or_less (fun k hk => hT3 k (.inl (.inr hk))) HU0.out.1]; exact hJ3
        · exact (hs.2 _ (.inl (.inl (.inr HU0.out.1))) (Nat.lt_of_lt_of_le hbl hv2.size)).trans ((hv2.block _ hbl).trans Hb.out)
      · refine ⟨false, rfl, ?_⟩
        show SameOn (fun k => T' k ∧ W2.heap.size ≤ k) W' W3 ∧ _
        refine ⟨(SameOn.bel hv2).trans (hs.sub (fun k hk => ⟨.inl (.inl hk.1), Nat.le_trans HB2.out.size hk.2⟩)), lessB T3 W.heap.size, fun k hk => ⟨hT3 k (.inl (.inl hk)), fun e => Hnb.out (e ▸ hk)⟩, rfl, ?_, ?_, fun e => e.2 rfl⟩
        · rw [or_less (fun k hk => hT3 k (.inl (.inr hk))) HU0.out.1]; exact hJ3
        · exact (hs.2 _ ⟨.inl (.inr HU0.out.1), Nat.le_refl _⟩ (Nat.lt_of_lt_of_le hbl hv2.size)).trans ((hv2.block _ hbl).trans Hb.out))
    gi_wp2
    gi_region_with_o (first | (refine ⟨trivial, (fun h => by cases h), (CallsIn.inRound _ (callsIn_wide.2 (CP.out _ (Below.refl _ _).drew))).mono ?_⟩; rintro e v2 ⟨rfl, g2⟩; have q3 := HQ.out v2 (((Below.refl W'.heap.size W').drew).trans g2); obtain ⟨fn, tmps, asg, bd, hy, hR⟩ := HYb.out v2 (((Below.refl W'.heap.size W').drew).trans g2)) | (refine ⟨(fun h => by cases h), (round_any hR).mono ?_⟩; rintro e W3 ⟨b, rfl, hq⟩))
    all_goals have Hq := Lib.hid hq
    all_goals clear hq hR hy g2 q3
    all_goals cases b
    all_goals gi_wp2
    all_goals exact Hq.out
  case hdone =>
    rintro D T2 xs W3 hD hTT hTD hS ⟨hJ, hb, hnb⟩ hK
    have HK := Lib.hid hK
    have HJp := Lib.hid (HcJ.out.put (.deferred none) hJ (.inl hTD))
    have HS : Hid (xs.map pad3 = pls gs) := Lib.hid (by rw [hS]; exact els_pls gs)
    clear hK hJ hb hnb hS hD
    gi_wp2
    refine ⟨by simp, .inl ⟨_, _, rfl, run_takeDeferred HK.out, ?_⟩⟩
    refine ⟨_, results_none rfl _ _ _, ⟨_, rfl⟩, .inl ⟨_, rfl, orT T2 U, fun k hk => .inr (HU0.out.2.1 k hk), ?_⟩⟩
    rw [← HS.out]; exact HJp.out
  case hstop =>
    rintro D T2 c pre W3 hD hTT hTD hS ⟨rfl, hJ, hb, hnb⟩ hK
    have HK := Lib.hid hK
    have HJp := Lib.hid (HcX.out.put (.deferred none) hJ (.inl hTD))
    clear hK hJ hb hnb hS hD
    gi_wp2
    refine ⟨by simp, .inl ⟨_, _, rfl, run_takeDeferred HK.out, ?_⟩⟩
    exact ⟨_, results_none rfl _ _ _, ⟨_, rfl⟩, .inr ⟨_, trivial, orT T2 U, fun k hk => .inr (HU0.out.2.1 k hk), HJp.out⟩⟩
end Go.Proofs.Ytmghbgnalkkppaa
