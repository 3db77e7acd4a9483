/- Chunks: the program's list of keys. No statement is proved here. -/
import Derived.Test.YtmghbgnalkkppaaItP
import Derived.Maps.AppendAt
namespace Go.Proofs.Ytmghbgnalkkppaa
open Go.RowKit Go.Shelf
attribute [local go_sem] Oper.semAt_some
set_option linter.unusedVariables false
theorem push_run {W : World} {lo : Nat} {v : Value} {xs : List Int} {x : Int} (hown : OI W lo v xs) (hlo : lo ≤ W.heap.size) (hlen : xs.length ≤ 1048576) : ∃ g cap w', (Builtin.append_ #[22, 22] 22 #[v, .slice (some ⟨W.heap.size, 0, none⟩) 1 1]).run Try.prog (W.alloc (.cells #[.int .i64 x] 2)) = .ok (.slice (some ⟨g, 0, none⟩) (xs.length + 1) cap) w' ∧
    OI w' lo (.slice (some ⟨g, 0, none⟩) (xs.length + 1) cap) (xs ++ [x]) ∧ (W.alloc (.cells #[.int .i64 x] 2)).grownBy w' v.ownBlock ∧ (v.ownBlock = some g ∨ g = W.heap.size + 1) := by
  obtain ⟨i0, hi, hz0, hz1, hz2⟩ := info_parts infoI
  obtain ⟨v', w', hr, h1, h2, h3, h4⟩ := run_append_own_at (P := Try.prog) (W.alloc (.cells #[.int .i64 x] 2)) lo 22 22 2 i0 (.int .i64 0) 1 8 Try.underlying22 hi hz0 hz1 hz2 rfl (by decide) v xs.length (xs.map (Value.int .i64)) (hown.bel ((Below.refl _ W).alloc (Nat.le_refl _) _))
    ⟨W.heap.size, 0, none⟩ 1 1 [.int .i64 x] rfl (fun j u hu => by
      rcases j with _ | j
      · obtain rfl := Option.some.inj hu
        rw [add_at, cell_of_row _ _ _ _ _ _ (heap_alloc_new W _)]; rfl
      · simp at hu) (fun u hu => by simp at hu; subst hu; rfl) (by unfold maxLen; omega) (by omega) (by simp; omega)
  have ho : OI w' lo v' (xs ++ [x]) := by unfold OI; simpa using h1
  rcases ho.slice with ⟨e1, e2⟩ | ⟨g, cap, e1, e3, e4, e5, e6⟩
  · simp at e2
  · subst e1
    refine ⟨g, cap, w', by simpa using hr, by simpa using ho, h2, ?_⟩
    rcases h4 with h | h
    · exact .inl (by simpa [Value.ownBlock] using h.symm)
    · exact .inr (by simpa [Value.ownBlock] using h)
theorem own_cells {β : Type} {B j : Nat} {C : Array Value} {t : TypeId} {fr : Nat × Nat} : OwnFrom B (fun (_ : β) W => W.heap[j]? = some (.cells C t fr)) := fun s X Y row h hg hr =>
  (hg.block j (Array.getElem?_eq_some_iff.1 h).1 (fun e => by
    obtain ⟨-, o, ho, hn⟩ := hr j e.symm
    rw [h] at ho
    cases ho
    cases hn)).trans h
/-- append, in a round, where Go leaves the order open. -/
theorem step_appIn {F : Fence} {n : Nat} {ops : Array Oper} {o : Oper} {a : Act} {K : Act → World → Prop} {Q : Exit → Act → World → Prop} {E : Prop} {W w' : World} {v z r : Value} (hgd : o.guard = none) (s y : Operand)
    (ho : o.op = .call { callee := .builtin .append, args := #[s, y], argTypes := #[22, 22] }) (hty : o.type = 22) (hs : a.eval s = v) (hy : a.eval y = z)
    (happ : (Builtin.append_ #[22, 22] 22 #[v, z]).run Try.prog W = .ok r w') (h : K (a.put o.dst r) w') : if Region.wanted o (yielded ops a.tmps) = true then Oper.wpIn F n Try.prog o a W K Q else E := by
  have hw : Region.wanted o (yielded ops a.tmps) = true := by simp [Region.wanted, hgd]
  rw [if_pos hw]
  unfold Oper.wpIn
  refine ⟨by simp [Oper.about, ho, resolve, Target.leads, Sem.run_pure], ?_⟩
  rw [Oper.semAt_plain F _ _ (by rw [ho]; intro c hc'; cases hc')]
  simp [execOp, ho, hty, resolve, invoke, builtin, hs, hy, happ, Result.andThen]
  exact h
/-- The caller's list of keys while it is made. -/
def KyI (w : World) (T : Bks) (pre : List (List Int)) (W : World) : Prop := ∃ v, W.heap[w.heap.size]? = some (.cells #[v] 22 (0, 0)) ∧ OI W (w.heap.size + 1) v (pre.map pkL) ∧ (∀ k, T k → w.heap.size < k ∧ k < W.heap.size) ∧ (∀ g, v.ownBlock = some g → ¬ T g) ∧ Below w.heap.size w W
theorem KyI.closed (w : World) : Closed (KyI w) := by
  rintro T pre X Y ⟨v, h1, h2, h3, h4, h5⟩ hm
  have hb : w.heap.size < X.heap.size := (Array.getElem?_eq_some_iff.1 h1).1
  refine ⟨v, (hm.block _ hb (fun e => by have := (h3 _ e).1; omega)).trans h1, h2.same fun g hg => hm.block g (h2.wi g hg).2 (h4 g hg), ?_, ?_, ?_⟩
  · rintro k (hk | hk)
    · have := h3 k hk; have := hm.size; omega
    · have := hm.size; omega
  · rintro g hg (hk | hk)
    · exact h4 g hg hk
    · have := (h2.wi g hg).2; omega
  · exact ⟨hm.os.trans h5.os, hm.tape.trans h5.tape, hm.output.trans h5.output, Nat.le_trans h5.size hm.size, fun k hk => (hm.block k (by omega) (fun e => by have := (h3 _ e).1; omega)).trans (h5.block k hk)⟩
theorem KyI.bel {w : World} {T : Bks} {pre : List (List Int)} {W V : World} (h : KyI w T pre W) (hb : Below W.heap.size W V) : KyI w T pre V := by
  obtain ⟨v, h1, h2, h3, h4, h5⟩ := h
  exact ⟨v, (hb.block _ (Array.getElem?_eq_some_iff.1 h1).1).trans h1, h2.bel hb, fun k hk => by have := h3 k hk; have := hb.size; omega, h4, h5.trans (hb.mono h5.size)⟩
/-- One key more. -/
theorem ky_push {w W' v2 w4 : World} {T T0 : Bks} {pre : List (List Int)} {x : List Int} {v : Value} {g4 c4 : Nat} (hT0 : ∀ k, T0 k → k < w.heap.size) (hb : W'.heap[w.heap.size]? = some (.cells #[v] 22 (0, 0))) (ho : OI W' (w.heap.size + 1) v (pre.map pkL)) (hT : ∀ k, T k → w.heap.size < k ∧ k < W'.heap.size) (hg : ∀ g, v.ownBlock = some g → ¬ T g) (hbel : Below w.heap.size w W')
    (h2 : Below W'.heap.size W' v2) (ho4 : OI w4 (w.heap.size + 1) (.slice (some ⟨g4, 0, none⟩) ((pre.map pkL).length + 1) c4) (pre.map pkL ++ [pkL x])) (hg4 : (v2.alloc (.cells #[.int .i64 (pkL x)] 2)).grownBy w4 v.ownBlock) (hw4 : v.ownBlock = some g4 ∨ g4 = v2.heap.size + 1) :
    (w4.cell? ⟨w.heap.size, 0, none⟩ = some v ∧ w4.frozen? ⟨w.heap.size, 0, none⟩ = false) ∧ SameOn (fun k => T k ∨ T0 k) W' (w4.setCell ⟨w.heap.size, 0, none⟩ (.slice (some ⟨g4, 0, none⟩) ((pre.map pkL).length + 1) c4)) ∧ KyI w T (pre ++ [x]) (w4.setCell ⟨w.heap.size, 0, none⟩ (.slice (some ⟨g4, 0, none⟩) ((pre.map pkL).length + 1) c4)) := by
  have hbl := (Array.getElem?_eq_some_iff.1 hb).1
  have hz2 := h2.size
  have hz4 : v2.heap.size + 1 ≤ w4.heap.size := by have := hg4.size; simpa using this
  have hown : ∀ g, v.ownBlock = some g → w.heap.size + 1 ≤ g ∧ g < W'.heap.size := fun g hgv => ho.wi g hgv
  have key : ∀ k, k < W'.heap.size → v.ownBlock ≠ some k → w4.heap[k]? = W'.heap[k]? := fun k hk hn =>
    (hg4.block k (by simp; omega) (fun e => hn e.symm)).trans ((((Below.refl v2.heap.size v2).alloc (Nat.le_refl _) _).block k (by omega)).trans (h2.block k hk))
  have hb4 : w4.heap[w.heap.size]? = some (.cells #[v] 22 (0, 0)) := (key _ hbl (fun e => by have := (hown _ e).1; omega)).trans hb
  have hz5 : (w4.setCell ⟨w.heap.size, 0, none⟩ (.slice (some ⟨g4, 0, none⟩) ((pre.map pkL).length + 1) c4)).heap.size = w4.heap.size := by simp
  refine ⟨⟨by rw [cell_of_row _ _ _ _ _ _ hb4]; rfl, frozen_of_row _ _ _ _ _ hb4⟩, ⟨by rw [hz5]; omega, fun k hk hl => ?_⟩, .slice (some ⟨g4, 0, none⟩) ((pre.map pkL).length + 1) c4, ?_, ?_, ?_, ?_, ?_⟩
  · have hk1 : k ≠ w.heap.size := by
      rcases hk with hk | hk
      · have := (hT k hk).1; omega
      · have := hT0 k hk; omega
    rw [heap_setCell_other _ ⟨w.heap.size, 0, none⟩ _ _ hk1]
    refine key k hl (fun e => ?_)
    rcases hk with hk | hk
    · exact hg k e hk
    · have := hT0 k hk; have := (hown k e).1; omega
  · have h := heap_setCell_same w4 w.heap.size 0 _ _ (.slice (some ⟨g4, 0, none⟩) ((pre.map pkL).length + 1) c4) hb4
    exact h
  · rw [List.map_append, List.map_cons, List.map_nil]
    have h5 := ho4.same (w' := w4.setCell ⟨w.heap.size, 0, none⟩ (.slice (some ⟨g4, 0, none⟩) ((pre.map pkL).length + 1) c4)) fun g hgv => by
      have := (ho4.wi g hgv).1
      exact heap_setCell_other _ ⟨w.heap.size, 0, none⟩ _ _ (show g ≠ w.heap.size by omega)
    simpa using h5
  · intro k hk
    have := hT k hk
    rw [hz5]
    omega
  · intro g hgv hk
    obtain rfl : g4 = g := by simpa [Value.ownBlock] using hgv
    have := hT g4 hk
    rcases hw4 with h | h
    · exact hg g4 h hk
    · omega
  · have hB4 : Below w.heap.size w w4 := ⟨(hg4.os.trans h2.os).trans hbel.os, (hg4.tape.trans h2.tape).trans hbel.tape, (hg4.output.trans h2.output).trans hbel.output, by have := hbel.size; omega, fun k hk => (key k (by omega) (fun e => by have := (hown k e).1; omega)).trans (hbel.block k hk)⟩
    exact hB4.setCell (p := ⟨w.heap.size, 0, none⟩) (Nat.le_refl _) _
set_option maxHeartbeats 4000000 in
set_option maxRecDepth 100000 in
theorem keysOf_any {gf : Nat} {lb : Array Value} (hent : ∀ args w, (callFunc gf args).run Try.prog w = .ok (.enter gf args) w) {w : World} {L : List (List Int)} {S Sp : List (List Int) → Prop} {Px : List Int → Value → World → Prop} {N : Nat} {T0 : Bks} (hseq : Yields Try.prog gf lb Px S Sp N T0 w) (hT0 : ∀ k, T0 k → k < w.heap.size)
    (hPx : ∀ x v W, Px x v W → v = aggI x ∧ x.length = 3 ∧ ∀ y ∈ x, 0 ≤ y ∧ y ≤ 40) (hS : ∀ ys, S ys → ys = L) (hN : N ≤ 1048576) :
    Calls Try.prog 40 #[.func (.func gf) #[] lb] w (MadeO (L.map pkL) w) := by
  have HPx := Lib.hid hPx; have HS := Lib.hid hS; have HT0 := Lib.hid hT0
  have HI0 : Hid (KyI w (fun _ => False) [] (w.alloc (.cells #[.slice none 0 0] 22))) := Lib.hid ⟨_, heap_alloc_new w _, oi_none _ _, fun k hk => hk.elim, fun g hg hk => hk, (Below.refl _ w).alloc (Nat.le_refl _) _⟩
  have HsT : Hid (SameOn T0 w (w.alloc (.cells #[.slice none 0 0] 22))) := Lib.hid (SameOn.bel ((Below.refl _ w).alloc (Nat.le_refl _) _))
  have Hsz : Hid ((w.alloc (.cells #[.slice none 0 0] 22)).heap.size = w.heap.size + 1) := Lib.hid (by simp)
  refine (callsIn_wide (n := 3)).1 ?_
  refine callsIn_of_wp_marks Try.func40 rfl trivial ?_ rfl
  simp only [Try.ntmps40, List.size_toArray, List.length_cons, List.length_nil, Nat.reduceAdd, Nat.reduceSub, Array.replicate_succ, Array.replicate_zero, List.push_toArray, List.append_toArray, List.nil_append, List.cons_append]
  clear hPx hS hT0
  gi_wp2
  generalize (w.alloc (.cells #[.slice none 0 0] 22)) = w1 at *
  refine range_seq (gf := gf) (lb := lb) rfl hent hseq HsT.out (fun k hk => by have := HT0.out k hk; have := Hsz.out; omega) (fun _ => False) (fun k hk => hk.elim)
    (KyI w) (fun _ _ _ _ => False) (KyI.closed w) (fun c T pre X Y h hm => h.elim) HI0.out
    (fun x v a' W' => ∃ Bp, W'.heap[Bp]? = some (.cells (cellsI x) 55 (0, 0)) ∧ x.length = 3 ∧ (∀ y ∈ x, 0 ≤ y ∧ y ≤ 40) ∧ a' = { tmps := #[.func (.func gf) #[] lb, undef, .slice none 0 0, .pointer (some ⟨w.heap.size, 0, none⟩), .pointer (some ⟨Bp, 0, none⟩), .func (.func gf) #[] lb, v, undef, undef, undef, undef, undef, undef], defers := [] })
    ?hAx ?hassign ?hbody ?hdone ?hstop
  case hAx =>
    intro x v a' s X Y row h hg hr
    obtain ⟨Bp, e1, e2, e3, e4⟩ := h
    exact ⟨Bp, own_cells (β := Unit) () X Y row e1 hg hr, e2, e3, e4⟩
  case hassign =>
    intro l' T' pre x v W' K hI hTa hTb hz hpx hK
    obtain ⟨rfl, hl3, hnum⟩ := HPx.out x v W' hpx
    rcases x with _ | ⟨a, _ | ⟨b, _ | ⟨c, _ | ⟨d, t⟩⟩⟩⟩ <;> simp at hl3
    have hag : aggI [a, b, c] = .agg #[.int .i64 a, .int .i64 b, .int .i64 c] := rfl
    rw [hag]
    rw [hag] at hK
    gi_wp2
    exact hK T' _ _ (fun k h => h) (SameOn.bel ((Below.refl _ _).alloc (Nat.le_refl _) _)) (hI.bel ((Below.refl _ _).alloc (Nat.le_refl _) _)) ⟨W'.heap.size, heap_alloc_new _ _, rfl, hnum, rfl⟩
  case hbody =>
    rintro l' T' pre x v a' W' hI hTa hTb hz ⟨Bp, hBp, hl3, hnum, rfl⟩ hlen
    obtain ⟨v0, hb, ho, hT, hg, hbel⟩ := hI
    obtain ⟨A, cap, rfl⟩ := ho.sl
    have HO := Lib.hid ho
    have Hb := Lib.hid hb
    have HP := Lib.hid (fun (v2 w4 : World) (g4 c4 : Nat) (h2 : Below W'.heap.size W' v2) h5 h6 h7 => ky_push (x := x) (w4 := w4) (g4 := g4) (c4 := c4) HT0.out hb ho hT hg hbel h2 h5 h6 h7)
    have Hbs : Hid (w.heap.size + 1 ≤ W'.heap.size) := Lib.hid (by have := (Array.getElem?_eq_some_iff.1 hb).1; omega)
    have HPR := Lib.hid (fun (v2 : World) (h2 : Below W'.heap.size W' v2) => push_run (x := pkL x) (ho.bel h2) (Nat.le_trans Hbs.out h2.size) (by simp; omega))
    have HQ : Hid (∀ X, Below W'.heap.size W' X → X.cell? ⟨w.heap.size, 0, none⟩ = some (.slice A (pre.map pkL).length cap)) := Lib.hid (fun X hX => by rw [cell_of_row _ _ _ _ _ _ ((hX.block _ (Array.getElem?_eq_some_iff.1 Hb.out).1).trans Hb.out)]; rfl)
    have HK := Lib.hid (fun X => key_any40 hl3 hnum X)
    have hmo : Try.prog.follows .mixedOrders = true := by kernel_rfl
    rcases x with _ | ⟨a, _ | ⟨b, _ | ⟨c, _ | ⟨d, t⟩⟩⟩⟩ <;> simp at hl3
    have p0 : W'.cell? ⟨Bp, 0, none⟩ = some (.int .i64 a) := by rw [cell_of_row _ _ _ _ _ _ hBp]; rfl
    have p1 : W'.cell? ⟨Bp, 1, none⟩ = some (.int .i64 b) := by rw [cell_of_row _ _ _ _ _ _ hBp]; rfl
    have p2 : W'.cell? ⟨Bp, 2, none⟩ = some (.int .i64 c) := by rw [cell_of_row _ _ _ _ _ _ hBp]; rfl
    have q3 := HQ.out _ (Below.refl _ _)
    have hag : aggI [a, b, c] = .agg #[.int .i64 a, .int .i64 b, .int .i64 c] := rfl
    rw [hag] at HK
    generalize hpk : pkL [a, b, c] = y at *
    generalize hnl : (pre.map pkL).length = nl at *
    clear hb ho hT hg hbel hBp hnum hTa hTb hag
    gi_wp2
    refine wpIn_region_any (by assumption) ?_
    try (change wpAnyIn _ _ _ _ _ _ _ _ _ (World.drew _))
    refine wpAnyIn_ready (rs := [0, 1]) (by kernel_rfl) (by simp) ?_
    refine AllReadyIn.cons rfl (fun K hK => ?_) ?_
    · skip
      go_simp
      refine hK _ _ ?_; clear hK K
      refine wpAnyIn_ready (rs := [1]) (by kernel_rfl) (by simp) ?_
      refine AllReadyIn.cons rfl (fun K hK => ?_) ?_
      · skip
        go_simp
        refine hK _ _ ?_; clear hK K
        refine wpAnyIn_ready (rs := [2]) (by kernel_rfl) (by simp) ?_
        refine AllReadyIn.cons rfl (fun K hK => ?_) ?_
        · skip
          go_simp
          refine ⟨trivial, (CallsIn.inRound _ (callsIn_wide.2 (HK.out _))).mono ?_⟩
          rintro e v2 ⟨rfl, g2⟩; have k2 : Below W'.heap.size W' v2 := ((Below.refl W'.heap.size W').drew).trans g2; clear g2; obtain ⟨g4, c4, w4, happ, ho4, hg4, hw4⟩ := HPR.out v2 k2; obtain ⟨⟨q4, f4⟩, HS4, HI4⟩ := HP.out v2 w4 g4 c4 k2 ho4 hg4 hw4; have q5 := HQ.out v2 k2; have q6 := HQ.out _ (k2.alloc k2.size (.cells #[.int .i64 y] 2))
          dsimp only
          go_simp
          refine hK _ _ ?_; clear hK K
          refine wpAnyIn_ready (rs := [3]) (by kernel_rfl) (by simp) ?_
          refine AllReadyIn.cons rfl (fun K hK => ?_) ?_
          · skip
            go_simp
            refine hK _ _ ?_; clear hK K
            refine wpAnyIn_ready (rs := [4]) (by kernel_rfl) (by simp) ?_
            refine AllReadyIn.cons rfl (fun K hK => ?_) ?_
            · skip
              refine step_appIn (by rfl) (.tmp 7) (.tmp 10) (by rfl) (by rfl) (by rfl) (by rfl) happ ?_
              go_simp
              refine hK _ _ ?_; clear hK K
              refine wpAnyIn_ready (rs := [5]) (by kernel_rfl) (by simp) ?_
              refine AllReadyIn.cons rfl (fun K hK => ?_) ?_
              · skip
                go_simp
                refine hK _ _ ?_; clear hK K
                refine wpAnyIn_done (by kernel_rfl) ?_ _
                gi_wp2
                exact ⟨HS4, T', fun k h => h, HI4⟩
              exact AllReadyIn.nil
            exact AllReadyIn.nil
          exact AllReadyIn.nil
        exact AllReadyIn.nil
      exact AllReadyIn.nil
    refine AllReadyIn.cons rfl (fun K hK => ?_) ?_
    · skip
      go_simp
      refine hK _ _ ?_; clear hK K
      refine wpAnyIn_ready (rs := [0, 2]) (by kernel_rfl) (by simp) ?_
      refine AllReadyIn.cons rfl (fun K hK => ?_) ?_
      · skip
        go_simp
        refine hK _ _ ?_; clear hK K
        refine wpAnyIn_ready (rs := [2]) (by kernel_rfl) (by simp) ?_
        refine AllReadyIn.cons rfl (fun K hK => ?_) ?_
        · skip
          go_simp
          refine ⟨trivial, (CallsIn.inRound _ (callsIn_wide.2 (HK.out _))).mono ?_⟩
          rintro e v2 ⟨rfl, g2⟩; have k2 : Below W'.heap.size W' v2 := ((Below.refl W'.heap.size W').drew).trans g2; clear g2; obtain ⟨g4, c4, w4, happ, ho4, hg4, hw4⟩ := HPR.out v2 k2; obtain ⟨⟨q4, f4⟩, HS4, HI4⟩ := HP.out v2 w4 g4 c4 k2 ho4 hg4 hw4; have q5 := HQ.out v2 k2; have q6 := HQ.out _ (k2.alloc k2.size (.cells #[.int .i64 y] 2))
          dsimp only
          go_simp
          refine hK _ _ ?_; clear hK K
          refine wpAnyIn_ready (rs := [3]) (by kernel_rfl) (by simp) ?_
          refine AllReadyIn.cons rfl (fun K hK => ?_) ?_
          · skip
            go_simp
            refine hK _ _ ?_; clear hK K
            refine wpAnyIn_ready (rs := [4]) (by kernel_rfl) (by simp) ?_
            refine AllReadyIn.cons rfl (fun K hK => ?_) ?_
            · skip
              refine step_appIn (by rfl) (.tmp 7) (.tmp 10) (by rfl) (by rfl) (by rfl) (by rfl) happ ?_
              go_simp
              refine hK _ _ ?_; clear hK K
              refine wpAnyIn_ready (rs := [5]) (by kernel_rfl) (by simp) ?_
              refine AllReadyIn.cons rfl (fun K hK => ?_) ?_
              · skip
                go_simp
                refine hK _ _ ?_; clear hK K
                refine wpAnyIn_done (by kernel_rfl) ?_ _
                gi_wp2
                exact ⟨HS4, T', fun k h => h, HI4⟩
              exact AllReadyIn.nil
            exact AllReadyIn.nil
          exact AllReadyIn.nil
        exact AllReadyIn.nil
      refine AllReadyIn.cons rfl (fun K hK => ?_) ?_
      · skip
        go_simp
        refine ⟨trivial, (CallsIn.inRound _ (callsIn_wide.2 (HK.out _))).mono ?_⟩
        rintro e v2 ⟨rfl, g2⟩; have k2 : Below W'.heap.size W' v2 := ((Below.refl W'.heap.size W').drew).trans g2; clear g2; obtain ⟨g4, c4, w4, happ, ho4, hg4, hw4⟩ := HPR.out v2 k2; obtain ⟨⟨q4, f4⟩, HS4, HI4⟩ := HP.out v2 w4 g4 c4 k2 ho4 hg4 hw4; have q5 := HQ.out v2 k2; have q6 := HQ.out _ (k2.alloc k2.size (.cells #[.int .i64 y] 2))
        dsimp only
        go_simp
        refine hK _ _ ?_; clear hK K
        refine wpAnyIn_ready (rs := [0, 3]) (by kernel_rfl) (by simp) ?_
        refine AllReadyIn.cons rfl (fun K hK => ?_) ?_
        · skip
          go_simp
          refine hK _ _ ?_; clear hK K
          refine wpAnyIn_ready (rs := [3]) (by kernel_rfl) (by simp) ?_
          refine AllReadyIn.cons rfl (fun K hK => ?_) ?_
          · skip
            go_simp
            refine hK _ _ ?_; clear hK K
            refine wpAnyIn_ready (rs := [4]) (by kernel_rfl) (by simp) ?_
            refine AllReadyIn.cons rfl (fun K hK => ?_) ?_
            · skip
              refine step_appIn (by rfl) (.tmp 7) (.tmp 10) (by rfl) (by rfl) (by rfl) (by rfl) happ ?_
              go_simp
              refine hK _ _ ?_; clear hK K
              refine wpAnyIn_ready (rs := [5]) (by kernel_rfl) (by simp) ?_
              refine AllReadyIn.cons rfl (fun K hK => ?_) ?_
              · skip
                go_simp
                refine hK _ _ ?_; clear hK K
                refine wpAnyIn_done (by kernel_rfl) ?_ _
                gi_wp2
                exact ⟨HS4, T', fun k h => h, HI4⟩
              exact AllReadyIn.nil
            exact AllReadyIn.nil
          exact AllReadyIn.nil
        refine AllReadyIn.cons rfl (fun K hK => ?_) ?_
        · skip
          go_simp
          refine hK _ _ ?_; clear hK K
          refine wpAnyIn_ready (rs := [0]) (by kernel_rfl) (by simp) ?_
          refine AllReadyIn.cons rfl (fun K hK => ?_) ?_
          · skip
            go_simp
            refine hK _ _ ?_; clear hK K
            refine wpAnyIn_ready (rs := [4]) (by kernel_rfl) (by simp) ?_
            refine AllReadyIn.cons rfl (fun K hK => ?_) ?_
            · skip
              refine step_appIn (by rfl) (.tmp 7) (.tmp 10) (by rfl) (by rfl) (by rfl) (by rfl) happ ?_
              go_simp
              refine hK _ _ ?_; clear hK K
              refine wpAnyIn_ready (rs := [5]) (by kernel_rfl) (by simp) ?_
              refine AllReadyIn.cons rfl (fun K hK => ?_) ?_
              · skip
                go_simp
                refine hK _ _ ?_; clear hK K
                refine wpAnyIn_done (by kernel_rfl) ?_ _
                gi_wp2
                exact ⟨HS4, T', fun k h => h, HI4⟩
              exact AllReadyIn.nil
            exact AllReadyIn.nil
          exact AllReadyIn.nil
        exact AllReadyIn.nil
      exact AllReadyIn.nil
    exact AllReadyIn.nil
  case hdone =>
    rintro D T2 xs W3 hD hTT hTD hSx ⟨v, hb, ho, hT, hg, hbel⟩ hK
    obtain rfl := HS.out xs hSx
    have HK := Lib.hid hK
    have HO : Hid (OI (W3.putObj D (.deferred none)) w.heap.size v (xs.map pkL)) := Lib.hid ((ho.lo (Nat.le_succ _)).same fun g hgv => World.putObj_heap_other (fun e => hg g hgv (e ▸ hTD)))
    have HB : Hid (Below w.heap.size w (W3.putObj D (.deferred none))) := Lib.hid (hbel.trans (belowK_b (w := w) (Nat.le_refl _) W3 D _ _ (by have := (hT D hTD).1; omega) hK rfl rfl))
    have b0 : W3.cell? ⟨w.heap.size, 0, none⟩ = some v := by rw [cell_of_row _ _ _ _ _ _ hb]; rfl
    obtain ⟨A, cap, rfl⟩ := ho.sl
    clear hK hb ho hT hg hbel hD hTT hTD hSx
    gi_wp2
    refine ⟨by simp, .inl ⟨_, _, rfl, run_takeDeferred HK.out, ?_⟩⟩
    refine ⟨_, results_tmp rfl _ _ _, _, rfl, ?_, HB.out⟩
    have h := HO.out
    rw [List.length_map] at h
    exact h
  case hstop =>
    rintro D T2 c pre W3 hD hTT hTD hS hf hK
    exact hf.elim
end Go.Proofs.Ytmghbgnalkkppaa
