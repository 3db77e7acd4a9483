/- Two lists of pages made one: the program's loop. No statement is proved here. -/
import Derived.Test.YtkoenlkoalbhlaaMgA
namespace Go.Proofs.Ytkoenlkoalbhlaa
open Go.RowKit
set_option linter.unusedVariables false
def slLen : Value → Nat
  | .slice _ n _ => n
  | _ => 0
def MiI (M : List Pt) (b1 b2 : Nat) (w : World) (v0 v1 v7 v8 : Value) (wr : World) : Prop := ∃ (o1 c1 o2 c2 : Nat) (p q L : List Pt), v0 = .slice (some ⟨b1, o1, none⟩) p.length c1 ∧ v1 = .slice (some ⟨b2, o2, none⟩) q.length c2 ∧ RiU w.heap.size w v0 p ∧ RiU w.heap.size w v1 q ∧ OG wr w.heap.size v7 L ∧ L ++ mg p q = M ∧ L.length + p.length + q.length ≤ 512 ∧ Below w.heap.size w wr
theorem cutV (b o c n m : Nat) : (Value.slice (if c = 1 then some ⟨b, o, none⟩ else some ⟨b, o + 2, none⟩) n m) = .slice (some ⟨b, if c = 1 then o else o + 2, none⟩) n m := by split <;> rfl
theorem RiU.tail {B b o c n : Nat} {w : World} {x : Pt} {p : List Pt} (h : RiU B w (.slice (some ⟨b, o, none⟩) n c) (x :: p)) : RiU B w (.slice (if c = 1 then some ⟨b, o, none⟩ else some ⟨b, o + 2, none⟩) p.length (c - 1)) p := by
  obtain ⟨A, cap, he, hl, hc, hx⟩ := h
  simp only [Value.slice.injEq] at he
  obtain ⟨rfl, -, rfl⟩ := he
  simp only [List.length_cons] at hl
  by_cases h1 : c = 1
  · exact ⟨_, _, rfl, by omega, by omega, fun i hi => absurd hi (by omega)⟩
  refine ⟨_, _, rfl, by omega, by omega, fun i hi => ?_⟩
  obtain ⟨b', o', e, hb, h1, h2, h3, h4⟩ := hx (i + 1) (by simp; omega)
  simp only [Option.some.injEq, Addr.mk.injEq, and_true] at e
  obtain ⟨rfl, rfl⟩ := e
  have e1 : o + (i + 1) * 2 = o + 2 + i * 2 := by omega
  rw [e1] at h1 h2
  exact ⟨b, o + 2, by rw [if_neg (by omega)], hb, by simpa using h1, by simpa using h2, by simpa using h3, by simpa using h4⟩
theorem RiU.head {B b o c n : Nat} {w : World} {x : Pt} {p : List Pt} (h : RiU B w (.slice (some ⟨b, o, none⟩) n c) (x :: p)) : b < B ∧ w.cell? ⟨b, o, none⟩ = some (.int .i64 x.1) ∧ w.cell? ⟨b, o + 1, none⟩ = some (.string x.2) ∧ p.length + 1 ≤ c ∧ c ≤ maxLen := by
  obtain ⟨A, cap, he, hl, hc, hx⟩ := h
  simp only [Value.slice.injEq] at he
  obtain ⟨rfl, -, rfl⟩ := he
  obtain ⟨b', o', e, hb, h1, h2, h3, h4⟩ := hx 0 (by simp)
  simp only [Option.some.injEq, Addr.mk.injEq, and_true] at e
  obtain ⟨rfl, rfl⟩ := e
  exact ⟨hb, by simpa using h1, by simpa using h2, by simpa using hl, hc⟩
set_option maxHeartbeats 4000000 in
set_option maxRecDepth 100000 in
theorem merged_any {w : World} {b1 o1 c1 b2 o2 c2 : Nat} {xs ys : List Pt} (h1 : RiU w.heap.size w (.slice (some ⟨b1, o1, none⟩) xs.length c1) xs) (h2 : RiU w.heap.size w (.slice (some ⟨b2, o2, none⟩) ys.length c2) ys) (la : xs.length ≤ 256) (lb : ys.length ≤ 256) :
    Calls Try.prog 97 #[.slice (some ⟨b1, o1, none⟩) xs.length c1, .slice (some ⟨b2, o2, none⟩) ys.length c2, .func (.func 98) #[] #[]] w (AnsG (mg xs ys) w) := by
  have H1 := Lib.hid h1; have H2 := Lib.hid h2; clear h1 h2
  obtain ⟨C, hC, hmk⟩ := make_cap (P := Try.prog) 52 134 xs.length ys.length 2 24 Try.underlying52 Try.infoG (by omega) (by omega)
  have Hb0 : Hid (Below w.heap.size w (w.alloc (.cells C 134))) := Lib.hid ((Below.refl _ w).alloc (Nat.le_refl _) _)
  have Ho0 : Hid (OG (w.alloc (.cells C 134)) w.heap.size (.slice (some ⟨w.heap.size, 0, none⟩) 0 (xs.length + ys.length)) []) := Lib.hid (World.ownsRow_made w C (xs.length + ys.length) (Nat.le_refl _) (by unfold maxLen; omega) hC)
  clear hC
  generalize hM : mg xs ys = M
  have HM := Lib.hid hM; clear hM
  go_enter Try.func97, Try.ntmps97
  go_wp2_with fail
  clear hmk
  go_loopw [0, 1, 7, 8] (fun v0 v1 v7 v8 wr => MiI M b1 b2 w v0 v1 v7 v8 wr) (fun v0 v1 _ _ _ => slLen v0 + slLen v1)
  case atStart => exact ⟨o1, c1, o2, c2, xs, ys, [], rfl, rfl, H1.out, H2.out, Ho0.out, HM.out, by simp; omega, Hb0.out⟩
  case round =>
    obtain ⟨o1', c1', o2', c2', p, q, L, rfl, rfl, hp, hq, hown, hmg, hL, hbel⟩ := hrel
    have Hown := Lib.hid hown; have Hbel := Lib.hid hbel; have Hmg := Lib.hid hmg; have Hp := Lib.hid hp; have Hq := Lib.hid hq; have HL := Lib.hid hL
    clear hp hq hmg hL
    have hws : w.heap.size ≤ wr.heap.size := hbel.size
    have HE : Hid (p = [] ∨ q = [] → L ++ (p ++ q) = M) := Lib.hid (fun h => by
      rw [← Hmg.out]
      rcases h with rfl | rfl
      · rw [mg, List.nil_append]
      · rw [mg_nil, List.append_nil])
    obtain ⟨VA, vc, rfl⟩ := OG.opened hown
    clear hown
    cases p with
    | nil => 
      have Hx := Lib.hid (HE.out (by simp))
      clear hbel
      go_wp2_with (at_builtin; first | (refine wpList_joinG (lo := w.heap.size) (B := w.heap.size) (z := w) (v := .slice VA L.length vc) rfl (.tmp 54) (.tmp 55) rfl rfl rfl Hown.out (Hp.out.at (Nat.le_refl _) Hbel.out) hws (by have := HL.out; simp at this ⊢; omega) Hbel.out (Nat.le_refl _) ?_; intro v4 w4 ow4 hb4; have Ho4 := Lib.hid ow4; have Hb4 := Lib.hid hb4; clear ow4 hb4) | (refine wpList_joinG (lo := w.heap.size) (B := w.heap.size) (z := w) (v := v4) rfl (.tmp 56) (.tmp 57) rfl rfl rfl Ho4.out (Hq.out.at (Nat.le_refl _) Hb4.out) Hb4.out.size (by have := HL.out; simp at this ⊢; omega) Hb4.out (Nat.le_refl _) ?_; intro v5 w5 ow5 hb5; have Ho5 := Lib.hid ow5; have Hb5 := Lib.hid hb5; clear ow5 hb5))
      go_ret
      exact ⟨_, rfl, by have h5 := Ho5.out; rw [List.append_assoc, Hx.out] at h5; exact h5, Hb5.out⟩
    | cons x p =>
      cases q with
      | nil => 
        have Hx := Lib.hid (HE.out (by simp))
        clear hbel
        go_wp2_with (at_builtin; first | (refine wpList_joinG (lo := w.heap.size) (B := w.heap.size) (z := w) (v := .slice VA L.length vc) rfl (.tmp 54) (.tmp 55) rfl rfl rfl Hown.out (Hp.out.at (Nat.le_refl _) Hbel.out) hws (by have := HL.out; simp at this ⊢; omega) Hbel.out (Nat.le_refl _) ?_; intro v4 w4 ow4 hb4; have Ho4 := Lib.hid ow4; have Hb4 := Lib.hid hb4; clear ow4 hb4) | (refine wpList_joinG (lo := w.heap.size) (B := w.heap.size) (z := w) (v := v4) rfl (.tmp 56) (.tmp 57) rfl rfl rfl Ho4.out (Hq.out.at (Nat.le_refl _) Hb4.out) Hb4.out.size (by have := HL.out; simp at this ⊢; omega) Hb4.out (Nat.le_refl _) ?_; intro v5 w5 ow5 hb5; have Ho5 := Lib.hid ow5; have Hb5 := Lib.hid hb5; clear ow5 hb5))
        go_ret
        exact ⟨_, rfl, by have h5 := Ho5.out; rw [List.append_assoc, Hx.out] at h5; exact h5, Hb5.out⟩
      | cons y q => 
        obtain ⟨hb1, g1, g2, hl1, hm1⟩ := Hp.out.head
        obtain ⟨hb2, g3, g4, hl2, hm2⟩ := Hq.out.head
        unfold maxLen at hm1 hm2
        have gg : ∀ (bb oo : Nat) (vv : Value), bb < w.heap.size → w.cell? ⟨bb, oo, none⟩ = some vv → ∀ W, Below wr.heap.size wr W → W.cell? ⟨bb, oo, none⟩ = some vv := fun bb oo vv hb h W hW => (hW.cell (p := ⟨bb, oo, none⟩) (show bb < _ by omega)).trans ((hbel.cell (p := ⟨bb, oo, none⟩) hb).trans h)
        have HS : Hid (∀ W, Below wr.heap.size wr W → W.cell? ⟨b1, o1', none⟩ = some (.int .i64 x.1) ∧ W.cell? ⟨b1, o1' + 1, none⟩ = some (.string x.2) ∧ W.cell? ⟨b2, o2', none⟩ = some (.int .i64 y.1) ∧ W.cell? ⟨b2, o2' + 1, none⟩ = some (.string y.2)) := Lib.hid (fun W hW => ⟨gg _ _ _ hb1 g1 W hW, gg _ _ _ hb1 g2 W hW, gg _ _ _ hb2 g3 W hW, gg _ _ _ hb2 g4 W hW⟩)
        clear gg g1 g2 g3 g4
        obtain ⟨k1, k2, k3, k4⟩ := HS.out _ (Below.refl _ _)
        have HDd : Hid (Below wr.heap.size wr wr.drew) := Lib.hid (Below.refl _ _).drew
        clear hbel
        rcases Int.lt_trichotomy x.1 y.1 with hc | hc | hc
        · have HC := Lib.hid (show cmpI x.1 y.1 = -1 from by unfold cmpI; rw [if_pos hc])
          have Hn : Hid ((L ++ [(x.1, x.2)]) ++ mg p (y :: q) = M) := Lib.hid (by rw [← Hmg.out, mg, if_pos hc, List.append_assoc]; rfl)
          clear hc
          go_wp2
          go_region_held3 (fun W => W.cell? ⟨b1, o1', none⟩ = some (.int .i64 x.1) ∧ W.cell? ⟨b1, o1' + 1, none⟩ = some (.string x.2) ∧ W.cell? ⟨b2, o2', none⟩ = some (.int .i64 y.1) ∧ W.cell? ⟨b2, o2' + 1, none⟩ = some (.string y.2)) (exact HS.out _ (by first | exact kc | exact kb | exact ka | exact HDd.out))
            ((first | (go_at_call 98; go_fit (key_any x.1 x.2 _); rintro e ua ⟨rfl, ga⟩; have ka : Below wr.heap.size wr ua := HDd.out.trans ga; clear ga) | (go_at_call 98; go_fit (key_any y.1 y.2 _); rintro e ub ⟨rfl, gb⟩; have kb : Below wr.heap.size wr ub := ka.trans (gb.mono ka.size); clear gb) | (go_at_call 141; go_fit (cmp_b HC.out _); rintro e w3 ⟨rfl, gc⟩; have kc : Below wr.heap.size wr w3 := kb.trans (gc.mono kb.size); clear gc)))
          try simp only [Exit.then]
          have Kc := Lib.hid kc
          have Hs3 : Hid (w.heap.size ≤ w3.heap.size) := Lib.hid (by have := kc.size; omega)
          have Hb3 := Lib.hid (Hbel.out.trans (kc.mono hws))
          have Ho3 := Lib.hid (own_bel Hown.out kc)
          have Hld := Lib.hid (run_load_cells (P := Try.prog) w3 b1 o1' 134 _ [.int .i64 x.1, .string x.2] (two_cells (HS.out _ kc).1 (HS.out _ kc).2.1) Try.underlying134 (by kernel_rfl))
          clear kc kb ka
          go_wp2_with (first | (refine wpList_load_agg rfl 134 (.tmp 38) rfl _ rfl _ Hld.out ?_) | (at_builtin; refine wpList_pushG (W := w3) (v := .slice VA L.length vc) (lo := w.heap.size) (ps := L) (k := x.1) (x := x.2) rfl (.tmp 36) (.tmp 40) rfl rfl rfl rfl Ho3.out Hs3.out (by have := HL.out; simp at this; omega) ?_; intro g4 cap4 w4 ow4 gr4 lt4; have Ho4 := Lib.hid ow4; have Hb4 := Lib.hid (pushG_bel Hb3.out Ho3.out (Nat.le_refl _) Hs3.out gr4); clear ow4 gr4))
          go_roundw
          case rel => exact ⟨_, _, _, _, p, (y :: q), _, cutV _ _ _ _ _, rfl, Hp.out.tail, Hq.out, by have h4 := Ho4.out; rw [List.length_append] at h4; exact h4, Hn.out, by have := HL.out; simp at this ⊢; omega, Hb4.out⟩
          case measure => simp [slLen] <;> omega
        · have HC := Lib.hid (show cmpI x.1 y.1 = 0 from by unfold cmpI; rw [if_neg (by omega), if_neg (by omega)])
          have Hn : Hid ((L ++ [(y.1, y.2)]) ++ mg p q = M) := Lib.hid (by rw [← Hmg.out, mg, if_neg (by omega), if_pos hc, List.append_assoc]; rfl)
          clear hc
          go_wp2
          go_region_held3 (fun W => W.cell? ⟨b1, o1', none⟩ = some (.int .i64 x.1) ∧ W.cell? ⟨b1, o1' + 1, none⟩ = some (.string x.2) ∧ W.cell? ⟨b2, o2', none⟩ = some (.int .i64 y.1) ∧ W.cell? ⟨b2, o2' + 1, none⟩ = some (.string y.2)) (exact HS.out _ (by first | exact kc | exact kb | exact ka | exact HDd.out))
            ((first | (go_at_call 98; go_fit (key_any x.1 x.2 _); rintro e ua ⟨rfl, ga⟩; have ka : Below wr.heap.size wr ua := HDd.out.trans ga; clear ga) | (go_at_call 98; go_fit (key_any y.1 y.2 _); rintro e ub ⟨rfl, gb⟩; have kb : Below wr.heap.size wr ub := ka.trans (gb.mono ka.size); clear gb) | (go_at_call 141; go_fit (cmp_b HC.out _); rintro e w3 ⟨rfl, gc⟩; have kc : Below wr.heap.size wr w3 := kb.trans (gc.mono kb.size); clear gc)))
          try simp only [Exit.then]
          have Kc := Lib.hid kc
          have Hs3 : Hid (w.heap.size ≤ w3.heap.size) := Lib.hid (by have := kc.size; omega)
          have Hb3 := Lib.hid (Hbel.out.trans (kc.mono hws))
          have Ho3 := Lib.hid (own_bel Hown.out kc)
          have Hld := Lib.hid (run_load_cells (P := Try.prog) w3 b2 o2' 134 _ [.int .i64 y.1, .string y.2] (two_cells (HS.out _ kc).2.2.1 (HS.out _ kc).2.2.2) Try.underlying134 (by kernel_rfl))
          clear kc kb ka
          go_wp2_with (first | (refine wpList_load_agg rfl 134 (.tmp 44) rfl _ rfl _ Hld.out ?_) | (at_builtin; refine wpList_pushG (W := w3) (v := .slice VA L.length vc) (lo := w.heap.size) (ps := L) (k := y.1) (x := y.2) rfl (.tmp 42) (.tmp 46) rfl rfl rfl rfl Ho3.out Hs3.out (by have := HL.out; simp at this; omega) ?_; intro g4 cap4 w4 ow4 gr4 lt4; have Ho4 := Lib.hid ow4; have Hb4 := Lib.hid (pushG_bel Hb3.out Ho3.out (Nat.le_refl _) Hs3.out gr4); clear ow4 gr4))
          go_roundw
          case rel => exact ⟨_, _, _, _, p, q, _, cutV _ _ _ _ _, cutV _ _ _ _ _, Hp.out.tail, Hq.out.tail, by have h4 := Ho4.out; rw [List.length_append] at h4; exact h4, Hn.out, by have := HL.out; simp at this ⊢; omega, Hb4.out⟩
          case measure => simp [slLen] <;> omega
        · have HC := Lib.hid (show cmpI x.1 y.1 = 1 from by unfold cmpI; rw [if_neg (by omega), if_pos hc])
          have Hn : Hid ((L ++ [(y.1, y.2)]) ++ mg (x :: p) q = M) := Lib.hid (by rw [← Hmg.out, mg, if_neg (by omega), if_neg (by omega), List.append_assoc]; rfl)
          clear hc
          go_wp2
          go_region_held3 (fun W => W.cell? ⟨b1, o1', none⟩ = some (.int .i64 x.1) ∧ W.cell? ⟨b1, o1' + 1, none⟩ = some (.string x.2) ∧ W.cell? ⟨b2, o2', none⟩ = some (.int .i64 y.1) ∧ W.cell? ⟨b2, o2' + 1, none⟩ = some (.string y.2)) (exact HS.out _ (by first | exact kc | exact kb | exact ka | exact HDd.out))
            ((first | (go_at_call 98; go_fit (key_any x.1 x.2 _); rintro e ua ⟨rfl, ga⟩; have ka : Below wr.heap.size wr ua := HDd.out.trans ga; clear ga) | (go_at_call 98; go_fit (key_any y.1 y.2 _); rintro e ub ⟨rfl, gb⟩; have kb : Below wr.heap.size wr ub := ka.trans (gb.mono ka.size); clear gb) | (go_at_call 141; go_fit (cmp_b HC.out _); rintro e w3 ⟨rfl, gc⟩; have kc : Below wr.heap.size wr w3 := kb.trans (gc.mono kb.size); clear gc)))
          try simp only [Exit.then]
          have Kc := Lib.hid kc
          have Hs3 : Hid (w.heap.size ≤ w3.heap.size) := Lib.hid (by have := kc.size; omega)
          have Hb3 := Lib.hid (Hbel.out.trans (kc.mono hws))
          have Ho3 := Lib.hid (own_bel Hown.out kc)
          have Hld := Lib.hid (run_load_cells (P := Try.prog) w3 b2 o2' 134 _ [.int .i64 y.1, .string y.2] (two_cells (HS.out _ kc).2.2.1 (HS.out _ kc).2.2.2) Try.underlying134 (by kernel_rfl))
          clear kc kb ka
          go_wp2_with (first | (refine wpList_load_agg rfl 134 (.tmp 44) rfl _ rfl _ Hld.out ?_) | (at_builtin; refine wpList_pushG (W := w3) (v := .slice VA L.length vc) (lo := w.heap.size) (ps := L) (k := y.1) (x := y.2) rfl (.tmp 42) (.tmp 46) rfl rfl rfl rfl Ho3.out Hs3.out (by have := HL.out; simp at this; omega) ?_; intro g4 cap4 w4 ow4 gr4 lt4; have Ho4 := Lib.hid ow4; have Hb4 := Lib.hid (pushG_bel Hb3.out Ho3.out (Nat.le_refl _) Hs3.out gr4); clear ow4 gr4))
          go_roundw
          case rel => exact ⟨_, _, _, _, (x :: p), q, _, rfl, cutV _ _ _ _ _, Hp.out, Hq.out.tail, by have h4 := Ho4.out; rw [List.length_append] at h4; exact h4, Hn.out, by have := HL.out; simp at this ⊢; omega, Hb4.out⟩
          case measure => simp [slLen] <;> omega

set_option maxHeartbeats 2000000 in
set_option maxRecDepth 100000 in
theorem implMergePages_any {w : World} {b1 o1 c1 b2 o2 c2 : Nat} {xs ys : List Pt} (h1 : RiU w.heap.size w (.slice (some ⟨b1, o1, none⟩) xs.length c1) xs) (h2 : RiU w.heap.size w (.slice (some ⟨b2, o2, none⟩) ys.length c2) ys) :
    Calls Try.prog 39 #[.slice (some ⟨b1, o1, none⟩) xs.length c1, .slice (some ⟨b2, o2, none⟩) ys.length c2] w (AnsG (mgD xs ys) w) := by
  have H1 := Lib.hid h1; have H2 := Lib.hid h2; clear h1 h2
  have S1 := Lib.hid (implValidPages_any H1.out (Nat.le_refl _))
  have HD : Hid (mgD xs ys = if pgOk xs then (if pgOk ys then mg xs ys else []) else []) := Lib.hid rfl
  generalize mgD xs ys = D at *
  have HE : Hid (∀ (w1 : World), Below w.heap.size w w1 → D = [] → OG w1 w.heap.size (.slice none 0 0) D ∧ Below w.heap.size w w1) := Lib.hid (fun w1 g e => by subst e; exact ⟨OG.none _ _, g⟩)
  have HM : Hid (∀ (w1 : World), Below w.heap.size w w1 → pgOk xs = true → pgOk ys = true → Calls Try.prog 97 #[.slice (some ⟨b1, o1, none⟩) xs.length c1, .slice (some ⟨b2, o2, none⟩) ys.length c2, .func (.func 98) #[] #[]] w1 (AnsG (mg xs ys) w1)) := Lib.hid (fun w1 g hx hy => merged_any (H1.out.at (Nat.le_refl _) g) (H2.out.at (Nat.le_refl _) g) (pgOk_iff.1 hx).1 (pgOk_iff.1 hy).1)
  generalize hx : pgOk xs = px at *
  generalize hy : pgOk ys = py at *
  have Hy := Lib.hid hy; clear hx hy
  go_enter Try.func39, Try.ntmps39
  go_wp2_with fail
  refine S1.out.mono ?_
  rintro e w1 ⟨rfl, g⟩
  have Hb1 := Lib.hid g; clear g
  cases px
  · have He := Lib.hid (HE.out w1 Hb1.out (by rw [HD.out]; rfl))
    go_wp2_with fail
    go_ret
    exact ⟨_, rfl, He.out.1, He.out.2⟩
  · go_wp2_with fail
    refine (implValidPages_any (H2.out.at (Nat.le_refl _) Hb1.out) (Nat.le_refl _)).mono ?_
    rintro e w2 ⟨rfl, g⟩
    have Hb2 := Lib.hid (Hb1.out.trans (g.mono Hb1.out.size)); clear g
    rw [Hy.out]
    cases py
    · have He := Lib.hid (HE.out w2 Hb2.out (by rw [HD.out]; rfl))
      go_wp2_with fail
      go_ret
      exact ⟨_, rfl, He.out.1, He.out.2⟩
    · have Hm := Lib.hid (HM.out w2 Hb2.out (by first | rfl | trivial) (by first | rfl | trivial))
      go_wp2_with fail
      refine Hm.out.mono ?_
      rintro e w3 ⟨v, rfl, ho, g⟩
      have Ho : Hid (OG w3 w.heap.size v D) := Lib.hid (by rw [HD.out]; exact own_lo ho Hb2.out.size)
      have Hb3 := Lib.hid (Hb2.out.trans (g.mono Hb2.out.size))
      clear g ho
      go_wp2_with fail
      go_ret
      exact ⟨_, rfl, Ho.out, Hb3.out⟩
/-- What stands in the answer stands in one of the two. -/
theorem mg_mem : ∀ (n : Nat) (xs ys : List Pt), xs.length + ys.length ≤ n → ∀ p ∈ mg xs ys, p ∈ xs ∨ p ∈ ys
  | _, [], ys, _, p, hp => by rw [mg] at hp; exact .inr hp
  | _, x :: xs, [], _, p, hp => by rw [mg] at hp; exact .inl hp
  | 0, x :: xs, y :: ys, h, p, hp => by simp at h
  | n + 1, x :: xs, y :: ys, h, p, hp => by
    simp only [List.length_cons] at h
    rw [mg] at hp
    split at hp
    · rcases List.mem_cons.1 hp with rfl | hp
      · simp
      · rcases mg_mem n xs (y :: ys) (by simp; omega) p hp with h | h
        · exact .inl (List.mem_cons_of_mem _ h)
        · exact .inr h
    · split at hp
      · rcases List.mem_cons.1 hp with rfl | hp
        · simp
        · rcases mg_mem n xs ys (by omega) p hp with h | h
          · exact .inl (List.mem_cons_of_mem _ h)
          · exact .inr (List.mem_cons_of_mem _ h)
      · rcases List.mem_cons.1 hp with rfl | hp
        · simp
        · rcases mg_mem n (x :: xs) ys (by simp; omega) p hp with h | h
          · exact .inl h
          · exact .inr (List.mem_cons_of_mem _ h)
theorem mg_len : ∀ (n : Nat) (xs ys : List Pt), xs.length + ys.length ≤ n → (mg xs ys).length ≤ xs.length + ys.length
  | _, [], ys, _ => by rw [mg]; simp
  | _, x :: xs, [], _ => by rw [mg]; simp
  | 0, x :: xs, y :: ys, h => by simp at h
  | n + 1, x :: xs, y :: ys, h => by
    simp only [List.length_cons] at h
    rw [mg]
    split
    · have := mg_len n xs (y :: ys) (by simp; omega); simp only [List.length_cons] at this ⊢; omega
    · split
      · have := mg_len n xs ys (by omega); simp only [List.length_cons] at this ⊢; omega
      · have := mg_len n (x :: xs) ys (by simp; omega); simp only [List.length_cons] at this ⊢; omega
theorem mgD_ok {xs ys : List Pt} (hx : ∀ p ∈ xs, InI p.1 ∧ p.2.size ≤ maxLen) (hy : ∀ p ∈ ys, InI p.1 ∧ p.2.size ≤ maxLen) (sx : SmU xs) (sy : SmU ys) : (∀ p ∈ mgD xs ys, InI p.1 ∧ p.2.size ≤ maxLen) ∧ (mgD xs ys).length ≤ 2097152 := by
  unfold mgD
  have l1 := sx.1; have l2 := sy.1
  split
  · split
    · refine ⟨fun p hp => ?_, ?_⟩
      · rcases mg_mem _ xs ys (Nat.le_refl _) p hp with h | h
        · exact hx p h
        · exact hy p h
      · have := mg_len _ xs ys (Nat.le_refl _); omega
    · exact ⟨fun p hp => by simp at hp, by simp⟩
  · exact ⟨fun p hp => by simp at hp, by simp⟩
end Go.Proofs.Ytkoenlkoalbhlaa
