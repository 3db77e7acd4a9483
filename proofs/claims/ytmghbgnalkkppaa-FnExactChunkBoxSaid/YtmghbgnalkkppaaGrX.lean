/- Grids of chunks: the model's box of a chunk. No statement is proved here. -/
import Derived.Test.YtmghbgnalkkppaaGrB
import Derived.Test.YtmghbgnalkkppaaHeld
namespace Go.Proofs.Ytmghbgnalkkppaa
open Go.RowKit
set_option linter.unusedVariables false
theorem oi_cellN {w : World} {lo g n cap : Nat} {xs : List Int} (h : OI w lo (.slice (some ⟨g, 0, none⟩) n cap) xs) (hn : xs.length = n) (j : Nat) (hj : j < xs.length) : w.cell? ⟨g, j, none⟩ = some (.int .i64 xs[j]) := by subst hn; exact h.cell j hj
theorem rangeI_push2 (f : Nat → Int) (k : Nat) : (List.range k).map f ++ [f k] = (List.range (k + 1)).map f := by rw [List.range_succ, List.map_append]; rfl
theorem l00Min_g {a b r : Int} (hr : min a b = r) (w : World) : Calls Try.prog 68 #[.int .i64 a, .int .i64 b] w (Quiet (.int .i64 r) w) := by
  have Hr := Lib.hid hr; clear hr
  by_cases h : a < b
  · have Hf : Hid (r = a) := Lib.hid (by rw [← Hr.out]; omega)
    go_enter Try.func68, Try.ntmps68
    go_wp2
    go_ret
    exact ⟨by rw [Hf.out]; rfl, rfl⟩
  · have Hf : Hid (r = b) := Lib.hid (by rw [← Hr.out]; omega)
    go_enter Try.func68, Try.ntmps68
    go_wp2
    go_ret
    exact ⟨by rw [Hf.out]; rfl, rfl⟩
/-- The bounds of a chunk. -/
def bxF (n : Nat) (cs : List Int) (key : Int) (k : Nat) : Int := crd (sx n) key k * cs.getD k 0
def bxG (n : Nat) (ds cs : List Int) (key : Int) (k : Nat) : Int := min (ds.getD k 0) (bxF n cs key k + cs.getD k 0)
def bxL (ds cs : List Int) (key : Int) : List Int := (List.range ds.length).map (bxF ds.length cs key)
def bxH (ds cs : List Int) (key : Int) : List Int := (List.range ds.length).map (bxG ds.length ds cs key)
/-- A box in new memory. -/
def BoxA (ys ns : List Int) (w : World) (e : Ending) (w' : World) : Prop := ∃ A1 A2 c1 c2, e = .returned (.agg #[.slice A1 ys.length c1, .slice A2 ns.length c2]) ∧
  OI w' w.heap.size (.slice A1 ys.length c1) ys ∧ OI w' w.heap.size (.slice A2 ns.length c2) ns ∧ Apart (.slice A1 ys.length c1) (.slice A2 ns.length c2) ∧ Below w.heap.size w w'
theorem Acc.box {w W V : World} {g r : Nat} {t : TypeId} {v1 v2 : Value} {xs ys : List Int} {cs : Array Value} (a : Acc W g t v1 v2 xs ys) (hV : Below W.heap.size W V) (hr0 : w.heap.size ≤ r) (hr : r < g) (hw : Below w.heap.size w V) :
    BoxA xs ys w (.returned (.agg #[v1, v2])) (V.setRow r cs) := by
  obtain ⟨A1, A2, c1, c2, he, h⟩ := a.ans (x := .bool true) hV hr0 hr hw (cs := cs)
  refine ⟨A1, A2, c1, c2, ?_, h⟩
  have := congrArg (fun e : Ending => match e with | .returned (.tuple vs) => vs.getD 0 (.bool true) | _ => .bool true) he
  simpa using this
set_option maxHeartbeats 4000000 in
set_option maxRecDepth 100000 in
theorem l20Box_any {B : Nat} {w : World} {v u : Value} {ds cs : List Int} (key : Int) (h : Ri B w v ds) (h2 : Ri B w u cs) (hB : B ≤ w.heap.size) (hk : ckOk ds cs = true) (h0 : 0 ≤ key) (h1 : key ≤ 1000000) :
    Calls Try.prog 48 #[v, u, .int .i64 key] w (BoxA (bxL ds cs key) (bxH ds cs key) w) := by
  obtain ⟨A1, c1, rfl, hl1, hm1, hx1⟩ := h
  obtain ⟨A2, c2, rfl, hl2, hm2, hx2⟩ := h2
  have Hx1 := Lib.hid hx1; have Hx2 := Lib.hid hx2; clear hx1 hx2
  unfold maxLen at hm1 hm2
  have HK := Lib.hid (ck_facts hk)
  clear hk
  have hn3 := HK.out.1
  have HB0 : Hid (Below w.heap.size w (w.alloc (.cells #[.slice none 0 0, .slice none 0 0] 32))) := Lib.hid ((Below.refl _ w).alloc (Nat.le_refl _) _)
  have Hr0 : Hid ((w.alloc (.cells #[.slice none 0 0, .slice none 0 0] 32)).heap[w.heap.size]? = some (.cells #[.slice none 0 0, .slice none 0 0] 32 (0, 0))) := Lib.hid (heap_alloc_new w _)
  have Hs0 : Hid ((w.alloc (.cells #[.slice none 0 0, .slice none 0 0] 32)).heap.size = w.heap.size + 1) := Lib.hid (by simp)
  have Hi9 : Hid ((Try.prog.info? 32).map (·.size) = some (#[.slice none 0 0, .slice none 0 0] : Array Value).size) := Lib.hid (by kernel_rfl)
  have H19 : Hid ((#[.slice none 0 0, .slice none 0 0] : Array Value).all (·.oneCell') = true) := Lib.hid (by simp [Value.oneCell'])
  go_enter Try.func48, Try.ntmps48
  go_wp2_with fail
  generalize (w.alloc (.cells #[.slice none 0 0, .slice none 0 0] 32)) = W0 at *
  refine (l20Place_any ds.length key hn3 h0 h1).mono ?_
  rintro e W3 ⟨rfl, hop, hbp⟩
  generalize hP : W0.heap.size = P at *
  have HP := Hs0
  have HB3 : Hid (Below w.heap.size w W3) := Lib.hid (HB0.out.trans (hbp.mono (by rw [HP.out]; omega)))
  have Hr3 : Hid (W3.heap[w.heap.size]? = some (.cells #[.slice none 0 0, .slice none 0 0] 32 (0, 0))) := Lib.hid ((hbp.block _ (by rw [HP.out]; omega)).trans Hr0.out)
  have HPl : Hid (P < W3.heap.size) := Lib.hid (hop.wi P (by simp [Value.ownBlock])).2
  have Hop := Lib.hid hop
  clear hop hbp hP
  have HA0 : Hid (Acc (W3.alloc (.cells #[.slice none 0 0, .slice none 0 0] 32)) W3.heap.size 32 (.slice none 0 0) (.slice none 0 0) ((List.range 0).map (bxF ds.length cs key)) ((List.range 0).map (bxG ds.length ds cs key))) := Lib.hid (Acc.start W3 32)
  have HB4 : Hid (Below W3.heap.size W3 (W3.alloc (.cells #[.slice none 0 0, .slice none 0 0] 32))) := Lib.hid ((Below.refl _ _).alloc (Nat.le_refl _) _)
  go_wp2_with fail
  go_loopw [9] (fun i wr => ∃ (k : Nat) (u1 u2 : Value), k ≤ ds.length ∧ i = .int .i64 (k : Int) ∧ Acc wr W3.heap.size 32 u1 u2 ((List.range k).map (bxF ds.length cs key)) ((List.range k).map (bxG ds.length ds cs key)) ∧ Below W3.heap.size W3 wr) (fun i _ => ds.length - (intOf i).toNat)
  case atStart => exact ⟨0, _, _, Nat.zero_le _, rfl, HA0.out, HB4.out⟩
  case round =>
    obtain ⟨k, u1, u2, hk, rfl, hacc, hbel⟩ := hrel
    have Hbel := Lib.hid hbel; have Hacc := Lib.hid hacc
    have Hsz : Hid (W3.heap.size < wr.heap.size) := Lib.hid hacc.lt
    have HrW : Hid (wr.heap[w.heap.size]? = some (.cells #[.slice none 0 0, .slice none 0 0] 32 (0, 0))) := Lib.hid ((hbel.block _ (by have := HPl.out; have := HP.out; omega)).trans Hr3.out)
    have HBW : Hid (Below w.heap.size w wr) := Lib.hid (HB3.out.trans (hbel.mono HB3.out.size))
    by_cases hlt : k < ds.length
    · have hlt2 : k < cs.length := by have := HK.out.2.2.1; omega
      obtain ⟨b1, o1, rfl, hb1, hx1, hI1⟩ := Hx1.out k hlt
      obtain ⟨b2, o2, rfl, hb2, hx2, hI2⟩ := Hx2.out k hlt2
      have ez : ∀ (b j : Nat) (v : Value), w.cell? ⟨b, j, none⟩ = some v → b < B → wr.cell? ⟨b, j, none⟩ = some v := fun b j v h hb => (HBW.out.cell (p := ⟨b, j, none⟩) (by show b < _; omega)).trans h
      have g1 := ez _ _ _ hx1 hb1
      have g2 := ez _ _ _ hx2 hb2
      have hlp : k < (crds (sx ds.length) key).length := by rw [crds_length, sx_len]; exact hlt
      have hcell : W3.cell? ⟨P, k, none⟩ = some (.int .i64 (crd (sx ds.length) key k)) := by
        have h9 : (crds (sx ds.length) key).length = ds.length := by rw [crds_length, sx_len]
        have := oi_cellN Hop.out h9 k hlp
        rw [crds_at] at this
        exact this
      have g3 : wr.cell? ⟨P, k, none⟩ = some (.int .i64 (crd (sx ds.length) key k)) := (hbel.cell (p := ⟨P, k, none⟩) (show P < _ from HPl.out)).trans hcell
      have hcb := crd_bd (sx ds.length) key h0 (sx_pos _) k (by rw [sx_len]; exact hlt)
      rw [sx_at] at hcb
      have ad := allTo_at HK.out.2.1 hlt
      have ac := allTo_at HK.out.2.2.2.1 hlt2
      rw [inD_at _ _ hlt, inB_iff] at ad
      rw [inC_at _ _ hlt2, inB_iff] at ac
      have HeL : Hid (bxF ds.length cs key k = crd (sx ds.length) key k * cs[k]) := Lib.hid (by rw [bxF, getD_at _ _ hlt2])
      have HeG : Hid (bxG ds.length ds cs key k = min ds[k] (bxF ds.length cs key k + cs[k])) := Lib.hid (by rw [bxG, getD_at _ _ hlt, getD_at _ _ hlt2])
      have HtL := Lib.hid (rangeI_push2 (bxF ds.length cs key) k)
      have HtM := Lib.hid (rangeI_push2 (bxG ds.length ds cs key) k)
      have Hnl : Hid (((List.range k).map (bxF ds.length cs key)).length = k) := Lib.hid (by simp)
      have Hnm : Hid (((List.range k).map (bxG ds.length ds cs key)).length = k) := Lib.hid (by simp)
      clear hx1 hx2 hI1 hI2 hbel hacc ez hcell hlp
      generalize crd (sx ds.length) key k = pl at *
      generalize ds[k] = d at *
      generalize cs[k] = c at *
      generalize bxF ds.length cs key k = lo at *
      generalize bxG ds.length ds cs key k = hi at *
      generalize hLk : (List.range k).map (bxF ds.length cs key) = Lk at *
      generalize hMk : (List.range k).map (bxG ds.length ds cs key) = Mk at *
      have HLk := Lib.hid hLk; have HMk := Lib.hid hMk; clear hLk hMk
      have hlo : 0 ≤ pl * c ∧ pl * c ≤ 640 := by
        refine ⟨Int.mul_nonneg (by omega) (by omega), ?_⟩
        have := Int.mul_le_mul (a := pl) (b := c) (c := 16) (d := 40) (by omega) (by omega) (by omega) (by omega)
        omega
      have HS2 : Hid (∀ W, Below W3.heap.size wr W → (fun W => W.cell? ⟨P, k, none⟩ = some (.int .i64 pl) ∧ W.cell? ⟨b2, o2 + k, none⟩ = some (.int .i64 c) ∧ W.cell? ⟨b1, o1 + k, none⟩ = some (.int .i64 d)) W) := Lib.hid (fun W hW => by
        have e : ∀ (b j : Nat) (v : Value), wr.cell? ⟨b, j, none⟩ = some v → b < W3.heap.size → W.cell? ⟨b, j, none⟩ = some v := fun b j v h hb => (hW.cell (p := ⟨b, j, none⟩) hb).trans h
        have z1 := HB3.out.size
        exact ⟨e _ _ _ g3 HPl.out, e _ _ _ g2 (by omega), e _ _ _ g1 (by omega)⟩)
      have HS1 : Hid (∀ W, Below W3.heap.size wr W → (fun W => W.cell? ⟨P, k, none⟩ = some (.int .i64 pl) ∧ W.cell? ⟨b2, o2 + k, none⟩ = some (.int .i64 c)) W) := Lib.hid (fun W hW => ⟨(HS2.out W hW).1, (HS2.out W hW).2.1⟩)
      have hpc : pl * c = lo := HeL.out.symm
      rw [hpc] at hlo
      have z1 : IntKind.i64.wrap (pl * c) = lo := by rw [hpc]; exact IntWalk.i64_in _ (by omega)
      have z2 : IntKind.i64.wrap (lo + c) = lo + c := IntWalk.i64_in _ (by omega)
      have HeM : Hid (min d (lo + c) = hi) := Lib.hid HeG.out.symm
      have Hpc := Lib.hid hpc
      clear hpc g1 g2 g3
      go_wp2
      refine wp_region_held_drew (S := fun W => W.cell? ⟨P, k, none⟩ = some (.int .i64 pl) ∧ W.cell? ⟨b2, o2 + k, none⟩ = some (.int .i64 c)) (by kernel_rfl) (HS1.out _ (Below.refl _ _).drew) (fun hHeld => ?_)
      refine held_yes 0 (some 21) rfl rfl (by kernel_rfl) (by kernel_rfl) (by kernel_rfl) (fun _ _ _ h => h) (by kernel_rfl) hHeld (v := ?_) (fun wz hSw => ?_) ?_
      rotate_left 1
      · (try dsimp only at hSw); go_simp; (try with_reducible rfl)
      try simp only [Act.put, List.setIfInBounds_toArray, List.set_cons_zero, List.set_cons_succ]
      refine held_yes 2 (some 23) rfl rfl (by kernel_rfl) (by kernel_rfl) (by kernel_rfl) (fun _ _ _ h => h) (by kernel_rfl) hHeld (v := ?_) (fun wz hSw => ?_) ?_
      rotate_left 1
      · (try dsimp only at hSw); go_simp; (try with_reducible rfl)
      try simp only [Act.put, List.setIfInBounds_toArray, List.set_cons_zero, List.set_cons_succ]
      refine held_yes 3 (some 24) rfl rfl (by kernel_rfl) (by kernel_rfl) (by kernel_rfl) (fun _ _ _ h => h) (by kernel_rfl) hHeld (v := ?_) (fun wz hSw => ?_) ?_
      rotate_left 1
      · (try dsimp only at hSw); go_simp; (try with_reducible rfl)
      try simp only [Act.put, List.setIfInBounds_toArray, List.set_cons_zero, List.set_cons_succ]
      refine held_yes 4 (some 25) rfl rfl (by kernel_rfl) (by kernel_rfl) (by kernel_rfl) (fun _ _ _ h => h) (by kernel_rfl) hHeld (v := ?_) (fun wz hSw => ?_) ?_
      rotate_left 1
      · (try dsimp only at hSw); go_simp; (try with_reducible rfl)
      try simp only [Act.put, List.setIfInBounds_toArray, List.set_cons_zero, List.set_cons_succ]
      refine held_yes 5 (some 26) rfl rfl (by kernel_rfl) (by kernel_rfl) (by kernel_rfl) (fun _ _ _ h => h) (by kernel_rfl) hHeld (v := ?_) (fun wz hSw => ?_) ?_
      rotate_left 1
      · (try dsimp only at hSw); go_simp; (try with_reducible rfl)
      try simp only [Act.put, List.setIfInBounds_toArray, List.set_cons_zero, List.set_cons_succ]
      refine held_yes 6 (some 27) rfl rfl (by kernel_rfl) (by kernel_rfl) (by kernel_rfl) (fun _ _ _ h => h) (by kernel_rfl) hHeld (v := ?_) (fun wz hSw => ?_) ?_
      rotate_left 1
      · (try dsimp only at hSw); go_simp; (try with_reducible rfl)
      try simp only [Act.put, List.setIfInBounds_toArray, List.set_cons_zero, List.set_cons_succ]
      refine held_yes 7 (some 28) rfl rfl (by kernel_rfl) (by kernel_rfl) (by kernel_rfl) (fun _ _ _ h => h) (by kernel_rfl) hHeld (v := ?_) (fun wz hSw => ?_) ?_
      rotate_left 1
      · (try dsimp only at hSw); go_simp; (try with_reducible rfl)
      try simp only [Act.put, List.setIfInBounds_toArray, List.set_cons_zero, List.set_cons_succ]
      refine held_yes 8 (some 29) rfl rfl (by kernel_rfl) (by kernel_rfl) (by kernel_rfl) (fun _ _ _ h => h) (by kernel_rfl) hHeld (v := ?_) (fun wz hSw => ?_) ?_
      rotate_left 1
      · (try dsimp only at hSw); go_simp; (try with_reducible rfl)
      try simp only [Act.put, List.setIfInBounds_toArray, List.set_cons_zero, List.set_cons_succ]
      refine held_yes 9 (some 30) rfl rfl (by kernel_rfl) (by kernel_rfl) (by kernel_rfl) (fun _ _ _ h => h) (by kernel_rfl) hHeld (v := ?_) (fun wz hSw => ?_) ?_
      rotate_left 1
      · (try dsimp only at hSw); go_simp; (try with_reducible rfl)
      try simp only [Act.put, List.setIfInBounds_toArray, List.set_cons_zero, List.set_cons_succ]
      refine held_yes 10 (some 31) rfl rfl (by kernel_rfl) (by kernel_rfl) (by kernel_rfl) (fun _ _ _ h => h) (by kernel_rfl) hHeld (v := ?_) (fun wz hSw => ?_) ?_
      rotate_left 1
      · (try dsimp only at hSw); go_simp; (try with_reducible rfl)
      try simp only [Act.put, List.setIfInBounds_toArray, List.set_cons_zero, List.set_cons_succ]
      refine wpAnyH_ready (rs := [1, 11]) (by kernel_rfl) (by simp) ?_
      refine AllReadyH.cons rfl (fun K hK => ?_) (AllReadyH.cons rfl (fun K hK => ?_) AllReadyH.nil)
      have qld : wr.drew.cell? ⟨W3.heap.size, 0, none⟩ = some u1 := Hacc.out.c0
      go_simp
      refine hK.out _ _ (HS1.out _ (Below.refl _ _).drew) (fun hHeld => ?_)
      clear hK K qld
      try simp only [Act.put, List.setIfInBounds_toArray, List.set_cons_zero, List.set_cons_succ]
      refine wpAnyH_ready (rs := [11]) (by kernel_rfl) (by simp) ?_
      refine AllReadyH.cons rfl (fun K hK => ?_) AllReadyH.nil
      go_simp
      refine hK.out _ _ (HS1.out _ ((Below.refl _ _).drew.alloc (Nat.le_of_lt Hsz.out) _)) (fun hHeld => ?_)
      clear hK K
      try simp only [Act.put, List.setIfInBounds_toArray, List.set_cons_zero, List.set_cons_succ]
      refine wpAnyH_ready (rs := [12]) (by kernel_rfl) (by simp) ?_
      refine AllReadyH.cons rfl (fun K hK => ?_) AllReadyH.nil
      refine wp_pushd (W := wr.drew) (v := u1) (lo := W3.heap.size + 1) (xs := Lk) (some 33) (by kernel_rfl) (.tmp 22) (.tmp 32) rfl rfl rfl rfl rfl Hacc.out.drew.2.1 Hsz.out (by have := Hnl.out; omega) ?_
      intro h1 cap1 w1 ow1 gr1 at1 lt1
      obtain ⟨m1, m2⟩ := Hacc.out.drew.mid0 gr1
      have HP1 := Lib.hid (Hacc.out.drew.push0 ow1 gr1 at1)
      have k1 := push_below Hacc.out.drew.2.1 (Acc.lt Hacc.out.drew) gr1
      refine hK.out _ _ (HS1.out _ ((Below.refl _ _).drew.trans (k1.mono (Nat.le_succ _)))) (fun hHeld => ?_)
      clear hK K k1 ow1 gr1 at1 lt1
      try simp only [Act.put, List.setIfInBounds_toArray, List.set_cons_zero, List.set_cons_succ]
      refine held_yes 13 (some 34) rfl rfl (by kernel_rfl) (by kernel_rfl) (by kernel_rfl) (fun _ _ _ h => h) (by kernel_rfl) hHeld (v := ?_) (fun wz hSw => ?_) ?_
      rotate_left 1
      · (try dsimp only at hSw); go_simp; (try with_reducible rfl)
      try simp only [Act.put, List.setIfInBounds_toArray, List.set_cons_zero, List.set_cons_succ]
      refine wpAnyH_ready (rs := [14]) (by kernel_rfl) (by simp) ?_
      refine AllReadyH.cons rfl (fun K hK => ?_) AllReadyH.nil
      go_simp
      refine hK.out _ _ (HS1.out _ ((Below.refl _ _).drew.trans HP1.out.2)) (fun hHeld => ?_)
      clear hK K m1 m2 hHeld
      try simp only [Act.put, List.setIfInBounds_toArray, List.set_cons_zero, List.set_cons_succ]
      refine wpAnyH_done (by kernel_rfl) ?_ _
      rotate_left
      go_simp
      refine hK.out _ _ (HS1.out _ ((Below.refl _ _).drew.alloc (Nat.le_of_lt Hsz.out) _)) (fun hHeld => ?_)
      clear hK K
      try simp only [Act.put, List.setIfInBounds_toArray, List.set_cons_zero, List.set_cons_succ]
      refine wpAnyH_ready (rs := [1]) (by kernel_rfl) (by simp) ?_
      refine AllReadyH.cons rfl (fun K hK => ?_) AllReadyH.nil
      have qld : (wr.alloc (.cells #[.int .i64 lo] 2)).drew.cell? ⟨W3.heap.size, 0, none⟩ = some u1 := (Hacc.out.drew.keep ((Below.refl _ _).alloc (Nat.le_refl _) _)).c0
      go_simp
      refine hK.out _ _ (HS1.out _ ((Below.refl _ _).drew.alloc (Nat.le_of_lt Hsz.out) _)) (fun hHeld => ?_)
      clear hK K qld
      try simp only [Act.put, List.setIfInBounds_toArray, List.set_cons_zero, List.set_cons_succ]
      refine wpAnyH_ready (rs := [12]) (by kernel_rfl) (by simp) ?_
      refine AllReadyH.cons rfl (fun K hK => ?_) AllReadyH.nil
      refine wp_pushd (W := wr.drew) (v := u1) (lo := W3.heap.size + 1) (xs := Lk) (some 33) (by kernel_rfl) (.tmp 22) (.tmp 32) rfl rfl rfl rfl rfl Hacc.out.drew.2.1 Hsz.out (by have := Hnl.out; omega) ?_
      intro h1 cap1 w1 ow1 gr1 at1 lt1
      obtain ⟨m1, m2⟩ := Hacc.out.drew.mid0 gr1
      have HP1 := Lib.hid (Hacc.out.drew.push0 ow1 gr1 at1)
      have k1 := push_below Hacc.out.drew.2.1 (Acc.lt Hacc.out.drew) gr1
      refine hK.out _ _ (HS1.out _ ((Below.refl _ _).drew.trans (k1.mono (Nat.le_succ _)))) (fun hHeld => ?_)
      clear hK K k1 ow1 gr1 at1 lt1
      try simp only [Act.put, List.setIfInBounds_toArray, List.set_cons_zero, List.set_cons_succ]
      refine held_yes 13 (some 34) rfl rfl (by kernel_rfl) (by kernel_rfl) (by kernel_rfl) (fun _ _ _ h => h) (by kernel_rfl) hHeld (v := ?_) (fun wz hSw => ?_) ?_
      rotate_left 1
      · (try dsimp only at hSw); go_simp; (try with_reducible rfl)
      try simp only [Act.put, List.setIfInBounds_toArray, List.set_cons_zero, List.set_cons_succ]
      refine wpAnyH_ready (rs := [14]) (by kernel_rfl) (by simp) ?_
      refine AllReadyH.cons rfl (fun K hK => ?_) AllReadyH.nil
      go_simp
      refine hK.out _ _ (HS1.out _ ((Below.refl _ _).drew.trans HP1.out.2)) (fun hHeld => ?_)
      clear hK K m1 m2 hHeld
      try simp only [Act.put, List.setIfInBounds_toArray, List.set_cons_zero, List.set_cons_succ]
      refine wpAnyH_done (by kernel_rfl) ?_ _
      rotate_left
      all_goals (
        have HV0 := Lib.hid HP1.out.1
        have HV1 := Lib.hid HP1.out.2
        have HZ1 := Lib.hid HP1.out.1.lt
        clear HP1
        try simp only [Exit.then]
        generalize (w1.setCell ⟨W3.heap.size, 0, none⟩ (.slice (some ⟨h1, 0, none⟩) (Lk.length + 1) cap1)) = V1 at *
        go_wp2
        refine wp_region_held_drew (S := fun W => W.cell? ⟨P, k, none⟩ = some (.int .i64 pl) ∧ W.cell? ⟨b2, o2 + k, none⟩ = some (.int .i64 c) ∧ W.cell? ⟨b1, o1 + k, none⟩ = some (.int .i64 d)) (by kernel_rfl) (HS2.out _ ((Below.refl _ _).drew.trans HV1.out).drew) (fun hHeld => ?_)
        refine held_yes 0 (some 35) rfl rfl (by kernel_rfl) (by kernel_rfl) (by kernel_rfl) (fun _ _ _ h => h) (by kernel_rfl) hHeld (v := ?_) (fun wz hSw => ?_) ?_
        rotate_left 1
        · (try dsimp only at hSw); go_simp; (try with_reducible rfl)
        try simp only [Act.put, List.setIfInBounds_toArray, List.set_cons_zero, List.set_cons_succ]
        refine held_yes 2 (some 37) rfl rfl (by kernel_rfl) (by kernel_rfl) (by kernel_rfl) (fun _ _ _ h => h) (by kernel_rfl) hHeld (v := ?_) (fun wz hSw => ?_) ?_
        rotate_left 1
        · (try dsimp only at hSw); go_simp; (try with_reducible rfl)
        try simp only [Act.put, List.setIfInBounds_toArray, List.set_cons_zero, List.set_cons_succ]
        refine held_yes 3 (some 38) rfl rfl (by kernel_rfl) (by kernel_rfl) (by kernel_rfl) (fun _ _ _ h => h) (by kernel_rfl) hHeld (v := ?_) (fun wz hSw => ?_) ?_
        rotate_left 1
        · (try dsimp only at hSw); go_simp; (try with_reducible rfl)
        try simp only [Act.put, List.setIfInBounds_toArray, List.set_cons_zero, List.set_cons_succ]
        refine held_yes 4 (some 39) rfl rfl (by kernel_rfl) (by kernel_rfl) (by kernel_rfl) (fun _ _ _ h => h) (by kernel_rfl) hHeld (v := ?_) (fun wz hSw => ?_) ?_
        rotate_left 1
        · (try dsimp only at hSw); go_simp; (try with_reducible rfl)
        try simp only [Act.put, List.setIfInBounds_toArray, List.set_cons_zero, List.set_cons_succ]
        refine held_yes 5 (some 40) rfl rfl (by kernel_rfl) (by kernel_rfl) (by kernel_rfl) (fun _ _ _ h => h) (by kernel_rfl) hHeld (v := ?_) (fun wz hSw => ?_) ?_
        rotate_left 1
        · (try dsimp only at hSw); go_simp; (try with_reducible rfl)
        try simp only [Act.put, List.setIfInBounds_toArray, List.set_cons_zero, List.set_cons_succ]
        refine held_yes 6 (some 41) rfl rfl (by kernel_rfl) (by kernel_rfl) (by kernel_rfl) (fun _ _ _ h => h) (by kernel_rfl) hHeld (v := ?_) (fun wz hSw => ?_) ?_
        rotate_left 1
        · (try dsimp only at hSw); go_simp; (try with_reducible rfl)
        try simp only [Act.put, List.setIfInBounds_toArray, List.set_cons_zero, List.set_cons_succ]
        refine held_yes 7 (some 42) rfl rfl (by kernel_rfl) (by kernel_rfl) (by kernel_rfl) (fun _ _ _ h => h) (by kernel_rfl) hHeld (v := ?_) (fun wz hSw => ?_) ?_
        rotate_left 1
        · (try dsimp only at hSw); go_simp; (try with_reducible rfl)
        try simp only [Act.put, List.setIfInBounds_toArray, List.set_cons_zero, List.set_cons_succ]
        refine held_yes 8 (some 43) rfl rfl (by kernel_rfl) (by kernel_rfl) (by kernel_rfl) (fun _ _ _ h => h) (by kernel_rfl) hHeld (v := ?_) (fun wz hSw => ?_) ?_
        rotate_left 1
        · (try dsimp only at hSw); go_simp; (try with_reducible rfl)
        try simp only [Act.put, List.setIfInBounds_toArray, List.set_cons_zero, List.set_cons_succ]
        refine held_yes 9 (some 44) rfl rfl (by kernel_rfl) (by kernel_rfl) (by kernel_rfl) (fun _ _ _ h => h) (by kernel_rfl) hHeld (v := ?_) (fun wz hSw => ?_) ?_
        rotate_left 1
        · (try dsimp only at hSw); go_simp; (try with_reducible rfl)
        try simp only [Act.put, List.setIfInBounds_toArray, List.set_cons_zero, List.set_cons_succ]
        refine held_yes 10 (some 45) rfl rfl (by kernel_rfl) (by kernel_rfl) (by kernel_rfl) (fun _ _ _ h => h) (by kernel_rfl) hHeld (v := ?_) (fun wz hSw => ?_) ?_
        rotate_left 1
        · (try dsimp only at hSw); go_simp; (try with_reducible rfl)
        try simp only [Act.put, List.setIfInBounds_toArray, List.set_cons_zero, List.set_cons_succ]
        refine held_yes 11 (some 46) rfl rfl (by kernel_rfl) (by kernel_rfl) (by kernel_rfl) (fun _ _ _ h => h) (by kernel_rfl) hHeld (v := ?_) (fun wz hSw => ?_) ?_
        rotate_left 1
        · (try dsimp only at hSw); go_simp; (try with_reducible rfl)
        try simp only [Act.put, List.setIfInBounds_toArray, List.set_cons_zero, List.set_cons_succ]
        refine held_yes 12 (some 47) rfl rfl (by kernel_rfl) (by kernel_rfl) (by kernel_rfl) (fun _ _ _ h => h) (by kernel_rfl) hHeld (v := ?_) (fun wz hSw => ?_) ?_
        rotate_left 1
        · (try dsimp only at hSw); go_simp; (try with_reducible rfl)
        try simp only [Act.put, List.setIfInBounds_toArray, List.set_cons_zero, List.set_cons_succ]
        refine held_yes 13 (some 48) rfl rfl (by kernel_rfl) (by kernel_rfl) (by kernel_rfl) (fun _ _ _ h => h) (by kernel_rfl) hHeld (v := ?_) (fun wz hSw => ?_) ?_
        rotate_left 1
        · (try dsimp only at hSw); go_simp; (try with_reducible rfl)
        try simp only [Act.put, List.setIfInBounds_toArray, List.set_cons_zero, List.set_cons_succ]
        refine held_yes 14 (some 49) rfl rfl (by kernel_rfl) (by kernel_rfl) (by kernel_rfl) (fun _ _ _ h => h) (by kernel_rfl) hHeld (v := ?_) (fun wz hSw => ?_) ?_
        rotate_left 1
        · (try dsimp only at hSw); go_simp; (try with_reducible rfl)
        try simp only [Act.put, List.setIfInBounds_toArray, List.set_cons_zero, List.set_cons_succ]
        refine held_yes 15 (some 50) rfl rfl (by kernel_rfl) (by kernel_rfl) (by kernel_rfl) (fun _ _ _ h => h) (by kernel_rfl) hHeld (v := ?_) (fun wz hSw => ?_) ?_
        rotate_left 1
        · (try dsimp only at hSw); go_simp; (try with_reducible rfl)
        try simp only [Act.put, List.setIfInBounds_toArray, List.set_cons_zero, List.set_cons_succ]
        refine held_yes 16 (some 51) rfl rfl (by kernel_rfl) (by kernel_rfl) (by kernel_rfl) (fun _ _ _ h => h) (by kernel_rfl) hHeld (v := ?_) (fun wz hSw => ?_) ?_
        rotate_left 1
        · (try dsimp only at hSw); go_simp; (try with_reducible rfl)
        try simp only [Act.put, List.setIfInBounds_toArray, List.set_cons_zero, List.set_cons_succ]
        refine held_yes 17 (some 52) rfl rfl (by kernel_rfl) (by kernel_rfl) (by kernel_rfl) (fun _ _ _ h => h) (by kernel_rfl) hHeld (v := ?_) (fun wz hSw => ?_) ?_
        rotate_left 1
        · (try dsimp only at hSw); go_simp; (try with_reducible rfl)
        try simp only [Act.put, List.setIfInBounds_toArray, List.set_cons_zero, List.set_cons_succ]
        refine held_yes 18 (some 53) rfl rfl (by kernel_rfl) (by kernel_rfl) (by kernel_rfl) (fun _ _ _ h => h) (by kernel_rfl) hHeld (v := ?_) (fun wz hSw => ?_) ?_
        rotate_left 1
        · (try dsimp only at hSw); go_simp; (try with_reducible rfl)
        try simp only [Act.put, List.setIfInBounds_toArray, List.set_cons_zero, List.set_cons_succ]
        refine held_yes 19 (some 54) rfl rfl (by kernel_rfl) (by kernel_rfl) (by kernel_rfl) (fun _ _ _ h => h) (by kernel_rfl) hHeld (v := ?_) (fun wz hSw => ?_) ?_
        rotate_left 1
        · (try dsimp only at hSw); go_simp; (try with_reducible rfl)
        try simp only [Act.put, List.setIfInBounds_toArray, List.set_cons_zero, List.set_cons_succ]
        refine wpAnyH_ready (rs := [1, 20]) (by kernel_rfl) (by simp) ?_
        refine AllReadyH.cons rfl (fun K hK => ?_) (AllReadyH.cons rfl (fun K hK => ?_) AllReadyH.nil)
        have qld : V1.drew.cell? ⟨W3.heap.size, 1, none⟩ = some u2 := HV0.out.c1
        go_simp
        refine hK.out _ _ (HS2.out _ ((Below.refl _ _).drew.trans HV1.out).drew) (fun hHeld => ?_)
        clear hK K qld
        try simp only [Act.put, List.setIfInBounds_toArray, List.set_cons_zero, List.set_cons_succ]
        refine wpAnyH_ready (rs := [20]) (by kernel_rfl) (by simp) ?_
        refine AllReadyH.cons rfl (fun K hK => ?_) AllReadyH.nil
        go_simp
        (go_at_call 68; refine (l00Min_g HeM.out _).mono ?_; rintro e w9 ⟨rfl, rfl⟩)
        refine hK.out _ _ (HS2.out _ ((Below.refl _ _).drew.trans HV1.out).drew) (fun hHeld => ?_)
        clear hK K
        try simp only [Act.put, List.setIfInBounds_toArray, List.set_cons_zero, List.set_cons_succ]
        refine wpAnyH_ready (rs := [21]) (by kernel_rfl) (by simp) ?_
        refine AllReadyH.cons rfl (fun K hK => ?_) AllReadyH.nil
        go_simp
        refine hK.out _ _ (HS2.out _ (((Below.refl _ _).drew.trans HV1.out).drew.alloc (Nat.le_of_lt HZ1.out) _)) (fun hHeld => ?_)
        clear hK K
        try simp only [Act.put, List.setIfInBounds_toArray, List.set_cons_zero, List.set_cons_succ]
        refine wpAnyH_ready (rs := [22]) (by kernel_rfl) (by simp) ?_
        refine AllReadyH.cons rfl (fun K hK => ?_) AllReadyH.nil
        refine wp_pushd (W := V1.drew) (v := u2) (lo := W3.heap.size + 1) (xs := Mk) (some 57) (by kernel_rfl) (.tmp 36) (.tmp 56) rfl rfl rfl rfl rfl HV0.out.drew.2.2.1 HZ1.out (by have := Hnm.out; omega) ?_
        intro h1 cap1 w1 ow1 gr1 at1 lt1
        obtain ⟨m1, m2⟩ := HV0.out.drew.mid1 gr1
        have HP2 := Lib.hid (HV0.out.drew.push1 ow1 gr1 at1)
        have k1 := push_below HV0.out.drew.2.2.1 (Acc.lt HV0.out.drew) gr1
        refine hK.out _ _ (HS2.out _ (((Below.refl _ _).drew.trans HV1.out).drew.trans (k1.mono (Nat.le_succ _)))) (fun hHeld => ?_)
        clear hK K k1 ow1 gr1 at1 lt1
        try simp only [Act.put, List.setIfInBounds_toArray, List.set_cons_zero, List.set_cons_succ]
        refine held_yes 23 (some 58) rfl rfl (by kernel_rfl) (by kernel_rfl) (by kernel_rfl) (fun _ _ _ h => h) (by kernel_rfl) hHeld (v := ?_) (fun wz hSw => ?_) ?_
        rotate_left 1
        · (try dsimp only at hSw); go_simp; (try with_reducible rfl)
        try simp only [Act.put, List.setIfInBounds_toArray, List.set_cons_zero, List.set_cons_succ]
        refine wpAnyH_ready (rs := [24]) (by kernel_rfl) (by simp) ?_
        refine AllReadyH.cons rfl (fun K hK => ?_) AllReadyH.nil
        go_simp
        refine hK.out _ _ (HS2.out _ (((Below.refl _ _).drew.trans HV1.out).drew.trans HP2.out.2)) (fun hHeld => ?_)
        clear hK K m1 m2 hHeld
        try simp only [Act.put, List.setIfInBounds_toArray, List.set_cons_zero, List.set_cons_succ]
        refine wpAnyH_done (by kernel_rfl) ?_ _
        rotate_left
        go_simp
        (go_at_call 68; refine (l00Min_g HeM.out _).mono ?_; rintro e w9 ⟨rfl, rfl⟩)
        refine hK.out _ _ (HS2.out _ ((Below.refl _ _).drew.trans HV1.out).drew) (fun hHeld => ?_)
        clear hK K
        try simp only [Act.put, List.setIfInBounds_toArray, List.set_cons_zero, List.set_cons_succ]
        refine wpAnyH_ready (rs := [1, 21]) (by kernel_rfl) (by simp) ?_
        refine AllReadyH.cons rfl (fun K hK => ?_) (AllReadyH.cons rfl (fun K hK => ?_) AllReadyH.nil)
        have qld : V1.drew.cell? ⟨W3.heap.size, 1, none⟩ = some u2 := HV0.out.c1
        go_simp
        refine hK.out _ _ (HS2.out _ ((Below.refl _ _).drew.trans HV1.out).drew) (fun hHeld => ?_)
        clear hK K qld
        try simp only [Act.put, List.setIfInBounds_toArray, List.set_cons_zero, List.set_cons_succ]
        refine wpAnyH_ready (rs := [21]) (by kernel_rfl) (by simp) ?_
        refine AllReadyH.cons rfl (fun K hK => ?_) AllReadyH.nil
        go_simp
        refine hK.out _ _ (HS2.out _ (((Below.refl _ _).drew.trans HV1.out).drew.alloc (Nat.le_of_lt HZ1.out) _)) (fun hHeld => ?_)
        clear hK K
        try simp only [Act.put, List.setIfInBounds_toArray, List.set_cons_zero, List.set_cons_succ]
        refine wpAnyH_ready (rs := [22]) (by kernel_rfl) (by simp) ?_
        refine AllReadyH.cons rfl (fun K hK => ?_) AllReadyH.nil
        refine wp_pushd (W := V1.drew) (v := u2) (lo := W3.heap.size + 1) (xs := Mk) (some 57) (by kernel_rfl) (.tmp 36) (.tmp 56) rfl rfl rfl rfl rfl HV0.out.drew.2.2.1 HZ1.out (by have := Hnm.out; omega) ?_
        intro h1 cap1 w1 ow1 gr1 at1 lt1
        obtain ⟨m1, m2⟩ := HV0.out.drew.mid1 gr1
        have HP2 := Lib.hid (HV0.out.drew.push1 ow1 gr1 at1)
        have k1 := push_below HV0.out.drew.2.2.1 (Acc.lt HV0.out.drew) gr1
        refine hK.out _ _ (HS2.out _ (((Below.refl _ _).drew.trans HV1.out).drew.trans (k1.mono (Nat.le_succ _)))) (fun hHeld => ?_)
        clear hK K k1 ow1 gr1 at1 lt1
        try simp only [Act.put, List.setIfInBounds_toArray, List.set_cons_zero, List.set_cons_succ]
        refine held_yes 23 (some 58) rfl rfl (by kernel_rfl) (by kernel_rfl) (by kernel_rfl) (fun _ _ _ h => h) (by kernel_rfl) hHeld (v := ?_) (fun wz hSw => ?_) ?_
        rotate_left 1
        · (try dsimp only at hSw); go_simp; (try with_reducible rfl)
        try simp only [Act.put, List.setIfInBounds_toArray, List.set_cons_zero, List.set_cons_succ]
        refine wpAnyH_ready (rs := [24]) (by kernel_rfl) (by simp) ?_
        refine AllReadyH.cons rfl (fun K hK => ?_) AllReadyH.nil
        go_simp
        refine hK.out _ _ (HS2.out _ (((Below.refl _ _).drew.trans HV1.out).drew.trans HP2.out.2)) (fun hHeld => ?_)
        clear hK K m1 m2 hHeld
        try simp only [Act.put, List.setIfInBounds_toArray, List.set_cons_zero, List.set_cons_succ]
        refine wpAnyH_done (by kernel_rfl) ?_ _
        rotate_left
        go_simp
        refine hK.out _ _ (HS2.out _ (((Below.refl _ _).drew.trans HV1.out).drew.alloc (Nat.le_of_lt HZ1.out) _)) (fun hHeld => ?_)
        clear hK K
        try simp only [Act.put, List.setIfInBounds_toArray, List.set_cons_zero, List.set_cons_succ]
        refine wpAnyH_ready (rs := [1]) (by kernel_rfl) (by simp) ?_
        refine AllReadyH.cons rfl (fun K hK => ?_) AllReadyH.nil
        have qld : (V1.alloc (.cells #[.int .i64 hi] 2)).drew.cell? ⟨W3.heap.size, 1, none⟩ = some u2 := (HV0.out.drew.keep ((Below.refl _ _).alloc (Nat.le_refl _) _)).c1
        go_simp
        refine hK.out _ _ (HS2.out _ (((Below.refl _ _).drew.trans HV1.out).drew.alloc (Nat.le_of_lt HZ1.out) _)) (fun hHeld => ?_)
        clear hK K qld
        try simp only [Act.put, List.setIfInBounds_toArray, List.set_cons_zero, List.set_cons_succ]
        refine wpAnyH_ready (rs := [22]) (by kernel_rfl) (by simp) ?_
        refine AllReadyH.cons rfl (fun K hK => ?_) AllReadyH.nil
        refine wp_pushd (W := V1.drew) (v := u2) (lo := W3.heap.size + 1) (xs := Mk) (some 57) (by kernel_rfl) (.tmp 36) (.tmp 56) rfl rfl rfl rfl rfl HV0.out.drew.2.2.1 HZ1.out (by have := Hnm.out; omega) ?_
        intro h1 cap1 w1 ow1 gr1 at1 lt1
        obtain ⟨m1, m2⟩ := HV0.out.drew.mid1 gr1
        have HP2 := Lib.hid (HV0.out.drew.push1 ow1 gr1 at1)
        have k1 := push_below HV0.out.drew.2.2.1 (Acc.lt HV0.out.drew) gr1
        refine hK.out _ _ (HS2.out _ (((Below.refl _ _).drew.trans HV1.out).drew.trans (k1.mono (Nat.le_succ _)))) (fun hHeld => ?_)
        clear hK K k1 ow1 gr1 at1 lt1
        try simp only [Act.put, List.setIfInBounds_toArray, List.set_cons_zero, List.set_cons_succ]
        refine held_yes 23 (some 58) rfl rfl (by kernel_rfl) (by kernel_rfl) (by kernel_rfl) (fun _ _ _ h => h) (by kernel_rfl) hHeld (v := ?_) (fun wz hSw => ?_) ?_
        rotate_left 1
        · (try dsimp only at hSw); go_simp; (try with_reducible rfl)
        try simp only [Act.put, List.setIfInBounds_toArray, List.set_cons_zero, List.set_cons_succ]
        refine wpAnyH_ready (rs := [24]) (by kernel_rfl) (by simp) ?_
        refine AllReadyH.cons rfl (fun K hK => ?_) AllReadyH.nil
        go_simp
        refine hK.out _ _ (HS2.out _ (((Below.refl _ _).drew.trans HV1.out).drew.trans HP2.out.2)) (fun hHeld => ?_)
        clear hK K m1 m2 hHeld
        try simp only [Act.put, List.setIfInBounds_toArray, List.set_cons_zero, List.set_cons_succ]
        refine wpAnyH_done (by kernel_rfl) ?_ _
        rotate_left
        all_goals (
          try simp only [Exit.then]
          go_wp2
          go_roundw
          case rel => exact ⟨k + 1, _, _, by omega, by go_num, by rw [← HtL.out, ← HtM.out]; exact HP2.out.1, Hbel.out.trans ((Below.refl _ _).drew.trans (HV1.out.trans ((Below.refl _ _).drew.trans HP2.out.2)))⟩
          case measure => simp [intOf]; omega))
    · obtain rfl : k = ds.length := by omega
      have H29 : Hid ((#[u1, u2] : Array Value).all (·.oneCell') = true) := Lib.hid (by
        obtain ⟨E1, e1, h1⟩ := Hacc.out.2.1.sl
        obtain ⟨E2, e2, h2⟩ := Hacc.out.2.2.1.sl
        rw [h1, h2]; simp [Value.oneCell'])
      clear hbel hacc
      go_wp2_with (first | (refine wpList_load_row rfl 32 (.tmp 8) rfl _ rfl 32 _ (0, 0) _ Hacc.out.1 Try.underlying32 rfl (by kernel_rfl) ?_) | (refine wpList_store_row rfl 32 (.tmp 6) (.tmp 59) rfl w.heap.size #[u1, u2] rfl rfl 32 _ HrW.out (by kernel_rfl) rfl H29.out ?_))
      refine bodyPost_ret (v := .agg #[u1, u2]) ?_ ?_ ?_
      · exact results_cell_row rfl _ _ w.heap.size 32 _ (0, 0) _ rfl (setRow_heap _ _ _ _ _ _ HrW.out) Try.underlying32 rfl (by kernel_rfl)
      · rfl
      · exact Hacc.out.box (Below.refl _ _) (Nat.le_refl _) (by have := HPl.out; have := HP.out; omega) HBW.out
end Go.Proofs.Ytmghbgnalkkppaa
