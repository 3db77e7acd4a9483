/- Chunks: the program's tilingOf. No statement is proved here. -/
import Derived.Test.YtmghbgnalkkppaaTlA
import Derived.Test.YtmghbgnalkkppaaHeld
namespace Go.Proofs.Ytmghbgnalkkppaa
open Go.RowKit
set_option linter.unusedVariables false
theorem ck_bad {ds cs : List Int} {k : Nat} (hk : k < ds.length) (h : inG (grds ds cs) k = false) : ckOk ds cs = false := ck_not (.inr (.inr (.inr (.inr (.inr (.inl (allTo_bad _ k _ hk h)))))))
def Sl3 (x : Array Value) : Prop := ∃ a b c : Option Addr, ∃ l1 l2 l3 c1 c2 c3 : Nat, x = #[.slice a l1 c1, .slice b l2 c2, .slice c l3 c3]
theorem Sl3.nil : Sl3 #[.slice none 0 0, .slice none 0 0, .slice none 0 0] := ⟨_, _, _, _, _, _, _, _, _, rfl⟩
/-- What tilingOf answers. -/
def TilA (ds cs : List Int) (v u : Value) (w : World) (e : Ending) (w' : World) : Prop := ∃ x : Array Value, e = .returned (.tuple #[.agg x, .bool (ckOk ds cs)]) ∧ Sl3 x ∧ Below w.heap.size w w' ∧
  (ckOk ds cs = true → ∃ A : Option Addr, x = #[v, u, .slice A ds.length ds.length] ∧ OI w' w.heap.size (.slice A ds.length ds.length) (grds ds cs))
theorem til_no {ds cs : List Int} {v u : Value} {w w' : World} {x : Array Value} (hk : ckOk ds cs = false) (hx : Sl3 x) (hb : Below w.heap.size w w') : TilA ds cs v u w (.returned (.tuple #[.agg x, .bool false])) w' :=
  ⟨x, by rw [hk], hx, hb, fun h => by rw [hk] at h; cases h⟩
set_option maxHeartbeats 4000000 in
set_option maxRecDepth 100000 in
theorem til_a {B : Nat} {w : World} {v u : Value} {ds cs : List Int} (h : Ri B w v ds) (h2 : Ri B w u cs) (hB : B ≤ w.heap.size) (hd1 : dimsOk ds = false) : Calls Try.prog 35 #[v, u] w (TilA ds cs v u w) := by
  have H := Lib.hid h; have H2 := Lib.hid h2
  obtain ⟨A1, c1, rfl, hl1, hm1, hx1⟩ := h
  obtain ⟨A2, c2, rfl, hl2, hm2, hx2⟩ := h2
  have Hx1 := Lib.hid hx1; have Hx2 := Lib.hid hx2
  clear hx1 hx2 hl1 hl2 hm1 hm2
  have HB0 : Hid (Below w.heap.size w (w.alloc (.cells #[.slice none 0 0, .slice none 0 0, .slice none 0 0] 43))) := Lib.hid ((Below.refl _ w).alloc (Nat.le_refl _) _)
  have R0 : Hid ((w.alloc (.cells #[.slice none 0 0, .slice none 0 0, .slice none 0 0] 43)).heap[w.heap.size]? = some (.cells #[.slice none 0 0, .slice none 0 0, .slice none 0 0] 43 (0, 0))) := Lib.hid (heap_alloc_new w _)
  have Hs0 : Hid ((w.alloc (.cells #[.slice none 0 0, .slice none 0 0, .slice none 0 0] 43)).heap.size = w.heap.size + 1) := Lib.hid (by simp)
  have Hi9 : Hid ((Try.prog.info? 43).map (·.size) = some (#[.slice none 0 0, .slice none 0 0, .slice none 0 0] : Array Value).size) := Lib.hid (by kernel_rfl)
  have H19 : Hid ((#[.slice none 0 0, .slice none 0 0, .slice none 0 0] : Array Value).all (·.oneCell') = true) := Lib.hid (by simp [Value.oneCell'])
  have V1 := Lib.hid (fun (W : World) (hW : Below w.heap.size w W) => valid_any (H.out.at hB hW))
  have V2 := Lib.hid (fun (W : World) (hW : Below w.heap.size w W) => valid_any (H2.out.at hB hW))
  have Hf : Hid (ckOk ds cs = false) := Lib.hid (ck_not (.inl hd1))
  rw [hd1] at V1
  clear hd1
  go_enter Try.func35, Try.ntmps35
  go_wp2_with fail
  generalize (w.alloc (.cells #[.slice none 0 0, .slice none 0 0, .slice none 0 0] 43)) = w0 at *
  refine (V1.out _ HB0.out).mono ?_
  rintro e w1 ⟨rfl, rfl⟩
  go_wp2_with (refine wpList_store_row rfl 43 (.tmp 4) (.tmp 25) rfl w.heap.size #[.slice none 0 0, .slice none 0 0, .slice none 0 0] rfl rfl 43 _ R0.out Hi9.out rfl H19.out ?_)
  refine bodyPost_ret (v := .tuple #[.agg #[.slice none 0 0, .slice none 0 0, .slice none 0 0], .bool false]) ?_ ?_ ?_
  · exact results_cell_row2 rfl _ _ w.heap.size 43 _ (0, 0) _ _ rfl rfl (setRow_heap _ _ _ _ _ _ R0.out) Try.underlying43 rfl (by kernel_rfl)
  · rfl
  · exact til_no Hf.out Sl3.nil (below_setRow HB0.out (Nat.le_refl _) _)
set_option maxHeartbeats 4000000 in
set_option maxRecDepth 100000 in
theorem til_b {B : Nat} {w : World} {v u : Value} {ds cs : List Int} (h : Ri B w v ds) (h2 : Ri B w u cs) (hB : B ≤ w.heap.size) (hd1 : dimsOk ds = true) (hd2 : dimsOk cs = false) : Calls Try.prog 35 #[v, u] w (TilA ds cs v u w) := by
  have H := Lib.hid h; have H2 := Lib.hid h2
  obtain ⟨A1, c1, rfl, hl1, hm1, hx1⟩ := h
  obtain ⟨A2, c2, rfl, hl2, hm2, hx2⟩ := h2
  have Hx1 := Lib.hid hx1; have Hx2 := Lib.hid hx2
  clear hx1 hx2 hl1 hl2 hm1 hm2
  have HB0 : Hid (Below w.heap.size w (w.alloc (.cells #[.slice none 0 0, .slice none 0 0, .slice none 0 0] 43))) := Lib.hid ((Below.refl _ w).alloc (Nat.le_refl _) _)
  have R0 : Hid ((w.alloc (.cells #[.slice none 0 0, .slice none 0 0, .slice none 0 0] 43)).heap[w.heap.size]? = some (.cells #[.slice none 0 0, .slice none 0 0, .slice none 0 0] 43 (0, 0))) := Lib.hid (heap_alloc_new w _)
  have Hs0 : Hid ((w.alloc (.cells #[.slice none 0 0, .slice none 0 0, .slice none 0 0] 43)).heap.size = w.heap.size + 1) := Lib.hid (by simp)
  have Hi9 : Hid ((Try.prog.info? 43).map (·.size) = some (#[.slice none 0 0, .slice none 0 0, .slice none 0 0] : Array Value).size) := Lib.hid (by kernel_rfl)
  have H19 : Hid ((#[.slice none 0 0, .slice none 0 0, .slice none 0 0] : Array Value).all (·.oneCell') = true) := Lib.hid (by simp [Value.oneCell'])
  have V1 := Lib.hid (fun (W : World) (hW : Below w.heap.size w W) => valid_any (H.out.at hB hW))
  have V2 := Lib.hid (fun (W : World) (hW : Below w.heap.size w W) => valid_any (H2.out.at hB hW))
  have Hf : Hid (ckOk ds cs = false) := Lib.hid (ck_not (.inr (.inl hd2)))
  rw [hd1] at V1
  rw [hd2] at V2
  clear hd1 hd2
  go_enter Try.func35, Try.ntmps35
  go_wp2_with fail
  generalize (w.alloc (.cells #[.slice none 0 0, .slice none 0 0, .slice none 0 0] 43)) = w0 at *
  refine (V1.out _ HB0.out).mono ?_
  rintro e w1 ⟨rfl, rfl⟩
  go_wp2_with fail
  refine (V2.out _ HB0.out).mono ?_
  rintro e w1 ⟨rfl, rfl⟩
  go_wp2_with (refine wpList_store_row rfl 43 (.tmp 4) (.tmp 25) rfl w.heap.size #[.slice none 0 0, .slice none 0 0, .slice none 0 0] rfl rfl 43 _ R0.out Hi9.out rfl H19.out ?_)
  refine bodyPost_ret (v := .tuple #[.agg #[.slice none 0 0, .slice none 0 0, .slice none 0 0], .bool false]) ?_ ?_ ?_
  · exact results_cell_row2 rfl _ _ w.heap.size 43 _ (0, 0) _ _ rfl rfl (setRow_heap _ _ _ _ _ _ R0.out) Try.underlying43 rfl (by kernel_rfl)
  · rfl
  · exact til_no Hf.out Sl3.nil (below_setRow HB0.out (Nat.le_refl _) _)
set_option maxHeartbeats 4000000 in
set_option maxRecDepth 100000 in
theorem til_c {B : Nat} {w : World} {v u : Value} {ds cs : List Int} (h : Ri B w v ds) (h2 : Ri B w u cs) (hB : B ≤ w.heap.size) (hd1 : dimsOk ds = true) (hd2 : dimsOk cs = true) (hlen : cs.length ≠ ds.length) : Calls Try.prog 35 #[v, u] w (TilA ds cs v u w) := by
  have H := Lib.hid h; have H2 := Lib.hid h2
  obtain ⟨A1, c1, rfl, hl1, hm1, hx1⟩ := h
  obtain ⟨A2, c2, rfl, hl2, hm2, hx2⟩ := h2
  have Hx1 := Lib.hid hx1; have Hx2 := Lib.hid hx2
  clear hx1 hx2 hl1 hl2 hm1 hm2
  have HB0 : Hid (Below w.heap.size w (w.alloc (.cells #[.slice none 0 0, .slice none 0 0, .slice none 0 0] 43))) := Lib.hid ((Below.refl _ w).alloc (Nat.le_refl _) _)
  have R0 : Hid ((w.alloc (.cells #[.slice none 0 0, .slice none 0 0, .slice none 0 0] 43)).heap[w.heap.size]? = some (.cells #[.slice none 0 0, .slice none 0 0, .slice none 0 0] 43 (0, 0))) := Lib.hid (heap_alloc_new w _)
  have Hs0 : Hid ((w.alloc (.cells #[.slice none 0 0, .slice none 0 0, .slice none 0 0] 43)).heap.size = w.heap.size + 1) := Lib.hid (by simp)
  have Hi9 : Hid ((Try.prog.info? 43).map (·.size) = some (#[.slice none 0 0, .slice none 0 0, .slice none 0 0] : Array Value).size) := Lib.hid (by kernel_rfl)
  have H19 : Hid ((#[.slice none 0 0, .slice none 0 0, .slice none 0 0] : Array Value).all (·.oneCell') = true) := Lib.hid (by simp [Value.oneCell'])
  have V1 := Lib.hid (fun (W : World) (hW : Below w.heap.size w W) => valid_any (H.out.at hB hW))
  have V2 := Lib.hid (fun (W : World) (hW : Below w.heap.size w W) => valid_any (H2.out.at hB hW))
  have Hf : Hid (ckOk ds cs = false) := Lib.hid (ck_not (.inr (.inr (.inl hlen))))
  rw [hd1] at V1
  rw [hd2] at V2
  have hne : ¬ ((ds.length : Int) = (cs.length : Int)) := fun e => hlen (by omega)
  clear hd1 hd2 hlen
  go_enter Try.func35, Try.ntmps35
  go_wp2_with fail
  generalize (w.alloc (.cells #[.slice none 0 0, .slice none 0 0, .slice none 0 0] 43)) = w0 at *
  refine (V1.out _ HB0.out).mono ?_
  rintro e w1 ⟨rfl, rfl⟩
  go_wp2_with fail
  refine (V2.out _ HB0.out).mono ?_
  rintro e w1 ⟨rfl, rfl⟩
  go_wp2_with (refine wpList_store_row rfl 43 (.tmp 4) (.tmp 25) rfl w.heap.size #[.slice none 0 0, .slice none 0 0, .slice none 0 0] rfl rfl 43 _ R0.out Hi9.out rfl H19.out ?_)
  refine bodyPost_ret (v := .tuple #[.agg #[.slice none 0 0, .slice none 0 0, .slice none 0 0], .bool false]) ?_ ?_ ?_
  · exact results_cell_row2 rfl _ _ w.heap.size 43 _ (0, 0) _ _ rfl rfl (setRow_heap _ _ _ _ _ _ R0.out) Try.underlying43 rfl (by kernel_rfl)
  · rfl
  · exact til_no Hf.out Sl3.nil (below_setRow HB0.out (Nat.le_refl _) _)
set_option maxHeartbeats 4000000 in
set_option maxRecDepth 100000 in
theorem til_d {B : Nat} {w : World} {v u : Value} {ds cs : List Int} (h : Ri B w v ds) (h2 : Ri B w u cs) (hB : B ≤ w.heap.size) (hd1 : dimsOk ds = true) (hd2 : dimsOk cs = true) (hlen : cs.length = ds.length) (hq : prodL cs < 1) : Calls Try.prog 35 #[v, u] w (TilA ds cs v u w) := by
  have H := Lib.hid h; have H2 := Lib.hid h2
  obtain ⟨A1, c1, rfl, hl1, hm1, hx1⟩ := h
  obtain ⟨A2, c2, rfl, hl2, hm2, hx2⟩ := h2
  have Hx1 := Lib.hid hx1; have Hx2 := Lib.hid hx2
  clear hx1 hx2 hl1 hl2 hm1 hm2
  have HB0 : Hid (Below w.heap.size w (w.alloc (.cells #[.slice none 0 0, .slice none 0 0, .slice none 0 0] 43))) := Lib.hid ((Below.refl _ w).alloc (Nat.le_refl _) _)
  have R0 : Hid ((w.alloc (.cells #[.slice none 0 0, .slice none 0 0, .slice none 0 0] 43)).heap[w.heap.size]? = some (.cells #[.slice none 0 0, .slice none 0 0, .slice none 0 0] 43 (0, 0))) := Lib.hid (heap_alloc_new w _)
  have Hs0 : Hid ((w.alloc (.cells #[.slice none 0 0, .slice none 0 0, .slice none 0 0] 43)).heap.size = w.heap.size + 1) := Lib.hid (by simp)
  have Hi9 : Hid ((Try.prog.info? 43).map (·.size) = some (#[.slice none 0 0, .slice none 0 0, .slice none 0 0] : Array Value).size) := Lib.hid (by kernel_rfl)
  have H19 : Hid ((#[.slice none 0 0, .slice none 0 0, .slice none 0 0] : Array Value).all (·.oneCell') = true) := Lib.hid (by simp [Value.oneCell'])
  have V1 := Lib.hid (fun (W : World) (hW : Below w.heap.size w W) => valid_any (H.out.at hB hW))
  have V2 := Lib.hid (fun (W : World) (hW : Below w.heap.size w W) => valid_any (H2.out.at hB hW))
  have Hf : Hid (ckOk ds cs = false) := Lib.hid (ck_not (.inr (.inr (.inr (.inl hq)))))
  rw [hd1] at V1
  rw [hd2] at V2
  have Hd2 := Lib.hid (dimsOk_iff hd2)
  have PR := Lib.hid (fun (W : World) (hW : Below w.heap.size w W) => product_any (H2.out.at hB hW) ⟨Hd2.out.1, Hd2.out.2.1⟩)
  have hlen' : (ds.length : Int) = (cs.length : Int) := by rw [hlen]
  clear hd1 hd2 hlen
  generalize prodL cs = q at *
  go_enter Try.func35, Try.ntmps35
  go_wp2_with fail
  generalize (w.alloc (.cells #[.slice none 0 0, .slice none 0 0, .slice none 0 0] 43)) = w0 at *
  refine (V1.out _ HB0.out).mono ?_
  rintro e w1 ⟨rfl, rfl⟩
  go_wp2_with fail
  refine (V2.out _ HB0.out).mono ?_
  rintro e w1 ⟨rfl, rfl⟩
  go_wp2_with fail
  refine (PR.out _ HB0.out).mono ?_
  rintro e w1 ⟨rfl, rfl⟩
  go_wp2_with (refine wpList_store_row rfl 43 (.tmp 4) (.tmp 34) rfl w.heap.size #[.slice none 0 0, .slice none 0 0, .slice none 0 0] rfl rfl 43 _ R0.out Hi9.out rfl H19.out ?_)
  refine bodyPost_ret (v := .tuple #[.agg #[.slice none 0 0, .slice none 0 0, .slice none 0 0], .bool false]) ?_ ?_ ?_
  · exact results_cell_row2 rfl _ _ w.heap.size 43 _ (0, 0) _ _ rfl rfl (setRow_heap _ _ _ _ _ _ R0.out) Try.underlying43 rfl (by kernel_rfl)
  · rfl
  · exact til_no Hf.out Sl3.nil (below_setRow HB0.out (Nat.le_refl _) _)
set_option maxHeartbeats 4000000 in
set_option maxRecDepth 100000 in
theorem til_e {B : Nat} {w : World} {v u : Value} {ds cs : List Int} (h : Ri B w v ds) (h2 : Ri B w u cs) (hB : B ≤ w.heap.size) (hd1 : dimsOk ds = true) (hd2 : dimsOk cs = true) (hlen : cs.length = ds.length) (hq : 64 < prodL cs) : Calls Try.prog 35 #[v, u] w (TilA ds cs v u w) := by
  have H := Lib.hid h; have H2 := Lib.hid h2
  obtain ⟨A1, c1, rfl, hl1, hm1, hx1⟩ := h
  obtain ⟨A2, c2, rfl, hl2, hm2, hx2⟩ := h2
  have Hx1 := Lib.hid hx1; have Hx2 := Lib.hid hx2
  clear hx1 hx2 hl1 hl2 hm1 hm2
  have HB0 : Hid (Below w.heap.size w (w.alloc (.cells #[.slice none 0 0, .slice none 0 0, .slice none 0 0] 43))) := Lib.hid ((Below.refl _ w).alloc (Nat.le_refl _) _)
  have R0 : Hid ((w.alloc (.cells #[.slice none 0 0, .slice none 0 0, .slice none 0 0] 43)).heap[w.heap.size]? = some (.cells #[.slice none 0 0, .slice none 0 0, .slice none 0 0] 43 (0, 0))) := Lib.hid (heap_alloc_new w _)
  have Hs0 : Hid ((w.alloc (.cells #[.slice none 0 0, .slice none 0 0, .slice none 0 0] 43)).heap.size = w.heap.size + 1) := Lib.hid (by simp)
  have Hi9 : Hid ((Try.prog.info? 43).map (·.size) = some (#[.slice none 0 0, .slice none 0 0, .slice none 0 0] : Array Value).size) := Lib.hid (by kernel_rfl)
  have H19 : Hid ((#[.slice none 0 0, .slice none 0 0, .slice none 0 0] : Array Value).all (·.oneCell') = true) := Lib.hid (by simp [Value.oneCell'])
  have V1 := Lib.hid (fun (W : World) (hW : Below w.heap.size w W) => valid_any (H.out.at hB hW))
  have V2 := Lib.hid (fun (W : World) (hW : Below w.heap.size w W) => valid_any (H2.out.at hB hW))
  have Hf : Hid (ckOk ds cs = false) := Lib.hid (ck_not (.inr (.inr (.inr (.inr (.inl hq))))))
  rw [hd1] at V1
  rw [hd2] at V2
  have Hd2 := Lib.hid (dimsOk_iff hd2)
  have PR := Lib.hid (fun (W : World) (hW : Below w.heap.size w W) => product_any (H2.out.at hB hW) ⟨Hd2.out.1, Hd2.out.2.1⟩)
  have hlen' : (ds.length : Int) = (cs.length : Int) := by rw [hlen]
  clear hd1 hd2 hlen
  generalize prodL cs = q at *
  have hq1 : ¬ (q < 1) := by omega
  go_enter Try.func35, Try.ntmps35
  go_wp2_with fail
  generalize (w.alloc (.cells #[.slice none 0 0, .slice none 0 0, .slice none 0 0] 43)) = w0 at *
  refine (V1.out _ HB0.out).mono ?_
  rintro e w1 ⟨rfl, rfl⟩
  go_wp2_with fail
  refine (V2.out _ HB0.out).mono ?_
  rintro e w1 ⟨rfl, rfl⟩
  go_wp2_with fail
  refine (PR.out _ HB0.out).mono ?_
  rintro e w1 ⟨rfl, rfl⟩
  go_wp2_with (refine wpList_store_row rfl 43 (.tmp 4) (.tmp 34) rfl w.heap.size #[.slice none 0 0, .slice none 0 0, .slice none 0 0] rfl rfl 43 _ R0.out Hi9.out rfl H19.out ?_)
  refine bodyPost_ret (v := .tuple #[.agg #[.slice none 0 0, .slice none 0 0, .slice none 0 0], .bool false]) ?_ ?_ ?_
  · exact results_cell_row2 rfl _ _ w.heap.size 43 _ (0, 0) _ _ rfl rfl (setRow_heap _ _ _ _ _ _ R0.out) Try.underlying43 rfl (by kernel_rfl)
  · rfl
  · exact til_no Hf.out Sl3.nil (below_setRow HB0.out (Nat.le_refl _) _)
end Go.Proofs.Ytmghbgnalkkppaa
