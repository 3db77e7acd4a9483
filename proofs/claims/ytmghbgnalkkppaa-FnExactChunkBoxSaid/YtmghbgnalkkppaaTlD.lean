/- Contracts of the program's ValidChunk, GridOf, ChunkCount. No statement is proved here. -/
import Derived.Test.YtmghbgnalkkppaaTlC
namespace Go.Proofs.Ytmghbgnalkkppaa
open Go.RowKit
set_option linter.unusedVariables false
theorem til_info (a b c : Value) : (Try.prog.info? 43).map (·.size) = some (#[a, b, c] : Array Value).size := by kernel_rfl
set_option maxHeartbeats 2000000 in
set_option maxRecDepth 100000 in
theorem implValidChunk_any {B : Nat} {w : World} {v u : Value} {ds cs : List Int} (h : Ri B w v ds) (h2 : Ri B w u cs) (hB : B ≤ w.heap.size) :
    Calls Try.prog 13 #[v, u] w (GivesB (.bool (ckOk ds cs)) w) := by
  have HT := Lib.hid (tilingOf_any h h2 hB)
  obtain ⟨A1, c1, rfl, -⟩ := h
  obtain ⟨A2, c2, rfl, -⟩ := h2
  go_enter Try.func13, Try.ntmps13
  go_wp2_with fail
  refine HT.out.mono ?_
  rintro e w1 ⟨x, rfl, ⟨a, b, c, l1, l2, l3, e1, e2, e3, rfl⟩, hb, -⟩
  have Hb := Lib.hid hb
  clear hb
  generalize ckOk ds cs = y at *
  have hi := til_info (.slice a l1 e1) (.slice b l2 e2) (.slice c l3 e3)
  have h1 : (#[.slice a l1 e1, .slice b l2 e2, .slice c l3 e3] : Array Value).all (·.oneCell') = true := by simp [Value.oneCell']
  go_wp2_with (refine wpList_store_last rfl 43 (.tmp 5) (.tmp 11) rfl #[.slice a l1 e1, .slice b l2 e2, .slice c l3 e3] _ 43 rfl rfl hi rfl h1 ?_)
  go_ret
  exact ⟨rfl, Hb.out.alloc (Below.size Hb.out) _⟩
set_option maxHeartbeats 2000000 in
set_option maxRecDepth 100000 in
theorem implGridOf_any {B : Nat} {w : World} {v u : Value} {ds cs : List Int} (h : Ri B w v ds) (h2 : Ri B w u cs) (hB : B ≤ w.heap.size) :
    Calls Try.prog 16 #[v, u] w (MadeO (gridE ds cs) w) := by
  have HT := Lib.hid (tilingOf_any h h2 hB)
  obtain ⟨A1, c1, rfl, -⟩ := h
  obtain ⟨A2, c2, rfl, -⟩ := h2
  have HE : Hid (gridE ds cs = if ckOk ds cs = true then grds ds cs else []) := Lib.hid rfl
  go_enter Try.func16, Try.ntmps16
  go_wp2_with fail
  refine HT.out.mono ?_
  rintro e w1 ⟨x, rfl, ⟨a, b, c, l1, l2, l3, e1, e2, e3, rfl⟩, hb, hy⟩
  have Hb := Lib.hid hb; have HY := Lib.hid hy
  clear hb hy
  have Hba : Hid (∀ o, Below w.heap.size w (w1.alloc o)) := Lib.hid (fun o => Hb.out.alloc (Below.size Hb.out) o)
  generalize ckOk ds cs = y at *
  have hi := til_info (.slice a l1 e1) (.slice b l2 e2) (.slice c l3 e3)
  have h1 : (#[.slice a l1 e1, .slice b l2 e2, .slice c l3 e3] : Array Value).all (·.oneCell') = true := by simp [Value.oneCell']
  cases y with
  | false =>
    go_wp2_with (refine wpList_store_last rfl 43 (.tmp 5) (.tmp 11) rfl #[.slice a l1 e1, .slice b l2 e2, .slice c l3 e3] _ 43 rfl rfl hi rfl h1 ?_)
    go_ret
    refine ⟨_, rfl, ?_, Hba.out _⟩
    rw [HE.out]
    exact oi_none _ _
  | true =>
    obtain ⟨A, hx, ho⟩ := HY.out rfl
    have HO := Lib.hid ho
    simp at hx
    obtain ⟨⟨rfl, rfl, rfl⟩, ⟨rfl, rfl, rfl⟩, rfl, rfl, rfl⟩ := hx
    clear ho
    go_wp2_with (refine wpList_store_last rfl 43 (.tmp 5) (.tmp 11) rfl #[.slice a l1 e1, .slice b l2 e2, .slice c l3 e3] _ 43 rfl rfl hi rfl h1 ?_)
    go_ret
    refine ⟨_, rfl, ?_, Hba.out _⟩
    rw [HE.out]
    exact HO.out.bel ((Below.refl _ _).alloc (Nat.le_refl _) _)
theorem gr_in {ds cs : List Int} (h : ckOk ds cs = true) : ∀ x ∈ grds ds cs, InI x := fun x hx => by
  have := gridE_in ds cs
  rw [gridE, if_pos h] at this
  exact this x hx
set_option maxHeartbeats 2000000 in
set_option maxRecDepth 100000 in
theorem implChunkCount_any {B : Nat} {w : World} {v u : Value} {ds cs : List Int} (h : Ri B w v ds) (h2 : Ri B w u cs) (hB : B ≤ w.heap.size) :
    Calls Try.prog 20 #[v, u] w (GivesB (.int .i64 (ccE ds cs)) w) := by
  have HT := Lib.hid (tilingOf_any h h2 hB)
  obtain ⟨A1, c1, rfl, -⟩ := h
  obtain ⟨A2, c2, rfl, -⟩ := h2
  have HE : Hid (ccE ds cs = if ckOk ds cs = true then prodL (grds ds cs) else -1) := Lib.hid rfl
  have HG := Lib.hid (fun hk : ckOk ds cs = true => grd_facts hk)
  have HGI := Lib.hid (fun hk : ckOk ds cs = true => gr_in hk)
  go_enter Try.func20, Try.ntmps20
  go_wp2_with fail
  refine HT.out.mono ?_
  rintro e w1 ⟨x, rfl, ⟨a, b, c, l1, l2, l3, e1, e2, e3, rfl⟩, hb, hy⟩
  have Hb := Lib.hid hb; have HY := Lib.hid hy
  clear hb hy
  have Hba : Hid (∀ o, Below w.heap.size w (w1.alloc o)) := Lib.hid (fun o => Hb.out.alloc (Below.size Hb.out) o)
  generalize ckOk ds cs = y at *
  have hi := til_info (.slice a l1 e1) (.slice b l2 e2) (.slice c l3 e3)
  have h1 : (#[.slice a l1 e1, .slice b l2 e2, .slice c l3 e3] : Array Value).all (·.oneCell') = true := by simp [Value.oneCell']
  cases y with
  | false =>
    go_wp2_with (refine wpList_store_last rfl 43 (.tmp 5) (.tmp 11) rfl #[.slice a l1 e1, .slice b l2 e2, .slice c l3 e3] _ 43 rfl rfl hi rfl h1 ?_)
    go_ret
    exact ⟨by rw [HE.out]; rfl, Hba.out _⟩
  | true =>
    obtain ⟨A, hx, ho⟩ := HY.out rfl
    have HO := Lib.hid ho
    have HF := Lib.hid (HG.out rfl)
    have HI := Lib.hid (HGI.out rfl)
    simp at hx
    obtain ⟨⟨rfl, rfl, rfl⟩, ⟨rfl, rfl, rfl⟩, rfl, rfl, rfl⟩ := hx
    clear ho
    have HP := Lib.hid (fun o => product_any ((HO.out.bel ((Below.refl _ _).alloc (Nat.le_refl _) o)).ri HI.out) ⟨HF.out.1, HF.out.2.1⟩)
    go_wp2_with (first | (refine wpList_store_last rfl 43 (.tmp 5) (.tmp 11) rfl #[.slice A1 ds.length c1, .slice A2 cs.length c2, .slice c l3 e3] _ 43 rfl rfl hi rfl h1 ?_) | (go_at_call 38; refine (HP.out _).mono ?_; rintro e w' ⟨rfl, rfl⟩))
    go_ret
    exact ⟨by rw [HE.out]; rfl, Hba.out _⟩
end Go.Proofs.Ytmghbgnalkkppaa
