/- The contract of the program's ChunkOf. No statement is proved here. -/
import Derived.Test.YtmghbgnalkkppaaFnd
namespace Go.Proofs.Ytmghbgnalkkppaa
open Go.RowKit
set_option linter.unusedVariables false
theorem key_any40 {xs : List Int} (hl : xs.length = 3) (hx : ∀ x ∈ xs, 0 ≤ x ∧ x ≤ 40) (w : World) : Calls Try.prog 46 #[aggI xs] w (GivesB (.int .i64 (pkL xs)) w) := by
  rcases xs with _ | ⟨a, _ | ⟨b, _ | ⟨c, _ | ⟨d, t⟩⟩⟩⟩ <;> simp at hl
  exact key_abc a b c (hx a (by simp)) (hx b (by simp)) (hx c (by simp)) w
theorem pad3_num {xs : List Int} (h : allTo (inD xs) xs.length = true) : ∀ x ∈ pad3 xs, 0 ≤ x ∧ x ≤ 40 := fun x hx => by
  rcases List.mem_append.1 hx with h1 | h1
  · rw [(List.mem_replicate.1 h1).2]; omega
  · obtain ⟨j, hj, rfl⟩ := List.mem_iff_getElem.1 h1
    have hb := allTo_at h hj
    rw [inD_at _ _ hj, inB_iff] at hb
    exact hb
theorem dv_of {ds cs ys : List Int} (h : ckOk ds cs = true) (hi : inside ds ys = true) : Dv cs ys := by
  obtain ⟨k1, k2, k3, k4, k5⟩ := ck_facts h
  exact ⟨by omega, k4, (inside_iff hi).1.trans k3.symm, allTo_in k2 hi⟩
set_option maxHeartbeats 4000000 in
set_option maxRecDepth 100000 in
theorem implChunkOf_any {B : Nat} {w : World} {v u z : Value} {ds cs ys : List Int} (h : Ri B w v ds) (h2 : Ri B w u cs) (h3 : Ri B w z ys) (hB : B ≤ w.heap.size) :
    Calls Try.prog 24 #[v, u, z] w (GivesB (.tuple #[.int .i64 (coE ds cs ys).1, .int .i64 (coE ds cs ys).2]) w) := by
  have HT := Lib.hid (tilingOf_any h h2 hB)
  have H := Lib.hid h; have H2 := Lib.hid h2; have H3 := Lib.hid h3
  obtain ⟨A1, c1, rfl, -⟩ := h
  obtain ⟨A2, c2, rfl, -⟩ := h2
  obtain ⟨A3, c3, rfl, -⟩ := h3
  have HE : Hid (coE ds cs ys = if ckOk ds cs = true ∧ inside ds ys = true then (pkL (plcs cs ys), idxL cs (inss cs ys)) else (-1, -1)) := Lib.hid rfl
  have HD := Lib.hid (fun (hk : ckOk ds cs = true) (hi : inside ds ys = true) => dv_of hk hi)
  have HCn := Lib.hid (fun (W : World) (hW : Below w.heap.size w W) => contain_any (H.out.at hB hW) (H3.out.at hB hW) (Nat.le_refl _))
  have HFd := Lib.hid (fun (W : World) (hW : Below w.heap.size w W) (hd : Dv cs ys) (E : Option Addr) (l e : Nat) => find_any (v := .slice A1 ds.length c1) (z := .slice E l e) ⟨_, _, _, rfl⟩ ⟨_, _, _, rfl⟩ (H2.out.at hB hW) (H3.out.at hB hW) (Nat.le_refl _) hd)
  go_enter Try.func24, Try.ntmps24
  go_wp2_with fail
  refine HT.out.mono ?_
  rintro e w1 ⟨x, rfl, ⟨a, b, c, l1, l2, l3, e1, e2, e3, rfl⟩, hb, hy⟩
  have Hb := Lib.hid hb; have HY := Lib.hid hy
  clear hb hy
  have Hba : Hid (∀ o, Below w.heap.size w (w1.alloc o)) := Lib.hid (fun o => Hb.out.alloc (Below.size Hb.out) o)
  generalize ckOk ds cs = y at *
  have hi := til_info (.slice a l1 e1) (.slice b l2 e2) (.slice c l3 e3)
  have h1 : (#[.slice a l1 e1, .slice b l2 e2, .slice c l3 e3] : Array Value).all (·.oneCell') = true := by simp [Value.oneCell']
  cases y with
  | false =>
    go_wp2_with (refine wpList_store_last rfl 43 (.tmp 8) (.tmp 16) rfl #[.slice a l1 e1, .slice b l2 e2, .slice c l3 e3] _ 43 rfl rfl hi rfl h1 ?_)
    go_ret2
    exact ⟨by rw [HE.out]; simp, Hba.out _⟩
  | true =>
    obtain ⟨A, hx, -⟩ := HY.out rfl
    simp at hx
    obtain ⟨⟨rfl, rfl, rfl⟩, ⟨rfl, rfl, rfl⟩, rfl, rfl, rfl⟩ := hx
    have HDv := Lib.hid (HD.out rfl)
    generalize inside ds ys = q at *
    cases q with
    | false =>
      go_wp2_with (first | (refine wpList_store_last rfl 43 (.tmp 8) (.tmp 16) rfl #[.slice A1 ds.length c1, .slice A2 cs.length c2, .slice c l3 e3] _ 43 rfl rfl hi rfl h1 ?_) | (go_at_call 44; refine (HCn.out _ (Hba.out _)).mono ?_; rintro e w' ⟨rfl, rfl⟩))
      go_ret2
      exact ⟨by rw [HE.out]; simp, Hba.out _⟩
    | true =>
      have Hv := Lib.hid (HDv.out rfl)
      have Hlen : Hid ((plcs cs ys).length ≤ 3) := Lib.hid (by have := Hv.out.1; have := Hv.out.2.2.1; simp [plcs]; omega)
      have HN := Lib.hid (pad3_num (plcs_inD Hv.out))
      have HK := Lib.hid (fun W => key_any40 (pad3_len Hlen.out) HN.out W)
      have HPk := Lib.hid (pad3_key _ Hlen.out)
      obtain ⟨pa, pb, pc, hp3⟩ := pad3_three Hlen.out
      rw [HPk.out] at HK
      rw [hp3] at HFd HK
      have hag : aggI [pa, pb, pc] = .agg #[.int .i64 pa, .int .i64 pb, .int .i64 pc] := rfl
      rw [hag] at HFd HK
      clear hp3 hag
      go_wp2_with (first | (refine wpList_store_last rfl 43 (.tmp 8) (.tmp 16) rfl #[.slice A1 ds.length c1, .slice A2 cs.length c2, .slice c l3 e3] _ 43 rfl rfl hi rfl h1 ?_) | (go_at_call 44; refine (HCn.out _ (Hba.out _)).mono ?_; rintro e w' ⟨rfl, rfl⟩) | (go_at_call 45; refine (HFd.out _ (Hba.out _) Hv.out _ _ _).mono ?_; rintro e w3 ⟨rfl, g3⟩; have Hg3 := Lib.hid g3; clear g3) | (go_at_call 46; refine (HK.out _).mono ?_; rintro e w4 ⟨rfl, g4⟩; have Hg4 := Lib.hid g4; clear g4))
      go_ret2
      refine ⟨by rw [HE.out]; simp, ?_⟩
      have b3 : Below w.heap.size w w3 := (Hba.out _).trans (Hg3.out.mono (Hba.out _).size)
      have b4 := b3.alloc b3.size (.cells #[.int .i64 pa, .int .i64 pb, .int .i64 pc] 55)
      exact b4.trans (Hg4.out.mono b4.size)
end Go.Proofs.Ytmghbgnalkkppaa
