/- The contract of the program's ChunkKeys. No statement is proved here. -/
import Derived.Test.YtmghbgnalkkppaaItK
namespace Go.Proofs.Ytmghbgnalkkppaa
open Go.RowKit
set_option linter.unusedVariables false
/-- The places of a valid division: what an iterator over them yields. -/
theorem pxp_facts {gs : List Int} (hl : gs.length ≤ 3) (hd : allTo (inD gs) gs.length = true) : ∀ x v W, PxP gs x v W → v = aggI x ∧ x.length = 3 ∧ ∀ y ∈ x, 0 ≤ y ∧ y ≤ 40 := by
  rintro x v W ⟨⟨j, hj, rfl⟩, rfl⟩
  have hlen : (crF gs j).length = gs.length := by simp [crF, crds_length]
  exact ⟨rfl, pad3_len (by omega), pad3_num (crds_inD (pos_of_count hd (by omega)) _ (by omega))⟩
set_option maxHeartbeats 1000000 in
/-- The keys of all places, where a division has been laid. -/
theorem keys_call {W : World} {m : Nat} {a b c : Option Addr} {l1 e1 l2 e2 l3 e3 : Nat} {gs : List Int} (hR : Ri m W (.slice c l3 e3) gs) (hm : m ≤ W.heap.size) (hl : gs.length ≤ 3) (hd : allTo (inD gs) gs.length = true) (hp : prodL gs ≤ 600) :
    Calls Try.prog 40 #[.func (.func 62) #[] #[.pointer (some ⟨W.heap.size, 0, none⟩)]] (W.alloc (.cells #[.slice a l1 e1, .slice b l2 e2, .slice c l3 e3] 43)) (MadeO (kys gs) (W.alloc (.cells #[.slice a l1 e1, .slice b l2 e2, .slice c l3 e3] 43))) := by
  have hal : Below W.heap.size W (W.alloc (.cells #[.slice a l1 e1, .slice b l2 e2, .slice c l3 e3] 43)) := (Below.refl _ _).alloc (Nat.le_refl _) _
  have hn := heap_alloc_new W (.cells #[.slice a l1 e1, .slice b l2 e2, .slice c l3 e3] 43)
  have hz : (W.alloc (.cells #[.slice a l1 e1, .slice b l2 e2, .slice c l3 e3] 43)).heap.size = W.heap.size + 1 := by simp
  have hR2 := hR.up (Nat.le_refl _) (hal.mono hm)
  generalize (W.alloc (.cells #[.slice a l1 e1, .slice b l2 e2, .slice c l3 e3] 43)) = V at *
  have hy := places_yields (Bt := W.heap.size) ⟨_, _, _, rfl⟩ hR2 (by omega) hn hl hd hp
  have h := keysOf_any (enters_of Try.func62 (by kernel_rfl) rfl) hy (by
    rintro k (hk | hk)
    · omega
    · omega) (pxp_facts hl hd) (fun ys h => h) (by omega)
  rw [kys_pls _ hl] at h
  exact h
set_option maxHeartbeats 4000000 in
set_option maxRecDepth 100000 in
theorem implChunkKeys_any {B : Nat} {w : World} {v u : Value} {ds cs : List Int} (h : Ri B w v ds) (h2 : Ri B w u cs) (hB : B ≤ w.heap.size) :
    Calls Try.prog 22 #[v, u] w (MadeO (keysE ds cs) w) := by
  have HT := Lib.hid (tilingOf_any h h2 hB)
  obtain ⟨A1, c1, rfl, -⟩ := h
  obtain ⟨A2, c2, rfl, -⟩ := h2
  have HE : Hid (keysE ds cs = if ckOk ds cs = true then kys (grds ds cs) else []) := Lib.hid rfl
  have HG := Lib.hid (fun hk : ckOk ds cs = true => grd_facts hk)
  have HGI := Lib.hid (fun hk : ckOk ds cs = true => gr_in hk)
  go_enter Try.func22, Try.ntmps22
  go_wp2_with fail
  refine HT.out.mono ?_
  rintro e w1 ⟨x, rfl, ⟨a, b, c, l1, l2, l3, e1, e2, e3, rfl⟩, hb, hy⟩
  have Hb := Lib.hid hb; have HY := Lib.hid hy
  clear hb hy
  have Hba : Hid (∀ o, Below w.heap.size w (w1.alloc o)) := Lib.hid (fun o => Hb.out.alloc (Below.size Hb.out) o)
  generalize ckOk ds cs = y at *
  have hi := til_info (.slice a l1 e1) (.slice b l2 e2) (.slice c l3 e3)
  have h1 : (#[.slice a l1 e1, .slice b l2 e2, .slice c l3 e3] : Array Value).all (·.oneCell') = true := by simp [Value.oneCell']
  cases y with
  | false =>
    go_wp2_with (refine wpList_store_last rfl 43 (.tmp 5) (.tmp 11) rfl #[.slice a l1 e1, .slice b l2 e2, .slice c l3 e3] _ 43 rfl rfl hi rfl h1 ?_)
    go_ret
    refine ⟨_, rfl, ?_, Hba.out _⟩
    rw [HE.out]
    exact oi_none _ _
  | true =>
    obtain ⟨A, hx, ho⟩ := HY.out rfl
    have HO := Lib.hid ho
    have HF := Lib.hid (HG.out rfl)
    have HI := Lib.hid (HGI.out rfl)
    simp at hx
    obtain ⟨⟨rfl, rfl, rfl⟩, ⟨rfl, rfl, rfl⟩, rfl, rfl, rfl⟩ := hx
    clear ho
    have HKs : Hid (Calls Try.prog 40 #[.func (.func 62) #[] #[.pointer (some ⟨(w1.alloc (.cells #[.slice a ds.length e1, .slice b cs.length e2, .slice c ds.length ds.length] 43)).heap.size, 0, none⟩)]] ((w1.alloc (.cells #[.slice a ds.length e1, .slice b cs.length e2, .slice c ds.length ds.length] 43)).alloc (.cells #[.slice a ds.length e1, .slice b cs.length e2, .slice c ds.length ds.length] 43)) (MadeO (kys (grds ds cs)) ((w1.alloc (.cells #[.slice a ds.length e1, .slice b cs.length e2, .slice c ds.length ds.length] 43)).alloc (.cells #[.slice a ds.length e1, .slice b cs.length e2, .slice c ds.length ds.length] 43)))) := Lib.hid (keys_call ((HO.out.bel ((Below.refl _ _).alloc (Nat.le_refl _) _)).ri HI.out) (Nat.le_refl _) HF.out.1 HF.out.2.1 (by have := HF.out.2.2.2; omega))
    have Hb1 := Lib.hid (Hba.out (.cells #[.slice a ds.length e1, .slice b cs.length e2, .slice c ds.length ds.length] 43))
    go_wp2_with (refine wpList_store_last rfl 43 (.tmp 5) (.tmp 11) rfl #[.slice a ds.length e1, .slice b cs.length e2, .slice c ds.length ds.length] _ 43 rfl rfl hi rfl h1 ?_)
    generalize (w1.alloc (.cells #[.slice a ds.length e1, .slice b cs.length e2, .slice c ds.length ds.length] 43)) = w2 at *
    refine (places_any _ _ _ _ _ _ _ _ _ _).mono ?_
    rintro e w3 ⟨rfl, rfl⟩
    have Hb2 := Lib.hid (Hb1.out.alloc Hb1.out.size (.cells #[.slice a ds.length e1, .slice b cs.length e2, .slice c ds.length ds.length] 43))
    generalize (w2.alloc (.cells #[.slice a ds.length e1, .slice b cs.length e2, .slice c ds.length ds.length] 43)) = w3 at *
    go_wp2_with fail
    refine HKs.out.mono ?_
    rintro e w4 ⟨v3, rfl, ho3, g3⟩
    have HO3 := Lib.hid ho3; have G3 := Lib.hid g3
    clear ho3 g3
    go_wp2_with fail
    go_ret
    refine ⟨_, rfl, ?_, Hb2.out.trans (G3.out.mono Hb2.out.size)⟩
    rw [HE.out]
    exact HO3.out.lo Hb2.out.size
end Go.Proofs.Ytmghbgnalkkppaa
