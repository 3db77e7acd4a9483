/- Barriers: the pending writes as a fold. No statement is proved here. -/
import Derived.Test.YtpjkeikaonkohaaDkX
import Derived.StillTailTactics
namespace Go.Proofs.Ytpjkeikaonkohaa
open Go.RowKit
set_option linter.unusedVariables false
/-- The blocks after the first k pending writes. -/
def brS (ss : List ByteArray) (ps : List Pt) : Nat → List ByteArray
  | 0 => ss
  | k + 1 => (brS ss ps k).set (ps.getD k (0, ByteArray.empty)).1.toNat (ps.getD k (0, ByteArray.empty)).2
theorem brS_len (ss : List ByteArray) (ps : List Pt) : ∀ k, (brS ss ps k).length = ss.length
  | 0 => rfl
  | k + 1 => by rw [brS, List.length_set, brS_len ss ps k]
theorem brS_in (ss : List ByteArray) (ps : List Pt) : ∀ k, k ≤ ps.length → ∀ x ∈ brS ss ps k, x ∈ ss ∨ ∃ p ∈ ps, p.2 = x
  | 0, _, x, hx => .inl hx
  | k + 1, hk, x, hx => by
    rw [brS] at hx
    rcases List.mem_or_eq_of_mem_set hx with h | h
    · exact brS_in ss ps k (by omega) x h
    · refine .inr ⟨ps[k], List.getElem_mem _, ?_⟩
      rw [h, List.getD_eq_getElem?_getD, List.getElem?_eq_getElem (by omega)]; rfl
theorem brS_step (ss : List ByteArray) (ps : List Pt) (k : Nat) (hk : k < ps.length) : (brS ss ps k).set ps[k].1.toNat ps[k].2 = brS ss ps (k + 1) := by
  rw [brS, List.getD_eq_getElem?_getD, List.getElem?_eq_getElem hk]; rfl
def brR (ss : List ByteArray) (ps : List Pt) (fz : Int) (off : Bool) : List ByteArray := if pwY fz off then brS ss ps ps.length else ss
def brP (ps : List Pt) (fz : Int) (off : Bool) : List Pt := if pwY fz off then [] else ps
def brC (fz : Int) (off : Bool) : Int := if pwY fz off then 0 else 13
/-- The disk in block g after a barrier. -/
def Brt (w' w : World) (lo g : Nat) (ss : List ByteArray) (ps : List Pt) (fz : Int) (off : Bool) : Prop := ∃ v1 v2, DB w' g v1 v2 fz off ∧ OT w' lo v1 ss ∧ OU w' lo v2 ps ∧ Below lo w w'
set_option maxHeartbeats 4000000 in
set_option maxRecDepth 100000 in
theorem l09Barrier_any {w : World} {lo g : Nat} {v1 v2 : Value} {ss : List ByteArray} {ps : List Pt} {fz : Int} {off : Bool} (hd : DB w g v1 v2 fz off) (h1 : OT w lo v1 ss) (h2 : OU w lo v2 ps) (hg : lo ≤ g) (hl : ss.length ≤ 256 ∧ ps.length ≤ 600) (hf : InI fz)
    (hb : ∀ (i : Nat) (hi : i < ps.length), 0 ≤ ps[i].1 ∧ ps[i].1 < ss.length) :
    Calls Try.prog 86 #[.pointer (some ⟨g, 0, none⟩)] w (fun e w' => e = .returned (.int .i64 (brC fz off)) ∧ Brt w' w lo g (brR ss ps fz off) (brP ps fz off) (pwF fz off) (pwO fz off)) := by
  obtain ⟨E1, d1, rfl⟩ := h1.ex
  obtain ⟨E2, d2, rfl⟩ := h2.ex
  have Hd := Lib.hid hd; have H1 := Lib.hid h1; have H2 := Lib.hid h2; have Hb := Lib.hid hb; have Hl := Lib.hid hl
  have hlt := hd.lt
  have HP := Lib.hid (l09Power_any (w := w) (v1 := .slice E1 ss.length d1) (v2 := .slice E2 ps.length d2) hd hf)
  clear hd h1 h2 hb hl
  cases hy : pwY fz off
  · have e1 : brC fz off = 13 := by simp [brC, hy]
    have e2 : brR ss ps fz off = ss := by simp [brR, hy]
    have e3 : brP ps fz off = ps := by simp [brP, hy]
    rw [e1, e2, e3]
    rw [hy] at HP
    clear e1 e2 e3 hy
    generalize pwF fz off = fz' at *
    generalize pwO fz off = off' at *
    go_enter Try.func86, Try.ntmps86
    go_wp2_with fail
    refine HP.out.mono ?_
    rintro e w1 ⟨rfl, hp⟩
    obtain ⟨v3, a1, a2, a3, a4⟩ := Pow.wrt Hd.out hp H1.out H2.out hg
    have Hw : Hid (Brt w1 w lo g ss ps fz' off') := Lib.hid ⟨_, _, a1, a2, a3, a4⟩
    clear hp a1 a2 a3 a4
    go_wp2_with fail
    go_ret
    exact ⟨rfl, Hw.out⟩
  have e1 : brC fz off = 0 := by simp [brC, hy]
  have e2 : brR ss ps fz off = brS ss ps ps.length := by simp [brR, hy]
  have e3 : brP ps fz off = [] := by simp [brP, hy]
  have e4 : pwO fz off = false := by simp [pwO, hy]
  rw [e1, e2, e3, e4]
  rw [hy, e4] at HP
  clear e1 e2 e3 e4 hy
  generalize pwF fz off = fz' at *
  go_enter Try.func86, Try.ntmps86
  go_wp2_with fail
  refine HP.out.mono ?_
  rintro e w1 ⟨rfl, hp⟩
  have D1 := Lib.hid hp.1
  have O1 : Hid (OT w1 lo (.slice E1 ss.length d1) ss) := Lib.hid (own_same H1.out fun k hk => hp.2.2.2 k (fun e => H1.out.ned Hd.out (e ▸ hk)))
  have O2 : Hid (OU w1 lo (.slice E2 ps.length d2) ps) := Lib.hid (own_same H2.out fun k hk => hp.2.2.2 k (fun e => H2.out.ned Hd.out (e ▸ hk)))
  have B1 : Hid (Below lo w w1) := Lib.hid (hp.2.2.1.mono hg)
  have Z1 : Hid (lo ≤ w1.heap.size) := Lib.hid (by rw [hp.2.1]; omega)
  clear hp HP
  go_wp2
  go_loopw [3] (fun i wr => ∃ k : Nat, k ≤ ps.length ∧ i = .int .i64 k ∧ DB wr g (.slice E1 ss.length d1) (.slice E2 ps.length d2) fz' false ∧ OT wr lo (.slice E1 ss.length d1) (brS ss ps k) ∧ OU wr lo (.slice E2 ps.length d2) ps ∧ Below lo w wr) (fun i _ => ps.length - (intOf i).toNat)
  case atStart => exact ⟨0, Nat.zero_le _, rfl, D1.out, O1.out, O2.out, B1.out⟩
  case round =>
    obtain ⟨k, hk, rfl, rd, ra, rb, rw'⟩ := hrel
    have Rd := Lib.hid rd; have Ra := Lib.hid ra; have Rb := Lib.hid rb; have Rw := Lib.hid rw'
    have q0 := rd.c0; have q1 := rd.c1; have f1 := rd.f 1
    have zz : lo ≤ wr.heap.size := by have := rd.lt; omega
    have ZZ := Lib.hid zz
    have hl1 := Hl.out.1; have hl2 := Hl.out.2
    clear rd ra rb rw' zz
    by_cases hlt2 : k < ps.length
    · rcases OU.sl Rb.out with ⟨_, e0⟩ | ⟨g2, cap2, e2, -, -, -, -⟩
      · rw [e0] at hlt2; simp at hlt2
      obtain ⟨hz0, hz1⟩ := Hb.out k hlt2
      rcases OT.sl Ra.out with ⟨_, e0⟩ | ⟨g1, cap1, e1, -, -, -, -⟩
      · have := brS_len ss ps k; rw [e0] at this; simp at this; omega
      obtain rfl : E2 = some ⟨g2, 0, none⟩ := by injection e2
      obtain rfl : E1 = some ⟨g1, 0, none⟩ := by injection e1
      clear e1 e2
      obtain ⟨c1, c2⟩ := OU.cell Rb.out k hlt2
      have HT := Lib.hid (brS_step ss ps k hlt2)
      have HL := Lib.hid (brS_len ss ps k)
      generalize ps[k].1 = z at *
      generalize ps[k].2 = x at *
      obtain ⟨j, rfl⟩ := Int.eq_ofNat_of_zero_le hz0
      have hj : j < ss.length := by omega
      have cj := OT.cell Ra.out j (by rw [HL.out]; exact hj)
      have fj := own_frozen Ra.out j
      have Hset := Lib.hid (OT.set Ra.out j x (by rw [HL.out]; exact hj))
      have N1 := Lib.hid (Ra.out.ned Rd.out)
      have N2 : Hid (g1 ≠ g2) := Lib.hid (fun e => OT.ap Ra.out Rb.out g1 rfl (by rw [e]; rfl))
      have N3 := Lib.hid (World.ownsRow.lt Ra.out g1 rfl).1
      generalize (brS ss ps k)[j]'(by rw [HL.out]; exact hj) = old at *
      clear hz0
      go_wp2
      refine wp_region_still_tail 21 (by kernel_rfl) (by kernel_rfl) ?_
      simp only [List.take_succ_cons, List.take_zero, List.drop_succ_cons, List.drop_zero]
      repeat still_step
      refine wpStill_nil ?_
      have cjd : wr.drew.cell? ⟨g1, j, none⟩ = some (.string old) := cj
      have fjd : wr.drew.frozen? ⟨g1, j, none⟩ = false := fj
      have Rd2 : Hid (DB (wr.drew.setCell ⟨g1, j, none⟩ (.string x)) g (.slice (some ⟨g1, 0, none⟩) ss.length d1) (.slice (some ⟨g2, 0, none⟩) ps.length d2) fz' false) := Lib.hid ((heap_setCell_other _ ⟨g1, j, none⟩ g _ (fun e => N1.out (by simp at e; simp [Value.ownBlock, e]))).trans Rd.out)
      have Ra2 : Hid (OT (wr.drew.setCell ⟨g1, j, none⟩ (.string x)) lo (.slice (some ⟨g1, 0, none⟩) ss.length d1) (brS ss ps (k + 1))) := Lib.hid (HT.out ▸ Hset.out)
      have Rb2 : Hid (OU (wr.drew.setCell ⟨g1, j, none⟩ (.string x)) lo (.slice (some ⟨g2, 0, none⟩) ps.length d2) ps) := Lib.hid (own_same Rb.out fun q hq => heap_setCell_other _ ⟨g1, j, none⟩ q _ (fun e => N2.out (by simp [Value.ownBlock] at hq; simp at e; omega)))
      have Rw2 : Hid (Below lo w (wr.drew.setCell ⟨g1, j, none⟩ (.string x))) := Lib.hid (Rw.out.drew.setCell (p := ⟨g1, j, none⟩) N3.out _)
      clear q0 q1 f1 c1 c2 cj fj
      change wpList _ _ _ _ _ wr.drew
      generalize wr.drew = wd at *
      go_wp2
      go_roundw
      case rel => exact ⟨k + 1, by omega, by go_num, Rd2.out, Ra2.out, Rb2.out, Rw2.out⟩
      case measure => simp [intOf]; omega
    · have hkm : k = ps.length := by omega
      subst hkm
      have hg2 := Rd.out.lt
      have zs1 : (wr.setCell ⟨g, 1, none⟩ (.slice (some ⟨wr.heap.size, 0, none⟩) 0 0)).heap.size = wr.heap.size := by simp [World.setCell]
      have Al := Lib.hid ((Below.refl _ (wr.setCell ⟨g, 1, none⟩ (.slice (some ⟨wr.heap.size, 0, none⟩) 0 0))).alloc (Nat.le_refl _) (.cells #[] 77))
      have Da : Hid (DB ((wr.setCell ⟨g, 1, none⟩ (.slice (some ⟨wr.heap.size, 0, none⟩) 0 0)).alloc (.cells #[] 77)) g (.slice E1 ss.length d1) (.slice (some ⟨wr.heap.size, 0, none⟩) 0 0) fz' false) := Lib.hid (DB.keep (by unfold DB; rw [heap_setCell_same _ _ _ _ _ _ Rd.out]; rfl) Al.out)
      have Oa : Hid (OT ((wr.setCell ⟨g, 1, none⟩ (.slice (some ⟨wr.heap.size, 0, none⟩) 0 0)).alloc (.cells #[] 77)) lo (.slice E1 ss.length d1) (brS ss ps ps.length)) := Lib.hid (own_bel (own_same Ra.out fun q hq => heap_setCell_other _ ⟨g, 1, none⟩ q _ (fun e => Ra.out.ned Rd.out (by rw [hq]; exact congrArg some (by simpa using e)))) Al.out)
      have Ob : Hid (OU ((wr.setCell ⟨g, 1, none⟩ (.slice (some ⟨wr.heap.size, 0, none⟩) 0 0)).alloc (.cells #[] 77)) lo (.slice (some ⟨wr.heap.size, 0, none⟩) 0 0) []) := Lib.hid (by
        have h := World.ownsRow_made (base := lo) (e := 77) (size := 2) (wr.setCell ⟨g, 1, none⟩ (.slice (some ⟨wr.heap.size, 0, none⟩) 0 0)) #[] 0 (by rw [zs1]; exact ZZ.out) (by decide) (by simp)
        rw [zs1] at h
        exact h)
      have Bl : Hid (Below lo w ((wr.setCell ⟨g, 1, none⟩ (.slice (some ⟨wr.heap.size, 0, none⟩) 0 0)).alloc (.cells #[] 77))) := Lib.hid ((Rw.out.setCell (p := ⟨g, 1, none⟩) hg _).alloc (by rw [zs1]; exact ZZ.out) _)
      clear zs1 Al
      go_wp2
      go_ret
      exact ⟨rfl, _, _, Da.out, Oa.out, Ob.out, Bl.out⟩
end Go.Proofs.Ytpjkeikaonkohaa
