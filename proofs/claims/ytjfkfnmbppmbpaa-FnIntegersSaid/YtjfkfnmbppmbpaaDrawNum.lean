/- The contracts of the drawing functions of numbers. No statement is proved here. -/
import Derived.Test.YtjfkfnmbppmbpaaDrawHex
namespace Go.Proofs.Ytjfkfnmbppmbpaa
open Go.RowKit
set_option linter.unusedVariables false
def nums1 : List Int := [0, 255, 256, 65535, 65536, 4294967296, 1099511627775, 9223372036854775807]
def nums2 : List Int := [1, 2, 128, 129, 32768, 32769, 2147483648, 9223372036854775807]
def nums3 : List Int := [0, 8, 16, 24, 32, 48]
def cellsI (zs : List Int) : Array Value := (zs.map (Value.int .i64)).toArray
theorem cellsI_at (w : World) (zs : List Int) (i : Nat) (hi : i < zs.length) : (w.alloc (.cells (cellsI zs) 2)).cell? ⟨w.heap.size, i, none⟩ = some (.int .i64 (zs.getD i 0)) := by
  rw [World.cell?_alloc_mark]
  simp [cellsI, List.getD, hi]
theorem nums3_len : nums3.length = 6 := rfl
theorem nums3_at (w : World) (i : Nat) (hi : i < 6) : (w.alloc (.cells #[.int .i64 0, .int .i64 8, .int .i64 16, .int .i64 24, .int .i64 32, .int .i64 48] 2)).cell? ⟨w.heap.size, i, none⟩ = some (.int .i64 (nums3.getD i 0)) := cellsI_at w nums3 i hi
/-- Where a drawing stands: the source K steps on, its bytes as they were. -/
def GG (w : World) (g : Nat) (A : Option Addr) (n cap B K : Nat) (w' : World) : Prop := Src w' g A n cap K ∧ CodeIs w' B A n ∧ w.grownBy w' (some g) ∧ B ≤ g
theorem GG.drew {w w' : World} {g : Nat} {A : Option Addr} {n cap B K : Nat} (h : GG w g A n cap B K w') : GG w g A n cap B K w'.drew := ⟨h.1, h.2.1, grownBy_drew h.2.2.1, h.2.2.2⟩
theorem GG.alloc {w w' : World} {g : Nat} {A : Option Addr} {n cap B K : Nat} (h : GG w g A n cap B K w') (o : Obj) : GG w g A n cap B K (w'.alloc o) := by
  have hl := h.1.lt
  have hB := h.2.2.2
  exact ⟨h.1.below ((Below.refl _ w').alloc (Nat.le_refl _) o) hl, h.2.1.below ((Below.refl _ w').alloc (Nat.le_refl _) o) (by omega), grownBy_trans h.2.2.1 (World.grownBy_alloc w' o _), hB⟩
theorem GG.lt {w w' : World} {g : Nat} {A : Option Addr} {n cap B K : Nat} (h : GG w g A n cap B K w') : g < w'.heap.size := h.1.lt
theorem pickG {w : World} {g : Nat} {A : Option Addr} {n cap B K : Nat} (hn : n ≤ 1048576) (hK : K ≤ 2305843009213693952) (m : Int) (hm : 1 < m ∧ m < 9223372036854775808) (w' : World) (h : GG w g A n cap B K w') :
    Calls Try.prog 40 #[.pointer (some ⟨g, 0, none⟩), .int .i64 m] w' fun e w2 => ∃ v : Int, e = .returned (.int .i64 v) ∧ 0 ≤ v ∧ v ≤ m - 1 ∧ GG w g A n cap B (K + 2) w2 ∧ w'.grownBy w2 (some g) := by
  refine (pick_any g A n cap K B hn hK h.2.2.2 m ⟨by omega, hm.2⟩ w' h.1 h.2.1).mono ?_
  rintro e w2 ⟨v, rfl, a, b, s, k⟩
  rw [if_neg (by omega)] at b
  exact ⟨v, rfl, a, b, ⟨s, h.2.1.grown k h.2.2.2, grownBy_trans h.2.2.1 k, h.2.2.2⟩, k⟩
theorem amongG {w : World} {g : Nat} {A : Option Addr} {n cap B K : Nat} (hn : n ≤ 1048576) (hK : K ≤ 2305843009213693952) (b m : Nat) (zs : List Int) (hm1 : 1 ≤ m) (hm : m ≤ 1048576) (hz : zs.length = m) (w' : World) (h : GG w g A n cap B K w') (hbg : b ≠ g)
    (hcell : ∀ i, i < m → w'.cell? ⟨b, i, none⟩ = some (.int .i64 (zs.getD i 0))) :
    Calls Try.prog 61 #[.pointer (some ⟨g, 0, none⟩), .slice (some ⟨b, 0, none⟩) m m] w' fun e w2 => ∃ v : Int, e = .returned (.int .i64 v) ∧ v ∈ zs ∧ GG w g A n cap B (K + 2) w2 := by
  refine (among_any g A n cap K B hn hK h.2.2.2 b m m zs hm1 hm hz hbg w' h.1 h.2.1 hcell).mono ?_
  rintro e w2 ⟨v, rfl, a, s, k⟩
  exact ⟨v, rfl, a, ⟨s, h.2.1.grown k h.2.2.2, grownBy_trans h.2.2.1 k, h.2.2.2⟩⟩
set_option maxHeartbeats 1600000 in
theorem drawNumber_any (g : Nat) (A : Option Addr) (n cap K B : Nat) (hn : n ≤ 1048576) (hK : K ≤ 1152921504606846976) (hB : B ≤ g) (w : World) (hs : Src w g A n cap K) (hcode : CodeIs w B A n) :
    Calls Try.prog 39 #[.pointer (some ⟨g, 0, none⟩)] w fun e w' => ∃ v : Int, e = .returned (.int .i64 v) ∧ -9223372036854775808 ≤ v ∧ v < 9223372036854775808 ∧ Src w' g A n cap (K + 8) ∧ w.grownBy w' (some g) := by
  have hgl := hs.lt
  have Hp := Lib.hid (fun w1 K1 hK1 m hm hs1 hc1 => pick_any g A n cap K1 B hn hK1 hB m hm w1 hs1 hc1)
  have Hs := Lib.hid hs; have Hcode := Lib.hid hcode; clear hs hcode
  go_enter Try.func39, Try.ntmps39
  go_wp2_with fail
  refine (Hp.out _ K (by omega) 4 ⟨by omega, by omega⟩ Hs.out Hcode.out).mono ?_
  rintro e w1 ⟨v1, rfl, a1, b1, s1, g1⟩
  rw [if_neg (by omega)] at b1
  have hsz := g1.size
  have S1 := Lib.hid s1; have G1 := Lib.hid g1; have C1 := Lib.hid (Hcode.out.grown g1 hB); clear s1 g1
  by_cases h0 : v1 = 0
  · subst h0
    go_wp2_with fail
    refine (Hp.out _ _ (by omega) 300 ⟨by omega, by omega⟩ S1.out C1.out).mono ?_
    rintro e w2 ⟨v2, rfl, a2, b2, s2, g2⟩
    have S2 := Lib.hid s2; have G2 := Lib.hid g2; clear s2 g2
    rw [if_neg (by omega)] at b2
    go_wp2_with fail
    go_ret
    exact ⟨v2, rfl, by omega, by omega, S2.out.more (by omega), grownBy_trans G1.out G2.out⟩
  by_cases h1 : v1 = 1
  · subst h1
    have hcell := cellsI_at w1 nums1
    have hs2 := S1.out.below ((Below.refl _ w1).alloc (Nat.le_refl _) (.cells (cellsI nums1) 2)) (by omega)
    have hc2 := C1.out.below ((Below.refl _ w1).alloc (Nat.le_refl _) (.cells (cellsI nums1) 2)) (by omega)
    have Hcell := Lib.hid hcell; have Hs2 := Lib.hid hs2; have Hc2 := Lib.hid hc2; clear hcell hs2 hc2 h0
    go_wp2_with fail
    refine (among_any g A n cap (K + 2) B hn (by omega) hB w1.heap.size 8 8 nums1 (by omega) (by omega) rfl (by omega) _ (by exact Hs2.out) (by exact Hc2.out) (by exact Hcell.out)).mono ?_
    rintro e w2 ⟨v2, rfl, m2, s2, g2⟩
    have S2 := Lib.hid s2; have G2 := Lib.hid g2; clear s2 g2
    have hr : -9223372036854775808 ≤ v2 ∧ v2 < 9223372036854775808 := by
      unfold nums1 at m2; simp only [List.mem_cons, List.not_mem_nil, or_false] at m2; omega
    clear m2
    go_wp2_with fail
    go_ret
    exact ⟨v2, rfl, hr.1, hr.2, S2.out.more (by omega), grownBy_trans G1.out (grownBy_trans (World.grownBy_alloc w1 _ _) G2.out)⟩
  by_cases h2 : v1 = 2
  · subst h2
    have hcell := cellsI_at w1 nums2
    have hs2 := S1.out.below ((Below.refl _ w1).alloc (Nat.le_refl _) (.cells (cellsI nums2) 2)) (by omega)
    have hc2 := C1.out.below ((Below.refl _ w1).alloc (Nat.le_refl _) (.cells (cellsI nums2) 2)) (by omega)
    have Hcell := Lib.hid hcell; have Hs2 := Lib.hid hs2; have Hc2 := Lib.hid hc2; clear hcell hs2 hc2 h0 h1
    go_wp2_with fail
    refine (among_any g A n cap (K + 2) B hn (by omega) hB w1.heap.size 8 8 nums2 (by omega) (by omega) rfl (by omega) _ (by exact Hs2.out) (by exact Hc2.out) (by exact Hcell.out)).mono ?_
    rintro e w2 ⟨v2, rfl, m2, s2, g2⟩
    have S2 := Lib.hid s2; have G2 := Lib.hid g2; clear s2 g2
    have hr : 1 ≤ v2 ∧ v2 < 9223372036854775808 := by
      unfold nums2 at m2; simp only [List.mem_cons, List.not_mem_nil, or_false] at m2; omega
    clear m2
    obtain ⟨hr1, hr2⟩ := hr
    go_wp2_with fail
    go_ret
    exact ⟨-v2, by go_num, by omega, by omega, S2.out.more (by omega), grownBy_trans G1.out (grownBy_trans (World.grownBy_alloc w1 _ _) G2.out)⟩
  · obtain rfl : v1 = 3 := by omega
    clear h0 h1 h2
    have G : Hid (GG w g A n cap B (K + 2) w1) := Lib.hid ⟨S1.out, C1.out, G1.out, hB⟩
    have P256 := Lib.hid (fun w' h => pickG (w := w) (g := g) (A := A) (n := n) (cap := cap) (B := B) (K := K + 2) hn (by omega) 256 ⟨by omega, by omega⟩ w' h)
    have P5 := Lib.hid (fun w' h => pickG (w := w) (g := g) (A := A) (n := n) (cap := cap) (B := B) (K := K + 2 + 2 + 2) hn (by omega) 5 ⟨by omega, by omega⟩ w' h)
    clear S1 C1 G1 Hp Hs Hcode
    go_wp2_with fail
    have hgl1 : g < w1.heap.size := G.out.lt
    have hnum3 : ∀ v, v ∈ nums3 → 0 ≤ v ∧ v ≤ 48 := fun v hv => by unfold nums3 at hv; simp only [List.mem_cons, List.not_mem_nil, or_false] at hv; omega
    have Hn3 := Lib.hid hnum3; clear hnum3
    go_region_held3 (fun w' => True) (trivial)
      (first
        | ((with_reducible refine (P256.out _ ?_).mono ?_); (first | exact G.out.drew | exact (G.out.alloc _).drew); rintro e w2 ⟨v2, rfl, a2, c2, g2, k2⟩; have hgl2 := g2.lt; have G2 := Lib.hid g2; have K2 := Lib.hid k2; clear g2 k2)
        | ((with_reducible refine (P5.out _ ?_).mono ?_); exact G3.out; rintro e w4 ⟨v4, rfl, a4, c4, g4, k4⟩; have G4 := Lib.hid g4; clear g4 k4)
        | ((with_reducible refine (amongG (w := w) (g := g) (A := A) (n := n) (cap := cap) (B := B) (K := K + 2 + 2) hn (by omega) _ 6 nums3 (by omega) (by omega) nums3_len _ ?_ ?_ ?_).mono ?_); (first | exact G2.out | exact G2.out.alloc _); omega; (first | exact nums3_at w2 | (intro i hi; exact K2.out.cell (nums3_at w1 i hi) (by simp; omega))); rintro e w3 ⟨v3, rfl, m3, g3⟩; obtain ⟨a3, c3⟩ := Hn3.out v3 m3; have G3 := Lib.hid g3; clear g3 m3))
    all_goals
      have hw : ∃ z : Int, IntKind.i64.wrap (IntKind.i64.wrap (v2 * 2 ^ v3.toNat) + v4) = z ∧ -9223372036854775808 ≤ z ∧ z < 9223372036854775808 := ⟨_, rfl, by rw [IntKind.wrap_i64]; omega, by rw [IntKind.wrap_i64]; omega⟩
      obtain ⟨z, hz, hz1, hz2⟩ := hw
      rw [hz]
      clear hz
      simp only [Exit.then]
      have Hfin : Src w4 g A n cap (K + 8) := G4.out.1.more (by omega)
      have Hgr := G4.out.2.2.1
      have HF := Lib.hid Hfin
      have HG := Lib.hid Hgr
      clear Hfin Hgr G G2 G3 G4 K2
      go_wp2_with fail
      go_ret
      exact ⟨z, rfl, hz1, hz2, HF.out, HG.out⟩
end Go.Proofs.Ytjfkfnmbppmbpaa
