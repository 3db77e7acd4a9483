/- The contracts of the drawing functions' choices. No statement is proved here. -/
import Derived.Test.YtjfkfnmbppmbpaaSrc
import Derived.Test.YtjfkfnmbppmbpaaBase
namespace Go.Proofs.Ytjfkfnmbppmbpaa
open Go.RowKit
set_option linter.unusedVariables false
/-- What a choice gives back: a number in a range, the source one or more steps on. -/
def Drawn (w : World) (g : Nat) (A : Option Addr) (n cap K : Nat) (lo hi : Int) (e : Ending) (w' : World) : Prop := ∃ v : Int, e = .returned (.int .i64 v) ∧ lo ≤ v ∧ v ≤ hi ∧ Src w' g A n cap K ∧ w.grownBy w' (some g)
theorem next_drawn (g : Nat) (A : Option Addr) (n cap K B : Nat) (hn : n ≤ 1048576) (hK : K ≤ 4611686018427387904) (hB : B ≤ g) (w : World) (hs : Src w g A n cap K) (hcode : CodeIs w B A n) :
    Calls Try.prog 62 #[.pointer (some ⟨g, 0, none⟩)] w (Drawn w g A n cap (K + 1) 0 255) :=
  next_any g A n cap K B hn hK hB w hs hcode
set_option maxHeartbeats 800000 in
/-- pick(m): a number from 0 to m - 1; 0 where m is 1 or less. -/
theorem pick_any (g : Nat) (A : Option Addr) (n cap K B : Nat) (hn : n ≤ 1048576) (hK : K ≤ 2305843009213693952) (hB : B ≤ g) (m : Int) (hm : -9223372036854775808 ≤ m ∧ m < 9223372036854775808) (w : World) (hs : Src w g A n cap K) (hcode : CodeIs w B A n) :
    Calls Try.prog 40 #[.pointer (some ⟨g, 0, none⟩), .int .i64 m] w (Drawn w g A n cap (K + 2) 0 (if m ≤ 1 then 0 else m - 1)) := by
  by_cases h1 : m ≤ 1
  · rw [if_pos h1]
    have Hs := Lib.hid hs; clear hs hcode
    go_enter Try.func40, Try.ntmps40
    go_wp2_with fail
    go_ret
    exact ⟨0, rfl, Int.le_refl _, Int.le_refl _, Hs.out.more (by omega), World.grownBy.refl _ _⟩
  · rw [if_neg h1]
    have Hn := Lib.hid (fun (w1 : World) K1 hK1 hs1 hc1 => next_any g A n cap K1 B hn hK1 hB w1 hs1 hc1)
    have Hs := Lib.hid hs; have Hcode := Lib.hid hcode; clear hs hcode
    by_cases h2 : 200 < m
    · go_enter Try.func40, Try.ntmps40
      go_wp2_with fail
      refine (Hn.out _ K (by omega) Hs.out Hcode.out).mono ?_
      rintro e w1 ⟨v1, rfl, a1, b1, s1, g1⟩
      have S1 := Lib.hid s1; have G1 := Lib.hid g1; clear s1 g1
      go_wp2_with fail
      refine (Hn.out _ (K + 1) (by omega) S1.out (Hcode.out.grown G1.out hB)).mono ?_
      rintro e w2 ⟨v2, rfl, a2, b2, s2, g2⟩
      have S2 := Lib.hid s2; have G2 := Lib.hid g2; clear s2 g2
      have hne : (m == 0) = false := beq_eq_false_iff_ne.2 (by omega)
      go_wp2_with fail
      go_ret
      refine ⟨_, rfl, ?_, ?_, S2.out, grownBy_trans G1.out G2.out⟩
      · exact Int.emod_nonneg _ (by omega)
      · have := Int.emod_lt_of_pos (v1 * 256 + v2) (show 0 < m by omega); omega
    · go_enter Try.func40, Try.ntmps40
      go_wp2_with fail
      refine (Hn.out _ K (by omega) Hs.out Hcode.out).mono ?_
      rintro e w1 ⟨v1, rfl, a1, b1, s1, g1⟩
      have S1 := Lib.hid s1; have G1 := Lib.hid g1; clear s1 g1
      have hne : (m == 0) = false := beq_eq_false_iff_ne.2 (by omega)
      go_wp2_with fail
      go_ret
      refine ⟨_, rfl, ?_, ?_, S1.out.more (by omega), G1.out⟩
      · exact Int.emod_nonneg _ (by omega)
      · have := Int.emod_lt_of_pos v1 (show 0 < m by omega); omega
theorem one_any (g : Nat) (A : Option Addr) (n cap K B : Nat) (hn : n ≤ 1048576) (hK : K ≤ 2305843009213693952) (hB : B ≤ g) (m : Int) (hm : -9223372036854775808 ≤ m ∧ m < 9223372036854775808) (w : World) (hs : Src w g A n cap K) (hcode : CodeIs w B A n) :
    Calls Try.prog 51 #[.pointer (some ⟨g, 0, none⟩), .int .i64 m] w fun e w' => ∃ b : Bool, e = .returned (.bool b) ∧ Src w' g A n cap (K + 2) ∧ w.grownBy w' (some g) := by
  have hp := fun w1 hs1 hc1 => pick_any g A n cap K B hn hK hB m hm w1 hs1 hc1
  have Hp := Lib.hid hp; have Hs := Lib.hid hs; have Hcode := Lib.hid hcode; clear hp hs hcode
  go_enter Try.func51, Try.ntmps51
  go_wp2_with fail
  refine (Hp.out _ Hs.out Hcode.out).mono ?_
  rintro e w1 ⟨v1, rfl, a1, b1, s1, g1⟩
  have S1 := Lib.hid s1; have G1 := Lib.hid g1; clear s1 g1
  go_wp2_with fail
  go_ret
  exact ⟨_, rfl, S1.out, G1.out⟩
theorem grownBy_below {w w1 w2 : World} {g B : Nat} (h : w.grownBy w1 (some g)) (hb : Below B w1 w2) (hB : w.heap.size ≤ B) : w.grownBy w2 (some g) :=
  ⟨hb.os.trans h.os, hb.tape.trans h.tape, hb.output.trans h.output, Nat.le_trans h.size hb.size, fun j hj hne => (hb.block j (by omega)).trans (h.block j hj hne)⟩
theorem Src.below {w w' : World} {g : Nat} {A : Option Addr} {n cap K B : Nat} (h : Src w g A n cap K) (hb : Below B w w') (hg : g < B) : Src w' g A n cap K := by
  obtain ⟨a, s, hk, rest⟩ := h
  exact ⟨a, s, (hb.block g hg).trans hk, rest⟩
theorem CodeIs.below {w w' : World} {B B' : Nat} {A : Option Addr} {n : Nat} (h : CodeIs w B A n) (hb : Below B' w w') (hB : B ≤ B') : CodeIs w' B A n := fun i hi => by
  obtain ⟨b, o, v, e, hbl, h0, h1, hc⟩ := h i hi
  exact ⟨b, o, v, e, hbl, h0, h1, (hb.cell (p := ⟨b, o + i, none⟩) (show b < B' by omega)).trans hc⟩
set_option maxHeartbeats 800000 in
/-- among(list): one of the numbers. -/
theorem among_any (g : Nat) (A : Option Addr) (n cap K B : Nat) (hn : n ≤ 1048576) (hK : K ≤ 2305843009213693952) (hB : B ≤ g) (b m c : Nat) (zs : List Int) (hm1 : 1 ≤ m) (hm : m ≤ 1048576) (hz : zs.length = m) (hbg : b ≠ g) (w : World) (hs : Src w g A n cap K) (hcode : CodeIs w B A n)
    (hcell : ∀ i, i < m → w.cell? ⟨b, i, none⟩ = some (.int .i64 (zs.getD i 0))) :
    Calls Try.prog 61 #[.pointer (some ⟨g, 0, none⟩), .slice (some ⟨b, 0, none⟩) m c] w fun e w' => ∃ v : Int, e = .returned (.int .i64 v) ∧ v ∈ zs ∧ Src w' g A n cap (K + 2) ∧ w.grownBy w' (some g) := by
  have hp := fun w1 hs1 hc1 => pick_any g A n cap K B hn hK hB m ⟨by omega, by omega⟩ w1 hs1 hc1
  have Hp := Lib.hid hp; have Hs := Lib.hid hs; have Hcode := Lib.hid hcode; have Hcell := Lib.hid hcell; have Hz := Lib.hid hz; clear hp hs hcode hcell hz
  go_enter Try.func61, Try.ntmps61
  go_wp2_with fail
  refine (Hp.out _ Hs.out Hcode.out).mono ?_
  rintro e w1 ⟨v1, rfl, a1, b1, s1, g1⟩
  obtain ⟨j, rfl⟩ := Int.eq_ofNat_of_zero_le a1
  have hj : j < m := by split at b1 <;> omega
  have hc1 : w1.cell? ⟨b, j, none⟩ = some (.int .i64 (zs.getD j 0)) := g1.cell (Hcell.out j hj) (by simp; exact hbg)
  have hmem : zs.getD j 0 ∈ zs := by
    have h1 : j < zs.length := by rw [Hz.out]; exact hj
    rw [List.getD, List.getElem?_eq_getElem h1]
    exact List.getElem_mem h1
  have hj' : (j : Int) < (m : Int) := by omega
  have S1 := Lib.hid s1; have G1 := Lib.hid g1; have Hmem := Lib.hid hmem; clear s1 g1 b1 hmem
  generalize zs.getD j 0 = v at *
  go_wp2_with fail
  go_ret
  exact ⟨_, rfl, Hmem.out, S1.out, G1.out⟩
set_option maxHeartbeats 800000 in
/-- text(list): one of the texts. -/
theorem text_any (g : Nat) (A : Option Addr) (n cap K B : Nat) (hn : n ≤ 1048576) (hK : K ≤ 2305843009213693952) (hB : B ≤ g) (b m c : Nat) (zs : List ByteArray) (hm1 : 1 ≤ m) (hm : m ≤ 1048576) (hz : zs.length = m) (hbg : b ≠ g) (w : World) (hs : Src w g A n cap K) (hcode : CodeIs w B A n)
    (hcell : ∀ i, i < m → w.cell? ⟨b, i, none⟩ = some (.string (zs.getD i ⟨#[]⟩))) :
    Calls Try.prog 52 #[.pointer (some ⟨g, 0, none⟩), .slice (some ⟨b, 0, none⟩) m c] w fun e w' => ∃ v : ByteArray, e = .returned (.string v) ∧ v ∈ zs ∧ Src w' g A n cap (K + 2) ∧ w.grownBy w' (some g) := by
  have hp := fun w1 hs1 hc1 => pick_any g A n cap K B hn hK hB m ⟨by omega, by omega⟩ w1 hs1 hc1
  have Hp := Lib.hid hp; have Hs := Lib.hid hs; have Hcode := Lib.hid hcode; have Hcell := Lib.hid hcell; have Hz := Lib.hid hz; clear hp hs hcode hcell hz
  go_enter Try.func52, Try.ntmps52
  go_wp2_with fail
  refine (Hp.out _ Hs.out Hcode.out).mono ?_
  rintro e w1 ⟨v1, rfl, a1, b1, s1, g1⟩
  obtain ⟨j, rfl⟩ := Int.eq_ofNat_of_zero_le a1
  have hj : j < m := by split at b1 <;> omega
  have hc1 : w1.cell? ⟨b, j, none⟩ = some (.string (zs.getD j ⟨#[]⟩)) := g1.cell (Hcell.out j hj) (by simp; exact hbg)
  have hmem : zs.getD j ⟨#[]⟩ ∈ zs := by
    have h1 : j < zs.length := by rw [Hz.out]; exact hj
    rw [List.getD, List.getElem?_eq_getElem h1]
    exact List.getElem_mem h1
  have hj' : (j : Int) < (m : Int) := by omega
  have S1 := Lib.hid s1; have G1 := Lib.hid g1; have Hmem := Lib.hid hmem; clear s1 g1 b1 hmem
  generalize zs.getD j ⟨#[]⟩ = v at *
  go_wp2_with fail
  go_ret
  exact ⟨_, rfl, Hmem.out, S1.out, G1.out⟩
theorem OwnB.kept {w w' : World} {B g : Nat} {v : Value} {l : List UInt8} (h : OwnB w B v l) (hg : w.grownBy w' (some g)) (hB : g < B) : OwnB w' B v l :=
  World.ownsRow.kept h hg (by
    cases e : v.ownBlock with
    | none => exact .inl rfl
    | some k => exact .inr (by have := (World.ownsRow.lt h k e).1; intro e2; injection e2; omega))
theorem from_any (A : Option Addr) (n cap : Nat) (w : World) : Calls Try.prog 38 #[.slice A n cap] w fun e w' => ∃ g, e = .returned (.pointer (some ⟨g, 0, none⟩)) ∧ w.heap.size ≤ g ∧ Src w' g A n cap 0 ∧ Below w.heap.size w w' := by
  go_enter Try.func38, Try.ntmps38
  go_wp2_with fail
  go_ret
  exact ⟨_, rfl, Nat.le_refl _, ⟨0, 0, heap_alloc_new w _, by omega, by omega, by omega, by omega⟩, (Below.refl _ w).alloc (Nat.le_refl _) _⟩
theorem byte_of (v : Int) (h0 : 0 ≤ v) (h1 : v ≤ 255) : Value.int .u8 v = bv (UInt8.ofNat v.toNat) := by
  unfold bv
  rw [UInt8.toNat_ofNat']
  congr 1
  omega
set_option maxHeartbeats 1600000 in
/-- word(m): a text of fewer than m bytes. -/
theorem word_any (g : Nat) (A : Option Addr) (n cap K B : Nat) (hn : n ≤ 1048576) (hK : K ≤ 1152921504606846976) (hB : B ≤ g) (m : Nat) (hm1 : 1 ≤ m) (hm : m ≤ 65536) (w : World) (hs : Src w g A n cap K) (hcode : CodeIs w B A n) :
    Calls Try.prog 48 #[.pointer (some ⟨g, 0, none⟩), .int .i64 m] w fun e w' => ∃ l : List UInt8, e = .returned (.string ⟨l.toArray⟩) ∧ l.length < m ∧ Src w' g A n cap (K + 2 + m) ∧ w.grownBy w' (some g) := by
  have hp := fun w1 hs1 hc1 => pick_any g A n cap K B hn (by omega) hB m ⟨by omega, by omega⟩ w1 hs1 hc1
  have hnx := fun w1 K1 hK1 hs1 hc1 => next_any g A n cap K1 B hn hK1 hB w1 hs1 hc1
  have hgw := hs.lt
  have Hp := Lib.hid hp; have Hn := Lib.hid hnx; have Hs := Lib.hid hs; have Hcode := Lib.hid hcode; clear hp hnx hs hcode
  go_enter Try.func48, Try.ntmps48
  go_wp2_with fail
  refine (Hp.out _ (Hs.out.below ((Below.refl _ w).alloc (Nat.le_refl _) _) hgw) (Hcode.out.below ((Below.refl _ w).alloc (Nat.le_refl _) _) (by omega))).mono ?_
  rintro e w1 ⟨k0, rfl, a0, b0, s1, g1⟩
  have hk0 : k0 < m := by split at b0 <;> omega
  have hg1 : w.grownBy w1 (some g) := grownBy_trans (World.grownBy_alloc w _ _) g1
  have hown1 : OwnB w1 w.heap.size (.slice (some ⟨w.heap.size, 0, none⟩) 0 0) [] := OwnB.kept (World.ownsRow_lit w #[] 0 (Nat.le_refl _) (by decide) rfl) g1 hgw
  have S1 := Lib.hid s1; have G1 := Lib.hid hg1; have O1 := Lib.hid hown1; clear s1 g1 hg1 hown1 b0
  go_wp2_with fail
  go_loopw [5, 6] (fun v k wr => ∃ (j : Int) (l : List UInt8), k = .int .i64 j ∧ 0 ≤ j ∧ (l.length : Int) + j ≤ k0 ∧ OwnB wr w.heap.size v l ∧ Src wr g A n cap (K + 2 + l.length) ∧ w.grownBy wr (some g)) (fun _ k _ => (intOf k).toNat)
  case atStart => exact ⟨k0, [], rfl, a0, by simp, O1.out, S1.out.more (by simp), G1.out⟩
  case round =>
    obtain ⟨j, l, rfl, hj0, hlj, hown, hsr, hgr⟩ := hrel
    have hsz := hgr.size
    by_cases hlt : 0 < j
    · have Hown := Lib.hid hown; have Hsr := Lib.hid hsr; have Hgr := Lib.hid hgr; clear hown hsr hgr
      go_wp2_with fail
      refine (Hn.out _ (K + 2 + l.length) (by omega) Hsr.out (Hcode.out.grown Hgr.out hB)).mono ?_
      rintro e w2 ⟨v, rfl, v0, v1, s2, g2⟩
      have hsz2 := g2.size
      have hown2 := OwnB.kept Hown.out g2 hgw
      have hb2 := byte_of v v0 v1
      have hlen : l.length + 1 ≤ 70368744177664 := by omega
      have S2 := Lib.hid s2; have G2 := Lib.hid (grownBy_trans Hgr.out g2); have O2 := Lib.hid hown2; have Hb2 := Lib.hid hb2; have Hlen := Lib.hid hlen; clear s2 g2 hown2 hb2 hlen
      go_wp2_with (at_builtin; refine wpList_app w2 _ 1 rfl (.tmp 15) (.tmp 19) rfl w.heap.size _ _ O2.out rfl [UInt8.ofNat v.toNat] ?c1 rfl rfl Hlen.out (by omega) ?_)
      case c1 => rw [Hb2.out]; rfl
      intro v' w3 hown3 hbel3
      have hs3 := (S2.out.below hbel3 hgw).more (K' := K + 2 + (l ++ [UInt8.ofNat v.toNat]).length) (by rw [List.length_append, List.length_singleton]; omega)
      have hg3 := grownBy_below G2.out hbel3 (Nat.le_refl _)
      have S3 := Lib.hid hs3; have G3 := Lib.hid hg3; clear hs3 hg3 hbel3
      go_wp2
      go_roundw
      case rel => exact ⟨j - 1, l ++ [UInt8.ofNat v.toNat], by go_num, by omega, by rw [List.length_append, List.length_singleton]; omega, hown3, S3.out, G3.out⟩
      case measure => simp [intOf]; omega
    · have hc := conv_own hown
      have Hsr := Lib.hid (hsr.more (K' := K + 2 + m) (by omega)); have Hgr := Lib.hid hgr; clear hown hsr hgr
      go_wp2_with fail
      go_ret
      exact ⟨l, rfl, by omega, Hsr.out, Hgr.out⟩
end Go.Proofs.Ytjfkfnmbppmbpaa
