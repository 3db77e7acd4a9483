/- The contracts of the drawing functions of hexadecimal texts. No statement is proved here. -/
import Derived.Test.YtjfkfnmbppmbpaaPick
import Derived.Test.YtjfkfnmbppmbpaaHexPlain
namespace Go.Proofs.Ytjfkfnmbppmbpaa
open Go.RowKit
set_option linter.unusedVariables false
/-- What the frame tells the walk of a slice of bytes that came in. -/
def IsCode (w : World) (a : Option Addr) (len cap : Nat) : Prop := CodeIs w w.heap.size a len
theorem IsCode.none_ (w : World) : IsCode w none 0 0 := fun i hi => absurd hi (by omega)
theorem IsCode.some_ {w : World} {x : Addr} {len cap : Nat} {zs : List Int} (hl : len ≤ cap) (hm : cap ≤ maxLen) (hz : zs.length = cap) (hcell : ∀ i, i < zs.length → w.cell? (x.add i) = some (.int .u8 (zs.getD i 0))) (hw : ∀ n ∈ zs, (Lit.int .u8 n).wf = true) : IsCode w (some x) len cap := by
  intro i hi
  have h1 := hcell i (by omega)
  obtain ⟨b, o, spot⟩ := x
  have hspot : spot = none := by simpa [Addr.add] using World.cell?_spot (hcell 0 (by omega))
  subst hspot
  have hadd : (⟨b, o, none⟩ : Addr).add i = ⟨b, o + i, none⟩ := by
    unfold Addr.add; by_cases h : i = 0 <;> simp [h]
  rw [hadd] at h1
  have hmem : zs.getD i 0 ∈ zs := by
    rw [List.getD, List.getElem?_eq_getElem (by omega)]; exact List.getElem_mem _
  have hwf := hw _ hmem
  simp [Lit.wf, IntKind.min, IntKind.max, IntKind.signed, IntKind.bits] at hwf
  exact ⟨b, o, zs.getD i 0, rfl, World.block_lt_of_cell? w _ h1, by simp; omega, by simp; omega, h1⟩
theorem below_grown {w w1 w2 : World} {g : Nat} (h : Below w.heap.size w w1) (hg : w1.grownBy w2 (some g)) (hgB : w.heap.size ≤ g) : Below w.heap.size w w2 :=
  h.grown hg h.size (fun k hk => by injection hk; omega)
theorem long_no (A : Option Addr) (n cap : Nat) (hn : n ≤ 1048576) (w : World) : Calls Try.prog 14 #[.slice A n cap] w fun e w' => e = .returned (.bool false) ∧ w = w' := by
  have hd : decide ((1048576 : Int) < (n : Int)) = false := by simp; omega
  go_enter Try.func14, Try.ntmps14
  go_wp2
  go_ret
  exact ⟨rfl, rfl⟩
theorem long_yes (A : Option Addr) (n cap : Nat) (hn : ¬ n ≤ 1048576) (w : World) : Calls Try.prog 14 #[.slice A n cap] w fun e w' => e = .returned (.bool true) ∧ w = w' := by
  have hd : decide ((1048576 : Int) < (n : Int)) = true := by simp; omega
  go_enter Try.func14, Try.ntmps14
  go_wp2
  go_ret
  exact ⟨rfl, rfl⟩
theorem drawHexText_any (A : Option Addr) (n cap : Nat) (hn : n ≤ 1048576) (w : World) (hcode : CodeIs w w.heap.size A n) :
    Calls Try.prog 24 #[.slice A n cap] w fun e w' => ∃ l : List UInt8, e = .returned (.string ⟨l.toArray⟩) ∧ l.length < 20 ∧ Below w.heap.size w w' := by
  have Hcode := Lib.hid hcode; clear hcode
  go_enter Try.func24, Try.ntmps24
  go_wp2_with fail
  refine (from_any A n cap w).mono ?_
  rintro e w1 ⟨g, rfl, hg, s1, b1⟩
  have S1 := Lib.hid s1; have B1 := Lib.hid b1; clear s1 b1
  go_wp2_with fail
  refine (word_any g A n cap 0 w.heap.size hn (by omega) hg 20 (by omega) (by omega) _ S1.out (Hcode.out.below B1.out (Nat.le_refl _))).mono ?_
  rintro e w2 ⟨l, rfl, hl, s2, g2⟩
  have B2 := Lib.hid (below_grown B1.out g2 hg); clear s2 g2
  go_wp2_with fail
  go_ret
  exact ⟨l, rfl, hl, B2.out⟩
def bends : List ByteArray := [⟨#[97]⟩, ⟨#[48, 103]⟩, ⟨#[65, 48]⟩, ⟨#[32]⟩, ⟨#[102, 102]⟩, ⟨#[]⟩]
theorem bends_at (w : World) (i : Nat) (hi : i < 6) : (w.alloc (.cells #[.string ⟨#[97]⟩, .string ⟨#[48, 103]⟩, .string ⟨#[65, 48]⟩, .string ⟨#[32]⟩, .string ⟨#[102, 102]⟩, .string ⟨#[]⟩] 9)).cell? ⟨w.heap.size, i, none⟩ = some (.string (bends.getD i ⟨#[]⟩)) := by
  rw [World.cell?_alloc_mark]
  have hc : i = 0 ∨ i = 1 ∨ i = 2 ∨ i = 3 ∨ i = 4 ∨ i = 5 := by omega
  rcases hc with rfl | rfl | rfl | rfl | rfl | rfl <;> rfl
theorem bends_size (v : ByteArray) (h : v ∈ bends) : v.size ≤ 2 := by
  unfold bends at h
  simp only [List.mem_cons, List.not_mem_nil, or_false] at h
  rcases h with rfl | rfl | rfl | rfl | rfl | rfl <;> decide
set_option maxHeartbeats 800000 in
theorem drawReadHex_any (A : Option Addr) (n cap : Nat) (hn : n ≤ 1048576) (w : World) (hcode : CodeIs w w.heap.size A n) :
    Calls Try.prog 27 #[.slice A n cap] w fun e w' => ∃ t : ByteArray, e = .returned (.string t) ∧ t.size ≤ 1048576 ∧ Below w.heap.size w w' := by
  have Hcode := Lib.hid hcode; clear hcode
  go_enter Try.func27, Try.ntmps27
  go_wp2_with fail
  refine (from_any A n cap w).mono ?_
  rintro e w1 ⟨g, rfl, hg, s1, b1⟩
  have S1 := Lib.hid s1; have B1 := Lib.hid b1; clear s1 b1
  go_wp2_with fail
  refine (word_any g A n cap 0 w.heap.size hn (by omega) hg 8 (by omega) (by omega) _ S1.out (Hcode.out.below B1.out (Nat.le_refl _))).mono ?_
  rintro e w2 ⟨l, rfl, hl, s2, g2⟩
  have hgl := s2.lt
  have B2 := Lib.hid (below_grown B1.out g2 hg); have S2 := Lib.hid s2; clear s2 g2
  have hsz : (⟨l.toArray⟩ : ByteArray).size = l.length := by simp [ByteArray.size]
  have Hsz := Lib.hid hsz; clear hsz
  go_wp2_with fail
  refine (l01Hex_any ⟨l.toArray⟩ (by rw [Hsz.out]; omega) _).mono ?_
  rintro e w3 ⟨rfl, b3⟩
  have hxs : (hexS ⟨l.toArray⟩).size ≤ 1048000 := by rw [hexS_size, Hsz.out]; omega
  have hxe : (⟨(hexL (⟨l.toArray⟩ : ByteArray).data.toList).toArray⟩ : ByteArray) = hexS ⟨l.toArray⟩ := rfl
  rw [hxe]
  generalize hexS ⟨l.toArray⟩ = t at *
  have S3 := Lib.hid (S2.out.below b3 hgl); have B3 := Lib.hid (B2.out.trans (b3.mono B2.out.size)); clear b3 hxe
  go_wp2_with fail
  refine (one_any g A n cap _ w.heap.size hn (by omega) hg 2 ⟨by omega, by omega⟩ _ S3.out (Hcode.out.below B3.out (Nat.le_refl _))).mono ?_
  rintro e w4 ⟨b, rfl, s4, g4⟩
  have hgl4 := s4.lt
  have S4 := Lib.hid s4; have B4 := Lib.hid (below_grown B3.out g4 hg); clear s4 g4
  cases b
  · go_wp2_with fail
    have hcell := bends_at w4
    refine (text_any g A n cap _ w.heap.size hn (by omega) hg w4.heap.size 6 6 bends (by omega) (by omega) rfl (by omega) _ (S4.out.below ((Below.refl _ w4).alloc (Nat.le_refl _) _) hgl4) ((Hcode.out.below B4.out (Nat.le_refl _)).below ((Below.refl _ w4).alloc (Nat.le_refl _) _) B4.out.size) (by exact hcell)).mono ?_
    rintro e w5 ⟨v, rfl, hv, s5, g5⟩
    have B5 := Lib.hid (below_grown (B4.out.trans (((Below.refl _ w4).alloc (Nat.le_refl _) _).mono B4.out.size)) g5 hg)
    have hvs := bends_size v hv
    have hadd := fun w6 => run_string_add_sum (P := Try.prog) w6 t v (by omega)
    clear hcell s5 g5 hv
    go_wp2_with fail
    go_ret
    exact ⟨_, rfl, by rw [ByteArray.size_append]; omega, B5.out⟩
  · go_wp2_with fail
    go_ret
    exact ⟨_, rfl, by omega, B4.out⟩
end Go.Proofs.Ytjfkfnmbppmbpaa
