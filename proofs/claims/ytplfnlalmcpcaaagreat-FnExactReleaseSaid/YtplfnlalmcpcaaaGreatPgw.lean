/- Several texts in one: Cln, Pg3, OwC, AnP, OwP, TmP, TmI, TmT, Set, TmC. No statement is proved here. -/
import Derived.Test.YtplfnlalmcpcaaaGreatDkO
import Derived.Test.YtplfnlalmcpcaaaGreatMgS
import Derived.Test.YtplfnlalmcpcaaaGreatPg2
import Derived.Maps.OwnSet
import Derived.Maps.Range
import Derived.Lib.SlKeysI
import Derived.Test.YtplfnlalmcpcaaaGreatSrt
import Derived.Lib.BufferOwn
import Derived.MapKept
import Derived.Test.YtplfnlalmcpcaaaGreatGtZ
import Derived.Test.YtplfnlalmcpcaaaGreatPgM
namespace Go.Proofs.YtplfnlalmcpcaaaGreat
open Go.RowKit
set_option linter.unusedVariables false
theorem og_none (w : World) (lo : Nat) : OG w lo (.slice none 0 0) [] := ⟨by simp [flatP], .inl ⟨rfl, rfl⟩⟩
/-- A copy in new memory. -/
def ClT (xs : List ByteArray) (w : World) (e : Ending) (w' : World) : Prop := ∃ A c, e = .returned (.slice A xs.length c) ∧ OT w' w.heap.size (.slice A xs.length c) xs ∧ Below w.heap.size w w'
theorem slEqT_none (w : World) (n c : Nat) : Sem.run Tryz.prog (binOp BinOp.eql 22 (Value.slice none n c) (Value.slice none 0 0)) w = .ok (.bool true) w := by kernel_rfl
theorem slEqT_some (w : World) (ad : Addr) (n c : Nat) : Sem.run Tryz.prog (binOp BinOp.eql 22 (Value.slice (some ad) n c) (Value.slice none 0 0)) w = .ok (.bool false) w := by kernel_rfl
/-- Its cells, in a world that is the same below. -/
theorem clCellsT {B : Nat} {w w2 : World} {ad : Addr} {xs : List ByteArray} {c : Nat} (h : RiT B w (.slice (some ad) xs.length c) xs) (hw : Below B w w2) : ∀ (j : Nat) (u : Value), (xs.map Value.string)[j]? = some u → w2.cell? (ad.add j) = some u := by
  obtain ⟨A1, cap, hv, hl, hm, hx⟩ := h
  obtain rfl : some ad = A1 := (Value.slice.inj hv).1
  intro j u hu
  rw [List.getElem?_map] at hu
  obtain ⟨x, hxj, rfl⟩ := Option.map_eq_some_iff.1 hu
  obtain ⟨hj, rfl⟩ := List.getElem?_eq_some_iff.1 hxj
  obtain ⟨b, o', hA, hb, hc, _⟩ := hx j hj
  cases hA
  rw [add_at]
  exact (hw.cell (p := ⟨b, o' + j, none⟩) hb).trans hc
theorem noneT {B : Nat} {w : World} {xs : List ByteArray} {n c : Nat} (h : RiT B w (.slice none n c) xs) : xs = [] := by
  obtain ⟨A1, cap, hv, hl, hm, hx⟩ := h
  obtain rfl : none = A1 := (Value.slice.inj hv).1
  rcases xs with _ | ⟨x, l⟩
  · rfl
  · obtain ⟨b, o, hA, _⟩ := hx 0 (by simp); cases hA
theorem oneT (xs : List ByteArray) : ∀ u ∈ (xs.map Value.string), u.oneCell' = true := fun u hu => by obtain ⟨x, _, rfl⟩ := List.mem_map.1 hu; rfl
set_option maxHeartbeats 400000 in
theorem clT_any {B : Nat} {w : World} {v : Value} {xs : List ByteArray} (h : RiT B w v xs) (hB : B ≤ w.heap.size) (hs : xs.length ≤ 1048576) :
    Calls Tryz.prog 142 #[v] w (ClT xs w) := by
  have H0 := h
  obtain ⟨A1, cap, rfl, -, -, -⟩ := h
  obtain ⟨i0, hi, hz0, hz1, hz2⟩ := info_parts infoTz
  have Hown : Hid ((w.alloc (.cells #[] 9)).ownsRow w.heap.size 9 1 (.slice (some ⟨w.heap.size, 0, none⟩) 0 0) 0 []) := Lib.hid (World.ownsRow_made w #[] 0 (Nat.le_refl _) (by decide) (by simp))
  cases A1 with
  | none =>
    obtain rfl := noneT H0
    have hq := slEqT_none
    go_enter Tryz.func142, Tryz.ntmps142
    go_wp2
    go_ret
    exact ⟨none, 0, rfl, ot_none _ _, Below.refl _ w⟩
  | some ad =>
    have Hc : Hid (∀ j u, (xs.map Value.string)[j]? = some u → (w.alloc (.cells #[] 9)).cell? (ad.add j) = some u) := Lib.hid (clCellsT H0 ((Below.refl _ w).alloc hB _))
    have H1c := Lib.hid (oneT xs)
    clear H0
    have hq := fun w n c => slEqT_some w ad n c
    go_enter Tryz.func142, Tryz.ntmps142
    go_wp2_with (refine wpList_append_own _ rfl (.tmp 5) (.tmp 6) 22 rfl w.heap.size 9 i0 (.string ⟨#[]⟩) 1 16 Tryz.underlying22 hi hz0 hz1 hz2 rfl (by decide) (.slice (some ⟨w.heap.size, 0, none⟩) 0 0) 0 [] rfl Hown.out ad xs.length cap (xs.map Value.string) rfl (by simp) Hc.out H1c.out (by unfold maxLen; omega) (by omega) (by simp) ?_; intro v2 w2 hown2 hg2 hnil2)
    have ho : OT w2 w.heap.size v2 xs := by unfold OT; simpa using hown2
    obtain ⟨A, c, rfl⟩ := OT.ex ho
    have Ho := Lib.hid ho; clear ho hown2
    go_ret
    refine ⟨A, c, rfl, Ho.out, ?_⟩
    exact ((Below.refl _ w).alloc (Nat.le_refl _) _).grown hg2 (by simp) (fun k hk => by simp [Value.ownBlock] at hk; omega)
/-- A copy in new memory. -/
def ClU (xs : List Pt) (w : World) (e : Ending) (w' : World) : Prop := ∃ A c, e = .returned (.slice A xs.length c) ∧ OU w' w.heap.size (.slice A xs.length c) xs ∧ Below w.heap.size w w'
theorem slEqU_none (w : World) (n c : Nat) : Sem.run Tryz.prog (binOp BinOp.eql 32 (Value.slice none n c) (Value.slice none 0 0)) w = .ok (.bool true) w := by kernel_rfl
theorem slEqU_some (w : World) (ad : Addr) (n c : Nat) : Sem.run Tryz.prog (binOp BinOp.eql 32 (Value.slice (some ad) n c) (Value.slice none 0 0)) w = .ok (.bool false) w := by kernel_rfl
/-- Its cells, in a world that is the same below. -/
theorem clCellsU {B : Nat} {w w2 : World} {ad : Addr} {xs : List Pt} {c : Nat} (h : RiU B w (.slice (some ad) xs.length c) xs) (hw : Below B w w2) : ∀ (j : Nat) (u : Value), (flatP xs)[j]? = some u → w2.cell? (ad.add j) = some u := by
  obtain ⟨A1, cap, hv, hl, hm, hx⟩ := h
  obtain rfl : some ad = A1 := (Value.slice.inj hv).1
  intro j u hu
  have hj : j < xs.length * 2 := by
    rcases Nat.lt_or_ge j (xs.length * 2) with hl | hl
    · exact hl
    · rw [List.getElem?_eq_none (by rw [flatP_len]; exact hl)] at hu; cases hu
  obtain ⟨b, o', hA, hb, hc1, hc2, _⟩ := hx (j / 2) (by omega)
  obtain ⟨f1, f2⟩ := flatP_at xs (j / 2) (by omega)
  cases hA
  rw [add_at]
  refine (hw.cell (p := ⟨b, o' + j, none⟩) hb).trans ?_
  rcases Nat.mod_two_eq_zero_or_one j with hm | hm
  · have e : j / 2 * 2 = j := by omega
    rw [e] at f1 hc1
    rw [f1] at hu
    rw [← Option.some.inj hu]; exact hc1
  · have e : j / 2 * 2 + 1 = j := by omega
    have e' : o' + j / 2 * 2 + 1 = o' + j := by omega
    rw [e] at f2
    rw [e'] at hc2
    rw [f2] at hu
    rw [← Option.some.inj hu]; exact hc2
theorem noneU {B : Nat} {w : World} {xs : List Pt} {n c : Nat} (h : RiU B w (.slice none n c) xs) : xs = [] := by
  obtain ⟨A1, cap, hv, hl, hm, hx⟩ := h
  obtain rfl : none = A1 := (Value.slice.inj hv).1
  rcases xs with _ | ⟨x, l⟩
  · rfl
  · obtain ⟨b, o, hA, _⟩ := hx 0 (by simp); cases hA
theorem oneU (xs : List Pt) : ∀ u ∈ (flatP xs), u.oneCell' = true := fun u hu => flatP_one xs u hu
set_option maxHeartbeats 400000 in
theorem clU_any {B : Nat} {w : World} {v : Value} {xs : List Pt} (h : RiU B w v xs) (hB : B ≤ w.heap.size) (hs : xs.length ≤ 1048576) :
    Calls Tryz.prog 143 #[v] w (ClU xs w) := by
  have H0 := h
  obtain ⟨A1, cap, rfl, -, -, -⟩ := h
  obtain ⟨i0, hi, hz0, hz1, hz2⟩ := info_parts infoUz
  have Hown : Hid ((w.alloc (.cells #[] 178)).ownsRow w.heap.size 178 2 (.slice (some ⟨w.heap.size, 0, none⟩) 0 0) 0 []) := Lib.hid (World.ownsRow_made w #[] 0 (Nat.le_refl _) (by decide) (by simp))
  cases A1 with
  | none =>
    obtain rfl := noneU H0
    have hq := slEqU_none
    go_enter Tryz.func143, Tryz.ntmps143
    go_wp2
    go_ret
    exact ⟨none, 0, rfl, ou_none _ _, Below.refl _ w⟩
  | some ad =>
    have Hc : Hid (∀ j u, (flatP xs)[j]? = some u → (w.alloc (.cells #[] 178)).cell? (ad.add j) = some u) := Lib.hid (clCellsU H0 ((Below.refl _ w).alloc hB _))
    have H1c := Lib.hid (oneU xs)
    clear H0
    have hq := fun w n c => slEqU_some w ad n c
    go_enter Tryz.func143, Tryz.ntmps143
    go_wp2_with (refine wpList_append_own _ rfl (.tmp 5) (.tmp 6) 32 rfl w.heap.size 178 i0 (.agg #[.int .i64 0, .string ⟨#[]⟩]) 2 24 Tryz.underlying32 hi hz0 hz1 hz2 rfl (by decide) (.slice (some ⟨w.heap.size, 0, none⟩) 0 0) 0 [] rfl Hown.out ad xs.length cap (flatP xs) rfl (flatP_len _) Hc.out H1c.out (by unfold maxLen; omega) (by omega) (by simp) ?_; intro v2 w2 hown2 hg2 hnil2)
    have ho : OU w2 w.heap.size v2 xs := by unfold OU; simpa using hown2
    obtain ⟨A, c, rfl⟩ := OU.ex ho
    have Ho := Lib.hid ho; clear ho hown2
    go_ret
    refine ⟨A, c, rfl, Ho.out, ?_⟩
    exact ((Below.refl _ w).alloc (Nat.le_refl _) _).grown hg2 (by simp) (fun k hk => by simp [Value.ownBlock] at hk; omega)
/-- A copy in new memory. -/
def ClG (xs : List Pt) (w : World) (e : Ending) (w' : World) : Prop := ∃ A c, e = .returned (.slice A xs.length c) ∧ OG w' w.heap.size (.slice A xs.length c) xs ∧ Below w.heap.size w w'
theorem slEqG_none (w : World) (n c : Nat) : Sem.run Tryz.prog (binOp BinOp.eql 36 (Value.slice none n c) (Value.slice none 0 0)) w = .ok (.bool true) w := by kernel_rfl
theorem slEqG_some (w : World) (ad : Addr) (n c : Nat) : Sem.run Tryz.prog (binOp BinOp.eql 36 (Value.slice (some ad) n c) (Value.slice none 0 0)) w = .ok (.bool false) w := by kernel_rfl
/-- Its cells, in a world that is the same below. -/
theorem clCellsG {B : Nat} {w w2 : World} {ad : Addr} {xs : List Pt} {c : Nat} (h : RiU B w (.slice (some ad) xs.length c) xs) (hw : Below B w w2) : ∀ (j : Nat) (u : Value), (flatP xs)[j]? = some u → w2.cell? (ad.add j) = some u := by
  obtain ⟨A1, cap, hv, hl, hm, hx⟩ := h
  obtain rfl : some ad = A1 := (Value.slice.inj hv).1
  intro j u hu
  have hj : j < xs.length * 2 := by
    rcases Nat.lt_or_ge j (xs.length * 2) with hl | hl
    · exact hl
    · rw [List.getElem?_eq_none (by rw [flatP_len]; exact hl)] at hu; cases hu
  obtain ⟨b, o', hA, hb, hc1, hc2, _⟩ := hx (j / 2) (by omega)
  obtain ⟨f1, f2⟩ := flatP_at xs (j / 2) (by omega)
  cases hA
  rw [add_at]
  refine (hw.cell (p := ⟨b, o' + j, none⟩) hb).trans ?_
  rcases Nat.mod_two_eq_zero_or_one j with hm | hm
  · have e : j / 2 * 2 = j := by omega
    rw [e] at f1 hc1
    rw [f1] at hu
    rw [← Option.some.inj hu]; exact hc1
  · have e : j / 2 * 2 + 1 = j := by omega
    have e' : o' + j / 2 * 2 + 1 = o' + j := by omega
    rw [e] at f2
    rw [e'] at hc2
    rw [f2] at hu
    rw [← Option.some.inj hu]; exact hc2
theorem noneG {B : Nat} {w : World} {xs : List Pt} {n c : Nat} (h : RiU B w (.slice none n c) xs) : xs = [] := by
  obtain ⟨A1, cap, hv, hl, hm, hx⟩ := h
  obtain rfl : none = A1 := (Value.slice.inj hv).1
  rcases xs with _ | ⟨x, l⟩
  · rfl
  · obtain ⟨b, o, hA, _⟩ := hx 0 (by simp); cases hA
theorem oneG (xs : List Pt) : ∀ u ∈ (flatP xs), u.oneCell' = true := fun u hu => flatP_one xs u hu
set_option maxHeartbeats 400000 in
theorem clG_any {B : Nat} {w : World} {v : Value} {xs : List Pt} (h : RiU B w v xs) (hB : B ≤ w.heap.size) (hs : xs.length ≤ 1048576) :
    Calls Tryz.prog 144 #[v] w (ClG xs w) := by
  have H0 := h
  obtain ⟨A1, cap, rfl, -, -, -⟩ := h
  obtain ⟨i0, hi, hz0, hz1, hz2⟩ := info_parts infoGz
  have Hown : Hid ((w.alloc (.cells #[] 77)).ownsRow w.heap.size 77 2 (.slice (some ⟨w.heap.size, 0, none⟩) 0 0) 0 []) := Lib.hid (World.ownsRow_made w #[] 0 (Nat.le_refl _) (by decide) (by simp))
  cases A1 with
  | none =>
    obtain rfl := noneG H0
    have hq := slEqG_none
    go_enter Tryz.func144, Tryz.ntmps144
    go_wp2
    go_ret
    exact ⟨none, 0, rfl, og_none _ _, Below.refl _ w⟩
  | some ad =>
    have Hc : Hid (∀ j u, (flatP xs)[j]? = some u → (w.alloc (.cells #[] 77)).cell? (ad.add j) = some u) := Lib.hid (clCellsG H0 ((Below.refl _ w).alloc hB _))
    have H1c := Lib.hid (oneG xs)
    clear H0
    have hq := fun w n c => slEqG_some w ad n c
    go_enter Tryz.func144, Tryz.ntmps144
    go_wp2_with (refine wpList_append_own _ rfl (.tmp 5) (.tmp 6) 36 rfl w.heap.size 77 i0 (.agg #[.int .i64 0, .string ⟨#[]⟩]) 2 24 Tryz.underlying36 hi hz0 hz1 hz2 rfl (by decide) (.slice (some ⟨w.heap.size, 0, none⟩) 0 0) 0 [] rfl Hown.out ad xs.length cap (flatP xs) rfl (flatP_len _) Hc.out H1c.out (by unfold maxLen; omega) (by omega) (by simp) ?_; intro v2 w2 hown2 hg2 hnil2)
    have ho : OG w2 w.heap.size v2 xs := by unfold OG; simpa using hown2
    obtain ⟨A, c, rfl⟩ := OG.opened ho
    have Ho := Lib.hid ho; clear ho hown2
    go_ret
    refine ⟨A, c, rfl, Ho.out, ?_⟩
    exact ((Below.refl _ w).alloc (Nat.le_refl _) _).grown hg2 (by simp) (fun k hk => by simp [Value.ownBlock] at hk; omega)
set_option maxHeartbeats 400000 in
theorem l12Pages_any {B : Nat} {w : World} {v : Value} {xs : List Pt} (h : RiU B w v xs) (hB : B ≤ w.heap.size) (hs : xs.length ≤ 1048576) :
    Calls Tryz.prog 88 #[v] w (ClG xs w) := by
  have H0 := h
  obtain ⟨A1, cap, rfl, -, -, -⟩ := h
  obtain ⟨i0, hi, hz0, hz1, hz2⟩ := info_parts infoGz
  have Hown : Hid ((w.alloc (.cells #[] 77)).ownsRow w.heap.size 77 2 (.slice (some ⟨w.heap.size, 0, none⟩) 0 0) 0 []) := Lib.hid (World.ownsRow_made w #[] 0 (Nat.le_refl _) (by decide) (by simp))
  cases A1 with
  | none =>
    obtain rfl := noneG H0
    have hrun := run_append_owned_none (P := Tryz.prog) (w := w.alloc (.cells #[] 77)) w.heap.size 36 36 77 i0 2 Tryz.underlying36 hi _ 0 [] Hown.out
    go_enter Tryz.func88, Tryz.ntmps88
    go_wp2
    go_ret
    exact ⟨_, _, rfl, Hown.out, (Below.refl _ w).alloc (Nat.le_refl _) _⟩
  | some ad =>
    have Hc : Hid (∀ j u, (flatP xs)[j]? = some u → (w.alloc (.cells #[] 77)).cell? (ad.add j) = some u) := Lib.hid (clCellsG H0 ((Below.refl _ w).alloc hB _))
    have H1c := Lib.hid (oneG xs)
    clear H0
    go_enter Tryz.func88, Tryz.ntmps88
    go_wp2_with (refine wpList_append_own _ rfl (.tmp 3) (.tmp 4) 36 rfl w.heap.size 77 i0 (.agg #[.int .i64 0, .string ⟨#[]⟩]) 2 24 Tryz.underlying36 hi hz0 hz1 hz2 rfl (by decide) (.slice (some ⟨w.heap.size, 0, none⟩) 0 0) 0 [] rfl Hown.out ad xs.length cap (flatP xs) rfl (flatP_len _) Hc.out H1c.out (by unfold maxLen; omega) (by omega) (by simp) ?_; intro v2 w2 hown2 hg2 hnil2)
    have ho : OG w2 w.heap.size v2 xs := by unfold OG; simpa using hown2
    obtain ⟨A, c, rfl⟩ := OG.opened ho
    have Ho := Lib.hid ho; clear ho hown2
    go_ret
    refine ⟨A, c, rfl, Ho.out, ?_⟩
    exact ((Below.refl _ w).alloc (Nat.le_refl _) _).grown hg2 (by simp) (fun k hk => by simp [Value.ownBlock] at hk; omega)
end Go.Proofs.YtplfnlalmcpcaaaGreat
namespace Go.Proofs.YtplfnlalmcpcaaaGreat
open Go.RowKit
set_option linter.unusedVariables false
set_option maxHeartbeats 2000000 in
set_option maxRecDepth 100000 in
theorem markPagerO_any {w : World} {lo hi p1 p2 : Nat} {A0 : Option Addr} {c0 : Nat} {xs0 : List ByteArray} {A1 : Option Addr} {c1 : Nat} {xs1 : List Pt} {n2 : Int} {n3 : Bool} {n4 : Int} {n5 : Int} {n6 : Int} {n7 : Int} {n8 : Int} {n9 : Int} {A10 : Option Addr} {c10 : Nat} {xs10 : List Pt} {A11 : Option Addr} {c11 : Nat} {xs11 : List Pt} (o0 : OT w lo (.slice A0 xs0.length c0) xs0) (o1 : OU w lo (.slice A1 xs1.length c1) xs1) (o10 : OG w lo (.slice A10 xs10.length c10) xs10) (o11 : OG w lo (.slice A11 xs11.length c11) xs11) (ap0 : Apart (.slice A0 xs0.length c0) (.slice A1 xs1.length c1)) (i0 : Wi lo p1 (.slice A0 xs0.length c0)) (i1 : Wi lo p1 (.slice A1 xs1.length c1)) (i10 : Wi p1 p2 (.slice A10 xs10.length c10)) (i11 : Wi p2 hi (.slice A11 xs11.length c11)) (r0 : lo ≤ p1) (r1 : p1 ≤ p2) (r2 : p2 ≤ hi) (hhi : hi ≤ w.heap.size) (k : Nat) (hk1 : 1 ≤ k) (hk : k + xs0.length + 2 * xs1.length + 2 * xs10.length + 2 * xs11.length ≤ 8000000) :
    Calls Tryz.prog 15 #[.agg #[.slice A0 xs0.length c0, .slice A1 xs1.length c1, .int .i64 n2, .bool n3, .int .i64 n4, .int .i64 n5, .int .i64 n6, .int .i64 n7, .int .i64 n8, .int .i64 n9, .slice A10 xs10.length c10, .slice A11 xs11.length c11], .int .i64 (k : Int)] w fun e w' => e = .returned (.int .i64 ((k + xs0.length + 2 * xs1.length + 2 * xs10.length + 2 * xs11.length : Nat) : Int)) ∧ OT w' lo (.slice A0 xs0.length c0) (marksT k xs0.length) ∧ OU w' lo (.slice A1 xs1.length c1) (marksU (k + xs0.length) xs1.length) ∧ OG w' lo (.slice A10 xs10.length c10) (marksU (k + xs0.length + 2 * xs1.length) xs10.length) ∧ OG w' lo (.slice A11 xs11.length c11) (marksU (k + xs0.length + 2 * xs1.length + 2 * xs10.length) xs11.length) ∧ Mv lo hi w w' := by
  have I0 := Lib.hid i0; clear i0
  have I1 := Lib.hid i1; clear i1
  have I10 := Lib.hid i10; clear i10
  have I11 := Lib.hid i11; clear i11
  have X0 := Lib.hid ap0; clear ap0
  have B0 : Hid (Below w.heap.size w (w.alloc (.cells #[.slice A0 xs0.length c0, .slice A1 xs1.length c1, .int .i64 n2, .bool n3, .int .i64 n4, .int .i64 n5, .int .i64 n6, .int .i64 n7, .int .i64 n8, .int .i64 n9, .slice A10 xs10.length c10, .slice A11 xs11.length c11] 38))) := Lib.hid ((Below.refl _ w).alloc (Nat.le_refl _) _)
  have R0 : Hid ((w.alloc (.cells #[.slice A0 xs0.length c0, .slice A1 xs1.length c1, .int .i64 n2, .bool n3, .int .i64 n4, .int .i64 n5, .int .i64 n6, .int .i64 n7, .int .i64 n8, .int .i64 n9, .slice A10 xs10.length c10, .slice A11 xs11.length c11] 38)).heap[w.heap.size]? = some (.cells #[.slice A0 xs0.length c0, .slice A1 xs1.length c1, .int .i64 n2, .bool n3, .int .i64 n4, .int .i64 n5, .int .i64 n6, .int .i64 n7, .int .i64 n8, .int .i64 n9, .slice A10 xs10.length c10, .slice A11 xs11.length c11] 38 (0, 0))) := Lib.hid (heap_alloc_new w _)
  have Z0 : Hid (w.heap.size < (w.alloc (.cells #[.slice A0 xs0.length c0, .slice A1 xs1.length c1, .int .i64 n2, .bool n3, .int .i64 n4, .int .i64 n5, .int .i64 n6, .int .i64 n7, .int .i64 n8, .int .i64 n9, .slice A10 xs10.length c10, .slice A11 xs11.length c11] 38)).heap.size) := Lib.hid (by simp)
  have M0 : Hid (Mv lo hi w (w.alloc (.cells #[.slice A0 xs0.length c0, .slice A1 xs1.length c1, .int .i64 n2, .bool n3, .int .i64 n4, .int .i64 n5, .int .i64 n6, .int .i64 n7, .int .i64 n8, .int .i64 n9, .slice A10 xs10.length c10, .slice A11 xs11.length c11] 38))) := Lib.hid (Mv.of_below B0.out)
  have O0_0 : Hid (OT (w.alloc (.cells #[.slice A0 xs0.length c0, .slice A1 xs1.length c1, .int .i64 n2, .bool n3, .int .i64 n4, .int .i64 n5, .int .i64 n6, .int .i64 n7, .int .i64 n8, .int .i64 n9, .slice A10 xs10.length c10, .slice A11 xs11.length c11] 38)) lo (.slice A0 xs0.length c0) xs0) := Lib.hid (own_bel o0 B0.out)
  have O1_0 : Hid (OU (w.alloc (.cells #[.slice A0 xs0.length c0, .slice A1 xs1.length c1, .int .i64 n2, .bool n3, .int .i64 n4, .int .i64 n5, .int .i64 n6, .int .i64 n7, .int .i64 n8, .int .i64 n9, .slice A10 xs10.length c10, .slice A11 xs11.length c11] 38)) lo (.slice A1 xs1.length c1) xs1) := Lib.hid (own_bel o1 B0.out)
  have O10_0 : Hid (OG (w.alloc (.cells #[.slice A0 xs0.length c0, .slice A1 xs1.length c1, .int .i64 n2, .bool n3, .int .i64 n4, .int .i64 n5, .int .i64 n6, .int .i64 n7, .int .i64 n8, .int .i64 n9, .slice A10 xs10.length c10, .slice A11 xs11.length c11] 38)) lo (.slice A10 xs10.length c10) xs10) := Lib.hid (own_bel o10 B0.out)
  have O11_0 : Hid (OG (w.alloc (.cells #[.slice A0 xs0.length c0, .slice A1 xs1.length c1, .int .i64 n2, .bool n3, .int .i64 n4, .int .i64 n5, .int .i64 n6, .int .i64 n7, .int .i64 n8, .int .i64 n9, .slice A10 xs10.length c10, .slice A11 xs11.length c11] 38)) lo (.slice A11 xs11.length c11) xs11) := Lib.hid (own_bel o11 B0.out)
  clear o0 o1 o10 o11
  have Hld := Lib.hid (run_load_cells (P := Tryz.prog) (w.alloc (.cells #[.slice A0 xs0.length c0, .slice A1 xs1.length c1, .int .i64 n2, .bool n3, .int .i64 n4, .int .i64 n5, .int .i64 n6, .int .i64 n7, .int .i64 n8, .int .i64 n9, .slice A10 xs10.length c10, .slice A11 xs11.length c11] 38)) w.heap.size 0 34 _ [.slice A0 xs0.length c0, .slice A1 xs1.length c1, .int .i64 n2, .bool n3] (row_part R0.out (by intro j u hj; rcases j with _ | _ | _ | _ | j; all_goals first | exact hj | simp at hj)) Tryz.underlying34 rfl)
  go_enter Tryz.func15, Tryz.ntmps15
  go_wp2_with (refine wpList_load_agg rfl 34 (.tmp 5) rfl _ rfl _ Hld.out ?_)
  clear Hld
  generalize (w.alloc (.cells #[.slice A0 xs0.length c0, .slice A1 xs1.length c1, .int .i64 n2, .bool n3, .int .i64 n4, .int .i64 n5, .int .i64 n6, .int .i64 n7, .int .i64 n8, .int .i64 n9, .slice A10 xs10.length c10, .slice A11 xs11.length c11] 38)) = w0 at *
  refine (markDisk_any (lo := lo) (hi := p1) O0_0.out O1_0.out (I0.out.wide (by omega) (Nat.le_refl _)) (I1.out.wide (by omega) (Nat.le_refl _)) X0.out (by have := Z0.out; omega) (k) (by omega) (by omega)).mono ?_
  rintro e w1 ⟨rfl, oa, ob, mm⟩
  have m1 : Mv lo p1 w0 w1 := mm
  have M1 : Hid (Mv lo hi w w1) := Lib.hid (M0.out.trans (m1.wide (by omega) (by omega)))
  have Z1 : Hid (w.heap.size < w1.heap.size) := Lib.hid (by have := Z0.out; have := m1.2.2.2.1; omega)
  have R1 : Hid (w1.heap[w.heap.size]? = some (.cells #[.slice A0 xs0.length c0, .slice A1 xs1.length c1, .int .i64 n2, .bool n3, .int .i64 n4, .int .i64 n5, .int .i64 n6, .int .i64 n7, .int .i64 n8, .int .i64 n9, .slice A10 xs10.length c10, .slice A11 xs11.length c11] 38 (0, 0))) := Lib.hid ((m1.2.2.2.2 _ Z0.out (by omega)).trans R0.out)
  have O10_1 := Lib.hid (own_mv O10_0.out m1 (fun g hg => by have := I10.out g hg; omega))
  have O11_1 := Lib.hid (own_mv O11_0.out m1 (fun g hg => by have := I11.out g hg; omega))
  have P0_1 := Lib.hid oa; have P1_1 := Lib.hid ob
  clear m1 oa ob mm
  have q1 : w1.cell? ⟨w.heap.size, 10, none⟩ = some (.slice A10 xs10.length c10) := by rw [cell_of_row _ _ _ _ _ _ R1.out]; rfl
  go_wp2_with fail
  clear q1
  refine (markG_any O10_1.out (k + xs0.length + 2 * xs1.length) (by omega) (by omega)).mono ?_
  rintro e w2 ⟨rfl, oa, gr⟩
  have m2 : Mv p1 p2 w1 w2 := Mv.grown gr I10.out
  have M2 : Hid (Mv lo hi w w2) := Lib.hid (M1.out.trans (m2.wide (by omega) (by omega)))
  have Z2 : Hid (w.heap.size < w2.heap.size) := Lib.hid (by have := Z1.out; have := m2.2.2.2.1; omega)
  have R2 : Hid (w2.heap[w.heap.size]? = some (.cells #[.slice A0 xs0.length c0, .slice A1 xs1.length c1, .int .i64 n2, .bool n3, .int .i64 n4, .int .i64 n5, .int .i64 n6, .int .i64 n7, .int .i64 n8, .int .i64 n9, .slice A10 xs10.length c10, .slice A11 xs11.length c11] 38 (0, 0))) := Lib.hid ((m2.2.2.2.2 _ Z1.out (by omega)).trans R1.out)
  have O11_2 := Lib.hid (own_mv O11_1.out m2 (fun g hg => by have := I11.out g hg; omega))
  have P0_2 := Lib.hid (own_mv P0_1.out m2 (fun g hg => by have := I0.out g hg; omega))
  have P1_2 := Lib.hid (own_mv P1_1.out m2 (fun g hg => by have := I1.out g hg; omega))
  have P10_2 := Lib.hid oa
  clear m2 oa gr
  have q1 : w2.cell? ⟨w.heap.size, 11, none⟩ = some (.slice A11 xs11.length c11) := by rw [cell_of_row _ _ _ _ _ _ R2.out]; rfl
  go_wp2_with fail
  clear q1
  refine (markG_any O11_2.out (k + xs0.length + 2 * xs1.length + 2 * xs10.length) (by omega) (by omega)).mono ?_
  rintro e w3 ⟨rfl, oa, gr⟩
  have m3 : Mv p2 hi w2 w3 := Mv.grown gr I11.out
  have M3 : Hid (Mv lo hi w w3) := Lib.hid (M2.out.trans (m3.wide (by omega) (by omega)))
  have Z3 : Hid (w.heap.size < w3.heap.size) := Lib.hid (by have := Z2.out; have := m3.2.2.2.1; omega)
  have R3 : Hid (w3.heap[w.heap.size]? = some (.cells #[.slice A0 xs0.length c0, .slice A1 xs1.length c1, .int .i64 n2, .bool n3, .int .i64 n4, .int .i64 n5, .int .i64 n6, .int .i64 n7, .int .i64 n8, .int .i64 n9, .slice A10 xs10.length c10, .slice A11 xs11.length c11] 38 (0, 0))) := Lib.hid ((m3.2.2.2.2 _ Z2.out (by omega)).trans R2.out)
  have P0_3 := Lib.hid (own_mv P0_2.out m3 (fun g hg => by have := I0.out g hg; omega))
  have P1_3 := Lib.hid (own_mv P1_2.out m3 (fun g hg => by have := I1.out g hg; omega))
  have P10_3 := Lib.hid (own_mv P10_2.out m3 (fun g hg => by have := I10.out g hg; omega))
  have P11_3 := Lib.hid oa
  clear m3 oa gr
  go_wp2_with fail
  go_ret
  exact ⟨by first | rfl | (congr 2; omega) | simp [Nat.add_assoc], P0_3.out, P1_3.out, P10_3.out, P11_3.out, M3.out⟩
set_option maxHeartbeats 2000000 in
set_option maxRecDepth 100000 in
theorem heldPager_any {w : World} {lo n m p q : Nat} {A0 A1 A10 A11 : Option Addr} {c0 c1 c10 c11 : Nat} {n2 : Int} {n3 : Bool} {n4 n5 n6 n7 n8 n9 : Int} (k : Nat) (o0 : OT w lo (.slice A0 n c0) (marksT k n)) (o1 : OU w lo (.slice A1 m c1) (marksU (k + n) m)) (o10 : OG w lo (.slice A10 p c10) (marksU (k + n + 2 * m) p)) (o11 : OG w lo (.slice A11 q c11) (marksU (k + n + 2 * m + 2 * p) q)) (hk1 : 1 ≤ k) (hk : k + n + 2 * m + 2 * p + 2 * q ≤ 8000000) :
    Calls Tryz.prog 16 #[.agg #[.slice A0 n c0, .slice A1 m c1, .int .i64 n2, .bool n3, .int .i64 n4, .int .i64 n5, .int .i64 n6, .int .i64 n7, .int .i64 n8, .int .i64 n9, .slice A10 p c10, .slice A11 q c11], .int .i64 (k : Int)] w (GivesB (.int .i64 ((k + n + 2 * m + 2 * p + 2 * q : Nat) : Int)) w) := by
  have B0 : Hid (Below w.heap.size w (w.alloc (.cells #[.slice A0 n c0, .slice A1 m c1, .int .i64 n2, .bool n3, .int .i64 n4, .int .i64 n5, .int .i64 n6, .int .i64 n7, .int .i64 n8, .int .i64 n9, .slice A10 p c10, .slice A11 q c11] 38))) := Lib.hid ((Below.refl _ w).alloc (Nat.le_refl _) _)
  have R0 : Hid ((w.alloc (.cells #[.slice A0 n c0, .slice A1 m c1, .int .i64 n2, .bool n3, .int .i64 n4, .int .i64 n5, .int .i64 n6, .int .i64 n7, .int .i64 n8, .int .i64 n9, .slice A10 p c10, .slice A11 q c11] 38)).heap[w.heap.size]? = some (.cells #[.slice A0 n c0, .slice A1 m c1, .int .i64 n2, .bool n3, .int .i64 n4, .int .i64 n5, .int .i64 n6, .int .i64 n7, .int .i64 n8, .int .i64 n9, .slice A10 p c10, .slice A11 q c11] 38 (0, 0))) := Lib.hid (heap_alloc_new w _)
  have Z0 : Hid (w.heap.size < (w.alloc (.cells #[.slice A0 n c0, .slice A1 m c1, .int .i64 n2, .bool n3, .int .i64 n4, .int .i64 n5, .int .i64 n6, .int .i64 n7, .int .i64 n8, .int .i64 n9, .slice A10 p c10, .slice A11 q c11] 38)).heap.size) := Lib.hid (by simp)
  have O0_0 : Hid (OT (w.alloc (.cells #[.slice A0 n c0, .slice A1 m c1, .int .i64 n2, .bool n3, .int .i64 n4, .int .i64 n5, .int .i64 n6, .int .i64 n7, .int .i64 n8, .int .i64 n9, .slice A10 p c10, .slice A11 q c11] 38)) lo _ _) := Lib.hid (own_bel o0 B0.out)
  have O1_0 : Hid (OU (w.alloc (.cells #[.slice A0 n c0, .slice A1 m c1, .int .i64 n2, .bool n3, .int .i64 n4, .int .i64 n5, .int .i64 n6, .int .i64 n7, .int .i64 n8, .int .i64 n9, .slice A10 p c10, .slice A11 q c11] 38)) lo _ _) := Lib.hid (own_bel o1 B0.out)
  have O10_0 : Hid (OG (w.alloc (.cells #[.slice A0 n c0, .slice A1 m c1, .int .i64 n2, .bool n3, .int .i64 n4, .int .i64 n5, .int .i64 n6, .int .i64 n7, .int .i64 n8, .int .i64 n9, .slice A10 p c10, .slice A11 q c11] 38)) lo _ _) := Lib.hid (own_bel o10 B0.out)
  have O11_0 : Hid (OG (w.alloc (.cells #[.slice A0 n c0, .slice A1 m c1, .int .i64 n2, .bool n3, .int .i64 n4, .int .i64 n5, .int .i64 n6, .int .i64 n7, .int .i64 n8, .int .i64 n9, .slice A10 p c10, .slice A11 q c11] 38)) lo _ _) := Lib.hid (own_bel o11 B0.out)
  clear o0 o1 o10 o11
  have Hld := Lib.hid (run_load_cells (P := Tryz.prog) (w.alloc (.cells #[.slice A0 n c0, .slice A1 m c1, .int .i64 n2, .bool n3, .int .i64 n4, .int .i64 n5, .int .i64 n6, .int .i64 n7, .int .i64 n8, .int .i64 n9, .slice A10 p c10, .slice A11 q c11] 38)) w.heap.size 0 34 _ [.slice A0 n c0, .slice A1 m c1, .int .i64 n2, .bool n3] (row_part R0.out (by intro j u hj; rcases j with _ | _ | _ | _ | j; all_goals first | exact hj | simp at hj)) Tryz.underlying34 rfl)
  have g1 : ¬ (((k + n + 2 * m : Nat) : Int) < 0) := by omega
  have g2 : ¬ (((k + n + 2 * m + 2 * p : Nat) : Int) < 0) := by omega
  have g3 : ¬ (((k + n + 2 * m + 2 * p + 2 * q : Nat) : Int) < 0) := by omega
  go_enter Tryz.func16, Tryz.ntmps16
  go_wp2_with (refine wpList_load_agg rfl 34 (.tmp 5) rfl _ rfl _ Hld.out ?_)
  clear Hld
  generalize (w.alloc (.cells #[.slice A0 n c0, .slice A1 m c1, .int .i64 n2, .bool n3, .int .i64 n4, .int .i64 n5, .int .i64 n6, .int .i64 n7, .int .i64 n8, .int .i64 n9, .slice A10 p c10, .slice A11 q c11] 38)) = w0 at *
  refine (heldDisk_any k O0_0.out O1_0.out hk1 (by omega)).mono ?_
  rintro e w1 ⟨rfl, g⟩
  have B1 := Lib.hid (B0.out.trans (g.mono B0.out.size))
  have R1 := Lib.hid ((g.block _ Z0.out).trans R0.out)
  have Z1 : Hid (w.heap.size < w1.heap.size) := Lib.hid (by have := Z0.out; have := g.size; omega)
  have O10_1 := Lib.hid (own_bel O10_0.out g); have O11_1 := Lib.hid (own_bel O11_0.out g)
  clear g
  have q1 : w1.cell? ⟨w.heap.size, 10, none⟩ = some (.slice A10 p c10) := by rw [cell_of_row _ _ _ _ _ _ R1.out]; rfl
  go_wp2_with fail
  clear q1
  refine (heldG_any (k + n + 2 * m) O10_1.out (by omega) (by omega)).mono ?_
  rintro e w2 ⟨rfl, g⟩
  have B2 := Lib.hid (B1.out.trans (g.mono B1.out.size))
  have R2 := Lib.hid ((g.block _ Z1.out).trans R1.out)
  have O11_2 := Lib.hid (own_bel O11_1.out g)
  clear g
  have q1 : w2.cell? ⟨w.heap.size, 11, none⟩ = some (.slice A11 q c11) := by rw [cell_of_row _ _ _ _ _ _ R2.out]; rfl
  go_wp2_with fail
  clear q1
  refine (heldG_any (k + n + 2 * m + 2 * p) O11_2.out (by omega) (by omega)).mono ?_
  rintro e w3 ⟨rfl, g⟩
  have B3 := Lib.hid (B2.out.trans (g.mono B2.out.size))
  clear g
  go_wp2_with fail
  go_ret
  exact ⟨rfl, B3.out⟩
end Go.Proofs.YtplfnlalmcpcaaaGreat
namespace Go.Proofs.YtplfnlalmcpcaaaGreat
open Go.RowKit
set_option linter.unusedVariables false
set_option maxHeartbeats 4000000 in
set_option maxRecDepth 100000 in
theorem l09OwnC_any {g : Nat} {w : World} {A1 A2 : Option Addr} {ss : List ByteArray} {ps : List Pt} {fz : Int} {off : Bool} (hg : g < w.heap.size) (q0 : w.cell? ⟨g, 0, none⟩ = some (.slice A1 ss.length ss.length)) (q1 : w.cell? ⟨g, 1, none⟩ = some (.slice A2 ps.length ps.length)) (q2 : w.cell? ⟨g, 2, none⟩ = some (.int .i64 fz)) (q3 : w.cell? ⟨g, 3, none⟩ = some (.bool off)) (h1 : RiT w.heap.size w (.slice A1 ss.length ss.length) ss) (h2 : RiU w.heap.size w (.slice A2 ps.length ps.length) ps) (hs : ss.length ≤ 1048576) (hs2 : ps.length ≤ 1048576) :
    Calls Tryz.prog 87 #[.pointer (some ⟨g, 0, none⟩)] w (AnsD ss ps fz off w) := by
  have H1 := Lib.hid h1; have H2 := Lib.hid h2; have Hs := Lib.hid hs; have Hs2 := Lib.hid hs2
  clear h1 h2 hs hs2
  have HS : Hid (∀ W, Below w.heap.size w W → W.cell? ⟨g, 0, none⟩ = some (.slice A1 ss.length ss.length) ∧ W.cell? ⟨g, 1, none⟩ = some (.slice A2 ps.length ps.length) ∧ W.cell? ⟨g, 2, none⟩ = some (.int .i64 fz) ∧ W.cell? ⟨g, 3, none⟩ = some (.bool off)) := Lib.hid (fun W hW => ⟨(hW.cell (p := ⟨g, 0, none⟩) hg).trans q0, (hW.cell (p := ⟨g, 1, none⟩) hg).trans q1, (hW.cell (p := ⟨g, 2, none⟩) hg).trans q2, (hW.cell (p := ⟨g, 3, none⟩) hg).trans q3⟩)
  clear q0 q1 q2 q3 hg
  have B0 : Hid (Below w.heap.size w (w.alloc (.cells #[.slice none 0 0, .slice none 0 0, .int .i64 0, .bool false] 34)).drew) := Lib.hid ((Below.refl _ w).alloc (Nat.le_refl _) _).drew
  have R0 : Hid ((w.alloc (.cells #[.slice none 0 0, .slice none 0 0, .int .i64 0, .bool false] 34)).drew.heap[w.heap.size]? = some (.cells #[.slice none 0 0, .slice none 0 0, .int .i64 0, .bool false] 34 (0, 0))) := Lib.hid (heap_alloc_new w _)
  have Z0 : Hid (w.heap.size + 1 ≤ (w.alloc (.cells #[.slice none 0 0, .slice none 0 0, .int .i64 0, .bool false] 34)).drew.heap.size) := Lib.hid (by show w.heap.size + 1 ≤ (w.alloc (.cells #[.slice none 0 0, .slice none 0 0, .int .i64 0, .bool false] 34)).heap.size; simp)
  go_enter Tryz.func87, Tryz.ntmps87
  go_wp2_with fail
  refine wp_region_held_drew (S := fun W => W.cell? ⟨g, 0, none⟩ = some (.slice A1 ss.length ss.length) ∧ W.cell? ⟨g, 1, none⟩ = some (.slice A2 ps.length ps.length) ∧ W.cell? ⟨g, 2, none⟩ = some (.int .i64 fz) ∧ W.cell? ⟨g, 3, none⟩ = some (.bool off)) (by kernel_rfl) (HS.out _ B0.out) (fun hHeld => ?_)
  generalize hx0 : (w.alloc (.cells #[.slice none 0 0, .slice none 0 0, .int .i64 0, .bool false] 34)).drew = x0 at *
  clear hx0
  refine held_yes 1 (some 4) rfl rfl (by kernel_rfl) (by kernel_rfl) (by kernel_rfl) (fun _ _ _ h => h) (by kernel_rfl) hHeld (v := ?_) (fun wz hSw => ?_) ?_
  rotate_left 1
  · (try dsimp only at hSw); go_simp; (try with_reducible rfl)
  try simp only [Act.put, List.setIfInBounds_toArray, List.set_cons_zero, List.set_cons_succ]
  refine held_yes 2 (some 5) rfl rfl (by kernel_rfl) (by kernel_rfl) (by kernel_rfl) (fun _ _ _ h => h) (by kernel_rfl) hHeld (v := ?_) (fun wz hSw => ?_) ?_
  rotate_left 1
  · (try dsimp only at hSw); go_simp; (try with_reducible rfl)
  try simp only [Act.put, List.setIfInBounds_toArray, List.set_cons_zero, List.set_cons_succ]
  refine held_yes 3 (some 6) rfl rfl (by kernel_rfl) (by kernel_rfl) (by kernel_rfl) (fun _ _ _ h => h) (by kernel_rfl) hHeld (v := ?_) (fun wz hSw => ?_) ?_
  rotate_left 1
  · (try dsimp only at hSw); go_simp; (try with_reducible rfl)
  try simp only [Act.put, List.setIfInBounds_toArray, List.set_cons_zero, List.set_cons_succ]
  refine held_yes 4 (some 7) rfl rfl (by kernel_rfl) (by kernel_rfl) (by kernel_rfl) (fun _ _ _ h => h) (by kernel_rfl) hHeld (v := ?_) (fun wz hSw => ?_) ?_
  rotate_left 1
  · (try dsimp only at hSw); go_simp; (try with_reducible rfl)
  try simp only [Act.put, List.setIfInBounds_toArray, List.set_cons_zero, List.set_cons_succ]
  refine held_yes 7 (some 10) rfl rfl (by kernel_rfl) (by kernel_rfl) (by kernel_rfl) (fun _ _ _ h => h) (by kernel_rfl) hHeld (v := ?_) (fun wz hSw => ?_) ?_
  rotate_left 1
  · (try dsimp only at hSw); go_simp; (try with_reducible rfl)
  try simp only [Act.put, List.setIfInBounds_toArray, List.set_cons_zero, List.set_cons_succ]
  refine held_yes 8 (some 11) rfl rfl (by kernel_rfl) (by kernel_rfl) (by kernel_rfl) (fun _ _ _ h => h) (by kernel_rfl) hHeld (v := ?_) (fun wz hSw => ?_) ?_
  rotate_left 1
  · (try dsimp only at hSw); go_simp; (try with_reducible rfl)
  try simp only [Act.put, List.setIfInBounds_toArray, List.set_cons_zero, List.set_cons_succ]
  refine held_yes 9 (some 12) rfl rfl (by kernel_rfl) (by kernel_rfl) (by kernel_rfl) (fun _ _ _ h => h) (by kernel_rfl) hHeld (v := ?_) (fun wz hSw => ?_) ?_
  rotate_left 1
  · (try dsimp only at hSw); go_simp; (try with_reducible rfl)
  try simp only [Act.put, List.setIfInBounds_toArray, List.set_cons_zero, List.set_cons_succ]
  refine held_yes 10 (some 13) rfl rfl (by kernel_rfl) (by kernel_rfl) (by kernel_rfl) (fun _ _ _ h => h) (by kernel_rfl) hHeld (v := ?_) (fun wz hSw => ?_) ?_
  rotate_left 1
  · (try dsimp only at hSw); go_simp; (try with_reducible rfl)
  try simp only [Act.put, List.setIfInBounds_toArray, List.set_cons_zero, List.set_cons_succ]
  refine held_yes 12 (some 15) rfl rfl (by kernel_rfl) (by kernel_rfl) (by kernel_rfl) (fun _ _ _ h => h) (by kernel_rfl) hHeld (v := ?_) (fun wz hSw => ?_) ?_
  rotate_left 1
  · (try dsimp only at hSw); go_simp; (try with_reducible rfl)
  try simp only [Act.put, List.setIfInBounds_toArray, List.set_cons_zero, List.set_cons_succ]
  refine held_yes 13 (some 16) rfl rfl (by kernel_rfl) (by kernel_rfl) (by kernel_rfl) (fun _ _ _ h => h) (by kernel_rfl) hHeld (v := ?_) (fun wz hSw => ?_) ?_
  rotate_left 1
  · (try dsimp only at hSw); go_simp; (try with_reducible rfl)
  try simp only [Act.put, List.setIfInBounds_toArray, List.set_cons_zero, List.set_cons_succ]
  refine held_yes 14 (some 17) rfl rfl (by kernel_rfl) (by kernel_rfl) (by kernel_rfl) (fun _ _ _ h => h) (by kernel_rfl) hHeld (v := ?_) (fun wz hSw => ?_) ?_
  rotate_left 1
  · (try dsimp only at hSw); go_simp; (try with_reducible rfl)
  try simp only [Act.put, List.setIfInBounds_toArray, List.set_cons_zero, List.set_cons_succ]
  refine held_yes 15 (some 18) rfl rfl (by kernel_rfl) (by kernel_rfl) (by kernel_rfl) (fun _ _ _ h => h) (by kernel_rfl) hHeld (v := ?_) (fun wz hSw => ?_) ?_
  rotate_left 1
  · (try dsimp only at hSw); go_simp; (try with_reducible rfl)
  try simp only [Act.put, List.setIfInBounds_toArray, List.set_cons_zero, List.set_cons_succ]
  refine held_yes 16 (some 19) rfl rfl (by kernel_rfl) (by kernel_rfl) (by kernel_rfl) (fun _ _ _ h => h) (by kernel_rfl) hHeld (v := ?_) (fun wz hSw => ?_) ?_
  rotate_left 1
  · (try dsimp only at hSw); go_simp; (try with_reducible rfl)
  try simp only [Act.put, List.setIfInBounds_toArray, List.set_cons_zero, List.set_cons_succ]
  refine held_yes 17 (some 20) rfl rfl (by kernel_rfl) (by kernel_rfl) (by kernel_rfl) (fun _ _ _ h => h) (by kernel_rfl) hHeld (v := ?_) (fun wz hSw => ?_) ?_
  rotate_left 1
  · (try dsimp only at hSw); go_simp; (try with_reducible rfl)
  try simp only [Act.put, List.setIfInBounds_toArray, List.set_cons_zero, List.set_cons_succ]
  refine held_yes 18 (some 21) rfl rfl (by kernel_rfl) (by kernel_rfl) (by kernel_rfl) (fun _ _ _ h => h) (by kernel_rfl) hHeld (v := ?_) (fun wz hSw => ?_) ?_
  rotate_left 1
  · (try dsimp only at hSw); go_simp; (try with_reducible rfl)
  try simp only [Act.put, List.setIfInBounds_toArray, List.set_cons_zero, List.set_cons_succ]
  refine held_yes 19 (some 22) rfl rfl (by kernel_rfl) (by kernel_rfl) (by kernel_rfl) (fun _ _ _ h => h) (by kernel_rfl) hHeld (v := ?_) (fun wz hSw => ?_) ?_
  rotate_left 1
  · (try dsimp only at hSw); go_simp; (try with_reducible rfl)
  try simp only [Act.put, List.setIfInBounds_toArray, List.set_cons_zero, List.set_cons_succ]
  refine wpAnyH_ready (rs := [0, 6]) (by kernel_rfl) (by simp) ?_
  refine AllReadyH.cons rfl (fun K hK => ?_) (AllReadyH.cons rfl (fun K hK => ?_) AllReadyH.nil)
  go_simp
  have B1 : Hid (Below w.heap.size w (x0.alloc (.cells #[] 9))) := Lib.hid (B0.out.alloc B0.out.size _)
  refine hK.out _ _ (HS.out _ B1.out) (fun hHeld => ?_)
  clear hK K
  have R1 : Hid ((x0.alloc (.cells #[] 9)).heap[w.heap.size]? = some (.cells #[.slice none 0 0, .slice none 0 0, .int .i64 0, .bool false] 34 (0, 0))) := Lib.hid (((Below.refl _ x0).alloc (Nat.le_refl _) _ |>.block _ (by have := Z0.out; omega)).trans R0.out)
  have Z1 : Hid (w.heap.size + 1 ≤ (x0.alloc (.cells #[] 9)).heap.size) := Lib.hid (by have := Z0.out; simp; omega)
  have W1 : Hid ((x0.alloc (.cells #[] 9)).ownsRow (w.heap.size + 1) 9 1 (.slice (some ⟨x0.heap.size, 0, none⟩) 0 0) 0 []) := Lib.hid (World.ownsRow_made x0 #[] 0 Z0.out (by decide) (by simp))
  generalize hn : (x0.alloc (.cells #[] 9)) = x1 at *
  clear hn
  try simp only [Act.put, List.setIfInBounds_toArray, List.set_cons_zero, List.set_cons_succ]
  refine wpAnyH_ready (rs := [5, 6]) (by kernel_rfl) (by simp) ?_
  refine AllReadyH.cons rfl (fun K hK => ?_) (AllReadyH.cons rfl (fun K hK => ?_) AllReadyH.nil)
  refine wp_copyT (W := x1) (lo := w.heap.size + 1) (ss := ss) (some 8) (by kernel_rfl) (.tmp 3) (.tmp 7) rfl rfl rfl rfl W1.out (H1.out.at (Nat.le_refl _) B1.out) Z1.out Hs.out ?_
  intro v2 x2 own2 gr2
  obtain ⟨E2, e2, rfl⟩ := own2.ex
  have GL2 : Hid (w.heap.size + 1 ≤ x0.heap.size) := Lib.hid (World.ownsRow.lt W1.out _ rfl).1
  have B2 : Hid (Below w.heap.size w x2) := Lib.hid (B1.out.grown gr2 B1.out.size (fun k hk => by have := GL2.out; cases hk; omega))
  refine hK.out _ _ (HS.out _ B2.out) (fun hHeld => ?_)
  clear hK K
  have R2 : Hid (x2.heap[w.heap.size]? = some (.cells #[.slice none 0 0, .slice none 0 0, .int .i64 0, .bool false] 34 (0, 0))) := Lib.hid (grown_at gr2 (by have := GL2.out; omega) R1.out)
  have Z2 : Hid (w.heap.size + 1 ≤ x2.heap.size) := Lib.hid (by have := Z1.out; have := gr2.size; omega)
  have V2_5 := Lib.hid own2; clear own2 gr2
  try simp only [Act.put, List.setIfInBounds_toArray, List.set_cons_zero, List.set_cons_succ]
  refine wpAnyH_ready (rs := [6]) (by kernel_rfl) (by simp) ?_
  refine AllReadyH.cons rfl (fun K hK => ?_) AllReadyH.nil
  go_simp
  have B3 : Hid (Below w.heap.size w (x2.alloc (.cells #[] 178))) := Lib.hid (B2.out.alloc B2.out.size _)
  refine hK.out _ _ (HS.out _ B3.out) (fun hHeld => ?_)
  clear hK K
  have R3 : Hid ((x2.alloc (.cells #[] 178)).heap[w.heap.size]? = some (.cells #[.slice none 0 0, .slice none 0 0, .int .i64 0, .bool false] 34 (0, 0))) := Lib.hid (((Below.refl _ x2).alloc (Nat.le_refl _) _ |>.block _ (by have := Z2.out; omega)).trans R2.out)
  have Z3 : Hid (w.heap.size + 1 ≤ (x2.alloc (.cells #[] 178)).heap.size) := Lib.hid (by have := Z2.out; simp; omega)
  have W3 : Hid ((x2.alloc (.cells #[] 178)).ownsRow (w.heap.size + 1) 178 2 (.slice (some ⟨x2.heap.size, 0, none⟩) 0 0) 0 []) := Lib.hid (World.ownsRow_made x2 #[] 0 Z2.out (by decide) (by simp))
  have V3_5 : Hid (OT (x2.alloc (.cells #[] 178)) (w.heap.size + 1) (Value.slice E2 ss.length e2) ss) := Lib.hid (own_bel V2_5.out ((Below.refl _ x2).alloc (Nat.le_refl _) _))
  generalize hn : (x2.alloc (.cells #[] 178)) = x3 at *
  clear hn
  try simp only [Act.put, List.setIfInBounds_toArray, List.set_cons_zero, List.set_cons_succ]
  refine wpAnyH_ready (rs := [11]) (by kernel_rfl) (by simp) ?_
  refine AllReadyH.cons rfl (fun K hK => ?_) AllReadyH.nil
  refine wp_copyU (W := x3) (lo := w.heap.size + 1) (ss := ps) (some 14) (by kernel_rfl) (.tmp 9) (.tmp 13) rfl rfl rfl rfl W3.out (H2.out.at (Nat.le_refl _) B3.out) Z3.out Hs2.out ?_
  intro v4 x4 own4 gr4
  obtain ⟨E4, e4, rfl⟩ := own4.ex
  have GL4 : Hid (w.heap.size + 1 ≤ x2.heap.size) := Lib.hid (World.ownsRow.lt W3.out _ rfl).1
  have B4 : Hid (Below w.heap.size w x4) := Lib.hid (B3.out.grown gr4 B3.out.size (fun k hk => by have := GL4.out; cases hk; omega))
  refine hK.out _ _ (HS.out _ B4.out) (fun hHeld => ?_)
  clear hK K
  have R4 : Hid (x4.heap[w.heap.size]? = some (.cells #[.slice none 0 0, .slice none 0 0, .int .i64 0, .bool false] 34 (0, 0))) := Lib.hid (grown_at gr4 (by have := GL4.out; omega) R3.out)
  have Z4 : Hid (w.heap.size + 1 ≤ x4.heap.size) := Lib.hid (by have := Z3.out; have := gr4.size; omega)
  have V4_5 : Hid (OT x4 (w.heap.size + 1) (Value.slice E2 ss.length e2) ss) := Lib.hid (World.ownsRow.kept V3_5.out gr4 (.inr (by obtain ⟨C, hC⟩ := OU.blk W3.out rfl; exact OT.ne V3_5.out hC)))
  have V4_11 := Lib.hid own4; clear own4 gr4
  try simp only [Act.put, List.setIfInBounds_toArray, List.set_cons_zero, List.set_cons_succ]
  refine held_yes 20 (some 23) rfl rfl (by kernel_rfl) (by kernel_rfl) (by kernel_rfl) (fun _ _ _ h => h) (by kernel_rfl) hHeld (v := ?_) (fun wz hSw => ?_) ?_
  rotate_left 1
  · (try dsimp only at hSw); go_simp; (try with_reducible rfl)
  try simp only [Act.put, List.setIfInBounds_toArray, List.set_cons_zero, List.set_cons_succ]
  refine wpAnyH_ready (rs := [21]) (by kernel_rfl) (by simp) ?_
  refine AllReadyH.cons rfl (fun K hK => ?_) AllReadyH.nil
  have Hi9 : Hid ((Tryz.prog.info? 34).map (·.size) = some (#[(Value.slice E2 ss.length e2), (Value.slice E4 ps.length e4), .int .i64 fz, .bool off] : Array Value).size) := Lib.hid (by kernel_rfl)
  have H19 : Hid ((#[(Value.slice E2 ss.length e2), (Value.slice E4 ps.length e4), .int .i64 fz, .bool off] : Array Value).all (·.oneCell') = true) := Lib.hid (by
    rcases OT.sl V4_5.out with _ | _ <;> simp [Value.oneCell'])
  refine wp_store_rowd none (by kernel_rfl) rfl 34 (.tmp 2) (.tmp 23) rfl w.heap.size #[(Value.slice E2 ss.length e2), (Value.slice E4 ps.length e4), .int .i64 fz, .bool off] rfl rfl 34 _ R4.out Hi9.out rfl H19.out ?_
  refine hK.out _ _ (HS.out _ (below_setRow B4.out (Nat.le_refl _) _)) (fun hHeld => ?_)
  clear hK K hHeld
  try simp only [Act.put]
  refine wpAnyH_done (by kernel_rfl) ?_ _
  have Rf : Hid ((x4.setRow w.heap.size #[(Value.slice E2 ss.length e2), (Value.slice E4 ps.length e4), .int .i64 fz, .bool off]).heap[w.heap.size]? = some (.cells #[(Value.slice E2 ss.length e2), (Value.slice E4 ps.length e4), .int .i64 fz, .bool off] 34 (0, 0))) := Lib.hid (setRow_heap _ _ _ _ _ _ R4.out)
  have Fin : Hid (AnsD ss ps fz off w (.returned (.agg #[(Value.slice E2 ss.length e2), (Value.slice E4 ps.length e4), .int .i64 fz, .bool off])) (x4.setRow w.heap.size #[(Value.slice E2 ss.length e2), (Value.slice E4 ps.length e4), .int .i64 fz, .bool off])) := Lib.hid ⟨_, _, rfl, DskO.lo (lo := w.heap.size + 1) (DskO.same (r := w.heap.size) ⟨V4_5.out, V4_11.out, OT.ap V4_5.out V4_11.out⟩ (Nat.lt_succ_self _) (fun k hk => setRow_other _ _ k _ hk)) (Nat.le_succ _), below_setRow B4.out (Nat.le_refl _) _⟩
  try simp only [Exit.then]
  generalize (x4.setRow w.heap.size #[(Value.slice E2 ss.length e2), (Value.slice E4 ps.length e4), .int .i64 fz, .bool off]) = xf at *
  generalize (Value.slice E2 ss.length e2) = va at *
  generalize (Value.slice E4 ps.length e4) = vb at *
  go_wp2
  refine bodyPost_ret (v := .agg #[va, vb, .int .i64 fz, .bool off]) ?_ rfl ?_
  exact results_cell_row rfl _ _ w.heap.size 34 _ (0, 0) _ rfl Rf.out Tryz.underlying34 rfl (by kernel_rfl)
  exact Fin.out
  go_simp
  have B5 : Hid (Below w.heap.size w (x1.alloc (.cells #[] 178))) := Lib.hid (B1.out.alloc B1.out.size _)
  refine hK.out _ _ (HS.out _ B5.out) (fun hHeld => ?_)
  clear hK K
  have R5 : Hid ((x1.alloc (.cells #[] 178)).heap[w.heap.size]? = some (.cells #[.slice none 0 0, .slice none 0 0, .int .i64 0, .bool false] 34 (0, 0))) := Lib.hid (((Below.refl _ x1).alloc (Nat.le_refl _) _ |>.block _ (by have := Z1.out; omega)).trans R1.out)
  have Z5 : Hid (w.heap.size + 1 ≤ (x1.alloc (.cells #[] 178)).heap.size) := Lib.hid (by have := Z1.out; simp; omega)
  have W5 : Hid ((x1.alloc (.cells #[] 178)).ownsRow (w.heap.size + 1) 178 2 (.slice (some ⟨x1.heap.size, 0, none⟩) 0 0) 0 []) := Lib.hid (World.ownsRow_made x1 #[] 0 Z1.out (by decide) (by simp))
  have W5_0 : Hid ((x1.alloc (.cells #[] 178)).ownsRow (w.heap.size + 1) 9 1 (.slice (some ⟨x0.heap.size, 0, none⟩) 0 0) 0 [] ∧ x0.heap.size < x1.heap.size) := Lib.hid ⟨own_bel W1.out ((Below.refl _ x1).alloc (Nat.le_refl _) _), (World.ownsRow.lt W1.out _ rfl).2⟩
  generalize hn : (x1.alloc (.cells #[] 178)) = x5 at *
  clear hn
  try simp only [Act.put, List.setIfInBounds_toArray, List.set_cons_zero, List.set_cons_succ]
  refine wpAnyH_ready (rs := [5]) (by kernel_rfl) (by simp) ?_
  refine AllReadyH.cons rfl (fun K hK => ?_) AllReadyH.nil
  refine wp_copyT (W := x5) (lo := w.heap.size + 1) (ss := ss) (some 8) (by kernel_rfl) (.tmp 3) (.tmp 7) rfl rfl rfl rfl W5_0.out.1 (H1.out.at (Nat.le_refl _) B5.out) Z5.out Hs.out ?_
  intro v6 x6 own6 gr6
  obtain ⟨E6, e6, rfl⟩ := own6.ex
  have GL6 : Hid (w.heap.size + 1 ≤ x0.heap.size) := Lib.hid (World.ownsRow.lt W5_0.out.1 _ rfl).1
  have B6 : Hid (Below w.heap.size w x6) := Lib.hid (B5.out.grown gr6 B5.out.size (fun k hk => by have := GL6.out; cases hk; omega))
  refine hK.out _ _ (HS.out _ B6.out) (fun hHeld => ?_)
  clear hK K
  have R6 : Hid (x6.heap[w.heap.size]? = some (.cells #[.slice none 0 0, .slice none 0 0, .int .i64 0, .bool false] 34 (0, 0))) := Lib.hid (grown_at gr6 (by have := GL6.out; omega) R5.out)
  have Z6 : Hid (w.heap.size + 1 ≤ x6.heap.size) := Lib.hid (by have := Z5.out; have := gr6.size; omega)
  have W6_6 : Hid (x6.ownsRow (w.heap.size + 1) 178 2 (.slice (some ⟨x1.heap.size, 0, none⟩) 0 0) 0 []) := Lib.hid (World.ownsRow.kept W5.out gr6 (.inr (by simp only [Value.ownBlock, ne_eq, Option.some.injEq]; have := W5_0.out.2; omega)))
  have V6_5 := Lib.hid own6; clear own6 gr6
  try simp only [Act.put, List.setIfInBounds_toArray, List.set_cons_zero, List.set_cons_succ]
  refine wpAnyH_ready (rs := [11]) (by kernel_rfl) (by simp) ?_
  refine AllReadyH.cons rfl (fun K hK => ?_) AllReadyH.nil
  refine wp_copyU (W := x6) (lo := w.heap.size + 1) (ss := ps) (some 14) (by kernel_rfl) (.tmp 9) (.tmp 13) rfl rfl rfl rfl W6_6.out (H2.out.at (Nat.le_refl _) B6.out) Z6.out Hs2.out ?_
  intro v7 x7 own7 gr7
  obtain ⟨E7, e7, rfl⟩ := own7.ex
  have GL7 : Hid (w.heap.size + 1 ≤ x1.heap.size) := Lib.hid (World.ownsRow.lt W6_6.out _ rfl).1
  have B7 : Hid (Below w.heap.size w x7) := Lib.hid (B6.out.grown gr7 B6.out.size (fun k hk => by have := GL7.out; cases hk; omega))
  refine hK.out _ _ (HS.out _ B7.out) (fun hHeld => ?_)
  clear hK K
  have R7 : Hid (x7.heap[w.heap.size]? = some (.cells #[.slice none 0 0, .slice none 0 0, .int .i64 0, .bool false] 34 (0, 0))) := Lib.hid (grown_at gr7 (by have := GL7.out; omega) R6.out)
  have Z7 : Hid (w.heap.size + 1 ≤ x7.heap.size) := Lib.hid (by have := Z6.out; have := gr7.size; omega)
  have V7_5 : Hid (OT x7 (w.heap.size + 1) (Value.slice E6 ss.length e6) ss) := Lib.hid (World.ownsRow.kept V6_5.out gr7 (.inr (by obtain ⟨C, hC⟩ := OU.blk W6_6.out rfl; exact OT.ne V6_5.out hC)))
  have V7_11 := Lib.hid own7; clear own7 gr7
  try simp only [Act.put, List.setIfInBounds_toArray, List.set_cons_zero, List.set_cons_succ]
  refine held_yes 20 (some 23) rfl rfl (by kernel_rfl) (by kernel_rfl) (by kernel_rfl) (fun _ _ _ h => h) (by kernel_rfl) hHeld (v := ?_) (fun wz hSw => ?_) ?_
  rotate_left 1
  · (try dsimp only at hSw); go_simp; (try with_reducible rfl)
  try simp only [Act.put, List.setIfInBounds_toArray, List.set_cons_zero, List.set_cons_succ]
  refine wpAnyH_ready (rs := [21]) (by kernel_rfl) (by simp) ?_
  refine AllReadyH.cons rfl (fun K hK => ?_) AllReadyH.nil
  have Hi9 : Hid ((Tryz.prog.info? 34).map (·.size) = some (#[(Value.slice E6 ss.length e6), (Value.slice E7 ps.length e7), .int .i64 fz, .bool off] : Array Value).size) := Lib.hid (by kernel_rfl)
  have H19 : Hid ((#[(Value.slice E6 ss.length e6), (Value.slice E7 ps.length e7), .int .i64 fz, .bool off] : Array Value).all (·.oneCell') = true) := Lib.hid (by
    rcases OT.sl V7_5.out with _ | _ <;> simp [Value.oneCell'])
  refine wp_store_rowd none (by kernel_rfl) rfl 34 (.tmp 2) (.tmp 23) rfl w.heap.size #[(Value.slice E6 ss.length e6), (Value.slice E7 ps.length e7), .int .i64 fz, .bool off] rfl rfl 34 _ R7.out Hi9.out rfl H19.out ?_
  refine hK.out _ _ (HS.out _ (below_setRow B7.out (Nat.le_refl _) _)) (fun hHeld => ?_)
  clear hK K hHeld
  try simp only [Act.put]
  refine wpAnyH_done (by kernel_rfl) ?_ _
  have Rf : Hid ((x7.setRow w.heap.size #[(Value.slice E6 ss.length e6), (Value.slice E7 ps.length e7), .int .i64 fz, .bool off]).heap[w.heap.size]? = some (.cells #[(Value.slice E6 ss.length e6), (Value.slice E7 ps.length e7), .int .i64 fz, .bool off] 34 (0, 0))) := Lib.hid (setRow_heap _ _ _ _ _ _ R7.out)
  have Fin : Hid (AnsD ss ps fz off w (.returned (.agg #[(Value.slice E6 ss.length e6), (Value.slice E7 ps.length e7), .int .i64 fz, .bool off])) (x7.setRow w.heap.size #[(Value.slice E6 ss.length e6), (Value.slice E7 ps.length e7), .int .i64 fz, .bool off])) := Lib.hid ⟨_, _, rfl, DskO.lo (lo := w.heap.size + 1) (DskO.same (r := w.heap.size) ⟨V7_5.out, V7_11.out, OT.ap V7_5.out V7_11.out⟩ (Nat.lt_succ_self _) (fun k hk => setRow_other _ _ k _ hk)) (Nat.le_succ _), below_setRow B7.out (Nat.le_refl _) _⟩
  try simp only [Exit.then]
  generalize (x7.setRow w.heap.size #[(Value.slice E6 ss.length e6), (Value.slice E7 ps.length e7), .int .i64 fz, .bool off]) = xf at *
  generalize (Value.slice E6 ss.length e6) = va at *
  generalize (Value.slice E7 ps.length e7) = vb at *
  go_wp2
  refine bodyPost_ret (v := .agg #[va, vb, .int .i64 fz, .bool off]) ?_ rfl ?_
  exact results_cell_row rfl _ _ w.heap.size 34 _ (0, 0) _ rfl Rf.out Tryz.underlying34 rfl (by kernel_rfl)
  exact Fin.out
  go_simp
  have B8 : Hid (Below w.heap.size w (x0.alloc (.cells #[] 178))) := Lib.hid (B0.out.alloc B0.out.size _)
  refine hK.out _ _ (HS.out _ B8.out) (fun hHeld => ?_)
  clear hK K
  have R8 : Hid ((x0.alloc (.cells #[] 178)).heap[w.heap.size]? = some (.cells #[.slice none 0 0, .slice none 0 0, .int .i64 0, .bool false] 34 (0, 0))) := Lib.hid (((Below.refl _ x0).alloc (Nat.le_refl _) _ |>.block _ (by have := Z0.out; omega)).trans R0.out)
  have Z8 : Hid (w.heap.size + 1 ≤ (x0.alloc (.cells #[] 178)).heap.size) := Lib.hid (by have := Z0.out; simp; omega)
  have W8 : Hid ((x0.alloc (.cells #[] 178)).ownsRow (w.heap.size + 1) 178 2 (.slice (some ⟨x0.heap.size, 0, none⟩) 0 0) 0 []) := Lib.hid (World.ownsRow_made x0 #[] 0 Z0.out (by decide) (by simp))
  generalize hn : (x0.alloc (.cells #[] 178)) = x8 at *
  clear hn
  try simp only [Act.put, List.setIfInBounds_toArray, List.set_cons_zero, List.set_cons_succ]
  refine wpAnyH_ready (rs := [0]) (by kernel_rfl) (by simp) ?_
  refine AllReadyH.cons rfl (fun K hK => ?_) AllReadyH.nil
  go_simp
  have B9 : Hid (Below w.heap.size w (x8.alloc (.cells #[] 9))) := Lib.hid (B8.out.alloc B8.out.size _)
  refine hK.out _ _ (HS.out _ B9.out) (fun hHeld => ?_)
  clear hK K
  have R9 : Hid ((x8.alloc (.cells #[] 9)).heap[w.heap.size]? = some (.cells #[.slice none 0 0, .slice none 0 0, .int .i64 0, .bool false] 34 (0, 0))) := Lib.hid (((Below.refl _ x8).alloc (Nat.le_refl _) _ |>.block _ (by have := Z8.out; omega)).trans R8.out)
  have Z9 : Hid (w.heap.size + 1 ≤ (x8.alloc (.cells #[] 9)).heap.size) := Lib.hid (by have := Z8.out; simp; omega)
  have W9 : Hid ((x8.alloc (.cells #[] 9)).ownsRow (w.heap.size + 1) 9 1 (.slice (some ⟨x8.heap.size, 0, none⟩) 0 0) 0 []) := Lib.hid (World.ownsRow_made x8 #[] 0 Z8.out (by decide) (by simp))
  have W9_6 : Hid ((x8.alloc (.cells #[] 9)).ownsRow (w.heap.size + 1) 178 2 (.slice (some ⟨x0.heap.size, 0, none⟩) 0 0) 0 [] ∧ x0.heap.size < x8.heap.size) := Lib.hid ⟨own_bel W8.out ((Below.refl _ x8).alloc (Nat.le_refl _) _), (World.ownsRow.lt W8.out _ rfl).2⟩
  generalize hn : (x8.alloc (.cells #[] 9)) = x9 at *
  clear hn
  try simp only [Act.put, List.setIfInBounds_toArray, List.set_cons_zero, List.set_cons_succ]
  refine wpAnyH_ready (rs := [5]) (by kernel_rfl) (by simp) ?_
  refine AllReadyH.cons rfl (fun K hK => ?_) AllReadyH.nil
  refine wp_copyT (W := x9) (lo := w.heap.size + 1) (ss := ss) (some 8) (by kernel_rfl) (.tmp 3) (.tmp 7) rfl rfl rfl rfl W9.out (H1.out.at (Nat.le_refl _) B9.out) Z9.out Hs.out ?_
  intro v10 x10 own10 gr10
  obtain ⟨E10, e10, rfl⟩ := own10.ex
  have GL10 : Hid (w.heap.size + 1 ≤ x8.heap.size) := Lib.hid (World.ownsRow.lt W9.out _ rfl).1
  have B10 : Hid (Below w.heap.size w x10) := Lib.hid (B9.out.grown gr10 B9.out.size (fun k hk => by have := GL10.out; cases hk; omega))
  refine hK.out _ _ (HS.out _ B10.out) (fun hHeld => ?_)
  clear hK K
  have R10 : Hid (x10.heap[w.heap.size]? = some (.cells #[.slice none 0 0, .slice none 0 0, .int .i64 0, .bool false] 34 (0, 0))) := Lib.hid (grown_at gr10 (by have := GL10.out; omega) R9.out)
  have Z10 : Hid (w.heap.size + 1 ≤ x10.heap.size) := Lib.hid (by have := Z9.out; have := gr10.size; omega)
  have W10_6 : Hid (x10.ownsRow (w.heap.size + 1) 178 2 (.slice (some ⟨x0.heap.size, 0, none⟩) 0 0) 0 []) := Lib.hid (World.ownsRow.kept W9_6.out.1 gr10 (.inr (by simp only [Value.ownBlock, ne_eq, Option.some.injEq]; have := W9_6.out.2; omega)))
  have V10_5 := Lib.hid own10; clear own10 gr10
  try simp only [Act.put, List.setIfInBounds_toArray, List.set_cons_zero, List.set_cons_succ]
  refine wpAnyH_ready (rs := [11]) (by kernel_rfl) (by simp) ?_
  refine AllReadyH.cons rfl (fun K hK => ?_) AllReadyH.nil
  refine wp_copyU (W := x10) (lo := w.heap.size + 1) (ss := ps) (some 14) (by kernel_rfl) (.tmp 9) (.tmp 13) rfl rfl rfl rfl W10_6.out (H2.out.at (Nat.le_refl _) B10.out) Z10.out Hs2.out ?_
  intro v11 x11 own11 gr11
  obtain ⟨E11, e11, rfl⟩ := own11.ex
  have GL11 : Hid (w.heap.size + 1 ≤ x0.heap.size) := Lib.hid (World.ownsRow.lt W10_6.out _ rfl).1
  have B11 : Hid (Below w.heap.size w x11) := Lib.hid (B10.out.grown gr11 B10.out.size (fun k hk => by have := GL11.out; cases hk; omega))
  refine hK.out _ _ (HS.out _ B11.out) (fun hHeld => ?_)
  clear hK K
  have R11 : Hid (x11.heap[w.heap.size]? = some (.cells #[.slice none 0 0, .slice none 0 0, .int .i64 0, .bool false] 34 (0, 0))) := Lib.hid (grown_at gr11 (by have := GL11.out; omega) R10.out)
  have Z11 : Hid (w.heap.size + 1 ≤ x11.heap.size) := Lib.hid (by have := Z10.out; have := gr11.size; omega)
  have V11_5 : Hid (OT x11 (w.heap.size + 1) (Value.slice E10 ss.length e10) ss) := Lib.hid (World.ownsRow.kept V10_5.out gr11 (.inr (by obtain ⟨C, hC⟩ := OU.blk W10_6.out rfl; exact OT.ne V10_5.out hC)))
  have V11_11 := Lib.hid own11; clear own11 gr11
  try simp only [Act.put, List.setIfInBounds_toArray, List.set_cons_zero, List.set_cons_succ]
  refine held_yes 20 (some 23) rfl rfl (by kernel_rfl) (by kernel_rfl) (by kernel_rfl) (fun _ _ _ h => h) (by kernel_rfl) hHeld (v := ?_) (fun wz hSw => ?_) ?_
  rotate_left 1
  · (try dsimp only at hSw); go_simp; (try with_reducible rfl)
  try simp only [Act.put, List.setIfInBounds_toArray, List.set_cons_zero, List.set_cons_succ]
  refine wpAnyH_ready (rs := [21]) (by kernel_rfl) (by simp) ?_
  refine AllReadyH.cons rfl (fun K hK => ?_) AllReadyH.nil
  have Hi9 : Hid ((Tryz.prog.info? 34).map (·.size) = some (#[(Value.slice E10 ss.length e10), (Value.slice E11 ps.length e11), .int .i64 fz, .bool off] : Array Value).size) := Lib.hid (by kernel_rfl)
  have H19 : Hid ((#[(Value.slice E10 ss.length e10), (Value.slice E11 ps.length e11), .int .i64 fz, .bool off] : Array Value).all (·.oneCell') = true) := Lib.hid (by
    rcases OT.sl V11_5.out with _ | _ <;> simp [Value.oneCell'])
  refine wp_store_rowd none (by kernel_rfl) rfl 34 (.tmp 2) (.tmp 23) rfl w.heap.size #[(Value.slice E10 ss.length e10), (Value.slice E11 ps.length e11), .int .i64 fz, .bool off] rfl rfl 34 _ R11.out Hi9.out rfl H19.out ?_
  refine hK.out _ _ (HS.out _ (below_setRow B11.out (Nat.le_refl _) _)) (fun hHeld => ?_)
  clear hK K hHeld
  try simp only [Act.put]
  refine wpAnyH_done (by kernel_rfl) ?_ _
  have Rf : Hid ((x11.setRow w.heap.size #[(Value.slice E10 ss.length e10), (Value.slice E11 ps.length e11), .int .i64 fz, .bool off]).heap[w.heap.size]? = some (.cells #[(Value.slice E10 ss.length e10), (Value.slice E11 ps.length e11), .int .i64 fz, .bool off] 34 (0, 0))) := Lib.hid (setRow_heap _ _ _ _ _ _ R11.out)
  have Fin : Hid (AnsD ss ps fz off w (.returned (.agg #[(Value.slice E10 ss.length e10), (Value.slice E11 ps.length e11), .int .i64 fz, .bool off])) (x11.setRow w.heap.size #[(Value.slice E10 ss.length e10), (Value.slice E11 ps.length e11), .int .i64 fz, .bool off])) := Lib.hid ⟨_, _, rfl, DskO.lo (lo := w.heap.size + 1) (DskO.same (r := w.heap.size) ⟨V11_5.out, V11_11.out, OT.ap V11_5.out V11_11.out⟩ (Nat.lt_succ_self _) (fun k hk => setRow_other _ _ k _ hk)) (Nat.le_succ _), below_setRow B11.out (Nat.le_refl _) _⟩
  try simp only [Exit.then]
  generalize (x11.setRow w.heap.size #[(Value.slice E10 ss.length e10), (Value.slice E11 ps.length e11), .int .i64 fz, .bool off]) = xf at *
  generalize (Value.slice E10 ss.length e10) = va at *
  generalize (Value.slice E11 ps.length e11) = vb at *
  go_wp2
  refine bodyPost_ret (v := .agg #[va, vb, .int .i64 fz, .bool off]) ?_ rfl ?_
  exact results_cell_row rfl _ _ w.heap.size 34 _ (0, 0) _ rfl Rf.out Tryz.underlying34 rfl (by kernel_rfl)
  exact Fin.out
end Go.Proofs.YtplfnlalmcpcaaaGreat
namespace Go.Proofs.YtplfnlalmcpcaaaGreat
open Go.RowKit
set_option linter.unusedVariables false
/-- The lists of a Pager in memory of its own, from lo on, and in which order they lie. -/
def PgO (w : World) (lo : Nat) (v0 v1 v10 v11 : Value) (ss : List ByteArray) (ps lg dt : List Pt) : Prop := OT w lo v0 ss ∧ OU w lo v1 ps ∧ OG w lo v10 lg ∧ OG w lo v11 dt ∧ ∃ p1 p2 hi, Wi lo p1 v0 ∧ Wi lo p1 v1 ∧ Wi p1 p2 v10 ∧ Wi p2 hi v11 ∧ lo ≤ p1 ∧ p1 ≤ p2 ∧ p2 ≤ hi ∧ hi ≤ w.heap.size
theorem wi_none (lo hi : Nat) (n c : Nat) : Wi lo hi (.slice none n c) := fun g hg => by simp [Value.ownBlock] at hg
theorem PgO.nil (w : World) (lo : Nat) (h : lo ≤ w.heap.size) : PgO w lo (.slice none 0 0) (.slice none 0 0) (.slice none 0 0) (.slice none 0 0) [] [] [] [] :=
  ⟨ot_none _ _, ou_none _ _, og_none _ _, og_none _ _, lo, lo, lo, wi_none _ _ _ _, wi_none _ _ _ _, wi_none _ _ _ _, wi_none _ _ _ _, Nat.le_refl _, Nat.le_refl _, Nat.le_refl _, h⟩
theorem PgO.same {w w' : World} {lo r : Nat} {v0 v1 v10 v11 : Value} {ss : List ByteArray} {ps lg dt : List Pt} (h : PgO w lo v0 v1 v10 v11 ss ps lg dt) (hr : r < lo) (hk : ∀ k, k ≠ r → w'.heap[k]? = w.heap[k]?) (hs : w.heap.size ≤ w'.heap.size) : PgO w' lo v0 v1 v10 v11 ss ps lg dt := by
  obtain ⟨h0, h1, h2, h3, p1, p2, hi, i0, i1, i2, i3, r1, r2, r3, r4⟩ := h
  exact ⟨own_same h0 fun g hg => hk g (by have := own_wi h0 g hg; omega), own_same h1 fun g hg => hk g (by have := own_wi h1 g hg; omega), own_same h2 fun g hg => hk g (by have := own_wi h2 g hg; omega), own_same h3 fun g hg => hk g (by have := own_wi h3 g hg; omega), p1, p2, hi, i0, i1, i2, i3, r1, r2, r3, by omega⟩
theorem PgO.bel {w w' : World} {lo : Nat} {v0 v1 v10 v11 : Value} {ss : List ByteArray} {ps lg dt : List Pt} (h : PgO w lo v0 v1 v10 v11 ss ps lg dt) (hb : Below w.heap.size w w') : PgO w' lo v0 v1 v10 v11 ss ps lg dt := by
  obtain ⟨h0, h1, h2, h3, p1, p2, hi, i0, i1, i2, i3, r1, r2, r3, r4⟩ := h
  exact ⟨own_bel h0 hb, own_bel h1 hb, own_bel h2 hb, own_bel h3 hb, p1, p2, hi, i0, i1, i2, i3, r1, r2, r3, by have := hb.size; omega⟩
theorem Wi.wider {lo hi lo' hi' : Nat} {v : Value} (h : Wi lo hi v) (h1 : lo' ≤ lo) (h2 : hi ≤ hi') : Wi lo' hi' v := fun g hg => by have := h g hg; omega
theorem PgO.lo {w : World} {lo lo' : Nat} {v0 v1 v10 v11 : Value} {ss : List ByteArray} {ps lg dt : List Pt} (h : PgO w lo v0 v1 v10 v11 ss ps lg dt) (hl : lo' ≤ lo) : PgO w lo' v0 v1 v10 v11 ss ps lg dt := by
  obtain ⟨h0, h1, h2, h3, p1, p2, hi, i0, i1, i2, i3, r1, r2, r3, r4⟩ := h
  exact ⟨own_lo h0 hl, own_lo h1 hl, own_lo h2 hl, own_lo h3 hl, p1, p2, hi, i0.wider hl (Nat.le_refl _), i1.wider hl (Nat.le_refl _), i2, i3, by omega, r2, r3, r4⟩
/-- Another transaction behind all else. -/
theorem PgO.dirty {w w' : World} {lo : Nat} {v0 v1 v10 v11 u : Value} {ss : List ByteArray} {ps lg dt dt' : List Pt} (h : PgO w lo v0 v1 v10 v11 ss ps lg dt) (hb : Below w.heap.size w w') (hu : OG w' w.heap.size u dt') : PgO w' lo v0 v1 v10 u ss ps lg dt' := by
  have hlo : lo ≤ w.heap.size := by obtain ⟨-, -, -, -, p1, p2, hi, -, -, -, -, r1, r2, r3, r4⟩ := h; omega
  obtain ⟨h0, h1, h2, h3, p1, p2, hi, i0, i1, i2, i3, r1, r2, r3, r4⟩ := h
  exact ⟨own_bel h0 hb, own_bel h1 hb, own_bel h2 hb, own_lo hu hlo, p1, p2, w'.heap.size, i0, i1, i2, (own_wi hu).wider (by omega) (Nat.le_refl _), r1, r2, by have := hb.size; omega, Nat.le_refl _⟩
/-- A Pager in new memory, within an answer. -/
def AnsP (mk : Value → Value) (ss : List ByteArray) (ps : List Pt) (fz : Int) (off : Bool) (b l q t sq at_ : Int) (lg dt : List Pt) (w : World) (e : Ending) (w' : World) : Prop := ∃ A0 A1 A10 A11 c0 c1 c10 c11, e = .returned (mk (.agg #[.slice A0 ss.length c0, .slice A1 ps.length c1, .int .i64 fz, .bool off, .int .i64 b, .int .i64 l, .int .i64 q, .int .i64 t, .int .i64 sq, .int .i64 at_, .slice A10 lg.length c10, .slice A11 dt.length c11])) ∧ PgO w' w.heap.size (.slice A0 ss.length c0) (.slice A1 ps.length c1) (.slice A10 lg.length c10) (.slice A11 dt.length c11) ss ps lg dt ∧ Below w.heap.size w w'
theorem AnsP.end {w w3 : World} {lo r : Nat} {cs : Array Value} {mk : Value → Value} {A0 A1 A10 A11 : Option Addr} {c0 c1 c10 c11 : Nat} {ss : List ByteArray} {ps lg dt : List Pt} {fz b l q t sq at_ : Int} {off : Bool} (h : PgO w3 lo (.slice A0 ss.length c0) (.slice A1 ps.length c1) (.slice A10 lg.length c10) (.slice A11 dt.length c11) ss ps lg dt) (hr : r < lo) (hr0 : w.heap.size ≤ r) (B3 : Below w.heap.size w w3) :
    AnsP mk ss ps fz off b l q t sq at_ lg dt w (.returned (mk (.agg #[.slice A0 ss.length c0, .slice A1 ps.length c1, .int .i64 fz, .bool off, .int .i64 b, .int .i64 l, .int .i64 q, .int .i64 t, .int .i64 sq, .int .i64 at_, .slice A10 lg.length c10, .slice A11 dt.length c11]))) (w3.setRow r cs) :=
  ⟨A0, A1, A10, A11, c0, c1, c10, c11, rfl, (h.same hr (fun k hk => setRow_other _ _ k _ hk) (below_setRow (Below.refl 0 w3) (Nat.zero_le _) cs).size).lo (by omega), below_setRow B3 hr0 _⟩
theorem infoP : (Tryz.prog.info? 38).map (·.size) = some 12 := by kernel_rfl
theorem onePv (A0 A1 A10 A11 : Option Addr) (m0 c0 m1 c1 m10 c10 m11 c11 : Nat) (fz b l q t sq at_ : Int) (off : Bool) : (#[.slice A0 m0 c0, .slice A1 m1 c1, .int .i64 fz, .bool off, .int .i64 b, .int .i64 l, .int .i64 q, .int .i64 t, .int .i64 sq, .int .i64 at_, .slice A10 m10 c10, .slice A11 m11 c11] : Array Value).all (·.oneCell') = true := by simp [Value.oneCell']
end Go.Proofs.YtplfnlalmcpcaaaGreat
namespace Go.Proofs.YtplfnlalmcpcaaaGreat
open Go.RowKit
set_option linter.unusedVariables false
set_option maxHeartbeats 4000000 in
set_option maxRecDepth 100000 in
theorem l12Own_any {g : Nat} {w : World} {A0 A1 A10 A11 : Option Addr} {ss : List ByteArray} {ps lg dt : List Pt} {fz b l q t sq at_ : Int} {off : Bool} (hg : w.heap[g]? = some (.cells #[.slice A0 ss.length ss.length, .slice A1 ps.length ps.length, .int .i64 fz, .bool off, .int .i64 b, .int .i64 l, .int .i64 q, .int .i64 t, .int .i64 sq, .int .i64 at_, .slice A10 lg.length lg.length, .slice A11 dt.length dt.length] 38 (0, 0))) (h0 : RiT w.heap.size w (.slice A0 ss.length ss.length) ss) (h1 : RiU w.heap.size w (.slice A1 ps.length ps.length) ps) (h10 : RiU w.heap.size w (.slice A10 lg.length lg.length) lg) (h11 : RiU w.heap.size w (.slice A11 dt.length dt.length) dt) (z0 : ss.length ≤ 1048576) (z1 : ps.length ≤ 1048576) (z10 : lg.length ≤ 1048576) (z11 : dt.length ≤ 1048576) :
    Calls Tryz.prog 39 #[.pointer (some ⟨g, 0, none⟩)] w (AnsP id ss ps fz off b l q t sq at_ lg dt w) := by
  have hgl : g < w.heap.size := by
    rcases Nat.lt_or_ge g w.heap.size with hl | hl
    · exact hl
    · rw [Array.getElem?_eq_none hl] at hg; cases hg
  have Hg := Lib.hid hg; have H0 := Lib.hid h0; have H1 := Lib.hid h1; have H10 := Lib.hid h10; have H11 := Lib.hid h11
  have Z0 := Lib.hid z0; have Z1 := Lib.hid z1; have Z10 := Lib.hid z10; have Z11 := Lib.hid z11
  clear hg h0 h1 h10 h11 z0 z1 z10 z11
  have HS : Hid (∀ W, Below w.heap.size w W → W.cell? ⟨g, 0, none⟩ = some (.slice A0 ss.length ss.length) ∧ W.cell? ⟨g, 1, none⟩ = some (.slice A1 ps.length ps.length) ∧ W.cell? ⟨g, 2, none⟩ = some (.int .i64 fz) ∧ W.cell? ⟨g, 3, none⟩ = some (.bool off) ∧ W.cell? ⟨g, 4, none⟩ = some (.int .i64 b) ∧ W.cell? ⟨g, 5, none⟩ = some (.int .i64 l) ∧ W.cell? ⟨g, 6, none⟩ = some (.int .i64 q) ∧ W.cell? ⟨g, 7, none⟩ = some (.int .i64 t) ∧ W.cell? ⟨g, 8, none⟩ = some (.int .i64 sq) ∧ W.cell? ⟨g, 9, none⟩ = some (.int .i64 at_) ∧ W.cell? ⟨g, 10, none⟩ = some (.slice A10 lg.length lg.length) ∧ W.cell? ⟨g, 11, none⟩ = some (.slice A11 dt.length dt.length)) := Lib.hid (fun W hW => by
    have hr := (hW.block _ hgl).trans Hg.out
    exact ⟨by rw [cell_of_row _ _ _ _ _ _ hr]; rfl, by rw [cell_of_row _ _ _ _ _ _ hr]; rfl, by rw [cell_of_row _ _ _ _ _ _ hr]; rfl, by rw [cell_of_row _ _ _ _ _ _ hr]; rfl, by rw [cell_of_row _ _ _ _ _ _ hr]; rfl, by rw [cell_of_row _ _ _ _ _ _ hr]; rfl, by rw [cell_of_row _ _ _ _ _ _ hr]; rfl, by rw [cell_of_row _ _ _ _ _ _ hr]; rfl, by rw [cell_of_row _ _ _ _ _ _ hr]; rfl, by rw [cell_of_row _ _ _ _ _ _ hr]; rfl, by rw [cell_of_row _ _ _ _ _ _ hr]; rfl, by rw [cell_of_row _ _ _ _ _ _ hr]; rfl⟩)
  have B0 : Hid (Below w.heap.size w (w.alloc (.cells #[.slice none 0 0, .slice none 0 0, .int .i64 0, .bool false, .int .i64 0, .int .i64 0, .int .i64 0, .int .i64 0, .int .i64 0, .int .i64 0, .slice none 0 0, .slice none 0 0] 38)).drew) := Lib.hid ((Below.refl _ w).alloc (Nat.le_refl _) _).drew
  have R0 : Hid ((w.alloc (.cells #[.slice none 0 0, .slice none 0 0, .int .i64 0, .bool false, .int .i64 0, .int .i64 0, .int .i64 0, .int .i64 0, .int .i64 0, .int .i64 0, .slice none 0 0, .slice none 0 0] 38)).drew.heap[w.heap.size]? = some (.cells #[.slice none 0 0, .slice none 0 0, .int .i64 0, .bool false, .int .i64 0, .int .i64 0, .int .i64 0, .int .i64 0, .int .i64 0, .int .i64 0, .slice none 0 0, .slice none 0 0] 38 (0, 0))) := Lib.hid (heap_alloc_new w _)
  have L0 : Hid (w.heap.size + 1 = (w.alloc (.cells #[.slice none 0 0, .slice none 0 0, .int .i64 0, .bool false, .int .i64 0, .int .i64 0, .int .i64 0, .int .i64 0, .int .i64 0, .int .i64 0, .slice none 0 0, .slice none 0 0] 38)).drew.heap.size) := Lib.hid (by show w.heap.size + 1 = (w.alloc (.cells #[.slice none 0 0, .slice none 0 0, .int .i64 0, .bool false, .int .i64 0, .int .i64 0, .int .i64 0, .int .i64 0, .int .i64 0, .int .i64 0, .slice none 0 0, .slice none 0 0] 38)).heap.size; simp)
  have HG := Lib.hid hgl
  go_enter Tryz.func39, Tryz.ntmps39
  go_wp2_with fail
  refine wp_region_held_drew (S := fun W => W.cell? ⟨g, 0, none⟩ = some (.slice A0 ss.length ss.length) ∧ W.cell? ⟨g, 1, none⟩ = some (.slice A1 ps.length ps.length) ∧ W.cell? ⟨g, 2, none⟩ = some (.int .i64 fz) ∧ W.cell? ⟨g, 3, none⟩ = some (.bool off) ∧ W.cell? ⟨g, 4, none⟩ = some (.int .i64 b) ∧ W.cell? ⟨g, 5, none⟩ = some (.int .i64 l) ∧ W.cell? ⟨g, 6, none⟩ = some (.int .i64 q) ∧ W.cell? ⟨g, 7, none⟩ = some (.int .i64 t) ∧ W.cell? ⟨g, 8, none⟩ = some (.int .i64 sq) ∧ W.cell? ⟨g, 9, none⟩ = some (.int .i64 at_) ∧ W.cell? ⟨g, 10, none⟩ = some (.slice A10 lg.length lg.length) ∧ W.cell? ⟨g, 11, none⟩ = some (.slice A11 dt.length dt.length)) (by kernel_rfl) (HS.out _ B0.out) (fun hHeld => ?_)
  refine held_yes 0 (some 3) rfl rfl (by kernel_rfl) (by kernel_rfl) (by kernel_rfl) (fun _ _ _ h => h) (by kernel_rfl) hHeld (v := ?_) (fun wz hSw => ?_) ?_
  rotate_left 1
  · (try dsimp only at hSw); go_simp; (try with_reducible rfl)
  try simp only [Act.put, List.setIfInBounds_toArray, List.set_cons_zero, List.set_cons_succ]
  refine held_yes 1 (some 4) rfl rfl (by kernel_rfl) (by kernel_rfl) (by kernel_rfl) (fun _ _ _ h => h) (by kernel_rfl) hHeld (v := ?_) (fun wz hSw => ?_) ?_
  rotate_left 1
  · (try dsimp only at hSw); go_simp; (try with_reducible rfl)
  try simp only [Act.put, List.setIfInBounds_toArray, List.set_cons_zero, List.set_cons_succ]
  refine held_yes 2 (some 5) rfl rfl (by kernel_rfl) (by kernel_rfl) (by kernel_rfl) (fun _ _ _ h => h) (by kernel_rfl) hHeld (v := ?_) (fun wz hSw => ?_) ?_
  rotate_left 1
  · (try dsimp only at hSw); go_simp; (try with_reducible rfl)
  try simp only [Act.put, List.setIfInBounds_toArray, List.set_cons_zero, List.set_cons_succ]
  refine held_yes 4 (some 7) rfl rfl (by kernel_rfl) (by kernel_rfl) (by kernel_rfl) (fun _ _ _ h => h) (by kernel_rfl) hHeld (v := ?_) (fun wz hSw => ?_) ?_
  rotate_left 1
  · (try dsimp only at hSw); go_simp; (try with_reducible rfl)
  try simp only [Act.put, List.setIfInBounds_toArray, List.set_cons_zero, List.set_cons_succ]
  refine held_yes 5 (some 8) rfl rfl (by kernel_rfl) (by kernel_rfl) (by kernel_rfl) (fun _ _ _ h => h) (by kernel_rfl) hHeld (v := ?_) (fun wz hSw => ?_) ?_
  rotate_left 1
  · (try dsimp only at hSw); go_simp; (try with_reducible rfl)
  try simp only [Act.put, List.setIfInBounds_toArray, List.set_cons_zero, List.set_cons_succ]
  refine held_yes 6 (some 9) rfl rfl (by kernel_rfl) (by kernel_rfl) (by kernel_rfl) (fun _ _ _ h => h) (by kernel_rfl) hHeld (v := ?_) (fun wz hSw => ?_) ?_
  rotate_left 1
  · (try dsimp only at hSw); go_simp; (try with_reducible rfl)
  try simp only [Act.put, List.setIfInBounds_toArray, List.set_cons_zero, List.set_cons_succ]
  refine held_yes 7 (some 10) rfl rfl (by kernel_rfl) (by kernel_rfl) (by kernel_rfl) (fun _ _ _ h => h) (by kernel_rfl) hHeld (v := ?_) (fun wz hSw => ?_) ?_
  rotate_left 1
  · (try dsimp only at hSw); go_simp; (try with_reducible rfl)
  try simp only [Act.put, List.setIfInBounds_toArray, List.set_cons_zero, List.set_cons_succ]
  refine held_yes 8 (some 11) rfl rfl (by kernel_rfl) (by kernel_rfl) (by kernel_rfl) (fun _ _ _ h => h) (by kernel_rfl) hHeld (v := ?_) (fun wz hSw => ?_) ?_
  rotate_left 1
  · (try dsimp only at hSw); go_simp; (try with_reducible rfl)
  try simp only [Act.put, List.setIfInBounds_toArray, List.set_cons_zero, List.set_cons_succ]
  refine held_yes 9 (some 12) rfl rfl (by kernel_rfl) (by kernel_rfl) (by kernel_rfl) (fun _ _ _ h => h) (by kernel_rfl) hHeld (v := ?_) (fun wz hSw => ?_) ?_
  rotate_left 1
  · (try dsimp only at hSw); go_simp; (try with_reducible rfl)
  try simp only [Act.put, List.setIfInBounds_toArray, List.set_cons_zero, List.set_cons_succ]
  refine held_yes 10 (some 13) rfl rfl (by kernel_rfl) (by kernel_rfl) (by kernel_rfl) (fun _ _ _ h => h) (by kernel_rfl) hHeld (v := ?_) (fun wz hSw => ?_) ?_
  rotate_left 1
  · (try dsimp only at hSw); go_simp; (try with_reducible rfl)
  try simp only [Act.put, List.setIfInBounds_toArray, List.set_cons_zero, List.set_cons_succ]
  refine held_yes 11 (some 14) rfl rfl (by kernel_rfl) (by kernel_rfl) (by kernel_rfl) (fun _ _ _ h => h) (by kernel_rfl) hHeld (v := ?_) (fun wz hSw => ?_) ?_
  rotate_left 1
  · (try dsimp only at hSw); go_simp; (try with_reducible rfl)
  try simp only [Act.put, List.setIfInBounds_toArray, List.set_cons_zero, List.set_cons_succ]
  refine held_yes 12 (some 15) rfl rfl (by kernel_rfl) (by kernel_rfl) (by kernel_rfl) (fun _ _ _ h => h) (by kernel_rfl) hHeld (v := ?_) (fun wz hSw => ?_) ?_
  rotate_left 1
  · (try dsimp only at hSw); go_simp; (try with_reducible rfl)
  try simp only [Act.put, List.setIfInBounds_toArray, List.set_cons_zero, List.set_cons_succ]
  refine held_yes 13 (some 16) rfl rfl (by kernel_rfl) (by kernel_rfl) (by kernel_rfl) (fun _ _ _ h => h) (by kernel_rfl) hHeld (v := ?_) (fun wz hSw => ?_) ?_
  rotate_left 1
  · (try dsimp only at hSw); go_simp; (try with_reducible rfl)
  try simp only [Act.put, List.setIfInBounds_toArray, List.set_cons_zero, List.set_cons_succ]
  refine held_yes 14 (some 17) rfl rfl (by kernel_rfl) (by kernel_rfl) (by kernel_rfl) (fun _ _ _ h => h) (by kernel_rfl) hHeld (v := ?_) (fun wz hSw => ?_) ?_
  rotate_left 1
  · (try dsimp only at hSw); go_simp; (try with_reducible rfl)
  try simp only [Act.put, List.setIfInBounds_toArray, List.set_cons_zero, List.set_cons_succ]
  refine held_yes 15 (some 18) rfl rfl (by kernel_rfl) (by kernel_rfl) (by kernel_rfl) (fun _ _ _ h => h) (by kernel_rfl) hHeld (v := ?_) (fun wz hSw => ?_) ?_
  rotate_left 1
  · (try dsimp only at hSw); go_simp; (try with_reducible rfl)
  try simp only [Act.put, List.setIfInBounds_toArray, List.set_cons_zero, List.set_cons_succ]
  refine held_yes 16 (some 19) rfl rfl (by kernel_rfl) (by kernel_rfl) (by kernel_rfl) (fun _ _ _ h => h) (by kernel_rfl) hHeld (v := ?_) (fun wz hSw => ?_) ?_
  rotate_left 1
  · (try dsimp only at hSw); go_simp; (try with_reducible rfl)
  try simp only [Act.put, List.setIfInBounds_toArray, List.set_cons_zero, List.set_cons_succ]
  refine held_yes 17 (some 20) rfl rfl (by kernel_rfl) (by kernel_rfl) (by kernel_rfl) (fun _ _ _ h => h) (by kernel_rfl) hHeld (v := ?_) (fun wz hSw => ?_) ?_
  rotate_left 1
  · (try dsimp only at hSw); go_simp; (try with_reducible rfl)
  try simp only [Act.put, List.setIfInBounds_toArray, List.set_cons_zero, List.set_cons_succ]
  refine held_yes 18 (some 21) rfl rfl (by kernel_rfl) (by kernel_rfl) (by kernel_rfl) (fun _ _ _ h => h) (by kernel_rfl) hHeld (v := ?_) (fun wz hSw => ?_) ?_
  rotate_left 1
  · (try dsimp only at hSw); go_simp; (try with_reducible rfl)
  try simp only [Act.put, List.setIfInBounds_toArray, List.set_cons_zero, List.set_cons_succ]
  refine held_yes 19 (some 22) rfl rfl (by kernel_rfl) (by kernel_rfl) (by kernel_rfl) (fun _ _ _ h => h) (by kernel_rfl) hHeld (v := ?_) (fun wz hSw => ?_) ?_
  rotate_left 1
  · (try dsimp only at hSw); go_simp; (try with_reducible rfl)
  try simp only [Act.put, List.setIfInBounds_toArray, List.set_cons_zero, List.set_cons_succ]
  refine held_yes 21 (some 24) rfl rfl (by kernel_rfl) (by kernel_rfl) (by kernel_rfl) (fun _ _ _ h => h) (by kernel_rfl) hHeld (v := ?_) (fun wz hSw => ?_) ?_
  rotate_left 1
  · (try dsimp only at hSw); go_simp; (try with_reducible rfl)
  try simp only [Act.put, List.setIfInBounds_toArray, List.set_cons_zero, List.set_cons_succ]
  refine held_yes 22 (some 25) rfl rfl (by kernel_rfl) (by kernel_rfl) (by kernel_rfl) (fun _ _ _ h => h) (by kernel_rfl) hHeld (v := ?_) (fun wz hSw => ?_) ?_
  rotate_left 1
  · (try dsimp only at hSw); go_simp; (try with_reducible rfl)
  try simp only [Act.put, List.setIfInBounds_toArray, List.set_cons_zero, List.set_cons_succ]
  refine held_yes 23 (some 26) rfl rfl (by kernel_rfl) (by kernel_rfl) (by kernel_rfl) (fun _ _ _ h => h) (by kernel_rfl) hHeld (v := ?_) (fun wz hSw => ?_) ?_
  rotate_left 1
  · (try dsimp only at hSw); go_simp; (try with_reducible rfl)
  try simp only [Act.put, List.setIfInBounds_toArray, List.set_cons_zero, List.set_cons_succ]
  refine held_yes 24 (some 27) rfl rfl (by kernel_rfl) (by kernel_rfl) (by kernel_rfl) (fun _ _ _ h => h) (by kernel_rfl) hHeld (v := ?_) (fun wz hSw => ?_) ?_
  rotate_left 1
  · (try dsimp only at hSw); go_simp; (try with_reducible rfl)
  try simp only [Act.put, List.setIfInBounds_toArray, List.set_cons_zero, List.set_cons_succ]
  refine wpAnyH_ready (rs := [3]) (by kernel_rfl) (by simp) ?_
  refine AllReadyH.cons rfl (fun K hK => ?_) AllReadyH.nil
  go_simp
  go_at_call 87
  go_fit (l09OwnC_any (g := g) (Nat.lt_of_lt_of_le HG.out B0.out.size) (HS.out _ B0.out).1 (HS.out _ B0.out).2.1 (HS.out _ B0.out).2.2.1 (HS.out _ B0.out).2.2.2.1 (H0.out.at (Nat.le_refl _) B0.out) (H1.out.at (Nat.le_refl _) B0.out) Z0.out Z1.out)
  rintro e u1 ⟨v0, v1, rfl, hD, g1⟩
  obtain ⟨X0, x0, rfl⟩ := hD.1.ex
  obtain ⟨X1, x1, rfl⟩ := hD.2.1.ex
  have k1 := Lib.hid (B0.out.trans (g1.mono B0.out.size))
  have HD := Lib.hid hD; have G1 := Lib.hid g1; clear hD g1
  refine hK.out _ _ (HS.out _ k1.out) (fun hHeld => ?_)
  clear hK K
  try simp only [Act.put, List.setIfInBounds_toArray, List.set_cons_zero, List.set_cons_succ]
  refine wpAnyH_ready (rs := [20]) (by kernel_rfl) (by simp) ?_
  refine AllReadyH.cons rfl (fun K hK => ?_) AllReadyH.nil
  go_simp
  go_at_call 88
  go_fit (l12Pages_any (H10.out.at (Nat.le_refl _) k1.out) (Nat.le_refl _) Z10.out)
  rintro e u2 ⟨X10, x10, rfl, o10, g2⟩
  have k2 := Lib.hid (k1.out.trans (g2.mono k1.out.size))
  have O10 := Lib.hid o10; have G2 := Lib.hid g2; clear o10 g2
  refine hK.out _ _ (HS.out _ k2.out) (fun hHeld => ?_)
  clear hK K
  try simp only [Act.put, List.setIfInBounds_toArray, List.set_cons_zero, List.set_cons_succ]
  refine wpAnyH_ready (rs := [25]) (by kernel_rfl) (by simp) ?_
  refine AllReadyH.cons rfl (fun K hK => ?_) AllReadyH.nil
  go_simp
  go_at_call 88
  go_fit (l12Pages_any (H11.out.at (Nat.le_refl _) k2.out) (Nat.le_refl _) Z11.out)
  rintro e u3 ⟨X11, x11, rfl, o11, g3⟩
  have k3 := Lib.hid (k2.out.trans (g3.mono k2.out.size))
  have O11 := Lib.hid o11; have G3 := Lib.hid g3; clear o11 g3
  refine hK.out _ _ (HS.out _ k3.out) (fun hHeld => ?_)
  clear hK K
  try simp only [Act.put, List.setIfInBounds_toArray, List.set_cons_zero, List.set_cons_succ]
  refine held_yes 26 (some 29) rfl rfl (by kernel_rfl) (by kernel_rfl) (by kernel_rfl) (fun _ _ _ h => h) (by kernel_rfl) hHeld (v := ?_) (fun wz hSw => ?_) ?_
  rotate_left 1
  · (try dsimp only at hSw); go_simp; (try with_reducible rfl)
  try simp only [Act.put, List.setIfInBounds_toArray, List.set_cons_zero, List.set_cons_succ]
  refine wpAnyH_ready (rs := [27]) (by kernel_rfl) (by simp) ?_
  refine AllReadyH.cons rfl (fun K hK => ?_) AllReadyH.nil
  have Rz : Hid (u3.heap[w.heap.size]? = some (.cells #[.slice none 0 0, .slice none 0 0, .int .i64 0, .bool false, .int .i64 0, .int .i64 0, .int .i64 0, .int .i64 0, .int .i64 0, .int .i64 0, .slice none 0 0, .slice none 0 0] 38 (0, 0))) := Lib.hid ((G3.out.block _ (by have := L0.out; have := G1.out.size; have := G2.out.size; omega)).trans ((G2.out.block _ (by have := L0.out; have := G1.out.size; omega)).trans ((G1.out.block _ (by have := L0.out; omega)).trans R0.out)))
  refine wp_store_rowd none (by kernel_rfl) rfl 38 (.tmp 2) (.tmp 29) rfl w.heap.size #[.slice X0 ss.length x0, .slice X1 ps.length x1, .int .i64 fz, .bool off, .int .i64 b, .int .i64 l, .int .i64 q, .int .i64 t, .int .i64 sq, .int .i64 at_, .slice X10 lg.length x10, .slice X11 dt.length x11] rfl rfl 38 _ Rz.out infoP rfl (onePv ..) ?_
  refine hK.out _ _ (HS.out _ (below_setRow k3.out (Nat.le_refl _) _)) (fun hHeld => ?_)
  clear hK K
  try simp only [Act.put]
  refine wpAnyH_done (by kernel_rfl) ?_ _
  have Rf : Hid ((u3.setRow w.heap.size #[.slice X0 ss.length x0, .slice X1 ps.length x1, .int .i64 fz, .bool off, .int .i64 b, .int .i64 l, .int .i64 q, .int .i64 t, .int .i64 sq, .int .i64 at_, .slice X10 lg.length x10, .slice X11 dt.length x11]).heap[w.heap.size]? = some (.cells #[.slice X0 ss.length x0, .slice X1 ps.length x1, .int .i64 fz, .bool off, .int .i64 b, .int .i64 l, .int .i64 q, .int .i64 t, .int .i64 sq, .int .i64 at_, .slice X10 lg.length x10, .slice X11 dt.length x11] 38 (0, 0))) := Lib.hid (setRow_heap _ _ _ _ _ _ Rz.out)
  have Og : Hid (PgO u3 (w.heap.size + 1) (.slice X0 ss.length x0) (.slice X1 ps.length x1) (.slice X10 lg.length x10) (.slice X11 dt.length x11) ss ps lg dt) := Lib.hid ⟨own_lo (own_bel (own_bel HD.out.1 G2.out) G3.out) (Nat.le_of_eq L0.out), own_lo (own_bel (own_bel HD.out.2.1 G2.out) G3.out) (Nat.le_of_eq L0.out), own_lo (own_bel O10.out G3.out) (by have := L0.out; have := G1.out.size; omega), own_lo O11.out (by have := L0.out; have := G1.out.size; have := G2.out.size; omega), u1.heap.size, u2.heap.size, u3.heap.size, (own_wi HD.out.1).wider (Nat.le_of_eq L0.out) (Nat.le_refl _), (own_wi HD.out.2.1).wider (Nat.le_of_eq L0.out) (Nat.le_refl _), own_wi O10.out, own_wi O11.out, by have := L0.out; have := G1.out.size; omega, G2.out.size, G3.out.size, Nat.le_refl _⟩
  have Fin : Hid (AnsP id ss ps fz off b l q t sq at_ lg dt w (.returned (.agg #[.slice X0 ss.length x0, .slice X1 ps.length x1, .int .i64 fz, .bool off, .int .i64 b, .int .i64 l, .int .i64 q, .int .i64 t, .int .i64 sq, .int .i64 at_, .slice X10 lg.length x10, .slice X11 dt.length x11])) (u3.setRow w.heap.size #[.slice X0 ss.length x0, .slice X1 ps.length x1, .int .i64 fz, .bool off, .int .i64 b, .int .i64 l, .int .i64 q, .int .i64 t, .int .i64 sq, .int .i64 at_, .slice X10 lg.length x10, .slice X11 dt.length x11])) := Lib.hid (AnsP.end (mk := id) Og.out (Nat.lt_succ_self _) (Nat.le_refl _) k3.out)
  try simp only [Exit.then]
  generalize (u3.setRow w.heap.size #[.slice X0 ss.length x0, .slice X1 ps.length x1, .int .i64 fz, .bool off, .int .i64 b, .int .i64 l, .int .i64 q, .int .i64 t, .int .i64 sq, .int .i64 at_, .slice X10 lg.length x10, .slice X11 dt.length x11]) = xf at *
  go_wp2
  refine bodyPost_ret (v := .agg #[.slice X0 ss.length x0, .slice X1 ps.length x1, .int .i64 fz, .bool off, .int .i64 b, .int .i64 l, .int .i64 q, .int .i64 t, .int .i64 sq, .int .i64 at_, .slice X10 lg.length x10, .slice X11 dt.length x11]) ?_ rfl ?_
  exact results_cell_row rfl _ _ w.heap.size 38 _ (0, 0) _ rfl Rf.out Tryz.underlying38 rfl (by kernel_rfl)
  exact Fin.out
end Go.Proofs.YtplfnlalmcpcaaaGreat
namespace Go.Proofs.YtplfnlalmcpcaaaGreat
open Go.RowKit Go.Maps
set_option linter.unusedVariables false
/-- The blocks increase. -/
def Srt (L : List Pt) : Prop := L.Pairwise (fun p q => p.1 < q.1)
/-- What the list holds for a block. -/
def lkP : List Pt → Int → Option ByteArray
  | [], _ => none
  | p :: L, k => if p.1 = k then some p.2 else lkP L k
theorem mg_one (a : Pt) (L : List Pt) (k : Int) (s : ByteArray) : mg (a :: L) [(k, s)] = if a.1 < k then a :: mg L [(k, s)] else if a.1 = k then (k, s) :: L else (k, s) :: a :: L := by
  rw [mg]
  split
  · rfl
  · split
    · rw [mg_nil]
    · rw [mg_nil]
theorem lkP_none {L : List Pt} {k : Int} (h : ∀ p ∈ L, p.1 ≠ k) : lkP L k = none := by
  induction L with
  | nil => rfl
  | cons a L ih => rw [lkP, if_neg (h a (by simp)), ih (fun p hp => h p (by simp [hp]))]
theorem lkP_some {L : List Pt} {k : Int} {s : ByteArray} (h : lkP L k = some s) : (k, s) ∈ L := by
  induction L with
  | nil => cases h
  | cons a L ih =>
    rw [lkP] at h
    split at h
    · rename_i e; cases h; rw [← e]; exact List.mem_cons_self
    · exact List.mem_cons_of_mem _ (ih h)
theorem lkP_mem {L : List Pt} (hs : Srt L) {p : Pt} (h : p ∈ L) : lkP L p.1 = some p.2 := by
  induction L with
  | nil => cases h
  | cons a L ih =>
    rw [lkP]
    rcases List.mem_cons.1 h with rfl | h
    · rw [if_pos rfl]
    · have := (List.pairwise_cons.1 hs).1 p h
      rw [if_neg (by omega), ih (List.pairwise_cons.1 hs).2 h]
theorem lkP_isSome {L : List Pt} {k : Int} : (lkP L k).isSome = true ↔ k ∈ L.map (·.1) := by
  induction L with
  | nil => simp [lkP]
  | cons a L ih =>
    rw [lkP]
    split
    · rename_i e; simp [e]
    · rename_i e
      rw [ih]
      simp only [List.map_cons, List.mem_cons]
      constructor
      · intro h; exact .inr h
      · rintro (h | h)
        · exact absurd h.symm e
        · exact h
theorem lkP_mg {L : List Pt} (hs : Srt L) (k : Int) (s : ByteArray) (x : Int) : lkP (mg L [(k, s)]) x = if k = x then some s else lkP L x := by
  induction L with
  | nil => rw [mg]; simp [lkP]
  | cons a L ih =>
    have h1 := (List.pairwise_cons.1 hs).1
    have ih := ih (List.pairwise_cons.1 hs).2
    rw [mg_one]
    split
    · rename_i hlt
      rw [lkP, lkP, ih]
      by_cases e : a.1 = x
      · rw [if_pos e, if_pos e, if_neg (by omega)]
      · rw [if_neg e, if_neg e]
    · split
      · rename_i _ e
        rw [lkP, lkP]
        by_cases e2 : k = x
        · simp [e2]
        · rw [if_neg e2, if_neg e2, if_neg (by omega)]
      · rw [lkP]
theorem mg1_mem {L : List Pt} {k : Int} {s : ByteArray} {p : Pt} (h : p ∈ mg L [(k, s)]) : p = (k, s) ∨ p ∈ L := by
  induction L with
  | nil => rw [mg] at h; exact .inl (by simpa using h)
  | cons a L ih =>
    rw [mg_one] at h
    split at h
    · rcases List.mem_cons.1 h with rfl | h
      · exact .inr List.mem_cons_self
      · rcases ih h with h | h
        · exact .inl h
        · exact .inr (List.mem_cons_of_mem _ h)
    · split at h
      · rcases List.mem_cons.1 h with rfl | h
        · exact .inl rfl
        · exact .inr (List.mem_cons_of_mem _ h)
      · rcases List.mem_cons.1 h with rfl | h
        · exact .inl rfl
        · exact .inr h
theorem mg1_len (L : List Pt) (k : Int) (s : ByteArray) : (mg L [(k, s)]).length ≤ L.length + 1 := by
  induction L with
  | nil => rw [mg]; simp
  | cons a L ih =>
    rw [mg_one]
    split
    · simp only [List.length_cons]; omega
    · split <;> simp
theorem srt_mg {L : List Pt} (hs : Srt L) (k : Int) (s : ByteArray) : Srt (mg L [(k, s)]) := by
  induction L with
  | nil => rw [mg]; exact List.pairwise_singleton _ _
  | cons a L ih =>
    have h1 := (List.pairwise_cons.1 hs).1
    have h2 := (List.pairwise_cons.1 hs).2
    rw [mg_one]
    split
    · rename_i hlt
      refine List.pairwise_cons.2 ⟨fun p hp => ?_, ih h2⟩
      rcases mg1_mem hp with rfl | hp
      · exact hlt
      · exact h1 p hp
    · split
      · rename_i _ e
        exact List.pairwise_cons.2 ⟨fun p hp => by have := h1 p hp; show k < p.1; omega, h2⟩
      · rename_i e1 e2
        refine List.pairwise_cons.2 ⟨fun p hp => ?_, hs⟩
        rcases List.mem_cons.1 hp with rfl | hp
        · show k < p.1; omega
        · have := h1 p hp; show k < p.1; omega
/-- A page behind all others. -/
theorem mg_last {L : List Pt} {k : Int} {s : ByteArray} (h : ∀ p ∈ L, p.1 < k) : mg L [(k, s)] = L ++ [(k, s)] := by
  induction L with
  | nil => rw [mg]; rfl
  | cons a L ih => rw [mg_one, if_pos (h a (by simp)), ih (fun p hp => h p (by simp [hp]))]; rfl
theorem srt_of_pg {ps : List Pt} (h : pgOk ps = true) : Srt ps := by
  have hk := (pgOk_iff.1 h).2
  have step : ∀ j, j + 1 < ps.length → pgB ps j < pgB ps (j + 1) := by
    intro j hj
    have h1 := allTo_at hk hj
    simp only [pgAt, Bool.and_eq_true, Bool.or_eq_true, decide_eq_true_eq] at h1
    rcases h1.2.2 with h2 | h2
    · omega
    · exact h2
  have far : ∀ n i, i + n + 1 < ps.length → pgB ps i < pgB ps (i + n + 1) := by
    intro n
    induction n with
    | zero => intro i hi; exact step i hi
    | succ n ih => intro i hi; have a := ih i (by omega); have b := step (i + n + 1) (by omega); exact Int.lt_trans a b
  refine List.pairwise_iff_getElem.2 fun i j hi hj hij => ?_
  have := far (j - i - 1) i (by omega)
  rw [show i + (j - i - 1) + 1 = j by omega, pgB_at _ _ hi, pgB_at _ _ hj] at this
  exact this
/-! ### the map -/
def lit0 : DataW Unit := .lit (.string [])
/-- A map as it reads holds the pages of a list. -/
def Rp (D : DataW Unit) (L : List Pt) : Prop := ∀ k : Int, Maps.has D (.int .i64 k) = (lkP L k).isSome ∧ ∀ s, lkP L k = some s → D.atKey (.int .i64 k) lit0 = .lit (.string s.data.toList)
theorem lit_ne {a b : Int} (h : a ≠ b) : Lit.int .i64 a ≠ Lit.int .i64 b := fun e => h (by injection e)
theorem Rp.nil : Rp (.map []) [] := fun k => ⟨rfl, fun s h => by cases h⟩
theorem Rp.put {D : DataW Unit} {L : List Pt} (h : Rp D L) (hD : IsMap D) (hs : Srt L) (k : Int) (s : ByteArray) : Rp (D.put (.int .i64 k) (.lit (.string s.data.toList))) (mg L [(k, s)]) := fun x => by
  rw [lkP_mg hs]
  by_cases e : k = x
  · subst e
    refine ⟨by rw [has_put_same hD (show WideAt.IsKeyLit (.int .i64 k) from trivial)]; simp, fun s' h' => ?_⟩
    rw [if_pos rfl] at h'
    cases h'
    exact atKey_put_same hD (show WideAt.IsKeyLit (.int .i64 k) from trivial) _ _
  · rw [if_neg e]
    refine ⟨by rw [has_put_other (lit_ne (fun e' => e e'.symm))]; exact (h x).1, fun s' h' => ?_⟩
    rw [atKey_put_other (lit_ne (fun e' => e e'.symm))]
    exact (h x).2 s' h'
theorem Rp.del {D : DataW Unit} {p : Pt} {L : List Pt} (h : Rp D (p :: L)) (hs : Srt (p :: L)) : Rp (D.del (.int .i64 p.1)) L := fun x => by
  have h1 := (List.pairwise_cons.1 hs).1
  by_cases e : p.1 = x
  · subst e
    have hn : lkP L p.1 = none := lkP_none (fun q hq => by have := h1 q hq; omega)
    rw [hn]
    exact ⟨by rw [has_del_same]; rfl, fun s h => by cases h⟩
  · have hx := h x
    rw [lkP, if_neg e] at hx
    refine ⟨by rw [has_del_other (lit_ne (fun e' => e e'.symm))]; exact hx.1, fun s h' => ?_⟩
    rw [atKey_del_other (lit_ne (fun e' => e e'.symm))]
    exact hx.2 s h'
theorem keyL : Keyed Tryz.prog 2 := int_keyed Tryz.underlying2
/-- Block b is a map of the program that holds the pages of a list. -/
def TM (w : World) (b : Nat) (L : List Pt) : Prop := Srt L ∧ (∀ p ∈ L, InI p.1 ∧ p.2.size ≤ maxLen) ∧ ∃ D : DataW Unit, w.ownsMap Tryz.prog 2 (plainElem Tryz.prog 9) b L.length D ∧ Rp D L
theorem owns_keys {w : World} {b n : Nat} {D : DataW Unit} {L : List Pt} (h : w.ownsMap Tryz.prog 2 (plainElem Tryz.prog 9) b n D) (hs : Srt L) (hr : Rp D L) : (L.map (·.1)).Perm (intKeys D) := by
  obtain ⟨es, hD, hpw, _⟩ := h.entries keyL
  obtain ⟨es', hD', hko⟩ := h.keysOf
  obtain rfl : es = es' := by rw [hD] at hD'; simpa using hD'
  subst hD
  refine perm_intKeys hpw (fun p hp => by obtain ⟨v, hv⟩ := hko p hp; obtain ⟨x, _, hx, _⟩ := Maps.keyOf_i64 Tryz.underlying2 hv; exact ⟨x, hx⟩) ?_ (fun x => by rw [(hr x).1, lkP_isSome])
  exact List.Pairwise.map _ (fun _ _ h => by omega) hs
theorem owns_size {w : World} {b n : Nat} {D : DataW Unit} {L : List Pt} (h : w.ownsMap Tryz.prog 2 (plainElem Tryz.prog 9) b n D) (hs : Srt L) (hr : Rp D L) : Maps.size D = L.length := by
  have hp := (owns_keys h hs hr).length_eq
  rw [List.length_map] at hp
  obtain ⟨es, rfl⟩ := h.isMap
  rw [hp]
  exact (List.length_map _).symm
theorem owns_fit {w : World} {b n : Nat} {D : DataW Unit} {L : List Pt} (h : w.ownsMap Tryz.prog 2 (plainElem Tryz.prog 9) b n D) (hs : Srt L) (hr : Rp D L) : w.ownsMap Tryz.prog 2 (plainElem Tryz.prog 9) b L.length D := by
  have hz := owns_size h hs hr
  obtain ⟨es, clock, hb, F, _, rfl⟩ := h
  refine ⟨es, clock, hb, F, ?_, rfl⟩
  rw [← hz]
  simp [Maps.size, length_sorted]
theorem TM.lt {w : World} {b : Nat} {L : List Pt} (h : TM w b L) : b < w.heap.size := by obtain ⟨_, _, D, h, _⟩ := h; exact h.lt
theorem TM.same {w w' : World} {b : Nat} {L : List Pt} (h : TM w b L) (hb : w'.heap[b]? = w.heap[b]?) : TM w' b L := by
  obtain ⟨h1, h2, D, ⟨es, clock, h3, h4⟩, h5⟩ := h
  exact ⟨h1, h2, D, ⟨es, clock, hb.trans h3, h4⟩, h5⟩
theorem TM.below {w w' : World} {b : Nat} {L : List Pt} (h : TM w b L) (hb : Below w.heap.size w w') : TM w' b L := h.same (hb.block _ h.lt)
theorem TM.made (w : World) : TM (w.alloc (.map #[] 0)) w.heap.size [] := ⟨List.Pairwise.nil, fun p hp => (by cases hp), _, World.ownsMap_made w _ _ _, Rp.nil⟩
theorem TM.put {w : World} {b : Nat} {L : List Pt} (h : TM w b L) (k : Int) (s : ByteArray) (hk : InI k) (hz : s.size ≤ maxLen) (hl : L.length < maxLen) :
    ∃ w', (Instr.mapUpdate 131 (.map (some b)) (.int .i64 k) (.string s)).run Tryz.prog w = .ok () w' ∧ TM w' b (mg L [(k, s)]) ∧ w.mapTurned w' b := by
  obtain ⟨h1, h2, D, hown, hr⟩ := h
  have hw : (Lit.int .i64 k).wf = true := by unfold InI at hk; simp [Lit.wf, IntKind.min, IntKind.max, IntKind.signed, IntKind.bits]; omega
  obtain ⟨w', r1, r2, r3⟩ := hown.store keyL Tryz.underlying131 hl (keyOf_int_mk Tryz.underlying2 hw) (plainElem_string Tryz.underlying9 hz)
  have hr' := hr.put hown.isMap h1 k s
  exact ⟨w', r1, ⟨srt_mg h1 k s, fun p hp => (mg1_mem hp).elim (fun e => e ▸ ⟨hk, hz⟩) (h2 p), _, owns_fit r2 (srt_mg h1 k s) hr', hr'⟩, r3⟩
theorem zeroS (w : World) : (zeroValue 9).run Tryz.prog w = .ok (.string ByteArray.empty) w := by kernel_rfl
theorem plain_string {v : Value} {x : List UInt8} {ps : List MemPlace} (h : plainElem (H := Unit) Tryz.prog 9 v = some (.lit (.string x), ps)) : ∃ s : ByteArray, v = .string s ∧ s.data.toList = x := by
  cases v <;> simp only [plainElem, Tryz.underlying9] at h <;> try (cases h; done)
  split at h
  · cases h; exact ⟨_, rfl, rfl⟩
  · cases h
theorem TM.get {w : World} {b : Nat} {L : List Pt} (h : TM w b L) {p : Pt} (hp : p ∈ L) :
    (Instr.lookup 131 (.map (some b)) (.int .i64 p.1) false).run Tryz.prog w = .ok (.string p.2) w := by
  obtain ⟨h1, h2, D, hown, hr⟩ := h
  have hk := (h2 p hp).1
  have hw : (Lit.int .i64 p.1).wf = true := by unfold InI at hk; simp [Lit.wf, IntKind.min, IntKind.max, IntKind.signed, IntKind.bits]; omega
  obtain ⟨v, ps, r1, r2⟩ := hown.lookup keyL Tryz.underlying131 (zeroS w) (zd := lit0) (zp := []) (plainElem_string Tryz.underlying9 (by decide)) (keyOf_int_mk Tryz.underlying2 hw)
  rw [(hr p.1).2 p.2 (lkP_mem h1 hp)] at r2
  obtain ⟨s, rfl, hs⟩ := plain_string r2
  rw [r1]
  have : s = p.2 := by rcases s with ⟨⟨x⟩⟩; obtain ⟨a, ⟨⟨y⟩⟩⟩ := p; simp at hs; subst hs; rfl
  rw [this]
theorem TM.del {w : World} {b : Nat} {p : Pt} {L : List Pt} (h : TM w b (p :: L)) (ty : TypeId) :
    ∃ w', (Builtin.delete_ #[131, 2] ty #[.map (some b), .int .i64 p.1]).run Tryz.prog w = .ok (.tuple #[]) w' ∧ TM w' b L ∧ w.mapTurned w' b := by
  obtain ⟨h1, h2, D, hown, hr⟩ := h
  have hk := (h2 p (by simp)).1
  have hw : (Lit.int .i64 p.1).wf = true := by unfold InI at hk; simp [Lit.wf, IntKind.min, IntKind.max, IntKind.signed, IntKind.bits]; omega
  obtain ⟨w', r1, r2, r3⟩ := hown.drop keyL Tryz.underlying131 (keyOf_int_mk Tryz.underlying2 hw) ty
  have hr' := hr.del h1
  have hs := (List.pairwise_cons.1 h1).2
  exact ⟨w', r1, ⟨hs, fun q hq => h2 q (by simp [hq]), _, owns_fit r2 hs hr', hr'⟩, r3⟩
theorem TM.len {w : World} {b : Nat} {L : List Pt} (h : TM w b L) (ty : TypeId) : (Builtin.len_ #[131] ty #[.map (some b)]).run Tryz.prog w = .ok (.int .i64 (L.length : Nat)) w := by
  obtain ⟨h1, h2, D, hown, hr⟩ := h
  rw [hown.len Tryz.underlying131, owns_size hown h1 hr]
theorem TM.clear {w : World} {b : Nat} {L : List Pt} (h : TM w b L) (ty : TypeId) :
    ∃ w', (Builtin.clear_ #[131] ty #[.map (some b)]).run Tryz.prog w = .ok (.tuple #[]) w' ∧ TM w' b [] ∧ w.mapTurned w' b := by
  obtain ⟨h1, h2, D, ⟨es, clock, hb, F, hn, rfl⟩, hr⟩ := h
  refine ⟨_, by simp [Builtin.clear_, run_underlying Tryz.underlying131, MapKept.run_getObj_map hb, MapKept.run_setObj_map _ hb, Result.andThen]; rfl, ⟨List.Pairwise.nil, fun p hp => (by cases hp), _, ⟨#[], _, ChangeMaps.heap_setBlock_same hb _, ⟨by simp, ?_, by simp⟩, Nat.le_refl _, rfl⟩, Rp.nil⟩, ⟨es, clock, _, _, hb, rfl⟩⟩
  exact Go.MapKept.stamped_empty _
end Go.Proofs.YtplfnlalmcpcaaaGreat
namespace Go.Proofs.YtplfnlalmcpcaaaGreat
open Go.RowKit Go.Maps
set_option linter.unusedVariables false
theorem sortsA (m : Nat) : AnyZI.SortsIn Tryz.prog Tryz.sortedA_ren Fence.wide m :=
  ⟨fun blk off cap ss W hH hblk hsz => callsIn_wide.2 (AnyM.slices_Sort_int Tryz.sortA blk off cap ss W hH hblk hsz),
   fun p cap W => callsIn_wide.2 (AnyM.slices_Sort_int_none Tryz.sortA p cap W)⟩
theorem mapKeys_any (mb : Option Nat) (W : World) : Calls Tryz.prog 177 #[.map mb] W fun e w' => e = .returned (.func (.func 190) #[] #[.pointer (some ⟨W.heap.size, 0, none⟩)]) ∧ w' = W.alloc (.cells #[.map mb] 131) :=
  callsIn_wide.1 (AnyZI.keys_in Tryz.keysA Fence.wide 5 trivial rfl mb W)
theorem sorted_self {l : List Int} (h : l.Pairwise (· < ·)) : l.mergeSort (fun x y => decide (x ≤ y)) = l :=
  List.mergeSort_of_pairwise (h.imp fun h => by simp; omega)
theorem srt_keys {L : List Pt} (h : Srt L) : (L.map (·.1)).Pairwise (· < ·) := List.pairwise_map.2 h
/-- The keys of a map, sorted: a slice in new memory. -/
theorem sortedKeys_any {w : World} {b : Nat} {L : List Pt} (h : TM w b L) (hl : L.length ≤ 1048576) :
    Calls Tryz.prog 176 #[.func (.func 190) #[] #[.pointer (some ⟨w.heap.size, 0, none⟩)]] (w.alloc (.cells #[.map (some b)] 131)) fun e w' => ∃ A c, e = .returned (.slice A L.length c) ∧
      w'.ownsRow (w.heap.size + 1) 2 1 (.slice A L.length c) L.length ((L.map (·.1)).map (Value.int .i64)) ∧ Below w.heap.size w w' := by
  obtain ⟨h1, h2, D, hown, hr⟩ := h
  have hz := owns_size hown h1 hr
  have hp := owns_keys hown h1 hr
  have hbl := hown.lt
  have hseq : SeqGives Fence.wide 2 Tryz.prog 190 #[.pointer (some ⟨w.heap.size, 0, none⟩)] encZ (fun ss => ss.Perm (intKeys D)) (Maps.size D) (w.alloc (.cells #[.map (some b)] 131)) :=
    AnyZI.keys_gives (ρ := Tryz.keysA_ren) { Tryz.keysA with } Fence.wide _ trivial rfl (by omega) w.heap.size b L.length D _ (by simp) (by simp) (by
      obtain ⟨es, clock, hb, Ft, hs, hD⟩ := hown
      exact ⟨es, clock, (Below.heap_alloc _ _ b hbl).trans hb, Ft, hs, hD⟩)
  have cS := AnyZI.sorted_in Tryz.sortedA Fence.wide 5 trivial trivial trivial trivial rfl (by omega) (sortsA _) (enters_of Tryz.func189 (by kernel_rfl) rfl) 190 #[.pointer (some ⟨w.heap.size, 0, none⟩)] trivial (enters_of Tryz.func190 (by kernel_rfl) rfl) _ _ (by unfold maxLen; omega) (by omega) _ hseq
  change CallsIn _ _ Tryz.prog 176 _ _ _ at cS
  refine (callsIn_wide.1 cS).mono ?_
  rintro e w' ⟨v, ss, rfl, hS, hrow, hnil, hb⟩
  have hlen : ss.length = L.length := by rw [(hS.trans hp.symm).length_eq, List.length_map]
  have hsort : ss.mergeSort (fun x y => decide (x ≤ y)) = L.map (·.1) := by
    rw [mergeSort_of_perm_i (hS.trans hp.symm)]
    exact sorted_self (srt_keys h1)
  have hrow2 : w'.ownsRow (w.heap.size + 1) 2 1 v L.length ((L.map (·.1)).map (Value.int .i64)) := by
    have := hrow
    rw [hsort, hlen] at this
    have e : (w.alloc (.cells #[.map (some b)] 131)).heap.size = w.heap.size + 1 := by simp
    rw [e] at this
    exact this
  have hB : Below w.heap.size w w' := ((Below.refl _ w).alloc (Nat.le_refl _) _).trans (hb.mono (by simp))
  obtain ⟨A, c, rfl⟩ : ∃ A c, v = .slice A L.length c := by
    rcases own_sl hrow2 with ⟨rfl, h0⟩ | ⟨g, cap, rfl, _⟩
    · exact ⟨none, 0, by rw [h0]⟩
    · exact ⟨_, _, rfl⟩
  exact ⟨A, c, rfl, hrow2, hB⟩
/-- 'delete' of the first page's key, for the walk. -/
theorem wpList_tmDel (w : World) {ops : Array Oper} {rest : List Oper} {o : Oper} {a : Act} {Q : Exit → Act → World → Prop} (hg : o.guard = none) (m x : Operand) (hop : o.op = Op.call { callee := Callee.builtin Builtin.delete, args := #[m, x], argTypes := #[131, 2] })
    (b : Nat) (p : Pt) (L : List Pt) (hm : a.eval m = .map (some b)) (hown : TM w b (p :: L)) (hx : a.eval x = .int .i64 p.1) (hK : ∀ w', TM w' b L → w.mapTurned w' b → wpList Tryz.prog ops Q rest (a.put o.dst (.tuple #[])) w') : wpList Tryz.prog ops Q (o :: rest) a w := by
  refine wpList_plain hg fun K' hK' => ?_
  obtain ⟨w', hrun, r1, r2⟩ := hown.del o.type
  unfold Oper.wp
  simp [execOp, hop, resolve, invoke, builtin, hm, hx, hrun, Result.andThen]
  exact hK' _ _ (hK w' r1 r2)
/-- A store into the map, for the walk. -/
theorem wpList_tmPut (w : World) {ops : Array Oper} {rest : List Oper} {o : Oper} {a : Act} {Q : Exit → Act → World → Prop} (hg : o.guard = none) (m x v : Operand) (hop : o.op = Op.mapUpdate 131 m x v)
    (b : Nat) (k : Int) (s : ByteArray) (L : List Pt) (hm : a.eval m = .map (some b)) (hown : TM w b L) (hl : L.length < maxLen) (hk : InI k) (hz : s.size ≤ maxLen) (hx : a.eval x = .int .i64 k) (hv : a.eval v = .string s) (hK : ∀ w', TM w' b (mg L [(k, s)]) → w.mapTurned w' b → wpList Tryz.prog ops Q rest (a.put o.dst undef) w') : wpList Tryz.prog ops Q (o :: rest) a w := by
  refine wpList_plain hg fun K' hK' => ?_
  obtain ⟨w', hrun, r1, r2⟩ := hown.put k s hk hz hl
  unfold Oper.wp
  simp [execOp, hop, hm, hx, hv, hrun, Result.andThen]
  exact hK' _ _ (hK w' r1 r2)
/-- 'clear', for the walk. -/
theorem wpList_tmClear (w : World) {ops : Array Oper} {rest : List Oper} {o : Oper} {a : Act} {Q : Exit → Act → World → Prop} (hg : o.guard = none) (m : Operand) (hop : o.op = Op.call { callee := Callee.builtin Builtin.clear, args := #[m], argTypes := #[131] })
    (b : Nat) (L : List Pt) (hm : a.eval m = .map (some b)) (hown : TM w b L) (hK : ∀ w', TM w' b [] → w.mapTurned w' b → wpList Tryz.prog ops Q rest (a.put o.dst (.tuple #[])) w') : wpList Tryz.prog ops Q (o :: rest) a w := by
  refine wpList_plain hg fun K' hK' => ?_
  obtain ⟨w', hrun, r1, r2⟩ := hown.clear o.type
  unfold Oper.wp
  simp [execOp, hop, resolve, invoke, builtin, hm, hrun, Result.andThen]
  exact hK' _ _ (hK w' r1 r2)
theorem wpList_tmLen (w : World) {ops : Array Oper} {rest : List Oper} {o : Oper} {a : Act} {Q : Exit → Act → World → Prop} (hg : o.guard = none) (m : Operand) (hop : o.op = Op.call { callee := Callee.builtin Builtin.len, args := #[m], argTypes := #[131] })
    (b : Nat) (L : List Pt) (hm : a.eval m = .map (some b)) (hown : TM w b L) (hK : wpList Tryz.prog ops Q rest (a.put o.dst (.int .i64 (L.length : Nat))) w) : wpList Tryz.prog ops Q (o :: rest) a w := by
  refine wpList_plain hg fun K' hK' => ?_
  unfold Oper.wp
  simp [execOp, hop, resolve, invoke, builtin, hm, hown.len o.type, Result.andThen]
  exact hK' _ _ hK
theorem TM.grown {w w' : World} {b : Nat} {L : List Pt} {row : Option Nat} (h : TM w b L) (hg : w.grownBy w' row) (hne : row ≠ some b) : TM w' b L := h.same (hg.block b h.lt (fun e => hne e.symm))
theorem TM.ne {w : World} {b lo n sz : Nat} {L : List Pt} {v : Value} {T : TypeId} {vs : List Value} (h : TM w b L) (ho : w.ownsRow lo T sz v n vs) : v.ownBlock ≠ some b := fun e => by
  obtain ⟨_, _, D, ⟨es, clock, hb, _⟩, _⟩ := h
  rcases ho.2 with ⟨rfl, -⟩ | ⟨g, cap, cur, rfl, -, hc, -⟩
  · simp [Value.ownBlock] at e
  · simp [Value.ownBlock] at e
    subst e
    rw [hb] at hc
    cases hc
end Go.Proofs.YtplfnlalmcpcaaaGreat
namespace Go.Proofs.YtplfnlalmcpcaaaGreat
open Go.RowKit Go.Maps
set_option linter.unusedVariables false
theorem own_ne {w : World} {lo lo' sz sz' n n' : Nat} {T T' : TypeId} {v v' : Value} {vs vs' : List Value} (hT : T ≠ T') (h1 : w.ownsRow lo T sz v n vs) (h2 : w.ownsRow lo' T' sz' v' n' vs') : ∀ g, v.ownBlock = some g → v'.ownBlock ≠ some g := fun g hg he => by
  rcases h1.2 with ⟨rfl, -⟩ | ⟨g1, cap1, cur1, rfl, -, hc1, -⟩
  · simp [Value.ownBlock] at hg
  · rcases h2.2 with ⟨rfl, -⟩ | ⟨g2, cap2, cur2, rfl, -, hc2, -⟩
    · simp [Value.ownBlock] at he
    · simp [Value.ownBlock] at hg he
      subst hg; subst he
      rw [hc1] at hc2
      injection hc2 with hc2
      injection hc2 with _ hc2
      exact hT hc2
theorem own_grown {w w' : World} {lo sz n : Nat} {T : TypeId} {v : Value} {vs : List Value} {row : Option Nat} (h : w.ownsRow lo T sz v n vs) (hg : w.grownBy w' row) (hne : ∀ g, v.ownBlock = some g → row ≠ some g) : w'.ownsRow lo T sz v n vs :=
  own_same h fun g hv => hg.block g (own_wi h g hv).2 (fun e => hne g hv e.symm)
theorem keyCell {w : World} {lo c : Nat} {A : Option Addr} {L : List Pt} (h : w.ownsRow lo 2 1 (.slice A L.length c) L.length ((L.map (·.1)).map (Value.int .i64))) (j : Nat) (hj : j < L.length) : ∃ g, A = some ⟨g, 0, none⟩ ∧ lo ≤ g ∧ g < w.heap.size ∧ w.cell? ⟨g, j, none⟩ = some (.int .i64 L[j].1) := by
  have h2 : OI w lo (.slice A L.length c) (L.map (·.1)) := by unfold OI; rw [List.length_map]; exact h
  rcases own_sl h with ⟨-, h0⟩ | ⟨g, cap, e, h3, h4, -, -⟩
  · omega
  · obtain rfl : A = some ⟨g, 0, none⟩ := (Value.slice.inj e).1
    have h5 : OI w lo (.slice (some ⟨g, 0, none⟩) (L.map (·.1)).length c) (L.map (·.1)) := by rw [List.length_map]; exact h2
    have := OI.cell h5 j (by simpa using hj)
    exact ⟨g, rfl, h3, h4, by simpa using this⟩
def TaI (L : List Pt) (b : Nat) (w : World) (kv : Value) (lv iv : Value) (wr : World) : Prop := ∃ j : Nat, j ≤ L.length ∧ iv = .int .i64 (j : Int) ∧ OG wr w.heap.size lv (L.take j) ∧ TM wr b (L.drop j) ∧ wr.ownsRow (w.heap.size + 1) 2 1 kv L.length ((L.map (·.1)).map (Value.int .i64)) ∧ w.grownBy wr (some b)
set_option maxHeartbeats 2000000 in
set_option maxRecDepth 100000 in
theorem takeAll_any {w : World} {b : Nat} {L : List Pt} (h : TM w b L) (hl : L.length ≤ 1048576) :
    Calls Tryz.prog 145 #[.map (some b)] w fun e w' => ∃ A c, e = .returned (.slice A L.length c) ∧ OG w' w.heap.size (.slice A L.length c) L ∧ w.grownBy w' (some b) := by
  have H := Lib.hid h; clear h
  go_enter Tryz.func145, Tryz.ntmps145
  go_wp2_with (go_at_call 177; refine (mapKeys_any (some b) _).mono ?_; rintro e w1 ⟨rfl, rfl⟩)
  refine (sortedKeys_any H.out hl).mono ?_
  rintro e w1 ⟨A, c, rfl, ho, g⟩
  have Ho := Lib.hid ho; have G := Lib.hid g; clear ho g
  have T1 := Lib.hid (H.out.below G.out)
  go_wp2_with fail
  go_loopw [3, 10] (fun lv iv wr => TaI L b w (.slice A L.length c) lv iv wr) (fun _ iv _ => L.length - (intOf iv).toNat)
  case atStart => exact ⟨0, Nat.zero_le _, rfl, by rw [List.take_zero]; exact og_none _ _, T1.out, Ho.out, Lib.grownBy_below (World.grownBy.refl w (some b)) G.out⟩
  case round =>
    obtain ⟨j, hj, rfl, hown, htm, hkey, hgr⟩ := hrel
    have Hown := Lib.hid hown; have Htm := Lib.hid htm; have Hkey := Lib.hid hkey; have Hgr := Lib.hid hgr
    obtain ⟨VA, vc, rfl⟩ := OG.opened hown
    clear hown htm hkey hgr
    by_cases hlt : j < L.length
    · have d1 : decide ((j : Int) < (L.length : Int)) = true := decide_eq_true (by omega)
      obtain ⟨kb, rfl, hk1, hk2, hc⟩ := keyCell Hkey.out j hlt
      have e1 : L.drop j = L[j] :: L.drop (j + 1) := List.drop_eq_getElem_cons hlt
      have e2 : L.take (j + 1) = L.take j ++ [L[j]] := List.take_succ_eq_append_getElem hlt
      have Htm2 : Hid (TM wr b (L[j] :: L.drop (j + 1))) := Lib.hid (by rw [← e1]; exact Htm.out)
      have HE := Lib.hid e2
      have HTL : Hid ((L.take j).length ≤ 1048576) := Lib.hid (by rw [List.length_take]; omega)
      clear e1 e2 Htm
      generalize hp : L[j] = p at *
      generalize L.take j = Tj at *
      generalize hD : L.drop (j + 1) = Dj at *
      have HD := Lib.hid hD
      clear hp hD
      have hget := Htm2.out.get (p := p) (by simp)
      have Hsz : Hid (w.heap.size ≤ wr.heap.size) := Lib.hid Hgr.out.size
      have Hbl : Hid (b < w.heap.size) := Lib.hid H.out.lt
      have Hn1 := Lib.hid (Htm2.out.ne Hown.out)
      have Hn2 := Lib.hid (own_ne (by decide) Hkey.out Hown.out)
      go_wp2_with (first | (at_builtin; refine wpList_pushG (W := wr) (v := .slice VA Tj.length vc) (lo := w.heap.size) (ps := Tj) (k := p.1) (x := p.2) rfl (.tmp 14) (.tmp 20) rfl rfl rfl rfl Hown.out Hsz.out HTL.out ?_; intro g4 cap4 w4 ow4 gr4 lt4; have Ho4 := Lib.hid ow4; have Hg4 := Lib.hid gr4; clear ow4 gr4; have Ht4 : Hid (TM w4 b (p :: Dj)) := Lib.hid ((Htm2.out.below ((Below.refl _ _).alloc (Nat.le_refl _) _)).grown Hg4.out Hn1.out); have Hk4 : Hid (w4.ownsRow _ _ _ _ _ _) := Lib.hid (own_grown (own_bel Hkey.out ((Below.refl _ _).alloc (Nat.le_refl _) _)) Hg4.out Hn2.out); have Hw4 : Hid (w.grownBy w4 (some b)) := Lib.hid (Hgr.out.andThen ((World.grownBy_alloc wr _ (Value.ownBlock (.slice VA Tj.length vc))).trans Hg4.out) (fun q hq => .inl (own_wi Hown.out q hq).1))) | (refine wpList_tmDel _ rfl _ _ rfl b p Dj rfl Ht4.out rfl ?_; intro w5 t5 m5; have Ht5 := Lib.hid t5; have Hm5 := Lib.hid m5; clear t5 m5))
      have Ho5 : Hid (OG w5 w.heap.size (.slice (some ⟨g4, 0, none⟩) (Tj ++ [p]).length cap4) (Tj ++ [p])) := Lib.hid (own_grown Ho4.out Hm5.out.grown (fun q hq e => by cases e; have := own_wi Ho4.out b hq; have := Hbl.out; omega))
      have Hk5 := Lib.hid (own_grown Hk4.out Hm5.out.grown (fun q hq e => by cases e; have := own_wi Hk4.out b hq; have := Hbl.out; omega))
      have Hw5 : Hid (w.grownBy w5 (some b)) := Lib.hid (Hw4.out.trans Hm5.out.grown)
      go_roundw
      case rel => exact ⟨j + 1, by omega, by go_num, by rw [HE.out]; simpa using Ho5.out, by rw [HD.out]; exact Ht5.out, Hk5.out, Hw5.out⟩
      case measure => simp [intOf]; omega
    · have d1 : decide ((j : Int) < (L.length : Int)) = false := decide_eq_false (by omega)
      obtain rfl : j = L.length := by omega
      have Ho : Hid (OG wr w.heap.size (.slice VA L.length vc) L) := Lib.hid (by have := Hown.out; simpa using this)
      rw [List.take_length] at *
      go_wp2_with fail
      go_ret
      exact ⟨_, _, rfl, Ho.out, Hgr.out⟩
def ToI (dt : List Pt) (w : World) (iv : Value) (wr : World) : Prop := ∃ j : Nat, j ≤ dt.length ∧ iv = .int .i64 (j : Int) ∧ TM wr (w.heap.size + 1) (dt.take j) ∧ Below w.heap.size w wr
theorem srt_take {L : List Pt} (h : Srt L) {j : Nat} (hj : j < L.length) : mg (L.take j) [(L[j].1, L[j].2)] = L.take (j + 1) := by
  rw [mg_last, List.take_succ_eq_append_getElem hj]
  intro p hp
  obtain ⟨i, hi, rfl⟩ := List.getElem_of_mem hp
  rw [List.length_take] at hi
  rw [List.getElem_take]
  exact List.pairwise_iff_getElem.1 h i j (by omega) hj (by omega)
set_option maxHeartbeats 2000000 in
set_option maxRecDepth 100000 in
theorem transactionOf_any {B : Nat} {w : World} {v0 v1 v10 v11 : Value} {fz b l q t sq at_ : Int} {off : Bool} {dt : List Pt} (h11 : RiU B w v11 dt) (hB : B ≤ w.heap.size) (hs : Srt dt) (hl : dt.length ≤ 1048576) :
    Calls Tryz.prog 98 #[.agg #[v0, v1, .int .i64 fz, .bool off, .int .i64 b, .int .i64 l, .int .i64 q, .int .i64 t, .int .i64 sq, .int .i64 at_, v10, v11]] w fun e w' => e = .returned (.map (some (w.heap.size + 1))) ∧ TM w' (w.heap.size + 1) dt ∧ Below w.heap.size w w' := by
  have H11 := Lib.hid h11
  have Hwf := Lib.hid h11.wf
  have Hs := Lib.hid hs; clear hs
  obtain ⟨A11, c11, rfl, l11, m11, x11⟩ := h11
  have X11 := Lib.hid x11; clear x11 l11 m11
  have hmm := @run_makeMap Tryz.prog
  have E1 : (w.alloc (.cells #[v0, v1, .int .i64 fz, .bool off, .int .i64 b, .int .i64 l, .int .i64 q, .int .i64 t, .int .i64 sq, .int .i64 at_, v10, .slice A11 dt.length c11] 38)).heap.size = w.heap.size + 1 := by simp
  have T0 : Hid (TM ((w.alloc (.cells #[v0, v1, .int .i64 fz, .bool off, .int .i64 b, .int .i64 l, .int .i64 q, .int .i64 t, .int .i64 sq, .int .i64 at_, v10, .slice A11 dt.length c11] 38)).alloc (.map #[] 0)) (w.heap.size + 1) []) := Lib.hid (E1 ▸ TM.made (w.alloc (.cells #[v0, v1, .int .i64 fz, .bool off, .int .i64 b, .int .i64 l, .int .i64 q, .int .i64 t, .int .i64 sq, .int .i64 at_, v10, .slice A11 dt.length c11] 38)))
  have B0 : Hid (Below w.heap.size w ((w.alloc (.cells #[v0, v1, .int .i64 fz, .bool off, .int .i64 b, .int .i64 l, .int .i64 q, .int .i64 t, .int .i64 sq, .int .i64 at_, v10, .slice A11 dt.length c11] 38)).alloc (.map #[] 0))) := Lib.hid (((Below.refl _ w).alloc (Nat.le_refl _) _).alloc (by simp) _)
  clear E1
  go_enter Tryz.func98, Tryz.ntmps98
  go_wp2_with fail
  go_loopw [10] (fun iv wr => ToI dt w iv wr) (fun iv _ => dt.length - (intOf iv).toNat)
  case atStart => exact ⟨0, Nat.zero_le _, rfl, by rw [List.take_zero]; exact T0.out, B0.out⟩
  case round =>
    obtain ⟨j, hj, rfl, htm, hbel⟩ := hrel
    have Htm := Lib.hid htm; have Hbel := Lib.hid hbel; clear htm hbel
    by_cases hlt : j < dt.length
    · have d1 : decide ((j : Int) < (dt.length : Int)) = true := decide_eq_true (by omega)
      obtain ⟨bb, o, rfl, hb, hc, hd, -, -⟩ := X11.out j hlt
      have g1 := (Hbel.out.cell (p := ⟨bb, o + j * 2, none⟩) (show bb < _ by omega)).trans hc
      have k1 := (Hbel.out.cell (p := ⟨bb, o + j * 2 + 1, none⟩) (show bb < _ by omega)).trans hd
      have Hld := Lib.hid (run_load_cells (P := Tryz.prog) wr bb (o + j * 2) 77 _ [.int .i64 dt[j].1, .string dt[j].2] (two_cells g1 k1) Tryz.underlying77 (by kernel_rfl))
      have HE := Lib.hid (srt_take Hs.out hlt)
      have HW := Lib.hid (Hwf.out dt[j] (List.getElem_mem hlt))
      have HTL : Hid ((dt.take j).length < maxLen) := Lib.hid (by rw [List.length_take]; unfold maxLen; omega)
      clear hc hd g1 k1
      generalize hp : dt[j] = p at *
      generalize dt.take j = Tj at *
      clear hp
      have Htm2 : Hid (TM (wr.alloc (.cells #[.int .i64 p.1, .string p.2] 77)) (w.heap.size + 1) Tj) := Lib.hid (Htm.out.below ((Below.refl _ _).alloc (Nat.le_refl _) _))
      have Hb2 : Hid (Below w.heap.size w (wr.alloc (.cells #[.int .i64 p.1, .string p.2] 77))) := Lib.hid (Hbel.out.alloc Hbel.out.size _)
      go_wp2_with (first | (refine wpList_load_agg rfl 77 (.tmp 12) rfl _ rfl _ Hld.out ?_) | (refine wpList_tmPut _ rfl _ _ _ rfl (w.heap.size + 1) p.1 p.2 Tj rfl Htm2.out HTL.out HW.out.1 HW.out.2 rfl rfl ?_; intro w5 t5 m5; have Ht5 := Lib.hid t5; have Hm5 := Lib.hid m5; clear t5 m5))
      go_roundw
      case rel => exact ⟨j + 1, by omega, by go_num, by rw [← HE.out]; exact Ht5.out, Hb2.out.grown Hm5.out.grown Hb2.out.size (fun k hk => by cases hk; omega)⟩
      case measure => simp [intOf]; omega
    · have d1 : decide ((j : Int) < (dt.length : Int)) = false := decide_eq_false (by omega)
      obtain rfl : j = dt.length := by omega
      rw [List.take_length] at *
      go_wp2_with fail
      go_ret
      exact ⟨rfl, Htm.out, Hbel.out⟩
end Go.Proofs.YtplfnlalmcpcaaaGreat
namespace Go.Proofs.YtplfnlalmcpcaaaGreat
open Go.RowKit
set_option linter.unusedVariables false
def sT {α : Type} (ok : Bool) (x : List α) : List α := if ok then x else []
def sI (ok : Bool) (x : Int) : Int := if ok then x else 0
def sB (ok x : Bool) : Bool := ok && x
def mkC (c : Int) (p : Value) : Value := .tuple #[p, .int .i64 c]
def mkA (a c : Int) (p : Value) : Value := .tuple #[p, .int .i64 a, .int .i64 c]
theorem AnsP.zero {w w1 : World} {r : Nat} {cs : Array Value} {mk : Value → Value} {ss : List ByteArray} {ps lg dt : List Pt} {fz b l q t sq at_ : Int} {off : Bool} {ok : Bool} (ho : ok = false) (hr0 : w.heap.size ≤ r) (hr : r < w1.heap.size) (B1 : Below w.heap.size w w1) :
    AnsP mk (sT ok ss) (sT ok ps) (sI ok fz) (sB ok off) (sI ok b) (sI ok l) (sI ok q) (sI ok t) (sI ok sq) (sI ok at_) (sT ok lg) (sT ok dt) w (.returned (mk (.agg #[.slice none 0 0, .slice none 0 0, .int .i64 0, .bool false, .int .i64 0, .int .i64 0, .int .i64 0, .int .i64 0, .int .i64 0, .int .i64 0, .slice none 0 0, .slice none 0 0]))) (w1.setRow r cs) := by
  subst ho
  exact AnsP.end (lo := r + 1) (A0 := none) (A1 := none) (A10 := none) (A11 := none) (c0 := 0) (c1 := 0) (c10 := 0) (c11 := 0) (PgO.nil w1 (r + 1) hr) (Nat.lt_succ_self _) hr0 B1
theorem AnsP.full {w w' : World} {e : Ending} {mk : Value → Value} {ss : List ByteArray} {ps lg dt : List Pt} {fz b l q t sq at_ : Int} {off : Bool} {ok : Bool} (ho : ok = true) (h : AnsP mk ss ps fz off b l q t sq at_ lg dt w e w') : AnsP mk (sT ok ss) (sT ok ps) (sI ok fz) (sB ok off) (sI ok b) (sI ok l) (sI ok q) (sI ok t) (sI ok sq) (sI ok at_) (sT ok lg) (sT ok dt) w e w' := by
  subst ho
  exact h
set_option maxHeartbeats 2000000 in
set_option maxRecDepth 100000 in
theorem l12Set_any {B g : Nat} {w : World} {v0 v1 v10 v11 : Value} {fz b l q t sq at_ : Int} {off : Bool} {dt : List Pt} {k : Int} {s : ByteArray} (hg : w.heap[g]? = some (.cells #[v0, v1, .int .i64 fz, .bool off, .int .i64 b, .int .i64 l, .int .i64 q, .int .i64 t, .int .i64 sq, .int .i64 at_, v10, v11] 38 (0, 0))) (h11 : RiU B w v11 dt) (hB : B ≤ w.heap.size) (ld : dt.length ≤ 256) (hk : InI k) (hs : s.size ≤ maxLen) :
    Calls Tryz.prog 40 #[.pointer (some ⟨g, 0, none⟩), .int .i64 k, .string s] w fun e w' => e = .returned (.bool (ftOk l ((mg dt [(k, s)]).length : Int))) ∧ w.grownBy w' (some g) ∧
      (ftOk l ((mg dt [(k, s)]).length : Int) = true → ∃ A c, w'.heap[g]? = some (.cells #[v0, v1, .int .i64 fz, .bool off, .int .i64 b, .int .i64 l, .int .i64 q, .int .i64 t, .int .i64 sq, .int .i64 at_, v10, .slice A (mg dt [(k, s)]).length c] 38 (0, 0)) ∧ OG w' w.heap.size (.slice A (mg dt [(k, s)]).length c) (mg dt [(k, s)])) := by
  have hgl : g < w.heap.size := by
    rcases Nat.lt_or_ge g w.heap.size with hl | hl
    · exact hl
    · rw [Array.getElem?_eq_none hl] at hg; cases hg
  have HG := Lib.hid hg; clear hg
  have H11 := Lib.hid h11; obtain ⟨A11, c11, rfl, -, -, -⟩ := h11
  have GL := Lib.hid hgl
  have D0 : Hid (Below w.heap.size w (w.alloc (.cells #[.int .i64 k, .string s] 77))) := Lib.hid ((Below.refl _ w).alloc (Nat.le_refl _) _)
  have P0 : Hid (RiU (w.alloc (.cells #[.int .i64 k, .string s] 77)).heap.size (w.alloc (.cells #[.int .i64 k, .string s] 77)) (.slice (some ⟨w.heap.size, 0, none⟩) 1 1) [(k, s)]) := Lib.hid ⟨_, 1, rfl, Nat.le_refl _, by decide, fun i hi => by
    obtain rfl : i = 0 := by simpa using hi
    refine ⟨w.heap.size, 0, rfl, by simp, ?_, ?_, hk, hs⟩
    · rw [cell_of_row _ _ _ _ _ _ (heap_alloc_new w _)]; rfl
    · rw [cell_of_row _ _ _ _ _ _ (heap_alloc_new w _)]; rfl⟩
  have c11' : w.cell? ⟨g, 11, none⟩ = some (.slice A11 dt.length c11) := by rw [cell_of_row _ _ _ _ _ _ HG.out]; rfl
  have ML := Lib.hid (mg1_len dt k s)
  have C1 := Lib.hid (l11Merge_any (H11.out.at hB D0.out) P0.out (Nat.le_refl _) ld (by simp))
  generalize mg dt [(k, s)] = M at *
  have F1 := Lib.hid (fun w1 => l12Fits_any (w := w1) (n0 := b) (n1 := l) (n2 := q) (n3 := t) M.length)
  generalize ftOk l (M.length : Int) = r at *
  go_enter Tryz.func40, Tryz.ntmps40
  go_wp2_with fail
  clear c11'
  refine C1.out.mono ?_
  rintro e w1 ⟨v, rfl, ho, g1⟩
  obtain ⟨A, c, rfl⟩ := OG.opened ho
  have B1 := Lib.hid (D0.out.trans (g1.mono D0.out.size))
  have O1 : Hid (OG w1 w.heap.size (.slice A M.length c) M) := Lib.hid (own_lo ho D0.out.size)
  have R1 := Lib.hid ((B1.out.block _ hgl).trans HG.out)
  clear ho g1
  have Hld := Lib.hid (run_load_cells (P := Tryz.prog) w1 g 4 35 _ [.int .i64 b, .int .i64 l, .int .i64 q, .int .i64 t] (row_part R1.out (by intro j u hj; rcases j with _ | _ | _ | _ | j; all_goals first | exact hj | simp at hj)) Tryz.underlying35 rfl)
  go_wp2_with (refine wpList_load_agg rfl 35 (.tmp 19) rfl _ rfl _ Hld.out ?_)
  clear Hld
  refine (F1.out _).mono ?_
  rintro e w2 ⟨rfl, g2⟩
  have B2 := Lib.hid (B1.out.trans (g2.mono B1.out.size))
  have O2 := Lib.hid (own_bel O1.out g2)
  have R2 := Lib.hid ((B2.out.block _ hgl).trans HG.out)
  clear g2
  cases r
  · go_wp2_with fail
    go_ret
    exact ⟨rfl, Lib.grownBy_below (World.grownBy.refl w (some g)) B2.out, fun h => by cases h⟩
  · have f0 : w2.frozen? ⟨g, 11, none⟩ = false := by simp [World.frozen?, R2.out]
    have c0 : w2.cell? ⟨g, 11, none⟩ = some (.slice A11 dt.length c11) := by rw [cell_of_row _ _ _ _ _ _ R2.out]; rfl
    go_wp2_with fail
    go_ret
    refine ⟨rfl, ?_, A, c, ?_, ?_⟩
    · exact Lib.grownBy_trans (Lib.grownBy_below (World.grownBy.refl w (some g)) B2.out) (Lib.grownBy_setCell w2 g 11 _)
    · rw [heap_setCell_same _ g 11 _ _ _ R2.out]; rfl
    · exact own_same O2.out fun j hj => heap_setCell_other _ ⟨g, 11, none⟩ _ _ (by have := own_wi O2.out j hj; have := GL.out; simp only; omega)
end Go.Proofs.YtplfnlalmcpcaaaGreat
namespace Go.Proofs.YtplfnlalmcpcaaaGreat
open Go.RowKit Go.Maps
set_option linter.unusedVariables false
theorem grown_blk {w w' : World} {b r : Nat} {x : Obj} (hg : w.grownBy w' (some b)) (hr : r < w.heap.size) (hne : r ≠ b) (h : w.heap[r]? = some x) : w'.heap[r]? = some x := (hg.block r hr (by simpa using hne)).trans h
theorem size_setCell (w : World) (a : Addr) (v : Value) : (w.setCell a v).heap.size = w.heap.size := by simp [World.setCell]
set_option maxHeartbeats 4000000 in
set_option maxRecDepth 100000 in
theorem copyWith_any {B m : Nat} {w : World} {v0 v1 v10 v11 : Value} {ss : List ByteArray} {ps lg dt : List Pt} {fz b l q t sq at_ : Int} {off : Bool} {L : List Pt} (h0 : RiT B w v0 ss) (h1 : RiU B w v1 ps) (h10 : RiU B w v10 lg) (h11 : RiU B w v11 dt) (hB : B ≤ w.heap.size) (z0 : ss.length ≤ 1048576) (z1 : ps.length ≤ 1048576) (z10 : lg.length ≤ 1048576) (hm : TM w m L) (hl : L.length ≤ 1048576) :
    Calls Tryz.prog 99 #[.agg #[v0, v1, .int .i64 fz, .bool off, .int .i64 b, .int .i64 l, .int .i64 q, .int .i64 t, .int .i64 sq, .int .i64 at_, v10, v11], .map (some m)] w fun e w' => ∃ X0 X1 X10 X11 x0 x1 x10 x11, e = .returned (.agg #[.slice X0 ss.length x0, .slice X1 ps.length x1, .int .i64 fz, .bool off, .int .i64 b, .int .i64 l, .int .i64 q, .int .i64 t, .int .i64 sq, .int .i64 at_, .slice X10 lg.length x10, .slice X11 L.length x11]) ∧ PgO w' w.heap.size (.slice X0 ss.length x0) (.slice X1 ps.length x1) (.slice X10 lg.length x10) (.slice X11 L.length x11) ss ps lg L ∧ w.grownBy w' (some m) := by
  have H0 := Lib.hid h0; have H1 := Lib.hid h1; have H10 := Lib.hid h10
  obtain ⟨A0, c0, rfl, -, -, -⟩ := h0
  obtain ⟨A1, c1, rfl, -, -, -⟩ := h1
  obtain ⟨A10, c10, rfl, -, -, -⟩ := h10
  obtain ⟨A11, c11, rfl, -, -, -⟩ := h11
  have Hm := Lib.hid hm; clear hm
  have ML := Lib.hid Hm.out.lt
  have B0 : Hid (Below w.heap.size w ((w.alloc (.cells #[.slice A0 ss.length c0, .slice A1 ps.length c1, .int .i64 fz, .bool off, .int .i64 b, .int .i64 l, .int .i64 q, .int .i64 t, .int .i64 sq, .int .i64 at_, .slice A10 lg.length c10, .slice A11 dt.length c11] 38)).alloc (.cells #[.slice none 0 0, .slice none 0 0, .int .i64 0, .bool false, .int .i64 0, .int .i64 0, .int .i64 0, .int .i64 0, .int .i64 0, .int .i64 0, .slice none 0 0, .slice none 0 0] 38))) := Lib.hid (((Below.refl _ w).alloc (Nat.le_refl _) _).alloc (by simp) _)
  have R0 : Hid (((w.alloc (.cells #[.slice A0 ss.length c0, .slice A1 ps.length c1, .int .i64 fz, .bool off, .int .i64 b, .int .i64 l, .int .i64 q, .int .i64 t, .int .i64 sq, .int .i64 at_, .slice A10 lg.length c10, .slice A11 dt.length c11] 38)).alloc (.cells #[.slice none 0 0, .slice none 0 0, .int .i64 0, .bool false, .int .i64 0, .int .i64 0, .int .i64 0, .int .i64 0, .int .i64 0, .int .i64 0, .slice none 0 0, .slice none 0 0] 38)).heap[w.heap.size]? = some (.cells #[.slice A0 ss.length c0, .slice A1 ps.length c1, .int .i64 fz, .bool off, .int .i64 b, .int .i64 l, .int .i64 q, .int .i64 t, .int .i64 sq, .int .i64 at_, .slice A10 lg.length c10, .slice A11 dt.length c11] 38 (0, 0))) := Lib.hid (heap_alloc2_old w _ _)
  have Q0 : Hid (((w.alloc (.cells #[.slice A0 ss.length c0, .slice A1 ps.length c1, .int .i64 fz, .bool off, .int .i64 b, .int .i64 l, .int .i64 q, .int .i64 t, .int .i64 sq, .int .i64 at_, .slice A10 lg.length c10, .slice A11 dt.length c11] 38)).alloc (.cells #[.slice none 0 0, .slice none 0 0, .int .i64 0, .bool false, .int .i64 0, .int .i64 0, .int .i64 0, .int .i64 0, .int .i64 0, .int .i64 0, .slice none 0 0, .slice none 0 0] 38)).heap[w.heap.size + 1]? = some (.cells #[.slice none 0 0, .slice none 0 0, .int .i64 0, .bool false, .int .i64 0, .int .i64 0, .int .i64 0, .int .i64 0, .int .i64 0, .int .i64 0, .slice none 0 0, .slice none 0 0] 38 (0, 0))) := Lib.hid (heap_alloc2_new w _ _)
  have Z0 : Hid (w.heap.size + 2 ≤ ((w.alloc (.cells #[.slice A0 ss.length c0, .slice A1 ps.length c1, .int .i64 fz, .bool off, .int .i64 b, .int .i64 l, .int .i64 q, .int .i64 t, .int .i64 sq, .int .i64 at_, .slice A10 lg.length c10, .slice A11 dt.length c11] 38)).alloc (.cells #[.slice none 0 0, .slice none 0 0, .int .i64 0, .bool false, .int .i64 0, .int .i64 0, .int .i64 0, .int .i64 0, .int .i64 0, .int .i64 0, .slice none 0 0, .slice none 0 0] 38)).heap.size) := Lib.hid (by simp)
  go_enter Tryz.func99, Tryz.ntmps99
  go_wp2_with fail
  generalize ((w.alloc (.cells #[.slice A0 ss.length c0, .slice A1 ps.length c1, .int .i64 fz, .bool off, .int .i64 b, .int .i64 l, .int .i64 q, .int .i64 t, .int .i64 sq, .int .i64 at_, .slice A10 lg.length c10, .slice A11 dt.length c11] 38)).alloc (.cells #[.slice none 0 0, .slice none 0 0, .int .i64 0, .bool false, .int .i64 0, .int .i64 0, .int .i64 0, .int .i64 0, .int .i64 0, .int .i64 0, .slice none 0 0, .slice none 0 0] 38)) = w0 at *
  refine (clT_any (H0.out.at hB B0.out) (Nat.le_refl _) z0).mono ?_
  rintro e u1 ⟨X0, x0, rfl, o, g⟩
  have Zu : Hid (w0.heap.size ≤ u1.heap.size) := Lib.hid g.size
  have Ru : Hid (u1.heap[w.heap.size]? = some (.cells #[.slice A0 ss.length c0, .slice A1 ps.length c1, .int .i64 fz, .bool off, .int .i64 b, .int .i64 l, .int .i64 q, .int .i64 t, .int .i64 sq, .int .i64 at_, .slice A10 lg.length c10, .slice A11 dt.length c11] 38 (0, 0))) := Lib.hid ((g.block _ (by have := Z0.out; omega)).trans R0.out)
  have Qu : Hid (u1.heap[w.heap.size + 1]? = some (.cells #[.slice none 0 0, .slice none 0 0, .int .i64 0, .bool false, .int .i64 0, .int .i64 0, .int .i64 0, .int .i64 0, .int .i64 0, .int .i64 0, .slice none 0 0, .slice none 0 0] 38 (0, 0))) := Lib.hid ((g.block _ (by have := Z0.out; omega)).trans Q0.out)
  have O0u : Hid (OT u1 (w.heap.size + 2) (.slice X0 ss.length x0) ss) := Lib.hid (own_lo o Z0.out)
  have I0 : Hid (Wi w0.heap.size u1.heap.size (.slice X0 ss.length x0)) := Lib.hid (own_wi o)
  have B1 : Hid (Below w.heap.size w (u1.setCell ⟨w.heap.size, 0, none⟩ (.slice X0 ss.length x0))) := Lib.hid ((B0.out.trans (g.mono (by have := Z0.out; omega))).setCell (p := ⟨w.heap.size, 0, none⟩) (Nat.le_refl _) _)
  have R1 : Hid ((u1.setCell ⟨w.heap.size, 0, none⟩ (.slice X0 ss.length x0)).heap[w.heap.size]? = some (.cells #[.slice X0 ss.length x0, .slice A1 ps.length c1, .int .i64 fz, .bool off, .int .i64 b, .int .i64 l, .int .i64 q, .int .i64 t, .int .i64 sq, .int .i64 at_, .slice A10 lg.length c10, .slice A11 dt.length c11] 38 (0, 0))) := Lib.hid (by rw [heap_setCell_same _ w.heap.size 0 _ _ _ Ru.out]; rfl)
  have HSC : Hid (∀ q, q ≠ w.heap.size → (u1.setCell ⟨w.heap.size, 0, none⟩ (.slice X0 ss.length x0)).heap[q]? = u1.heap[q]?) := Lib.hid (fun q hq => heap_setCell_other _ ⟨w.heap.size, 0, none⟩ q _ hq)
  have Q1 : Hid ((u1.setCell ⟨w.heap.size, 0, none⟩ (.slice X0 ss.length x0)).heap[w.heap.size + 1]? = some (.cells #[.slice none 0 0, .slice none 0 0, .int .i64 0, .bool false, .int .i64 0, .int .i64 0, .int .i64 0, .int .i64 0, .int .i64 0, .int .i64 0, .slice none 0 0, .slice none 0 0] 38 (0, 0))) := Lib.hid ((HSC.out _ (by omega)).trans Qu.out)
  have Z1 : Hid (w.heap.size + 2 ≤ (u1.setCell ⟨w.heap.size, 0, none⟩ (.slice X0 ss.length x0)).heap.size) := Lib.hid (by rw [size_setCell]; have := Z0.out; have := Zu.out; omega)
  have Y1 : Hid ((u1.setCell ⟨w.heap.size, 0, none⟩ (.slice X0 ss.length x0)).heap.size = u1.heap.size) := Lib.hid (size_setCell _ _ _)
  have T1 : Hid (w0.heap.size ≤ u1.heap.size) := Zu
  have O0_1 : Hid (OT (u1.setCell ⟨w.heap.size, 0, none⟩ (.slice X0 ss.length x0)) (w.heap.size + 2) (.slice X0 ss.length x0) ss) := Lib.hid (own_same O0u.out fun q hq => HSC.out q (by have := own_wi O0u.out q hq; omega))
  have q1 : u1.cell? ⟨w.heap.size, 0, none⟩ = some (.slice A0 ss.length c0) := by rw [cell_of_row _ _ _ _ _ _ Ru.out]; rfl
  have q2 : u1.frozen? ⟨w.heap.size, 0, none⟩ = false := by simp [World.frozen?, Ru.out]
  have q3 : u1.cell? ⟨w.heap.size, 1, none⟩ = some (.slice A1 ps.length c1) := by rw [cell_of_row _ _ _ _ _ _ Ru.out]; rfl
  clear o g
  go_wp2_with fail
  clear q1 q2 q3 HSC Zu Ru Qu O0u
  generalize (u1.setCell ⟨w.heap.size, 0, none⟩ (.slice X0 ss.length x0)) = w1 at *
  refine (clU_any (H1.out.at hB B1.out) (Nat.le_refl _) z1).mono ?_
  rintro e u2 ⟨X1, x1, rfl, o, g⟩
  have Zu : Hid (w1.heap.size ≤ u2.heap.size) := Lib.hid g.size
  have Ru : Hid (u2.heap[w.heap.size]? = some (.cells #[.slice X0 ss.length x0, .slice A1 ps.length c1, .int .i64 fz, .bool off, .int .i64 b, .int .i64 l, .int .i64 q, .int .i64 t, .int .i64 sq, .int .i64 at_, .slice A10 lg.length c10, .slice A11 dt.length c11] 38 (0, 0))) := Lib.hid ((g.block _ (by have := Z1.out; omega)).trans R1.out)
  have Qu : Hid (u2.heap[w.heap.size + 1]? = some (.cells #[.slice none 0 0, .slice none 0 0, .int .i64 0, .bool false, .int .i64 0, .int .i64 0, .int .i64 0, .int .i64 0, .int .i64 0, .int .i64 0, .slice none 0 0, .slice none 0 0] 38 (0, 0))) := Lib.hid ((g.block _ (by have := Z1.out; omega)).trans Q1.out)
  have O0u : Hid (OT u2 (w.heap.size + 2) (.slice X0 ss.length x0) ss) := Lib.hid (own_bel O0_1.out g)
  have O1u : Hid (OU u2 (w.heap.size + 2) (.slice X1 ps.length x1) ps) := Lib.hid (own_lo o Z1.out)
  have I1 : Hid (Wi w1.heap.size u2.heap.size (.slice X1 ps.length x1)) := Lib.hid (own_wi o)
  have B2 : Hid (Below w.heap.size w (u2.setCell ⟨w.heap.size, 1, none⟩ (.slice X1 ps.length x1))) := Lib.hid ((B1.out.trans (g.mono (by have := Z1.out; omega))).setCell (p := ⟨w.heap.size, 1, none⟩) (Nat.le_refl _) _)
  have R2 : Hid ((u2.setCell ⟨w.heap.size, 1, none⟩ (.slice X1 ps.length x1)).heap[w.heap.size]? = some (.cells #[.slice X0 ss.length x0, .slice X1 ps.length x1, .int .i64 fz, .bool off, .int .i64 b, .int .i64 l, .int .i64 q, .int .i64 t, .int .i64 sq, .int .i64 at_, .slice A10 lg.length c10, .slice A11 dt.length c11] 38 (0, 0))) := Lib.hid (by rw [heap_setCell_same _ w.heap.size 1 _ _ _ Ru.out]; rfl)
  have HSC : Hid (∀ q, q ≠ w.heap.size → (u2.setCell ⟨w.heap.size, 1, none⟩ (.slice X1 ps.length x1)).heap[q]? = u2.heap[q]?) := Lib.hid (fun q hq => heap_setCell_other _ ⟨w.heap.size, 1, none⟩ q _ hq)
  have Q2 : Hid ((u2.setCell ⟨w.heap.size, 1, none⟩ (.slice X1 ps.length x1)).heap[w.heap.size + 1]? = some (.cells #[.slice none 0 0, .slice none 0 0, .int .i64 0, .bool false, .int .i64 0, .int .i64 0, .int .i64 0, .int .i64 0, .int .i64 0, .int .i64 0, .slice none 0 0, .slice none 0 0] 38 (0, 0))) := Lib.hid ((HSC.out _ (by omega)).trans Qu.out)
  have Z2 : Hid (w.heap.size + 2 ≤ (u2.setCell ⟨w.heap.size, 1, none⟩ (.slice X1 ps.length x1)).heap.size) := Lib.hid (by rw [size_setCell]; have := Z1.out; have := Zu.out; omega)
  have Y2 : Hid ((u2.setCell ⟨w.heap.size, 1, none⟩ (.slice X1 ps.length x1)).heap.size = u2.heap.size) := Lib.hid (size_setCell _ _ _)
  have T2 : Hid (w1.heap.size ≤ u2.heap.size) := Zu
  have O0_2 : Hid (OT (u2.setCell ⟨w.heap.size, 1, none⟩ (.slice X1 ps.length x1)) (w.heap.size + 2) (.slice X0 ss.length x0) ss) := Lib.hid (own_same O0u.out fun q hq => HSC.out q (by have := own_wi O0u.out q hq; omega))
  have O1_2 : Hid (OU (u2.setCell ⟨w.heap.size, 1, none⟩ (.slice X1 ps.length x1)) (w.heap.size + 2) (.slice X1 ps.length x1) ps) := Lib.hid (own_same O1u.out fun q hq => HSC.out q (by have := own_wi O1u.out q hq; omega))
  have q1 : u2.cell? ⟨w.heap.size, 1, none⟩ = some (.slice A1 ps.length c1) := by rw [cell_of_row _ _ _ _ _ _ Ru.out]; rfl
  have q2 : u2.frozen? ⟨w.heap.size, 1, none⟩ = false := by simp [World.frozen?, Ru.out]
  have q3 : u2.cell? ⟨w.heap.size, 10, none⟩ = some (.slice A10 lg.length c10) := by rw [cell_of_row _ _ _ _ _ _ Ru.out]; rfl
  clear o g
  go_wp2_with fail
  clear q1 q2 q3 HSC Zu Ru Qu O0u O1u
  generalize (u2.setCell ⟨w.heap.size, 1, none⟩ (.slice X1 ps.length x1)) = w2 at *
  refine (clG_any (H10.out.at hB B2.out) (Nat.le_refl _) z10).mono ?_
  rintro e u3 ⟨X10, x10, rfl, o, g⟩
  have Zu : Hid (w2.heap.size ≤ u3.heap.size) := Lib.hid g.size
  have Ru : Hid (u3.heap[w.heap.size]? = some (.cells #[.slice X0 ss.length x0, .slice X1 ps.length x1, .int .i64 fz, .bool off, .int .i64 b, .int .i64 l, .int .i64 q, .int .i64 t, .int .i64 sq, .int .i64 at_, .slice A10 lg.length c10, .slice A11 dt.length c11] 38 (0, 0))) := Lib.hid ((g.block _ (by have := Z2.out; omega)).trans R2.out)
  have Qu : Hid (u3.heap[w.heap.size + 1]? = some (.cells #[.slice none 0 0, .slice none 0 0, .int .i64 0, .bool false, .int .i64 0, .int .i64 0, .int .i64 0, .int .i64 0, .int .i64 0, .int .i64 0, .slice none 0 0, .slice none 0 0] 38 (0, 0))) := Lib.hid ((g.block _ (by have := Z2.out; omega)).trans Q2.out)
  have O0u : Hid (OT u3 (w.heap.size + 2) (.slice X0 ss.length x0) ss) := Lib.hid (own_bel O0_2.out g)
  have O1u : Hid (OU u3 (w.heap.size + 2) (.slice X1 ps.length x1) ps) := Lib.hid (own_bel O1_2.out g)
  have O2u : Hid (OG u3 (w.heap.size + 2) (.slice X10 lg.length x10) lg) := Lib.hid (own_lo o Z2.out)
  have I2 : Hid (Wi w2.heap.size u3.heap.size (.slice X10 lg.length x10)) := Lib.hid (own_wi o)
  have B3 : Hid (Below w.heap.size w (u3.setCell ⟨w.heap.size, 10, none⟩ (.slice X10 lg.length x10))) := Lib.hid ((B2.out.trans (g.mono (by have := Z2.out; omega))).setCell (p := ⟨w.heap.size, 10, none⟩) (Nat.le_refl _) _)
  have R3 : Hid ((u3.setCell ⟨w.heap.size, 10, none⟩ (.slice X10 lg.length x10)).heap[w.heap.size]? = some (.cells #[.slice X0 ss.length x0, .slice X1 ps.length x1, .int .i64 fz, .bool off, .int .i64 b, .int .i64 l, .int .i64 q, .int .i64 t, .int .i64 sq, .int .i64 at_, .slice X10 lg.length x10, .slice A11 dt.length c11] 38 (0, 0))) := Lib.hid (by rw [heap_setCell_same _ w.heap.size 10 _ _ _ Ru.out]; rfl)
  have HSC : Hid (∀ q, q ≠ w.heap.size → (u3.setCell ⟨w.heap.size, 10, none⟩ (.slice X10 lg.length x10)).heap[q]? = u3.heap[q]?) := Lib.hid (fun q hq => heap_setCell_other _ ⟨w.heap.size, 10, none⟩ q _ hq)
  have Q3 : Hid ((u3.setCell ⟨w.heap.size, 10, none⟩ (.slice X10 lg.length x10)).heap[w.heap.size + 1]? = some (.cells #[.slice none 0 0, .slice none 0 0, .int .i64 0, .bool false, .int .i64 0, .int .i64 0, .int .i64 0, .int .i64 0, .int .i64 0, .int .i64 0, .slice none 0 0, .slice none 0 0] 38 (0, 0))) := Lib.hid ((HSC.out _ (by omega)).trans Qu.out)
  have Z3 : Hid (w.heap.size + 2 ≤ (u3.setCell ⟨w.heap.size, 10, none⟩ (.slice X10 lg.length x10)).heap.size) := Lib.hid (by rw [size_setCell]; have := Z2.out; have := Zu.out; omega)
  have Y3 : Hid ((u3.setCell ⟨w.heap.size, 10, none⟩ (.slice X10 lg.length x10)).heap.size = u3.heap.size) := Lib.hid (size_setCell _ _ _)
  have T3 : Hid (w2.heap.size ≤ u3.heap.size) := Zu
  have O0_3 : Hid (OT (u3.setCell ⟨w.heap.size, 10, none⟩ (.slice X10 lg.length x10)) (w.heap.size + 2) (.slice X0 ss.length x0) ss) := Lib.hid (own_same O0u.out fun q hq => HSC.out q (by have := own_wi O0u.out q hq; omega))
  have O1_3 : Hid (OU (u3.setCell ⟨w.heap.size, 10, none⟩ (.slice X10 lg.length x10)) (w.heap.size + 2) (.slice X1 ps.length x1) ps) := Lib.hid (own_same O1u.out fun q hq => HSC.out q (by have := own_wi O1u.out q hq; omega))
  have O2_3 : Hid (OG (u3.setCell ⟨w.heap.size, 10, none⟩ (.slice X10 lg.length x10)) (w.heap.size + 2) (.slice X10 lg.length x10) lg) := Lib.hid (own_same O2u.out fun q hq => HSC.out q (by have := own_wi O2u.out q hq; omega))
  have q1 : u3.cell? ⟨w.heap.size, 10, none⟩ = some (.slice A10 lg.length c10) := by rw [cell_of_row _ _ _ _ _ _ Ru.out]; rfl
  have q2 : u3.frozen? ⟨w.heap.size, 10, none⟩ = false := by simp [World.frozen?, Ru.out]
  have q3 : u3.cell? ⟨w.heap.size, 11, none⟩ = some (.slice A11 dt.length c11) := by rw [cell_of_row _ _ _ _ _ _ Ru.out]; rfl
  clear o g
  go_wp2_with fail
  clear q1 q2 q3 HSC Zu Ru Qu O0u O1u O2u
  generalize (u3.setCell ⟨w.heap.size, 10, none⟩ (.slice X10 lg.length x10)) = w3 at *
  refine (takeAll_any (Hm.out.below B3.out) hl).mono ?_
  rintro e u4 ⟨X11, x11, rfl, o, g⟩
  have Zu : Hid (w3.heap.size ≤ u4.heap.size) := Lib.hid g.size
  have Ru : Hid (u4.heap[w.heap.size]? = some (.cells #[.slice X0 ss.length x0, .slice X1 ps.length x1, .int .i64 fz, .bool off, .int .i64 b, .int .i64 l, .int .i64 q, .int .i64 t, .int .i64 sq, .int .i64 at_, .slice X10 lg.length x10, .slice A11 dt.length c11] 38 (0, 0))) := Lib.hid ((g.block _ (by have := Z3.out; omega) (by have := ML.out; simp; omega)).trans R3.out)
  have Qu : Hid (u4.heap[w.heap.size + 1]? = some (.cells #[.slice none 0 0, .slice none 0 0, .int .i64 0, .bool false, .int .i64 0, .int .i64 0, .int .i64 0, .int .i64 0, .int .i64 0, .int .i64 0, .slice none 0 0, .slice none 0 0] 38 (0, 0))) := Lib.hid ((g.block _ (by have := Z3.out; omega) (by have := ML.out; simp; omega)).trans Q3.out)
  have O0u : Hid (OT u4 (w.heap.size + 2) (.slice X0 ss.length x0) ss) := Lib.hid (own_grown O0_3.out g (fun q hq e => by cases e; have := own_wi O0_3.out m hq; have := ML.out; omega))
  have O1u : Hid (OU u4 (w.heap.size + 2) (.slice X1 ps.length x1) ps) := Lib.hid (own_grown O1_3.out g (fun q hq e => by cases e; have := own_wi O1_3.out m hq; have := ML.out; omega))
  have O2u : Hid (OG u4 (w.heap.size + 2) (.slice X10 lg.length x10) lg) := Lib.hid (own_grown O2_3.out g (fun q hq e => by cases e; have := own_wi O2_3.out m hq; have := ML.out; omega))
  have O3u : Hid (OG u4 (w.heap.size + 2) (.slice X11 L.length x11) L) := Lib.hid (own_lo o Z3.out)
  have I3 : Hid (Wi w3.heap.size u4.heap.size (.slice X11 L.length x11)) := Lib.hid (own_wi o)
  have G4 : Hid (w.grownBy (u4.setCell ⟨w.heap.size, 11, none⟩ (.slice X11 L.length x11)) (some m)) := Lib.hid (((Lib.grownBy_below (World.grownBy.refl w (some m)) B3.out).trans g).andThen (Lib.grownBy_setCell u4 w.heap.size 11 _) (fun q hq => .inl (by cases hq; exact Nat.le_refl _)))
  have R4 : Hid ((u4.setCell ⟨w.heap.size, 11, none⟩ (.slice X11 L.length x11)).heap[w.heap.size]? = some (.cells #[.slice X0 ss.length x0, .slice X1 ps.length x1, .int .i64 fz, .bool off, .int .i64 b, .int .i64 l, .int .i64 q, .int .i64 t, .int .i64 sq, .int .i64 at_, .slice X10 lg.length x10, .slice X11 L.length x11] 38 (0, 0))) := Lib.hid (by rw [heap_setCell_same _ w.heap.size 11 _ _ _ Ru.out]; rfl)
  have HSC : Hid (∀ q, q ≠ w.heap.size → (u4.setCell ⟨w.heap.size, 11, none⟩ (.slice X11 L.length x11)).heap[q]? = u4.heap[q]?) := Lib.hid (fun q hq => heap_setCell_other _ ⟨w.heap.size, 11, none⟩ q _ hq)
  have Q4 : Hid ((u4.setCell ⟨w.heap.size, 11, none⟩ (.slice X11 L.length x11)).heap[w.heap.size + 1]? = some (.cells #[.slice none 0 0, .slice none 0 0, .int .i64 0, .bool false, .int .i64 0, .int .i64 0, .int .i64 0, .int .i64 0, .int .i64 0, .int .i64 0, .slice none 0 0, .slice none 0 0] 38 (0, 0))) := Lib.hid ((HSC.out _ (by omega)).trans Qu.out)
  have Z4 : Hid (w.heap.size + 2 ≤ (u4.setCell ⟨w.heap.size, 11, none⟩ (.slice X11 L.length x11)).heap.size) := Lib.hid (by rw [size_setCell]; have := Z3.out; have := Zu.out; omega)
  have Y4 : Hid ((u4.setCell ⟨w.heap.size, 11, none⟩ (.slice X11 L.length x11)).heap.size = u4.heap.size) := Lib.hid (size_setCell _ _ _)
  have T4 : Hid (w3.heap.size ≤ u4.heap.size) := Zu
  have O0_4 : Hid (OT (u4.setCell ⟨w.heap.size, 11, none⟩ (.slice X11 L.length x11)) (w.heap.size + 2) (.slice X0 ss.length x0) ss) := Lib.hid (own_same O0u.out fun q hq => HSC.out q (by have := own_wi O0u.out q hq; omega))
  have O1_4 : Hid (OU (u4.setCell ⟨w.heap.size, 11, none⟩ (.slice X11 L.length x11)) (w.heap.size + 2) (.slice X1 ps.length x1) ps) := Lib.hid (own_same O1u.out fun q hq => HSC.out q (by have := own_wi O1u.out q hq; omega))
  have O2_4 : Hid (OG (u4.setCell ⟨w.heap.size, 11, none⟩ (.slice X11 L.length x11)) (w.heap.size + 2) (.slice X10 lg.length x10) lg) := Lib.hid (own_same O2u.out fun q hq => HSC.out q (by have := own_wi O2u.out q hq; omega))
  have O3_4 : Hid (OG (u4.setCell ⟨w.heap.size, 11, none⟩ (.slice X11 L.length x11)) (w.heap.size + 2) (.slice X11 L.length x11) L) := Lib.hid (own_same O3u.out fun q hq => HSC.out q (by have := own_wi O3u.out q hq; omega))
  have q1 : u4.cell? ⟨w.heap.size, 11, none⟩ = some (.slice A11 dt.length c11) := by rw [cell_of_row _ _ _ _ _ _ Ru.out]; rfl
  have q2 : u4.frozen? ⟨w.heap.size, 11, none⟩ = false := by simp [World.frozen?, Ru.out]
  clear o g
  go_wp2_with (first | (refine wpList_load_row rfl 38 (.tmp 2) rfl _ rfl 38 _ (0, 0) _ R4.out Tryz.underlying38 rfl (by kernel_rfl) ?_) | (refine wpList_store_row rfl 38 (.tmp 4) (.tmp 24) rfl (w.heap.size + 1) #[.slice X0 ss.length x0, .slice X1 ps.length x1, .int .i64 fz, .bool off, .int .i64 b, .int .i64 l, .int .i64 q, .int .i64 t, .int .i64 sq, .int .i64 at_, .slice X10 lg.length x10, .slice X11 L.length x11] rfl rfl 38 _ Q4.out infoP rfl (onePv ..) ?_))
  refine bodyPost_ret (v := .agg #[.slice X0 ss.length x0, .slice X1 ps.length x1, .int .i64 fz, .bool off, .int .i64 b, .int .i64 l, .int .i64 q, .int .i64 t, .int .i64 sq, .int .i64 at_, .slice X10 lg.length x10, .slice X11 L.length x11]) ?_ rfl ?_
  · exact results_cell_row rfl _ _ (w.heap.size + 1) 38 _ (0, 0) _ rfl (setRow_heap _ _ _ _ _ _ Q4.out) Tryz.underlying38 rfl (by kernel_rfl)
  · refine ⟨X0, X1, X10, X11, x0, x1, x10, x11, rfl, ?_, ?_⟩
    · refine PgO.lo (lo := w.heap.size + 2) (PgO.same (r := w.heap.size + 1) ⟨O0_4.out, O1_4.out, O2_4.out, O3_4.out, w2.heap.size, w3.heap.size, u4.heap.size, I0.out.wider Z0.out (by have := Y1.out; have := T2.out; have := Y2.out; omega), I1.out.wider (by have := Z1.out; omega) (by have := Y2.out; omega), I2.out.wider (Nat.le_refl _) (by have := Y3.out; omega), I3.out, Z2.out, by have := T3.out; have := Y3.out; omega, T4.out, by have := Y4.out; omega⟩ (by omega) (fun k hk => setRow_other _ _ k _ hk) (below_setRow (B := 0) (Below.refl 0 _) (Nat.zero_le _) _).size) (by omega)
    · exact G4.out.andThen (row' := some (w.heap.size + 1)) ⟨rfl, rfl, rfl, (below_setRow (B := 0) (Below.refl 0 _) (Nat.zero_le _) _).size, fun k hk hne => setRow_other _ _ k _ (fun e => hne (by rw [e]))⟩ (fun q hq => .inl (by cases hq; omega))

/-- Pages put one after the other. -/
def mgs (dt : List Pt) (qs : List Pt) : List Pt := qs.foldl (fun L p => mg L [(p.1, p.2)]) dt
theorem mgs_one (dt : List Pt) (k : Int) (s : ByteArray) : mgs dt [(k, s)] = mg dt [(k, s)] := rfl
theorem mgs_take (dt qs : List Pt) {j : Nat} (hj : j < qs.length) : mg (mgs dt (qs.take j)) [(qs[j].1, qs[j].2)] = mgs dt (qs.take (j + 1)) := by
  rw [List.take_succ_eq_append_getElem hj, mgs, mgs, List.foldl_append]; rfl
theorem mgs_len (qs : List Pt) : ∀ dt : List Pt, (mgs dt qs).length ≤ dt.length + qs.length := by
  induction qs with
  | nil => intro dt; simp [mgs]
  | cons q qs ih =>
    intro dt
    have h1 := ih (mg dt [(q.1, q.2)])
    have h2 := mg1_len dt q.1 q.2
    have h3 : mgs dt (q :: qs) = mgs (mg dt [(q.1, q.2)]) qs := rfl
    rw [h3]; simp only [List.length_cons]; omega
def ChI (dt qs : List Pt) (m : Nat) (w : World) (iv : Value) (wr : World) : Prop := ∃ j : Nat, j ≤ qs.length ∧ iv = .int .i64 (j : Int) ∧ TM wr m (mgs dt (qs.take j)) ∧ w.grownBy wr (some m)
def chO (l : Int) (n : Nat) : Bool := decide ((n : Int) ≤ 60) && decide (rbN (n : Int) ≤ l)
set_option maxHeartbeats 4000000 in
set_option maxRecDepth 100000 in
theorem changed_any {B : Nat} {w : World} {v0 v1 v10 v11 u : Value} {ss : List ByteArray} {ps lg dt : List Pt} {fz b l q t sq at_ : Int} {off : Bool} {qs : List Pt} (h0 : RiT B w v0 ss) (h1 : RiU B w v1 ps) (h10 : RiU B w v10 lg) (h11 : RiU B w v11 dt) (hq : RiU B w u qs) (hB : B ≤ w.heap.size) (z0 : ss.length ≤ 1048576) (z1 : ps.length ≤ 1048576) (z10 : lg.length ≤ 1048576) (z11 : dt.length ≤ 500000) (zq : qs.length ≤ 500000) (hs : Srt dt) (h8 : 8 ≤ l) :
    Calls Tryz.prog 46 #[.agg #[v0, v1, .int .i64 fz, .bool off, .int .i64 b, .int .i64 l, .int .i64 q, .int .i64 t, .int .i64 sq, .int .i64 at_, v10, v11], u] w fun e w' => AnsP (mkC (if ftOk l ((mgs dt qs).length : Int) then 0 else 5)) (sT (ftOk l ((mgs dt qs).length : Int)) ss) (sT (ftOk l ((mgs dt qs).length : Int)) ps) (sI (ftOk l ((mgs dt qs).length : Int)) fz) (sB (ftOk l ((mgs dt qs).length : Int)) off) (sI (ftOk l ((mgs dt qs).length : Int)) b) (sI (ftOk l ((mgs dt qs).length : Int)) l) (sI (ftOk l ((mgs dt qs).length : Int)) q) (sI (ftOk l ((mgs dt qs).length : Int)) t) (sI (ftOk l ((mgs dt qs).length : Int)) sq) (sI (ftOk l ((mgs dt qs).length : Int)) at_) (sT (ftOk l ((mgs dt qs).length : Int)) lg) (sT (ftOk l ((mgs dt qs).length : Int)) (mgs dt qs)) w e w' := by
  have H0 := Lib.hid h0; have H1 := Lib.hid h1; have H10 := Lib.hid h10; have H11 := Lib.hid h11
  have Hq := Lib.hid hq; have Hwf := Lib.hid hq.wf
  obtain ⟨A0, c0, rfl, -, -, -⟩ := h0
  obtain ⟨A1, c1, rfl, -, -, -⟩ := h1
  obtain ⟨A10, c10, rfl, -, -, -⟩ := h10
  obtain ⟨A11, c11, rfl, -, -, -⟩ := h11
  obtain ⟨A, c, rfl, -, -, xq⟩ := hq
  have Xq := Lib.hid xq; clear xq
  have Hs := Lib.hid hs; clear hs
  have HF := Lib.hid (fun w => logTakes_any (n0 := b) (n1 := l) (n2 := q) (n3 := t) (w := w) (mgs dt qs).length h8)
  have HML := Lib.hid (mgs_len qs dt)
  have B0 : Hid (Below w.heap.size w ((w.alloc (.cells #[.slice A0 ss.length c0, .slice A1 ps.length c1, .int .i64 fz, .bool off, .int .i64 b, .int .i64 l, .int .i64 q, .int .i64 t, .int .i64 sq, .int .i64 at_, .slice A10 lg.length c10, .slice A11 dt.length c11] 38)).alloc (.cells #[.slice none 0 0, .slice none 0 0, .int .i64 0, .bool false, .int .i64 0, .int .i64 0, .int .i64 0, .int .i64 0, .int .i64 0, .int .i64 0, .slice none 0 0, .slice none 0 0] 38))) := Lib.hid (((Below.refl _ w).alloc (Nat.le_refl _) _).alloc (by simp) _)
  have R0 : Hid (((w.alloc (.cells #[.slice A0 ss.length c0, .slice A1 ps.length c1, .int .i64 fz, .bool off, .int .i64 b, .int .i64 l, .int .i64 q, .int .i64 t, .int .i64 sq, .int .i64 at_, .slice A10 lg.length c10, .slice A11 dt.length c11] 38)).alloc (.cells #[.slice none 0 0, .slice none 0 0, .int .i64 0, .bool false, .int .i64 0, .int .i64 0, .int .i64 0, .int .i64 0, .int .i64 0, .int .i64 0, .slice none 0 0, .slice none 0 0] 38)).heap[w.heap.size]? = some (.cells #[.slice A0 ss.length c0, .slice A1 ps.length c1, .int .i64 fz, .bool off, .int .i64 b, .int .i64 l, .int .i64 q, .int .i64 t, .int .i64 sq, .int .i64 at_, .slice A10 lg.length c10, .slice A11 dt.length c11] 38 (0, 0))) := Lib.hid (heap_alloc2_old w _ _)
  have Q0 : Hid (((w.alloc (.cells #[.slice A0 ss.length c0, .slice A1 ps.length c1, .int .i64 fz, .bool off, .int .i64 b, .int .i64 l, .int .i64 q, .int .i64 t, .int .i64 sq, .int .i64 at_, .slice A10 lg.length c10, .slice A11 dt.length c11] 38)).alloc (.cells #[.slice none 0 0, .slice none 0 0, .int .i64 0, .bool false, .int .i64 0, .int .i64 0, .int .i64 0, .int .i64 0, .int .i64 0, .int .i64 0, .slice none 0 0, .slice none 0 0] 38)).heap[w.heap.size + 1]? = some (.cells #[.slice none 0 0, .slice none 0 0, .int .i64 0, .bool false, .int .i64 0, .int .i64 0, .int .i64 0, .int .i64 0, .int .i64 0, .int .i64 0, .slice none 0 0, .slice none 0 0] 38 (0, 0))) := Lib.hid (heap_alloc2_new w _ _)
  have Z0 : Hid (w.heap.size + 2 ≤ ((w.alloc (.cells #[.slice A0 ss.length c0, .slice A1 ps.length c1, .int .i64 fz, .bool off, .int .i64 b, .int .i64 l, .int .i64 q, .int .i64 t, .int .i64 sq, .int .i64 at_, .slice A10 lg.length c10, .slice A11 dt.length c11] 38)).alloc (.cells #[.slice none 0 0, .slice none 0 0, .int .i64 0, .bool false, .int .i64 0, .int .i64 0, .int .i64 0, .int .i64 0, .int .i64 0, .int .i64 0, .slice none 0 0, .slice none 0 0] 38)).heap.size) := Lib.hid (by simp)
  generalize hM : mgs dt qs = M at *
  have HM := Lib.hid hM; clear hM
  generalize ftOk l (M.length : Int) = r at *
  go_enter Tryz.func46, Tryz.ntmps46
  go_wp2_with (refine wpList_load_row rfl 38 (.tmp 2) rfl _ rfl 38 _ (0, 0) _ R0.out Tryz.underlying38 rfl (by kernel_rfl) ?_)
  generalize ((w.alloc (.cells #[.slice A0 ss.length c0, .slice A1 ps.length c1, .int .i64 fz, .bool off, .int .i64 b, .int .i64 l, .int .i64 q, .int .i64 t, .int .i64 sq, .int .i64 at_, .slice A10 lg.length c10, .slice A11 dt.length c11] 38)).alloc (.cells #[.slice none 0 0, .slice none 0 0, .int .i64 0, .bool false, .int .i64 0, .int .i64 0, .int .i64 0, .int .i64 0, .int .i64 0, .int .i64 0, .slice none 0 0, .slice none 0 0] 38)) = w0 at *
  refine (transactionOf_any (H11.out.at hB B0.out) (Nat.le_refl _) Hs.out (by omega)).mono ?_
  rintro e w1 ⟨rfl, tm, g⟩
  have Htm := Lib.hid tm
  have B1 := Lib.hid (B0.out.trans (g.mono (by have := Z0.out; omega)))
  have Q1 := Lib.hid ((g.block _ (by have := Z0.out; omega)).trans Q0.out)
  have R1 := Lib.hid ((g.block _ (by have := Z0.out; omega)).trans R0.out)
  have hmz : Hid (w.heap.size + 2 ≤ w0.heap.size + 1) := Lib.hid (by have := Z0.out; omega)
  clear tm g
  generalize w0.heap.size + 1 = m at *
  go_wp2_with fail
  go_loopw [13] (fun iv wr => ChI dt qs m w1 iv wr) (fun iv _ => qs.length - (intOf iv).toNat)
  case atStart => exact ⟨0, Nat.zero_le _, rfl, by rw [List.take_zero]; exact Htm.out, World.grownBy.refl _ _⟩
  case round =>
    obtain ⟨j, hj, rfl, htm, hgr⟩ := hrel
    have Ht := Lib.hid htm; have Hg := Lib.hid hgr; clear htm hgr
    have Hbel : Hid (Below w.heap.size w wr) := Lib.hid (B1.out.grown Hg.out B1.out.size (fun k hk => by cases hk; have := hmz.out; omega))
    by_cases hlt : j < qs.length
    · have d1 : decide ((j : Int) < (qs.length : Int)) = true := decide_eq_true (by omega)
      obtain ⟨bb, o, rfl, hb, hc, hd, -, -⟩ := Xq.out j hlt
      have g1 := (Hbel.out.cell (p := ⟨bb, o + j * 2, none⟩) (show bb < _ by omega)).trans hc
      have k1 := (Hbel.out.cell (p := ⟨bb, o + j * 2 + 1, none⟩) (show bb < _ by omega)).trans hd
      have Hld := Lib.hid (run_load_cells (P := Tryz.prog) wr bb (o + j * 2) 77 _ [.int .i64 qs[j].1, .string qs[j].2] (two_cells g1 k1) Tryz.underlying77 (by kernel_rfl))
      have HE := Lib.hid (mgs_take dt qs hlt)
      have HW := Lib.hid (Hwf.out qs[j] (List.getElem_mem hlt))
      have HTL : Hid ((mgs dt (qs.take j)).length < maxLen) := Lib.hid (by have := mgs_len (qs.take j) dt; rw [List.length_take] at this; unfold maxLen; omega)
      clear hc hd g1 k1
      generalize hp : qs[j] = p at *
      generalize mgs dt (qs.take j) = Tj at *
      clear hp
      have Ht2 : Hid (TM (wr.alloc (.cells #[.int .i64 p.1, .string p.2] 77)) m Tj) := Lib.hid (Ht.out.below ((Below.refl _ _).alloc (Nat.le_refl _) _))
      have Hg2 : Hid (w1.grownBy (wr.alloc (.cells #[.int .i64 p.1, .string p.2] 77)) (some m)) := Lib.hid (Hg.out.trans (World.grownBy_alloc _ _ _))
      go_wp2_with (first | (refine wpList_load_agg rfl 77 (.tmp 15) rfl _ rfl _ Hld.out ?_) | (refine wpList_tmPut _ rfl _ _ _ rfl m p.1 p.2 Tj rfl Ht2.out HTL.out HW.out.1 HW.out.2 rfl rfl ?_; intro w5 t5 m5; have Ht5 := Lib.hid t5; have Hm5 := Lib.hid m5; clear t5 m5))
      go_roundw
      case rel => exact ⟨j + 1, by omega, by go_num, by rw [← HE.out]; exact Ht5.out, Hg2.out.trans Hm5.out.grown⟩
      case measure => simp [intOf]; omega
    · have d1 : decide ((j : Int) < (qs.length : Int)) = false := decide_eq_false (by omega)
      obtain rfl : j = qs.length := by omega
      have Ht2 : Hid (TM wr m M) := Lib.hid (by rw [← HM.out]; have := Ht.out; rw [List.take_length] at this; exact this)
      have ML2 : Hid (m < w1.heap.size) := Lib.hid Htm.out.lt
      have Rw := Lib.hid (grown_blk Hg.out (by have := hmz.out; have := ML2.out; omega) (by have := hmz.out; omega) R1.out)
      have Qw := Lib.hid (grown_blk Hg.out (by have := hmz.out; have := ML2.out; omega) (by have := hmz.out; omega) Q1.out)
      have Zw : Hid (w.heap.size + 2 ≤ wr.heap.size) := Lib.hid (by have := Hg.out.size; have := hmz.out; have := ML2.out; omega)
      have Hld := Lib.hid (run_load_cells (P := Tryz.prog) wr w.heap.size 4 35 _ [.int .i64 b, .int .i64 l, .int .i64 q, .int .i64 t] (row_part Rw.out (by intro j u hj; rcases j with _ | _ | _ | _ | j; all_goals first | exact hj | simp at hj)) Tryz.underlying35 rfl)
      clear Ht Htm Hg
      go_wp2_with (first | (refine wpList_load_agg rfl 35 (.tmp 23) rfl _ rfl _ Hld.out ?_) | (refine wpList_tmLen _ rfl _ rfl m M rfl Ht2.out ?_))
      refine (HF.out _).mono ?_
      rintro e w3 ⟨rfl, g⟩
      have B3 := Lib.hid (Hbel.out.trans (g.mono Hbel.out.size))
      have R3 := Lib.hid ((g.block _ (by have := Zw.out; omega)).trans Rw.out)
      have Q3 := Lib.hid ((g.block _ (by have := Zw.out; omega)).trans Qw.out)
      have T3 := Lib.hid (Ht2.out.below g)
      have Z3 : Hid (w.heap.size + 2 ≤ w3.heap.size) := Lib.hid (by have := Zw.out; have := g.size; omega)
      clear g Hld
      cases r
      · go_wp2_with (refine wpList_store_row rfl 38 (.tmp 4) (.tmp 29) rfl (w.heap.size + 1) #[.slice none 0 0, .slice none 0 0, .int .i64 0, .bool false, .int .i64 0, .int .i64 0, .int .i64 0, .int .i64 0, .int .i64 0, .int .i64 0, .slice none 0 0, .slice none 0 0] rfl rfl 38 _ Q3.out infoP rfl (onePv ..) ?_)
        refine bodyPost_ret (v := .tuple #[.agg #[.slice none 0 0, .slice none 0 0, .int .i64 0, .bool false, .int .i64 0, .int .i64 0, .int .i64 0, .int .i64 0, .int .i64 0, .int .i64 0, .slice none 0 0, .slice none 0 0], .int .i64 5]) ?_ rfl ?_
        · exact results_cell_row2 rfl _ _ (w.heap.size + 1) 38 _ (0, 0) _ _ rfl rfl (setRow_heap _ _ _ _ _ _ Q3.out) Tryz.underlying38 rfl (by kernel_rfl)
        · exact AnsP.zero (mk := mkC 5) rfl (by omega) (by have := Z3.out; omega) B3.out
      · go_wp2_with (refine wpList_load_row rfl 38 (.tmp 2) rfl _ rfl 38 _ (0, 0) _ R3.out Tryz.underlying38 rfl (by kernel_rfl) ?_)
        refine (copyWith_any (H0.out.at hB B3.out) (H1.out.at hB B3.out) (H10.out.at hB B3.out) (H11.out.at hB B3.out) (Nat.le_refl _) z0 z1 z10 T3.out (by have := HML.out; omega)).mono ?_
        rintro e w4 ⟨X0, X1, X10, X11, x0, x1, x10, x11, rfl, pg, g4⟩
        have Pg := Lib.hid pg
        have B4 : Hid (Below w.heap.size w w4) := Lib.hid (B3.out.grown g4 B3.out.size (fun k hk => by cases hk; have := hmz.out; omega))
        have Q4 := Lib.hid (grown_blk g4 (by have := Z3.out; omega) (by have := hmz.out; omega) Q3.out)
        clear pg g4
        go_wp2_with (refine wpList_store_row rfl 38 (.tmp 4) (.tmp 32) rfl (w.heap.size + 1) #[.slice X0 ss.length x0, .slice X1 ps.length x1, .int .i64 fz, .bool off, .int .i64 b, .int .i64 l, .int .i64 q, .int .i64 t, .int .i64 sq, .int .i64 at_, .slice X10 lg.length x10, .slice X11 M.length x11] rfl rfl 38 _ Q4.out infoP rfl (onePv ..) ?_)
        refine bodyPost_ret (v := .tuple #[.agg #[.slice X0 ss.length x0, .slice X1 ps.length x1, .int .i64 fz, .bool off, .int .i64 b, .int .i64 l, .int .i64 q, .int .i64 t, .int .i64 sq, .int .i64 at_, .slice X10 lg.length x10, .slice X11 M.length x11], .int .i64 0]) ?_ rfl ?_
        · exact results_cell_row2 rfl _ _ (w.heap.size + 1) 38 _ (0, 0) _ _ rfl rfl (setRow_heap _ _ _ _ _ _ Q4.out) Tryz.underlying38 rfl (by kernel_rfl)
        · exact AnsP.full rfl (AnsP.end (mk := mkC 0) (lo := w3.heap.size) Pg.out (by have := Z3.out; omega) (by omega) B4.out)
end Go.Proofs.YtplfnlalmcpcaaaGreat
