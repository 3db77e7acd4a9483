/- Contracts of the functions that copy a list by append. No statement is proved here. -/
import Derived.Test.YtbghekgghiamcaaMrk
namespace Go.Proofs.Ytbghekgghiamcaa
open Go.RowKit
set_option linter.unusedVariables false
/-- A new list of one's own. -/
def MadeO (xs : List Int) (w : World) (e : Ending) (w' : World) : Prop := ∃ v, e = .returned v ∧ OI w' w.heap.size v xs ∧ Below w.heap.size w w'
theorem infoI : (Try.prog.info? 2).map (fun i => (i.zero, i.size, i.bytes)) = some (some (.int .i64 0), 1, 8) := by kernel_rfl
set_option maxHeartbeats 400000 in
theorem l00Own_any {B : Nat} {w : World} {A : Option Addr} {xs : List Int} (h : Ri B w (.slice A xs.length xs.length) xs) (hB : B ≤ w.heap.size) (hs : xs.length ≤ 1048576) :
    Calls Try.prog 51 #[.slice A xs.length xs.length] w (MadeO xs w) := by
  obtain ⟨A1, cap, hv, hl, hm, hx⟩ := h
  have e1 : A1 = A := by injection hv with h1 h2 h3; exact h1.symm
  subst e1
  clear hv hl hm cap
  obtain ⟨i0, hi, hz0, hz1, hz2⟩ := info_parts infoI
  have Hown : Hid ((w.alloc (.cells #[] 2)).ownsRow w.heap.size 2 1 (.slice (some ⟨w.heap.size, 0, none⟩) 0 0) 0 []) := Lib.hid (World.ownsRow_made w #[] 0 (Nat.le_refl _) (by decide) (by simp))
  cases A1 with
  | none =>
    have h0 : xs = [] := by
      rcases xs with _ | ⟨x, l⟩
      · rfl
      · obtain ⟨b, o, hA, _⟩ := hx 0 (by simp); cases hA
    subst h0
    clear hx
    go_enter Try.func51, Try.ntmps51
    go_wp2_with (refine wpList_append_own_none rfl (.tmp 3) (.tmp 4) 22 rfl w.heap.size 2 i0 1 Try.underlying22 hi _ 0 [] rfl Hown.out rfl ?_)
    go_ret
    exact ⟨_, rfl, Hown.out, (Below.refl _ w).alloc (Nat.le_refl _) _⟩
  | some ad =>
    have Hc : Hid (∀ j u, (xs.map (Value.int .i64))[j]? = some u → (w.alloc (.cells #[] 2)).cell? (ad.add j) = some u) := Lib.hid (fun j u hu => by
      rw [List.getElem?_map] at hu
      obtain ⟨x, hxj, rfl⟩ := Option.map_eq_some_iff.1 hu
      obtain ⟨hj, rfl⟩ := List.getElem?_eq_some_iff.1 hxj
      obtain ⟨b, o, hA, hb, hc, _⟩ := hx j hj
      cases hA
      rw [add_at, World.cell?_alloc_lt w _ _ (by simp only; omega)]
      exact hc)
    clear hx
    go_enter Try.func51, Try.ntmps51
    go_wp2_with (refine wpList_append_own _ rfl (.tmp 3) (.tmp 4) 22 rfl w.heap.size 2 i0 (.int .i64 0) 1 8 Try.underlying22 hi hz0 hz1 hz2 rfl (by decide) (.slice (some ⟨w.heap.size, 0, none⟩) 0 0) 0 [] rfl Hown.out ad xs.length xs.length (xs.map (Value.int .i64)) rfl (by simp) Hc.out (by intro u hu; obtain ⟨x, _, rfl⟩ := List.mem_map.1 hu; rfl) (by unfold maxLen; omega) (by omega) (by simp) ?_; intro v2 w2 hown2 hg2 hnil2)
    go_ret
    refine ⟨v2, rfl, ?_, ?_⟩
    · unfold OI; simpa using hown2
    · exact ((Below.refl _ w).alloc (Nat.le_refl _) _).grown hg2 (by simp) (fun k hk => by simp [Value.ownBlock] at hk; omega)
theorem eql_none (w : World) : Sem.run Try.prog (binOp BinOp.eql 22 (Value.slice none 0 0) (Value.slice none 0 0)) w = .ok (.bool true) w := by kernel_rfl
theorem eql_some (w : World) (ad : Addr) (n c : Nat) : Sem.run Try.prog (binOp BinOp.eql 22 (Value.slice (some ad) n c) (Value.slice none 0 0)) w = .ok (.bool false) w := by kernel_rfl
set_option maxHeartbeats 400000 in
theorem clone_any {B : Nat} {w : World} {A : Option Addr} {xs : List Int} (h : Ri B w (.slice A xs.length xs.length) xs) (hB : B ≤ w.heap.size) (hs : xs.length ≤ 1048576) :
    Calls Try.prog 37 #[.slice A xs.length xs.length] w (MadeO xs w) := by
  obtain ⟨A1, cap, hv, hl, hm, hx⟩ := h
  have e1 : A1 = A := by injection hv with h1 h2 h3; exact h1.symm
  subst e1
  clear hv hl hm cap
  obtain ⟨i0, hi, hz0, hz1, hz2⟩ := info_parts infoI
  have Hown : Hid ((w.alloc (.cells #[] 2)).ownsRow w.heap.size 2 1 (.slice (some ⟨w.heap.size, 0, none⟩) 0 0) 0 []) := Lib.hid (World.ownsRow_made w #[] 0 (Nat.le_refl _) (by decide) (by simp))
  cases A1 with
  | none =>
    have h0 : xs = [] := by
      rcases xs with _ | ⟨x, l⟩
      · rfl
      · obtain ⟨b, o, hA, _⟩ := hx 0 (by simp); cases hA
    subst h0
    clear hx
    go_enter Try.func37, Try.ntmps37
    have hq := eql_none
    go_wp2
    go_ret
    exact ⟨_, rfl, ⟨by simp, .inl ⟨rfl, rfl⟩⟩, Below.refl _ w⟩
  | some ad =>
    have Hc : Hid (∀ j u, (xs.map (Value.int .i64))[j]? = some u → (w.alloc (.cells #[] 2)).cell? (ad.add j) = some u) := Lib.hid (fun j u hu => by
      rw [List.getElem?_map] at hu
      obtain ⟨x, hxj, rfl⟩ := Option.map_eq_some_iff.1 hu
      obtain ⟨hj, rfl⟩ := List.getElem?_eq_some_iff.1 hxj
      obtain ⟨b, o, hA, hb, hc, _⟩ := hx j hj
      cases hA
      rw [add_at, World.cell?_alloc_lt w _ _ (by simp only; omega)]
      exact hc)
    clear hx
    have hq := fun w n c => eql_some w ad n c
    go_enter Try.func37, Try.ntmps37
    go_wp2_with (refine wpList_append_own _ rfl (.tmp 5) (.tmp 6) 22 rfl w.heap.size 2 i0 (.int .i64 0) 1 8 Try.underlying22 hi hz0 hz1 hz2 rfl (by decide) (.slice (some ⟨w.heap.size, 0, none⟩) 0 0) 0 [] rfl Hown.out ad xs.length xs.length (xs.map (Value.int .i64)) rfl (by simp) Hc.out (by intro u hu; obtain ⟨x, _, rfl⟩ := List.mem_map.1 hu; rfl) (by unfold maxLen; omega) (by omega) (by simp) ?_; intro v2 w2 hown2 hg2 hnil2)
    go_ret
    refine ⟨v2, rfl, ?_, ?_⟩
    · unfold OI; simpa using hown2
    · exact ((Below.refl _ w).alloc (Nat.le_refl _) _).grown hg2 (by simp) (fun k hk => by simp [Value.ownBlock] at hk; omega)
end Go.Proofs.Ytbghekgghiamcaa
