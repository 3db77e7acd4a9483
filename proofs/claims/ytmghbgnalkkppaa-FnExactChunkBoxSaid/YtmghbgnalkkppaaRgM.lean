/- A range over a function that yields values which lead to memory, and iterators within iterators: a contract in which the iterator has blocks of its own, and the law of the loop. No statement is proved here. -/
import Derived.RangeFuncNested
import Derived.RangeFuncBound
import Derived.RangeFuncCalls
import Derived.RangeFuncLeaves
import Derived.Test.YtmghbgnalkkppaaOwn
namespace Go.Proofs.Ytmghbgnalkkppaa
open Go.RowKit
set_option linter.unusedVariables false
/-- A set of blocks. -/
abbrev Bks := Nat → Prop
/-- These blocks lie as they lay. -/
def SameOn (T : Bks) (W W' : World) : Prop := W.heap.size ≤ W'.heap.size ∧ ∀ k, T k → k < W.heap.size → W'.heap[k]? = W.heap[k]?
/-- Nothing but these blocks and new ones has changed. -/
structure Moves (T : Bks) (W W' : World) : Prop where
  os : W'.os = W.os
  tape : W'.tape = W.tape
  output : W'.output = W.output
  size : W.heap.size ≤ W'.heap.size
  block : ∀ k, k < W.heap.size → ¬ T k → W'.heap[k]? = W.heap[k]?
/-- These blocks and the new ones. -/
def ext (T : Bks) (W W' : World) : Bks := fun k => T k ∨ (W.heap.size ≤ k ∧ k < W'.heap.size)
/-- What is said stays true whatever happens in T. -/
def Closed {β : Type} (I : Bks → β → World → Prop) : Prop := ∀ T s W W', I T s W → Moves T W W' → I (ext T W W') s W'
theorem SameOn.refl (T : Bks) (W : World) : SameOn T W W := ⟨Nat.le_refl _, fun _ _ _ => rfl⟩
theorem SameOn.trans {T : Bks} {X Y Z : World} (h : SameOn T X Y) (k : SameOn T Y Z) : SameOn T X Z := ⟨Nat.le_trans h.1 k.1, fun i hi hl => (k.2 i hi (Nat.lt_of_lt_of_le hl h.1)).trans (h.2 i hi hl)⟩
theorem SameOn.sub {T U : Bks} {X Y : World} (h : SameOn T X Y) (hs : ∀ k, U k → T k) : SameOn U X Y := ⟨h.1, fun k hk hl => h.2 k (hs k hk) hl⟩
theorem SameOn.bel {T : Bks} {X Y : World} (h : Below X.heap.size X Y) : SameOn T X Y := ⟨h.size, fun k _ hl => h.block k hl⟩
theorem Moves.bel {T : Bks} {X Y : World} (h : Below X.heap.size X Y) : Moves T X Y := ⟨h.os, h.tape, h.output, h.size, fun k hk _ => h.block k hk⟩
theorem Moves.put {T : Bks} {W : World} {l : Nat} (o : Obj) (h : T l) : Moves T W (W.putObj l o) := ⟨rfl, rfl, rfl, by simp, fun k _ hk => World.putObj_heap_other (fun e => hk (e ▸ h))⟩
theorem ext_put (T : Bks) (W : World) (l : Nat) (o : Obj) : ext T W (W.putObj l o) = T := funext fun k => propext ⟨fun h => h.elim id (fun h => absurd h.2 (by simp; omega)), .inl⟩
theorem Closed.put {β : Type} {I : Bks → β → World → Prop} (h : Closed I) {T : Bks} {s : β} {W : World} {l : Nat} (o : Obj) (hs : I T s W) (hl : T l) : I T s (W.putObj l o) := by
  have := h T s W _ hs (Moves.put o hl)
  rwa [ext_put] at this
theorem Closed.bel {β : Type} {I : Bks → β → World → Prop} (h : Closed I) {T : Bks} {s : β} {W W' : World} (hs : I T s W) (hb : Below W.heap.size W W') : I (ext T W W') s W' := h T s W W' hs (Moves.bel hb)
theorem sameOn_put {T : Bks} {W : World} {l : Nat} {o' : Obj} (hl : ¬ T l) : SameOn T W (W.putObj l o') := ⟨by simp, fun k hk _ => World.putObj_heap_other (fun e => hl (e ▸ hk))⟩
/-- The iterator gf over lb, which reads the blocks T0, yields values that the predicate Px knows in the world of the yield. -/
def Yields {α : Type} (P : Program) (gf : Nat) (lb : Array Value) (Px : α → Value → World → Prop) (S Sp : List α → Prop) (N : Nat) (T0 : Bks) (w : World) : Prop :=
  ∀ (n l : Nat) (T : Bks) (J Jx : Bks → List α → World → Prop) (W : World), SameOn T0 w W → Closed J → Closed Jx →
    (∀ T pre x v W1, J T pre W1 → W.heap.size ≤ W1.heap.size → Px x v W1 → pre.length < N → YieldAt Fence.wide (n - 1) P l #[v] W1 fun e W' =>
      (e = .returned (.bool true) ∧ SameOn (fun k => T k ∨ T0 k) W1 W' ∧ ∃ T', (∀ k, T k → T' k) ∧ J T' (pre ++ [x]) W') ∨
      (e = .returned (.bool false) ∧ SameOn (fun k => T k ∧ W.heap.size ≤ k) W1 W' ∧ ∃ T', (∀ k, T k → T' k) ∧ Jx T' (pre ++ [x]) W')) →
    J T [] W →
    CallsIn Fence.wide n P gf (#[.func (.yield l) #[] #[]] ++ lb) W fun e W' => (∃ v, e = .returned v) ∧ ((∃ xs, S xs ∧ ∃ T', (∀ k, T k → T' k) ∧ J T' xs W') ∨ (∃ pre, Sp pre ∧ ∃ T', (∀ k, T k → T' k) ∧ Jx T' pre W'))
/-- How a round may be left. -/
def leftSo {α : Type} (B : Nat) (T0 T : Bks) (I : Bks → List α → World → Prop) (Ix : Code → Bks → List α → World → Prop) (xs : List α) (W : World) : Exit → Act → World → Prop
  | .normal, _, W' => SameOn (fun k => T k ∨ T0 k) W W' ∧ ∃ T', (∀ k, T k → T' k) ∧ I T' xs W'
  | .ret, _, W' => SameOn (fun k => T k ∧ B ≤ k) W W' ∧ ∃ T', (∀ k, T k → T' k) ∧ Ix .ret T' xs W'
  | .exit id, _, W' => SameOn (fun k => T k ∧ B ≤ k) W W' ∧ ∃ T', (∀ k, T k → T' k) ∧ Ix (.exit id) T' xs W'
  | .goto t, _, W' => SameOn (fun k => T k ∧ B ≤ k) W W' ∧ ∃ T', (∀ k, T k → T' k) ∧ Ix (.goto t) T' xs W'
  | .panic _, _, _ => False
  | .outgrown, _, _ => False
def with2 (T : Bks) (B : Nat) : Bks := fun k => T k ∨ k = B ∨ k = B + 1
def less2 (T : Bks) (B : Nat) : Bks := fun k => T k ∧ k ≠ B ∧ k ≠ B + 1
theorem with_less {T : Bks} {B : Nat} (h : T B) (h1 : T (B + 1)) : with2 (less2 T B) B = T := funext fun k => propext ⟨fun a => by
    rcases a with a | rfl | rfl
    · exact a.1
    · exact h
    · exact h1, fun a => by
    by_cases e : k = B
    · exact .inr (.inl e)
    · by_cases e1 : k = B + 1
      · exact .inr (.inr e1)
      · exact .inl ⟨a, e, e1⟩⟩
theorem ext_with (T : Bks) (B : Nat) (X Y : World) : ext (with2 T B) X Y = with2 (ext T X Y) B := funext fun k => propext (by
  unfold ext with2
  constructor
  · rintro ((h | h) | h)
    · exact .inl (.inl h)
    · exact .inr h
    · exact .inl (.inr h)
  · rintro ((h | h) | h)
    · exact .inl (.inl h)
    · exact .inr h
    · exact .inl (.inr h))
theorem Moves.sub {T U : Bks} {X Y : World} (h : Moves T X Y) (hs : ∀ k, T k → U k) : Moves U X Y := ⟨h.os, h.tape, h.output, h.size, fun k hk hn => h.block k hk (fun e => hn (hs k e))⟩
set_option maxHeartbeats 1000000 in
theorem range_seq {α : Type} {P : Program} {n : Nat} {g : Operand} {p : Tmp} {assign body : Code} {Q : Exit → Act → World → Prop} {a : Act} {w : World} {gf : Nat} {lb : Array Value}
    (hg : a.eval g = .func (.func gf) #[] lb) (eg : ∀ args w, (callFunc gf args).run P w = .ok (.enter gf args) w)
    {Px : α → Value → World → Prop} {S Sp : List α → Prop} {N : Nat} {T0 : Bks} {w0 : World} (hseq : Yields P gf lb Px S Sp N T0 w0) (hb0 : SameOn T0 w0 w)
    (hT0w : ∀ k, T0 k → k < w.heap.size) (T : Bks) (hTw : ∀ k, T k → k < w.heap.size)
    (I : Bks → List α → World → Prop) (Ix : Code → Bks → List α → World → Prop) (hI : Closed I) (hIx : ∀ c, Closed (Ix c)) (h0 : I T [] w)
    (Ax : α → Value → Act → World → Prop) (hAx : ∀ x v a', OwnFrom w.heap.size (fun (_ : Unit) W => Ax x v a' W))
    (hassign : ∀ (l : Nat) (T : Bks) (pre : List α) (x : α) (v : Value) (W : World) (K : Act → World → Prop), I T pre W → T w.heap.size → T (w.heap.size + 1) → w.heap.size + 2 ≤ W.heap.size → Px x v W →
      (∀ T' a' W', (∀ k, T k → T' k) → SameOn (fun k => T k ∨ T0 k) W W' → I T' pre W' → Ax x v a' W' → K a' W') →
      assign.wpIn (Fence.wide.inRound l) (n - 1 - 1) P (Exit.then K (fun _ _ _ => False)) { tmps := a.tmps.setIfInBounds p v, defers := [] } W)
    (hbody : ∀ (l : Nat) (T : Bks) (pre : List α) (x : α) (v : Value) (a' : Act) (W : World), I T pre W → T w.heap.size → T (w.heap.size + 1) → w.heap.size + 2 ≤ W.heap.size → Ax x v a' W → pre.length < N →
      body.wpIn (Fence.wide.inRound l) (n - 1 - 1) P (leftSo w.heap.size T0 T I Ix (pre ++ [x]) W) a' W)
    (hdone : ∀ (D : Nat) (T' : Bks) (xs : List α) (W : World), w.heap.size ≤ D → (∀ k, T k → T' k) → T' D → S xs → I T' xs W → W.heap[D]? = some (.deferred (some [])) → Q .normal { a with defers := { target := .collected D, args := #[] } :: a.defers } W)
    (hstop : ∀ (D : Nat) (T' : Bks) (c : Code) (pre : List α) (W : World), w.heap.size ≤ D → (∀ k, T k → T' k) → T' D → Sp pre → Ix c T' pre W → W.heap[D]? = some (.deferred (some [])) → c.wpIn Fence.wide n P Q { a with defers := { target := .collected D, args := #[] } :: a.defers } W) :
    (Code.rangeFunc g #[p] assign body).wpIn Fence.wide n P Q a w := by
  generalize hB : w.heap.size = B at *
  refine wpIn_rangeFunc fun fn hfn => ?_
  obtain ⟨rc, hrc⟩ : ∃ rc : LoopState → Option Code → Loop, rc = fun st pe => { state := st, pending := pe, fn, tmps := a.tmps, params := #[p], assign, body, defers := B } := ⟨_, rfl⟩
  obtain ⟨W1, hW1⟩ : ∃ W1, (w.alloc (.deferred (some []))).alloc (.loop (rc .ready none)) = W1 := ⟨_, rfl⟩
  have hz1 : W1.heap.size = B + 2 := by rw [← hW1]; simp [hB]
  have hg1 : Below w.heap.size w W1 := by rw [← hW1]; exact ((Below.refl _ w).alloc (Nat.le_refl _) _).alloc (by simp) _
  have hl1 : W1.heap[B + 1]? = some (.loop (rc .ready none)) := by
    rw [← hW1, ← hB, show w.heap.size + 1 = (w.alloc (.deferred (some []))).heap.size by simp]
    exact World.alloc_heap_new _ _
  have hk1 : W1.heap[B]? = some (.deferred (some [])) := by
    rw [← hW1, ← hB]
    exact (Below.heap_alloc _ _ _ (by simp)).trans (World.alloc_heap_new w _)
  have hrl : ∀ st pe, (rc st pe).params = #[p] ∧ (rc st pe).fn = fn ∧ (rc st pe).tmps = a.tmps ∧ (rc st pe).assign = assign ∧ (rc st pe).body = body ∧ (rc st pe).state = st ∧ (rc st pe).pending = pe := fun st pe => by rw [hrc]; exact ⟨rfl, rfl, rfl, rfl, rfl, rfl, rfl⟩
  have hset : ∀ st pe st' pe', { rc st pe with state := st', pending := pe' } = rc st' pe' := fun st pe st' pe' => by rw [hrc]
  have hset1 : ∀ st pe st', { rc st pe with state := st' } = rc st' pe := fun st pe st' => by rw [hrc]
  have hent : (Instr.enterLoop fn a.tmps #[p] assign body none).run P w = .ok (B + 1, [{ target := .collected B, args := #[] }]) W1 := by
    rw [run_enterLoop_outer, ← hW1, hrc, ← hB]
  have hTB : ¬ T B := fun h => by have := hTw _ h; omega
  have hTB1 : ¬ T (B + 1) := fun h => by have := hTw _ h; omega
  have hI1 : I (with2 T B) [] W1 := by
    have h := hI.bel h0 hg1
    have e : ext T w W1 = with2 T B := funext fun k => propext (by unfold ext with2; rw [hB, hz1]; exact ⟨fun h => h.imp id (fun h => by omega), fun h => h.imp id (fun h => by omega)⟩)
    rwa [e] at h
  refine ⟨B + 1, [{ target := .collected B, args := #[] }], W1, { target := .fn (.func gf) lb, args := #[.func (.yield (B + 1)) #[] #[]] }, W1, gf, #[.func (.yield (B + 1)) #[] #[]] ++ lb, W1, hent, ?_, fun f' _ => trivial, ?_, (fun h => by cases h), ?_⟩
  · simp only [resolve, hg]
    simp [go_sem]
  · simp [invoke, go_sem, eg]
  have hcJ : Closed (fun Ti (pre : List α) W => I (with2 Ti B) pre W ∧ ¬ Ti B ∧ ¬ Ti (B + 1) ∧ B + 2 ≤ W.heap.size ∧ W.heap[B + 1]? = some (.loop (rc .ready none)) ∧ W.heap[B]? = some (.deferred (some []))) := by
    rintro Ti pre X Y ⟨h1, h2, h3, h4, h5, h6⟩ hm
    have h := hI _ pre X Y h1 (hm.sub fun k hk => .inl hk)
    rw [ext_with] at h
    exact ⟨h, fun e => e.elim h2 (by omega), fun e => e.elim h3 (by omega), by have := hm.size; omega, (hm.block _ (by omega) h3).trans h5, (hm.block _ (by omega) h2).trans h6⟩
  have hcX : Closed (fun Ti (pre : List α) W => ∃ c, Ix c (with2 Ti B) pre W ∧ ¬ Ti B ∧ ¬ Ti (B + 1) ∧ B + 2 ≤ W.heap.size ∧ W.heap[B + 1]? = some (.loop (rc .done (some c))) ∧ W.heap[B]? = some (.deferred (some []))) := by
    rintro Ti pre X Y ⟨c, h1, h2, h3, h4, h5, h6⟩ hm
    have h := hIx c _ pre X Y h1 (hm.sub fun k hk => .inl hk)
    rw [ext_with] at h
    exact ⟨c, h, fun e => e.elim h2 (by omega), fun e => e.elim h3 (by omega), by have := hm.size; omega, (hm.block _ (by omega) h3).trans h5, (hm.block _ (by omega) h2).trans h6⟩
  refine (hseq (n - 1) (B + 1) T _ _ W1 (hb0.trans (SameOn.bel hg1)) hcJ hcX ?_ ⟨hI1, hTB, hTB1, by omega, hl1, hk1⟩).mono ?_
  · rintro Ti pre x v W ⟨hi, hnB, hnB1, hz, hl, hk⟩ hzW hpx hlen
    have hy := run_yield (P := P) (args := #[v]) hl (by rw [(hrl _ _).1]; rfl)
    obtain ⟨e1, e2, e3, e4, e5, -, -⟩ := hrl .ready none
    rw [e1, e2, e3, e4, e5] at hy
    have hy2 : (Instr.yield (B + 1) #[v]).run P W = .ok (.round (B + 1) fn (a.tmps.setIfInBounds p v) assign body) W := by rw [hy]; simp
    refine ⟨fn, _, assign, body, hy2, roundIn_of_wpIn hfn ?_⟩
    refine hassign (B + 1) (with2 Ti B) pre x v W _ hi (.inr (.inl rfl)) (.inr (.inr rfl)) hz hpx fun U a' Wa hU hka hia hax => ?_
    have hla := (hka.2 _ (.inl (.inr (.inr rfl))) (by omega)).trans hl
    have hkk := (hka.2 _ (.inl (.inr (.inl rfl))) (by omega)).trans hk
    have hza := hka.1
    have hUB : U B := hU _ (.inr (.inl rfl))
    have hUB1 : U (B + 1) := hU _ (.inr (.inr rfl))
    refine ⟨_, run_beginRound hla (by rw [(hrl _ _).2.2.2.2.2.1]), ?_⟩
    rw [hset1]
    have hlt : B + 1 < Wa.heap.size := (Array.getElem?_eq_some_iff.1 hla).1
    have hlb : (Wa.putObj (B + 1) (.loop (rc .busy none))).heap[B + 1]? = some (.loop (rc .busy none)) := World.putObj_heap_same hlt
    have hkb : (Wa.putObj (B + 1) (.loop (rc .busy none))).heap[B]? = some (.deferred (some [])) := (World.putObj_heap_other (by omega)).trans hkk
    refine wpIn_mono (hbody (B + 1) U pre x v a' _ (hI.put _ hia hUB1) hUB hUB1 (by simp; omega) ((hAx x v a').putObj (s := ()) _ hax (by omega) hla rfl) hlen) ?_
    have fin : ∀ (V : Bks) (jump : Option Code) (W3 : World), V (B + 1) → V B → SameOn V (Wa.putObj (B + 1) (.loop (rc .busy none))) W3 → ∃ st,
        (Instr.endRound (B + 1) jump).run P W3 = .ok (.bool jump.isNone) (W3.putObj (B + 1) (.loop (rc st jump))) ∧ (st = if jump.isNone then .ready else .done) ∧
        B + 2 ≤ (W3.putObj (B + 1) (.loop (rc st jump))).heap.size ∧ (W3.putObj (B + 1) (.loop (rc st jump))).heap[B + 1]? = some (.loop (rc st jump)) ∧ (W3.putObj (B + 1) (.loop (rc st jump))).heap[B]? = some (.deferred (some [])) ∧
        (∀ Z : Bks, (∀ k, Z k → with2 Ti B k ∨ T0 k) → (∀ k, Z k → V k) → ¬ Z (B + 1) → SameOn Z W (W3.putObj (B + 1) (.loop (rc st jump)))) := fun V jump W3 hv1 hv0 hk3 => by
      have hl3 := (hk3.2 _ hv1 (by simp; omega)).trans hlb
      have hk4 := (hk3.2 _ hv0 (by simp; omega)).trans hkb
      have h := run_endRound (P := P) jump hl3
      rw [hset] at h
      have hz3 := hk3.1
      simp at hz3
      exact ⟨_, h, rfl, by simp; omega, World.putObj_heap_same (Array.getElem?_eq_some_iff.1 hl3).1, (World.putObj_heap_other (by omega)).trans hk4,
        fun Z hZ hZV hZn => (((hka.sub hZ).trans (sameOn_put hZn)).trans (hk3.sub hZV)).trans (sameOn_put hZn)⟩
    have back : ∀ U' : Bks, (∀ k, U k → U' k) → with2 (less2 U' B) B = U' := fun U' h => with_less (h _ hUB) (h _ hUB1)
    have sub : ∀ U' : Bks, (∀ k, U k → U' k) → ∀ k, Ti k → less2 U' B k := fun U' h k hk => ⟨h k (hU k (.inl hk)), fun e => hnB (e ▸ hk), fun e => hnB1 (e ▸ hk)⟩
    rintro e a3 W3 hp
    cases e with
    | normal =>
      obtain ⟨hs, U', hUU, hi3⟩ := hp
      obtain ⟨st, h1, rfl, h3, h4, h5, h6⟩ := fin (fun k => U k ∨ T0 k) none W3 (.inl hUB1) (.inl hUB) hs
      exact ⟨_, _, h1, .inl ⟨rfl, h6 _ (fun k hk => hk.imp .inl id) (fun k hk => hk.imp (fun h => hU k (.inl h)) id) (fun e => e.elim hnB1 (fun h => by have := hT0w _ h; omega)), less2 U' B, sub U' hUU, by rw [back U' hUU]; exact hI.put _ hi3 (hUU _ hUB1), fun e => e.2.1 rfl, fun e => e.2.2 rfl, h3, h4, h5⟩⟩
    | ret =>
      obtain ⟨hs, U', hUU, hi3⟩ := hp
      obtain ⟨st, h1, rfl, h3, h4, h5, h6⟩ := fin (fun k => U k ∧ B ≤ k) (some .ret) W3 ⟨hUB1, by omega⟩ ⟨hUB, Nat.le_refl _⟩ hs
      exact ⟨_, _, h1, .inr ⟨rfl, h6 _ (fun k hk => .inl (.inl hk.1)) (fun k hk => ⟨hU k (.inl hk.1), by have := hk.2; omega⟩) (fun e => hnB1 e.1), less2 U' B, sub U' hUU, .ret, by rw [back U' hUU]; exact (hIx _).put _ hi3 (hUU _ hUB1), fun e => e.2.1 rfl, fun e => e.2.2 rfl, h3, h4, h5⟩⟩
    | exit id =>
      obtain ⟨hs, U', hUU, hi3⟩ := hp
      obtain ⟨st, h1, rfl, h3, h4, h5, h6⟩ := fin (fun k => U k ∧ B ≤ k) (some (.exit id)) W3 ⟨hUB1, by omega⟩ ⟨hUB, Nat.le_refl _⟩ hs
      exact ⟨_, _, h1, .inr ⟨rfl, h6 _ (fun k hk => .inl (.inl hk.1)) (fun k hk => ⟨hU k (.inl hk.1), by have := hk.2; omega⟩) (fun e => hnB1 e.1), less2 U' B, sub U' hUU, .exit id, by rw [back U' hUU]; exact (hIx _).put _ hi3 (hUU _ hUB1), fun e => e.2.1 rfl, fun e => e.2.2 rfl, h3, h4, h5⟩⟩
    | goto t =>
      obtain ⟨hs, U', hUU, hi3⟩ := hp
      obtain ⟨st, h1, rfl, h3, h4, h5, h6⟩ := fin (fun k => U k ∧ B ≤ k) (some (.goto t)) W3 ⟨hUB1, by omega⟩ ⟨hUB, Nat.le_refl _⟩ hs
      exact ⟨_, _, h1, .inr ⟨rfl, h6 _ (fun k hk => .inl (.inl hk.1)) (fun k hk => ⟨hU k (.inl hk.1), by have := hk.2; omega⟩) (fun e => hnB1 e.1), less2 U' B, sub U' hUU, .goto t, by rw [back U' hUU]; exact (hIx _).put _ hi3 (hUU _ hUB1), fun e => e.2.1 rfl, fun e => e.2.2 rfl, h3, h4, h5⟩⟩
    | panic ch => exact hp.elim
    | outgrown => exact hp.elim
  · rintro e W2 ⟨⟨v, rfl⟩, (⟨xs, hS, T', hT', hi, hn0, hn1, hz, hl, hk⟩ | ⟨pre, hSp, T', hT', c, hi, hn0, hn1, hz, hl, hk⟩)⟩
    · have hr := run_endLoop (P := P) hl (by rw [(hrl _ _).2.2.2.2.2.1]; simp)
      rw [(hrl _ _).2.2.2.2.2.2] at hr
      exact ⟨none, _, hr, hdone B (with2 T' B) xs _ (Nat.le_refl _) (fun k hk => .inl (hT' k hk)) (.inr (.inl rfl)) hS (hI.put _ hi (.inr (.inr rfl))) ((World.putObj_heap_other (by omega)).trans hk)⟩
    · have hr := run_endLoop (P := P) hl (by rw [(hrl _ _).2.2.2.2.2.1]; simp)
      rw [(hrl _ _).2.2.2.2.2.2] at hr
      exact ⟨some c, _, hr, hstop B (with2 T' B) c pre _ (Nat.le_refl _) (fun k hk => .inl (hT' k hk)) (.inr (.inl rfl)) hSp ((hIx c).put _ hi (.inr (.inr rfl))) ((World.putObj_heap_other (by omega)).trans hk)⟩
end Go.Proofs.Ytmghbgnalkkppaa
