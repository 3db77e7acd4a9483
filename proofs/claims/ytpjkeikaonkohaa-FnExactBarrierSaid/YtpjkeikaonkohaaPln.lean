/- A region of plain operations in a round of a loop over an iterator: in the text's order. No statement is proved here. -/
import Derived.Test.YtpjkeikaonkohaaStI
import Derived.StillTail
namespace Go.Proofs.Ytpjkeikaonkohaa
open Go.RowKit Go.Shelf
set_option linter.unusedVariables false
/-- An operation that calls nothing and defers nothing. -/
structure Pln (P : Program) (o : Oper) : Prop where
  nodefer : ∀ c, o.op ≠ .defer c
  noabout : ∀ w ρ, Oper.about P w ρ o = none
  noenter : ∀ ρ w f args w', (execOp ρ o).run P w ≠ .ok (.enter f args) w'
theorem wpOpIn_of_stOp {F : Fence} {n : Nat} {P : Program} {ops : Array Oper} {w : World} {i : Nat} {a : Act} {K : Act → Prop} {K' : Act → World → Prop} {Q : Exit → Act → World → Prop} (hp : ∀ o : Oper, ops[i]? = some o → Pln P o) (h : ∀ a, K a → K' a w) (hh : stOp P ops w i K a) : wpOpIn F n P ops Q i K' a w := by
  unfold stOp at hh
  unfold wpOpIn
  cases ho : ops[i]? with
  | none => simp only [ho] at hh ⊢; exact h _ hh
  | some o =>
    have hpo := hp o ho
    simp only [ho] at hh ⊢
    split
    · rename_i hw
      rw [if_pos hw] at hh
      refine And.intro (fun f hf => by rw [hpo.noabout] at hf; cases hf) ?_
      rw [Oper.semAt_eq F.round a.eval o hpo.nodefer]
      unfold Oper.still at hh
      have h1 := hpo.noenter a.eval w
      generalize (execOp a.eval o).run P w = r at *
      cases r with
      | ok x w' =>
        cases x with
        | value v => obtain ⟨rfl, hk⟩ := hh; exact h _ hk
        | skip => obtain ⟨rfl, hk⟩ := hh; exact h _ hk
        | enter f args => exact absurd rfl (h1 f args w')
        | _ => exact hh.elim
      | halt x w' => exact hh.elim
    · rename_i hw
      rw [if_neg hw] at hh
      exact And.intro (fun f hf => by rw [hpo.noabout] at hf; cases hf) (h _ hh)
theorem wpAnyIn_of_head {F : Fence} {n : Nat} {P : Program} {md : Region.Mode} {ops : Array Oper} {w : World} {m g : Nat} {L : Array Bool → Act → Prop} {Q : Exit → Act → World → Prop} (hp : ∀ (i : Nat) (o : Oper), ops[i]? = some o → i < m → Pln P o) (hL : ∀ listed a, L listed a → wpAnyIn F n P md ops Q g listed a w) :
    ∀ (f : Nat) (listed : Array Bool) (a : Act), wpAnyL P md ops w m L f listed a → wpAnyIn F n P md ops Q (f + g) listed a w
  | 0, listed, a, h => by rw [Nat.zero_add]; exact hL _ _ h
  | f + 1, listed, a, h => by
    rw [show f + 1 + g = (f + g) + 1 by omega]
    exact ⟨fun h0 => absurd h0 h.1, fun i hi => wpOpIn_of_stOp (fun o ho => hp i o ho (h.2 i hi).1) (fun a' h' => wpAnyIn_of_head hp hL f _ a' h') (h.2 i hi).2⟩
theorem wpAnyIn_of_seq {F : Fence} {n : Nat} {P : Program} {md : Region.Mode} {ops : Array Oper} {Q' : Exit → Act → World → Prop} : ∀ (l : List Oper) (k : Nat) (listed : Array Bool) (a : Act) (w : World), (∀ j, l[j]? = ops[k + j]?) →
    Region.seqB md ops l.length k listed = true → wpListIn F n P ops Q' l a w → wpAnyIn F n P md ops Q' l.length listed a w
  | [], _, _, _, _, _, hB, h => ⟨by simpa [Region.seqB] using hB, h⟩
  | o :: l, k, listed, a, w, hl, hB, h => by
    have h0 : ops[k]? = some o := by simpa using (hl 0).symm
    simp only [List.length_cons, Region.seqB, Bool.and_eq_true, decide_eq_true_eq] at hB
    refine ⟨fun h1 => (by rw [hB.1] at h1; cases h1), fun i hi => ?_⟩
    rw [hB.1] at hi
    have hik : i = k := by simpa using hi
    subst hik
    have hw : wpOpIn F n P ops Q' i (wpListIn F n P ops Q' l) a w := by unfold wpOpIn; simp only [h0]; exact h
    exact wpOpIn_mono (fun a' w' h' => wpAnyIn_of_seq l (i + 1) _ a' w' (fun j => by have := hl (j + 1); simpa [Nat.add_assoc, Nat.add_comm 1 j] using this) hB.2 h') hw
theorem wpIn_region_still_tail {F : Fence} {nn : Nat} {P : Program} {id : Nat} {Q : Exit → Act → World → Prop} {a : Act} {w : World} {l : List Oper} (n : Nat) (hm : P.follows .mixedOrders = true) (hB : Region.lexTailB .any l.toArray n = true) (hp : ∀ (i : Nat) (o : Oper), l.toArray[i]? = some o → i < n → Pln P o)
    (h : wpStill P l.toArray w.drew (fun a' => wpListIn F nn P l.toArray Q (l.drop n) a' w.drew) (l.take n) a) : (Code.region id l.toArray true).wpIn F nn P Q a w := by
  simp only [Region.lexTailB, Bool.and_eq_true, decide_eq_true_eq] at hB
  obtain ⟨⟨⟨⟨hsel, hn⟩, hs⟩, hc⟩, hlex⟩ := hB
  have hn' : n < l.length := by simpa using hn
  have htl : (l.take n).length = n := by simp; omega
  have hdl : (l.drop n).length = l.toArray.size - n := by simp
  have inv0 : HeadInv .any l.toArray n (Array.replicate l.toArray.size false) :=
    ⟨by simp, fun j oj _ hl => (by rw [getD_replicate_false] at hl; cases hl), fun t _ ht => getD_in (by simpa using ht) (getD_replicate_false _ _)⟩
  have H := wpAnyL_lex (md := .any) (g := l.toArray.size - n) hsel hs hc hn (l.take n) 0 _ a (fun j hj => by
    have hj' : j < n := by rw [htl] at hj; exact hj
    simp [hj']) (by simpa using htl) inv0 (by rw [htl]; exact hlex) h
  refine wpIn_region_any hm ?_
  have := wpAnyIn_of_head (Q := Q) (F := F) (n := nn) (g := l.toArray.size - n) hp (fun listed a' hL => by
    have := wpAnyIn_of_seq (F := F) (n := nn) (md := .any) (Q' := Q) (l.drop n) n listed a' w.drew (fun j => by simp [List.getElem?_drop]) (by rw [hdl]; exact hL.1) hL.2
    rwa [hdl] at this) _ _ _ H
  rw [htl, show n + (l.toArray.size - n) = l.toArray.size by omega] at this
  exact this
theorem run_value {P : Program} {m : Sem Value} {w w' : World} {x : Next} (h : (do pure (Next.value (← m)) : Sem Next).run P w = .ok x w') : ∃ v, x = .value v := by
  simp only [Sem.run_bind, Sem.run_pure] at h
  cases hm : m.run P w with
  | ok v w2 => rw [hm] at h; simp [Result.andThen] at h; exact ⟨v, h.1.symm⟩
  | halt r w2 => rw [hm] at h; simp [Result.andThen] at h
theorem andThen_inv {α β : Type} {r : Result α} {k : α → World → Result β} {x : β} {w' : World} (h : r.andThen k = .ok x w') : ∃ a w2, r = .ok a w2 ∧ k a w2 = .ok x w' := by
  cases r with
  | ok a w2 => exact ⟨a, w2, rfl, h⟩
  | halt r w2 => cases h
theorem pln_of {P : Program} {o : Oper} (h1 : ∀ c, o.op ≠ .defer c) (h2 : ∀ c, o.op ≠ .call c) (h3 : ∀ ρ, ∃ m : Sem Value, execOp ρ o = (do pure (Next.value (← m)))) : Pln P o := by
  refine ⟨h1, fun w ρ => ?_, fun ρ w f args w' h => ?_⟩
  · unfold Oper.about
    split
    · rename_i c hc; exact absurd hc (h2 c)
    · rfl
  · obtain ⟨m, hm⟩ := h3 ρ
    rw [hm] at h
    obtain ⟨v, hv⟩ := run_value h
    cases hv
theorem pln_load {P : Program} {o : Oper} {t : TypeId} {x : Operand} (h : o.op = .load t x) : Pln P o :=
  pln_of (fun c e => by rw [h] at e; cases e) (fun c e => by rw [h] at e; cases e) (fun ρ => ⟨Instr.loadAt t (ρ x), by unfold execOp; simp only [h]⟩)
theorem pln_fieldAddr {P : Program} {o : Oper} {t : TypeId} {x : Operand} {f : Nat} (h : o.op = .fieldAddr t x f) : Pln P o :=
  pln_of (fun c e => by rw [h] at e; cases e) (fun c e => by rw [h] at e; cases e) (fun ρ => ⟨Instr.fieldAt t (ρ x) f, by unfold execOp; simp only [h]⟩)
theorem pln_indexAddr {P : Program} {o : Oper} {t : TypeId} {x y : Operand} (h : o.op = .indexAddr t x y) : Pln P o :=
  pln_of (fun c e => by rw [h] at e; cases e) (fun c e => by rw [h] at e; cases e) (fun ρ => ⟨Instr.indexAt t (ρ x) (ρ y), by unfold execOp; simp only [h]⟩)
theorem pln_slice {P : Program} {o : Oper} {t : TypeId} {x : Operand} (h : o.op = .slice t x none none none) : Pln P o :=
  pln_of (fun c e => by rw [h] at e; cases e) (fun c e => by rw [h] at e; cases e) (fun ρ => ⟨Instr.sliceAt t (ρ x) none none none, by unfold execOp; simp only [h]; rfl⟩)
theorem pln_nilCheck {P : Program} {o : Oper} {x : Operand} (h : o.op = .nilCheck x) : Pln P o := by
  refine ⟨fun c e => (by rw [h] at e; cases e), fun w ρ => (by unfold Oper.about; simp only [h]), fun ρ w f args w' e => ?_⟩
  unfold execOp at e
  simp only [h] at e
  split at e
  · cases e
  · cases e
  · cases e
  · split at e
    · cases e
    · simp only [Sem.run_bind] at e
      obtain ⟨a1, w1, _, e1⟩ := andThen_inv e
      obtain ⟨a2, w2, _, e2⟩ := andThen_inv e1
      split at e2
      · simp only [Sem.run_bind] at e2
        obtain ⟨a3, w3, e3, _⟩ := andThen_inv e2
        cases e3
      · cases e2
    · cases e
  · cases e
end Go.Proofs.Ytpjkeikaonkohaa
