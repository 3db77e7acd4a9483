/- Several texts in one: StI, Pln, StR, BaI, BrI. No statement is proved here. -/
import Derived.RangeFuncNested
import Derived.RangeFuncBound
import Derived.RangeFuncCalls
import Derived.RangeFuncLeaves
import Derived.Shelf.Abstract
import Derived.Shelf.RegionOpen
import Derived.WalkKit
import Derived.OwnWalkIn
import Derived.TacticsInMore
import Derived.LoopNIn
import Derived.LoopIn
import Derived.Test.YtpjkeikaonkohaaCts
import Derived.Test.YtpjkeikaonkohaaOpW
import Derived.StillTail
import Derived.Test.YtpjkeikaonkohaaDkB
import Derived.Test.YtpjkeikaonkohaaWbI
import Derived.Test.YtpjkeikaonkohaaDkQ
namespace Go.Proofs.Ytpjkeikaonkohaa
open Go.RowKit Go.Shelf
attribute [local go_sem] Oper.semAt_some
set_option linter.unusedVariables false
/-- What lay below B, the sectors aside, is as it was. -/
def KpB (B S : Nat) (W W' : World) : Prop := W.heap.size ≤ W'.heap.size ∧ ∀ g, g < B → g ≠ S → W'.heap[g]? = W.heap[g]?
theorem kpB_refl (B S : Nat) (W : World) : KpB B S W W := ⟨Nat.le_refl _, fun _ _ _ => rfl⟩
theorem kpB_t {B S : Nat} {X Y Z : World} (h : KpB B S X Y) (k : KpB B S Y Z) : KpB B S X Z := ⟨Nat.le_trans h.1 k.1, fun g h1 h2 => (k.2 g h1 h2).trans (h.2 g h1 h2)⟩
theorem kpB_b {B S : Nat} {w : World} (hB : B ≤ w.heap.size) (W : World) (l : Nat) (o o' : Obj) (hl : w.heap.size ≤ l) (h : W.heap[l]? = some o) (_ : o.isCells = false) (_ : o.isWalk = false) : KpB B S W (W.putObj l o') := ⟨by simp [World.putObj], fun g hg _ => World.putObj_heap_other (by omega)⟩
/-- Writes that a drive of n sectors can take. -/
abbrev Wx (n : Nat) := { p : Pt // (0 ≤ p.1 ∧ p.1 < (n : Int)) ∧ p.2.size ≤ 64 }
def wxE {n : Nat} (x : Wx n) : Array Value := #[.agg #[.int .i64 x.1.1, .string x.1.2]]
theorem take_snoc (ps : List Pt) (j : Nat) (h : j < ps.length) : ps.take j ++ [ps[j]] = ps.take (j + 1) := by rw [List.take_succ_eq_append_getElem h]
set_option maxRecDepth 100000 in
set_option maxHeartbeats 2000000 in
theorem valP1_in (F : Fence) (n : Nat) (h67 : F.fn 125) (hro : F.round = none) (hn : 1 ≤ n) (l Bs cap b0 B S : Nat) (A : Option Addr) (ps : List Pt) (hlen : ps.length ≤ cap) (hcap : cap ≤ maxLen) (hBsB : Bs < B ∧ Bs ≠ S) (hb0 : b0 < B ∧ b0 ≠ S) (J Jx : List Pt → World → Prop)
    (hJ : ∀ s W o, J s W → J s (W.alloc o))
    (hY : ∀ pre x W, J pre W → pre.length < ps.length → x ∈ ps → YieldAt F (n - 1) Try.prog l #[.agg #[.int .i64 x.1, .string x.2]] W fun e W' =>
      (e = .returned (.bool true) ∧ J (pre ++ [x]) W' ∧ KpB B S W W') ∨ (e = .returned (.bool false) ∧ Jx (pre ++ [x]) W'))
    (W : World) (hBW : B ≤ W.heap.size) (hBs : W.cell? ⟨Bs, 0, none⟩ = some (.slice A ps.length cap)) (hc : ∀ j (hj : j < ps.length), ∃ o, A = some ⟨b0, o, none⟩ ∧ W.cell? ⟨b0, o + j * 2, none⟩ = some (.int .i64 ps[j].1) ∧ W.cell? ⟨b0, o + j * 2 + 1, none⟩ = some (.string ps[j].2)) (h0 : J [] W) :
    CallsIn F n Try.prog 125 #[.func (.yield l) #[] #[], .pointer (some ⟨Bs, 0, none⟩)] W fun e W' => (∃ v, e = .returned v) ∧
      ((∃ ys, ys = ps ∧ J ys W') ∨ (∃ pre, True ∧ Jx pre W')) := by
  unfold maxLen at hcap
  have Hc := Lib.hid hc; clear hc
  refine callsIn_of_wp Try.func125 rfl h67 ?_ hro
  simp only [Try.ntmps125, List.size_toArray, List.length_cons, List.length_nil, Nat.reduceAdd, Nat.reduceSub, Array.replicate_succ, Array.replicate_zero, List.push_toArray, List.append_toArray, List.nil_append, List.cons_append]
  gi_wp2
  gi_loopw [4, 7] (fun s x wr => ∃ j : Nat, j ≤ ps.length ∧ x = .int .i64 (j : Int) ∧ J (ps.take j) wr ∧ KpB B S W wr ∧ B ≤ wr.heap.size)
    (fun _ x _ => ps.length - (intOf x).toNat)
  case atStart => exact ⟨0, Nat.zero_le _, rfl, by simpa using h0, kpB_refl _ _ _, hBW⟩
  case round =>
    obtain ⟨j, hj, rfl, hJs, hnx, hz⟩ := hrel
    have Hnx := Lib.hid hnx; have Hz := Lib.hid hz; clear hnx hz
    by_cases hlt : j < ps.length
    · obtain ⟨o, rfl, hcell, hcell1⟩ := Hc.out j hlt
      have hcell2 : wr.cell? ⟨b0, o + j * 2, none⟩ = some (.int .i64 ps[j].1) := (World.cell?_of_block (w := W) (a := ⟨b0, o + j * 2, none⟩) (Hnx.out.2 _ hb0.1 hb0.2)).trans hcell
      have hcell3 : wr.cell? ⟨b0, o + j * 2 + 1, none⟩ = some (.string ps[j].2) := (World.cell?_of_block (w := W) (a := ⟨b0, o + j * 2 + 1, none⟩) (Hnx.out.2 _ hb0.1 hb0.2)).trans hcell1
      obtain ⟨fn, tmps, assign, body, hy, hR⟩ := hY _ ps[j] (wr.alloc (.cells #[.int .i64 ps[j].1, .string ps[j].2] 77)) (hJ _ _ _ hJs) (by rw [List.length_take]; omega) (List.getElem_mem hlt)
      have Hst := Lib.hid (take_snoc ps j hlt)
      have Hka : Hid (KpB B S wr (wr.alloc (.cells #[.int .i64 ps[j].1, .string ps[j].2] 77))) := Lib.hid ⟨by simp, fun g hg _ => heap_alloc_old _ _ _ (by have := Hz.out; omega)⟩
      clear hcell hcell1 hJs
      gi_wp2
      refine hR.mono ?_
      rintro e W3 (⟨rfl, hJ3, hk3⟩ | ⟨rfl, hJx3⟩)
      · have HJ3 : Hid (J (ps.take (j + 1)) W3) := Lib.hid (by rw [← Hst.out]; exact hJ3)
        have HK := Lib.hid (kpB_t Hnx.out (kpB_t Hka.out hk3))
        have HZ3 : Hid (B ≤ W3.heap.size) := Lib.hid (Nat.le_trans Hz.out (Nat.le_trans Hka.out.1 hk3.1))
        clear hJ3 hk3
        gi_wp2
        go_roundw
        case rel => exact ⟨j + 1, by omega, by go_num, HJ3.out, HK.out, HZ3.out⟩
        case measure => simp [intOf]; omega
      · gi_wp2
        refine bodyPost_ret (results_none rfl _ _ _) rfl ?_
        exact ⟨⟨_, rfl⟩, .inr ⟨_, trivial, hJx3⟩⟩
    · obtain rfl : j = ps.length := by omega
      rw [List.take_length] at hJs
      gi_wp2
      go_end0
      exact ⟨⟨_, rfl⟩, .inl ⟨_, rfl, hJs⟩⟩
set_option maxHeartbeats 1000000 in
theorem valP_in (F : Fence) (n : Nat) (h62 : F.fn 121) (hro : F.round = none) (a : Option Addr) (len cap : Nat) (w : World) :
    CallsIn F n Try.prog 121 #[.slice a len cap] w fun e w' => e = .returned (.func (.func 125) #[] #[.pointer (some ⟨w.heap.size, 0, none⟩)]) ∧ w' = w.alloc (.cells #[.slice a len cap] 28) := by
  refine callsIn_of_wp Try.func121 rfl h62 ?_ hro
  simp only [Try.ntmps121, List.size_toArray, List.length_cons, List.length_nil, Nat.reduceAdd, Nat.reduceSub, Array.replicate_succ, Array.replicate_zero, List.push_toArray, List.append_toArray, List.nil_append, List.cons_append]
  gi_wp2
  go_ret
  exact ⟨rfl, rfl⟩
theorem valP_stops (F : Fence) (n : Nat) (h67 : F.fn 125) (hro : F.round = none) (hn : 1 ≤ n) (Bs cap b0 B S m : Nat) (A : Option Addr) (ps : List Pt) (hlen : ps.length ≤ cap) (hcap : cap ≤ maxLen) (hall : ∀ p ∈ ps, (0 ≤ p.1 ∧ p.1 < (m : Int)) ∧ p.2.size ≤ 64) (hBsB : Bs < B ∧ Bs ≠ S) (hb0 : b0 < B ∧ b0 ≠ S) (w : World) (hB : B ≤ w.heap.size)
    (hc : w.cell? ⟨Bs, 0, none⟩ = some (.slice A ps.length cap)) (hd : ∀ j (hj : j < ps.length), ∃ o, A = some ⟨b0, o, none⟩ ∧ w.cell? ⟨b0, o + j * 2, none⟩ = some (.int .i64 ps[j].1) ∧ w.cell? ⟨b0, o + j * 2 + 1, none⟩ = some (.string ps[j].2)) :
    SeqStopsK F n Try.prog 125 #[.pointer (some ⟨Bs, 0, none⟩)] (wxE (n := m)) (KpB B S) (fun ys => ys.map (·.1) = ps) (fun _ => True) ps.length w := fun l J Jx W hW hJ _ hY h0 => by
  refine (valP1_in F n h67 hro hn l Bs cap b0 B S A ps hlen hcap hBsB hb0 (fun pre W' => (∃ q : List (Wx m), q.map (·.1) = pre ∧ J q W') ∧ W.heap.size ≤ W'.heap.size) (fun pre W => ∃ q : List (Wx m), q.map (·.1) = pre ∧ Jx q W) ?_ ?_ W (Nat.le_trans hB hW.size) ((hW.cell (p := ⟨Bs, 0, none⟩) (show Bs < _ by omega)).trans hc)
    (fun j hj => by obtain ⟨o, e, hcj, hcj2⟩ := hd j hj; exact ⟨o, e, (hW.cell (p := ⟨b0, o + j * 2, none⟩) (show b0 < _ by omega)).trans hcj, (hW.cell (p := ⟨b0, o + j * 2 + 1, none⟩) (show b0 < _ by omega)).trans hcj2⟩) ⟨⟨[], rfl, h0⟩, Nat.le_refl _⟩).mono ?_
  · rintro s W1 o ⟨⟨q, rfl, hq⟩, hz⟩
    exact ⟨⟨q, rfl, hJ q W1 _ none hq (World.grownBy_alloc W1 o none) (fun r e => by cases e)⟩, by simp; omega⟩
  · rintro pre x W1 ⟨⟨q, rfl, hq⟩, hz⟩ hl hx
    refine (hY q ⟨x, hall x hx⟩ W1 hq (by simpa using hl)).mono ?_
    rintro e W' (⟨rfl, hj, hk⟩ | ⟨rfl, hj⟩)
    · exact .inl ⟨rfl, ⟨⟨q ++ [⟨x, hall x hx⟩], by simp, hj⟩, Nat.le_trans hz hk.1⟩, hk⟩
    · exact .inr ⟨rfl, ⟨q ++ [⟨x, hall x hx⟩], by simp, hj⟩⟩
  · rintro e W' ⟨he, ⟨ys, rfl, ⟨q, hq, hj⟩, _⟩ | ⟨pre, _, q, hq, hj⟩⟩
    · exact ⟨he, .inl ⟨q, hq, hj⟩⟩
    · exact ⟨he, .inr ⟨q, trivial, hj⟩⟩
/-- Bytes over the beginning of a sector. -/
def tornB (s t : ByteArray) : ByteArray := ⟨(t.data.toList ++ s.data.toList.drop t.size).toArray⟩
def putS (ss : List ByteArray) (p : Pt) : List ByteArray := ss.set p.1.toNat (tornB (ss.getD p.1.toNat ByteArray.empty) p.2)
theorem putS_len (ss : List ByteArray) (p : Pt) : (putS ss p).length = ss.length := by simp [putS]
def putAll (ss : List ByteArray) (ps : List Pt) : List ByteArray := ps.foldl putS ss
theorem putAll_len : ∀ (ps : List Pt) (ss : List ByteArray), (putAll ss ps).length = ss.length
  | [], _ => rfl
  | p :: ps, ss => by
    show (putAll (putS ss p) ps).length = _
    rw [putAll_len ps, putS_len]
theorem putAll_snoc (ss : List ByteArray) (ps : List Pt) (p : Pt) : putAll ss (ps ++ [p]) = putS (putAll ss ps) p := by simp [putAll]
theorem tornB_size (s t : ByteArray) (hs : s.size = 64) (ht : t.size ≤ 64) : (tornB s t).size = 64 := by
  show (t.data.toList ++ s.data.toList.drop t.size).toArray.size = 64
  have h1 : t.data.toList.length = t.size := by simp
  have h2 : s.data.toList.length = s.size := by simp
  simp only [List.size_toArray, List.length_append, List.length_drop]
  omega
theorem tornB_len (s t : ByteArray) (j : Nat) (h : j < (tornB s t).size) : j < (t.data.toList ++ s.data.toList.drop t.size).length := by
  have h2 : j < (t.data.toList ++ s.data.toList.drop t.size).toArray.size := h
  rwa [List.size_toArray] at h2
theorem tornB_at (s t : ByteArray) (j : Nat) (h : j < (tornB s t).size) : (tornB s t)[j] = (t.data.toList ++ s.data.toList.drop t.size)[j]'(tornB_len s t j h) := by
  rfl
theorem Sec.put {w : World} {S k : Nat} {ss : List ByteArray} (h : Sec w S ss) (hk : k < ss.length) {t : ByteArray} (ht : t.size ≤ 64) {C : Array Value} (hC : w.heap[S]? = some (.cells C 123 (0, 0))) :
    C.size = ss.length * 64 ∧ Sec (w.setRow S (putC C (k * 64) t.data.toList)) S (ss.set k (tornB ss[k] t)) := by
  obtain ⟨C', hC', hz, hall⟩ := h
  rw [hC] at hC'
  obtain rfl : C = C' := by cases hC'; rfl
  have hl : t.data.toList.length = t.size := by simp
  have h64 := (hall k hk).1
  have hsl : ss[k].data.toList.length = 64 := by rw [← h64]; simp
  have hb : k * 64 + t.data.toList.length ≤ C.size := by rw [hl, hz]; omega
  refine ⟨hz, _, setRow_heap _ _ _ _ _ _ hC, by rw [putC_size _ _ _ hb, hz, List.length_set], fun i hi => ?_⟩
  rw [List.length_set] at hi
  by_cases e : k = i
  · subst e
    rw [List.getElem_set_self]
    refine ⟨tornB_size _ _ h64 ht, fun j hj => ?_⟩
    have hj64 : j < 64 := by rw [tornB_size _ _ h64 ht] at hj; exact hj
    rw [tornB_at]
    rcases Nat.lt_or_ge j t.size with hjt | hjt
    · rw [putC_in _ _ _ hb j (by rw [hl]; exact hjt), List.getElem_append_left (by rw [hl]; exact hjt)]
    · rw [putC_out _ _ _ hb _ (.inr (by rw [hl]; omega)), (hall k hk).2 j (by omega), List.getElem_append_right (by rw [hl]; exact hjt), List.getElem_drop]
      have e2 : t.size + (j - t.data.toList.length) = j := by rw [hl]; omega
      simp only [e2]
      rw [← bytes_list ss[k] j (by omega)]
  · rw [List.getElem_set_ne e]
    obtain ⟨a, b⟩ := hall i hi
    refine ⟨a, fun j hj => ?_⟩
    rw [putC_out _ _ _ hb _ (by rw [hl]; omega)]
    exact b j hj
end Go.Proofs.Ytpjkeikaonkohaa
namespace Go.Proofs.Ytpjkeikaonkohaa
open Go.RowKit Go.Shelf
set_option linter.unusedVariables false
/-- An operation that calls nothing and defers nothing. -/
structure Pln (P : Program) (o : Oper) : Prop where
  nodefer : ∀ c, o.op ≠ .defer c
  noabout : ∀ w ρ, Oper.about P w ρ o = none
  noenter : ∀ ρ w f args w', (execOp ρ o).run P w ≠ .ok (.enter f args) w'
theorem wpOpIn_of_stOp {F : Fence} {n : Nat} {P : Program} {ops : Array Oper} {w : World} {i : Nat} {a : Act} {K : Act → Prop} {K' : Act → World → Prop} {Q : Exit → Act → World → Prop} (hp : ∀ o : Oper, ops[i]? = some o → Pln P o) (h : ∀ a, K a → K' a w) (hh : stOp P ops w i K a) : wpOpIn F n P ops Q i K' a w := by
  unfold stOp at hh
  unfold wpOpIn
  cases ho : ops[i]? with
  | none => simp only [ho] at hh ⊢; exact h _ hh
  | some o =>
    have hpo := hp o ho
    simp only [ho] at hh ⊢
    split
    · rename_i hw
      rw [if_pos hw] at hh
      refine And.intro (fun f hf => by rw [hpo.noabout] at hf; cases hf) ?_
      rw [Oper.semAt_eq F.round a.eval o hpo.nodefer]
      unfold Oper.still at hh
      have h1 := hpo.noenter a.eval w
      generalize (execOp a.eval o).run P w = r at *
      cases r with
      | ok x w' =>
        cases x with
        | value v => obtain ⟨rfl, hk⟩ := hh; exact h _ hk
        | skip => obtain ⟨rfl, hk⟩ := hh; exact h _ hk
        | enter f args => exact absurd rfl (h1 f args w')
        | _ => exact hh.elim
      | halt x w' => exact hh.elim
    · rename_i hw
      rw [if_neg hw] at hh
      exact And.intro (fun f hf => by rw [hpo.noabout] at hf; cases hf) (h _ hh)
theorem wpAnyIn_of_head {F : Fence} {n : Nat} {P : Program} {md : Region.Mode} {ops : Array Oper} {w : World} {m g : Nat} {L : Array Bool → Act → Prop} {Q : Exit → Act → World → Prop} (hp : ∀ (i : Nat) (o : Oper), ops[i]? = some o → i < m → Pln P o) (hL : ∀ listed a, L listed a → wpAnyIn F n P md ops Q g listed a w) :
    ∀ (f : Nat) (listed : Array Bool) (a : Act), wpAnyL P md ops w m L f listed a → wpAnyIn F n P md ops Q (f + g) listed a w
  | 0, listed, a, h => by rw [Nat.zero_add]; exact hL _ _ h
  | f + 1, listed, a, h => by
    rw [show f + 1 + g = (f + g) + 1 by omega]
    exact ⟨fun h0 => absurd h0 h.1, fun i hi => wpOpIn_of_stOp (fun o ho => hp i o ho (h.2 i hi).1) (fun a' h' => wpAnyIn_of_head hp hL f _ a' h') (h.2 i hi).2⟩
theorem wpAnyIn_of_seq {F : Fence} {n : Nat} {P : Program} {md : Region.Mode} {ops : Array Oper} {Q' : Exit → Act → World → Prop} : ∀ (l : List Oper) (k : Nat) (listed : Array Bool) (a : Act) (w : World), (∀ j, l[j]? = ops[k + j]?) →
    Region.seqB md ops l.length k listed = true → wpListIn F n P ops Q' l a w → wpAnyIn F n P md ops Q' l.length listed a w
  | [], _, _, _, _, _, hB, h => ⟨by simpa [Region.seqB] using hB, h⟩
  | o :: l, k, listed, a, w, hl, hB, h => by
    have h0 : ops[k]? = some o := by simpa using (hl 0).symm
    simp only [List.length_cons, Region.seqB, Bool.and_eq_true, decide_eq_true_eq] at hB
    refine ⟨fun h1 => (by rw [hB.1] at h1; cases h1), fun i hi => ?_⟩
    rw [hB.1] at hi
    have hik : i = k := by simpa using hi
    subst hik
    have hw : wpOpIn F n P ops Q' i (wpListIn F n P ops Q' l) a w := by unfold wpOpIn; simp only [h0]; exact h
    exact wpOpIn_mono (fun a' w' h' => wpAnyIn_of_seq l (i + 1) _ a' w' (fun j => by have := hl (j + 1); simpa [Nat.add_assoc, Nat.add_comm 1 j] using this) hB.2 h') hw
theorem wpIn_region_still_tail {F : Fence} {nn : Nat} {P : Program} {id : Nat} {Q : Exit → Act → World → Prop} {a : Act} {w : World} {l : List Oper} (n : Nat) (hm : P.follows .mixedOrders = true) (hB : Region.lexTailB .any l.toArray n = true) (hp : ∀ (i : Nat) (o : Oper), l.toArray[i]? = some o → i < n → Pln P o)
    (h : wpStill P l.toArray w.drew (fun a' => wpListIn F nn P l.toArray Q (l.drop n) a' w.drew) (l.take n) a) : (Code.region id l.toArray true).wpIn F nn P Q a w := by
  simp only [Region.lexTailB, Bool.and_eq_true, decide_eq_true_eq] at hB
  obtain ⟨⟨⟨⟨hsel, hn⟩, hs⟩, hc⟩, hlex⟩ := hB
  have hn' : n < l.length := by simpa using hn
  have htl : (l.take n).length = n := by simp; omega
  have hdl : (l.drop n).length = l.toArray.size - n := by simp
  have inv0 : HeadInv .any l.toArray n (Array.replicate l.toArray.size false) :=
    ⟨by simp, fun j oj _ hl => (by rw [getD_replicate_false] at hl; cases hl), fun t _ ht => getD_in (by simpa using ht) (getD_replicate_false _ _)⟩
  have H := wpAnyL_lex (md := .any) (g := l.toArray.size - n) hsel hs hc hn (l.take n) 0 _ a (fun j hj => by
    have hj' : j < n := by rw [htl] at hj; exact hj
    simp [hj']) (by simpa using htl) inv0 (by rw [htl]; exact hlex) h
  refine wpIn_region_any hm ?_
  have := wpAnyIn_of_head (Q := Q) (F := F) (n := nn) (g := l.toArray.size - n) hp (fun listed a' hL => by
    have := wpAnyIn_of_seq (F := F) (n := nn) (md := .any) (Q' := Q) (l.drop n) n listed a' w.drew (fun j => by simp [List.getElem?_drop]) (by rw [hdl]; exact hL.1) hL.2
    rwa [hdl] at this) _ _ _ H
  rw [htl, show n + (l.toArray.size - n) = l.toArray.size by omega] at this
  exact this
theorem run_value {P : Program} {m : Sem Value} {w w' : World} {x : Next} (h : (do pure (Next.value (← m)) : Sem Next).run P w = .ok x w') : ∃ v, x = .value v := by
  simp only [Sem.run_bind, Sem.run_pure] at h
  cases hm : m.run P w with
  | ok v w2 => rw [hm] at h; simp [Result.andThen] at h; exact ⟨v, h.1.symm⟩
  | halt r w2 => rw [hm] at h; simp [Result.andThen] at h
theorem andThen_inv {α β : Type} {r : Result α} {k : α → World → Result β} {x : β} {w' : World} (h : r.andThen k = .ok x w') : ∃ a w2, r = .ok a w2 ∧ k a w2 = .ok x w' := by
  cases r with
  | ok a w2 => exact ⟨a, w2, rfl, h⟩
  | halt r w2 => cases h
theorem pln_of {P : Program} {o : Oper} (h1 : ∀ c, o.op ≠ .defer c) (h2 : ∀ c, o.op ≠ .call c) (h3 : ∀ ρ, ∃ m : Sem Value, execOp ρ o = (do pure (Next.value (← m)))) : Pln P o := by
  refine ⟨h1, fun w ρ => ?_, fun ρ w f args w' h => ?_⟩
  · unfold Oper.about
    split
    · rename_i c hc; exact absurd hc (h2 c)
    · rfl
  · obtain ⟨m, hm⟩ := h3 ρ
    rw [hm] at h
    obtain ⟨v, hv⟩ := run_value h
    cases hv
theorem pln_load {P : Program} {o : Oper} {t : TypeId} {x : Operand} (h : o.op = .load t x) : Pln P o :=
  pln_of (fun c e => by rw [h] at e; cases e) (fun c e => by rw [h] at e; cases e) (fun ρ => ⟨Instr.loadAt t (ρ x), by unfold execOp; simp only [h]⟩)
theorem pln_fieldAddr {P : Program} {o : Oper} {t : TypeId} {x : Operand} {f : Nat} (h : o.op = .fieldAddr t x f) : Pln P o :=
  pln_of (fun c e => by rw [h] at e; cases e) (fun c e => by rw [h] at e; cases e) (fun ρ => ⟨Instr.fieldAt t (ρ x) f, by unfold execOp; simp only [h]⟩)
theorem pln_indexAddr {P : Program} {o : Oper} {t : TypeId} {x y : Operand} (h : o.op = .indexAddr t x y) : Pln P o :=
  pln_of (fun c e => by rw [h] at e; cases e) (fun c e => by rw [h] at e; cases e) (fun ρ => ⟨Instr.indexAt t (ρ x) (ρ y), by unfold execOp; simp only [h]⟩)
theorem pln_slice {P : Program} {o : Oper} {t : TypeId} {x : Operand} (h : o.op = .slice t x none none none) : Pln P o :=
  pln_of (fun c e => by rw [h] at e; cases e) (fun c e => by rw [h] at e; cases e) (fun ρ => ⟨Instr.sliceAt t (ρ x) none none none, by unfold execOp; simp only [h]; rfl⟩)
theorem pln_nilCheck {P : Program} {o : Oper} {x : Operand} (h : o.op = .nilCheck x) : Pln P o := by
  refine ⟨fun c e => (by rw [h] at e; cases e), fun w ρ => (by unfold Oper.about; simp only [h]), fun ρ w f args w' e => ?_⟩
  unfold execOp at e
  simp only [h] at e
  split at e
  · cases e
  · cases e
  · cases e
  · split at e
    · cases e
    · simp only [Sem.run_bind] at e
      obtain ⟨a1, w1, _, e1⟩ := andThen_inv e
      obtain ⟨a2, w2, _, e2⟩ := andThen_inv e1
      split at e2
      · simp only [Sem.run_bind] at e2
        obtain ⟨a3, w3, e3, _⟩ := andThen_inv e2
        cases e3
      · cases e2
    · cases e
  · cases e
end Go.Proofs.Ytpjkeikaonkohaa
namespace Go.Proofs.Ytpjkeikaonkohaa
open Go.RowKit Go.Shelf
attribute [local go_sem] Oper.semAt_some
set_option linter.unusedVariables false
/-- A run of store between two rounds. -/
structure StB (w : World) (lo D S : Nat) (v2 : Value) (ss : List ByteArray) (fz : Int) (off : Bool) (L : List Pt) (W : World) : Prop where
  box : VB W D (.slice (some ⟨S, 0, none⟩) ss.length ss.length) v2 fz off
  sec : Sec W S (putAll ss L)
  var : W.heap[w.heap.size]? = some (.cells #[.pointer (some ⟨D, 0, none⟩)] 89 (0, 0))
  keep : KpB w.heap.size S w W
  below : Below lo w W
theorem StB.own {β : Type} {w : World} {lo D S : Nat} {v2 : Value} {ss : List ByteArray} {fz : Int} {off : Bool} {L : β → List Pt} {K : Nat} (hK : w.heap.size < K) (hlo : lo ≤ w.heap.size) : OwnFrom K (fun s W => StB w lo D S v2 ss fz off (L s) W) := fun s X Y row hs hg hr => by
  have hr2 : ∀ r, row = some r → ∃ o : Obj, X.heap[r]? = some o ∧ o.isCells = false := fun r e => (hr r e).2
  obtain ⟨C, hC, h2⟩ := hs.sec
  refine ⟨(grownBy_keeps_cells hg hr2 hs.box rfl).trans hs.box, ⟨C, (grownBy_keeps_cells hg hr2 hC rfl).trans hC, h2⟩, (grownBy_keeps_cells hg hr2 hs.var rfl).trans hs.var, ⟨Nat.le_trans hs.keep.1 hg.size, fun g h1 h2 => ?_⟩, ownFrom_below (β := Unit) hlo (show lo ≤ K by omega) () X Y row hs.below hg hr⟩
  have h3 := hs.keep.2 g h1 h2
  refine (hg.block g (Nat.lt_of_lt_of_le h1 hs.keep.1) (fun e => ?_)).trans h3
  have := (hr g e.symm).1
  omega
theorem StB.ltV {w : World} {lo D S : Nat} {v2 : Value} {ss : List ByteArray} {fz : Int} {off : Bool} {L : List Pt} {W : World} (h : StB w lo D S v2 ss fz off L W) : w.heap.size < W.heap.size := (Array.getElem?_eq_some_iff.1 h.var).1
theorem StB.alloc {w : World} {lo D S : Nat} {v2 : Value} {ss : List ByteArray} {fz : Int} {off : Bool} {L : List Pt} {W : World} (h : StB w lo D S v2 ss fz off L W) (hlo : lo ≤ w.heap.size) (o : Obj) : StB w lo D S v2 ss fz off L (W.alloc o) :=
  StB.own (β := Unit) (L := fun _ => L) (K := w.heap.size + 1) (by omega) hlo () W _ none h (World.grownBy_alloc W o none) (fun r e => by cases e)
set_option maxRecDepth 100000 in
set_option maxHeartbeats 4000000 in
theorem store_in (F : Fence) (n : Nat) (h89 : F.fn 89) (hro : F.round = none) (hn : 3 ≤ n) {gf : Nat} {lb : Array Value} (hg : F.fn gf) (hent : ∀ args w, (callFunc gf args).run Try.prog w = .ok (.enter gf args) w)
    {w : World} {lo D S : Nat} {v2 : Value} {ss : List ByteArray} {ps : List Pt} {fz : Int} {off : Bool} (hd : Drv w lo D S v2 ss ps fz off) (hlo : lo ≤ w.heap.size) {L : List Pt} {N : Nat}
    (hseq : SeqStopsK F (n - 1) Try.prog gf lb (wxE (n := ss.length)) (KpB w.heap.size S) (fun ys => ys.map (·.1) = L) (fun _ => True) N (w.alloc (.cells #[.pointer (some ⟨D, 0, none⟩)] 89))) :
    CallsIn F n Try.prog 89 #[.pointer (some ⟨D, 0, none⟩), .func (.func gf) #[] lb] w fun e w' => e = .returned (.tuple #[]) ∧ Drv w' lo D S (.slice none 0 0) (putAll ss L) [] fz off ∧ Below lo w w' ∧ ∀ g, g < w.heap.size → g ≠ D → g ≠ S → w'.heap[g]? = w.heap[g]? := by
  have hn1 : 1 ≤ n := by omega
  have Hd := Lib.hid hd
  have HSD := Lib.hid hd.neSD
  have HDl : Hid (D < w.heap.size ∧ S < w.heap.size ∧ lo ≤ D ∧ lo ≤ S ∧ ss.length ≤ 256) := Lib.hid ⟨hd.ltD, hd.sec.lt, hd.loD, hd.loS, hd.hn⟩
  have HW0 : Hid (StB w lo D S v2 ss fz off [] (w.alloc (.cells #[.pointer (some ⟨D, 0, none⟩)] 89))) := Lib.hid (by
    have hb : Below w.heap.size w (w.alloc (.cells #[.pointer (some ⟨D, 0, none⟩)] 89)) := (Below.refl _ w).alloc (Nat.le_refl _) _
    exact ⟨hd.box.keep hb, hd.sec.keep hb, heap_alloc_new w _, ⟨hb.size, fun g h1 _ => hb.block g h1⟩, hb.mono hlo⟩)
  clear hd
  refine callsIn_of_wp_marks Try.func89 rfl h89 ?_ hro
  simp only [Try.ntmps89, List.size_toArray, List.length_cons, List.length_nil, Nat.reduceAdd, Nat.reduceSub, Array.replicate_succ, Array.replicate_zero, List.push_toArray, List.append_toArray, List.nil_append, List.cons_append]
  gi_wp2
  have Hz : Hid ((w.alloc (.cells #[.pointer (some ⟨D, 0, none⟩)] 89)).heap.size = w.heap.size + 1) := Lib.hid (by simp)
  generalize (w.alloc (.cells #[.pointer (some ⟨D, 0, none⟩)] 89)) = w1 at *
  refine wpIn_rangeFunc_ownH hro hn1 (gf := gf) (lb := lb) rfl hg hent hseq kpB_t (kpB_b (by rw [Hz.out]; omega)) (Below.refl _ _) (fun _ => rfl)
    (fun pre W => StB w lo D S v2 ss fz off (pre.map (·.1)) W) (fun _ _ _ => False)
    (StB.own (L := fun pre : List (Wx ss.length) => pre.map (·.1)) (by rw [Hz.out]; omega) hlo) (fun _ _ _ _ _ hs _ _ => hs.elim) HW0.out
    (fun x a' W => ∃ Bx, w.heap.size + 1 ≤ Bx ∧ W.heap[Bx]? = some (.cells #[.int .i64 x.1.1, .string x.1.2] 77 (0, 0)) ∧ a' = { tmps := #[.pointer (some ⟨D, 0, none⟩), .func (.func gf) #[] lb, .pointer (some ⟨w.heap.size, 0, none⟩), undef, .pointer (some ⟨Bx, 0, none⟩), .func (.func gf) #[] lb, .agg #[.int .i64 x.1.1, .string x.1.2], undef, undef, undef, undef, undef, undef, undef, undef, undef, undef, undef, undef, undef, undef], defers := [] })
    (fun x a' _ X Y row hs hg hr => by obtain ⟨Bx, e1, e2, e3⟩ := hs; exact ⟨Bx, e1, row_own Bx 77 (fun (_ : Unit) => #[Value.int .i64 x.1.1, .string x.1.2]) () X Y row e2 hg (fun r e => (hr r e).2), e3⟩)
    ?assign ?body ?done ?stop
  case assign =>
    rintro l pre x W K hi hK
    have hlt := hi.ltV
    unfold wxE
    gi_wp2
    exact hK _ _ ((KeepsOthers.alloc _ _).from _) ⟨by simp, fun g h1 _ => heap_alloc_old _ _ _ (by omega)⟩ (hi.alloc hlo _) ⟨W.heap.size, by omega, heap_alloc_new _ _, rfl⟩
  case body =>
    rintro l pre x a' W hl ⟨r, hr⟩ hi ⟨Bx, hBx, bX, rfl⟩ hlt
    obtain ⟨⟨k, t⟩, ⟨hk0, hk1⟩, ht⟩ := x
    dsimp only at hk0 hk1 ht bX ⊢
    obtain ⟨m, rfl⟩ := Int.eq_ofNat_of_zero_le hk0
    have hm : m < ss.length := by omega
    have Hi := Lib.hid hi
    obtain ⟨C, hC, -⟩ := hi.sec
    have hml : m < (putAll ss (pre.map (·.1))).length := by rw [putAll_len]; exact hm
    have Hput := Lib.hid (hi.sec.put hml ht hC)
    have HputL : Hid ((putAll ss (pre.map (·.1))).set m (tornB ((putAll ss (pre.map (·.1)))[m]) t) = putAll ss ((pre ++ [(⟨((m : Int), t), ⟨hk0, hk1⟩, ht⟩ : Wx ss.length)]).map (fun x : Wx ss.length => x.1))) := Lib.hid (by
      rw [List.map_append, List.map_cons, List.map_nil, putAll_snoc, putS]
      simp only [Int.toNat_natCast]
      rw [List.getD_eq_getElem?_getD, List.getElem?_eq_getElem hml]; rfl)
    have HC := Lib.hid hC
    have x0 : W.cell? ⟨Bx, 0, none⟩ = some (.int .i64 (m : Int)) := by rw [cell_of_row _ _ _ _ _ _ bX]; rfl
    have x1 : W.cell? ⟨Bx, 1, none⟩ = some (.string t) := by rw [cell_of_row _ _ _ _ _ _ bX]; rfl
    have b0 : W.cell? ⟨w.heap.size, 0, none⟩ = some (.pointer (some ⟨D, 0, none⟩)) := by rw [cell_of_row _ _ _ _ _ _ hi.var]; rfl
    have d0 := hi.box.c0
    have hcp : (Builtin.copy_ #[106, 9] 3 #[.slice (some ⟨S, m * 64, none⟩) 64 64, .string t]).run Try.prog W.drew = .ok (goInt t.size) (W.drew.setRow S (putC C (m * 64) t.data.toList)) := by
      have hsz : t.data.toList.length = t.size := by simp
      have hz := Hput.out.1
      rw [putAll_len] at hz
      have := Lib.run_copy_row_string (P := Try.prog) W.drew 106 9 3 5 S (m * 64) 64 64 t C 123 Try.underlying106 (by kernel_rfl) hC ht (by rw [hz]; omega)
      rw [this, putC, hsz]
    have hm2 : 0 ≤ (m : Int) ∧ (m : Int) < (ss.length : Int) := ⟨hk0, hk1⟩
    have Hend : Hid (KeepsFrom w1.heap.size W (W.drew.setRow S (putC C (m * 64) t.data.toList)) ∧ KpB w.heap.size S W (W.drew.setRow S (putC C (m * 64) t.data.toList)) ∧ StB w lo D S v2 ss fz off ((pre ++ [(⟨((m : Int), t), ⟨hk0, hk1⟩, ht⟩ : Wx ss.length)]).map (fun x : Wx ss.length => x.1)) (W.drew.setRow S (putC C (m * 64) t.data.toList))) := Lib.hid (by
      have hset : ∀ g, g ≠ S → (W.drew.setRow S (putC C (m * 64) t.data.toList)).heap[g]? = W.heap[g]? := fun g hg => setRow_other W.drew S g _ hg
      have hsize : (W.drew.setRow S (putC C (m * 64) t.data.toList)).heap.size = W.heap.size := by simp [World.setRow]
      have hkb : KpB w.heap.size S W (W.drew.setRow S (putC C (m * 64) t.data.toList)) := ⟨by rw [hsize]; exact Nat.le_refl _, fun g _ hg => hset g hg⟩
      refine ⟨⟨by rw [hsize]; exact Nat.le_refl _, fun g o hg h0 ho => ?_⟩, hkb, ⟨(hset D (fun e => HSD.out e.symm)).trans Hi.out.box, ?_, (hset _ (by have := HDl.out; omega)).trans Hi.out.var, kpB_t Hi.out.keep hkb, below_setRow Hi.out.below.drew HDl.out.2.2.2.1 _⟩⟩
      · exact (hset g (by rintro rfl; rw [HC.out] at h0; cases h0; cases ho)).trans h0
      · rw [← HputL.out]; exact Hput.out.2)
    clear hi hC bX hlt Hput HputL
    gi_wp2
    refine wpIn_region_still_tail 10 (by kernel_rfl) (by kernel_rfl) (fun i o ho hi => ?_) ?_
    · rcases i with _ | _ | _ | _ | _ | _ | _ | _ | _ | _ | i
      all_goals first | omega | (simp only [List.getElem?_toArray, List.getElem?_cons_zero, List.getElem?_cons_succ, Option.some.injEq] at ho; subst ho; first | exact pln_load rfl | exact pln_nilCheck rfl | exact pln_fieldAddr rfl | exact pln_indexAddr rfl | exact pln_slice rfl)
    simp only [List.take_succ_cons, List.take_zero, List.drop_succ_cons, List.drop_zero]
    repeat still_step
    refine wpStill_nil ?_
    gi_wp2
    exact Hend.out
  case done =>
    rintro D' ys W hD hys hi hK
    rw [hys] at hi
    have Hi := Lib.hid hi
    have HDz : Hid (w.heap.size + 1 ≤ D') := Lib.hid (by have := Hz.out; omega)
    have b0 : W.cell? ⟨w.heap.size, 0, none⟩ = some (.pointer (some ⟨D, 0, none⟩)) := by rw [cell_of_row _ _ _ _ _ _ hi.var]; rfl
    have d1 := hi.box.c1
    have f1 := hi.box.f 1
    have Hk' := Lib.hid ((KeepsOthers.setCell W ⟨D, 1, none⟩ (.slice none 0 0)).same D' _ hK rfl)
    have Hend : Hid (Drv (W.setCell ⟨D, 1, none⟩ (.slice none 0 0)) lo D S (.slice none 0 0) (putAll ss L) [] fz off ∧ Below lo w (W.setCell ⟨D, 1, none⟩ (.slice none 0 0)) ∧ ∀ g, g < w.heap.size → g ≠ D → g ≠ S → (W.setCell ⟨D, 1, none⟩ (.slice none 0 0)).heap[g]? = w.heap[g]?) := Lib.hid (by
      refine ⟨⟨?_, hi.sec.same (heap_setCell_other _ ⟨D, 1, none⟩ _ _ HSD.out), ou_none _ _, HDl.out.2.2.1, HDl.out.2.2.2.1, by rw [putAll_len]; exact HDl.out.2.2.2.2⟩, hi.below.setCell (p := ⟨D, 1, none⟩) HDl.out.2.2.1 _, fun g h1 h2 h3 => (heap_setCell_other _ ⟨D, 1, none⟩ _ _ h2).trans (hi.keep.2 g h1 h3)⟩
      have := heap_setCell_same W D 1 _ 85 (.slice none 0 0) hi.box
      unfold VB
      rw [putAll_len]
      exact this)
    clear hi hK hD hys
    gi_wp2
    have hput : ∀ g, g < w.heap.size + 1 → ((W.setCell ⟨D, 1, none⟩ (.slice none 0 0)).putObj D' (.deferred none)).heap[g]? = (W.setCell ⟨D, 1, none⟩ (.slice none 0 0)).heap[g]? := fun g hg => World.putObj_heap_other (by have := HDz.out; omega)
    refine ⟨by simp, .inl ⟨_, _, rfl, run_takeDeferred Hk'.out, ?_⟩⟩
    obtain ⟨e1, e2, e3⟩ := Hend.out
    refine ⟨_, results_none rfl _ _ _, rfl, ?_, e2.trans (belowK_b (w := w) hlo _ D' _ _ (by have := HDz.out; omega) Hk'.out rfl rfl), fun g h1 h2 h3 => (hput g (by omega)).trans (e3 g h1 h2 h3)⟩
    exact ⟨(hput D (by have := HDl.out; omega)).trans e1.box, e1.sec.same (hput S (by have := HDl.out; omega)), ou_none _ _, e1.loD, e1.loS, e1.hn⟩
  case stop =>
    rintro D' c pre W hD hpre hi hK
    exact hi.elim
end Go.Proofs.Ytpjkeikaonkohaa
namespace Go.Proofs.Ytpjkeikaonkohaa
open Go.RowKit Go.Shelf
set_option linter.unusedVariables false
set_option maxHeartbeats 1000000 in
set_option maxRecDepth 100000 in
theorem storeAll_any {w : World} {lo D S : Nat} {v2 : Value} {ss : List ByteArray} {ps : List Pt} {fz : Int} {off : Bool} (hd : Drv w lo D S v2 ss ps fz off) (hlo : lo ≤ w.heap.size) (hl : ps.length ≤ 600) (hall : ∀ p ∈ ps, (0 ≤ p.1 ∧ p.1 < (ss.length : Int)) ∧ p.2.size ≤ 64) :
    Calls Try.prog 110 #[.pointer (some ⟨D, 0, none⟩)] w fun e w' => e = .returned (.int .i64 0) ∧ Drv w' lo D S (.slice none 0 0) (putAll ss ps) [] fz off ∧ Below lo w w' ∧ ∀ g, g < w.heap.size → g ≠ D → g ≠ S → w'.heap[g]? = w.heap[g]? := by
  obtain ⟨A, cap, hv2⟩ := OU.ex hd.pend
  subst hv2
  have Hd := Lib.hid hd; have Hlo := Lib.hid hlo; have Hall := Lib.hid hall
  have q1 := hd.box.c1
  have Hcap : Hid (ps.length ≤ cap ∧ cap ≤ maxLen) := Lib.hid (by
    rcases OU.sl hd.pend with ⟨h1, h2⟩ | ⟨g, c, h1, -, -, h3, h4⟩
    · have e := (Value.slice.inj h1)
      rw [← e.2.1.symm] at *
      subst h2
      exact ⟨by have := e.2.2; omega, by rw [e.2.2]; exact Nat.zero_le _⟩
    · have e := (Value.slice.inj h1).2.2
      subst e
      exact ⟨h3, h4⟩)
  have HW : Hid (Below w.heap.size w (w.alloc (.cells #[.slice A ps.length cap] 28)) ∧ (w.alloc (.cells #[.slice A ps.length cap] 28)).heap[w.heap.size]? = some (.cells #[.slice A ps.length cap] 28 (0, 0)) ∧ (w.alloc (.cells #[.slice A ps.length cap] 28)).heap.size = w.heap.size + 1) := Lib.hid ⟨(Below.refl _ w).alloc (Nat.le_refl _) _, heap_alloc_new w _, by simp⟩
  have Hb : Hid (∃ b0, (b0 < w.heap.size + 1 ∧ b0 ≠ S) ∧ ∀ j (hj : j < ps.length), ∃ o, A = some ⟨b0, o, none⟩ ∧ b0 < w.heap.size ∧ w.cell? ⟨b0, o + j * 2, none⟩ = some (.int .i64 ps[j].1) ∧ w.cell? ⟨b0, o + j * 2 + 1, none⟩ = some (.string ps[j].2)) := Lib.hid (by
    have hS := hd.sec.lt
    rcases OU.sl hd.pend with ⟨h1, h2⟩ | ⟨g, c, h1, -, h5, -, -⟩
    · subst h2
      exact ⟨w.heap.size, ⟨by omega, by omega⟩, fun j hj => absurd hj (by simp)⟩
    · have e := (Value.slice.inj h1)
      obtain ⟨rfl, -, rfl⟩ := e
      refine ⟨g, ⟨by omega, hd.neS g rfl⟩, fun j hj => ⟨0, rfl, h5, ?_, ?_⟩⟩
      · rw [Nat.zero_add]; exact (hd.pend.cell j hj).1
      · rw [Nat.zero_add]; exact (hd.pend.cell j hj).2)
  have HSl : Hid (S < w.heap.size) := Lib.hid hd.sec.lt
  clear hd hlo hall
  go_enter Try.func110, Try.ntmps110
  go_wp2_with fail
  refine (callsIn_wide.1 (valP_in Fence.wide 3 trivial rfl _ _ _ _)).mono ?_
  rintro e w1 ⟨rfl, rfl⟩
  go_wp2_with fail
  generalize (w.alloc (.cells #[.slice A ps.length cap] 28)) = w1 at *
  have HD1 := Lib.hid (Hd.out.keep HW.out.1)
  have HB1 : Hid (Below w1.heap.size w1 (w1.alloc (.cells #[.pointer (some ⟨D, 0, none⟩)] 89))) := Lib.hid ((Below.refl _ w1).alloc (Nat.le_refl _) _)
  obtain ⟨b0, hb0, hbc⟩ := Hb.out
  have hseq := valP_stops Fence.wide (3 - 1) trivial rfl (by omega) w.heap.size cap b0 w1.heap.size S ss.length A ps Hcap.out.1 Hcap.out.2 Hall.out ⟨by rw [HW.out.2.2]; omega, by have := HSl.out; omega⟩ ⟨by rw [HW.out.2.2]; exact hb0.1, hb0.2⟩ (w1.alloc (.cells #[.pointer (some ⟨D, 0, none⟩)] 89)) HB1.out.size
    (by rw [cell_of_row _ _ _ _ _ _ ((HB1.out.block _ (by rw [HW.out.2.2]; omega)).trans HW.out.2.1)]; rfl)
    (fun j hj => by
      obtain ⟨o, e1, e2, e3, e4⟩ := hbc j hj
      have hbb : Below w.heap.size w (w1.alloc (.cells #[.pointer (some ⟨D, 0, none⟩)] 89)) := HW.out.1.trans (HB1.out.mono HW.out.1.size)
      exact ⟨o, e1, (hbb.cell (p := ⟨b0, o + j * 2, none⟩) e2).trans e3, (hbb.cell (p := ⟨b0, o + j * 2 + 1, none⟩) e2).trans e4⟩)
  refine (callsIn_wide.1 (store_in Fence.wide 3 trivial rfl (by omega) trivial (enters_of Try.func125 (by kernel_rfl) rfl) HD1.out (by rw [HW.out.2.2]; have := Hlo.out; omega) hseq)).mono ?_
  rintro e w2 ⟨rfl, hd2, hb2, hk2⟩
  have HF : Hid (Drv w2 lo D S (.slice none 0 0) (putAll ss ps) [] fz off ∧ Below lo w w2 ∧ ∀ g, g < w.heap.size → g ≠ D → g ≠ S → w2.heap[g]? = w.heap[g]?) := Lib.hid ⟨hd2, (HW.out.1.mono Hlo.out).trans hb2, fun g h1 h2 h3 => (hk2 g (by rw [HW.out.2.2]; omega) h2 h3).trans (HW.out.1.block g h1)⟩
  clear hd2 hb2 hk2 hseq hbc
  go_wp2_with fail
  go_ret
  exact ⟨rfl, HF.out⟩
/-- The sectors after a barrier. -/
def barS (ss : List ByteArray) (ps : List Pt) (fz : Int) (off : Bool) : List ByteArray := if pwY fz off then putAll ss ps else ss
set_option maxHeartbeats 4000000 in
set_option maxRecDepth 100000 in
theorem operateB_any {w : World} {lo D S : Nat} {v2 : Value} {ss : List ByteArray} {ps : List Pt} {fz : Int} {off : Bool} (hd : Drv w lo D S v2 ss ps fz off) (hlo : lo ≤ w.heap.size) (hl : ps.length ≤ 600) (hf : -1 ≤ fz ∧ fz ≤ 100000) (hall : ∀ p ∈ ps, (0 ≤ p.1 ∧ p.1 < (ss.length : Int)) ∧ p.2.size ≤ 64) :
    Calls Try.prog 108 #[.pointer (some ⟨D, 0, none⟩), .func (.func 110) #[.pointer (some ⟨D, 0, none⟩)] #[]] w fun e w' =>
      e = .returned (.int .i64 (brC fz off)) ∧ ∃ A m c, Drv w' lo D S (.slice A m c) (barS ss ps fz off) (brP ps fz off) (pwF fz off) (pwO fz off) ∧ Below lo w w' := by
  have HW := Lib.hid (rows3 w (.cells #[.pointer (some ⟨D, 0, none⟩)] 89) (.cells #[.int .i64 0] 2) (.cells #[.int .i64 fz] 2))
  have Hd0 : Hid (Drv (((w.alloc (.cells #[.pointer (some ⟨D, 0, none⟩)] 89)).alloc (.cells #[.int .i64 0] 2)).alloc (.cells #[.int .i64 fz] 2)) lo D S v2 ss ps fz off) := Lib.hid (hd.keep HW.out.2.2.2.2)
  have Hd := Lib.hid hd; have Hall := Lib.hid hall; have Hl := Lib.hid hl; have Hlo := Lib.hid hlo
  have wf : IntKind.i64.wrap (fz - 1) = fz - 1 := IntWalk.i64_in _ (by omega)
  have hmf : ∀ (fn : Fn) (first cap : Array Value) (w : World), (Instr.makeFunc fn first cap).run Try.prog w = .ok (.func fn first cap) w := fun _ _ _ _ => rfl
  have q1 := (hd.keep ((((Below.refl _ w).alloc (Nat.le_refl _) (.cells #[.pointer (some ⟨D, 0, none⟩)] 89))).alloc (by simp) (.cells #[.int .i64 0] 2))).box.c2
  have q2 := Hd0.out.box.c2
  have f2 := Hd0.out.box.f 2
  have q3 := Hd0.out.box.c3
  have f3 := Hd0.out.box.f 3
  clear hd hl hlo hall
  have HB0 : Hid (OpB (((w.alloc (.cells #[.pointer (some ⟨D, 0, none⟩)] 89)).alloc (.cells #[.int .i64 0] 2)).alloc (.cells #[.int .i64 fz] 2)) w.heap.size D 0 fz) := Lib.hid ⟨HW.out.1, HW.out.2.1, HW.out.2.2.1⟩
  have HDn : Hid (D < w.heap.size ∧ lo ≤ D) := Lib.hid ⟨Hd.out.ltD, Hd.out.loD⟩
  have HBl : Hid (Below lo w (((w.alloc (.cells #[.pointer (some ⟨D, 0, none⟩)] 89)).alloc (.cells #[.int .i64 0] 2)).alloc (.cells #[.int .i64 fz] 2))) := Lib.hid (HW.out.2.2.2.2.mono Hlo.out)
  have hq1 : w.heap.size + 1 ≠ D ∧ w.heap.size + 1 ≠ S ∧ v2.ownBlock ≠ some (w.heap.size + 1) := Hd.out.other _ (Nat.le_succ _)
  have Hq1 := Lib.hid hq1; clear hq1
  obtain ⟨A, m, c, rfl⟩ := OU.slv Hd.out.pend
  have hoff : (off = true ∨ fz = 0) ∨ (off = false ∧ fz ≠ 0) := by
    cases off
    · by_cases h : fz = 0
      · exact .inl (.inr h)
      · exact .inr ⟨rfl, h⟩
    · exact .inl (.inl rfl)
  rcases hoff with hoff | ⟨rfl, hz⟩
  · have hy : pwY fz off = false := by rcases hoff with rfl | rfl <;> simp [pwY]
    have E : Hid (brC fz off = 13 ∧ brP ps fz off = ps ∧ pwF fz off = fz ∧ pwO fz off = true ∧ barS ss ps fz off = ss) := Lib.hid ⟨by simp [brC, hy], by simp [brP, hy], by simp [pwF, hy], by simp [pwO, hy], by simp [barS, hy]⟩
    clear hy
    have HE := Lib.hid (((HB0.out.setD HDn.out.1 2 (.int .i64 (fz - 1))).setD HDn.out.1 3 (.bool true)).setC 13)
    have HDr := Lib.hid ((((Hd0.out.fuse (fz - 1)).power true).setO Hq1.out 0 (.int .i64 13)))
    have HBe := Lib.hid (((HBl.out.setCell (p := ⟨D, 2, none⟩) HDn.out.2 (.int .i64 (fz - 1))).setCell (p := ⟨D, 3, none⟩) HDn.out.2 (.bool true)).setCell (p := ⟨w.heap.size + 1, 0, none⟩) (by have := Hlo.out; show lo ≤ w.heap.size + 1; omega) (.int .i64 13))
    cases off
    rotate_left
    · clear hoff
      go_enter_defers Try.func108, Try.ntmps108
      go_wp2_with fail
      refine opEnd_yes HE.out HDr.out.box HDn.out.1 (.inl (by decide)) (fun w h => by simp [results, Try.results108, go_sem, h]) ⟨by rw [E.out.1], _, _, _, by rw [E.out.2.1, E.out.2.2.1, E.out.2.2.2.1, E.out.2.2.2.2]; exact HDr.out.fuse fz, HBe.out.setCell (p := ⟨D, 2, none⟩) HDn.out.2 _⟩
    · obtain rfl : fz = 0 := hoff.resolve_left (by decide)
      clear hoff
      go_enter_defers Try.func108, Try.ntmps108
      go_wp2_with fail
      refine opEnd_yes HE.out HDr.out.box HDn.out.1 (.inl (by decide)) (fun w h => by simp [results, Try.results108, go_sem, h]) ⟨by rw [E.out.1], _, _, _, by rw [E.out.2.1, E.out.2.2.1, E.out.2.2.2.1, E.out.2.2.2.2]; exact HDr.out.fuse 0, HBe.out.setCell (p := ⟨D, 2, none⟩) HDn.out.2 _⟩
  have hy : pwY fz false = true := by simp [pwY, hz]
  have e1 : (fz == 0) = false := beq_eq_false_iff_ne.2 hz
  have Hd1 := Lib.hid (Hd0.out.fuse (fz - 1))
  have HB1 := Lib.hid (HB0.out.setD HDn.out.1 2 (.int .i64 (fz - 1)))
  have HBl1 := Lib.hid (HBl.out.setCell (p := ⟨D, 2, none⟩) HDn.out.2 (.int .i64 (fz - 1)))
  have Hlo1 : Hid (lo ≤ ((((w.alloc (.cells #[.pointer (some ⟨D, 0, none⟩)] 89)).alloc (.cells #[.int .i64 0] 2)).alloc (.cells #[.int .i64 fz] 2)).setCell ⟨D, 2, none⟩ (.int .i64 (fz - 1))).heap.size) := Lib.hid (Nat.le_trans Hlo.out HBl1.out.size)
  have E : Hid (brC fz false = 0 ∧ brP ps fz false = [] ∧ pwF fz false = (if 0 < fz then fz - 1 else fz) ∧ pwO fz false = false ∧ barS ss ps fz false = putAll ss ps) := Lib.hid ⟨by simp [brC, hy], by simp [brP, hy], by simp [pwF, hy], by simp [pwO, hy], by simp [barS, hy]⟩
  clear hy
  go_enter_defers Try.func108, Try.ntmps108
  go_wp2_with fail
  have q4 := HB1.out.c1
  have f4 := HB1.out.f1
  generalize ((((w.alloc (.cells #[.pointer (some ⟨D, 0, none⟩)] 89)).alloc (.cells #[.int .i64 0] 2)).alloc (.cells #[.int .i64 fz] 2)).setCell ⟨D, 2, none⟩ (.int .i64 (fz - 1))) = W1 at *
  clear q1 q2 f2 q3 f3 wf hmf
  refine (storeAll_any Hd1.out Hlo1.out Hl.out Hall.out).mono ?_
  rintro e w2 ⟨rfl, hd2, hb2, hk2⟩
  have Hd2 := Lib.hid hd2; have Hb2 := Lib.hid (HBl1.out.trans hb2)
  have HB2 := Lib.hid (HB1.out.keep (W' := w2) fun g hg hl => hk2 g hl (Hd.out.other g hg).1 (Hd.out.other g hg).2.1)
  have Hq2 : Hid (w.heap.size + 1 ≠ D ∧ w.heap.size + 1 ≠ S ∧ (Value.slice none 0 0).ownBlock ≠ some (w.heap.size + 1)) := Lib.hid ⟨Hq1.out.1, Hq1.out.2.1, fun e => by simp [Value.ownBlock] at e⟩
  have q5 := HB2.out.c1
  have f5 := HB2.out.f1
  have HE2 := Lib.hid (HB2.out.setC 0)
  have HDr := Lib.hid (Hd2.out.setO Hq2.out 0 (.int .i64 0))
  have HBe := Lib.hid (Hb2.out.setCell (p := ⟨w.heap.size + 1, 0, none⟩) (by have := Hlo.out; show lo ≤ w.heap.size + 1; omega) (.int .i64 0))
  clear hd2 hb2 hk2 q4 f4
  go_wp2_with fail
  by_cases hm : fz = -1
  · refine opEnd_yes HE2.out HDr.out.box HDn.out.1 (.inr hm) (fun w h => by simp [results, Try.results108, go_sem, h]) ⟨by rw [E.out.1], _, _, _, by rw [E.out.2.1, E.out.2.2.1, E.out.2.2.2.1, E.out.2.2.2.2, if_neg (by omega)]; exact HDr.out.fuse fz, HBe.out.setCell (p := ⟨D, 2, none⟩) HDn.out.2 _⟩
  · refine opEnd_no HE2.out hm (fun w h => by simp [results, Try.results108, go_sem, h]) ⟨by rw [E.out.1], _, _, _, by rw [E.out.2.1, E.out.2.2.1, E.out.2.2.2.1, E.out.2.2.2.2, if_pos (by omega)]; exact HDr.out, HBe.out⟩
set_option maxHeartbeats 1000000 in
set_option maxRecDepth 100000 in
theorem barrier_any {w : World} {lo D S : Nat} {v2 : Value} {ss : List ByteArray} {ps : List Pt} {fz : Int} {off : Bool} (hd : Drv w lo D S v2 ss ps fz off) (hlo : lo ≤ w.heap.size) (hl : ps.length ≤ 600) (hf : -1 ≤ fz ∧ fz ≤ 100000) (hall : ∀ p ∈ ps, (0 ≤ p.1 ∧ p.1 < (ss.length : Int)) ∧ p.2.size ≤ 64) :
    Calls Try.prog 87 #[.pointer (some ⟨D, 0, none⟩)] w fun e w' =>
      e = .returned (.int .i64 (brC fz off)) ∧ ∃ A m c, Drv w' lo D S (.slice A m c) (barS ss ps fz off) (brP ps fz off) (pwF fz off) (pwO fz off) ∧ Below lo w w' := by
  have Hd := Lib.hid hd; have Hl := Lib.hid hl; have Hlo := Lib.hid hlo; have Hf := Lib.hid hf; have Hall := Lib.hid hall
  have hmf : ∀ (fn : Fn) (first cap : Array Value) (w : World), (Instr.makeFunc fn first cap).run Try.prog w = .ok (.func fn first cap) w := fun _ _ _ _ => rfl
  clear hd hl hlo hf hall
  go_enter Try.func87, Try.ntmps87
  go_wp2_with fail
  refine (operateB_any Hd.out Hlo.out Hl.out Hf.out Hall.out).mono ?_
  rintro e w1 ⟨rfl, h1⟩
  have H1 := Lib.hid h1
  clear h1
  go_wp2_with fail
  go_ret
  exact ⟨rfl, H1.out⟩
theorem tornB_full (s t : ByteArray) (hs : s.size = 64) (ht : t.size = 64) : tornB s t = t := by
  have h1 : s.data.toList.drop t.size = [] := List.drop_eq_nil_of_le (by simp; omega)
  unfold tornB
  rw [h1, List.append_nil]
theorem putAll_br {ss : List ByteArray} {ps : List Pt} (h1 : ∀ x ∈ ss, x.size = 64) (h2 : ∀ p ∈ ps, (0 ≤ p.1 ∧ p.1 < (ss.length : Int)) ∧ p.2.size = 64) : ∀ k, k ≤ ps.length → putAll ss (ps.take k) = brS ss ps k
  | 0, _ => by simp [putAll, brS]
  | k + 1, hk => by
    have ih := putAll_br h1 h2 k (by omega)
    have hp := h2 ps[k] (List.getElem_mem _)
    rw [← take_snoc ps k (by omega), putAll_snoc, ih, ← brS_step ss ps k (by omega), putS]
    have hlt : ps[k].1.toNat < (brS ss ps k).length := by rw [brS_len]; omega
    rw [List.getD_eq_getElem?_getD, List.getElem?_eq_getElem hlt]
    show List.set _ _ (tornB ((brS ss ps k)[ps[k].1.toNat]) _) = _
    rw [tornB_full _ _ ?_ hp.2]
    rcases brS_in ss ps k (by omega) _ (List.getElem_mem hlt) with h | ⟨p, hpm, h⟩
    · exact h1 _ h
    · rw [← h]; exact (h2 p hpm).2
theorem dskOk_all {ss : List ByteArray} {ps : List Pt} {fz : Int} (h : dskOk ss ps fz = true) : (∀ x ∈ ss, x.size = 64) ∧ ∀ p ∈ ps, (0 ≤ p.1 ∧ p.1 < (ss.length : Int)) ∧ p.2.size = 64 := by
  obtain ⟨-, -, -, -, -, h1, h2⟩ := dskOk_iff.1 h
  refine ⟨fun x hx => ?_, fun p hp => ?_⟩
  · obtain ⟨i, hi, rfl⟩ := List.getElem_of_mem hx
    have := allTo_at h1 hi
    rw [bkAt_at ss i hi] at this
    exact of_decide_eq_true this
  · obtain ⟨i, hi, rfl⟩ := List.getElem_of_mem hp
    have := allTo_at h2 hi
    rw [pdAt_at _ ps i hi, Bool.and_eq_true, inB_iff] at this
    exact ⟨⟨this.1.1, by omega⟩, of_decide_eq_true this.2⟩
end Go.Proofs.Ytpjkeikaonkohaa
namespace Go.Proofs.Ytpjkeikaonkohaa
open Go.RowKit
set_option linter.unusedVariables false
theorem barS_brR {ss : List ByteArray} {ps : List Pt} {fz : Int} (off : Bool) (h : dskOk ss ps fz = true) : barS ss ps fz off = brR ss ps fz off := by
  unfold barS brR
  obtain ⟨h1, h2⟩ := dskOk_all h
  have := putAll_br h1 h2 ps.length (Nat.le_refl _)
  rw [List.take_length] at this
  rw [this]
theorem brC_cases (fz : Int) (off : Bool) : brC fz off = 0 ∨ brC fz off = 13 := by
  unfold brC
  split
  · exact .inl rfl
  · exact .inr rfl
set_option maxHeartbeats 2000000 in
set_option maxRecDepth 100000 in
theorem implBarrier_gen {B : Nat} {w : World} {v1 v2 : Value} {ss : List ByteArray} {ps : List Pt} {fz : Int} {off : Bool} (h1 : RiT B w v1 ss) (h2 : RiU B w v2 ps) (hB : B ≤ w.heap.size) :
    Calls Try.prog 37 #[.agg #[v1, v2, .int .i64 fz, .bool off]] w (AnsDC (baS ss ps fz off) (baP ss ps fz off) (baF ss ps fz off) (baO ss ps fz off) (baC ss ps fz off) w) := by
  have H1 := Lib.hid h1; obtain ⟨A1, c1, rfl, hl1, hm1, -⟩ := h1
  have H2 := Lib.hid h2; obtain ⟨A2, c2, rfl, -, -, -⟩ := h2
  have HB := Lib.hid (boxes2 w #[.slice A1 ss.length c1, .slice A2 ps.length c2, .int .i64 fz, .bool off] #[.slice none 0 0, .slice none 0 0, .int .i64 0, .bool false] 30 30)
  go_enter Try.func37, Try.ntmps37
  go_wp2_with fail
  generalize ((w.alloc (.cells #[.slice A1 ss.length c1, .slice A2 ps.length c2, .int .i64 fz, .bool off] 30)).alloc (.cells #[.slice none 0 0, .slice none 0 0, .int .i64 0, .bool false] 30)) = w0 at *
  refine (driveOf_any (H1.out.at hB HB.out.2.2.2) (H2.out.at hB HB.out.2.2.2) (Nat.le_refl _)).mono ?_
  rintro e w1 (⟨hok, rfl, g⟩ | ⟨hok, D, S, A, m, c, rfl, hd, g⟩)
  · have E : Hid (baS ss ps fz off = [] ∧ baP ss ps fz off = [] ∧ baF ss ps fz off = 0 ∧ baO ss ps fz off = false ∧ baC ss ps fz off = 1) := Lib.hid ⟨by simp [baS, hok], by simp [baP, hok], by simp [baF, hok], by simp [baO, hok], by simp [baC, hok]⟩
    have R1 : Hid (w1.heap[w.heap.size + 1]? = some (.cells #[.slice none 0 0, .slice none 0 0, .int .i64 0, .bool false] 30 (0, 0))) := Lib.hid ((g.block _ (by have := HB.out.2.2.1; omega)).trans HB.out.2.1)
    have B1 : Hid (Below w.heap.size w w1) := Lib.hid (HB.out.2.2.2.trans (g.mono HB.out.2.2.2.size))
    clear g hok
    go_wp2_with (refine wpList_store_row rfl 30 (.tmp 2) (.tmp 13) rfl (w.heap.size + 1) #[.slice none 0 0, .slice none 0 0, .int .i64 0, .bool false] rfl rfl 30 _ R1.out (infoD4 _ _ _ _) rfl oneD4 ?_)
    refine bodyPost_ret (v := .tuple #[.agg #[.slice none 0 0, .slice none 0 0, .int .i64 0, .bool false], .int .i64 1]) ?_ rfl ?_
    · exact results_cell_row2 rfl _ _ (w.heap.size + 1) 30 _ (0, 0) _ _ rfl rfl (setRow_heap _ _ _ _ _ _ R1.out) Try.underlying30 rfl (by kernel_rfl)
    · rw [E.out.1, E.out.2.1, E.out.2.2.1, E.out.2.2.2.1, E.out.2.2.2.2]
      exact DskO.ans (DskO.nil _ _) (below_setRow B1.out (Nat.le_succ _) _)
  have R1 : Hid (w1.heap[w.heap.size + 1]? = some (.cells #[.slice none 0 0, .slice none 0 0, .int .i64 0, .bool false] 30 (0, 0))) := Lib.hid ((g.block _ (by have := HB.out.2.2.1; omega)).trans HB.out.2.1)
  have B1 : Hid (Below w.heap.size w w1) := Lib.hid (HB.out.2.2.2.trans (g.mono HB.out.2.2.2.size))
  have Hd := Lib.hid hd
  have Hlo : Hid (w.heap.size + 2 ≤ D ∧ w.heap.size + 2 ≤ S ∧ w0.heap.size = w.heap.size + 2 ∧ w0.heap.size ≤ w1.heap.size) := Lib.hid ⟨by have := hd.loD; have := HB.out.2.2.1; omega, by have := hd.loS; have := HB.out.2.2.1; omega, HB.out.2.2.1, g.size⟩
  have hdk := dskOk_iff.1 hok
  have Hall : Hid (∀ p ∈ ps, (0 ≤ p.1 ∧ p.1 < (ss.length : Int)) ∧ p.2.size ≤ 64) := Lib.hid (fun p hp => ⟨((dskOk_all hok).2 p hp).1, by rw [((dskOk_all hok).2 p hp).2]; exact Nat.le_refl _⟩)
  have Hbd : Hid (ps.length ≤ 600 ∧ -1 ≤ fz ∧ fz ≤ 100000) := Lib.hid ⟨hdk.2.2.1, hdk.2.2.2.1, hdk.2.2.2.2.1⟩
  have E : Hid (baS ss ps fz off = barS ss ps fz off ∧ baP ss ps fz off = brP ps fz off ∧ baF ss ps fz off = pwF fz off ∧ baO ss ps fz off = pwO fz off ∧ baC ss ps fz off = brC fz off) := Lib.hid ⟨by simp [baS, hok, barS_brR off hok], by simp [baP, hok], by simp [baF, hok], by simp [baO, hok], by simp [baC, hok]⟩
  clear g hd hdk hok
  go_wp2_with fail
  refine (barrier_any Hd.out (by have := Hlo.out; omega) Hbd.out.1 Hbd.out.2 Hall.out).mono ?_
  rintro e w2 ⟨rfl, A3, m3, c3, hd2, hb2⟩
  have Hd2 := Lib.hid hd2
  have B2 : Hid (Below w.heap.size w w2) := Lib.hid (B1.out.trans (hb2.mono (by have := Hlo.out; omega)))
  have R2 : Hid (w2.heap[w.heap.size + 1]? = some (.cells #[.slice none 0 0, .slice none 0 0, .int .i64 0, .bool false] 30 (0, 0))) := Lib.hid ((hb2.block _ (by have := Hlo.out; omega)).trans R1.out)
  have Z2 : Hid (w.heap.size + 2 ≤ w2.heap.size) := Lib.hid (by have := hb2.size; have := Hlo.out; omega)
  clear hd2 hb2
  have HC5 := Lib.hid (brC_cases fz off)
  generalize brC fz off = C at *
  generalize barS ss ps fz off = S2 at *
  generalize brP ps fz off = P2 at *
  generalize pwF fz off = F2 at *
  generalize pwO fz off = O2 at *
  go_wp2_with fail
  refine (after_yes Hd2.out HC5.out).mono ?_
  rintro e w3 ⟨v1, rfl, ho, hg⟩
  obtain ⟨Ao, mo, co, rfl⟩ := OT.slv ho
  have HO := Lib.hid ho; have B3 := Lib.hid (B2.out.trans (hg.mono B2.out.size))
  have R3 : Hid (w3.heap[w.heap.size + 1]? = some (.cells #[.slice none 0 0, .slice none 0 0, .int .i64 0, .bool false] 30 (0, 0))) := Lib.hid ((hg.block _ (by have := Z2.out; omega)).trans R2.out)
  have HU : Hid (OU w3 (w.heap.size + 2) (.slice A3 m3 c3) P2) := Lib.hid (own_lo (own_bel Hd2.out.pend hg) (by have := Hlo.out; omega))
  clear ho hg
  go_wp2_with (refine wpList_store_row rfl 30 (.tmp 2) (.tmp 18) rfl (w.heap.size + 1) #[.slice Ao mo co, .slice A3 m3 c3, .int .i64 F2, .bool O2] rfl rfl 30 _ R3.out (infoD4 _ _ _ _) rfl oneD4 ?_)
  refine bodyPost_ret (v := .tuple #[.agg #[.slice Ao mo co, .slice A3 m3 c3, .int .i64 F2, .bool O2], .int .i64 C]) ?_ rfl ?_
  · exact results_cell_row2 rfl _ _ (w.heap.size + 1) 30 _ (0, 0) _ _ rfl rfl (setRow_heap _ _ _ _ _ _ R3.out) Try.underlying30 rfl (by kernel_rfl)
  · rw [E.out.1, E.out.2.1, E.out.2.2.1, E.out.2.2.2.1, E.out.2.2.2.2]
    refine DskO.ans ⟨own_lo (own_same HO.out fun q hq => setRow_other _ _ q _ (by have := (own_wi HO.out q hq).1; have := Z2.out; omega)) (by have := Z2.out; omega), own_lo (own_same HU.out fun q hq => setRow_other _ _ q _ (by have := (own_wi HU.out q hq).1; omega)) (by omega), ?_⟩ (below_setRow B3.out (Nat.le_succ _) _)
    exact OT.ap (own_lo HO.out (Nat.zero_le _)) (own_lo HU.out (Nat.zero_le _))
theorem implBarrier_any {w : World} {A1 A2 : Option Addr} {ss : List ByteArray} {ps : List Pt} {fz : Int} {off : Bool} (h1 : RiT w.heap.size w (.slice A1 ss.length ss.length) ss) (h2 : RiU w.heap.size w (.slice A2 ps.length ps.length) ps) :
    Calls Try.prog 37 #[.agg #[.slice A1 ss.length ss.length, .slice A2 ps.length ps.length, .int .i64 fz, .bool off]] w (AnsDC (baS ss ps fz off) (baP ss ps fz off) (baF ss ps fz off) (baO ss ps fz off) (baC ss ps fz off) w) := implBarrier_gen h1 h2 (Nat.le_refl _)
end Go.Proofs.Ytpjkeikaonkohaa
