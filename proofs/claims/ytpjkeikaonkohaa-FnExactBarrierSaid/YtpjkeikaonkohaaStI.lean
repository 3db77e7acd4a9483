/- The contract of the library's iterator over pairs of number and string, and of the program's store over any iterator. No statement is proved here. -/
import Derived.RangeFuncNested
import Derived.RangeFuncBound
import Derived.RangeFuncCalls
import Derived.RangeFuncLeaves
import Derived.Shelf.Abstract
import Derived.Shelf.RegionOpen
import Derived.WalkKit
import Derived.OwnWalkIn
import Derived.TacticsInMore
import Derived.LoopNIn
import Derived.LoopIn
import Derived.Test.YtpjkeikaonkohaaCts
import Derived.Test.YtpjkeikaonkohaaOpW
namespace Go.Proofs.Ytpjkeikaonkohaa
open Go.RowKit Go.Shelf
attribute [local go_sem] Oper.semAt_some
set_option linter.unusedVariables false
/-- What lay below B, the sectors aside, is as it was. -/
def KpB (B S : Nat) (W W' : World) : Prop := W.heap.size ≤ W'.heap.size ∧ ∀ g, g < B → g ≠ S → W'.heap[g]? = W.heap[g]?
theorem kpB_refl (B S : Nat) (W : World) : KpB B S W W := ⟨Nat.le_refl _, fun _ _ _ => rfl⟩
theorem kpB_t {B S : Nat} {X Y Z : World} (h : KpB B S X Y) (k : KpB B S Y Z) : KpB B S X Z := ⟨Nat.le_trans h.1 k.1, fun g h1 h2 => (k.2 g h1 h2).trans (h.2 g h1 h2)⟩
theorem kpB_b {B S : Nat} {w : World} (hB : B ≤ w.heap.size) (W : World) (l : Nat) (o o' : Obj) (hl : w.heap.size ≤ l) (h : W.heap[l]? = some o) (_ : o.isCells = false) (_ : o.isWalk = false) : KpB B S W (W.putObj l o') := ⟨by simp [World.putObj], fun g hg _ => World.putObj_heap_other (by omega)⟩
/-- Writes that a drive of n sectors can take. -/
abbrev Wx (n : Nat) := { p : Pt // (0 ≤ p.1 ∧ p.1 < (n : Int)) ∧ p.2.size ≤ 64 }
def wxE {n : Nat} (x : Wx n) : Array Value := #[.agg #[.int .i64 x.1.1, .string x.1.2]]
theorem take_snoc (ps : List Pt) (j : Nat) (h : j < ps.length) : ps.take j ++ [ps[j]] = ps.take (j + 1) := by rw [List.take_succ_eq_append_getElem h]
set_option maxRecDepth 100000 in
set_option maxHeartbeats 2000000 in
theorem valP1_in (F : Fence) (n : Nat) (h67 : F.fn 125) (hro : F.round = none) (hn : 1 ≤ n) (l Bs cap b0 B S : Nat) (A : Option Addr) (ps : List Pt) (hlen : ps.length ≤ cap) (hcap : cap ≤ maxLen) (hBsB : Bs < B ∧ Bs ≠ S) (hb0 : b0 < B ∧ b0 ≠ S) (J Jx : List Pt → World → Prop)
    (hJ : ∀ s W o, J s W → J s (W.alloc o))
    (hY : ∀ pre x W, J pre W → pre.length < ps.length → x ∈ ps → YieldAt F (n - 1) Try.prog l #[.agg #[.int .i64 x.1, .string x.2]] W fun e W' =>
      (e = .returned (.bool true) ∧ J (pre ++ [x]) W' ∧ KpB B S W W') ∨ (e = .returned (.bool false) ∧ Jx (pre ++ [x]) W'))
    (W : World) (hBW : B ≤ W.heap.size) (hBs : W.cell? ⟨Bs, 0, none⟩ = some (.slice A ps.length cap)) (hc : ∀ j (hj : j < ps.length), ∃ o, A = some ⟨b0, o, none⟩ ∧ W.cell? ⟨b0, o + j * 2, none⟩ = some (.int .i64 ps[j].1) ∧ W.cell? ⟨b0, o + j * 2 + 1, none⟩ = some (.string ps[j].2)) (h0 : J [] W) :
    CallsIn F n Try.prog 125 #[.func (.yield l) #[] #[], .pointer (some ⟨Bs, 0, none⟩)] W fun e W' => (∃ v, e = .returned v) ∧
      ((∃ ys, ys = ps ∧ J ys W') ∨ (∃ pre, True ∧ Jx pre W')) := by
  unfold maxLen at hcap
  have Hc := Lib.hid hc; clear hc
  refine callsIn_of_wp Try.func125 rfl h67 ?_ hro
  simp only [Try.ntmps125, List.size_toArray, List.length_cons, List.length_nil, Nat.reduceAdd, Nat.reduceSub, Array.replicate_succ, Array.replicate_zero, List.push_toArray, List.append_toArray, List.nil_append, List.cons_append]
  gi_wp2
  gi_loopw [4, 7] (fun s x wr => ∃ j : Nat, j ≤ ps.length ∧ x = .int .i64 (j : Int) ∧ J (ps.take j) wr ∧ KpB B S W wr ∧ B ≤ wr.heap.size)
    (fun _ x _ => ps.length - (intOf x).toNat)
  case atStart => exact ⟨0, Nat.zero_le _, rfl, by simpa using h0, kpB_refl _ _ _, hBW⟩
  case round =>
    obtain ⟨j, hj, rfl, hJs, hnx, hz⟩ := hrel
    have Hnx := Lib.hid hnx; have Hz := Lib.hid hz; clear hnx hz
    by_cases hlt : j < ps.length
    · obtain ⟨o, rfl, hcell, hcell1⟩ := Hc.out j hlt
      have hcell2 : wr.cell? ⟨b0, o + j * 2, none⟩ = some (.int .i64 ps[j].1) := (World.cell?_of_block (w := W) (a := ⟨b0, o + j * 2, none⟩) (Hnx.out.2 _ hb0.1 hb0.2)).trans hcell
      have hcell3 : wr.cell? ⟨b0, o + j * 2 + 1, none⟩ = some (.string ps[j].2) := (World.cell?_of_block (w := W) (a := ⟨b0, o + j * 2 + 1, none⟩) (Hnx.out.2 _ hb0.1 hb0.2)).trans hcell1
      obtain ⟨fn, tmps, assign, body, hy, hR⟩ := hY _ ps[j] (wr.alloc (.cells #[.int .i64 ps[j].1, .string ps[j].2] 77)) (hJ _ _ _ hJs) (by rw [List.length_take]; omega) (List.getElem_mem hlt)
      have Hst := Lib.hid (take_snoc ps j hlt)
      have Hka : Hid (KpB B S wr (wr.alloc (.cells #[.int .i64 ps[j].1, .string ps[j].2] 77))) := Lib.hid ⟨by simp, fun g hg _ => heap_alloc_old _ _ _ (by have := Hz.out; omega)⟩
      clear hcell hcell1 hJs
      gi_wp2
      refine hR.mono ?_
      rintro e W3 (⟨rfl, hJ3, hk3⟩ | ⟨rfl, hJx3⟩)
      · have HJ3 : Hid (J (ps.take (j + 1)) W3) := Lib.hid (by rw [← Hst.out]; exact hJ3)
        have HK := Lib.hid (kpB_t Hnx.out (kpB_t Hka.out hk3))
        have HZ3 : Hid (B ≤ W3.heap.size) := Lib.hid (Nat.le_trans Hz.out (Nat.le_trans Hka.out.1 hk3.1))
        clear hJ3 hk3
        gi_wp2
        go_roundw
        case rel => exact ⟨j + 1, by omega, by go_num, HJ3.out, HK.out, HZ3.out⟩
        case measure => simp [intOf]; omega
      · gi_wp2
        refine bodyPost_ret (results_none rfl _ _ _) rfl ?_
        exact ⟨⟨_, rfl⟩, .inr ⟨_, trivial, hJx3⟩⟩
    · obtain rfl : j = ps.length := by omega
      rw [List.take_length] at hJs
      gi_wp2
      go_end0
      exact ⟨⟨_, rfl⟩, .inl ⟨_, rfl, hJs⟩⟩
set_option maxHeartbeats 1000000 in
theorem valP_in (F : Fence) (n : Nat) (h62 : F.fn 121) (hro : F.round = none) (a : Option Addr) (len cap : Nat) (w : World) :
    CallsIn F n Try.prog 121 #[.slice a len cap] w fun e w' => e = .returned (.func (.func 125) #[] #[.pointer (some ⟨w.heap.size, 0, none⟩)]) ∧ w' = w.alloc (.cells #[.slice a len cap] 28) := by
  refine callsIn_of_wp Try.func121 rfl h62 ?_ hro
  simp only [Try.ntmps121, List.size_toArray, List.length_cons, List.length_nil, Nat.reduceAdd, Nat.reduceSub, Array.replicate_succ, Array.replicate_zero, List.push_toArray, List.append_toArray, List.nil_append, List.cons_append]
  gi_wp2
  go_ret
  exact ⟨rfl, rfl⟩
theorem valP_stops (F : Fence) (n : Nat) (h67 : F.fn 125) (hro : F.round = none) (hn : 1 ≤ n) (Bs cap b0 B S m : Nat) (A : Option Addr) (ps : List Pt) (hlen : ps.length ≤ cap) (hcap : cap ≤ maxLen) (hall : ∀ p ∈ ps, (0 ≤ p.1 ∧ p.1 < (m : Int)) ∧ p.2.size ≤ 64) (hBsB : Bs < B ∧ Bs ≠ S) (hb0 : b0 < B ∧ b0 ≠ S) (w : World) (hB : B ≤ w.heap.size)
    (hc : w.cell? ⟨Bs, 0, none⟩ = some (.slice A ps.length cap)) (hd : ∀ j (hj : j < ps.length), ∃ o, A = some ⟨b0, o, none⟩ ∧ w.cell? ⟨b0, o + j * 2, none⟩ = some (.int .i64 ps[j].1) ∧ w.cell? ⟨b0, o + j * 2 + 1, none⟩ = some (.string ps[j].2)) :
    SeqStopsK F n Try.prog 125 #[.pointer (some ⟨Bs, 0, none⟩)] (wxE (n := m)) (KpB B S) (fun ys => ys.map (·.1) = ps) (fun _ => True) ps.length w := fun l J Jx W hW hJ _ hY h0 => by
  refine (valP1_in F n h67 hro hn l Bs cap b0 B S A ps hlen hcap hBsB hb0 (fun pre W' => (∃ q : List (Wx m), q.map (·.1) = pre ∧ J q W') ∧ W.heap.size ≤ W'.heap.size) (fun pre W => ∃ q : List (Wx m), q.map (·.1) = pre ∧ Jx q W) ?_ ?_ W (Nat.le_trans hB hW.size) ((hW.cell (p := ⟨Bs, 0, none⟩) (show Bs < _ by omega)).trans hc)
    (fun j hj => by obtain ⟨o, e, hcj, hcj2⟩ := hd j hj; exact ⟨o, e, (hW.cell (p := ⟨b0, o + j * 2, none⟩) (show b0 < _ by omega)).trans hcj, (hW.cell (p := ⟨b0, o + j * 2 + 1, none⟩) (show b0 < _ by omega)).trans hcj2⟩) ⟨⟨[], rfl, h0⟩, Nat.le_refl _⟩).mono ?_
  · rintro s W1 o ⟨⟨q, rfl, hq⟩, hz⟩
    exact ⟨⟨q, rfl, hJ q W1 _ none hq (World.grownBy_alloc W1 o none) (fun r e => by cases e)⟩, by simp; omega⟩
  · rintro pre x W1 ⟨⟨q, rfl, hq⟩, hz⟩ hl hx
    refine (hY q ⟨x, hall x hx⟩ W1 hq (by simpa using hl)).mono ?_
    rintro e W' (⟨rfl, hj, hk⟩ | ⟨rfl, hj⟩)
    · exact .inl ⟨rfl, ⟨⟨q ++ [⟨x, hall x hx⟩], by simp, hj⟩, Nat.le_trans hz hk.1⟩, hk⟩
    · exact .inr ⟨rfl, ⟨q ++ [⟨x, hall x hx⟩], by simp, hj⟩⟩
  · rintro e W' ⟨he, ⟨ys, rfl, ⟨q, hq, hj⟩, _⟩ | ⟨pre, _, q, hq, hj⟩⟩
    · exact ⟨he, .inl ⟨q, hq, hj⟩⟩
    · exact ⟨he, .inr ⟨q, trivial, hj⟩⟩
/-- Bytes over the beginning of a sector. -/
def tornB (s t : ByteArray) : ByteArray := ⟨(t.data.toList ++ s.data.toList.drop t.size).toArray⟩
def putS (ss : List ByteArray) (p : Pt) : List ByteArray := ss.set p.1.toNat (tornB (ss.getD p.1.toNat ByteArray.empty) p.2)
theorem putS_len (ss : List ByteArray) (p : Pt) : (putS ss p).length = ss.length := by simp [putS]
def putAll (ss : List ByteArray) (ps : List Pt) : List ByteArray := ps.foldl putS ss
theorem putAll_len : ∀ (ps : List Pt) (ss : List ByteArray), (putAll ss ps).length = ss.length
  | [], _ => rfl
  | p :: ps, ss => by
    show (putAll (putS ss p) ps).length = _
    rw [putAll_len ps, putS_len]
theorem putAll_snoc (ss : List ByteArray) (ps : List Pt) (p : Pt) : putAll ss (ps ++ [p]) = putS (putAll ss ps) p := by simp [putAll]
theorem tornB_size (s t : ByteArray) (hs : s.size = 64) (ht : t.size ≤ 64) : (tornB s t).size = 64 := by
  show (t.data.toList ++ s.data.toList.drop t.size).toArray.size = 64
  have h1 : t.data.toList.length = t.size := by simp
  have h2 : s.data.toList.length = s.size := by simp
  simp only [List.size_toArray, List.length_append, List.length_drop]
  omega
theorem tornB_len (s t : ByteArray) (j : Nat) (h : j < (tornB s t).size) : j < (t.data.toList ++ s.data.toList.drop t.size).length := by
  have h2 : j < (t.data.toList ++ s.data.toList.drop t.size).toArray.size := h
  rwa [List.size_toArray] at h2
theorem tornB_at (s t : ByteArray) (j : Nat) (h : j < (tornB s t).size) : (tornB s t)[j] = (t.data.toList ++ s.data.toList.drop t.size)[j]'(tornB_len s t j h) := by
  rfl
theorem Sec.put {w : World} {S k : Nat} {ss : List ByteArray} (h : Sec w S ss) (hk : k < ss.length) {t : ByteArray} (ht : t.size ≤ 64) {C : Array Value} (hC : w.heap[S]? = some (.cells C 123 (0, 0))) :
    C.size = ss.length * 64 ∧ Sec (w.setRow S (putC C (k * 64) t.data.toList)) S (ss.set k (tornB ss[k] t)) := by
  obtain ⟨C', hC', hz, hall⟩ := h
  rw [hC] at hC'
  obtain rfl : C = C' := by cases hC'; rfl
  have hl : t.data.toList.length = t.size := by simp
  have h64 := (hall k hk).1
  have hsl : ss[k].data.toList.length = 64 := by rw [← h64]; simp
  have hb : k * 64 + t.data.toList.length ≤ C.size := by rw [hl, hz]; omega
  refine ⟨hz, _, setRow_heap _ _ _ _ _ _ hC, by rw [putC_size _ _ _ hb, hz, List.length_set], fun i hi => ?_⟩
  rw [List.length_set] at hi
  by_cases e : k = i
  · subst e
    rw [List.getElem_set_self]
    refine ⟨tornB_size _ _ h64 ht, fun j hj => ?_⟩
    have hj64 : j < 64 := by rw [tornB_size _ _ h64 ht] at hj; exact hj
    rw [tornB_at]
    rcases Nat.lt_or_ge j t.size with hjt | hjt
    · rw [putC_in _ _ _ hb j (by rw [hl]; exact hjt), List.getElem_append_left (by rw [hl]; exact hjt)]
    · rw [putC_out _ _ _ hb _ (.inr (by rw [hl]; omega)), (hall k hk).2 j (by omega), List.getElem_append_right (by rw [hl]; exact hjt), List.getElem_drop]
      have e2 : t.size + (j - t.data.toList.length) = j := by rw [hl]; omega
      simp only [e2]
      rw [← bytes_list ss[k] j (by omega)]
  · rw [List.getElem_set_ne e]
    obtain ⟨a, b⟩ := hall i hi
    refine ⟨a, fun j hj => ?_⟩
    rw [putC_out _ _ _ hb _ (by rw [hl]; omega)]
    exact b j hj
end Go.Proofs.Ytpjkeikaonkohaa
