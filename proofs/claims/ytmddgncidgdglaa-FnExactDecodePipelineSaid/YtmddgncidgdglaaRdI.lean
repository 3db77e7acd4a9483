/- The contract of the program's function that reverses runs. No statement is proved here. -/
import Derived.Test.YtmddgncidgdglaaDcP2
import Derived.Test.YtmddgncidgdglaaFre
import Derived.Test.YtmddgncidgdglaaBl2
import Derived.Test.YtmddgncidgdglaaRpt
import Derived.Test.YtmddgncidgdglaaRnP
namespace Go.Proofs.Ytmddgncidgdglaa
open Go.RowKit
set_option linter.unusedVariables false
/-- A list of bytes as a text. -/
def bL (l : List UInt8) : ByteArray := ⟨l.toArray⟩
theorem bL_self (s : ByteArray) : bL s.data.toList = s := by unfold bL; simp
theorem bL_size (l : List UInt8) : (bL l).size = l.length := by show l.toArray.size = _; simp
theorem bL_app (a b : List UInt8) : bL a ++ bL b = bL (a ++ b) := by
  apply ByteArray.ext
  simp [bL]
theorem fR_drop (l : List UInt8) (m : Nat) : fR (bL l) m = bL (l.drop m) := by
  apply ByteArray.ext
  apply Array.toList_inj.1
  unfold fR bL
  simp only [ByteArray.data_extract, Array.toList_extract, List.extract_eq_take_drop]
  have h : (⟨l.toArray⟩ : ByteArray).size = l.length := by show l.toArray.size = _; simp
  rw [h]
  by_cases hm : m ≤ l.length
  · rw [Nat.min_eq_left hm, List.take_of_length_le (by simp)]
  · rw [Nat.min_eq_right (by omega), List.drop_eq_nil_of_le (Nat.le_refl _), List.drop_eq_nil_of_le (by omega)]
    simp
theorem fT_take (l : List UInt8) (m : Nat) : fT (bL l) m = bL (l.take m) := by
  apply ByteArray.ext
  apply Array.toList_inj.1
  unfold fT bL
  simp only [ByteArray.data_extract, Array.toList_extract, List.extract_eq_take_drop, List.drop_zero, Nat.sub_zero]
  have h : (⟨l.toArray⟩ : ByteArray).size = l.length := by show l.toArray.size = _; simp
  rw [h]
  by_cases hm : m ≤ l.length
  · rw [Nat.min_eq_left hm]
  · rw [Nat.min_eq_right (by omega), List.take_of_length_le (Nat.le_refl _), List.take_of_length_le (by omega)]
theorem nV_one (x : UInt8) (l : List UInt8) : nV (bL (x :: l)) 1 = (x.toNat : Int) := by
  unfold nV
  rw [if_pos (by rw [bL_size]; simp)]
  unfold gV
  have h : cutL (bL (x :: l)) 0 1 = [x] := by
    unfold cutL bL
    simp
  have h2 : leVal [x] = (x.toNat : Int) := by simp [leVal]
  rw [h, h2, if_pos (by have := x.toNat_lt; omega)]
theorem IsB.keep {c b : Nat} {bs : List Value} {w w' : World} (h : IsB b b bs w) (hk : ∀ k, k ≠ c → w'.heap[k]? = w.heap[k]?) (hc : c < b) : IsB b b bs w' := by
  have key : ∀ p, Lib.BuilderAt 67 5 b b p bs w → Lib.BuilderAt 67 5 b b p bs w' := fun p h => by
    obtain ⟨h1, v, h2, h3, h4⟩ := h
    exact ⟨h1, v, (hk b (by omega)).trans h2, own_same h3 (fun g hg => hk g (by have := (World.ownsRow.lt h3 g hg).1; omega)), h4⟩
  rcases h with h | h
  · exact .inl (key _ h)
  · exact .inr (key _ h)
theorem repeat_one (v : UInt8) : ∀ c, Lib.repeatL [v] c = List.replicate c v
  | 0 => rfl
  | c + 1 => by unfold Lib.repeatL; rw [repeat_one v c, List.replicate_succ]; rfl
theorem FrA.kp {b c : Nat} {t : ByteArray} {w w' : World} (h : FrA w c t) (hk : Kp b w w') (hc : c ≠ b) : FrA w' c t := hk c _ _ _ hc h (by decide)
theorem rdL_head {x : UInt8} {l out : List UInt8} (h : x.toNat = 0) : rdL (x :: l) out = none := by
  rcases l with _ | ⟨v, l⟩
  · rfl
  · exact rdL_no (.inl h)
theorem toListB_loop (t : ByteArray) (i : Nat) (r : List UInt8) : ByteArray.toList.loop t i r = r.reverse ++ t.data.toList.drop i := by
  have hz : t.data.toList.length = t.size := by simp
  induction i, r using ByteArray.toList.loop.induct (bs := t) with
  | case1 i r h ih =>
    unfold ByteArray.toList.loop
    rw [if_pos h, ih, List.reverse_cons, List.append_assoc, List.drop_eq_getElem_cons (i := i) (by omega)]
    congr 1
    have h2 : i < t.data.size := h
    have e : t.get! i = t.data.toList[i]'(by omega) := by
      show t.data[i]! = t.data[i]
      exact getElem!_pos t.data i h2
    rw [e]; rfl
  | case2 i r h =>
    unfold ByteArray.toList.loop
    rw [if_neg h, List.drop_eq_nil_of_le (by omega), List.append_nil]
theorem toListB (t : ByteArray) : t.toList = t.data.toList := by
  show ByteArray.toList.loop t 0 [] = _
  rw [toListB_loop]
  simp
def szAt (w : World) (c : Nat) : Nat := match w.cell? ⟨c, 0, none⟩ with
  | some (.string t) => t.size
  | _ => 0
theorem FrA.sz {w : World} {c : Nat} {t : ByteArray} (h : FrA w c t) : szAt w c = t.size := by
  have q : w.cell? ⟨c, 0, none⟩ = some (.string t) := by rw [cell_of_row _ _ _ _ _ _ h]; rfl
  unfold szAt
  rw [q]
set_option maxHeartbeats 2000000 in
set_option maxRecDepth 100000 in
theorem implRunDecode_any (s : ByteArray) (hs : s.size ≤ 1048576) (w : World) :
    Calls Try.prog 31 #[.string s] w (GivesB (ansO (rdL s.data.toList [])) w) := by
  generalize hA : ansO (rdL s.data.toList []) = A
  have HA := Lib.hid hA; clear hA
  have F0 : FrA ((w.alloc (.cells #[.string s] 64)).alloc (.cells #[.pointer none, .slice none 0 0] 67)) w.heap.size s := by
    unfold FrA
    exact (((Below.refl _ (w.alloc (.cells #[.string s] 64))).alloc (Nat.le_refl _) _).block w.heap.size (by simp)).trans (heap_alloc_new w _)
  have B0 : IsB (w.heap.size + 1) (w.heap.size + 1) [] ((w.alloc (.cells #[.string s] 64)).alloc (.cells #[.pointer none, .slice none 0 0] 67)) := by
    have := IsB.new (w.alloc (.cells #[.string s] 64))
    rwa [show (w.alloc (.cells #[.string s] 64)).heap.size = w.heap.size + 1 by simp] at this
  have G0 : Below w.heap.size w ((w.alloc (.cells #[.string s] 64)).alloc (.cells #[.pointer none, .slice none 0 0] 67)) := ((Below.refl _ w).alloc (Nat.le_refl _) _).alloc (by simp) _
  have Z0 : w.heap.size + 2 ≤ ((w.alloc (.cells #[.string s] 64)).alloc (.cells #[.pointer none, .slice none 0 0] 67)).heap.size := by simp
  have F0 := Lib.hid F0; have B0 := Lib.hid B0; have G0 := Lib.hid G0; have Z0 := Lib.hid Z0
  go_enter Try.func31, Try.ntmps31
  go_wp2
  generalize ((w.alloc (.cells #[.string s] 64)).alloc (.cells #[.pointer none, .slice none 0 0] 67)) = w0 at *
  go_loopw [6, 7] (fun _ _ wr => ∃ (l out : List UInt8), FrA wr w.heap.size (bL l) ∧ IsB (w.heap.size + 1) (w.heap.size + 1) (bsOf (bL out)) wr ∧ Below w.heap.size w wr ∧ w.heap.size + 2 ≤ wr.heap.size ∧ l.length ≤ s.size ∧ out.length ≤ 1100 ∧ rdL l out = rdL s.data.toList []) (fun _ _ wr => szAt wr w.heap.size)
  case atStart => exact ⟨s.data.toList, [], by rw [bL_self]; exact F0.out, B0.out, G0.out, Z0.out, Nat.le_refl _, Nat.zero_le _, rfl⟩
  case round =>
    obtain ⟨l, out, hfr, hib, hbel, hz2, hll, hol, hout⟩ := hrel
    have Hfr := Lib.hid hfr; have Hib := Lib.hid hib; have Hbel := Lib.hid hbel; have Hout := Lib.hid hout
    clear hfr hib hbel hout
    have q0 : wr.cell? ⟨w.heap.size, 0, none⟩ = some (.string (bL l)) := by rw [cell_of_row _ _ _ _ _ _ Hfr.out]; rfl
    rcases l with _ | ⟨x, l2⟩
    · have Hf : Hid (A = .tuple #[.string (bL out), .bool true]) := Lib.hid (by rw [← HA.out, ← Hout.out]; rfl)
      have HC := Lib.hid (rdBld Hib.out (by omega))
      have he : (bL []).toList.isEmpty = true := by rw [toListB]; rfl
      generalize bL [] = T at *
      generalize bL out = R at *
      go_wp2_with ((go_at_call 72; refine HC.out.mono ?_; rintro e w1 ⟨rfl, g⟩; have Hg := Lib.hid (Hbel.out.trans (g.mono (by omega))); clear g))
      go_ret2
      exact ⟨by rw [Hf.out]; rfl, Hg.out⟩
    · have hx := x.toNat_lt
      have he : (bL (x :: l2)).toList.isEmpty = false := by
        rw [List.isEmpty_eq_false_iff]
        intro h
        have h2 := congrArg List.length h
        rw [show (bL (x :: l2)).toList = (bL (x :: l2)).data.toList from toListB _] at h2
        simp [bL] at h2
      have C1 := Lib.hid (frNumber_any (m := 1) (by rw [bL_size]; simp at hll ⊢; omega) (by omega) (by omega) Hfr.out)
      rw [nV_one, fR_drop, List.drop_succ_cons, List.drop_zero] at C1
      have hl2 : l2.length ≤ 1048576 := by simp at hll; omega
      have hl2s : l2.length + 1 ≤ s.size := by simpa using hll
      have C2 : Hid (∀ W, FrA W w.heap.size (bL l2) → Calls Try.prog 68 #[.pointer (some ⟨w.heap.size, 0, none⟩), .int .i64 (1 : Int)] W (FrP w.heap.size (.string (bL (l2.take 1))) (bL (l2.drop 1)) W)) := Lib.hid (fun W hW => by
        have := frBytes_any (m := 1) (by rw [bL_size]; omega) (by omega) hW
        rw [fT_take, fR_drop] at this
        exact this)
      have HM := Lib.hid (show szAt wr w.heap.size = l2.length + 1 by rw [Hfr.out.sz, bL_size]; rfl)
      generalize bL (x :: l2) = T at *
      by_cases hz : x.toNat = 0
      · have Hf : Hid (A = .tuple #[.string ⟨#[]⟩, .bool false]) := Lib.hid (by rw [← HA.out, ← Hout.out, rdL_head hz]; rfl)
        have hq : ((x.toNat : Int) == 0) = true := by simp [hz]
        clear hz
        go_wp2_with (first | (go_at_call 67; refine C1.out.mono ?_; rintro e w1 ⟨rfl, hfr, hk, hsz, g⟩; have Hf1 := Lib.hid hfr; have Hg1 := Lib.hid (Hbel.out.trans g); clear q0 hfr hk hsz g) | (go_at_call 68; refine (C2.out _ Hf1.out).mono ?_; rintro e w2 ⟨rfl, hfr, hk, hsz, g⟩; have Hg2 := Lib.hid (Hg1.out.trans g); clear hfr hk hsz g))
        go_ret2
        exact ⟨by rw [Hf.out]; rfl, Hg2.out⟩
      have hq : ((x.toNat : Int) == 0) = false := by simp; omega
      rcases l2 with _ | ⟨v, l3⟩
      · have Hf : Hid (A = .tuple #[.string ⟨#[]⟩, .bool false]) := Lib.hid (by rw [← HA.out, ← Hout.out]; rfl)
        have he2 : (bL ([] : List UInt8)).toList.isEmpty = true := by rw [toListB]; rfl
        simp only [List.take_nil, List.drop_nil] at C2
        generalize bL [] = T2 at *
        go_wp2_with (first | (go_at_call 67; refine C1.out.mono ?_; rintro e w1 ⟨rfl, hfr, hk, hsz, g⟩; have Hf1 := Lib.hid hfr; have Hg1 := Lib.hid (Hbel.out.trans g); clear q0 hfr hk hsz g) | (go_at_call 68; refine (C2.out _ Hf1.out).mono ?_; rintro e w2 ⟨rfl, hfr, hk, hsz, g⟩; have Hg2 := Lib.hid (Hg1.out.trans g); clear hfr hk hsz g))
        go_ret2
        exact ⟨by rw [Hf.out]; rfl, Hg2.out⟩
      have he2 : (bL [v]).toList.isEmpty = false := by
        rw [List.isEmpty_eq_false_iff]
        intro h
        have h2 := congrArg List.length h
        rw [show (bL [v]).toList = (bL [v]).data.toList from toListB _] at h2
        simp [bL] at h2
      simp only [List.take_succ_cons, List.take_zero, List.drop_succ_cons, List.drop_zero] at C2
      have C3 : Hid (∀ W, IsB (w.heap.size + 1) (w.heap.size + 1) (bsOf (bL out)) W → Calls Try.prog 69 #[.pointer (some ⟨w.heap.size + 1, 0, none⟩)] W fun e w' => e = .returned (.int .i64 (out.length : Int)) ∧ w' = W) := Lib.hid (fun W hW => by
        have := Try.Builder_Len _ _ _ W hW
        rw [bsOf_len, bL_size] at this
        exact this)
      have C4 : Hid (∀ W, Calls Try.prog 71 #[.string (bL [v]), .int .i64 (x.toNat : Int)] W fun e w' => e = .returned (.string (bL (List.replicate x.toNat v))) ∧ Below W.heap.size W w') := Lib.hid (fun W => by
        have h1 := Try.strings_Repeat (bL [v]) x.toNat W (by omega) (by rw [bL_size]; simp; omega)
        rw [show Lib.repeatL (bL [v]).data.toList x.toNat = List.replicate x.toNat v from repeat_one v _] at h1
        exact h1)
      by_cases hg : 1100 < out.length + x.toNat
      · have Hf : Hid (A = .tuple #[.string ⟨#[]⟩, .bool false]) := Lib.hid (by rw [← HA.out, ← Hout.out, rdL_no (.inr hg)]; rfl)
        have hd : decide ((1100 : Int) < (out.length : Int) + (x.toNat : Int)) = true := decide_eq_true (by omega)
        generalize bL (v :: l3) = T1 at *
        generalize bL [v] = T2 at *
        go_wp2_with (first | (go_at_call 67; refine C1.out.mono ?_; rintro e w1 ⟨rfl, hfr, hk, hsz, g⟩; have Hf1 := Lib.hid hfr; have Hg1 := Lib.hid (Hbel.out.trans g); have Hi1 := Lib.hid (Hib.out.keep hk (by omega)); clear q0 hfr hk hsz g) | (go_at_call 68; refine (C2.out _ Hf1.out).mono ?_; rintro e w2 ⟨rfl, hfr, hk, hsz, g⟩; have Hg2 := Lib.hid (Hg1.out.trans g); have Hi2 := Lib.hid (Hi1.out.keep hk (by omega)); clear hfr hk hsz g) | (go_at_call 69; refine (C3.out _ Hi2.out).mono ?_; rintro e w3 ⟨rfl, rfl⟩))
        go_ret2
        exact ⟨by rw [Hf.out]; rfl, Hg2.out⟩
      have Hn : Hid (rdL l3 (out ++ List.replicate x.toNat v) = rdL s.data.toList []) := Lib.hid (by rw [← Hout.out, rdL_yes (fun h => h.elim hz hg)])
      have hd : decide ((1100 : Int) < (out.length : Int) + (x.toNat : Int)) = false := decide_eq_false (by omega)
      have C5 : Hid (∀ W, w.heap.size + 1 ≤ W.heap.size → IsB (w.heap.size + 1) (w.heap.size + 1) (bsOf (bL out)) W → Calls Try.prog 70 #[.pointer (some ⟨w.heap.size + 1, 0, none⟩), .string (bL (List.replicate x.toNat v))] W fun e w' => e = .returned (.tuple #[.int .i64 (bL (List.replicate x.toNat v)).size, .nilIface]) ∧ IsB (w.heap.size + 1) (w.heap.size + 1) (bsOf (bL (out ++ List.replicate x.toNat v))) w' ∧ Below (w.heap.size + 1) W w' ∧ Kp (w.heap.size + 1) W w') := Lib.hid (fun W hsW hW => wrS (bL_app _ _) hW (by rw [bL_size, bL_size]; simp; omega) hsW)
      have hol2 : (out ++ List.replicate x.toNat v).length ≤ 1100 := by simp; omega
      have hl3 : l3.length + 2 ≤ s.size := by simpa using hl2s
      generalize bL (v :: l3) = T1 at *
      generalize bL [v] = T2 at *
      generalize bL (List.replicate x.toNat v) = T3 at *
      have Hol2 := Lib.hid hol2; clear hol2
      go_wp2_with (first | (go_at_call 67; refine C1.out.mono ?_; rintro e w1 ⟨rfl, hfr, hk, hsz, g⟩; have Hf1 := Lib.hid hfr; have Hg1 := Lib.hid (Hbel.out.trans g); have Hi1 := Lib.hid (Hib.out.keep hk (by omega)); have Hz1 := Lib.hid (show w.heap.size + 2 ≤ w1.heap.size by omega); clear q0 hfr hk hsz g) | (go_at_call 68; refine (C2.out _ Hf1.out).mono ?_; rintro e w2 ⟨rfl, hfr, hk, hsz, g⟩; have Hf2 := Lib.hid hfr; have Hg2 := Lib.hid (Hg1.out.trans g); have Hi2 := Lib.hid (Hi1.out.keep hk (by omega)); have Hz2 := Lib.hid (show w.heap.size + 2 ≤ w2.heap.size by have := Hz1.out; omega); clear hfr hk hsz g) | (go_at_call 69; refine (C3.out _ Hi2.out).mono ?_; rintro e w3 ⟨rfl, rfl⟩) | (go_at_call 71; refine (C4.out _).mono ?_; rintro e w4 ⟨rfl, g⟩; have Hg4 := Lib.hid (Hg2.out.trans (g.mono (by have := Hz2.out; omega))); have Hi4 := Lib.hid (Hi2.out.bel g); have Hf4 : Hid (FrA w4 w.heap.size (bL l3)) := Lib.hid ((g.block _ (by have := Hz2.out; omega)).trans Hf2.out); have Hz4 := Lib.hid (show w.heap.size + 2 ≤ w4.heap.size by have := Hz2.out; have := g.size; omega); clear g) | (go_at_call 70; refine (C5.out _ (by have := Hz4.out; omega) Hi4.out).mono ?_; rintro e w5 ⟨rfl, hib, g, hkp⟩; have Hi5 := Lib.hid hib; have Hg5 := Lib.hid (Hg4.out.trans (g.mono (by omega))); have Hf5 := Lib.hid (Hf4.out.kp hkp (by omega)); have Hz5 := Lib.hid (show w.heap.size + 2 ≤ w5.heap.size by have := Hz4.out; have := g.size; omega); clear hib g hkp))
      go_roundw
      case rel => exact ⟨l3, out ++ List.replicate x.toNat v, Hf5.out, Hi5.out, Hg5.out, Hz5.out, by omega, Hol2.out, Hn.out⟩
      case measure => rw [HM.out, Hf5.out.sz, bL_size]; simp; omega
theorem ansO_some (l : List UInt8) : ansO (some l) = .tuple #[.string (bL l), .bool true] := rfl
theorem ansO_none : ansO none = .tuple #[.string ⟨#[]⟩, .bool false] := rfl
theorem ansO_form (o : Option (List UInt8)) : ∃ t b, ansO o = .tuple #[.string t, .bool b] := by
  cases o
  · exact ⟨_, _, rfl⟩
  · exact ⟨_, _, rfl⟩
end Go.Proofs.Ytmddgncidgdglaa
