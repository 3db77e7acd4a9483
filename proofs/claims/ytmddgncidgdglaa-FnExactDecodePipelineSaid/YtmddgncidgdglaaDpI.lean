/- The binary form of a pipeline read: the program's side. No statement is proved here. -/
import Derived.Test.YtmddgncidgdglaaDpS
namespace Go.Proofs.Ytmddgncidgdglaa
open Go.RowKit
set_option linter.unusedVariables false
theorem nV_nv (l : List UInt8) : nV (bL l) 1 = nv l := by
  rcases l with _ | ⟨x, l⟩
  · unfold nV
    rw [if_neg (by rw [bL_size]; simp)]
    rfl
  · exact nV_one x l
theorem nv_b (l : List UInt8) : 0 ≤ nv l ∧ nv l < 256 := by
  rcases l with _ | ⟨x, l⟩
  · exact ⟨Int.le_refl 0, by show (0 : Int) < 256; omega⟩
  · have := x.toNat_lt
    exact ⟨by show (0 : Int) ≤ (x.toNat : Int); omega, by show (x.toNat : Int) < 256; omega⟩
set_option maxHeartbeats 2000000 in
set_option maxRecDepth 100000 in
theorem implDecodePipeline_any (s : ByteArray) (hs : s.size ≤ 1048576) (w : World) :
    Calls Try.prog 44 #[.string s] w fun e w' => (∃ v, e = .returned (.tuple #[v, .bool (dpOk s)]) ∧ OFI w' w.heap.size v (dpL s)) ∧ Below w.heap.size w w' := by
  have hdb := dp_both s
  have HR : Hid ((plOk (iP s) && decide (plF (iP s) = s)) = dpOk s ∧ (dpOk s = true → dpL s = iP s) ∧ (dpOk s = false → dpL s = [])) := Lib.hid ⟨hdb.1, fun h => by rw [dpL, if_pos h, hdb.2 h], fun h => by rw [dpL, if_neg (by simp [h])]⟩
  clear hdb
  have HM : Hid (iP s = iPl (nv s.data.toList).toNat (s.data.toList.drop 1)) := Lib.hid rfl
  have hll : s.data.toList.length ≤ 1048576 := hs
  generalize dpL s = D at *
  generalize dpOk s = ok at *
  generalize iP s = M at *
  have CN : Hid (∀ (l : List UInt8) (W : World), l.length ≤ 1048576 → FrA W w.heap.size (bL l) → Calls Try.prog 67 #[.pointer (some ⟨w.heap.size, 0, none⟩), .int .i64 (1 : Int)] W (FrP w.heap.size (.int .i64 (nv l)) (bL (l.drop 1)) W)) := Lib.hid (fun l W hl hW => by
    have := frNumber_any (m := 1) (by rw [bL_size]; exact hl) (by omega) (by omega) hW
    rw [nV_nv, fR_drop] at this
    exact this)
  have F0 : Hid (FrA (w.alloc (.cells #[.string s] 64)) w.heap.size (bL s.data.toList)) := Lib.hid (by rw [bL_self]; exact heap_alloc_new w _)
  have G0 : Hid (Below w.heap.size w (w.alloc (.cells #[.string s] 64))) := Lib.hid ((Below.refl _ w).alloc (Nat.le_refl _) _)
  have Z0 : Hid (w.heap.size + 1 ≤ (w.alloc (.cells #[.string s] 64)).heap.size) := Lib.hid (by simp)
  have hnb := nv_b s.data.toList
  obtain ⟨N, hN⟩ : ∃ N : Nat, (N : Int) = nv s.data.toList := ⟨(nv s.data.toList).toNat, by omega⟩
  have HN : Hid ((nv s.data.toList).toNat = N) := Lib.hid (by omega)
  have C0 := Lib.hid (CN.out s.data.toList _ hll F0.out)
  rw [← hN] at C0
  have hNb : N < 256 := by omega
  clear hN hnb
  go_enter Try.func44, Try.ntmps44
  go_wp2_with ((go_at_call 67; refine C0.out.mono ?_; rintro e w1 ⟨rfl, hfr, hk, hs1, g⟩; have Hf1 := Lib.hid hfr; have Hg1 := Lib.hid (G0.out.trans g); have Hz1 : Hid (w.heap.size + 1 ≤ w1.heap.size) := Lib.hid (by have := Z0.out; omega); clear hfr hk hs1 g))
  go_loopw [5, 9] (fun v k wr => ∃ (j : Nat) (l : List UInt8) (ps : List EFI), j ≤ N ∧ k = .int .i64 (j : Int) ∧ ps.length = j ∧ FrA wr w.heap.size (bL l) ∧ OFI wr (w.heap.size + 1) v ps ∧ Below w.heap.size w wr ∧ w.heap.size + 1 ≤ wr.heap.size ∧ l.length ≤ 1048576 ∧ (∀ p ∈ ps, InI p.1 ∧ InI p.2.1) ∧ ps ++ iPl (N - j) l = M) (fun _ k _ => N - (intOf k).toNat)
  case atStart => exact ⟨0, s.data.toList.drop 1, [], Nat.zero_le _, rfl, rfl, Hf1.out, OFI.none _ _, Hg1.out, Hz1.out, by rw [List.length_drop]; omega, by simp, by rw [HM.out, HN.out]; rfl⟩
  case round =>
    obtain ⟨j, l, ps, hj, rfl, hpj, hfr, hown, hbel, hz, hlb, hwf, hps⟩ := hrel
    have Hfr := Lib.hid hfr; have Hown := Lib.hid hown; have Hbel := Lib.hid hbel; have Hps := Lib.hid hps; have Hwf := Lib.hid hwf; have Hpj := Lib.hid hpj; have Hz := Lib.hid hz
    obtain ⟨Aw, cw, hu5⟩ := hown.opened
    have hp256 : ps.length ≤ 256 := by omega
    clear hfr hown hbel hps hwf hpj hz
    subst hu5
    by_cases hlt : j < N
    · have b0 := nv_b l; have b1 := nv_b (l.drop 1); have b2 := nv_b (l.drop 2)
      have Hst : Hid (iPl (N - j) l = (nv l, nv (l.drop 1), decide (nv (l.drop 2) = 1)) :: iPl (N - (j + 1)) (l.drop 3)) := Lib.hid (by rw [show N - j = (N - (j + 1)) + 1 by omega, iPl])
      have E1 := Lib.hid (CN.out l wr hlb Hfr.out)
      have E2 : Hid (∀ W, FrA W w.heap.size (bL (l.drop 1)) → Calls Try.prog 67 #[.pointer (some ⟨w.heap.size, 0, none⟩), .int .i64 (1 : Int)] W (FrP w.heap.size (.int .i64 (nv (l.drop 1))) (bL (l.drop 2)) W)) := Lib.hid (fun W hW => by
        have := CN.out (l.drop 1) W (by rw [List.length_drop]; omega) hW
        rwa [List.drop_drop] at this)
      have E3 : Hid (∀ W, FrA W w.heap.size (bL (l.drop 2)) → Calls Try.prog 67 #[.pointer (some ⟨w.heap.size, 0, none⟩), .int .i64 (1 : Int)] W (FrP w.heap.size (.int .i64 (nv (l.drop 2))) (bL (l.drop 3)) W)) := Lib.hid (fun W hW => by
        have := CN.out (l.drop 2) W (by rw [List.length_drop]; omega) hW
        rwa [List.drop_drop] at this)
      have hl3 : (l.drop 3).length ≤ 1048576 := by rw [List.length_drop]; omega
      generalize nv l = x at *
      generalize nv (l.drop 1) = y at *
      generalize nv (l.drop 2) = z at *
      obtain ⟨b, hb⟩ : ∃ b : Bool, b = decide (z = 1) := ⟨_, rfl⟩
      have hb1 : (z == 1) = b := by
        rw [hb]
        by_cases e : z = 1
        · simp [e]
        · rw [decide_eq_false e, beq_eq_false_iff_ne]; exact e
      rw [← hb] at Hst
      have Hl3 := Lib.hid hl3
      generalize l.drop 1 = l1 at *
      generalize l.drop 2 = l2 at *
      generalize l.drop 3 = l3 at *
      clear hb hl3
      have z1 : True := trivial
      have z2 : True := trivial
      go_wp2_with (first | (go_at_call 67; clear z1; refine E1.out.mono ?_; rintro e w1 ⟨rfl, hfr, hk, hs1, g⟩; have Hf1 := Lib.hid hfr; have Hg1 := Lib.hid (Hbel.out.trans g); have Ho1 : Hid (OFI w1 (w.heap.size + 1) (.slice Aw ps.length cw) ps) := Lib.hid (own_same Hown.out (fun q hq => hk q (by have := (World.ownsRow.lt Hown.out q hq).1; omega))); have Hz1 : Hid (w.heap.size + 1 ≤ w1.heap.size) := Lib.hid (by have := Hz.out; omega); clear hfr hk hs1 g) | (go_at_call 67; clear z2; refine (E2.out _ Hf1.out).mono ?_; rintro e w2 ⟨rfl, hfr, hk, hs1, g⟩; have Hf2 := Lib.hid hfr; have Hg2 := Lib.hid (Hg1.out.trans g); have Ho2 : Hid (OFI w2 (w.heap.size + 1) (.slice Aw ps.length cw) ps) := Lib.hid (own_same Ho1.out (fun q hq => hk q (by have := (World.ownsRow.lt Ho1.out q hq).1; omega))); have Hz2 : Hid (w.heap.size + 1 ≤ w2.heap.size) := Lib.hid (by have := Hz1.out; omega); clear hfr hk hs1 g) | (go_at_call 67; refine (E3.out _ Hf2.out).mono ?_; rintro e w3 ⟨rfl, hfr, hk, hs1, g⟩; have Hf3 := Lib.hid hfr; have Hg3 := Lib.hid (Hg2.out.trans g); have Ho3 : Hid (OFI w3 (w.heap.size + 1) (.slice Aw ps.length cw) ps) := Lib.hid (own_same Ho2.out (fun q hq => hk q (by have := (World.ownsRow.lt Ho2.out q hq).1; omega))); have Hz3 : Hid (w.heap.size + 1 ≤ w3.heap.size) := Lib.hid (by have := Hz2.out; omega); clear hfr hk hs1 g) | (at_builtin; refine wpList_pushF (W := w3) (lo := w.heap.size + 1) (v := .slice Aw ps.length cw) (ps := ps) (x := x) (y := y) (b := b) rfl (.tmp 11) (.tmp 17) rfl rfl rfl rfl Ho3.out Hz3.out (by omega) ?_; intro g cap w4 hown' hgr hg4))
      have Hb4 : Hid (Below (w.heap.size + 1) w3 w4) := Lib.hid (pushF_bel (Below.refl _ w3) Ho3.out (Nat.le_refl _) Hz3.out hgr)
      have Hf4 : Hid (FrA w4 w.heap.size (bL l3)) := Lib.hid ((Hb4.out.block w.heap.size (by omega)).trans Hf3.out)
      have Hg4 : Hid (Below w.heap.size w w4) := Lib.hid (Hg3.out.trans (Hb4.out.mono (by omega)))
      have Hz4 : Hid (w.heap.size + 1 ≤ w4.heap.size) := Lib.hid (by have := Hb4.out.size; have := Hz3.out; omega)
      have Hon : Hid (OFI w4 (w.heap.size + 1) (.slice (some ⟨g, 0, none⟩) (ps.length + 1) cap) (ps ++ [(x, y, b)])) := Lib.hid (by
        have h := hown'
        rw [show (ps ++ [(x, y, b)]).length = ps.length + 1 by simp] at h
        exact h)
      have Hw2 : Hid (∀ p ∈ ps ++ [(x, y, b)], InI p.1 ∧ InI p.2.1) := Lib.hid (fun p hp => by
        rcases List.mem_append.1 hp with h | h
        · exact Hwf.out p h
        · obtain rfl := List.mem_singleton.1 h
          unfold InI
          dsimp only
          omega)
      clear hown' hgr
      go_wp2_with fail
      go_roundw
      case rel => exact ⟨j + 1, l3, ps ++ [(x, y, b)], by omega, by go_num, by have := Hpj.out; simp; omega, Hf4.out, Hon.out, Hg4.out, Hz4.out, Hl3.out, Hw2.out, by rw [List.append_assoc, List.singleton_append, ← Hst.out]; exact Hps.out⟩
      case measure => simp [intOf]; omega
    · have HMp : Hid (ps = M) := Lib.hid (by have := Hps.out; rw [show N - j = 0 by omega, iPl, List.append_nil] at this; exact this)
      have CV := Lib.hid (implValidPipeline_any ((Hown.out.ri Hwf.out) : RiFI wr.heap.size wr _ ps) (Nat.le_refl _))
      have CE : Hid (∀ W, Below wr.heap.size wr W → Calls Try.prog 42 #[.slice Aw ps.length cw] W (GivesB (.string (plA ps)) W)) := Lib.hid (fun W hW => implEncodePipeline_any (((Hown.out.ri Hwf.out) : RiFI wr.heap.size wr _ ps).at (Nat.le_refl _) hW) (Nat.le_refl _))
      have hpm : plA ps = plA M := by rw [HMp.out]
      have hpo : plOk ps = plOk M := by rw [HMp.out]
      rw [hpm] at CE
      rw [hpo] at CV
      clear hpm hpo
      cases hpl : plOk M
      · have Hok : Hid (ok = false) := Lib.hid (by rw [← HR.out.1, hpl]; rfl)
        have HD0 : Hid (D = []) := Lib.hid (HR.out.2.2 Hok.out)
        rw [hpl] at CV
        clear hpl CE
        go_wp2_with ((go_at_call 37; refine CV.out.mono ?_; rintro e w1 ⟨rfl, g⟩; have Hg := Lib.hid (Hbel.out.trans (g.mono (by have := Hz.out; omega))); clear g))
        go_ret2
        exact ⟨⟨_, by rw [Hok.out]; rfl, by rw [HD0.out]; exact OFI.none _ _⟩, Hg.out⟩
      have hpa : plA M = plF M := by unfold plA; rw [if_pos hpl]
      rw [hpl] at CV
      by_cases hq : plA M = s
      · have Hok : Hid (ok = true) := Lib.hid (by rw [← HR.out.1, hpl, ← hpa, decide_eq_true hq]; rfl)
        have HDM : Hid (D = M) := Lib.hid (HR.out.2.1 Hok.out)
        have hbq := bytes_eqL hq
        clear hq hpl hpa
        generalize plA M = X at *
        go_wp2_with (first | (go_at_call 37; refine CV.out.mono ?_; rintro e w1 ⟨rfl, g⟩; have Hg := Lib.hid g; clear g) | (go_at_call 42; refine (CE.out _ Hg.out).mono ?_; rintro e w2 ⟨rfl, g⟩; have Hg2 := Lib.hid (Hg.out.trans (g.mono Hg.out.size)); clear g))
        go_ret2
        exact ⟨⟨_, by rw [Hok.out]; rfl, by rw [HDM.out, ← HMp.out]; exact own_lo (own_bel Hown.out Hg2.out) (by omega)⟩, Hbel.out.trans (Hg2.out.mono (by have := Hz.out; omega))⟩
      · have Hok : Hid (ok = false) := Lib.hid (by rw [← HR.out.1, hpl, ← hpa, decide_eq_false hq]; rfl)
        have HD0 : Hid (D = []) := Lib.hid (HR.out.2.2 Hok.out)
        have hbq := bytes_neL hq
        clear hq hpl hpa
        generalize plA M = X at *
        go_wp2_with (first | (go_at_call 37; refine CV.out.mono ?_; rintro e w1 ⟨rfl, g⟩; have Hg := Lib.hid g; clear g) | (go_at_call 42; refine (CE.out _ Hg.out).mono ?_; rintro e w2 ⟨rfl, g⟩; have Hg2 := Lib.hid (Hg.out.trans (g.mono Hg.out.size)); clear g))
        go_ret2
        exact ⟨⟨_, by rw [Hok.out]; rfl, by rw [HD0.out]; exact OFI.none _ _⟩, Hbel.out.trans (Hg2.out.mono (by have := Hz.out; omega))⟩
end Go.Proofs.Ytmddgncidgdglaa
