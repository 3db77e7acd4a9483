/- The binary form of a pipeline read: the model's side. No statement is proved here. -/
import Derived.Test.YtmddgncidgdglaaDpP
import Derived.Test.YtmddgncidgdglaaRdS
import Derived.Deep.RegionLaw
namespace Go.Proofs.Ytmddgncidgdglaa
open Go.RowKit
set_option linter.unusedVariables false
theorem bytes_eqL {a b : ByteArray} (h : a = b) : (a.toList == b.toList) = true := by subst h; exact beq_self_eq_true _
theorem bytes_neL {a b : ByteArray} (h : a ≠ b) : (a.toList == b.toList) = false := by
  rw [Bool.eq_false_iff]
  intro e
  have e := eq_of_beq e
  apply h
  apply ByteArray.ext
  apply Array.toList_inj.1
  rw [toListB, toListB] at e
  exact e
theorem mPl_step (n : Nat) {s : ByteArray} {i : Nat} (h : i + 2 < s.size) : mPl (n + 1) (s.data.toList.drop i) = (((s[i]'(by omega)).toNat : Int), ((s[i + 1]'(by omega)).toNat : Int), decide ((s[i + 2]'h).toNat = 1)) :: mPl n (s.data.toList.drop (i + 3)) := by
  rw [List.drop_eq_getElem_cons (i := i) (by show i < s.size; omega), List.drop_eq_getElem_cons (i := i + 1) (by show i + 1 < s.size; omega), List.drop_eq_getElem_cons (i := i + 2) (by show i + 2 < s.size; omega)]
  rfl
theorem mPl_stop (n : Nat) {s : ByteArray} {i : Nat} (h : ¬ i + 2 < s.size) : mPl n (s.data.toList.drop i) = [] := by
  have hl : (s.data.toList.drop i).length = s.size - i := drop_len s i
  rcases n with _ | n
  · rfl
  · generalize s.data.toList.drop i = l at *
    rcases l with _ | ⟨a, _ | ⟨b, _ | ⟨c, l⟩⟩⟩
    · rfl
    · rfl
    · rfl
    · simp at hl; omega
theorem mPl_zero (l : List UInt8) : mPl 0 l = [] := by
  rw [mPl]
  intros
  omega
set_option maxHeartbeats 1000000 in
set_option maxRecDepth 100000 in
theorem specDecodePipeline_any (s : ByteArray) (hs : s.size ≤ 1048576) (w : World) :
    Calls Try.prog 43 #[.string s] w fun e w' => (∃ v, e = .returned (.tuple #[v, .bool (dpOk s)]) ∧ OFI w' w.heap.size v (dpL s)) ∧ Below w.heap.size w w' := by
  have HR : Hid (dpOk s = (plOk (mP s) && decide (plF (mP s) = s)) ∧ (dpOk s = true → dpL s = mP s) ∧ (dpOk s = false → dpL s = [])) := Lib.hid ⟨rfl, fun h => by rw [dpL, if_pos h], fun h => by rw [dpL, if_neg (by simp [h])]⟩
  have HM : Hid (mP s = mPl 5 (s.data.toList.drop 1)) := Lib.hid rfl
  have HNil : Hid (s = ⟨#[]⟩ → dpOk s = false) := Lib.hid (fun h => by rw [h]; exact dpOk_nil)
  generalize dpL s = D at *
  generalize dpOk s = ok at *
  generalize mP s = M at *
  go_enter Try.func43, Try.ntmps43
  go_wp2
  go_loopw [4, 5] (fun v k wr => ∃ (i n : Nat) (ps : List EFI), k = .int .i64 (i : Int) ∧ i ≤ 16 ∧ ps.length + n = 5 ∧ i = 1 + 3 * ps.length ∧ OFI wr w.heap.size v ps ∧ Below w.heap.size w wr ∧ (∀ p ∈ ps, InI p.1 ∧ InI p.2.1) ∧ ps ++ mPl n (s.data.toList.drop i) = M) (fun _ k _ => 20 - (intOf k).toNat)
  case atStart => exact ⟨1, 5, [], rfl, by omega, rfl, rfl, World.ownsRow_lit w #[] 0 (Nat.le_refl _) (by decide) rfl, (Below.refl _ _).alloc (Nat.le_refl _) _, by simp, by rw [HM.out]; rfl⟩
  case round =>
    obtain ⟨i, n, ps, rfl, hi, hn, hip, hown, hbel, hwf, hps⟩ := hrel
    have Hwf := Lib.hid hwf; clear hwf
    have Hown := Lib.hid hown; have Hbel := Lib.hid hbel; have Hps := Lib.hid hps
    have hsz := hbel.size
    have Hn := Lib.hid hn; have Hip := Lib.hid hip
    have hp5 : ps.length ≤ 5 := by omega
    clear hn hip
    obtain ⟨Aw, cw, hu4⟩ := hown.opened
    clear hown hbel hps
    subst hu4
    by_cases h1 : i + 2 < s.size
    · have h1I : (i : Int) + 2 < (s.size : Int) := by omega
      by_cases h2 : ps.length ≤ 4
      · have h2I : (ps.length : Int) ≤ 4 := by omega
        obtain ⟨n', rfl⟩ : ∃ n', n = n' + 1 := ⟨n - 1, by have := Hn.out; omega⟩
        have h0 : i < s.size := by omega
        have h01 : i + 1 < s.size := by omega
        have hst := mPl_step n' h1
        have Hst := Lib.hid hst; clear hst
        have r0 : ∀ w1, (Instr.index 9 (.string s) (.int .i64 (i : Int))).run Try.prog w1 = .ok (.int .u8 ((s[i]'h0).toNat : Int)) w1 := fun w1 => by
          rw [run_index_string w1 9 s .i64 i Try.underlying9, dif_pos ⟨by omega, by omega⟩]; rfl
        have r1 : ∀ w1, (Instr.index 9 (.string s) (.int .i64 ((i : Int) + 1))).run Try.prog w1 = .ok (.int .u8 ((s[i + 1]'h01).toNat : Int)) w1 := fun w1 => by
          rw [run_index_string w1 9 s .i64 _ Try.underlying9, dif_pos ⟨by omega, by omega⟩]; rfl
        have r2 : ∀ w1, (Instr.index 9 (.string s) (.int .i64 ((i : Int) + 2))).run Try.prog w1 = .ok (.int .u8 ((s[i + 2]'h1).toNat : Int)) w1 := fun w1 => by
          rw [run_index_string w1 9 s .i64 _ Try.underlying9, dif_pos ⟨by omega, by omega⟩]; rfl
        generalize hxv : s[i]'h0 = x at *
        generalize s[i + 1]'h01 = y at *
        generalize s[i + 2]'h1 = z at *
        have hx := byte_lt x; have hy := byte_lt y; have hz := byte_lt z
        obtain ⟨b, hb⟩ : ∃ b : Bool, b = decide (z.toNat = 1) := ⟨_, rfl⟩
        have hb1 : ((z.toNat : Int) == 1) = b := by
          rw [hb]
          by_cases e : z.toNat = 1
          · simp [e]
          · rw [decide_eq_false e, beq_eq_false_iff_ne]; omega
        rw [← hb] at Hst
        clear hb
        have HO : Hid (∀ W, Below wr.heap.size wr W → OFI W w.heap.size (.slice Aw ps.length cw) ps) := Lib.hid (fun W hW => own_bel Hown.out hW)
        have wr1 : IntKind.i64.wrap ((i : Int) + 1) = (i : Int) + 1 := IntWalk.i64_in _ (by omega)
        have wr2 : IntKind.i64.wrap ((i : Int) + 2) = (i : Int) + 2 := IntWalk.i64_in _ (by omega)
        have wr3 : IntKind.i64.wrap (x.toNat : Int) = (x.toNat : Int) := IntWalk.i64_in _ (by omega)
        have wr4 : IntKind.i64.wrap (y.toNat : Int) = (y.toNat : Int) := IntWalk.i64_in _ (by omega)
        go_wp2_with fail
        go_region_law (refine step_pushF (W := wr.drew) (lo := w.heap.size) (v := .slice Aw ps.length cw) (ps := ps) (x := (x.toNat : Int)) (y := (y.toNat : Int)) (b := b) (by rfl) (.tmp 19) (.tmp 35) (by rfl) (by first | rfl | go_simp) (by first | rfl | go_simp) (by exact HO.out _ (Below.refl _ _).drew) (by exact hsz) (by omega) ?_; intro g cap w3 hown' hgr hg3)
        all_goals
          have Hb3 : Hid (Below w.heap.size w w3) := Lib.hid (pushF_bel (W := wr.drew) (Below.drew Hbel.out) (by exact HO.out _ (Below.refl _ _).drew) (Nat.le_refl _) (by exact hsz) hgr)
          have Hon : Hid (OFI w3 w.heap.size (.slice (some ⟨g, 0, none⟩) (ps.length + 1) cap) (ps ++ [((x.toNat : Int), (y.toNat : Int), b)])) := Lib.hid (by
            have h := hown'
            rw [show (ps ++ [((x.toNat : Int), (y.toNat : Int), b)]).length = ps.length + 1 by simp] at h
            exact h)
          have Hw2 : Hid (∀ p ∈ ps ++ [((x.toNat : Int), (y.toNat : Int), b)], InI p.1 ∧ InI p.2.1) := Lib.hid (fun p hp => by
            rcases List.mem_append.1 hp with h | h
            · exact Hwf.out p h
            · obtain rfl := List.mem_singleton.1 h
              unfold InI
              dsimp only
              omega)
          clear hown' hgr
          go_wp2_with fail
          go_roundw
          case rel => exact ⟨i + 3, n', ps ++ [((x.toNat : Int), (y.toNat : Int), b)], by go_num, by have := Hip.out; omega, by have := Hn.out; simp; omega, by have := Hip.out; simp; omega, Hon.out, Hb3.out, Hw2.out, by rw [List.append_assoc, List.singleton_append, ← Hst.out]; exact Hps.out⟩
          case measure => simp [intOf]; omega
      · have h2I : decide ((ps.length : Int) ≤ 4) = false := decide_eq_false (by omega)
        have HMp : Hid (ps = M) := Lib.hid (by have := Hps.out; rw [show n = 0 by have := Hn.out; omega, mPl_zero, List.append_nil] at this; exact this)
        have HC := Lib.hid (specEncodePipeline_any ((Hown.out.ri Hwf.out) : RiFI wr.heap.size wr _ ps) (Nat.le_refl _))
        have hpm : plA ps = plA M := by rw [HMp.out]
        rw [hpm] at HC
        clear hpm
        by_cases hs0 : s = ⟨#[]⟩
        · have Hf := Lib.hid (HNil.out hs0)
          have he : s.toList.isEmpty = true := by rw [hs0, toListB]; rfl
          have HD0 : Hid (D = []) := Lib.hid (HR.out.2.2 Hf.out)
          go_wp2_with fail
          go_ret2
          exact ⟨⟨_, by rw [Hf.out]; rfl, by rw [HD0.out]; exact OFI.none _ _⟩, Hbel.out⟩
        have he : s.toList.isEmpty = false := by
          rw [List.isEmpty_eq_false_iff]
          intro h
          apply hs0
          apply ByteArray.ext
          apply Array.toList_inj.1
          rw [toListB] at h
          rw [h]
        have hne := plA_ne (ps := M) hs0
        by_cases hq : plA M = s
        · have Hok : Hid (ok = true) := Lib.hid (by rw [HR.out.1, ← hne, decide_eq_true hq])
          have HDM : Hid (D = M) := Lib.hid (HR.out.2.1 Hok.out)
          have hbq := bytes_eqL hq
          clear hne hq hs0
          generalize plA M = X at *
          go_wp2_with ((go_at_call 41; refine HC.out.mono ?_; rintro e w1 ⟨rfl, g⟩; have Hg := Lib.hid (Hbel.out.trans (g.mono hsz)); have Hon := Lib.hid (own_bel Hown.out g); clear g))
          go_ret2
          exact ⟨⟨_, by rw [Hok.out]; rfl, by rw [HDM.out, ← HMp.out]; exact Hon.out⟩, Hg.out⟩
        · have Hok : Hid (ok = false) := Lib.hid (by rw [HR.out.1, ← hne, decide_eq_false hq])
          have HD0 : Hid (D = []) := Lib.hid (HR.out.2.2 Hok.out)
          have hbq := bytes_neL hq
          clear hne hq hs0
          generalize plA M = X at *
          go_wp2_with ((go_at_call 41; refine HC.out.mono ?_; rintro e w1 ⟨rfl, g⟩; have Hg := Lib.hid (Hbel.out.trans (g.mono hsz)); clear g))
          go_ret2
          exact ⟨⟨_, by rw [Hok.out]; rfl, by rw [HD0.out]; exact OFI.none _ _⟩, Hg.out⟩
    · have h1I : decide ((i : Int) + 2 < (s.size : Int)) = false := decide_eq_false (by omega)
      have HMp : Hid (ps = M) := Lib.hid (by have := Hps.out; rw [mPl_stop n h1, List.append_nil] at this; exact this)
      have HC := Lib.hid (specEncodePipeline_any ((Hown.out.ri Hwf.out) : RiFI wr.heap.size wr _ ps) (Nat.le_refl _))
      have hpm : plA ps = plA M := by rw [HMp.out]
      rw [hpm] at HC
      clear hpm
      by_cases hs0 : s = ⟨#[]⟩
      · have Hf := Lib.hid (HNil.out hs0)
        have he : s.toList.isEmpty = true := by rw [hs0, toListB]; rfl
        have HD0 : Hid (D = []) := Lib.hid (HR.out.2.2 Hf.out)
        go_wp2_with fail
        go_ret2
        exact ⟨⟨_, by rw [Hf.out]; rfl, by rw [HD0.out]; exact OFI.none _ _⟩, Hbel.out⟩
      have he : s.toList.isEmpty = false := by
        rw [List.isEmpty_eq_false_iff]
        intro h
        apply hs0
        apply ByteArray.ext
        apply Array.toList_inj.1
        rw [toListB] at h
        rw [h]
      have hne := plA_ne (ps := M) hs0
      by_cases hq : plA M = s
      · have Hok : Hid (ok = true) := Lib.hid (by rw [HR.out.1, ← hne, decide_eq_true hq])
        have HDM : Hid (D = M) := Lib.hid (HR.out.2.1 Hok.out)
        have hbq := bytes_eqL hq
        clear hne hq hs0
        generalize plA M = X at *
        go_wp2_with ((go_at_call 41; refine HC.out.mono ?_; rintro e w1 ⟨rfl, g⟩; have Hg := Lib.hid (Hbel.out.trans (g.mono hsz)); have Hon := Lib.hid (own_bel Hown.out g); clear g))
        go_ret2
        exact ⟨⟨_, by rw [Hok.out]; rfl, by rw [HDM.out, ← HMp.out]; exact Hon.out⟩, Hg.out⟩
      · have Hok : Hid (ok = false) := Lib.hid (by rw [HR.out.1, ← hne, decide_eq_false hq])
        have HD0 : Hid (D = []) := Lib.hid (HR.out.2.2 Hok.out)
        have hbq := bytes_neL hq
        clear hne hq hs0
        generalize plA M = X at *
        go_wp2_with ((go_at_call 41; refine HC.out.mono ?_; rintro e w1 ⟨rfl, g⟩; have Hg := Lib.hid (Hbel.out.trans (g.mono hsz)); clear g))
        go_ret2
        exact ⟨⟨_, by rw [Hok.out]; rfl, by rw [HD0.out]; exact OFI.none _ _⟩, Hg.out⟩
end Go.Proofs.Ytmddgncidgdglaa
