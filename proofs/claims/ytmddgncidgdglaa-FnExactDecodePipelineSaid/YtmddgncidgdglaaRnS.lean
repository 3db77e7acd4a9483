/- Contracts of the model's function that counts runs. No statement is proved here. -/
import Derived.Test.YtmddgncidgdglaaRnP
import Derived.Test.YtmddgncidgdglaaBase
import Derived.Test.YtmddgncidgdglaaInt
import Derived.Deep.QuietTactic
import Derived.BigQuiet
import Derived.BigRegion
namespace Go.Proofs.Ytmddgncidgdglaa
open Go.RowKit
set_option linter.unusedVariables false
theorem byte_eq {x b : UInt8} (h : x = b) : ((x.toNat : Int) == (b.toNat : Int)) = true := by subst h; simp
theorem byte_ne {x b : UInt8} (h : x ≠ b) : ((x.toNat : Int) == (b.toNat : Int)) = false := by
  rw [beq_eq_false_iff_ne]
  intro e
  apply h
  apply UInt8.toNat_inj.1
  omega
theorem l18Run_any (s : ByteArray) (hs : s.size ≤ 1100) (w : World) :
    Calls Try.prog 66 #[.string s] w fun e w' => e = .returned (.string (reS s)) ∧ Below w.heap.size w w' := by
  have hrl := re_len s.size s.data.toList
  rw [show s.data.toList.length = s.size from rfl] at hrl
  have Hrl := Lib.hid hrl; clear hrl
  go_enter Try.func66, Try.ntmps66
  go_wp2
  go_loopw [3, 4] (fun v k wr => ∃ (i f : Nat) (out : List UInt8), i ≤ s.size ∧ k = .int .i64 (i : Int) ∧ OwnB wr w.heap.size v out ∧ Below w.heap.size w wr ∧ s.size - i ≤ f ∧ out ++ re f (s.data.toList.drop i) = re s.size s.data.toList) (fun _ k _ => s.size - (intOf k).toNat)
  case atStart => exact ⟨0, s.size, [], Nat.zero_le _, rfl, World.ownsRow_lit w #[] 0 (Nat.le_refl _) (by decide) rfl, (Below.refl _ _).alloc (Nat.le_refl _) _, by omega, rfl⟩
  case round =>
    obtain ⟨i, f, out, hi, rfl, hown, hbel, hf, hout⟩ := hrel
    have Hown := Lib.hid hown; have Hbel := Lib.hid hbel; have Hout := Lib.hid hout
    clear hown hbel hout
    by_cases hlt : i < s.size
    · obtain ⟨f', hf', hre⟩ := re_at f s i hlt hf
      have hdl := drop_len s i
      have hda := drop_at s i
      have hR1 : 1 ≤ rn (s[i]'hlt) (s.data.toList.drop i) := by
        have hd : s.data.toList.drop i = s[i]'hlt :: s.data.toList.drop (i + 1) := by
          rw [List.drop_eq_getElem_cons (i := i) (by simpa using hlt)]
          rfl
        rw [hd]
        exact rn_one _ _
      have hR2 := rn_le (s[i]'hlt) (s.data.toList.drop i)
      have hs1 := fun k => @rn_step (s[i]'hlt) (s.data.toList.drop i) k
      have hs2 := fun k => @rn_stop (s[i]'hlt) (s.data.toList.drop i) k
      have hs3 := fun k => @rn_full (s[i]'hlt) (s.data.toList.drop i) k
      have Hre := Lib.hid hre; have Hs1 := Lib.hid hs1; have Hs2 := Lib.hid hs2; have Hs3 := Lib.hid hs3; have Hda := Lib.hid hda; have Hdl := Lib.hid hdl
      rw [hdl] at hR2
      clear hre hs1 hs2 hs3 hda hdl
      generalize rn (s[i]'hlt) (s.data.toList.drop i) = R at *
      go_wp2
      go_loopw [5] (fun v wq => ∃ n : Nat, 1 ≤ n ∧ n ≤ R ∧ v = .int .i64 (n : Int) ∧ OwnB wq w.heap.size u3 out ∧ Below w.heap.size w wq) (fun v _ => R + 1 - (intOf v).toNat)
      case atStart => exact ⟨1, by omega, hR1, rfl, Hown.out, Hbel.out⟩
      case round =>
        obtain ⟨n, hn1, hnR, rfl, hown, hbel⟩ := hrel
        have Ho := Lib.hid hown; have Hb := Lib.hid hbel
        clear hown hbel
        by_cases h1 : i + n < s.size
        · have h1I : (i : Int) + (n : Int) < (s.size : Int) := by omega
          have h0I : (0 : Int) ≤ (i : Int) + (n : Int) := by omega
          have h4I : (i : Int) < (s.size : Int) := by omega
          by_cases h2 : n < 255
          · by_cases h3 : s[i + n]'h1 = s[i]'hlt
            · have hq := byte_eq h3
              have hst := Hs1.out n hnR h2 (by rw [Hdl.out]; omega) (by rw [Hda.out n h1]; exact h3)
              have h2I : (n : Int) < 255 := by omega
              clear h3
              go_wp2
              go_quiet (fail)
              go_wp2
              go_roundw
              case rel => exact ⟨n + 1, by omega, hst, by go_num, Ho.out, below_draws Hb.out _⟩
              case measure => simp [intOf]; omega
            · have hq := byte_ne h3
              have hst := Hs2.out n hnR (by rw [Hdl.out]; omega) (by rw [Hda.out n h1]; exact h3)
              clear h3
              have h2I : (n : Int) < 255 := by omega
              go_wp2
              go_quiet (fail)
              have hsz := Hb.out.size
              subst hst
              have hbx := byte_lt (s[i]'hlt)
              have hnb := rn_byte R (by omega)
              have hlen : out.length + 2 ≤ 70368744177664 := by
                have h5 := congrArg List.length Hout.out
                rw [List.length_append] at h5
                have h6 := Hrl.out
                omega
              have Hlen := Lib.hid hlen; have Hnb := Lib.hid hnb
              clear hlen hnb
              go_wp2_with (at_builtin; refine wpList_app _ _ 2 rfl (.tmp 34) (.tmp 40) rfl w.heap.size _ _ Ho.out rfl [UInt8.ofNat R, s[i]'hlt] ?c1 rfl rfl Hlen.out hsz ?_)
              case c1 => simp [bv]; omega
              intro v' w1 hown' hbel'
              have Hbe := Lib.hid (Below.trans (below_draws Hb.out _) hbel')
              have Hov := Lib.hid hown'
              clear hown' hbel'
              go_wp2
              go_roundw
              case rel => exact ⟨i + R, f', out ++ [UInt8.ofNat R, s[i]'hlt], by omega, by go_num, Hov.out, Hbe.out, by omega, by rw [List.append_assoc, ← Hre.out]; exact Hout.out⟩
              case measure => simp [intOf]; omega
          · have hst := Hs3.out n hnR (.inr h2)
            have hd : decide ((n : Int) < 255) = false := decide_eq_false (by omega)
            go_wp2
            go_quiet (fail)
            have hsz := Hb.out.size
            subst hst
            have hbx := byte_lt (s[i]'hlt)
            have hnb := rn_byte R (by omega)
            have hlen : out.length + 2 ≤ 70368744177664 := by
              have h5 := congrArg List.length Hout.out
              rw [List.length_append] at h5
              have h6 := Hrl.out
              omega
            have Hlen := Lib.hid hlen; have Hnb := Lib.hid hnb
            clear hlen hnb
            go_wp2_with (at_builtin; refine wpList_app _ _ 2 rfl (.tmp 34) (.tmp 40) rfl w.heap.size _ _ Ho.out rfl [UInt8.ofNat R, s[i]'hlt] ?c1 rfl rfl Hlen.out hsz ?_)
            case c1 => simp [bv]; omega
            intro v' w1 hown' hbel'
            have Hbe := Lib.hid (Below.trans (below_draws Hb.out _) hbel')
            have Hov := Lib.hid hown'
            clear hown' hbel'
            go_wp2
            go_roundw
            case rel => exact ⟨i + R, f', out ++ [UInt8.ofNat R, s[i]'hlt], by omega, by go_num, Hov.out, Hbe.out, by omega, by rw [List.append_assoc, ← Hre.out]; exact Hout.out⟩
            case measure => simp [intOf]; omega
        · have hst := Hs3.out n hnR (.inl (by rw [Hdl.out]; omega))
          have hd : decide ((i : Int) + (n : Int) < (s.size : Int)) = false := decide_eq_false (by omega)
          go_wp2
          go_quiet (fail)
          have hsz := Hb.out.size
          subst hst
          have hbx := byte_lt (s[i]'hlt)
          have hnb := rn_byte R (by omega)
          have hlen : out.length + 2 ≤ 70368744177664 := by
            have h5 := congrArg List.length Hout.out
            rw [List.length_append] at h5
            have h6 := Hrl.out
            omega
          have Hlen := Lib.hid hlen; have Hnb := Lib.hid hnb
          clear hlen hnb
          go_wp2_with (at_builtin; refine wpList_app _ _ 2 rfl (.tmp 34) (.tmp 40) rfl w.heap.size _ _ Ho.out rfl [UInt8.ofNat R, s[i]'hlt] ?c1 rfl rfl Hlen.out hsz ?_)
          case c1 => simp [bv]; omega
          intro v' w1 hown' hbel'
          have Hbe := Lib.hid (Below.trans (below_draws Hb.out _) hbel')
          have Hov := Lib.hid hown'
          clear hown' hbel'
          go_wp2
          go_roundw
          case rel => exact ⟨i + R, f', out ++ [UInt8.ofNat R, s[i]'hlt], by omega, by go_num, Hov.out, Hbe.out, by omega, by rw [List.append_assoc, ← Hre.out]; exact Hout.out⟩
          case measure => simp [intOf]; omega
    · obtain rfl : i = s.size := by omega
      have hfin : out = re s.size s.data.toList := by
        have h5 := Hout.out
        rw [List.drop_eq_nil_of_le (by exact Nat.le_refl _), re_nil, List.append_nil] at h5
        exact h5
      have hc := conv_own Hown.out
      rw [hfin] at hc
      have hf2 : (⟨(re s.size s.data.toList).toArray⟩ : ByteArray) = reS s := rfl
      rw [hf2] at hc
      clear hf2 hfin
      go_wp2
      go_ret
      exact ⟨rfl, Hbel.out⟩
end Go.Proofs.Ytmddgncidgdglaa
