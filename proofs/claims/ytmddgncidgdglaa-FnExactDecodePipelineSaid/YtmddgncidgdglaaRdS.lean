/- The contract of the model's function that reverses runs. No statement is proved here. -/
import Derived.Test.YtmddgncidgdglaaDcP2
import Derived.Test.YtmddgncidgdglaaRnS
namespace Go.Proofs.Ytmddgncidgdglaa
open Go.RowKit
set_option linter.unusedVariables false
theorem own_form {w : World} {B : Nat} {v : Value} {l : List UInt8} (h : OwnB w B v l) : ∃ a n, v = .slice a l.length n := by
  rcases h.2 with ⟨rfl, h0⟩ | ⟨g, cap, cur, rfl, _⟩
  · rw [h0]; exact ⟨_, _, rfl⟩
  · exact ⟨_, _, rfl⟩
set_option maxHeartbeats 1000000 in
set_option maxRecDepth 100000 in
theorem specRunDecode_any (s : ByteArray) (hs : s.size ≤ 1048576) (w : World) :
    Calls Try.prog 30 #[.string s] w (GivesB (ansO (rdL s.data.toList [])) w) := by
  generalize hA : ansO (rdL s.data.toList []) = A
  have HA := Lib.hid hA; clear hA
  go_enter Try.func30, Try.ntmps30
  go_wp2
  go_loopw [4, 5] (fun v k wr => ∃ (i : Nat) (out : List UInt8), i ≤ s.size ∧ i % 2 = 0 ∧ k = .int .i64 (i : Int) ∧ OwnB wr w.heap.size v out ∧ Below w.heap.size w wr ∧ out.length ≤ 1100 ∧ rdL (s.data.toList.drop i) out = rdL s.data.toList []) (fun _ k _ => s.size - (intOf k).toNat)
  case atStart => exact ⟨0, [], Nat.zero_le _, rfl, rfl, World.ownsRow_lit w #[] 0 (Nat.le_refl _) (by decide) rfl, (Below.refl _ _).alloc (Nat.le_refl _) _, Nat.zero_le _, rfl⟩
  case round =>
    obtain ⟨i, out, hi, hpar, rfl, hown, hbel, hol, hout⟩ := hrel
    have Hown := Lib.hid hown; have Hbel := Lib.hid hbel; have Hout := Lib.hid hout
    clear hown hbel hout
    by_cases hlt : i + 1 < s.size
    · have h0 : i < s.size := by omega
      have hcmp : (i : Int) + 1 < (s.size : Int) := by omega
      have hd : s.data.toList.drop i = s[i]'h0 :: s[i + 1]'hlt :: s.data.toList.drop (i + 2) := by
        rw [List.drop_eq_getElem_cons (i := i) (by simpa using h0), List.drop_eq_getElem_cons (i := i + 1) (by simpa using hlt)]
        rfl
      have HO := Lib.hid (Hout.out.symm.trans (by rw [hd]) : rdL s.data.toList [] = rdL (s[i]'h0 :: s[i + 1]'hlt :: s.data.toList.drop (i + 2)) out)
      clear hd
      generalize hcv : s[i]'h0 = cb at *
      generalize hvv : s[i + 1]'hlt = v at *
      have hc := byte_lt cb
      have hcn : cb.toNat < 256 := cb.toNat_lt
      by_cases hz : cb.toNat = 0
      · have Hf : Hid (A = .tuple #[.string ⟨#[]⟩, .bool false]) := Lib.hid (by rw [← HA.out, HO.out, rdL_no (.inl hz)]; rfl)
        have hq : ((cb.toNat : Int) == 0) = true := by simp [hz]
        go_wp2_with fail
        go_ret2
        exact ⟨by rw [Hf.out]; rfl, Hbel.out⟩
      have hq : ((cb.toNat : Int) == 0) = false := by simp; omega
      by_cases hg : 1100 < out.length + cb.toNat
      · have Hf : Hid (A = .tuple #[.string ⟨#[]⟩, .bool false]) := Lib.hid (by rw [← HA.out, HO.out, rdL_no (.inr hg)]; rfl)
        obtain ⟨Aw, cw, rfl⟩ : ∃ a n, u4 = .slice a out.length n := own_form Hown.out
        have hd : decide ((1100 : Int) < (out.length : Int) + (cb.toNat : Int)) = true := decide_eq_true (by omega)
        go_wp2_with fail
        go_ret2
        exact ⟨by rw [Hf.out]; rfl, Hbel.out⟩
      have HN : Hid (rdL (s.data.toList.drop (i + 2)) (out ++ List.replicate cb.toNat v) = rdL s.data.toList []) := Lib.hid (by rw [HO.out, rdL_yes (fun h => h.elim hz hg)])
      obtain ⟨Aw, cw, hu4⟩ : ∃ a n, u4 = .slice a out.length n := own_form Hown.out
      subst hu4
      have hd : decide ((1100 : Int) < (out.length : Int) + (cb.toNat : Int)) = false := decide_eq_false (by omega)
      go_wp2_with fail
      go_loopw [4, 6] (fun u k wq => ∃ j : Nat, j ≤ cb.toNat ∧ k = .int .u8 ((cb.toNat : Int) - (j : Int)) ∧ OwnB wq w.heap.size u (out ++ List.replicate j v) ∧ Below w.heap.size w wq) (fun _ k _ => (intOf k).toNat)
      case atStart => exact ⟨0, Nat.zero_le _, by simp, by simpa using Hown.out, Hbel.out⟩
      case round =>
        obtain ⟨j, hj, rfl, hown, hbel⟩ := hrel
        have Ho := Lib.hid hown; have Hb := Lib.hid hbel
        have hsz := hbel.size
        clear hown hbel
        by_cases hjc : j < cb.toNat
        · have hst : (out ++ List.replicate j v) ++ [v] = out ++ List.replicate (j + 1) v := by rw [List.append_assoc, List.replicate_succ']
          have hlen : (out ++ List.replicate j v).length + 1 ≤ 70368744177664 := by simp; omega
          have hgt : decide ((0 : Int) < (cb.toNat : Int) - (j : Int)) = true := decide_eq_true (by omega)
          have Hst := Lib.hid hst; have Hlen := Lib.hid hlen
          clear hst hlen
          go_wp2_with (at_builtin; refine wpList_app _ _ 1 rfl (.tmp 36) (.tmp 41) rfl w.heap.size _ _ Ho.out rfl [v] ?c1 rfl rfl Hlen.out hsz ?_)
          case c1 => simp [bv]
          intro v' w1 hown' hbel'
          have hown2 : OwnB w1 w.heap.size v' (out ++ List.replicate (j + 1) v) := by rw [← Hst.out, List.append_assoc]; first | exact hown' | (rw [List.append_assoc] at hown'; exact hown')
          have Hon := Lib.hid hown2; have Hbn := Lib.hid (Hb.out.trans hbel')
          clear hown' hown2 hbel'
          go_wp2
          go_roundw
          case rel => exact ⟨j + 1, by omega, by go_num, Hon.out, Hbn.out⟩
          case measure => simp [intOf]; omega
        · have hjq : j = cb.toNat := by omega
          have hgt : decide ((0 : Int) < (cb.toNat : Int) - (j : Int)) = false := decide_eq_false (by omega)
          have Hjq := Lib.hid hjq; clear hjq
          go_wp2
          go_roundw
          case rel => exact ⟨i + 2, out ++ List.replicate j v, by omega, by omega, by go_num, Ho.out, Hb.out, by simp; omega, by rw [Hjq.out]; exact HN.out⟩
          case measure => simp [intOf]; omega
    · by_cases hev : s.size % 2 = 0
      · have hie : i = s.size := by omega
        have Hf : Hid (A = .tuple #[.string ⟨out.toArray⟩, .bool true]) := Lib.hid (by
          rw [← HA.out, ← Hout.out, List.drop_eq_nil_of_le (by rw [hie]; exact Nat.le_refl s.size)]; rfl)
        have hc := conv_own Hown.out
        obtain ⟨z, m1, m2⟩ : ∃ z : Int, (s.size : Int) % 2 = z ∧ (z != 0) = false := ⟨0, by omega, rfl⟩
        have m3 : (s.size : Int).tmod 2 = z := by rw [Int.tmod_eq_emod_of_nonneg (by omega)]; exact m1
        clear hev hpar hol hie
        go_wp2_with fail
        go_ret2
        exact ⟨by rw [Hf.out]; rfl, Hbel.out⟩
      · have Hf : Hid (A = .tuple #[.string ⟨#[]⟩, .bool false]) := Lib.hid (by
          rw [← HA.out, rdL_odd _ _ (by show s.size % 2 = 1; omega)]; rfl)
        have m1 : (s.size : Int) % 2 = 1 := by omega
        clear hev hpar hol
        go_wp2_with fail
        go_ret2
        exact ⟨by rw [Hf.out]; rfl, Hbel.out⟩
end Go.Proofs.Ytmddgncidgdglaa
