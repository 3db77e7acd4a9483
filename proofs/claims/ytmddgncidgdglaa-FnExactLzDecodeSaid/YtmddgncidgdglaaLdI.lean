/- The contract of the program's function that reverses the compressor. No statement is proved here. -/
import Derived.Test.YtmddgncidgdglaaLdP
import Derived.Test.YtmddgncidgdglaaRdI
import Derived.Test.YtmddgncidgdglaaAps
import Derived.Test.YtmddgncidgdglaaRdS
import Derived.WalkMore
import Derived.ScopeJumps
namespace Go.Proofs.Ytmddgncidgdglaa
open Go.RowKit
set_option linter.unusedVariables false
/-- A frame of this function, in a world of which P holds. -/
def J57 (P : World → Prop) (a : Act) (v : World) : Prop := ∃ u0 u1 u2 u3 u4 u5 u6 u7 u8 u9 u10 u11 u12 u13 u14 u15 u16 u17 u18 u19 u20 u21 u22 u23 u24 u25 u26 u27 u28 u29 u30 u31 u32 u33 u34 u35 u36 u37 u38 u39 u40 u41 u42 u43 u44 u45 u46 u47 u48 u49 u50 u51 u52 u53 u54 u55 u56 : Value, a = { tmps := #[u0, u1, u2, u3, u4, u5, u6, u7, u8, u9, u10, u11, u12, u13, u14, u15, u16, u17, u18, u19, u20, u21, u22, u23, u24, u25, u26, u27, u28, u29, u30, u31, u32, u33, u34, u35, u36, u37, u38, u39, u40, u41, u42, u43, u44, u45, u46, u47, u48, u49, u50, u51, u52, u53, u54, u55, u56], defers := [] } ∧ P v
theorem J57.intro {P : World → Prop} {v : World} {u0 u1 u2 u3 u4 u5 u6 u7 u8 u9 u10 u11 u12 u13 u14 u15 u16 u17 u18 u19 u20 u21 u22 u23 u24 u25 u26 u27 u28 u29 u30 u31 u32 u33 u34 u35 u36 u37 u38 u39 u40 u41 u42 u43 u44 u45 u46 u47 u48 u49 u50 u51 u52 u53 u54 u55 u56 : Value} (h : P v) : J57 P { tmps := #[u0, u1, u2, u3, u4, u5, u6, u7, u8, u9, u10, u11, u12, u13, u14, u15, u16, u17, u18, u19, u20, u21, u22, u23, u24, u25, u26, u27, u28, u29, u30, u31, u32, u33, u34, u35, u36, u37, u38, u39, u40, u41, u42, u43, u44, u45, u46, u47, u48, u49, u50, u51, u52, u53, u54, u55, u56], defers := [] } v := ⟨u0, u1, u2, u3, u4, u5, u6, u7, u8, u9, u10, u11, u12, u13, u14, u15, u16, u17, u18, u19, u20, u21, u22, u23, u24, u25, u26, u27, u28, u29, u30, u31, u32, u33, u34, u35, u36, u37, u38, u39, u40, u41, u42, u43, u44, u45, u46, u47, u48, u49, u50, u51, u52, u53, u54, u55, u56, rfl, h⟩
theorem nV_two (y z : UInt8) (l : List UInt8) : nV (bL (y :: z :: l)) 2 = (y.toNat : Int) + 256 * (z.toNat : Int) := by
  unfold nV
  rw [if_pos (by rw [bL_size]; simp)]
  unfold gV
  have h : cutL (bL (y :: z :: l)) 0 2 = [y, z] := by
    unfold cutL bL
    simp
  have h2 : leVal [y, z] = (y.toNat : Int) + 256 * (z.toNat : Int) := by simp [leVal]
  have := y.toNat_lt; have := z.toNat_lt
  rw [h, h2, if_pos (by omega)]
theorem nV_short {l : List UInt8} (h : l.length < 2) : nV (bL l) 2 = 0 := by
  unfold nV
  rw [if_neg (by rw [bL_size]; omega)]
set_option maxHeartbeats 4000000 in
set_option maxRecDepth 100000 in
theorem implLzDecode_any (s : ByteArray) (hs : s.size ≤ 1048576) (w : World) :
    Calls Try.prog 33 #[.string s] w (GivesB (ansO (ldL s.size s.data.toList [])) w) := by
  generalize hA : ansO (ldL s.size s.data.toList []) = A
  have HA := Lib.hid hA; clear hA
  have F0 : Hid (FrA (w.alloc (.cells #[.string s] 64)) w.heap.size s) := Lib.hid (heap_alloc_new w _)
  have G0 : Hid (Below w.heap.size w (w.alloc (.cells #[.string s] 64))) := Lib.hid ((Below.refl _ w).alloc (Nat.le_refl _) _)
  have Z0 : Hid (w.heap.size + 1 ≤ (w.alloc (.cells #[.string s] 64)).heap.size) := Lib.hid (by simp)
  go_enter Try.func33, Try.ntmps33
  go_wp2
  refine wp_scope_jumps 0 (J57 (fun v => Below w.heap.size w v ∧ A = .tuple #[.string ⟨#[]⟩, .bool false])) (fun _ _ => 0) (by rfl) ?first ?pass
  case pass =>
    rintro a v ⟨u0, u1, u2, u3, u4, u5, u6, u7, u8, u9, u10, u11, u12, u13, u14, u15, u16, u17, u18, u19, u20, u21, u22, u23, u24, u25, u26, u27, u28, u29, u30, u31, u32, u33, u34, u35, u36, u37, u38, u39, u40, u41, u42, u43, u44, u45, u46, u47, u48, u49, u50, u51, u52, u53, u54, u55, u56, rfl, hbel, rfl⟩
    have Hbel := Lib.hid hbel; clear hbel
    go_wp2
    show bodyPost Try.prog Try.f33 _ Exit.ret _ _
    go_ret2
    exact ⟨rfl, Hbel.out⟩
  case first =>
    go_wp2
    generalize (w.alloc (.cells #[.string s] 64)) = w0 at *
    go_loopw [5, 6, 7, 8] (fun v _ _ _ wr => ∃ (l out : List UInt8) (f : Nat), FrA wr w.heap.size (bL l) ∧ OwnB wr (w.heap.size + 1) v out ∧ Below w.heap.size w wr ∧ w.heap.size + 1 ≤ wr.heap.size ∧ l.length ≤ s.size ∧ out.length ≤ 1100 ∧ l.length ≤ f ∧ ldL f l out = ldL s.size s.data.toList []) (fun _ _ _ _ wr => szAt wr w.heap.size)
    case atStart => exact ⟨s.data.toList, [], s.size, by rw [bL_self]; exact F0.out, ⟨rfl, .inl ⟨rfl, rfl⟩⟩, G0.out, Z0.out, Nat.le_refl _, Nat.zero_le _, Nat.le_refl _, rfl⟩
    case round =>
      obtain ⟨l, out, f, hfr, hown, hbel, hz, hll, hol, hlf, hout⟩ := hrel
      have Hfr := Lib.hid hfr; have Hown := Lib.hid hown; have Hbel := Lib.hid hbel; have Hout := Lib.hid hout
      clear hfr hown hbel hout
      have q0 : wr.cell? ⟨w.heap.size, 0, none⟩ = some (.string (bL l)) := by rw [cell_of_row _ _ _ _ _ _ Hfr.out]; rfl
      obtain ⟨Aw, cw, hu5⟩ : ∃ a n, u5 = .slice a out.length n := own_form Hown.out
      subst hu5
      rcases l with _ | ⟨x, l2⟩
      · have Hf : Hid (A = .tuple #[.string ⟨out.toArray⟩, .bool true]) := Lib.hid (by rw [← HA.out, ← Hout.out, ldL_nil]; rfl)
        have hc := conv_own Hown.out
        have he : (bL []).toList.isEmpty = true := by rw [toListB]; rfl
        generalize bL [] = T at *
        go_wp2_with fail
        show bodyPost Try.prog Try.f33 _ Exit.ret _ _
        go_ret2
        exact ⟨by rw [Hf.out]; rfl, Hbel.out⟩
      · have hx := x.toNat_lt
        have he : (bL (x :: l2)).toList.isEmpty = false := by
          rw [List.isEmpty_eq_false_iff]
          intro h
          have h2 := congrArg List.length h
          rw [show (bL (x :: l2)).toList = (bL (x :: l2)).data.toList from toListB _] at h2
          simp [bL] at h2
        have C1 := Lib.hid (frNumber_any (m := 1) (by rw [bL_size]; simp at hll ⊢; omega) (by omega) (by omega) Hfr.out)
        rw [nV_one, fR_drop, List.drop_succ_cons, List.drop_zero] at C1
        have hl2 : l2.length ≤ 1048576 := by simp at hll; omega
        have hl2s : l2.length + 1 ≤ s.size := by simpa using hll
        obtain ⟨f', rfl⟩ : ∃ f', f = f' + 1 := ⟨f - 1, by simp at hlf; omega⟩
        have hlf2 : l2.length ≤ f' := by simpa using hlf
        have HM := Lib.hid (show szAt wr w.heap.size = l2.length + 1 by rw [Hfr.out.sz, bL_size]; rfl)
        clear hll hlf
        generalize bL (x :: l2) = T at *
        by_cases hlit : x.toNat < 128
        · have hlI : (x.toNat : Int) < 128 := by omega
          have C2 : Hid (∀ W, FrA W w.heap.size (bL l2) → Calls Try.prog 68 #[.pointer (some ⟨w.heap.size, 0, none⟩), .int .i64 ((x.toNat : Int) + 1)] W (FrP w.heap.size (.string (bL (l2.take (x.toNat + 1)))) (bL (l2.drop (x.toNat + 1))) W)) := Lib.hid (fun W hW => by
            have := frBytes_any (m := x.toNat + 1) (by rw [bL_size]; omega) (by omega) hW
            rw [fT_take, fR_drop] at this
            exact this)
          have hbs : (bL (l2.take (x.toNat + 1))).size = min (x.toNat + 1) l2.length := by rw [bL_size, List.length_take]
          by_cases h1 : l2.length < x.toNat + 1
          · have Hf : Hid (A = .tuple #[.string ⟨#[]⟩, .bool false]) := Lib.hid (by rw [← HA.out, ← Hout.out, ldL_lit_no hlit (.inl h1)]; rfl)
            have hcl : decide (((bL (l2.take (x.toNat + 1))).size : Int) ≤ (x.toNat : Int)) = true := decide_eq_true (by rw [hbs]; omega)
            have hcl2 : (bL (l2.take (x.toNat + 1))).size ≤ x.toNat := by rw [hbs]; omega
            clear hbs
            generalize bL (l2.take (x.toNat + 1)) = T2 at *
            go_wp2_with (first | (go_at_call 67; clear q0; refine C1.out.mono ?_; rintro e w1 ⟨rfl, hfr, hk, hs1, g⟩; have Hf1 := Lib.hid hfr; have Hg1 := Lib.hid (Hbel.out.trans g); have Ho1 : Hid (OwnB w1 (w.heap.size + 1) _ out) := Lib.hid (own_same Hown.out (fun q hq => hk q (by have := (World.ownsRow.lt Hown.out q hq).1; omega))); have Hz1 : Hid (w.heap.size + 1 ≤ w1.heap.size) := Lib.hid (by omega); clear hfr hk hs1 g) | (go_at_call 68; refine (C2.out _ Hf1.out).mono ?_; rintro e w2 ⟨rfl, hfr, hk, hs2, g⟩; have Hf2 := Lib.hid hfr; have Hg2 := Lib.hid (Hg1.out.trans g); have Ho2 : Hid (OwnB w2 (w.heap.size + 1) _ out) := Lib.hid (own_same Ho1.out (fun q hq => hk q (by have := (World.ownsRow.lt Ho1.out q hq).1; omega))); have Hz2 : Hid (w.heap.size + 1 ≤ w2.heap.size) := Lib.hid (by have := Hz1.out; omega); clear hfr hk hs2 g))
            go_step3
            exact ⟨rfl, J57.intro ⟨Hg2.out, Hf.out⟩⟩
          have hcl : decide (((bL (l2.take (x.toNat + 1))).size : Int) ≤ (x.toNat : Int)) = false := decide_eq_false (by rw [hbs]; omega)
          have hcl2 : ¬ (bL (l2.take (x.toNat + 1))).size ≤ x.toNat := by rw [hbs]; omega
          have hbs2 : (bL (l2.take (x.toNat + 1))).size = x.toNat + 1 := by rw [hbs]; omega
          have hbl : (bL (l2.take (x.toNat + 1))).data.toList = l2.take (x.toNat + 1) := by simp [bL]
          have hlen : out.length + (bL (l2.take (x.toNat + 1))).size ≤ 70368744177664 := by rw [hbs2]; omega
          have hol2 : (out ++ (bL (l2.take (x.toNat + 1))).data.toList).length = out.length + (x.toNat + 1) := by rw [List.length_append, hbl, List.length_take]; omega
          have Hlen := Lib.hid hlen; have Hol2 := Lib.hid hol2; have Hbl := Lib.hid hbl
          clear hbs hlen hol2 hbl
          generalize bL (l2.take (x.toNat + 1)) = T2 at *
          have HAp : Hid (∀ (W W' : World), Below (w.heap.size + 1) W W' → FrA W w.heap.size (bL (l2.drop (x.toNat + 1))) → FrA W' w.heap.size (bL (l2.drop (x.toNat + 1)))) := Lib.hid (fun W W' hb hf => (hb.block w.heap.size (by omega)).trans hf)
          by_cases h2 : 1100 < out.length + (x.toNat + 1)
          · have Hf : Hid (A = .tuple #[.string ⟨#[]⟩, .bool false]) := Lib.hid (by rw [← HA.out, ← Hout.out, ldL_lit_no hlit (.inr h2)]; rfl)
            go_wp2_with (first | (go_at_call 67; clear q0; refine C1.out.mono ?_; rintro e w1 ⟨rfl, hfr, hk, hs1, g⟩; have Hf1 := Lib.hid hfr; have Hg1 := Lib.hid (Hbel.out.trans g); have Ho1 : Hid (OwnB w1 (w.heap.size + 1) _ out) := Lib.hid (own_same Hown.out (fun q hq => hk q (by have := (World.ownsRow.lt Hown.out q hq).1; omega))); have Hz1 : Hid (w.heap.size + 1 ≤ w1.heap.size) := Lib.hid (by omega); clear hfr hk hs1 g) | (go_at_call 68; refine (C2.out _ Hf1.out).mono ?_; rintro e w2 ⟨rfl, hfr, hk, hs2, g⟩; have Hf2 := Lib.hid hfr; have Hg2 := Lib.hid (Hg1.out.trans g); have Ho2 : Hid (OwnB w2 (w.heap.size + 1) _ out) := Lib.hid (own_same Ho1.out (fun q hq => hk q (by have := (World.ownsRow.lt Ho1.out q hq).1; omega))); have Hz2 : Hid (w.heap.size + 1 ≤ w2.heap.size) := Lib.hid (by have := Hz1.out; omega); clear hfr hk hs2 g) | (at_builtin; refine wpList_appS rfl (.tmp 24) (.tmp 25) rfl (w.heap.size + 1) _ _ Ho2.out rfl T2 rfl Hlen.out Hz2.out ?_; intro v' w3 hown' hbel'; obtain ⟨O2, hO2⟩ : ∃ O2, O2 = out ++ T2.data.toList := ⟨_, rfl⟩; rw [← hO2] at hown'; have HO2 := Lib.hid hO2; have Hl2 : Hid (O2.length = out.length + (x.toNat + 1)) := Lib.hid (by rw [hO2]; exact Hol2.out); obtain ⟨Av, cv, hv'⟩ := own_form hown'; subst hv'; have Hon := Lib.hid hown'; have Hf3 := Lib.hid (HAp.out _ _ hbel' Hf2.out); have Hg3 := Lib.hid (Hg2.out.trans (hbel'.mono (by omega))); have Hz3 : Hid (w.heap.size + 1 ≤ w3.heap.size) := Lib.hid (by have := Hz2.out; have := hbel'.size; omega); have hcg : decide ((1100 : Int) < (O2.length : Int)) = true := decide_eq_true (by have := Hl2.out; omega); clear hown' hbel' hO2))
            go_step3
            exact ⟨rfl, J57.intro ⟨Hg3.out, Hf.out⟩⟩
          have Hn : Hid (ldL f' (l2.drop (x.toNat + 1)) (out ++ T2.data.toList) = ldL s.size s.data.toList []) := Lib.hid (by rw [← Hout.out, ldL_lit hlit (by omega), Hbl.out])
          go_wp2_with (first | (go_at_call 67; clear q0; refine C1.out.mono ?_; rintro e w1 ⟨rfl, hfr, hk, hs1, g⟩; have Hf1 := Lib.hid hfr; have Hg1 := Lib.hid (Hbel.out.trans g); have Ho1 : Hid (OwnB w1 (w.heap.size + 1) _ out) := Lib.hid (own_same Hown.out (fun q hq => hk q (by have := (World.ownsRow.lt Hown.out q hq).1; omega))); have Hz1 : Hid (w.heap.size + 1 ≤ w1.heap.size) := Lib.hid (by omega); clear hfr hk hs1 g) | (go_at_call 68; refine (C2.out _ Hf1.out).mono ?_; rintro e w2 ⟨rfl, hfr, hk, hs2, g⟩; have Hf2 := Lib.hid hfr; have Hg2 := Lib.hid (Hg1.out.trans g); have Ho2 : Hid (OwnB w2 (w.heap.size + 1) _ out) := Lib.hid (own_same Ho1.out (fun q hq => hk q (by have := (World.ownsRow.lt Ho1.out q hq).1; omega))); have Hz2 : Hid (w.heap.size + 1 ≤ w2.heap.size) := Lib.hid (by have := Hz1.out; omega); clear hfr hk hs2 g) | (at_builtin; refine wpList_appS rfl (.tmp 24) (.tmp 25) rfl (w.heap.size + 1) _ _ Ho2.out rfl T2 rfl Hlen.out Hz2.out ?_; intro v' w3 hown' hbel'; obtain ⟨O2, hO2⟩ : ∃ O2, O2 = out ++ T2.data.toList := ⟨_, rfl⟩; rw [← hO2] at hown'; have HO2 := Lib.hid hO2; have Hl2 : Hid (O2.length = out.length + (x.toNat + 1)) := Lib.hid (by rw [hO2]; exact Hol2.out); obtain ⟨Av, cv, hv'⟩ := own_form hown'; subst hv'; have Hon := Lib.hid hown'; have Hf3 := Lib.hid (HAp.out _ _ hbel' Hf2.out); have Hg3 := Lib.hid (Hg2.out.trans (hbel'.mono (by omega))); have Hz3 : Hid (w.heap.size + 1 ≤ w3.heap.size) := Lib.hid (by have := Hz2.out; have := hbel'.size; omega); have hcg : decide ((1100 : Int) < (O2.length : Int)) = false := decide_eq_false (by have := Hl2.out; omega); clear hown' hbel' hO2))
          go_roundw
          case rel => exact ⟨l2.drop (x.toNat + 1), O2, f', Hf3.out, Hon.out, Hg3.out, Hz3.out, by rw [List.length_drop]; omega, by have := Hl2.out; omega, by rw [List.length_drop]; omega, by rw [HO2.out]; exact Hn.out⟩
          case measure => rw [HM.out, Hf3.out.sz, bL_size, List.length_drop]; omega
        · have hlI : decide ((x.toNat : Int) < 128) = false := decide_eq_false (by omega)
          have C3 : Hid (∀ W, FrA W w.heap.size (bL l2) → Calls Try.prog 67 #[.pointer (some ⟨w.heap.size, 0, none⟩), .int .i64 (2 : Int)] W (FrP w.heap.size (.int .i64 (nV (bL l2) 2)) (bL (l2.drop 2)) W)) := Lib.hid (fun W hW => by
            have := frNumber_any (m := 2) (by rw [bL_size]; omega) (by omega) (by omega) hW
            rw [fR_drop] at this
            exact this)
          by_cases hsh : l2.length < 2
          · have Hf : Hid (A = .tuple #[.string ⟨#[]⟩, .bool false]) := Lib.hid (by rw [← HA.out, ← Hout.out, ldL_short hlit hsh]; rfl)
            rw [nV_short hsh] at C3
            clear hsh
            go_wp2_with (first | (go_at_call 67; clear q0; refine C1.out.mono ?_; rintro e w1 ⟨rfl, hfr, hk, hs1, g⟩; have Hf1 := Lib.hid hfr; have Hg1 := Lib.hid (Hbel.out.trans g); have Ho1 : Hid (OwnB w1 (w.heap.size + 1) _ out) := Lib.hid (own_same Hown.out (fun q hq => hk q (by have := (World.ownsRow.lt Hown.out q hq).1; omega))); have Hz1 : Hid (w.heap.size + 1 ≤ w1.heap.size) := Lib.hid (by omega); clear hfr hk hs1 g) | (go_at_call 67; refine (C3.out _ Hf1.out).mono ?_; rintro e w2 ⟨rfl, hfr, hk, hs2, g⟩; have Hf2 := Lib.hid hfr; have Hg2 := Lib.hid (Hg1.out.trans g); have Ho2 : Hid (OwnB w2 (w.heap.size + 1) _ out) := Lib.hid (own_same Ho1.out (fun q hq => hk q (by have := (World.ownsRow.lt Ho1.out q hq).1; omega))); have Hz2 : Hid (w.heap.size + 1 ≤ w2.heap.size) := Lib.hid (by have := Hz1.out; omega); clear hfr hk hs2 g))
            go_step3
            exact ⟨rfl, J57.intro ⟨Hg2.out, Hf.out⟩⟩
          rcases l2 with _ | ⟨y, _ | ⟨z, l3⟩⟩
          · simp at hsh
          · simp at hsh
          rw [nV_two] at C3
          simp only [List.drop_succ_cons, List.drop_zero] at C3
          have hy := byte_lt y; have hzz := byte_lt z
          obtain ⟨d, hdd⟩ : ∃ d : Nat, d = y.toNat + 256 * z.toNat := ⟨_, rfl⟩
          have hdI : (y.toNat : Int) + 256 * (z.toNat : Int) = (d : Int) := by omega
          have hdb : d < 65536 := by omega
          rw [hdI] at C3
          have Hdd := Lib.hid hdd
          have hl3 : l3.length + 3 ≤ s.size := by simpa using hl2s
          have hlf3 : l3.length ≤ f' := by simp at hlf2; omega
          have hm2 : (y :: z :: l3).length + 1 = l3.length + 3 := by simp
          rw [hm2] at HM
          clear hdd hdI hy hzz hsh hl2 hl2s hlf2 hm2
          by_cases hd1 : d < 1
          · have Hf : Hid (A = .tuple #[.string ⟨#[]⟩, .bool false]) := Lib.hid (by rw [← HA.out, ← Hout.out, ldL_no hlit (by rw [← Hdd.out]; exact .inl hd1)]; rfl)
            have e1 : decide ((d : Int) < 1) = true := decide_eq_true (by omega)
            generalize bL (y :: z :: l3) = T1 at *
            go_wp2_with (first | (go_at_call 67; clear q0; refine C1.out.mono ?_; rintro e w1 ⟨rfl, hfr, hk, hs1, g⟩; have Hf1 := Lib.hid hfr; have Hg1 := Lib.hid (Hbel.out.trans g); have Ho1 : Hid (OwnB w1 (w.heap.size + 1) _ out) := Lib.hid (own_same Hown.out (fun q hq => hk q (by have := (World.ownsRow.lt Hown.out q hq).1; omega))); have Hz1 : Hid (w.heap.size + 1 ≤ w1.heap.size) := Lib.hid (by omega); clear hfr hk hs1 g) | (go_at_call 67; refine (C3.out _ Hf1.out).mono ?_; rintro e w2 ⟨rfl, hfr, hk, hs2, g⟩; have Hf2 := Lib.hid hfr; have Hg2 := Lib.hid (Hg1.out.trans g); have Ho2 : Hid (OwnB w2 (w.heap.size + 1) _ out) := Lib.hid (own_same Ho1.out (fun q hq => hk q (by have := (World.ownsRow.lt Ho1.out q hq).1; omega))); have Hz2 : Hid (w.heap.size + 1 ≤ w2.heap.size) := Lib.hid (by have := Hz1.out; omega); clear hfr hk hs2 g))
            go_step3
            exact ⟨rfl, J57.intro ⟨Hg2.out, Hf.out⟩⟩
          have e1 : decide ((d : Int) < 1) = false := decide_eq_false (by omega)
          by_cases hd2 : out.length < d
          · have Hf : Hid (A = .tuple #[.string ⟨#[]⟩, .bool false]) := Lib.hid (by rw [← HA.out, ← Hout.out, ldL_no hlit (by rw [← Hdd.out]; exact .inr (.inl hd2))]; rfl)
            have e2 : decide ((out.length : Int) < (d : Int)) = true := decide_eq_true (by omega)
            have e4 : ¬ d ≤ out.length := by omega
            generalize bL (y :: z :: l3) = T1 at *
            go_wp2_with (first | (go_at_call 67; clear q0; refine C1.out.mono ?_; rintro e w1 ⟨rfl, hfr, hk, hs1, g⟩; have Hf1 := Lib.hid hfr; have Hg1 := Lib.hid (Hbel.out.trans g); have Ho1 : Hid (OwnB w1 (w.heap.size + 1) _ out) := Lib.hid (own_same Hown.out (fun q hq => hk q (by have := (World.ownsRow.lt Hown.out q hq).1; omega))); have Hz1 : Hid (w.heap.size + 1 ≤ w1.heap.size) := Lib.hid (by omega); clear hfr hk hs1 g) | (go_at_call 67; refine (C3.out _ Hf1.out).mono ?_; rintro e w2 ⟨rfl, hfr, hk, hs2, g⟩; have Hf2 := Lib.hid hfr; have Hg2 := Lib.hid (Hg1.out.trans g); have Ho2 : Hid (OwnB w2 (w.heap.size + 1) _ out) := Lib.hid (own_same Ho1.out (fun q hq => hk q (by have := (World.ownsRow.lt Ho1.out q hq).1; omega))); have Hz2 : Hid (w.heap.size + 1 ≤ w2.heap.size) := Lib.hid (by have := Hz1.out; omega); clear hfr hk hs2 g))
            go_step3
            exact ⟨rfl, J57.intro ⟨Hg2.out, Hf.out⟩⟩
          have e2 : decide ((out.length : Int) < (d : Int)) = false := decide_eq_false (by omega)
          have e4 : d ≤ out.length := by omega
          obtain ⟨N, hN⟩ : ∃ N : Nat, N = x.toNat - 125 := ⟨_, rfl⟩
          have hNI : (x.toNat : Int) - 128 + 3 = (N : Int) := by omega
          have hN3 : 3 ≤ N ∧ N ≤ 130 := by omega
          have Hout2 : Hid (ldL (f' + 1) (x :: y :: z :: l3) out = if 1100 < out.length + N then none else ldL f' l3 (cpN d N out)) := Lib.hid (by
            by_cases h : 1100 < out.length + N
            · rw [if_pos h, ldL_no hlit (by rw [← Hdd.out, ← hN]; exact .inr (.inr h))]
            · rw [if_neg h, ldL_match hlit (by rw [← Hdd.out, ← hN]; omega), ← Hdd.out, ← hN])
          have hd12 : 1 ≤ d ∧ d ≤ out.length := by omega
          clear hN hd1
          generalize bL (y :: z :: l3) = T1 at *
          go_wp2_with (first | (go_at_call 67; clear q0; refine C1.out.mono ?_; rintro e w1 ⟨rfl, hfr, hk, hs1, g⟩; have Hf1 := Lib.hid hfr; have Hg1 := Lib.hid (Hbel.out.trans g); have Ho1 : Hid (OwnB w1 (w.heap.size + 1) _ out) := Lib.hid (own_same Hown.out (fun q hq => hk q (by have := (World.ownsRow.lt Hown.out q hq).1; omega))); have Hz1 : Hid (w.heap.size + 1 ≤ w1.heap.size) := Lib.hid (by omega); clear hfr hk hs1 g) | (go_at_call 67; refine (C3.out _ Hf1.out).mono ?_; rintro e w2 ⟨rfl, hfr, hk, hs2, g⟩; have Hf2 := Lib.hid hfr; have Hg2 := Lib.hid (Hg1.out.trans g); have Ho2 : Hid (OwnB w2 (w.heap.size + 1) _ out) := Lib.hid (own_same Ho1.out (fun q hq => hk q (by have := (World.ownsRow.lt Ho1.out q hq).1; omega))); have Hz2 : Hid (w.heap.size + 1 ≤ w2.heap.size) := Lib.hid (by have := Hz1.out; omega); clear hfr hk hs2 g))
          have Hl3 := Lib.hid hl3; have Hlf3 := Lib.hid hlf3; have Hx := Lib.hid hlit
          clear e1 e2 e4 hlI hNI hx hlit hl3 hlf3 he hd2
          go_loopw [5, 39] (fun v k wq => ∃ (j : Nat) (o' : List UInt8), j ≤ N ∧ k = .int .i64 (j : Int) ∧ OwnB wq (w.heap.size + 1) v o' ∧ FrA wq w.heap.size (bL l3) ∧ Below w.heap.size w wq ∧ w.heap.size + 1 ≤ wq.heap.size ∧ o'.length = out.length + j ∧ cpN d (N - j) o' = cpN d N out) (fun _ k _ => N - (intOf k).toNat)
          case atStart => exact ⟨0, out, Nat.zero_le _, rfl, Ho2.out, Hf2.out, Hg2.out, Hz2.out, rfl, rfl⟩
          case round =>
            obtain ⟨j, o', hj, rfl, hown, hfr, hbel, hz4, hol3, hcp⟩ := hrel
            have Ho := Lib.hid hown; have Hb := Lib.hid hbel; have Hcp := Lib.hid hcp; have Hol3 := Lib.hid hol3; have Hfq := Lib.hid hfr
            have ho1 : o'.length ≤ 1300 := by omega
            have ho2 : d ≤ o'.length := by omega
            clear hown hbel hcp hol3 hfr
            by_cases hjn : j < N
            · obtain ⟨g, cap, rfl, hgB, hgc, hgm⟩ := ob_some Ho.out (by omega)
              unfold maxLen at hgm
              obtain ⟨q, hq⟩ : ∃ q : Nat, q = o'.length - d := ⟨_, rfl⟩
              have hqI : (o'.length : Int) - (d : Int) = (q : Int) := by omega
              have hql : q < o'.length := by omega
              have hqI2 : (q : Int) < (o'.length : Int) := by omega
              have hcell := ob_cell Ho.out q hql
              have Hcp2 : Hid (cpN d (N - (j + 1)) (o' ++ [o'.getD q 0]) = cpN d N out) := Lib.hid (by
                rw [← Hcp.out, show N - j = (N - (j + 1)) + 1 by omega, cpN_step, ← hq])
              have hlen : o'.length + 1 ≤ 70368744177664 := by omega
              have Hlen := Lib.hid hlen
              clear hq hlen
              unfold bv at hcell
              generalize hbq : o'.getD q 0 = bq at *
              have Hbq := Lib.hid hbq; clear hbq
              go_wp2_with (at_builtin; refine wpList_app _ _ 1 rfl (.tmp 41) (.tmp 49) rfl (w.heap.size + 1) _ _ Ho.out rfl [bq] ?c1 rfl rfl Hlen.out hz4 ?_)
              case c1 => simp [bv]
              intro v' w3 hown' hbel'
              have Hon := Lib.hid hown'; have Hbn := Lib.hid (Hb.out.trans (hbel'.mono (by omega)))
              have Hfn : Hid (FrA w3 w.heap.size (bL l3)) := Lib.hid ((hbel'.block w.heap.size (by omega)).trans Hfq.out)
              have Hzn : Hid (w.heap.size + 1 ≤ w3.heap.size) := Lib.hid (by have := hbel'.size; omega)
              clear hown' hbel' hcell
              go_wp2
              go_roundw
              case rel => exact ⟨j + 1, o' ++ [bq], by omega, by go_num, Hon.out, Hfn.out, Hbn.out, Hzn.out, by rw [List.length_append, Hol3.out]; simp; omega, Hcp2.out⟩
              case measure => simp [intOf]; omega
            · have hjq : j = N := by omega
              have Hfin : Hid (o' = cpN d N out) := Lib.hid (by rw [← Hcp.out, hjq, Nat.sub_self]; rfl)
              obtain ⟨g, cap, rfl, hgB, hgc, hgm⟩ := ob_some Ho.out (by omega)
              have hoe : o'.length = out.length + N := by have := Hol3.out; omega
              by_cases hbig : 1100 < out.length + N
              · have Hf : Hid (A = .tuple #[.string ⟨#[]⟩, .bool false]) := Lib.hid (by rw [← HA.out, ← Hout.out, Hout2.out, if_pos hbig]; rfl)
                have hcg : decide ((1100 : Int) < (o'.length : Int)) = true := decide_eq_true (by omega)
                clear hjq hoe
                go_wp2
                go_step3
                exact ⟨rfl, J57.intro ⟨Hb.out, Hf.out⟩⟩
              · have Hn : Hid (ldL f' l3 o' = ldL s.size s.data.toList []) := Lib.hid (by rw [← Hout.out, Hout2.out, if_neg hbig, Hfin.out])
                have hcg : decide ((1100 : Int) < (o'.length : Int)) = false := decide_eq_false (by omega)
                have ho3 : o'.length ≤ 1100 := by omega
                clear hjq hoe
                go_wp2
                go_roundw
                case rel => exact ⟨l3, o', f', Hfq.out, Ho.out, Hb.out, hz4, by have := Hl3.out; omega, ho3, Hlf3.out, Hn.out⟩
                case measure => rw [HM.out, Hfq.out.sz, bL_size]; omega
end Go.Proofs.Ytmddgncidgdglaa
