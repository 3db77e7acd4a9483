/- The binary form of a header: the program. No statement is proved here. -/
import Derived.Test.YtlickjmdlooapaaEnH
import Derived.Test.YtlickjmdlooapaaBld
import Derived.Test.YtlickjmdlooapaaNuI
import Derived.Test.YtlickjmdlooapaaPre
namespace Go.Proofs.Ytlickjmdlooapaa
open Go.RowKit
set_option linter.unusedVariables false
theorem putU_leS {n : Int} {s : Nat} (h1 : 1 ≤ s) (h8 : s ≤ 8) (h0 : 0 ≤ n) (h : n < 2 ^ (8 * s)) : putU n (s : Int) = leS n s := by
  have := putU_yes (n := n) (s := (s : Int)) ⟨by omega, by omega, h0, by rw [Int.toNat_natCast]; exact Int.ediv_eq_zero_of_lt h0 (by exact_mod_cast h)⟩
  rw [this, Int.toNat_natCast]
def oc (ns : List Int) : List UInt8 := ns.map fun n => byteOf n 0
theorem oc_take {ns : List Int} {k : Nat} (h : k < ns.length) : oc (ns.take k) ++ [byteOf ns[k] 0] = oc (ns.take (k + 1)) := by
  unfold oc
  rw [← List.take_append_getElem h, List.map_append]; rfl
set_option maxHeartbeats 1000000 in
set_option maxRecDepth 100000 in
theorem octets_any {B : Nat} {w : World} {v : Value} {ns : List Int} (h : Ri B w v ns) (hB : B ≤ w.heap.size) (hl : ns.length ≤ 1000) :
    Calls Try.prog 117 #[v] w (GivesB (.string ⟨(oc ns).toArray⟩) w) := by
  obtain ⟨A, cap, rfl, hln, hcc, hx⟩ := h
  have Hx := Lib.hid hx; clear hx
  unfold maxLen at hcc
  go_enter Try.func117, Try.ntmps117
  go_wp2_with fail
  go_loopw [3, 5, 8] (fun v _ i wr => ∃ k : Nat, k ≤ ns.length ∧ i = .int .i64 k ∧ OwnB wr w.heap.size v (oc (ns.take k)) ∧ Below w.heap.size w wr) (fun _ _ i _ => ns.length - (intOf i).toNat)
  case atStart => exact ⟨0, Nat.zero_le _, rfl, ⟨by simp [oc], .inl ⟨rfl, by simp [oc]⟩⟩, Below.refl _ _⟩
  case round =>
    obtain ⟨k, hk, rfl, hown, hbel⟩ := hrel
    have hsz := hbel.size
    by_cases hlt : k < ns.length
    · obtain ⟨b, o, rfl, hb, hc, -⟩ := Hx.out k hlt
      have q := (hbel.cell (p := ⟨b, o + k, none⟩) (show b < _ by omega)).trans hc
      have HT := Lib.hid (oc_take hlt)
      have hz : (oc (ns.take k)).length = k := by simp [oc]; omega
      generalize ns[k] = z at *
      clear hc
      go_wp2_with (at_builtin; refine wpList_app wr _ 1 rfl (.tmp 12) (.tmp 15) rfl w.heap.size _ _ hown rfl [byteOf z 0] ?c1 rfl rfl ?c2 hsz ?_)
      case c1 => simp [bv, byteOf_toNat]
      case c2 => omega
      intro v' w1 hown' hbel'
      rw [HT.out] at hown'
      have Ho := Lib.hid hown'; clear hown'
      have Hb := Lib.hid (hbel.trans hbel')
      clear q hown hbel hbel'
      go_wp2_with fail
      go_roundw
      case rel => exact ⟨k + 1, by omega, by go_num, Ho.out, Hb.out⟩
      case measure => simp [intOf]; omega
    · have hkm : k = ns.length := by omega
      have hc := conv_own hown
      have He : Hid (oc (ns.take k) = oc ns) := Lib.hid (by rw [hkm, List.take_length])
      have Hb := Lib.hid hbel
      clear hown hbel
      go_wp2_with fail
      go_ret
      exact ⟨by rw [← He.out]; rfl, Hb.out⟩
theorem oc3 (z f n : Int) : (⟨(oc [z, f, n]).toArray⟩ : ByteArray) = (leS z 1 ++ leS f 1) ++ leS n 1 := by
  apply ByteArray.ext
  simp [oc, leS, leL]
theorem oc3_ri (w : World) (z f n : Int) (hz : InI z) (hf : InI f) (hn : InI n) : Ri (w.heap.size + 1) (w.alloc (.cells #[.int .i64 z, .int .i64 f, .int .i64 n] 2)) (.slice (some ⟨w.heap.size, 0, none⟩) 3 3) [z, f, n] := by
  refine ⟨_, 3, rfl, by simp, by unfold maxLen; decide, fun i hi => ⟨w.heap.size, 0, rfl, by omega, ?_, ?_⟩⟩
  · rw [cell_of_row _ _ _ _ _ _ (heap_alloc_new w _)]
    rcases i with _ | _ | _ | i
    · rfl
    · rfl
    · rfl
    · simp at hi; omega
  · rcases i with _ | _ | _ | i
    · exact hz
    · exact hf
    · exact hn
    · simp at hi; omega
theorem oct3_any (w : World) (z f n : Int) (hz : InI z) (hf : InI f) (hn : InI n) :
    Calls Try.prog 117 #[.slice (some ⟨w.heap.size, 0, none⟩) 3 3] (w.alloc (.cells #[.int .i64 z, .int .i64 f, .int .i64 n] 2)).drew (GivesB (.string ((leS z 1 ++ leS f 1) ++ leS n 1)) (w.alloc (.cells #[.int .i64 z, .int .i64 f, .int .i64 n] 2)).drew) := by
  have := octets_any ((oc3_ri w z f n hz hf hn).up (Nat.le_refl _) (Below.refl _ _).drew) (by simp) (by simp)
  rwa [oc3] at this
theorem IsB.bel {B b : Nat} {bs : List Value} {w w' : World} (h : IsB B b bs w) (g : Below w.heap.size w w') : IsB B b bs w' := by
  have key : ∀ p, Lib.BuilderAt 143 5 B b p bs w → Lib.BuilderAt 143 5 B b p bs w' := fun p h => by
    obtain ⟨h1, v, h2, h3, h4⟩ := h
    have hlt : b < w.heap.size := by
      rcases Nat.lt_or_ge b w.heap.size with h' | h'
      · exact h'
      · simp [Array.getElem?_eq_none h'] at h2
    exact ⟨h1, v, (g.block _ hlt).trans h2, own_bel h3 g, h4⟩
  rcases h with h | h
  · exact .inl (key _ h)
  · exact .inr (key _ h)
def bsOf (s : ByteArray) : List Value := Lib.byteCells s.data.toList
theorem bsOf_app (a b : ByteArray) : bsOf a ++ Lib.strCells b = bsOf (a ++ b) := by
  rw [strCells_bytes]
  unfold bsOf Lib.byteCells
  rw [← List.map_append]
  simp
theorem nilB_app (a : ByteArray) : (⟨#[]⟩ : ByteArray) ++ a = a := by
  apply ByteArray.ext; simp
theorem bsOf_len (a : ByteArray) : (bsOf a).length = a.size := by unfold bsOf Lib.byteCells; simp
/-- WriteString, said of the text so far. -/
theorem wrS {B b : Nat} {w : World} {a s c : ByteArray} (hc : a ++ s = c) (h : IsB B b (bsOf a) w) (hz : a.size + s.size ≤ 100000000) (hBw : B ≤ w.heap.size) :
    Calls Try.prog 103 #[.pointer (some ⟨b, 0, none⟩), .string s] w fun e w' => e = .returned (.tuple #[.int .i64 s.size, .nilIface]) ∧ IsB B b (bsOf c) w' ∧ Below B w w' ∧ Kp b w w' := by
  subst hc
  rw [← bsOf_app]
  exact writeString_any B b _ s w h (by rw [bsOf_len]; omega) hBw
theorem rdS {B b : Nat} {w : World} {a : ByteArray} (h : IsB B b (bsOf a) w) (hBw : B ≤ w.heap.size) :
    Calls Try.prog 105 #[.pointer (some ⟨b, 0, none⟩)] w fun e w' => e = .returned (.string a) ∧ Below B w w' := by
  have := string_any B b a.data.toList w h hBw
  rwa [show (⟨a.data.toList.toArray⟩ : ByteArray) = a from by simp] at this
set_option maxHeartbeats 4000000 in
set_option maxRecDepth 100000 in
theorem implEncodeHeader_any {B : Nat} {w : World} {v : Value} {k r : Int} {ms : List EM} (h : RiM B w v ms) (hB : B ≤ w.heap.size) :
    Calls Try.prog 49 #[.agg #[.int .i64 k, .int .i64 r, v]] w (GivesB (.string (enV k r ms)) w) := by
  have H := Lib.hid h; obtain ⟨A, cap, rfl, hl, hcc, hx⟩ := h
  have HI := Lib.hid H.out.wf
  have Hx := Lib.hid hx; clear hx
  unfold maxLen at hcc
  have Hb0 : Hid (Below w.heap.size w (w.alloc (.cells #[.int .i64 k, .int .i64 r, .slice A ms.length cap] 64))) := Lib.hid ((Below.refl _ w).alloc (Nat.le_refl _) _)
  have R0 : Hid ((w.alloc (.cells #[.int .i64 k, .int .i64 r, .slice A ms.length cap] 64)).heap[w.heap.size]? = some (.cells #[.int .i64 k, .int .i64 r, .slice A ms.length cap] 64 (0, 0))) := Lib.hid (heap_alloc_new w _)
  have Lt0 : Hid (w.heap.size < (w.alloc (.cells #[.int .i64 k, .int .i64 r, .slice A ms.length cap] 64)).heap.size) := Lib.hid (by simp)
  have HC := Lib.hid (implValidHeader_any (k := k) (r := r) (H.out.at hB Hb0.out) (Nat.le_refl _))
  have HV : Hid (enV k r ms = if hdrOk k r ms then enF k r ms else ⟨#[]⟩) := Lib.hid rfl
  have HQ : Hid (hdrOk k r ms = true → (1 ≤ k ∧ k ≤ 3 ∧ 0 ≤ r ∧ r ≤ 1000) ∧ ms.length ≤ 24 ∧ (∀ j (hj : j < ms.length), ms[j].2.2.size ≤ 200) ∧ ∀ j, j ≤ ms.length → (enT (enH k r ms) ms j).size ≤ 4 + 203 * j) := Lib.hid (fun hk => ⟨by
    simp only [hdrOk, Bool.and_eq_true, inB_iff] at hk
    omega, (hdr_msgs hk).1, (hdr_msgs hk).2, fun j hj => enT_size hk j hj⟩)
  generalize enV k r ms = EV at *
  generalize hdrOk k r ms = z at *
  go_enter Try.func49, Try.ntmps49
  go_wp2_with (refine wpList_load_row rfl 64 (.tmp 1) rfl _ rfl 64 _ (0, 0) _ R0.out Try.underlying64 rfl (by kernel_rfl) ?_)
  generalize (w.alloc (.cells #[.int .i64 k, .int .i64 r, .slice A ms.length cap] 64)) = w0 at *
  refine HC.out.mono ?_
  rintro e w1 ⟨rfl, g⟩
  have Hb1 := Lib.hid (Hb0.out.trans (g.mono Hb0.out.size))
  have R1 := Lib.hid ((g.block _ Lt0.out).trans R0.out)
  have Lt1 : Hid (w.heap.size < w1.heap.size) := Lib.hid (by have := Lt0.out; have := g.size; omega)
  clear g HC
  cases z
  · have Hf : Hid (EV = ⟨#[]⟩) := Lib.hid (by rw [HV.out]; rfl)
    go_wp2_with fail
    go_ret
    exact ⟨by rw [Hf.out]; rfl, Hb1.out⟩
  have Hf : Hid (EV = enT (enH k r ms) ms ms.length) := Lib.hid (by rw [HV.out]; rfl)
  obtain ⟨⟨hk1, hk3, hr0, hr1⟩, hlen, hd2, hsz2⟩ := HQ.out rfl
  have HD2 := Lib.hid hd2; have HSZ := Lib.hid hsz2
  clear hd2 hsz2 HQ HV
  have F1 := Lib.hid (fun W => by have := implPutUint_any k 1 (by omega) W; rwa [show putU k 1 = leS k 1 from putU_leS (s := 1) (by omega) (by omega) (by omega) (by omega)] at this)
  have F2 := Lib.hid (fun W => by have := implPutUint_any r 2 (by omega) W; rwa [show putU r 2 = leS r 2 from putU_leS (s := 2) (by omega) (by omega) (by omega) (by omega)] at this)
  have F3 := Lib.hid (fun W => by have := implPutUint_any (ms.length : Int) 1 (by omega) W; rwa [show putU (ms.length : Int) 1 = leS (ms.length : Int) 1 from putU_leS (s := 1) (by omega) (by omega) (by omega) (by omega)] at this)
  have HH : Hid ((leS k 1 ++ leS r 2) ++ leS (ms.length : Int) 1 = enH k r ms) := Lib.hid rfl
  have a1 := fun W => addS (a := leS k 1) (b := leS r 2) rfl (by rw [leS_one, leS_one]; omega) W
  have a2 := fun W => addS (a := leS k 1 ++ leS r 2) (b := leS (ms.length : Int) 1) rfl (by rw [ByteArray.size_append, leS_one, leS_one, leS_one]; omega) W
  have HZ : Hid ((enH k r ms).size = 4) := Lib.hid (enH_size k r ms)
  rw [HH.out] at a2
  clear HH
  generalize leS k 1 ++ leS r 2 = b12 at *
  generalize leS k 1 = b1 at *
  generalize leS r 2 = b2 at *
  generalize leS (ms.length : Int) 1 = b3 at *
  generalize enH k r ms = EH at *
  have I2 : Hid (IsB w1.heap.size w1.heap.size (bsOf ⟨#[]⟩) (w1.alloc (.cells #[.pointer none, .slice none 0 0] 143))) := Lib.hid (IsB.new w1)
  have Hb2 : Hid (Below w1.heap.size w1 (w1.alloc (.cells #[.pointer none, .slice none 0 0] 143))) := Lib.hid ((Below.refl _ _).alloc (Nat.le_refl _) _)
  have Z2 : Hid (w1.heap.size < (w1.alloc (.cells #[.pointer none, .slice none 0 0] 143)).heap.size) := Lib.hid (by simp)
  go_wp2_with fail
  generalize (w1.alloc (.cells #[.pointer none, .slice none 0 0] 143)) = w2 at *
  have HSt : Hid (∀ W, Below w1.heap.size w1 W → W.cell? ⟨w.heap.size, 0, none⟩ = some (.int .i64 k) ∧ W.cell? ⟨w.heap.size, 1, none⟩ = some (.int .i64 r) ∧ W.cell? ⟨w.heap.size, 2, none⟩ = some (.slice A ms.length cap)) := Lib.hid (fun W hW => by
    have hr := (hW.block _ Lt1.out).trans R1.out
    exact ⟨by rw [cell_of_row _ _ _ _ _ _ hr]; rfl, by rw [cell_of_row _ _ _ _ _ _ hr]; rfl, by rw [cell_of_row _ _ _ _ _ _ hr]; rfl⟩)
  generalize hbb : w1.heap.size = bb at *
  have Hbb := Lib.hid hbb; clear hbb
  have HD : Hid (Below w2.heap.size w2 w2.drew) := Lib.hid (Below.refl _ _).drew
  have HE : Hid (∀ W, Below w2.heap.size w2 W → Below bb w1 W) := Lib.hid (fun W hW => Hb2.out.trans (hW.mono (by have := Z2.out; omega)))
  go_region_held3 (fun W => W.cell? ⟨w.heap.size, 0, none⟩ = some (.int .i64 k) ∧ W.cell? ⟨w.heap.size, 1, none⟩ = some (.int .i64 r) ∧ W.cell? ⟨w.heap.size, 2, none⟩ = some (.slice A ms.length cap)) (exact HSt.out _ (by first | exact kb4 | exact HE.out _ kb3 | exact HE.out _ kb2 | exact HE.out _ kb1 | exact HE.out _ HD.out))
    ((first | (go_at_call 116; go_fit (F1.out _); rintro e u1 ⟨rfl, g1⟩; have kb1 : Below w2.heap.size w2 u1 := HD.out.trans (g1.mono HD.out.size)) | (go_at_call 116; go_fit (F2.out _); rintro e u2 ⟨rfl, g2⟩; have kb2 : Below w2.heap.size w2 u2 := kb1.trans (g2.mono kb1.size)) | (go_at_call 116; go_fit (F3.out _); rintro e u3 ⟨rfl, g3⟩; have kb3 : Below w2.heap.size w2 u3 := kb2.trans (g3.mono kb2.size)) | (go_at_call 103; go_fit (wrS (B := bb) (a := ⟨#[]⟩) (c := EH) (nilB_app EH) (I2.out.bel kb3) (by have := HZ.out; have h0 : (⟨#[]⟩ : ByteArray).size = 0 := rfl; omega) (by have := kb3.size; have := Z2.out; omega)); rintro e u4 ⟨rfl, i4, g4, -⟩; have kb4 : Below bb w1 u4 := (HE.out _ kb3).trans g4)))
  try simp only [Exit.then]
  have Hk4 : Hid (Below bb w1 u4) := Lib.hid kb4
  have I4 : Hid (IsB bb bb (bsOf EH) u4) := Lib.hid i4
  have Z4 : Hid (bb < u4.heap.size) := Lib.hid (by have := kb3.size; have := g4.size; have := Z2.out; omega)
  have q2 := (HSt.out _ kb4).2.2
  clear kb1 kb2 kb3 kb4 g1 g2 g3 g4 i4 a1 a2 F1 F2 F3
  go_wp2_with fail
  clear q2
  go_loopw [5, 25] (fun _ i wr => ∃ j : Nat, j ≤ ms.length ∧ i = .int .i64 j ∧ IsB bb bb (bsOf (enT EH ms j)) wr ∧ Below bb w1 wr ∧ bb < wr.heap.size) (fun _ i _ => ms.length - (intOf i).toNat)
  case atStart => exact ⟨0, Nat.zero_le _, rfl, I4.out, Hk4.out, Z4.out⟩
  case round =>
    obtain ⟨j, hj, rfl, hib, hbel, hbz⟩ := hrel
    have Hbel := Lib.hid hbel; have Hib := Lib.hid hib; have Hbz := Lib.hid hbz
    have hbw : Below w.heap.size w wr := Hb1.out.trans (hbel.mono (by have := Hbb.out; have := Lt1.out; omega))
    clear hib hbz
    by_cases hlt : j < ms.length
    · obtain ⟨b0, o, rfl, hb, hc0, hc1, hc2, -⟩ := Hx.out j hlt
      have Hld := Lib.hid (run_load_cells (P := Try.prog) wr b0 (o + j * 3) 70 _ [.int .i64 ms[j].1, .int .i64 ms[j].2.1, .string ms[j].2.2] (cells_M (by rw [hbw.cell (show b0 < _ from by omega)]; exact hc0) (by rw [hbw.cell (show b0 < _ from by omega)]; exact hc1) (by rw [hbw.cell (show b0 < _ from by omega)]; exact hc2)) Try.underlying70 rfl)
      have hd := HD2.out j hlt
      have hS := HSZ.out j hj
      have hwf := HI.out ms[j] (List.getElem_mem hlt)
      have HS : Hid (enT EH ms (j + 1) = enT EH ms j ++ (((leS ms[j].1 1 ++ leS ms[j].2.1 1) ++ leS ms[j].2.2.size 1) ++ ms[j].2.2)) := Lib.hid (enT_succ EH ms j hlt)
      clear hc0 hc1 hc2 hbw hbel
      generalize ms[j].1 = z at *
      generalize ms[j].2.1 = f at *
      generalize ms[j].2.2 = d at *
      generalize hN : enT EH ms (j + 1) = S1 at *
      have HN := Lib.hid hN; clear hN
      generalize enT EH ms j = S0 at *
      have HO := Lib.hid (fun W => oct3_any W z f (d.size : Int) hwf.1 hwf.2.1 (by unfold InI; omega))
      have hz3 : ((leS z 1 ++ leS f 1) ++ leS (d.size : Int) 1).size = 3 := by rw [ByteArray.size_append, ByteArray.size_append, leS_one, leS_one, leS_one]
      clear hwf
      generalize (leS z 1 ++ leS f 1) ++ leS (d.size : Int) 1 = t3 at *
      have a1 := fun W => addS (a := t3) (b := d) rfl (by omega) W
      have hz4 : (t3 ++ d).size ≤ 203 := by rw [ByteArray.size_append]; omega
      generalize t3 ++ d = t4 at *
      have Hz4 := Lib.hid hz4; have HS0 := Lib.hid hS
      clear hz3 hz4 hS
      have RM : Hid ((wr.alloc (.cells #[.int .i64 z, .int .i64 f, .string d] 70)).heap[wr.heap.size]? = some (.cells #[.int .i64 z, .int .i64 f, .string d] 70 (0, 0))) := Lib.hid (heap_alloc_new wr _)
      have LM : Hid (wr.heap.size < (wr.alloc (.cells #[.int .i64 z, .int .i64 f, .string d] 70)).heap.size) := Lib.hid (by simp)
      have GM : Hid (Below wr.heap.size wr (wr.alloc (.cells #[.int .i64 z, .int .i64 f, .string d] 70))) := Lib.hid ((Below.refl _ _).alloc (Nat.le_refl _) _)
      have IM : Hid (IsB bb bb (bsOf S0) (wr.alloc (.cells #[.int .i64 z, .int .i64 f, .string d] 70))) := Lib.hid (Hib.out.bel GM.out)
      have BM : Hid (Below bb w1 (wr.alloc (.cells #[.int .i64 z, .int .i64 f, .string d] 70))) := Lib.hid (Hbel.out.trans (GM.out.mono (by have := Hbz.out; omega)))
      go_wp2_with (refine wpList_load_agg rfl 70 (.tmp 27) rfl _ rfl _ Hld.out ?_)
      clear Hld GM
      generalize (wr.alloc (.cells #[.int .i64 z, .int .i64 f, .string d] 70)) = w5 at *
      generalize hbm : wr.heap.size = bm at *
      have Hbm := Lib.hid hbm; clear hbm
      have HSm : Hid (∀ W, Below w5.heap.size w5 W → W.cell? ⟨bm, 0, none⟩ = some (.int .i64 z) ∧ W.cell? ⟨bm, 1, none⟩ = some (.int .i64 f) ∧ W.cell? ⟨bm, 2, none⟩ = some (.string d)) := Lib.hid (fun W hW => by
        have hr := (hW.block _ LM.out).trans RM.out
        exact ⟨by rw [cell_of_row _ _ _ _ _ _ hr]; rfl, by rw [cell_of_row _ _ _ _ _ _ hr]; rfl, by rw [cell_of_row _ _ _ _ _ _ hr]; rfl⟩)
      have HKm : Hid (∀ W W', Below w5.heap.size w5 W → Kp bb W W' → W'.cell? ⟨bm, 0, none⟩ = some (.int .i64 z) ∧ W'.cell? ⟨bm, 1, none⟩ = some (.int .i64 f) ∧ W'.cell? ⟨bm, 2, none⟩ = some (.string d)) := Lib.hid (fun W W' hW hk => by
        have hr := hk _ _ _ _ (by have := Hbz.out; have := Hbm.out; omega) ((hW.block _ LM.out).trans RM.out) (by decide)
        exact ⟨by rw [cell_of_row _ _ _ _ _ _ hr]; rfl, by rw [cell_of_row _ _ _ _ _ _ hr]; rfl, by rw [cell_of_row _ _ _ _ _ _ hr]; rfl⟩)
      have HDm : Hid (Below w5.heap.size w5 (w5.alloc (.cells #[.int .i64 z, .int .i64 f, .int .i64 (d.size : Int)] 2)).drew) := Lib.hid (((Below.refl _ _).alloc (Nat.le_refl _) _).drew)
      have HD0 : Hid (Below w5.heap.size w5 w5.drew) := Lib.hid (Below.refl _ _).drew
      go_region_held3 (fun W => W.cell? ⟨bm, 0, none⟩ = some (.int .i64 z) ∧ W.cell? ⟨bm, 1, none⟩ = some (.int .i64 f) ∧ W.cell? ⟨bm, 2, none⟩ = some (.string d)) (first | exact ks2 | exact HSm.out _ (by first | exact kb1 | exact HDm.out | exact HD0.out))
        ((first | (go_at_call 117; go_fit (HO.out _); rintro e u1 ⟨rfl, g1⟩; have kb1 : Below w5.heap.size w5 u1 := HDm.out.trans (g1.mono HDm.out.size)) | (go_at_call 103; go_fit (wrS (B := bb) (a := S0) (c := S1) HS.out.symm (IM.out.bel kb1) (by have := Hz4.out; have := HS0.out; omega) (by have := kb1.size; have := LM.out; have := Hbz.out; have := Hbm.out; omega)); rintro e u2 ⟨rfl, i2, g2, kp2⟩; have ks2 := HKm.out _ _ kb1 kp2; have kb2 : Below bb w1 u2 := BM.out.trans ((kb1.mono (by have := LM.out; have := Hbz.out; have := Hbm.out; omega)).trans g2); have zb2 : bb < u2.heap.size := by have := kb1.size; have := g2.size; have := LM.out; have := Hbz.out; have := Hbm.out; omega)))
      try simp only [Exit.then]
      have Hk5 : Hid (Below bb w1 u2) := Lib.hid kb2
      have I5 : Hid (IsB bb bb (bsOf S1) u2) := Lib.hid i2
      have Z5 : Hid (bb < u2.heap.size) := Lib.hid zb2
      clear kb1 kb2 g1 g2 i2 zb2 ks2 kp2 a1 HO
      go_wp2_with fail
      go_roundw
      case rel => exact ⟨j + 1, by omega, by go_num, by rw [HN.out]; exact I5.out, Hk5.out, Z5.out⟩
      case measure => simp [intOf]; omega
    · obtain rfl : j = ms.length := by omega
      have HRd := Lib.hid (rdS Hib.out (by have := Hbz.out; omega))
      generalize enT EH ms ms.length = S0 at *
      clear hbel hbw
      go_wp2_with fail
      refine HRd.out.mono ?_
      rintro e w9 ⟨rfl, g9⟩
      have Hb9 : Hid (Below w.heap.size w w9) := Lib.hid (Hb1.out.trans ((Hbel.out.trans g9).mono (by have := Hbb.out; have := Lt1.out; omega)))
      clear g9
      go_wp2_with fail
      go_ret
      exact ⟨by rw [Hf.out]; rfl, Hb9.out⟩
set_option maxHeartbeats 2000000 in
set_option maxRecDepth 100000 in
theorem specEncodeHeader_any {B : Nat} {w : World} {v : Value} {k r : Int} {ms : List EM} (h : RiM B w v ms) (hB : B ≤ w.heap.size) :
    Calls Try.prog 48 #[.agg #[.int .i64 k, .int .i64 r, v]] w (GivesB (.string (enV k r ms)) w) := by
  have H := Lib.hid h; obtain ⟨A, cap, rfl, hl, hcc, -⟩ := h
  have Hb0 : Hid (Below w.heap.size w (w.alloc (.cells #[.int .i64 k, .int .i64 r, .slice A ms.length cap] 64))) := Lib.hid ((Below.refl _ w).alloc (Nat.le_refl _) _)
  have R0 : Hid ((w.alloc (.cells #[.int .i64 k, .int .i64 r, .slice A ms.length cap] 64)).heap[w.heap.size]? = some (.cells #[.int .i64 k, .int .i64 r, .slice A ms.length cap] 64 (0, 0))) := Lib.hid (heap_alloc_new w _)
  have Lt0 : Hid (w.heap.size < (w.alloc (.cells #[.int .i64 k, .int .i64 r, .slice A ms.length cap] 64)).heap.size) := Lib.hid (by simp)
  have HC := Lib.hid (l14Ok_any (k := k) (r := r) (H.out.at hB Hb0.out) (Nat.le_refl _))
  have HV : Hid (enV k r ms = if hdrOk k r ms then enF k r ms else ⟨#[]⟩) := Lib.hid rfl
  have HE : Hid (hdrOk k r ms = true → ∀ W, Below w.heap.size w W → Calls Try.prog 115 #[.agg #[.int .i64 k, .int .i64 r, .slice A ms.length cap]] W (GivesB (.string (enF k r ms)) W)) := Lib.hid (fun hk W hW => l14Encode_any (H.out.at hB hW) (Nat.le_refl _) hk)
  generalize enV k r ms = EV at *
  generalize enF k r ms = EF at *
  generalize hdrOk k r ms = z at *
  go_enter Try.func48, Try.ntmps48
  go_wp2_with (refine wpList_load_row rfl 64 (.tmp 1) rfl _ rfl 64 _ (0, 0) _ R0.out Try.underlying64 rfl (by kernel_rfl) ?_)
  generalize (w.alloc (.cells #[.int .i64 k, .int .i64 r, .slice A ms.length cap] 64)) = w0 at *
  refine HC.out.mono ?_
  rintro e w1 ⟨rfl, g⟩
  have Hb1 := Lib.hid (Hb0.out.trans (g.mono Hb0.out.size))
  have R1 := Lib.hid ((g.block _ Lt0.out).trans R0.out)
  clear g HC
  cases z
  · have Hf : Hid (EV = ⟨#[]⟩) := Lib.hid (by rw [HV.out]; rfl)
    go_wp2_with fail
    go_ret
    exact ⟨by rw [Hf.out]; rfl, Hb1.out⟩
  have Hf : Hid (EV = EF) := Lib.hid (by rw [HV.out]; rfl)
  have HE1 := Lib.hid (HE.out rfl w1 Hb1.out)
  go_wp2_with (refine wpList_load_row rfl 64 (.tmp 1) rfl _ rfl 64 _ (0, 0) _ R1.out Try.underlying64 rfl (by kernel_rfl) ?_)
  refine HE1.out.mono ?_
  rintro e w2 ⟨rfl, g⟩
  have Hb2 := Lib.hid (Hb1.out.trans (g.mono Hb1.out.size))
  clear g
  go_wp2_with fail
  go_ret
  exact ⟨by rw [Hf.out]; rfl, Hb2.out⟩
end Go.Proofs.Ytlickjmdlooapaa
