/- Two lists of pages made one: the model. No statement is proved here. -/
import Derived.Test.YtplfnlalmcpcaaaGreatPgI
import Derived.Test.YtplfnlalmcpcaaaGreatPgF
import Derived.Test.YtplfnlalmcpcaaaGreatPsT
namespace Go.Proofs.YtplfnlalmcpcaaaGreat
open Go.RowKit
set_option linter.unusedVariables false
theorem infoGz : (Tryz.prog.info? 77).map (fun i => (i.zero, i.size, i.bytes)) = some (some (.agg #[.int .i64 0, .string ⟨#[]⟩]), 2, 24) := by kernel_rfl
theorem OG.opened {W : World} {lo : Nat} {v : Value} {ss : List Pt} (h : OG W lo v ss) : ∃ A cap, v = .slice A ss.length cap := by
  rcases h.sl with ⟨rfl, rfl⟩ | ⟨x, cap, rfl, _⟩ <;> exact ⟨_, _, rfl⟩
theorem OG.none (w : World) (lo : Nat) : OG w lo (.slice none 0 0) [] := ⟨rfl, .inl ⟨rfl, rfl⟩⟩
/-- append of one page that was just laid into a block of its own. -/
theorem wpList_pushG {ops : Array Oper} {rest : List Oper} {o : Oper} {a : Act} {Q : Exit → Act → World → Prop} {W : World} {lo B : Nat} {v : Value} {ps : List Pt} {k : Int} {x : ByteArray} (hgd : o.guard = none) (s y : Operand)
    (ho : o.op = .call { callee := .builtin .append, args := #[s, y], argTypes := #[36, 36] }) (hs : a.eval s = v) (hx : a.eval y = .slice (some ⟨B, 0, none⟩) 1 1) (hB : W.heap.size = B)
    (hown : OG W lo v ps) (hlo : lo ≤ W.heap.size) (hlen : ps.length ≤ 1048576)
    (h : ∀ g cap w', OG w' lo (.slice (some ⟨g, 0, none⟩) (ps ++ [(k, x)]).length cap) (ps ++ [(k, x)]) → (W.alloc (.cells #[.int .i64 k, .string x] 77)).grownBy w' v.ownBlock → g < w'.heap.size →
      wpList Tryz.prog ops Q rest (a.put o.dst (.slice (some ⟨g, 0, none⟩) (ps ++ [(k, x)]).length cap)) w') : wpList Tryz.prog ops Q (o :: rest) a (W.alloc (.cells #[.int .i64 k, .string x] 77)) := by
  obtain ⟨i0, hi, hz0, hz1, hz2⟩ := info_partsT infoGz
  subst hB
  have el : (ps ++ [(k, x)]).length = ps.length + 1 := by simp
  refine wpList_append_lies _ hgd s y 36 ho lo 77 i0 (.agg #[.int .i64 0, .string ⟨#[]⟩]) 2 24 Tryz.underlying36 hi hz0 hz1 hz2 rfl (by decide) v ps.length (flatP ps) hs (own_bel hown ((Below.refl _ W).alloc (Nat.le_refl _) _))
    ⟨W.heap.size, 0, none⟩ 1 1 [.int .i64 k, .string x] hx rfl (fun j u hu => ?_) (fun u hu => ?_) (by decide) (by unfold maxLen; omega) (by omega) (by simp; omega) (W.heap.size + 1) (by simp) (fun g cap w' h1 h2 h3 h4 => ?_)
  · rcases j with _ | _ | j
    · obtain rfl := Option.some.inj hu
      rw [add_at, cell_of_row _ _ _ _ _ _ (heap_alloc_new W _)]; rfl
    · obtain rfl := Option.some.inj hu
      rw [add_at, cell_of_row _ _ _ _ _ _ (heap_alloc_new W _)]; rfl
    · simp at hu
  · simp only [List.mem_cons, List.not_mem_nil, or_false] at hu
    rcases hu with rfl | rfl <;> rfl
  · have := h g cap w' (by unfold OG; rw [el, flatP_append]; exact h1) h2 h4
    rw [el] at this; exact this
theorem pushG_bel {W W2 z : World} {lo B : Nat} {o : Obj} {v : Value} {xs : List Pt} (hz : Below B z W) (h1 : OG W lo v xs) (hB : B ≤ lo) (hlo : B ≤ W.heap.size) (hgr : (W.alloc o).grownBy W2 v.ownBlock) : Below B z W2 :=
  (hz.alloc hlo o).grown hgr (by simp; omega) (fun k hk => Nat.le_trans hB (own_wi h1 k hk).1)
def mg : List Pt → List Pt → List Pt
  | [], ys => ys
  | a :: xs, [] => a :: xs
  | a :: xs, b :: ys => if a.1 < b.1 then a :: mg xs (b :: ys) else if a.1 = b.1 then b :: mg xs ys else b :: mg (a :: xs) ys
termination_by p q => p.length + q.length
theorem mg_nil (xs : List Pt) : mg xs [] = xs := by cases xs <;> simp [mg]
theorem mg_a {xs ys : List Pt} {i j : Nat} (hi : i < xs.length) (h : ∀ hj : j < ys.length, xs[i].1 < ys[j].1) : mg (xs.drop i) (ys.drop j) = xs[i] :: mg (xs.drop (i + 1)) (ys.drop j) := by
  rw [List.drop_eq_getElem_cons hi]
  by_cases hj : j < ys.length
  · rw [List.drop_eq_getElem_cons hj]
    rw [mg, if_pos (h hj)]
  · rw [List.drop_eq_nil_of_le (by omega : ys.length ≤ j), mg_nil, mg_nil]
theorem mg_e {xs ys : List Pt} {i j : Nat} (hi : i < xs.length) (hj : j < ys.length) (h : xs[i].1 = ys[j].1) : mg (xs.drop i) (ys.drop j) = ys[j] :: mg (xs.drop (i + 1)) (ys.drop (j + 1)) := by
  rw [List.drop_eq_getElem_cons hi, List.drop_eq_getElem_cons hj, mg, if_neg (by omega), if_pos h]
theorem mg_b {xs ys : List Pt} {i j : Nat} (hj : j < ys.length) (h : ∀ hi : i < xs.length, ys[j].1 < xs[i].1) : mg (xs.drop i) (ys.drop j) = ys[j] :: mg (xs.drop i) (ys.drop (j + 1)) := by
  rw [List.drop_eq_getElem_cons hj]
  by_cases hi : i < xs.length
  · have := h hi
    rw [List.drop_eq_getElem_cons hi, mg, if_neg (by omega), if_neg (by omega)]
  · rw [List.drop_eq_nil_of_le (by omega : xs.length ≤ i), mg, mg]
def AnsG (D : List Pt) (w : World) (e : Ending) (w' : World) : Prop := ∃ v : Value, e = .returned v ∧ OG w' w.heap.size v D ∧ Below w.heap.size w w'
def MgI (xs ys : List Pt) (w : World) (vl iv jv : Value) (wr : World) : Prop := ∃ (i j : Nat) (L : List Pt), i ≤ xs.length ∧ j ≤ ys.length ∧ iv = .int .i64 (i : Int) ∧ jv = .int .i64 (j : Int) ∧ OG wr w.heap.size vl L ∧ L ++ mg (xs.drop i) (ys.drop j) = mg xs ys ∧ L.length ≤ i + j ∧ Below w.heap.size w wr
set_option maxHeartbeats 4000000 in
set_option maxRecDepth 100000 in
theorem l11Merge_any {B : Nat} {w : World} {v1 v2 : Value} {xs ys : List Pt} (h1 : RiU B w v1 xs) (h2 : RiU B w v2 ys) (hB : B ≤ w.heap.size) (la : xs.length ≤ 256) (lb : ys.length ≤ 256) :
    Calls Tryz.prog 89 #[v1, v2] w (AnsG (mg xs ys) w) := by
  have H1 := Lib.hid h1; have H2 := Lib.hid h2
  obtain ⟨A1, c1, rfl, l1, m1, x1⟩ := h1
  obtain ⟨A2, c2, rfl, l2, m2, x2⟩ := h2
  have X1 := Lib.hid x1; have X2 := Lib.hid x2; clear x1 x2
  unfold maxLen at m1 m2
  have Hb0 : Hid (Below w.heap.size w (w.alloc (.cells #[] 77))) := Lib.hid ((Below.refl _ w).alloc (Nat.le_refl _) _)
  have Ho0 : Hid (OG (w.alloc (.cells #[] 77)) w.heap.size (.slice (some ⟨w.heap.size, 0, none⟩) 0 0) []) := Lib.hid (World.ownsRow_made w #[] 0 (Nat.le_refl _) (by decide) (by simp))
  generalize hM : mg xs ys = M
  have HM := Lib.hid hM; clear hM
  go_enter Tryz.func89, Tryz.ntmps89
  go_wp2_with fail
  go_loopw [5, 6, 7] (fun vl iv jv wr => MgI xs ys w vl iv jv wr) (fun _ iv jv _ => (xs.length - (intOf iv).toNat) + (ys.length - (intOf jv).toNat))
  case atStart => exact ⟨0, 0, [], Nat.zero_le _, Nat.zero_le _, rfl, rfl, Ho0.out, by simp, by simp, Hb0.out⟩
  case round =>
    obtain ⟨i, j, L, hi, hj, rfl, rfl, hown, hmg, hL, hbel⟩ := hrel
    have Hown := Lib.hid hown; have Hbel := Lib.hid hbel; have Hmg := Lib.hid hmg
    obtain ⟨VA, vc, rfl⟩ := OG.opened hown
    clear hown hmg
    have hws : w.heap.size ≤ wr.heap.size := hbel.size
    have HoN : Hid (∀ n, OG (wr.drewN n) w.heap.size (.slice VA L.length vc) L) := Lib.hid (fun n => own_bel Hown.out (below_draws (Below.refl _ _) n))
    have HbN : Hid (∀ n, Below w.heap.size w (wr.drewN n)) := Lib.hid (fun n => below_draws Hbel.out n)
    by_cases ha : i < xs.length
    · have da : decide ((i : Int) < (xs.length : Int)) = true := decide_eq_true (by omega)
      obtain ⟨b1, o1, rfl, hb1, hc1, hd1, -, -⟩ := X1.out i ha
      have g1 := (hbel.cell (p := ⟨b1, o1 + i * 2, none⟩) (show b1 < _ by omega)).trans hc1
      have k1 := (hbel.cell (p := ⟨b1, o1 + i * 2 + 1, none⟩) (show b1 < _ by omega)).trans hd1
      have Hld1 : Hid (∀ n, _) := Lib.hid (fun n => run_load_cells (P := Tryz.prog) (wr.drewN n) b1 (o1 + i * 2) 77 _ [.int .i64 xs[i].1, .string xs[i].2] (two_cells (show World.cell? (wr.drewN n) _ = _ from g1) (show World.cell? (wr.drewN n) _ = _ from k1)) Tryz.underlying77 (by kernel_rfl))
      by_cases hb : j < ys.length
      · have db : ((j : Int) == (ys.length : Int)) = false := by simp; omega
        obtain ⟨b2, o2, rfl, hb2, hc2, hd2, -, -⟩ := X2.out j hb
        have g2 := (hbel.cell (p := ⟨b2, o2 + j * 2, none⟩) (show b2 < _ by omega)).trans hc2
        have k2 := (hbel.cell (p := ⟨b2, o2 + j * 2 + 1, none⟩) (show b2 < _ by omega)).trans hd2
        have Hld2 : Hid (∀ n, _) := Lib.hid (fun n => run_load_cells (P := Tryz.prog) (wr.drewN n) b2 (o2 + j * 2) 77 _ [.int .i64 ys[j].1, .string ys[j].2] (two_cells (show World.cell? (wr.drewN n) _ = _ from g2) (show World.cell? (wr.drewN n) _ = _ from k2)) Tryz.underlying77 (by kernel_rfl))
        rcases Int.lt_trichotomy xs[i].1 ys[j].1 with hc | hc | hc
        · have d1 : decide (xs[i].1 < ys[j].1) = true := decide_eq_true hc
          have Hn : Hid ((L ++ [(xs[i].1, xs[i].2)]) ++ mg (xs.drop (i + 1)) (ys.drop j) = mg xs ys) := Lib.hid (by rw [← Hmg.out, mg_a ha (fun _ => hc), List.append_assoc]; rfl)
          try simp only [] at *
          clear hbel
          go_wp2
          go_quiet (fail)
          go_wp2_with (first | (refine wpList_load_agg rfl 77 (.tmp 74) rfl _ rfl _ (Hld1.out _) ?_) | (at_builtin; refine wpList_pushG (W := wr.drewN _) (v := .slice VA L.length vc) (lo := w.heap.size) (ps := L) (k := xs[i].1) (x := xs[i].2) rfl (.tmp 71) (.tmp 76) rfl rfl rfl rfl (HoN.out _) hws (by omega) ?_; intro g4 cap4 w4 ow4 gr4 lt4; have Ho4 := Lib.hid ow4; have Hb4 := Lib.hid (pushG_bel (HbN.out _) (HoN.out _) (Nat.le_refl _) hws gr4); clear ow4 gr4))
          go_roundw
          case rel => exact ⟨(i + 1), j, _, by omega, by omega, by go_num, by go_num, by have h4 := Ho4.out; rw [List.length_append] at h4; exact h4, Hn.out, by simp; omega, Hb4.out⟩
          case measure => simp [intOf]; omega
        · have d1 : decide (xs[i].1 < ys[j].1) = false := decide_eq_false (by omega)
          have d2 : (xs[i].1 == ys[j].1) = true := by simp [hc]
          have Hn : Hid ((L ++ [(ys[j].1, ys[j].2)]) ++ mg (xs.drop (i + 1)) (ys.drop (j + 1)) = mg xs ys) := Lib.hid (by rw [← Hmg.out, mg_e ha hb hc, List.append_assoc]; rfl)
          try simp only [] at *
          clear hbel
          go_wp2
          go_quiet (fail)
          go_wp2
          go_quiet (fail)
          go_wp2_with (first | (refine wpList_load_agg rfl 77 (.tmp 41) rfl _ rfl _ (Hld2.out _) ?_) | (at_builtin; refine wpList_pushG (W := wr.drewN _) (v := .slice VA L.length vc) (lo := w.heap.size) (ps := L) (k := ys[j].1) (x := ys[j].2) rfl (.tmp 38) (.tmp 43) rfl rfl rfl rfl (HoN.out _) hws (by omega) ?_; intro g4 cap4 w4 ow4 gr4 lt4; have Ho4 := Lib.hid ow4; have Hb4 := Lib.hid (pushG_bel (HbN.out _) (HoN.out _) (Nat.le_refl _) hws gr4); clear ow4 gr4))
          go_roundw
          case rel => exact ⟨(i + 1), (j + 1), _, by omega, by omega, by go_num, by go_num, by have h4 := Ho4.out; rw [List.length_append] at h4; exact h4, Hn.out, by simp; omega, Hb4.out⟩
          case measure => simp [intOf]; omega
        · have d1 : decide (xs[i].1 < ys[j].1) = false := decide_eq_false (by omega)
          have d2 : (xs[i].1 == ys[j].1) = false := by simp; omega
          have Hn : Hid ((L ++ [(ys[j].1, ys[j].2)]) ++ mg (xs.drop i) (ys.drop (j + 1)) = mg xs ys) := Lib.hid (by rw [← Hmg.out, mg_b hb (fun _ => hc), List.append_assoc]; rfl)
          try simp only [] at *
          clear hbel
          go_wp2
          go_quiet (fail)
          go_wp2
          go_quiet (fail)
          go_wp2_with (first | (refine wpList_load_agg rfl 77 (.tmp 41) rfl _ rfl _ (Hld2.out _) ?_) | (at_builtin; refine wpList_pushG (W := wr.drewN _) (v := .slice VA L.length vc) (lo := w.heap.size) (ps := L) (k := ys[j].1) (x := ys[j].2) rfl (.tmp 38) (.tmp 43) rfl rfl rfl rfl (HoN.out _) hws (by omega) ?_; intro g4 cap4 w4 ow4 gr4 lt4; have Ho4 := Lib.hid ow4; have Hb4 := Lib.hid (pushG_bel (HbN.out _) (HoN.out _) (Nat.le_refl _) hws gr4); clear ow4 gr4))
          go_roundw
          case rel => exact ⟨i, (j + 1), _, by omega, by omega, by go_num, by go_num, by have h4 := Ho4.out; rw [List.length_append] at h4; exact h4, Hn.out, by simp; omega, Hb4.out⟩
          case measure => simp [intOf]; omega
      · have db : ((j : Int) == (ys.length : Int)) = true := by simp; omega
        have Hn : Hid ((L ++ [(xs[i].1, xs[i].2)]) ++ mg (xs.drop (i + 1)) (ys.drop j) = mg xs ys) := Lib.hid (by rw [← Hmg.out, mg_a ha (fun h => absurd h hb), List.append_assoc]; rfl)
        try simp only [] at *
        clear hbel
        go_wp2
        go_quiet (fail)
        go_wp2_with (first | (refine wpList_load_agg rfl 77 (.tmp 74) rfl _ rfl _ (Hld1.out _) ?_) | (at_builtin; refine wpList_pushG (W := wr.drewN _) (v := .slice VA L.length vc) (lo := w.heap.size) (ps := L) (k := xs[i].1) (x := xs[i].2) rfl (.tmp 71) (.tmp 76) rfl rfl rfl rfl (HoN.out _) hws (by omega) ?_; intro g4 cap4 w4 ow4 gr4 lt4; have Ho4 := Lib.hid ow4; have Hb4 := Lib.hid (pushG_bel (HbN.out _) (HoN.out _) (Nat.le_refl _) hws gr4); clear ow4 gr4))
        go_roundw
        case rel => exact ⟨(i + 1), j, _, by omega, by omega, by go_num, by go_num, by have h4 := Ho4.out; rw [List.length_append] at h4; exact h4, Hn.out, by simp; omega, Hb4.out⟩
        case measure => simp [intOf]; omega
    · have da : decide ((i : Int) < (xs.length : Int)) = false := decide_eq_false (by omega)
      by_cases hb : j < ys.length
      · have db : ((j : Int) == (ys.length : Int)) = false := by simp; omega
        have db2 : decide ((j : Int) < (ys.length : Int)) = true := decide_eq_true (by omega)
        obtain ⟨b2, o2, rfl, hb2, hc2, hd2, -, -⟩ := X2.out j hb
        have g2 := (hbel.cell (p := ⟨b2, o2 + j * 2, none⟩) (show b2 < _ by omega)).trans hc2
        have k2 := (hbel.cell (p := ⟨b2, o2 + j * 2 + 1, none⟩) (show b2 < _ by omega)).trans hd2
        have Hld2 : Hid (∀ n, _) := Lib.hid (fun n => run_load_cells (P := Tryz.prog) (wr.drewN n) b2 (o2 + j * 2) 77 _ [.int .i64 ys[j].1, .string ys[j].2] (two_cells (show World.cell? (wr.drewN n) _ = _ from g2) (show World.cell? (wr.drewN n) _ = _ from k2)) Tryz.underlying77 (by kernel_rfl))
        have Hn : Hid ((L ++ [(ys[j].1, ys[j].2)]) ++ mg (xs.drop i) (ys.drop (j + 1)) = mg xs ys) := Lib.hid (by rw [← Hmg.out, mg_b hb (fun h => absurd h ha), List.append_assoc]; rfl)
        try simp only [] at *
        clear hbel
        go_wp2
        go_quiet (fail)
        go_wp2
        go_quiet (fail)
        go_wp2_with (first | (refine wpList_load_agg rfl 77 (.tmp 41) rfl _ rfl _ (Hld2.out _) ?_) | (at_builtin; refine wpList_pushG (W := wr.drewN _) (v := .slice VA L.length vc) (lo := w.heap.size) (ps := L) (k := ys[j].1) (x := ys[j].2) rfl (.tmp 38) (.tmp 43) rfl rfl rfl rfl (HoN.out _) hws (by omega) ?_; intro g4 cap4 w4 ow4 gr4 lt4; have Ho4 := Lib.hid ow4; have Hb4 := Lib.hid (pushG_bel (HbN.out _) (HoN.out _) (Nat.le_refl _) hws gr4); clear ow4 gr4))
        go_roundw
        case rel => exact ⟨i, (j + 1), _, by omega, by omega, by go_num, by go_num, by have h4 := Ho4.out; rw [List.length_append] at h4; exact h4, Hn.out, by simp; omega, Hb4.out⟩
        case measure => simp [intOf]; omega
      · have db2 : decide ((j : Int) < (ys.length : Int)) = false := decide_eq_false (by omega)
        have Ho : Hid (OG wr w.heap.size (.slice VA L.length vc) M) := Lib.hid (by
          rw [← HM.out, ← Hmg.out, List.drop_eq_nil_of_le (by omega : xs.length ≤ i), List.drop_eq_nil_of_le (by omega : ys.length ≤ j), mg, List.append_nil]; exact Hown.out)
        clear hbel
        go_wp2_with fail
        go_ret
        exact ⟨_, rfl, Ho.out, Hbel.out⟩
set_option maxHeartbeats 2000000 in
set_option maxRecDepth 100000 in
theorem l11Merge_go {B : Nat} {w : World} {v1 v2 : Value} {xs ys : List Pt} (h1 : RiU B w v1 xs) (h2 : RiU B w v2 ys) (hB : B ≤ w.heap.size) (hx : pgOk xs = true) (hy : pgOk ys = true) :
    Calls Tryz.prog 89 #[v1, v2] w (AnsG (mg xs ys) w) := l11Merge_any h1 h2 hB (pgOk_iff.1 hx).1 (pgOk_iff.1 hy).1
def mgD (xs ys : List Pt) : List Pt := if pgOk xs then (if pgOk ys then mg xs ys else []) else []
end Go.Proofs.YtplfnlalmcpcaaaGreat
