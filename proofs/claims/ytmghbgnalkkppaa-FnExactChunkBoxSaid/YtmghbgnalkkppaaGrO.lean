/- Grids of chunks: the model's chunk of an element. No statement is proved here. -/
import Derived.Test.YtmghbgnalkkppaaGrA
namespace Go.Proofs.Ytmghbgnalkkppaa
open Go.RowKit
set_option linter.unusedVariables false
theorem step_pushJ {ops : Array Oper} {o : Oper} {a : Act} {K : Act → World → Prop} {Q : Exit → Act → World → Prop} {E : Prop} {W : World} {lo : Nat} {v : Value} {xs : List Int} {x : Int} (hgd : o.guard = none) (s z : Operand)
    (ho : o.op = .call { callee := .builtin .append, args := #[s, z], argTypes := #[22, 22] }) (hs : a.eval s = v) (hx : a.eval z = .slice (some ⟨W.heap.size, 0, none⟩) 1 1)
    (hown : OI W lo v xs) (hlo : lo ≤ W.heap.size) (hlen : xs.length ≤ 1048576)
    (h : ∀ g cap w', OI w' lo (.slice (some ⟨g, 0, none⟩) (xs.length + 1) cap) (xs ++ [x]) → (W.alloc (.cells #[.int .i64 x] 2)).grownBy w' v.ownBlock → (v.ownBlock = some g ∨ g = W.heap.size + 1) → g < w'.heap.size →
      K (a.put o.dst (.slice (some ⟨g, 0, none⟩) (xs.length + 1) cap)) w') : if Region.wanted o (yielded ops a.tmps) = true then Oper.wp Try.prog o a (W.alloc (.cells #[.int .i64 x] 2)) K Q else E := by
  have hw : Region.wanted o (yielded ops a.tmps) = true := by simp [Region.wanted, hgd]
  rw [if_pos hw]
  exact wp_push s z ho hs hx rfl hown hlo hlen h
def plc (cs ys : List Int) (k : Nat) : Int := (ys.getD k 0).tdiv (cs.getD k 0)
def ins (cs ys : List Int) (k : Nat) : Int := (ys.getD k 0).tmod (cs.getD k 0)
def plcs (cs ys : List Int) : List Int := (List.range ys.length).map (plc cs ys)
def inss (cs ys : List Int) : List Int := (List.range ys.length).map (ins cs ys)
theorem rangeI_push (f : Nat → Int) (k : Nat) : (List.range k).map f ++ [f k] = (List.range (k + 1)).map f := by rw [List.range_succ, List.map_append]; rfl
theorem rangeI_getD (f : Nat → Int) (n k : Nat) (h : k < n) : ((List.range n).map f).getD k 0 = f k := by rw [getD_at _ _ (by simp [h])]; simp
theorem oi_lit2 (W : World) (b lo : Nat) (hb : W.heap.size = b) (h : lo ≤ b) : OI (W.alloc (.cells #[] 2)) lo (.slice (some ⟨b, 0, none⟩) 0 0) [] := by
  subst hb
  exact World.ownsRow_lit W #[] 0 h (by decide) rfl
/-- Coordinates and the dimensions of chunks: what the division needs. -/
def Dv (cs ys : List Int) : Prop := cs.length ≤ 3 ∧ allTo (inC cs) cs.length = true ∧ ys.length = cs.length ∧ allTo (inD ys) ys.length = true
theorem Dv.at {cs ys : List Int} (h : Dv cs ys) (k : Nat) (h1 : k < ys.length) (h2 : k < cs.length) : 0 ≤ ys[k] ∧ ys[k] ≤ 40 ∧ 1 ≤ cs[k] ∧ cs[k] ≤ 40 := by
  have a := allTo_at h.2.2.2 h1
  have b := allTo_at h.2.1 h2
  rw [inD_at _ _ h1, inB_iff] at a
  rw [inC_at _ _ h2, inB_iff] at b
  omega
theorem dv_num {y c : Int} (h1 : 0 ≤ y ∧ y ≤ 40) (h2 : 1 ≤ c ∧ c ≤ 40) : 0 ≤ y.tdiv c ∧ y.tdiv c ≤ 40 ∧ 0 ≤ y.tmod c ∧ y.tmod c < c :=
  ⟨Int.tdiv_nonneg h1.1 (by omega), Int.le_trans (Int.tdiv_le_self _ h1.1) h1.2, Int.tmod_nonneg _ h1.1, Int.tmod_lt_of_pos _ (by omega)⟩
theorem plcs_inD {cs ys : List Int} (h : Dv cs ys) : allTo (inD (plcs cs ys)) (plcs cs ys).length = true := by
  unfold allTo
  rw [List.all_eq_true]
  intro j hj
  have hj : j < ys.length := by simpa [plcs] using hj
  have h2 : j < cs.length := by have := h.2.2.1; omega
  have := h.at j hj h2
  have := dv_num ⟨this.1, this.2.1⟩ this.2.2
  unfold inD
  rw [plcs, rangeI_getD _ _ _ hj, plc, getD_at _ _ hj, getD_at _ _ h2]
  exact inB_iff.2 (by omega)
theorem inss_fit {cs ys : List Int} (h : Dv cs ys) : Fit cs (inss cs ys) ∧ (∀ x ∈ inss cs ys, InI x) := by
  have hl : (inss cs ys).length = ys.length := by simp [inss]
  have key : ∀ j, j < ys.length → 0 ≤ ins cs ys j ∧ ins cs ys j < cs.getD j 0 ∧ cs.getD j 0 ≤ 40 := by
    intro j hj
    have h2 : j < cs.length := by have := h.2.2.1; omega
    have := h.at j hj h2
    have := dv_num ⟨this.1, this.2.1⟩ this.2.2
    rw [ins, getD_at _ _ hj, getD_at _ _ h2]
    omega
  refine ⟨⟨h.1, inC_inD cs h.2.1, by rw [hl, h.2.2.1], ?_⟩, ?_⟩
  · unfold allTo
    rw [List.all_eq_true]
    intro j hj
    rw [List.mem_range] at hj
    have hj : j < ys.length := by have := h.2.2.1; omega
    have := key j hj
    unfold inP
    rw [inss, rangeI_getD _ _ _ hj]
    rw [Bool.and_eq_true, decide_eq_true_eq, decide_eq_true_eq]
    exact ⟨this.1, this.2.1⟩
  · intro x hx
    obtain ⟨i, hi, rfl⟩ := List.mem_map.1 hx
    have := key i (List.mem_range.1 hi)
    unfold InI
    omega
set_option maxHeartbeats 2000000 in
set_option maxRecDepth 100000 in
theorem l20Of_any {B : Nat} {w : World} {v u : Value} {cs ys : List Int} (h : Ri B w v cs) (h2 : Ri B w u ys) (hB : B ≤ w.heap.size) (hd : Dv cs ys) :
    Calls Try.prog 43 #[v, u] w (GivesB (.tuple #[.int .i64 (pkL (plcs cs ys)), .int .i64 (idxL cs (inss cs ys))]) w) := by
  have HC0 := Lib.hid h
  obtain ⟨A1, c1, rfl, hl1, hm1, hx1⟩ := h
  obtain ⟨A2, c2, rfl, hl2, hm2, hx2⟩ := h2
  have Hx1 := Lib.hid hx1; have Hx2 := Lib.hid hx2; clear hx1 hx2
  unfold maxLen at hm1 hm2
  have Hd := Lib.hid hd
  have Hl := Lib.hid hd.2.2.1
  have hy3 : ys.length ≤ 3 := by have := hd.1; have := hd.2.2.1; omega
  clear hd
  go_enter Try.func43, Try.ntmps43
  go_wp2
  go_loopw [6, 7, 8] (fun v1 v2 i wr => ∃ k : Nat, k ≤ ys.length ∧ i = .int .i64 (k : Int) ∧ OI wr w.heap.size v1 ((List.range k).map (plc cs ys)) ∧ OI wr w.heap.size v2 ((List.range k).map (ins cs ys)) ∧ Apart v1 v2 ∧ Below w.heap.size w wr) (fun _ _ i _ => ys.length - (intOf i).toNat)
  case atStart => exact ⟨0, Nat.zero_le _, rfl, OI.bel (w := w.alloc (.cells #[] 2)) (World.ownsRow_lit w #[] 0 (Nat.le_refl _) (by decide) rfl) ((Below.refl _ _).alloc (Nat.le_refl _) _), oi_lit2 (w.alloc (.cells #[] 2)) (w.heap.size + 1) w.heap.size (by simp) (by omega), fun g h1 h2 => by simp [Value.ownBlock] at h1 h2; omega, ((Below.refl _ w).alloc (Nat.le_refl _) _).alloc (by simp) _⟩
  case round =>
    obtain ⟨k, hk, rfl, hown1, hown2, hap, hbel⟩ := hrel
    have Hown1 := Lib.hid hown1; have Hown2 := Lib.hid hown2; have Hbel := Lib.hid hbel; have Hap := Lib.hid hap
    have hsz := hbel.size
    obtain ⟨Aw, cw, hu1⟩ := hown1.sl
    obtain ⟨Av, cv, hu2⟩ := hown2.sl
    obtain ⟨ps, hps⟩ : ∃ ps, (List.range k).map (plc cs ys) = ps := ⟨_, rfl⟩
    obtain ⟨qs, hqs⟩ : ∃ qs, (List.range k).map (ins cs ys) = qs := ⟨_, rfl⟩
    have hpl : ps.length = k := by rw [← hps]; simp
    have hql : qs.length = k := by rw [← hqs]; simp
    rw [hps] at Hown1 hu1
    rw [hqs] at Hown2 hu2
    have Hps := Lib.hid hps; have Hqs := Lib.hid hqs
    have Hpl := Lib.hid hpl; have Hql := Lib.hid hql
    clear hown1 hown2 hap hbel hps hqs hpl hql
    subst hu1
    subst hu2
    by_cases hlt : k < ys.length
    · have hlt2 : k < cs.length := by have := Hl.out; omega
      obtain ⟨b1, o1, rfl, hb1, hq1, hI1⟩ := Hx1.out k hlt2
      obtain ⟨b2, o2, rfl, hb2, hq2, hI2⟩ := Hx2.out k hlt
      have g1 : wr.cell? ⟨b1, o1 + k, none⟩ = some (.int .i64 cs[k]) := by rw [Hbel.out.cell (p := ⟨b1, o1 + k, none⟩) (show b1 < _ from by omega)]; exact hq1
      have g2 : wr.cell? ⟨b2, o2 + k, none⟩ = some (.int .i64 ys[k]) := by rw [Hbel.out.cell (p := ⟨b2, o2 + k, none⟩) (show b2 < _ from by omega)]; exact hq2
      have Hg1 : Hid (plc cs ys k = (ys[k]).tdiv cs[k]) := Lib.hid (by rw [plc, getD_at _ _ hlt, getD_at _ _ hlt2])
      have Hg2 : Hid (ins cs ys k = (ys[k]).tmod cs[k]) := Lib.hid (by rw [ins, getD_at _ _ hlt, getD_at _ _ hlt2])
      have hn := Hd.out.at k hlt hlt2
      have hgn := dv_num ⟨hn.1, hn.2.1⟩ hn.2.2
      clear hI1 hI2
      have Hq1 := Lib.hid hq1; have Hq2 := Lib.hid hq2
      clear hq1 hq2
      generalize ys[k] = y at *
      generalize cs[k] = c at *
      have hne : ¬ (c = 0) := by omega
      obtain ⟨q, hq⟩ : ∃ q, y.tdiv c = q := ⟨_, rfl⟩
      obtain ⟨r, hr⟩ : ∃ r, y.tmod c = r := ⟨_, rfl⟩
      rw [hq] at hgn Hg1
      rw [hr] at hgn Hg2
      have z1 : IntKind.i64.wrap q = q := IntWalk.i64_in _ (by omega)
      have z2 : IntKind.i64.wrap r = r := IntWalk.i64_in _ (by omega)
      go_wp2_with fail
      go_region_law (refine step_pushJ (W := wr.drew) (lo := w.heap.size) (v := .slice Aw ps.length cw) (xs := ps) (x := q) (by rfl) (.tmp 17) (.tmp 27) (by rfl) (by first | rfl | go_simp) (by first | rfl | go_simp) (by exact Hown1.out) (by exact hsz) (by have := Hpl.out; omega) ?_; intro g cap w3 hown' hgr hat hg3)
      all_goals
        obtain ⟨p1, p2, p3⟩ := push_aux (g := 0) (W := wr.drew) (by exact Hown1.out) (by exact Hown2.out) Hap.out hgr hat cap (ps.length + 1)
        have hb3 : Below w.heap.size w w3 := pushI_bel (W := wr.drew) (Below.drew Hbel.out) (by exact Hown1.out) (Nat.le_refl _) (by exact hsz) hgr
        have hsz3 := hb3.size
        have h1 : w3.cell? ⟨b1, o1 + k, none⟩ = some (.int .i64 c) := by rw [hb3.cell (p := ⟨b1, o1 + k, none⟩) (show b1 < _ from by omega)]; exact Hq1.out
        have h2 : w3.cell? ⟨b2, o2 + k, none⟩ = some (.int .i64 y) := by rw [hb3.cell (p := ⟨b2, o2 + k, none⟩) (show b2 < _ from by omega)]; exact Hq2.out
        have Hb3 := Lib.hid hb3
        have Hon1 := Lib.hid hown'
        have Hon2 := Lib.hid p1
        have Hap2 := Lib.hid p3
        clear hown' hgr hat p1 p2 p3 hb3 g1 g2
        go_wp2_with fail
        go_region_law (refine step_pushJ (W := w3.drew) (lo := w.heap.size) (v := .slice Av qs.length cv) (xs := qs) (x := r) (by rfl) (.tmp 29) (.tmp 39) (by rfl) (by first | rfl | go_simp) (by first | rfl | go_simp) (by exact Hon2.out) (by exact hsz3) (by have := Hql.out; omega) ?_; intro g' cap' w4 hown4 hgr4 hat4 hg4)
        all_goals
          obtain ⟨p1, p2, p3⟩ := push_aux (g := 0) (W := w3.drew) (by exact Hon2.out) (by exact Hon1.out) Hap2.out hgr4 hat4 cap' (qs.length + 1)
          have Hb4 : Hid (Below w.heap.size w w4) := Lib.hid (pushI_bel (W := w3.drew) (Below.drew Hb3.out) (by exact Hon2.out) (Nat.le_refl _) (by exact hsz3) hgr4)
          have Ho1 := Lib.hid p1; have Ho2 := Lib.hid hown4; have Hap4 := Lib.hid p3
          clear hown4 hgr4 hat4 p1 p2 p3
          go_wp2_with fail
          go_roundw
          case rel => exact ⟨k + 1, by omega, by go_num, by rw [← rangeI_push, Hps.out, Hg1.out]; exact Ho1.out, by rw [← rangeI_push, Hqs.out, Hg2.out]; exact Ho2.out, Hap4.out, Hb4.out⟩
          case measure => simp [intOf]; omega
    · obtain rfl : k = ys.length := by omega
      have HP : Hid (plcs cs ys = ps) := Hps
      have HQ : Hid (inss cs ys = qs) := Hqs
      have hpd := plcs_inD Hd.out
      have hqd := inss_fit Hd.out
      rw [HP.out] at hpd
      rw [HQ.out] at hqd
      have Hpd := Lib.hid hpd; have Hqd := Lib.hid hqd
      have HR1 := Lib.hid (Hown1.out.ri (inD_inI hpd))
      have HR2 := Lib.hid (Hown2.out.ri hqd.2)
      clear hpd hqd
      have Hp3 : Hid (ps.length ≤ 3) := Lib.hid (by have := Hpl.out; omega)
      go_wp2_with (first | (go_at_call 61; (with_reducible refine (l20Key_any HR1.out Hp3.out Hpd.out).mono ?_); rintro e w' ⟨rfl, rfl⟩))
      refine (l05Index_any (HC0.out.up (Nat.le_trans hB hsz) (Hbel.out.mono hB)) HR2.out (Nat.le_refl _) Hqd.out.1).mono ?_
      rintro e w5 ⟨rfl, hb5⟩
      have Hb5 := Lib.hid (Hbel.out.trans (hb5.mono hsz))
      clear hb5
      go_wp2_with fail
      go_ret2
      exact ⟨by rw [HP.out, HQ.out]; rfl, Hb5.out⟩
theorem allTo_in {xs ys : List Int} (hd : allTo (inD xs) xs.length = true) (hi : inside xs ys = true) : allTo (inD ys) ys.length = true := by
  obtain ⟨hl, hp⟩ := inside_iff hi
  unfold allTo
  rw [List.all_eq_true]
  intro j hj
  rw [List.mem_range] at hj
  have h1 : j < xs.length := by omega
  have a := allTo_at hd h1
  have b := inP_in h1 hj (allTo_at hp h1)
  rw [inD_at _ _ h1, inB_iff] at a
  rw [inD_at _ _ hj]
  exact inB_iff.2 (by omega)
/-- The chunk of an element and its number in it, or -1 and -1. -/
def coE (ds cs ys : List Int) : Int × Int := if ckOk ds cs = true ∧ inside ds ys = true then (pkL (plcs cs ys), idxL cs (inss cs ys)) else (-1, -1)
set_option maxHeartbeats 1000000 in
set_option maxRecDepth 100000 in
theorem specChunkOf_any {B : Nat} {w : World} {v u z : Value} {ds cs ys : List Int} (h : Ri B w v ds) (h2 : Ri B w u cs) (h3 : Ri B w z ys) (hB : B ≤ w.heap.size) :
    Calls Try.prog 23 #[v, u, z] w (GivesB (.tuple #[.int .i64 (coE ds cs ys).1, .int .i64 (coE ds cs ys).2]) w) := by
  have H := Lib.hid h; have H2 := Lib.hid h2; have H3 := Lib.hid h3
  obtain ⟨A1, c1, rfl, -⟩ := h
  obtain ⟨A2, c2, rfl, -⟩ := h2
  obtain ⟨A3, c3, rfl, -⟩ := h3
  by_cases hk : ckOk ds cs = true
  · have Hk := Lib.hid hk
    have hf := ck_facts hk
    have Hd := Lib.hid (ckOk_iff hk).1
    by_cases hi : inside ds ys = true
    · have Hi := Lib.hid hi
      have HD : Hid (Dv cs ys) := Lib.hid ⟨by have := hf.1; have := hf.2.2.1; omega, hf.2.2.2.1, by have := (inside_iff hi).1; have := hf.2.2.1; omega, allTo_in hf.2.1 hi⟩
      have Hf : Hid (coE ds cs ys = (pkL (plcs cs ys), idxL cs (inss cs ys))) := Lib.hid (by rw [coE, if_pos ⟨hk, hi⟩])
      clear hk hi hf
      go_enter Try.func23, Try.ntmps23
      go_wp2_with fail
      refine (l20Ok_yes H.out H2.out hB Hk.out).mono ?_
      rintro e w1 ⟨rfl, hb⟩
      have Hb := Lib.hid hb
      have hz := hb.size
      clear hb
      go_wp2_with fail
      refine (inside_yes (H.out.up (Nat.le_refl _) (Hb.out.mono hB)) (H3.out.up (Nat.le_refl _) (Hb.out.mono hB)) (Nat.le_trans hB hz) Hd.out Hi.out).mono ?_
      rintro e w2 ⟨rfl, hb2⟩
      have Hb2 := Lib.hid (Hb.out.trans (hb2.mono hz))
      clear hb2
      have hz2 := Hb2.out.size
      go_wp2_with fail
      refine (l20Of_any (H2.out.up (Nat.le_refl _) (Hb2.out.mono hB)) (H3.out.up (Nat.le_refl _) (Hb2.out.mono hB)) (Nat.le_trans hB hz2) HD.out).mono ?_
      rintro e w3 ⟨rfl, hb3⟩
      have Hb3 := Lib.hid (Hb2.out.trans (hb3.mono hz2))
      clear hb3
      go_wp2_with fail
      go_ret2
      exact ⟨by rw [Hf.out]; rfl, Hb3.out⟩
    · have Hi : Hid (inside ds ys = false) := Lib.hid (by simpa using hi)
      have Hf : Hid (coE ds cs ys = (-1, -1)) := Lib.hid (by rw [coE, if_neg (fun h => hi h.2)])
      clear hk hi hf
      go_enter Try.func23, Try.ntmps23
      go_wp2_with fail
      refine (l20Ok_yes H.out H2.out hB Hk.out).mono ?_
      rintro e w1 ⟨rfl, hb⟩
      have Hb := Lib.hid hb
      have hz := hb.size
      clear hb
      go_wp2_with fail
      refine (inside_no (H.out.up (Nat.le_refl _) (Hb.out.mono hB)) (H3.out.up (Nat.le_refl _) (Hb.out.mono hB)) (Nat.le_trans hB hz) Hd.out Hi.out).mono ?_
      rintro e w2 ⟨rfl, hb2⟩
      have Hb2 := Lib.hid (Hb.out.trans (hb2.mono hz))
      clear hb2
      go_wp2_with fail
      go_ret2
      exact ⟨by rw [Hf.out]; rfl, Hb2.out⟩
  · have Hk : Hid (ckOk ds cs = false) := Lib.hid (by simpa using hk)
    have Hf : Hid (coE ds cs ys = (-1, -1)) := Lib.hid (by rw [coE, if_neg (fun h => hk h.1)])
    clear hk
    go_enter Try.func23, Try.ntmps23
    go_wp2_with fail
    refine (l20Ok_no H.out H2.out hB Hk.out).mono ?_
    rintro e w1 ⟨rfl, hb⟩
    have Hb := Lib.hid hb; clear hb
    go_wp2_with fail
    go_ret2
    exact ⟨by rw [Hf.out]; rfl, Hb.out⟩
end Go.Proofs.Ytmghbgnalkkppaa
