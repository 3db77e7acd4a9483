/- The statement of the law FnExactCodeName: whatever the number, the program's function answers as the model's, and the input reads as it did; the table of names is the one that the program's text lays (the given tie). Its conditions are the given statement's own; nothing is added. -/
import Derived.Test.YtjfkfnmbppmbpaaDoorCards
import Derived.Test.YtjfkfnmbppmbpaaDoorTie
import Derived.WalkKit
import Derived.ProofKit
import Derived.OpenShut
import Derived.ChangeOld
import Derived.Below
import Derived.WalkSmall
import Derived.Lib.Hide
import Derived.Laws.IdiomStrings
import Derived.Deep.DeepHandedRow
import Derived.Lib.LaidTab
namespace Go.Proofs.YtjfkfnmbppmbpaaDoor.fnExactCodeName
open Go.ChangeShapes Go.WideShapes Go.ChangeAt Go.RowKit
set_option linter.unusedVariables false

theorem own : ownKnob Tryd.prog.godebug = none := by kernel_rfl
theorem laidOut : laidOutB Tryd.prog = true := by kernel_rfl
theorem gTab : Tryd.prog.globalNamed "loop.example/g00904/impl.codeNames" = some 0 := by kernel_rfl
theorem gTabType : (Tryd.prog.globals[0]?).map (·.type) = some 26 := by kernel_rfl
theorem cellsT : Tryd.prog.cellsOf 26 = 14 := by kernel_rfl
theorem cellsS : Tryd.prog.cellsOf 9 = 1 := by kernel_rfl

/-- The names, as bytes. -/
def names : List (List UInt8) := [[111, 107], [105, 110, 118, 97, 108, 105, 100], [114, 97, 110, 103, 101], [110, 111, 116, 45, 102, 111, 117, 110, 100], [101, 120, 105, 115, 116, 115], [102, 117, 108, 108], [115, 116, 97, 116, 101], [116, 121, 112, 101], [99, 111, 110, 118, 101, 114, 116], [99, 104, 101, 99, 107, 115, 117, 109], [99, 111, 114, 114, 117, 112, 116], [108, 111, 111, 112], [115, 121, 110, 116, 97, 120], [112, 111, 119, 101, 114]]
def strV (z : List UInt8) : Value := .string ⟨z.toArray⟩
def strTab {H : Type} (zs : List (List UInt8)) : DataW H := .agg (zs.map fun z => .lit (.string z))

theorem cells_of_strtab {H : Type} {enc : TypeId × Value → H} {P : Program} {w : World} {base : Nat} {sp : Nat → Bool} {held : Bool} {fuel : Nat} {t e : TypeId} {n : Nat} {cs : List Value} {zs : List (List UInt8)} {p : List MemPlace}
    (ht : P.underlying t = some (.array n e)) (he : P.underlying e = some .string) (hce : P.cellsOf e = 1) (hct : P.cellsOf t = n)
    (h : DataW.trod enc P w base sp held fuel t cs = some (strTab zs, p)) : cs = zs.map strV := by
  cases fuel with
  | zero => simp [DataW.trod] at h
  | succ fuel =>
    simp only [DataW.trod, ht, hce, hct, Nat.mul_one] at h
    split at h
    · rename_i hl
      obtain ⟨xs, hm, hx⟩ := Option.map_eq_some_iff.1 h
      have hxs : xs.map (·.1) = zs.map fun z => (DataW.lit (.string z) : DataW H) := by
        have := congrArg Prod.fst hx
        simpa [strTab] using this
      have hxl : xs.length = n := by simpa using Lib.mapM_length hm
      have hzl : zs.length = n := by
        have := congrArg List.length hxs
        simp at this
        omega
      apply List.ext_getElem?
      intro i
      by_cases hi : i < n
      · obtain ⟨b, hb, hf⟩ := Lib.mapM_at hm i i (by simp [hi])
        obtain ⟨s, hc, rfl, _⟩ := DataW.trod_string he hf
        have h1 : cs[i]? = some (.string s) := by
          have := congrArg (·[0]?) hc
          simpa [List.getElem?_take, List.getElem?_drop] using this
        have h2 : (xs.map (·.1))[i]? = some (DataW.lit (.string s.data.toList) : DataW H) := by simp [hb]
        rw [hxs] at h2
        simp only [List.getElem?_map, Option.map_eq_some_iff, DataW.lit.injEq, Lit.string.injEq] at h2
        obtain ⟨z', hz', rfl⟩ := h2
        simp [h1, hz', strV]
      · rw [List.getElem?_eq_none (by omega), List.getElem?_eq_none (by simp; omega)]
    · cases h

theorem table {W : World} (h : laidMetH Tryd.prog Rows.fnExactCodeNameRow.laid W) : W.var? Tryd.prog "loop.example/g00904/impl.codeNames" = some (names.map strV).toArray := by
  obtain ⟨ps, ⟨g', t', cs, fuel, p, q, hg', ht', hvar, hd, _, _⟩, _⟩ := h
  obtain rfl := Option.some.inj (gTab.symm.trans hg')
  obtain rfl := Option.some.inj (gTabType.symm.trans ht')
  rw [hvar, ← cells_of_strtab (zs := names) Tryd.underlying26 Tryd.underlying9 cellsS cellsT hd]

def nameAt (c : Nat) : ByteArray := ⟨(names.getD c []).toArray⟩
theorem made_at (w : World) (c : Nat) (hc : c < 14) : (w.alloc (.cells (names.map strV).toArray 9)).cell? ⟨w.heap.size, c, none⟩ = some (.string (nameAt c)) := by
  rw [World.cell?_alloc_mark]
  have hl : names.length = 14 := rfl
  simp [nameAt, strV, List.getD, hl, hc]

theorem impl_in (c : Nat) (hc : c < 14) (w : World) (hcell : w.cell? ⟨0, c, none⟩ = some (.string (nameAt c))) :
    Calls Tryd.prog 5 #[.int .i64 c] w fun e w' => e = .returned (.string (nameAt c)) ∧ w = w' := by
  generalize nameAt c = s at *
  have c14 : (c : Int) < 14 := by omega
  go_enter Tryd.func5, Tryd.ntmps5
  go_wp2
  go_ret
  exact ⟨rfl, rfl⟩
theorem impl_out (c : Int) (hc : c < 0 ∨ 14 ≤ c) (w : World) :
    Calls Tryd.prog 5 #[.int .i64 c] w fun e w' => e = .returned (.string ⟨#[]⟩) ∧ w = w' := by
  rcases hc with h | h
  all_goals
    go_enter Tryd.func5, Tryd.ntmps5
    go_wp2
    go_ret
    exact ⟨rfl, rfl⟩
theorem spec_in (c : Nat) (hc : c < 14) (w : World) :
    Calls Tryd.prog 4 #[.int .i64 c] w fun e w' => e = .returned (.string (nameAt c)) ∧ Below w.heap.size w w' := by
  have hcell := made_at w c hc
  generalize nameAt c = s at *
  simp only [names, List.map_cons, List.map_nil, strV] at hcell
  have c14 : (c : Int) < 14 := by omega
  have c13 : (c : Int) ≤ 13 := by omega
  go_enter Tryd.func4, Tryd.ntmps4
  go_wp2_with go_in
  go_ret
  exact ⟨rfl, (Below.refl _ w).alloc (Nat.le_refl _) _⟩
theorem spec_out (c : Int) (hc : c < 0 ∨ 14 ≤ c) (w : World) :
    Calls Tryd.prog 4 #[.int .i64 c] w fun e w' => e = .returned (.string ⟨#[]⟩) ∧ Below w.heap.size w w' := by
  rcases hc with h | h
  · go_enter Tryd.func4, Tryd.ntmps4
    go_wp2_with go_in
    go_ret
    exact ⟨rfl, (Below.refl _ w).alloc (Nat.le_refl _) _⟩
  · have hd : decide (c ≤ 13) = false := by simp; omega
    go_enter Tryd.func4, Tryd.ntmps4
    go_wp2_with go_in
    go_ret
    exact ⟨rfl, (Below.refl _ w).alloc (Nat.le_refl _) _⟩
theorem walk (a0 : Int) (w : World) (hz : 0 < w.heap.size) (hcell : ∀ c, c < 14 → w.cell? ⟨0, c, none⟩ = some (.string (nameAt c))) :
    Calls Tryd.prog 3 #[.int .i64 a0] w fun e w' => e = .returned (.bool true) ∧ Below w.heap.size w w' := by
  by_cases h : 0 ≤ a0 ∧ a0 < 14
  · obtain ⟨c, rfl⟩ := Int.eq_ofNat_of_zero_le h.1
    have hc : c < 14 := by omega
    have hs := fun w1 => spec_in c hc w1
    have hi := fun w1 (hb : Below w.heap.size w w1) => impl_in c hc w1 ((hb.cell (p := ⟨0, c, none⟩) hz).trans (hcell c hc))
    have Hs := Lib.hid hs; have Hi := Lib.hid hi; clear hs hi hcell
    go_enter Tryd.func3, Tryd.ntmps3
    go_wp2_with (first | (go_at_call 4; refine (Hs.out _).mono ?_; rintro e w' ⟨rfl, hb1⟩) | (go_at_call 5; refine (Hi.out _ (by assumption)).mono ?_; rintro e w' ⟨rfl, rfl⟩))
    go_ret
    exact ⟨rfl, by assumption⟩
  · have ho : a0 < 0 ∨ 14 ≤ a0 := by omega
    have hs := fun w1 => spec_out a0 ho w1
    have hi := fun w1 => impl_out a0 ho w1
    have Hs := Lib.hid hs; have Hi := Lib.hid hi; clear hs hi hcell
    go_enter Tryd.func3, Tryd.ntmps3
    go_wp2_with (first | (go_at_call 4; refine (Hs.out _).mono ?_; rintro e w' ⟨rfl, hb1⟩) | (go_at_call 5; refine (Hi.out _).mono ?_; rintro e w' ⟨rfl, rfl⟩))
    go_ret
    exact ⟨rfl, by assumption⟩

theorem contract (H : Type) (enc : TypeId × Value → H) (W : World) (base : Nat) (args : Array Value) (ds gs : List (DataW H)) (before : List MemPlace)
    (hval : ∀ (j : Nat) t v, Tryd.f3.params[j]? = some t → args[j]? = some v → Value.okWide Tryd.prog W .any base t v)
    (hW : DataW.Whole enc Tryd.prog Tryd.f3.params.toList Rows.fnExactCodeNameSpec.vars false W args.toList ds gs before) (hL : laidMetH Tryd.prog Rows.fnExactCodeNameRow.laid W) :
    Calls Tryd.prog 3 args W fun e W' => ∃ v, e = .returned v ∧ Rows.fnExactCodeNameSpec.post enc Tryd.prog Tryd.f3 false true false false W args v W' := by
  have hW' := hW
  obtain ⟨p, q, hA0, hV, rfl, hfz, hnd⟩ := hW
  have hA : DataW.TrodAll enc Tryd.prog W 0 (fun _ => true) true Tryd.f3.params.toList args.toList ds p := hA0
  rw [Tryd.params3] at hA hval
  obtain ⟨v0, vs0, d0, ds0, p0, q0, hargs, rfl, rfl, h0, r0⟩ := trodAll_cons hA
  obtain ⟨rfl, rfl, rfl⟩ := trodAll_nil r0
  obtain rfl : args = #[v0] := by cases args; simp_all
  obtain ⟨g, t, cs, fuel, dv, pv, rfl, hg, ht, hvar, htr, rfl⟩ := trodVars_one hV
  obtain ⟨a0, rfl, rfl, rfl, w0⟩ := open_int Tryd.underlying2 (hval 0 2 v0 rfl rfl) h0
  clear hA0
  obtain rfl := Option.some.inj (gTab.symm.trans hg)
  obtain rfl := Option.some.inj (gTabType.symm.trans ht)
  have htab := table hL
  have hcell : ∀ c, c < 14 → W.cell? ⟨0, c, none⟩ = some (.string (nameAt c)) := by
    intro c hc
    have := World.var?_cell gTab htab c
    rw [this]
    have hl : names.length = 14 := rfl
    simp [nameAt, strV, List.getD, hl, hc]
  have hz : 0 < W.heap.size := World.block_lt_of_cell? W ⟨0, 0, none⟩ (hcell 0 (by decide))
  refine (walk a0 W hz hcell).mono fun e W' ⟨he, bel⟩ => ?_
  subst he
  obtain ⟨fuel', htr'⟩ := Below.trod (v := .agg cs) laidOut (show Tryd.prog.readableRec 26 = true by kernel_rfl) (of_decide_eq_true (by kernel_rfl)) ⟨fuel, htr⟩ bel (fun x hx => DataW.trod_lt fuel _ _ _ htr x hx)
  exact ⟨_, rfl, _, _, _, [], _, _, hW', trodAll_cons_mk (shut_bool Tryd.underlying4 _) trodAll_mk0, trodAll_cons_mk (shut_int Tryd.underlying2 w0) trodAll_mk0, trodVars_mk1 gTab gTabType (var?_below bel gTab hz hvar) htr', bel.frame _, fun h => by cases h⟩

/-- A world for the witness: the settled one, the table (block 0) holding what its initialiser lays. -/
noncomputable def laidWorld (os : Os) : World :=
  { World.holding Tryd.prog os ⟨#[], #[], []⟩ with heap := (World.holding Tryd.prog os ⟨#[], #[], []⟩).heap.modify 0 fun
      | .cells _ t frozen => .cells (names.map strV).toArray t frozen
      | o => o }
theorem laid_met (os : Os) : laidMet Tryd.prog Rows.fnExactCodeNameRow.laid ((laidWorld os).forCall (fun _ _ => 0) ⟨#[], #[.int .i64 0], []⟩).memory :=
  laidMet_of_run' 8 (by kernel_rfl) (by kernel_rfl)
theorem reads (os : Os) {H : Type} (enc : TypeId × Value → H) : ∃ places, DataW.whole enc Tryd.prog ((laidWorld os).forCall (fun _ _ => 0) ⟨#[], #[.int .i64 0], []⟩).memory Tryd.f3.params.toList Rows.fnExactCodeNameSpec.vars false #[Value.int .i64 0].toList 8 = some ([.lit (.int .i64 0)], [strTab names], places) :=
  ⟨MemPlace.row ⟨0, 0, none⟩ 14, by kernel_rfl⟩

set_option maxRecDepth 100000 in
theorem lifted (os : Os) (started : os.Started) (H : Type) (enc : TypeId × Value → H) (F : Stop.Interp) :
    ReturnsInHanded {} Tryd.checked os 3 .any ((OpenSpec.ofChange Rows.fnExactCodeNameSpec).preRow enc Tryd.prog Tryd.f3 Rows.fnExactCodeNameRow.domain false Rows.fnExactCodeNameRow.laid) (((OpenSpec.ofChange Rows.fnExactCodeNameSpec).at F).post enc Tryd.prog Tryd.f3 false true false false) := by
  obtain ⟨places, hx⟩ := reads os enc
  refine returnsInHanded_of_row (C := Tryd.checked) (s := OpenSpec.ofChange Rows.fnExactCodeNameSpec) own started (by kernel_rfl) Tryd.func3
    (witness_row_at (enc := enc) (C := Tryd.checked) false (laidWorld os) #[.int .i64 0] rfl (by kernel_rfl) (by kernel_rfl) (by kernel_rfl)
      (OpenSpec.preRow_of_cond 8 hx (by kernel_rfl) (fun k hk => by cases hk) (by kernel_rfl) (laid_met os))) ?_
  intro W base args ds gs before hval hW _ _ _ hL _ _
  exact contract H enc W base args ds gs before hval hW hL

theorem said : Rows.FnExactCodeNameSaid :=
  OpenClaim.holds_of_cond 3 Tryd.f3 rfl rfl rfl rfl rfl rfl rfl ⟨rfl, rfl, rfl, rfl, rfl⟩ rfl rfl rfl rfl rfl (by kernel_rfl) Tryd.func3 (by kernel_rfl)
    (of_decide_eq_true (by kernel_rfl)) (by unfold Func.isWrapper; rw [if_neg (of_decide_eq_false (by kernel_rfl))]; exact ⟨rfl, rfl⟩)
    (fun os started H enc _ F => by rw [OpenClaim.pre_eq_preRow]; exact lifted os started H enc F)

theorem plain (f : FuncId) (fn : Func) (hf : Tryd.pinned.checked.prog.funcNamed "loop.example/g00904/laws.FnExactCodeName" = some f) (hfn : Tryd.pinned.checked.prog.funcs[f]? = some fn) :
    false = Tryd.pinned.checked.prog.looks [] ∧ ∀ (j : Nat) t, fn.params[j]? = some t → Tryd.pinned.checked.prog.wantsStandIn t = false := by
  obtain rfl : f = 3 := Option.some.inj ((show Tryd.prog.funcNamed "loop.example/g00904/laws.FnExactCodeName" = some 3 by kernel_rfl).symm.trans hf) |>.symm
  obtain rfl : fn = Tryd.f3 := (Option.some.inj (Tryd.func3.symm.trans hfn)).symm
  refine ⟨by kernel_rfl, fun j t ht => ?_⟩
  rw [Tryd.params3] at ht
  obtain rfl : t = 2 := by simpa using Array.mem_of_getElem? ht
  exact (show Tryd.prog.wantsStandIn 2 = false by kernel_rfl)

theorem card : Rows.FnExactCodeNameCardSaid :=
  Claim7.holds_tied_plain_at .later [] _ _ _ _ said (fun _ h => by cases h) (by kernel_rfl) (fun _ h => by cases h) fnExactCodeName_row_tie rfl ⟨rfl, rfl⟩ (by kernel_rfl) rfl plain (by kernel_rfl)
end Go.Proofs.YtjfkfnmbppmbpaaDoor.fnExactCodeName
